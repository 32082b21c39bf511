/- What the reference's Done answers of layer 1's operations; it writes nothing that was there. -/
import Derived.Test.YtdebkncjmbhneaaCoreRefC
import Derived.Deep.RegionHeld3
namespace Go.Proofs.Ytdebkncjmbhneaa
set_option linter.unusedVariables false
open Go.ChangeShapes Go.WideShapes Go.ChangeAt Go.RowKit

theorem rdo_still (b c : Int) (w : World) (hb : 0 ≤ b ∧ b ≤ 4294967295) (hc : 0 ≤ c ∧ c ≤ 4294967295) (op : Int) : Calls Try.prog 19 #[.int .i64 op, .int .u32 b, .int .u32 c] w fun e w' => e = .returned (.tuple #[.int .u32 (doV op b c), .bool (doOk op)]) ∧ w = w' :=
  rdo_any b c w hb hc op
/-- An operation of a region that yields in every world that meets S, taken first: its slot written out. -/
theorem takeH_at {P : Program} {md : Region.Mode} {ops : Array Oper} {Q : Exit → Act → World → Prop} {S : World → Prop} {i d : Nat} {oi : Oper} {v : Value} {fuel : Nat} {listed : Array Bool} {a : Act} {w : World} (hi : ops[i]? = some oi) (hd : oi.dst = some d)
    (hs : Region.noSelect ops = true) (hf : Region.free md ops listed i = true) (hr : (Region.ready md ops listed).contains i = true)
    (hQ : ∀ c a w, Q (.panic c) (a.put (some d) v) w → Q (.panic c) a w) (hy : YieldsIf P ops S oi v a) (hS : S w)
    (h : wpAnyH P md ops Q S fuel (listed.setIfInBounds i true) (a.put (some d) v) w) : wpAnyH P md ops Q S (fuel + 1) listed a w :=
  wpAnyH_take hi hs hf hr (by rw [hd]; exact hQ) hy hS (by rw [hd]; exact h)
theorem storeS {W : World} {X B j : Nat} {v v0 v1 v2 v3 : Value} (h : W.cell? ⟨X, 0, none⟩ = some v0 ∧ W.cell? ⟨X, 1, none⟩ = some v1 ∧ W.cell? ⟨X, 2, none⟩ = some v2 ∧ W.cell? ⟨X, 3, none⟩ = some v3) (hne : B ≠ X) (u : Unit) : (W.setCell ⟨B, j, none⟩ v).cell? ⟨X, 0, none⟩ = some v0 ∧ (W.setCell ⟨B, j, none⟩ v).cell? ⟨X, 1, none⟩ = some v1 ∧ (W.setCell ⟨B, j, none⟩ v).cell? ⟨X, 2, none⟩ = some v2 ∧ (W.setCell ⟨B, j, none⟩ v).cell? ⟨X, 3, none⟩ = some v3 := by
  have e : ∀ i : Nat, (⟨B, j, none⟩ : Addr) ≠ ⟨X, i, none⟩ := fun i he => by injection he with h1; exact hne h1
  exact ⟨(World.cell?_setCell_other _ _ _ _ (e 0)).trans h.1, (World.cell?_setCell_other _ _ _ _ (e 1)).trans h.2.1, (World.cell?_setCell_other _ _ _ _ (e 2)).trans h.2.2.1, (World.cell?_setCell_other _ _ _ _ (e 3)).trans h.2.2.2⟩

set_option maxRecDepth 100000 in
set_option maxHeartbeats 4000000 in
theorem doneR_do (b off len cap n : Nat) (l : List I5) (a bb cc : Nat) (op k : Int) (r : Nat → Int) (was : Int) (w : World) (hl : l.length = len) (hp : Prg w (some ⟨b, off, none⟩) l) (hv : coreB l ⟨r, n, false⟩ = true) (hn : n < len) (hlen : len ≤ 64)
    (hlt : b < w.heap.size) (hx : Lies w b (off + n * 5) ⟨op, a, bb, cc, k⟩) (ha : a < 8) (hb : bb < 8) (h0b : 0 ≤ r bb) (h1b : r bb ≤ 4294967295) (hc : cc < 8) (h0c : 0 ≤ r cc) (h1c : r cc ≤ 4294967295) (o16 : (op == 16) = false) (o13 : (op == 13) = false) (o14 : (op == 14) = false) (o1 : (op == 1) = false) (o2 : decide (2 ≤ op) = true) (o8 : decide (op ≤ 8) = true) (o9 : (op == 9) = false) (o11 : (op == 11) = false) (u : Nat → Int) (hu : Hid (∀ i, u i = if i = a then doV op (r bb) (r cc) else r i)) :
    Calls Try.prog 12 #[.slice (some ⟨b, off, none⟩) len cap, .agg #[.int .u32 (r 0), .int .u32 (r 1), .int .u32 (r 2), .int .u32 (r 3), .int .u32 (r 4), .int .u32 (r 5), .int .u32 (r 6), .int .u32 (r 7), .int .i64 n, .bool false], .int .u32 was] w fun e w' => e = .returned (.agg #[.int .u32 (u 0), .int .u32 (u 1), .int .u32 (u 2), .int .u32 (u 3), .int .u32 (u 4), .int .u32 (u 5), .int .u32 (u 6), .int .u32 (u 7), .int .i64 (n + 1), .bool false]) ∧ Below w.heap.size w w' := by
  have HL := Lib.hid hl
  have HP := Lib.hid hp
  have HV := Lib.hid hv
  have HX := Lib.hid hx
  clear hl hp hv hx
  go_enter Try.func12, Try.ntmps12
  go_wp2_with fail
  refine (coreR_call (some ⟨b, off, none⟩) len cap l ⟨r, n, false⟩ true w _ HL HV HP (((Below.refl _ _).alloc (Nat.le_refl _) _).alloc (by rw [World.size_alloc]; omega) _)).mono ?_
  rintro e w1 ⟨rfl, hb1⟩
  obtain ⟨kB, kZ, hbb⟩ := two_blks hb1
  clear hb1
  have HB := Lib.hid hbb
  have HKB := Lib.hid kB
  have c2 := kZ.c
  have f2 := kZ.f
  have s1 := kB.lt
  have s2 := kZ.lt
  obtain ⟨x0, x1, x2, x3, x4, g0, g1⟩ := HX.out.below hbb hlt
  have HKZ := Lib.hid kZ
  have fc := kB.f
  have c8 : w1.cell? ⟨w.heap.size, 8, none⟩ = some (.int .i64 n) := kB.c 8
  have c9 : w1.cell? ⟨w.heap.size, 9, none⟩ = some (.bool false) := kB.c 9
  have qa : w1.cell? ⟨w.heap.size, a, none⟩ = some (.int .u32 (r a)) := (kB.c a).trans (Cor.row_at ⟨r, n, false⟩ a ha)
  have ia0 : (0 : Int) ≤ (a : Int) := by omega
  have ia1 : (a : Int) < 8 := by omega
  have qb : w1.cell? ⟨w.heap.size, bb, none⟩ = some (.int .u32 (r bb)) := (kB.c bb).trans (Cor.row_at ⟨r, n, false⟩ bb hb)
  have ib0 : (0 : Int) ≤ (bb : Int) := by omega
  have ib1 : (bb : Int) < 8 := by omega
  have qc : w1.cell? ⟨w.heap.size, cc, none⟩ = some (.int .u32 (r cc)) := (kB.c cc).trans (Cor.row_at ⟨r, n, false⟩ cc hc)
  have ic0 : (0 : Int) ≤ (cc : Int) := by omega
  have ic1 : (cc : Int) < 8 := by omega
  clear kB kZ hbb HX HL HP HV
  go_wp2_with fail
  refine wp_region_noPanic ?_
  have nx : w.heap.size ≠ w1.heap.size := Nat.ne_of_lt s1
  have HS0 : Hid ((fun w' => w'.cell? ⟨w1.heap.size, 0, none⟩ = some (.int .i64 op) ∧ w'.cell? ⟨w1.heap.size, 1, none⟩ = some (.int .i64 a) ∧ w'.cell? ⟨w1.heap.size, 2, none⟩ = some (.int .i64 bb) ∧ w'.cell? ⟨w1.heap.size, 3, none⟩ = some (.int .i64 cc)) ((w1.setCell ⟨w.heap.size, 8, none⟩ (.int .i64 (n + 1))).alloc (.cells #[.int .i64 op, .int .i64 a, .int .i64 bb, .int .i64 cc, .int .u32 k] 38)).drew) := by
    have hb := (Blk.new (w1.setCell ⟨w.heap.size, 8, none⟩ (.int .i64 (n + 1))) #[.int .i64 op, .int .i64 a, .int .i64 bb, .int .i64 cc, .int .u32 k] 38).drew.c
    rw [show (w1.setCell ⟨w.heap.size, 8, none⟩ (.int .i64 (n + 1))).heap.size = w1.heap.size by simp] at hb
    exact ⟨hb 0, hb 1, hb 2, hb 3⟩
  refine wp_region_held_drew (S := fun w' => w'.cell? ⟨w1.heap.size, 0, none⟩ = some (.int .i64 op) ∧ w'.cell? ⟨w1.heap.size, 1, none⟩ = some (.int .i64 a) ∧ w'.cell? ⟨w1.heap.size, 2, none⟩ = some (.int .i64 bb) ∧ w'.cell? ⟨w1.heap.size, 3, none⟩ = some (.int .i64 cc)) (by kernel_rfl) HS0.out (fun hS => ?_)
  have HW0 : Hid (Blk ((w1.setCell ⟨w.heap.size, 8, none⟩ (.int .i64 (n + 1))).alloc (.cells #[.int .i64 op, .int .i64 a, .int .i64 bb, .int .i64 cc, .int .u32 k] 38)).drew w.heap.size #[.int .u32 (r 0), .int .u32 (r 1), .int .u32 (r 2), .int .u32 (r 3), .int .u32 (r 4), .int .u32 (r 5), .int .u32 (r 6), .int .u32 (r 7), .int .i64 (n + 1), .bool false]) := ((blk_set_pc HKB.out).alloc _).drew
  have HWZ : Hid (Blk ((w1.setCell ⟨w.heap.size, 8, none⟩ (.int .i64 (n + 1))).alloc (.cells #[.int .i64 op, .int .i64 a, .int .i64 bb, .int .i64 cc, .int .u32 k] 38)).drew (w.heap.size + 1) #[.int .u32 0, .int .u32 0, .int .u32 0, .int .u32 0, .int .u32 0, .int .u32 0, .int .u32 0, .int .u32 0, .int .i64 0, .bool false]) := ((HKZ.out.other _ (Nat.ne_of_lt (Nat.lt_succ_self _))).alloc _).drew
  have HBW : Hid (Below w.heap.size w ((w1.setCell ⟨w.heap.size, 8, none⟩ (.int .i64 (n + 1))).alloc (.cells #[.int .i64 op, .int .i64 a, .int .i64 bb, .int .i64 cc, .int .u32 k] 38)).drew) := ((HB.out.setCell (Nat.le_refl _) _).alloc (by simpa using HB.out.size) _).drew
  clear HS0
  revert hS HW0 HWZ HBW
  generalize ((w1.setCell ⟨w.heap.size, 8, none⟩ (.int .i64 (n + 1))).alloc (.cells #[.int .i64 op, .int .i64 a, .int .i64 bb, .int .i64 cc, .int .u32 k] 38)).drew = W
  intro hS HW0 HWZ HBW
  have qa' : W.cell? ⟨w.heap.size, a, none⟩ = some (.int .u32 (r a)) := (HW0.out.c a).trans (Cor.row_at ⟨r, n + 1, false⟩ a ha)
  have qb' : W.cell? ⟨w.heap.size, bb, none⟩ = some (.int .u32 (r bb)) := (HW0.out.c bb).trans (Cor.row_at ⟨r, n + 1, false⟩ bb hb)
  have qc' : W.cell? ⟨w.heap.size, cc, none⟩ = some (.int .u32 (r cc)) := (HW0.out.c cc).trans (Cor.row_at ⟨r, n + 1, false⟩ cc hc)
  have fa' : W.frozen? ⟨w.heap.size, a, none⟩ = false := HW0.out.f a
  have ef : ∀ j, (W.setCell ⟨w.heap.size, a, none⟩ (.int .u32 (doV op (r bb) (r cc)))).cell? ⟨w.heap.size, j, none⟩ = (#[.int .u32 (u 0), .int .u32 (u 1), .int .u32 (u 2), .int .u32 (u 3), .int .u32 (u 4), .int .u32 (u 5), .int .u32 (u 6), .int .u32 (u 7), .int .i64 (n + 1), .bool false] : Array Value)[j]? := (blk_set_row HW0.out ha hu.out).c
  have S0' := hS.1
  have cz := HWZ.out.c
  have fz := HWZ.out.f
  have sz := HWZ.out.lt
  clear c2 f2 s1 s2 HB x0 x1 x2 x3 x4 c8 c9 fc qa qb qc HKB HKZ HW0
  refine takeH_at (i := 0) (d := 70) (v := ?_) rfl rfl (by kernel_rfl) (by kernel_rfl) (by kernel_rfl) (fun _ _ _ h => h) (Or.inl ⟨by rfl, ?_⟩) hS ?_
  rotate_left 1
  · intro w hSw; obtain ⟨S0, S1, S2, S3⟩ := hSw; go_simp; try with_reducible rfl
  simp only [Act.put, List.setIfInBounds_toArray, List.set_cons_zero, List.set_cons_succ]
  refine takeH_at (i := 1) (d := 71) (v := ?_) rfl rfl (by kernel_rfl) (by kernel_rfl) (by kernel_rfl) (fun _ _ _ h => h) (Or.inl ⟨by rfl, ?_⟩) hS ?_
  rotate_left 1
  · intro w hSw; obtain ⟨S0, S1, S2, S3⟩ := hSw; go_simp; try with_reducible rfl
  simp only [Act.put, List.setIfInBounds_toArray, List.set_cons_zero, List.set_cons_succ]
  refine takeH_at (i := 2) (d := 72) (v := ?_) rfl rfl (by kernel_rfl) (by kernel_rfl) (by kernel_rfl) (fun _ _ _ h => h) (Or.inl ⟨by rfl, ?_⟩) hS ?_
  rotate_left 1
  · intro w hSw; obtain ⟨S0, S1, S2, S3⟩ := hSw; go_simp; try with_reducible rfl
  simp only [Act.put, List.setIfInBounds_toArray, List.set_cons_zero, List.set_cons_succ]
  refine takeH_at (i := 3) (d := 73) (v := ?_) rfl rfl (by kernel_rfl) (by kernel_rfl) (by kernel_rfl) (fun _ _ _ h => h) (Or.inl ⟨by rfl, ?_⟩) hS ?_
  rotate_left 1
  · intro w hSw; obtain ⟨S0, S1, S2, S3⟩ := hSw; go_simp; try with_reducible rfl
  simp only [Act.put, List.setIfInBounds_toArray, List.set_cons_zero, List.set_cons_succ]
  refine takeH_at (i := 4) (d := 74) (v := ?_) rfl rfl (by kernel_rfl) (by kernel_rfl) (by kernel_rfl) (fun _ _ _ h => h) (Or.inl ⟨by rfl, ?_⟩) hS ?_
  rotate_left 1
  · intro w hSw; obtain ⟨S0, S1, S2, S3⟩ := hSw; go_simp; try with_reducible rfl
  simp only [Act.put, List.setIfInBounds_toArray, List.set_cons_zero, List.set_cons_succ]
  refine takeH_at (i := 5) (d := 75) (v := ?_) rfl rfl (by kernel_rfl) (by kernel_rfl) (by kernel_rfl) (fun _ _ _ h => h) (Or.inl ⟨by rfl, ?_⟩) hS ?_
  rotate_left 1
  · intro w hSw; obtain ⟨S0, S1, S2, S3⟩ := hSw; go_simp; try with_reducible rfl
  simp only [Act.put, List.setIfInBounds_toArray, List.set_cons_zero, List.set_cons_succ]
  refine takeH_at (i := 6) (d := 76) (v := ?_) rfl rfl (by kernel_rfl) (by kernel_rfl) (by kernel_rfl) (fun _ _ _ h => h) (Or.inl ⟨by rfl, ?_⟩) hS ?_
  rotate_left 1
  · intro w hSw; obtain ⟨S0, S1, S2, S3⟩ := hSw; go_simp; try with_reducible rfl
  simp only [Act.put, List.setIfInBounds_toArray, List.set_cons_zero, List.set_cons_succ]
  refine takeH_at (i := 7) (d := 77) (v := ?_) rfl rfl (by kernel_rfl) (by kernel_rfl) (by kernel_rfl) (fun _ _ _ h => h) (Or.inl ⟨by rfl, ?_⟩) hS ?_
  rotate_left 1
  · intro w hSw; obtain ⟨S0, S1, S2, S3⟩ := hSw; go_simp; try with_reducible rfl
  simp only [Act.put, List.setIfInBounds_toArray, List.set_cons_zero, List.set_cons_succ]
  refine takeH_at (i := 9) (d := 79) (v := ?_) rfl rfl (by kernel_rfl) (by kernel_rfl) (by kernel_rfl) (fun _ _ _ h => h) (Or.inl ⟨by rfl, ?_⟩) hS ?_
  rotate_left 1
  · intro w hSw; obtain ⟨S0, S1, S2, S3⟩ := hSw; go_simp; try with_reducible rfl
  simp only [Act.put, List.setIfInBounds_toArray, List.set_cons_zero, List.set_cons_succ]
  refine takeH_at (i := 10) (d := 80) (v := ?_) rfl rfl (by kernel_rfl) (by kernel_rfl) (by kernel_rfl) (fun _ _ _ h => h) (Or.inl ⟨by rfl, ?_⟩) hS ?_
  rotate_left 1
  · intro w hSw; obtain ⟨S0, S1, S2, S3⟩ := hSw; go_simp; try with_reducible rfl
  simp only [Act.put, List.setIfInBounds_toArray, List.set_cons_zero, List.set_cons_succ]
  refine takeH_at (i := 11) (d := 81) (v := ?_) rfl rfl (by kernel_rfl) (by kernel_rfl) (by kernel_rfl) (fun _ _ _ h => h) (Or.inl ⟨by rfl, ?_⟩) hS ?_
  rotate_left 1
  · intro w hSw; obtain ⟨S0, S1, S2, S3⟩ := hSw; go_simp; try with_reducible rfl
  simp only [Act.put, List.setIfInBounds_toArray, List.set_cons_zero, List.set_cons_succ]
  refine takeH_at (i := 12) (d := 82) (v := ?_) rfl rfl (by kernel_rfl) (by kernel_rfl) (by kernel_rfl) (fun _ _ _ h => h) (Or.inl ⟨by rfl, ?_⟩) hS ?_
  rotate_left 1
  · intro w hSw; obtain ⟨S0, S1, S2, S3⟩ := hSw; go_simp; try with_reducible rfl
  simp only [Act.put, List.setIfInBounds_toArray, List.set_cons_zero, List.set_cons_succ]
  refine takeH_at (i := 18) (d := 87) (v := ?_) rfl rfl (by kernel_rfl) (by kernel_rfl) (by kernel_rfl) (fun _ _ _ h => h) (Or.inl ⟨by rfl, ?_⟩) hS ?_
  rotate_left 1
  · intro w hSw; obtain ⟨S0, S1, S2, S3⟩ := hSw; go_simp; try with_reducible rfl
  simp only [Act.put, List.setIfInBounds_toArray, List.set_cons_zero, List.set_cons_succ]
  refine wpAnyH_ready (rs := [8, 13]) (by kernel_rfl) (by simp) ?_
  refine AllReadyH.cons rfl (fun K hK => ?_) ?_
  · go_simp
    refine hK.out _ _ hS (fun _ => ?_)
    clear hK K
    try simp only [Act.put, List.setIfInBounds_toArray, List.set_cons_zero, List.set_cons_succ]
    refine wpAnyH_ready (rs := [13]) (by kernel_rfl) (by simp) ?_
    refine AllReadyH.cons rfl (fun K hK => ?_) AllReadyH.nil
    go_simp
    refine hK.out _ _ hS (fun _ => ?_)
    clear hK K
    try simp only [Act.put, List.setIfInBounds_toArray, List.set_cons_zero, List.set_cons_succ]
    refine wpAnyH_ready (rs := [14]) (by kernel_rfl) (by simp) ?_
    refine AllReadyH.cons rfl (fun K hK => ?_) AllReadyH.nil
    go_simp
    refine (rdo_still (r bb) (r cc) W ⟨h0b, h1b⟩ ⟨h0c, h1c⟩ op).mono ?_
    rintro e w' ⟨rfl, rfl⟩
    go_wp2_with fail
    refine hK.out _ _ hS (fun _ => ?_)
    clear hK K
    try simp only [Act.put, List.setIfInBounds_toArray, List.set_cons_zero, List.set_cons_succ]
    refine takeH_at (i := 15) (d := 69) (v := ?_) rfl rfl (by kernel_rfl) (by kernel_rfl) (by kernel_rfl) (fun _ _ _ h => h) (Or.inl ⟨by rfl, ?_⟩) hS ?_
    rotate_left 1
    · intro w hSw; obtain ⟨S0, S1, S2, S3⟩ := hSw; go_simp; try with_reducible rfl
    simp only [Act.put, List.setIfInBounds_toArray, List.set_cons_zero, List.set_cons_succ]
    refine takeH_at (i := 16) (d := 85) (v := ?_) rfl rfl (by kernel_rfl) (by kernel_rfl) (by kernel_rfl) (fun _ _ _ h => h) (Or.inl ⟨by rfl, ?_⟩) hS ?_
    rotate_left 1
    · intro w hSw; obtain ⟨S0, S1, S2, S3⟩ := hSw; go_simp; try with_reducible rfl
    simp only [Act.put, List.setIfInBounds_toArray, List.set_cons_zero, List.set_cons_succ]
    refine takeH_at (i := 17) (d := 86) (v := ?_) rfl rfl (by kernel_rfl) (by kernel_rfl) (by kernel_rfl) (fun _ _ _ h => h) (Or.inl ⟨by rfl, ?_⟩) hS ?_
    rotate_left 1
    · intro w hSw; obtain ⟨S0, S1, S2, S3⟩ := hSw; go_simp; try with_reducible rfl
    simp only [Act.put, List.setIfInBounds_toArray, List.set_cons_zero, List.set_cons_succ]
    refine takeH_at (i := 19) (d := 88) (v := ?_) rfl rfl (by kernel_rfl) (by kernel_rfl) (by kernel_rfl) (fun _ _ _ h => h) (Or.inl ⟨by rfl, ?_⟩) hS ?_
    rotate_left 1
    · intro w hSw; obtain ⟨S0, S1, S2, S3⟩ := hSw; go_simp; try with_reducible rfl
    simp only [Act.put, List.setIfInBounds_toArray, List.set_cons_zero, List.set_cons_succ]
    refine wpAnyH_ready (rs := [20]) (by kernel_rfl) (by simp) ?_
    refine AllReadyH.cons rfl (fun K hK => ?_) AllReadyH.nil
    go_simp
    refine hK.out _ _ (storeS hS nx ()) (fun _ => ?_)
    clear hK K
    try simp only [Act.put, List.setIfInBounds_toArray, List.set_cons_zero, List.set_cons_succ]
    refine wpAnyH_done (by kernel_rfl) ?_ _
    refine NoPanic.normal ?_
    go_wp2
    refine bodyPost_ret (v := .agg #[.int .u32 (u 0), .int .u32 (u 1), .int .u32 (u 2), .int .u32 (u 3), .int .u32 (u 4), .int .u32 (u 5), .int .u32 (u 6), .int .u32 (u 7), .int .i64 (n + 1), .bool false]) (by simp [results, Try.results12, go_sem, cz, sz]) rfl ⟨rfl, ?_⟩
    exact below10 (HBW.out.setCell (Nat.le_refl _) _) (Nat.le_succ _) _ _ _ _ _ _ _ _ _ _
  refine AllReadyH.cons rfl (fun K hK => ?_) AllReadyH.nil
  go_simp
  refine hK.out _ _ hS (fun _ => ?_)
  clear hK K
  try simp only [Act.put, List.setIfInBounds_toArray, List.set_cons_zero, List.set_cons_succ]
  refine wpAnyH_ready (rs := [8]) (by kernel_rfl) (by simp) ?_
  refine AllReadyH.cons rfl (fun K hK => ?_) AllReadyH.nil
  go_simp
  refine hK.out _ _ hS (fun _ => ?_)
  clear hK K
  try simp only [Act.put, List.setIfInBounds_toArray, List.set_cons_zero, List.set_cons_succ]
  refine wpAnyH_ready (rs := [14]) (by kernel_rfl) (by simp) ?_
  refine AllReadyH.cons rfl (fun K hK => ?_) AllReadyH.nil
  go_simp
  refine (rdo_still (r bb) (r cc) W ⟨h0b, h1b⟩ ⟨h0c, h1c⟩ op).mono ?_
  rintro e w' ⟨rfl, rfl⟩
  go_wp2_with fail
  refine hK.out _ _ hS (fun _ => ?_)
  clear hK K
  try simp only [Act.put, List.setIfInBounds_toArray, List.set_cons_zero, List.set_cons_succ]
  refine takeH_at (i := 15) (d := 69) (v := ?_) rfl rfl (by kernel_rfl) (by kernel_rfl) (by kernel_rfl) (fun _ _ _ h => h) (Or.inl ⟨by rfl, ?_⟩) hS ?_
  rotate_left 1
  · intro w hSw; obtain ⟨S0, S1, S2, S3⟩ := hSw; go_simp; try with_reducible rfl
  simp only [Act.put, List.setIfInBounds_toArray, List.set_cons_zero, List.set_cons_succ]
  refine takeH_at (i := 16) (d := 85) (v := ?_) rfl rfl (by kernel_rfl) (by kernel_rfl) (by kernel_rfl) (fun _ _ _ h => h) (Or.inl ⟨by rfl, ?_⟩) hS ?_
  rotate_left 1
  · intro w hSw; obtain ⟨S0, S1, S2, S3⟩ := hSw; go_simp; try with_reducible rfl
  simp only [Act.put, List.setIfInBounds_toArray, List.set_cons_zero, List.set_cons_succ]
  refine takeH_at (i := 17) (d := 86) (v := ?_) rfl rfl (by kernel_rfl) (by kernel_rfl) (by kernel_rfl) (fun _ _ _ h => h) (Or.inl ⟨by rfl, ?_⟩) hS ?_
  rotate_left 1
  · intro w hSw; obtain ⟨S0, S1, S2, S3⟩ := hSw; go_simp; try with_reducible rfl
  simp only [Act.put, List.setIfInBounds_toArray, List.set_cons_zero, List.set_cons_succ]
  refine takeH_at (i := 19) (d := 88) (v := ?_) rfl rfl (by kernel_rfl) (by kernel_rfl) (by kernel_rfl) (fun _ _ _ h => h) (Or.inl ⟨by rfl, ?_⟩) hS ?_
  rotate_left 1
  · intro w hSw; obtain ⟨S0, S1, S2, S3⟩ := hSw; go_simp; try with_reducible rfl
  simp only [Act.put, List.setIfInBounds_toArray, List.set_cons_zero, List.set_cons_succ]
  refine wpAnyH_ready (rs := [20]) (by kernel_rfl) (by simp) ?_
  refine AllReadyH.cons rfl (fun K hK => ?_) AllReadyH.nil
  go_simp
  refine hK.out _ _ (storeS hS nx ()) (fun _ => ?_)
  clear hK K
  try simp only [Act.put, List.setIfInBounds_toArray, List.set_cons_zero, List.set_cons_succ]
  refine wpAnyH_done (by kernel_rfl) ?_ _
  refine NoPanic.normal ?_
  go_wp2
  refine bodyPost_ret (v := .agg #[.int .u32 (u 0), .int .u32 (u 1), .int .u32 (u 2), .int .u32 (u 3), .int .u32 (u 4), .int .u32 (u 5), .int .u32 (u 6), .int .u32 (u 7), .int .i64 (n + 1), .bool false]) (by simp [results, Try.results12, go_sem, cz, sz]) rfl ⟨rfl, ?_⟩
  exact below10 (HBW.out.setCell (Nat.le_refl _) _) (Nat.le_succ _) _ _ _ _ _ _ _ _ _ _
end Go.Proofs.Ytdebkncjmbhneaa
