/- Laid together, in this order: CoreRefE, CoreRefF, AtomRefC, AtomRefD. -/
import Derived.Test.YtekiialhljfglaaZj
import Derived.Deep.RegionHeld3
/- What the reference's Done answers of layer 1's operations; it writes nothing that was there. -/
namespace Go.Proofs.Ytekiialhljfglaa
set_option linter.unusedVariables false
open Go.ChangeShapes Go.WideShapes Go.ChangeAt Go.RowKit

theorem rdo_still (b c : Int) (w : World) (hb : 0 ≤ b ∧ b ≤ 4294967295) (hc : 0 ≤ c ∧ c ≤ 4294967295) (op : Int) : Calls Try.prog 44 #[.int .i64 op, .int .u32 b, .int .u32 c] w fun e w' => e = .returned (.tuple #[.int .u32 (doV op b c), .bool (doOk op)]) ∧ w = w' :=
  rdo_any b c w hb hc op
/-- An operation of a region that yields in every world that meets S, taken first: its slot written out. -/
theorem takeH_at {P : Program} {md : Region.Mode} {ops : Array Oper} {Q : Exit → Act → World → Prop} {S : World → Prop} {i d : Nat} {oi : Oper} {v : Value} {fuel : Nat} {listed : Array Bool} {a : Act} {w : World} (hi : ops[i]? = some oi) (hd : oi.dst = some d)
    (hs : Region.noSelect ops = true) (hf : Region.free md ops listed i = true) (hr : (Region.ready md ops listed).contains i = true)
    (hQ : ∀ c a w, Q (.panic c) (a.put (some d) v) w → Q (.panic c) a w) (hy : YieldsIf P ops S oi v a) (hS : S w)
    (h : wpAnyH P md ops Q S fuel (listed.setIfInBounds i true) (a.put (some d) v) w) : wpAnyH P md ops Q S (fuel + 1) listed a w :=
  wpAnyH_take hi hs hf hr (by rw [hd]; exact hQ) hy hS (by rw [hd]; exact h)
theorem storeS {W : World} {X B j : Nat} {v v0 v1 v2 v3 : Value} (h : W.cell? ⟨X, 0, none⟩ = some v0 ∧ W.cell? ⟨X, 1, none⟩ = some v1 ∧ W.cell? ⟨X, 2, none⟩ = some v2 ∧ W.cell? ⟨X, 3, none⟩ = some v3) (hne : B ≠ X) (u : Unit) : (W.setCell ⟨B, j, none⟩ v).cell? ⟨X, 0, none⟩ = some v0 ∧ (W.setCell ⟨B, j, none⟩ v).cell? ⟨X, 1, none⟩ = some v1 ∧ (W.setCell ⟨B, j, none⟩ v).cell? ⟨X, 2, none⟩ = some v2 ∧ (W.setCell ⟨B, j, none⟩ v).cell? ⟨X, 3, none⟩ = some v3 := by
  have e : ∀ i : Nat, (⟨B, j, none⟩ : Addr) ≠ ⟨X, i, none⟩ := fun i he => by injection he with h1; exact hne h1
  exact ⟨(World.cell?_setCell_other _ _ _ _ (e 0)).trans h.1, (World.cell?_setCell_other _ _ _ _ (e 1)).trans h.2.1, (World.cell?_setCell_other _ _ _ _ (e 2)).trans h.2.2.1, (World.cell?_setCell_other _ _ _ _ (e 3)).trans h.2.2.2⟩

set_option maxRecDepth 100000 in
set_option maxHeartbeats 4000000 in
theorem doneR_do (b off len cap n : Nat) (l : List I5) (a bb cc : Nat) (op k : Int) (r : Nat → Int) (was : Int) (w : World) (hl : l.length = len) (hp : Prg w (some ⟨b, off, none⟩) l) (hv : coreB l ⟨r, n, false⟩ = true) (hn : n < len) (hlen : len ≤ 64)
    (hlt : b < w.heap.size) (hx : Lies w b (off + n * 5) ⟨op, a, bb, cc, k⟩) (ha : a < 8) (hb : bb < 8) (h0b : 0 ≤ r bb) (h1b : r bb ≤ 4294967295) (hc : cc < 8) (h0c : 0 ≤ r cc) (h1c : r cc ≤ 4294967295) (o16 : (op == 16) = false) (o13 : (op == 13) = false) (o14 : (op == 14) = false) (o1 : (op == 1) = false) (o2 : decide (2 ≤ op) = true) (o8 : decide (op ≤ 8) = true) (o9 : (op == 9) = false) (o11 : (op == 11) = false) (u : Nat → Int) (hu : Hid (∀ i, u i = if i = a then doV op (r bb) (r cc) else r i)) :
    Calls Try.prog 38 #[.slice (some ⟨b, off, none⟩) len cap, .agg #[.int .u32 (r 0), .int .u32 (r 1), .int .u32 (r 2), .int .u32 (r 3), .int .u32 (r 4), .int .u32 (r 5), .int .u32 (r 6), .int .u32 (r 7), .int .i64 n, .bool false], .int .u32 was] w fun e w' => e = .returned (.agg #[.int .u32 (u 0), .int .u32 (u 1), .int .u32 (u 2), .int .u32 (u 3), .int .u32 (u 4), .int .u32 (u 5), .int .u32 (u 6), .int .u32 (u 7), .int .i64 (n + 1), .bool false]) ∧ Below w.heap.size w w' := by
  have HL := Lib.hid hl
  have HP := Lib.hid hp
  have HV := Lib.hid hv
  have HX := Lib.hid hx
  clear hl hp hv hx
  go_enter Try.func38, Try.ntmps38
  go_wp2_with fail
  refine (coreR_call (some ⟨b, off, none⟩) len cap l ⟨r, n, false⟩ true w _ HL HV HP (((Below.refl _ _).alloc (Nat.le_refl _) _).alloc (by rw [World.size_alloc]; omega) _)).mono ?_
  rintro e w1 ⟨rfl, hb1⟩
  obtain ⟨kB, kZ, hbb⟩ := two_blks hb1
  clear hb1
  have HB := Lib.hid hbb
  have HKB := Lib.hid kB
  have c2 := kZ.c
  have f2 := kZ.f
  have s1 := kB.lt
  have s2 := kZ.lt
  obtain ⟨x0, x1, x2, x3, x4, g0, g1⟩ := HX.out.below hbb hlt
  have HKZ := Lib.hid kZ
  have fc := kB.f
  have c8 : w1.cell? ⟨w.heap.size, 8, none⟩ = some (.int .i64 n) := kB.c 8
  have c9 : w1.cell? ⟨w.heap.size, 9, none⟩ = some (.bool false) := kB.c 9
  have qa : w1.cell? ⟨w.heap.size, a, none⟩ = some (.int .u32 (r a)) := (kB.c a).trans (Cor.row_at ⟨r, n, false⟩ a ha)
  have ia0 : (0 : Int) ≤ (a : Int) := by omega
  have ia1 : (a : Int) < 8 := by omega
  have qb : w1.cell? ⟨w.heap.size, bb, none⟩ = some (.int .u32 (r bb)) := (kB.c bb).trans (Cor.row_at ⟨r, n, false⟩ bb hb)
  have ib0 : (0 : Int) ≤ (bb : Int) := by omega
  have ib1 : (bb : Int) < 8 := by omega
  have qc : w1.cell? ⟨w.heap.size, cc, none⟩ = some (.int .u32 (r cc)) := (kB.c cc).trans (Cor.row_at ⟨r, n, false⟩ cc hc)
  have ic0 : (0 : Int) ≤ (cc : Int) := by omega
  have ic1 : (cc : Int) < 8 := by omega
  clear kB kZ hbb HX HL HP HV
  go_wp2_with fail
  refine wp_region_noPanic ?_
  have nx : w.heap.size ≠ w1.heap.size := Nat.ne_of_lt s1
  have HS0 : Hid ((fun w' => w'.cell? ⟨w1.heap.size, 0, none⟩ = some (.int .i64 op) ∧ w'.cell? ⟨w1.heap.size, 1, none⟩ = some (.int .i64 a) ∧ w'.cell? ⟨w1.heap.size, 2, none⟩ = some (.int .i64 bb) ∧ w'.cell? ⟨w1.heap.size, 3, none⟩ = some (.int .i64 cc)) ((w1.setCell ⟨w.heap.size, 8, none⟩ (.int .i64 (n + 1))).alloc (.cells #[.int .i64 op, .int .i64 a, .int .i64 bb, .int .i64 cc, .int .u32 k] 61)).drew) := by
    have hb := (Blk.new (w1.setCell ⟨w.heap.size, 8, none⟩ (.int .i64 (n + 1))) #[.int .i64 op, .int .i64 a, .int .i64 bb, .int .i64 cc, .int .u32 k] 61).drew.c
    rw [show (w1.setCell ⟨w.heap.size, 8, none⟩ (.int .i64 (n + 1))).heap.size = w1.heap.size by simp] at hb
    exact ⟨hb 0, hb 1, hb 2, hb 3⟩
  refine wp_region_held_drew (S := fun w' => w'.cell? ⟨w1.heap.size, 0, none⟩ = some (.int .i64 op) ∧ w'.cell? ⟨w1.heap.size, 1, none⟩ = some (.int .i64 a) ∧ w'.cell? ⟨w1.heap.size, 2, none⟩ = some (.int .i64 bb) ∧ w'.cell? ⟨w1.heap.size, 3, none⟩ = some (.int .i64 cc)) (by kernel_rfl) HS0.out (fun hS => ?_)
  have HW0 : Hid (Blk ((w1.setCell ⟨w.heap.size, 8, none⟩ (.int .i64 (n + 1))).alloc (.cells #[.int .i64 op, .int .i64 a, .int .i64 bb, .int .i64 cc, .int .u32 k] 61)).drew w.heap.size #[.int .u32 (r 0), .int .u32 (r 1), .int .u32 (r 2), .int .u32 (r 3), .int .u32 (r 4), .int .u32 (r 5), .int .u32 (r 6), .int .u32 (r 7), .int .i64 (n + 1), .bool false]) := ((blk_set_pc HKB.out).alloc _).drew
  have HWZ : Hid (Blk ((w1.setCell ⟨w.heap.size, 8, none⟩ (.int .i64 (n + 1))).alloc (.cells #[.int .i64 op, .int .i64 a, .int .i64 bb, .int .i64 cc, .int .u32 k] 61)).drew (w.heap.size + 1) #[.int .u32 0, .int .u32 0, .int .u32 0, .int .u32 0, .int .u32 0, .int .u32 0, .int .u32 0, .int .u32 0, .int .i64 0, .bool false]) := ((HKZ.out.other _ (Nat.ne_of_lt (Nat.lt_succ_self _))).alloc _).drew
  have HBW : Hid (Below w.heap.size w ((w1.setCell ⟨w.heap.size, 8, none⟩ (.int .i64 (n + 1))).alloc (.cells #[.int .i64 op, .int .i64 a, .int .i64 bb, .int .i64 cc, .int .u32 k] 61)).drew) := ((HB.out.setCell (Nat.le_refl _) _).alloc (by simpa using HB.out.size) _).drew
  clear HS0
  revert hS HW0 HWZ HBW
  generalize ((w1.setCell ⟨w.heap.size, 8, none⟩ (.int .i64 (n + 1))).alloc (.cells #[.int .i64 op, .int .i64 a, .int .i64 bb, .int .i64 cc, .int .u32 k] 61)).drew = W
  intro hS HW0 HWZ HBW
  have qa' : W.cell? ⟨w.heap.size, a, none⟩ = some (.int .u32 (r a)) := (HW0.out.c a).trans (Cor.row_at ⟨r, n + 1, false⟩ a ha)
  have qb' : W.cell? ⟨w.heap.size, bb, none⟩ = some (.int .u32 (r bb)) := (HW0.out.c bb).trans (Cor.row_at ⟨r, n + 1, false⟩ bb hb)
  have qc' : W.cell? ⟨w.heap.size, cc, none⟩ = some (.int .u32 (r cc)) := (HW0.out.c cc).trans (Cor.row_at ⟨r, n + 1, false⟩ cc hc)
  have fa' : W.frozen? ⟨w.heap.size, a, none⟩ = false := HW0.out.f a
  have ef : ∀ j, (W.setCell ⟨w.heap.size, a, none⟩ (.int .u32 (doV op (r bb) (r cc)))).cell? ⟨w.heap.size, j, none⟩ = (#[.int .u32 (u 0), .int .u32 (u 1), .int .u32 (u 2), .int .u32 (u 3), .int .u32 (u 4), .int .u32 (u 5), .int .u32 (u 6), .int .u32 (u 7), .int .i64 (n + 1), .bool false] : Array Value)[j]? := (blk_set_row HW0.out ha hu.out).c
  have S0' := hS.1
  have cz := HWZ.out.c
  have fz := HWZ.out.f
  have sz := HWZ.out.lt
  clear c2 f2 s1 s2 HB x0 x1 x2 x3 x4 c8 c9 fc qa qb qc HKB HKZ HW0
  refine takeH_at (i := 0) (d := 70) (v := ?_) rfl rfl (by kernel_rfl) (by kernel_rfl) (by kernel_rfl) (fun _ _ _ h => h) (Or.inl ⟨by rfl, ?_⟩) hS ?_
  rotate_left 1
  · intro w hSw; obtain ⟨S0, S1, S2, S3⟩ := hSw; go_simp; try with_reducible rfl
  simp only [Act.put, List.setIfInBounds_toArray, List.set_cons_zero, List.set_cons_succ]
  refine takeH_at (i := 1) (d := 71) (v := ?_) rfl rfl (by kernel_rfl) (by kernel_rfl) (by kernel_rfl) (fun _ _ _ h => h) (Or.inl ⟨by rfl, ?_⟩) hS ?_
  rotate_left 1
  · intro w hSw; obtain ⟨S0, S1, S2, S3⟩ := hSw; go_simp; try with_reducible rfl
  simp only [Act.put, List.setIfInBounds_toArray, List.set_cons_zero, List.set_cons_succ]
  refine takeH_at (i := 2) (d := 72) (v := ?_) rfl rfl (by kernel_rfl) (by kernel_rfl) (by kernel_rfl) (fun _ _ _ h => h) (Or.inl ⟨by rfl, ?_⟩) hS ?_
  rotate_left 1
  · intro w hSw; obtain ⟨S0, S1, S2, S3⟩ := hSw; go_simp; try with_reducible rfl
  simp only [Act.put, List.setIfInBounds_toArray, List.set_cons_zero, List.set_cons_succ]
  refine takeH_at (i := 3) (d := 73) (v := ?_) rfl rfl (by kernel_rfl) (by kernel_rfl) (by kernel_rfl) (fun _ _ _ h => h) (Or.inl ⟨by rfl, ?_⟩) hS ?_
  rotate_left 1
  · intro w hSw; obtain ⟨S0, S1, S2, S3⟩ := hSw; go_simp; try with_reducible rfl
  simp only [Act.put, List.setIfInBounds_toArray, List.set_cons_zero, List.set_cons_succ]
  refine takeH_at (i := 4) (d := 74) (v := ?_) rfl rfl (by kernel_rfl) (by kernel_rfl) (by kernel_rfl) (fun _ _ _ h => h) (Or.inl ⟨by rfl, ?_⟩) hS ?_
  rotate_left 1
  · intro w hSw; obtain ⟨S0, S1, S2, S3⟩ := hSw; go_simp; try with_reducible rfl
  simp only [Act.put, List.setIfInBounds_toArray, List.set_cons_zero, List.set_cons_succ]
  refine takeH_at (i := 5) (d := 75) (v := ?_) rfl rfl (by kernel_rfl) (by kernel_rfl) (by kernel_rfl) (fun _ _ _ h => h) (Or.inl ⟨by rfl, ?_⟩) hS ?_
  rotate_left 1
  · intro w hSw; obtain ⟨S0, S1, S2, S3⟩ := hSw; go_simp; try with_reducible rfl
  simp only [Act.put, List.setIfInBounds_toArray, List.set_cons_zero, List.set_cons_succ]
  refine takeH_at (i := 6) (d := 76) (v := ?_) rfl rfl (by kernel_rfl) (by kernel_rfl) (by kernel_rfl) (fun _ _ _ h => h) (Or.inl ⟨by rfl, ?_⟩) hS ?_
  rotate_left 1
  · intro w hSw; obtain ⟨S0, S1, S2, S3⟩ := hSw; go_simp; try with_reducible rfl
  simp only [Act.put, List.setIfInBounds_toArray, List.set_cons_zero, List.set_cons_succ]
  refine takeH_at (i := 7) (d := 77) (v := ?_) rfl rfl (by kernel_rfl) (by kernel_rfl) (by kernel_rfl) (fun _ _ _ h => h) (Or.inl ⟨by rfl, ?_⟩) hS ?_
  rotate_left 1
  · intro w hSw; obtain ⟨S0, S1, S2, S3⟩ := hSw; go_simp; try with_reducible rfl
  simp only [Act.put, List.setIfInBounds_toArray, List.set_cons_zero, List.set_cons_succ]
  refine takeH_at (i := 9) (d := 79) (v := ?_) rfl rfl (by kernel_rfl) (by kernel_rfl) (by kernel_rfl) (fun _ _ _ h => h) (Or.inl ⟨by rfl, ?_⟩) hS ?_
  rotate_left 1
  · intro w hSw; obtain ⟨S0, S1, S2, S3⟩ := hSw; go_simp; try with_reducible rfl
  simp only [Act.put, List.setIfInBounds_toArray, List.set_cons_zero, List.set_cons_succ]
  refine takeH_at (i := 10) (d := 80) (v := ?_) rfl rfl (by kernel_rfl) (by kernel_rfl) (by kernel_rfl) (fun _ _ _ h => h) (Or.inl ⟨by rfl, ?_⟩) hS ?_
  rotate_left 1
  · intro w hSw; obtain ⟨S0, S1, S2, S3⟩ := hSw; go_simp; try with_reducible rfl
  simp only [Act.put, List.setIfInBounds_toArray, List.set_cons_zero, List.set_cons_succ]
  refine takeH_at (i := 11) (d := 81) (v := ?_) rfl rfl (by kernel_rfl) (by kernel_rfl) (by kernel_rfl) (fun _ _ _ h => h) (Or.inl ⟨by rfl, ?_⟩) hS ?_
  rotate_left 1
  · intro w hSw; obtain ⟨S0, S1, S2, S3⟩ := hSw; go_simp; try with_reducible rfl
  simp only [Act.put, List.setIfInBounds_toArray, List.set_cons_zero, List.set_cons_succ]
  refine takeH_at (i := 12) (d := 82) (v := ?_) rfl rfl (by kernel_rfl) (by kernel_rfl) (by kernel_rfl) (fun _ _ _ h => h) (Or.inl ⟨by rfl, ?_⟩) hS ?_
  rotate_left 1
  · intro w hSw; obtain ⟨S0, S1, S2, S3⟩ := hSw; go_simp; try with_reducible rfl
  simp only [Act.put, List.setIfInBounds_toArray, List.set_cons_zero, List.set_cons_succ]
  refine takeH_at (i := 18) (d := 87) (v := ?_) rfl rfl (by kernel_rfl) (by kernel_rfl) (by kernel_rfl) (fun _ _ _ h => h) (Or.inl ⟨by rfl, ?_⟩) hS ?_
  rotate_left 1
  · intro w hSw; obtain ⟨S0, S1, S2, S3⟩ := hSw; go_simp; try with_reducible rfl
  simp only [Act.put, List.setIfInBounds_toArray, List.set_cons_zero, List.set_cons_succ]
  refine wpAnyH_ready (rs := [8, 13]) (by kernel_rfl) (by simp) ?_
  refine AllReadyH.cons rfl (fun K hK => ?_) ?_
  · go_simp
    refine hK.out _ _ hS (fun _ => ?_)
    clear hK K
    try simp only [Act.put, List.setIfInBounds_toArray, List.set_cons_zero, List.set_cons_succ]
    refine wpAnyH_ready (rs := [13]) (by kernel_rfl) (by simp) ?_
    refine AllReadyH.cons rfl (fun K hK => ?_) AllReadyH.nil
    go_simp
    refine hK.out _ _ hS (fun _ => ?_)
    clear hK K
    try simp only [Act.put, List.setIfInBounds_toArray, List.set_cons_zero, List.set_cons_succ]
    refine wpAnyH_ready (rs := [14]) (by kernel_rfl) (by simp) ?_
    refine AllReadyH.cons rfl (fun K hK => ?_) AllReadyH.nil
    go_simp
    refine (rdo_still (r bb) (r cc) W ⟨h0b, h1b⟩ ⟨h0c, h1c⟩ op).mono ?_
    rintro e w' ⟨rfl, rfl⟩
    go_wp2_with fail
    refine hK.out _ _ hS (fun _ => ?_)
    clear hK K
    try simp only [Act.put, List.setIfInBounds_toArray, List.set_cons_zero, List.set_cons_succ]
    refine takeH_at (i := 15) (d := 69) (v := ?_) rfl rfl (by kernel_rfl) (by kernel_rfl) (by kernel_rfl) (fun _ _ _ h => h) (Or.inl ⟨by rfl, ?_⟩) hS ?_
    rotate_left 1
    · intro w hSw; obtain ⟨S0, S1, S2, S3⟩ := hSw; go_simp; try with_reducible rfl
    simp only [Act.put, List.setIfInBounds_toArray, List.set_cons_zero, List.set_cons_succ]
    refine takeH_at (i := 16) (d := 85) (v := ?_) rfl rfl (by kernel_rfl) (by kernel_rfl) (by kernel_rfl) (fun _ _ _ h => h) (Or.inl ⟨by rfl, ?_⟩) hS ?_
    rotate_left 1
    · intro w hSw; obtain ⟨S0, S1, S2, S3⟩ := hSw; go_simp; try with_reducible rfl
    simp only [Act.put, List.setIfInBounds_toArray, List.set_cons_zero, List.set_cons_succ]
    refine takeH_at (i := 17) (d := 86) (v := ?_) rfl rfl (by kernel_rfl) (by kernel_rfl) (by kernel_rfl) (fun _ _ _ h => h) (Or.inl ⟨by rfl, ?_⟩) hS ?_
    rotate_left 1
    · intro w hSw; obtain ⟨S0, S1, S2, S3⟩ := hSw; go_simp; try with_reducible rfl
    simp only [Act.put, List.setIfInBounds_toArray, List.set_cons_zero, List.set_cons_succ]
    refine takeH_at (i := 19) (d := 88) (v := ?_) rfl rfl (by kernel_rfl) (by kernel_rfl) (by kernel_rfl) (fun _ _ _ h => h) (Or.inl ⟨by rfl, ?_⟩) hS ?_
    rotate_left 1
    · intro w hSw; obtain ⟨S0, S1, S2, S3⟩ := hSw; go_simp; try with_reducible rfl
    simp only [Act.put, List.setIfInBounds_toArray, List.set_cons_zero, List.set_cons_succ]
    refine wpAnyH_ready (rs := [20]) (by kernel_rfl) (by simp) ?_
    refine AllReadyH.cons rfl (fun K hK => ?_) AllReadyH.nil
    go_simp
    refine hK.out _ _ (storeS hS nx ()) (fun _ => ?_)
    clear hK K
    try simp only [Act.put, List.setIfInBounds_toArray, List.set_cons_zero, List.set_cons_succ]
    refine wpAnyH_done (by kernel_rfl) ?_ _
    refine NoPanic.normal ?_
    go_wp2
    refine bodyPost_ret (v := .agg #[.int .u32 (u 0), .int .u32 (u 1), .int .u32 (u 2), .int .u32 (u 3), .int .u32 (u 4), .int .u32 (u 5), .int .u32 (u 6), .int .u32 (u 7), .int .i64 (n + 1), .bool false]) (by simp [results, Try.results38, go_sem, cz, sz]) rfl ⟨rfl, ?_⟩
    exact below10 (HBW.out.setCell (Nat.le_refl _) _) (Nat.le_succ _) _ _ _ _ _ _ _ _ _ _
  refine AllReadyH.cons rfl (fun K hK => ?_) AllReadyH.nil
  go_simp
  refine hK.out _ _ hS (fun _ => ?_)
  clear hK K
  try simp only [Act.put, List.setIfInBounds_toArray, List.set_cons_zero, List.set_cons_succ]
  refine wpAnyH_ready (rs := [8]) (by kernel_rfl) (by simp) ?_
  refine AllReadyH.cons rfl (fun K hK => ?_) AllReadyH.nil
  go_simp
  refine hK.out _ _ hS (fun _ => ?_)
  clear hK K
  try simp only [Act.put, List.setIfInBounds_toArray, List.set_cons_zero, List.set_cons_succ]
  refine wpAnyH_ready (rs := [14]) (by kernel_rfl) (by simp) ?_
  refine AllReadyH.cons rfl (fun K hK => ?_) AllReadyH.nil
  go_simp
  refine (rdo_still (r bb) (r cc) W ⟨h0b, h1b⟩ ⟨h0c, h1c⟩ op).mono ?_
  rintro e w' ⟨rfl, rfl⟩
  go_wp2_with fail
  refine hK.out _ _ hS (fun _ => ?_)
  clear hK K
  try simp only [Act.put, List.setIfInBounds_toArray, List.set_cons_zero, List.set_cons_succ]
  refine takeH_at (i := 15) (d := 69) (v := ?_) rfl rfl (by kernel_rfl) (by kernel_rfl) (by kernel_rfl) (fun _ _ _ h => h) (Or.inl ⟨by rfl, ?_⟩) hS ?_
  rotate_left 1
  · intro w hSw; obtain ⟨S0, S1, S2, S3⟩ := hSw; go_simp; try with_reducible rfl
  simp only [Act.put, List.setIfInBounds_toArray, List.set_cons_zero, List.set_cons_succ]
  refine takeH_at (i := 16) (d := 85) (v := ?_) rfl rfl (by kernel_rfl) (by kernel_rfl) (by kernel_rfl) (fun _ _ _ h => h) (Or.inl ⟨by rfl, ?_⟩) hS ?_
  rotate_left 1
  · intro w hSw; obtain ⟨S0, S1, S2, S3⟩ := hSw; go_simp; try with_reducible rfl
  simp only [Act.put, List.setIfInBounds_toArray, List.set_cons_zero, List.set_cons_succ]
  refine takeH_at (i := 17) (d := 86) (v := ?_) rfl rfl (by kernel_rfl) (by kernel_rfl) (by kernel_rfl) (fun _ _ _ h => h) (Or.inl ⟨by rfl, ?_⟩) hS ?_
  rotate_left 1
  · intro w hSw; obtain ⟨S0, S1, S2, S3⟩ := hSw; go_simp; try with_reducible rfl
  simp only [Act.put, List.setIfInBounds_toArray, List.set_cons_zero, List.set_cons_succ]
  refine takeH_at (i := 19) (d := 88) (v := ?_) rfl rfl (by kernel_rfl) (by kernel_rfl) (by kernel_rfl) (fun _ _ _ h => h) (Or.inl ⟨by rfl, ?_⟩) hS ?_
  rotate_left 1
  · intro w hSw; obtain ⟨S0, S1, S2, S3⟩ := hSw; go_simp; try with_reducible rfl
  simp only [Act.put, List.setIfInBounds_toArray, List.set_cons_zero, List.set_cons_succ]
  refine wpAnyH_ready (rs := [20]) (by kernel_rfl) (by simp) ?_
  refine AllReadyH.cons rfl (fun K hK => ?_) AllReadyH.nil
  go_simp
  refine hK.out _ _ (storeS hS nx ()) (fun _ => ?_)
  clear hK K
  try simp only [Act.put, List.setIfInBounds_toArray, List.set_cons_zero, List.set_cons_succ]
  refine wpAnyH_done (by kernel_rfl) ?_ _
  refine NoPanic.normal ?_
  go_wp2
  refine bodyPost_ret (v := .agg #[.int .u32 (u 0), .int .u32 (u 1), .int .u32 (u 2), .int .u32 (u 3), .int .u32 (u 4), .int .u32 (u 5), .int .u32 (u 6), .int .u32 (u 7), .int .i64 (n + 1), .bool false]) (by simp [results, Try.results38, go_sem, cz, sz]) rfl ⟨rfl, ?_⟩
  exact below10 (HBW.out.setCell (Nat.le_refl _) _) (Nat.le_succ _) _ _ _ _ _ _ _ _ _ _
end Go.Proofs.Ytekiialhljfglaa
/- What the reference's Wants and Done of layer 3 answer, whole: for every program, core, count of words and word what the program answers; they write nothing that was there. -/
namespace Go.Proofs.Ytekiialhljfglaa
set_option linter.unusedVariables false
open Go.ChangeShapes Go.WideShapes Go.ChangeAt Go.RowKit

theorem wantsR_any (p : Option Addr) (cap : Nat) (l : List I5) (c : Cor) (words : Int) (w : World) (hp : Prg w p l) (hc : c.Fits) (hw : words ≤ 9223372036854775807) :
    Calls Try.prog 37 #[.slice p l.length cap, .agg c.row, .int .i64 words] w fun e w' => e = .returned (.agg (wantOf l c words).row) ∧ Below w.heap.size w w' := by
  obtain ⟨r, pc, h⟩ := c
  cases h with
  | true =>
    refine (wantsR_halted p _ cap l r pc words w rfl hp _ rfl).mono fun e w' he => ⟨he.1.trans (ret_want (a := ⟨5, 0, 0, 0⟩) ?_), he.2⟩
    unfold wantOf; rfl
  | false =>
    cases hr : coreB l ⟨r, pc, false⟩ with
    | false =>
      refine (wantsR_wrong p _ cap l r pc words w rfl hp hr).mono fun e w' he => ⟨he.1.trans (ret_want (a := ⟨5, 0, 0, 0⟩) ?_), he.2⟩
      unfold wantOf; rw [hr]; rfl
    | true =>
      obtain ⟨h0, h1, h2⟩ := core_has hr
      simp only at h0 h1
      obtain ⟨n, rfl⟩ := Int.eq_ofNat_of_zero_le h0
      have hlen := right_has h2
      obtain ⟨b, off, hlt, rfl, hx⟩ := hp (by omega)
      have hn : n < l.length := by omega
      have hxn := hx n hn
      have hm := may_regs (core_ins hr)
      have hins : insAt l ⟨r, n, false⟩ = at5 l n := rfl
      have hW : wantOf l ⟨r, n, false⟩ words = wantX (at5 l n) ⟨r, n, false⟩ words := by unfold wantOf; rw [hr]; rfl
      rw [hins] at hm
      rw [hW]
      obtain ⟨op, a, bb, cc, k, hat⟩ : ∃ op a bb cc k, at5 l n = ⟨op, a, bb, cc, k⟩ := ⟨_, _, _, _, _, rfl⟩
      rw [hat] at hxn hm ⊢
      simp only at hm
      have f0 := hc.r0
      have f1 := hc.r1
      simp only at f0 f1
      by_cases o9 : op = 9
      · subst o9
        obtain ⟨nb, rfl⟩ := Int.eq_ofNat_of_zero_le hm.2.2.1
        have hb : nb < 8 := by omega
        exact (wantsR_read b off _ cap n l nb a cc k r words w rfl hp hr hn hlen.2.1 hlt hxn hb (f0 nb hb) (f1 nb hb) hw).mono fun e w' he => ⟨he.1.trans (ret_want (a := ⟨1, placeN (r nb) words, 0, 0⟩) rfl), he.2⟩
      by_cases o10 : op = 10
      · subst o10
        obtain ⟨na, rfl⟩ := Int.eq_ofNat_of_zero_le hm.1
        obtain ⟨nb, rfl⟩ := Int.eq_ofNat_of_zero_le hm.2.2.1
        have ha : na < 8 := by omega
        have hb : nb < 8 := by omega
        exact (wantsR_write b off _ cap n l na nb cc k r words w rfl hp hr hn hlen.2.1 hlt hxn ha (f0 na ha) (f1 na ha) hb (f0 nb hb) (f1 nb hb) hw).mono fun e w' he => ⟨he.1.trans (ret_want (a := ⟨2, placeN (r nb) words, r na, 0⟩) rfl), he.2⟩
      by_cases o11 : op = 11
      · subst o11
        obtain ⟨na, rfl⟩ := Int.eq_ofNat_of_zero_le hm.1
        obtain ⟨nb, rfl⟩ := Int.eq_ofNat_of_zero_le hm.2.2.1
        obtain ⟨nc, rfl⟩ := Int.eq_ofNat_of_zero_le hm.2.2.2.2.1
        have ha : na < 8 := by omega
        have hb : nb < 8 := by omega
        have hcc : nc < 8 := by omega
        exact (wantsR_trade b off _ cap n l na nb nc k r words w rfl hp hr hn hlen.2.1 hlt hxn ha (f0 na ha) (f1 na ha) hb (f0 nb hb) (f1 nb hb) hcc (f0 nc hcc) (f1 nc hcc) hw).mono fun e w' he => ⟨he.1.trans (ret_want (a := ⟨3, placeN (r nb) words, r nc, r na⟩) rfl), he.2⟩
      by_cases o15 : op = 15
      · subst o15
        obtain ⟨na, rfl⟩ := Int.eq_ofNat_of_zero_le hm.1
        have ha : na < 8 := by omega
        exact (wantsR_tell b off _ cap n l na bb cc k r words w rfl hp hr hn hlen.2.1 hlt hxn ha (f0 na ha) (f1 na ha)).mono fun e w' he => ⟨he.1.trans (ret_want (a := ⟨4, 0, r na, 0⟩) rfl), he.2⟩
      by_cases o16 : op = 16
      · subst o16
        exact (wantsR_rest b off _ cap n l a bb cc k r words w rfl hp hr hn hlen.2.1 hlt hxn).mono fun e w' he => ⟨he.1.trans (ret_want (a := ⟨5, 0, 0, 0⟩) rfl), he.2⟩
      refine (wantsR_nothing b off _ cap n l op a bb cc k r words w rfl hp hr hn hlen.2.1 hlt hxn (by simpa using o9) (by simpa using o10) (by simpa using o11) (by simpa using o15) (by simpa using o16)).mono fun e w' he => ⟨he.1.trans (ret_want (a := ⟨0, 0, 0, 0⟩) ?_), he.2⟩
      unfold wantX
      rw [if_neg o9, if_neg o10, if_neg o11, if_neg o15, if_neg o16]

theorem doneR_any (p : Option Addr) (cap : Nat) (l : List I5) (c : Cor) (was : Int) (w : World) (hp : Prg w p l) (hc : c.Fits) :
    Calls Try.prog 38 #[.slice p l.length cap, .agg c.row, .int .u32 was] w fun e w' => e = .returned (.agg (doneOf l c was).row) ∧ Below w.heap.size w w' := by
  obtain ⟨r, pc, h⟩ := c
  cases h with
  | true =>
    refine (doneR_halted p _ cap l r pc was w rfl hp _ rfl).mono fun e w' he => ⟨he.1.trans (ret_core (a := ⟨r, pc, true⟩) ?_), he.2⟩
    unfold doneOf; rfl
  | false =>
    cases hr : coreB l ⟨r, pc, false⟩ with
    | false =>
      refine (doneR_wrong p _ cap l r pc was w rfl hp hr).mono fun e w' he => ⟨he.1.trans (ret_core (a := ⟨r, pc, false⟩) ?_), he.2⟩
      unfold doneOf; rw [hr]; rfl
    | true =>
      obtain ⟨h0, h1, h2⟩ := core_has hr
      simp only at h0 h1
      obtain ⟨n, rfl⟩ := Int.eq_ofNat_of_zero_le h0
      have hlen := right_has h2
      obtain ⟨b, off, hlt, rfl, hx⟩ := hp (by omega)
      have hn : n < l.length := by omega
      have hxn := hx n hn
      have hm := may_regs (core_ins hr)
      have hins : insAt l ⟨r, n, false⟩ = at5 l n := rfl
      have hD : doneOf l ⟨r, n, false⟩ was = doneX (at5 l n) ⟨r, n, false⟩ was := by unfold doneOf; rw [hr]; rfl
      rw [hins] at hm
      rw [hD]
      obtain ⟨op, a, bb, cc, k, hat⟩ : ∃ op a bb cc k, at5 l n = ⟨op, a, bb, cc, k⟩ := ⟨_, _, _, _, _, rfl⟩
      rw [hat] at hxn hm ⊢
      simp only at hm
      have f0 := hc.r0
      have f1 := hc.r1
      simp only at f0 f1
      obtain ⟨na, rfl⟩ := Int.eq_ofNat_of_zero_le hm.1
      have ha : na < 8 := by omega
      have nx : ∀ (q : op ≠ 13) (q' : op ≠ 14), nextX ⟨op, na, bb, cc, k⟩ ⟨r, n, false⟩ = n + 1 := fun q q' => by unfold nextX; rw [if_neg (by simp only; omega)]
      by_cases o16 : op = 16
      · subst o16
        exact (doneR_stop b off _ cap n l na bb cc k r was w rfl hp hr hn hlen.2.1 hlt hxn).mono fun e w' he => ⟨he.1.trans (ret_core (a := ⟨r, n, true⟩) rfl), he.2⟩
      by_cases o13 : op = 13
      · subst o13
        exact (doneR_jump b off _ cap n l na bb cc k r was w rfl hp hr hn hlen.2.1 hlt hxn).mono fun e w' he => ⟨he.1.trans (ret_core (a := ⟨r, k, false⟩) rfl), he.2⟩
      by_cases o14 : op = 14
      · subst o14
        by_cases hz : r na = 0
        · refine (doneR_zero b off _ cap n l na bb cc k r was w rfl hp hr hn hlen.2.1 hlt hxn ha (by simpa using hz)).mono fun e w' he => ⟨he.1.trans (ret_core (a := ⟨r, k, false⟩) ?_), he.2⟩
          show _ = Cor.go _ (nextX _ _)
          unfold nextX; rw [if_pos (Or.inr ⟨rfl, hz⟩)]; rfl
        · refine (doneR_pass b off _ cap n l na bb cc k r was w rfl hp hr hn hlen.2.1 hlt hxn ha (by simpa using hz)).mono fun e w' he => ⟨he.1.trans (ret_core (a := ⟨r, n + 1, false⟩) ?_), he.2⟩
          show _ = Cor.go _ (nextX _ _)
          unfold nextX; rw [if_neg (by simp; exact hz)]; rfl
      by_cases o1 : op = 1
      · subst o1
        exact (doneR_set b off _ cap n l na bb cc k r was w rfl hp hr hn hlen.2.1 hlt hxn ha (fun i => if i = na then k else r i) (fun i => rfl)).mono fun e w' he => ⟨he.1.trans (ret_core (a := ⟨fun i => if i = na then k else r i, n + 1, false⟩) rfl), he.2⟩
      by_cases o9 : op = 9
      · subst o9
        exact (doneR_read9 b off _ cap n l na bb cc k r was w rfl hp hr hn hlen.2.1 hlt hxn ha (fun i => if i = na then was else r i) (fun i => rfl)).mono fun e w' he => ⟨he.1.trans (ret_core (a := ⟨fun i => if i = na then was else r i, n + 1, false⟩) rfl), he.2⟩
      by_cases o11 : op = 11
      · subst o11
        exact (doneR_read11 b off _ cap n l na bb cc k r was w rfl hp hr hn hlen.2.1 hlt hxn ha (fun i => if i = na then was else r i) (fun i => rfl)).mono fun e w' he => ⟨he.1.trans (ret_core (a := ⟨fun i => if i = na then was else r i, n + 1, false⟩) rfl), he.2⟩
      have e16 : (op == 16) = false := by simpa using o16
      have e13 : (op == 13) = false := by simpa using o13
      have e14 : (op == 14) = false := by simpa using o14
      have e1 : (op == 1) = false := by simpa using o1
      have e9 : (op == 9) = false := by simpa using o9
      have e11 : (op == 11) = false := by simpa using o11
      have e2 : decide (2 ≤ op) = true := decide_eq_true (by omega)
      by_cases o8 : op ≤ 8
      · obtain ⟨nb, rfl⟩ := Int.eq_ofNat_of_zero_le hm.2.2.1
        obtain ⟨nc, rfl⟩ := Int.eq_ofNat_of_zero_le hm.2.2.2.2.1
        have hb : nb < 8 := by omega
        have hcc : nc < 8 := by omega
        refine (doneR_do b off _ cap n l na nb nc op k r was w rfl hp hr hn hlen.2.1 hlt hxn ha hb (f0 nb hb) (f1 nb hb) hcc (f0 nc hcc) (f1 nc hcc) e16 e13 e14 e1 e2 (decide_eq_true o8) e9 e11 (fun i => if i = na then doV op (r nb) (r nc) else r i) (fun i => rfl)).mono fun e w' he => ⟨he.1.trans (ret_core (a := ⟨fun i => if i = na then doV op (r nb) (r nc) else r i, n + 1, false⟩) ?_), he.2⟩
        have ok : madeOk ⟨op, na, nb, nc, k⟩ = true := decide_eq_true (by simp only; omega)
        unfold doneX madeV
        rw [if_neg o16, ok, if_pos rfl, if_neg o1, if_neg (by simp only; omega), nx o13 o14]
        rfl
      · refine (doneR_plain b off _ cap n l op na bb cc k r was w rfl hp hr hn hlen.2.1 hlt hxn e16 e13 e14 e1 e2 (decide_eq_false o8) e9 e11).mono fun e w' he => ⟨he.1.trans (ret_core (a := ⟨r, n + 1, false⟩) ?_), he.2⟩
        have ok : madeOk ⟨op, na, bb, cc, k⟩ = false := decide_eq_false (by simp only; omega)
        unfold doneX
        rw [if_neg o16, ok, if_neg (by decide), nx o13 o14]
        rfl
end Go.Proofs.Ytekiialhljfglaa
/- What is asked of an append of a list that lies in memory; lists that lie apart from two blocks. -/
namespace Go.Proofs.Ytekiialhljfglaa
set_option linter.unusedVariables false
open Go.ChangeShapes Go.WideShapes Go.ChangeAt Go.RowKit

theorem wp_append_sl {P : Program} {o : Oper} {a : Act} {w : World} {K : Act → World → Prop} {Q : Exit → Act → World → Prop} (s x : Operand) (t : TypeId)
    (ho : o.op = .call { callee := .builtin .append, args := #[s, x], argTypes := #[t, t] })
    (base : Nat) (e : TypeId) (i : TypeInfo) (z : Value) (size bytes : Nat) (ht : P.underlying t = some (.slice e)) (hi : P.info? e = some i) (hz : i.zero = some z)
    (hsize : i.size = size) (hby : i.bytes = bytes) (hzs : z.cells.size = size) (hsz : 0 < size)
    (v : Value) (n : Nat) (xs : List Value) (hs : a.eval s = v) (hown : w.ownsRow base e size v n xs)
    (p : Option Addr) (m c : Nat) (news : List Value) (hx : a.eval x = .slice p m c) (hl : news.length = m * size) (hsl : Sl w p m news) (h1 : ∀ u ∈ news, u.oneCell' = true)
    (h63 : n + m ≤ maxLen) (hbytes : (n + m) * bytes ≤ 140737488355328) (hbase : base ≤ w.heap.size)
    (h : ∀ v' w', w'.ownsRow base e size v' (n + m) (xs ++ news) → w.grownBy w' v.ownBlock → (v'.ownBlock = v.ownBlock ∨ v'.ownBlock = some w.heap.size) → K (a.put o.dst v') w') : o.wp P a w K Q := by
  cases p with
  | none =>
    have h0 : m = 0 := by
      cases m with
      | zero => rfl
      | succ n => obtain ⟨_, _, _, h, _⟩ := hsl (by omega); cases h
    subst h0
    obtain rfl : news = [] := List.length_eq_zero_iff.1 (by omega)
    exact wp_append_nil s x t ho base e i size c ht hi v n xs hs hown hx (h v w (by simpa using hown) (World.grownBy.refl _ _) (.inl rfl))
  | some ad =>
    refine wp_append_own_at s x t ho base e i z size bytes ht hi hz hsize hby hzs hsz v n xs hs hown ad m c news hx hl ?_ h1 h63 hbytes hbase (fun v' w' g1 g2 _ g4 => h v' w' g1 g2 g4)
    intro j u hj
    have hjl := (List.getElem?_eq_some_iff.1 hj).1
    have hm : 0 < m := by
      rcases Nat.eq_zero_or_pos m with h0 | h0
      · subst h0; rw [Nat.zero_mul] at hl; omega
      · exact h0
    obtain ⟨b, off, _, he, hcell⟩ := hsl hm
    injection he with he
    subst he
    rw [Addr.add_lit]
    exact (hcell j hjl).trans hj
theorem wpList_append_sl {P : Program} {ops : Array Oper} {rest : List Oper} {o : Oper} {a : Act} {w : World} {Q : Exit → Act → World → Prop} (hgd : o.guard = none) (s x : Operand) (t : TypeId)
    (ho : o.op = .call { callee := .builtin .append, args := #[s, x], argTypes := #[t, t] })
    (base : Nat) (e : TypeId) (i : TypeInfo) (z : Value) (size bytes : Nat) (ht : P.underlying t = some (.slice e)) (hi : P.info? e = some i) (hz : i.zero = some z)
    (hsize : i.size = size) (hby : i.bytes = bytes) (hzs : z.cells.size = size) (hsz : 0 < size)
    (v : Value) (n : Nat) (xs : List Value) (hs : a.eval s = v) (hown : w.ownsRow base e size v n xs)
    (p : Option Addr) (m c : Nat) (news : List Value) (hx : a.eval x = .slice p m c) (hl : news.length = m * size) (hsl : Sl w p m news) (h1 : ∀ u ∈ news, u.oneCell' = true)
    (h63 : n + m ≤ maxLen) (hbytes : (n + m) * bytes ≤ 140737488355328) (hbase : base ≤ w.heap.size)
    (h : ∀ v' w', w'.ownsRow base e size v' (n + m) (xs ++ news) → w.grownBy w' v.ownBlock → (v'.ownBlock = v.ownBlock ∨ v'.ownBlock = some w.heap.size) → wpList P ops Q rest (a.put o.dst v') w') : wpList P ops Q (o :: rest) a w :=
  wpList_plain hgd fun K hK => wp_append_sl s x t ho base e i z size bytes ht hi hz hsize hby hzs hsz v n xs hs hown p m c news hx hl hsl h1 h63 hbytes hbase (fun v' w' g1 g2 g3 => hK _ _ (h v' w' g1 g2 g3))

/-- The cells cs lie behind p, in another block than B and the one behind it. -/
def SlB (B : Nat) (w : World) (p : Option Addr) (len : Nat) (cs : List Value) : Prop :=
  0 < len → ∃ b off, b < w.heap.size ∧ b ≠ B ∧ b ≠ B + 1 ∧ p = some ⟨b, off, none⟩ ∧ ∀ j, j < cs.length → w.cell? ⟨b, off + j, none⟩ = cs[j]?
theorem SlB.sl {B : Nat} {w : World} {p : Option Addr} {len : Nat} {cs : List Value} (h : SlB B w p len cs) : Sl w p len cs := fun h0 => by
  obtain ⟨b, off, h1, _, _, h2, h3⟩ := h h0
  exact ⟨b, off, h1, h2, h3⟩
theorem SlB.of {B : Nat} {w0 w : World} {p : Option Addr} {len : Nat} {cs : List Value} (h : Sl w0 p len cs) (hb : Below w0.heap.size w0 w) (hB : w0.heap.size ≤ B) : SlB B w p len cs := fun h0 => by
  obtain ⟨b, off, h1, h2, h3⟩ := h h0
  exact ⟨b, off, Nat.lt_of_lt_of_le h1 hb.size, by omega, by omega, h2, fun j hj => (hb.cell (p := ⟨b, off + j, none⟩) h1).trans (h3 j hj)⟩
theorem SlB.below {B : Nat} {w w' : World} {p : Option Addr} {len : Nat} {cs : List Value} (h : SlB B w p len cs) (hb : Below w.heap.size w w') : SlB B w' p len cs := fun h0 => by
  obtain ⟨b, off, h1, hb1, hb2, h2, h3⟩ := h h0
  exact ⟨b, off, Nat.lt_of_lt_of_le h1 hb.size, hb1, hb2, h2, fun j hj => (hb.cell (p := ⟨b, off + j, none⟩) h1).trans (h3 j hj)⟩
theorem SlB.set0 {B : Nat} {w : World} {p : Option Addr} {len : Nat} {cs : List Value} (h : SlB B w p len cs) (j : Nat) (v : Value) : SlB B (w.setCell ⟨B, j, none⟩ v) p len cs := fun h0 => by
  obtain ⟨b, off, h1, hb1, hb2, h2, h3⟩ := h h0
  exact ⟨b, off, by rw [size_set]; exact h1, hb1, hb2, h2, fun j hj => (cell_other hb1).trans (h3 j hj)⟩
theorem SlB.set1 {B : Nat} {w : World} {p : Option Addr} {len : Nat} {cs : List Value} (h : SlB B w p len cs) (j : Nat) (v : Value) : SlB B (w.setCell ⟨B + 1, j, none⟩ v) p len cs := fun h0 => by
  obtain ⟨b, off, h1, hb1, hb2, h2, h3⟩ := h h0
  exact ⟨b, off, by rw [size_set]; exact h1, hb1, hb2, h2, fun j hj => (cell_other hb2).trans (h3 j hj)⟩
theorem SlB.grown {B : Nat} {w w' : World} {p : Option Addr} {len : Nat} {cs : List Value} {g : Nat} (h : SlB B w p len cs) (hg : w.grownBy w' (some g)) (hne : ∀ b off, p = some ⟨b, off, none⟩ → 0 < len → b ≠ g) : SlB B w' p len cs := fun h0 => by
  obtain ⟨b, off, h1, hb1, hb2, h2, h3⟩ := h h0
  have e := hg.block b h1 (fun e => hne b off h2 h0 (Option.some.inj e))
  exact ⟨b, off, Nat.lt_of_lt_of_le h1 hg.size, hb1, hb2, h2, fun j hj => by rw [← h3 j hj]; unfold World.cell?; rw [e]⟩
theorem SlB.own {B : Nat} {w : World} {base : Nat} {e : TypeId} {size : Nat} {v : Value} {n : Nat} {xs : List Value} (h : w.ownsRow base e size v n xs) (hB : B + 1 < base) : ∃ p l cap, v = .slice p l cap ∧ (0 < n → l = n) ∧ SlB B w p n xs := by
  obtain ⟨p, cap, rfl, hs⟩ := Sl.own h
  refine ⟨p, n, cap, rfl, fun _ => rfl, fun h0 => ?_⟩
  obtain ⟨b, off, h1, h2, h3⟩ := hs h0
  have hb := (h.lt b (by rw [h2]; rfl)).1
  exact ⟨b, off, h1, by omega, by omega, h2, h3⟩
theorem fresh_made {w : World} {e : TypeId} {size base : Nat} (h : base ≤ w.heap.size) : (w.alloc (.cells #[] e)).ownsRow base e size (.slice (some ⟨w.heap.size, 0, none⟩) 0 0) 0 [] :=
  World.ownsRow_made w #[] 0 h (Nat.zero_le _) (by simp)

theorem kwantsR (q : Option Addr) (m qc : Nat) (l : List I5) (c : Cor) (lm : Nat) (k at_ v o : Int) (b off n B gc oc : Nat) (bs : Array Value) (W1 W : World) (hm : Hid (l.length = m)) (HP : Hid (Prg W1 q l)) (HF : Hid c.Fits) (HW : Hid (wantOf l c lm = ⟨k, at_, v, o⟩)) (hlm : lm ≤ 64)
    (h1 : Hid (W1.cell? ⟨b, off + n, none⟩ = some (.slice q m qc))) (h2 : Hid (Blk W1 B bs)) (h3 : Hid (W1.cell? ⟨gc, oc + n * 10, none⟩ = some (.int .u32 (c.r 0)) ∧ W1.cell? ⟨gc, oc + n * 10 + 1, none⟩ = some (.int .u32 (c.r 1)) ∧ W1.cell? ⟨gc, oc + n * 10 + 2, none⟩ = some (.int .u32 (c.r 2)) ∧ W1.cell? ⟨gc, oc + n * 10 + 3, none⟩ = some (.int .u32 (c.r 3)) ∧ W1.cell? ⟨gc, oc + n * 10 + 4, none⟩ = some (.int .u32 (c.r 4)) ∧ W1.cell? ⟨gc, oc + n * 10 + 5, none⟩ = some (.int .u32 (c.r 5)) ∧ W1.cell? ⟨gc, oc + n * 10 + 6, none⟩ = some (.int .u32 (c.r 6)) ∧ W1.cell? ⟨gc, oc + n * 10 + 7, none⟩ = some (.int .u32 (c.r 7)) ∧ W1.cell? ⟨gc, oc + n * 10 + 8, none⟩ = some (.int .i64 c.pc) ∧ W1.cell? ⟨gc, oc + n * 10 + 9, none⟩ = some (.bool c.h))) (l1 : Hid (b < W1.heap.size)) (l3 : Hid (gc < W1.heap.size)) (hb : Below W1.heap.size W1 W) :
    Calls Try.prog 37 #[.slice q m qc, .agg #[.int .u32 (c.r 0), .int .u32 (c.r 1), .int .u32 (c.r 2), .int .u32 (c.r 3), .int .u32 (c.r 4), .int .u32 (c.r 5), .int .u32 (c.r 6), .int .u32 (c.r 7), .int .i64 c.pc, .bool c.h], .int .i64 lm] W fun e w' => e = .returned (.agg #[.int .i64 k, .int .i64 at_, .int .u32 v, .int .u32 o]) ∧ (w'.cell? ⟨b, off + n, none⟩ = some (.slice q m qc) ∧ (∀ j, w'.cell? ⟨B, j, none⟩ = bs[j]?) ∧ (w'.cell? ⟨gc, oc + n * 10, none⟩ = some (.int .u32 (c.r 0)) ∧ w'.cell? ⟨gc, oc + n * 10 + 1, none⟩ = some (.int .u32 (c.r 1)) ∧ w'.cell? ⟨gc, oc + n * 10 + 2, none⟩ = some (.int .u32 (c.r 2)) ∧ w'.cell? ⟨gc, oc + n * 10 + 3, none⟩ = some (.int .u32 (c.r 3)) ∧ w'.cell? ⟨gc, oc + n * 10 + 4, none⟩ = some (.int .u32 (c.r 4)) ∧ w'.cell? ⟨gc, oc + n * 10 + 5, none⟩ = some (.int .u32 (c.r 5)) ∧ w'.cell? ⟨gc, oc + n * 10 + 6, none⟩ = some (.int .u32 (c.r 6)) ∧ w'.cell? ⟨gc, oc + n * 10 + 7, none⟩ = some (.int .u32 (c.r 7)) ∧ w'.cell? ⟨gc, oc + n * 10 + 8, none⟩ = some (.int .i64 c.pc) ∧ w'.cell? ⟨gc, oc + n * 10 + 9, none⟩ = some (.bool c.h)) ∧ Below W1.heap.size W1 w') ∧ Below W.heap.size W w' := by
  have hh := wantsR_any q qc l c lm W (HP.out.below hb) HF.out (by omega)
  rw [hm.out, HW.out] at hh
  refine hh.mono fun e w' he => ?_
  have hb := hb.trans (he.2.mono hb.size)
  exact ⟨he.1, ⟨(hb.cell (p := ⟨b, off + n, none⟩) l1.out).trans h1.out, (h2.out.below hb).c, ⟨(hb.cell (p := ⟨gc, oc + n * 10, none⟩) l3.out).trans h3.out.1, (hb.cell (p := ⟨gc, oc + n * 10 + 1, none⟩) l3.out).trans h3.out.2.1, (hb.cell (p := ⟨gc, oc + n * 10 + 2, none⟩) l3.out).trans h3.out.2.2.1, (hb.cell (p := ⟨gc, oc + n * 10 + 3, none⟩) l3.out).trans h3.out.2.2.2.1, (hb.cell (p := ⟨gc, oc + n * 10 + 4, none⟩) l3.out).trans h3.out.2.2.2.2.1, (hb.cell (p := ⟨gc, oc + n * 10 + 5, none⟩) l3.out).trans h3.out.2.2.2.2.2.1, (hb.cell (p := ⟨gc, oc + n * 10 + 6, none⟩) l3.out).trans h3.out.2.2.2.2.2.2.1, (hb.cell (p := ⟨gc, oc + n * 10 + 7, none⟩) l3.out).trans h3.out.2.2.2.2.2.2.2.1, (hb.cell (p := ⟨gc, oc + n * 10 + 8, none⟩) l3.out).trans h3.out.2.2.2.2.2.2.2.2.1, (hb.cell (p := ⟨gc, oc + n * 10 + 9, none⟩) l3.out).trans h3.out.2.2.2.2.2.2.2.2.2⟩, hb⟩, he.2⟩
theorem sStepO {W1 w' : World} {b off n B gc oc m : Nat} {q : Option Addr} {qc : Nat} {bs : Array Value} {c : Cor} (h1 : Hid (W1.cell? ⟨b, off + n, none⟩ = some (.slice q m qc))) (h2 : Hid (Blk W1 B bs)) (h3 : Hid (W1.cell? ⟨gc, oc + n * 10, none⟩ = some (.int .u32 (c.r 0)) ∧ W1.cell? ⟨gc, oc + n * 10 + 1, none⟩ = some (.int .u32 (c.r 1)) ∧ W1.cell? ⟨gc, oc + n * 10 + 2, none⟩ = some (.int .u32 (c.r 2)) ∧ W1.cell? ⟨gc, oc + n * 10 + 3, none⟩ = some (.int .u32 (c.r 3)) ∧ W1.cell? ⟨gc, oc + n * 10 + 4, none⟩ = some (.int .u32 (c.r 4)) ∧ W1.cell? ⟨gc, oc + n * 10 + 5, none⟩ = some (.int .u32 (c.r 5)) ∧ W1.cell? ⟨gc, oc + n * 10 + 6, none⟩ = some (.int .u32 (c.r 6)) ∧ W1.cell? ⟨gc, oc + n * 10 + 7, none⟩ = some (.int .u32 (c.r 7)) ∧ W1.cell? ⟨gc, oc + n * 10 + 8, none⟩ = some (.int .i64 c.pc) ∧ W1.cell? ⟨gc, oc + n * 10 + 9, none⟩ = some (.bool c.h))) (l1 : Hid (b < W1.heap.size)) (l3 : Hid (gc < W1.heap.size)) (hb : Below W1.heap.size W1 w') :
    w'.cell? ⟨b, off + n, none⟩ = some (.slice q m qc) ∧ (∀ j, w'.cell? ⟨B, j, none⟩ = bs[j]?) ∧ w'.cell? ⟨gc, oc + n * 10, none⟩ = some (.int .u32 (c.r 0)) ∧ w'.cell? ⟨gc, oc + n * 10 + 1, none⟩ = some (.int .u32 (c.r 1)) ∧ w'.cell? ⟨gc, oc + n * 10 + 2, none⟩ = some (.int .u32 (c.r 2)) ∧ w'.cell? ⟨gc, oc + n * 10 + 3, none⟩ = some (.int .u32 (c.r 3)) ∧ w'.cell? ⟨gc, oc + n * 10 + 4, none⟩ = some (.int .u32 (c.r 4)) ∧ w'.cell? ⟨gc, oc + n * 10 + 5, none⟩ = some (.int .u32 (c.r 5)) ∧ w'.cell? ⟨gc, oc + n * 10 + 6, none⟩ = some (.int .u32 (c.r 6)) ∧ w'.cell? ⟨gc, oc + n * 10 + 7, none⟩ = some (.int .u32 (c.r 7)) ∧ w'.cell? ⟨gc, oc + n * 10 + 8, none⟩ = some (.int .i64 c.pc) ∧ w'.cell? ⟨gc, oc + n * 10 + 9, none⟩ = some (.bool c.h) ∧ Below W1.heap.size W1 w' :=
  ⟨(hb.cell (p := ⟨b, off + n, none⟩) l1.out).trans h1.out, (h2.out.below hb).c, (hb.cell (p := ⟨gc, oc + n * 10, none⟩) l3.out).trans h3.out.1, (hb.cell (p := ⟨gc, oc + n * 10 + 1, none⟩) l3.out).trans h3.out.2.1, (hb.cell (p := ⟨gc, oc + n * 10 + 2, none⟩) l3.out).trans h3.out.2.2.1, (hb.cell (p := ⟨gc, oc + n * 10 + 3, none⟩) l3.out).trans h3.out.2.2.2.1, (hb.cell (p := ⟨gc, oc + n * 10 + 4, none⟩) l3.out).trans h3.out.2.2.2.2.1, (hb.cell (p := ⟨gc, oc + n * 10 + 5, none⟩) l3.out).trans h3.out.2.2.2.2.2.1, (hb.cell (p := ⟨gc, oc + n * 10 + 6, none⟩) l3.out).trans h3.out.2.2.2.2.2.2.1, (hb.cell (p := ⟨gc, oc + n * 10 + 7, none⟩) l3.out).trans h3.out.2.2.2.2.2.2.2.1, (hb.cell (p := ⟨gc, oc + n * 10 + 8, none⟩) l3.out).trans h3.out.2.2.2.2.2.2.2.2.1, (hb.cell (p := ⟨gc, oc + n * 10 + 9, none⟩) l3.out).trans h3.out.2.2.2.2.2.2.2.2.2, hb⟩
theorem kdoneR (q : Option Addr) (m qc : Nat) (l : List I5) (c d : Cor) (was : Int) (W1 W : World) (b off n g : Nat) (hm : Hid (l.length = m)) (HP : Hid (Prg W1 q l)) (HD : Hid (d = doneOf l c was)) (HF : Hid c.Fits)
    (h1 : W1.cell? ⟨b, off + n, none⟩ = some (.slice q m qc)) (h3 : Hid (W1.cell? ⟨g, n * 10, none⟩ = some (.int .u32 (c.r 0)) ∧ W1.cell? ⟨g, n * 10 + 1, none⟩ = some (.int .u32 (c.r 1)) ∧ W1.cell? ⟨g, n * 10 + 2, none⟩ = some (.int .u32 (c.r 2)) ∧ W1.cell? ⟨g, n * 10 + 3, none⟩ = some (.int .u32 (c.r 3)) ∧ W1.cell? ⟨g, n * 10 + 4, none⟩ = some (.int .u32 (c.r 4)) ∧ W1.cell? ⟨g, n * 10 + 5, none⟩ = some (.int .u32 (c.r 5)) ∧ W1.cell? ⟨g, n * 10 + 6, none⟩ = some (.int .u32 (c.r 6)) ∧ W1.cell? ⟨g, n * 10 + 7, none⟩ = some (.int .u32 (c.r 7)) ∧ W1.cell? ⟨g, n * 10 + 8, none⟩ = some (.int .i64 c.pc) ∧ W1.cell? ⟨g, n * 10 + 9, none⟩ = some (.bool c.h))) (h4 : Hid (∀ j, W1.frozen? ⟨g, j, none⟩ = false)) (l3 : Hid (g < W1.heap.size)) (l1 : Hid (b < W1.heap.size)) (hb : Below W1.heap.size W1 W) :
    Calls Try.prog 38 #[.slice q m qc, .agg #[.int .u32 (c.r 0), .int .u32 (c.r 1), .int .u32 (c.r 2), .int .u32 (c.r 3), .int .u32 (c.r 4), .int .u32 (c.r 5), .int .u32 (c.r 6), .int .u32 (c.r 7), .int .i64 c.pc, .bool c.h], .int .u32 was] W fun e w' => e = .returned (.agg #[.int .u32 (d.r 0), .int .u32 (d.r 1), .int .u32 (d.r 2), .int .u32 (d.r 3), .int .u32 (d.r 4), .int .u32 (d.r 5), .int .u32 (d.r 6), .int .u32 (d.r 7), .int .i64 d.pc, .bool d.h]) ∧ (w'.cell? ⟨b, off + n, none⟩ = some (.slice q m qc)) ∧ (w'.cell? ⟨g, n * 10, none⟩ = some (.int .u32 (c.r 0)) ∧ w'.cell? ⟨g, n * 10 + 1, none⟩ = some (.int .u32 (c.r 1)) ∧ w'.cell? ⟨g, n * 10 + 2, none⟩ = some (.int .u32 (c.r 2)) ∧ w'.cell? ⟨g, n * 10 + 3, none⟩ = some (.int .u32 (c.r 3)) ∧ w'.cell? ⟨g, n * 10 + 4, none⟩ = some (.int .u32 (c.r 4)) ∧ w'.cell? ⟨g, n * 10 + 5, none⟩ = some (.int .u32 (c.r 5)) ∧ w'.cell? ⟨g, n * 10 + 6, none⟩ = some (.int .u32 (c.r 6)) ∧ w'.cell? ⟨g, n * 10 + 7, none⟩ = some (.int .u32 (c.r 7)) ∧ w'.cell? ⟨g, n * 10 + 8, none⟩ = some (.int .i64 c.pc) ∧ w'.cell? ⟨g, n * 10 + 9, none⟩ = some (.bool c.h)) ∧ (∀ j, w'.frozen? ⟨g, j, none⟩ = false) ∧ Below W1.heap.size W1 w' := by
  have hh := doneR_any q qc l c was W (HP.out.below hb) HF.out
  rw [hm.out, ← HD.out] at hh
  refine hh.mono fun e w' he => ?_
  have hb := hb.trans (he.2.mono hb.size)
  exact ⟨he.1, (hb.cell (p := ⟨b, off + n, none⟩) l1.out).trans h1, ⟨(hb.cell (p := ⟨g, n * 10, none⟩) l3.out).trans h3.out.1, (hb.cell (p := ⟨g, n * 10 + 1, none⟩) l3.out).trans h3.out.2.1, (hb.cell (p := ⟨g, n * 10 + 2, none⟩) l3.out).trans h3.out.2.2.1, (hb.cell (p := ⟨g, n * 10 + 3, none⟩) l3.out).trans h3.out.2.2.2.1, (hb.cell (p := ⟨g, n * 10 + 4, none⟩) l3.out).trans h3.out.2.2.2.2.1, (hb.cell (p := ⟨g, n * 10 + 5, none⟩) l3.out).trans h3.out.2.2.2.2.2.1, (hb.cell (p := ⟨g, n * 10 + 6, none⟩) l3.out).trans h3.out.2.2.2.2.2.2.1, (hb.cell (p := ⟨g, n * 10 + 7, none⟩) l3.out).trans h3.out.2.2.2.2.2.2.2.1, (hb.cell (p := ⟨g, n * 10 + 8, none⟩) l3.out).trans h3.out.2.2.2.2.2.2.2.2.1, (hb.cell (p := ⟨g, n * 10 + 9, none⟩) l3.out).trans h3.out.2.2.2.2.2.2.2.2.2⟩, fun j => (hb.frozen (p := ⟨g, j, none⟩) l3.out).trans (h4.out j), hb⟩
end Go.Proofs.Ytekiialhljfglaa
/- What the reference's Step of layer 4 answers; it writes nothing that was there. -/
namespace Go.Proofs.Ytekiialhljfglaa
set_option linter.unusedVariables false
open Go.ChangeShapes Go.WideShapes Go.ChangeAt Go.RowKit

/-- What lies behind p lies in blocks that meet N. -/
def NS (N : Nat → Prop) (p : Option Addr) (len : Nat) : Prop := 0 < len → ∀ b o, p = some ⟨b, o, none⟩ → N b
/-- A machine of which all lies in blocks that meet N. -/
def MachN (N : Nat → Prop) (w : World) (v : Value) (a : Atm) : Prop :=
  ∃ pm cm pc cc po co, v = .agg #[.slice pm a.mem.length cm, .slice pc a.cores.length cc, .slice po a.outs.length co] ∧ (Sl w pm a.mem.length (memC a.mem) ∧ Sl w pc a.cores.length (coresC a.cores) ∧ Sl w po a.outs.length (outsC a.outs)) ∧ NS N pm a.mem.length ∧ NS N pc a.cores.length ∧ NS N po a.outs.length
theorem MachN.mach {N : Nat → Prop} {w : World} {v : Value} {a : Atm} (h : MachN N w v a) : Mach w v a := by
  obtain ⟨pm, cm, pc, cc, po, co, e, ⟨h1, h2, h3⟩, _⟩ := h
  exact ⟨pm, cm, pc, cc, po, co, e, h1, h2, h3⟩
theorem MachN.below {N : Nat → Prop} {w w' : World} {v : Value} {a : Atm} (h : MachN N w v a) (hb : Below w.heap.size w w') : MachN N w' v a := by
  obtain ⟨pm, cm, pc, cc, po, co, e, ⟨h1, h2, h3⟩, g⟩ := h
  exact ⟨pm, cm, pc, cc, po, co, e, ⟨h1.below hb, h2.below hb, h3.below hb⟩, g⟩
theorem Sl.setN {N : Nat → Prop} {w : World} {p : Option Addr} {len : Nat} {cs : List Value} (h : Sl w p len cs) (hn : NS N p len) {B : Nat} (hB : ¬ N B) (j : Nat) (v : Value) : Sl (w.setCell ⟨B, j, none⟩ v) p len cs := fun h0 => by
  obtain ⟨b, off, h1, h2, h3⟩ := h h0
  have hne : b ≠ B := fun e => hB (e ▸ hn h0 b off h2)
  exact ⟨b, off, by rw [size_set]; exact h1, h2, fun j hj => (cell_other hne).trans (h3 j hj)⟩
theorem MachN.set {N : Nat → Prop} {w : World} {v : Value} {a : Atm} (h : MachN N w v a) {B : Nat} (hB : ¬ N B) (j : Nat) (u : Value) : MachN N (w.setCell ⟨B, j, none⟩ u) v a := by
  obtain ⟨pm, cm, pc, cc, po, co, e, ⟨h1, h2, h3⟩, g⟩ := h
  exact ⟨pm, cm, pc, cc, po, co, e, ⟨h1.setN g.1 hB j u, h2.setN g.2.1 hB j u, h3.setN g.2.2 hB j u⟩, g⟩
theorem NS.own {N : Nat → Prop} {w : World} {base : Nat} {e : TypeId} {size : Nat} {p : Option Addr} {l c n : Nat} {xs : List Value} (h : w.ownsRow base e size (.slice p l c) n xs) (hN : ∀ b, base ≤ b → N b) : NS N p n := fun _ b o e => hN b (h.lt b (by rw [e]; rfl)).1
theorem OwnM.machN {N : Nat → Prop} {w : World} {base : Nat} {vm vc vo : Value} {a : Atm} (h : OwnM w base vm vc vo a) (hN : ∀ b, base ≤ b → N b) : MachN N w (.agg #[vm, vc, vo]) a := by
  have hm := h.m
  have hc := h.c
  have ho := h.o
  obtain ⟨pm, cm, rfl, h1⟩ := Sl.own h.m
  obtain ⟨pc, cc, rfl, h2⟩ := Sl.own h.c
  obtain ⟨po, co, rfl, h3⟩ := Sl.own h.o
  exact ⟨pm, cm, pc, cc, po, co, rfl, ⟨h1, h2, h3⟩, NS.own hm hN, NS.own hc hN, NS.own ho hN⟩

set_option maxHeartbeats 1000000 in
theorem stepR_in (b off cap np : Nat) (P : List (List I5)) (q pm po : Option Addr) (m qc : Nat) (l : List I5) (c : Cor) (lm cm gc oc len cc lo co : Nat) (a : Atm) (n : Nat) (k at_ v o : Int) (w : World) (hb0 : b < w.heap.size) (hq : w.cell? ⟨b, off + n, none⟩ = some (.slice q m qc)) (hql : l.length = m) (hqp : Prg w q l) (hn : n < len) (hnp : len = np)
    (hlm : a.mem.length = lm) (hlc : a.cores.length = len) (hlo : a.outs.length = lo) (hc : c = coreAt a.cores n) (hf : c.Fits) (hw : wantOf l c lm = ⟨k, at_, v, o⟩) (hmax : lm ≤ 64) (hcm : len * 48 ≤ 140737488355328) (hmo : (lo + 1) * 16 ≤ 140737488355328)
    (s1 : Sl w pm lm (memC a.mem)) (hgc : gc < w.heap.size) (hcell : ∀ j, j < len * 10 → w.cell? ⟨gc, oc + j, none⟩ = (coresC a.cores)[j]?) (s3 : Sl w po lo (outsC a.outs))
    (N : Nat → Prop) (hN : Hid (∀ b, w.heap.size ≤ b → N b)) (n1' : Hid (NS N pm lm)) (n3' : Hid (NS N po lo)) (a' : Atm) (ha' : Hid (a' = ⟨actMem a.mem ⟨k, at_, v, o⟩, a.cores.set n (doneOf l c (actWas a.mem ⟨k, at_, v, o⟩)), if k = 4 then a.outs ++ [((n : Int), v)] else a.outs⟩)) :
    Calls Try.prog 20 #[.slice (some ⟨b, off, none⟩) np cap, .agg #[.slice pm lm cm, .slice (some ⟨gc, oc, none⟩) len cc, .slice po lo co], .int .i64 n] w fun e w' => ∃ u, e = .returned u ∧ MachN N w' u a' ∧ Below w.heap.size w w' := by
  have h3 : Hid (w.cell? ⟨gc, oc + n * 10, none⟩ = some (.int .u32 (c.r 0)) ∧ w.cell? ⟨gc, oc + n * 10 + 1, none⟩ = some (.int .u32 (c.r 1)) ∧ w.cell? ⟨gc, oc + n * 10 + 2, none⟩ = some (.int .u32 (c.r 2)) ∧ w.cell? ⟨gc, oc + n * 10 + 3, none⟩ = some (.int .u32 (c.r 3)) ∧ w.cell? ⟨gc, oc + n * 10 + 4, none⟩ = some (.int .u32 (c.r 4)) ∧ w.cell? ⟨gc, oc + n * 10 + 5, none⟩ = some (.int .u32 (c.r 5)) ∧ w.cell? ⟨gc, oc + n * 10 + 6, none⟩ = some (.int .u32 (c.r 6)) ∧ w.cell? ⟨gc, oc + n * 10 + 7, none⟩ = some (.int .u32 (c.r 7)) ∧ w.cell? ⟨gc, oc + n * 10 + 8, none⟩ = some (.int .i64 c.pc) ∧ w.cell? ⟨gc, oc + n * 10 + 9, none⟩ = some (.bool c.h)) := by
    have hr : ∀ j, j < 10 → w.cell? ⟨gc, oc + n * 10 + j, none⟩ = c.row[j]? := fun j hj => by
      rw [show oc + n * 10 + j = oc + (n * 10 + j) by omega, hcell (n * 10 + j) (by omega), coresC_at _ _ _ (by rw [hlc]; exact hn) hj, hc]
    exact ⟨hr 0 (by omega), hr 1 (by omega), hr 2 (by omega), hr 3 (by omega), hr 4 (by omega), hr 5 (by omega), hr 6 (by omega), hr 7 (by omega), hr 8 (by omega), hr 9 (by omega)⟩
  have n0 : (0 : Int) ≤ (n : Int) := by omega
  have n1 : (n : Int) < (np : Int) := by omega
  have n2 : (n : Int) < (len : Int) := by omega
  have HQ := Lib.hid hq
  have HQL := Lib.hid hql
  have HQP := Lib.hid hqp
  have HB0 := Lib.hid hb0
  have HC := Lib.hid hc
  have HF := Lib.hid hf
  have HW := Lib.hid hw
  have HLC := Lib.hid hlc
  have HLM := Lib.hid hlm
  have HLO := Lib.hid hlo
  have HGC := Lib.hid hgc
  have HNP := Lib.hid hnp
  have HMO := Lib.hid hmo
  have HCM := Lib.hid hcm
  have S1 := Lib.hid s1
  have S2 : Hid (Sl w (some ⟨gc, oc, none⟩) len (coresC a.cores)) := fun _ => ⟨gc, oc, hgc, rfl, fun j hj => hcell j (by rw [coresC_len, hlc] at hj; exact hj)⟩
  have S3 := Lib.hid s3
  clear hq hql hqp hb0 hc hf hw hlc hlm hlo hgc hnp hmo hcm s1 s3 hcell
  obtain ⟨i0, hi, hz0, hz1, hz2⟩ := info_parts info63
  obtain ⟨j0, ji, jz0, jz1, jz2⟩ := info_parts info55
  go_enter Try.func20, Try.ntmps20
  go_upto_region 1 with fail
  obtain ⟨W1, hW1⟩ : ∃ W1, W1 = (w.alloc (.cells #[.slice pm lm cm, .slice (some ⟨gc, oc, none⟩) len cc, .slice po lo co] 27)).alloc (.cells #[.slice none 0 0, .slice none 0 0, .slice none 0 0] 27) := ⟨_, rfl⟩
  have HBW : Hid (Below w.heap.size w W1) := by rw [hW1]; exact ((Below.refl _ _).alloc (Nat.le_refl _) _).alloc (by simp) _
  have HK1 : Hid (Blk W1 w.heap.size #[.slice pm lm cm, .slice (some ⟨gc, oc, none⟩) len cc, .slice po lo co]) := by rw [hW1]; exact (Blk.new w _ 27).alloc _
  have HK2 : Hid (Blk W1 (w.heap.size + 1) #[.slice none 0 0, .slice none 0 0, .slice none 0 0]) := by
    rw [hW1]
    have h := Blk.new (w.alloc (.cells #[.slice pm lm cm, .slice (some ⟨gc, oc, none⟩) len cc, .slice po lo co] 27)) #[.slice none 0 0, .slice none 0 0, .slice none 0 0] 27
    rw [World.size_alloc] at h
    exact h
  have HK3 : Hid (w.heap.size + 2 ≤ W1.heap.size) := by show w.heap.size + 2 ≤ W1.heap.size; rw [hW1, World.size_alloc, World.size_alloc]; omega
  rw [← hW1]
  clear hW1
  have HQ1 : Hid (W1.cell? ⟨b, off + n, none⟩ = some (.slice q m qc)) := (HBW.out.cell (p := ⟨b, off + n, none⟩) HB0.out).trans HQ.out
  have HP1 : Hid (Prg W1 q l) := HQP.out.below HBW.out
  have HC1 : Hid (W1.cell? ⟨gc, oc + n * 10, none⟩ = some (.int .u32 (c.r 0)) ∧ W1.cell? ⟨gc, oc + n * 10 + 1, none⟩ = some (.int .u32 (c.r 1)) ∧ W1.cell? ⟨gc, oc + n * 10 + 2, none⟩ = some (.int .u32 (c.r 2)) ∧ W1.cell? ⟨gc, oc + n * 10 + 3, none⟩ = some (.int .u32 (c.r 3)) ∧ W1.cell? ⟨gc, oc + n * 10 + 4, none⟩ = some (.int .u32 (c.r 4)) ∧ W1.cell? ⟨gc, oc + n * 10 + 5, none⟩ = some (.int .u32 (c.r 5)) ∧ W1.cell? ⟨gc, oc + n * 10 + 6, none⟩ = some (.int .u32 (c.r 6)) ∧ W1.cell? ⟨gc, oc + n * 10 + 7, none⟩ = some (.int .u32 (c.r 7)) ∧ W1.cell? ⟨gc, oc + n * 10 + 8, none⟩ = some (.int .i64 c.pc) ∧ W1.cell? ⟨gc, oc + n * 10 + 9, none⟩ = some (.bool c.h)) := by have hb := HBW.out; have l3 := HGC; have h3 := h3; exact ⟨(hb.cell (p := ⟨gc, oc + n * 10, none⟩) l3.out).trans h3.out.1, (hb.cell (p := ⟨gc, oc + n * 10 + 1, none⟩) l3.out).trans h3.out.2.1, (hb.cell (p := ⟨gc, oc + n * 10 + 2, none⟩) l3.out).trans h3.out.2.2.1, (hb.cell (p := ⟨gc, oc + n * 10 + 3, none⟩) l3.out).trans h3.out.2.2.2.1, (hb.cell (p := ⟨gc, oc + n * 10 + 4, none⟩) l3.out).trans h3.out.2.2.2.2.1, (hb.cell (p := ⟨gc, oc + n * 10 + 5, none⟩) l3.out).trans h3.out.2.2.2.2.2.1, (hb.cell (p := ⟨gc, oc + n * 10 + 6, none⟩) l3.out).trans h3.out.2.2.2.2.2.2.1, (hb.cell (p := ⟨gc, oc + n * 10 + 7, none⟩) l3.out).trans h3.out.2.2.2.2.2.2.2.1, (hb.cell (p := ⟨gc, oc + n * 10 + 8, none⟩) l3.out).trans h3.out.2.2.2.2.2.2.2.2.1, (hb.cell (p := ⟨gc, oc + n * 10 + 9, none⟩) l3.out).trans h3.out.2.2.2.2.2.2.2.2.2⟩
  have L1 : Hid (b < W1.heap.size) := Nat.lt_of_lt_of_le HB0.out HBW.out.size
  have L3 : Hid (gc < W1.heap.size) := Nat.lt_of_lt_of_le HGC.out HBW.out.size
  clear h3
  go_cut [7] (fun s7 wc => ∃ X, s7 = .pointer (some ⟨X, 0, none⟩) ∧ Blk wc X #[.int .i64 k, .int .i64 at_, .int .u32 v, .int .u32 o] ∧ W1.heap.size ≤ X ∧ Below W1.heap.size W1 wc)
  case first =>
    go_region_held3 (fun w' => w'.cell? ⟨b, off + n, none⟩ = some (.slice q m qc) ∧ (∀ j, w'.cell? ⟨w.heap.size, j, none⟩ = (#[.slice pm lm cm, .slice (some ⟨gc, oc, none⟩) len cc, .slice po lo co] : Array Value)[j]?) ∧ w'.cell? ⟨gc, oc + n * 10, none⟩ = some (.int .u32 (c.r 0)) ∧ w'.cell? ⟨gc, oc + n * 10 + 1, none⟩ = some (.int .u32 (c.r 1)) ∧ w'.cell? ⟨gc, oc + n * 10 + 2, none⟩ = some (.int .u32 (c.r 2)) ∧ w'.cell? ⟨gc, oc + n * 10 + 3, none⟩ = some (.int .u32 (c.r 3)) ∧ w'.cell? ⟨gc, oc + n * 10 + 4, none⟩ = some (.int .u32 (c.r 4)) ∧ w'.cell? ⟨gc, oc + n * 10 + 5, none⟩ = some (.int .u32 (c.r 5)) ∧ w'.cell? ⟨gc, oc + n * 10 + 6, none⟩ = some (.int .u32 (c.r 6)) ∧ w'.cell? ⟨gc, oc + n * 10 + 7, none⟩ = some (.int .u32 (c.r 7)) ∧ w'.cell? ⟨gc, oc + n * 10 + 8, none⟩ = some (.int .i64 c.pc) ∧ w'.cell? ⟨gc, oc + n * 10 + 9, none⟩ = some (.bool c.h) ∧ Below W1.heap.size W1 w')
      ((refine sStepO HQ1 HK1 HC1 L1 L3 ?_; simp (config := { maxDischargeDepth := 60 }) only [bA, bS, bD, bR, *]))
      (first
        | (go_at_call 37; refine (kwantsR q m qc l c lm k at_ v o b off n w.heap.size gc oc _ W1 _ HQL HP1 HF HW hmax HQ1 HK1 HC1 L1 L3 ?_).mono ?_; (first | assumption | (exact (‹_ ∧ _ ∧ _ ∧ _ ∧ _ ∧ _ ∧ _ ∧ _ ∧ _ ∧ _ ∧ _ ∧ _ ∧ _›).2.2.2.2.2.2.2.2.2.2.2.2)); (rintro e w4 ⟨rfl, ⟨c1, c2, ⟨d0, d1, d2, d3, d4, d5, d6, d7, d8, d9⟩, hb4⟩, hd4⟩; (first | with_reducible have t1 := Trk.one hd4 | skip); (try (have v1 := t1.blk.c; have v2 := t1.blk.f; have v3 := t1.blk.lt; have ge1 := t1.ge; have bk1 := t1.blk)))))
    all_goals
      go_wp2_with fail
      go_meet
      case rel =>
        go_light
        first
          | exact ⟨_, rfl, Blk.new w4 _ 30, hb4.size, hb4.alloc hb4.size _⟩
          | exact ⟨_, rfl, of_eq_true (storeW bk1), Nat.le_refl _, (((hb4.setCell (Nat.le_refl _) _).setCell (Nat.le_refl _) _).setCell (Nat.le_refl _) _).setCell (Nat.le_refl _) _⟩
  case rest =>
    obtain ⟨X, rfl, kX, hX, hbc⟩ := hcut
    have HKX := Lib.hid kX
    have HWC : Hid (Below w.heap.size w wc) := HBW.out.trans (hbc.mono HBW.out.size)
    have HKB := Lib.hid (HK1.out.below hbc)
    have HKN := Lib.hid (HK2.out.below hbc)
    have HX2 : Hid (w.heap.size + 2 ≤ X) := Nat.le_trans HK3.out hX
    have HS2 : Hid (w.heap.size + 2 ≤ wc.heap.size) := Nat.le_trans HK3.out hbc.size
    clear kX hX hbc HK1 HK2 HQ1 HP1 HC1 L1 L3 HK3
    have c1 := HKB.out.c
    have x0 : wc.cell? ⟨X, 0, none⟩ = some (.int .i64 k) := HKX.out.c 0
    have x1 : wc.cell? ⟨X, 1, none⟩ = some (.int .i64 at_) := HKX.out.c 1
    have x2 : wc.cell? ⟨X, 2, none⟩ = some (.int .u32 v) := HKX.out.c 2
    have x3 : wc.cell? ⟨X, 3, none⟩ = some (.int .u32 o) := HKX.out.c 3
    go_wp2_with fail
    have hact := actR_any pm cm a.mem ⟨k, at_, v, o⟩ wc (by rw [HLM.out]; omega) (by rw [HLM.out]; exact S1.out.below HWC.out)
    rw [HLM.out] at hact
    refine hact.mono ?_
    clear hact
    rintro e w5 ⟨q1, c1', rfl, hs5, hq5, hb5⟩
    have HNQ : Hid (NS N q1 lm) := by
      rcases hq5 with he | he
      · subst he; exact n1'.out
      · exact fun _ b o e => hN.out b (Nat.le_trans HWC.out.size (he b o e))
    have HM5 : Hid (SlB w.heap.size w5 q1 lm (memC (actMem a.mem ⟨k, at_, v, o⟩))) := by
      rcases hq5 with he | he
      · subst he
        exact fun h0 => by
          obtain ⟨b1, o1, g1, g2, g3⟩ := S1.out h0
          obtain ⟨b2, o2, f1, f2, f3⟩ := hs5 h0
          have e2 := f2.symm.trans g2
          injection e2 with e2
          injection e2 with e2 e3
          exact ⟨b2, o2, f1, by omega, by omega, f2, f3⟩
      · exact fun h0 => by
          obtain ⟨b2, o2, f1, f2, f3⟩ := hs5 h0
          have := he b2 o2 f2
          have h2 := HS2.out
          exact ⟨b2, o2, f1, by omega, by omega, f2, f3⟩
    have HWC5 : Hid (Below w.heap.size w w5) := HWC.out.trans (hb5.mono HWC.out.size)
    have HKB5 := Lib.hid (HKB.out.below hb5)
    have HKN5 := Lib.hid (HKN.out.below hb5)
    have HKX5 := Lib.hid (HKX.out.below hb5)
    have HS5 : Hid (w.heap.size + 2 ≤ w5.heap.size) := Nat.le_trans HS2.out hb5.size
    clear hs5 hq5 hb5 c1 x0 x1 x2 x3 HKB HKN HKX HWC HS2
    obtain ⟨was, hwas⟩ : ∃ was, was = actWas a.mem ⟨k, at_, v, o⟩ := ⟨_, rfl⟩
    rw [← hwas]
    have HWAS := Lib.hid hwas
    clear hwas
    have cB := HKB5.out.c
    have fB := HKB5.out.f
    have lB := HKB5.out.lt
    have x0 : w5.cell? ⟨X, 0, none⟩ = some (.int .i64 k) := HKX5.out.c 0
    have xne : w.heap.size ≠ X := by have := HX2.out; omega
    go_upto_if 35 with fail
    obtain ⟨w6, hw6⟩ : ∃ w6, w6 = w5.setCell ⟨w.heap.size, 0, none⟩ (.slice q1 lm c1') := ⟨_, rfl⟩
    have HKB6 : Hid (Blk w6 w.heap.size #[.slice q1 lm c1', .slice (some ⟨gc, oc, none⟩) len cc, .slice po lo co]) := by rw [hw6]; exact (HKB5.out.set _ (by simp)).cast (by simp)
    have HKN6 : Hid (Blk w6 (w.heap.size + 1) #[.slice none 0 0, .slice none 0 0, .slice none 0 0]) := by rw [hw6]; exact HKN5.out.other _ (Nat.ne_of_lt (Nat.lt_succ_self _))
    have HKX6 : Hid (Blk w6 X #[.int .i64 k, .int .i64 at_, .int .u32 v, .int .u32 o]) := by rw [hw6]; exact HKX5.out.other _ xne
    have HM6 : Hid (SlB w.heap.size w6 q1 lm (memC (actMem a.mem ⟨k, at_, v, o⟩))) := by rw [hw6]; exact HM5.out.set0 _ _
    have HB6 : Hid (Below w.heap.size w w6) := by rw [hw6]; exact HWC5.out.setCell (Nat.le_refl _) _
    have HS6 : Hid (w.heap.size + 2 ≤ w6.heap.size) := by show w.heap.size + 2 ≤ w6.heap.size; rw [hw6, size_set]; exact HS5.out
    rw [← hw6]
    clear hw6 cB fB lB x0 xne HKB5 HKN5 HKX5 HM5 HWC5 HS5
    go_cut [] (fun wd => ∃ q3 l3 c3, Blk wd w.heap.size #[.slice q1 lm c1', .slice (some ⟨gc, oc, none⟩) len cc, .slice q3 l3 c3] ∧ Blk wd (w.heap.size + 1) #[.slice none 0 0, .slice none 0 0, .slice none 0 0] ∧ a'.outs.length = l3 ∧ SlB w.heap.size wd q3 l3 (outsC a'.outs) ∧ SlB w.heap.size wd q1 lm (memC (actMem a.mem ⟨k, at_, v, o⟩)) ∧ Below w.heap.size w wd ∧ w.heap.size + 2 ≤ wd.heap.size ∧ NS N q3 l3)
    case first =>
      have cB := HKB6.out.c
      have cX := HKX6.out.c
      by_cases hk4 : k = 4
      · have e4 : (k == 4) = true := by rw [hk4]; rfl
        go_wp2_with fail
        have hS0 : (fun w' : World => w'.cell? ⟨w.heap.size, 2, none⟩ = some (.slice po lo co) ∧ w'.cell? ⟨X, 2, none⟩ = some (.int .u32 v)) w6.drew := ⟨cB 2, cX 2⟩
        refine region_planT (fun w' : World => w'.cell? ⟨w.heap.size, 2, none⟩ = some (.slice po lo co) ∧ w'.cell? ⟨X, 2, none⟩ = some (.int .u32 v)) 10 (.read 1 (.read 2 (.read 4 (.read 5 (.read 6 (.read 7 (.two 0 8 (.two 3 8 (.one 8 (.one 9 .stop)) (.one 3 (.one 9 .stop))) (.one 0 (.one 3 (.one 9 .stop)))))))))) (by kernel_rfl) (by kernel_rfl) hS0 ?_
        have HKB7 : Hid (Blk w6.drew w.heap.size #[.slice q1 lm c1', .slice (some ⟨gc, oc, none⟩) len cc, .slice po lo co]) := HKB6.out.drew
        have HKN7 : Hid (Blk w6.drew (w.heap.size + 1) #[.slice none 0 0, .slice none 0 0, .slice none 0 0]) := HKN6.out.drew
        have HKX7 : Hid (Blk w6.drew X #[.int .i64 k, .int .i64 at_, .int .u32 v, .int .u32 o]) := HKX6.out.drew
        have HM7 : Hid (SlB w.heap.size w6.drew q1 lm (memC (actMem a.mem ⟨k, at_, v, o⟩))) := HM6.out.below (Below.refl _ _).drew
        have HB7 : Hid (Below w.heap.size w w6.drew) := HB6.out.drew
        have HS7 : Hid (w.heap.size + 2 ≤ w6.drew.heap.size) := HS6.out
        have S37 : Hid (Sl w6.drew po lo (outsC a.outs)) := S3.out.below HB7.out
        clear cB cX hS0 HKB6 HKN6 HKX6 HM6 HB6 HS6
        revert HKB7 HKN7 HKX7 HM7 HB7 HS7 S37
        generalize w6.drew = w7
        intro HKB7 HKN7 HKX7 HM7 HB7 HS7 S37
        have keepS : ∀ {u : World}, Below w7.heap.size w7 u → (u.cell? ⟨w.heap.size, 2, none⟩ = some (.slice po lo co) ∧ u.cell? ⟨X, 2, none⟩ = some (.int .u32 v)) := fun hb => ⟨(HKB7.out.below hb).c 2, (HKX7.out.below hb).c 2⟩
        iterate 6
          refine planT_read (v := ?_) rfl (by rfl) ?_ ?_
          rotate_left
          · intro w' hS
            try dsimp only at hS
            go_simp
            try with_reducible rfl
          try simp only [Act.put, List.setIfInBounds_toArray, List.set_cons_zero, List.set_cons_succ, List.getElem_toArray, List.getElem_cons_zero, List.getElem_cons_succ]
        refine planT_two ?_ ?_
        · -- 0 first
          have g0 : Below w7.heap.size w7 w7 := Below.refl _ _
          refine op_make (v := .slice (some ⟨w7.heap.size, 0, none⟩) 0 0) (w1 := (w7.alloc (.cells #[] 63))) rfl (by rfl) ?_ ?_
          · go_simp
          have g1 : Below w7.heap.size w7 (w7.alloc (.cells #[] 63)) := g0.alloc g0.size _
          have r1 : World.ownsRow (w7.alloc (.cells #[] 63)) w7.heap.size 63 2 (.slice (some ⟨w7.heap.size, 0, none⟩) 0 0) 0 [] := fresh_made g0.size
          refine ⟨keepS g1, ?_⟩
          try simp only [Act.put, List.setIfInBounds_toArray, List.set_cons_zero, List.set_cons_succ, List.getElem_toArray, List.getElem_cons_zero, List.getElem_cons_succ]
          refine planT_two ?_ ?_
          · refine op_wp rfl (by rfl) ?_
            try simp only [List.getElem_toArray, List.getElem_cons_zero, List.getElem_cons_succ]
            refine (wp_append_sl _ _ 25 rfl w7.heap.size 63 i0 (.agg #[.int .i64 0, .int .u32 0]) 2 16 Try.underlying25 hi hz0 hz1 hz2 rfl (by decide) _ _ _ rfl r1 po lo co (outsC a.outs) rfl (by rw [outsC_len, HLO.out]) (S37.out.below g1) (outsC_one' _) (by have := HMO.out; unfold maxLen; omega) (by have := HMO.out; omega) g1.size ?_)
            intro v8 w8 hown8 hgrow8 hblk8
            have g2 : Below w7.heap.size w7 w8 := g1.grown hgrow8 g1.size (fun j hj => (r1.lt j hj).1)
            rw [Nat.zero_add, List.nil_append] at hown8
            refine ⟨keepS g2, ?_⟩
            try simp only [Act.put, List.setIfInBounds_toArray, List.set_cons_zero, List.set_cons_succ, List.getElem_toArray, List.getElem_cons_zero, List.getElem_cons_succ]
            refine op_make (v := .slice (some ⟨w8.heap.size, 0, none⟩) 1 1) (w1 := (w8.alloc (.cells #[.int .i64 n, .int .u32 v] 63))) rfl (by rfl) ?_ ?_
            · go_simp
            have g3 : Below w7.heap.size w7 (w8.alloc (.cells #[.int .i64 n, .int .u32 v] 63)) := g2.alloc g2.size _
            have f3 : Blk (w8.alloc (.cells #[.int .i64 n, .int .u32 v] 63)) w8.heap.size #[.int .i64 n, .int .u32 v] := Blk.new w8 _ 63
            have r3 := hown8.alloc (.cells #[.int .i64 n, .int .u32 v] 63)
            refine ⟨keepS g3, ?_⟩
            try simp only [Act.put, List.setIfInBounds_toArray, List.set_cons_zero, List.set_cons_succ, List.getElem_toArray, List.getElem_cons_zero, List.getElem_cons_succ]
            refine op_wp rfl (by rfl) ?_
            try simp only [List.getElem_toArray, List.getElem_cons_zero, List.getElem_cons_succ]
            refine (wp_append_sl _ _ 25 rfl w7.heap.size 63 i0 (.agg #[.int .i64 0, .int .u32 0]) 2 16 Try.underlying25 hi hz0 hz1 hz2 rfl (by decide) _ _ _ rfl r3 (some ⟨w8.heap.size, 0, none⟩) 1 1 [.int .i64 n, .int .u32 v] rfl rfl (fun _ => ⟨_, 0, f3.lt, rfl, fun j hj => by rw [Nat.zero_add, f3.c]; simp⟩) (by intro u hu; simp at hu; rcases hu with rfl | rfl <;> rfl) (by have := HMO.out; unfold maxLen; omega) (by have := HMO.out; omega) g3.size ?_)
            intro v9 w9 hown9 hgrow9 hblk9
            have g4 : Below w7.heap.size w7 w9 := g3.grown hgrow9 g3.size (fun j hj => (r3.lt j hj).1)
            refine ⟨keepS g4, ?_⟩
            try simp only [Act.put, List.setIfInBounds_toArray, List.set_cons_zero, List.set_cons_succ, List.getElem_toArray, List.getElem_cons_zero, List.getElem_cons_succ]
            refine planT_stop ?_
            simp only [List.drop_succ_cons, List.drop_zero]
            have HG9 := Lib.hid g4
            have HO9 := Lib.hid hown9
            obtain ⟨g9, cap9, rfl⟩ := Joins.ownsRow_form hown9 (Nat.succ_pos _)
            have HKB9 := Lib.hid (HKB7.out.below HG9.out)
            have HKN9 := Lib.hid (HKN7.out.below HG9.out)
            clear hown9 hgrow9 hblk9 hown8 hgrow8 hblk8 keepS
            clear g4 g3 g2 g1 g0
            try clear r1 r2 r3 f1 f2 f3
            have cB := HKB9.out.c
            have fB := HKB9.out.f
            have lB := HKB9.out.lt
            go_wp2_with fail
            go_meet
            case rel =>
              go_light
              have hm9 : SlB w.heap.size w9 q1 lm (memC (actMem a.mem ⟨k, at_, v, o⟩)) := HM7.out.below HG9.out
              have hs9 : w7.heap.size ≤ w9.heap.size := HG9.out.size
              refine ⟨some ⟨g9, 0, none⟩, lo + 1, cap9, (HKB9.out.set _ (by simp)).cast (by simp), HKN9.out.other _ (Nat.ne_of_lt (Nat.lt_succ_self _)), ?_, ?_, hm9.set0 _ _, (HB7.out.trans (HG9.out.mono HB7.out.size)).setCell (Nat.le_refl _) _, by rw [size_set]; exact Nat.le_trans HS7.out hs9, fun _ b o e => hN.out b (by injection e with e; injection e with e; have := (HO9.out.lt g9 rfl).1; have h2 := HS7.out; omega)⟩
              · rw [ha'.out, if_pos hk4, List.length_append, HLO.out]; rfl
              · rw [ha'.out, if_pos hk4]
                show SlB _ _ _ _ (outsC (a.outs ++ [((n : Int), v)]))
                rw [outsC_app, outsC_one]
                refine SlB.set0 ?_ _ _
                obtain ⟨p9, l9, k9, e9, _, hsl9⟩ := SlB.own (B := w.heap.size) HO9.out (by have := HS7.out; omega)
                injection e9 with e9
                rw [e9]
                exact hsl9
          · refine op_make (v := .slice (some ⟨(w7.alloc (.cells #[] 63)).heap.size, 0, none⟩) 1 1) (w1 := ((w7.alloc (.cells #[] 63)).alloc (.cells #[.int .i64 n, .int .u32 v] 63))) rfl (by rfl) ?_ ?_
            · go_simp
            have g2 : Below w7.heap.size w7 ((w7.alloc (.cells #[] 63)).alloc (.cells #[.int .i64 n, .int .u32 v] 63)) := g1.alloc g1.size _
            have f2 : Blk ((w7.alloc (.cells #[] 63)).alloc (.cells #[.int .i64 n, .int .u32 v] 63)) (w7.alloc (.cells #[] 63)).heap.size #[.int .i64 n, .int .u32 v] := Blk.new (w7.alloc (.cells #[] 63)) _ 63
            have r2 := r1.alloc (.cells #[.int .i64 n, .int .u32 v] 63)
            refine ⟨keepS g2, ?_⟩
            try simp only [Act.put, List.setIfInBounds_toArray, List.set_cons_zero, List.set_cons_succ, List.getElem_toArray, List.getElem_cons_zero, List.getElem_cons_succ]
            refine op_wp rfl (by rfl) ?_
            try simp only [List.getElem_toArray, List.getElem_cons_zero, List.getElem_cons_succ]
            refine (wp_append_sl _ _ 25 rfl w7.heap.size 63 i0 (.agg #[.int .i64 0, .int .u32 0]) 2 16 Try.underlying25 hi hz0 hz1 hz2 rfl (by decide) _ _ _ rfl r2 po lo co (outsC a.outs) rfl (by rw [outsC_len, HLO.out]) (S37.out.below g2) (outsC_one' _) (by have := HMO.out; unfold maxLen; omega) (by have := HMO.out; omega) g2.size ?_)
            intro v8 w8 hown8 hgrow8 hblk8
            have g3 : Below w7.heap.size w7 w8 := g2.grown hgrow8 g2.size (fun j hj => (r2.lt j hj).1)
            rw [Nat.zero_add, List.nil_append] at hown8
            have f3 : Blk w8 (w7.alloc (.cells #[] 63)).heap.size #[.int .i64 n, .int .u32 v] := f2.grown hgrow8 (by intro e; have e2 := Option.some.inj e; (try simp only [size_new] at e2); (try have e3 : w7.heap.size = (w7.alloc (.cells #[] 63)).heap.size := e2); (try simp only [size_new] at e3); omega)
            refine ⟨keepS g3, ?_⟩
            try simp only [Act.put, List.setIfInBounds_toArray, List.set_cons_zero, List.set_cons_succ, List.getElem_toArray, List.getElem_cons_zero, List.getElem_cons_succ]
            refine op_wp rfl (by rfl) ?_
            try simp only [List.getElem_toArray, List.getElem_cons_zero, List.getElem_cons_succ]
            refine (wp_append_sl _ _ 25 rfl w7.heap.size 63 i0 (.agg #[.int .i64 0, .int .u32 0]) 2 16 Try.underlying25 hi hz0 hz1 hz2 rfl (by decide) _ _ _ rfl hown8 (some ⟨(w7.alloc (.cells #[] 63)).heap.size, 0, none⟩) 1 1 [.int .i64 n, .int .u32 v] rfl rfl (fun _ => ⟨_, 0, f3.lt, rfl, fun j hj => by rw [Nat.zero_add, f3.c]; simp⟩) (by intro u hu; simp at hu; rcases hu with rfl | rfl <;> rfl) (by have := HMO.out; unfold maxLen; omega) (by have := HMO.out; omega) g3.size ?_)
            intro v9 w9 hown9 hgrow9 hblk9
            have g4 : Below w7.heap.size w7 w9 := g3.grown hgrow9 g3.size (fun j hj => (hown8.lt j hj).1)
            refine ⟨keepS g4, ?_⟩
            try simp only [Act.put, List.setIfInBounds_toArray, List.set_cons_zero, List.set_cons_succ, List.getElem_toArray, List.getElem_cons_zero, List.getElem_cons_succ]
            refine planT_stop ?_
            simp only [List.drop_succ_cons, List.drop_zero]
            have HG9 := Lib.hid g4
            have HO9 := Lib.hid hown9
            obtain ⟨g9, cap9, rfl⟩ := Joins.ownsRow_form hown9 (Nat.succ_pos _)
            have HKB9 := Lib.hid (HKB7.out.below HG9.out)
            have HKN9 := Lib.hid (HKN7.out.below HG9.out)
            clear hown9 hgrow9 hblk9 hown8 hgrow8 hblk8 keepS
            clear g4 g3 g2 g1 g0
            try clear r1 r2 r3 f1 f2 f3
            have cB := HKB9.out.c
            have fB := HKB9.out.f
            have lB := HKB9.out.lt
            go_wp2_with fail
            go_meet
            case rel =>
              go_light
              have hm9 : SlB w.heap.size w9 q1 lm (memC (actMem a.mem ⟨k, at_, v, o⟩)) := HM7.out.below HG9.out
              have hs9 : w7.heap.size ≤ w9.heap.size := HG9.out.size
              refine ⟨some ⟨g9, 0, none⟩, lo + 1, cap9, (HKB9.out.set _ (by simp)).cast (by simp), HKN9.out.other _ (Nat.ne_of_lt (Nat.lt_succ_self _)), ?_, ?_, hm9.set0 _ _, (HB7.out.trans (HG9.out.mono HB7.out.size)).setCell (Nat.le_refl _) _, by rw [size_set]; exact Nat.le_trans HS7.out hs9, fun _ b o e => hN.out b (by injection e with e; injection e with e; have := (HO9.out.lt g9 rfl).1; have h2 := HS7.out; omega)⟩
              · rw [ha'.out, if_pos hk4, List.length_append, HLO.out]; rfl
              · rw [ha'.out, if_pos hk4]
                show SlB _ _ _ _ (outsC (a.outs ++ [((n : Int), v)]))
                rw [outsC_app, outsC_one]
                refine SlB.set0 ?_ _ _
                obtain ⟨p9, l9, k9, e9, _, hsl9⟩ := SlB.own (B := w.heap.size) HO9.out (by have := HS7.out; omega)
                injection e9 with e9
                rw [e9]
                exact hsl9
        · -- 8 first
          have g0 : Below w7.heap.size w7 w7 := Below.refl _ _
          refine op_make (v := .slice (some ⟨w7.heap.size, 0, none⟩) 1 1) (w1 := (w7.alloc (.cells #[.int .i64 n, .int .u32 v] 63))) rfl (by rfl) ?_ ?_
          · go_simp
          have g1 : Below w7.heap.size w7 (w7.alloc (.cells #[.int .i64 n, .int .u32 v] 63)) := g0.alloc g0.size _
          have f1 : Blk (w7.alloc (.cells #[.int .i64 n, .int .u32 v] 63)) w7.heap.size #[.int .i64 n, .int .u32 v] := Blk.new w7 _ 63
          refine ⟨keepS g1, ?_⟩
          try simp only [Act.put, List.setIfInBounds_toArray, List.set_cons_zero, List.set_cons_succ, List.getElem_toArray, List.getElem_cons_zero, List.getElem_cons_succ]
          refine op_make (v := .slice (some ⟨(w7.alloc (.cells #[.int .i64 n, .int .u32 v] 63)).heap.size, 0, none⟩) 0 0) (w1 := ((w7.alloc (.cells #[.int .i64 n, .int .u32 v] 63)).alloc (.cells #[] 63))) rfl (by rfl) ?_ ?_
          · go_simp
          have g2 : Below w7.heap.size w7 ((w7.alloc (.cells #[.int .i64 n, .int .u32 v] 63)).alloc (.cells #[] 63)) := g1.alloc g1.size _
          have r2 : World.ownsRow ((w7.alloc (.cells #[.int .i64 n, .int .u32 v] 63)).alloc (.cells #[] 63)) w7.heap.size 63 2 (.slice (some ⟨(w7.alloc (.cells #[.int .i64 n, .int .u32 v] 63)).heap.size, 0, none⟩) 0 0) 0 [] := fresh_made g1.size
          have f2 : Blk ((w7.alloc (.cells #[.int .i64 n, .int .u32 v] 63)).alloc (.cells #[] 63)) w7.heap.size #[.int .i64 n, .int .u32 v] := f1.alloc _
          refine ⟨keepS g2, ?_⟩
          try simp only [Act.put, List.setIfInBounds_toArray, List.set_cons_zero, List.set_cons_succ, List.getElem_toArray, List.getElem_cons_zero, List.getElem_cons_succ]
          refine op_wp rfl (by rfl) ?_
          try simp only [List.getElem_toArray, List.getElem_cons_zero, List.getElem_cons_succ]
          refine (wp_append_sl _ _ 25 rfl w7.heap.size 63 i0 (.agg #[.int .i64 0, .int .u32 0]) 2 16 Try.underlying25 hi hz0 hz1 hz2 rfl (by decide) _ _ _ rfl r2 po lo co (outsC a.outs) rfl (by rw [outsC_len, HLO.out]) (S37.out.below g2) (outsC_one' _) (by have := HMO.out; unfold maxLen; omega) (by have := HMO.out; omega) g2.size ?_)
          intro v8 w8 hown8 hgrow8 hblk8
          have g3 : Below w7.heap.size w7 w8 := g2.grown hgrow8 g2.size (fun j hj => (r2.lt j hj).1)
          rw [Nat.zero_add, List.nil_append] at hown8
          have f3 : Blk w8 w7.heap.size #[.int .i64 n, .int .u32 v] := f2.grown hgrow8 (by intro e; have e2 := Option.some.inj e; (try simp only [size_new] at e2); (try have e3 : (w7.alloc (.cells #[.int .i64 n, .int .u32 v] 63)).heap.size = w7.heap.size := e2); (try simp only [size_new] at e3); omega)
          refine ⟨keepS g3, ?_⟩
          try simp only [Act.put, List.setIfInBounds_toArray, List.set_cons_zero, List.set_cons_succ, List.getElem_toArray, List.getElem_cons_zero, List.getElem_cons_succ]
          refine op_wp rfl (by rfl) ?_
          try simp only [List.getElem_toArray, List.getElem_cons_zero, List.getElem_cons_succ]
          refine (wp_append_sl _ _ 25 rfl w7.heap.size 63 i0 (.agg #[.int .i64 0, .int .u32 0]) 2 16 Try.underlying25 hi hz0 hz1 hz2 rfl (by decide) _ _ _ rfl hown8 (some ⟨w7.heap.size, 0, none⟩) 1 1 [.int .i64 n, .int .u32 v] rfl rfl (fun _ => ⟨_, 0, f3.lt, rfl, fun j hj => by rw [Nat.zero_add, f3.c]; simp⟩) (by intro u hu; simp at hu; rcases hu with rfl | rfl <;> rfl) (by have := HMO.out; unfold maxLen; omega) (by have := HMO.out; omega) g3.size ?_)
          intro v9 w9 hown9 hgrow9 hblk9
          have g4 : Below w7.heap.size w7 w9 := g3.grown hgrow9 g3.size (fun j hj => (hown8.lt j hj).1)
          refine ⟨keepS g4, ?_⟩
          try simp only [Act.put, List.setIfInBounds_toArray, List.set_cons_zero, List.set_cons_succ, List.getElem_toArray, List.getElem_cons_zero, List.getElem_cons_succ]
          refine planT_stop ?_
          simp only [List.drop_succ_cons, List.drop_zero]
          have HG9 := Lib.hid g4
          have HO9 := Lib.hid hown9
          obtain ⟨g9, cap9, rfl⟩ := Joins.ownsRow_form hown9 (Nat.succ_pos _)
          have HKB9 := Lib.hid (HKB7.out.below HG9.out)
          have HKN9 := Lib.hid (HKN7.out.below HG9.out)
          clear hown9 hgrow9 hblk9 hown8 hgrow8 hblk8 keepS
          clear g4 g3 g2 g1 g0
          try clear r1 r2 r3 f1 f2 f3
          have cB := HKB9.out.c
          have fB := HKB9.out.f
          have lB := HKB9.out.lt
          go_wp2_with fail
          go_meet
          case rel =>
            go_light
            have hm9 : SlB w.heap.size w9 q1 lm (memC (actMem a.mem ⟨k, at_, v, o⟩)) := HM7.out.below HG9.out
            have hs9 : w7.heap.size ≤ w9.heap.size := HG9.out.size
            refine ⟨some ⟨g9, 0, none⟩, lo + 1, cap9, (HKB9.out.set _ (by simp)).cast (by simp), HKN9.out.other _ (Nat.ne_of_lt (Nat.lt_succ_self _)), ?_, ?_, hm9.set0 _ _, (HB7.out.trans (HG9.out.mono HB7.out.size)).setCell (Nat.le_refl _) _, by rw [size_set]; exact Nat.le_trans HS7.out hs9, fun _ b o e => hN.out b (by injection e with e; injection e with e; have := (HO9.out.lt g9 rfl).1; have h2 := HS7.out; omega)⟩
            · rw [ha'.out, if_pos hk4, List.length_append, HLO.out]; rfl
            · rw [ha'.out, if_pos hk4]
              show SlB _ _ _ _ (outsC (a.outs ++ [((n : Int), v)]))
              rw [outsC_app, outsC_one]
              refine SlB.set0 ?_ _ _
              obtain ⟨p9, l9, k9, e9, _, hsl9⟩ := SlB.own (B := w.heap.size) HO9.out (by have := HS7.out; omega)
              injection e9 with e9
              rw [e9]
              exact hsl9
      · have e4 : (k == 4) = false := by simpa using hk4
        go_wp2_with fail
        go_meet
        case rel =>
          go_light
          refine ⟨po, lo, co, HKB6.out, HKN6.out, ?_, ?_, HM6.out, HB6.out, HS6.out, n3'.out⟩
          · rw [ha'.out, if_neg hk4]; exact HLO.out
          · rw [ha'.out, if_neg hk4]; exact SlB.of S3.out HB6.out (Nat.le_refl _)
    case rest =>
      obtain ⟨q3, l3, c3, kB, kN, hl3, hs3, hs1, hB, hS, hn3⟩ := hcut
      have HN3 := Lib.hid hn3
      have HKB7 := Lib.hid kB
      have HKN7 := Lib.hid kN
      have HL3 := Lib.hid hl3
      have HS3 := Lib.hid hs3
      have HS1 := Lib.hid hs1
      have HB7 := Lib.hid hB
      have HZ7 := Lib.hid hS
      have HC7 : Hid (Sl wc (some ⟨gc, oc, none⟩) len (coresC a.cores)) := S2.out.below HB7.out
      clear kB kN hl3 hs3 hs1 hB hS hn3 HKB6 HKN6 HKX6 HM6 HB6 HS6
      have cB := HKB7.out.c
      have lB := HKB7.out.lt
      go_wp2_with (at_builtin; refine wpList_append_sl rfl _ _ 24 rfl wc.heap.size 55 j0 (.agg zcor.row) 10 48 Try.underlying24 ji jz0 jz1 jz2 rfl (by decide) _ _ _ rfl (fresh_made (Nat.le_refl _)) (some ⟨gc, oc, none⟩) len cc (coresC a.cores) rfl ?qc1 ?qc2 ?qc3 ?qc4 ?qc5 ?qc6 ?_)
      case qc1 => rw [coresC_len, HLC.out]
      case qc2 => exact HC7.out.below ((Below.refl _ _).alloc (Nat.le_refl _) _)
      case qc3 => exact coresC_one _
      case qc4 => have := HCM.out; unfold maxLen; omega
      case qc5 => have := HCM.out; omega
      case qc6 => rw [World.size_alloc]; exact Nat.le_succ _
      intro v' w8 hown hgrow hblk
      obtain ⟨g, k2, rfl⟩ := Joins.ownsRow_form hown (by omega)
      have HB8 : Hid (Below wc.heap.size wc w8) := ((Below.refl _ wc).alloc (Nat.le_refl _) _).grown hgrow (by rw [World.size_alloc]; exact Nat.le_succ _) (by intro j hj; have e := Option.some.inj hj; have e' : wc.heap.size = j := e; omega)
      have HO8 := Lib.hid hown
      have HG8 : Hid (wc.heap.size ≤ g ∧ g < w8.heap.size) := hown.lt g rfl
      clear hown hgrow hblk cB lB
      have HKB8 := Lib.hid (HKB7.out.below HB8.out)
      have HKN8 := Lib.hid (HKN7.out.below HB8.out)
      have cB := HKB8.out.c
      go_wp2_with fail
      have hcl : ∀ j, j < 10 → w8.cell? ⟨g, n * 10 + j, none⟩ = c.row[j]? := fun j hj => by
        rw [HO8.out.cellAt (n * 10 + j) (by omega), coresC_at _ _ _ (by rw [HLC.out]; exact hn) hj, HC.out]
      have HC8 : Hid (w8.cell? ⟨g, n * 10, none⟩ = some (.int .u32 (c.r 0)) ∧ w8.cell? ⟨g, n * 10 + 1, none⟩ = some (.int .u32 (c.r 1)) ∧ w8.cell? ⟨g, n * 10 + 2, none⟩ = some (.int .u32 (c.r 2)) ∧ w8.cell? ⟨g, n * 10 + 3, none⟩ = some (.int .u32 (c.r 3)) ∧ w8.cell? ⟨g, n * 10 + 4, none⟩ = some (.int .u32 (c.r 4)) ∧ w8.cell? ⟨g, n * 10 + 5, none⟩ = some (.int .u32 (c.r 5)) ∧ w8.cell? ⟨g, n * 10 + 6, none⟩ = some (.int .u32 (c.r 6)) ∧ w8.cell? ⟨g, n * 10 + 7, none⟩ = some (.int .u32 (c.r 7)) ∧ w8.cell? ⟨g, n * 10 + 8, none⟩ = some (.int .i64 c.pc) ∧ w8.cell? ⟨g, n * 10 + 9, none⟩ = some (.bool c.h)) := ⟨hcl 0 (by omega), hcl 1 (by omega), hcl 2 (by omega), hcl 3 (by omega), hcl 4 (by omega), hcl 5 (by omega), hcl 6 (by omega), hcl 7 (by omega), hcl 8 (by omega), hcl 9 (by omega)⟩
      clear hcl
      have HBA : Hid (Below w.heap.size w w8) := HB7.out.trans (HB8.out.mono HB7.out.size)
      have q1 : w8.cell? ⟨b, off + n, none⟩ = some (.slice q m qc) := (HBA.out.cell (p := ⟨b, off + n, none⟩) HB0.out).trans HQ.out
      have HPD : Hid (Prg w8 q l) := HQP.out.below HBA.out
      have HFZ : Hid (∀ j, w8.frozen? ⟨g, j, none⟩ = false) := fun j => HO8.out.frozenAt j
      have HGD : Hid (g < w8.heap.size) := HG8.out.2
      have HBD : Hid (b < w8.heap.size) := Nat.lt_of_lt_of_le HB0.out HBA.out.size
      obtain ⟨d, hd⟩ : ∃ d, d = doneOf l c was := ⟨_, rfl⟩
      have HD := Lib.hid hd
      clear hd
      have hS0 : Hid ((fun w' : World => w'.cell? ⟨b, off + n, none⟩ = some (.slice q m qc) ∧ (w'.cell? ⟨g, n * 10, none⟩ = some (.int .u32 (c.r 0)) ∧ w'.cell? ⟨g, n * 10 + 1, none⟩ = some (.int .u32 (c.r 1)) ∧ w'.cell? ⟨g, n * 10 + 2, none⟩ = some (.int .u32 (c.r 2)) ∧ w'.cell? ⟨g, n * 10 + 3, none⟩ = some (.int .u32 (c.r 3)) ∧ w'.cell? ⟨g, n * 10 + 4, none⟩ = some (.int .u32 (c.r 4)) ∧ w'.cell? ⟨g, n * 10 + 5, none⟩ = some (.int .u32 (c.r 5)) ∧ w'.cell? ⟨g, n * 10 + 6, none⟩ = some (.int .u32 (c.r 6)) ∧ w'.cell? ⟨g, n * 10 + 7, none⟩ = some (.int .u32 (c.r 7)) ∧ w'.cell? ⟨g, n * 10 + 8, none⟩ = some (.int .i64 c.pc) ∧ w'.cell? ⟨g, n * 10 + 9, none⟩ = some (.bool c.h))) w8.drew) := ⟨q1, HC8.out⟩
      clear q1
      refine region_plan (fun w' : World => w'.cell? ⟨b, off + n, none⟩ = some (.slice q m qc) ∧ (w'.cell? ⟨g, n * 10, none⟩ = some (.int .u32 (c.r 0)) ∧ w'.cell? ⟨g, n * 10 + 1, none⟩ = some (.int .u32 (c.r 1)) ∧ w'.cell? ⟨g, n * 10 + 2, none⟩ = some (.int .u32 (c.r 2)) ∧ w'.cell? ⟨g, n * 10 + 3, none⟩ = some (.int .u32 (c.r 3)) ∧ w'.cell? ⟨g, n * 10 + 4, none⟩ = some (.int .u32 (c.r 4)) ∧ w'.cell? ⟨g, n * 10 + 5, none⟩ = some (.int .u32 (c.r 5)) ∧ w'.cell? ⟨g, n * 10 + 6, none⟩ = some (.int .u32 (c.r 6)) ∧ w'.cell? ⟨g, n * 10 + 7, none⟩ = some (.int .u32 (c.r 7)) ∧ w'.cell? ⟨g, n * 10 + 8, none⟩ = some (.int .i64 c.pc) ∧ w'.cell? ⟨g, n * 10 + 9, none⟩ = some (.bool c.h))) 12 [(0, true), (1, true), (2, true), (3, true), (4, true), (5, true), (6, true), (7, true), (8, true), (9, true), (10, true), (11, false)] (by kernel_rfl) (by kernel_rfl) hS0.out ?_
      iterate 11
        refine plan_read (v := ?_) rfl (by rfl) ?_ ?_
        rotate_left
        · intro w' hS
          try dsimp only at hS
          go_simp
          try with_reducible rfl
        try simp only [Act.put, List.setIfInBounds_toArray, List.set_cons_zero, List.set_cons_succ, List.getElem_toArray, List.getElem_cons_zero, List.getElem_cons_succ]
      refine plan_call (F := 38) (args := ?_) rfl (by rfl) ?_ ?_
      rotate_left
      · go_simp
        rfl
      refine (kdoneR q m qc l c d was w8 w8.drew b off n g HQL HPD HD HF hS0.out.1 HC8 HFZ HGD HBD (Below.refl _ _).drew).mono ?_
      rintro e w9 ⟨rfl, s9, e9, f9, hb9⟩
      refine ⟨_, rfl, ⟨s9, e9⟩, ?_⟩
      refine plan_nil ?_
      try simp only [Act.put, List.setIfInBounds_toArray, List.set_cons_zero, List.set_cons_succ, List.getElem_toArray, List.getElem_cons_zero, List.getElem_cons_succ]
      simp only [List.drop_succ_cons, List.drop_zero]
      have HKN9 := Lib.hid (HKN8.out.below hb9)
      have HKB9 := Lib.hid (HKB8.out.below hb9)
      have HO9 := Lib.hid (own_below HO8.out hb9)
      have HB9 : Hid (Below wc.heap.size wc w9) := HB8.out.trans (hb9.mono HB8.out.size)
      obtain ⟨e0, e1, e2, e3, e4, e5, e6, e7, e8, e9⟩ := e9
      clear cB
      have cB := HKB9.out.c
      have fB := HKB9.out.f
      have lB := HKB9.out.lt
      have z1 := HKN9.out.c
      have zf := HKN9.out.f
      have zl := HKN9.out.lt
      have ne1 : g ≠ w.heap.size := by have h1 := HG8.out.1; have h2 := HZ7.out; omega
      have ne2 : g ≠ w.heap.size + 1 := by have h1 := HG8.out.1; have h2 := HZ7.out; omega
      have NE1 := Lib.hid ne1
      have NE2 := Lib.hid ne2
      clear s9 hb9 hS0 HKN8 HKB8 HO8 HB8 HC8 HFZ
      have z0 : w9.cell? ⟨w.heap.size + 1, 0, none⟩ = some (.slice none 0 0) := z1 0
      have z2 : w9.cell? ⟨w.heap.size + 1, 2, none⟩ = some (.slice none 0 0) := z1 2
      have z1 : w9.cell? ⟨w.heap.size + 1, 1, none⟩ = some (.slice none 0 0) := z1 1
      have b0 : w9.cell? ⟨w.heap.size, 0, none⟩ = some (.slice q1 lm c1') := cB 0
      have b1 : w9.cell? ⟨w.heap.size, 1, none⟩ = some (.slice (some ⟨gc, oc, none⟩) len cc) := cB 1
      have b2 : w9.cell? ⟨w.heap.size, 2, none⟩ = some (.slice q3 l3 c3) := cB 2
      clear cB
      go_wp2
      refine bodyPost_ret (v := .agg #[.slice q1 lm c1', .slice (some ⟨g, 0, none⟩) len k2, .slice q3 l3 c3]) (by simp [results, Try.results20, go_sem, z0, z1, z2]) rfl ⟨_, rfl, ?_, ?_⟩
      · have g1 := grown10 w9 g (n * 10) (.int .u32 (d.r 0)) (.int .u32 (d.r 1)) (.int .u32 (d.r 2)) (.int .u32 (d.r 3)) (.int .u32 (d.r 4)) (.int .u32 (d.r 5)) (.int .u32 (d.r 6)) (.int .u32 (d.r 7)) (.int .i64 d.pc) (.bool d.h)
        have hn8 : n < a.cores.length := by rw [HLC.out]; exact hn
        have h10 : Below wc.heap.size wc _ := HB9.out.grown g1 HB9.out.size (fun j hj => by have e := Option.some.inj hj; have h1 := HG8.out.1; omega)
        have m10 := HS1.out.below h10
        have o10 := HS3.out.below h10
        have ho9 := HO9.out
        rw [← HLC.out] at ho9
        have c10 := own_store10 ho9 d hn8 rfl
        rw [HLC.out] at c10
        obtain ⟨p11, l11, k11, e11, _, s11⟩ := SlB.own (B := w.heap.size) c10 (by have := HZ7.out; omega)
        injection e11 with e11
        subst e11
        have lm' : a'.mem.length = lm := by rw [ha'.out, ← HLM.out]; exact actMem_len _ _
        have lc' : a'.cores.length = len := by rw [ha'.out, ← HLC.out]; simp
        have em : a'.mem = actMem a.mem ⟨k, at_, v, o⟩ := by rw [ha'.out]
        have ec : a'.cores = a.cores.set n d := by rw [ha'.out, HD.out, HWAS.out]
        refine ⟨q1, c1', some ⟨g, 0, none⟩, k2, q3, c3, by rw [lm', lc', HL3.out], ⟨?_, ?_, ?_⟩, by rw [lm']; exact HNQ.out, fun _ b o e => hN.out b (by injection e with e; injection e with e; have h1 := HG8.out.1; have h2 := HZ7.out; omega), by rw [HL3.out]; exact HN3.out⟩
        · rw [lm', em]; exact ((((m10.set0 _ _).set1 _ _).set1 _ _).set1 _ _).sl
        · rw [lc', ec]; exact ((((s11.set0 _ _).set1 _ _).set1 _ _).set1 _ _).sl
        · rw [HL3.out]; exact ((((o10.set0 _ _).set1 _ _).set1 _ _).set1 _ _).sl
      · have g1 := grown10 w9 g (n * 10) (.int .u32 (d.r 0)) (.int .u32 (d.r 1)) (.int .u32 (d.r 2)) (.int .u32 (d.r 3)) (.int .u32 (d.r 4)) (.int .u32 (d.r 5)) (.int .u32 (d.r 6)) (.int .u32 (d.r 7)) (.int .i64 d.pc) (.bool d.h)
        have h10 : Below wc.heap.size wc _ := HB9.out.grown g1 HB9.out.size (fun j hj => by have e := Option.some.inj hj; have h1 := HG8.out.1; omega)
        exact ((((HB7.out.trans (h10.mono HB7.out.size)).setCell (Nat.le_refl _) _).setCell (Nat.le_succ _) _).setCell (Nat.le_succ _) _).setCell (Nat.le_succ _) _

theorem stepR_anyN (N : Nat → Prop) (p : Option Addr) (cap : Nat) (P : List (List I5)) (u : Value) (a : Atm) (n : Nat) (w : World) (hN : ∀ b, w.heap.size ≤ b → N b) (hp : Prgs w p P) (hn : n < P.length) (hu : MachN N w u a) (hlen : a.cores.length = P.length) (hf : a.Fits) (h2 : a.mem.length ≤ 64) (h4 : P.length ≤ 6) (hmo : (a.outs.length + 1) * 16 ≤ 140737488355328) :
    Calls Try.prog 20 #[.slice p P.length cap, u, .int .i64 n] w fun e w' => ∃ u', e = .returned u' ∧ MachN N w' u' (stepA P a n) ∧ Below w.heap.size w w' := by
  obtain ⟨b, off, hb0, rfl, hx⟩ := hp (by omega)
  obtain ⟨q, qc, hq, hqp⟩ := hx n hn
  obtain ⟨pm, cm, pc, cc, po, co, rfl, ⟨s1, s2, s3⟩, k1, _, k3⟩ := hu
  obtain ⟨gc, oc, hgc, rfl, hcell⟩ := s2 (by omega)
  exact stepR_in b off cap P.length P q pm po _ qc (atP P n) (coreAt a.cores n) _ cm gc oc _ cc _ co a n (wantOf (atP P n) (coreAt a.cores n) a.mem.length).kind (wantOf (atP P n) (coreAt a.cores n) a.mem.length).at_ (wantOf (atP P n) (coreAt a.cores n) a.mem.length).val (wantOf (atP P n) (coreAt a.cores n) a.mem.length).old w hb0 hq rfl hqp (by omega) hlen rfl rfl rfl rfl (hf.c n (by omega)) rfl h2 (by omega) hmo s1 hgc (fun j hj => hcell j (by rw [coresC_len]; exact hj)) s3 N hN k1 k3 (stepA P a n) rfl
theorem Mach.any {w : World} {v : Value} {a : Atm} (h : Mach w v a) : MachN (fun _ => True) w v a := by
  obtain ⟨pm, cm, pc, cc, po, co, e, h1, h2, h3⟩ := h
  exact ⟨pm, cm, pc, cc, po, co, e, ⟨h1, h2, h3⟩, fun _ _ _ _ => trivial, fun _ _ _ _ => trivial, fun _ _ _ _ => trivial⟩
theorem stepR_any (p : Option Addr) (cap : Nat) (P : List (List I5)) (u : Value) (a : Atm) (n : Nat) (w : World) (hp : Prgs w p P) (hn : n < P.length) (hu : Mach w u a) (hlen : a.cores.length = P.length) (hf : a.Fits) (h2 : a.mem.length ≤ 64) (h4 : P.length ≤ 6) (hmo : (a.outs.length + 1) * 16 ≤ 140737488355328) :
    Calls Try.prog 20 #[.slice p P.length cap, u, .int .i64 n] w fun e w' => ∃ u', e = .returned u' ∧ Mach w' u' (stepA P a n) ∧ Below w.heap.size w w' :=
  (stepR_anyN (fun _ => True) p cap P u a n w (fun _ _ => trivial) hp hn hu.any hlen hf h2 h4 hmo).mono fun e w' ⟨u', h1, h2, h3⟩ => ⟨u', h1, h2.mach, h3⟩
end Go.Proofs.Ytekiialhljfglaa
