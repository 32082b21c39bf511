/- Laid together, in this order: PgI, PgK, PgL, PgM, PgO, PgN, PgQ, PgR, PgS, PgU, PgCa, DirecNum. -/
import Derived.Test.YtmeomdfmljanhaaGreatZf
set_option linter.unusedSimpArgs false
set_option linter.unusedVariables false
/- How a work sends: its message is put behind all that is under way. -/
namespace Go.Proofs.YtmeomdfmljanhaaGreat.Pg
set_option linter.unusedVariables false
open Go.ChangeShapes Go.WideShapes Go.ChangeAt Go.RowKit

theorem Wk.off_old {w : World} {base B c l : Nat} {F : Pr.Fs} {L : List (List Nat)} {f : Value} {A : Tg → Pa} {p : Option Addr} {cp : Nat} {xs : List Value} (h : Wk w base B c l F L f A p cp xs) (b : Nat) (hz : Zs 8 c l A b) : b < w.heap.size := by
  obtain ⟨t, ht, h0, rfl⟩ := hz
  exact h.mem.lt t h0
set_option maxHeartbeats 4000000 in
set_option maxRecDepth 100000 in
theorem send_fr (base B c l : Nat) (F : Pr.Fs) (L : List (List Nat)) (f : Value) (A : Tg → Pa) (p : Option Addr) (cp : Nat) (xs : List Value) (frm line : Int) (k t o a : Int) (own : Bool) (n v : Nat) (w : World) (h : Wk w base B c l F L f A p cp xs) (hn : n < 4294967296) (hv : v < 4294967296) :
    Calls Tryz.prog 72 #[.agg #[.pointer (some ⟨B, 6, none⟩), .int .i64 frm, .int .i64 line], .agg #[.int .i64 k, .int .i64 0, .int .i64 t, .int .i64 0, .int .i64 o, .int .i64 a, .bool own, .int .u32 n, .int .u32 v]] w fun e w' =>
      e = .returned (.tuple #[]) ∧ (∃ p' cp' xs', Wk w' base B c l F (sendP L ⟨k, frm, t, line, o, a, own, n, v⟩) f A p' cp' xs') ∧ Below base w w' ∧ w.heap.size ≤ w'.heap.size ∧ ∀ b, b < w.heap.size → b ≠ B → w'.heap[b]? = w.heap[b]? := by
  have HK := Lib.hid h
  obtain ⟨hbB, hBw⟩ := h.hi
  have hbase : base ≤ w.heap.size := by omega
  have kP := h.box 6 (by omega)
  have fP := h.boxf 6
  have kP : w.cell? ⟨B, 6, none⟩ = some (.slice p L.length cp) := kP
  obtain ⟨w2, hw2⟩ : ∃ w2, w2 = (w.alloc (.cells #[.pointer (some ⟨B, 6, none⟩), .int .i64 frm, .int .i64 line] 119)).alloc (.cells #[.int .i64 k, .int .i64 0, .int .i64 t, .int .i64 0, .int .i64 o, .int .i64 a, .bool own, .int .u32 n, .int .u32 v] 70) := ⟨_, rfl⟩
  have hb2 : Below w.heap.size w w2 := by rw [hw2]; exact ((Below.refl _ _).alloc (Nat.le_refl _) _).alloc (by simp) _
  have hs2 : w2.heap.size = w.heap.size + 2 := by rw [hw2]; simp
  have hA2 : Blk w2 w.heap.size #[.pointer (some ⟨B, 6, none⟩), .int .i64 frm, .int .i64 line] := by rw [hw2]; exact (Blk.new _ _ _).alloc _
  have hM2 : Blk w2 (w.heap.size + 1) #[.int .i64 k, .int .i64 0, .int .i64 t, .int .i64 0, .int .i64 o, .int .i64 a, .bool own, .int .u32 n, .int .u32 v] := by
    rw [hw2]
    have := Blk.new (w.alloc (.cells #[.pointer (some ⟨B, 6, none⟩), .int .i64 frm, .int .i64 line] 119)) #[.int .i64 k, .int .i64 0, .int .i64 t, .int .i64 0, .int .i64 o, .int .i64 a, .bool own, .int .u32 n, .int .u32 v] 70
    rw [World.size_alloc] at this
    exact this
  have hne : w.heap.size + 1 ≠ w.heap.size := by omega
  have kA := hA2.c
  have kM := hM2.c
  have fM := hM2.f
  have HW2 := Lib.hid hw2
  have HB2 := Lib.hid hb2
  have HA2 := Lib.hid hA2
  have HM2 := Lib.hid hM2
  have HKP := Lib.hid (And.intro kP fP)
  have HH := Lib.hid (And.intro hbB (And.intro hBw (And.intro hbase hs2)))
  clear hw2 hb2 hA2 hM2 h hbB hBw hbase hs2 kP fP
  go_enter Tryz.func72, Tryz.ntmps72
  go_upto_region 1 with fail
  rw [← HW2.out]
  go_region
  obtain ⟨w3, hw3⟩ : ∃ w3, w3 = ((w2.setCell ⟨w.heap.size + 1, 1, none⟩ (.int .i64 frm)).setCell ⟨w.heap.size + 1, 3, none⟩ (.int .i64 line)).drew := ⟨_, rfl⟩
  rw [← hw3]
  have hb3 : Below w.heap.size w w3 := by rw [hw3]; exact ((HB2.out.setCell (p := ⟨w.heap.size + 1, 1, none⟩) (Nat.le_succ _) _).setCell (p := ⟨w.heap.size + 1, 3, none⟩) (Nat.le_succ _) _).drew
  have hA3 : Blk w3 w.heap.size #[.pointer (some ⟨B, 6, none⟩), .int .i64 frm, .int .i64 line] := by
    rw [hw3]
    exact ((HA2.out.other (B' := w.heap.size + 1) (n := 1) _ hne).other (B' := w.heap.size + 1) (n := 3) _ hne).drew
  have hM3 : Blk w3 (w.heap.size + 1) #[.int .i64 k, .int .i64 frm, .int .i64 t, .int .i64 line, .int .i64 o, .int .i64 a, .bool own, .int .u32 n, .int .u32 v] := by
    rw [hw3]
    exact ((HM2.out.set (n := 1) _ (by simp)).set (n := 3) _ (by simp)).drew
  have HS3 : Hid (∀ V : World, (∀ b, b < w3.heap.size → b ≠ B → V.heap[b]? = w3.heap[b]?) → (∀ j, V.cell? ⟨w.heap.size, j, none⟩ = (#[.pointer (some ⟨B, 6, none⟩), .int .i64 frm, .int .i64 line] : Array Value)[j]?) ∧ (∀ j, V.cell? ⟨w.heap.size + 1, j, none⟩ = (#[.int .i64 k, .int .i64 frm, .int .i64 t, .int .i64 line, .int .i64 o, .int .i64 a, .bool own, .int .u32 n, .int .u32 v] : Array Value)[j]?)) := Lib.hid (fun V hV =>
    ⟨fun j => (World.cell?_of_block (a := ⟨w.heap.size, j, none⟩) (hV _ hA3.lt (by show w.heap.size ≠ B; have := HH.out.2.1; omega))).trans (hA3.c j), fun j => (World.cell?_of_block (a := ⟨w.heap.size + 1, j, none⟩) (hV _ hM3.lt (by show w.heap.size + 1 ≠ B; have := HH.out.2.1; omega))).trans (hM3.c j)⟩)
  have kP3 := ((hb3.drew).cell (p := ⟨B, 6, none⟩) HH.out.2.1).trans HKP.out.1
  have HB3 := Lib.hid hb3
  clear kA kM fM HW2 HB2 HA2 HM2 hA3 hM3 hb3 hw3
  go_upto_region 2 with fail
  refine region_planF (fun V : World => (∀ j, V.cell? ⟨w.heap.size, j, none⟩ = (#[.pointer (some ⟨B, 6, none⟩), .int .i64 frm, .int .i64 line] : Array Value)[j]?) ∧ (∀ j, V.cell? ⟨w.heap.size + 1, j, none⟩ = (#[.int .i64 k, .int .i64 frm, .int .i64 t, .int .i64 line, .int .i64 o, .int .i64 a, .bool own, .int .u32 n, .int .u32 v] : Array Value)[j]?)) (.read 0 (.read 1 (.read 2 (.read 3 (.read 4 (.read 6 (.one 5 (.one 7 (.read 8 (.read 9 (.read 10 (.one 11 (.one 12 .stop))))))))))))) (by kernel_rfl) (by kernel_rfl) (HS3.out _ (fun _ _ _ => rfl)) ?_
  iterate 6
    refine planT_read (v := ?_) rfl (by rfl) ?_ ?_
    rotate_left
    · intro w' hS
      try dsimp only at hS
      go_simp
      try with_reducible rfl
    try simp only [Act.put, List.setIfInBounds_toArray, List.set_cons_zero, List.set_cons_succ, List.getElem_toArray, List.getElem_cons_zero, List.getElem_cons_succ]
  refine planT_one ?_
  refine op_keep (v := .agg #[.slice p L.length cp]) rfl (by rfl) ?_ ?_
  · go_simp
  refine ⟨HS3.out _ (fun _ _ _ => rfl), ?_⟩
  try simp only [Act.put, List.setIfInBounds_toArray, List.set_cons_zero, List.set_cons_succ, List.getElem_toArray, List.getElem_cons_zero, List.getElem_cons_succ]
  refine planT_one ?_
  refine op_call (F := 105) (args := ?_) rfl (by rfl) ?_ ?_
  rotate_left
  · go_simp
    rfl
  refine (send_any p L.length cp xs L ⟨k, frm, t, line, o, a, own, n, v⟩ w3.drew rfl (HK.out.pl.below HB3.out.drew) hn hv).mono ?_
  rintro e V4 ⟨p4, c4, xs4, rfl, hout⟩
  have hb4 := hout.below
  refine ⟨_, rfl, HS3.out _ (fun b hb _ => hb4.block b hb), ?_⟩
  try simp only [Act.put, List.setIfInBounds_toArray, List.set_cons_zero, List.set_cons_succ, List.getElem_toArray, List.getElem_cons_zero, List.getElem_cons_succ]
  have hbw : Below w.heap.size w V4 := HB3.out.trans (((Below.refl w3.heap.size w3).drew.trans hb4).mono HB3.out.size)
  have hfin := HK.out.pool (cp' := c4) hbw hout.pl (hout.off.sub (fun b hz => by
    have := HK.out.off_old b hz
    show b < w3.heap.size
    have := HB3.out.size
    omega)) (hout.off.sub (fun b (hz : b < base) => by
    show b < w3.heap.size
    have := HB3.out.size
    have := HH.out.2.2.1
    omega))
  have k6 := (hbw.cell (p := ⟨B, 6, none⟩) HH.out.2.1).trans HKP.out.1
  have f6 := (hbw.frozen (p := ⟨B, 6, none⟩) HH.out.2.1).trans HKP.out.2
  have HV4 : Hid (∀ b, b < w3.heap.size → b ≠ B → V4.heap[b]? = w3.heap[b]?) := Lib.hid (fun b hb _ => hb4.block b hb)
  have HFIN := Lib.hid hfin
  have HBW := Lib.hid hbw
  clear hfin hbw hb4 hout kP3
  iterate 3
    refine planT_read (v := ?_) rfl (by rfl) ?_ ?_
    rotate_left
    · intro w' hS
      try dsimp only at hS
      go_simp
      try with_reducible rfl
    try simp only [Act.put, List.setIfInBounds_toArray, List.set_cons_zero, List.set_cons_succ, List.getElem_toArray, List.getElem_cons_zero, List.getElem_cons_succ]
  refine planT_one ?_
  refine op_keep (v := .pointer (some ⟨B, 6, none⟩)) rfl (by rfl) ?_ ?_
  · go_simp
  refine ⟨HS3.out _ HV4.out, ?_⟩
  try simp only [Act.put, List.setIfInBounds_toArray, List.set_cons_zero, List.set_cons_succ, List.getElem_toArray, List.getElem_cons_zero, List.getElem_cons_succ]
  refine planT_one ?_
  refine op_store (w1 := V4.setCell ⟨B, 6, none⟩ (.slice p4 (sendP L ⟨k, frm, t, line, o, a, own, n, v⟩).length c4)) rfl (by rfl) ?_ ?_
  · go_simp
  refine ⟨HS3.out _ (fun b hb hn => (heap_setCell_other V4 ⟨B, 6, none⟩ b _ hn).trans (HV4.out b hb hn)), ?_⟩
  refine planT_stop ?_
  refine NoPanic.normal ?_
  go_wp2_with fail
  exact bodyPost_end (v := .tuple #[]) (by simp [results, Tryz.results72, go_sem, *]) rfl ⟨rfl, ⟨_, _, _, HFIN.out⟩, (HBW.out.mono HH.out.2.2.1).setCell (p := ⟨B, 6, none⟩) HH.out.1 _, by rw [size_set]; exact HBW.out.size, fun b hb hn => (heap_setCell_other _ ⟨B, 6, none⟩ b _ hn).trans (HBW.out.block b hb)⟩
theorem send_wk (base B c l : Nat) (F : Pr.Fs) (L : List (List Nat)) (f : Value) (frm line : Int) (k t o a : Int) (own : Bool) (n v : Nat) (w : World) (h : WkX w base B c l F L f) (hn : n < 4294967296) (hv : v < 4294967296) :
    Calls Tryz.prog 72 #[.agg #[.pointer (some ⟨B, 6, none⟩), .int .i64 frm, .int .i64 line], .agg #[.int .i64 k, .int .i64 0, .int .i64 t, .int .i64 0, .int .i64 o, .int .i64 a, .bool own, .int .u32 n, .int .u32 v]] w fun e w' =>
      e = .returned (.tuple #[]) ∧ WkX w' base B c l F (sendP L ⟨k, frm, t, line, o, a, own, n, v⟩) f ∧ Below base w w' :=
  by
    obtain ⟨A, p, cp, xs, h⟩ := h
    exact (send_fr base B c l F L f A p cp xs frm line k t o a own n v w h hn hv).mono fun e w' ⟨h1, ⟨p', cp', xs', h2⟩, h3, _⟩ => ⟨h1, ⟨A, p', cp', xs', h2⟩, h3⟩
end Go.Proofs.YtmeomdfmljanhaaGreat.Pg
/- What a work's lists have at a core, at a line; how a core asks, and gives. -/
namespace Go.Proofs.YtmeomdfmljanhaaGreat.Pg
set_option linter.unusedVariables false
open Go.ChangeShapes Go.WideShapes Go.ChangeAt Go.RowKit

section
variable {w : World} {base B c l : Nat} {F : Pr.Fs} {L : List (List Nat)} {f : Value} {A : Tg → Pa} {p : Option Addr} {cp : Nat} {xs : List Value}
theorem Wk.c0 (h : Wk w base B c l F L f A p cp xs) : w.cell? ⟨B, 0, none⟩ = some (.slice (some ⟨(A .st).b, (A .st).o, none⟩) c (A .st).c) := h.box 0 (by omega)
theorem Wk.c1 (h : Wk w base B c l F L f A p cp xs) : w.cell? ⟨B, 1, none⟩ = some (.slice (some ⟨(A .va).b, (A .va).o, none⟩) c (A .va).c) := h.box 1 (by omega)
theorem Wk.c2 (h : Wk w base B c l F L f A p cp xs) : w.cell? ⟨B, 2, none⟩ = some (.slice (some ⟨(A .wt).b, (A .wt).o, none⟩) c (A .wt).c) := h.box 2 (by omega)
theorem Wk.c3 (h : Wk w base B c l F L f A p cp xs) : w.cell? ⟨B, 3, none⟩ = some (.slice (some ⟨(A .ho).b, (A .ho).o, none⟩) l (A .ho).c) := h.box 3 (by omega)
theorem Wk.c4 (h : Wk w base B c l F L f A p cp xs) : w.cell? ⟨B, 4, none⟩ = some (.slice (some ⟨(A .di).b, (A .di).o, none⟩) l (A .di).c) := h.box 4 (by omega)
theorem Wk.c5 (h : Wk w base B c l F L f A p cp xs) : w.cell? ⟨B, 5, none⟩ = some (.slice (some ⟨(A .bu).b, (A .bu).o, none⟩) l (A .bu).c) := h.box 5 (by omega)
theorem Wk.c6 (h : Wk w base B c l F L f A p cp xs) : w.cell? ⟨B, 6, none⟩ = some (.slice p L.length cp) := h.box 6 (by omega)
theorem Wk.c7 (h : Wk w base B c l F L f A p cp xs) : w.cell? ⟨B, 7, none⟩ = some f := h.box 7 (by omega)
theorem Wk.sr (h : Wk w base B c l F L f A p cp xs) {n : Nat} (hn : n < c) : w.cell? ⟨(A .st).b, (A .st).o + n, none⟩ = some (.slice (some ⟨(A (.sr n)).b, (A (.sr n)).o, none⟩) l (A (.sr n)).c) := h.mem.cell .st n hn
theorem Wk.s (h : Wk w base B c l F L f A p cp xs) {n k : Nat} (hn : n < c) (hk : k < l) : w.cell? ⟨(A (.sr n)).b, (A (.sr n)).o + k, none⟩ = some (.int .i64 (F.st n k : Nat)) := h.mem.cell (.sr n) k (by show k < if n < c then l else 0; rw [if_pos hn]; exact hk)
theorem Wk.vr (h : Wk w base B c l F L f A p cp xs) {n : Nat} (hn : n < c) : w.cell? ⟨(A .va).b, (A .va).o + n, none⟩ = some (.slice (some ⟨(A (.vr n)).b, (A (.vr n)).o, none⟩) l (A (.vr n)).c) := h.mem.cell .va n hn
theorem Wk.v (h : Wk w base B c l F L f A p cp xs) {n k : Nat} (hn : n < c) (hk : k < l) : w.cell? ⟨(A (.vr n)).b, (A (.vr n)).o + k, none⟩ = some (.int .u32 (F.va n k : Nat)) := h.mem.cell (.vr n) k (by show k < if n < c then l else 0; rw [if_pos hn]; exact hk)
theorem Wk.wt (h : Wk w base B c l F L f A p cp xs) {n : Nat} (hn : n < c) (i : Nat) (hi : i < 9) : w.cell? ⟨(A .wt).b, (A .wt).o + n * 9 + i, none⟩ = some ((wtL (F.wt n)).getD i vz) := by
  have := h.mem.cell .wt (n * 9 + i) (by show n * 9 + i < c * 9; omega)
  rw [← Nat.add_assoc] at this
  refine this.trans ?_
  show some ((wtL (F.wt ((n * 9 + i) / 9))).getD ((n * 9 + i) % 9) vz) = _
  rw [show (n * 9 + i) / 9 = n by omega, show (n * 9 + i) % 9 = i by omega]
theorem Wk.w0 (h : Wk w base B c l F L f A p cp xs) {n : Nat} (hn : n < c) : w.cell? ⟨(A .wt).b, (A .wt).o + n * 9, none⟩ = some (.int .i64 ((F.wt n).line : Nat)) := h.wt hn 0 (by omega)
theorem Wk.w1 (h : Wk w base B c l F L f A p cp xs) {n : Nat} (hn : n < c) : w.cell? ⟨(A .wt).b, (A .wt).o + n * 9 + 1, none⟩ = some (.bool (F.wt n).write) := h.wt hn 1 (by omega)
theorem Wk.w2 (h : Wk w base B c l F L f A p cp xs) {n : Nat} (hn : n < c) : w.cell? ⟨(A .wt).b, (A .wt).o + n * 9 + 2, none⟩ = some (.bool (F.wt n).back) := h.wt hn 2 (by omega)
theorem Wk.w3 (h : Wk w base B c l F L f A p cp xs) {n : Nat} (hn : n < c) : w.cell? ⟨(A .wt).b, (A .wt).o + n * 9 + 3, none⟩ = some (.bool (F.wt n).came) := h.wt hn 3 (by omega)
theorem Wk.w4 (h : Wk w base B c l F L f A p cp xs) {n : Nat} (hn : n < c) : w.cell? ⟨(A .wt).b, (A .wt).o + n * 9 + 4, none⟩ = some (.bool (F.wt n).own) := h.wt hn 4 (by omega)
theorem Wk.w5 (h : Wk w base B c l F L f A p cp xs) {n : Nat} (hn : n < c) : w.cell? ⟨(A .wt).b, (A .wt).o + n * 9 + 5, none⟩ = some (.bool (F.wt n).keep) := h.wt hn 5 (by omega)
theorem Wk.w6 (h : Wk w base B c l F L f A p cp xs) {n : Nat} (hn : n < c) : w.cell? ⟨(A .wt).b, (A .wt).o + n * 9 + 6, none⟩ = some (.int .i64 ((F.wt n).need : Nat)) := h.wt hn 6 (by omega)
theorem Wk.w7 (h : Wk w base B c l F L f A p cp xs) {n : Nat} (hn : n < c) : w.cell? ⟨(A .wt).b, (A .wt).o + n * 9 + 7, none⟩ = some (.int .i64 ((F.wt n).got : Nat)) := h.wt hn 7 (by omega)
theorem Wk.w8 (h : Wk w base B c l F L f A p cp xs) {n : Nat} (hn : n < c) : w.cell? ⟨(A .wt).b, (A .wt).o + n * 9 + 8, none⟩ = some (.int .u32 ((F.wt n).val : Nat)) := h.wt hn 8 (by omega)
theorem Wk.ho (h : Wk w base B c l F L f A p cp xs) {k : Nat} (hk : k < l) : w.cell? ⟨(A .ho).b, (A .ho).o + k, none⟩ = some (.int .u32 (F.home k : Nat)) := h.mem.cell .ho k hk
theorem Wk.bu (h : Wk w base B c l F L f A p cp xs) {k : Nat} (hk : k < l) : w.cell? ⟨(A .bu).b, (A .bu).o + k, none⟩ = some (.int .i64 (F.busy k : Nat)) := h.mem.cell .bu k hk
theorem Wk.d0 (h : Wk w base B c l F L f A p cp xs) {k : Nat} (hk : k < l) : w.cell? ⟨(A .di).b, (A .di).o + k * 2, none⟩ = some (.int .i64 (F.own k : Nat)) := by
  refine (h.mem.cell .di (k * 2) (by show k * 2 < l * 2; omega)).trans ?_
  show some (if (k * 2) % 2 = 0 then Value.int .i64 (F.own ((k * 2) / 2) : Nat) else _) = _
  rw [if_pos (by omega), show k * 2 / 2 = k by omega]
theorem Wk.d1 (h : Wk w base B c l F L f A p cp xs) {k : Nat} (hk : k < l) : w.cell? ⟨(A .di).b, (A .di).o + k * 2 + 1, none⟩ = some (.slice (some ⟨(A (.sh k)).b, (A (.sh k)).o, none⟩) c (A (.sh k)).c) := by
  refine (h.mem.cell .di (k * 2 + 1) (by show k * 2 + 1 < l * 2; omega)).trans ?_
  show some (if (k * 2 + 1) % 2 = 0 then _ else (A (.sh ((k * 2 + 1) / 2))).sl c) = _
  rw [if_neg (by omega), show (k * 2 + 1) / 2 = k by omega]
  rfl
theorem Wk.fz (h : Wk w base B c l F L f A p cp xs) (t : Tg) (ht : t.wr = true) (h0 : 0 < t.sz 8 c l) (j : Nat) : w.frozen? ⟨(A t).b, j, none⟩ = false := h.mem.fz t ht h0 j
end

/-- The kind of a core's asking. -/
def askK (b : Bool) : Int := if b then 2 else 1
set_option maxHeartbeats 4000000 in
set_option maxRecDepth 100000 in
theorem asks_wk (base B c l : Nat) (F : Pr.Fs) (L : List (List Nat)) (frm line : Int) (n : Nat) (w : World) (h : WkX w base B c l F L (sndV B frm line)) (hn : n < c) :
    Calls Tryz.prog 43 #[.pointer (some ⟨B, 0, none⟩), .int .i64 n] w fun e w' => e = .returned (.tuple #[]) ∧ WkX w' base B c l F (sendP L ⟨askK (F.wt n).write, frm, 0, line, n + 1, 0, false, 0, 0⟩) (sndV B frm line) ∧ Below base w w' := by
  have HX := Lib.hid h
  obtain ⟨A, p, cp, xs, h⟩ := h
  have hc4 := h.mem.c4
  have k2 := h.c2
  have k7 := h.c7
  have kw := h.w1 hn
  unfold sndV at k7
  have hw : wrap64 ((n : Int) + 1) = (n : Int) + 1 := by unfold wrap64; omega
  have hnI : (n : Int) < (c : Int) := by omega
  have hn0 : (0 : Int) ≤ (n : Int) := by omega
  clear h
  cases hwr : (F.wt n).write with
  | true =>
    rw [hwr] at kw
    go_enter Tryz.func43, Tryz.ntmps43
    go_wp2_with fail
    refine (send_wk base B c l F L _ frm line 2 0 (n + 1) 0 false 0 0 w HX.out (by omega) (by omega)).mono ?_
    rintro e w' ⟨rfl, h1, h2⟩
    have H1 := Lib.hid h1
    have H2 := Lib.hid h2
    clear h1 h2 k2 k7 kw
    go_wp2_with fail
    exact bodyPost_end (v := .tuple #[]) (by simp [results, Tryz.results43, go_sem, *]) rfl ⟨rfl, H1.out, H2.out⟩
  | false =>
    rw [hwr] at kw
    go_enter Tryz.func43, Tryz.ntmps43
    go_wp2_with fail
    refine (send_wk base B c l F L _ frm line 1 0 (n + 1) 0 false 0 0 w HX.out (by omega) (by omega)).mono ?_
    rintro e w' ⟨rfl, h1, h2⟩
    have H1 := Lib.hid h1
    have H2 := Lib.hid h2
    clear h1 h2 k2 k7 kw
    go_wp2_with fail
    exact bodyPost_end (v := .tuple #[]) (by simp [results, Tryz.results43, go_sem, *]) rfl ⟨rfl, H1.out, H2.out⟩

set_option maxHeartbeats 4000000 in
set_option maxRecDepth 100000 in
theorem gives_wk (base B c l : Nat) (F : Pr.Fs) (L : List (List Nat)) (frm line : Int) (n k : Nat) (w : World) (h : WkX w base B c l F L (sndV B frm line)) (hn : n < c) (hk : k < l) (hv : F.va n k < 4294967296) :
    Calls Tryz.prog 48 #[.pointer (some ⟨B, 0, none⟩), .int .i64 n, .int .i64 k] w fun e w' => e = .returned (.tuple #[]) ∧ WkX w' base B c l F (sendP L ⟨8, frm, 0, line, 0, 0, false, 0, F.va n k⟩) (sndV B frm line) ∧ Below base w w' := by
  have HX := Lib.hid h
  obtain ⟨A, p, cp, xs, h⟩ := h
  have hc4 := h.mem.c4
  have hl16 := h.mem.l16
  have HS : Hid (∀ V, Below w.heap.size w V → V.cell? ⟨B, 7, none⟩ = some (.func (.func 72) #[.agg #[.pointer (some ⟨B, 6, none⟩), .int .i64 frm, .int .i64 line]] #[]) ∧ V.cell? ⟨B, 1, none⟩ = some (.slice (some ⟨(A .va).b, (A .va).o, none⟩) c (A .va).c) ∧ V.cell? ⟨(A .va).b, (A .va).o + n, none⟩ = some (.slice (some ⟨(A (.vr n)).b, (A (.vr n)).o, none⟩) l (A (.vr n)).c) ∧ V.cell? ⟨(A (.vr n)).b, (A (.vr n)).o + k, none⟩ = some (.int .u32 (F.va n k : Nat))) := Lib.hid (fun V hV => ⟨(h.below hV).c7, (h.below hV).c1, (h.below hV).vr hn, (h.below hV).v hn hk⟩)
  have hnI : (n : Int) < (c : Int) := by omega
  have hn0 : (0 : Int) ≤ (n : Int) := by omega
  have hkI : (k : Int) < (l : Int) := by omega
  have hk0 : (0 : Int) ≤ (k : Int) := by omega
  clear h
  go_enter Tryz.func48, Tryz.ntmps48
  go_upto_region 0 with fail
  refine region_plan (fun V : World => V.cell? ⟨B, 7, none⟩ = some (.func (.func 72) #[.agg #[.pointer (some ⟨B, 6, none⟩), .int .i64 frm, .int .i64 line]] #[]) ∧ V.cell? ⟨B, 1, none⟩ = some (.slice (some ⟨(A .va).b, (A .va).o, none⟩) c (A .va).c) ∧ V.cell? ⟨(A .va).b, (A .va).o + n, none⟩ = some (.slice (some ⟨(A (.vr n)).b, (A (.vr n)).o, none⟩) l (A (.vr n)).c) ∧ V.cell? ⟨(A (.vr n)).b, (A (.vr n)).o + k, none⟩ = some (.int .u32 (F.va n k : Nat))) 16 [(0, true), (1, true), (2, true), (3, true), (4, true), (5, true), (6, true), (7, true), (8, true), (9, true), (10, true), (11, true), (12, true), (13, true), (14, true), (15, true)] (by kernel_rfl) (by kernel_rfl) (HS.out _ ((Below.refl _ _).drew)) ?_
  iterate 16
    refine plan_read (v := ?_) rfl (by rfl) ?_ ?_
    rotate_left
    · intro w' hS
      try dsimp only at hS
      go_simp
      try with_reducible rfl
    try simp only [Act.put, List.setIfInBounds_toArray, List.set_cons_zero, List.set_cons_succ, List.getElem_toArray, List.getElem_cons_zero, List.getElem_cons_succ]
  refine plan_nil ?_
  simp only [List.drop_succ_cons, List.drop_zero]
  go_wp2_with fail
  refine (send_wk base B c l F L _ frm line 8 0 0 0 false 0 (F.va n k) w.drew (HX.out.below ((Below.refl _ _).drew)) (by omega) hv).mono ?_
  rintro e w' ⟨rfl, h1, h2⟩
  have H1 := Lib.hid h1
  have H2 := Lib.hid h2
  clear h1 h2
  go_wp2_with fail
  exact bodyPost_end (v := .tuple #[]) (by simp [results, Tryz.results48, go_sem, *]) rfl ⟨rfl, H1.out, (Below.refl _ _).drew.trans H2.out⟩
end Go.Proofs.YtmeomdfmljanhaaGreat.Pg
/- What is stored into a work's lists; and the readers of one value. -/
namespace Go.Proofs.YtmeomdfmljanhaaGreat.Pg
set_option linter.unusedVariables false
open Go.ChangeShapes Go.WideShapes Go.ChangeAt Go.RowKit

theorem Mem.wt_ {w : World} {bs c l : Nat} {A : Tg → Pa} {F : Pr.Fs} {pv f : Value} (h : Mem w bs c l A F pv f) {n : Nat} (hn : n < c) (i : Nat) (hi : i < 9) : w.cell? ⟨(A .wt).b, (A .wt).o + n * 9 + i, none⟩ = some ((wtL (F.wt n)).getD i vz) := by
  have := h.cell .wt (n * 9 + i) (by show n * 9 + i < c * 9; omega)
  rw [← Nat.add_assoc] at this
  refine this.trans ?_
  show some ((wtL (F.wt ((n * 9 + i) / 9))).getD ((n * 9 + i) % 9) vz) = _
  rw [show (n * 9 + i) / 9 = n by omega, show (n * 9 + i) % 9 = i by omega]
theorem Wk.setS {w : World} {base B c l : Nat} {F : Pr.Fs} {L : List (List Nat)} {f : Value} {A : Tg → Pa} {p : Option Addr} {cp : Nat} {xs : List Value} (h : Wk w base B c l F L f A p cp xs) {n k : Nat} (s : Nat) (hn : n < c) (hk : k < l) :
    Wk (w.setCell ⟨(A (.sr n)).b, (A (.sr n)).o + k, none⟩ (.int .i64 (s : Nat))) base B c l (F.state n k s) L f A p cp xs := by
  refine h.store (.sr n) k _ rfl (by show k < if n < c then l else 0; rw [if_pos hn]; exact hk) (fun t' j' hj' => ?_)
  cases t' with
  | sr n' =>
    show Value.int .i64 (Pr.upd2 F.st n k s n' j' : Nat) = if Tg.sr n' = .sr n ∧ j' = k then _ else Value.int .i64 (F.st n' j' : Nat)
    unfold Pr.upd2 Pr.upd
    by_cases e : n' = n
    · subst e
      by_cases e2 : j' = k <;> simp [e2]
    · simp [e]
  | _ => rw [if_neg (by rintro ⟨e, _⟩; cases e)]; rfl
theorem Wk.setV {w : World} {base B c l : Nat} {F : Pr.Fs} {L : List (List Nat)} {f : Value} {A : Tg → Pa} {p : Option Addr} {cp : Nat} {xs : List Value} (h : Wk w base B c l F L f A p cp xs) {n k : Nat} (s : Nat) (hn : n < c) (hk : k < l) :
    Wk (w.setCell ⟨(A (.vr n)).b, (A (.vr n)).o + k, none⟩ (.int .u32 (s : Nat))) base B c l (F.value n k s) L f A p cp xs := by
  refine h.store (.vr n) k _ rfl (by show k < if n < c then l else 0; rw [if_pos hn]; exact hk) (fun t' j' hj' => ?_)
  cases t' with
  | vr n' =>
    show Value.int .u32 (Pr.upd2 F.va n k s n' j' : Nat) = if Tg.vr n' = .vr n ∧ j' = k then _ else Value.int .u32 (F.va n' j' : Nat)
    unfold Pr.upd2 Pr.upd
    by_cases e : n' = n
    · subst e
      by_cases e2 : j' = k <;> simp [e2]
    · simp [e]
  | _ => rw [if_neg (by rintro ⟨e, _⟩; cases e)]; rfl
theorem Wk.setB {w : World} {base B c l : Nat} {F : Pr.Fs} {L : List (List Nat)} {f : Value} {A : Tg → Pa} {p : Option Addr} {cp : Nat} {xs : List Value} (h : Wk w base B c l F L f A p cp xs) {k : Nat} (s : Nat) (hk : k < l) :
    Wk (w.setCell ⟨(A .bu).b, (A .bu).o + k, none⟩ (.int .i64 (s : Nat))) base B c l { F with busy := Pr.upd F.busy k s } L f A p cp xs := by
  refine h.store .bu k _ rfl hk (fun t' j' hj' => ?_)
  cases t' with
  | bu =>
    show Value.int .i64 (Pr.upd F.busy k s j' : Nat) = if Tg.bu = .bu ∧ j' = k then _ else Value.int .i64 (F.busy j' : Nat)
    unfold Pr.upd
    by_cases e2 : j' = k <;> simp [e2]
  | _ => rw [if_neg (by rintro ⟨e, _⟩; cases e)]; rfl
theorem Wk.setH {w : World} {base B c l : Nat} {F : Pr.Fs} {L : List (List Nat)} {f : Value} {A : Tg → Pa} {p : Option Addr} {cp : Nat} {xs : List Value} (h : Wk w base B c l F L f A p cp xs) {k : Nat} (s : Nat) (hk : k < l) :
    Wk (w.setCell ⟨(A .ho).b, (A .ho).o + k, none⟩ (.int .u32 (s : Nat))) base B c l { F with home := Pr.upd F.home k s } L f A p cp xs := by
  refine h.store .ho k _ rfl hk (fun t' j' hj' => ?_)
  cases t' with
  | ho =>
    show Value.int .u32 (Pr.upd F.home k s j' : Nat) = if Tg.ho = .ho ∧ j' = k then _ else Value.int .u32 (F.home j' : Nat)
    unfold Pr.upd
    by_cases e2 : j' = k <;> simp [e2]
  | _ => rw [if_neg (by rintro ⟨e, _⟩; cases e)]; rfl
theorem Wk.setO {w : World} {base B c l : Nat} {F : Pr.Fs} {L : List (List Nat)} {f : Value} {A : Tg → Pa} {p : Option Addr} {cp : Nat} {xs : List Value} (h : Wk w base B c l F L f A p cp xs) {k : Nat} (s : Nat) (hk : k < l) :
    Wk (w.setCell ⟨(A .di).b, (A .di).o + k * 2, none⟩ (.int .i64 (s : Nat))) base B c l { F with own := Pr.upd F.own k s } L f A p cp xs := by
  refine h.store .di (k * 2) _ rfl (by show k * 2 < l * 2; omega) (fun t' j' hj' => ?_)
  cases t' with
  | di =>
    show (if j' % 2 = 0 then Value.int .i64 (Pr.upd F.own k s (j' / 2) : Nat) else _) = if Tg.di = .di ∧ j' = k * 2 then _ else if j' % 2 = 0 then Value.int .i64 (F.own (j' / 2) : Nat) else _
    unfold Pr.upd
    by_cases e2 : j' = k * 2
    · have e3 : j' % 2 = 0 := by omega
      have e4 : j' / 2 = k := by omega
      rw [if_pos (c := Tg.di = .di ∧ j' = k * 2) ⟨rfl, e2⟩, if_pos e3, if_pos e4]
    · rw [if_neg (c := Tg.di = .di ∧ j' = k * 2) (by rintro ⟨_, e⟩; exact e2 e)]
      by_cases e3 : j' % 2 = 0
      · rw [if_pos e3, if_pos e3, if_neg (by omega)]
      · rw [if_neg e3, if_neg e3]
  | _ => rw [if_neg (by rintro ⟨e, _⟩; cases e)]; rfl
/-- Another list of who shares. -/
theorem Wk.setD {w : World} {base B c l : Nat} {F : Pr.Fs} {L : List (List Nat)} {f : Value} {A : Tg → Pa} {p : Option Addr} {cp : Nat} {xs : List Value} (h : Wk w base B c l F L f A p cp xs) {k : Nat} (x : Pa) (s : Nat → Bool) (hk : k < l)
    (hx : ∀ j, j < c → w.cell? ⟨x.b, x.o + j, none⟩ = some (.bool (s j))) (hlt : x.b < w.heap.size) (hcap : c ≤ x.c) (hoff : ∀ t : Tg, t.wr = true → 0 < t.sz 8 c l → (A t).b ≠ x.b) :
    Wk (w.setCell ⟨(A .di).b, (A .di).o + (k * 2 + 1), none⟩ (x.sl c)) base B c l { F with sh := Pr.upd F.sh k s } L f (upA A (.sh k) x) p cp xs := by
  have hA : ∀ t : Tg, t.wr = true → upA A (.sh k) x t = A t := fun t ht => by
    unfold upA
    rw [if_neg]
    intro e; subst e; cases ht
  refine ⟨h.mem.share k x s hk hx hlt hcap hoff, (hA .bx rfl).trans h.at_, h.pl.set (h.off.sub (fun b (e : b = (A .di).b) => ⟨.di, rfl, by show 0 < l * 2; omega, e.symm⟩)) _ _, h.off.sub (fun b hz => ?_), h.low, fun t ht h0 => by rw [hA t ht]; exact h.base t ht h0⟩
  obtain ⟨t, ht, h0, e⟩ := hz
  exact ⟨t, ht, h0, by rw [← hA t ht]; exact e⟩
/-- A field of what a core waits for. -/
theorem Wk.setW {w : World} {base B c l : Nat} {F : Pr.Fs} {L : List (List Nat)} {f : Value} {A : Tg → Pa} {p : Option Addr} {cp : Nat} {xs : List Value} (h : Wk w base B c l F L f A p cp xs) {n : Nat} (i : Nat) (u : Value) (x : Pr.Wt) (hn : n < c) (hi : i < 9)
    (hx : ∀ j, j < 9 → (wtL x).getD j vz = if j = i then u else (wtL (F.wt n)).getD j vz) : Wk (w.setCell ⟨(A .wt).b, (A .wt).o + n * 9 + i, none⟩ u) base B c l (F.wait n x) L f A p cp xs := by
  have := h.store (F' := F.wait n x) .wt (n * 9 + i) u rfl (by show n * 9 + i < c * 9; omega) (fun t' j' hj' => ?_)
  · rw [← Nat.add_assoc] at this
    exact this
  · cases t' with
    | wt =>
      show (wtL (Pr.upd F.wt n x (j' / 9))).getD (j' % 9) vz = if Tg.wt = .wt ∧ j' = n * 9 + i then u else (wtL (F.wt (j' / 9))).getD (j' % 9) vz
      unfold Pr.upd
      by_cases e : j' / 9 = n
      · rw [if_pos e, hx _ (by omega), e]
        by_cases e2 : j' = n * 9 + i
        · rw [if_pos (by omega), if_pos ⟨rfl, e2⟩]
        · rw [if_neg (by omega), if_neg (by rintro ⟨_, e3⟩; exact e2 e3)]
      · rw [if_neg e, if_neg (by rintro ⟨_, e3⟩; omega)]
    | _ => rw [if_neg (by rintro ⟨e, _⟩; cases e)]; rfl
theorem wait_wait (F : Pr.Fs) (n : Nat) (x y : Pr.Wt) : (F.wait n x).wait n y = F.wait n y := by
  unfold Pr.Fs.wait Pr.upd
  simp only [Pr.Fs.mk.injEq, true_and, and_true]
  funext m
  by_cases e : m = n <;> simp [e]
theorem wait_at (F : Pr.Fs) (n : Nat) (x : Pr.Wt) : (F.wait n x).wt n = x := Pr.upd_same _ _ _
/-- All of what a core waits for. -/
theorem Wk.setN {w : World} {base B c l : Nat} {F : Pr.Fs} {L : List (List Nat)} {f : Value} {A : Tg → Pa} {p : Option Addr} {cp : Nat} {xs : List Value} (h : Wk w base B c l F L f A p cp xs) {n : Nat} (hn : n < c) (x : Pr.Wt) :
    Wk (((((((((w.setCell ⟨(A .wt).b, (A .wt).o + n * 9, none⟩ (.int .i64 (x.line : Nat))).setCell ⟨(A .wt).b, (A .wt).o + n * 9 + 1, none⟩ (.bool x.write)).setCell ⟨(A .wt).b, (A .wt).o + n * 9 + 2, none⟩ (.bool x.back)).setCell ⟨(A .wt).b, (A .wt).o + n * 9 + 3, none⟩ (.bool x.came)).setCell ⟨(A .wt).b, (A .wt).o + n * 9 + 4, none⟩ (.bool x.own)).setCell ⟨(A .wt).b, (A .wt).o + n * 9 + 5, none⟩ (.bool x.keep)).setCell ⟨(A .wt).b, (A .wt).o + n * 9 + 6, none⟩ (.int .i64 (x.need : Nat))).setCell ⟨(A .wt).b, (A .wt).o + n * 9 + 7, none⟩ (.int .i64 (x.got : Nat))).setCell ⟨(A .wt).b, (A .wt).o + n * 9 + 8, none⟩ (.int .u32 (x.val : Nat))) base B c l (F.wait n x) L f A p cp xs := by
  obtain ⟨y, hy⟩ : ∃ y, y = F.wt n := ⟨_, rfl⟩
  have h0 := h.setW 0 (.int .i64 (x.line : Nat)) ⟨x.line, y.write, y.back, y.came, y.own, y.keep, y.need, y.got, y.val⟩ hn (by omega) (fun j hj => by rw [← hy]; rcases (by omega : j = 0 ∨ j = 1 ∨ j = 2 ∨ j = 3 ∨ j = 4 ∨ j = 5 ∨ j = 6 ∨ j = 7 ∨ j = 8) with rfl | rfl | rfl | rfl | rfl | rfl | rfl | rfl | rfl <;> rfl)
  have h1 := h0.setW 1 (.bool x.write) ⟨x.line, x.write, y.back, y.came, y.own, y.keep, y.need, y.got, y.val⟩ hn (by omega) (fun j hj => by rw [wait_at]; rcases (by omega : j = 0 ∨ j = 1 ∨ j = 2 ∨ j = 3 ∨ j = 4 ∨ j = 5 ∨ j = 6 ∨ j = 7 ∨ j = 8) with rfl | rfl | rfl | rfl | rfl | rfl | rfl | rfl | rfl <;> rfl)
  have h2 := h1.setW 2 (.bool x.back) ⟨x.line, x.write, x.back, y.came, y.own, y.keep, y.need, y.got, y.val⟩ hn (by omega) (fun j hj => by rw [wait_at]; rcases (by omega : j = 0 ∨ j = 1 ∨ j = 2 ∨ j = 3 ∨ j = 4 ∨ j = 5 ∨ j = 6 ∨ j = 7 ∨ j = 8) with rfl | rfl | rfl | rfl | rfl | rfl | rfl | rfl | rfl <;> rfl)
  have h3 := h2.setW 3 (.bool x.came) ⟨x.line, x.write, x.back, x.came, y.own, y.keep, y.need, y.got, y.val⟩ hn (by omega) (fun j hj => by rw [wait_at]; rcases (by omega : j = 0 ∨ j = 1 ∨ j = 2 ∨ j = 3 ∨ j = 4 ∨ j = 5 ∨ j = 6 ∨ j = 7 ∨ j = 8) with rfl | rfl | rfl | rfl | rfl | rfl | rfl | rfl | rfl <;> rfl)
  have h4 := h3.setW 4 (.bool x.own) ⟨x.line, x.write, x.back, x.came, x.own, y.keep, y.need, y.got, y.val⟩ hn (by omega) (fun j hj => by rw [wait_at]; rcases (by omega : j = 0 ∨ j = 1 ∨ j = 2 ∨ j = 3 ∨ j = 4 ∨ j = 5 ∨ j = 6 ∨ j = 7 ∨ j = 8) with rfl | rfl | rfl | rfl | rfl | rfl | rfl | rfl | rfl <;> rfl)
  have h5 := h4.setW 5 (.bool x.keep) ⟨x.line, x.write, x.back, x.came, x.own, x.keep, y.need, y.got, y.val⟩ hn (by omega) (fun j hj => by rw [wait_at]; rcases (by omega : j = 0 ∨ j = 1 ∨ j = 2 ∨ j = 3 ∨ j = 4 ∨ j = 5 ∨ j = 6 ∨ j = 7 ∨ j = 8) with rfl | rfl | rfl | rfl | rfl | rfl | rfl | rfl | rfl <;> rfl)
  have h6 := h5.setW 6 (.int .i64 (x.need : Nat)) ⟨x.line, x.write, x.back, x.came, x.own, x.keep, x.need, y.got, y.val⟩ hn (by omega) (fun j hj => by rw [wait_at]; rcases (by omega : j = 0 ∨ j = 1 ∨ j = 2 ∨ j = 3 ∨ j = 4 ∨ j = 5 ∨ j = 6 ∨ j = 7 ∨ j = 8) with rfl | rfl | rfl | rfl | rfl | rfl | rfl | rfl | rfl <;> rfl)
  have h7 := h6.setW 7 (.int .i64 (x.got : Nat)) ⟨x.line, x.write, x.back, x.came, x.own, x.keep, x.need, x.got, y.val⟩ hn (by omega) (fun j hj => by rw [wait_at]; rcases (by omega : j = 0 ∨ j = 1 ∨ j = 2 ∨ j = 3 ∨ j = 4 ∨ j = 5 ∨ j = 6 ∨ j = 7 ∨ j = 8) with rfl | rfl | rfl | rfl | rfl | rfl | rfl | rfl | rfl <;> rfl)
  have h8 := h7.setW 8 (.int .u32 (x.val : Nat)) x hn (by omega) (fun j hj => by rw [wait_at]; rcases (by omega : j = 0 ∨ j = 1 ∨ j = 2 ∨ j = 3 ∨ j = 4 ∨ j = 5 ∨ j = 6 ∨ j = 7 ∨ j = 8) with rfl | rfl | rfl | rfl | rfl | rfl | rfl | rfl | rfl <;> rfl)
  simp only [wait_wait] at h8
  exact h8

theorem eq_succ (x k : Nat) : ((x : Int) == (k : Int) + 1) = decide (x = k + 1) := by
  by_cases e : x = k + 1
  · have : (x : Int) = (k : Int) + 1 := by omega
    rw [decide_eq_true e, this]; simp
  · have : ¬ (x : Int) = (k : Int) + 1 := by omega
    rw [decide_eq_false e]; simpa using this
theorem le_two (x : Nat) : decide ((2 : Int) ≤ (x : Int)) = decide (1 < x) := by
  by_cases e : 1 < x
  · rw [decide_eq_true e, decide_eq_true (by omega)]
  · rw [decide_eq_false e, decide_eq_false (by omega)]
section
set_option maxHeartbeats 2000000
theorem waits_mem {w : World} {bs c l : Nat} {A : Tg → Pa} {F : Pr.Fs} {pv f : Value} (h : Mem w bs c l A F pv f) (n k : Nat) (hn : n < c) (hk : k < l) (p : Option Addr) (m cp : Nat) :
    Calls Tryz.prog 86 #[.agg #[(A .st).sl c, (A .va).sl c, (A .wt).sl c, (A .ho).sl l, (A .di).sl l, (A .bu).sl l, .slice p m cp], .int .i64 n, .int .i64 k] w fun e w' => e = .returned (.bool (decide ((F.wt n).line = k + 1))) ∧ Below w.heap.size w w' := by
  have hc4 := h.c4
  have hl16 := h.l16
  have hcell : w.cell? ⟨(A .wt).b, (A .wt).o + n * 9, none⟩ = some (.int .i64 ((F.wt n).line : Nat)) := by
    exact h.wt_ hn 0 (by omega)
  have hlt := h.lt .wt (by show 0 < c * 9; omega)
  unfold Pa.sl
  obtain ⟨b, hb⟩ : ∃ b, b = (A .wt).b := ⟨_, rfl⟩
  obtain ⟨o, ho⟩ : ∃ o, o = (A .wt).o := ⟨_, rfl⟩
  obtain ⟨x, hx⟩ : ∃ x, x = (F.wt n).line := ⟨_, rfl⟩
  rw [← hb, ← ho, ← hx] at hcell
  rw [← hb] at hlt
  rw [← hb, ← ho, ← hx]
  have hcell2 : ∀ ob : Obj, (w.alloc ob).cell? ⟨b, o + n * 9, none⟩ = some (.int .i64 (x : Nat)) := fun ob => (((Below.refl _ _).alloc (Nat.le_refl w.heap.size) ob).cell (p := ⟨b, o + n * 9, none⟩) hlt).trans hcell
  have hwr : wrap64 ((k : Int) + 1) = (k : Int) + 1 := by unfold wrap64; omega
  have hnI : (n : Int) < (c : Int) := by omega
  have hn0 : (0 : Int) ≤ (n : Int) := by omega
  have hd : ((x : Int) == (k : Int) + 1) = decide (x = k + 1) := eq_succ x k
  clear hb ho hx hcell h
  go_enter Tryz.func86, Tryz.ntmps86
  go_wp2_with fail
  go_ret
  exact ⟨rfl, (Below.refl _ _).alloc (Nat.le_refl _) _⟩
theorem owns_mem {w : World} {bs c l : Nat} {A : Tg → Pa} {F : Pr.Fs} {pv f : Value} (h : Mem w bs c l A F pv f) (n k : Nat) (hn : n < c) (hk : k < l) (p : Option Addr) (m cp : Nat) :
    Calls Tryz.prog 47 #[.agg #[(A .st).sl c, (A .va).sl c, (A .wt).sl c, (A .ho).sl l, (A .di).sl l, (A .bu).sl l, .slice p m cp], .int .i64 n, .int .i64 k] w fun e w' => e = .returned (.bool (decide (1 < F.st n k))) ∧ Below w.heap.size w w' := by
  have hc4 := h.c4
  have hl16 := h.l16
  have hc1 : w.cell? ⟨(A .st).b, (A .st).o + n, none⟩ = some (.slice (some ⟨(A (.sr n)).b, (A (.sr n)).o, none⟩) l (A (.sr n)).c) := h.cell .st n hn
  have hc2 : w.cell? ⟨(A (.sr n)).b, (A (.sr n)).o + k, none⟩ = some (.int .i64 (F.st n k : Nat)) := h.cell (.sr n) k (by show k < if n < c then l else 0; rw [if_pos hn]; exact hk)
  have hlt := h.lt .st (by show 0 < c; omega)
  have hlt2 := h.lt (.sr n) (by show 0 < if n < c then l else 0; rw [if_pos hn]; omega)
  unfold Pa.sl
  have hA : ∀ ob : Obj, (w.alloc ob).cell? ⟨(A .st).b, (A .st).o + n, none⟩ = some (.slice (some ⟨(A (.sr n)).b, (A (.sr n)).o, none⟩) l (A (.sr n)).c) := fun ob => (((Below.refl _ _).alloc (Nat.le_refl w.heap.size) ob).cell (p := ⟨(A .st).b, (A .st).o + n, none⟩) hlt).trans hc1
  have hB : ∀ ob : Obj, (w.alloc ob).cell? ⟨(A (.sr n)).b, (A (.sr n)).o + k, none⟩ = some (.int .i64 (F.st n k : Nat)) := fun ob => (((Below.refl _ _).alloc (Nat.le_refl w.heap.size) ob).cell (p := ⟨(A (.sr n)).b, (A (.sr n)).o + k, none⟩) hlt2).trans hc2
  have hnI : (n : Int) < (c : Int) := by omega
  have hn0 : (0 : Int) ≤ (n : Int) := by omega
  have hkI : (k : Int) < (l : Int) := by omega
  have hk0 : (0 : Int) ≤ (k : Int) := by omega
  obtain ⟨x, hx⟩ : ∃ x, x = F.st n k := ⟨_, rfl⟩
  rw [← hx] at hB ⊢
  have hd : decide ((2 : Int) ≤ (x : Int)) = decide (1 < x) := le_two x
  clear hc1 hc2 h hx
  go_enter Tryz.func47, Tryz.ntmps47
  go_wp2_with fail
  go_ret
  exact ⟨rfl, (Below.refl _ _).alloc (Nat.le_refl _) _⟩
theorem behind_any (x : Pr.Wt) (w : World) : Calls Tryz.prog 152 #[.agg #[.int .i64 x.line, .bool x.write, .bool x.back, .bool x.came, .bool x.own, .bool x.keep, .int .i64 x.need, .int .i64 x.got, .int .u32 x.val]] w fun e w' => e = .returned (.int .i64 ((if x.write then 3 else if x.own then 2 else 1 : Nat) : Nat)) ∧ Below w.heap.size w w' := by
  obtain ⟨x0, x1, x2, x3, x4, x5, x6, x7, x8⟩ := x
  cases x1 <;> cases x4 <;> (go_enter Tryz.func152, Tryz.ntmps152; go_wp2_with fail; go_ret; exact ⟨rfl, (Below.refl _ _).alloc (Nat.le_refl _) _⟩)
end
end Go.Proofs.YtmeomdfmljanhaaGreat.Pg
/- What an Inv and a Fwd do at a core. -/
namespace Go.Proofs.YtmeomdfmljanhaaGreat.Pg
set_option linter.unusedVariables false
open Go.ChangeShapes Go.WideShapes Go.ChangeAt Go.RowKit

/-- A message, as a value. -/
abbrev mV (m : Pr.Fm) : Value := .agg #[.int .i64 m.kind, .int .i64 m.frm, .int .i64 m.to, .int .i64 m.line, .int .i64 m.fr, .int .i64 m.acks, .bool m.own, .int .u32 m.num, .int .u32 m.val]
abbrev mA (m : Pr.Fm) : Array Value := #[.int .i64 m.kind, .int .i64 m.frm, .int .i64 m.to, .int .i64 m.line, .int .i64 m.fr, .int .i64 m.acks, .bool m.own, .int .u32 m.num, .int .u32 m.val]
/-- A work is done. -/
def DoneO (base B c l : Nat) (F : Pr.Fs) (L : List (List Nat)) (f : Value) (w : World) (e : Ending) (w' : World) : Prop := e = .returned (.tuple #[]) ∧ WkX w' base B c l F L f ∧ Below base w w'
theorem Wk.cB {w : World} {base B c l : Nat} {F : Pr.Fs} {L : List (List Nat)} {f : Value} {A : Tg → Pa} {p : Option Addr} {cp : Nat} {xs : List Value} (h : Wk w base B c l F L f A p cp xs) {w' : World} (hb : Below w.heap.size w w') : Below base w w' := hb.mono (Nat.le_trans h.hi.1 (Nat.le_of_lt h.hi.2))
theorem eq_one (x : Nat) (y : Nat) : ((x : Int) == (y : Int)) = decide (x = y) := by
  by_cases e : x = y
  · subst e; simp
  · have : ¬ (x : Int) = (y : Int) := by omega
    rw [decide_eq_false e]; simpa using this

set_option maxHeartbeats 4000000 in
set_option maxRecDepth 100000 in
theorem toldOff_wk (base B c l : Nat) (F : Pr.Fs) (L : List (List Nat)) (m : Pr.Fm) (frm : Int) (n : Nat) (w : World) (h : WkX w base B c l F L (sndV B frm m.line)) (hn : n < c) (hk : m.line < l) :
    Calls Tryz.prog 106 #[.pointer (some ⟨B, 0, none⟩), mV m, .int .i64 n] w fun e w' => DoneO base B c l (if F.st n m.line = 1 then F.state n m.line 0 else F) (sendP L ⟨5, frm, m.fr, m.line, 0, 0, false, 0, 0⟩) (sndV B frm m.line) w e w' := by
  obtain ⟨kd, fr, tt, k, fo, ac, ow, nu, va⟩ := m
  obtain ⟨A, p, cp, xs, h⟩ := h
  have hc4 := h.mem.c4
  have hl16 := h.mem.l16
  have hk : k < l := hk
  obtain ⟨w1, hw1⟩ : ∃ w1, w1 = w.alloc (.cells (mA ⟨kd, fr, tt, k, fo, ac, ow, nu, va⟩) 70) := ⟨_, rfl⟩
  have hb1 : Below w.heap.size w w1 := by rw [hw1]; exact (Below.refl _ _).alloc (Nat.le_refl _) _
  have hM : Blk w1 w.heap.size (mA ⟨kd, fr, tt, k, fo, ac, ow, nu, va⟩) := by rw [hw1]; exact Blk.new _ _ _
  have h1 := h.below hb1
  have HC := Lib.hid (h.cB hb1)
  have kM := hM.c
  have HLT := Lib.hid h.mem.lt
  have k0 := h1.c0
  have k7 := h1.c7
  have kr := h1.sr hn
  have ks := h1.s hn hk
  unfold sndV at k7
  have fS : ∀ j, w1.frozen? ⟨(A (.sr n)).b, j, none⟩ = false := h1.fz (.sr n) rfl (by show 0 < if n < c then l else 0; rw [if_pos hn]; omega)
  have hnI : (n : Int) < (c : Int) := by omega
  have hn0 : (0 : Int) ≤ (n : Int) := by omega
  have hkI : (k : Int) < (l : Int) := by omega
  have hk0 : (0 : Int) ≤ (k : Int) := by omega
  have H1 := Lib.hid h1
  have HM := Lib.hid hM
  have HW1 := Lib.hid hw1
  clear h h1 hM hb1 hw1
  obtain ⟨x, hx⟩ : ∃ x, x = F.st n k := ⟨_, rfl⟩
  have HX := Lib.hid hx
  rw [← hx] at ks
  show Calls Tryz.prog 106 _ w fun e w' => DoneO base B c l (if F.st n k = 1 then F.state n k 0 else F) (sendP L ⟨5, frm, fo, k, 0, 0, false, 0, 0⟩) (sndV B frm k) w e w'
  rw [← hx]
  clear hx
  by_cases hs : x = 1
  · subst hs
    rw [if_pos rfl]
    go_enter Tryz.func106, Tryz.ntmps106
    go_upto_region 1 with fail
    rw [← HW1.out]
    refine region_plan (fun V : World => V = w1.drew) 12 [(0, true), (1, true), (2, true), (3, true), (4, true), (5, true), (6, true), (7, true), (8, true), (9, true), (10, true), (11, true)] (by kernel_rfl) (by kernel_rfl) rfl ?_
    iterate 12
      refine plan_read (v := ?_) rfl (by rfl) ?_ ?_
      rotate_left
      · intro w' hS
        try dsimp only at hS
        go_simp
        try with_reducible rfl
      try simp only [Act.put, List.setIfInBounds_toArray, List.set_cons_zero, List.set_cons_succ, List.getElem_toArray, List.getElem_cons_zero, List.getElem_cons_succ]
    refine plan_nil ?_
    simp only [List.drop_succ_cons, List.drop_zero]
    go_upto_region 2 with fail
    refine region_plan (fun V : World => V = w1.drew.drew) 11 [(0, true), (1, true), (2, true), (3, true), (4, true), (5, true), (6, true), (7, true), (8, true), (9, true), (10, true)] (by kernel_rfl) (by kernel_rfl) rfl ?_
    iterate 11
      refine plan_read (v := ?_) rfl (by rfl) ?_ ?_
      rotate_left
      · intro w' hS
        try dsimp only at hS
        go_simp
        try with_reducible rfl
      try simp only [Act.put, List.setIfInBounds_toArray, List.set_cons_zero, List.set_cons_succ, List.getElem_toArray, List.getElem_cons_zero, List.getElem_cons_succ]
    refine plan_nil ?_
    simp only [List.drop_succ_cons, List.drop_zero]
    obtain ⟨w2, hw2⟩ : ∃ w2, w2 = (w1.setCell ⟨(A (.sr n)).b, (A (.sr n)).o + k, none⟩ (.int .i64 0)).drew.drew := ⟨_, rfl⟩
    have h2 : Wk w2 base B c l (F.state n k 0) L (sndV B frm k) A p cp xs := by rw [hw2]; exact (H1.out.setS 0 hn hk).below ((Below.refl _ _).drew.drew)
    have hM2 : Blk w2 w.heap.size (mA ⟨kd, fr, tt, k, fo, ac, ow, nu, va⟩) := by
      rw [hw2]
      refine Blk.drew (Blk.drew (HM.out.other _ (fun e => ?_)))
      have := HLT.out (.sr n) (by show 0 < if n < c then l else 0; rw [if_pos hn]; omega)
      omega
    have HC2 : Hid (Below base w w2) := Lib.hid (by rw [hw2]; exact ((HC.out.setCell (p := ⟨(A (.sr n)).b, (A (.sr n)).o + k, none⟩) (H1.out.base (.sr n) rfl (by show 0 < if n < c then l else 0; rw [if_pos hn]; omega)) _).drew).drew)
    have HW2 := Lib.hid hw2
    have H2 := Lib.hid h2
    have HM2 := Lib.hid hM2
    clear h2 hw2 hM2
    go_upto_region 3 with fail
    rw [← HW2.out]
    clear kM k0 k7 kr ks fS
    have kM2 := HM2.out.c
    have k72 := H2.out.c7
    unfold sndV at k72
    refine region_plan (fun V : World => V = w2.drew) 7 [(0, true), (1, true), (2, true), (3, true), (4, true), (5, true), (6, true)] (by kernel_rfl) (by kernel_rfl) rfl ?_
    iterate 7
      refine plan_read (v := ?_) rfl (by rfl) ?_ ?_
      rotate_left
      · intro w' hS
        try dsimp only at hS
        go_simp
        try with_reducible rfl
      try simp only [Act.put, List.setIfInBounds_toArray, List.set_cons_zero, List.set_cons_succ, List.getElem_toArray, List.getElem_cons_zero, List.getElem_cons_succ]
    refine plan_nil ?_
    simp only [List.drop_succ_cons, List.drop_zero]
    go_wp2_with fail
    refine (send_wk base B c l (F.state n k 0) L _ frm k 5 fo 0 0 false 0 0 w2.drew ⟨A, p, cp, xs, H2.out.below ((Below.refl _ _).drew)⟩ (by omega) (by omega)).mono ?_
    rintro e w' ⟨rfl, h1, h2⟩
    have H1 := Lib.hid h1
    have H2 := Lib.hid h2
    clear h1 h2 kM2 k72
    go_wp2_with fail
    exact bodyPost_end (v := .tuple #[]) (by simp [results, Tryz.results106, go_sem, *]) rfl ⟨rfl, H1.out, HC2.out.drew.trans H2.out⟩
  · have hd : ((x : Int) == 1) = false := by have := eq_one x 1; rw [decide_eq_false hs] at this; exact this
    rw [if_neg hs]
    go_enter Tryz.func106, Tryz.ntmps106
    go_upto_region 1 with fail
    rw [← HW1.out]
    refine region_plan (fun V : World => V = w1.drew) 12 [(0, true), (1, true), (2, true), (3, true), (4, true), (5, true), (6, true), (7, true), (8, true), (9, true), (10, true), (11, true)] (by kernel_rfl) (by kernel_rfl) rfl ?_
    iterate 12
      refine plan_read (v := ?_) rfl (by rfl) ?_ ?_
      rotate_left
      · intro w' hS
        try dsimp only at hS
        go_simp
        try with_reducible rfl
      try simp only [Act.put, List.setIfInBounds_toArray, List.set_cons_zero, List.set_cons_succ, List.getElem_toArray, List.getElem_cons_zero, List.getElem_cons_succ]
    refine plan_nil ?_
    simp only [List.drop_succ_cons, List.drop_zero]
    go_upto_region 3 with fail
    refine region_plan (fun V : World => V = w1.drew.drew) 7 [(0, true), (1, true), (2, true), (3, true), (4, true), (5, true), (6, true)] (by kernel_rfl) (by kernel_rfl) rfl ?_
    iterate 7
      refine plan_read (v := ?_) rfl (by rfl) ?_ ?_
      rotate_left
      · intro w' hS
        try dsimp only at hS
        go_simp
        try with_reducible rfl
      try simp only [Act.put, List.setIfInBounds_toArray, List.set_cons_zero, List.set_cons_succ, List.getElem_toArray, List.getElem_cons_zero, List.getElem_cons_succ]
    refine plan_nil ?_
    simp only [List.drop_succ_cons, List.drop_zero]
    go_wp2_with fail
    refine (send_wk base B c l F L _ frm k 5 fo 0 0 false 0 0 w1.drew.drew ⟨A, p, cp, xs, H1.out.below ((Below.refl _ _).drew.drew)⟩ (by omega) (by omega)).mono ?_
    rintro e w' ⟨rfl, h1, h2⟩
    have H1 := Lib.hid h1
    have H2 := Lib.hid h2
    clear h1 h2 kM k0 k7 kr ks fS
    go_wp2_with fail
    exact bodyPost_end (v := .tuple #[]) (by simp [results, Tryz.results106, go_sem, *]) rfl ⟨rfl, H1.out, HC.out.drew.drew.trans H2.out⟩
end Go.Proofs.YtmeomdfmljanhaaGreat.Pg
/- A core's waiting ends, if all came. -/
namespace Go.Proofs.YtmeomdfmljanhaaGreat.Pg
set_option linter.unusedVariables false
open Go.ChangeShapes Go.WideShapes Go.ChangeAt Go.RowKit

def cameL (F : Pr.Fs) (n : Nat) (L : List (List Nat)) (frm : Int) (k : Nat) : List (List Nat) := if (F.wt n).came = true ∧ (F.wt n).need ≤ (F.wt n).got then sendP L ⟨11, frm, 0, k, 0, 0, false, 0, 0⟩ else L
theorem lt_dec (x y : Nat) : decide ((x : Int) < (y : Int)) = decide (x < y) := by
  by_cases e : x < y
  · rw [decide_eq_true e, decide_eq_true (by omega)]
  · rw [decide_eq_false e, decide_eq_false (by omega)]
set_option maxHeartbeats 8000000 in
set_option maxRecDepth 100000 in
theorem ends_wk (base B c l : Nat) (F : Pr.Fs) (L : List (List Nat)) (frm : Int) (n k : Nat) (w : World) (h : WkX w base B c l F L (sndV B frm k)) (hn : n < c) (hk : k < l) (hl : (F.wt n).line = k + 1) :
    Calls Tryz.prog 144 #[.pointer (some ⟨B, 0, none⟩), .int .i64 n, .int .i64 k] w fun e w' => DoneO base B c l (F.came n).1 (cameL F n L frm k) (sndV B frm k) w e w' := by
  obtain ⟨A, p, cp, xs, h⟩ := h
  have hc4 := h.mem.c4
  have hl16 := h.mem.l16
  have k2 := h.c2
  have q0 := h.w0 hn
  have q1 := h.w1 hn
  have q2 := h.w2 hn
  have q3 := h.w3 hn
  have q4 := h.w4 hn
  have q5 := h.w5 hn
  have q6 := h.w6 hn
  have q7 := h.w7 hn
  have q8 := h.w8 hn
  have hnI : (n : Int) < (c : Int) := by omega
  have hn0 : (0 : Int) ≤ (n : Int) := by omega
  have hkI : (k : Int) < (l : Int) := by omega
  have hk0 : (0 : Int) ≤ (k : Int) := by omega
  have HLT := Lib.hid h.mem.lt
  have H := Lib.hid h
  clear h
  unfold Pr.Fs.came cameL
  rw [hl]
  obtain ⟨⟨x0, x1, x2, x3, x4, x5, x6, x7, x8⟩, hx⟩ : ∃ x, x = F.wt n := ⟨_, rfl⟩
  rw [← hx] at q0 q1 q2 q3 q4 q5 q6 q7 q8 hl ⊢
  have HX := Lib.hid hx
  clear hx
  simp only [Nat.add_sub_cancel]
  simp only at q0 q1 q2 q3 q4 q5 q6 q7 q8 hl
  clear hl
  obtain ⟨E, hE⟩ : ∃ E, E = w.heap.size := ⟨_, rfl⟩
  obtain ⟨w1, hw1⟩ : ∃ w1, w1 = w.alloc (.cells #[.int .i64 x0, .bool x1, .bool x2, .bool x3, .bool x4, .bool x5, .int .i64 x6, .int .i64 x7, .int .u32 x8] 86) := ⟨_, rfl⟩
  have hb1 : Below w.heap.size w w1 := by rw [hw1]; exact (Below.refl _ _).alloc (Nat.le_refl _) _
  have HE : Hid (Blk w1 E #[.int .i64 x0, .bool x1, .bool x2, .bool x3, .bool x4, .bool x5, .int .i64 x6, .int .i64 x7, .int .u32 x8]) := Lib.hid (by rw [hw1, hE]; exact Blk.new _ _ _)
  have H1 := Lib.hid (H.out.below hb1)
  have HC := Lib.hid (H.out.cB hb1)
  have HW1 := Lib.hid hw1
  clear hw1 hb1
  cases x3 with
  | false =>
    rw [if_neg (by rintro ⟨e, _⟩; cases e), if_neg (by rintro ⟨e, _⟩; cases e)]
    go_enter Tryz.func144, Tryz.ntmps144
    go_upto_region 1 with fail
    rw [← hE, ← HW1.out]
    have HEE := Lib.hid hE
    clear hE q0 q1 q2 q3 q4 q5 q6 q7 q8 k2 HW1
    have kE := HE.out.c
    go_wp2_with fail
    exact bodyPost_ret (v := .tuple #[]) (by simp [results, Tryz.results144, go_sem, *]) rfl ⟨rfl, ⟨A, p, cp, xs, H1.out⟩, HC.out⟩
  | true =>
    by_cases hg : x6 ≤ x7
    · have hd : decide ((x7 : Int) < (x6 : Int)) = false := by rw [lt_dec]; exact decide_eq_false (by omega)
      rw [if_pos (c := true = true ∧ x6 ≤ x7) ⟨rfl, hg⟩, if_pos (c := true = true ∧ x6 ≤ x7) ⟨rfl, hg⟩]
      cases x5 with
      | true =>
        simp only [if_true]
        obtain ⟨sv, hsv⟩ : ∃ sv : Nat, sv = (if x1 = true then 3 else if x4 = true then 2 else 1) := ⟨_, rfl⟩
        rw [← hsv]
        have HSV := Lib.hid hsv
        clear hsv
        go_enter Tryz.func144, Tryz.ntmps144
        go_upto_region 1 with fail
        rw [← hE, ← HW1.out]
        have HEE := Lib.hid hE
        clear hE q0 q1 q2 q3 q4 q5 q6 q7 q8 k2 HW1
        have kE := HE.out.c
        go_upto_region 4 with fail
        have ka := H1.out.c0
        have kb := H1.out.sr hn
        have kc := H1.out.s hn hk
        have kf : ∀ j, w1.frozen? ⟨(A (.sr n)).b, j, none⟩ = false := H1.out.fz (.sr n) rfl (by show 0 < if n < c then l else 0; rw [if_pos hn]; omega)
        have HSX : Hid (∀ V, Below w1.heap.size w1 V → (∀ j, V.cell? ⟨E, j, none⟩ = (#[.int .i64 x0, .bool x1, .bool x2, .bool true, .bool x4, .bool true, .int .i64 x6, .int .i64 x7, .int .u32 x8] : Array Value)[j]?) ∧ V.cell? ⟨B, 0, none⟩ = some (.slice (some ⟨(A .st).b, (A .st).o, none⟩) c (A .st).c) ∧ V.cell? ⟨(A .st).b, (A .st).o + n, none⟩ = some (.slice (some ⟨(A (.sr n)).b, (A (.sr n)).o, none⟩) l (A (.sr n)).c)) := Lib.hid (fun V hV => ⟨(HE.out.below hV).c, (H1.out.below hV).c0, (H1.out.below hV).sr hn⟩)
        refine region_plan (fun V : World => (∀ j, V.cell? ⟨E, j, none⟩ = (#[.int .i64 x0, .bool x1, .bool x2, .bool true, .bool x4, .bool true, .int .i64 x6, .int .i64 x7, .int .u32 x8] : Array Value)[j]?) ∧ V.cell? ⟨B, 0, none⟩ = some (.slice (some ⟨(A .st).b, (A .st).o, none⟩) c (A .st).c) ∧ V.cell? ⟨(A .st).b, (A .st).o + n, none⟩ = some (.slice (some ⟨(A (.sr n)).b, (A (.sr n)).o, none⟩) l (A (.sr n)).c)) 11 [(0, true), (1, true), (2, true), (3, true), (4, true), (5, true), (6, true), (7, true), (8, true), (9, true), (10, false)] (by kernel_rfl) (by kernel_rfl) (HSX.out _ ((Below.refl _ _).drew)) ?_
        iterate 10
          refine plan_read (v := ?_) rfl (by rfl) ?_ ?_
          rotate_left
          · intro w' hS
            try dsimp only at hS
            go_simp
            try with_reducible rfl
          try simp only [Act.put, List.setIfInBounds_toArray, List.set_cons_zero, List.set_cons_succ, List.getElem_toArray, List.getElem_cons_zero, List.getElem_cons_succ]
        refine plan_call (F := 152) (args := ?_) rfl (by rfl) ?_ ?_
        rotate_left
        · go_simp
          rfl
        refine (behind_any ⟨x0, x1, x2, true, x4, true, x6, x7, x8⟩ w1.drew).mono ?_
        rintro e V4 ⟨rfl, hb4⟩
        refine ⟨_, rfl, HSX.out _ ((Below.refl _ _).drew.trans hb4), ?_⟩
        try simp only [Act.put, List.setIfInBounds_toArray, List.set_cons_zero, List.set_cons_succ, List.getElem_toArray, List.getElem_cons_zero, List.getElem_cons_succ]
        have hbx : Below w1.heap.size w1 V4 := (Below.refl _ _).drew.trans hb4
        have H4 := Lib.hid (H1.out.below hbx)
        have HC4 := Lib.hid (HC.out.trans (hbx.mono (Nat.le_trans H1.out.hi.1 (Nat.le_of_lt H1.out.hi.2))))
        have kd := H4.out.s hn hk
        have ke : ∀ j, V4.frozen? ⟨(A (.sr n)).b, j, none⟩ = false := H4.out.fz (.sr n) rfl (by show 0 < if n < c then l else 0; rw [if_pos hn]; omega)
        clear hb4 hbx ka kb kc kf kE
        refine plan_nil ?_
        simp only [List.drop_succ_cons, List.drop_zero]
        rw [← HSV.out]
        obtain ⟨w5, hw5⟩ : ∃ w5, w5 = V4.setCell ⟨(A (.sr n)).b, (A (.sr n)).o + k, none⟩ (.int .i64 (sv : Nat)) := ⟨_, rfl⟩
        have h5 : Wk w5 base B c l (Pr.Fs.state F n k sv) L (sndV B frm k) A p cp xs := by rw [hw5]; exact H4.out.setS sv hn hk
        have HC5 : Hid (Below base w w5) := Lib.hid (by rw [hw5]; exact HC4.out.setCell (p := ⟨(A (.sr n)).b, (A (.sr n)).o + k, none⟩) (H4.out.base (.sr n) rfl (by show 0 < if n < c then l else 0; rw [if_pos hn]; omega)) _)
        have HW5 := Lib.hid hw5
        have H5 := Lib.hid h5
        clear hw5 h5
        go_upto_region 5 with fail
        rw [← HW5.out]
        clear kd ke HW5
        have k7 := H5.out.c7
        unfold sndV at k7
        go_wp2_with fail
        refine (send_wk base B c l (Pr.Fs.state F n k sv) L _ frm k 11 0 0 0 false 0 0 w5 ⟨A, p, cp, xs, H5.out⟩ (by omega) (by omega)).mono ?_
        rintro e w6 ⟨rfl, h6, hb6⟩
        obtain ⟨A6, p6, cp6, xs6, h6⟩ := h6
        have HC6 := Lib.hid (HC5.out.trans hb6)
        have H6 := Lib.hid h6
        clear h6 hb6 k7
        have k2 := H6.out.c2
        have q0 := H6.out.w0 hn
        have q1 := H6.out.w1 hn
        have q2 := H6.out.w2 hn
        have q3 := H6.out.w3 hn
        have q4 := H6.out.w4 hn
        have q5 := H6.out.w5 hn
        have q6 := H6.out.w6 hn
        have q7 := H6.out.w7 hn
        have q8 := H6.out.w8 hn
        have qf : ∀ j, w6.frozen? ⟨(A6 .wt).b, j, none⟩ = false := H6.out.fz .wt rfl (by show 0 < c * 9; omega)
        have HB6 : Hid (base ≤ (A6 .wt).b) := Lib.hid (H6.out.base .wt rfl (by show 0 < c * 9; omega))
        have HN6 := Lib.hid (H6.out.setN hn Pr.Wt.none)
        clear H6
        go_wp2_with fail
        exact bodyPost_end (v := .tuple #[]) (by simp [results, Tryz.results144, go_sem, *]) rfl ⟨rfl, ⟨A6, p6, cp6, xs6, HN6.out⟩, ((((((((HC6.out.setCell (p := ⟨(A6 .wt).b, _, none⟩) HB6.out _).setCell (p := ⟨(A6 .wt).b, _, none⟩) HB6.out _).setCell (p := ⟨(A6 .wt).b, _, none⟩) HB6.out _).setCell (p := ⟨(A6 .wt).b, _, none⟩) HB6.out _).setCell (p := ⟨(A6 .wt).b, _, none⟩) HB6.out _).setCell (p := ⟨(A6 .wt).b, _, none⟩) HB6.out _).setCell (p := ⟨(A6 .wt).b, _, none⟩) HB6.out _).setCell (p := ⟨(A6 .wt).b, _, none⟩) HB6.out _).setCell (p := ⟨(A6 .wt).b, _, none⟩) HB6.out _⟩
      | false =>
        simp only [Bool.false_eq_true, if_false]
        obtain ⟨sv, hsv⟩ : ∃ sv : Nat, sv = (if x1 = true then 3 else if x4 = true then 2 else 1) := ⟨_, rfl⟩
        rw [← hsv]
        have HSV := Lib.hid hsv
        clear hsv
        go_enter Tryz.func144, Tryz.ntmps144
        go_upto_region 1 with fail
        rw [← hE, ← HW1.out]
        have HEE := Lib.hid hE
        clear hE q0 q1 q2 q3 q4 q5 q6 q7 q8 k2 HW1
        have kE := HE.out.c
        go_upto_region 3 with fail
        have ka := H1.out.c1
        have kb := H1.out.vr hn
        have kc := H1.out.v hn hk
        have kf : ∀ j, w1.frozen? ⟨(A (.vr n)).b, j, none⟩ = false := H1.out.fz (.vr n) rfl (by show 0 < if n < c then l else 0; rw [if_pos hn]; omega)
        refine region_plan (fun V : World => V = w1.drew) 12 [(0, true), (1, true), (2, true), (3, true), (4, true), (5, true), (6, true), (7, true), (8, true), (9, true), (10, true), (11, true)] (by kernel_rfl) (by kernel_rfl) rfl ?_
        iterate 12
          refine plan_read (v := ?_) rfl (by rfl) ?_ ?_
          rotate_left
          · intro w' hS
            try dsimp only at hS
            go_simp
            try with_reducible rfl
          try simp only [Act.put, List.setIfInBounds_toArray, List.set_cons_zero, List.set_cons_succ, List.getElem_toArray, List.getElem_cons_zero, List.getElem_cons_succ]
        refine plan_nil ?_
        simp only [List.drop_succ_cons, List.drop_zero]
        obtain ⟨w3, hw3⟩ : ∃ w3, w3 = (w1.setCell ⟨(A (.vr n)).b, (A (.vr n)).o + k, none⟩ (.int .u32 (x8 : Nat))).drew := ⟨_, rfl⟩
        have h3 : Wk w3 base B c l (F.value n k x8) L (sndV B frm k) A p cp xs := by rw [hw3]; exact (H1.out.setV x8 hn hk).below ((Below.refl _ _).drew)
        have HC3 : Hid (Below base w w3) := Lib.hid (by rw [hw3]; exact (HC.out.setCell (p := ⟨(A (.vr n)).b, (A (.vr n)).o + k, none⟩) (H1.out.base (.vr n) rfl (by show 0 < if n < c then l else 0; rw [if_pos hn]; omega)) _).drew)
        have HE3 : Hid (Blk w3 E #[.int .i64 x0, .bool x1, .bool x2, .bool true, .bool x4, .bool false, .int .i64 x6, .int .i64 x7, .int .u32 x8]) := Lib.hid (by
          rw [hw3]
          refine Blk.drew (HE.out.other _ (fun e => ?_))
          have := HLT.out (.vr n) (by show 0 < if n < c then l else 0; rw [if_pos hn]; omega)
          have := HEE.out
          omega)
        have HW3 := Lib.hid hw3
        have H3 := Lib.hid h3
        clear hw3 h3
        go_upto_region 4 with fail
        rw [← HW3.out]
        clear ka kb kc kf kE HW3
        have kE := HE3.out.c
        have ka := H3.out.c0
        have kb := H3.out.sr hn
        have kc := H3.out.s hn hk
        have kf : ∀ j, w3.frozen? ⟨(A (.sr n)).b, j, none⟩ = false := H3.out.fz (.sr n) rfl (by show 0 < if n < c then l else 0; rw [if_pos hn]; omega)
        have HSX : Hid (∀ V, Below w3.heap.size w3 V → (∀ j, V.cell? ⟨E, j, none⟩ = (#[.int .i64 x0, .bool x1, .bool x2, .bool true, .bool x4, .bool false, .int .i64 x6, .int .i64 x7, .int .u32 x8] : Array Value)[j]?) ∧ V.cell? ⟨B, 0, none⟩ = some (.slice (some ⟨(A .st).b, (A .st).o, none⟩) c (A .st).c) ∧ V.cell? ⟨(A .st).b, (A .st).o + n, none⟩ = some (.slice (some ⟨(A (.sr n)).b, (A (.sr n)).o, none⟩) l (A (.sr n)).c)) := Lib.hid (fun V hV => ⟨(HE3.out.below hV).c, (H3.out.below hV).c0, (H3.out.below hV).sr hn⟩)
        refine region_plan (fun V : World => (∀ j, V.cell? ⟨E, j, none⟩ = (#[.int .i64 x0, .bool x1, .bool x2, .bool true, .bool x4, .bool false, .int .i64 x6, .int .i64 x7, .int .u32 x8] : Array Value)[j]?) ∧ V.cell? ⟨B, 0, none⟩ = some (.slice (some ⟨(A .st).b, (A .st).o, none⟩) c (A .st).c) ∧ V.cell? ⟨(A .st).b, (A .st).o + n, none⟩ = some (.slice (some ⟨(A (.sr n)).b, (A (.sr n)).o, none⟩) l (A (.sr n)).c)) 11 [(0, true), (1, true), (2, true), (3, true), (4, true), (5, true), (6, true), (7, true), (8, true), (9, true), (10, false)] (by kernel_rfl) (by kernel_rfl) (HSX.out _ ((Below.refl _ _).drew)) ?_
        iterate 10
          refine plan_read (v := ?_) rfl (by rfl) ?_ ?_
          rotate_left
          · intro w' hS
            try dsimp only at hS
            go_simp
            try with_reducible rfl
          try simp only [Act.put, List.setIfInBounds_toArray, List.set_cons_zero, List.set_cons_succ, List.getElem_toArray, List.getElem_cons_zero, List.getElem_cons_succ]
        refine plan_call (F := 152) (args := ?_) rfl (by rfl) ?_ ?_
        rotate_left
        · go_simp
          rfl
        refine (behind_any ⟨x0, x1, x2, true, x4, false, x6, x7, x8⟩ w3.drew).mono ?_
        rintro e V4 ⟨rfl, hb4⟩
        refine ⟨_, rfl, HSX.out _ ((Below.refl _ _).drew.trans hb4), ?_⟩
        try simp only [Act.put, List.setIfInBounds_toArray, List.set_cons_zero, List.set_cons_succ, List.getElem_toArray, List.getElem_cons_zero, List.getElem_cons_succ]
        have hbx : Below w3.heap.size w3 V4 := (Below.refl _ _).drew.trans hb4
        have H4 := Lib.hid (H3.out.below hbx)
        have HC4 := Lib.hid (HC3.out.trans (hbx.mono (Nat.le_trans H3.out.hi.1 (Nat.le_of_lt H3.out.hi.2))))
        have kd := H4.out.s hn hk
        have ke : ∀ j, V4.frozen? ⟨(A (.sr n)).b, j, none⟩ = false := H4.out.fz (.sr n) rfl (by show 0 < if n < c then l else 0; rw [if_pos hn]; omega)
        clear hb4 hbx ka kb kc kf kE
        refine plan_nil ?_
        simp only [List.drop_succ_cons, List.drop_zero]
        rw [← HSV.out]
        obtain ⟨w5, hw5⟩ : ∃ w5, w5 = V4.setCell ⟨(A (.sr n)).b, (A (.sr n)).o + k, none⟩ (.int .i64 (sv : Nat)) := ⟨_, rfl⟩
        have h5 : Wk w5 base B c l (Pr.Fs.state (F.value n k x8) n k sv) L (sndV B frm k) A p cp xs := by rw [hw5]; exact H4.out.setS sv hn hk
        have HC5 : Hid (Below base w w5) := Lib.hid (by rw [hw5]; exact HC4.out.setCell (p := ⟨(A (.sr n)).b, (A (.sr n)).o + k, none⟩) (H4.out.base (.sr n) rfl (by show 0 < if n < c then l else 0; rw [if_pos hn]; omega)) _)
        have HW5 := Lib.hid hw5
        have H5 := Lib.hid h5
        clear hw5 h5
        go_upto_region 5 with fail
        rw [← HW5.out]
        clear kd ke HW5
        have k7 := H5.out.c7
        unfold sndV at k7
        go_wp2_with fail
        refine (send_wk base B c l (Pr.Fs.state (F.value n k x8) n k sv) L _ frm k 11 0 0 0 false 0 0 w5 ⟨A, p, cp, xs, H5.out⟩ (by omega) (by omega)).mono ?_
        rintro e w6 ⟨rfl, h6, hb6⟩
        obtain ⟨A6, p6, cp6, xs6, h6⟩ := h6
        have HC6 := Lib.hid (HC5.out.trans hb6)
        have H6 := Lib.hid h6
        clear h6 hb6 k7
        have k2 := H6.out.c2
        have q0 := H6.out.w0 hn
        have q1 := H6.out.w1 hn
        have q2 := H6.out.w2 hn
        have q3 := H6.out.w3 hn
        have q4 := H6.out.w4 hn
        have q5 := H6.out.w5 hn
        have q6 := H6.out.w6 hn
        have q7 := H6.out.w7 hn
        have q8 := H6.out.w8 hn
        have qf : ∀ j, w6.frozen? ⟨(A6 .wt).b, j, none⟩ = false := H6.out.fz .wt rfl (by show 0 < c * 9; omega)
        have HB6 : Hid (base ≤ (A6 .wt).b) := Lib.hid (H6.out.base .wt rfl (by show 0 < c * 9; omega))
        have HN6 := Lib.hid (H6.out.setN hn Pr.Wt.none)
        clear H6
        go_wp2_with fail
        exact bodyPost_end (v := .tuple #[]) (by simp [results, Tryz.results144, go_sem, *]) rfl ⟨rfl, ⟨A6, p6, cp6, xs6, HN6.out⟩, ((((((((HC6.out.setCell (p := ⟨(A6 .wt).b, _, none⟩) HB6.out _).setCell (p := ⟨(A6 .wt).b, _, none⟩) HB6.out _).setCell (p := ⟨(A6 .wt).b, _, none⟩) HB6.out _).setCell (p := ⟨(A6 .wt).b, _, none⟩) HB6.out _).setCell (p := ⟨(A6 .wt).b, _, none⟩) HB6.out _).setCell (p := ⟨(A6 .wt).b, _, none⟩) HB6.out _).setCell (p := ⟨(A6 .wt).b, _, none⟩) HB6.out _).setCell (p := ⟨(A6 .wt).b, _, none⟩) HB6.out _).setCell (p := ⟨(A6 .wt).b, _, none⟩) HB6.out _⟩
    · have hd : decide ((x7 : Int) < (x6 : Int)) = true := by rw [lt_dec]; exact decide_eq_true (by omega)
      rw [if_neg (by rintro ⟨_, e⟩; exact hg e), if_neg (by rintro ⟨_, e⟩; exact hg e)]
      go_enter Tryz.func144, Tryz.ntmps144
      go_upto_region 1 with fail
      rw [← hE, ← HW1.out]
      have HEE := Lib.hid hE
      clear hE q0 q1 q2 q3 q4 q5 q6 q7 q8 k2 HW1
      have kE := HE.out.c
      go_wp2_with fail
      exact bodyPost_ret (v := .tuple #[]) (by simp [results, Tryz.results144, go_sem, *]) rfl ⟨rfl, ⟨A, p, cp, xs, H1.out⟩, HC.out⟩
end Go.Proofs.YtmeomdfmljanhaaGreat.Pg
/- What a Fwd does at a core. -/
namespace Go.Proofs.YtmeomdfmljanhaaGreat.Pg
set_option linter.unusedVariables false
open Go.ChangeShapes Go.WideShapes Go.ChangeAt Go.RowKit

theorem blk_frame {w w' : World} {B E : Nat} {cs : Array Value} (h : Blk w E cs) (hs : w.heap.size ≤ w'.heap.size) (hf : ∀ b, b < w.heap.size → b ≠ B → w'.heap[b]? = w.heap[b]?) (hne : E ≠ B) : Blk w' E cs :=
  ⟨Nat.lt_of_lt_of_le h.lt hs, fun j => (World.cell?_of_block (a := ⟨E, j, none⟩) (hf E h.lt hne)).trans (h.c j), fun j => (World.frozen?_of_block (a := ⟨E, j, none⟩) (hf E h.lt hne)).trans (h.f j)⟩
theorem state_state (F : Pr.Fs) (n k s s' : Nat) : (F.state n k s).state n k s' = F.state n k s' := by
  unfold Pr.Fs.state Pr.upd2 Pr.upd
  simp only [Pr.Fs.mk.injEq, and_true]
  funext a b
  by_cases e : a = n
  · subst e
    by_cases e2 : b = k <;> simp [e2]
  · simp [e]
set_option maxHeartbeats 8000000 in
set_option maxRecDepth 100000 in
theorem toSend6_wk (base B c l : Nat) (F : Pr.Fs) (L : List (List Nat)) (m : Pr.Fm) (frm : Int) (n : Nat) (w : World) (h : WkX w base B c l F L (sndV B frm m.line)) (hn : n < c) (hk : m.line < l) (hkd : m.kind = 6) (hva : F.va n m.line < 4294967296) :
    Calls Tryz.prog 107 #[.pointer (some ⟨B, 0, none⟩), mV m, .int .i64 n] w fun e w' => DoneO base B c l (if 1 < F.st n m.line then F.state n m.line 4 else F) (if 1 < F.st n m.line then sendP L ⟨3, frm, m.fr, m.line, 0, m.acks, false, 0, F.va n m.line⟩ else L) (sndV B frm m.line) w e w' := by
  obtain ⟨kd, fr, tt, k, fo, ac, ow, nu, va⟩ := m
  obtain ⟨A, p, cp, xs, h⟩ := h
  have hc4 := h.mem.c4
  have hl16 := h.mem.l16
  have hk : k < l := hk
  obtain ⟨E, hE⟩ : ∃ E, E = w.heap.size := ⟨_, rfl⟩
  obtain ⟨w1, hw1⟩ : ∃ w1, w1 = w.alloc (.cells (mA ⟨kd, fr, tt, k, fo, ac, ow, nu, va⟩) 70) := ⟨_, rfl⟩
  have hb1 : Below w.heap.size w w1 := by rw [hw1]; exact (Below.refl _ _).alloc (Nat.le_refl _) _
  have HM1 : Hid (Blk w1 E (mA ⟨kd, fr, tt, k, fo, ac, ow, nu, va⟩)) := Lib.hid (by rw [hw1, hE]; exact Blk.new _ _ _)
  have H1 := Lib.hid (h.below hb1)
  have HC1 := Lib.hid (h.cB hb1)
  have HLT : Hid (∀ t : Tg, 0 < t.sz 8 c l → (A t).b < E) := Lib.hid (by rw [hE]; exact h.mem.lt)
  have HBE : Hid (B < E) := Lib.hid (by rw [hE]; exact h.hi.2)
  have HW1 := Lib.hid hw1
  have HEE := Lib.hid hE
  clear h hw1 hb1 hE
  have hnI : (n : Int) < (c : Int) := by omega
  have hn0 : (0 : Int) ≤ (n : Int) := by omega
  have hkI : (k : Int) < (l : Int) := by omega
  have hk0 : (0 : Int) ≤ (k : Int) := by omega
  have hkd : kd = 6 := hkd
  have hk7 : ((kd : Int) == 7) = false := by rw [hkd]; rfl
  clear hkd
  show Calls Tryz.prog 107 _ w fun e w' => DoneO base B c l (if 1 < F.st n k then F.state n k 4 else F) (if 1 < F.st n k then sendP L ⟨3, frm, fo, k, 0, ac, false, 0, F.va n k⟩ else L) (sndV B frm k) w e w'
  have hva : F.va n k < 4294967296 := hva
  obtain ⟨x, hx⟩ : ∃ x, x = F.st n k := ⟨_, rfl⟩
  rw [← hx]
  have HX := Lib.hid hx
  clear hx
  by_cases hs : 1 < x
  · rw [if_pos hs, if_pos hs]
    have hd : decide (1 < x) = true := decide_eq_true hs
    go_enter Tryz.func107, Tryz.ntmps107
    go_upto_region 1 with fail
    rw [← HEE.out, ← HW1.out]
    have HSP : Hid (∀ V, Below w1.heap.size w1 V → V.cell? ⟨B, 0, none⟩ = some (.slice (some ⟨(A .st).b, (A .st).o, none⟩) c (A .st).c) ∧ V.cell? ⟨B, 1, none⟩ = some (.slice (some ⟨(A .va).b, (A .va).o, none⟩) c (A .va).c) ∧ V.cell? ⟨B, 2, none⟩ = some (.slice (some ⟨(A .wt).b, (A .wt).o, none⟩) c (A .wt).c) ∧ V.cell? ⟨B, 3, none⟩ = some (.slice (some ⟨(A .ho).b, (A .ho).o, none⟩) l (A .ho).c) ∧ V.cell? ⟨B, 4, none⟩ = some (.slice (some ⟨(A .di).b, (A .di).o, none⟩) l (A .di).c) ∧ V.cell? ⟨B, 5, none⟩ = some (.slice (some ⟨(A .bu).b, (A .bu).o, none⟩) l (A .bu).c) ∧ V.cell? ⟨B, 6, none⟩ = some (.slice p L.length cp) ∧ V.cell? ⟨E, 3, none⟩ = some (.int .i64 (k : Nat))) := Lib.hid (fun V hV => ⟨(H1.out.below hV).c0, (H1.out.below hV).c1, (H1.out.below hV).c2, (H1.out.below hV).c3, (H1.out.below hV).c4, (H1.out.below hV).c5, (H1.out.below hV).c6, (HM1.out.below hV).c 3⟩)
    refine region_plan (fun V : World => V.cell? ⟨B, 0, none⟩ = some (.slice (some ⟨(A .st).b, (A .st).o, none⟩) c (A .st).c) ∧ V.cell? ⟨B, 1, none⟩ = some (.slice (some ⟨(A .va).b, (A .va).o, none⟩) c (A .va).c) ∧ V.cell? ⟨B, 2, none⟩ = some (.slice (some ⟨(A .wt).b, (A .wt).o, none⟩) c (A .wt).c) ∧ V.cell? ⟨B, 3, none⟩ = some (.slice (some ⟨(A .ho).b, (A .ho).o, none⟩) l (A .ho).c) ∧ V.cell? ⟨B, 4, none⟩ = some (.slice (some ⟨(A .di).b, (A .di).o, none⟩) l (A .di).c) ∧ V.cell? ⟨B, 5, none⟩ = some (.slice (some ⟨(A .bu).b, (A .bu).o, none⟩) l (A .bu).c) ∧ V.cell? ⟨B, 6, none⟩ = some (.slice p L.length cp) ∧ V.cell? ⟨E, 3, none⟩ = some (.int .i64 (k : Nat))) 8 [(0, true), (1, true), (2, true), (3, true), (4, true), (5, true), (6, true), (7, false)] (by kernel_rfl) (by kernel_rfl) (HSP.out _ ((Below.refl _ _).drew)) ?_
    iterate 7
      refine plan_read (v := ?_) rfl (by rfl) ?_ ?_
      rotate_left
      · intro w' hS
        try dsimp only at hS
        go_simp
        try with_reducible rfl
      try simp only [Act.put, List.setIfInBounds_toArray, List.set_cons_zero, List.set_cons_succ, List.getElem_toArray, List.getElem_cons_zero, List.getElem_cons_succ]
    refine plan_call (F := 47) (args := ?_) rfl (by rfl) ?_ ?_
    rotate_left
    · go_simp
      rfl
    refine (owns_mem (H1.out.below ((Below.refl _ _).drew)).mem n k hn hk p L.length cp).mono ?_
    rintro e V2 ⟨rfl, hb2⟩
    refine ⟨_, rfl, HSP.out _ ((Below.refl _ _).drew.trans hb2), ?_⟩
    try simp only [Act.put, List.setIfInBounds_toArray, List.set_cons_zero, List.set_cons_succ, List.getElem_toArray, List.getElem_cons_zero, List.getElem_cons_succ]
    have hbx : Below w1.heap.size w1 V2 := (Below.refl _ _).drew.trans hb2
    have H2 := Lib.hid (H1.out.below hbx)
    have HM2 := Lib.hid (HM1.out.below hbx)
    have HC2 := Lib.hid (HC1.out.trans (hbx.mono (Nat.le_trans H1.out.hi.1 (Nat.le_of_lt H1.out.hi.2))))
    clear hb2 hbx
    refine plan_nil ?_
    simp only [List.drop_succ_cons, List.drop_zero]
    rw [← HX.out, hd]
    go_upto_region 2 with fail
    have k1 := H2.out.c1
    have k7 := H2.out.c7
    have kr := H2.out.vr hn
    have kv := H2.out.v hn hk
    have kM := HM2.out.c
    unfold sndV at k7
    refine region_plan (fun V : World => V = V2.drew) 24 [(0, true), (1, true), (2, true), (3, true), (4, true), (5, true), (6, true), (7, true), (8, true), (9, true), (10, true), (11, true), (12, true), (13, true), (14, true), (15, true), (16, true), (17, true), (18, true), (19, true), (20, true), (21, true), (22, true), (23, true)] (by kernel_rfl) (by kernel_rfl) rfl ?_
    iterate 24
      refine plan_read (v := ?_) rfl (by rfl) ?_ ?_
      rotate_left
      · intro w' hS
        try dsimp only at hS
        go_simp
        try with_reducible rfl
      try simp only [Act.put, List.setIfInBounds_toArray, List.set_cons_zero, List.set_cons_succ, List.getElem_toArray, List.getElem_cons_zero, List.getElem_cons_succ]
    refine plan_nil ?_
    simp only [List.drop_succ_cons, List.drop_zero]
    go_wp2_with fail
    refine (send_fr base B c l F L _ A p cp xs frm k 3 fo 0 ac false 0 (F.va n k) V2.drew (H2.out.below ((Below.refl _ _).drew)) (by omega) hva).mono ?_
    rintro e w3 ⟨rfl, h3, hb3, hsz, hf3⟩
    obtain ⟨p3, cp3, xs3, h3⟩ := h3
    have HM3 := Lib.hid (blk_frame HM2.out hsz hf3 (by have := HBE.out; omega))
    have HC3 := Lib.hid (HC2.out.drew.trans hb3)
    have H3 := Lib.hid h3
    clear h3 hb3 hf3 hsz k1 k7 kr kv kM
    go_upto_region 3 with fail
    have k0 := H3.out.c0
    have kr := H3.out.sr hn
    have ks := H3.out.s hn hk
    have kM := HM3.out.c
    have fS : ∀ j, w3.frozen? ⟨(A (.sr n)).b, j, none⟩ = false := H3.out.fz (.sr n) rfl (by show 0 < if n < c then l else 0; rw [if_pos hn]; omega)
    refine region_plan (fun V : World => V = w3.drew) 11 [(0, true), (1, true), (2, true), (3, true), (4, true), (5, true), (6, true), (7, true), (8, true), (9, true), (10, true)] (by kernel_rfl) (by kernel_rfl) rfl ?_
    iterate 11
      refine plan_read (v := ?_) rfl (by rfl) ?_ ?_
      rotate_left
      · intro w' hS
        try dsimp only at hS
        go_simp
        try with_reducible rfl
      try simp only [Act.put, List.setIfInBounds_toArray, List.set_cons_zero, List.set_cons_succ, List.getElem_toArray, List.getElem_cons_zero, List.getElem_cons_succ]
    refine plan_nil ?_
    simp only [List.drop_succ_cons, List.drop_zero]
    obtain ⟨w4, hw4⟩ : ∃ w4, w4 = (w3.setCell ⟨(A (.sr n)).b, (A (.sr n)).o + k, none⟩ (.int .i64 4)).drew := ⟨_, rfl⟩
    have H4 : Hid (Wk w4 base B c l (F.state n k 4) _ (sndV B frm k) A p3 cp3 xs3) := Lib.hid (by rw [hw4]; exact (H3.out.setS 4 hn hk).below ((Below.refl _ _).drew))
    have HC4 : Hid (Below base w w4) := Lib.hid (by rw [hw4]; exact (HC3.out.setCell (p := ⟨(A (.sr n)).b, (A (.sr n)).o + k, none⟩) (H3.out.base (.sr n) rfl (by show 0 < if n < c then l else 0; rw [if_pos hn]; omega)) _).drew)
    have HM4 : Hid (Blk w4 E (mA ⟨kd, fr, tt, k, fo, ac, ow, nu, va⟩)) := Lib.hid (by
      rw [hw4]
      exact Blk.drew (HM3.out.other _ (fun e => by have := HLT.out (.sr n) (by show 0 < if n < c then l else 0; rw [if_pos hn]; omega); omega)))
    have HW4 := Lib.hid hw4
    clear hw4
    go_upto_region 4 with fail
    rw [← HW4.out]
    clear k0 kr ks kM fS
    have kM := HM4.out.c
    go_wp2_with fail
    exact bodyPost_end (v := .tuple #[]) (by simp [results, Tryz.results107, go_sem, *]) rfl ⟨rfl, ⟨A, p3, cp3, xs3, H4.out⟩, HC4.out⟩
  · rw [if_neg hs, if_neg hs]
    have hd : decide (1 < x) = false := decide_eq_false hs
    go_enter Tryz.func107, Tryz.ntmps107
    go_upto_region 1 with fail
    rw [← HEE.out, ← HW1.out]
    have HSP : Hid (∀ V, Below w1.heap.size w1 V → V.cell? ⟨B, 0, none⟩ = some (.slice (some ⟨(A .st).b, (A .st).o, none⟩) c (A .st).c) ∧ V.cell? ⟨B, 1, none⟩ = some (.slice (some ⟨(A .va).b, (A .va).o, none⟩) c (A .va).c) ∧ V.cell? ⟨B, 2, none⟩ = some (.slice (some ⟨(A .wt).b, (A .wt).o, none⟩) c (A .wt).c) ∧ V.cell? ⟨B, 3, none⟩ = some (.slice (some ⟨(A .ho).b, (A .ho).o, none⟩) l (A .ho).c) ∧ V.cell? ⟨B, 4, none⟩ = some (.slice (some ⟨(A .di).b, (A .di).o, none⟩) l (A .di).c) ∧ V.cell? ⟨B, 5, none⟩ = some (.slice (some ⟨(A .bu).b, (A .bu).o, none⟩) l (A .bu).c) ∧ V.cell? ⟨B, 6, none⟩ = some (.slice p L.length cp) ∧ V.cell? ⟨E, 3, none⟩ = some (.int .i64 (k : Nat))) := Lib.hid (fun V hV => ⟨(H1.out.below hV).c0, (H1.out.below hV).c1, (H1.out.below hV).c2, (H1.out.below hV).c3, (H1.out.below hV).c4, (H1.out.below hV).c5, (H1.out.below hV).c6, (HM1.out.below hV).c 3⟩)
    refine region_plan (fun V : World => V.cell? ⟨B, 0, none⟩ = some (.slice (some ⟨(A .st).b, (A .st).o, none⟩) c (A .st).c) ∧ V.cell? ⟨B, 1, none⟩ = some (.slice (some ⟨(A .va).b, (A .va).o, none⟩) c (A .va).c) ∧ V.cell? ⟨B, 2, none⟩ = some (.slice (some ⟨(A .wt).b, (A .wt).o, none⟩) c (A .wt).c) ∧ V.cell? ⟨B, 3, none⟩ = some (.slice (some ⟨(A .ho).b, (A .ho).o, none⟩) l (A .ho).c) ∧ V.cell? ⟨B, 4, none⟩ = some (.slice (some ⟨(A .di).b, (A .di).o, none⟩) l (A .di).c) ∧ V.cell? ⟨B, 5, none⟩ = some (.slice (some ⟨(A .bu).b, (A .bu).o, none⟩) l (A .bu).c) ∧ V.cell? ⟨B, 6, none⟩ = some (.slice p L.length cp) ∧ V.cell? ⟨E, 3, none⟩ = some (.int .i64 (k : Nat))) 8 [(0, true), (1, true), (2, true), (3, true), (4, true), (5, true), (6, true), (7, false)] (by kernel_rfl) (by kernel_rfl) (HSP.out _ ((Below.refl _ _).drew)) ?_
    iterate 7
      refine plan_read (v := ?_) rfl (by rfl) ?_ ?_
      rotate_left
      · intro w' hS
        try dsimp only at hS
        go_simp
        try with_reducible rfl
      try simp only [Act.put, List.setIfInBounds_toArray, List.set_cons_zero, List.set_cons_succ, List.getElem_toArray, List.getElem_cons_zero, List.getElem_cons_succ]
    refine plan_call (F := 47) (args := ?_) rfl (by rfl) ?_ ?_
    rotate_left
    · go_simp
      rfl
    refine (owns_mem (H1.out.below ((Below.refl _ _).drew)).mem n k hn hk p L.length cp).mono ?_
    rintro e V2 ⟨rfl, hb2⟩
    refine ⟨_, rfl, HSP.out _ ((Below.refl _ _).drew.trans hb2), ?_⟩
    try simp only [Act.put, List.setIfInBounds_toArray, List.set_cons_zero, List.set_cons_succ, List.getElem_toArray, List.getElem_cons_zero, List.getElem_cons_succ]
    have hbx : Below w1.heap.size w1 V2 := (Below.refl _ _).drew.trans hb2
    have H2 := Lib.hid (H1.out.below hbx)
    have HM2 := Lib.hid (HM1.out.below hbx)
    have HC2 := Lib.hid (HC1.out.trans (hbx.mono (Nat.le_trans H1.out.hi.1 (Nat.le_of_lt H1.out.hi.2))))
    clear hb2 hbx
    refine plan_nil ?_
    simp only [List.drop_succ_cons, List.drop_zero]
    rw [← HX.out, hd]
    go_wp2_with fail
    exact bodyPost_ret (v := .tuple #[]) (by simp [results, Tryz.results107, go_sem, *]) rfl ⟨rfl, ⟨A, p, cp, xs, H2.out⟩, HC2.out⟩
set_option maxHeartbeats 8000000 in
set_option maxRecDepth 100000 in
theorem toSend7_wk (base B c l : Nat) (F : Pr.Fs) (L : List (List Nat)) (m : Pr.Fm) (frm : Int) (n : Nat) (w : World) (h : WkX w base B c l F L (sndV B frm m.line)) (hn : n < c) (hk : m.line < l) (hkd : m.kind = 7) (hva : F.va n m.line < 4294967296) :
    Calls Tryz.prog 107 #[.pointer (some ⟨B, 0, none⟩), mV m, .int .i64 n] w fun e w' => DoneO base B c l (if 1 < F.st n m.line then F.state n m.line 0 else F) (if 1 < F.st n m.line then sendP L ⟨3, frm, m.fr, m.line, 0, m.acks, true, 0, F.va n m.line⟩ else L) (sndV B frm m.line) w e w' := by
  obtain ⟨kd, fr, tt, k, fo, ac, ow, nu, va⟩ := m
  obtain ⟨A, p, cp, xs, h⟩ := h
  have hc4 := h.mem.c4
  have hl16 := h.mem.l16
  have hk : k < l := hk
  obtain ⟨E, hE⟩ : ∃ E, E = w.heap.size := ⟨_, rfl⟩
  obtain ⟨w1, hw1⟩ : ∃ w1, w1 = w.alloc (.cells (mA ⟨kd, fr, tt, k, fo, ac, ow, nu, va⟩) 70) := ⟨_, rfl⟩
  have hb1 : Below w.heap.size w w1 := by rw [hw1]; exact (Below.refl _ _).alloc (Nat.le_refl _) _
  have HM1 : Hid (Blk w1 E (mA ⟨kd, fr, tt, k, fo, ac, ow, nu, va⟩)) := Lib.hid (by rw [hw1, hE]; exact Blk.new _ _ _)
  have H1 := Lib.hid (h.below hb1)
  have HC1 := Lib.hid (h.cB hb1)
  have HLT : Hid (∀ t : Tg, 0 < t.sz 8 c l → (A t).b < E) := Lib.hid (by rw [hE]; exact h.mem.lt)
  have HBE : Hid (B < E) := Lib.hid (by rw [hE]; exact h.hi.2)
  have HW1 := Lib.hid hw1
  have HEE := Lib.hid hE
  clear h hw1 hb1 hE
  have hnI : (n : Int) < (c : Int) := by omega
  have hn0 : (0 : Int) ≤ (n : Int) := by omega
  have hkI : (k : Int) < (l : Int) := by omega
  have hk0 : (0 : Int) ≤ (k : Int) := by omega
  have hkd : kd = 7 := hkd
  have hk7 : ((kd : Int) == 7) = true := by rw [hkd]; rfl
  clear hkd
  show Calls Tryz.prog 107 _ w fun e w' => DoneO base B c l (if 1 < F.st n k then F.state n k 0 else F) (if 1 < F.st n k then sendP L ⟨3, frm, fo, k, 0, ac, true, 0, F.va n k⟩ else L) (sndV B frm k) w e w'
  have hva : F.va n k < 4294967296 := hva
  obtain ⟨x, hx⟩ : ∃ x, x = F.st n k := ⟨_, rfl⟩
  rw [← hx]
  have HX := Lib.hid hx
  clear hx
  by_cases hs : 1 < x
  · rw [if_pos hs, if_pos hs]
    have hd : decide (1 < x) = true := decide_eq_true hs
    go_enter Tryz.func107, Tryz.ntmps107
    go_upto_region 1 with fail
    rw [← HEE.out, ← HW1.out]
    have HSP : Hid (∀ V, Below w1.heap.size w1 V → V.cell? ⟨B, 0, none⟩ = some (.slice (some ⟨(A .st).b, (A .st).o, none⟩) c (A .st).c) ∧ V.cell? ⟨B, 1, none⟩ = some (.slice (some ⟨(A .va).b, (A .va).o, none⟩) c (A .va).c) ∧ V.cell? ⟨B, 2, none⟩ = some (.slice (some ⟨(A .wt).b, (A .wt).o, none⟩) c (A .wt).c) ∧ V.cell? ⟨B, 3, none⟩ = some (.slice (some ⟨(A .ho).b, (A .ho).o, none⟩) l (A .ho).c) ∧ V.cell? ⟨B, 4, none⟩ = some (.slice (some ⟨(A .di).b, (A .di).o, none⟩) l (A .di).c) ∧ V.cell? ⟨B, 5, none⟩ = some (.slice (some ⟨(A .bu).b, (A .bu).o, none⟩) l (A .bu).c) ∧ V.cell? ⟨B, 6, none⟩ = some (.slice p L.length cp) ∧ V.cell? ⟨E, 3, none⟩ = some (.int .i64 (k : Nat))) := Lib.hid (fun V hV => ⟨(H1.out.below hV).c0, (H1.out.below hV).c1, (H1.out.below hV).c2, (H1.out.below hV).c3, (H1.out.below hV).c4, (H1.out.below hV).c5, (H1.out.below hV).c6, (HM1.out.below hV).c 3⟩)
    refine region_plan (fun V : World => V.cell? ⟨B, 0, none⟩ = some (.slice (some ⟨(A .st).b, (A .st).o, none⟩) c (A .st).c) ∧ V.cell? ⟨B, 1, none⟩ = some (.slice (some ⟨(A .va).b, (A .va).o, none⟩) c (A .va).c) ∧ V.cell? ⟨B, 2, none⟩ = some (.slice (some ⟨(A .wt).b, (A .wt).o, none⟩) c (A .wt).c) ∧ V.cell? ⟨B, 3, none⟩ = some (.slice (some ⟨(A .ho).b, (A .ho).o, none⟩) l (A .ho).c) ∧ V.cell? ⟨B, 4, none⟩ = some (.slice (some ⟨(A .di).b, (A .di).o, none⟩) l (A .di).c) ∧ V.cell? ⟨B, 5, none⟩ = some (.slice (some ⟨(A .bu).b, (A .bu).o, none⟩) l (A .bu).c) ∧ V.cell? ⟨B, 6, none⟩ = some (.slice p L.length cp) ∧ V.cell? ⟨E, 3, none⟩ = some (.int .i64 (k : Nat))) 8 [(0, true), (1, true), (2, true), (3, true), (4, true), (5, true), (6, true), (7, false)] (by kernel_rfl) (by kernel_rfl) (HSP.out _ ((Below.refl _ _).drew)) ?_
    iterate 7
      refine plan_read (v := ?_) rfl (by rfl) ?_ ?_
      rotate_left
      · intro w' hS
        try dsimp only at hS
        go_simp
        try with_reducible rfl
      try simp only [Act.put, List.setIfInBounds_toArray, List.set_cons_zero, List.set_cons_succ, List.getElem_toArray, List.getElem_cons_zero, List.getElem_cons_succ]
    refine plan_call (F := 47) (args := ?_) rfl (by rfl) ?_ ?_
    rotate_left
    · go_simp
      rfl
    refine (owns_mem (H1.out.below ((Below.refl _ _).drew)).mem n k hn hk p L.length cp).mono ?_
    rintro e V2 ⟨rfl, hb2⟩
    refine ⟨_, rfl, HSP.out _ ((Below.refl _ _).drew.trans hb2), ?_⟩
    try simp only [Act.put, List.setIfInBounds_toArray, List.set_cons_zero, List.set_cons_succ, List.getElem_toArray, List.getElem_cons_zero, List.getElem_cons_succ]
    have hbx : Below w1.heap.size w1 V2 := (Below.refl _ _).drew.trans hb2
    have H2 := Lib.hid (H1.out.below hbx)
    have HM2 := Lib.hid (HM1.out.below hbx)
    have HC2 := Lib.hid (HC1.out.trans (hbx.mono (Nat.le_trans H1.out.hi.1 (Nat.le_of_lt H1.out.hi.2))))
    clear hb2 hbx
    refine plan_nil ?_
    simp only [List.drop_succ_cons, List.drop_zero]
    rw [← HX.out, hd]
    go_upto_region 2 with fail
    have k1 := H2.out.c1
    have k7 := H2.out.c7
    have kr := H2.out.vr hn
    have kv := H2.out.v hn hk
    have kM := HM2.out.c
    unfold sndV at k7
    refine region_plan (fun V : World => V = V2.drew) 24 [(0, true), (1, true), (2, true), (3, true), (4, true), (5, true), (6, true), (7, true), (8, true), (9, true), (10, true), (11, true), (12, true), (13, true), (14, true), (15, true), (16, true), (17, true), (18, true), (19, true), (20, true), (21, true), (22, true), (23, true)] (by kernel_rfl) (by kernel_rfl) rfl ?_
    iterate 24
      refine plan_read (v := ?_) rfl (by rfl) ?_ ?_
      rotate_left
      · intro w' hS
        try dsimp only at hS
        go_simp
        try with_reducible rfl
      try simp only [Act.put, List.setIfInBounds_toArray, List.set_cons_zero, List.set_cons_succ, List.getElem_toArray, List.getElem_cons_zero, List.getElem_cons_succ]
    refine plan_nil ?_
    simp only [List.drop_succ_cons, List.drop_zero]
    go_wp2_with fail
    refine (send_fr base B c l F L _ A p cp xs frm k 3 fo 0 ac true 0 (F.va n k) V2.drew (H2.out.below ((Below.refl _ _).drew)) (by omega) hva).mono ?_
    rintro e w3 ⟨rfl, h3, hb3, hsz, hf3⟩
    obtain ⟨p3, cp3, xs3, h3⟩ := h3
    have HM3 := Lib.hid (blk_frame HM2.out hsz hf3 (by have := HBE.out; omega))
    have HC3 := Lib.hid (HC2.out.drew.trans hb3)
    have H3 := Lib.hid h3
    clear h3 hb3 hf3 hsz k1 k7 kr kv kM
    go_upto_region 3 with fail
    have k0 := H3.out.c0
    have kr := H3.out.sr hn
    have ks := H3.out.s hn hk
    have kM := HM3.out.c
    have fS : ∀ j, w3.frozen? ⟨(A (.sr n)).b, j, none⟩ = false := H3.out.fz (.sr n) rfl (by show 0 < if n < c then l else 0; rw [if_pos hn]; omega)
    refine region_plan (fun V : World => V = w3.drew) 11 [(0, true), (1, true), (2, true), (3, true), (4, true), (5, true), (6, true), (7, true), (8, true), (9, true), (10, true)] (by kernel_rfl) (by kernel_rfl) rfl ?_
    iterate 11
      refine plan_read (v := ?_) rfl (by rfl) ?_ ?_
      rotate_left
      · intro w' hS
        try dsimp only at hS
        go_simp
        try with_reducible rfl
      try simp only [Act.put, List.setIfInBounds_toArray, List.set_cons_zero, List.set_cons_succ, List.getElem_toArray, List.getElem_cons_zero, List.getElem_cons_succ]
    refine plan_nil ?_
    simp only [List.drop_succ_cons, List.drop_zero]
    obtain ⟨w4, hw4⟩ : ∃ w4, w4 = (w3.setCell ⟨(A (.sr n)).b, (A (.sr n)).o + k, none⟩ (.int .i64 4)).drew := ⟨_, rfl⟩
    have H4 : Hid (Wk w4 base B c l (F.state n k 4) _ (sndV B frm k) A p3 cp3 xs3) := Lib.hid (by rw [hw4]; exact (H3.out.setS 4 hn hk).below ((Below.refl _ _).drew))
    have HC4 : Hid (Below base w w4) := Lib.hid (by rw [hw4]; exact (HC3.out.setCell (p := ⟨(A (.sr n)).b, (A (.sr n)).o + k, none⟩) (H3.out.base (.sr n) rfl (by show 0 < if n < c then l else 0; rw [if_pos hn]; omega)) _).drew)
    have HM4 : Hid (Blk w4 E (mA ⟨kd, fr, tt, k, fo, ac, ow, nu, va⟩)) := Lib.hid (by
      rw [hw4]
      exact Blk.drew (HM3.out.other _ (fun e => by have := HLT.out (.sr n) (by show 0 < if n < c then l else 0; rw [if_pos hn]; omega); omega)))
    have HW4 := Lib.hid hw4
    clear hw4
    go_upto_region 4 with fail
    rw [← HW4.out]
    clear k0 kr ks kM fS
    have kM := HM4.out.c
    go_upto_region 5 with fail
    have k0 := H4.out.c0
    have kr := H4.out.sr hn
    have ks := H4.out.s hn hk
    have fS : ∀ j, w4.frozen? ⟨(A (.sr n)).b, j, none⟩ = false := H4.out.fz (.sr n) rfl (by show 0 < if n < c then l else 0; rw [if_pos hn]; omega)
    refine region_plan (fun V : World => V = w4.drew) 11 [(0, true), (1, true), (2, true), (3, true), (4, true), (5, true), (6, true), (7, true), (8, true), (9, true), (10, true)] (by kernel_rfl) (by kernel_rfl) rfl ?_
    iterate 11
      refine plan_read (v := ?_) rfl (by rfl) ?_ ?_
      rotate_left
      · intro w' hS
        try dsimp only at hS
        go_simp
        try with_reducible rfl
      try simp only [Act.put, List.setIfInBounds_toArray, List.set_cons_zero, List.set_cons_succ, List.getElem_toArray, List.getElem_cons_zero, List.getElem_cons_succ]
    refine plan_nil ?_
    simp only [List.drop_succ_cons, List.drop_zero]
    have H5 := Lib.hid (((H4.out.setS 0 hn hk).below ((Below.refl _ _).drew)))
    rw [state_state] at H5
    have HC5 := Lib.hid ((HC4.out.setCell (p := ⟨(A (.sr n)).b, (A (.sr n)).o + k, none⟩) (H4.out.base (.sr n) rfl (by show 0 < if n < c then l else 0; rw [if_pos hn]; omega)) (.int .i64 0)).drew)
    go_wp2_with fail
    exact bodyPost_end (v := .tuple #[]) (by simp [results, Tryz.results107, go_sem, *]) rfl ⟨rfl, ⟨A, p3, cp3, xs3, H5.out⟩, HC5.out⟩
  · rw [if_neg hs, if_neg hs]
    have hd : decide (1 < x) = false := decide_eq_false hs
    go_enter Tryz.func107, Tryz.ntmps107
    go_upto_region 1 with fail
    rw [← HEE.out, ← HW1.out]
    have HSP : Hid (∀ V, Below w1.heap.size w1 V → V.cell? ⟨B, 0, none⟩ = some (.slice (some ⟨(A .st).b, (A .st).o, none⟩) c (A .st).c) ∧ V.cell? ⟨B, 1, none⟩ = some (.slice (some ⟨(A .va).b, (A .va).o, none⟩) c (A .va).c) ∧ V.cell? ⟨B, 2, none⟩ = some (.slice (some ⟨(A .wt).b, (A .wt).o, none⟩) c (A .wt).c) ∧ V.cell? ⟨B, 3, none⟩ = some (.slice (some ⟨(A .ho).b, (A .ho).o, none⟩) l (A .ho).c) ∧ V.cell? ⟨B, 4, none⟩ = some (.slice (some ⟨(A .di).b, (A .di).o, none⟩) l (A .di).c) ∧ V.cell? ⟨B, 5, none⟩ = some (.slice (some ⟨(A .bu).b, (A .bu).o, none⟩) l (A .bu).c) ∧ V.cell? ⟨B, 6, none⟩ = some (.slice p L.length cp) ∧ V.cell? ⟨E, 3, none⟩ = some (.int .i64 (k : Nat))) := Lib.hid (fun V hV => ⟨(H1.out.below hV).c0, (H1.out.below hV).c1, (H1.out.below hV).c2, (H1.out.below hV).c3, (H1.out.below hV).c4, (H1.out.below hV).c5, (H1.out.below hV).c6, (HM1.out.below hV).c 3⟩)
    refine region_plan (fun V : World => V.cell? ⟨B, 0, none⟩ = some (.slice (some ⟨(A .st).b, (A .st).o, none⟩) c (A .st).c) ∧ V.cell? ⟨B, 1, none⟩ = some (.slice (some ⟨(A .va).b, (A .va).o, none⟩) c (A .va).c) ∧ V.cell? ⟨B, 2, none⟩ = some (.slice (some ⟨(A .wt).b, (A .wt).o, none⟩) c (A .wt).c) ∧ V.cell? ⟨B, 3, none⟩ = some (.slice (some ⟨(A .ho).b, (A .ho).o, none⟩) l (A .ho).c) ∧ V.cell? ⟨B, 4, none⟩ = some (.slice (some ⟨(A .di).b, (A .di).o, none⟩) l (A .di).c) ∧ V.cell? ⟨B, 5, none⟩ = some (.slice (some ⟨(A .bu).b, (A .bu).o, none⟩) l (A .bu).c) ∧ V.cell? ⟨B, 6, none⟩ = some (.slice p L.length cp) ∧ V.cell? ⟨E, 3, none⟩ = some (.int .i64 (k : Nat))) 8 [(0, true), (1, true), (2, true), (3, true), (4, true), (5, true), (6, true), (7, false)] (by kernel_rfl) (by kernel_rfl) (HSP.out _ ((Below.refl _ _).drew)) ?_
    iterate 7
      refine plan_read (v := ?_) rfl (by rfl) ?_ ?_
      rotate_left
      · intro w' hS
        try dsimp only at hS
        go_simp
        try with_reducible rfl
      try simp only [Act.put, List.setIfInBounds_toArray, List.set_cons_zero, List.set_cons_succ, List.getElem_toArray, List.getElem_cons_zero, List.getElem_cons_succ]
    refine plan_call (F := 47) (args := ?_) rfl (by rfl) ?_ ?_
    rotate_left
    · go_simp
      rfl
    refine (owns_mem (H1.out.below ((Below.refl _ _).drew)).mem n k hn hk p L.length cp).mono ?_
    rintro e V2 ⟨rfl, hb2⟩
    refine ⟨_, rfl, HSP.out _ ((Below.refl _ _).drew.trans hb2), ?_⟩
    try simp only [Act.put, List.setIfInBounds_toArray, List.set_cons_zero, List.set_cons_succ, List.getElem_toArray, List.getElem_cons_zero, List.getElem_cons_succ]
    have hbx : Below w1.heap.size w1 V2 := (Below.refl _ _).drew.trans hb2
    have H2 := Lib.hid (H1.out.below hbx)
    have HM2 := Lib.hid (HM1.out.below hbx)
    have HC2 := Lib.hid (HC1.out.trans (hbx.mono (Nat.le_trans H1.out.hi.1 (Nat.le_of_lt H1.out.hi.2))))
    clear hb2 hbx
    refine plan_nil ?_
    simp only [List.drop_succ_cons, List.drop_zero]
    rw [← HX.out, hd]
    go_wp2_with fail
    exact bodyPost_ret (v := .tuple #[]) (by simp [results, Tryz.results107, go_sem, *]) rfl ⟨rfl, ⟨A, p, cp, xs, H2.out⟩, HC2.out⟩
end Go.Proofs.YtmeomdfmljanhaaGreat.Pg
/- What Data and Ack do at a core that waits. -/
namespace Go.Proofs.YtmeomdfmljanhaaGreat.Pg
set_option linter.unusedVariables false
open Go.ChangeShapes Go.WideShapes Go.ChangeAt Go.RowKit

theorem nine {P : Nat → Prop} (h0 : P 0) (h1 : P 1) (h2 : P 2) (h3 : P 3) (h4 : P 4) (h5 : P 5) (h6 : P 6) (h7 : P 7) (h8 : P 8) : ∀ j, j < 9 → P j := fun j hj => by
  rcases (by omega : j = 0 ∨ j = 1 ∨ j = 2 ∨ j = 3 ∨ j = 4 ∨ j = 5 ∨ j = 6 ∨ j = 7 ∨ j = 8) with rfl | rfl | rfl | rfl | rfl | rfl | rfl | rfl | rfl <;> assumption
def dataF (F : Pr.Fs) (n : Nat) (m : Pr.Fm) : Pr.Fs := F.wait n ⟨(F.wt n).line, (F.wt n).write, false, true, m.own, decide (m.num = 1), m.acks, (F.wt n).got, m.val⟩
theorem data_came {x0 : Nat} {x1 : Bool} {x4 x5 : Bool} {x6 x7 x8 : Nat} {ow kp : Bool} {w : World} {base B c l : Nat} {F : Pr.Fs} {L : List (List Nat)} {f : Value} {A : Tg → Pa} {p : Option Addr} {cp : Nat} {xs : List Value} (h : Wk w base B c l F L f A p cp xs) {n : Nat} (hn : n < c) (hx : F.wt n = ⟨x0, x1, false, false, x4, x5, x6, x7, x8⟩) :
    Wk (((w.setCell ⟨(A .wt).b, (A .wt).o + n * 9 + 3, none⟩ (.bool true)).setCell ⟨(A .wt).b, (A .wt).o + n * 9 + 4, none⟩ (.bool ow)).setCell ⟨(A .wt).b, (A .wt).o + n * 9 + 5, none⟩ (.bool kp)) base B c l (F.wait n ⟨x0, x1, false, true, ow, kp, x6, x7, x8⟩) L f A p cp xs := by
  have h1 := h.setW 3 (.bool true) ⟨x0, x1, false, true, x4, x5, x6, x7, x8⟩ hn (by omega) (by rw [hx]; exact nine rfl rfl rfl rfl rfl rfl rfl rfl rfl)
  have h2 := h1.setW 4 (.bool ow) ⟨x0, x1, false, true, ow, x5, x6, x7, x8⟩ hn (by omega) (by rw [wait_at]; exact nine rfl rfl rfl rfl rfl rfl rfl rfl rfl)
  have h3 := h2.setW 5 (.bool kp) ⟨x0, x1, false, true, ow, kp, x6, x7, x8⟩ hn (by omega) (by rw [wait_at]; exact nine rfl rfl rfl rfl rfl rfl rfl rfl rfl)
  simp only [wait_wait] at h3
  exact h3
theorem data_need {x0 : Nat} {x1 : Bool} {ow kp : Bool} {x6 x7 x8 : Nat} {ac va : Nat} {w : World} {base B c l : Nat} {F : Pr.Fs} {L : List (List Nat)} {f : Value} {A : Tg → Pa} {p : Option Addr} {cp : Nat} {xs : List Value} {n : Nat} (h : Wk w base B c l (F.wait n ⟨x0, x1, false, true, ow, kp, x6, x7, x8⟩) L f A p cp xs) (hn : n < c) :
    Wk ((w.setCell ⟨(A .wt).b, (A .wt).o + n * 9 + 6, none⟩ (.int .i64 (ac : Nat))).setCell ⟨(A .wt).b, (A .wt).o + n * 9 + 8, none⟩ (.int .u32 (va : Nat))) base B c l (F.wait n ⟨x0, x1, false, true, ow, kp, ac, x7, va⟩) L f A p cp xs := by
  have h1 := h.setW 6 (.int .i64 (ac : Nat)) ⟨x0, x1, false, true, ow, kp, ac, x7, x8⟩ hn (by omega) (by rw [wait_at]; exact nine rfl rfl rfl rfl rfl rfl rfl rfl rfl)
  have h2 := h1.setW 8 (.int .u32 (va : Nat)) ⟨x0, x1, false, true, ow, kp, ac, x7, va⟩ hn (by omega) (by rw [wait_at]; exact nine rfl rfl rfl rfl rfl rfl rfl rfl rfl)
  simp only [wait_wait] at h2
  exact h2
set_option maxHeartbeats 8000000 in
set_option maxRecDepth 100000 in
theorem hasData_wk (base B c l : Nat) (F : Pr.Fs) (L : List (List Nat)) (m : Pr.Fm) (frm : Int) (n : Nat) (w : World) (h : WkX w base B c l F L (sndV B frm m.line)) (hn : n < c) (hk : m.line < l) (hl : (F.wt n).line = m.line + 1) :
    Calls Tryz.prog 129 #[.pointer (some ⟨B, 0, none⟩), mV m, .int .i64 n] w fun e w' => DoneO base B c l (if (F.wt n).back = false ∧ (F.wt n).came = false then ((dataF F n m).came n).1 else F) (if (F.wt n).back = false ∧ (F.wt n).came = false then cameL (dataF F n m) n L frm m.line else L) (sndV B frm m.line) w e w' := by
  obtain ⟨kd, fr, tt, k, fo, ac, ow, nu, va⟩ := m
  obtain ⟨A, p, cp, xs, h⟩ := h
  have hc4 := h.mem.c4
  have hl16 := h.mem.l16
  have hk : k < l := hk
  obtain ⟨E, hE⟩ : ∃ E, E = w.heap.size := ⟨_, rfl⟩
  obtain ⟨w1, hw1⟩ : ∃ w1, w1 = w.alloc (.cells (mA ⟨kd, fr, tt, k, fo, ac, ow, nu, va⟩) 70) := ⟨_, rfl⟩
  have hb1 : Below w.heap.size w w1 := by rw [hw1]; exact (Below.refl _ _).alloc (Nat.le_refl _) _
  have HM1 : Hid (Blk w1 E (mA ⟨kd, fr, tt, k, fo, ac, ow, nu, va⟩)) := Lib.hid (by rw [hw1, hE]; exact Blk.new _ _ _)
  have H1 := Lib.hid (h.below hb1)
  have HC1 := Lib.hid (h.cB hb1)
  have HLT : Hid (∀ t : Tg, 0 < t.sz 8 c l → (A t).b < E) := Lib.hid (by rw [hE]; exact h.mem.lt)
  have HBE : Hid (B < E) := Lib.hid (by rw [hE]; exact h.hi.2)
  have HW1 := Lib.hid hw1
  have HEE := Lib.hid hE
  clear h hw1 hb1 hE
  have hnI : (n : Int) < (c : Int) := by omega
  have hn0 : (0 : Int) ≤ (n : Int) := by omega
  have hkI : (k : Int) < (l : Int) := by omega
  have hk0 : (0 : Int) ≤ (k : Int) := by omega
  unfold dataF
  show Calls Tryz.prog 129 _ w fun e w' => DoneO base B c l (if (F.wt n).back = false ∧ (F.wt n).came = false then ((F.wait n ⟨(F.wt n).line, (F.wt n).write, false, true, ow, decide (nu = 1), ac, (F.wt n).got, va⟩).came n).1 else F) (if (F.wt n).back = false ∧ (F.wt n).came = false then cameL (F.wait n ⟨(F.wt n).line, (F.wt n).write, false, true, ow, decide (nu = 1), ac, (F.wt n).got, va⟩) n L frm k else L) (sndV B frm k) w e w'
  have hl : (F.wt n).line = k + 1 := hl
  obtain ⟨⟨x0, x1, x2, x3, x4, x5, x6, x7, x8⟩, hx⟩ : ∃ x, x = F.wt n := ⟨_, rfl⟩
  rw [← hx] at hl ⊢
  have HX := Lib.hid hx
  clear hx
  have q0 := H1.out.w0 hn
  have q1 := H1.out.w1 hn
  have q2 := H1.out.w2 hn
  have q3 := H1.out.w3 hn
  have q4 := H1.out.w4 hn
  have q5 := H1.out.w5 hn
  have q6 := H1.out.w6 hn
  have q7 := H1.out.w7 hn
  have q8 := H1.out.w8 hn
  rw [← HX.out] at q0 q1 q2 q3 q4 q5 q6 q7 q8
  have qf : ∀ j, w1.frozen? ⟨(A .wt).b, j, none⟩ = false := H1.out.fz .wt rfl (by show 0 < c * 9; omega)
  simp only at q0 q1 q2 q3 q4 q5 q6 q7 q8 hl ⊢
  have k2 := H1.out.c2
  have kM := HM1.out.c
  have hnu : ((nu : Int) == 1) = decide (nu = 1) := eq_one nu 1
  have HL := Lib.hid hl
  clear hl
  cases x2 with
  | true =>
    rw [if_neg (by rintro ⟨e, _⟩; cases e), if_neg (c := (true = false ∧ x3 = false)) (by rintro ⟨e, _⟩; cases e)]
    go_enter Tryz.func129, Tryz.ntmps129
    go_upto_region 1 with fail
    rw [← HEE.out, ← HW1.out]
    go_wp2_with fail
    exact bodyPost_ret (v := .tuple #[]) (by simp [results, Tryz.results129, go_sem, *]) rfl ⟨rfl, ⟨A, p, cp, xs, H1.out⟩, HC1.out⟩
  | false =>
    cases x3 with
    | true =>
      rw [if_neg (by rintro ⟨_, e⟩; cases e), if_neg (c := (false = false ∧ true = false)) (by rintro ⟨_, e⟩; cases e)]
      go_enter Tryz.func129, Tryz.ntmps129
      go_upto_region 1 with fail
      rw [← HEE.out, ← HW1.out]
      go_wp2_with fail
      exact bodyPost_ret (v := .tuple #[]) (by simp [results, Tryz.results129, go_sem, *]) rfl ⟨rfl, ⟨A, p, cp, xs, H1.out⟩, HC1.out⟩
    | false =>
      rw [if_pos ⟨rfl, rfl⟩, if_pos (c := (false = false ∧ false = false)) ⟨rfl, rfl⟩]
      obtain ⟨kp, hkp⟩ : ∃ kp, kp = decide (nu = 1) := ⟨_, rfl⟩
      rw [← hkp] at hnu ⊢
      have HKP := Lib.hid hkp
      clear hkp
      go_enter Tryz.func129, Tryz.ntmps129
      go_upto_region 1 with fail
      rw [← HEE.out, ← HW1.out]
      have hne : E ≠ (A .wt).b := by have := HLT.out .wt (by show 0 < c * 9; omega); omega
      have hne' : (A .wt).b ≠ E := fun e => hne e.symm
      go_upto_region 3 with fail
      go_region
      obtain ⟨w2, hw2⟩ : ∃ w2, w2 = (((w1.setCell ⟨(A .wt).b, (A .wt).o + n * 9 + 3, none⟩ (.bool true)).setCell ⟨(A .wt).b, (A .wt).o + n * 9 + 4, none⟩ (.bool ow)).setCell ⟨(A .wt).b, (A .wt).o + n * 9 + 5, none⟩ (.bool kp)).drew := ⟨_, rfl⟩
      have H2 : Hid (Wk w2 base B c l (F.wait n ⟨x0, x1, false, true, ow, kp, x6, x7, x8⟩) L (sndV B frm k) A p cp xs) := Lib.hid (by rw [hw2]; exact (data_came H1.out hn HX.out.symm).below ((Below.refl _ _).drew))
      have HC2 : Hid (Below base w w2) := Lib.hid (by rw [hw2]; exact (((HC1.out.setCell (p := ⟨(A .wt).b, _, none⟩) (H1.out.base .wt rfl (by show 0 < c * 9; omega)) _).setCell (p := ⟨(A .wt).b, _, none⟩) (H1.out.base .wt rfl (by show 0 < c * 9; omega)) _).setCell (p := ⟨(A .wt).b, _, none⟩) (H1.out.base .wt rfl (by show 0 < c * 9; omega)) _).drew)
      have HM2 : Hid (Blk w2 E (mA ⟨kd, fr, tt, k, fo, ac, ow, nu, va⟩)) := Lib.hid (by rw [hw2]; exact (((HM1.out.other _ hne.symm).other _ hne.symm).other _ hne.symm).drew)
      rw [← hw2]
      clear hw2 q0 q1 q2 q3 q4 q5 q6 q7 q8 qf k2 kM
      have kM := HM2.out.c
      have k2 := H2.out.c2
      have q6 := H2.out.w6 hn
      have q8 := H2.out.w8 hn
      rw [wait_at] at q6 q8
      have qf : ∀ j, w2.frozen? ⟨(A .wt).b, j, none⟩ = false := H2.out.fz .wt rfl (by show 0 < c * 9; omega)
      go_upto_region 4 with fail
      go_region
      obtain ⟨w3, hw3⟩ : ∃ w3, w3 = ((w2.setCell ⟨(A .wt).b, (A .wt).o + n * 9 + 6, none⟩ (.int .i64 (ac : Nat))).setCell ⟨(A .wt).b, (A .wt).o + n * 9 + 8, none⟩ (.int .u32 (va : Nat))).drew := ⟨_, rfl⟩
      have H3 : Hid (Wk w3 base B c l (F.wait n ⟨x0, x1, false, true, ow, kp, ac, x7, va⟩) L (sndV B frm k) A p cp xs) := Lib.hid (by rw [hw3]; exact (data_need H2.out hn).below ((Below.refl _ _).drew))
      have HC3 : Hid (Below base w w3) := Lib.hid (by rw [hw3]; exact ((HC2.out.setCell (p := ⟨(A .wt).b, _, none⟩) (H1.out.base .wt rfl (by show 0 < c * 9; omega)) _).setCell (p := ⟨(A .wt).b, _, none⟩) (H1.out.base .wt rfl (by show 0 < c * 9; omega)) _).drew)
      have HM3 : Hid (Blk w3 E (mA ⟨kd, fr, tt, k, fo, ac, ow, nu, va⟩)) := Lib.hid (by rw [hw3]; exact ((HM2.out.other _ hne.symm).other _ hne.symm).drew)
      rw [← hw3]
      clear hw3 q6 q8 qf k2 kM
      have kM := HM3.out.c
      go_wp2_with fail
      refine (ends_wk base B c l _ L frm n k w3 ⟨A, p, cp, xs, H3.out⟩ hn hk (by rw [wait_at]; exact HL.out)).mono ?_
      rintro e w4 ⟨rfl, h4, hb4⟩
      have H4 := Lib.hid h4
      have HB4 := Lib.hid hb4
      clear h4 hb4 kM
      go_wp2_with fail
      exact bodyPost_end (v := .tuple #[]) (by simp [results, Tryz.results129, go_sem, *]) rfl ⟨rfl, H4.out, HC3.out.trans HB4.out⟩
set_option maxHeartbeats 8000000 in
set_option maxRecDepth 100000 in
theorem hasAck_wk (base B c l : Nat) (F : Pr.Fs) (L : List (List Nat)) (m : Pr.Fm) (frm : Int) (n : Nat) (w : World) (h : WkX w base B c l F L (sndV B frm m.line)) (hn : n < c) (hk : m.line < l) (hl : (F.wt n).line = m.line + 1) (hg : (F.wt n).got ≤ 255) :
    Calls Tryz.prog 130 #[.pointer (some ⟨B, 0, none⟩), mV m, .int .i64 n] w fun e w' => DoneO base B c l (if (F.wt n).write = true ∧ (F.wt n).got < 255 then ((F.wait n { F.wt n with got := (F.wt n).got + 1 }).came n).1 else F) (if (F.wt n).write = true ∧ (F.wt n).got < 255 then cameL (F.wait n { F.wt n with got := (F.wt n).got + 1 }) n L frm m.line else L) (sndV B frm m.line) w e w' := by
  obtain ⟨kd, fr, tt, k, fo, ac, ow, nu, va⟩ := m
  obtain ⟨A, p, cp, xs, h⟩ := h
  have hc4 := h.mem.c4
  have hl16 := h.mem.l16
  have hk : k < l := hk
  obtain ⟨E, hE⟩ : ∃ E, E = w.heap.size := ⟨_, rfl⟩
  obtain ⟨w1, hw1⟩ : ∃ w1, w1 = w.alloc (.cells (mA ⟨kd, fr, tt, k, fo, ac, ow, nu, va⟩) 70) := ⟨_, rfl⟩
  have hb1 : Below w.heap.size w w1 := by rw [hw1]; exact (Below.refl _ _).alloc (Nat.le_refl _) _
  have HM1 : Hid (Blk w1 E (mA ⟨kd, fr, tt, k, fo, ac, ow, nu, va⟩)) := Lib.hid (by rw [hw1, hE]; exact Blk.new _ _ _)
  have H1 := Lib.hid (h.below hb1)
  have HC1 := Lib.hid (h.cB hb1)
  have HLT : Hid (∀ t : Tg, 0 < t.sz 8 c l → (A t).b < E) := Lib.hid (by rw [hE]; exact h.mem.lt)
  have HBE : Hid (B < E) := Lib.hid (by rw [hE]; exact h.hi.2)
  have HW1 := Lib.hid hw1
  have HEE := Lib.hid hE
  clear h hw1 hb1 hE
  have hnI : (n : Int) < (c : Int) := by omega
  have hn0 : (0 : Int) ≤ (n : Int) := by omega
  have hkI : (k : Int) < (l : Int) := by omega
  have hk0 : (0 : Int) ≤ (k : Int) := by omega
  have hl : (F.wt n).line = k + 1 := hl
  show Calls Tryz.prog 130 _ w fun e w' => DoneO base B c l (if (F.wt n).write = true ∧ (F.wt n).got < 255 then ((F.wait n { F.wt n with got := (F.wt n).got + 1 }).came n).1 else F) (if (F.wt n).write = true ∧ (F.wt n).got < 255 then cameL (F.wait n { F.wt n with got := (F.wt n).got + 1 }) n L frm k else L) (sndV B frm k) w e w'
  obtain ⟨⟨x0, x1, x2, x3, x4, x5, x6, x7, x8⟩, hx⟩ : ∃ x, x = F.wt n := ⟨_, rfl⟩
  rw [← hx] at hl hg ⊢
  have HX := Lib.hid hx
  clear hx
  have q0 := H1.out.w0 hn
  have q1 := H1.out.w1 hn
  have q2 := H1.out.w2 hn
  have q3 := H1.out.w3 hn
  have q4 := H1.out.w4 hn
  have q5 := H1.out.w5 hn
  have q6 := H1.out.w6 hn
  have q7 := H1.out.w7 hn
  have q8 := H1.out.w8 hn
  rw [← HX.out] at q0 q1 q2 q3 q4 q5 q6 q7 q8
  have qf : ∀ j, w1.frozen? ⟨(A .wt).b, j, none⟩ = false := H1.out.fz .wt rfl (by show 0 < c * 9; omega)
  simp only at q0 q1 q2 q3 q4 q5 q6 q7 q8 hl hg ⊢
  have k2 := H1.out.c2
  have kM := HM1.out.c
  have HL := Lib.hid hl
  clear hl
  cases x1 with
  | false =>
    rw [if_neg (by rintro ⟨e, _⟩; cases e), if_neg (c := (false = true ∧ x7 < 255)) (by rintro ⟨e, _⟩; cases e)]
    go_enter Tryz.func130, Tryz.ntmps130
    go_upto_region 1 with fail
    rw [← HEE.out, ← HW1.out]
    go_wp2_with fail
    exact bodyPost_ret (v := .tuple #[]) (by simp [results, Tryz.results130, go_sem, *]) rfl ⟨rfl, ⟨A, p, cp, xs, H1.out⟩, HC1.out⟩
  | true =>
    by_cases hg2 : x7 < 255
    · rw [if_pos ⟨rfl, hg2⟩, if_pos (c := (true = true ∧ x7 < 255)) ⟨rfl, hg2⟩]
      have hd : ((x7 : Int) == 255) = false := by have := eq_one x7 255; rw [decide_eq_false (by omega)] at this; exact this
      have hw : wrap64 ((x7 : Int) + 1) = ((x7 + 1 : Nat) : Int) := by unfold wrap64; omega
      obtain ⟨g, hg3⟩ : ∃ g, g = x7 + 1 := ⟨_, rfl⟩
      rw [← hg3] at hw ⊢
      clear hg3 hg hg2
      go_enter Tryz.func130, Tryz.ntmps130
      go_upto_region 1 with fail
      rw [← HEE.out, ← HW1.out]
      obtain ⟨w2, hw2⟩ : ∃ w2, w2 = w1.setCell ⟨(A .wt).b, (A .wt).o + n * 9 + 7, none⟩ (.int .i64 (g : Nat)) := ⟨_, rfl⟩
      have H2 : Hid (Wk w2 base B c l (F.wait n ⟨x0, true, x2, x3, x4, x5, x6, g, x8⟩) L (sndV B frm k) A p cp xs) := Lib.hid (by rw [hw2]; exact H1.out.setW 7 (.int .i64 (g : Nat)) ⟨x0, true, x2, x3, x4, x5, x6, g, x8⟩ hn (by omega) (by rw [← HX.out]; exact nine rfl rfl rfl rfl rfl rfl rfl rfl rfl))
      have HC2 : Hid (Below base w w2) := Lib.hid (by rw [hw2]; exact HC1.out.setCell (p := ⟨(A .wt).b, _, none⟩) (H1.out.base .wt rfl (by show 0 < c * 9; omega)) _)
      have hne : E ≠ (A .wt).b := by have := HLT.out .wt (by show 0 < c * 9; omega); omega
      have HM2 : Hid (Blk w2 E (mA ⟨kd, fr, tt, k, fo, ac, ow, nu, va⟩)) := Lib.hid (by rw [hw2]; exact HM1.out.other _ hne.symm)
      have HW2 := Lib.hid hw2
      clear hw2
      go_upto_region 4 with fail
      rw [← HW2.out]
      clear q0 q1 q2 q3 q4 q5 q6 q7 q8 qf k2 kM
      have kM := HM2.out.c
      go_wp2_with fail
      refine (ends_wk base B c l _ L frm n k w2 ⟨A, p, cp, xs, H2.out⟩ hn hk (by rw [wait_at]; exact HL.out)).mono ?_
      rintro e w4 ⟨rfl, h4, hb4⟩
      have H4 := Lib.hid h4
      have HB4 := Lib.hid hb4
      clear h4 hb4 kM
      go_wp2_with fail
      exact bodyPost_end (v := .tuple #[]) (by simp [results, Tryz.results130, go_sem, *]) rfl ⟨rfl, H4.out, HC2.out.trans HB4.out⟩
    · rw [if_neg (by rintro ⟨_, e⟩; exact hg2 e), if_neg (c := (true = true ∧ x7 < 255)) (by rintro ⟨_, e⟩; exact hg2 e)]
      have hd : ((x7 : Int) == 255) = true := by have := eq_one x7 255; rw [decide_eq_true (by omega)] at this; exact this
      go_enter Tryz.func130, Tryz.ntmps130
      go_upto_region 1 with fail
      rw [← HEE.out, ← HW1.out]
      go_wp2_with fail
      exact bodyPost_ret (v := .tuple #[]) (by simp [results, Tryz.results130, go_sem, *]) rfl ⟨rfl, ⟨A, p, cp, xs, H1.out⟩, HC1.out⟩
end Go.Proofs.YtmeomdfmljanhaaGreat.Pg
/- What a Nack does at a core, and whatever comes to one that waits. -/
namespace Go.Proofs.YtmeomdfmljanhaaGreat.Pg
set_option linter.unusedVariables false
open Go.ChangeShapes Go.WideShapes Go.ChangeAt Go.RowKit

set_option maxHeartbeats 8000000 in
set_option maxRecDepth 100000 in
theorem asksAgain_wk (base B c l : Nat) (F : Pr.Fs) (L : List (List Nat)) (m : Pr.Fm) (frm : Int) (n : Nat) (w : World) (h : WkX w base B c l F L (sndV B frm m.line)) (hn : n < c) (hk : m.line < l) (hva : F.va n m.line < 4294967296) :
    Calls Tryz.prog 131 #[.pointer (some ⟨B, 0, none⟩), mV m, .int .i64 n] w fun e w' => DoneO base B c l (if (F.wt n).came = false then (if (F.wt n).back = true ∧ ¬ 1 < F.st n m.line then F.wait n Pr.Wt.none else F) else F) (if (F.wt n).came = false then (if (F.wt n).back = true then (if 1 < F.st n m.line then sendP L ⟨8, frm, 0, m.line, 0, 0, false, 0, F.va n m.line⟩ else L) else sendP L ⟨askK (F.wt n).write, frm, 0, m.line, n + 1, 0, false, 0, 0⟩) else L) (sndV B frm m.line) w e w' := by
  obtain ⟨kd, fr, tt, k, fo, ac, ow, nu, va⟩ := m
  obtain ⟨A, p, cp, xs, h⟩ := h
  have hc4 := h.mem.c4
  have hl16 := h.mem.l16
  have hk : k < l := hk
  obtain ⟨E, hE⟩ : ∃ E, E = w.heap.size := ⟨_, rfl⟩
  obtain ⟨w1, hw1⟩ : ∃ w1, w1 = w.alloc (.cells (mA ⟨kd, fr, tt, k, fo, ac, ow, nu, va⟩) 70) := ⟨_, rfl⟩
  have hb1 : Below w.heap.size w w1 := by rw [hw1]; exact (Below.refl _ _).alloc (Nat.le_refl _) _
  have HM1 : Hid (Blk w1 E (mA ⟨kd, fr, tt, k, fo, ac, ow, nu, va⟩)) := Lib.hid (by rw [hw1, hE]; exact Blk.new _ _ _)
  have H1 := Lib.hid (h.below hb1)
  have HC1 := Lib.hid (h.cB hb1)
  have HLT : Hid (∀ t : Tg, 0 < t.sz 8 c l → (A t).b < E) := Lib.hid (by rw [hE]; exact h.mem.lt)
  have HBE : Hid (B < E) := Lib.hid (by rw [hE]; exact h.hi.2)
  have HW1 := Lib.hid hw1
  have HEE := Lib.hid hE
  clear h hw1 hb1 hE
  have hnI : (n : Int) < (c : Int) := by omega
  have hn0 : (0 : Int) ≤ (n : Int) := by omega
  have hkI : (k : Int) < (l : Int) := by omega
  have hk0 : (0 : Int) ≤ (k : Int) := by omega
  show Calls Tryz.prog 131 _ w fun e w' => DoneO base B c l (if (F.wt n).came = false then (if (F.wt n).back = true ∧ ¬ 1 < F.st n k then F.wait n Pr.Wt.none else F) else F) (if (F.wt n).came = false then (if (F.wt n).back = true then (if 1 < F.st n k then sendP L ⟨8, frm, 0, k, 0, 0, false, 0, F.va n k⟩ else L) else sendP L ⟨askK (F.wt n).write, frm, 0, k, n + 1, 0, false, 0, 0⟩) else L) (sndV B frm k) w e w'
  have hva : F.va n k < 4294967296 := hva
  obtain ⟨y, hy⟩ : ∃ y, y = F.st n k := ⟨_, rfl⟩
  rw [← hy]
  have HY := Lib.hid hy
  clear hy
  have HWR : Hid ((F.wt n).write = (F.wt n).write) := Lib.hid rfl
  obtain ⟨⟨x0, x1, x2, x3, x4, x5, x6, x7, x8⟩, hx⟩ : ∃ x, x = F.wt n := ⟨_, rfl⟩
  rw [← hx] at ⊢
  have HX := Lib.hid hx
  clear hx
  have q0 := H1.out.w0 hn
  have q1 := H1.out.w1 hn
  have q2 := H1.out.w2 hn
  have q3 := H1.out.w3 hn
  have q4 := H1.out.w4 hn
  have q5 := H1.out.w5 hn
  have q6 := H1.out.w6 hn
  have q7 := H1.out.w7 hn
  have q8 := H1.out.w8 hn
  rw [← HX.out] at q0 q1 q2 q3 q4 q5 q6 q7 q8
  have qf : ∀ j, w1.frozen? ⟨(A .wt).b, j, none⟩ = false := H1.out.fz .wt rfl (by show 0 < c * 9; omega)
  have k2 := H1.out.c2
  simp only at q0 q1 q2 q3 q4 q5 q6 q7 q8 ⊢
  obtain ⟨E2, hE2⟩ : ∃ E2, E2 = w1.heap.size := ⟨_, rfl⟩
  obtain ⟨w2, hw2⟩ : ∃ w2, w2 = w1.alloc (.cells #[.int .i64 x0, .bool x1, .bool x2, .bool x3, .bool x4, .bool x5, .int .i64 x6, .int .i64 x7, .int .u32 x8] 86) := ⟨_, rfl⟩
  have hb2 : Below w1.heap.size w1 w2 := by rw [hw2]; exact (Below.refl _ _).alloc (Nat.le_refl _) _
  have HE2 : Hid (Blk w2 E2 #[.int .i64 x0, .bool x1, .bool x2, .bool x3, .bool x4, .bool x5, .int .i64 x6, .int .i64 x7, .int .u32 x8]) := Lib.hid (by rw [hw2, hE2]; exact Blk.new _ _ _)
  have H2 := Lib.hid (H1.out.below hb2)
  have HM2 := Lib.hid (HM1.out.below hb2)
  have HC2 := Lib.hid (HC1.out.trans (hb2.mono (Nat.le_trans H1.out.hi.1 (Nat.le_of_lt H1.out.hi.2))))
  have HW2 := Lib.hid hw2
  have HEE2 := Lib.hid hE2
  clear hw2 hb2 hE2
  cases x3 with
  | true =>
    rw [if_neg (c := true = false) (by intro e; cases e), if_neg (c := true = false) (by intro e; cases e)]
    go_enter Tryz.func131, Tryz.ntmps131
    go_upto_region 1 with fail
    rw [← HEE.out, ← HW1.out]
    go_upto_region 3 with fail
    rw [← HEE2.out, ← HW2.out]
    clear q0 q1 q2 q3 q4 q5 q6 q7 q8 qf k2
    have kE := HE2.out.c
    go_wp2_with fail
    exact bodyPost_ret (v := .tuple #[]) (by simp [results, Tryz.results131, go_sem, *]) rfl ⟨rfl, ⟨A, p, cp, xs, H2.out⟩, HC2.out⟩
  | false =>
    rw [if_pos (c := false = false) rfl, if_pos (c := false = false) rfl]
    cases x2 with
    | false =>
      rw [if_neg (c := (false = true ∧ ¬ 1 < y)) (by rintro ⟨e, _⟩; cases e), if_neg (c := false = true) (by intro e; cases e)]
      go_enter Tryz.func131, Tryz.ntmps131
      go_upto_region 1 with fail
      rw [← HEE.out, ← HW1.out]
      go_upto_region 3 with fail
      rw [← HEE2.out, ← HW2.out]
      clear q0 q1 q2 q3 q4 q5 q6 q7 q8 qf k2
      have kE := HE2.out.c
      go_wp2_with fail
      refine (asks_wk base B c l F L frm k n w2 ⟨A, p, cp, xs, H2.out⟩ hn).mono ?_
      rintro e w3 ⟨rfl, h3, hb3⟩
      rw [← HX.out] at h3
      have H3 := Lib.hid h3
      have HB3 := Lib.hid hb3
      clear h3 hb3 kE
      go_wp2_with fail
      exact bodyPost_end (v := .tuple #[]) (by simp [results, Tryz.results131, go_sem, *]) rfl ⟨rfl, H3.out, HC2.out.trans HB3.out⟩
    | true =>
      by_cases hs : 1 < y
      · rw [if_neg (c := (true = true ∧ ¬ 1 < y)) (by rintro ⟨_, e⟩; exact e hs), if_pos (c := true = true) rfl, if_pos hs]
        have hd : decide (1 < y) = true := decide_eq_true hs
        go_enter Tryz.func131, Tryz.ntmps131
        go_upto_region 1 with fail
        rw [← HEE.out, ← HW1.out]
        go_upto_region 3 with fail
        rw [← HEE2.out, ← HW2.out]
        clear q0 q1 q2 q3 q4 q5 q6 q7 q8 qf k2
        have kE := HE2.out.c
        go_upto_region 6 with fail
        have HSP : Hid (∀ V, Below w2.heap.size w2 V → V.cell? ⟨B, 0, none⟩ = some (.slice (some ⟨(A .st).b, (A .st).o, none⟩) c (A .st).c) ∧ V.cell? ⟨B, 1, none⟩ = some (.slice (some ⟨(A .va).b, (A .va).o, none⟩) c (A .va).c) ∧ V.cell? ⟨B, 2, none⟩ = some (.slice (some ⟨(A .wt).b, (A .wt).o, none⟩) c (A .wt).c) ∧ V.cell? ⟨B, 3, none⟩ = some (.slice (some ⟨(A .ho).b, (A .ho).o, none⟩) l (A .ho).c) ∧ V.cell? ⟨B, 4, none⟩ = some (.slice (some ⟨(A .di).b, (A .di).o, none⟩) l (A .di).c) ∧ V.cell? ⟨B, 5, none⟩ = some (.slice (some ⟨(A .bu).b, (A .bu).o, none⟩) l (A .bu).c) ∧ V.cell? ⟨B, 6, none⟩ = some (.slice p L.length cp) ∧ V.cell? ⟨E, 3, none⟩ = some (.int .i64 (k : Nat))) := Lib.hid (fun V hV => ⟨(H2.out.below hV).c0, (H2.out.below hV).c1, (H2.out.below hV).c2, (H2.out.below hV).c3, (H2.out.below hV).c4, (H2.out.below hV).c5, (H2.out.below hV).c6, (HM2.out.below hV).c 3⟩)
        refine region_plan (fun V : World => V.cell? ⟨B, 0, none⟩ = some (.slice (some ⟨(A .st).b, (A .st).o, none⟩) c (A .st).c) ∧ V.cell? ⟨B, 1, none⟩ = some (.slice (some ⟨(A .va).b, (A .va).o, none⟩) c (A .va).c) ∧ V.cell? ⟨B, 2, none⟩ = some (.slice (some ⟨(A .wt).b, (A .wt).o, none⟩) c (A .wt).c) ∧ V.cell? ⟨B, 3, none⟩ = some (.slice (some ⟨(A .ho).b, (A .ho).o, none⟩) l (A .ho).c) ∧ V.cell? ⟨B, 4, none⟩ = some (.slice (some ⟨(A .di).b, (A .di).o, none⟩) l (A .di).c) ∧ V.cell? ⟨B, 5, none⟩ = some (.slice (some ⟨(A .bu).b, (A .bu).o, none⟩) l (A .bu).c) ∧ V.cell? ⟨B, 6, none⟩ = some (.slice p L.length cp) ∧ V.cell? ⟨E, 3, none⟩ = some (.int .i64 (k : Nat))) 8 [(0, true), (1, true), (2, true), (3, true), (4, true), (5, true), (6, true), (7, false)] (by kernel_rfl) (by kernel_rfl) (HSP.out _ ((Below.refl _ _).drew)) ?_
        iterate 7
          refine plan_read (v := ?_) rfl (by rfl) ?_ ?_
          rotate_left
          · intro w' hS
            try dsimp only at hS
            go_simp
            try with_reducible rfl
          try simp only [Act.put, List.setIfInBounds_toArray, List.set_cons_zero, List.set_cons_succ, List.getElem_toArray, List.getElem_cons_zero, List.getElem_cons_succ]
        refine plan_call (F := 47) (args := ?_) rfl (by rfl) ?_ ?_
        rotate_left
        · go_simp
          rfl
        refine (owns_mem (H2.out.below ((Below.refl _ _).drew)).mem n k hn hk p L.length cp).mono ?_
        rintro e V3 ⟨rfl, hb2⟩
        refine ⟨_, rfl, HSP.out _ ((Below.refl _ _).drew.trans hb2), ?_⟩
        try simp only [Act.put, List.setIfInBounds_toArray, List.set_cons_zero, List.set_cons_succ, List.getElem_toArray, List.getElem_cons_zero, List.getElem_cons_succ]
        have hbx : Below w2.heap.size w2 V3 := (Below.refl _ _).drew.trans hb2
        have H3 := Lib.hid (H2.out.below hbx)
        have HM3 := Lib.hid (HM2.out.below hbx)
        have HC3 := Lib.hid (HC2.out.trans (hbx.mono (Nat.le_trans H2.out.hi.1 (Nat.le_of_lt H2.out.hi.2))))
        clear hb2 hbx
        refine plan_nil ?_
        simp only [List.drop_succ_cons, List.drop_zero]
        rw [← HY.out, hd]
        have kM := HM3.out.c
        go_wp2_with fail
        refine (gives_wk base B c l F L frm k n k V3 ⟨A, p, cp, xs, H3.out⟩ hn hk hva).mono ?_
        rintro e w4 ⟨rfl, h4, hb4⟩
        have H4 := Lib.hid h4
        have HB4 := Lib.hid hb4
        clear h4 hb4 kE kM
        go_wp2_with fail
        exact bodyPost_end (v := .tuple #[]) (by simp [results, Tryz.results131, go_sem, *]) rfl ⟨rfl, H4.out, HC3.out.trans HB4.out⟩
      · rw [if_pos (c := (true = true ∧ ¬ 1 < y)) ⟨rfl, hs⟩, if_pos (c := true = true) rfl, if_neg hs]
        have hd : decide (1 < y) = false := decide_eq_false hs
        go_enter Tryz.func131, Tryz.ntmps131
        go_upto_region 1 with fail
        rw [← HEE.out, ← HW1.out]
        go_upto_region 3 with fail
        rw [← HEE2.out, ← HW2.out]
        clear q0 q1 q2 q3 q4 q5 q6 q7 q8 qf k2
        have kE := HE2.out.c
        go_upto_region 6 with fail
        have HSP : Hid (∀ V, Below w2.heap.size w2 V → V.cell? ⟨B, 0, none⟩ = some (.slice (some ⟨(A .st).b, (A .st).o, none⟩) c (A .st).c) ∧ V.cell? ⟨B, 1, none⟩ = some (.slice (some ⟨(A .va).b, (A .va).o, none⟩) c (A .va).c) ∧ V.cell? ⟨B, 2, none⟩ = some (.slice (some ⟨(A .wt).b, (A .wt).o, none⟩) c (A .wt).c) ∧ V.cell? ⟨B, 3, none⟩ = some (.slice (some ⟨(A .ho).b, (A .ho).o, none⟩) l (A .ho).c) ∧ V.cell? ⟨B, 4, none⟩ = some (.slice (some ⟨(A .di).b, (A .di).o, none⟩) l (A .di).c) ∧ V.cell? ⟨B, 5, none⟩ = some (.slice (some ⟨(A .bu).b, (A .bu).o, none⟩) l (A .bu).c) ∧ V.cell? ⟨B, 6, none⟩ = some (.slice p L.length cp) ∧ V.cell? ⟨E, 3, none⟩ = some (.int .i64 (k : Nat))) := Lib.hid (fun V hV => ⟨(H2.out.below hV).c0, (H2.out.below hV).c1, (H2.out.below hV).c2, (H2.out.below hV).c3, (H2.out.below hV).c4, (H2.out.below hV).c5, (H2.out.below hV).c6, (HM2.out.below hV).c 3⟩)
        refine region_plan (fun V : World => V.cell? ⟨B, 0, none⟩ = some (.slice (some ⟨(A .st).b, (A .st).o, none⟩) c (A .st).c) ∧ V.cell? ⟨B, 1, none⟩ = some (.slice (some ⟨(A .va).b, (A .va).o, none⟩) c (A .va).c) ∧ V.cell? ⟨B, 2, none⟩ = some (.slice (some ⟨(A .wt).b, (A .wt).o, none⟩) c (A .wt).c) ∧ V.cell? ⟨B, 3, none⟩ = some (.slice (some ⟨(A .ho).b, (A .ho).o, none⟩) l (A .ho).c) ∧ V.cell? ⟨B, 4, none⟩ = some (.slice (some ⟨(A .di).b, (A .di).o, none⟩) l (A .di).c) ∧ V.cell? ⟨B, 5, none⟩ = some (.slice (some ⟨(A .bu).b, (A .bu).o, none⟩) l (A .bu).c) ∧ V.cell? ⟨B, 6, none⟩ = some (.slice p L.length cp) ∧ V.cell? ⟨E, 3, none⟩ = some (.int .i64 (k : Nat))) 8 [(0, true), (1, true), (2, true), (3, true), (4, true), (5, true), (6, true), (7, false)] (by kernel_rfl) (by kernel_rfl) (HSP.out _ ((Below.refl _ _).drew)) ?_
        iterate 7
          refine plan_read (v := ?_) rfl (by rfl) ?_ ?_
          rotate_left
          · intro w' hS
            try dsimp only at hS
            go_simp
            try with_reducible rfl
          try simp only [Act.put, List.setIfInBounds_toArray, List.set_cons_zero, List.set_cons_succ, List.getElem_toArray, List.getElem_cons_zero, List.getElem_cons_succ]
        refine plan_call (F := 47) (args := ?_) rfl (by rfl) ?_ ?_
        rotate_left
        · go_simp
          rfl
        refine (owns_mem (H2.out.below ((Below.refl _ _).drew)).mem n k hn hk p L.length cp).mono ?_
        rintro e V3 ⟨rfl, hb2⟩
        refine ⟨_, rfl, HSP.out _ ((Below.refl _ _).drew.trans hb2), ?_⟩
        try simp only [Act.put, List.setIfInBounds_toArray, List.set_cons_zero, List.set_cons_succ, List.getElem_toArray, List.getElem_cons_zero, List.getElem_cons_succ]
        have hbx : Below w2.heap.size w2 V3 := (Below.refl _ _).drew.trans hb2
        have H3 := Lib.hid (H2.out.below hbx)
        have HM3 := Lib.hid (HM2.out.below hbx)
        have HC3 := Lib.hid (HC2.out.trans (hbx.mono (Nat.le_trans H2.out.hi.1 (Nat.le_of_lt H2.out.hi.2))))
        clear hb2 hbx
        refine plan_nil ?_
        simp only [List.drop_succ_cons, List.drop_zero]
        rw [← HY.out, hd]
        have q0 := H3.out.w0 hn
        have q1 := H3.out.w1 hn
        have q2 := H3.out.w2 hn
        have q3 := H3.out.w3 hn
        have q4 := H3.out.w4 hn
        have q5 := H3.out.w5 hn
        have q6 := H3.out.w6 hn
        have q7 := H3.out.w7 hn
        have q8 := H3.out.w8 hn
        have k2 := H3.out.c2
        have qf : ∀ j, V3.frozen? ⟨(A .wt).b, j, none⟩ = false := H3.out.fz .wt rfl (by show 0 < c * 9; omega)
        have HN := Lib.hid (H3.out.setN hn Pr.Wt.none)
        go_wp2_with fail
        exact bodyPost_end (v := .tuple #[]) (by simp [results, Tryz.results131, go_sem, *]) rfl ⟨rfl, ⟨A, p, cp, xs, HN.out⟩, ((((((((HC3.out.setCell (p := ⟨(A .wt).b, _, none⟩) (H1.out.base .wt rfl (by show 0 < c * 9; omega)) _).setCell (p := ⟨(A .wt).b, _, none⟩) (H1.out.base .wt rfl (by show 0 < c * 9; omega)) _).setCell (p := ⟨(A .wt).b, _, none⟩) (H1.out.base .wt rfl (by show 0 < c * 9; omega)) _).setCell (p := ⟨(A .wt).b, _, none⟩) (H1.out.base .wt rfl (by show 0 < c * 9; omega)) _).setCell (p := ⟨(A .wt).b, _, none⟩) (H1.out.base .wt rfl (by show 0 < c * 9; omega)) _).setCell (p := ⟨(A .wt).b, _, none⟩) (H1.out.base .wt rfl (by show 0 < c * 9; omega)) _).setCell (p := ⟨(A .wt).b, _, none⟩) (H1.out.base .wt rfl (by show 0 < c * 9; omega)) _).setCell (p := ⟨(A .wt).b, _, none⟩) (H1.out.base .wt rfl (by show 0 < c * 9; omega)) _).setCell (p := ⟨(A .wt).b, _, none⟩) (H1.out.base .wt rfl (by show 0 < c * 9; omega)) _⟩
end Go.Proofs.YtmeomdfmljanhaaGreat.Pg
/- Whatever comes to a core that waits, and to one that may not. -/
namespace Go.Proofs.YtmeomdfmljanhaaGreat.Pg
set_option linter.unusedVariables false
open Go.ChangeShapes Go.WideShapes Go.ChangeAt Go.RowKit

def wtF (F : Pr.Fs) (n : Nat) (m : Pr.Fm) : Pr.Fs :=
  if m.kind = 3 then (if (F.wt n).back = false ∧ (F.wt n).came = false then ((dataF F n m).came n).1 else F)
  else if m.kind = 5 then (if (F.wt n).write = true ∧ (F.wt n).got < 255 then ((F.wait n { F.wt n with got := (F.wt n).got + 1 }).came n).1 else F)
  else if m.kind = 10 then (if (F.wt n).came = false then (if (F.wt n).back = true ∧ ¬ 1 < F.st n m.line then F.wait n Pr.Wt.none else F) else F)
  else if m.kind = 9 then (if (F.wt n).back = true then (F.state n m.line 0).wait n Pr.Wt.none else F)
  else F
def wtS (F : Pr.Fs) (n : Nat) (m : Pr.Fm) (L : List (List Nat)) (frm : Int) : List (List Nat) :=
  if m.kind = 3 then (if (F.wt n).back = false ∧ (F.wt n).came = false then cameL (dataF F n m) n L frm m.line else L)
  else if m.kind = 5 then (if (F.wt n).write = true ∧ (F.wt n).got < 255 then cameL (F.wait n { F.wt n with got := (F.wt n).got + 1 }) n L frm m.line else L)
  else if m.kind = 10 then (if (F.wt n).came = false then (if (F.wt n).back = true then (if 1 < F.st n m.line then sendP L ⟨8, frm, 0, m.line, 0, 0, false, 0, F.va n m.line⟩ else L) else sendP L ⟨askK (F.wt n).write, frm, 0, m.line, n + 1, 0, false, 0, 0⟩) else L)
  else L
theorem eq_num (x : Nat) (y : Nat) (h : x = y) : ((x : Int) == (y : Int)) = true := by rw [eq_one, decide_eq_true h]
theorem ne_num (x : Nat) (y : Nat) (h : ¬ x = y) : ((x : Int) == (y : Int)) = false := by rw [eq_one, decide_eq_false h]
set_option maxHeartbeats 8000000 in
set_option maxRecDepth 100000 in
theorem comesToWaiting_wk (base B c l : Nat) (F : Pr.Fs) (L : List (List Nat)) (m : Pr.Fm) (frm : Int) (n : Nat) (w : World) (h : WkX w base B c l F L (sndV B frm m.line)) (hn : n < c) (hk : m.line < l) (hl : (F.wt n).line = m.line + 1) (hg : (F.wt n).got ≤ 255) (hva : F.va n m.line < 4294967296) :
    Calls Tryz.prog 108 #[.pointer (some ⟨B, 0, none⟩), mV m, .int .i64 n] w fun e w' => DoneO base B c l (wtF F n m) (wtS F n m L frm) (sndV B frm m.line) w e w' := by
  obtain ⟨kd, fr, tt, k, fo, ac, ow, nu, va⟩ := m
  obtain ⟨A, p, cp, xs, h⟩ := h
  have hc4 := h.mem.c4
  have hl16 := h.mem.l16
  have hk : k < l := hk
  obtain ⟨E, hE⟩ : ∃ E, E = w.heap.size := ⟨_, rfl⟩
  obtain ⟨w1, hw1⟩ : ∃ w1, w1 = w.alloc (.cells (mA ⟨kd, fr, tt, k, fo, ac, ow, nu, va⟩) 70) := ⟨_, rfl⟩
  have hb1 : Below w.heap.size w w1 := by rw [hw1]; exact (Below.refl _ _).alloc (Nat.le_refl _) _
  have HM1 : Hid (Blk w1 E (mA ⟨kd, fr, tt, k, fo, ac, ow, nu, va⟩)) := Lib.hid (by rw [hw1, hE]; exact Blk.new _ _ _)
  have H1 := Lib.hid (h.below hb1)
  have HC1 := Lib.hid (h.cB hb1)
  have HLT : Hid (∀ t : Tg, 0 < t.sz 8 c l → (A t).b < E) := Lib.hid (by rw [hE]; exact h.mem.lt)
  have HBE : Hid (B < E) := Lib.hid (by rw [hE]; exact h.hi.2)
  have HW1 := Lib.hid hw1
  have HEE := Lib.hid hE
  clear h hw1 hb1 hE
  have hnI : (n : Int) < (c : Int) := by omega
  have hn0 : (0 : Int) ≤ (n : Int) := by omega
  have hkI : (k : Int) < (l : Int) := by omega
  have hk0 : (0 : Int) ≤ (k : Int) := by omega
  have hl : (F.wt n).line = k + 1 := hl
  have hva : F.va n k < 4294967296 := hva
  obtain ⟨FX, e1⟩ : ∃ FX, FX = wtF F n ⟨kd, fr, tt, k, fo, ac, ow, nu, va⟩ := ⟨_, rfl⟩
  obtain ⟨LX, e2⟩ : ∃ LX, LX = wtS F n ⟨kd, fr, tt, k, fo, ac, ow, nu, va⟩ L frm := ⟨_, rfl⟩
  rw [← e1, ← e2]
  unfold wtF at e1
  unfold wtS at e2
  dsimp only at e1 e2
  by_cases h3 : kd = 3
  · rw [if_pos h3] at e1 e2
    have d3 : ((kd : Int) == 3) = true := eq_num kd 3 h3
    have HH := Lib.hid h3
    clear h3
    have E1 := Lib.hid e1
    have E2 := Lib.hid e2
    clear e1 e2
    go_enter Tryz.func108, Tryz.ntmps108
    go_upto_region 1 with fail
    rw [← HEE.out, ← HW1.out]
    have kM := HM1.out.c
    go_wp2_with fail
    refine (hasData_wk base B c l F L ⟨kd, fr, tt, k, fo, ac, ow, nu, va⟩ frm n w1 ⟨A, p, cp, xs, H1.out⟩ hn hk hl).mono ?_
    rintro e w4 ⟨rfl, h4, hb4⟩
    have H4 : Hid (WkX w4 base B c l FX LX (sndV B frm k)) := Lib.hid (by rw [E1.out, E2.out]; exact h4)
    have HB4 := Lib.hid hb4
    clear h4 hb4 kM
    go_wp2_with fail
    exact bodyPost_end (v := .tuple #[]) (by simp [results, Tryz.results108, go_sem, *]) rfl ⟨rfl, H4.out, HC1.out.trans HB4.out⟩
  by_cases h5 : kd = 5
  · rw [if_neg h3, if_pos h5] at e1 e2
    have d3 : ((kd : Int) == 3) = false := ne_num kd 3 h3
    have d5 : ((kd : Int) == 5) = true := eq_num kd 5 h5
    have HH := Lib.hid (And.intro h3 h5)
    clear h3 h5
    have E1 := Lib.hid e1
    have E2 := Lib.hid e2
    clear e1 e2
    go_enter Tryz.func108, Tryz.ntmps108
    go_upto_region 1 with fail
    rw [← HEE.out, ← HW1.out]
    have kM := HM1.out.c
    go_wp2_with fail
    refine (hasAck_wk base B c l F L ⟨kd, fr, tt, k, fo, ac, ow, nu, va⟩ frm n w1 ⟨A, p, cp, xs, H1.out⟩ hn hk hl hg).mono ?_
    rintro e w4 ⟨rfl, h4, hb4⟩
    have H4 : Hid (WkX w4 base B c l FX LX (sndV B frm k)) := Lib.hid (by rw [E1.out, E2.out]; exact h4)
    have HB4 := Lib.hid hb4
    clear h4 hb4 kM
    go_wp2_with fail
    exact bodyPost_end (v := .tuple #[]) (by simp [results, Tryz.results108, go_sem, *]) rfl ⟨rfl, H4.out, HC1.out.trans HB4.out⟩
  by_cases h10 : kd = 10
  · rw [if_neg h3, if_neg h5, if_pos h10] at e1 e2
    have d3 : ((kd : Int) == 3) = false := ne_num kd 3 h3
    have d5 : ((kd : Int) == 5) = false := ne_num kd 5 h5
    have d10 : ((kd : Int) == 10) = true := eq_num kd 10 h10
    have HH := Lib.hid (And.intro h3 (And.intro h5 h10))
    clear h3 h5 h10
    have E1 := Lib.hid e1
    have E2 := Lib.hid e2
    clear e1 e2
    go_enter Tryz.func108, Tryz.ntmps108
    go_upto_region 1 with fail
    rw [← HEE.out, ← HW1.out]
    have kM := HM1.out.c
    go_wp2_with fail
    refine (asksAgain_wk base B c l F L ⟨kd, fr, tt, k, fo, ac, ow, nu, va⟩ frm n w1 ⟨A, p, cp, xs, H1.out⟩ hn hk hva).mono ?_
    rintro e w4 ⟨rfl, h4, hb4⟩
    have H4 : Hid (WkX w4 base B c l FX LX (sndV B frm k)) := Lib.hid (by rw [E1.out, E2.out]; exact h4)
    have HB4 := Lib.hid hb4
    clear h4 hb4 kM
    go_wp2_with fail
    exact bodyPost_end (v := .tuple #[]) (by simp [results, Tryz.results108, go_sem, *]) rfl ⟨rfl, H4.out, HC1.out.trans HB4.out⟩
  by_cases h9 : kd = 9
  · rw [if_neg h3, if_neg h5, if_neg h10] at e1 e2
    rw [if_pos h9] at e1
    have d3 : ((kd : Int) == 3) = false := ne_num kd 3 h3
    have d5 : ((kd : Int) == 5) = false := ne_num kd 5 h5
    have d10 : ((kd : Int) == 10) = false := ne_num kd 10 h10
    have d9 : ((kd : Int) == 9) = true := eq_num kd 9 h9
    have HH := Lib.hid (And.intro h3 (And.intro h5 (And.intro h10 h9)))
    clear h3 h5 h10 h9
    have k2 := H1.out.c2
    have qb := H1.out.w2 hn
    have kM := HM1.out.c
    subst e2
    obtain ⟨b, hb⟩ : ∃ b, b = (F.wt n).back := ⟨_, rfl⟩
    rw [← hb] at qb e1
    clear hb hl
    cases b with
    | false =>
      rw [if_neg (c := false = true) (by intro e; cases e)] at e1
      subst e1
      go_enter Tryz.func108, Tryz.ntmps108
      go_upto_region 1 with fail
      rw [← HEE.out, ← HW1.out]
      go_wp2_with fail
      exact bodyPost_end (v := .tuple #[]) (by simp [results, Tryz.results108, go_sem, *]) rfl ⟨rfl, ⟨A, p, cp, xs, H1.out⟩, HC1.out⟩
    | true =>
      rw [if_pos (c := true = true) rfl] at e1
      have E1 := Lib.hid e1
      clear e1
      go_enter Tryz.func108, Tryz.ntmps108
      go_upto_region 1 with fail
      rw [← HEE.out, ← HW1.out]
      have k0 := H1.out.c0
      have kr := H1.out.sr hn
      have ks := H1.out.s hn hk
      have fS : ∀ j, w1.frozen? ⟨(A (.sr n)).b, j, none⟩ = false := H1.out.fz (.sr n) rfl (by show 0 < if n < c then l else 0; rw [if_pos hn]; omega)
      have q0 := H1.out.w0 hn
      have q1 := H1.out.w1 hn
      have q3 := H1.out.w3 hn
      have q4 := H1.out.w4 hn
      have q5 := H1.out.w5 hn
      have q6 := H1.out.w6 hn
      have q7 := H1.out.w7 hn
      have q8 := H1.out.w8 hn
      have qf : ∀ j, w1.frozen? ⟨(A .wt).b, j, none⟩ = false := H1.out.fz .wt rfl (by show 0 < c * 9; omega)
      have n1 : (A (.sr n)).b ≠ E := by have := HLT.out (.sr n) (by show 0 < if n < c then l else 0; rw [if_pos hn]; omega); omega
      have n2 : (A .wt).b ≠ E := by have := HLT.out .wt (by show 0 < c * 9; omega); omega
      have n3 : (A .wt).b ≠ (A (.sr n)).b := fun e => by have := H1.out.mem.inj .wt (.sr n) rfl (by show 0 < c * 9; omega) (by show 0 < if n < c then l else 0; rw [if_pos hn]; omega) e; cases this
      have n4 : (A (.sr n)).b ≠ (A .wt).b := fun e => n3 e.symm
      have n5 : (A .wt).b ≠ B := fun e => by have := H1.out.mem.inj .wt .bx rfl (by show 0 < c * 9; omega) (by show 0 < 8; omega) (by rw [H1.out.at_]; exact e); cases this
      have n6 : (A (.sr n)).b ≠ B := fun e => by have := H1.out.mem.inj (.sr n) .bx rfl (by show 0 < if n < c then l else 0; rw [if_pos hn]; omega) (by show 0 < 8; omega) (by rw [H1.out.at_]; exact e); cases this
      have HN := Lib.hid ((H1.out.setS 0 hn hk).setN hn Pr.Wt.none)
      go_upto_region 10 with fail
      go_region
      go_wp2_with fail
      rw [E1.out]
      exact bodyPost_end (v := .tuple #[]) (by simp [results, Tryz.results108, go_sem, *]) rfl ⟨rfl, ⟨A, p, cp, xs, HN.out.below ((Below.refl _ _).drew)⟩, ((((((((((HC1.out.setCell (p := ⟨(A (.sr n)).b, _, none⟩) (H1.out.base (.sr n) rfl (by show 0 < if n < c then l else 0; rw [if_pos hn]; omega)) _).setCell (p := ⟨(A .wt).b, _, none⟩) (H1.out.base .wt rfl (by show 0 < c * 9; omega)) _).setCell (p := ⟨(A .wt).b, _, none⟩) (H1.out.base .wt rfl (by show 0 < c * 9; omega)) _).setCell (p := ⟨(A .wt).b, _, none⟩) (H1.out.base .wt rfl (by show 0 < c * 9; omega)) _).setCell (p := ⟨(A .wt).b, _, none⟩) (H1.out.base .wt rfl (by show 0 < c * 9; omega)) _).setCell (p := ⟨(A .wt).b, _, none⟩) (H1.out.base .wt rfl (by show 0 < c * 9; omega)) _).setCell (p := ⟨(A .wt).b, _, none⟩) (H1.out.base .wt rfl (by show 0 < c * 9; omega)) _).setCell (p := ⟨(A .wt).b, _, none⟩) (H1.out.base .wt rfl (by show 0 < c * 9; omega)) _).setCell (p := ⟨(A .wt).b, _, none⟩) (H1.out.base .wt rfl (by show 0 < c * 9; omega)) _).setCell (p := ⟨(A .wt).b, _, none⟩) (H1.out.base .wt rfl (by show 0 < c * 9; omega)) _).drew⟩
  · rw [if_neg h3, if_neg h5, if_neg h10] at e1 e2
    rw [if_neg h9] at e1
    subst e1 e2
    have d3 : ((kd : Int) == 3) = false := ne_num kd 3 h3
    have d5 : ((kd : Int) == 5) = false := ne_num kd 5 h5
    have d10 : ((kd : Int) == 10) = false := ne_num kd 10 h10
    have d9 : ((kd : Int) == 9) = false := ne_num kd 9 h9
    have HH := Lib.hid (And.intro h3 (And.intro h5 (And.intro h10 h9)))
    clear h3 h5 h10 h9
    have kM := HM1.out.c
    go_enter Tryz.func108, Tryz.ntmps108
    go_upto_region 1 with fail
    rw [← HEE.out, ← HW1.out]
    go_wp2_with fail
    exact bodyPost_end (v := .tuple #[]) (by simp [results, Tryz.results108, go_sem, *]) rfl ⟨rfl, ⟨A, p, cp, xs, H1.out⟩, HC1.out⟩
end Go.Proofs.YtmeomdfmljanhaaGreat.Pg
/- Whatever comes to a core. -/
namespace Go.Proofs.YtmeomdfmljanhaaGreat.Pg
set_option linter.unusedVariables false
open Go.ChangeShapes Go.WideShapes Go.ChangeAt Go.RowKit

def coreF (F : Pr.Fs) (n : Nat) (m : Pr.Fm) : Pr.Fs :=
  if m.kind = 4 then (if F.st n m.line = 1 then F.state n m.line 0 else F)
  else if m.kind = 6 then (if 1 < F.st n m.line then F.state n m.line 4 else F)
  else if m.kind = 7 then (if 1 < F.st n m.line then F.state n m.line 0 else F)
  else if (F.wt n).line = m.line + 1 then wtF F n m else F
def coreS (F : Pr.Fs) (n : Nat) (m : Pr.Fm) (L : List (List Nat)) (frm : Int) : List (List Nat) :=
  if m.kind = 4 then sendP L ⟨5, frm, m.fr, m.line, 0, 0, false, 0, 0⟩
  else if m.kind = 6 then (if 1 < F.st n m.line then sendP L ⟨3, frm, m.fr, m.line, 0, m.acks, false, 0, F.va n m.line⟩ else L)
  else if m.kind = 7 then (if 1 < F.st n m.line then sendP L ⟨3, frm, m.fr, m.line, 0, m.acks, true, 0, F.va n m.line⟩ else L)
  else if (F.wt n).line = m.line + 1 then wtS F n m L frm else L
set_option maxHeartbeats 8000000 in
set_option maxRecDepth 100000 in
theorem comesToCore_wk (base B c l : Nat) (F : Pr.Fs) (L : List (List Nat)) (m : Pr.Fm) (frm : Int) (n : Nat) (w : World) (h : WkX w base B c l F L (sndV B frm m.line)) (hn : n < c) (hk : m.line < l) (hg : (F.wt n).got ≤ 255) (hva : F.va n m.line < 4294967296) :
    Calls Tryz.prog 73 #[.pointer (some ⟨B, 0, none⟩), mV m, .int .i64 n] w fun e w' => DoneO base B c l (coreF F n m) (coreS F n m L frm) (sndV B frm m.line) w e w' := by
  obtain ⟨kd, fr, tt, k, fo, ac, ow, nu, va⟩ := m
  obtain ⟨A, p, cp, xs, h⟩ := h
  have hc4 := h.mem.c4
  have hl16 := h.mem.l16
  have hk : k < l := hk
  obtain ⟨E, hE⟩ : ∃ E, E = w.heap.size := ⟨_, rfl⟩
  obtain ⟨w1, hw1⟩ : ∃ w1, w1 = w.alloc (.cells (mA ⟨kd, fr, tt, k, fo, ac, ow, nu, va⟩) 70) := ⟨_, rfl⟩
  have hb1 : Below w.heap.size w w1 := by rw [hw1]; exact (Below.refl _ _).alloc (Nat.le_refl _) _
  have HM1 : Hid (Blk w1 E (mA ⟨kd, fr, tt, k, fo, ac, ow, nu, va⟩)) := Lib.hid (by rw [hw1, hE]; exact Blk.new _ _ _)
  have H1 := Lib.hid (h.below hb1)
  have HC1 := Lib.hid (h.cB hb1)
  have HLT : Hid (∀ t : Tg, 0 < t.sz 8 c l → (A t).b < E) := Lib.hid (by rw [hE]; exact h.mem.lt)
  have HBE : Hid (B < E) := Lib.hid (by rw [hE]; exact h.hi.2)
  have HW1 := Lib.hid hw1
  have HEE := Lib.hid hE
  clear h hw1 hb1 hE
  have hnI : (n : Int) < (c : Int) := by omega
  have hn0 : (0 : Int) ≤ (n : Int) := by omega
  have hkI : (k : Int) < (l : Int) := by omega
  have hk0 : (0 : Int) ≤ (k : Int) := by omega
  have hva : F.va n k < 4294967296 := hva
  obtain ⟨FX, e1⟩ : ∃ FX, FX = coreF F n ⟨kd, fr, tt, k, fo, ac, ow, nu, va⟩ := ⟨_, rfl⟩
  obtain ⟨LX, e2⟩ : ∃ LX, LX = coreS F n ⟨kd, fr, tt, k, fo, ac, ow, nu, va⟩ L frm := ⟨_, rfl⟩
  rw [← e1, ← e2]
  unfold coreF at e1
  unfold coreS at e2
  dsimp only at e1 e2
  by_cases h4 : kd = 4
  · rw [if_pos h4] at e1 e2
    have d4 : ((kd : Int) == 4) = true := eq_num kd 4 h4
    have HH := Lib.hid h4
    clear h4
    have E1 := Lib.hid e1
    have E2 := Lib.hid e2
    clear e1 e2
    go_enter Tryz.func73, Tryz.ntmps73
    go_upto_region 1 with fail
    rw [← HEE.out, ← HW1.out]
    have kM := HM1.out.c
    go_wp2_with fail
    refine (toldOff_wk base B c l F L ⟨kd, fr, tt, k, fo, ac, ow, nu, va⟩ frm n w1 ⟨A, p, cp, xs, H1.out⟩ hn hk).mono ?_
    rintro e w4 ⟨rfl, h4, hb4⟩
    have H4 : Hid (WkX w4 base B c l FX LX (sndV B frm k)) := Lib.hid (by rw [E1.out, E2.out]; exact h4)
    have HB4 := Lib.hid hb4
    clear h4 hb4 kM
    go_wp2_with fail
    exact bodyPost_end (v := .tuple #[]) (by simp [results, Tryz.results73, go_sem, *]) rfl ⟨rfl, H4.out, HC1.out.trans HB4.out⟩
  by_cases h6 : kd = 6
  · rw [if_neg h4, if_pos h6] at e1 e2
    have d4 : ((kd : Int) == 4) = false := ne_num kd 4 h4
    have d6 : ((kd : Int) == 6) = true := eq_num kd 6 h6
    have HH := Lib.hid h6
    clear h4 h6
    have E1 := Lib.hid e1
    have E2 := Lib.hid e2
    clear e1 e2
    go_enter Tryz.func73, Tryz.ntmps73
    go_upto_region 1 with fail
    rw [← HEE.out, ← HW1.out]
    have kM := HM1.out.c
    go_wp2_with fail
    refine (toSend6_wk base B c l F L ⟨kd, fr, tt, k, fo, ac, ow, nu, va⟩ frm n w1 ⟨A, p, cp, xs, H1.out⟩ hn hk HH.out hva).mono ?_
    rintro e w4 ⟨rfl, h4, hb4⟩
    have H4 : Hid (WkX w4 base B c l FX LX (sndV B frm k)) := Lib.hid (by rw [E1.out, E2.out]; exact h4)
    have HB4 := Lib.hid hb4
    clear h4 hb4 kM
    go_wp2_with fail
    exact bodyPost_end (v := .tuple #[]) (by simp [results, Tryz.results73, go_sem, *]) rfl ⟨rfl, H4.out, HC1.out.trans HB4.out⟩
  by_cases h7 : kd = 7
  · rw [if_neg h4, if_neg h6, if_pos h7] at e1 e2
    have d4 : ((kd : Int) == 4) = false := ne_num kd 4 h4
    have d6 : ((kd : Int) == 6) = false := ne_num kd 6 h6
    have d7 : ((kd : Int) == 7) = true := eq_num kd 7 h7
    have HH := Lib.hid h7
    clear h4 h6 h7
    have E1 := Lib.hid e1
    have E2 := Lib.hid e2
    clear e1 e2
    go_enter Tryz.func73, Tryz.ntmps73
    go_upto_region 1 with fail
    rw [← HEE.out, ← HW1.out]
    have kM := HM1.out.c
    go_wp2_with fail
    refine (toSend7_wk base B c l F L ⟨kd, fr, tt, k, fo, ac, ow, nu, va⟩ frm n w1 ⟨A, p, cp, xs, H1.out⟩ hn hk HH.out hva).mono ?_
    rintro e w4 ⟨rfl, h4, hb4⟩
    have H4 : Hid (WkX w4 base B c l FX LX (sndV B frm k)) := Lib.hid (by rw [E1.out, E2.out]; exact h4)
    have HB4 := Lib.hid hb4
    clear h4 hb4 kM
    go_wp2_with fail
    exact bodyPost_end (v := .tuple #[]) (by simp [results, Tryz.results73, go_sem, *]) rfl ⟨rfl, H4.out, HC1.out.trans HB4.out⟩
  rw [if_neg h4, if_neg h6, if_neg h7] at e1 e2
  have d4 : ((kd : Int) == 4) = false := ne_num kd 4 h4
  have d6 : ((kd : Int) == 6) = false := ne_num kd 6 h6
  have d7 : ((kd : Int) == 7) = false := ne_num kd 7 h7
  have HH := Lib.hid (And.intro h4 (And.intro h6 h7))
  clear h4 h6 h7
  by_cases hw : (F.wt n).line = k + 1
  · rw [if_pos hw] at e1 e2
    have hd : decide ((F.wt n).line = k + 1) = true := decide_eq_true hw
    have HWL := Lib.hid hw
    clear hw
    have E1 := Lib.hid e1
    have E2 := Lib.hid e2
    clear e1 e2
    go_enter Tryz.func73, Tryz.ntmps73
    go_upto_region 1 with fail
    rw [← HEE.out, ← HW1.out]
    have k0 := H1.out.c0
    have k1 := H1.out.c1
    have k2 := H1.out.c2
    have k3 := H1.out.c3
    have k4 := H1.out.c4
    have k5 := H1.out.c5
    have k6 := H1.out.c6
    have kM := HM1.out.c
    go_upto_region 2 with fail
    refine region_plan (fun V : World => V = w1.drew) 7 [(0, true), (1, true), (2, true), (3, true), (4, true), (5, true), (6, true)] (by kernel_rfl) (by kernel_rfl) rfl ?_
    iterate 7
      refine plan_read (v := ?_) rfl (by rfl) ?_ ?_
      rotate_left
      · intro w' hS
        try dsimp only at hS
        go_simp
        try with_reducible rfl
      try simp only [Act.put, List.setIfInBounds_toArray, List.set_cons_zero, List.set_cons_succ, List.getElem_toArray, List.getElem_cons_zero, List.getElem_cons_succ]
    refine plan_nil ?_
    simp only [List.drop_succ_cons, List.drop_zero]
    go_wp2_with fail
    refine ((waits_mem (H1.out.below ((Below.refl _ _).drew)).mem n k hn hk p L.length cp)).mono ?_
    rintro e V2 ⟨rfl, hb2⟩
    have hbx : Below w1.heap.size w1 V2 := (Below.refl _ _).drew.trans hb2
    have H2 := Lib.hid (H1.out.below hbx)
    have HM2 := Lib.hid (HM1.out.below hbx)
    have HC2 := Lib.hid (HC1.out.trans (hbx.mono (Nat.le_trans H1.out.hi.1 (Nat.le_of_lt H1.out.hi.2))))
    clear hb2 hbx k0 k1 k2 k3 k4 k5 k6 kM
    rw [hd]
    have kM := HM2.out.c
    go_wp2_with fail
    refine (comesToWaiting_wk base B c l F L ⟨kd, fr, tt, k, fo, ac, ow, nu, va⟩ frm n V2 ⟨A, p, cp, xs, H2.out⟩ hn hk HWL.out hg hva).mono ?_
    rintro e w4 ⟨rfl, h4, hb4⟩
    have H4 : Hid (WkX w4 base B c l FX LX (sndV B frm k)) := Lib.hid (by rw [E1.out, E2.out]; exact h4)
    have HB4 := Lib.hid hb4
    clear h4 hb4 kM
    go_wp2_with fail
    exact bodyPost_end (v := .tuple #[]) (by simp [results, Tryz.results73, go_sem, *]) rfl ⟨rfl, H4.out, HC2.out.trans HB4.out⟩
  · rw [if_neg hw] at e1 e2
    subst FX LX
    have hd : decide ((F.wt n).line = k + 1) = false := decide_eq_false hw
    clear hw
    go_enter Tryz.func73, Tryz.ntmps73
    go_upto_region 1 with fail
    rw [← HEE.out, ← HW1.out]
    have k0 := H1.out.c0
    have k1 := H1.out.c1
    have k2 := H1.out.c2
    have k3 := H1.out.c3
    have k4 := H1.out.c4
    have k5 := H1.out.c5
    have k6 := H1.out.c6
    have kM := HM1.out.c
    go_upto_region 2 with fail
    refine region_plan (fun V : World => V = w1.drew) 7 [(0, true), (1, true), (2, true), (3, true), (4, true), (5, true), (6, true)] (by kernel_rfl) (by kernel_rfl) rfl ?_
    iterate 7
      refine plan_read (v := ?_) rfl (by rfl) ?_ ?_
      rotate_left
      · intro w' hS
        try dsimp only at hS
        go_simp
        try with_reducible rfl
      try simp only [Act.put, List.setIfInBounds_toArray, List.set_cons_zero, List.set_cons_succ, List.getElem_toArray, List.getElem_cons_zero, List.getElem_cons_succ]
    refine plan_nil ?_
    simp only [List.drop_succ_cons, List.drop_zero]
    go_wp2_with fail
    refine ((waits_mem (H1.out.below ((Below.refl _ _).drew)).mem n k hn hk p L.length cp)).mono ?_
    rintro e V2 ⟨rfl, hb2⟩
    have hbx : Below w1.heap.size w1 V2 := (Below.refl _ _).drew.trans hb2
    have H2 := Lib.hid (H1.out.below hbx)
    have HM2 := Lib.hid (HM1.out.below hbx)
    have HC2 := Lib.hid (HC1.out.trans (hbx.mono (Nat.le_trans H1.out.hi.1 (Nat.le_of_lt H1.out.hi.2))))
    clear hb2 hbx k0 k1 k2 k3 k4 k5 k6 kM
    rw [hd]
    go_wp2_with fail
    exact bodyPost_end (v := .tuple #[]) (by simp [results, Tryz.results73, go_sem, *]) rfl ⟨rfl, ⟨A, p, cp, xs, H2.out⟩, HC2.out⟩
end Go.Proofs.YtmeomdfmljanhaaGreat.Pg
/- What comes to a core, as the system in plain values has it. -/
namespace Go.Proofs.YtmeomdfmljanhaaGreat.Pg
set_option linter.unusedVariables false

def fmM (x : Pr.Fm) : Msg := ⟨x.kind, x.frm, x.to, x.line, x.fr, x.acks, x.own, x.num, x.val⟩
/-- All that is sent, put behind what is under way. -/
def puts (L : List (List Nat)) (out : List Pr.Fm) : List (List Nat) := out.foldl (fun L x => sendP L (fmM x)) L
theorem puts_nil (L : List (List Nat)) : puts L [] = L := rfl
theorem came_act (F : Pr.Fs) (n k : Nat) (L : List (List Nat)) (hl : (F.wt n).line = k + 1) : cameL F n L ((n + 1 : Nat) : Int) k = puts L (F.came n).2 := by
  unfold cameL Pr.Fs.came
  by_cases h : (F.wt n).came = true ∧ (F.wt n).need ≤ (F.wt n).got
  · rw [if_pos h, if_pos h, hl]
    rfl
  · rw [if_neg h, if_neg h]
    rfl
theorem core_act (F : Pr.Fs) (n : Nat) (m : Pr.Fm) (L : List (List Nat)) : coreF F n m = (F.atCore n m).1 ∧ coreS F n m L ((n + 1 : Nat) : Int) = puts L (F.atCore n m).2 := by
  unfold coreF coreS Pr.Fs.atCore
  by_cases h4 : m.kind = 4
  · simp only [if_pos h4, if_neg (by omega : ¬ m.kind = 3), if_neg (by omega : ¬ m.kind = 5)]
    all_goals (first | exact ⟨rfl, rfl⟩ | exact ⟨trivial, rfl⟩ | exact ⟨rfl, trivial⟩ | exact ⟨trivial, trivial⟩)
  by_cases h6 : m.kind = 6
  · simp only [if_pos h6, if_neg (by omega : ¬ m.kind = 3), if_neg (by omega : ¬ m.kind = 5), if_neg h4]
    by_cases hs : 1 < F.st n m.line
    · simp only [if_pos hs]
      all_goals (first | exact ⟨rfl, rfl⟩ | exact ⟨trivial, rfl⟩ | exact ⟨rfl, trivial⟩ | exact ⟨trivial, trivial⟩)
    · simp only [if_neg hs]
      all_goals (first | exact ⟨rfl, rfl⟩ | exact ⟨trivial, rfl⟩ | exact ⟨rfl, trivial⟩ | exact ⟨trivial, trivial⟩)
  by_cases h7 : m.kind = 7
  · simp only [if_pos h7, if_neg (by omega : ¬ m.kind = 3), if_neg (by omega : ¬ m.kind = 5), if_neg h4, if_neg h6]
    by_cases hs : 1 < F.st n m.line
    · simp only [if_pos hs]
      all_goals (first | exact ⟨rfl, rfl⟩ | exact ⟨trivial, rfl⟩ | exact ⟨rfl, trivial⟩ | exact ⟨trivial, trivial⟩)
    · simp only [if_neg hs]
      all_goals (first | exact ⟨rfl, rfl⟩ | exact ⟨trivial, rfl⟩ | exact ⟨rfl, trivial⟩ | exact ⟨trivial, trivial⟩)
  simp only [if_neg h4, if_neg h6, if_neg h7]
  by_cases hw : (F.wt n).line = m.line + 1
  · simp only [if_pos hw]
    unfold wtF wtS
    by_cases h3 : m.kind = 3
    · simp only [if_pos h3]
      by_cases hc : (F.wt n).back = false ∧ (F.wt n).came = false
      · have hk : (F.wt n).line = m.line + 1 ∧ (F.wt n).back = false ∧ (F.wt n).came = false := ⟨hw, hc.1, hc.2⟩
        simp only [if_pos hc, if_pos hk]
        have hd : ((dataF F n m).wt n).line = m.line + 1 := by unfold dataF; rw [wait_at]; exact hw
        exact ⟨rfl, came_act (dataF F n m) n m.line L hd⟩
      · have hk : ¬ ((F.wt n).line = m.line + 1 ∧ (F.wt n).back = false ∧ (F.wt n).came = false) := fun h => hc ⟨h.2.1, h.2.2⟩
        simp only [if_neg hc, if_neg hk]
        all_goals (first | exact ⟨rfl, rfl⟩ | exact ⟨trivial, rfl⟩ | exact ⟨rfl, trivial⟩ | exact ⟨trivial, trivial⟩)
    by_cases h5 : m.kind = 5
    · simp only [if_neg h3, if_pos h5]
      by_cases hc : (F.wt n).write = true ∧ (F.wt n).got < 255
      · have hk : (F.wt n).line = m.line + 1 ∧ (F.wt n).write = true ∧ (F.wt n).got < 255 := ⟨hw, hc.1, hc.2⟩
        simp only [if_pos hc, if_pos hk]
        have hd : ((F.wait n { F.wt n with got := (F.wt n).got + 1 }).wt n).line = m.line + 1 := by rw [wait_at]; exact hw
        exact ⟨trivial, came_act _ n m.line L hd⟩
      · have hk : ¬ ((F.wt n).line = m.line + 1 ∧ (F.wt n).write = true ∧ (F.wt n).got < 255) := fun h => hc ⟨h.2.1, h.2.2⟩
        simp only [if_neg hc, if_neg hk]
        all_goals (first | exact ⟨rfl, rfl⟩ | exact ⟨trivial, rfl⟩ | exact ⟨rfl, trivial⟩ | exact ⟨trivial, trivial⟩)
    by_cases h10 : m.kind = 10
    · simp only [if_neg h3, if_neg h5, if_pos h10]
      by_cases hc : (F.wt n).came = false
      · have hk : (F.wt n).line = m.line + 1 ∧ (F.wt n).came = false := ⟨hw, hc⟩
        simp only [if_pos hc, if_pos hk]
        by_cases hb : (F.wt n).back = true
        · by_cases hs : 1 < F.st n m.line
          · have h1 : ¬ ((F.wt n).back = true ∧ ¬ 1 < F.st n m.line) := fun h => h.2 hs
            have h2 : ¬ ((F.wt n).back = true ∧ F.st n m.line < 2) := fun h => by omega
            simp only [if_neg h1, if_neg h2, if_pos hb, if_pos hs]
            refine ⟨trivial, ?_⟩
            show _ = puts L [F.asked n]
            unfold Pr.Fs.asked
            rw [if_pos hb, hw]
            rfl
          · have h1 : (F.wt n).back = true ∧ ¬ 1 < F.st n m.line := ⟨hb, hs⟩
            have h2 : (F.wt n).back = true ∧ F.st n m.line < 2 := ⟨hb, by omega⟩
            simp only [if_pos h1, if_pos h2, if_pos hb, if_neg hs]
            all_goals (first | exact ⟨rfl, rfl⟩ | exact ⟨trivial, rfl⟩ | exact ⟨rfl, trivial⟩ | exact ⟨trivial, trivial⟩)
        · have h1 : ¬ ((F.wt n).back = true ∧ ¬ 1 < F.st n m.line) := fun h => hb h.1
          have h2 : ¬ ((F.wt n).back = true ∧ F.st n m.line < 2) := fun h => hb h.1
          simp only [if_neg h1, if_neg h2, if_neg hb]
          refine ⟨trivial, ?_⟩
          show _ = puts L [F.asked n]
          unfold Pr.Fs.asked askK
          rw [if_neg hb, hw]
          by_cases hr : (F.wt n).write = true
          · rw [if_pos hr, if_pos hr]; rfl
          · rw [if_neg hr, if_neg hr]; rfl
      · have hk : ¬ ((F.wt n).line = m.line + 1 ∧ (F.wt n).came = false) := fun h => hc h.2
        simp only [if_neg hc, if_neg hk]
        all_goals (first | exact ⟨rfl, rfl⟩ | exact ⟨trivial, rfl⟩ | exact ⟨rfl, trivial⟩ | exact ⟨trivial, trivial⟩)
    by_cases h9 : m.kind = 9
    · simp only [if_neg h3, if_neg h5, if_neg h10, if_pos h9]
      by_cases hb : (F.wt n).back = true
      · have hk : (F.wt n).line = m.line + 1 ∧ (F.wt n).back = true := ⟨hw, hb⟩
        simp only [if_pos hb, if_pos hk]
        all_goals (first | exact ⟨rfl, rfl⟩ | exact ⟨trivial, rfl⟩ | exact ⟨rfl, trivial⟩ | exact ⟨trivial, trivial⟩)
      · have hk : ¬ ((F.wt n).line = m.line + 1 ∧ (F.wt n).back = true) := fun h => hb h.2
        simp only [if_neg hb, if_neg hk]
        all_goals (first | exact ⟨rfl, rfl⟩ | exact ⟨trivial, rfl⟩ | exact ⟨rfl, trivial⟩ | exact ⟨trivial, trivial⟩)
    · simp only [if_neg h3, if_neg h5, if_neg h10, if_neg h9]
      all_goals (first | exact ⟨rfl, rfl⟩ | exact ⟨trivial, rfl⟩ | exact ⟨rfl, trivial⟩ | exact ⟨trivial, trivial⟩)
  · have e : ∀ P : Prop, ¬ ((F.wt n).line = m.line + 1 ∧ P) := fun P h => hw h.1
    have e1 := e ((F.wt n).back = false ∧ (F.wt n).came = false)
    have e2 := e ((F.wt n).write = true ∧ (F.wt n).got < 255)
    have e3 := e ((F.wt n).came = false)
    have e4 := e ((F.wt n).back = true)
    simp only [if_neg hw, if_neg e1, if_neg e2, if_neg e3, if_neg e4, ite_self]
    all_goals (first | exact ⟨rfl, rfl⟩ | exact ⟨trivial, rfl⟩ | exact ⟨rfl, trivial⟩ | exact ⟨trivial, trivial⟩)
end Go.Proofs.YtmeomdfmljanhaaGreat.Pg
/- What may be known of a line, and what is known behind what is asked: plain values; no condition. -/
namespace Go.Proofs.YtmeomdfmljanhaaGreat.Di
set_option linter.unusedVariables false

/-- What is known of a line. -/
structure En where
  owner : Int
  share : List Bool
def mayN (n : Int) : Bool := decide (1 ≤ n) && decide (n ≤ 4)
def ownB (E : En) : Bool := decide (E.owner = 0) || !(E.share.getD (E.owner - 1).toNat false)
def mayE (E : En) (n : Int) : Bool := mayN n && (decide ((E.share.length : Int) = n) && (decide (0 ≤ E.owner) && (decide (E.owner ≤ n) && ownB E)))
def hasE (E : En) (k : Int) : Bool := mayE E (E.share.length : Int) && (decide (0 ≤ k) && decide (k < (E.share.length : Int)))
def othB (l : List Bool) (k : Int) (i : Nat) : Bool := l.getD i false && decide ((i : Int) ≠ k)
def oth (l : List Bool) (k : Int) (n : Nat) : List Nat := (List.range n).filter (othB l k)
def othE (E : En) (k : Int) : List Nat := oth E.share k E.share.length
def loneE (E : En) (k : Int) : Bool := decide (E.owner = 0) && decide ((othE E k).length = 0)
def readC (E : En) (k : Int) : En := if hasE E k then (if loneE E k then ⟨k + 1, List.replicate E.share.length false⟩ else if E.owner = k + 1 then E else ⟨E.owner, E.share.set k.toNat true⟩) else E
def readF (E : En) (k : Int) : Int := if hasE E k then E.owner else 0
def askX (E : En) (k : Int) : Int := if hasE E k then 0 else 1
def writeC (E : En) (k : Int) : En := if hasE E k then ⟨k + 1, List.replicate E.share.length false⟩ else E
def writeT (E : En) (k : Int) : List Nat := if hasE E k then othE E k else []
def backC (E : En) (k : Int) : En := if hasE E k then (if E.owner = k + 1 then ⟨0, E.share⟩ else E) else E
def backX (E : En) (k : Int) : Int := if hasE E k then (if E.owner = k + 1 then 0 else 7) else 1
def newC (n : Int) : En := if mayN n then ⟨0, List.replicate n.toNat false⟩ else ⟨0, []⟩
def newX (n : Int) : Int := if mayN n then 0 else 1
def aloneE (E : En) : Bool := mayE E (E.share.length : Int) && (decide (0 < E.owner) && !(E.share.contains true))

theorem mayN_iff {n : Int} : mayN n = true ↔ 1 ≤ n ∧ n ≤ 4 := by
  unfold mayN
  rw [Bool.and_eq_true, decide_eq_true_iff, decide_eq_true_iff]
theorem ownB_iff {E : En} : ownB E = true ↔ (E.owner = 0 ∨ E.share.getD (E.owner - 1).toNat false = false) := by
  unfold ownB
  rw [Bool.or_eq_true, decide_eq_true_iff, Bool.not_eq_true']
theorem mayE_iff {E : En} {n : Int} : mayE E n = true ↔ (1 ≤ n ∧ n ≤ 4) ∧ (E.share.length : Int) = n ∧ 0 ≤ E.owner ∧ E.owner ≤ n ∧ ownB E = true := by
  unfold mayE
  rw [Bool.and_eq_true, Bool.and_eq_true, Bool.and_eq_true, Bool.and_eq_true, mayN_iff, decide_eq_true_iff, decide_eq_true_iff, decide_eq_true_iff]
theorem hasE_iff {E : En} {k : Int} : hasE E k = true ↔ mayE E (E.share.length : Int) = true ∧ 0 ≤ k ∧ k < (E.share.length : Int) := by
  unfold hasE
  rw [Bool.and_eq_true, Bool.and_eq_true, decide_eq_true_iff, decide_eq_true_iff]
theorem loneE_iff {E : En} {k : Int} : loneE E k = true ↔ E.owner = 0 ∧ (othE E k).length = 0 := by
  unfold loneE
  rw [Bool.and_eq_true, decide_eq_true_iff, decide_eq_true_iff]
theorem no_of {b : Bool} (h : ¬ b = true) : b = false := by cases b <;> simp_all
theorem getD_rep (n k : Nat) : (List.replicate n false).getD k false = false := by
  rw [List.getD_eq_getElem?_getD, List.getElem?_replicate]
  split <;> rfl
theorem getD_set (l : List Bool) (v : Bool) (k j : Nat) (hk : k < l.length) : (l.set k v).getD j false = if j = k then v else l.getD j false := by
  rw [List.getD_eq_getElem?_getD, List.getD_eq_getElem?_getD, List.getElem?_set]
  by_cases e : j = k
  · subst e; simp [hk]
  · rw [if_neg e, if_neg (fun h => e h.symm)]
theorem bool_ext {l m : List Bool} (h : l.length = m.length) (hk : ∀ k, k < l.length → l.getD k false = m.getD k false) : l = m := by
  refine List.ext_getElem h (fun k h1 h2 => ?_)
  have := hk k h1
  rw [List.getD_eq_getElem?_getD, List.getD_eq_getElem?_getD, List.getElem?_eq_getElem h1, List.getElem?_eq_getElem h2] at this
  exact this
theorem oth_mem {l : List Bool} {k : Int} {n i : Nat} : i ∈ oth l k n ↔ i < n ∧ l.getD i false = true ∧ (i : Int) ≠ k := by
  unfold oth othB
  rw [List.mem_filter, List.mem_range, Bool.and_eq_true, decide_eq_true_iff]
theorem oth_succ (l : List Bool) (k : Int) (n : Nat) : oth l k (n + 1) = oth l k n ++ (if othB l k n then [n] else []) := by
  unfold oth
  rw [List.range_succ, List.filter_append]
  congr 1
  cases h : othB l k n <;> simp [h]
theorem oth_le (l : List Bool) (k : Int) (n : Nat) : (oth l k n).length ≤ n := by
  have := List.length_filter_le (othB l k) (List.range n)
  rw [List.length_range] at this
  exact this
theorem oth_none {l : List Bool} {k : Int} (h : (oth l k l.length).length = 0) : ∀ i, i < l.length → (i : Int) ≠ k → l.getD i false = false := fun i hi hk => by
  cases hg : l.getD i false with
  | false => rfl
  | true =>
    have := oth_mem.2 ⟨hi, hg, hk⟩
    rw [List.length_eq_zero_iff.1 h] at this
    cases this
theorem lone_set {l : List Bool} {k : Nat} (hk : k < l.length) (h : (oth l (k : Int) l.length).length = 0) : l.set k false = List.replicate l.length false := by
  refine bool_ext (by simp) (fun j hj => ?_)
  rw [List.length_set] at hj
  rw [getD_set l false k j hk, getD_rep]
  by_cases e : j = k
  · rw [if_pos e]
  · rw [if_neg e]
    exact oth_none h j hj (fun h => e (by omega))
theorem has_no {E : En} {k : Int} (h : ¬ hasE E k = true) : readC E k = E ∧ readF E k = 0 ∧ askX E k = 1 ∧ writeC E k = E ∧ writeT E k = [] ∧ backC E k = E ∧ backX E k = 1 := by
  have h := no_of h
  unfold readC readF askX writeC writeT backC backX
  rw [h]
  exact ⟨rfl, rfl, rfl, rfl, rfl, rfl, rfl⟩
theorem has_yes {E : En} {k : Int} (h : hasE E k = true) : readF E k = E.owner ∧ askX E k = 0 ∧ writeC E k = ⟨k + 1, List.replicate E.share.length false⟩ ∧ writeT E k = othE E k := by
  unfold readF askX writeC writeT
  rw [h]
  exact ⟨rfl, rfl, rfl, rfl⟩
end Go.Proofs.YtmeomdfmljanhaaGreat.Di
