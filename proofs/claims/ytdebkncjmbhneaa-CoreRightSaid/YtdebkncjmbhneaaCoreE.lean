/- What core.Done answers, for every program, core and word; it writes nothing that was there. -/
import Derived.Test.YtdebkncjmbhneaaCoreD
namespace Go.Proofs.Ytdebkncjmbhneaa
set_option linter.unusedVariables false
open Go.ChangeShapes Go.WideShapes Go.ChangeAt Go.RowKit

def zeroC : Cor := ⟨fun _ => 0, 0, false⟩

/-- A core in block B, an answer's room behind it, and nothing below B written since w. -/
structure CoreAt (w : World) (B : Nat) (c : Cor) (w' : World) : Prop where
  c : ∀ j, w'.cell? ⟨B, j, none⟩ = c.row[j]?
  z : ∀ j, w'.cell? ⟨B + 1, j, none⟩ = zeroC.row[j]?
  f : ∀ j, w'.frozen? ⟨B, j, none⟩ = false
  g : ∀ j, w'.frozen? ⟨B + 1, j, none⟩ = false
  s : B + 1 < w'.heap.size
  b : Below B w w'

theorem CoreAt.below {w w' w2 : World} {B : Nat} {c : Cor} (h : CoreAt w B c w') (hb : Below w'.heap.size w' w2) : CoreAt w B c w2 := by
  have hs := h.s
  have hsz := hb.size
  refine ⟨fun j => ?_, fun j => ?_, fun j => ?_, fun j => ?_, by omega, h.b.trans (hb.mono (by omega))⟩
  · rw [hb.cell (p := ⟨B, j, none⟩) (by show B < _; omega)]; exact h.c j
  · rw [hb.cell (p := ⟨B + 1, j, none⟩) (by show B + 1 < _; omega)]; exact h.z j
  · rw [hb.frozen (p := ⟨B, j, none⟩) (by show B < _; omega)]; exact h.f j
  · rw [hb.frozen (p := ⟨B + 1, j, none⟩) (by show B + 1 < _; omega)]; exact h.g j
theorem CoreAt.set {w w' : World} {B : Nat} {c c' : Cor} {n : Nat} {v : Value} (h : CoreAt w B c w') (hn : n < 10) (he : ∀ j, j ≠ n → c'.row[j]? = c.row[j]?) (hv : c'.row[n]? = some v) : CoreAt w B c' (w'.setCell ⟨B, n, none⟩ v) := by
  refine ⟨fun j => ?_, fun j => ?_, fun j => by simpa using h.f j, fun j => by simpa using h.g j, by simpa using h.s, h.b.setCell (Nat.le_refl _) _⟩
  · by_cases hj : j = n
    · subst hj
      obtain ⟨u, hu⟩ : ∃ u, c.row[j]? = some u := ⟨_, Array.getElem?_eq_getElem (show j < c.row.size from hn)⟩
      rw [hv]
      exact World.cell?_setCell_same _ _ _ ((h.c j).trans hu)
    · rw [he j hj, World.cell?_setCell_other _ _ _ _ (by intro e; injection e with _ e2; exact hj e2.symm)]
      exact h.c j
  · rw [World.cell?_setCell_other _ _ _ _ (by intro e; injection e with e1; omega)]
    exact h.z j

/-- Sixteen facts that a walk needs, out of one. -/
theorem CoreAt.new (w : World) (c : Cor) : CoreAt w w.heap.size c ((w.alloc (.cells c.row 26)).alloc (.cells zeroC.row 26)) := by
  obtain ⟨a, b, d, e, f, g, h⟩ := two_boxes (w := w) (cs := c.row) (ds := zeroC.row) (t := 26) (u := 26) (Below.refl _ _)
  exact ⟨a, b, d, e, g, h⟩

theorem below10 {B N : Nat} {a w : World} (h : Below N a w) (hN : N ≤ B) (v0 v1 v2 v3 v4 v5 v6 v7 v8 v9 : Value) : Below N a ((((((((((w.setCell ⟨B, 0, none⟩ v0).setCell ⟨B, 1, none⟩ v1).setCell ⟨B, 2, none⟩ v2).setCell ⟨B, 3, none⟩ v3).setCell ⟨B, 4, none⟩ v4).setCell ⟨B, 5, none⟩ v5).setCell ⟨B, 6, none⟩ v6).setCell ⟨B, 7, none⟩ v7).setCell ⟨B, 8, none⟩ v8).setCell ⟨B, 9, none⟩ v9) :=
  (((((((((h.setCell hN _).setCell hN _).setCell hN _).setCell hN _).setCell hN _).setCell hN _).setCell hN _).setCell hN _).setCell hN _).setCell hN _

theorem done_halted (p : Option Addr) (len cap : Nat) (r : Nat → Int) (pc was : Int) (w : World) :
    Calls Try.prog 11 #[.slice p len cap, .agg #[.int .u32 (r 0), .int .u32 (r 1), .int .u32 (r 2), .int .u32 (r 3), .int .u32 (r 4), .int .u32 (r 5), .int .u32 (r 6), .int .u32 (r 7), .int .i64 pc, .bool true], .int .u32 was] w fun e w' => e = .returned (.agg #[.int .u32 (r 0), .int .u32 (r 1), .int .u32 (r 2), .int .u32 (r 3), .int .u32 (r 4), .int .u32 (r 5), .int .u32 (r 6), .int .u32 (r 7), .int .i64 pc, .bool true]) ∧ Below w.heap.size w w' := by
  go_enter Try.func11, Try.ntmps11
  go_wp2
  refine bodyPost_ret (v := .agg #[.int .u32 (r 0), .int .u32 (r 1), .int .u32 (r 2), .int .u32 (r 3), .int .u32 (r 4), .int .u32 (r 5), .int .u32 (r 6), .int .u32 (r 7), .int .i64 pc, .bool true]) (by simp [results, Try.results11, go_sem]) rfl ⟨rfl, ?_⟩
  exact ((Below.refl _ _).alloc (Nat.le_refl _) _).alloc (by simp) _

theorem done_wrong (p : Option Addr) (len cap : Nat) (l : List I5) (r : Nat → Int) (pc was : Int) (w : World) (hl : l.length = len) (hp : Prg w p l) (hv : coreB l ⟨r, pc, false⟩ = false) :
    Calls Try.prog 11 #[.slice p len cap, .agg #[.int .u32 (r 0), .int .u32 (r 1), .int .u32 (r 2), .int .u32 (r 3), .int .u32 (r 4), .int .u32 (r 5), .int .u32 (r 6), .int .u32 (r 7), .int .i64 pc, .bool false], .int .u32 was] w fun e w' => e = .returned (.agg #[.int .u32 (r 0), .int .u32 (r 1), .int .u32 (r 2), .int .u32 (r 3), .int .u32 (r 4), .int .u32 (r 5), .int .u32 (r 6), .int .u32 (r 7), .int .i64 pc, .bool false]) ∧ Below w.heap.size w w' := by
  have HL := Lib.hid hl
  have HP := Lib.hid hp
  have HV := Lib.hid hv
  clear hl hp hv
  go_enter Try.func11, Try.ntmps11
  go_wp2_with fail
  refine (core_call p len cap l ⟨r, pc, false⟩ false w _ HL HV HP (((Below.refl _ _).alloc (Nat.le_refl _) _).alloc (by simp) _)).mono ?_
  rintro e w1 ⟨rfl, hb1⟩
  have HC : Hid (CoreAt w w.heap.size ⟨r, pc, false⟩ w1) := (CoreAt.new w ⟨r, pc, false⟩).below hb1
  clear hb1
  have c0 : w1.cell? ⟨w.heap.size, 0, none⟩ = some (.int .u32 (r 0)) := HC.out.c 0
  have c1 : w1.cell? ⟨w.heap.size, 1, none⟩ = some (.int .u32 (r 1)) := HC.out.c 1
  have c2 : w1.cell? ⟨w.heap.size, 2, none⟩ = some (.int .u32 (r 2)) := HC.out.c 2
  have c3 : w1.cell? ⟨w.heap.size, 3, none⟩ = some (.int .u32 (r 3)) := HC.out.c 3
  have c4 : w1.cell? ⟨w.heap.size, 4, none⟩ = some (.int .u32 (r 4)) := HC.out.c 4
  have c5 : w1.cell? ⟨w.heap.size, 5, none⟩ = some (.int .u32 (r 5)) := HC.out.c 5
  have c6 : w1.cell? ⟨w.heap.size, 6, none⟩ = some (.int .u32 (r 6)) := HC.out.c 6
  have c7 : w1.cell? ⟨w.heap.size, 7, none⟩ = some (.int .u32 (r 7)) := HC.out.c 7
  have c8 : w1.cell? ⟨w.heap.size, 8, none⟩ = some (.int .i64 pc) := HC.out.c 8
  have c9 : w1.cell? ⟨w.heap.size, 9, none⟩ = some (.bool false) := HC.out.c 9
  have z0 : w1.cell? ⟨w.heap.size + 1, 0, none⟩ = some (.int .u32 0) := HC.out.z 0
  have g0 : w1.frozen? ⟨w.heap.size + 1, 0, none⟩ = false := HC.out.g 0
  have z1 : w1.cell? ⟨w.heap.size + 1, 1, none⟩ = some (.int .u32 0) := HC.out.z 1
  have g1 : w1.frozen? ⟨w.heap.size + 1, 1, none⟩ = false := HC.out.g 1
  have z2 : w1.cell? ⟨w.heap.size + 1, 2, none⟩ = some (.int .u32 0) := HC.out.z 2
  have g2 : w1.frozen? ⟨w.heap.size + 1, 2, none⟩ = false := HC.out.g 2
  have z3 : w1.cell? ⟨w.heap.size + 1, 3, none⟩ = some (.int .u32 0) := HC.out.z 3
  have g3 : w1.frozen? ⟨w.heap.size + 1, 3, none⟩ = false := HC.out.g 3
  have z4 : w1.cell? ⟨w.heap.size + 1, 4, none⟩ = some (.int .u32 0) := HC.out.z 4
  have g4 : w1.frozen? ⟨w.heap.size + 1, 4, none⟩ = false := HC.out.g 4
  have z5 : w1.cell? ⟨w.heap.size + 1, 5, none⟩ = some (.int .u32 0) := HC.out.z 5
  have g5 : w1.frozen? ⟨w.heap.size + 1, 5, none⟩ = false := HC.out.g 5
  have z6 : w1.cell? ⟨w.heap.size + 1, 6, none⟩ = some (.int .u32 0) := HC.out.z 6
  have g6 : w1.frozen? ⟨w.heap.size + 1, 6, none⟩ = false := HC.out.g 6
  have z7 : w1.cell? ⟨w.heap.size + 1, 7, none⟩ = some (.int .u32 0) := HC.out.z 7
  have g7 : w1.frozen? ⟨w.heap.size + 1, 7, none⟩ = false := HC.out.g 7
  have z8 : w1.cell? ⟨w.heap.size + 1, 8, none⟩ = some (.int .i64 0) := HC.out.z 8
  have g8 : w1.frozen? ⟨w.heap.size + 1, 8, none⟩ = false := HC.out.g 8
  have z9 : w1.cell? ⟨w.heap.size + 1, 9, none⟩ = some (.bool false) := HC.out.z 9
  have g9 : w1.frozen? ⟨w.heap.size + 1, 9, none⟩ = false := HC.out.g 9
  have s2 : w.heap.size + 1 < w1.heap.size := HC.out.s
  have s1 : w.heap.size < w1.heap.size := Nat.lt_of_succ_lt s2
  go_wp2
  refine bodyPost_ret (v := .agg #[.int .u32 (r 0), .int .u32 (r 1), .int .u32 (r 2), .int .u32 (r 3), .int .u32 (r 4), .int .u32 (r 5), .int .u32 (r 6), .int .u32 (r 7), .int .i64 pc, .bool false]) (by simp [results, Try.results11, go_sem, z0, z1, z2, z3, z4, z5, z6, z7, z8, z9]) rfl ⟨rfl, ?_⟩
  exact below10 HC.out.b (Nat.le_succ _) _ _ _ _ _ _ _ _ _ _
end Go.Proofs.Ytdebkncjmbhneaa
