/- Laid together, in this order: CoreF, Plan, AtomG, AtomFacts, AtomH, AtomOpen. -/
import Derived.Test.YtekiialhljfglaaZc
import Derived.StillTail
import Derived.OrdersHeld
import Derived.WalkKit
import Derived.Deep.RegionHeld3
import Derived.StillTailTactics
import Derived.Deep.DeepCutAuto
import Derived.BigGuardPart
import Derived.Deep.RegionWith
import Derived.Deep.Light
import Derived.Maps.AppendAt
import Derived.Lib.SmallJoins
import Derived.SizedLaws
/- What core.Done answers where the core may be; it writes nothing that was there. -/
namespace Go.Proofs.Ytekiialhljfglaa
set_option linter.unusedVariables false
open Go.ChangeShapes Go.WideShapes Go.ChangeAt Go.RowKit

theorem row_pc (r : Nat → Int) (n p : Int) (h : Bool) (j : Nat) (hj : j ≠ 8) : (Cor.row ⟨r, p, h⟩)[j]? = (Cor.row ⟨r, n, h⟩)[j]? := by
  match j with
  | 0 | 1 | 2 | 3 | 4 | 5 | 6 | 7 => rfl
  | 8 => exact absurd rfl hj
  | 9 => rfl
  | j + 10 => rw [Array.getElem?_eq_none (by simp [Cor.row]), Array.getElem?_eq_none (by simp [Cor.row])]
theorem row_set_same (c : Cor) (n : Nat) (v : Int) (h : n < 8) : (c.set n v).row[n]? = some (.int .u32 v) := by
  rw [Cor.row_at _ n h]; simp [Cor.set]
theorem row_set (c : Cor) (n : Nat) (v : Int) (j : Nat) (hj : j ≠ n) : (c.set n v).row[j]? = c.row[j]? := by
  by_cases h : j < 8
  · rw [Cor.row_at _ j h, Cor.row_at _ j h]; simp [Cor.set, hj]
  · match j with
    | 0 | 1 | 2 | 3 | 4 | 5 | 6 | 7 => exact absurd (by decide) h
    | 8 => rfl
    | 9 => rfl
    | j + 10 => rw [Array.getElem?_eq_none (by simp [Cor.row]), Array.getElem?_eq_none (by simp [Cor.row])]

set_option maxHeartbeats 1000000 in
theorem done_stop (b off len cap n : Nat) (l : List I5) (a bb cc k : Int) (r : Nat → Int) (was : Int) (w : World) (hl : l.length = len) (hp : Prg w (some ⟨b, off, none⟩) l) (hv : coreB l ⟨r, n, false⟩ = true) (hn : n < len) (hlen : len ≤ 64)
    (hlt : b < w.heap.size) (hx : Lies w b (off + n * 5) ⟨16, a, bb, cc, k⟩) :
    Calls Try.prog 42 #[.slice (some ⟨b, off, none⟩) len cap, .agg #[.int .u32 (r 0), .int .u32 (r 1), .int .u32 (r 2), .int .u32 (r 3), .int .u32 (r 4), .int .u32 (r 5), .int .u32 (r 6), .int .u32 (r 7), .int .i64 n, .bool false], .int .u32 was] w fun e w' => e = .returned (.agg #[.int .u32 (r 0), .int .u32 (r 1), .int .u32 (r 2), .int .u32 (r 3), .int .u32 (r 4), .int .u32 (r 5), .int .u32 (r 6), .int .u32 (r 7), .int .i64 n, .bool true]) ∧ Below w.heap.size w w' := by
  have HL := Lib.hid hl
  have HP := Lib.hid hp
  have HV := Lib.hid hv
  have HX := Lib.hid hx
  clear hl hp hv hx
  go_enter Try.func42, Try.ntmps42
  go_wp2_with fail
  refine (core_call (some ⟨b, off, none⟩) len cap l ⟨r, n, false⟩ true w _ HL HV HP (((Below.refl _ _).alloc (Nat.le_refl _) _).alloc (by simp) _)).mono ?_
  rintro e w1 ⟨rfl, hb1⟩
  have HC : Hid (CoreAt w w.heap.size ⟨r, n, false⟩ w1) := (CoreAt.new w ⟨r, n, false⟩).below hb1
  clear hb1
  obtain ⟨x0, x1, x2, x3, x4, _, _⟩ := HX.out.below HC.out.b hlt
  have c0 : w1.cell? ⟨w.heap.size, 0, none⟩ = some (.int .u32 (r 0)) := HC.out.c 0
  have c1 : w1.cell? ⟨w.heap.size, 1, none⟩ = some (.int .u32 (r 1)) := HC.out.c 1
  have c2 : w1.cell? ⟨w.heap.size, 2, none⟩ = some (.int .u32 (r 2)) := HC.out.c 2
  have c3 : w1.cell? ⟨w.heap.size, 3, none⟩ = some (.int .u32 (r 3)) := HC.out.c 3
  have c4 : w1.cell? ⟨w.heap.size, 4, none⟩ = some (.int .u32 (r 4)) := HC.out.c 4
  have c5 : w1.cell? ⟨w.heap.size, 5, none⟩ = some (.int .u32 (r 5)) := HC.out.c 5
  have c6 : w1.cell? ⟨w.heap.size, 6, none⟩ = some (.int .u32 (r 6)) := HC.out.c 6
  have c7 : w1.cell? ⟨w.heap.size, 7, none⟩ = some (.int .u32 (r 7)) := HC.out.c 7
  have c8 : w1.cell? ⟨w.heap.size, 8, none⟩ = some (.int .i64 n) := HC.out.c 8
  have c9 : w1.cell? ⟨w.heap.size, 9, none⟩ = some (.bool false) := HC.out.c 9
  have z0 : w1.cell? ⟨w.heap.size + 1, 0, none⟩ = some (.int .u32 0) := HC.out.z 0
  have g0 : w1.frozen? ⟨w.heap.size + 1, 0, none⟩ = false := HC.out.g 0
  have z1 : w1.cell? ⟨w.heap.size + 1, 1, none⟩ = some (.int .u32 0) := HC.out.z 1
  have g1 : w1.frozen? ⟨w.heap.size + 1, 1, none⟩ = false := HC.out.g 1
  have z2 : w1.cell? ⟨w.heap.size + 1, 2, none⟩ = some (.int .u32 0) := HC.out.z 2
  have g2 : w1.frozen? ⟨w.heap.size + 1, 2, none⟩ = false := HC.out.g 2
  have z3 : w1.cell? ⟨w.heap.size + 1, 3, none⟩ = some (.int .u32 0) := HC.out.z 3
  have g3 : w1.frozen? ⟨w.heap.size + 1, 3, none⟩ = false := HC.out.g 3
  have z4 : w1.cell? ⟨w.heap.size + 1, 4, none⟩ = some (.int .u32 0) := HC.out.z 4
  have g4 : w1.frozen? ⟨w.heap.size + 1, 4, none⟩ = false := HC.out.g 4
  have z5 : w1.cell? ⟨w.heap.size + 1, 5, none⟩ = some (.int .u32 0) := HC.out.z 5
  have g5 : w1.frozen? ⟨w.heap.size + 1, 5, none⟩ = false := HC.out.g 5
  have z6 : w1.cell? ⟨w.heap.size + 1, 6, none⟩ = some (.int .u32 0) := HC.out.z 6
  have g6 : w1.frozen? ⟨w.heap.size + 1, 6, none⟩ = false := HC.out.g 6
  have z7 : w1.cell? ⟨w.heap.size + 1, 7, none⟩ = some (.int .u32 0) := HC.out.z 7
  have g7 : w1.frozen? ⟨w.heap.size + 1, 7, none⟩ = false := HC.out.g 7
  have z8 : w1.cell? ⟨w.heap.size + 1, 8, none⟩ = some (.int .i64 0) := HC.out.z 8
  have g8 : w1.frozen? ⟨w.heap.size + 1, 8, none⟩ = false := HC.out.g 8
  have z9 : w1.cell? ⟨w.heap.size + 1, 9, none⟩ = some (.bool false) := HC.out.z 9
  have g9 : w1.frozen? ⟨w.heap.size + 1, 9, none⟩ = false := HC.out.g 9
  have s2 : w.heap.size + 1 < w1.heap.size := HC.out.s
  have s1 : w.heap.size < w1.heap.size := Nat.lt_of_succ_lt s2
  have f9 : w1.frozen? ⟨w.heap.size, 9, none⟩ = false := HC.out.f 9
  have s3 : w.heap.size ≠ w1.heap.size := Nat.ne_of_lt s1
  clear HX HL HP HV
  go_wp2
  refine bodyPost_ret (v := .agg #[.int .u32 (r 0), .int .u32 (r 1), .int .u32 (r 2), .int .u32 (r 3), .int .u32 (r 4), .int .u32 (r 5), .int .u32 (r 6), .int .u32 (r 7), .int .i64 n, .bool true]) (by simp [results, Try.results42, go_sem, z0, z1, z2, z3, z4, z5, z6, z7, z8, z9, s2]) rfl ⟨rfl, ?_⟩
  exact (below10 (HC.out.b.setCell (Nat.le_refl _) _) (Nat.le_succ _) _ _ _ _ _ _ _ _ _ _).alloc (by have := HC.out.s; simp; omega) _

set_option maxHeartbeats 2000000 in
theorem done_plain (b off len cap n a : Nat) (l : List I5) (op bb cc k : Int) (r : Nat → Int) (was p v : Int) (w : World) (hl : l.length = len) (hp : Prg w (some ⟨b, off, none⟩) l) (hv : coreB l ⟨r, n, false⟩ = true) (hn : n < len) (hlen : len ≤ 64)
    (hlt : b < w.heap.size) (hx : Lies w b (off + n * 5) ⟨op, a, bb, cc, k⟩) (ha : a < 8) (hregs : Hid (0 ≤ bb ∧ bb < 8 ∧ 0 ≤ cc ∧ cc < 8)) (o16 : (op == 16) = false)
    (hp' : Hid (nextX ⟨op, a, bb, cc, k⟩ ⟨r, n, false⟩ = p)) (hv' : Hid (madeV ⟨op, a, bb, cc, k⟩ ⟨r, p, false⟩ was = v)) (hok : Hid (madeOk ⟨op, a, bb, cc, k⟩ = false)) :
    Calls Try.prog 42 #[.slice (some ⟨b, off, none⟩) len cap, .agg #[.int .u32 (r 0), .int .u32 (r 1), .int .u32 (r 2), .int .u32 (r 3), .int .u32 (r 4), .int .u32 (r 5), .int .u32 (r 6), .int .u32 (r 7), .int .i64 n, .bool false], .int .u32 was] w fun e w' => e = .returned (.agg #[.int .u32 (r 0), .int .u32 (r 1), .int .u32 (r 2), .int .u32 (r 3), .int .u32 (r 4), .int .u32 (r 5), .int .u32 (r 6), .int .u32 (r 7), .int .i64 p, .bool false]) ∧ Below w.heap.size w w' := by
  have HL := Lib.hid hl
  have HP := Lib.hid hp
  have HV := Lib.hid hv
  have HX := Lib.hid hx
  clear hl hp hv hx
  go_enter Try.func42, Try.ntmps42
  go_wp2_with fail
  refine (core_call (some ⟨b, off, none⟩) len cap l ⟨r, n, false⟩ true w _ HL HV HP (((Below.refl _ _).alloc (Nat.le_refl _) _).alloc (by simp) _)).mono ?_
  rintro e w1 ⟨rfl, hb1⟩
  have HC : Hid (CoreAt w w.heap.size ⟨r, n, false⟩ w1) := (CoreAt.new w ⟨r, n, false⟩).below hb1
  clear hb1
  obtain ⟨x0, x1, x2, x3, x4, hk0, hk1⟩ := HX.out.below HC.out.b hlt
  have c0 : w1.cell? ⟨w.heap.size, 0, none⟩ = some (.int .u32 (r 0)) := HC.out.c 0
  have c1 : w1.cell? ⟨w.heap.size, 1, none⟩ = some (.int .u32 (r 1)) := HC.out.c 1
  have c2 : w1.cell? ⟨w.heap.size, 2, none⟩ = some (.int .u32 (r 2)) := HC.out.c 2
  have c3 : w1.cell? ⟨w.heap.size, 3, none⟩ = some (.int .u32 (r 3)) := HC.out.c 3
  have c4 : w1.cell? ⟨w.heap.size, 4, none⟩ = some (.int .u32 (r 4)) := HC.out.c 4
  have c5 : w1.cell? ⟨w.heap.size, 5, none⟩ = some (.int .u32 (r 5)) := HC.out.c 5
  have c6 : w1.cell? ⟨w.heap.size, 6, none⟩ = some (.int .u32 (r 6)) := HC.out.c 6
  have c7 : w1.cell? ⟨w.heap.size, 7, none⟩ = some (.int .u32 (r 7)) := HC.out.c 7
  have c8 : w1.cell? ⟨w.heap.size, 8, none⟩ = some (.int .i64 n) := HC.out.c 8
  have c9 : w1.cell? ⟨w.heap.size, 9, none⟩ = some (.bool false) := HC.out.c 9
  have s2 : w.heap.size + 1 < w1.heap.size := HC.out.s
  have s1 : w.heap.size < w1.heap.size := Nat.lt_of_succ_lt s2
  clear HX HL HP HV
  go_wp2_with fail
  have HN : Hid (Calls Try.prog 48 #[.agg #[.int .i64 op, .int .i64 a, .int .i64 bb, .int .i64 cc, .int .u32 k], .agg #[.int .u32 (r 0), .int .u32 (r 1), .int .u32 (r 2), .int .u32 (r 3), .int .u32 (r 4), .int .u32 (r 5), .int .u32 (r 6), .int .u32 (r 7), .int .i64 n, .bool false]] (w1.alloc (.cells #[.int .i64 op, .int .i64 a, .int .i64 bb, .int .i64 cc, .int .u32 k] 61)) fun e w' => e = .returned (.int .i64 p) ∧ Below (w1.alloc (.cells #[.int .i64 op, .int .i64 a, .int .i64 bb, .int .i64 cc, .int .u32 k] 61)).heap.size (w1.alloc (.cells #[.int .i64 op, .int .i64 a, .int .i64 bb, .int .i64 cc, .int .u32 k] 61)) w') := by
    have h := next_any ⟨op, a, bb, cc, k⟩ ⟨r, n, false⟩ (w1.alloc (.cells #[.int .i64 op, .int .i64 a, .int .i64 bb, .int .i64 cc, .int .u32 k] 61)) (by simp only; omega) (by simp only; omega) hk0 hk1 (by simp only; omega) (by simp only; omega)
    rw [hp'.out] at h
    exact h
  refine HN.out.mono ?_
  clear HN
  rintro e w2 ⟨rfl, hb2⟩
  have HC2 : Hid (CoreAt w w.heap.size ⟨r, n, false⟩ w2) := (HC.out.below ((Below.refl _ _).alloc (Nat.le_refl _) _)).below hb2
  have HX2 : Hid ((∀ j, w2.cell? ⟨w1.heap.size, j, none⟩ = (I5.row ⟨op, a, bb, cc, k⟩)[j]?) ∧ w1.heap.size < w2.heap.size) := by
    have e1 : (w1.alloc (.cells (I5.row ⟨op, a, bb, cc, k⟩) 61)).heap.size = w1.heap.size + 1 := World.size_alloc _ _
    refine ⟨fun j => ?_, ?_⟩
    · rw [hb2.cell (p := ⟨w1.heap.size, j, none⟩) (by show w1.heap.size < (w1.alloc (.cells (I5.row ⟨op, a, bb, cc, k⟩) 61)).heap.size; omega)]
      exact World.cell?_alloc_new w1 _ 61 j
    · have h : (w1.alloc (.cells (I5.row ⟨op, a, bb, cc, k⟩) 61)).heap.size ≤ w2.heap.size := hb2.size
      omega
  have S12 := Lib.hid s2
  clear hb2 HC x0 x1 x2 x3 x4 c0 c1 c2 c3 c4 c5 c6 c7 c8 c9 s1 s2
  have c0 : w2.cell? ⟨w.heap.size, 0, none⟩ = some (.int .u32 (r 0)) := HC2.out.c 0
  have c1 : w2.cell? ⟨w.heap.size, 1, none⟩ = some (.int .u32 (r 1)) := HC2.out.c 1
  have c2 : w2.cell? ⟨w.heap.size, 2, none⟩ = some (.int .u32 (r 2)) := HC2.out.c 2
  have c3 : w2.cell? ⟨w.heap.size, 3, none⟩ = some (.int .u32 (r 3)) := HC2.out.c 3
  have c4 : w2.cell? ⟨w.heap.size, 4, none⟩ = some (.int .u32 (r 4)) := HC2.out.c 4
  have c5 : w2.cell? ⟨w.heap.size, 5, none⟩ = some (.int .u32 (r 5)) := HC2.out.c 5
  have c6 : w2.cell? ⟨w.heap.size, 6, none⟩ = some (.int .u32 (r 6)) := HC2.out.c 6
  have c7 : w2.cell? ⟨w.heap.size, 7, none⟩ = some (.int .u32 (r 7)) := HC2.out.c 7
  have c8 : w2.cell? ⟨w.heap.size, 8, none⟩ = some (.int .i64 n) := HC2.out.c 8
  have c9 : w2.cell? ⟨w.heap.size, 9, none⟩ = some (.bool false) := HC2.out.c 9
  have y0 : w2.cell? ⟨w1.heap.size, 0, none⟩ = some (.int .i64 op) := HX2.out.1 0
  have y1 : w2.cell? ⟨w1.heap.size, 1, none⟩ = some (.int .i64 a) := HX2.out.1 1
  have y2 : w2.cell? ⟨w1.heap.size, 2, none⟩ = some (.int .i64 bb) := HX2.out.1 2
  have y3 : w2.cell? ⟨w1.heap.size, 3, none⟩ = some (.int .i64 cc) := HX2.out.1 3
  have y4 : w2.cell? ⟨w1.heap.size, 4, none⟩ = some (.int .u32 k) := HX2.out.1 4
  have s2 : w.heap.size + 1 < w2.heap.size := HC2.out.s
  have s1 : w.heap.size < w2.heap.size := Nat.lt_of_succ_lt s2
  have f8 : w2.frozen? ⟨w.heap.size, 8, none⟩ = false := HC2.out.f 8
  have d1 : w1.heap.size ≠ w.heap.size := by have := S12.out; omega
  go_wp2_with fail
  have HC3 : Hid (CoreAt w w.heap.size ⟨r, p, false⟩ (w2.setCell ⟨w.heap.size, 8, none⟩ (.int .i64 p))) := HC2.out.set (by omega) (fun j hj => row_pc r n p false j hj) rfl
  have HM : Hid (Calls Try.prog 49 #[.agg #[.int .i64 op, .int .i64 a, .int .i64 bb, .int .i64 cc, .int .u32 k], .agg #[.int .u32 (r 0), .int .u32 (r 1), .int .u32 (r 2), .int .u32 (r 3), .int .u32 (r 4), .int .u32 (r 5), .int .u32 (r 6), .int .u32 (r 7), .int .i64 p, .bool false], .int .u32 was] (w2.setCell ⟨w.heap.size, 8, none⟩ (.int .i64 p)) fun e w' => e = .returned (.tuple #[.int .u32 v, .bool false]) ∧ Below (w2.setCell ⟨w.heap.size, 8, none⟩ (.int .i64 p)).heap.size (w2.setCell ⟨w.heap.size, 8, none⟩ (.int .i64 p)) w') := by
    have h := made_any ⟨op, a, bb, cc, k⟩ ⟨r, p, false⟩ was (w2.setCell ⟨w.heap.size, 8, none⟩ (.int .i64 p)) ⟨by simp only; omega, by simp only; omega, hregs.out⟩
    rw [hv'.out, hok.out] at h
    exact h
  refine HM.out.mono ?_
  clear HM
  rintro e w3 ⟨rfl, hb3⟩
  have HC4 : Hid (CoreAt w w.heap.size ⟨r, p, false⟩ w3) := HC3.out.below hb3
  have y1' : w3.cell? ⟨w1.heap.size, 1, none⟩ = some (.int .i64 a) := by
    rw [hb3.cell (p := ⟨w1.heap.size, 1, none⟩) (by show w1.heap.size < (w2.setCell _ _).heap.size; simpa using HX2.out.2), World.cell?_setCell_other _ _ _ _ (by intro e; injection e with e1; exact d1 e1.symm)]
    exact y1
  clear hb3 HC2 HC3 c0 c1 c2 c3 c4 c5 c6 c7 c8 c9 y0 y1 y2 y3 y4 s1 s2 f8 HX2
  have c0 : w3.cell? ⟨w.heap.size, 0, none⟩ = some (.int .u32 (r 0)) := HC4.out.c 0
  have c1 : w3.cell? ⟨w.heap.size, 1, none⟩ = some (.int .u32 (r 1)) := HC4.out.c 1
  have c2 : w3.cell? ⟨w.heap.size, 2, none⟩ = some (.int .u32 (r 2)) := HC4.out.c 2
  have c3 : w3.cell? ⟨w.heap.size, 3, none⟩ = some (.int .u32 (r 3)) := HC4.out.c 3
  have c4 : w3.cell? ⟨w.heap.size, 4, none⟩ = some (.int .u32 (r 4)) := HC4.out.c 4
  have c5 : w3.cell? ⟨w.heap.size, 5, none⟩ = some (.int .u32 (r 5)) := HC4.out.c 5
  have c6 : w3.cell? ⟨w.heap.size, 6, none⟩ = some (.int .u32 (r 6)) := HC4.out.c 6
  have c7 : w3.cell? ⟨w.heap.size, 7, none⟩ = some (.int .u32 (r 7)) := HC4.out.c 7
  have c8 : w3.cell? ⟨w.heap.size, 8, none⟩ = some (.int .i64 p) := HC4.out.c 8
  have c9 : w3.cell? ⟨w.heap.size, 9, none⟩ = some (.bool false) := HC4.out.c 9
  have z0 : w3.cell? ⟨w.heap.size + 1, 0, none⟩ = some (.int .u32 0) := HC4.out.z 0
  have g0 : w3.frozen? ⟨w.heap.size + 1, 0, none⟩ = false := HC4.out.g 0
  have z1 : w3.cell? ⟨w.heap.size + 1, 1, none⟩ = some (.int .u32 0) := HC4.out.z 1
  have g1 : w3.frozen? ⟨w.heap.size + 1, 1, none⟩ = false := HC4.out.g 1
  have z2 : w3.cell? ⟨w.heap.size + 1, 2, none⟩ = some (.int .u32 0) := HC4.out.z 2
  have g2 : w3.frozen? ⟨w.heap.size + 1, 2, none⟩ = false := HC4.out.g 2
  have z3 : w3.cell? ⟨w.heap.size + 1, 3, none⟩ = some (.int .u32 0) := HC4.out.z 3
  have g3 : w3.frozen? ⟨w.heap.size + 1, 3, none⟩ = false := HC4.out.g 3
  have z4 : w3.cell? ⟨w.heap.size + 1, 4, none⟩ = some (.int .u32 0) := HC4.out.z 4
  have g4 : w3.frozen? ⟨w.heap.size + 1, 4, none⟩ = false := HC4.out.g 4
  have z5 : w3.cell? ⟨w.heap.size + 1, 5, none⟩ = some (.int .u32 0) := HC4.out.z 5
  have g5 : w3.frozen? ⟨w.heap.size + 1, 5, none⟩ = false := HC4.out.g 5
  have z6 : w3.cell? ⟨w.heap.size + 1, 6, none⟩ = some (.int .u32 0) := HC4.out.z 6
  have g6 : w3.frozen? ⟨w.heap.size + 1, 6, none⟩ = false := HC4.out.g 6
  have z7 : w3.cell? ⟨w.heap.size + 1, 7, none⟩ = some (.int .u32 0) := HC4.out.z 7
  have g7 : w3.frozen? ⟨w.heap.size + 1, 7, none⟩ = false := HC4.out.g 7
  have z8 : w3.cell? ⟨w.heap.size + 1, 8, none⟩ = some (.int .i64 0) := HC4.out.z 8
  have g8 : w3.frozen? ⟨w.heap.size + 1, 8, none⟩ = false := HC4.out.g 8
  have z9 : w3.cell? ⟨w.heap.size + 1, 9, none⟩ = some (.bool false) := HC4.out.z 9
  have g9 : w3.frozen? ⟨w.heap.size + 1, 9, none⟩ = false := HC4.out.g 9
  have s2 : w.heap.size + 1 < w3.heap.size := HC4.out.s
  have s1 : w.heap.size < w3.heap.size := Nat.lt_of_succ_lt s2
  go_wp2
  refine bodyPost_ret (v := .agg #[.int .u32 (r 0), .int .u32 (r 1), .int .u32 (r 2), .int .u32 (r 3), .int .u32 (r 4), .int .u32 (r 5), .int .u32 (r 6), .int .u32 (r 7), .int .i64 p, .bool false]) (by simp [results, Try.results42, go_sem, z0, z1, z2, z3, z4, z5, z6, z7, z8, z9]) rfl ⟨rfl, ?_⟩
  exact below10 HC4.out.b (Nat.le_succ _) _ _ _ _ _ _ _ _ _ _

set_option maxHeartbeats 2000000 in
theorem done_makes (b off len cap n a : Nat) (l : List I5) (op bb cc k : Int) (r : Nat → Int) (was p v : Int) (w : World) (hl : l.length = len) (hp : Prg w (some ⟨b, off, none⟩) l) (hv : coreB l ⟨r, n, false⟩ = true) (hn : n < len) (hlen : len ≤ 64)
    (hlt : b < w.heap.size) (hx : Lies w b (off + n * 5) ⟨op, a, bb, cc, k⟩) (ha : a < 8) (hregs : Hid (0 ≤ bb ∧ bb < 8 ∧ 0 ≤ cc ∧ cc < 8)) (o16 : (op == 16) = false)
    (hp' : Hid (nextX ⟨op, a, bb, cc, k⟩ ⟨r, n, false⟩ = p)) (hv' : Hid (madeV ⟨op, a, bb, cc, k⟩ ⟨r, p, false⟩ was = v)) (hok : Hid (madeOk ⟨op, a, bb, cc, k⟩ = true)) (u : Nat → Int) (hu : Hid (∀ i, u i = if i = a then v else r i)) :
    Calls Try.prog 42 #[.slice (some ⟨b, off, none⟩) len cap, .agg #[.int .u32 (r 0), .int .u32 (r 1), .int .u32 (r 2), .int .u32 (r 3), .int .u32 (r 4), .int .u32 (r 5), .int .u32 (r 6), .int .u32 (r 7), .int .i64 n, .bool false], .int .u32 was] w fun e w' => e = .returned (.agg #[.int .u32 (u 0), .int .u32 (u 1), .int .u32 (u 2), .int .u32 (u 3), .int .u32 (u 4), .int .u32 (u 5), .int .u32 (u 6), .int .u32 (u 7), .int .i64 p, .bool false]) ∧ Below w.heap.size w w' := by
  have HL := Lib.hid hl
  have HP := Lib.hid hp
  have HV := Lib.hid hv
  have HX := Lib.hid hx
  clear hl hp hv hx
  go_enter Try.func42, Try.ntmps42
  go_wp2_with fail
  refine (core_call (some ⟨b, off, none⟩) len cap l ⟨r, n, false⟩ true w _ HL HV HP (((Below.refl _ _).alloc (Nat.le_refl _) _).alloc (by simp) _)).mono ?_
  rintro e w1 ⟨rfl, hb1⟩
  have HC : Hid (CoreAt w w.heap.size ⟨r, n, false⟩ w1) := (CoreAt.new w ⟨r, n, false⟩).below hb1
  clear hb1
  obtain ⟨x0, x1, x2, x3, x4, hk0, hk1⟩ := HX.out.below HC.out.b hlt
  have c0 : w1.cell? ⟨w.heap.size, 0, none⟩ = some (.int .u32 (r 0)) := HC.out.c 0
  have c1 : w1.cell? ⟨w.heap.size, 1, none⟩ = some (.int .u32 (r 1)) := HC.out.c 1
  have c2 : w1.cell? ⟨w.heap.size, 2, none⟩ = some (.int .u32 (r 2)) := HC.out.c 2
  have c3 : w1.cell? ⟨w.heap.size, 3, none⟩ = some (.int .u32 (r 3)) := HC.out.c 3
  have c4 : w1.cell? ⟨w.heap.size, 4, none⟩ = some (.int .u32 (r 4)) := HC.out.c 4
  have c5 : w1.cell? ⟨w.heap.size, 5, none⟩ = some (.int .u32 (r 5)) := HC.out.c 5
  have c6 : w1.cell? ⟨w.heap.size, 6, none⟩ = some (.int .u32 (r 6)) := HC.out.c 6
  have c7 : w1.cell? ⟨w.heap.size, 7, none⟩ = some (.int .u32 (r 7)) := HC.out.c 7
  have c8 : w1.cell? ⟨w.heap.size, 8, none⟩ = some (.int .i64 n) := HC.out.c 8
  have c9 : w1.cell? ⟨w.heap.size, 9, none⟩ = some (.bool false) := HC.out.c 9
  have s2 : w.heap.size + 1 < w1.heap.size := HC.out.s
  have s1 : w.heap.size < w1.heap.size := Nat.lt_of_succ_lt s2
  clear HX HL HP HV
  go_wp2_with fail
  have HN : Hid (Calls Try.prog 48 #[.agg #[.int .i64 op, .int .i64 a, .int .i64 bb, .int .i64 cc, .int .u32 k], .agg #[.int .u32 (r 0), .int .u32 (r 1), .int .u32 (r 2), .int .u32 (r 3), .int .u32 (r 4), .int .u32 (r 5), .int .u32 (r 6), .int .u32 (r 7), .int .i64 n, .bool false]] (w1.alloc (.cells #[.int .i64 op, .int .i64 a, .int .i64 bb, .int .i64 cc, .int .u32 k] 61)) fun e w' => e = .returned (.int .i64 p) ∧ Below (w1.alloc (.cells #[.int .i64 op, .int .i64 a, .int .i64 bb, .int .i64 cc, .int .u32 k] 61)).heap.size (w1.alloc (.cells #[.int .i64 op, .int .i64 a, .int .i64 bb, .int .i64 cc, .int .u32 k] 61)) w') := by
    have h := next_any ⟨op, a, bb, cc, k⟩ ⟨r, n, false⟩ (w1.alloc (.cells #[.int .i64 op, .int .i64 a, .int .i64 bb, .int .i64 cc, .int .u32 k] 61)) (by simp only; omega) (by simp only; omega) hk0 hk1 (by simp only; omega) (by simp only; omega)
    rw [hp'.out] at h
    exact h
  refine HN.out.mono ?_
  clear HN
  rintro e w2 ⟨rfl, hb2⟩
  have HC2 : Hid (CoreAt w w.heap.size ⟨r, n, false⟩ w2) := (HC.out.below ((Below.refl _ _).alloc (Nat.le_refl _) _)).below hb2
  have HX2 : Hid ((∀ j, w2.cell? ⟨w1.heap.size, j, none⟩ = (I5.row ⟨op, a, bb, cc, k⟩)[j]?) ∧ w1.heap.size < w2.heap.size) := by
    have e1 : (w1.alloc (.cells (I5.row ⟨op, a, bb, cc, k⟩) 61)).heap.size = w1.heap.size + 1 := World.size_alloc _ _
    refine ⟨fun j => ?_, ?_⟩
    · rw [hb2.cell (p := ⟨w1.heap.size, j, none⟩) (by show w1.heap.size < (w1.alloc (.cells (I5.row ⟨op, a, bb, cc, k⟩) 61)).heap.size; omega)]
      exact World.cell?_alloc_new w1 _ 61 j
    · have h : (w1.alloc (.cells (I5.row ⟨op, a, bb, cc, k⟩) 61)).heap.size ≤ w2.heap.size := hb2.size
      omega
  have S12 := Lib.hid s2
  clear hb2 HC x0 x1 x2 x3 x4 c0 c1 c2 c3 c4 c5 c6 c7 c8 c9 s1 s2
  have c0 : w2.cell? ⟨w.heap.size, 0, none⟩ = some (.int .u32 (r 0)) := HC2.out.c 0
  have c1 : w2.cell? ⟨w.heap.size, 1, none⟩ = some (.int .u32 (r 1)) := HC2.out.c 1
  have c2 : w2.cell? ⟨w.heap.size, 2, none⟩ = some (.int .u32 (r 2)) := HC2.out.c 2
  have c3 : w2.cell? ⟨w.heap.size, 3, none⟩ = some (.int .u32 (r 3)) := HC2.out.c 3
  have c4 : w2.cell? ⟨w.heap.size, 4, none⟩ = some (.int .u32 (r 4)) := HC2.out.c 4
  have c5 : w2.cell? ⟨w.heap.size, 5, none⟩ = some (.int .u32 (r 5)) := HC2.out.c 5
  have c6 : w2.cell? ⟨w.heap.size, 6, none⟩ = some (.int .u32 (r 6)) := HC2.out.c 6
  have c7 : w2.cell? ⟨w.heap.size, 7, none⟩ = some (.int .u32 (r 7)) := HC2.out.c 7
  have c8 : w2.cell? ⟨w.heap.size, 8, none⟩ = some (.int .i64 n) := HC2.out.c 8
  have c9 : w2.cell? ⟨w.heap.size, 9, none⟩ = some (.bool false) := HC2.out.c 9
  have y0 : w2.cell? ⟨w1.heap.size, 0, none⟩ = some (.int .i64 op) := HX2.out.1 0
  have y1 : w2.cell? ⟨w1.heap.size, 1, none⟩ = some (.int .i64 a) := HX2.out.1 1
  have y2 : w2.cell? ⟨w1.heap.size, 2, none⟩ = some (.int .i64 bb) := HX2.out.1 2
  have y3 : w2.cell? ⟨w1.heap.size, 3, none⟩ = some (.int .i64 cc) := HX2.out.1 3
  have y4 : w2.cell? ⟨w1.heap.size, 4, none⟩ = some (.int .u32 k) := HX2.out.1 4
  have s2 : w.heap.size + 1 < w2.heap.size := HC2.out.s
  have s1 : w.heap.size < w2.heap.size := Nat.lt_of_succ_lt s2
  have f8 : w2.frozen? ⟨w.heap.size, 8, none⟩ = false := HC2.out.f 8
  have d1 : w1.heap.size ≠ w.heap.size := by have := S12.out; omega
  go_wp2_with fail
  have HC3 : Hid (CoreAt w w.heap.size ⟨r, p, false⟩ (w2.setCell ⟨w.heap.size, 8, none⟩ (.int .i64 p))) := HC2.out.set (by omega) (fun j hj => row_pc r n p false j hj) rfl
  have HM : Hid (Calls Try.prog 49 #[.agg #[.int .i64 op, .int .i64 a, .int .i64 bb, .int .i64 cc, .int .u32 k], .agg #[.int .u32 (r 0), .int .u32 (r 1), .int .u32 (r 2), .int .u32 (r 3), .int .u32 (r 4), .int .u32 (r 5), .int .u32 (r 6), .int .u32 (r 7), .int .i64 p, .bool false], .int .u32 was] (w2.setCell ⟨w.heap.size, 8, none⟩ (.int .i64 p)) fun e w' => e = .returned (.tuple #[.int .u32 v, .bool true]) ∧ Below (w2.setCell ⟨w.heap.size, 8, none⟩ (.int .i64 p)).heap.size (w2.setCell ⟨w.heap.size, 8, none⟩ (.int .i64 p)) w') := by
    have h := made_any ⟨op, a, bb, cc, k⟩ ⟨r, p, false⟩ was (w2.setCell ⟨w.heap.size, 8, none⟩ (.int .i64 p)) ⟨by simp only; omega, by simp only; omega, hregs.out⟩
    rw [hv'.out, hok.out] at h
    exact h
  refine HM.out.mono ?_
  clear HM
  rintro e w3 ⟨rfl, hb3⟩
  have HC4 : Hid (CoreAt w w.heap.size ⟨r, p, false⟩ w3) := HC3.out.below hb3
  have y1' : w3.cell? ⟨w1.heap.size, 1, none⟩ = some (.int .i64 a) := by
    rw [hb3.cell (p := ⟨w1.heap.size, 1, none⟩) (by show w1.heap.size < (w2.setCell _ _).heap.size; simpa using HX2.out.2), World.cell?_setCell_other _ _ _ _ (by intro e; injection e with e1; exact d1 e1.symm)]
    exact y1
  clear hb3 HC2 HC3 c0 c1 c2 c3 c4 c5 c6 c7 c8 c9 y0 y1 y2 y3 y4 s1 s2 f8 HX2
  have HC5 : Hid (CoreAt w w.heap.size ⟨u, p, false⟩ (w3.setCell ⟨w.heap.size, a, none⟩ (.int .u32 v))) := by
    have e : (⟨u, p, false⟩ : Cor) = (⟨r, p, false⟩ : Cor).set a v := by unfold Cor.set; rw [show u = _ from funext hu.out]
    rw [e]
    exact HC4.out.set (by omega) (fun j hj => row_set ⟨r, p, false⟩ a v j hj) (row_set_same ⟨r, p, false⟩ a v ha)
  have ca : w3.cell? ⟨w.heap.size, a, none⟩ = some (.int .u32 (r a)) := (HC4.out.c a).trans (Cor.row_at ⟨r, p, false⟩ a ha)
  have fa : w3.frozen? ⟨w.heap.size, a, none⟩ = false := HC4.out.f a
  have e0 : (w3.setCell ⟨w.heap.size, a, none⟩ (.int .u32 v)).cell? ⟨w.heap.size, 0, none⟩ = some (.int .u32 (u 0)) := HC5.out.c 0
  have e1 : (w3.setCell ⟨w.heap.size, a, none⟩ (.int .u32 v)).cell? ⟨w.heap.size, 1, none⟩ = some (.int .u32 (u 1)) := HC5.out.c 1
  have e2 : (w3.setCell ⟨w.heap.size, a, none⟩ (.int .u32 v)).cell? ⟨w.heap.size, 2, none⟩ = some (.int .u32 (u 2)) := HC5.out.c 2
  have e3 : (w3.setCell ⟨w.heap.size, a, none⟩ (.int .u32 v)).cell? ⟨w.heap.size, 3, none⟩ = some (.int .u32 (u 3)) := HC5.out.c 3
  have e4 : (w3.setCell ⟨w.heap.size, a, none⟩ (.int .u32 v)).cell? ⟨w.heap.size, 4, none⟩ = some (.int .u32 (u 4)) := HC5.out.c 4
  have e5 : (w3.setCell ⟨w.heap.size, a, none⟩ (.int .u32 v)).cell? ⟨w.heap.size, 5, none⟩ = some (.int .u32 (u 5)) := HC5.out.c 5
  have e6 : (w3.setCell ⟨w.heap.size, a, none⟩ (.int .u32 v)).cell? ⟨w.heap.size, 6, none⟩ = some (.int .u32 (u 6)) := HC5.out.c 6
  have e7 : (w3.setCell ⟨w.heap.size, a, none⟩ (.int .u32 v)).cell? ⟨w.heap.size, 7, none⟩ = some (.int .u32 (u 7)) := HC5.out.c 7
  have e8 : (w3.setCell ⟨w.heap.size, a, none⟩ (.int .u32 v)).cell? ⟨w.heap.size, 8, none⟩ = some (.int .i64 p) := HC5.out.c 8
  have e9 : (w3.setCell ⟨w.heap.size, a, none⟩ (.int .u32 v)).cell? ⟨w.heap.size, 9, none⟩ = some (.bool false) := HC5.out.c 9
  have z0 : w3.cell? ⟨w.heap.size + 1, 0, none⟩ = some (.int .u32 0) := HC4.out.z 0
  have g0 : w3.frozen? ⟨w.heap.size + 1, 0, none⟩ = false := HC4.out.g 0
  have z1 : w3.cell? ⟨w.heap.size + 1, 1, none⟩ = some (.int .u32 0) := HC4.out.z 1
  have g1 : w3.frozen? ⟨w.heap.size + 1, 1, none⟩ = false := HC4.out.g 1
  have z2 : w3.cell? ⟨w.heap.size + 1, 2, none⟩ = some (.int .u32 0) := HC4.out.z 2
  have g2 : w3.frozen? ⟨w.heap.size + 1, 2, none⟩ = false := HC4.out.g 2
  have z3 : w3.cell? ⟨w.heap.size + 1, 3, none⟩ = some (.int .u32 0) := HC4.out.z 3
  have g3 : w3.frozen? ⟨w.heap.size + 1, 3, none⟩ = false := HC4.out.g 3
  have z4 : w3.cell? ⟨w.heap.size + 1, 4, none⟩ = some (.int .u32 0) := HC4.out.z 4
  have g4 : w3.frozen? ⟨w.heap.size + 1, 4, none⟩ = false := HC4.out.g 4
  have z5 : w3.cell? ⟨w.heap.size + 1, 5, none⟩ = some (.int .u32 0) := HC4.out.z 5
  have g5 : w3.frozen? ⟨w.heap.size + 1, 5, none⟩ = false := HC4.out.g 5
  have z6 : w3.cell? ⟨w.heap.size + 1, 6, none⟩ = some (.int .u32 0) := HC4.out.z 6
  have g6 : w3.frozen? ⟨w.heap.size + 1, 6, none⟩ = false := HC4.out.g 6
  have z7 : w3.cell? ⟨w.heap.size + 1, 7, none⟩ = some (.int .u32 0) := HC4.out.z 7
  have g7 : w3.frozen? ⟨w.heap.size + 1, 7, none⟩ = false := HC4.out.g 7
  have z8 : w3.cell? ⟨w.heap.size + 1, 8, none⟩ = some (.int .i64 0) := HC4.out.z 8
  have g8 : w3.frozen? ⟨w.heap.size + 1, 8, none⟩ = false := HC4.out.g 8
  have z9 : w3.cell? ⟨w.heap.size + 1, 9, none⟩ = some (.bool false) := HC4.out.z 9
  have g9 : w3.frozen? ⟨w.heap.size + 1, 9, none⟩ = false := HC4.out.g 9
  have s2 : w.heap.size + 1 < w3.heap.size := HC4.out.s
  have s1 : w.heap.size < w3.heap.size := Nat.lt_of_succ_lt s2
  clear HC4
  go_wp2
  refine bodyPost_ret (v := .agg #[.int .u32 (u 0), .int .u32 (u 1), .int .u32 (u 2), .int .u32 (u 3), .int .u32 (u 4), .int .u32 (u 5), .int .u32 (u 6), .int .u32 (u 7), .int .i64 p, .bool false]) (by simp [results, Try.results42, go_sem, z0, z1, z2, z3, z4, z5, z6, z7, z8, z9]) rfl ⟨rfl, ?_⟩
  exact below10 HC5.out.b (Nat.le_succ _) _ _ _ _ _ _ _ _ _ _

theorem ret_core {a b : Cor} (h : a = b) : Ending.returned (.agg a.row) = .returned (.agg b.row) := by rw [h]

theorem done_any (p : Option Addr) (cap : Nat) (l : List I5) (c : Cor) (was : Int) (w : World) (hp : Prg w p l) :
    Calls Try.prog 42 #[.slice p l.length cap, .agg c.row, .int .u32 was] w fun e w' => e = .returned (.agg (doneOf l c was).row) ∧ Below w.heap.size w w' := by
  obtain ⟨r, pc, h⟩ := c
  cases h with
  | true =>
    refine (done_halted p _ cap r pc was w).mono fun e w' he => ⟨he.1.trans (ret_core (a := ⟨r, pc, true⟩) ?_), he.2⟩
    unfold doneOf; rfl
  | false =>
    cases hr : coreB l ⟨r, pc, false⟩ with
    | false =>
      refine (done_wrong p _ cap l r pc was w rfl hp hr).mono fun e w' he => ⟨he.1.trans (ret_core (a := ⟨r, pc, false⟩) ?_), he.2⟩
      unfold doneOf; rw [hr]; rfl
    | true =>
      obtain ⟨h0, h1, h2⟩ := core_has hr
      simp only at h0 h1
      obtain ⟨n, rfl⟩ := Int.eq_ofNat_of_zero_le h0
      have hlen := right_has h2
      obtain ⟨b, off, hlt, rfl, hx⟩ := hp (by omega)
      have hn : n < l.length := by omega
      have hxn := hx n hn
      have hm := may_regs (core_ins hr)
      have hins : insAt l ⟨r, n, false⟩ = at5 l n := rfl
      have hD : doneOf l ⟨r, n, false⟩ was = doneX (at5 l n) ⟨r, n, false⟩ was := by unfold doneOf; rw [hr]; rfl
      rw [hins] at hm
      rw [hD]
      obtain ⟨op, a, bb, cc, k, hat⟩ : ∃ op a bb cc k, at5 l n = ⟨op, a, bb, cc, k⟩ := ⟨_, _, _, _, _, rfl⟩
      rw [hat] at hxn hm ⊢
      simp only at hm
      obtain ⟨na, rfl⟩ := Int.eq_ofNat_of_zero_le hm.1
      by_cases o16 : op = 16
      · subst o16
        exact (done_stop b off _ cap n l na bb cc k r was w rfl hp hr hn hlen.2.1 hlt hxn).mono fun e w' he => ⟨he.1.trans (ret_core (a := ⟨r, n, true⟩) rfl), he.2⟩
      · cases ho : madeOk ⟨op, na, bb, cc, k⟩ with
        | false =>
          refine (done_plain b off _ cap n na l op bb cc k r was _ _ w rfl hp hr hn hlen.2.1 hlt hxn (by omega) ⟨hm.2.2.1, hm.2.2.2.1, hm.2.2.2.2.1, hm.2.2.2.2.2.1⟩ (by simpa using o16) rfl rfl ho).mono fun e w' he => ⟨he.1.trans (ret_core (a := ⟨r, nextX ⟨op, na, bb, cc, k⟩ ⟨r, n, false⟩, false⟩) ?_), he.2⟩
          unfold doneX; rw [if_neg o16, ho]; rfl
        | true =>
          refine (done_makes b off _ cap n na l op bb cc k r was _ _ w rfl hp hr hn hlen.2.1 hlt hxn (by omega) ⟨hm.2.2.1, hm.2.2.2.1, hm.2.2.2.2.1, hm.2.2.2.2.2.1⟩ (by simpa using o16) rfl rfl ho (fun i => if i = na then madeV ⟨op, na, bb, cc, k⟩ ⟨r, n, false⟩ was else r i) (fun i => rfl)).mono fun e w' he => ⟨he.1.trans (ret_core (a := ⟨fun i => if i = na then madeV ⟨op, na, bb, cc, k⟩ ⟨r, n, false⟩ was else r i, nextX ⟨op, na, bb, cc, k⟩ ⟨r, n, false⟩, false⟩) ?_), he.2⟩
          unfold doneX; rw [if_neg o16, ho]; rfl
end Go.Proofs.Ytekiialhljfglaa
/- A region that draws its order, of which a plan is given: reads that hold wherever S does, taken first; calls that come alone, one behind the other; and an end in one forced order. No program in sight. -/
namespace Go.Proofs.Ytekiialhljfglaa
set_option linter.unusedVariables false

section
variable {P : Program} {ops : Array Oper} {md : Region.Mode} {Q : Exit → Act → World → Prop} {S : World → Prop}

def anyHL (P : Program) (md : Region.Mode) (ops : Array Oper) (Q : Exit → Act → World → Prop) (S : World → Prop) (n : Nat) (L : Array Bool → Act → World → Prop) : Nat → Array Bool → Act → World → Prop
  | 0, listed, a, w => L listed a w
  | f + 1, listed, a, w => Region.ready md ops listed ≠ [] ∧ ∀ i ∈ Region.ready md ops listed, i < n ∧ wpOp P ops Q i (fun a' w' => S w' ∧ anyHL P md ops Q S n L f (listed.setIfInBounds i true) a' w') a w

theorem wpOp_np {i : Nat} {K : Act → World → Prop} {a : Act} {w : World} (h : wpOp P ops (NoPanic Q) i K a w) : wpOp P ops Q i K a w := by
  unfold wpOp at *
  split
  · simpa [*] using h
  · rename_i o ho
    simp only [ho] at h
    split
    · rename_i hw
      simp only [hw, if_true] at h
      rcases h with h | ⟨h1, h2⟩
      · left
        unfold Oper.wp at *
        generalize (execOp a.eval o).run P w = r at *
        cases r with
        | ok n w' =>
          cases n <;> simp only [Oper.upon] at h ⊢
          case value u => exact h
          case skip => exact h
          case defer d => exact h
          case enter f args =>
            refine Calls.mono h fun e w'' he => ?_
            cases e with
            | returned u => exact he
            | panicked c => exact (he : False).elim
            | outgrown => obtain ⟨a0, w0, h0⟩ := he; exact ⟨a0, w0, h0⟩
          case row row args => exact h
        | halt x w' => cases x <;> simp only [Oper.upon] at h ⊢; exact (h : False).elim
      · right
        obtain ⟨a0, w0, h0⟩ := h2
        exact ⟨h1, a0, w0, h0⟩
    · rename_i hw
      simpa [hw] using h

theorem any_of_headH {n g : Nat} {L : Array Bool → Act → World → Prop} (hL : ∀ listed a w, L listed a w → wpAny P md ops Q g listed a w) :
    ∀ (f : Nat) (listed : Array Bool) (a : Act) (w : World), anyHL P md ops (NoPanic Q) S n L f listed a w → wpAny P md ops Q (f + g) listed a w
  | 0, listed, a, w, h => by rw [Nat.zero_add]; exact hL _ _ _ h
  | f + 1, listed, a, w, h => by
    rw [show f + 1 + g = (f + g) + 1 by omega]
    exact ⟨fun h0 => absurd h0 h.1, fun i hi => wpOp_np (wpOp_mono (fun a' w' h' => any_of_headH hL f _ a' w' h'.2) (h.2 i hi).2)⟩

theorem anyHL_first {n i : Nat} {oi : Oper} {v : Value} {L : Array Bool → Act → World → Prop} (hi : ops[i]? = some oi) (hsel : ∀ (j : Nat) (o : Oper) cs b, ops[j]? = some o → o.op ≠ .select cs b)
    (hs : Region.sinkB md ops n = true) (hc : Region.chainB md ops n = true) (hn : n < ops.size) (hin : i < n) (hQ : ∀ c a w, Q (.panic c) (a.put oi.dst v) w → Q (.panic c) a w)
    (hdone : ∀ listed a w, L listed a w → ∀ j ∈ Region.ready md ops listed, n ≤ j) :
    ∀ (f : Nat) (listed : Array Bool) (a : Act) (w : World), HeadInv md ops n listed →
      (∀ j oj, ops[j]? = some oj → j ≠ i → listed.getD j true = false → (∀ e ∈ oj.after, Region.binds md e = true → e.on ≠ i) → oi.apart ops oj = true) →
      i ∈ Region.ready md ops listed → YieldsIf P ops S oi v a → S w →
      anyHL P md ops Q S n L f (listed.setIfInBounds i true) (a.put oi.dst v) w → anyHL P md ops Q S n L (f + 1) listed a w := by
  intro f
  induction f with
  | zero =>
    intro listed a w inv _ hr hy hS H
    have hun := (mem_ready.1 hr).1
    refine ⟨fun h => (by rw [h] at hr; cases hr), fun j hj => ?_⟩
    have hjn : j < n := by
      rcases Nat.lt_or_ge j n with h | h
      · exact h
      · exact absurd hj (tail_waits hs hc hn inv _ i rfl hin hun j h)
    refine ⟨hjn, ?_⟩
    by_cases hji : j = i
    · subst hji; exact hy.wpOp hi hS ⟨hS, H⟩
    · have := hdone _ _ _ H j (ready_mono hj hji)
      omega
  | succ f ih =>
    intro listed a w inv hfree hr hy hS H
    have hun := (mem_ready.1 hr).1
    refine ⟨fun h => (by rw [h] at hr; cases hr), fun j hj => ?_⟩
    have hjn : j < n := by
      rcases Nat.lt_or_ge j n with h | h
      · exact h
      · exact absurd hj (tail_waits hs hc hn inv _ i rfl hin hun j h)
    refine ⟨hjn, ?_⟩
    by_cases hji : j = i
    · subst hji; exact hy.wpOp hi hS ⟨hS, H⟩
    · have h1 := (H.2 j (ready_mono hj hji)).2
      obtain ⟨hjun, oj, hoj, hall⟩ := mem_ready.1 hj
      have hnot : ∀ e ∈ oj.after, Region.binds md e = true → e.on ≠ i := fun e he hb heq => by
        have h1 := hall e he hb
        rw [heq, getD_both hun] at h1
        cases h1
      have h2 := wpOp_putIf hoj (hfree j oj hoj hji hjun hnot) (fun cs b => hsel i oi cs b hi) (fun cs b => hsel j oj cs b hoj) hQ hy h1
      have hfree' : ∀ k ok, ops[k]? = some ok → k ≠ i → (listed.setIfInBounds j true).getD k true = false →
          (∀ e ∈ ok.after, Region.binds md e = true → e.on ≠ i) → oi.apart ops ok = true := fun k ok hk hki hun hno => by
        refine hfree k ok hk hki ?_ hno
        by_cases hjk : j = k
        · subst hjk; exact hjun
        · rw [getD_set_ne true hjk] at hun; exact hun
      refine wpOp_mono (fun a' w' h3 => ⟨h3.2.1, ih (listed.setIfInBounds j true) a' w' (inv.set hj hjn) hfree' (ready_mono hr (Ne.symm hji)) h3.1 h3.2.1 ?_⟩) h2
      rw [Array.setIfInBounds_comm _ _ hji]
      exact h3.2.2

/-- The plan's places: true: a read, taken first; false: what comes alone. -/
def planB (md : Region.Mode) (ops : Array Oper) (g n : Nat) : List (Nat × Bool) → Array Bool → Bool
  | [], listed => Region.seqB md ops g n listed
  | (i, true) :: r, listed => (Region.ready md ops listed).contains i && Region.free md ops listed i && decide (i < n) && planB md ops g n r (listed.setIfInBounds i true)
  | (i, false) :: r, listed => decide (Region.ready md ops listed = [i]) && decide (i < n) && planB md ops g n r (listed.setIfInBounds i true)
def planOk (ops : Array Oper) (n : Nat) (plan : List (Nat × Bool)) : Bool :=
  Region.noSelect ops && decide (n < ops.size) && Region.sinkB .any ops n && Region.chainB .any ops n && decide (plan.length = n) && planB .any ops (ops.size - n) n plan (Array.replicate ops.size false)

def wpPlan (P : Program) (ops : Array Oper) (Q : Exit → Act → World → Prop) (S : World → Prop) (K : Act → World → Prop) : List (Nat × Bool) → Act → World → Prop
  | [], a, w => K a w
  | (i, true) :: r, a, w => ∃ o v, ops[i]? = some o ∧ YieldsIf P ops S o v a ∧ wpPlan P ops Q S K r (a.put o.dst v) w
  | (i, false) :: r, a, w => wpOp P ops Q i (fun a' w' => S w' ∧ wpPlan P ops Q S K r a' w') a w

theorem anyHL_plan {n g : Nat} {K : Act → World → Prop} (hsel : Region.noSelect ops = true) (hs : Region.sinkB md ops n = true) (hc : Region.chainB md ops n = true) (hn : n < ops.size) (hQ : ∀ d v c a w, Q (.panic c) (a.put d v) w → Q (.panic c) a w) :
    ∀ (l : List (Nat × Bool)) (listed : Array Bool) (a : Act) (w : World), HeadInv md ops n listed → planB md ops g n l listed = true → S w → wpPlan P ops Q S K l a w →
      anyHL P md ops Q S n (fun listed' a' w' => Region.seqB md ops g n listed' = true ∧ K a' w') l.length listed a w
  | [], listed, a, w, _, hB, _, h => ⟨hB, h⟩
  | (i, true) :: l, listed, a, w, inv, hB, hS, h => by
    simp only [planB, Bool.and_eq_true, decide_eq_true_eq] at hB
    obtain ⟨⟨⟨hr, hf⟩, hin⟩, hB'⟩ := hB
    obtain ⟨o, v, ho, hy, hK⟩ := h
    have hr' : i ∈ Region.ready md ops listed := by simpa using hr
    exact anyHL_first ho (Region.noSelect_spec hsel) hs hc hn hin (fun c a w => hQ _ _ c a w) (fun listed' a' w' hL => seqB_ready hL.1) l.length listed a w inv (Region.free_spec ho hf) hr' hy hS
      (anyHL_plan hsel hs hc hn hQ l _ _ w (inv.set hr' hin) hB' hS hK)
  | (i, false) :: l, listed, a, w, inv, hB, hS, h => by
    simp only [planB, Bool.and_eq_true, decide_eq_true_eq] at hB
    obtain ⟨⟨hr, hin⟩, hB'⟩ := hB
    have hr' : i ∈ Region.ready md ops listed := by rw [hr]; exact List.mem_singleton.2 rfl
    refine ⟨by rw [hr]; simp, fun j hj => ?_⟩
    rw [hr] at hj
    have hji : j = i := by simpa using hj
    subst hji
    exact ⟨hin, wpOp_mono (fun a' w' h' => ⟨h'.1, anyHL_plan hsel hs hc hn hQ l _ a' w' (inv.set hr' hin) hB' h'.1 h'.2⟩) h⟩

/-- A region by its plan. -/
theorem region_plan {id : Nat} {a : Act} {w : World} {l : List Oper} (S : World → Prop) (n : Nat) (plan : List (Nat × Bool)) (hm : P.follows .mixedOrders = true) (hB : planOk l.toArray n plan = true) (hS : S w.drew)
    (h : wpPlan P l.toArray (NoPanic Q) S (fun a' w' => wpList P l.toArray Q (l.drop n) a' w') plan a w.drew) : (Code.region id l.toArray true).wp P Q a w := by
  simp only [planOk, Bool.and_eq_true, decide_eq_true_eq] at hB
  obtain ⟨⟨⟨⟨⟨hsel, hn⟩, hs⟩, hc⟩, hlen⟩, hplan⟩ := hB
  have hn' : n < l.length := by simpa using hn
  have hdl : (l.drop n).length = l.toArray.size - n := by simp
  have inv0 : HeadInv .any l.toArray n (Array.replicate l.toArray.size false) :=
    ⟨by simp, fun j oj _ hl => (by rw [getD_replicate_false] at hl; cases hl), fun t _ ht => getD_in (by simpa using ht) (getD_replicate_false _ _)⟩
  have H := anyHL_plan (P := P) (Q := NoPanic Q) (S := S) hsel hs hc hn (fun _ _ _ _ _ h => h) plan _ a w.drew inv0 hplan hS h
  refine wp_region_any hm ?_
  have := any_of_headH (Q := Q) (g := l.toArray.size - n) (fun listed a' w' hL => by
    have := wpAny_of_seq (md := .any) (Q' := Q) (l.drop n) n listed a' w' (fun j => by simp [List.getElem?_drop]) (by rw [hdl]; exact hL.1) hL.2
    rwa [hdl] at this) _ _ _ _ H
  rw [hlen, show n + (l.toArray.size - n) = l.toArray.size by omega] at this
  exact this

theorem plan_read {K : Act → World → Prop} {i : Nat} {r : List (Nat × Bool)} {a : Act} {w : World} {o : Oper} {v : Value} (ho : ops[i]? = some o) (hw : Region.wanted o (yielded ops a.tmps) = true) (hy : ∀ w, S w → (execOp a.eval o).run P w = .ok (.value v) w) (h : wpPlan P ops Q S K r (a.put o.dst v) w) : wpPlan P ops Q S K ((i, true) :: r) a w :=
  ⟨o, v, ho, .inl ⟨hw, hy⟩, h⟩
theorem plan_call {K : Act → World → Prop} {i : Nat} {r : List (Nat × Bool)} {a : Act} {w : World} {o : Oper} {F : FuncId} {args : Array Value} (ho : ops[i]? = some o) (hw : Region.wanted o (yielded ops a.tmps) = true) (hr : (execOp a.eval o).run P w = .ok (.enter F args) w)
    (h : Calls P F args w fun e w' => ∃ u, e = .returned u ∧ S w' ∧ wpPlan P ops Q S K r (a.put o.dst u) w') : wpPlan P ops Q S K ((i, false) :: r) a w := by
  show wpOp P ops Q i _ a w
  unfold wpOp
  simp only [ho, hw, if_true, Oper.wp, hr, Oper.upon]
  left
  refine Calls.mono h fun e w' he => ?_
  obtain ⟨u, rfl, hS, hK⟩ := he
  exact ⟨hS, hK⟩
theorem plan_nil {K : Act → World → Prop} {a : Act} {w : World} (h : K a w) : wpPlan P ops Q S K [] a w := h
end
end Go.Proofs.Ytekiialhljfglaa
/- What atom.step makes of a machine that is its own. -/
namespace Go.Proofs.Ytekiialhljfglaa
set_option linter.unusedVariables false
open Go.ChangeShapes Go.WideShapes Go.ChangeAt Go.RowKit

theorem below_grown {w w' : World} (hb : Below w.heap.size w w') (row : Option Nat) : w.grownBy w' row := ⟨hb.os, hb.tape, hb.output, hb.size, fun k hk _ => hb.block k hk⟩
theorem own_below {w w' : World} {base : Nat} {e : TypeId} {size : Nat} {v : Value} {n : Nat} {xs : List Value} (h : w.ownsRow base e size v n xs) (hb : Below w.heap.size w w') : w'.ownsRow base e size v n xs :=
  h.kept (below_grown hb none) (by cases v.ownBlock <;> simp)
theorem OwnM.below {w w' : World} {base : Nat} {vm vc vo : Value} {a : Atm} (h : OwnM w base vm vc vo a) (hb : Below w.heap.size w w') : OwnM w' base vm vc vo a := ⟨own_below h.m hb, own_below h.c hb, own_below h.o hb⟩
theorem own_diff {w : World} {b1 b2 : Nat} {e1 e2 : TypeId} {s1 s2 : Nat} {v1 v2 : Value} {n1 n2 : Nat} {x1 x2 : List Value} (h1 : w.ownsRow b1 e1 s1 v1 n1 x1) (h2 : w.ownsRow b2 e2 s2 v2 n2 x2) (hne : e1 ≠ e2) : v1.ownBlock = none ∨ v1.ownBlock ≠ v2.ownBlock := by
  obtain ⟨_, ⟨rfl, _⟩ | ⟨g, cap, cur, rfl, _, hg, _⟩⟩ := h1
  · exact .inl rfl
  · right
    obtain ⟨_, ⟨rfl, _⟩ | ⟨g2, cap2, cur2, rfl, _, hg2, _⟩⟩ := h2
    · intro e; cases e
    · intro e
      injection e with e
      have e' : g = g2 := e
      rw [e', hg2] at hg
      injection hg with hg
      injection hg with _ ht
      exact hne ht.symm
theorem Blk.grown {w w' : World} {B : Nat} {cs : Array Value} {row : Option Nat} (h : Blk w B cs) (hg : w.grownBy w' row) (hne : row ≠ some B) : Blk w' B cs := by
  have e := hg.block B h.lt (fun e => hne e.symm)
  refine ⟨Nat.lt_of_lt_of_le h.lt hg.size, fun j => ?_, fun j => ?_⟩
  · rw [← h.c j]; unfold World.cell?; rw [e]
  · rw [← h.f j]; unfold World.frozen?; rw [e]
theorem own_diff_set {w : World} {base : Nat} {e : TypeId} {size : Nat} {v : Value} {n : Nat} {xs : List Value} {g j : Nat} {u : Value} (h : w.ownsRow base e size v n xs) (hne : v.ownBlock = none ∨ v.ownBlock ≠ some g) : (w.setCell ⟨g, j, none⟩ u).ownsRow base e size v n xs :=
  h.kept (grown_set (World.grownBy.refl _ _) j u) hne

/-- Of the blocks of w only those of R may hold something else in w'. -/
structure Chg (R : Nat → Prop) (w w' : World) : Prop where
  os : w'.os = w.os
  tape : w'.tape = w.tape
  output : w'.output = w.output
  size : w.heap.size ≤ w'.heap.size
  block : ∀ k, k < w.heap.size → ¬ R k → w'.heap[k]? = w.heap[k]?
theorem Chg.refl (R : Nat → Prop) (w : World) : Chg R w w := ⟨rfl, rfl, rfl, Nat.le_refl _, fun _ _ _ => rfl⟩
theorem Chg.step {R : Nat → Prop} {a w w' : World} {row : Option Nat} (h : Chg R a w) (hg : w.grownBy w' row) (hr : ∀ k, row = some k → R k ∨ a.heap.size ≤ k) : Chg R a w' :=
  ⟨hg.os.trans h.os, hg.tape.trans h.tape, hg.output.trans h.output, Nat.le_trans h.size hg.size, fun k hk hR => (hg.block k (Nat.lt_of_lt_of_le hk h.size) (fun e => by
    rcases hr k e.symm with h1 | h1
    · exact hR h1
    · omega)).trans (h.block k hk hR)⟩
theorem Chg.more {R : Nat → Prop} {a w w' : World} (h : Chg R a w) (hb : Below w.heap.size w w') : Chg R a w' := h.step (below_grown hb none) (fun k hk => by cases hk)
theorem Chg.alloc {R : Nat → Prop} {a w : World} (h : Chg R a w) (o : Obj) : Chg R a (w.alloc o) := h.more ((Below.refl _ _).alloc (Nat.le_refl _) _)
theorem Chg.set {R : Nat → Prop} {a w : World} {B j : Nat} {v : Value} (h : Chg R a w) (hB : R B ∨ a.heap.size ≤ B) : Chg R a (w.setCell ⟨B, j, none⟩ v) := h.step (grown_set (World.grownBy.refl _ _) j v) (fun k hk => by rw [← Option.some.inj hk]; exact hB)
theorem Chg.trans {R : Nat → Prop} {a b c : World} (h : Chg R a b) (k : Chg R b c) : Chg R a c :=
  ⟨k.os.trans h.os, k.tape.trans h.tape, k.output.trans h.output, Nat.le_trans h.size k.size, fun i hi hR => (k.block i (Nat.lt_of_lt_of_le hi h.size) hR).trans (h.block i hi hR)⟩
theorem Chg.below {R : Nat → Prop} {W0 w w' : World} (h : Chg R w w') (hb : Below W0.heap.size W0 w) (hR : ∀ k, R k → W0.heap.size ≤ k) : Below W0.heap.size W0 w' :=
  hb.trans ⟨h.os, h.tape, h.output, h.size, fun k hk => h.block k (Nat.lt_of_lt_of_le hk hb.size) (fun hr => by have := hR k hr; omega)⟩
def rows3 (v1 v2 v3 : Value) (k : Nat) : Prop := v1.ownBlock = some k ∨ v2.ownBlock = some k ∨ v3.ownBlock = some k
theorem OwnM.rows {w : World} {base : Nat} {vm vc vo : Value} {a : Atm} (h : OwnM w base vm vc vo a) : ∀ k, rows3 vm vc vo k → base ≤ k ∧ k < w.heap.size := fun k hk => by
  rcases hk with hk | hk | hk
  · exact h.m.lt k hk
  · exact h.c.lt k hk
  · exact h.o.lt k hk

theorem sStep {W1 w' : World} {b off n B gc m : Nat} {q : Option Addr} {qc : Nat} {bs : Array Value} {c : Cor} (h1 : Hid (W1.cell? ⟨b, off + n, none⟩ = some (.slice q m qc))) (h2 : Hid (Blk W1 B bs)) (h3 : Hid (W1.cell? ⟨gc, n * 10, none⟩ = some (.int .u32 (c.r 0)) ∧ W1.cell? ⟨gc, n * 10 + 1, none⟩ = some (.int .u32 (c.r 1)) ∧ W1.cell? ⟨gc, n * 10 + 2, none⟩ = some (.int .u32 (c.r 2)) ∧ W1.cell? ⟨gc, n * 10 + 3, none⟩ = some (.int .u32 (c.r 3)) ∧ W1.cell? ⟨gc, n * 10 + 4, none⟩ = some (.int .u32 (c.r 4)) ∧ W1.cell? ⟨gc, n * 10 + 5, none⟩ = some (.int .u32 (c.r 5)) ∧ W1.cell? ⟨gc, n * 10 + 6, none⟩ = some (.int .u32 (c.r 6)) ∧ W1.cell? ⟨gc, n * 10 + 7, none⟩ = some (.int .u32 (c.r 7)) ∧ W1.cell? ⟨gc, n * 10 + 8, none⟩ = some (.int .i64 c.pc) ∧ W1.cell? ⟨gc, n * 10 + 9, none⟩ = some (.bool c.h))) (l1 : Hid (b < W1.heap.size)) (l3 : Hid (gc < W1.heap.size)) (hb : Below W1.heap.size W1 w') :
    w'.cell? ⟨b, off + n, none⟩ = some (.slice q m qc) ∧ (∀ j, w'.cell? ⟨B, j, none⟩ = bs[j]?) ∧ (w'.cell? ⟨gc, n * 10, none⟩ = some (.int .u32 (c.r 0)) ∧ w'.cell? ⟨gc, n * 10 + 1, none⟩ = some (.int .u32 (c.r 1)) ∧ w'.cell? ⟨gc, n * 10 + 2, none⟩ = some (.int .u32 (c.r 2)) ∧ w'.cell? ⟨gc, n * 10 + 3, none⟩ = some (.int .u32 (c.r 3)) ∧ w'.cell? ⟨gc, n * 10 + 4, none⟩ = some (.int .u32 (c.r 4)) ∧ w'.cell? ⟨gc, n * 10 + 5, none⟩ = some (.int .u32 (c.r 5)) ∧ w'.cell? ⟨gc, n * 10 + 6, none⟩ = some (.int .u32 (c.r 6)) ∧ w'.cell? ⟨gc, n * 10 + 7, none⟩ = some (.int .u32 (c.r 7)) ∧ w'.cell? ⟨gc, n * 10 + 8, none⟩ = some (.int .i64 c.pc) ∧ w'.cell? ⟨gc, n * 10 + 9, none⟩ = some (.bool c.h)) ∧ Below W1.heap.size W1 w' :=
  ⟨(hb.cell (p := ⟨b, off + n, none⟩) l1.out).trans h1.out, (h2.out.below hb).c, ⟨(hb.cell (p := ⟨gc, n * 10, none⟩) l3.out).trans h3.out.1, (hb.cell (p := ⟨gc, n * 10 + 1, none⟩) l3.out).trans h3.out.2.1, (hb.cell (p := ⟨gc, n * 10 + 2, none⟩) l3.out).trans h3.out.2.2.1, (hb.cell (p := ⟨gc, n * 10 + 3, none⟩) l3.out).trans h3.out.2.2.2.1, (hb.cell (p := ⟨gc, n * 10 + 4, none⟩) l3.out).trans h3.out.2.2.2.2.1, (hb.cell (p := ⟨gc, n * 10 + 5, none⟩) l3.out).trans h3.out.2.2.2.2.2.1, (hb.cell (p := ⟨gc, n * 10 + 6, none⟩) l3.out).trans h3.out.2.2.2.2.2.2.1, (hb.cell (p := ⟨gc, n * 10 + 7, none⟩) l3.out).trans h3.out.2.2.2.2.2.2.2.1, (hb.cell (p := ⟨gc, n * 10 + 8, none⟩) l3.out).trans h3.out.2.2.2.2.2.2.2.2.1, (hb.cell (p := ⟨gc, n * 10 + 9, none⟩) l3.out).trans h3.out.2.2.2.2.2.2.2.2.2⟩, hb⟩

theorem sStep' {W1 w' : World} {b off n B gc m : Nat} {q : Option Addr} {qc : Nat} {bs : Array Value} {c : Cor} (h1 : Hid (W1.cell? ⟨b, off + n, none⟩ = some (.slice q m qc))) (h2 : Hid (Blk W1 B bs)) (h3 : Hid (W1.cell? ⟨gc, n * 10, none⟩ = some (.int .u32 (c.r 0)) ∧ W1.cell? ⟨gc, n * 10 + 1, none⟩ = some (.int .u32 (c.r 1)) ∧ W1.cell? ⟨gc, n * 10 + 2, none⟩ = some (.int .u32 (c.r 2)) ∧ W1.cell? ⟨gc, n * 10 + 3, none⟩ = some (.int .u32 (c.r 3)) ∧ W1.cell? ⟨gc, n * 10 + 4, none⟩ = some (.int .u32 (c.r 4)) ∧ W1.cell? ⟨gc, n * 10 + 5, none⟩ = some (.int .u32 (c.r 5)) ∧ W1.cell? ⟨gc, n * 10 + 6, none⟩ = some (.int .u32 (c.r 6)) ∧ W1.cell? ⟨gc, n * 10 + 7, none⟩ = some (.int .u32 (c.r 7)) ∧ W1.cell? ⟨gc, n * 10 + 8, none⟩ = some (.int .i64 c.pc) ∧ W1.cell? ⟨gc, n * 10 + 9, none⟩ = some (.bool c.h))) (l1 : Hid (b < W1.heap.size)) (l3 : Hid (gc < W1.heap.size)) (hb : Below W1.heap.size W1 w') :
    w'.cell? ⟨b, off + n, none⟩ = some (.slice q m qc) ∧ (∀ j, w'.cell? ⟨B, j, none⟩ = bs[j]?) ∧ w'.cell? ⟨gc, n * 10, none⟩ = some (.int .u32 (c.r 0)) ∧ w'.cell? ⟨gc, n * 10 + 1, none⟩ = some (.int .u32 (c.r 1)) ∧ w'.cell? ⟨gc, n * 10 + 2, none⟩ = some (.int .u32 (c.r 2)) ∧ w'.cell? ⟨gc, n * 10 + 3, none⟩ = some (.int .u32 (c.r 3)) ∧ w'.cell? ⟨gc, n * 10 + 4, none⟩ = some (.int .u32 (c.r 4)) ∧ w'.cell? ⟨gc, n * 10 + 5, none⟩ = some (.int .u32 (c.r 5)) ∧ w'.cell? ⟨gc, n * 10 + 6, none⟩ = some (.int .u32 (c.r 6)) ∧ w'.cell? ⟨gc, n * 10 + 7, none⟩ = some (.int .u32 (c.r 7)) ∧ w'.cell? ⟨gc, n * 10 + 8, none⟩ = some (.int .i64 c.pc) ∧ w'.cell? ⟨gc, n * 10 + 9, none⟩ = some (.bool c.h) ∧ Below W1.heap.size W1 w' :=
  ⟨(hb.cell (p := ⟨b, off + n, none⟩) l1.out).trans h1.out, (h2.out.below hb).c, (hb.cell (p := ⟨gc, n * 10, none⟩) l3.out).trans h3.out.1, (hb.cell (p := ⟨gc, n * 10 + 1, none⟩) l3.out).trans h3.out.2.1, (hb.cell (p := ⟨gc, n * 10 + 2, none⟩) l3.out).trans h3.out.2.2.1, (hb.cell (p := ⟨gc, n * 10 + 3, none⟩) l3.out).trans h3.out.2.2.2.1, (hb.cell (p := ⟨gc, n * 10 + 4, none⟩) l3.out).trans h3.out.2.2.2.2.1, (hb.cell (p := ⟨gc, n * 10 + 5, none⟩) l3.out).trans h3.out.2.2.2.2.2.1, (hb.cell (p := ⟨gc, n * 10 + 6, none⟩) l3.out).trans h3.out.2.2.2.2.2.2.1, (hb.cell (p := ⟨gc, n * 10 + 7, none⟩) l3.out).trans h3.out.2.2.2.2.2.2.2.1, (hb.cell (p := ⟨gc, n * 10 + 8, none⟩) l3.out).trans h3.out.2.2.2.2.2.2.2.2.1, (hb.cell (p := ⟨gc, n * 10 + 9, none⟩) l3.out).trans h3.out.2.2.2.2.2.2.2.2.2, hb⟩

theorem kwants (q : Option Addr) (m qc : Nat) (l : List I5) (c : Cor) (lm : Nat) (k at_ v o : Int) (b off n B gc : Nat) (bs : Array Value) (W1 W : World) (hm : Hid (l.length = m)) (HP : Hid (Prg W1 q l)) (HF : Hid c.Fits) (HW : Hid (wantOf l c lm = ⟨k, at_, v, o⟩)) (hlm : lm ≤ 64)
    (h1 : Hid (W1.cell? ⟨b, off + n, none⟩ = some (.slice q m qc))) (h2 : Hid (Blk W1 B bs)) (h3 : Hid (W1.cell? ⟨gc, n * 10, none⟩ = some (.int .u32 (c.r 0)) ∧ W1.cell? ⟨gc, n * 10 + 1, none⟩ = some (.int .u32 (c.r 1)) ∧ W1.cell? ⟨gc, n * 10 + 2, none⟩ = some (.int .u32 (c.r 2)) ∧ W1.cell? ⟨gc, n * 10 + 3, none⟩ = some (.int .u32 (c.r 3)) ∧ W1.cell? ⟨gc, n * 10 + 4, none⟩ = some (.int .u32 (c.r 4)) ∧ W1.cell? ⟨gc, n * 10 + 5, none⟩ = some (.int .u32 (c.r 5)) ∧ W1.cell? ⟨gc, n * 10 + 6, none⟩ = some (.int .u32 (c.r 6)) ∧ W1.cell? ⟨gc, n * 10 + 7, none⟩ = some (.int .u32 (c.r 7)) ∧ W1.cell? ⟨gc, n * 10 + 8, none⟩ = some (.int .i64 c.pc) ∧ W1.cell? ⟨gc, n * 10 + 9, none⟩ = some (.bool c.h))) (l1 : Hid (b < W1.heap.size)) (l3 : Hid (gc < W1.heap.size)) (hb : Below W1.heap.size W1 W) :
    Calls Try.prog 23 #[.slice q m qc, .agg #[.int .u32 (c.r 0), .int .u32 (c.r 1), .int .u32 (c.r 2), .int .u32 (c.r 3), .int .u32 (c.r 4), .int .u32 (c.r 5), .int .u32 (c.r 6), .int .u32 (c.r 7), .int .i64 c.pc, .bool c.h], .int .i64 lm] W fun e w' => e = .returned (.agg #[.int .i64 k, .int .i64 at_, .int .u32 v, .int .u32 o]) ∧ (w'.cell? ⟨b, off + n, none⟩ = some (.slice q m qc) ∧ (∀ j, w'.cell? ⟨B, j, none⟩ = bs[j]?) ∧ (w'.cell? ⟨gc, n * 10, none⟩ = some (.int .u32 (c.r 0)) ∧ w'.cell? ⟨gc, n * 10 + 1, none⟩ = some (.int .u32 (c.r 1)) ∧ w'.cell? ⟨gc, n * 10 + 2, none⟩ = some (.int .u32 (c.r 2)) ∧ w'.cell? ⟨gc, n * 10 + 3, none⟩ = some (.int .u32 (c.r 3)) ∧ w'.cell? ⟨gc, n * 10 + 4, none⟩ = some (.int .u32 (c.r 4)) ∧ w'.cell? ⟨gc, n * 10 + 5, none⟩ = some (.int .u32 (c.r 5)) ∧ w'.cell? ⟨gc, n * 10 + 6, none⟩ = some (.int .u32 (c.r 6)) ∧ w'.cell? ⟨gc, n * 10 + 7, none⟩ = some (.int .u32 (c.r 7)) ∧ w'.cell? ⟨gc, n * 10 + 8, none⟩ = some (.int .i64 c.pc) ∧ w'.cell? ⟨gc, n * 10 + 9, none⟩ = some (.bool c.h)) ∧ Below W1.heap.size W1 w') ∧ Below W.heap.size W w' := by
  have hh := wants_any q qc l c lm W (HP.out.below hb) HF.out (by omega)
  rw [hm.out, HW.out] at hh
  exact hh.mono fun e w' he => ⟨he.1, sStep h1 h2 h3 l1 l3 (hb.trans (he.2.mono hb.size)), he.2⟩
theorem storeW {w : World} {X : Nat} {a0 a1 a2 a3 v0 v1 v2 v3 : Value} (hb : Blk w X #[a0, a1, a2, a3]) : Blk ((((w.setCell ⟨X, 0, none⟩ v0).setCell ⟨X, 1, none⟩ v1).setCell ⟨X, 2, none⟩ v2).setCell ⟨X, 3, none⟩ v3) X #[v0, v1, v2, v3] = True :=
  eq_true ((((hb.set v0 (by simp)).set v1 (by simp)).set v2 (by simp)).set v3 (by simp))

theorem kdone (q : Option Addr) (m qc : Nat) (l : List I5) (c d : Cor) (was : Int) (W1 W : World) (b off n B gc : Nat) (bs : Array Value) (hm : Hid (l.length = m)) (HP : Hid (Prg W1 q l)) (HD : Hid (d = doneOf l c was)) (HF : Hid c.Fits)
    (h1 : W1.cell? ⟨b, off + n, none⟩ = some (.slice q m qc) ∧ (∀ j, W1.cell? ⟨B, j, none⟩ = bs[j]?)) (h3 : Hid (W1.cell? ⟨gc, n * 10, none⟩ = some (.int .u32 (c.r 0)) ∧ W1.cell? ⟨gc, n * 10 + 1, none⟩ = some (.int .u32 (c.r 1)) ∧ W1.cell? ⟨gc, n * 10 + 2, none⟩ = some (.int .u32 (c.r 2)) ∧ W1.cell? ⟨gc, n * 10 + 3, none⟩ = some (.int .u32 (c.r 3)) ∧ W1.cell? ⟨gc, n * 10 + 4, none⟩ = some (.int .u32 (c.r 4)) ∧ W1.cell? ⟨gc, n * 10 + 5, none⟩ = some (.int .u32 (c.r 5)) ∧ W1.cell? ⟨gc, n * 10 + 6, none⟩ = some (.int .u32 (c.r 6)) ∧ W1.cell? ⟨gc, n * 10 + 7, none⟩ = some (.int .u32 (c.r 7)) ∧ W1.cell? ⟨gc, n * 10 + 8, none⟩ = some (.int .i64 c.pc) ∧ W1.cell? ⟨gc, n * 10 + 9, none⟩ = some (.bool c.h))) (h4 : Hid (∀ j, W1.frozen? ⟨gc, j, none⟩ = false)) (l3 : Hid (gc < W1.heap.size)) (l1 : Hid (b < W1.heap.size)) (l2 : B < W1.heap.size) (hb : Below W1.heap.size W1 W) :
    Calls Try.prog 42 #[.slice q m qc, .agg #[.int .u32 (c.r 0), .int .u32 (c.r 1), .int .u32 (c.r 2), .int .u32 (c.r 3), .int .u32 (c.r 4), .int .u32 (c.r 5), .int .u32 (c.r 6), .int .u32 (c.r 7), .int .i64 c.pc, .bool c.h], .int .u32 was] W fun e w' => e = .returned (.agg #[.int .u32 (d.r 0), .int .u32 (d.r 1), .int .u32 (d.r 2), .int .u32 (d.r 3), .int .u32 (d.r 4), .int .u32 (d.r 5), .int .u32 (d.r 6), .int .u32 (d.r 7), .int .i64 d.pc, .bool d.h]) ∧ (w'.cell? ⟨b, off + n, none⟩ = some (.slice q m qc) ∧ (∀ j, w'.cell? ⟨B, j, none⟩ = bs[j]?)) ∧ (w'.cell? ⟨gc, n * 10, none⟩ = some (.int .u32 (c.r 0)) ∧ w'.cell? ⟨gc, n * 10 + 1, none⟩ = some (.int .u32 (c.r 1)) ∧ w'.cell? ⟨gc, n * 10 + 2, none⟩ = some (.int .u32 (c.r 2)) ∧ w'.cell? ⟨gc, n * 10 + 3, none⟩ = some (.int .u32 (c.r 3)) ∧ w'.cell? ⟨gc, n * 10 + 4, none⟩ = some (.int .u32 (c.r 4)) ∧ w'.cell? ⟨gc, n * 10 + 5, none⟩ = some (.int .u32 (c.r 5)) ∧ w'.cell? ⟨gc, n * 10 + 6, none⟩ = some (.int .u32 (c.r 6)) ∧ w'.cell? ⟨gc, n * 10 + 7, none⟩ = some (.int .u32 (c.r 7)) ∧ w'.cell? ⟨gc, n * 10 + 8, none⟩ = some (.int .i64 c.pc) ∧ w'.cell? ⟨gc, n * 10 + 9, none⟩ = some (.bool c.h)) ∧ (∀ j, w'.frozen? ⟨gc, j, none⟩ = false) ∧ Below W1.heap.size W1 w' := by
  have hh := done_any q qc l c was W (HP.out.below hb)
  rw [hm.out, ← HD.out] at hh
  refine hh.mono fun e w' he => ?_
  have hb := hb.trans (he.2.mono hb.size)
  exact ⟨he.1, ⟨(hb.cell (p := ⟨b, off + n, none⟩) l1.out).trans h1.1, fun j => (hb.cell (p := ⟨B, j, none⟩) l2).trans (h1.2 j)⟩, ⟨(hb.cell (p := ⟨gc, n * 10, none⟩) l3.out).trans h3.out.1, (hb.cell (p := ⟨gc, n * 10 + 1, none⟩) l3.out).trans h3.out.2.1, (hb.cell (p := ⟨gc, n * 10 + 2, none⟩) l3.out).trans h3.out.2.2.1, (hb.cell (p := ⟨gc, n * 10 + 3, none⟩) l3.out).trans h3.out.2.2.2.1, (hb.cell (p := ⟨gc, n * 10 + 4, none⟩) l3.out).trans h3.out.2.2.2.2.1, (hb.cell (p := ⟨gc, n * 10 + 5, none⟩) l3.out).trans h3.out.2.2.2.2.2.1, (hb.cell (p := ⟨gc, n * 10 + 6, none⟩) l3.out).trans h3.out.2.2.2.2.2.2.1, (hb.cell (p := ⟨gc, n * 10 + 7, none⟩) l3.out).trans h3.out.2.2.2.2.2.2.2.1, (hb.cell (p := ⟨gc, n * 10 + 8, none⟩) l3.out).trans h3.out.2.2.2.2.2.2.2.2.1, (hb.cell (p := ⟨gc, n * 10 + 9, none⟩) l3.out).trans h3.out.2.2.2.2.2.2.2.2.2⟩, fun j => (hb.frozen (p := ⟨gc, j, none⟩) l3.out).trans (h4.out j), hb⟩
theorem grown10 (w : World) (g i : Nat) (v0 v1 v2 v3 v4 v5 v6 v7 v8 v9 : Value) : w.grownBy ((((((((((w.setCell ⟨g, i, none⟩ v0).setCell ⟨g, i + 1, none⟩ v1).setCell ⟨g, i + 2, none⟩ v2).setCell ⟨g, i + 3, none⟩ v3).setCell ⟨g, i + 4, none⟩ v4).setCell ⟨g, i + 5, none⟩ v5).setCell ⟨g, i + 6, none⟩ v6).setCell ⟨g, i + 7, none⟩ v7).setCell ⟨g, i + 8, none⟩ v8).setCell ⟨g, i + 9, none⟩ v9) (some g) :=
  grown_set (grown_set (grown_set (grown_set (grown_set (grown_set (grown_set (grown_set (grown_set (grown_set (World.grownBy.refl _ _) _ _) _ _) _ _) _ _) _ _) _ _) _ _) _ _) _ _) _ _
theorem cell_other {w : World} {g i : Nat} {v : Value} {a : Addr} (h : a.block ≠ g) : (w.setCell ⟨g, i, none⟩ v).cell? a = w.cell? a := World.cell?_setCell_other _ _ _ _ (fun e => h (by rw [← e]))
theorem sStore10 {w : World} {b off n B g i : Nat} {u : Value} {bs : Array Value} {v0 v1 v2 v3 v4 v5 v6 v7 v8 v9 : Value} (h : w.cell? ⟨b, off + n, none⟩ = some u ∧ (∀ j, w.cell? ⟨B, j, none⟩ = bs[j]?)) (h1 : Hid (b ≠ g)) (h2 : Hid (B ≠ g)) :
    ((((((((((w.setCell ⟨g, i, none⟩ v0).setCell ⟨g, i + 1, none⟩ v1).setCell ⟨g, i + 2, none⟩ v2).setCell ⟨g, i + 3, none⟩ v3).setCell ⟨g, i + 4, none⟩ v4).setCell ⟨g, i + 5, none⟩ v5).setCell ⟨g, i + 6, none⟩ v6).setCell ⟨g, i + 7, none⟩ v7).setCell ⟨g, i + 8, none⟩ v8).setCell ⟨g, i + 9, none⟩ v9).cell? ⟨b, off + n, none⟩ = some u ∧ (∀ j, ((((((((((w.setCell ⟨g, i, none⟩ v0).setCell ⟨g, i + 1, none⟩ v1).setCell ⟨g, i + 2, none⟩ v2).setCell ⟨g, i + 3, none⟩ v3).setCell ⟨g, i + 4, none⟩ v4).setCell ⟨g, i + 5, none⟩ v5).setCell ⟨g, i + 6, none⟩ v6).setCell ⟨g, i + 7, none⟩ v7).setCell ⟨g, i + 8, none⟩ v8).setCell ⟨g, i + 9, none⟩ v9).cell? ⟨B, j, none⟩ = bs[j]?) := by
  have e1 : ∀ j, (⟨b, j, none⟩ : Addr).block ≠ g := fun _ => h1.out
  have e2 : ∀ j, (⟨B, j, none⟩ : Addr).block ≠ g := fun _ => h2.out
  refine ⟨?_, fun j => ?_⟩
  · rw [cell_other (e1 _), cell_other (e1 _), cell_other (e1 _), cell_other (e1 _), cell_other (e1 _), cell_other (e1 _), cell_other (e1 _), cell_other (e1 _), cell_other (e1 _), cell_other (e1 _)]; exact h.1
  · rw [cell_other (e2 _), cell_other (e2 _), cell_other (e2 _), cell_other (e2 _), cell_other (e2 _), cell_other (e2 _), cell_other (e2 _), cell_other (e2 _), cell_other (e2 _), cell_other (e2 _)]; exact h.2 j

theorem own_store10 {w : World} {base g len cc n : Nat} {l : List Cor} (h : w.ownsRow base 55 10 (.slice (some ⟨g, 0, none⟩) len cc) l.length (coresC l)) (d : Cor) (hn : n < l.length) (hl : l.length = len) :
    ((((((((((w.setCell ⟨g, n * 10, none⟩ (.int .u32 (d.r 0))).setCell ⟨g, n * 10 + 1, none⟩ (.int .u32 (d.r 1))).setCell ⟨g, n * 10 + 2, none⟩ (.int .u32 (d.r 2))).setCell ⟨g, n * 10 + 3, none⟩ (.int .u32 (d.r 3))).setCell ⟨g, n * 10 + 4, none⟩ (.int .u32 (d.r 4))).setCell ⟨g, n * 10 + 5, none⟩ (.int .u32 (d.r 5))).setCell ⟨g, n * 10 + 6, none⟩ (.int .u32 (d.r 6))).setCell ⟨g, n * 10 + 7, none⟩ (.int .u32 (d.r 7))).setCell ⟨g, n * 10 + 8, none⟩ (.int .i64 d.pc)).setCell ⟨g, n * 10 + 9, none⟩ (.bool d.h)).ownsRow base 55 10 (.slice (some ⟨g, 0, none⟩) len cc) l.length (coresC (l.set n d)) := by
  rw [← coresC_set l n d hn]
  rw [hl] at h ⊢
  exact (((((((((h.stored _ _).1.stored _ _).1.stored _ _).1.stored _ _).1.stored _ _).1.stored _ _).1.stored _ _).1.stored _ _).1.stored _ _).1.stored _ _ |>.1

set_option maxHeartbeats 2000000 in
theorem step_in (b off cap np : Nat) (P : List (List I5)) (q : Option Addr) (m qc : Nat) (l : List I5) (c : Cor) (gm lm cm gc len cc : Nat) (po : Option Addr) (lo co : Nat) (a : Atm) (n : Nat) (k at_ v o : Int) (W0 w : World) (hb0 : b < W0.heap.size) (hq : W0.cell? ⟨b, off + n, none⟩ = some (.slice q m qc)) (hql : l.length = m) (hqp : Prg W0 q l) (hn : n < len) (hnp : len = np) (hb : Below W0.heap.size W0 w)
    (hlm : a.mem.length = lm) (hlc : a.cores.length = len) (hc : c = coreAt a.cores n) (hf : c.Fits) (hw : wantOf l c lm = ⟨k, at_, v, o⟩) (hmax : lm ≤ 64) (hmo : (a.outs.length + 1) * 16 ≤ 140737488355328) (a' : Atm) (ha' : Hid (a' = ⟨actMem a.mem ⟨k, at_, v, o⟩, a.cores.set n (doneOf l c (actWas a.mem ⟨k, at_, v, o⟩)), if k = 4 then a.outs ++ [((n : Int), v)] else a.outs⟩))
    (hown : OwnM w W0.heap.size (.slice (some ⟨gm, 0, none⟩) lm cm) (.slice (some ⟨gc, 0, none⟩) len cc) (.slice po lo co) a) :
    Calls Try.prog 36 #[.slice (some ⟨b, off, none⟩) np cap, .agg #[.slice (some ⟨gm, 0, none⟩) lm cm, .slice (some ⟨gc, 0, none⟩) len cc, .slice po lo co], .int .i64 n] w fun e w' => ∃ po' lo' co', e = .returned (.agg #[.slice (some ⟨gm, 0, none⟩) lm cm, .slice (some ⟨gc, 0, none⟩) len cc, (.slice po' lo' co')]) ∧ OwnM w' W0.heap.size (.slice (some ⟨gm, 0, none⟩) lm cm) (.slice (some ⟨gc, 0, none⟩) len cc) (.slice po' lo' co') a' ∧ Chg (rows3 (.slice (some ⟨gm, 0, none⟩) lm cm) (.slice (some ⟨gc, 0, none⟩) len cc) (.slice po lo co)) w w' ∧ (∀ j, (Value.slice po' lo' co').ownBlock = some j → (Value.slice po lo co).ownBlock = some j ∨ w.heap.size ≤ j) := by
  have HOWN := Lib.hid hown
  have hgc : gc < w.heap.size := (hown.c.lt gc rfl).2
  have hcell : ∀ j, j < 10 → w.cell? ⟨gc, n * 10 + j, none⟩ = c.row[j]? := fun j hj => by
    have hoc := hown.c
    rw [hlc] at hoc
    rw [hoc.cellAt (n * 10 + j) (by omega), coresC_at _ _ _ (by rw [hlc]; exact hn) hj, hc]
  have h3 : Hid (w.cell? ⟨gc, n * 10, none⟩ = some (.int .u32 (c.r 0)) ∧ w.cell? ⟨gc, n * 10 + 1, none⟩ = some (.int .u32 (c.r 1)) ∧ w.cell? ⟨gc, n * 10 + 2, none⟩ = some (.int .u32 (c.r 2)) ∧ w.cell? ⟨gc, n * 10 + 3, none⟩ = some (.int .u32 (c.r 3)) ∧ w.cell? ⟨gc, n * 10 + 4, none⟩ = some (.int .u32 (c.r 4)) ∧ w.cell? ⟨gc, n * 10 + 5, none⟩ = some (.int .u32 (c.r 5)) ∧ w.cell? ⟨gc, n * 10 + 6, none⟩ = some (.int .u32 (c.r 6)) ∧ w.cell? ⟨gc, n * 10 + 7, none⟩ = some (.int .u32 (c.r 7)) ∧ w.cell? ⟨gc, n * 10 + 8, none⟩ = some (.int .i64 c.pc) ∧ w.cell? ⟨gc, n * 10 + 9, none⟩ = some (.bool c.h)) := ⟨hcell 0 (by omega), hcell 1 (by omega), hcell 2 (by omega), hcell 3 (by omega), hcell 4 (by omega), hcell 5 (by omega), hcell 6 (by omega), hcell 7 (by omega), hcell 8 (by omega), hcell 9 (by omega)⟩
  clear hcell
  have n0 : (0 : Int) ≤ (n : Int) := by omega
  have n1 : (n : Int) < (np : Int) := by omega
  have n2 : (n : Int) < (len : Int) := by omega
  have HQ := Lib.hid hq
  have HQL := Lib.hid hql
  have HQP := Lib.hid hqp
  have HB := Lib.hid hb
  have HB0 := Lib.hid hb0
  have HC := Lib.hid hc
  have HF := Lib.hid hf
  have HW := Lib.hid hw
  have HLC := Lib.hid hlc
  have HLM := Lib.hid hlm
  have HGC := Lib.hid hgc
  have HNP := Lib.hid hnp
  have HMO := Lib.hid hmo
  clear hown hq hql hqp hb hb0 hc hf hw hlc hlm hgc hnp hmo
  obtain ⟨i0, hi, hz0, hz1, hz2⟩ := info_parts info63
  go_enter Try.func36, Try.ntmps36
  go_upto_region 1 with fail
  obtain ⟨W1, hW1⟩ : ∃ W1, W1 = (w.alloc (.cells #[.slice (some ⟨gm, 0, none⟩) lm cm, .slice (some ⟨gc, 0, none⟩) len cc, .slice po lo co] 27)).alloc (.cells #[.slice none 0 0, .slice none 0 0, .slice none 0 0] 27) := ⟨_, rfl⟩
  have HBW : Hid (Below w.heap.size w W1) := by rw [hW1]; exact ((Below.refl _ _).alloc (Nat.le_refl _) _).alloc (by simp) _
  have HK1 : Hid (Blk W1 w.heap.size #[.slice (some ⟨gm, 0, none⟩) lm cm, .slice (some ⟨gc, 0, none⟩) len cc, .slice po lo co]) := by rw [hW1]; exact (Blk.new w _ 27).alloc _
  have HK2 : Hid (Blk W1 (w.heap.size + 1) #[.slice none 0 0, .slice none 0 0, .slice none 0 0]) := by
    rw [hW1]
    have h := Blk.new (w.alloc (.cells #[.slice (some ⟨gm, 0, none⟩) lm cm, .slice (some ⟨gc, 0, none⟩) len cc, .slice po lo co] 27)) #[.slice none 0 0, .slice none 0 0, .slice none 0 0] 27
    rw [World.size_alloc] at h
    exact h
  have HK3 : Hid (w.heap.size + 2 ≤ W1.heap.size) := by show w.heap.size + 2 ≤ W1.heap.size; rw [hW1, World.size_alloc, World.size_alloc]; omega
  rw [← hW1]
  clear hW1
  have HB1 : Hid (Below W0.heap.size W0 W1) := HB.out.trans (HBW.out.mono HB.out.size)
  have HQ1 : Hid (W1.cell? ⟨b, off + n, none⟩ = some (.slice q m qc)) := (HB1.out.cell (p := ⟨b, off + n, none⟩) HB0.out).trans HQ.out
  have HP1 : Hid (Prg W1 q l) := HQP.out.below HB1.out
  have HC1 : Hid (W1.cell? ⟨gc, n * 10, none⟩ = some (.int .u32 (c.r 0)) ∧ W1.cell? ⟨gc, n * 10 + 1, none⟩ = some (.int .u32 (c.r 1)) ∧ W1.cell? ⟨gc, n * 10 + 2, none⟩ = some (.int .u32 (c.r 2)) ∧ W1.cell? ⟨gc, n * 10 + 3, none⟩ = some (.int .u32 (c.r 3)) ∧ W1.cell? ⟨gc, n * 10 + 4, none⟩ = some (.int .u32 (c.r 4)) ∧ W1.cell? ⟨gc, n * 10 + 5, none⟩ = some (.int .u32 (c.r 5)) ∧ W1.cell? ⟨gc, n * 10 + 6, none⟩ = some (.int .u32 (c.r 6)) ∧ W1.cell? ⟨gc, n * 10 + 7, none⟩ = some (.int .u32 (c.r 7)) ∧ W1.cell? ⟨gc, n * 10 + 8, none⟩ = some (.int .i64 c.pc) ∧ W1.cell? ⟨gc, n * 10 + 9, none⟩ = some (.bool c.h)) := by have hb := HBW.out; have l3 := HGC; have h3 := h3; exact ⟨(hb.cell (p := ⟨gc, n * 10, none⟩) l3.out).trans h3.out.1, (hb.cell (p := ⟨gc, n * 10 + 1, none⟩) l3.out).trans h3.out.2.1, (hb.cell (p := ⟨gc, n * 10 + 2, none⟩) l3.out).trans h3.out.2.2.1, (hb.cell (p := ⟨gc, n * 10 + 3, none⟩) l3.out).trans h3.out.2.2.2.1, (hb.cell (p := ⟨gc, n * 10 + 4, none⟩) l3.out).trans h3.out.2.2.2.2.1, (hb.cell (p := ⟨gc, n * 10 + 5, none⟩) l3.out).trans h3.out.2.2.2.2.2.1, (hb.cell (p := ⟨gc, n * 10 + 6, none⟩) l3.out).trans h3.out.2.2.2.2.2.2.1, (hb.cell (p := ⟨gc, n * 10 + 7, none⟩) l3.out).trans h3.out.2.2.2.2.2.2.2.1, (hb.cell (p := ⟨gc, n * 10 + 8, none⟩) l3.out).trans h3.out.2.2.2.2.2.2.2.2.1, (hb.cell (p := ⟨gc, n * 10 + 9, none⟩) l3.out).trans h3.out.2.2.2.2.2.2.2.2.2⟩
  have L1 : Hid (b < W1.heap.size) := Nat.lt_of_lt_of_le HB0.out HB1.out.size
  have L3 : Hid (gc < W1.heap.size) := Nat.lt_of_lt_of_le HGC.out HBW.out.size
  clear h3
  go_cut [7] (fun s7 wc => ∃ X, s7 = .pointer (some ⟨X, 0, none⟩) ∧ Blk wc X #[.int .i64 k, .int .i64 at_, .int .u32 v, .int .u32 o] ∧ W1.heap.size ≤ X ∧ Below W1.heap.size W1 wc)
  case first =>
    go_region_held3 (fun w' => w'.cell? ⟨b, off + n, none⟩ = some (.slice q m qc) ∧ (∀ j, w'.cell? ⟨w.heap.size, j, none⟩ = (#[.slice (some ⟨gm, 0, none⟩) lm cm, .slice (some ⟨gc, 0, none⟩) len cc, .slice po lo co] : Array Value)[j]?) ∧ w'.cell? ⟨gc, n * 10, none⟩ = some (.int .u32 (c.r 0)) ∧ w'.cell? ⟨gc, n * 10 + 1, none⟩ = some (.int .u32 (c.r 1)) ∧ w'.cell? ⟨gc, n * 10 + 2, none⟩ = some (.int .u32 (c.r 2)) ∧ w'.cell? ⟨gc, n * 10 + 3, none⟩ = some (.int .u32 (c.r 3)) ∧ w'.cell? ⟨gc, n * 10 + 4, none⟩ = some (.int .u32 (c.r 4)) ∧ w'.cell? ⟨gc, n * 10 + 5, none⟩ = some (.int .u32 (c.r 5)) ∧ w'.cell? ⟨gc, n * 10 + 6, none⟩ = some (.int .u32 (c.r 6)) ∧ w'.cell? ⟨gc, n * 10 + 7, none⟩ = some (.int .u32 (c.r 7)) ∧ w'.cell? ⟨gc, n * 10 + 8, none⟩ = some (.int .i64 c.pc) ∧ w'.cell? ⟨gc, n * 10 + 9, none⟩ = some (.bool c.h) ∧ Below W1.heap.size W1 w')
      ((refine sStep' HQ1 HK1 HC1 L1 L3 ?_; simp (config := { maxDischargeDepth := 60 }) only [bA, bS, bD, bR, *]))
      (first
        | (go_at_call 23; refine (kwants q m qc l c lm k at_ v o b off n w.heap.size gc _ W1 _ HQL HP1 HF HW hmax HQ1 HK1 HC1 L1 L3 ?_).mono ?_; (first | assumption | (exact (‹_ ∧ _ ∧ _ ∧ _ ∧ _ ∧ _ ∧ _ ∧ _ ∧ _ ∧ _ ∧ _ ∧ _ ∧ _›).2.2.2.2.2.2.2.2.2.2.2.2)); (rintro e w4 ⟨rfl, ⟨c1, c2, ⟨d0, d1, d2, d3, d4, d5, d6, d7, d8, d9⟩, hb4⟩, hd4⟩; (first | with_reducible have t1 := Trk.one hd4 | skip); (try (have v1 := t1.blk.c; have v2 := t1.blk.f; have v3 := t1.blk.lt; have ge1 := t1.ge; have bk1 := t1.blk)))))
    all_goals
      go_wp2_with fail
      go_meet
      case rel =>
        go_light
        first
          | exact ⟨_, rfl, Blk.new w4 _ 30, hb4.size, hb4.alloc hb4.size _⟩
          | exact ⟨_, rfl, of_eq_true (storeW bk1), Nat.le_refl _, (((hb4.setCell (Nat.le_refl _) _).setCell (Nat.le_refl _) _).setCell (Nat.le_refl _) _).setCell (Nat.le_refl _) _⟩
  case rest =>
    obtain ⟨X, rfl, kX, hX, hbc⟩ := hcut
    have HKX := Lib.hid kX
    have HX := Lib.hid hX
    have HWC : Hid (Below w.heap.size w wc) := HBW.out.trans (hbc.mono HBW.out.size)
    have HO1 : Hid (OwnM wc W0.heap.size (.slice (some ⟨gm, 0, none⟩) lm cm) (.slice (some ⟨gc, 0, none⟩) len cc) (.slice po lo co) a) := HOWN.out.below HWC.out
    have HKB := Lib.hid (HK1.out.below hbc)
    have HKN := Lib.hid (HK2.out.below hbc)
    have HXN : Hid (w.heap.size + 2 ≤ W1.heap.size) := HK3.out
    clear kX hX hbc HK1 HK2 HQ1 HP1 HC1 L1 L3 HB1
    have c1 := HKB.out.c
    have x0 : wc.cell? ⟨X, 0, none⟩ = some (.int .i64 k) := HKX.out.c 0
    have x1 : wc.cell? ⟨X, 1, none⟩ = some (.int .i64 at_) := HKX.out.c 1
    have x2 : wc.cell? ⟨X, 2, none⟩ = some (.int .u32 v) := HKX.out.c 2
    have x3 : wc.cell? ⟨X, 3, none⟩ = some (.int .u32 o) := HKX.out.c 3
    go_wp2_with fail
    have hact := act_any (.slice (some ⟨gm, 0, none⟩) lm cm) W0.heap.size a.mem ⟨k, at_, v, o⟩ wc HO1.out.m (Nat.le_trans HB.out.size HWC.out.size)
    refine hact.mono ?_
    clear hact
    rintro e w5 ⟨rfl, hm5, hg5⟩
    have g5 : Hid (wc.grownBy w5 (some gm)) := hg5
    have HM5 := Lib.hid hm5
    have GM : Hid (gm < w.heap.size) := (HOWN.out.m.lt gm rfl).2
    have HO5 : Hid (OwnM w5 W0.heap.size (.slice (some ⟨gm, 0, none⟩) lm cm) (.slice (some ⟨gc, 0, none⟩) len cc) (.slice po lo co) ⟨actMem a.mem ⟨k, at_, v, o⟩, a.cores, a.outs⟩) :=
      ⟨by rw [actMem_len]; exact hm5, HO1.out.c.kept hg5 (own_diff HO1.out.c HO1.out.m (by decide)), HO1.out.o.kept hg5 (own_diff HO1.out.o HO1.out.m (by decide))⟩
    have HC5 : Hid (Chg (rows3 (.slice (some ⟨gm, 0, none⟩) lm cm) (.slice (some ⟨gc, 0, none⟩) len cc) (.slice po lo co)) w w5) := ((Chg.refl _ w).more HWC.out).step hg5 (fun k hk => .inl (.inl hk))
    have HR : Hid (∀ k, rows3 (.slice (some ⟨gm, 0, none⟩) lm cm) (.slice (some ⟨gc, 0, none⟩) len cc) (.slice po lo co) k → W0.heap.size ≤ k) := fun k hk => (HOWN.out.rows k hk).1
    have HB5 : Hid (Below W0.heap.size W0 w5) := HC5.out.below HB.out HR.out
    have HX5 := Lib.hid (HKX.out.grown hg5 (by have h1 := GM.out; have h2 := HX.out; have h3 := HXN.out; intro e; injection e with e; have e' : gm = X := e; omega))
    have HKB5 := Lib.hid (HKB.out.grown hg5 (by have h1 := GM.out; intro e; injection e with e; have e' : gm = w.heap.size := e; omega))
    have HKN5 := Lib.hid (HKN.out.grown hg5 (by have h1 := GM.out; intro e; injection e with e; have e' : gm = w.heap.size + 1 := e; omega))
    have HS5 : Hid (w.heap.size ≤ w5.heap.size) := Nat.le_trans HWC.out.size hg5.size
    clear hm5 hg5 c1 x0 x1 x2 x3 HKX HKB HKN HO1 HM5 HWC HBW
    obtain ⟨was, hwas⟩ : ∃ was, was = actWas a.mem ⟨k, at_, v, o⟩ := ⟨_, rfl⟩
    rw [← hwas]
    have HWAS := Lib.hid hwas
    clear hwas
    have c1 := HKB5.out.c
    have x0 : w5.cell? ⟨X, 0, none⟩ = some (.int .i64 k) := HX5.out.c 0
    have x2 : w5.cell? ⟨X, 2, none⟩ = some (.int .u32 v) := HX5.out.c 2
    have fB := HKB5.out.f
    have lB := HKB5.out.lt
    go_upto_if 28 with fail
    go_cut [] (fun wd => ∃ po' lo' co', Blk wd w.heap.size #[.slice (some ⟨gm, 0, none⟩) lm cm, .slice (some ⟨gc, 0, none⟩) len cc, (.slice po' lo' co')] ∧ Blk wd (w.heap.size + 1) #[.slice none 0 0, .slice none 0 0, .slice none 0 0] ∧ OwnM wd W0.heap.size (.slice (some ⟨gm, 0, none⟩) lm cm) (.slice (some ⟨gc, 0, none⟩) len cc) (.slice po' lo' co') ⟨actMem a.mem ⟨k, at_, v, o⟩, a.cores, if k = 4 then a.outs ++ [((n : Int), v)] else a.outs⟩ ∧ Chg (rows3 (.slice (some ⟨gm, 0, none⟩) lm cm) (.slice (some ⟨gc, 0, none⟩) len cc) (.slice po lo co)) w wd ∧ w.heap.size ≤ wd.heap.size ∧ (Value.slice po' lo' co').ownBlock ≠ some (w.heap.size + 1) ∧ (∀ j, (Value.slice po' lo' co').ownBlock = some j → (Value.slice po lo co).ownBlock = some j ∨ w.heap.size ≤ j))
    case first =>
      by_cases hk4 : k = 4
      · have e4 : (k == 4) = true := by rw [hk4]; rfl
        go_wp2_with (at_builtin; refine wpList_append_own_at _ rfl _ _ 25 rfl W0.heap.size 63 i0 (.agg #[.int .i64 0, .int .u32 0]) 2 16 Try.underlying25 hi hz0 hz1 hz2 rfl (by decide) (.slice po lo co) a.outs.length (outsC a.outs) rfl (HO5.out.o.alloc _) ⟨w5.heap.size, 0, none⟩ 1 1 [.int .i64 n, .int .u32 v] rfl rfl ?qc2 ?qc3 ?qc4 ?qc5 ?qc6 ?_)
        case qc2 =>
          intro j u hj
          rw [Addr.add_lit, Nat.zero_add, World.cell?_alloc_new]
          simpa using hj
        case qc3 => intro u hu; simp at hu; rcases hu with rfl | rfl <;> rfl
        case qc4 => have := HMO.out; unfold maxLen; omega
        case qc5 => exact HMO.out
        case qc6 => rw [World.size_alloc]; exact Nat.le_succ_of_le HB5.out.size
        intro v' w6 hown hgrow hnil hblk
        clear c1 x0 x2 fB lB hnil
        obtain ⟨g', cap', rfl⟩ := Joins.ownsRow_form hown (Nat.succ_pos _)
        have hlt : ∀ k, (Value.slice po lo co).ownBlock = some k → k < w.heap.size := fun k hk => (HOWN.out.o.lt k hk).2
        have hne : ∀ B, w.heap.size ≤ B → (Value.slice po lo co).ownBlock ≠ some B := fun B hB e => by have := hlt B e; omega
        have HN' : Hid ((Value.slice (some ⟨g', 0, none⟩) (a.outs.length + 1) cap').ownBlock ≠ some w.heap.size) := by
          intro e
          rcases hblk with h | h
          · rw [e] at h; exact hne _ (Nat.le_refl _) h.symm
          · rw [e] at h; injection h with h; have h2 := HS5.out; (try simp only [World.size_alloc] at h); omega
        have HN3 : Hid (∀ j, (Value.slice (some ⟨g', 0, none⟩) (a.outs.length + 1) cap').ownBlock = some j → (Value.slice po lo co).ownBlock = some j ∨ w.heap.size ≤ j) := fun j hj => by
          rcases hblk with h | h
          · exact .inl (h ▸ hj)
          · right; rw [hj] at h; injection h with h; have h2 := HKN5.out.lt; (try simp only [World.size_alloc] at h); omega
        have HN2 : Hid ((Value.slice (some ⟨g', 0, none⟩) (a.outs.length + 1) cap').ownBlock ≠ some (w.heap.size + 1)) := by
          intro e
          rcases hblk with h | h
          · rw [e] at h; exact hne _ (Nat.le_succ _) h.symm
          · rw [e] at h; injection h with h; have h2 := HKN5.out.lt; (try simp only [World.size_alloc] at h); omega
        have HKB6 := Lib.hid ((HKB5.out.alloc (.cells #[.int .i64 n, .int .u32 v] 63)).grown hgrow (hne _ (Nat.le_refl _)))
        have HKN6 := Lib.hid ((HKN5.out.alloc (.cells #[.int .i64 n, .int .u32 v] 63)).grown hgrow (hne _ (Nat.le_succ _)))
        have HM6 : Hid (w6.ownsRow W0.heap.size 28 1 (.slice (some ⟨gm, 0, none⟩) lm cm) (actMem a.mem ⟨k, at_, v, o⟩).length (memC (actMem a.mem ⟨k, at_, v, o⟩))) := (HO5.out.m.alloc _).kept hgrow (own_diff HO5.out.m HO5.out.o (by decide))
        have HC6 : Hid (w6.ownsRow W0.heap.size 55 10 (.slice (some ⟨gc, 0, none⟩) len cc) a.cores.length (coresC a.cores)) := (HO5.out.c.alloc _).kept hgrow (own_diff HO5.out.c HO5.out.o (by decide))
        have HV6 : Hid (w6.ownsRow W0.heap.size 63 2 (.slice (some ⟨g', 0, none⟩) (a.outs.length + 1) cap') (a.outs ++ [((n : Int), v)]).length (outsC (a.outs ++ [((n : Int), v)]))) := by
          rw [outsC_app, outsC_one, List.length_append]; exact hown
        have HC6' : Hid (Chg (rows3 (.slice (some ⟨gm, 0, none⟩) lm cm) (.slice (some ⟨gc, 0, none⟩) len cc) (.slice po lo co)) w w6) := (HC5.out.alloc _).step hgrow (fun k hk => .inl (.inr (.inr hk)))
        clear hown hgrow hblk hlt hne HKB5 HKN5 HX5 HO5 HB5 HS5 HC5
        have c1 := HKB6.out.c
        have fB := HKB6.out.f
        have lB := HKB6.out.lt
        go_wp2_with fail
        go_meet
        case rel =>
          refine ⟨some ⟨g', 0, none⟩, a.outs.length + 1, cap', (HKB6.out.set _ (by simp)).cast (by simp), HKN6.out.other _ (Nat.ne_of_lt (Nat.lt_succ_self _)), ?_, HC6'.out.set (.inr (Nat.le_refl _)), by rw [size_set]; exact Nat.le_of_lt HKB6.out.lt, HN2.out, HN3.out⟩
          rw [if_pos hk4]
          refine ⟨own_diff_set HM6.out (.inr ?_), own_diff_set HC6.out (.inr ?_), own_diff_set HV6.out (.inr HN'.out)⟩
          · have h1 := GM.out; intro e; injection e with e; have e' : gm = w.heap.size := e; omega
          · have h1 := HGC.out; intro e; injection e with e; have e' : gc = w.heap.size := e; omega
      · have e4 : (k == 4) = false := by simpa using hk4
        go_wp2_with fail
        go_meet
        case rel =>
          refine ⟨po, lo, co, HKB5.out, HKN5.out, ?_, HC5.out, HS5.out, fun e => by have := (HOWN.out.o.lt _ e).2; omega, fun j h => .inl h⟩
          rw [if_neg hk4]
          exact HO5.out
    case rest =>
      obtain ⟨po', lo', co', kB, kN, hO, hB, HS7, hnb, hnj⟩ := hcut
      have HNJ := Lib.hid hnj
      clear hnj
      have HNB := Lib.hid hnb
      clear hnb
      clear c1 x0 x2 fB lB HX5 HKB5 HKN5 HO5 HB5 HS5
      have HKB7 := Lib.hid kB
      have HKN7 := Lib.hid kN
      have HO7 := Lib.hid hO
      have HC7 := Lib.hid hB
      have HB7 : Hid (Below W0.heap.size W0 wc) := HC7.out.below HB.out HR.out
      clear kB kN hO hB
      have HB8 := Lib.hid (Nat.le_trans HB.out.size HS7)
      have LBC : Hid (b ≠ gc) := by have h1 := (HOWN.out.c.lt gc rfl).1; have h2 := HB0.out; intro e; omega
      have LBB : Hid (w.heap.size ≠ gc) := by have h1 := HGC.out; intro e; omega
      have hcell : ∀ j, j < 10 → wc.cell? ⟨gc, n * 10 + j, none⟩ = c.row[j]? := fun j hj => by
        have hoc := HO7.out.c
        simp only at hoc
        rw [HLC.out] at hoc
        rw [hoc.cellAt (n * 10 + j) (by omega), coresC_at _ _ _ (by rw [HLC.out]; exact hn) hj, HC.out]
      have HC8 : Hid (wc.cell? ⟨gc, n * 10, none⟩ = some (.int .u32 (c.r 0)) ∧ wc.cell? ⟨gc, n * 10 + 1, none⟩ = some (.int .u32 (c.r 1)) ∧ wc.cell? ⟨gc, n * 10 + 2, none⟩ = some (.int .u32 (c.r 2)) ∧ wc.cell? ⟨gc, n * 10 + 3, none⟩ = some (.int .u32 (c.r 3)) ∧ wc.cell? ⟨gc, n * 10 + 4, none⟩ = some (.int .u32 (c.r 4)) ∧ wc.cell? ⟨gc, n * 10 + 5, none⟩ = some (.int .u32 (c.r 5)) ∧ wc.cell? ⟨gc, n * 10 + 6, none⟩ = some (.int .u32 (c.r 6)) ∧ wc.cell? ⟨gc, n * 10 + 7, none⟩ = some (.int .u32 (c.r 7)) ∧ wc.cell? ⟨gc, n * 10 + 8, none⟩ = some (.int .i64 c.pc) ∧ wc.cell? ⟨gc, n * 10 + 9, none⟩ = some (.bool c.h)) := ⟨hcell 0 (by omega), hcell 1 (by omega), hcell 2 (by omega), hcell 3 (by omega), hcell 4 (by omega), hcell 5 (by omega), hcell 6 (by omega), hcell 7 (by omega), hcell 8 (by omega), hcell 9 (by omega)⟩
      clear hcell
      obtain ⟨d0, d1, d2, d3, d4, d5, d6, d7, d8, d9⟩ := HC8.out
      have HFZ : Hid (∀ j, wc.frozen? ⟨gc, j, none⟩ = false) := fun j => by
        have hoc := HO7.out.c
        simp only at hoc
        rw [HLC.out] at hoc
        exact hoc.frozenAt j
      have q1 : wc.cell? ⟨b, off + n, none⟩ = some (.slice q m qc) := (HB7.out.cell (p := ⟨b, off + n, none⟩) HB0.out).trans HQ.out
      have c1 := HKB7.out.c
      obtain ⟨d, hd⟩ : ∃ d, d = doneOf l c was := ⟨_, rfl⟩
      have HD := Lib.hid hd
      clear hd
      have HPD : Hid (Prg wc q l) := HQP.out.below HB7.out
      have HGD : Hid (gc < wc.heap.size) := (HO7.out.c.lt gc rfl).2
      have HBD : Hid (b < wc.heap.size) := Nat.lt_of_lt_of_le HB0.out HB7.out.size
      go_upto_region 5 with fail
      have hS0 : Hid ((fun w' : World => w'.cell? ⟨b, off + n, none⟩ = some (.slice q m qc) ∧ (∀ j, w'.cell? ⟨w.heap.size, j, none⟩ = (#[.slice (some ⟨gm, 0, none⟩) lm cm, .slice (some ⟨gc, 0, none⟩) len cc, (.slice po' lo' co')] : Array Value)[j]?) ∧ (w'.cell? ⟨gc, n * 10, none⟩ = some (.int .u32 (c.r 0)) ∧ w'.cell? ⟨gc, n * 10 + 1, none⟩ = some (.int .u32 (c.r 1)) ∧ w'.cell? ⟨gc, n * 10 + 2, none⟩ = some (.int .u32 (c.r 2)) ∧ w'.cell? ⟨gc, n * 10 + 3, none⟩ = some (.int .u32 (c.r 3)) ∧ w'.cell? ⟨gc, n * 10 + 4, none⟩ = some (.int .u32 (c.r 4)) ∧ w'.cell? ⟨gc, n * 10 + 5, none⟩ = some (.int .u32 (c.r 5)) ∧ w'.cell? ⟨gc, n * 10 + 6, none⟩ = some (.int .u32 (c.r 6)) ∧ w'.cell? ⟨gc, n * 10 + 7, none⟩ = some (.int .u32 (c.r 7)) ∧ w'.cell? ⟨gc, n * 10 + 8, none⟩ = some (.int .i64 c.pc) ∧ w'.cell? ⟨gc, n * 10 + 9, none⟩ = some (.bool c.h))) wc.drew) := ⟨q1, c1, HC8.out⟩
      clear q1 c1 d0 d1 d2 d3 d4 d5 d6 d7 d8 d9
      refine region_plan (fun w' : World => w'.cell? ⟨b, off + n, none⟩ = some (.slice q m qc) ∧ (∀ j, w'.cell? ⟨w.heap.size, j, none⟩ = (#[.slice (some ⟨gm, 0, none⟩) lm cm, .slice (some ⟨gc, 0, none⟩) len cc, (.slice po' lo' co')] : Array Value)[j]?) ∧ (w'.cell? ⟨gc, n * 10, none⟩ = some (.int .u32 (c.r 0)) ∧ w'.cell? ⟨gc, n * 10 + 1, none⟩ = some (.int .u32 (c.r 1)) ∧ w'.cell? ⟨gc, n * 10 + 2, none⟩ = some (.int .u32 (c.r 2)) ∧ w'.cell? ⟨gc, n * 10 + 3, none⟩ = some (.int .u32 (c.r 3)) ∧ w'.cell? ⟨gc, n * 10 + 4, none⟩ = some (.int .u32 (c.r 4)) ∧ w'.cell? ⟨gc, n * 10 + 5, none⟩ = some (.int .u32 (c.r 5)) ∧ w'.cell? ⟨gc, n * 10 + 6, none⟩ = some (.int .u32 (c.r 6)) ∧ w'.cell? ⟨gc, n * 10 + 7, none⟩ = some (.int .u32 (c.r 7)) ∧ w'.cell? ⟨gc, n * 10 + 8, none⟩ = some (.int .i64 c.pc) ∧ w'.cell? ⟨gc, n * 10 + 9, none⟩ = some (.bool c.h))) 14 [(0, true), (1, true), (2, true), (3, true), (4, true), (5, true), (6, true), (7, true), (8, true), (9, true), (10, true), (11, true), (12, true), (13, false)] (by kernel_rfl) (by kernel_rfl) hS0.out ?_
      iterate 13
        refine plan_read (v := ?_) rfl (by rfl) ?_ ?_
        rotate_left
        · intro w' hS
          try dsimp only at hS
          go_simp
          try with_reducible rfl
        try simp only [Act.put, List.setIfInBounds_toArray, List.set_cons_zero, List.set_cons_succ]
      refine plan_call (F := 42) (args := ?_) rfl (by rfl) ?_ ?_
      rotate_left
      · go_simp
        rfl
      refine (kdone q m qc l c d was wc wc.drew b off n w.heap.size gc #[.slice (some ⟨gm, 0, none⟩) lm cm, .slice (some ⟨gc, 0, none⟩) len cc, (.slice po' lo' co')] HQL HPD HD HF ⟨hS0.out.1, hS0.out.2.1⟩ HC8 HFZ HGD HBD HKB7.out.lt (Below.refl _ _).drew).mono ?_
      rintro e w8 ⟨rfl, s8, e8, f8, hb8⟩
      refine ⟨_, rfl, ⟨s8.1, s8.2, e8⟩, ?_⟩
      refine plan_nil ?_
      try simp only [Act.put, List.setIfInBounds_toArray, List.set_cons_zero, List.set_cons_succ]
      simp only [List.drop_succ_cons, List.drop_zero]
      have HKN8 := Lib.hid (HKN7.out.below hb8)
      have HKB8 := Lib.hid (HKB7.out.below hb8)
      have HO8 := Lib.hid (HO7.out.below hb8)
      have HB9 : Hid (Below W0.heap.size W0 w8) := HB7.out.trans (hb8.mono HB7.out.size)
      have HW8 : Hid (w.heap.size ≤ w8.heap.size) := Nat.le_trans HS7 hb8.size
      obtain ⟨e0, e1, e2, e3, e4, e5, e6, e7, e8, e9⟩ := e8
      have c1 := HKB8.out.c
      have z1 := HKN8.out.c
      have zf := HKN8.out.f
      have ne1 : gc ≠ w.heap.size := fun e => LBB.out e.symm
      have ne2 : gc ≠ w.heap.size + 1 := by have h := HGC.out; intro e; omega
      have HBB := Lib.hid hb8
      clear s8 hb8 hS0 HKN7 HKB7 HO7 HB7 HC8 HFZ
      have z0 : w8.cell? ⟨w.heap.size + 1, 0, none⟩ = some (.slice none 0 0) := z1 0
      have z2 : w8.cell? ⟨w.heap.size + 1, 2, none⟩ = some (.slice none 0 0) := z1 2
      have z1 : w8.cell? ⟨w.heap.size + 1, 1, none⟩ = some (.slice none 0 0) := z1 1
      go_wp2
      refine bodyPost_ret (v := .agg #[.slice (some ⟨gm, 0, none⟩) lm cm, .slice (some ⟨gc, 0, none⟩) len cc, (.slice po' lo' co')]) (by simp [results, Try.results36, go_sem, z0, z1, z2]) rfl ⟨po', lo', co', rfl, ?_, ?_, HNJ.out⟩
      · rw [ha'.out, ← HWAS.out, ← HD.out]
        have hm := HO8.out.m
        have hc := HO8.out.c
        have ho := HO8.out.o
        simp only at hm hc ho
        have hn8 : n < a.cores.length := by rw [HLC.out]; exact hn
        have g := grown10 w8 gc (n * 10) (.int .u32 (d.r 0)) (.int .u32 (d.r 1)) (.int .u32 (d.r 2)) (.int .u32 (d.r 3)) (.int .u32 (d.r 4)) (.int .u32 (d.r 5)) (.int .u32 (d.r 6)) (.int .u32 (d.r 7)) (.int .i64 d.pc) (.bool d.h)
        have hm9 := hm.kept g (own_diff hm hc (by decide))
        have ho9 := ho.kept g (own_diff ho hc (by decide))
        have hc9 := own_store10 hc d hn8 HLC.out
        have hg1 : gm ≠ w.heap.size + 1 := by have h := GM.out; intro e; omega
        refine ⟨?_, ?_, ?_⟩
        · exact own_diff_set (own_diff_set (own_diff_set hm9 (.inr (fun e => hg1 (Option.some.inj e)))) (.inr (fun e => hg1 (Option.some.inj e)))) (.inr (fun e => hg1 (Option.some.inj e)))
        · show World.ownsRow _ _ _ _ _ (a.cores.set n d).length _
          rw [List.length_set]
          exact own_diff_set (own_diff_set (own_diff_set hc9 (.inr (fun e => ne2 (Option.some.inj e)))) (.inr (fun e => ne2 (Option.some.inj e)))) (.inr (fun e => ne2 (Option.some.inj e)))
        · exact own_diff_set (own_diff_set (own_diff_set ho9 (.inr HNB.out)) (.inr HNB.out)) (.inr HNB.out)
      · exact ((((HC7.out.more HBB.out).step (grown10 w8 gc (n * 10) _ _ _ _ _ _ _ _ _ _) (fun k hk => .inl (.inr (.inl hk)))).set (.inr (Nat.le_succ _))).set (.inr (Nat.le_succ _))).set (.inr (Nat.le_succ _))

theorem OwnM.forms {w : World} {base : Nat} {vm vc vo : Value} {a : Atm} (h : OwnM w base vm vc vo a) (h1 : 0 < a.mem.length) (h2 : 0 < a.cores.length) : ∃ gm cm gc cc po lo co, vm = .slice (some ⟨gm, 0, none⟩) a.mem.length cm ∧ vc = .slice (some ⟨gc, 0, none⟩) a.cores.length cc ∧ vo = .slice po lo co := by
  obtain ⟨gm, cm, e1⟩ := Joins.ownsRow_form h.m h1
  obtain ⟨gc, cc, e2⟩ := Joins.ownsRow_form h.c h2
  rcases Joins.ownsRow_forms h.o with ⟨e3, _⟩ | ⟨g, cap, e3⟩
  · exact ⟨gm, cm, gc, cc, _, _, _, e1, e2, e3⟩
  · exact ⟨gm, cm, gc, cc, _, _, _, e1, e2, e3⟩
theorem step_any (p : Option Addr) (cap : Nat) (P : List (List I5)) (vm vc vo : Value) (a : Atm) (n : Nat) (W0 w : World) (hp : Prgs W0 p P) (hn : n < P.length) (hlen : a.cores.length = P.length) (hb : Below W0.heap.size W0 w) (hf : a.Fits) (h1 : 1 ≤ a.mem.length) (h2 : a.mem.length ≤ 64) (hmo : (a.outs.length + 1) * 16 ≤ 140737488355328)
    (hown : OwnM w W0.heap.size vm vc vo a) :
    Calls Try.prog 36 #[.slice p P.length cap, .agg #[vm, vc, vo], .int .i64 n] w fun e w' => ∃ vo', e = .returned (.agg #[vm, vc, vo']) ∧ OwnM w' W0.heap.size vm vc vo' (stepA P a n) ∧ Chg (rows3 vm vc vo) w w' ∧ Below W0.heap.size W0 w' ∧ (∀ j, vo'.ownBlock = some j → vo.ownBlock = some j ∨ w.heap.size ≤ j) := by
  obtain ⟨b, off, hb0, rfl, hx⟩ := hp (by omega)
  obtain ⟨q, qc, hq, hqp⟩ := hx n hn
  obtain ⟨gm, cm, gc, cc, po, lo, co, rfl, rfl, rfl⟩ := hown.forms (by omega) (by omega)
  refine (step_in b off cap P.length P q _ qc (atP P n) (coreAt a.cores n) gm _ cm gc _ cc po lo co a n (wantOf (atP P n) (coreAt a.cores n) a.mem.length).kind (wantOf (atP P n) (coreAt a.cores n) a.mem.length).at_ (wantOf (atP P n) (coreAt a.cores n) a.mem.length).val (wantOf (atP P n) (coreAt a.cores n) a.mem.length).old W0 w hb0 hq rfl hqp (by omega) hlen hb rfl rfl rfl (hf.c n (by omega)) rfl h2 hmo (stepA P a n) rfl hown).mono ?_
  rintro e w' ⟨po', lo', co', rfl, ho, hc, hj⟩
  exact ⟨_, rfl, ho, hc, hc.below hb (fun k hk => (hown.rows k hk).1), hj⟩
end Go.Proofs.Ytekiialhljfglaa
/- Facts on a machine's steps, without any program: what fits stays so, what may be stays so. -/
namespace Go.Proofs.Ytekiialhljfglaa
set_option linter.unusedVariables false
open Go.ChangeShapes Go.WideShapes Go.ChangeAt Go.RowKit

def U32 (v : Int) : Prop := 0 ≤ v ∧ v ≤ 4294967295
def PF (P : List (List I5)) : Prop := ∀ i j, i < P.length → j < (atP P i).length → U32 (at5 (atP P i) j).k
theorem prgs_fits {w : World} {p : Option Addr} {P : List (List I5)} (h : Prgs w p P) : PF P := fun i j hi hj => by
  obtain ⟨b, off, _, _, hx⟩ := h (by omega)
  obtain ⟨q, cap, _, hp⟩ := hx i hi
  obtain ⟨b2, off2, _, _, hl⟩ := hp (by omega)
  obtain ⟨_, _, _, _, _, g0, g1⟩ := hl j hj
  exact ⟨g0, g1⟩
theorem zcor_fits : zcor.Fits := ⟨fun i _ => by simp [zcor], fun i _ => by simp [zcor]⟩
theorem u32_zero : U32 0 := ⟨by omega, by omega⟩
theorem want_fits (l : List I5) (c : Cor) (m : Int) (hf : c.Fits) (ha : coreB l c = true → mayB (insAt l c) l.length = true) : U32 (wantOf l c m).val := by
  unfold wantOf
  by_cases hc : (c.h || !coreB l c) = true
  · rw [if_pos hc]; exact u32_zero
  · rw [if_neg hc]
    have hcb : coreB l c = true := by
      cases h : coreB l c with
      | true => rfl
      | false => rw [h] at hc; simp at hc
    obtain ⟨a0, a1, b0, b1, c0, c1, _, _⟩ := may_regs (ha hcb)
    have hr : ∀ i : Int, 0 ≤ i → i < 8 → U32 (c.r i.toNat) := fun i h0 h1 => ⟨hf.r0 _ (by omega), hf.r1 _ (by omega)⟩
    unfold wantX
    split
    · exact u32_zero
    · split
      · exact hr _ a0 a1
      · split
        · exact hr _ c0 c1
        · split
          · exact hr _ a0 a1
          · split <;> exact u32_zero
theorem done_fits_any {l : List I5} {c : Cor} {a : Int} (hf : c.Fits) (ha : U32 a) (hk : ∀ j, j < l.length → U32 (at5 l j).k) : (doneOf l c a).Fits := by
  by_cases hc : coreB l c = true
  · have hpc := core_has hc
    have h := hk c.pc.toNat (by omega)
    exact done_fits hf ha h.1 h.2
  · have e : doneOf l c a = c := by
      unfold doneOf
      rw [if_pos]
      simp at hc
      simp [hc]
    rw [e]
    exact hf
theorem actWas_fits {mem : List Int} {x : Wnt} (hm : ∀ i, i < mem.length → U32 (mem.getD i 0)) : U32 (actWas mem x) := by
  unfold actWas
  split
  · rename_i h
    simp only [Bool.and_eq_true, actHit, decide_eq_true_eq] at h
    exact hm _ (by omega)
  · exact u32_zero
theorem actMem_fits {mem : List Int} {x : Wnt} (hm : ∀ i, i < mem.length → U32 (mem.getD i 0)) (hx : U32 x.val) : ∀ i, i < (actMem mem x).length → U32 ((actMem mem x).getD i 0) := fun i hi => by
  have hl := actMem_len mem x
  unfold actMem
  split
  · by_cases h : x.at_.toNat = i
    · subst h
      rw [hl] at hi
      simp [List.getD, hi]
      exact hx
    · have := hm i (by omega)
      simp only [List.getD, List.getElem?_set_ne h]
      simpa [List.getD] using this
  · exact hm i (by omega)
theorem stepA_fits {P : List (List I5)} {a : Atm} {n : Nat} (hf : a.Fits) (hp : PF P) (hn : n < P.length) (hc : a.cores.length = P.length) : (stepA P a n).Fits := by
  have hm : ∀ i, i < a.mem.length → U32 (a.mem.getD i 0) := fun i hi => hf.m i hi
  refine ⟨fun i hi => actMem_fits hm (want_fits _ _ _ (hf.c n (by omega)) (fun h => core_ins h)) i hi, fun i hi => ?_⟩
  rw [stepA_cores] at hi
  show (coreAt (a.cores.set n _) i).Fits
  by_cases h : i = n
  · subst h
    rw [coreAt_set_same _ _ _ hi]
    exact done_fits_any (hf.c i hi) (actWas_fits hm) (fun j hj => hp i j hn hj)
  · rw [coreAt_set_other _ _ _ _ h]
    exact hf.c i hi
theorem newA_fits (n words : Nat) : (newA n words).Fits := by
  refine ⟨fun i hi => ?_, fun i hi => ?_⟩
  · unfold newA at hi ⊢
    simp at hi
    simp [List.getD, hi]
  · unfold newA at hi ⊢
    simp at hi
    have : coreAt (List.replicate n zcor) i = zcor := by unfold coreAt; simp [List.getD, hi]
    rw [this]
    exact zcor_fits
theorem newA_mem (n words : Nat) : (newA n words).mem.length = words := by unfold newA; simp
theorem newA_cores (n words : Nat) : (newA n words).cores.length = n := by unfold newA; simp

/-- A machine of so many words, with a core for each program, all of which fits. -/
structure Good (P : List (List I5)) (words : Nat) (k : Nat) (a : Atm) : Prop where
  m : a.mem.length = words
  c : a.cores.length = P.length
  o : a.outs.length ≤ k
  f : a.Fits
theorem Good.new (P : List (List I5)) (words : Nat) : Good P words 0 (newA P.length words) := ⟨newA_mem _ _, newA_cores _ _, by simp [newA], newA_fits _ _⟩
theorem Good.step {P : List (List I5)} {words k n : Nat} {a : Atm} (h : Good P words k a) (hp : PF P) (hn : n < P.length) : Good P words (k + 1) (stepA P a n) :=
  ⟨(stepA_mem _ _ _).trans h.m, (stepA_cores _ _ _).trans h.c, Nat.le_trans (stepA_outs _ _ _) (Nat.succ_le_succ h.o), stepA_fits h.f hp hn h.c⟩
theorem Good.le {P : List (List I5)} {words k j : Nat} {a : Atm} (h : Good P words k a) (hk : k ≤ j) : Good P words j a := ⟨h.m, h.c, Nat.le_trans h.o hk, h.f⟩
theorem pick_in {P : List (List I5)} {a : Atm} {n : Nat} (h : n < a.cores.length) : pickA P a n = stepA P a n := by unfold pickA; rw [if_pos ⟨by omega, by omega⟩]; rfl
theorem pick_out {P : List (List I5)} {a : Atm} {n : Int} (h : ¬ (0 ≤ n ∧ n < a.cores.length)) : pickA P a n = a := by unfold pickA; rw [if_neg h]
theorem runA_take {P : List (List I5)} {words : Nat} {l : List Int} {k : Nat} (hk : k < l.length) : runA P words (l.take (k + 1)) = pickA P (runA P words (l.take k)) (l.getD k 0) := by
  unfold runA
  rw [List.take_add_one, List.foldl_append]
  simp [List.getD, hk]
theorem runA_good {P : List (List I5)} {words : Nat} (hp : PF P) (l : List Int) : ∀ k, k ≤ l.length → Good P words k (runA P words (l.take k)) := fun k => by
  induction k with
  | zero => intro _; exact Good.new P words
  | succ k ih =>
    intro hk
    have h := ih (by omega)
    rw [runA_take (by omega)]
    by_cases hn : 0 ≤ l.getD k 0 ∧ l.getD k 0 < (runA P words (l.take k)).cores.length
    · obtain ⟨n, hn'⟩ := Int.eq_ofNat_of_zero_le hn.1
      rw [hn'] at hn ⊢
      rw [pick_in (by omega)]
      exact h.step hp (by have := h.c; omega)
    · rw [pick_out hn]
      exact h.le (Nat.le_succ _)
end Go.Proofs.Ytekiialhljfglaa
/- What atom.Run answers. -/
namespace Go.Proofs.Ytekiialhljfglaa
set_option linter.unusedVariables false
open Go.ChangeShapes Go.WideShapes Go.ChangeAt Go.RowKit

def intC (l : List Int) : List Value := l.map (Value.int .i64)
theorem intC_len (l : List Int) : (intC l).length = l.length := by unfold intC; simp
theorem intC_at (l : List Int) (i : Nat) (hi : i < l.length) : (intC l)[i]? = some (.int .i64 (l.getD i 0)) := by unfold intC; simp [List.getD, hi]
theorem store3 {w : World} {X : Nat} {a0 a1 a2 v0 v1 v2 : Value} (hb : Blk w X #[a0, a1, a2]) : Blk (((w.setCell ⟨X, 0, none⟩ v0).setCell ⟨X, 1, none⟩ v1).setCell ⟨X, 2, none⟩ v2) X #[v0, v1, v2] :=
  (((hb.set v0 (by simp)).set v1 (by simp)).set v2 (by simp)).cast (by simp)
theorem Blk.other3 {w : World} {B X : Nat} {cs : Array Value} (h : Blk w B cs) (hne : X ≠ B) (v0 v1 v2 : Value) : Blk (((w.setCell ⟨X, 0, none⟩ v0).setCell ⟨X, 1, none⟩ v1).setCell ⟨X, 2, none⟩ v2) B cs := ((h.other _ hne).other _ hne).other _ hne
theorem Blk.chg {R : Nat → Prop} {w w' : World} {B : Nat} {cs : Array Value} (h : Blk w B cs) (hc : Chg R w w') (hR : ¬ R B) : Blk w' B cs := by
  have e := hc.block B h.lt hR
  refine ⟨Nat.lt_of_lt_of_le h.lt hc.size, fun j => ?_, fun j => ?_⟩
  · rw [← h.c j]; unfold World.cell?; rw [e]
  · rw [← h.f j]; unfold World.frozen?; rw [e]
theorem own3_set {w : World} {base B : Nat} {vm vc vo : Value} {a : Atm} (h : OwnM w base vm vc vo a) (hne : ¬ rows3 vm vc vo B) (v0 v1 v2 : Value) : OwnM (((w.setCell ⟨B, 0, none⟩ v0).setCell ⟨B, 1, none⟩ v1).setCell ⟨B, 2, none⟩ v2) base vm vc vo a := by
  have h1 : vm.ownBlock ≠ some B := fun e => hne (.inl e)
  have h2 : vc.ownBlock ≠ some B := fun e => hne (.inr (.inl e))
  have h3 : vo.ownBlock ≠ some B := fun e => hne (.inr (.inr e))
  exact ⟨own_diff_set (own_diff_set (own_diff_set h.m (.inr h1)) (.inr h1)) (.inr h1), own_diff_set (own_diff_set (own_diff_set h.c (.inr h2)) (.inr h2)) (.inr h2), own_diff_set (own_diff_set (own_diff_set h.o (.inr h3)) (.inr h3)) (.inr h3)⟩
theorem below_set3 {N X : Nat} {w w1 : World} (h : Below N w w1) (hN : N ≤ X) (v0 v1 v2 : Value) : Below N w (((w1.setCell ⟨X, 0, none⟩ v0).setCell ⟨X, 1, none⟩ v1).setCell ⟨X, 2, none⟩ v2) := ((h.setCell hN _).setCell hN _).setCell hN _

theorem OwnM.form3 {w : World} {base : Nat} {vm vc vo : Value} {a : Atm} (h : OwnM w base vm vc vo a) : ∃ po lo co, vo = .slice po lo co := by
  rcases Joins.ownsRow_forms h.o with ⟨e3, _⟩ | ⟨g, cap, e3⟩
  · exact ⟨_, _, _, e3⟩
  · exact ⟨_, _, _, e3⟩

set_option maxHeartbeats 1000000 in
theorem run_no (p pp : Option Addr) (np cap len pcap : Nat) (words : Int) (P : List (List I5)) (w : World) (hl : P.length = np) (hp : Prgs w p P) (h : newOk P words = false) :
    Calls Try.prog 21 #[.slice p np cap, .int .i64 words, .slice pp len pcap] w fun e w' => e = .returned (.tuple #[.agg #[.slice none 0 0, .slice none 0 0, .slice none 0 0], .int .i64 1]) ∧ Below w.heap.size w w' := by
  have HL := Lib.hid hl
  have HP := Lib.hid hp
  have HN := Lib.hid h
  clear hl hp h
  go_enter Try.func21, Try.ntmps21
  go_wp2_with fail
  have b0 : Hid (Below w.heap.size w (w.alloc (.cells #[.slice none 0 0, .slice none 0 0, .slice none 0 0] 27))) := (Below.refl _ _).alloc (Nat.le_refl _) _
  refine (new_no p np cap words P _ HL.out (HP.out.below b0.out) (newOk_not HN.out)).mono ?_
  rintro e w1 ⟨rfl, hb1⟩
  have k1 : Hid (Blk w1 w.heap.size #[.slice none 0 0, .slice none 0 0, .slice none 0 0]) := Blk.track1 hb1
  have b1 : Hid (Below w.heap.size w w1) := b0.out.trans (hb1.mono b0.out.size)
  clear hb1 b0
  have c := k1.out.c
  have f := k1.out.f
  have lt := k1.out.lt
  have ne := Nat.ne_of_lt lt
  go_wp2
  refine bodyPost_ret (v := .tuple #[.agg #[.slice none 0 0, .slice none 0 0, .slice none 0 0], .int .i64 1]) (by simp [results, Try.results21, go_sem, *]) rfl ⟨rfl, ?_⟩
  exact (below_set3 b1.out (Nat.le_refl _) _ _ _).alloc (by simp only [size_set]; exact b1.out.size) _

set_option maxHeartbeats 2000000 in
theorem run_yes (p pp : Option Addr) (np cap len pcap words : Nat) (P : List (List I5)) (l : List Int) (w : World) (hl : P.length = np) (hp : Prgs w p P) (h : newOk P words = true) (hll : l.length = len) (hmax : (len + 1) * 16 ≤ 140737488355328) (hpp : Sl w pp len (intC l)) :
    Calls Try.prog 21 #[.slice p np cap, .int .i64 words, .slice pp len pcap] w fun e w' => ∃ vm vc vo, e = .returned (.tuple #[.agg #[vm, vc, vo], .int .i64 0]) ∧ OwnM w' w.heap.size vm vc vo (runA P words l) ∧ Below w.heap.size w w' := by
  have HL := Lib.hid hl
  have HP := Lib.hid hp
  have HN := Lib.hid (newOk_has h)
  have HLL := Lib.hid hll
  have HPP := Lib.hid hpp
  have HPF := Lib.hid (prgs_fits hp)
  clear hl hp h hll hpp
  have hal := all_len HN.out.2.2
  rw [HL.out] at hal
  go_enter Try.func21, Try.ntmps21
  go_wp2_with fail
  have b0 : Hid (Below w.heap.size w (w.alloc (.cells #[.slice none 0 0, .slice none 0 0, .slice none 0 0] 27))) := (Below.refl _ _).alloc (Nat.le_refl _) _
  have hw1 : 1 ≤ words := by have := HN.out.1; omega
  have hw2 : words ≤ 64 := by have := HN.out.2.1; omega
  refine (new_yes p np cap words P _ HL.out (HP.out.below b0.out) hw1 hw2 HN.out.2.2 hal.2).mono ?_
  rintro e w1 ⟨vm, vc, vo, rfl, hown, hb1⟩
  have k1 : Hid (Blk w1 w.heap.size #[.slice none 0 0, .slice none 0 0, .slice none 0 0]) := Blk.track1 hb1
  have b1 : Hid (Below w.heap.size w w1) := b0.out.trans (hb1.mono b0.out.size)
  have hg := hown.rows
  rw [World.size_alloc] at hown hg
  obtain ⟨gm, cm, gc, cc, po, lo, co, rfl, rfl, rfl⟩ := hown.forms (by rw [newA_mem]; omega) (by rw [newA_cores]; omega)
  rw [newA_mem, newA_cores] at hown hg ⊢
  have HO1 : Hid (OwnM w1 w.heap.size (.slice (some ⟨gm, 0, none⟩) words cm) (.slice (some ⟨gc, 0, none⟩) np cc) (.slice po lo co) (newA np words)) := ⟨Joins.ownsRow_le hown.m (Nat.le_succ _), Joins.ownsRow_le hown.c (Nat.le_succ _), Joins.ownsRow_le hown.o (Nat.le_succ _)⟩
  have HG := Lib.hid hg
  clear hb1 b0 hown hg
  go_wp2_with fail
  go_loopw [24] (fun i wr => ∃ k : Nat, k ≤ len ∧ i = .int .i64 k ∧ ∃ po lo co, Blk wr w1.heap.size #[.slice (some ⟨gm, 0, none⟩) words cm, .slice (some ⟨gc, 0, none⟩) np cc, .slice po lo co] ∧ Blk wr w.heap.size #[.slice none 0 0, .slice none 0 0, .slice none 0 0] ∧ OwnM wr w.heap.size (.slice (some ⟨gm, 0, none⟩) words cm) (.slice (some ⟨gc, 0, none⟩) np cc) (.slice po lo co) (runA P words (l.take k)) ∧ (∀ j, (Value.slice po lo co).ownBlock = some j → w.heap.size < j ∧ j ≠ w1.heap.size) ∧ Below w.heap.size w wr ∧ w1.heap.size < wr.heap.size) (fun i _ => len - (intOf i).toNat)
  case atStart =>
    refine ⟨0, Nat.zero_le _, rfl, po, lo, co, Blk.new w1 _ 27, k1.out.alloc _, ?_, ?_, b1.out.alloc b1.out.size _, by simp⟩
    · rw [List.take_zero]
      have e : runA P words [] = newA np words := by rw [← HL.out]; rfl
      rw [e]
      exact HO1.out.below ((Below.refl _ _).alloc (Nat.le_refl _) _)
    · intro j hj
      have := HG.out j (.inr (.inr hj))
      omega
  case round =>
    obtain ⟨i, hi, rfl, po', lo', co', hbx, hbn, ho, hob, hbel, hsz⟩ := hrel
    have HBX := Lib.hid hbx
    have HBN := Lib.hid hbn
    have HO := Lib.hid ho
    have HOB := Lib.hid hob
    have HBE := Lib.hid hbel
    have HSZ := Lib.hid hsz
    have HRW : Hid (∀ j, rows3 (.slice (some ⟨gm, 0, none⟩) words cm) (.slice (some ⟨gc, 0, none⟩) np cc) (.slice po' lo' co') j → w.heap.size < j ∧ j ≠ w1.heap.size) := by
      intro j hj
      rcases hj with hj | hj | hj
      · have := HG.out j (.inl hj); omega
      · have := HG.out j (.inr (.inl hj)); omega
      · exact hob j hj
    clear hbx hbn ho hob hbel hsz
    have cX := HBX.out.c
    have fX := HBX.out.f
    have lX := HBX.out.lt
    by_cases hlt : i < len
    · obtain ⟨b, off, hb1, rfl, hb3⟩ := HPP.out.below HBE.out (by omega)
      obtain ⟨n, hn⟩ : ∃ n, n = l.getD i 0 := ⟨_, rfl⟩
      have c0 : wr.cell? ⟨b, off + i, none⟩ = some (.int .i64 n) := (hb3 i (by rw [intC_len, HLL.out]; exact hlt)).trans (by rw [hn]; exact intC_at l i (by rw [HLL.out]; exact hlt))
      have HNN := Lib.hid hn
      clear hn hb3 hb1
      go_wp2_with fail
      refine (has_any _ _ _ _ _ _ _ _ _ n wr).mono ?_
      rintro e w2 ⟨rfl, hb2⟩
      have HBX2 := Lib.hid (HBX.out.below hb2)
      have HBN2 := Lib.hid (HBN.out.below hb2)
      have HO2 := Lib.hid (HO.out.below hb2)
      have HBE2 := Lib.hid (HBE.out.trans (hb2.mono HBE.out.size))
      have HSZ2 : Hid (w1.heap.size < w2.heap.size) := Nat.lt_of_lt_of_le HSZ.out hb2.size
      clear hb2 cX fX lX c0
      have cX := HBX2.out.c
      have fX := HBX2.out.f
      have lX := HBX2.out.lt
      have HGD : Hid (Good P words i (runA P words (l.take i))) := runA_good HPF.out l i (by rw [HLL.out]; omega)
      have HTK : Hid (runA P words (l.take (i + 1)) = pickA P (runA P words (l.take i)) n) := by rw [HNN.out]; exact runA_take (by rw [HLL.out]; exact hlt)
      by_cases hin : 0 ≤ n ∧ n < np
      · obtain ⟨m, rfl⟩ := Int.eq_ofNat_of_zero_le hin.1
        have e1 : (decide (0 ≤ (m : Int)) && decide ((m : Int) < (np : Int))) = true := by rw [decide_eq_true hin.1, decide_eq_true hin.2]; rfl
        rw [e1]
        have hmn : m < P.length := by rw [HL.out]; omega
        have hst := step_any p cap P _ _ _ _ m w w2 HP.out hmn HGD.out.c HBE2.out HGD.out.f (by rw [HGD.out.m]; exact hw1) (by rw [HGD.out.m]; exact hw2) (by have := HGD.out.o; omega) HO2.out
        rw [HL.out] at hst
        go_wp2_with fail
        refine hst.mono ?_
        clear hst
        rintro e w3 ⟨vo', rfl, ho3, hc3, hb3, hj3⟩
        obtain ⟨po3, lo3, co3, rfl⟩ := ho3.form3
        have nX : ¬ rows3 (.slice (some ⟨gm, 0, none⟩) words cm) (.slice (some ⟨gc, 0, none⟩) np cc) (.slice po' lo' co') w1.heap.size := fun h => (HRW.out _ h).2 rfl
        have nN : ¬ rows3 (.slice (some ⟨gm, 0, none⟩) words cm) (.slice (some ⟨gc, 0, none⟩) np cc) (.slice po' lo' co') w.heap.size := fun h => Nat.lt_irrefl _ (HRW.out _ h).1
        have HBX3 := Lib.hid (HBX2.out.chg hc3 nX)
        have HBN3 := Lib.hid (HBN2.out.chg hc3 nN)
        have HO3 := Lib.hid ho3
        have HB3 := Lib.hid hb3
        have HSZ3 : Hid (w1.heap.size < w3.heap.size) := Nat.lt_of_lt_of_le HSZ2.out hc3.size
        have HOB3 : Hid (∀ j, (Value.slice po3 lo3 co3).ownBlock = some j → w.heap.size < j ∧ j ≠ w1.heap.size) := by
          intro j hj
          rcases hj3 j hj with h | h
          · exact HOB.out j h
          · have h1 := HSZ2.out
            have h2 := b1.out.size
            omega
        clear hc3 nX nN ho3 hb3 hj3 cX fX lX
        have cX := HBX3.out.c
        have fX := HBX3.out.f
        have lX := HBX3.out.lt
        go_wp2
        go_roundw
        case rel =>
          have nX : ¬ rows3 (.slice (some ⟨gm, 0, none⟩) words cm) (.slice (some ⟨gc, 0, none⟩) np cc) (.slice po3 lo3 co3) w1.heap.size := by
            rintro (h | h | h)
            · exact (HRW.out _ (.inl h)).2 rfl
            · exact (HRW.out _ (.inr (.inl h))).2 rfl
            · exact (HOB3.out _ h).2 rfl
          refine ⟨i + 1, by omega, by go_num, po3, lo3, co3, store3 HBX3.out, HBN3.out.other3 ?_ _ _ _, ?_, HOB3.out, below_set3 HB3.out b1.out.size _ _ _, by simp only [size_set]; exact HSZ3.out⟩
          · have := k1.out.lt; omega
          · rw [HTK.out, pick_in (by rw [HGD.out.c]; exact hmn)]
            exact own3_set HO3.out nX _ _ _
        case measure => simp [intOf]; omega
      · have e1 : (decide (0 ≤ n) && decide (n < (np : Int))) = false := by
          rcases (show ¬ 0 ≤ n ∨ ¬ n < np by omega) with h | h
          · rw [decide_eq_false h]; rfl
          · rw [decide_eq_false h]; simp
        rw [e1]
        go_wp2
        go_roundw
        case rel =>
          refine ⟨i + 1, by omega, by go_num, po', lo', co', HBX2.out, HBN2.out, ?_, HOB.out, HBE2.out, HSZ2.out⟩
          rw [HTK.out, pick_out (by rw [HGD.out.c, HL.out]; exact hin)]
          exact HO2.out
        case measure => simp [intOf]; omega
    · have cN := HBN.out.c
      have fN := HBN.out.f
      have lN := HBN.out.lt
      go_wp2
      refine bodyPost_ret (v := .tuple #[.agg #[.slice (some ⟨gm, 0, none⟩) words cm, .slice (some ⟨gc, 0, none⟩) np cc, .slice po' lo' co'], .int .i64 0]) (by simp [results, Try.results21, go_sem, *]) rfl ⟨_, _, _, rfl, ?_, below_set3 HBE.out (Nat.le_refl _) _ _ _⟩
      have e : l.take i = l := List.take_of_length_le (by rw [HLL.out]; omega)
      have ho := HO.out
      rw [e] at ho
      exact own3_set ho (fun h => Nat.lt_irrefl _ (HRW.out _ h).1) _ _ _
end Go.Proofs.Ytekiialhljfglaa
/- What an argument that is a machine, a list of words, cores, numbers, or something wanted, reads as: lists in cells; no condition. -/
namespace Go.Proofs.Ytekiialhljfglaa
set_option linter.unusedVariables false
open Go.ChangeShapes Go.WideShapes Go.ChangeAt Go.RowKit Go.Deep

section
variable {H : Type} {enc : TypeId × Value → H} {w : World} {base : Nat} {spare : Nat → Bool} {held : Bool}

/-- A slice of things that each take sz cells. -/
theorem rows_of_cells {α : Type} {T e : TypeId} {sz : Nat} (z : α) (f : α → List Value) (Pa : α → Prop) (hT : Try.prog.underlying T = some (.slice e)) (hc : Try.prog.cellsOf e = sz) (h0 : 0 < sz) (hf : ∀ x, (f x).length = sz)
    (hopen : ∀ fuel cs (x : DataW H × List MemPlace), DataW.trod enc Try.prog w base spare held fuel e cs = some x → ∃ y, cs = f y ∧ Pa y)
    {fuel : Nat} {p : Option Addr} {len cap : Nat} {x : DataW H × List MemPlace} (h : DataW.trod enc Try.prog w base spare held fuel T [.slice p len cap] = some x) :
    ∃ l : List α, l.length = len ∧ len ≤ maxLen ∧ (∀ i, i < len → Pa (l.getD i z)) ∧ Sl w p len (l.flatMap f) ∧ (len = 0 ∨ ∃ elems sp, x.1 = .slice elems sp ∧ elems.length = len) := by
  rcases open_slice hT h with ⟨hcs, _⟩ | ⟨a, len', cap', m, n, D, Pl, hcs, _, hl, hm, hmm, hx, hi⟩
  · simp at hcs
    obtain ⟨rfl, rfl, rfl⟩ := hcs
    exact ⟨[], rfl, Nat.zero_le _, fun i h0 => absurd h0 (by simp), Sl.empty _ _ _, .inl rfl⟩
  · simp at hcs
    obtain ⟨rfl, rfl, rfl⟩ := hcs
    have hlm : len ≤ m := by rw [hmm]; split <;> omega
    have hex : ∀ i, i < len → ∃ y : α, (∀ j, j < sz → w.cell? ((a.add (i * sz)).add j) = (f y)[j]?) ∧ Pa y := fun i hlt => by
      obtain ⟨cs', hcc, ht⟩ := hi i (by omega)
      rw [hc] at hcc
      obtain ⟨y, rfl, hy⟩ := hopen _ _ _ ht
      exact ⟨y, (World.cells?_some hcc).2.2, hy⟩
    have : Inhabited α := ⟨z⟩
    obtain ⟨g, hg⟩ := choose_lt hex
    have ge : ∀ i, i < len → ((List.range len).map g).getD i z = g i := fun i hi' => by simp [List.getD, hi']
    refine ⟨(List.range len).map g, by simp, Nat.le_trans hl hm, fun i hi' => by rw [ge i hi']; exact (hg i hi').2, fun h1 => ?_, .inr ⟨(List.range len).map D, _, by rw [hx], by simp⟩⟩
    have hc0 := (hg 0 h1).1 0 h0
    have hz : (a.add (0 * sz)).add 0 = a.add 0 := by simp [Addr.add]
    rw [hz] at hc0
    have hs0 : ∃ v, (f (g 0))[0]? = some v := ⟨_, List.getElem?_eq_getElem (by rw [hf]; exact h0)⟩
    obtain ⟨v, hv⟩ := hs0
    rw [hv] at hc0
    obtain ⟨hlt, ha⟩ := add_zero_spot hc0
    refine ⟨a.block, a.off, hlt, by rw [← ha], fun j hj => ?_⟩
    rw [flat_len f sz hf, List.length_map, List.length_range] at hj
    have hq : j / sz < len := by rw [Nat.div_lt_iff_lt_mul h0]; exact hj
    have hr : j % sz < sz := Nat.mod_lt _ h0
    have hcell := (hg (j / sz) hq).1 (j % sz) hr
    have ej : j / sz * sz + j % sz = j := Nat.div_add_mod' j sz
    have hfl := flat_at f sz hf z ((List.range len).map g) (j / sz) (j % sz) (by simpa using hq) hr
    rw [ej, ge _ hq] at hfl
    rw [hfl, ← hcell, ha, add_plain, add_plain]
    rw [show a.off + j / sz * sz + j % sz = a.off + j by omega]

def u32C (v : Int) : List Value := [.int .u32 v]
theorem memC_flat (l : List Int) : memC l = l.flatMap u32C := by
  unfold memC u32C
  induction l with
  | nil => rfl
  | cons x l ih => simp [ih]
def i64C (v : Int) : List Value := [.int .i64 v]
theorem intC_flat (l : List Int) : intC l = l.flatMap i64C := by
  unfold intC i64C
  induction l with
  | nil => rfl
  | cons x l ih => simp [ih]
def u8C (l : List Int) : List Value := l.map (Value.int .u8)
def u8C1 (v : Int) : List Value := [.int .u8 v]
theorem u8C_flat (l : List Int) : u8C l = l.flatMap u8C1 := by
  unfold u8C u8C1
  induction l with
  | nil => rfl
  | cons x l ih => simp [ih]

theorem cells_told : Try.prog.cellsOf 63 = 2 := by kernel_rfl
theorem cells_u8 : Try.prog.cellsOf 5 = 1 := by kernel_rfl
theorem cells_s23 : Try.prog.cellsOf 23 = 1 := by kernel_rfl
theorem cells_s24 : Try.prog.cellsOf 24 = 1 := by kernel_rfl
theorem cells_s25 : Try.prog.cellsOf 25 = 1 := by kernel_rfl

theorem told_of_cells {fuel : Nat} {cs : List Value} {x : DataW H × List MemPlace} (h : DataW.trod enc Try.prog w base spare held fuel 63 cs = some x) : ∃ o : Int × Int, cs = outC o := by
  obtain ⟨xs, n, _, _, hlen, hxl, hf⟩ := DataW.trod_struct Try.underlying63 h
  rw [cells_told] at hlen
  match cs, hlen with
  | [v0, v1], _ =>
    match xs, hxl with
    | [y0, y1], _ =>
      have e0 : DataW.trod enc Try.prog w base spare held n 3 [v0] = some y0 := by simpa [cells_int] using hf 0 _ rfl
      have e1 : DataW.trod enc Try.prog w base spare held n 28 [v1] = some y1 := by simpa [cells_num] using hf 1 _ rfl
      obtain ⟨p, q1, _, _⟩ := DataW.trod_int Try.underlying3 e0
      obtain ⟨b, q2, _, _⟩ := DataW.trod_int Try.underlying28 e1
      simp at q1 q2
      subst q1 q2
      exact ⟨(p, b), rfl⟩
theorem want_of_cells {fuel : Nat} {cs : List Value} {x : DataW H × List MemPlace} (h : DataW.trod enc Try.prog w base spare held fuel 30 cs = some x) : ∃ k : Wnt, cs = k.row.toList := by
  obtain ⟨xs, n, _, _, hlen, hxl, hf⟩ := DataW.trod_struct Try.underlying30 h
  have e : Try.prog.cellsOf 30 = 4 := by kernel_rfl
  rw [e] at hlen
  match cs, hlen with
  | [v0, v1, v2, v3], _ =>
    match xs, hxl with
    | [y0, y1, y2, y3], _ =>
      have e0 : DataW.trod enc Try.prog w base spare held n 3 [v0] = some y0 := by simpa [cells_int] using hf 0 _ rfl
      have e1 : DataW.trod enc Try.prog w base spare held n 3 [v1] = some y1 := by simpa [cells_int] using hf 1 _ rfl
      have e2 : DataW.trod enc Try.prog w base spare held n 28 [v2] = some y2 := by simpa [cells_num] using hf 2 _ rfl
      have e3 : DataW.trod enc Try.prog w base spare held n 28 [v3] = some y3 := by simpa [cells_num] using hf 3 _ rfl
      obtain ⟨a, q0, _, _⟩ := DataW.trod_int Try.underlying3 e0
      obtain ⟨b, q1, _, _⟩ := DataW.trod_int Try.underlying3 e1
      obtain ⟨c, q2, _, _⟩ := DataW.trod_int Try.underlying28 e2
      obtain ⟨d, q3, _, _⟩ := DataW.trod_int Try.underlying28 e3
      simp at q0 q1 q2 q3
      subst q0 q1 q2 q3
      exact ⟨⟨a, b, c, d⟩, rfl⟩
theorem words_of_cells {fuel : Nat} {p : Option Addr} {len cap : Nat} {x : DataW H × List MemPlace} (h : DataW.trod enc Try.prog w base spare held fuel 23 [.slice p len cap] = some x) :
    ∃ l : List Int, l.length = len ∧ len ≤ maxLen ∧ (∀ i, i < len → 0 ≤ l.getD i 0 ∧ l.getD i 0 ≤ 4294967295) ∧ Sl w p len (memC l) := by
  obtain ⟨l, h1, h2, h3, h4, _⟩ := rows_of_cells (0 : Int) u32C (fun v => 0 ≤ v ∧ v ≤ 4294967295) Try.underlying23 cells_num (by decide) (fun _ => rfl) (fun fuel cs x hx => by
    obtain ⟨n, hn, _, wf⟩ := DataW.trod_int Try.underlying28 hx
    have b := bounds_u32 wf
    exact ⟨n, hn, b.1, b.2⟩) h
  exact ⟨l, h1, h2, h3, by rw [memC_flat]; exact h4⟩
theorem ints_of_cells {fuel : Nat} {p : Option Addr} {len cap : Nat} {x : DataW H × List MemPlace} (h : DataW.trod enc Try.prog w base spare held fuel 48 [.slice p len cap] = some x) :
    ∃ l : List Int, l.length = len ∧ len ≤ maxLen ∧ Sl w p len (intC l) := by
  obtain ⟨l, h1, h2, _, h4, _⟩ := rows_of_cells (0 : Int) i64C (fun _ => True) Try.underlying48 cells_int (by decide) (fun _ => rfl) (fun fuel cs x hx => by
    obtain ⟨n, hn, _, _⟩ := DataW.trod_int Try.underlying3 hx
    exact ⟨n, hn, trivial⟩) h
  exact ⟨l, h1, h2, by rw [intC_flat]; exact h4⟩
theorem bytes_of_cells {fuel : Nat} {p : Option Addr} {len cap : Nat} {x : DataW H × List MemPlace} (h : DataW.trod enc Try.prog w base spare held fuel 51 [.slice p len cap] = some x) :
    ∃ l : List Int, l.length = len ∧ len ≤ maxLen ∧ (∀ i, i < len → 0 ≤ l.getD i 0 ∧ l.getD i 0 ≤ 255) ∧ Sl w p len (u8C l) := by
  obtain ⟨l, h1, h2, h3, h4, _⟩ := rows_of_cells (0 : Int) u8C1 (fun v => 0 ≤ v ∧ v ≤ 255) Try.underlying51 cells_u8 (by decide) (fun _ => rfl) (fun fuel cs x hx => by
    obtain ⟨n, hn, _, wf⟩ := DataW.trod_int Try.underlying5 hx
    have b := bounds_u8 wf
    exact ⟨n, hn, b.1, b.2⟩) h
  exact ⟨l, h1, h2, h3, by rw [u8C_flat]; exact h4⟩
theorem form_slice {T e : TypeId} (hT : Try.prog.underlying T = some (.slice e)) {fuel : Nat} {v : Value} {x : DataW H × List MemPlace} (h : DataW.trod enc Try.prog w base spare held fuel T [v] = some x) : ∃ p len cap, v = .slice p len cap := by
  rcases open_slice hT h with ⟨hcs, _⟩ | ⟨a, len', cap', m, n, D, Pl, hcs, _⟩
  · simp at hcs; exact ⟨_, _, _, hcs⟩
  · simp at hcs; exact ⟨_, _, _, hcs⟩
/-- A machine. -/
theorem atom_of_cells {fuel : Nat} {cs : List Value} {x : DataW H × List MemPlace} (h : DataW.trod enc Try.prog w base spare held fuel 27 cs = some x) :
    ∃ (a : Atm) (v0 v1 v2 : Value), cs = [v0, v1, v2] ∧ Mach w (.agg #[v0, v1, v2]) a ∧ a.Fits ∧ a.mem.length ≤ maxLen ∧ a.cores.length ≤ maxLen ∧ a.outs.length ≤ maxLen ∧
      ∃ d0 d1 d2, x.1 = .agg [d0, d1, d2] ∧ (a.outs.length = 0 ∨ ∃ elems sp, d2 = .slice elems sp ∧ elems.length = a.outs.length) := by
  obtain ⟨xs, n, _, hx, hlen, hxl, hf⟩ := DataW.trod_struct Try.underlying27 h
  have e : Try.prog.cellsOf 27 = 3 := by kernel_rfl
  rw [e] at hlen
  match cs, hlen with
  | [v0, v1, v2], _ =>
    match xs, hxl with
    | [y0, y1, y2], _ =>
      have e0 : DataW.trod enc Try.prog w base spare held n 23 [v0] = some y0 := by simpa [cells_s23] using hf 0 _ rfl
      have e1 : DataW.trod enc Try.prog w base spare held n 24 [v1] = some y1 := by simpa [cells_s24] using hf 1 _ rfl
      have e2 : DataW.trod enc Try.prog w base spare held n 25 [v2] = some y2 := by simpa [cells_s25] using hf 2 _ rfl
      obtain ⟨p0, l0, c0, rfl⟩ := form_slice Try.underlying23 e0
      obtain ⟨p1, l1, c1, rfl⟩ := form_slice Try.underlying24 e1
      obtain ⟨p2, l2, c2, rfl⟩ := form_slice Try.underlying25 e2
      obtain ⟨mem, rfl, m1, m2, m3⟩ := words_of_cells e0
      obtain ⟨cores, rfl, k1, k2, k3, _⟩ := rows_of_cells zcor coreC Cor.Fits Try.underlying24 cells_core (by decide) coreC_len (fun fuel cs x hx => core_of_cells hx) e1
      obtain ⟨outs, rfl, o1, _, o3, o4⟩ := rows_of_cells ((0, 0) : Int × Int) outC (fun _ => True) Try.underlying25 cells_told (by decide) outC_len (fun fuel cs x hx => by
        obtain ⟨o, ho⟩ := told_of_cells hx
        exact ⟨o, ho, trivial⟩) e2
      exact ⟨⟨mem, cores, outs⟩, _, _, _, rfl, ⟨p0, c0, p1, c1, p2, c2, rfl, m3, k3, o3⟩, ⟨m2, k2⟩, m1, k1, o1, y0.1, y1.1, y2.1, by rw [hx]; rfl, o4⟩
end

/-- What the form's own reach says of what a machine told. -/
theorem outs_sized {H : Type} {ts : List TypeId} {ds : List (DataW H)} {j : Nat} {d0 d1 d2 : DataW H} {k : Nat} (h : (DataW.weightsEach Try.prog ts ds).all (· ≤ reachBytes) = true) (ht : ts[j]? = some 27) (hd : ds[j]? = some (.agg [d0, d1, d2])) (hk : k = 0 ∨ ∃ elems sp, d2 = .slice elems sp ∧ elems.length = k) :
    (k + 1) * 16 ≤ 140737488355328 := by
  rcases hk with rfl | ⟨elems, sp, rfl, rfl⟩
  · decide
  · have hb : Try.prog.bytesOf 63 = 16 := by kernel_rfl
    have hm : (elems.length + sp.length) * Try.prog.bytesOf 63 ∈ DataW.weights Try.prog 27 (.agg [d0, d1, .slice elems sp]) := by
      simp [DataW.weights, DataW.weightsEach, Try.underlying27, Try.underlying25]
    have := List.all_eq_true.1 h _ (DataW.weights_mem_each ht hd _ hm)
    rw [hb] at this
    have h2 : (elems.length + sp.length) * 16 ≤ 140737488351232 := of_decide_eq_true this
    omega
end Go.Proofs.Ytekiialhljfglaa
