/- What core.Done answers where the core may be; it writes nothing that was there. -/
import Derived.Test.YtdebkncjmbhneaaCoreE
namespace Go.Proofs.Ytdebkncjmbhneaa
set_option linter.unusedVariables false
open Go.ChangeShapes Go.WideShapes Go.ChangeAt Go.RowKit

theorem row_pc (r : Nat → Int) (n p : Int) (h : Bool) (j : Nat) (hj : j ≠ 8) : (Cor.row ⟨r, p, h⟩)[j]? = (Cor.row ⟨r, n, h⟩)[j]? := by
  match j with
  | 0 | 1 | 2 | 3 | 4 | 5 | 6 | 7 => rfl
  | 8 => exact absurd rfl hj
  | 9 => rfl
  | j + 10 => rw [Array.getElem?_eq_none (by simp [Cor.row]), Array.getElem?_eq_none (by simp [Cor.row])]
theorem row_set_same (c : Cor) (n : Nat) (v : Int) (h : n < 8) : (c.set n v).row[n]? = some (.int .u32 v) := by
  rw [Cor.row_at _ n h]; simp [Cor.set]
theorem row_set (c : Cor) (n : Nat) (v : Int) (j : Nat) (hj : j ≠ n) : (c.set n v).row[j]? = c.row[j]? := by
  by_cases h : j < 8
  · rw [Cor.row_at _ j h, Cor.row_at _ j h]; simp [Cor.set, hj]
  · match j with
    | 0 | 1 | 2 | 3 | 4 | 5 | 6 | 7 => exact absurd (by decide) h
    | 8 => rfl
    | 9 => rfl
    | j + 10 => rw [Array.getElem?_eq_none (by simp [Cor.row]), Array.getElem?_eq_none (by simp [Cor.row])]

set_option maxHeartbeats 1000000 in
theorem done_stop (b off len cap n : Nat) (l : List I5) (a bb cc k : Int) (r : Nat → Int) (was : Int) (w : World) (hl : l.length = len) (hp : Prg w (some ⟨b, off, none⟩) l) (hv : coreB l ⟨r, n, false⟩ = true) (hn : n < len) (hlen : len ≤ 64)
    (hlt : b < w.heap.size) (hx : Lies w b (off + n * 5) ⟨16, a, bb, cc, k⟩) :
    Calls Try.prog 11 #[.slice (some ⟨b, off, none⟩) len cap, .agg #[.int .u32 (r 0), .int .u32 (r 1), .int .u32 (r 2), .int .u32 (r 3), .int .u32 (r 4), .int .u32 (r 5), .int .u32 (r 6), .int .u32 (r 7), .int .i64 n, .bool false], .int .u32 was] w fun e w' => e = .returned (.agg #[.int .u32 (r 0), .int .u32 (r 1), .int .u32 (r 2), .int .u32 (r 3), .int .u32 (r 4), .int .u32 (r 5), .int .u32 (r 6), .int .u32 (r 7), .int .i64 n, .bool true]) ∧ Below w.heap.size w w' := by
  have HL := Lib.hid hl
  have HP := Lib.hid hp
  have HV := Lib.hid hv
  have HX := Lib.hid hx
  clear hl hp hv hx
  go_enter Try.func11, Try.ntmps11
  go_wp2_with fail
  refine (core_call (some ⟨b, off, none⟩) len cap l ⟨r, n, false⟩ true w _ HL HV HP (((Below.refl _ _).alloc (Nat.le_refl _) _).alloc (by simp) _)).mono ?_
  rintro e w1 ⟨rfl, hb1⟩
  have HC : Hid (CoreAt w w.heap.size ⟨r, n, false⟩ w1) := (CoreAt.new w ⟨r, n, false⟩).below hb1
  clear hb1
  obtain ⟨x0, x1, x2, x3, x4, _, _⟩ := HX.out.below HC.out.b hlt
  have c0 : w1.cell? ⟨w.heap.size, 0, none⟩ = some (.int .u32 (r 0)) := HC.out.c 0
  have c1 : w1.cell? ⟨w.heap.size, 1, none⟩ = some (.int .u32 (r 1)) := HC.out.c 1
  have c2 : w1.cell? ⟨w.heap.size, 2, none⟩ = some (.int .u32 (r 2)) := HC.out.c 2
  have c3 : w1.cell? ⟨w.heap.size, 3, none⟩ = some (.int .u32 (r 3)) := HC.out.c 3
  have c4 : w1.cell? ⟨w.heap.size, 4, none⟩ = some (.int .u32 (r 4)) := HC.out.c 4
  have c5 : w1.cell? ⟨w.heap.size, 5, none⟩ = some (.int .u32 (r 5)) := HC.out.c 5
  have c6 : w1.cell? ⟨w.heap.size, 6, none⟩ = some (.int .u32 (r 6)) := HC.out.c 6
  have c7 : w1.cell? ⟨w.heap.size, 7, none⟩ = some (.int .u32 (r 7)) := HC.out.c 7
  have c8 : w1.cell? ⟨w.heap.size, 8, none⟩ = some (.int .i64 n) := HC.out.c 8
  have c9 : w1.cell? ⟨w.heap.size, 9, none⟩ = some (.bool false) := HC.out.c 9
  have z0 : w1.cell? ⟨w.heap.size + 1, 0, none⟩ = some (.int .u32 0) := HC.out.z 0
  have g0 : w1.frozen? ⟨w.heap.size + 1, 0, none⟩ = false := HC.out.g 0
  have z1 : w1.cell? ⟨w.heap.size + 1, 1, none⟩ = some (.int .u32 0) := HC.out.z 1
  have g1 : w1.frozen? ⟨w.heap.size + 1, 1, none⟩ = false := HC.out.g 1
  have z2 : w1.cell? ⟨w.heap.size + 1, 2, none⟩ = some (.int .u32 0) := HC.out.z 2
  have g2 : w1.frozen? ⟨w.heap.size + 1, 2, none⟩ = false := HC.out.g 2
  have z3 : w1.cell? ⟨w.heap.size + 1, 3, none⟩ = some (.int .u32 0) := HC.out.z 3
  have g3 : w1.frozen? ⟨w.heap.size + 1, 3, none⟩ = false := HC.out.g 3
  have z4 : w1.cell? ⟨w.heap.size + 1, 4, none⟩ = some (.int .u32 0) := HC.out.z 4
  have g4 : w1.frozen? ⟨w.heap.size + 1, 4, none⟩ = false := HC.out.g 4
  have z5 : w1.cell? ⟨w.heap.size + 1, 5, none⟩ = some (.int .u32 0) := HC.out.z 5
  have g5 : w1.frozen? ⟨w.heap.size + 1, 5, none⟩ = false := HC.out.g 5
  have z6 : w1.cell? ⟨w.heap.size + 1, 6, none⟩ = some (.int .u32 0) := HC.out.z 6
  have g6 : w1.frozen? ⟨w.heap.size + 1, 6, none⟩ = false := HC.out.g 6
  have z7 : w1.cell? ⟨w.heap.size + 1, 7, none⟩ = some (.int .u32 0) := HC.out.z 7
  have g7 : w1.frozen? ⟨w.heap.size + 1, 7, none⟩ = false := HC.out.g 7
  have z8 : w1.cell? ⟨w.heap.size + 1, 8, none⟩ = some (.int .i64 0) := HC.out.z 8
  have g8 : w1.frozen? ⟨w.heap.size + 1, 8, none⟩ = false := HC.out.g 8
  have z9 : w1.cell? ⟨w.heap.size + 1, 9, none⟩ = some (.bool false) := HC.out.z 9
  have g9 : w1.frozen? ⟨w.heap.size + 1, 9, none⟩ = false := HC.out.g 9
  have s2 : w.heap.size + 1 < w1.heap.size := HC.out.s
  have s1 : w.heap.size < w1.heap.size := Nat.lt_of_succ_lt s2
  have f9 : w1.frozen? ⟨w.heap.size, 9, none⟩ = false := HC.out.f 9
  have s3 : w.heap.size ≠ w1.heap.size := Nat.ne_of_lt s1
  clear HX HL HP HV
  go_wp2
  refine bodyPost_ret (v := .agg #[.int .u32 (r 0), .int .u32 (r 1), .int .u32 (r 2), .int .u32 (r 3), .int .u32 (r 4), .int .u32 (r 5), .int .u32 (r 6), .int .u32 (r 7), .int .i64 n, .bool true]) (by simp [results, Try.results11, go_sem, z0, z1, z2, z3, z4, z5, z6, z7, z8, z9, s2]) rfl ⟨rfl, ?_⟩
  exact (below10 (HC.out.b.setCell (Nat.le_refl _) _) (Nat.le_succ _) _ _ _ _ _ _ _ _ _ _).alloc (by have := HC.out.s; simp; omega) _

set_option maxHeartbeats 2000000 in
theorem done_plain (b off len cap n a : Nat) (l : List I5) (op bb cc k : Int) (r : Nat → Int) (was p v : Int) (w : World) (hl : l.length = len) (hp : Prg w (some ⟨b, off, none⟩) l) (hv : coreB l ⟨r, n, false⟩ = true) (hn : n < len) (hlen : len ≤ 64)
    (hlt : b < w.heap.size) (hx : Lies w b (off + n * 5) ⟨op, a, bb, cc, k⟩) (ha : a < 8) (hregs : Hid (0 ≤ bb ∧ bb < 8 ∧ 0 ≤ cc ∧ cc < 8)) (o16 : (op == 16) = false)
    (hp' : Hid (nextX ⟨op, a, bb, cc, k⟩ ⟨r, n, false⟩ = p)) (hv' : Hid (madeV ⟨op, a, bb, cc, k⟩ ⟨r, p, false⟩ was = v)) (hok : Hid (madeOk ⟨op, a, bb, cc, k⟩ = false)) :
    Calls Try.prog 11 #[.slice (some ⟨b, off, none⟩) len cap, .agg #[.int .u32 (r 0), .int .u32 (r 1), .int .u32 (r 2), .int .u32 (r 3), .int .u32 (r 4), .int .u32 (r 5), .int .u32 (r 6), .int .u32 (r 7), .int .i64 n, .bool false], .int .u32 was] w fun e w' => e = .returned (.agg #[.int .u32 (r 0), .int .u32 (r 1), .int .u32 (r 2), .int .u32 (r 3), .int .u32 (r 4), .int .u32 (r 5), .int .u32 (r 6), .int .u32 (r 7), .int .i64 p, .bool false]) ∧ Below w.heap.size w w' := by
  have HL := Lib.hid hl
  have HP := Lib.hid hp
  have HV := Lib.hid hv
  have HX := Lib.hid hx
  clear hl hp hv hx
  go_enter Try.func11, Try.ntmps11
  go_wp2_with fail
  refine (core_call (some ⟨b, off, none⟩) len cap l ⟨r, n, false⟩ true w _ HL HV HP (((Below.refl _ _).alloc (Nat.le_refl _) _).alloc (by simp) _)).mono ?_
  rintro e w1 ⟨rfl, hb1⟩
  have HC : Hid (CoreAt w w.heap.size ⟨r, n, false⟩ w1) := (CoreAt.new w ⟨r, n, false⟩).below hb1
  clear hb1
  obtain ⟨x0, x1, x2, x3, x4, hk0, hk1⟩ := HX.out.below HC.out.b hlt
  have c0 : w1.cell? ⟨w.heap.size, 0, none⟩ = some (.int .u32 (r 0)) := HC.out.c 0
  have c1 : w1.cell? ⟨w.heap.size, 1, none⟩ = some (.int .u32 (r 1)) := HC.out.c 1
  have c2 : w1.cell? ⟨w.heap.size, 2, none⟩ = some (.int .u32 (r 2)) := HC.out.c 2
  have c3 : w1.cell? ⟨w.heap.size, 3, none⟩ = some (.int .u32 (r 3)) := HC.out.c 3
  have c4 : w1.cell? ⟨w.heap.size, 4, none⟩ = some (.int .u32 (r 4)) := HC.out.c 4
  have c5 : w1.cell? ⟨w.heap.size, 5, none⟩ = some (.int .u32 (r 5)) := HC.out.c 5
  have c6 : w1.cell? ⟨w.heap.size, 6, none⟩ = some (.int .u32 (r 6)) := HC.out.c 6
  have c7 : w1.cell? ⟨w.heap.size, 7, none⟩ = some (.int .u32 (r 7)) := HC.out.c 7
  have c8 : w1.cell? ⟨w.heap.size, 8, none⟩ = some (.int .i64 n) := HC.out.c 8
  have c9 : w1.cell? ⟨w.heap.size, 9, none⟩ = some (.bool false) := HC.out.c 9
  have s2 : w.heap.size + 1 < w1.heap.size := HC.out.s
  have s1 : w.heap.size < w1.heap.size := Nat.lt_of_succ_lt s2
  clear HX HL HP HV
  go_wp2_with fail
  have HN : Hid (Calls Try.prog 17 #[.agg #[.int .i64 op, .int .i64 a, .int .i64 bb, .int .i64 cc, .int .u32 k], .agg #[.int .u32 (r 0), .int .u32 (r 1), .int .u32 (r 2), .int .u32 (r 3), .int .u32 (r 4), .int .u32 (r 5), .int .u32 (r 6), .int .u32 (r 7), .int .i64 n, .bool false]] (w1.alloc (.cells #[.int .i64 op, .int .i64 a, .int .i64 bb, .int .i64 cc, .int .u32 k] 38)) fun e w' => e = .returned (.int .i64 p) ∧ Below (w1.alloc (.cells #[.int .i64 op, .int .i64 a, .int .i64 bb, .int .i64 cc, .int .u32 k] 38)).heap.size (w1.alloc (.cells #[.int .i64 op, .int .i64 a, .int .i64 bb, .int .i64 cc, .int .u32 k] 38)) w') := by
    have h := next_any ⟨op, a, bb, cc, k⟩ ⟨r, n, false⟩ (w1.alloc (.cells #[.int .i64 op, .int .i64 a, .int .i64 bb, .int .i64 cc, .int .u32 k] 38)) (by simp only; omega) (by simp only; omega) hk0 hk1 (by simp only; omega) (by simp only; omega)
    rw [hp'.out] at h
    exact h
  refine HN.out.mono ?_
  clear HN
  rintro e w2 ⟨rfl, hb2⟩
  have HC2 : Hid (CoreAt w w.heap.size ⟨r, n, false⟩ w2) := (HC.out.below ((Below.refl _ _).alloc (Nat.le_refl _) _)).below hb2
  have HX2 : Hid ((∀ j, w2.cell? ⟨w1.heap.size, j, none⟩ = (I5.row ⟨op, a, bb, cc, k⟩)[j]?) ∧ w1.heap.size < w2.heap.size) := by
    have e1 : (w1.alloc (.cells (I5.row ⟨op, a, bb, cc, k⟩) 38)).heap.size = w1.heap.size + 1 := World.size_alloc _ _
    refine ⟨fun j => ?_, ?_⟩
    · rw [hb2.cell (p := ⟨w1.heap.size, j, none⟩) (by show w1.heap.size < (w1.alloc (.cells (I5.row ⟨op, a, bb, cc, k⟩) 38)).heap.size; omega)]
      exact World.cell?_alloc_new w1 _ 38 j
    · have h : (w1.alloc (.cells (I5.row ⟨op, a, bb, cc, k⟩) 38)).heap.size ≤ w2.heap.size := hb2.size
      omega
  have S12 := Lib.hid s2
  clear hb2 HC x0 x1 x2 x3 x4 c0 c1 c2 c3 c4 c5 c6 c7 c8 c9 s1 s2
  have c0 : w2.cell? ⟨w.heap.size, 0, none⟩ = some (.int .u32 (r 0)) := HC2.out.c 0
  have c1 : w2.cell? ⟨w.heap.size, 1, none⟩ = some (.int .u32 (r 1)) := HC2.out.c 1
  have c2 : w2.cell? ⟨w.heap.size, 2, none⟩ = some (.int .u32 (r 2)) := HC2.out.c 2
  have c3 : w2.cell? ⟨w.heap.size, 3, none⟩ = some (.int .u32 (r 3)) := HC2.out.c 3
  have c4 : w2.cell? ⟨w.heap.size, 4, none⟩ = some (.int .u32 (r 4)) := HC2.out.c 4
  have c5 : w2.cell? ⟨w.heap.size, 5, none⟩ = some (.int .u32 (r 5)) := HC2.out.c 5
  have c6 : w2.cell? ⟨w.heap.size, 6, none⟩ = some (.int .u32 (r 6)) := HC2.out.c 6
  have c7 : w2.cell? ⟨w.heap.size, 7, none⟩ = some (.int .u32 (r 7)) := HC2.out.c 7
  have c8 : w2.cell? ⟨w.heap.size, 8, none⟩ = some (.int .i64 n) := HC2.out.c 8
  have c9 : w2.cell? ⟨w.heap.size, 9, none⟩ = some (.bool false) := HC2.out.c 9
  have y0 : w2.cell? ⟨w1.heap.size, 0, none⟩ = some (.int .i64 op) := HX2.out.1 0
  have y1 : w2.cell? ⟨w1.heap.size, 1, none⟩ = some (.int .i64 a) := HX2.out.1 1
  have y2 : w2.cell? ⟨w1.heap.size, 2, none⟩ = some (.int .i64 bb) := HX2.out.1 2
  have y3 : w2.cell? ⟨w1.heap.size, 3, none⟩ = some (.int .i64 cc) := HX2.out.1 3
  have y4 : w2.cell? ⟨w1.heap.size, 4, none⟩ = some (.int .u32 k) := HX2.out.1 4
  have s2 : w.heap.size + 1 < w2.heap.size := HC2.out.s
  have s1 : w.heap.size < w2.heap.size := Nat.lt_of_succ_lt s2
  have f8 : w2.frozen? ⟨w.heap.size, 8, none⟩ = false := HC2.out.f 8
  have d1 : w1.heap.size ≠ w.heap.size := by have := S12.out; omega
  go_wp2_with fail
  have HC3 : Hid (CoreAt w w.heap.size ⟨r, p, false⟩ (w2.setCell ⟨w.heap.size, 8, none⟩ (.int .i64 p))) := HC2.out.set (by omega) (fun j hj => row_pc r n p false j hj) rfl
  have HM : Hid (Calls Try.prog 18 #[.agg #[.int .i64 op, .int .i64 a, .int .i64 bb, .int .i64 cc, .int .u32 k], .agg #[.int .u32 (r 0), .int .u32 (r 1), .int .u32 (r 2), .int .u32 (r 3), .int .u32 (r 4), .int .u32 (r 5), .int .u32 (r 6), .int .u32 (r 7), .int .i64 p, .bool false], .int .u32 was] (w2.setCell ⟨w.heap.size, 8, none⟩ (.int .i64 p)) fun e w' => e = .returned (.tuple #[.int .u32 v, .bool false]) ∧ Below (w2.setCell ⟨w.heap.size, 8, none⟩ (.int .i64 p)).heap.size (w2.setCell ⟨w.heap.size, 8, none⟩ (.int .i64 p)) w') := by
    have h := made_any ⟨op, a, bb, cc, k⟩ ⟨r, p, false⟩ was (w2.setCell ⟨w.heap.size, 8, none⟩ (.int .i64 p)) ⟨by simp only; omega, by simp only; omega, hregs.out⟩
    rw [hv'.out, hok.out] at h
    exact h
  refine HM.out.mono ?_
  clear HM
  rintro e w3 ⟨rfl, hb3⟩
  have HC4 : Hid (CoreAt w w.heap.size ⟨r, p, false⟩ w3) := HC3.out.below hb3
  have y1' : w3.cell? ⟨w1.heap.size, 1, none⟩ = some (.int .i64 a) := by
    rw [hb3.cell (p := ⟨w1.heap.size, 1, none⟩) (by show w1.heap.size < (w2.setCell _ _).heap.size; simpa using HX2.out.2), World.cell?_setCell_other _ _ _ _ (by intro e; injection e with e1; exact d1 e1.symm)]
    exact y1
  clear hb3 HC2 HC3 c0 c1 c2 c3 c4 c5 c6 c7 c8 c9 y0 y1 y2 y3 y4 s1 s2 f8 HX2
  have c0 : w3.cell? ⟨w.heap.size, 0, none⟩ = some (.int .u32 (r 0)) := HC4.out.c 0
  have c1 : w3.cell? ⟨w.heap.size, 1, none⟩ = some (.int .u32 (r 1)) := HC4.out.c 1
  have c2 : w3.cell? ⟨w.heap.size, 2, none⟩ = some (.int .u32 (r 2)) := HC4.out.c 2
  have c3 : w3.cell? ⟨w.heap.size, 3, none⟩ = some (.int .u32 (r 3)) := HC4.out.c 3
  have c4 : w3.cell? ⟨w.heap.size, 4, none⟩ = some (.int .u32 (r 4)) := HC4.out.c 4
  have c5 : w3.cell? ⟨w.heap.size, 5, none⟩ = some (.int .u32 (r 5)) := HC4.out.c 5
  have c6 : w3.cell? ⟨w.heap.size, 6, none⟩ = some (.int .u32 (r 6)) := HC4.out.c 6
  have c7 : w3.cell? ⟨w.heap.size, 7, none⟩ = some (.int .u32 (r 7)) := HC4.out.c 7
  have c8 : w3.cell? ⟨w.heap.size, 8, none⟩ = some (.int .i64 p) := HC4.out.c 8
  have c9 : w3.cell? ⟨w.heap.size, 9, none⟩ = some (.bool false) := HC4.out.c 9
  have z0 : w3.cell? ⟨w.heap.size + 1, 0, none⟩ = some (.int .u32 0) := HC4.out.z 0
  have g0 : w3.frozen? ⟨w.heap.size + 1, 0, none⟩ = false := HC4.out.g 0
  have z1 : w3.cell? ⟨w.heap.size + 1, 1, none⟩ = some (.int .u32 0) := HC4.out.z 1
  have g1 : w3.frozen? ⟨w.heap.size + 1, 1, none⟩ = false := HC4.out.g 1
  have z2 : w3.cell? ⟨w.heap.size + 1, 2, none⟩ = some (.int .u32 0) := HC4.out.z 2
  have g2 : w3.frozen? ⟨w.heap.size + 1, 2, none⟩ = false := HC4.out.g 2
  have z3 : w3.cell? ⟨w.heap.size + 1, 3, none⟩ = some (.int .u32 0) := HC4.out.z 3
  have g3 : w3.frozen? ⟨w.heap.size + 1, 3, none⟩ = false := HC4.out.g 3
  have z4 : w3.cell? ⟨w.heap.size + 1, 4, none⟩ = some (.int .u32 0) := HC4.out.z 4
  have g4 : w3.frozen? ⟨w.heap.size + 1, 4, none⟩ = false := HC4.out.g 4
  have z5 : w3.cell? ⟨w.heap.size + 1, 5, none⟩ = some (.int .u32 0) := HC4.out.z 5
  have g5 : w3.frozen? ⟨w.heap.size + 1, 5, none⟩ = false := HC4.out.g 5
  have z6 : w3.cell? ⟨w.heap.size + 1, 6, none⟩ = some (.int .u32 0) := HC4.out.z 6
  have g6 : w3.frozen? ⟨w.heap.size + 1, 6, none⟩ = false := HC4.out.g 6
  have z7 : w3.cell? ⟨w.heap.size + 1, 7, none⟩ = some (.int .u32 0) := HC4.out.z 7
  have g7 : w3.frozen? ⟨w.heap.size + 1, 7, none⟩ = false := HC4.out.g 7
  have z8 : w3.cell? ⟨w.heap.size + 1, 8, none⟩ = some (.int .i64 0) := HC4.out.z 8
  have g8 : w3.frozen? ⟨w.heap.size + 1, 8, none⟩ = false := HC4.out.g 8
  have z9 : w3.cell? ⟨w.heap.size + 1, 9, none⟩ = some (.bool false) := HC4.out.z 9
  have g9 : w3.frozen? ⟨w.heap.size + 1, 9, none⟩ = false := HC4.out.g 9
  have s2 : w.heap.size + 1 < w3.heap.size := HC4.out.s
  have s1 : w.heap.size < w3.heap.size := Nat.lt_of_succ_lt s2
  go_wp2
  refine bodyPost_ret (v := .agg #[.int .u32 (r 0), .int .u32 (r 1), .int .u32 (r 2), .int .u32 (r 3), .int .u32 (r 4), .int .u32 (r 5), .int .u32 (r 6), .int .u32 (r 7), .int .i64 p, .bool false]) (by simp [results, Try.results11, go_sem, z0, z1, z2, z3, z4, z5, z6, z7, z8, z9]) rfl ⟨rfl, ?_⟩
  exact below10 HC4.out.b (Nat.le_succ _) _ _ _ _ _ _ _ _ _ _

set_option maxHeartbeats 2000000 in
theorem done_makes (b off len cap n a : Nat) (l : List I5) (op bb cc k : Int) (r : Nat → Int) (was p v : Int) (w : World) (hl : l.length = len) (hp : Prg w (some ⟨b, off, none⟩) l) (hv : coreB l ⟨r, n, false⟩ = true) (hn : n < len) (hlen : len ≤ 64)
    (hlt : b < w.heap.size) (hx : Lies w b (off + n * 5) ⟨op, a, bb, cc, k⟩) (ha : a < 8) (hregs : Hid (0 ≤ bb ∧ bb < 8 ∧ 0 ≤ cc ∧ cc < 8)) (o16 : (op == 16) = false)
    (hp' : Hid (nextX ⟨op, a, bb, cc, k⟩ ⟨r, n, false⟩ = p)) (hv' : Hid (madeV ⟨op, a, bb, cc, k⟩ ⟨r, p, false⟩ was = v)) (hok : Hid (madeOk ⟨op, a, bb, cc, k⟩ = true)) (u : Nat → Int) (hu : Hid (∀ i, u i = if i = a then v else r i)) :
    Calls Try.prog 11 #[.slice (some ⟨b, off, none⟩) len cap, .agg #[.int .u32 (r 0), .int .u32 (r 1), .int .u32 (r 2), .int .u32 (r 3), .int .u32 (r 4), .int .u32 (r 5), .int .u32 (r 6), .int .u32 (r 7), .int .i64 n, .bool false], .int .u32 was] w fun e w' => e = .returned (.agg #[.int .u32 (u 0), .int .u32 (u 1), .int .u32 (u 2), .int .u32 (u 3), .int .u32 (u 4), .int .u32 (u 5), .int .u32 (u 6), .int .u32 (u 7), .int .i64 p, .bool false]) ∧ Below w.heap.size w w' := by
  have HL := Lib.hid hl
  have HP := Lib.hid hp
  have HV := Lib.hid hv
  have HX := Lib.hid hx
  clear hl hp hv hx
  go_enter Try.func11, Try.ntmps11
  go_wp2_with fail
  refine (core_call (some ⟨b, off, none⟩) len cap l ⟨r, n, false⟩ true w _ HL HV HP (((Below.refl _ _).alloc (Nat.le_refl _) _).alloc (by simp) _)).mono ?_
  rintro e w1 ⟨rfl, hb1⟩
  have HC : Hid (CoreAt w w.heap.size ⟨r, n, false⟩ w1) := (CoreAt.new w ⟨r, n, false⟩).below hb1
  clear hb1
  obtain ⟨x0, x1, x2, x3, x4, hk0, hk1⟩ := HX.out.below HC.out.b hlt
  have c0 : w1.cell? ⟨w.heap.size, 0, none⟩ = some (.int .u32 (r 0)) := HC.out.c 0
  have c1 : w1.cell? ⟨w.heap.size, 1, none⟩ = some (.int .u32 (r 1)) := HC.out.c 1
  have c2 : w1.cell? ⟨w.heap.size, 2, none⟩ = some (.int .u32 (r 2)) := HC.out.c 2
  have c3 : w1.cell? ⟨w.heap.size, 3, none⟩ = some (.int .u32 (r 3)) := HC.out.c 3
  have c4 : w1.cell? ⟨w.heap.size, 4, none⟩ = some (.int .u32 (r 4)) := HC.out.c 4
  have c5 : w1.cell? ⟨w.heap.size, 5, none⟩ = some (.int .u32 (r 5)) := HC.out.c 5
  have c6 : w1.cell? ⟨w.heap.size, 6, none⟩ = some (.int .u32 (r 6)) := HC.out.c 6
  have c7 : w1.cell? ⟨w.heap.size, 7, none⟩ = some (.int .u32 (r 7)) := HC.out.c 7
  have c8 : w1.cell? ⟨w.heap.size, 8, none⟩ = some (.int .i64 n) := HC.out.c 8
  have c9 : w1.cell? ⟨w.heap.size, 9, none⟩ = some (.bool false) := HC.out.c 9
  have s2 : w.heap.size + 1 < w1.heap.size := HC.out.s
  have s1 : w.heap.size < w1.heap.size := Nat.lt_of_succ_lt s2
  clear HX HL HP HV
  go_wp2_with fail
  have HN : Hid (Calls Try.prog 17 #[.agg #[.int .i64 op, .int .i64 a, .int .i64 bb, .int .i64 cc, .int .u32 k], .agg #[.int .u32 (r 0), .int .u32 (r 1), .int .u32 (r 2), .int .u32 (r 3), .int .u32 (r 4), .int .u32 (r 5), .int .u32 (r 6), .int .u32 (r 7), .int .i64 n, .bool false]] (w1.alloc (.cells #[.int .i64 op, .int .i64 a, .int .i64 bb, .int .i64 cc, .int .u32 k] 38)) fun e w' => e = .returned (.int .i64 p) ∧ Below (w1.alloc (.cells #[.int .i64 op, .int .i64 a, .int .i64 bb, .int .i64 cc, .int .u32 k] 38)).heap.size (w1.alloc (.cells #[.int .i64 op, .int .i64 a, .int .i64 bb, .int .i64 cc, .int .u32 k] 38)) w') := by
    have h := next_any ⟨op, a, bb, cc, k⟩ ⟨r, n, false⟩ (w1.alloc (.cells #[.int .i64 op, .int .i64 a, .int .i64 bb, .int .i64 cc, .int .u32 k] 38)) (by simp only; omega) (by simp only; omega) hk0 hk1 (by simp only; omega) (by simp only; omega)
    rw [hp'.out] at h
    exact h
  refine HN.out.mono ?_
  clear HN
  rintro e w2 ⟨rfl, hb2⟩
  have HC2 : Hid (CoreAt w w.heap.size ⟨r, n, false⟩ w2) := (HC.out.below ((Below.refl _ _).alloc (Nat.le_refl _) _)).below hb2
  have HX2 : Hid ((∀ j, w2.cell? ⟨w1.heap.size, j, none⟩ = (I5.row ⟨op, a, bb, cc, k⟩)[j]?) ∧ w1.heap.size < w2.heap.size) := by
    have e1 : (w1.alloc (.cells (I5.row ⟨op, a, bb, cc, k⟩) 38)).heap.size = w1.heap.size + 1 := World.size_alloc _ _
    refine ⟨fun j => ?_, ?_⟩
    · rw [hb2.cell (p := ⟨w1.heap.size, j, none⟩) (by show w1.heap.size < (w1.alloc (.cells (I5.row ⟨op, a, bb, cc, k⟩) 38)).heap.size; omega)]
      exact World.cell?_alloc_new w1 _ 38 j
    · have h : (w1.alloc (.cells (I5.row ⟨op, a, bb, cc, k⟩) 38)).heap.size ≤ w2.heap.size := hb2.size
      omega
  have S12 := Lib.hid s2
  clear hb2 HC x0 x1 x2 x3 x4 c0 c1 c2 c3 c4 c5 c6 c7 c8 c9 s1 s2
  have c0 : w2.cell? ⟨w.heap.size, 0, none⟩ = some (.int .u32 (r 0)) := HC2.out.c 0
  have c1 : w2.cell? ⟨w.heap.size, 1, none⟩ = some (.int .u32 (r 1)) := HC2.out.c 1
  have c2 : w2.cell? ⟨w.heap.size, 2, none⟩ = some (.int .u32 (r 2)) := HC2.out.c 2
  have c3 : w2.cell? ⟨w.heap.size, 3, none⟩ = some (.int .u32 (r 3)) := HC2.out.c 3
  have c4 : w2.cell? ⟨w.heap.size, 4, none⟩ = some (.int .u32 (r 4)) := HC2.out.c 4
  have c5 : w2.cell? ⟨w.heap.size, 5, none⟩ = some (.int .u32 (r 5)) := HC2.out.c 5
  have c6 : w2.cell? ⟨w.heap.size, 6, none⟩ = some (.int .u32 (r 6)) := HC2.out.c 6
  have c7 : w2.cell? ⟨w.heap.size, 7, none⟩ = some (.int .u32 (r 7)) := HC2.out.c 7
  have c8 : w2.cell? ⟨w.heap.size, 8, none⟩ = some (.int .i64 n) := HC2.out.c 8
  have c9 : w2.cell? ⟨w.heap.size, 9, none⟩ = some (.bool false) := HC2.out.c 9
  have y0 : w2.cell? ⟨w1.heap.size, 0, none⟩ = some (.int .i64 op) := HX2.out.1 0
  have y1 : w2.cell? ⟨w1.heap.size, 1, none⟩ = some (.int .i64 a) := HX2.out.1 1
  have y2 : w2.cell? ⟨w1.heap.size, 2, none⟩ = some (.int .i64 bb) := HX2.out.1 2
  have y3 : w2.cell? ⟨w1.heap.size, 3, none⟩ = some (.int .i64 cc) := HX2.out.1 3
  have y4 : w2.cell? ⟨w1.heap.size, 4, none⟩ = some (.int .u32 k) := HX2.out.1 4
  have s2 : w.heap.size + 1 < w2.heap.size := HC2.out.s
  have s1 : w.heap.size < w2.heap.size := Nat.lt_of_succ_lt s2
  have f8 : w2.frozen? ⟨w.heap.size, 8, none⟩ = false := HC2.out.f 8
  have d1 : w1.heap.size ≠ w.heap.size := by have := S12.out; omega
  go_wp2_with fail
  have HC3 : Hid (CoreAt w w.heap.size ⟨r, p, false⟩ (w2.setCell ⟨w.heap.size, 8, none⟩ (.int .i64 p))) := HC2.out.set (by omega) (fun j hj => row_pc r n p false j hj) rfl
  have HM : Hid (Calls Try.prog 18 #[.agg #[.int .i64 op, .int .i64 a, .int .i64 bb, .int .i64 cc, .int .u32 k], .agg #[.int .u32 (r 0), .int .u32 (r 1), .int .u32 (r 2), .int .u32 (r 3), .int .u32 (r 4), .int .u32 (r 5), .int .u32 (r 6), .int .u32 (r 7), .int .i64 p, .bool false], .int .u32 was] (w2.setCell ⟨w.heap.size, 8, none⟩ (.int .i64 p)) fun e w' => e = .returned (.tuple #[.int .u32 v, .bool true]) ∧ Below (w2.setCell ⟨w.heap.size, 8, none⟩ (.int .i64 p)).heap.size (w2.setCell ⟨w.heap.size, 8, none⟩ (.int .i64 p)) w') := by
    have h := made_any ⟨op, a, bb, cc, k⟩ ⟨r, p, false⟩ was (w2.setCell ⟨w.heap.size, 8, none⟩ (.int .i64 p)) ⟨by simp only; omega, by simp only; omega, hregs.out⟩
    rw [hv'.out, hok.out] at h
    exact h
  refine HM.out.mono ?_
  clear HM
  rintro e w3 ⟨rfl, hb3⟩
  have HC4 : Hid (CoreAt w w.heap.size ⟨r, p, false⟩ w3) := HC3.out.below hb3
  have y1' : w3.cell? ⟨w1.heap.size, 1, none⟩ = some (.int .i64 a) := by
    rw [hb3.cell (p := ⟨w1.heap.size, 1, none⟩) (by show w1.heap.size < (w2.setCell _ _).heap.size; simpa using HX2.out.2), World.cell?_setCell_other _ _ _ _ (by intro e; injection e with e1; exact d1 e1.symm)]
    exact y1
  clear hb3 HC2 HC3 c0 c1 c2 c3 c4 c5 c6 c7 c8 c9 y0 y1 y2 y3 y4 s1 s2 f8 HX2
  have HC5 : Hid (CoreAt w w.heap.size ⟨u, p, false⟩ (w3.setCell ⟨w.heap.size, a, none⟩ (.int .u32 v))) := by
    have e : (⟨u, p, false⟩ : Cor) = (⟨r, p, false⟩ : Cor).set a v := by unfold Cor.set; rw [show u = _ from funext hu.out]
    rw [e]
    exact HC4.out.set (by omega) (fun j hj => row_set ⟨r, p, false⟩ a v j hj) (row_set_same ⟨r, p, false⟩ a v ha)
  have ca : w3.cell? ⟨w.heap.size, a, none⟩ = some (.int .u32 (r a)) := (HC4.out.c a).trans (Cor.row_at ⟨r, p, false⟩ a ha)
  have fa : w3.frozen? ⟨w.heap.size, a, none⟩ = false := HC4.out.f a
  have e0 : (w3.setCell ⟨w.heap.size, a, none⟩ (.int .u32 v)).cell? ⟨w.heap.size, 0, none⟩ = some (.int .u32 (u 0)) := HC5.out.c 0
  have e1 : (w3.setCell ⟨w.heap.size, a, none⟩ (.int .u32 v)).cell? ⟨w.heap.size, 1, none⟩ = some (.int .u32 (u 1)) := HC5.out.c 1
  have e2 : (w3.setCell ⟨w.heap.size, a, none⟩ (.int .u32 v)).cell? ⟨w.heap.size, 2, none⟩ = some (.int .u32 (u 2)) := HC5.out.c 2
  have e3 : (w3.setCell ⟨w.heap.size, a, none⟩ (.int .u32 v)).cell? ⟨w.heap.size, 3, none⟩ = some (.int .u32 (u 3)) := HC5.out.c 3
  have e4 : (w3.setCell ⟨w.heap.size, a, none⟩ (.int .u32 v)).cell? ⟨w.heap.size, 4, none⟩ = some (.int .u32 (u 4)) := HC5.out.c 4
  have e5 : (w3.setCell ⟨w.heap.size, a, none⟩ (.int .u32 v)).cell? ⟨w.heap.size, 5, none⟩ = some (.int .u32 (u 5)) := HC5.out.c 5
  have e6 : (w3.setCell ⟨w.heap.size, a, none⟩ (.int .u32 v)).cell? ⟨w.heap.size, 6, none⟩ = some (.int .u32 (u 6)) := HC5.out.c 6
  have e7 : (w3.setCell ⟨w.heap.size, a, none⟩ (.int .u32 v)).cell? ⟨w.heap.size, 7, none⟩ = some (.int .u32 (u 7)) := HC5.out.c 7
  have e8 : (w3.setCell ⟨w.heap.size, a, none⟩ (.int .u32 v)).cell? ⟨w.heap.size, 8, none⟩ = some (.int .i64 p) := HC5.out.c 8
  have e9 : (w3.setCell ⟨w.heap.size, a, none⟩ (.int .u32 v)).cell? ⟨w.heap.size, 9, none⟩ = some (.bool false) := HC5.out.c 9
  have z0 : w3.cell? ⟨w.heap.size + 1, 0, none⟩ = some (.int .u32 0) := HC4.out.z 0
  have g0 : w3.frozen? ⟨w.heap.size + 1, 0, none⟩ = false := HC4.out.g 0
  have z1 : w3.cell? ⟨w.heap.size + 1, 1, none⟩ = some (.int .u32 0) := HC4.out.z 1
  have g1 : w3.frozen? ⟨w.heap.size + 1, 1, none⟩ = false := HC4.out.g 1
  have z2 : w3.cell? ⟨w.heap.size + 1, 2, none⟩ = some (.int .u32 0) := HC4.out.z 2
  have g2 : w3.frozen? ⟨w.heap.size + 1, 2, none⟩ = false := HC4.out.g 2
  have z3 : w3.cell? ⟨w.heap.size + 1, 3, none⟩ = some (.int .u32 0) := HC4.out.z 3
  have g3 : w3.frozen? ⟨w.heap.size + 1, 3, none⟩ = false := HC4.out.g 3
  have z4 : w3.cell? ⟨w.heap.size + 1, 4, none⟩ = some (.int .u32 0) := HC4.out.z 4
  have g4 : w3.frozen? ⟨w.heap.size + 1, 4, none⟩ = false := HC4.out.g 4
  have z5 : w3.cell? ⟨w.heap.size + 1, 5, none⟩ = some (.int .u32 0) := HC4.out.z 5
  have g5 : w3.frozen? ⟨w.heap.size + 1, 5, none⟩ = false := HC4.out.g 5
  have z6 : w3.cell? ⟨w.heap.size + 1, 6, none⟩ = some (.int .u32 0) := HC4.out.z 6
  have g6 : w3.frozen? ⟨w.heap.size + 1, 6, none⟩ = false := HC4.out.g 6
  have z7 : w3.cell? ⟨w.heap.size + 1, 7, none⟩ = some (.int .u32 0) := HC4.out.z 7
  have g7 : w3.frozen? ⟨w.heap.size + 1, 7, none⟩ = false := HC4.out.g 7
  have z8 : w3.cell? ⟨w.heap.size + 1, 8, none⟩ = some (.int .i64 0) := HC4.out.z 8
  have g8 : w3.frozen? ⟨w.heap.size + 1, 8, none⟩ = false := HC4.out.g 8
  have z9 : w3.cell? ⟨w.heap.size + 1, 9, none⟩ = some (.bool false) := HC4.out.z 9
  have g9 : w3.frozen? ⟨w.heap.size + 1, 9, none⟩ = false := HC4.out.g 9
  have s2 : w.heap.size + 1 < w3.heap.size := HC4.out.s
  have s1 : w.heap.size < w3.heap.size := Nat.lt_of_succ_lt s2
  clear HC4
  go_wp2
  refine bodyPost_ret (v := .agg #[.int .u32 (u 0), .int .u32 (u 1), .int .u32 (u 2), .int .u32 (u 3), .int .u32 (u 4), .int .u32 (u 5), .int .u32 (u 6), .int .u32 (u 7), .int .i64 p, .bool false]) (by simp [results, Try.results11, go_sem, z0, z1, z2, z3, z4, z5, z6, z7, z8, z9]) rfl ⟨rfl, ?_⟩
  exact below10 HC5.out.b (Nat.le_succ _) _ _ _ _ _ _ _ _ _ _

theorem ret_core {a b : Cor} (h : a = b) : Ending.returned (.agg a.row) = .returned (.agg b.row) := by rw [h]

theorem done_any (p : Option Addr) (cap : Nat) (l : List I5) (c : Cor) (was : Int) (w : World) (hp : Prg w p l) :
    Calls Try.prog 11 #[.slice p l.length cap, .agg c.row, .int .u32 was] w fun e w' => e = .returned (.agg (doneOf l c was).row) ∧ Below w.heap.size w w' := by
  obtain ⟨r, pc, h⟩ := c
  cases h with
  | true =>
    refine (done_halted p _ cap r pc was w).mono fun e w' he => ⟨he.1.trans (ret_core (a := ⟨r, pc, true⟩) ?_), he.2⟩
    unfold doneOf; rfl
  | false =>
    cases hr : coreB l ⟨r, pc, false⟩ with
    | false =>
      refine (done_wrong p _ cap l r pc was w rfl hp hr).mono fun e w' he => ⟨he.1.trans (ret_core (a := ⟨r, pc, false⟩) ?_), he.2⟩
      unfold doneOf; rw [hr]; rfl
    | true =>
      obtain ⟨h0, h1, h2⟩ := core_has hr
      simp only at h0 h1
      obtain ⟨n, rfl⟩ := Int.eq_ofNat_of_zero_le h0
      have hlen := right_has h2
      obtain ⟨b, off, hlt, rfl, hx⟩ := hp (by omega)
      have hn : n < l.length := by omega
      have hxn := hx n hn
      have hm := may_regs (core_ins hr)
      have hins : insAt l ⟨r, n, false⟩ = at5 l n := rfl
      have hD : doneOf l ⟨r, n, false⟩ was = doneX (at5 l n) ⟨r, n, false⟩ was := by unfold doneOf; rw [hr]; rfl
      rw [hins] at hm
      rw [hD]
      obtain ⟨op, a, bb, cc, k, hat⟩ : ∃ op a bb cc k, at5 l n = ⟨op, a, bb, cc, k⟩ := ⟨_, _, _, _, _, rfl⟩
      rw [hat] at hxn hm ⊢
      simp only at hm
      obtain ⟨na, rfl⟩ := Int.eq_ofNat_of_zero_le hm.1
      by_cases o16 : op = 16
      · subst o16
        exact (done_stop b off _ cap n l na bb cc k r was w rfl hp hr hn hlen.2.1 hlt hxn).mono fun e w' he => ⟨he.1.trans (ret_core (a := ⟨r, n, true⟩) rfl), he.2⟩
      · cases ho : madeOk ⟨op, na, bb, cc, k⟩ with
        | false =>
          refine (done_plain b off _ cap n na l op bb cc k r was _ _ w rfl hp hr hn hlen.2.1 hlt hxn (by omega) ⟨hm.2.2.1, hm.2.2.2.1, hm.2.2.2.2.1, hm.2.2.2.2.2.1⟩ (by simpa using o16) rfl rfl ho).mono fun e w' he => ⟨he.1.trans (ret_core (a := ⟨r, nextX ⟨op, na, bb, cc, k⟩ ⟨r, n, false⟩, false⟩) ?_), he.2⟩
          unfold doneX; rw [if_neg o16, ho]; rfl
        | true =>
          refine (done_makes b off _ cap n na l op bb cc k r was _ _ w rfl hp hr hn hlen.2.1 hlt hxn (by omega) ⟨hm.2.2.1, hm.2.2.2.1, hm.2.2.2.2.1, hm.2.2.2.2.2.1⟩ (by simpa using o16) rfl rfl ho (fun i => if i = na then madeV ⟨op, na, bb, cc, k⟩ ⟨r, n, false⟩ was else r i) (fun i => rfl)).mono fun e w' he => ⟨he.1.trans (ret_core (a := ⟨fun i => if i = na then madeV ⟨op, na, bb, cc, k⟩ ⟨r, n, false⟩ was else r i, nextX ⟨op, na, bb, cc, k⟩ ⟨r, n, false⟩, false⟩) ?_), he.2⟩
          unfold doneX; rw [if_neg o16, ho]; rfl
end Go.Proofs.Ytdebkncjmbhneaa
