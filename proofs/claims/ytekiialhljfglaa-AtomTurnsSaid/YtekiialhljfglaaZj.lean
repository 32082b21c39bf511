/- Laid together, in this order: CoreRefC, CoreRefD. -/
import Derived.Test.YtekiialhljfglaaZi
/- What the reference's Done answers, by the operation; it writes nothing that was there. -/
namespace Go.Proofs.Ytekiialhljfglaa
set_option linter.unusedVariables false
open Go.ChangeShapes Go.WideShapes Go.ChangeAt Go.RowKit

theorem two_blks {w w1 : World} {cs ds : Array Value} {t u : TypeId} (hb : Below ((w.alloc (.cells cs t)).alloc (.cells ds u)).heap.size ((w.alloc (.cells cs t)).alloc (.cells ds u)) w1) :
    Blk w1 w.heap.size cs ∧ Blk w1 (w.heap.size + 1) ds ∧ Below w.heap.size w w1 := by
  obtain ⟨a, b, c, d, e, f, g⟩ := two_boxes hb
  exact ⟨⟨e, a, c⟩, ⟨f, b, d⟩, g⟩
theorem row_set_same' (c : Cor) (n : Nat) (v : Int) (h : n < 8) : (c.set n v).row[n]? = some (.int .u32 v) := by
  rw [Cor.row_at _ n h]; simp [Cor.set]
theorem row_set' (c : Cor) (n : Nat) (v : Int) (j : Nat) (hj : j ≠ n) : (c.set n v).row[j]? = c.row[j]? := by
  by_cases h : j < 8
  · rw [Cor.row_at _ j h, Cor.row_at _ j h]; simp [Cor.set, hj]
  · match j with
    | 0 | 1 | 2 | 3 | 4 | 5 | 6 | 7 => exact absurd (by decide) h
    | 8 => rfl
    | 9 => rfl
    | j + 10 => rw [Array.getElem?_eq_none (by simp [Cor.row]), Array.getElem?_eq_none (by simp [Cor.row])]
theorem blk_set_row {w : World} {B a : Nat} {r u : Nat → Int} {pc : Int} {h : Bool} {v : Int} (hb : Blk w B #[.int .u32 (r 0), .int .u32 (r 1), .int .u32 (r 2), .int .u32 (r 3), .int .u32 (r 4), .int .u32 (r 5), .int .u32 (r 6), .int .u32 (r 7), .int .i64 pc, .bool h]) (ha : a < 8) (hu : ∀ i, u i = if i = a then v else r i) : Blk (w.setCell ⟨B, a, none⟩ (.int .u32 v)) B #[.int .u32 (u 0), .int .u32 (u 1), .int .u32 (u 2), .int .u32 (u 3), .int .u32 (u 4), .int .u32 (u 5), .int .u32 (u 6), .int .u32 (u 7), .int .i64 pc, .bool h] := by
  have e : (⟨u, pc, h⟩ : Cor) = (⟨r, pc, h⟩ : Cor).set a v := by unfold Cor.set; rw [show u = _ from funext hu]
  have hs := hb.set (n := a) (.int .u32 v) (by simp; omega)
  refine hs.cast (Array.ext_getElem? fun j => ?_)
  show (Array.setIfInBounds (Cor.row ⟨r, pc, h⟩) a (.int .u32 v))[j]? = (Cor.row ⟨u, pc, h⟩)[j]?
  rw [e]
  by_cases hj : a = j
  · subst hj
    rw [Array.getElem?_setIfInBounds_self_of_lt (by simp [Cor.row]; omega), row_set_same' _ _ _ ha]
  · rw [Array.getElem?_setIfInBounds_ne hj, row_set' _ _ _ _ (fun e => hj e.symm)]
theorem blk_set_pc {w : World} {B : Nat} {r : Nat → Int} {pc q : Int} {h : Bool} (hb : Blk w B #[.int .u32 (r 0), .int .u32 (r 1), .int .u32 (r 2), .int .u32 (r 3), .int .u32 (r 4), .int .u32 (r 5), .int .u32 (r 6), .int .u32 (r 7), .int .i64 pc, .bool h]) : Blk (w.setCell ⟨B, 8, none⟩ (.int .i64 q)) B #[.int .u32 (r 0), .int .u32 (r 1), .int .u32 (r 2), .int .u32 (r 3), .int .u32 (r 4), .int .u32 (r 5), .int .u32 (r 6), .int .u32 (r 7), .int .i64 q, .bool h] := (hb.set (n := 8) (.int .i64 q) (by simp)).cast (by simp)

theorem doneR_halted (p : Option Addr) (len cap : Nat) (l : List I5) (r : Nat → Int) (pc was : Int) (w : World) (hl : l.length = len) (hp : Prg w p l) (v : Bool) (hv : coreB l ⟨r, pc, true⟩ = v) :
    Calls Try.prog 38 #[.slice p len cap, .agg #[.int .u32 (r 0), .int .u32 (r 1), .int .u32 (r 2), .int .u32 (r 3), .int .u32 (r 4), .int .u32 (r 5), .int .u32 (r 6), .int .u32 (r 7), .int .i64 pc, .bool true], .int .u32 was] w fun e w' => e = .returned (.agg #[.int .u32 (r 0), .int .u32 (r 1), .int .u32 (r 2), .int .u32 (r 3), .int .u32 (r 4), .int .u32 (r 5), .int .u32 (r 6), .int .u32 (r 7), .int .i64 pc, .bool true]) ∧ Below w.heap.size w w' := by
  have HL := Lib.hid hl
  have HP := Lib.hid hp
  have HV := Lib.hid hv
  clear hl hp hv
  cases v with
  | true =>
    go_enter Try.func38, Try.ntmps38
    go_wp2_with fail
    refine (coreR_call p len cap l ⟨r, pc, true⟩ true w _ HL HV HP (((Below.refl _ _).alloc (Nat.le_refl _) _).alloc (by rw [World.size_alloc]; omega) _)).mono ?_
    rintro e w1 ⟨rfl, hb1⟩
    obtain ⟨kB, kZ, hbb⟩ := two_blks hb1
    clear hb1
    have HB := Lib.hid hbb
    have HKB := Lib.hid kB
    have c2 := kZ.c
    have f2 := kZ.f
    have s1 := kB.lt
    have s2 := kZ.lt
    have c1 := kB.c
    clear kB kZ hbb HL HP HV
    go_wp2
    refine bodyPost_ret (v := .agg #[.int .u32 (r 0), .int .u32 (r 1), .int .u32 (r 2), .int .u32 (r 3), .int .u32 (r 4), .int .u32 (r 5), .int .u32 (r 6), .int .u32 (r 7), .int .i64 pc, .bool true]) (by simp [results, Try.results38, go_sem, c2]) rfl ⟨rfl, ?_⟩
    exact below10 HB.out (Nat.le_succ _) _ _ _ _ _ _ _ _ _ _
  | false =>
    go_enter Try.func38, Try.ntmps38
    go_wp2_with fail
    refine (coreR_call p len cap l ⟨r, pc, true⟩ false w _ HL HV HP (((Below.refl _ _).alloc (Nat.le_refl _) _).alloc (by rw [World.size_alloc]; omega) _)).mono ?_
    rintro e w1 ⟨rfl, hb1⟩
    obtain ⟨kB, kZ, hbb⟩ := two_blks hb1
    clear hb1
    have HB := Lib.hid hbb
    have HKB := Lib.hid kB
    have c2 := kZ.c
    have f2 := kZ.f
    have s1 := kB.lt
    have s2 := kZ.lt
    have c1 := kB.c
    clear kB kZ hbb HL HP HV
    go_wp2
    refine bodyPost_ret (v := .agg #[.int .u32 (r 0), .int .u32 (r 1), .int .u32 (r 2), .int .u32 (r 3), .int .u32 (r 4), .int .u32 (r 5), .int .u32 (r 6), .int .u32 (r 7), .int .i64 pc, .bool true]) (by simp [results, Try.results38, go_sem, c2]) rfl ⟨rfl, ?_⟩
    exact below10 HB.out (Nat.le_succ _) _ _ _ _ _ _ _ _ _ _

theorem doneR_wrong (p : Option Addr) (len cap : Nat) (l : List I5) (r : Nat → Int) (pc was : Int) (w : World) (hl : l.length = len) (hp : Prg w p l) (hv : coreB l ⟨r, pc, false⟩ = false) :
    Calls Try.prog 38 #[.slice p len cap, .agg #[.int .u32 (r 0), .int .u32 (r 1), .int .u32 (r 2), .int .u32 (r 3), .int .u32 (r 4), .int .u32 (r 5), .int .u32 (r 6), .int .u32 (r 7), .int .i64 pc, .bool false], .int .u32 was] w fun e w' => e = .returned (.agg #[.int .u32 (r 0), .int .u32 (r 1), .int .u32 (r 2), .int .u32 (r 3), .int .u32 (r 4), .int .u32 (r 5), .int .u32 (r 6), .int .u32 (r 7), .int .i64 pc, .bool false]) ∧ Below w.heap.size w w' := by
  have HL := Lib.hid hl
  have HP := Lib.hid hp
  have HV := Lib.hid hv
  clear hl hp hv
  go_enter Try.func38, Try.ntmps38
  go_wp2_with fail
  refine (coreR_call p len cap l ⟨r, pc, false⟩ false w _ HL HV HP (((Below.refl _ _).alloc (Nat.le_refl _) _).alloc (by rw [World.size_alloc]; omega) _)).mono ?_
  rintro e w1 ⟨rfl, hb1⟩
  obtain ⟨kB, kZ, hbb⟩ := two_blks hb1
  clear hb1
  have HB := Lib.hid hbb
  have HKB := Lib.hid kB
  have c2 := kZ.c
  have f2 := kZ.f
  have s1 := kB.lt
  have s2 := kZ.lt
  have c1 := kB.c
  clear kB kZ hbb HL HP HV
  go_wp2
  refine bodyPost_ret (v := .agg #[.int .u32 (r 0), .int .u32 (r 1), .int .u32 (r 2), .int .u32 (r 3), .int .u32 (r 4), .int .u32 (r 5), .int .u32 (r 6), .int .u32 (r 7), .int .i64 pc, .bool false]) (by simp [results, Try.results38, go_sem, c2]) rfl ⟨rfl, ?_⟩
  exact below10 HB.out (Nat.le_succ _) _ _ _ _ _ _ _ _ _ _

set_option maxHeartbeats 2000000 in
theorem doneR_stop (b off len cap n : Nat) (l : List I5) (a bb cc k : Int) (r : Nat → Int) (was : Int) (w : World) (hl : l.length = len) (hp : Prg w (some ⟨b, off, none⟩) l) (hv : coreB l ⟨r, n, false⟩ = true) (hn : n < len) (hlen : len ≤ 64)
    (hlt : b < w.heap.size) (hx : Lies w b (off + n * 5) ⟨16, a, bb, cc, k⟩) :
    Calls Try.prog 38 #[.slice (some ⟨b, off, none⟩) len cap, .agg #[.int .u32 (r 0), .int .u32 (r 1), .int .u32 (r 2), .int .u32 (r 3), .int .u32 (r 4), .int .u32 (r 5), .int .u32 (r 6), .int .u32 (r 7), .int .i64 n, .bool false], .int .u32 was] w fun e w' => e = .returned (.agg #[.int .u32 (r 0), .int .u32 (r 1), .int .u32 (r 2), .int .u32 (r 3), .int .u32 (r 4), .int .u32 (r 5), .int .u32 (r 6), .int .u32 (r 7), .int .i64 n, .bool true]) ∧ Below w.heap.size w w' := by
  have HL := Lib.hid hl
  have HP := Lib.hid hp
  have HV := Lib.hid hv
  have HX := Lib.hid hx
  clear hl hp hv hx
  go_enter Try.func38, Try.ntmps38
  go_wp2_with fail
  refine (coreR_call (some ⟨b, off, none⟩) len cap l ⟨r, n, false⟩ true w _ HL HV HP (((Below.refl _ _).alloc (Nat.le_refl _) _).alloc (by rw [World.size_alloc]; omega) _)).mono ?_
  rintro e w1 ⟨rfl, hb1⟩
  obtain ⟨kB, kZ, hbb⟩ := two_blks hb1
  clear hb1
  have HB := Lib.hid hbb
  have HKB := Lib.hid kB
  have c2 := kZ.c
  have f2 := kZ.f
  have s1 := kB.lt
  have s2 := kZ.lt
  obtain ⟨x0, x1, x2, x3, x4, g0, g1⟩ := HX.out.below hbb hlt
  have c1 := kB.c
  have fc := kB.f
  clear kB kZ hbb HX HL HP HV
  go_wp2
  refine bodyPost_ret (v := .agg #[.int .u32 (r 0), .int .u32 (r 1), .int .u32 (r 2), .int .u32 (r 3), .int .u32 (r 4), .int .u32 (r 5), .int .u32 (r 6), .int .u32 (r 7), .int .i64 n, .bool true]) (by simp [results, Try.results38, go_sem, c2, s1, s2]) rfl ⟨rfl, ?_⟩
  exact (below10 (HB.out.setCell (Nat.le_refl _) _) (Nat.le_succ _) _ _ _ _ _ _ _ _ _ _).alloc (by simpa using HB.out.size) _

set_option maxHeartbeats 2000000 in
theorem doneR_jump (b off len cap n : Nat) (l : List I5) (a bb cc k : Int) (r : Nat → Int) (was : Int) (w : World) (hl : l.length = len) (hp : Prg w (some ⟨b, off, none⟩) l) (hv : coreB l ⟨r, n, false⟩ = true) (hn : n < len) (hlen : len ≤ 64)
    (hlt : b < w.heap.size) (hx : Lies w b (off + n * 5) ⟨13, a, bb, cc, k⟩) :
    Calls Try.prog 38 #[.slice (some ⟨b, off, none⟩) len cap, .agg #[.int .u32 (r 0), .int .u32 (r 1), .int .u32 (r 2), .int .u32 (r 3), .int .u32 (r 4), .int .u32 (r 5), .int .u32 (r 6), .int .u32 (r 7), .int .i64 n, .bool false], .int .u32 was] w fun e w' => e = .returned (.agg #[.int .u32 (r 0), .int .u32 (r 1), .int .u32 (r 2), .int .u32 (r 3), .int .u32 (r 4), .int .u32 (r 5), .int .u32 (r 6), .int .u32 (r 7), .int .i64 k, .bool false]) ∧ Below w.heap.size w w' := by
  have HL := Lib.hid hl
  have HP := Lib.hid hp
  have HV := Lib.hid hv
  have HX := Lib.hid hx
  clear hl hp hv hx
  go_enter Try.func38, Try.ntmps38
  go_wp2_with fail
  refine (coreR_call (some ⟨b, off, none⟩) len cap l ⟨r, n, false⟩ true w _ HL HV HP (((Below.refl _ _).alloc (Nat.le_refl _) _).alloc (by rw [World.size_alloc]; omega) _)).mono ?_
  rintro e w1 ⟨rfl, hb1⟩
  obtain ⟨kB, kZ, hbb⟩ := two_blks hb1
  clear hb1
  have HB := Lib.hid hbb
  have HKB := Lib.hid kB
  have c2 := kZ.c
  have f2 := kZ.f
  have s1 := kB.lt
  have s2 := kZ.lt
  obtain ⟨x0, x1, x2, x3, x4, g0, g1⟩ := HX.out.below hbb hlt
  have c1 := kB.c
  have fc := kB.f
  have hwk : wrap64 k = k := by have a0 : 0 ≤ k := g0; have a1 : k ≤ 4294967295 := g1; unfold wrap64; omega
  clear kB kZ hbb HX HL HP HV
  go_wp2
  refine bodyPost_ret (v := .agg #[.int .u32 (r 0), .int .u32 (r 1), .int .u32 (r 2), .int .u32 (r 3), .int .u32 (r 4), .int .u32 (r 5), .int .u32 (r 6), .int .u32 (r 7), .int .i64 k, .bool false]) (by simp [results, Try.results38, go_sem, c2, s1, s2]) rfl ⟨rfl, ?_⟩
  exact (below10 (HB.out.setCell (Nat.le_refl _) _) (Nat.le_succ _) _ _ _ _ _ _ _ _ _ _).alloc (by simpa using HB.out.size) _

set_option maxHeartbeats 2000000 in
theorem doneR_plain (b off len cap n : Nat) (l : List I5) (op a bb cc k : Int) (r : Nat → Int) (was : Int) (w : World) (hl : l.length = len) (hp : Prg w (some ⟨b, off, none⟩) l) (hv : coreB l ⟨r, n, false⟩ = true) (hn : n < len) (hlen : len ≤ 64)
    (hlt : b < w.heap.size) (hx : Lies w b (off + n * 5) ⟨op, a, bb, cc, k⟩) (o16 : (op == 16) = false) (o13 : (op == 13) = false) (o14 : (op == 14) = false) (o1 : (op == 1) = false) (o2 : decide (2 ≤ op) = true) (o8 : decide (op ≤ 8) = false) (o9 : (op == 9) = false) (o11 : (op == 11) = false) :
    Calls Try.prog 38 #[.slice (some ⟨b, off, none⟩) len cap, .agg #[.int .u32 (r 0), .int .u32 (r 1), .int .u32 (r 2), .int .u32 (r 3), .int .u32 (r 4), .int .u32 (r 5), .int .u32 (r 6), .int .u32 (r 7), .int .i64 n, .bool false], .int .u32 was] w fun e w' => e = .returned (.agg #[.int .u32 (r 0), .int .u32 (r 1), .int .u32 (r 2), .int .u32 (r 3), .int .u32 (r 4), .int .u32 (r 5), .int .u32 (r 6), .int .u32 (r 7), .int .i64 (n + 1), .bool false]) ∧ Below w.heap.size w w' := by
  have HL := Lib.hid hl
  have HP := Lib.hid hp
  have HV := Lib.hid hv
  have HX := Lib.hid hx
  clear hl hp hv hx
  go_enter Try.func38, Try.ntmps38
  go_wp2_with fail
  refine (coreR_call (some ⟨b, off, none⟩) len cap l ⟨r, n, false⟩ true w _ HL HV HP (((Below.refl _ _).alloc (Nat.le_refl _) _).alloc (by rw [World.size_alloc]; omega) _)).mono ?_
  rintro e w1 ⟨rfl, hb1⟩
  obtain ⟨kB, kZ, hbb⟩ := two_blks hb1
  clear hb1
  have HB := Lib.hid hbb
  have HKB := Lib.hid kB
  have c2 := kZ.c
  have f2 := kZ.f
  have s1 := kB.lt
  have s2 := kZ.lt
  obtain ⟨x0, x1, x2, x3, x4, g0, g1⟩ := HX.out.below hbb hlt
  have c1 := kB.c
  have fc := kB.f
  clear kB kZ hbb HX HL HP HV
  go_wp2
  refine bodyPost_ret (v := .agg #[.int .u32 (r 0), .int .u32 (r 1), .int .u32 (r 2), .int .u32 (r 3), .int .u32 (r 4), .int .u32 (r 5), .int .u32 (r 6), .int .u32 (r 7), .int .i64 (n + 1), .bool false]) (by simp [results, Try.results38, go_sem, c2, s1, s2]) rfl ⟨rfl, ?_⟩
  exact (below10 (HB.out.setCell (Nat.le_refl _) _) (Nat.le_succ _) _ _ _ _ _ _ _ _ _ _).alloc (by simpa using HB.out.size) _

end Go.Proofs.Ytekiialhljfglaa
/- What the reference's Done answers of Zero, Set, Load, Swap and layer 1's; it writes nothing that was there. -/
namespace Go.Proofs.Ytekiialhljfglaa
set_option linter.unusedVariables false
open Go.ChangeShapes Go.WideShapes Go.ChangeAt Go.RowKit

set_option maxHeartbeats 2000000 in
theorem doneR_zero (b off len cap n : Nat) (l : List I5) (a : Nat) (bb cc k : Int) (r : Nat → Int) (was : Int) (w : World) (hl : l.length = len) (hp : Prg w (some ⟨b, off, none⟩) l) (hv : coreB l ⟨r, n, false⟩ = true) (hn : n < len) (hlen : len ≤ 64)
    (hlt : b < w.heap.size) (hx : Lies w b (off + n * 5) ⟨14, a, bb, cc, k⟩) (ha : a < 8) (hz : (r a == 0) = true) :
    Calls Try.prog 38 #[.slice (some ⟨b, off, none⟩) len cap, .agg #[.int .u32 (r 0), .int .u32 (r 1), .int .u32 (r 2), .int .u32 (r 3), .int .u32 (r 4), .int .u32 (r 5), .int .u32 (r 6), .int .u32 (r 7), .int .i64 n, .bool false], .int .u32 was] w fun e w' => e = .returned (.agg #[.int .u32 (r 0), .int .u32 (r 1), .int .u32 (r 2), .int .u32 (r 3), .int .u32 (r 4), .int .u32 (r 5), .int .u32 (r 6), .int .u32 (r 7), .int .i64 k, .bool false]) ∧ Below w.heap.size w w' := by
  have HL := Lib.hid hl
  have HP := Lib.hid hp
  have HV := Lib.hid hv
  have HX := Lib.hid hx
  clear hl hp hv hx
  go_enter Try.func38, Try.ntmps38
  go_wp2_with fail
  refine (coreR_call (some ⟨b, off, none⟩) len cap l ⟨r, n, false⟩ true w _ HL HV HP (((Below.refl _ _).alloc (Nat.le_refl _) _).alloc (by rw [World.size_alloc]; omega) _)).mono ?_
  rintro e w1 ⟨rfl, hb1⟩
  obtain ⟨kB, kZ, hbb⟩ := two_blks hb1
  clear hb1
  have HB := Lib.hid hbb
  have HKB := Lib.hid kB
  have c2 := kZ.c
  have f2 := kZ.f
  have s1 := kB.lt
  have s2 := kZ.lt
  obtain ⟨x0, x1, x2, x3, x4, g0, g1⟩ := HX.out.below hbb hlt
  have c1_0 : w1.cell? ⟨w.heap.size, 0, none⟩ = some (.int .u32 (r 0)) := kB.c 0
  have c1_1 : w1.cell? ⟨w.heap.size, 1, none⟩ = some (.int .u32 (r 1)) := kB.c 1
  have c1_2 : w1.cell? ⟨w.heap.size, 2, none⟩ = some (.int .u32 (r 2)) := kB.c 2
  have c1_3 : w1.cell? ⟨w.heap.size, 3, none⟩ = some (.int .u32 (r 3)) := kB.c 3
  have c1_4 : w1.cell? ⟨w.heap.size, 4, none⟩ = some (.int .u32 (r 4)) := kB.c 4
  have c1_5 : w1.cell? ⟨w.heap.size, 5, none⟩ = some (.int .u32 (r 5)) := kB.c 5
  have c1_6 : w1.cell? ⟨w.heap.size, 6, none⟩ = some (.int .u32 (r 6)) := kB.c 6
  have c1_7 : w1.cell? ⟨w.heap.size, 7, none⟩ = some (.int .u32 (r 7)) := kB.c 7
  have c1_8 : w1.cell? ⟨w.heap.size, 8, none⟩ = some (.int .i64 n) := kB.c 8
  have c1_9 : w1.cell? ⟨w.heap.size, 9, none⟩ = some (.bool false) := kB.c 9
  have fc := kB.f
  have qa : w1.cell? ⟨w.heap.size, a, none⟩ = some (.int .u32 (r a)) := (kB.c a).trans (Cor.row_at ⟨r, n, false⟩ a ha)
  have ia0 : (0 : Int) ≤ (a : Int) := by omega
  have ia1 : (a : Int) < 8 := by omega
  have hwk : wrap64 k = k := by have a0 : 0 ≤ k := g0; have a1 : k ≤ 4294967295 := g1; unfold wrap64; omega
  clear kB kZ hbb HX HL HP HV
  go_wp2
  refine bodyPost_ret (v := .agg #[.int .u32 (r 0), .int .u32 (r 1), .int .u32 (r 2), .int .u32 (r 3), .int .u32 (r 4), .int .u32 (r 5), .int .u32 (r 6), .int .u32 (r 7), .int .i64 k, .bool false]) (by simp [results, Try.results38, go_sem, c2, s1, s2]) rfl ⟨rfl, ?_⟩
  exact (below10 (HB.out.setCell (Nat.le_refl _) _) (Nat.le_succ _) _ _ _ _ _ _ _ _ _ _).alloc (by simpa using HB.out.size) _

set_option maxHeartbeats 2000000 in
theorem doneR_pass (b off len cap n : Nat) (l : List I5) (a : Nat) (bb cc k : Int) (r : Nat → Int) (was : Int) (w : World) (hl : l.length = len) (hp : Prg w (some ⟨b, off, none⟩) l) (hv : coreB l ⟨r, n, false⟩ = true) (hn : n < len) (hlen : len ≤ 64)
    (hlt : b < w.heap.size) (hx : Lies w b (off + n * 5) ⟨14, a, bb, cc, k⟩) (ha : a < 8) (hz : (r a == 0) = false) :
    Calls Try.prog 38 #[.slice (some ⟨b, off, none⟩) len cap, .agg #[.int .u32 (r 0), .int .u32 (r 1), .int .u32 (r 2), .int .u32 (r 3), .int .u32 (r 4), .int .u32 (r 5), .int .u32 (r 6), .int .u32 (r 7), .int .i64 n, .bool false], .int .u32 was] w fun e w' => e = .returned (.agg #[.int .u32 (r 0), .int .u32 (r 1), .int .u32 (r 2), .int .u32 (r 3), .int .u32 (r 4), .int .u32 (r 5), .int .u32 (r 6), .int .u32 (r 7), .int .i64 (n + 1), .bool false]) ∧ Below w.heap.size w w' := by
  have HL := Lib.hid hl
  have HP := Lib.hid hp
  have HV := Lib.hid hv
  have HX := Lib.hid hx
  clear hl hp hv hx
  go_enter Try.func38, Try.ntmps38
  go_wp2_with fail
  refine (coreR_call (some ⟨b, off, none⟩) len cap l ⟨r, n, false⟩ true w _ HL HV HP (((Below.refl _ _).alloc (Nat.le_refl _) _).alloc (by rw [World.size_alloc]; omega) _)).mono ?_
  rintro e w1 ⟨rfl, hb1⟩
  obtain ⟨kB, kZ, hbb⟩ := two_blks hb1
  clear hb1
  have HB := Lib.hid hbb
  have HKB := Lib.hid kB
  have c2 := kZ.c
  have f2 := kZ.f
  have s1 := kB.lt
  have s2 := kZ.lt
  obtain ⟨x0, x1, x2, x3, x4, g0, g1⟩ := HX.out.below hbb hlt
  have c1_0 : w1.cell? ⟨w.heap.size, 0, none⟩ = some (.int .u32 (r 0)) := kB.c 0
  have c1_1 : w1.cell? ⟨w.heap.size, 1, none⟩ = some (.int .u32 (r 1)) := kB.c 1
  have c1_2 : w1.cell? ⟨w.heap.size, 2, none⟩ = some (.int .u32 (r 2)) := kB.c 2
  have c1_3 : w1.cell? ⟨w.heap.size, 3, none⟩ = some (.int .u32 (r 3)) := kB.c 3
  have c1_4 : w1.cell? ⟨w.heap.size, 4, none⟩ = some (.int .u32 (r 4)) := kB.c 4
  have c1_5 : w1.cell? ⟨w.heap.size, 5, none⟩ = some (.int .u32 (r 5)) := kB.c 5
  have c1_6 : w1.cell? ⟨w.heap.size, 6, none⟩ = some (.int .u32 (r 6)) := kB.c 6
  have c1_7 : w1.cell? ⟨w.heap.size, 7, none⟩ = some (.int .u32 (r 7)) := kB.c 7
  have c1_8 : w1.cell? ⟨w.heap.size, 8, none⟩ = some (.int .i64 n) := kB.c 8
  have c1_9 : w1.cell? ⟨w.heap.size, 9, none⟩ = some (.bool false) := kB.c 9
  have fc := kB.f
  have qa : w1.cell? ⟨w.heap.size, a, none⟩ = some (.int .u32 (r a)) := (kB.c a).trans (Cor.row_at ⟨r, n, false⟩ a ha)
  have ia0 : (0 : Int) ≤ (a : Int) := by omega
  have ia1 : (a : Int) < 8 := by omega
  clear kB kZ hbb HX HL HP HV
  go_wp2
  refine bodyPost_ret (v := .agg #[.int .u32 (r 0), .int .u32 (r 1), .int .u32 (r 2), .int .u32 (r 3), .int .u32 (r 4), .int .u32 (r 5), .int .u32 (r 6), .int .u32 (r 7), .int .i64 (n + 1), .bool false]) (by simp [results, Try.results38, go_sem, c2, s1, s2]) rfl ⟨rfl, ?_⟩
  exact (below10 (HB.out.setCell (Nat.le_refl _) _) (Nat.le_succ _) _ _ _ _ _ _ _ _ _ _).alloc (by simpa using HB.out.size) _

set_option maxHeartbeats 2000000 in
theorem doneR_set (b off len cap n : Nat) (l : List I5) (a : Nat) (bb cc k : Int) (r : Nat → Int) (was : Int) (w : World) (hl : l.length = len) (hp : Prg w (some ⟨b, off, none⟩) l) (hv : coreB l ⟨r, n, false⟩ = true) (hn : n < len) (hlen : len ≤ 64)
    (hlt : b < w.heap.size) (hx : Lies w b (off + n * 5) ⟨1, a, bb, cc, k⟩) (ha : a < 8) (u : Nat → Int) (hu : Hid (∀ i, u i = if i = a then k else r i)) :
    Calls Try.prog 38 #[.slice (some ⟨b, off, none⟩) len cap, .agg #[.int .u32 (r 0), .int .u32 (r 1), .int .u32 (r 2), .int .u32 (r 3), .int .u32 (r 4), .int .u32 (r 5), .int .u32 (r 6), .int .u32 (r 7), .int .i64 n, .bool false], .int .u32 was] w fun e w' => e = .returned (.agg #[.int .u32 (u 0), .int .u32 (u 1), .int .u32 (u 2), .int .u32 (u 3), .int .u32 (u 4), .int .u32 (u 5), .int .u32 (u 6), .int .u32 (u 7), .int .i64 (n + 1), .bool false]) ∧ Below w.heap.size w w' := by
  have HL := Lib.hid hl
  have HP := Lib.hid hp
  have HV := Lib.hid hv
  have HX := Lib.hid hx
  clear hl hp hv hx
  go_enter Try.func38, Try.ntmps38
  go_wp2_with fail
  refine (coreR_call (some ⟨b, off, none⟩) len cap l ⟨r, n, false⟩ true w _ HL HV HP (((Below.refl _ _).alloc (Nat.le_refl _) _).alloc (by rw [World.size_alloc]; omega) _)).mono ?_
  rintro e w1 ⟨rfl, hb1⟩
  obtain ⟨kB, kZ, hbb⟩ := two_blks hb1
  clear hb1
  have HB := Lib.hid hbb
  have HKB := Lib.hid kB
  have c2 := kZ.c
  have f2 := kZ.f
  have s1 := kB.lt
  have s2 := kZ.lt
  obtain ⟨x0, x1, x2, x3, x4, g0, g1⟩ := HX.out.below hbb hlt
  have fc := kB.f
  have qa : w1.cell? ⟨w.heap.size, a, none⟩ = some (.int .u32 (r a)) := (kB.c a).trans (Cor.row_at ⟨r, n, false⟩ a ha)
  have ia0 : (0 : Int) ≤ (a : Int) := by omega
  have ia1 : (a : Int) < 8 := by omega
  have ef : ∀ j, ((w1.setCell ⟨w.heap.size, 8, none⟩ (.int .i64 (n + 1))).setCell ⟨w.heap.size, a, none⟩ (.int .u32 k)).cell? ⟨w.heap.size, j, none⟩ = (#[.int .u32 (u 0), .int .u32 (u 1), .int .u32 (u 2), .int .u32 (u 3), .int .u32 (u 4), .int .u32 (u 5), .int .u32 (u 6), .int .u32 (u 7), .int .i64 (n + 1), .bool false] : Array Value)[j]? := (blk_set_row (blk_set_pc HKB.out) ha hu.out).c
  have c8 : w1.cell? ⟨w.heap.size, 8, none⟩ = some (.int .i64 n) := kB.c 8
  have c9 : w1.cell? ⟨w.heap.size, 9, none⟩ = some (.bool false) := kB.c 9
  have ne8 : ¬ a = 8 := by omega
  clear kB kZ hbb HX HL HP HV
  go_wp2
  refine bodyPost_ret (v := .agg #[.int .u32 (u 0), .int .u32 (u 1), .int .u32 (u 2), .int .u32 (u 3), .int .u32 (u 4), .int .u32 (u 5), .int .u32 (u 6), .int .u32 (u 7), .int .i64 (n + 1), .bool false]) (by simp [results, Try.results38, go_sem, c2, s1, s2]) rfl ⟨rfl, ?_⟩
  exact (below10 ((HB.out.setCell (Nat.le_refl _) _).setCell (Nat.le_refl _) _) (Nat.le_succ _) _ _ _ _ _ _ _ _ _ _).alloc (by simpa using HB.out.size) _

set_option maxHeartbeats 2000000 in
theorem doneR_read9 (b off len cap n : Nat) (l : List I5) (a : Nat) (bb cc k : Int) (r : Nat → Int) (was : Int) (w : World) (hl : l.length = len) (hp : Prg w (some ⟨b, off, none⟩) l) (hv : coreB l ⟨r, n, false⟩ = true) (hn : n < len) (hlen : len ≤ 64)
    (hlt : b < w.heap.size) (hx : Lies w b (off + n * 5) ⟨9, a, bb, cc, k⟩) (ha : a < 8) (u : Nat → Int) (hu : Hid (∀ i, u i = if i = a then was else r i)) :
    Calls Try.prog 38 #[.slice (some ⟨b, off, none⟩) len cap, .agg #[.int .u32 (r 0), .int .u32 (r 1), .int .u32 (r 2), .int .u32 (r 3), .int .u32 (r 4), .int .u32 (r 5), .int .u32 (r 6), .int .u32 (r 7), .int .i64 n, .bool false], .int .u32 was] w fun e w' => e = .returned (.agg #[.int .u32 (u 0), .int .u32 (u 1), .int .u32 (u 2), .int .u32 (u 3), .int .u32 (u 4), .int .u32 (u 5), .int .u32 (u 6), .int .u32 (u 7), .int .i64 (n + 1), .bool false]) ∧ Below w.heap.size w w' := by
  have HL := Lib.hid hl
  have HP := Lib.hid hp
  have HV := Lib.hid hv
  have HX := Lib.hid hx
  clear hl hp hv hx
  go_enter Try.func38, Try.ntmps38
  go_wp2_with fail
  refine (coreR_call (some ⟨b, off, none⟩) len cap l ⟨r, n, false⟩ true w _ HL HV HP (((Below.refl _ _).alloc (Nat.le_refl _) _).alloc (by rw [World.size_alloc]; omega) _)).mono ?_
  rintro e w1 ⟨rfl, hb1⟩
  obtain ⟨kB, kZ, hbb⟩ := two_blks hb1
  clear hb1
  have HB := Lib.hid hbb
  have HKB := Lib.hid kB
  have c2 := kZ.c
  have f2 := kZ.f
  have s1 := kB.lt
  have s2 := kZ.lt
  obtain ⟨x0, x1, x2, x3, x4, g0, g1⟩ := HX.out.below hbb hlt
  have fc := kB.f
  have qa : w1.cell? ⟨w.heap.size, a, none⟩ = some (.int .u32 (r a)) := (kB.c a).trans (Cor.row_at ⟨r, n, false⟩ a ha)
  have ia0 : (0 : Int) ≤ (a : Int) := by omega
  have ia1 : (a : Int) < 8 := by omega
  have ef : ∀ j, ((w1.setCell ⟨w.heap.size, 8, none⟩ (.int .i64 (n + 1))).setCell ⟨w.heap.size, a, none⟩ (.int .u32 was)).cell? ⟨w.heap.size, j, none⟩ = (#[.int .u32 (u 0), .int .u32 (u 1), .int .u32 (u 2), .int .u32 (u 3), .int .u32 (u 4), .int .u32 (u 5), .int .u32 (u 6), .int .u32 (u 7), .int .i64 (n + 1), .bool false] : Array Value)[j]? := (blk_set_row (blk_set_pc HKB.out) ha hu.out).c
  have c8 : w1.cell? ⟨w.heap.size, 8, none⟩ = some (.int .i64 n) := kB.c 8
  have c9 : w1.cell? ⟨w.heap.size, 9, none⟩ = some (.bool false) := kB.c 9
  have ne8 : ¬ a = 8 := by omega
  clear kB kZ hbb HX HL HP HV
  go_wp2
  refine bodyPost_ret (v := .agg #[.int .u32 (u 0), .int .u32 (u 1), .int .u32 (u 2), .int .u32 (u 3), .int .u32 (u 4), .int .u32 (u 5), .int .u32 (u 6), .int .u32 (u 7), .int .i64 (n + 1), .bool false]) (by simp [results, Try.results38, go_sem, c2, s1, s2]) rfl ⟨rfl, ?_⟩
  exact (below10 ((HB.out.setCell (Nat.le_refl _) _).setCell (Nat.le_refl _) _) (Nat.le_succ _) _ _ _ _ _ _ _ _ _ _).alloc (by simpa using HB.out.size) _

set_option maxHeartbeats 2000000 in
theorem doneR_read11 (b off len cap n : Nat) (l : List I5) (a : Nat) (bb cc k : Int) (r : Nat → Int) (was : Int) (w : World) (hl : l.length = len) (hp : Prg w (some ⟨b, off, none⟩) l) (hv : coreB l ⟨r, n, false⟩ = true) (hn : n < len) (hlen : len ≤ 64)
    (hlt : b < w.heap.size) (hx : Lies w b (off + n * 5) ⟨11, a, bb, cc, k⟩) (ha : a < 8) (u : Nat → Int) (hu : Hid (∀ i, u i = if i = a then was else r i)) :
    Calls Try.prog 38 #[.slice (some ⟨b, off, none⟩) len cap, .agg #[.int .u32 (r 0), .int .u32 (r 1), .int .u32 (r 2), .int .u32 (r 3), .int .u32 (r 4), .int .u32 (r 5), .int .u32 (r 6), .int .u32 (r 7), .int .i64 n, .bool false], .int .u32 was] w fun e w' => e = .returned (.agg #[.int .u32 (u 0), .int .u32 (u 1), .int .u32 (u 2), .int .u32 (u 3), .int .u32 (u 4), .int .u32 (u 5), .int .u32 (u 6), .int .u32 (u 7), .int .i64 (n + 1), .bool false]) ∧ Below w.heap.size w w' := by
  have HL := Lib.hid hl
  have HP := Lib.hid hp
  have HV := Lib.hid hv
  have HX := Lib.hid hx
  clear hl hp hv hx
  go_enter Try.func38, Try.ntmps38
  go_wp2_with fail
  refine (coreR_call (some ⟨b, off, none⟩) len cap l ⟨r, n, false⟩ true w _ HL HV HP (((Below.refl _ _).alloc (Nat.le_refl _) _).alloc (by rw [World.size_alloc]; omega) _)).mono ?_
  rintro e w1 ⟨rfl, hb1⟩
  obtain ⟨kB, kZ, hbb⟩ := two_blks hb1
  clear hb1
  have HB := Lib.hid hbb
  have HKB := Lib.hid kB
  have c2 := kZ.c
  have f2 := kZ.f
  have s1 := kB.lt
  have s2 := kZ.lt
  obtain ⟨x0, x1, x2, x3, x4, g0, g1⟩ := HX.out.below hbb hlt
  have fc := kB.f
  have qa : w1.cell? ⟨w.heap.size, a, none⟩ = some (.int .u32 (r a)) := (kB.c a).trans (Cor.row_at ⟨r, n, false⟩ a ha)
  have ia0 : (0 : Int) ≤ (a : Int) := by omega
  have ia1 : (a : Int) < 8 := by omega
  have ef : ∀ j, ((w1.setCell ⟨w.heap.size, 8, none⟩ (.int .i64 (n + 1))).setCell ⟨w.heap.size, a, none⟩ (.int .u32 was)).cell? ⟨w.heap.size, j, none⟩ = (#[.int .u32 (u 0), .int .u32 (u 1), .int .u32 (u 2), .int .u32 (u 3), .int .u32 (u 4), .int .u32 (u 5), .int .u32 (u 6), .int .u32 (u 7), .int .i64 (n + 1), .bool false] : Array Value)[j]? := (blk_set_row (blk_set_pc HKB.out) ha hu.out).c
  have c8 : w1.cell? ⟨w.heap.size, 8, none⟩ = some (.int .i64 n) := kB.c 8
  have c9 : w1.cell? ⟨w.heap.size, 9, none⟩ = some (.bool false) := kB.c 9
  have ne8 : ¬ a = 8 := by omega
  clear kB kZ hbb HX HL HP HV
  go_wp2
  refine bodyPost_ret (v := .agg #[.int .u32 (u 0), .int .u32 (u 1), .int .u32 (u 2), .int .u32 (u 3), .int .u32 (u 4), .int .u32 (u 5), .int .u32 (u 6), .int .u32 (u 7), .int .i64 (n + 1), .bool false]) (by simp [results, Try.results38, go_sem, c2, s1, s2]) rfl ⟨rfl, ?_⟩
  exact (below10 ((HB.out.setCell (Nat.le_refl _) _).setCell (Nat.le_refl _) _) (Nat.le_succ _) _ _ _ _ _ _ _ _ _ _).alloc (by simpa using HB.out.size) _

end Go.Proofs.Ytekiialhljfglaa
