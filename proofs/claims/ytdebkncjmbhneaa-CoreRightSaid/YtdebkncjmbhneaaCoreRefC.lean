/- What the reference's Done answers, by the operation; it writes nothing that was there. -/
import Derived.Test.YtdebkncjmbhneaaCoreRefA
import Derived.Test.YtdebkncjmbhneaaCoreE
import Derived.Test.YtdebkncjmbhneaaRefDo
namespace Go.Proofs.Ytdebkncjmbhneaa
set_option linter.unusedVariables false
open Go.ChangeShapes Go.WideShapes Go.ChangeAt Go.RowKit

theorem two_blks {w w1 : World} {cs ds : Array Value} {t u : TypeId} (hb : Below ((w.alloc (.cells cs t)).alloc (.cells ds u)).heap.size ((w.alloc (.cells cs t)).alloc (.cells ds u)) w1) :
    Blk w1 w.heap.size cs ∧ Blk w1 (w.heap.size + 1) ds ∧ Below w.heap.size w w1 := by
  obtain ⟨a, b, c, d, e, f, g⟩ := two_boxes hb
  exact ⟨⟨e, a, c⟩, ⟨f, b, d⟩, g⟩
theorem row_set_same' (c : Cor) (n : Nat) (v : Int) (h : n < 8) : (c.set n v).row[n]? = some (.int .u32 v) := by
  rw [Cor.row_at _ n h]; simp [Cor.set]
theorem row_set' (c : Cor) (n : Nat) (v : Int) (j : Nat) (hj : j ≠ n) : (c.set n v).row[j]? = c.row[j]? := by
  by_cases h : j < 8
  · rw [Cor.row_at _ j h, Cor.row_at _ j h]; simp [Cor.set, hj]
  · match j with
    | 0 | 1 | 2 | 3 | 4 | 5 | 6 | 7 => exact absurd (by decide) h
    | 8 => rfl
    | 9 => rfl
    | j + 10 => rw [Array.getElem?_eq_none (by simp [Cor.row]), Array.getElem?_eq_none (by simp [Cor.row])]
theorem blk_set_row {w : World} {B a : Nat} {r u : Nat → Int} {pc : Int} {h : Bool} {v : Int} (hb : Blk w B #[.int .u32 (r 0), .int .u32 (r 1), .int .u32 (r 2), .int .u32 (r 3), .int .u32 (r 4), .int .u32 (r 5), .int .u32 (r 6), .int .u32 (r 7), .int .i64 pc, .bool h]) (ha : a < 8) (hu : ∀ i, u i = if i = a then v else r i) : Blk (w.setCell ⟨B, a, none⟩ (.int .u32 v)) B #[.int .u32 (u 0), .int .u32 (u 1), .int .u32 (u 2), .int .u32 (u 3), .int .u32 (u 4), .int .u32 (u 5), .int .u32 (u 6), .int .u32 (u 7), .int .i64 pc, .bool h] := by
  have e : (⟨u, pc, h⟩ : Cor) = (⟨r, pc, h⟩ : Cor).set a v := by unfold Cor.set; rw [show u = _ from funext hu]
  have hs := hb.set (n := a) (.int .u32 v) (by simp; omega)
  refine hs.cast (Array.ext_getElem? fun j => ?_)
  show (Array.setIfInBounds (Cor.row ⟨r, pc, h⟩) a (.int .u32 v))[j]? = (Cor.row ⟨u, pc, h⟩)[j]?
  rw [e]
  by_cases hj : a = j
  · subst hj
    rw [Array.getElem?_setIfInBounds_self_of_lt (by simp [Cor.row]; omega), row_set_same' _ _ _ ha]
  · rw [Array.getElem?_setIfInBounds_ne hj, row_set' _ _ _ _ (fun e => hj e.symm)]
theorem blk_set_pc {w : World} {B : Nat} {r : Nat → Int} {pc q : Int} {h : Bool} (hb : Blk w B #[.int .u32 (r 0), .int .u32 (r 1), .int .u32 (r 2), .int .u32 (r 3), .int .u32 (r 4), .int .u32 (r 5), .int .u32 (r 6), .int .u32 (r 7), .int .i64 pc, .bool h]) : Blk (w.setCell ⟨B, 8, none⟩ (.int .i64 q)) B #[.int .u32 (r 0), .int .u32 (r 1), .int .u32 (r 2), .int .u32 (r 3), .int .u32 (r 4), .int .u32 (r 5), .int .u32 (r 6), .int .u32 (r 7), .int .i64 q, .bool h] := (hb.set (n := 8) (.int .i64 q) (by simp)).cast (by simp)

theorem doneR_halted (p : Option Addr) (len cap : Nat) (l : List I5) (r : Nat → Int) (pc was : Int) (w : World) (hl : l.length = len) (hp : Prg w p l) (v : Bool) (hv : coreB l ⟨r, pc, true⟩ = v) :
    Calls Try.prog 12 #[.slice p len cap, .agg #[.int .u32 (r 0), .int .u32 (r 1), .int .u32 (r 2), .int .u32 (r 3), .int .u32 (r 4), .int .u32 (r 5), .int .u32 (r 6), .int .u32 (r 7), .int .i64 pc, .bool true], .int .u32 was] w fun e w' => e = .returned (.agg #[.int .u32 (r 0), .int .u32 (r 1), .int .u32 (r 2), .int .u32 (r 3), .int .u32 (r 4), .int .u32 (r 5), .int .u32 (r 6), .int .u32 (r 7), .int .i64 pc, .bool true]) ∧ Below w.heap.size w w' := by
  have HL := Lib.hid hl
  have HP := Lib.hid hp
  have HV := Lib.hid hv
  clear hl hp hv
  cases v with
  | true =>
    go_enter Try.func12, Try.ntmps12
    go_wp2_with fail
    refine (coreR_call p len cap l ⟨r, pc, true⟩ true w _ HL HV HP (((Below.refl _ _).alloc (Nat.le_refl _) _).alloc (by rw [World.size_alloc]; omega) _)).mono ?_
    rintro e w1 ⟨rfl, hb1⟩
    obtain ⟨kB, kZ, hbb⟩ := two_blks hb1
    clear hb1
    have HB := Lib.hid hbb
    have HKB := Lib.hid kB
    have c2 := kZ.c
    have f2 := kZ.f
    have s1 := kB.lt
    have s2 := kZ.lt
    have c1 := kB.c
    clear kB kZ hbb HL HP HV
    go_wp2
    refine bodyPost_ret (v := .agg #[.int .u32 (r 0), .int .u32 (r 1), .int .u32 (r 2), .int .u32 (r 3), .int .u32 (r 4), .int .u32 (r 5), .int .u32 (r 6), .int .u32 (r 7), .int .i64 pc, .bool true]) (by simp [results, Try.results12, go_sem, c2]) rfl ⟨rfl, ?_⟩
    exact below10 HB.out (Nat.le_succ _) _ _ _ _ _ _ _ _ _ _
  | false =>
    go_enter Try.func12, Try.ntmps12
    go_wp2_with fail
    refine (coreR_call p len cap l ⟨r, pc, true⟩ false w _ HL HV HP (((Below.refl _ _).alloc (Nat.le_refl _) _).alloc (by rw [World.size_alloc]; omega) _)).mono ?_
    rintro e w1 ⟨rfl, hb1⟩
    obtain ⟨kB, kZ, hbb⟩ := two_blks hb1
    clear hb1
    have HB := Lib.hid hbb
    have HKB := Lib.hid kB
    have c2 := kZ.c
    have f2 := kZ.f
    have s1 := kB.lt
    have s2 := kZ.lt
    have c1 := kB.c
    clear kB kZ hbb HL HP HV
    go_wp2
    refine bodyPost_ret (v := .agg #[.int .u32 (r 0), .int .u32 (r 1), .int .u32 (r 2), .int .u32 (r 3), .int .u32 (r 4), .int .u32 (r 5), .int .u32 (r 6), .int .u32 (r 7), .int .i64 pc, .bool true]) (by simp [results, Try.results12, go_sem, c2]) rfl ⟨rfl, ?_⟩
    exact below10 HB.out (Nat.le_succ _) _ _ _ _ _ _ _ _ _ _

theorem doneR_wrong (p : Option Addr) (len cap : Nat) (l : List I5) (r : Nat → Int) (pc was : Int) (w : World) (hl : l.length = len) (hp : Prg w p l) (hv : coreB l ⟨r, pc, false⟩ = false) :
    Calls Try.prog 12 #[.slice p len cap, .agg #[.int .u32 (r 0), .int .u32 (r 1), .int .u32 (r 2), .int .u32 (r 3), .int .u32 (r 4), .int .u32 (r 5), .int .u32 (r 6), .int .u32 (r 7), .int .i64 pc, .bool false], .int .u32 was] w fun e w' => e = .returned (.agg #[.int .u32 (r 0), .int .u32 (r 1), .int .u32 (r 2), .int .u32 (r 3), .int .u32 (r 4), .int .u32 (r 5), .int .u32 (r 6), .int .u32 (r 7), .int .i64 pc, .bool false]) ∧ Below w.heap.size w w' := by
  have HL := Lib.hid hl
  have HP := Lib.hid hp
  have HV := Lib.hid hv
  clear hl hp hv
  go_enter Try.func12, Try.ntmps12
  go_wp2_with fail
  refine (coreR_call p len cap l ⟨r, pc, false⟩ false w _ HL HV HP (((Below.refl _ _).alloc (Nat.le_refl _) _).alloc (by rw [World.size_alloc]; omega) _)).mono ?_
  rintro e w1 ⟨rfl, hb1⟩
  obtain ⟨kB, kZ, hbb⟩ := two_blks hb1
  clear hb1
  have HB := Lib.hid hbb
  have HKB := Lib.hid kB
  have c2 := kZ.c
  have f2 := kZ.f
  have s1 := kB.lt
  have s2 := kZ.lt
  have c1 := kB.c
  clear kB kZ hbb HL HP HV
  go_wp2
  refine bodyPost_ret (v := .agg #[.int .u32 (r 0), .int .u32 (r 1), .int .u32 (r 2), .int .u32 (r 3), .int .u32 (r 4), .int .u32 (r 5), .int .u32 (r 6), .int .u32 (r 7), .int .i64 pc, .bool false]) (by simp [results, Try.results12, go_sem, c2]) rfl ⟨rfl, ?_⟩
  exact below10 HB.out (Nat.le_succ _) _ _ _ _ _ _ _ _ _ _

set_option maxHeartbeats 2000000 in
theorem doneR_stop (b off len cap n : Nat) (l : List I5) (a bb cc k : Int) (r : Nat → Int) (was : Int) (w : World) (hl : l.length = len) (hp : Prg w (some ⟨b, off, none⟩) l) (hv : coreB l ⟨r, n, false⟩ = true) (hn : n < len) (hlen : len ≤ 64)
    (hlt : b < w.heap.size) (hx : Lies w b (off + n * 5) ⟨16, a, bb, cc, k⟩) :
    Calls Try.prog 12 #[.slice (some ⟨b, off, none⟩) len cap, .agg #[.int .u32 (r 0), .int .u32 (r 1), .int .u32 (r 2), .int .u32 (r 3), .int .u32 (r 4), .int .u32 (r 5), .int .u32 (r 6), .int .u32 (r 7), .int .i64 n, .bool false], .int .u32 was] w fun e w' => e = .returned (.agg #[.int .u32 (r 0), .int .u32 (r 1), .int .u32 (r 2), .int .u32 (r 3), .int .u32 (r 4), .int .u32 (r 5), .int .u32 (r 6), .int .u32 (r 7), .int .i64 n, .bool true]) ∧ Below w.heap.size w w' := by
  have HL := Lib.hid hl
  have HP := Lib.hid hp
  have HV := Lib.hid hv
  have HX := Lib.hid hx
  clear hl hp hv hx
  go_enter Try.func12, Try.ntmps12
  go_wp2_with fail
  refine (coreR_call (some ⟨b, off, none⟩) len cap l ⟨r, n, false⟩ true w _ HL HV HP (((Below.refl _ _).alloc (Nat.le_refl _) _).alloc (by rw [World.size_alloc]; omega) _)).mono ?_
  rintro e w1 ⟨rfl, hb1⟩
  obtain ⟨kB, kZ, hbb⟩ := two_blks hb1
  clear hb1
  have HB := Lib.hid hbb
  have HKB := Lib.hid kB
  have c2 := kZ.c
  have f2 := kZ.f
  have s1 := kB.lt
  have s2 := kZ.lt
  obtain ⟨x0, x1, x2, x3, x4, g0, g1⟩ := HX.out.below hbb hlt
  have c1 := kB.c
  have fc := kB.f
  clear kB kZ hbb HX HL HP HV
  go_wp2
  refine bodyPost_ret (v := .agg #[.int .u32 (r 0), .int .u32 (r 1), .int .u32 (r 2), .int .u32 (r 3), .int .u32 (r 4), .int .u32 (r 5), .int .u32 (r 6), .int .u32 (r 7), .int .i64 n, .bool true]) (by simp [results, Try.results12, go_sem, c2, s1, s2]) rfl ⟨rfl, ?_⟩
  exact (below10 (HB.out.setCell (Nat.le_refl _) _) (Nat.le_succ _) _ _ _ _ _ _ _ _ _ _).alloc (by simpa using HB.out.size) _

set_option maxHeartbeats 2000000 in
theorem doneR_jump (b off len cap n : Nat) (l : List I5) (a bb cc k : Int) (r : Nat → Int) (was : Int) (w : World) (hl : l.length = len) (hp : Prg w (some ⟨b, off, none⟩) l) (hv : coreB l ⟨r, n, false⟩ = true) (hn : n < len) (hlen : len ≤ 64)
    (hlt : b < w.heap.size) (hx : Lies w b (off + n * 5) ⟨13, a, bb, cc, k⟩) :
    Calls Try.prog 12 #[.slice (some ⟨b, off, none⟩) len cap, .agg #[.int .u32 (r 0), .int .u32 (r 1), .int .u32 (r 2), .int .u32 (r 3), .int .u32 (r 4), .int .u32 (r 5), .int .u32 (r 6), .int .u32 (r 7), .int .i64 n, .bool false], .int .u32 was] w fun e w' => e = .returned (.agg #[.int .u32 (r 0), .int .u32 (r 1), .int .u32 (r 2), .int .u32 (r 3), .int .u32 (r 4), .int .u32 (r 5), .int .u32 (r 6), .int .u32 (r 7), .int .i64 k, .bool false]) ∧ Below w.heap.size w w' := by
  have HL := Lib.hid hl
  have HP := Lib.hid hp
  have HV := Lib.hid hv
  have HX := Lib.hid hx
  clear hl hp hv hx
  go_enter Try.func12, Try.ntmps12
  go_wp2_with fail
  refine (coreR_call (some ⟨b, off, none⟩) len cap l ⟨r, n, false⟩ true w _ HL HV HP (((Below.refl _ _).alloc (Nat.le_refl _) _).alloc (by rw [World.size_alloc]; omega) _)).mono ?_
  rintro e w1 ⟨rfl, hb1⟩
  obtain ⟨kB, kZ, hbb⟩ := two_blks hb1
  clear hb1
  have HB := Lib.hid hbb
  have HKB := Lib.hid kB
  have c2 := kZ.c
  have f2 := kZ.f
  have s1 := kB.lt
  have s2 := kZ.lt
  obtain ⟨x0, x1, x2, x3, x4, g0, g1⟩ := HX.out.below hbb hlt
  have c1 := kB.c
  have fc := kB.f
  have hwk : wrap64 k = k := by have a0 : 0 ≤ k := g0; have a1 : k ≤ 4294967295 := g1; unfold wrap64; omega
  clear kB kZ hbb HX HL HP HV
  go_wp2
  refine bodyPost_ret (v := .agg #[.int .u32 (r 0), .int .u32 (r 1), .int .u32 (r 2), .int .u32 (r 3), .int .u32 (r 4), .int .u32 (r 5), .int .u32 (r 6), .int .u32 (r 7), .int .i64 k, .bool false]) (by simp [results, Try.results12, go_sem, c2, s1, s2]) rfl ⟨rfl, ?_⟩
  exact (below10 (HB.out.setCell (Nat.le_refl _) _) (Nat.le_succ _) _ _ _ _ _ _ _ _ _ _).alloc (by simpa using HB.out.size) _

set_option maxHeartbeats 2000000 in
theorem doneR_plain (b off len cap n : Nat) (l : List I5) (op a bb cc k : Int) (r : Nat → Int) (was : Int) (w : World) (hl : l.length = len) (hp : Prg w (some ⟨b, off, none⟩) l) (hv : coreB l ⟨r, n, false⟩ = true) (hn : n < len) (hlen : len ≤ 64)
    (hlt : b < w.heap.size) (hx : Lies w b (off + n * 5) ⟨op, a, bb, cc, k⟩) (o16 : (op == 16) = false) (o13 : (op == 13) = false) (o14 : (op == 14) = false) (o1 : (op == 1) = false) (o2 : decide (2 ≤ op) = true) (o8 : decide (op ≤ 8) = false) (o9 : (op == 9) = false) (o11 : (op == 11) = false) :
    Calls Try.prog 12 #[.slice (some ⟨b, off, none⟩) len cap, .agg #[.int .u32 (r 0), .int .u32 (r 1), .int .u32 (r 2), .int .u32 (r 3), .int .u32 (r 4), .int .u32 (r 5), .int .u32 (r 6), .int .u32 (r 7), .int .i64 n, .bool false], .int .u32 was] w fun e w' => e = .returned (.agg #[.int .u32 (r 0), .int .u32 (r 1), .int .u32 (r 2), .int .u32 (r 3), .int .u32 (r 4), .int .u32 (r 5), .int .u32 (r 6), .int .u32 (r 7), .int .i64 (n + 1), .bool false]) ∧ Below w.heap.size w w' := by
  have HL := Lib.hid hl
  have HP := Lib.hid hp
  have HV := Lib.hid hv
  have HX := Lib.hid hx
  clear hl hp hv hx
  go_enter Try.func12, Try.ntmps12
  go_wp2_with fail
  refine (coreR_call (some ⟨b, off, none⟩) len cap l ⟨r, n, false⟩ true w _ HL HV HP (((Below.refl _ _).alloc (Nat.le_refl _) _).alloc (by rw [World.size_alloc]; omega) _)).mono ?_
  rintro e w1 ⟨rfl, hb1⟩
  obtain ⟨kB, kZ, hbb⟩ := two_blks hb1
  clear hb1
  have HB := Lib.hid hbb
  have HKB := Lib.hid kB
  have c2 := kZ.c
  have f2 := kZ.f
  have s1 := kB.lt
  have s2 := kZ.lt
  obtain ⟨x0, x1, x2, x3, x4, g0, g1⟩ := HX.out.below hbb hlt
  have c1 := kB.c
  have fc := kB.f
  clear kB kZ hbb HX HL HP HV
  go_wp2
  refine bodyPost_ret (v := .agg #[.int .u32 (r 0), .int .u32 (r 1), .int .u32 (r 2), .int .u32 (r 3), .int .u32 (r 4), .int .u32 (r 5), .int .u32 (r 6), .int .u32 (r 7), .int .i64 (n + 1), .bool false]) (by simp [results, Try.results12, go_sem, c2, s1, s2]) rfl ⟨rfl, ?_⟩
  exact (below10 (HB.out.setCell (Nat.le_refl _) _) (Nat.le_succ _) _ _ _ _ _ _ _ _ _ _).alloc (by simpa using HB.out.size) _

end Go.Proofs.Ytdebkncjmbhneaa
