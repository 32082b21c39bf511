/- What the reference's Done answers of Zero, Set, Load, Swap and layer 1's; it writes nothing that was there. -/
import Derived.Test.YtdebkncjmbhneaaCoreRefC
namespace Go.Proofs.Ytdebkncjmbhneaa
set_option linter.unusedVariables false
open Go.ChangeShapes Go.WideShapes Go.ChangeAt Go.RowKit

set_option maxHeartbeats 2000000 in
theorem doneR_zero (b off len cap n : Nat) (l : List I5) (a : Nat) (bb cc k : Int) (r : Nat → Int) (was : Int) (w : World) (hl : l.length = len) (hp : Prg w (some ⟨b, off, none⟩) l) (hv : coreB l ⟨r, n, false⟩ = true) (hn : n < len) (hlen : len ≤ 64)
    (hlt : b < w.heap.size) (hx : Lies w b (off + n * 5) ⟨14, a, bb, cc, k⟩) (ha : a < 8) (hz : (r a == 0) = true) :
    Calls Try.prog 12 #[.slice (some ⟨b, off, none⟩) len cap, .agg #[.int .u32 (r 0), .int .u32 (r 1), .int .u32 (r 2), .int .u32 (r 3), .int .u32 (r 4), .int .u32 (r 5), .int .u32 (r 6), .int .u32 (r 7), .int .i64 n, .bool false], .int .u32 was] w fun e w' => e = .returned (.agg #[.int .u32 (r 0), .int .u32 (r 1), .int .u32 (r 2), .int .u32 (r 3), .int .u32 (r 4), .int .u32 (r 5), .int .u32 (r 6), .int .u32 (r 7), .int .i64 k, .bool false]) ∧ Below w.heap.size w w' := by
  have HL := Lib.hid hl
  have HP := Lib.hid hp
  have HV := Lib.hid hv
  have HX := Lib.hid hx
  clear hl hp hv hx
  go_enter Try.func12, Try.ntmps12
  go_wp2_with fail
  refine (coreR_call (some ⟨b, off, none⟩) len cap l ⟨r, n, false⟩ true w _ HL HV HP (((Below.refl _ _).alloc (Nat.le_refl _) _).alloc (by rw [World.size_alloc]; omega) _)).mono ?_
  rintro e w1 ⟨rfl, hb1⟩
  obtain ⟨kB, kZ, hbb⟩ := two_blks hb1
  clear hb1
  have HB := Lib.hid hbb
  have HKB := Lib.hid kB
  have c2 := kZ.c
  have f2 := kZ.f
  have s1 := kB.lt
  have s2 := kZ.lt
  obtain ⟨x0, x1, x2, x3, x4, g0, g1⟩ := HX.out.below hbb hlt
  have c1_0 : w1.cell? ⟨w.heap.size, 0, none⟩ = some (.int .u32 (r 0)) := kB.c 0
  have c1_1 : w1.cell? ⟨w.heap.size, 1, none⟩ = some (.int .u32 (r 1)) := kB.c 1
  have c1_2 : w1.cell? ⟨w.heap.size, 2, none⟩ = some (.int .u32 (r 2)) := kB.c 2
  have c1_3 : w1.cell? ⟨w.heap.size, 3, none⟩ = some (.int .u32 (r 3)) := kB.c 3
  have c1_4 : w1.cell? ⟨w.heap.size, 4, none⟩ = some (.int .u32 (r 4)) := kB.c 4
  have c1_5 : w1.cell? ⟨w.heap.size, 5, none⟩ = some (.int .u32 (r 5)) := kB.c 5
  have c1_6 : w1.cell? ⟨w.heap.size, 6, none⟩ = some (.int .u32 (r 6)) := kB.c 6
  have c1_7 : w1.cell? ⟨w.heap.size, 7, none⟩ = some (.int .u32 (r 7)) := kB.c 7
  have c1_8 : w1.cell? ⟨w.heap.size, 8, none⟩ = some (.int .i64 n) := kB.c 8
  have c1_9 : w1.cell? ⟨w.heap.size, 9, none⟩ = some (.bool false) := kB.c 9
  have fc := kB.f
  have qa : w1.cell? ⟨w.heap.size, a, none⟩ = some (.int .u32 (r a)) := (kB.c a).trans (Cor.row_at ⟨r, n, false⟩ a ha)
  have ia0 : (0 : Int) ≤ (a : Int) := by omega
  have ia1 : (a : Int) < 8 := by omega
  have hwk : wrap64 k = k := by have a0 : 0 ≤ k := g0; have a1 : k ≤ 4294967295 := g1; unfold wrap64; omega
  clear kB kZ hbb HX HL HP HV
  go_wp2
  refine bodyPost_ret (v := .agg #[.int .u32 (r 0), .int .u32 (r 1), .int .u32 (r 2), .int .u32 (r 3), .int .u32 (r 4), .int .u32 (r 5), .int .u32 (r 6), .int .u32 (r 7), .int .i64 k, .bool false]) (by simp [results, Try.results12, go_sem, c2, s1, s2]) rfl ⟨rfl, ?_⟩
  exact (below10 (HB.out.setCell (Nat.le_refl _) _) (Nat.le_succ _) _ _ _ _ _ _ _ _ _ _).alloc (by simpa using HB.out.size) _

set_option maxHeartbeats 2000000 in
theorem doneR_pass (b off len cap n : Nat) (l : List I5) (a : Nat) (bb cc k : Int) (r : Nat → Int) (was : Int) (w : World) (hl : l.length = len) (hp : Prg w (some ⟨b, off, none⟩) l) (hv : coreB l ⟨r, n, false⟩ = true) (hn : n < len) (hlen : len ≤ 64)
    (hlt : b < w.heap.size) (hx : Lies w b (off + n * 5) ⟨14, a, bb, cc, k⟩) (ha : a < 8) (hz : (r a == 0) = false) :
    Calls Try.prog 12 #[.slice (some ⟨b, off, none⟩) len cap, .agg #[.int .u32 (r 0), .int .u32 (r 1), .int .u32 (r 2), .int .u32 (r 3), .int .u32 (r 4), .int .u32 (r 5), .int .u32 (r 6), .int .u32 (r 7), .int .i64 n, .bool false], .int .u32 was] w fun e w' => e = .returned (.agg #[.int .u32 (r 0), .int .u32 (r 1), .int .u32 (r 2), .int .u32 (r 3), .int .u32 (r 4), .int .u32 (r 5), .int .u32 (r 6), .int .u32 (r 7), .int .i64 (n + 1), .bool false]) ∧ Below w.heap.size w w' := by
  have HL := Lib.hid hl
  have HP := Lib.hid hp
  have HV := Lib.hid hv
  have HX := Lib.hid hx
  clear hl hp hv hx
  go_enter Try.func12, Try.ntmps12
  go_wp2_with fail
  refine (coreR_call (some ⟨b, off, none⟩) len cap l ⟨r, n, false⟩ true w _ HL HV HP (((Below.refl _ _).alloc (Nat.le_refl _) _).alloc (by rw [World.size_alloc]; omega) _)).mono ?_
  rintro e w1 ⟨rfl, hb1⟩
  obtain ⟨kB, kZ, hbb⟩ := two_blks hb1
  clear hb1
  have HB := Lib.hid hbb
  have HKB := Lib.hid kB
  have c2 := kZ.c
  have f2 := kZ.f
  have s1 := kB.lt
  have s2 := kZ.lt
  obtain ⟨x0, x1, x2, x3, x4, g0, g1⟩ := HX.out.below hbb hlt
  have c1_0 : w1.cell? ⟨w.heap.size, 0, none⟩ = some (.int .u32 (r 0)) := kB.c 0
  have c1_1 : w1.cell? ⟨w.heap.size, 1, none⟩ = some (.int .u32 (r 1)) := kB.c 1
  have c1_2 : w1.cell? ⟨w.heap.size, 2, none⟩ = some (.int .u32 (r 2)) := kB.c 2
  have c1_3 : w1.cell? ⟨w.heap.size, 3, none⟩ = some (.int .u32 (r 3)) := kB.c 3
  have c1_4 : w1.cell? ⟨w.heap.size, 4, none⟩ = some (.int .u32 (r 4)) := kB.c 4
  have c1_5 : w1.cell? ⟨w.heap.size, 5, none⟩ = some (.int .u32 (r 5)) := kB.c 5
  have c1_6 : w1.cell? ⟨w.heap.size, 6, none⟩ = some (.int .u32 (r 6)) := kB.c 6
  have c1_7 : w1.cell? ⟨w.heap.size, 7, none⟩ = some (.int .u32 (r 7)) := kB.c 7
  have c1_8 : w1.cell? ⟨w.heap.size, 8, none⟩ = some (.int .i64 n) := kB.c 8
  have c1_9 : w1.cell? ⟨w.heap.size, 9, none⟩ = some (.bool false) := kB.c 9
  have fc := kB.f
  have qa : w1.cell? ⟨w.heap.size, a, none⟩ = some (.int .u32 (r a)) := (kB.c a).trans (Cor.row_at ⟨r, n, false⟩ a ha)
  have ia0 : (0 : Int) ≤ (a : Int) := by omega
  have ia1 : (a : Int) < 8 := by omega
  clear kB kZ hbb HX HL HP HV
  go_wp2
  refine bodyPost_ret (v := .agg #[.int .u32 (r 0), .int .u32 (r 1), .int .u32 (r 2), .int .u32 (r 3), .int .u32 (r 4), .int .u32 (r 5), .int .u32 (r 6), .int .u32 (r 7), .int .i64 (n + 1), .bool false]) (by simp [results, Try.results12, go_sem, c2, s1, s2]) rfl ⟨rfl, ?_⟩
  exact (below10 (HB.out.setCell (Nat.le_refl _) _) (Nat.le_succ _) _ _ _ _ _ _ _ _ _ _).alloc (by simpa using HB.out.size) _

set_option maxHeartbeats 2000000 in
theorem doneR_set (b off len cap n : Nat) (l : List I5) (a : Nat) (bb cc k : Int) (r : Nat → Int) (was : Int) (w : World) (hl : l.length = len) (hp : Prg w (some ⟨b, off, none⟩) l) (hv : coreB l ⟨r, n, false⟩ = true) (hn : n < len) (hlen : len ≤ 64)
    (hlt : b < w.heap.size) (hx : Lies w b (off + n * 5) ⟨1, a, bb, cc, k⟩) (ha : a < 8) (u : Nat → Int) (hu : Hid (∀ i, u i = if i = a then k else r i)) :
    Calls Try.prog 12 #[.slice (some ⟨b, off, none⟩) len cap, .agg #[.int .u32 (r 0), .int .u32 (r 1), .int .u32 (r 2), .int .u32 (r 3), .int .u32 (r 4), .int .u32 (r 5), .int .u32 (r 6), .int .u32 (r 7), .int .i64 n, .bool false], .int .u32 was] w fun e w' => e = .returned (.agg #[.int .u32 (u 0), .int .u32 (u 1), .int .u32 (u 2), .int .u32 (u 3), .int .u32 (u 4), .int .u32 (u 5), .int .u32 (u 6), .int .u32 (u 7), .int .i64 (n + 1), .bool false]) ∧ Below w.heap.size w w' := by
  have HL := Lib.hid hl
  have HP := Lib.hid hp
  have HV := Lib.hid hv
  have HX := Lib.hid hx
  clear hl hp hv hx
  go_enter Try.func12, Try.ntmps12
  go_wp2_with fail
  refine (coreR_call (some ⟨b, off, none⟩) len cap l ⟨r, n, false⟩ true w _ HL HV HP (((Below.refl _ _).alloc (Nat.le_refl _) _).alloc (by rw [World.size_alloc]; omega) _)).mono ?_
  rintro e w1 ⟨rfl, hb1⟩
  obtain ⟨kB, kZ, hbb⟩ := two_blks hb1
  clear hb1
  have HB := Lib.hid hbb
  have HKB := Lib.hid kB
  have c2 := kZ.c
  have f2 := kZ.f
  have s1 := kB.lt
  have s2 := kZ.lt
  obtain ⟨x0, x1, x2, x3, x4, g0, g1⟩ := HX.out.below hbb hlt
  have fc := kB.f
  have qa : w1.cell? ⟨w.heap.size, a, none⟩ = some (.int .u32 (r a)) := (kB.c a).trans (Cor.row_at ⟨r, n, false⟩ a ha)
  have ia0 : (0 : Int) ≤ (a : Int) := by omega
  have ia1 : (a : Int) < 8 := by omega
  have ef : ∀ j, ((w1.setCell ⟨w.heap.size, 8, none⟩ (.int .i64 (n + 1))).setCell ⟨w.heap.size, a, none⟩ (.int .u32 k)).cell? ⟨w.heap.size, j, none⟩ = (#[.int .u32 (u 0), .int .u32 (u 1), .int .u32 (u 2), .int .u32 (u 3), .int .u32 (u 4), .int .u32 (u 5), .int .u32 (u 6), .int .u32 (u 7), .int .i64 (n + 1), .bool false] : Array Value)[j]? := (blk_set_row (blk_set_pc HKB.out) ha hu.out).c
  have c8 : w1.cell? ⟨w.heap.size, 8, none⟩ = some (.int .i64 n) := kB.c 8
  have c9 : w1.cell? ⟨w.heap.size, 9, none⟩ = some (.bool false) := kB.c 9
  have ne8 : ¬ a = 8 := by omega
  clear kB kZ hbb HX HL HP HV
  go_wp2
  refine bodyPost_ret (v := .agg #[.int .u32 (u 0), .int .u32 (u 1), .int .u32 (u 2), .int .u32 (u 3), .int .u32 (u 4), .int .u32 (u 5), .int .u32 (u 6), .int .u32 (u 7), .int .i64 (n + 1), .bool false]) (by simp [results, Try.results12, go_sem, c2, s1, s2]) rfl ⟨rfl, ?_⟩
  exact (below10 ((HB.out.setCell (Nat.le_refl _) _).setCell (Nat.le_refl _) _) (Nat.le_succ _) _ _ _ _ _ _ _ _ _ _).alloc (by simpa using HB.out.size) _

set_option maxHeartbeats 2000000 in
theorem doneR_read9 (b off len cap n : Nat) (l : List I5) (a : Nat) (bb cc k : Int) (r : Nat → Int) (was : Int) (w : World) (hl : l.length = len) (hp : Prg w (some ⟨b, off, none⟩) l) (hv : coreB l ⟨r, n, false⟩ = true) (hn : n < len) (hlen : len ≤ 64)
    (hlt : b < w.heap.size) (hx : Lies w b (off + n * 5) ⟨9, a, bb, cc, k⟩) (ha : a < 8) (u : Nat → Int) (hu : Hid (∀ i, u i = if i = a then was else r i)) :
    Calls Try.prog 12 #[.slice (some ⟨b, off, none⟩) len cap, .agg #[.int .u32 (r 0), .int .u32 (r 1), .int .u32 (r 2), .int .u32 (r 3), .int .u32 (r 4), .int .u32 (r 5), .int .u32 (r 6), .int .u32 (r 7), .int .i64 n, .bool false], .int .u32 was] w fun e w' => e = .returned (.agg #[.int .u32 (u 0), .int .u32 (u 1), .int .u32 (u 2), .int .u32 (u 3), .int .u32 (u 4), .int .u32 (u 5), .int .u32 (u 6), .int .u32 (u 7), .int .i64 (n + 1), .bool false]) ∧ Below w.heap.size w w' := by
  have HL := Lib.hid hl
  have HP := Lib.hid hp
  have HV := Lib.hid hv
  have HX := Lib.hid hx
  clear hl hp hv hx
  go_enter Try.func12, Try.ntmps12
  go_wp2_with fail
  refine (coreR_call (some ⟨b, off, none⟩) len cap l ⟨r, n, false⟩ true w _ HL HV HP (((Below.refl _ _).alloc (Nat.le_refl _) _).alloc (by rw [World.size_alloc]; omega) _)).mono ?_
  rintro e w1 ⟨rfl, hb1⟩
  obtain ⟨kB, kZ, hbb⟩ := two_blks hb1
  clear hb1
  have HB := Lib.hid hbb
  have HKB := Lib.hid kB
  have c2 := kZ.c
  have f2 := kZ.f
  have s1 := kB.lt
  have s2 := kZ.lt
  obtain ⟨x0, x1, x2, x3, x4, g0, g1⟩ := HX.out.below hbb hlt
  have fc := kB.f
  have qa : w1.cell? ⟨w.heap.size, a, none⟩ = some (.int .u32 (r a)) := (kB.c a).trans (Cor.row_at ⟨r, n, false⟩ a ha)
  have ia0 : (0 : Int) ≤ (a : Int) := by omega
  have ia1 : (a : Int) < 8 := by omega
  have ef : ∀ j, ((w1.setCell ⟨w.heap.size, 8, none⟩ (.int .i64 (n + 1))).setCell ⟨w.heap.size, a, none⟩ (.int .u32 was)).cell? ⟨w.heap.size, j, none⟩ = (#[.int .u32 (u 0), .int .u32 (u 1), .int .u32 (u 2), .int .u32 (u 3), .int .u32 (u 4), .int .u32 (u 5), .int .u32 (u 6), .int .u32 (u 7), .int .i64 (n + 1), .bool false] : Array Value)[j]? := (blk_set_row (blk_set_pc HKB.out) ha hu.out).c
  have c8 : w1.cell? ⟨w.heap.size, 8, none⟩ = some (.int .i64 n) := kB.c 8
  have c9 : w1.cell? ⟨w.heap.size, 9, none⟩ = some (.bool false) := kB.c 9
  have ne8 : ¬ a = 8 := by omega
  clear kB kZ hbb HX HL HP HV
  go_wp2
  refine bodyPost_ret (v := .agg #[.int .u32 (u 0), .int .u32 (u 1), .int .u32 (u 2), .int .u32 (u 3), .int .u32 (u 4), .int .u32 (u 5), .int .u32 (u 6), .int .u32 (u 7), .int .i64 (n + 1), .bool false]) (by simp [results, Try.results12, go_sem, c2, s1, s2]) rfl ⟨rfl, ?_⟩
  exact (below10 ((HB.out.setCell (Nat.le_refl _) _).setCell (Nat.le_refl _) _) (Nat.le_succ _) _ _ _ _ _ _ _ _ _ _).alloc (by simpa using HB.out.size) _

set_option maxHeartbeats 2000000 in
theorem doneR_read11 (b off len cap n : Nat) (l : List I5) (a : Nat) (bb cc k : Int) (r : Nat → Int) (was : Int) (w : World) (hl : l.length = len) (hp : Prg w (some ⟨b, off, none⟩) l) (hv : coreB l ⟨r, n, false⟩ = true) (hn : n < len) (hlen : len ≤ 64)
    (hlt : b < w.heap.size) (hx : Lies w b (off + n * 5) ⟨11, a, bb, cc, k⟩) (ha : a < 8) (u : Nat → Int) (hu : Hid (∀ i, u i = if i = a then was else r i)) :
    Calls Try.prog 12 #[.slice (some ⟨b, off, none⟩) len cap, .agg #[.int .u32 (r 0), .int .u32 (r 1), .int .u32 (r 2), .int .u32 (r 3), .int .u32 (r 4), .int .u32 (r 5), .int .u32 (r 6), .int .u32 (r 7), .int .i64 n, .bool false], .int .u32 was] w fun e w' => e = .returned (.agg #[.int .u32 (u 0), .int .u32 (u 1), .int .u32 (u 2), .int .u32 (u 3), .int .u32 (u 4), .int .u32 (u 5), .int .u32 (u 6), .int .u32 (u 7), .int .i64 (n + 1), .bool false]) ∧ Below w.heap.size w w' := by
  have HL := Lib.hid hl
  have HP := Lib.hid hp
  have HV := Lib.hid hv
  have HX := Lib.hid hx
  clear hl hp hv hx
  go_enter Try.func12, Try.ntmps12
  go_wp2_with fail
  refine (coreR_call (some ⟨b, off, none⟩) len cap l ⟨r, n, false⟩ true w _ HL HV HP (((Below.refl _ _).alloc (Nat.le_refl _) _).alloc (by rw [World.size_alloc]; omega) _)).mono ?_
  rintro e w1 ⟨rfl, hb1⟩
  obtain ⟨kB, kZ, hbb⟩ := two_blks hb1
  clear hb1
  have HB := Lib.hid hbb
  have HKB := Lib.hid kB
  have c2 := kZ.c
  have f2 := kZ.f
  have s1 := kB.lt
  have s2 := kZ.lt
  obtain ⟨x0, x1, x2, x3, x4, g0, g1⟩ := HX.out.below hbb hlt
  have fc := kB.f
  have qa : w1.cell? ⟨w.heap.size, a, none⟩ = some (.int .u32 (r a)) := (kB.c a).trans (Cor.row_at ⟨r, n, false⟩ a ha)
  have ia0 : (0 : Int) ≤ (a : Int) := by omega
  have ia1 : (a : Int) < 8 := by omega
  have ef : ∀ j, ((w1.setCell ⟨w.heap.size, 8, none⟩ (.int .i64 (n + 1))).setCell ⟨w.heap.size, a, none⟩ (.int .u32 was)).cell? ⟨w.heap.size, j, none⟩ = (#[.int .u32 (u 0), .int .u32 (u 1), .int .u32 (u 2), .int .u32 (u 3), .int .u32 (u 4), .int .u32 (u 5), .int .u32 (u 6), .int .u32 (u 7), .int .i64 (n + 1), .bool false] : Array Value)[j]? := (blk_set_row (blk_set_pc HKB.out) ha hu.out).c
  have c8 : w1.cell? ⟨w.heap.size, 8, none⟩ = some (.int .i64 n) := kB.c 8
  have c9 : w1.cell? ⟨w.heap.size, 9, none⟩ = some (.bool false) := kB.c 9
  have ne8 : ¬ a = 8 := by omega
  clear kB kZ hbb HX HL HP HV
  go_wp2
  refine bodyPost_ret (v := .agg #[.int .u32 (u 0), .int .u32 (u 1), .int .u32 (u 2), .int .u32 (u 3), .int .u32 (u 4), .int .u32 (u 5), .int .u32 (u 6), .int .u32 (u 7), .int .i64 (n + 1), .bool false]) (by simp [results, Try.results12, go_sem, c2, s1, s2]) rfl ⟨rfl, ?_⟩
  exact (below10 ((HB.out.setCell (Nat.le_refl _) _).setCell (Nat.le_refl _) _) (Nat.le_succ _) _ _ _ _ _ _ _ _ _ _).alloc (by simpa using HB.out.size) _

end Go.Proofs.Ytdebkncjmbhneaa
