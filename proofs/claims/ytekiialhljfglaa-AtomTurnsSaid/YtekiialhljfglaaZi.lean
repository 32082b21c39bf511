/- Laid together, in this order: CoreRefB. -/
import Derived.Test.YtekiialhljfglaaZh
/- What the reference's Wants answers, by the operation; it writes nothing that was there. -/
namespace Go.Proofs.Ytekiialhljfglaa
set_option linter.unusedVariables false
open Go.ChangeShapes Go.WideShapes Go.ChangeAt Go.RowKit

theorem size3 (w : World) (a b c : Obj) : (((w.alloc a).alloc b).alloc c).heap.size = w.heap.size + 1 + 1 + 1 := by rw [World.size_alloc, World.size_alloc, World.size_alloc]
/-- Three new blocks, behind whatever happened that writes nothing which was there. -/
theorem three_boxes {w w1 : World} {cs ds es : Array Value} {t u v : TypeId} (hb : Below (((w.alloc (.cells cs t)).alloc (.cells ds u)).alloc (.cells es v)).heap.size (((w.alloc (.cells cs t)).alloc (.cells ds u)).alloc (.cells es v)) w1) :
    Blk w1 w.heap.size cs ∧ Blk w1 (w.heap.size + 1) ds ∧ Blk w1 (w.heap.size + 1 + 1) es ∧ Below w.heap.size w w1 := by
  have h1 := (((Blk.new w cs t).alloc (.cells ds u)).alloc (.cells es v)).below hb
  have h2 := ((Blk.new (w.alloc (.cells cs t)) ds u).alloc (.cells es v)).below hb
  have h3 := (Blk.new ((w.alloc (.cells cs t)).alloc (.cells ds u)) es v).below hb
  rw [World.size_alloc] at h2
  rw [World.size_alloc, World.size_alloc] at h3
  refine ⟨h1, h2, h3, ?_⟩
  have b3 : Below w.heap.size w (((w.alloc (.cells cs t)).alloc (.cells ds u)).alloc (.cells es v)) := (((Below.refl _ _).alloc (Nat.le_refl _) _).alloc (by rw [World.size_alloc]; omega) _).alloc (by rw [World.size_alloc, World.size_alloc]; omega) _
  exact b3.trans (hb.mono b3.size)

theorem wantsR_halted (p : Option Addr) (len cap : Nat) (l : List I5) (r : Nat → Int) (pc words : Int) (w : World) (hl : l.length = len) (hp : Prg w p l) (v : Bool) (hv : coreB l ⟨r, pc, true⟩ = v) :
    Calls Try.prog 37 #[.slice p len cap, .agg #[.int .u32 (r 0), .int .u32 (r 1), .int .u32 (r 2), .int .u32 (r 3), .int .u32 (r 4), .int .u32 (r 5), .int .u32 (r 6), .int .u32 (r 7), .int .i64 pc, .bool true], .int .i64 words] w fun e w' => e = .returned (.agg #[.int .i64 5, .int .i64 0, .int .u32 0, .int .u32 0]) ∧ Below w.heap.size w w' := by
  have HL := Lib.hid hl
  have HP := Lib.hid hp
  have HV := Lib.hid hv
  clear hl hp hv
  cases v with
  | true =>
    go_enter Try.func37, Try.ntmps37
    go_wp2_with fail
    refine (coreR_call p len cap l ⟨r, pc, true⟩ true w _ HL HV HP ((((Below.refl _ _).alloc (Nat.le_refl _) _).alloc (by rw [World.size_alloc]; omega) _).alloc (by rw [World.size_alloc, World.size_alloc]; omega) _)).mono ?_
    rintro e w1 ⟨rfl, hb1⟩
    obtain ⟨kB, kZ, kW, hbb⟩ := three_boxes hb1
    clear hb1
    have HB := Lib.hid hbb
    have c8 : w1.cell? ⟨w.heap.size, 8, none⟩ = some (.int .i64 pc) := kB.c 8
    have c9 : w1.cell? ⟨w.heap.size, 9, none⟩ = some (.bool true) := kB.c 9
    have c2 := kZ.c
    have c3 := kW.c
    have f2 := kZ.f
    have f3 := kW.f
    have s1 := kB.lt
    have s2 := kZ.lt
    have s3 := kW.lt
    clear kB kZ kW hbb HL HP HV
    go_wp2
    refine bodyPost_ret (v := .agg #[.int .i64 5, .int .i64 0, .int .u32 0, .int .u32 0]) (by simp [results, Try.results37, go_sem, c2, c3]) rfl ⟨rfl, ?_⟩
    exact (((HB.out.setCell (Nat.le_succ _) _).setCell (Nat.le_succ _) _).setCell (Nat.le_succ _) _).setCell (Nat.le_succ _) _
  | false =>
    go_enter Try.func37, Try.ntmps37
    go_wp2_with fail
    refine (coreR_call p len cap l ⟨r, pc, true⟩ false w _ HL HV HP ((((Below.refl _ _).alloc (Nat.le_refl _) _).alloc (by rw [World.size_alloc]; omega) _).alloc (by rw [World.size_alloc, World.size_alloc]; omega) _)).mono ?_
    rintro e w1 ⟨rfl, hb1⟩
    obtain ⟨kB, kZ, kW, hbb⟩ := three_boxes hb1
    clear hb1
    have HB := Lib.hid hbb
    have c8 : w1.cell? ⟨w.heap.size, 8, none⟩ = some (.int .i64 pc) := kB.c 8
    have c9 : w1.cell? ⟨w.heap.size, 9, none⟩ = some (.bool true) := kB.c 9
    have c2 := kZ.c
    have c3 := kW.c
    have f2 := kZ.f
    have f3 := kW.f
    have s1 := kB.lt
    have s2 := kZ.lt
    have s3 := kW.lt
    clear kB kZ kW hbb HL HP HV
    go_wp2
    refine bodyPost_ret (v := .agg #[.int .i64 5, .int .i64 0, .int .u32 0, .int .u32 0]) (by simp [results, Try.results37, go_sem, c2, c3]) rfl ⟨rfl, ?_⟩
    exact (((HB.out.setCell (Nat.le_succ _) _).setCell (Nat.le_succ _) _).setCell (Nat.le_succ _) _).setCell (Nat.le_succ _) _

theorem wantsR_wrong (p : Option Addr) (len cap : Nat) (l : List I5) (r : Nat → Int) (pc words : Int) (w : World) (hl : l.length = len) (hp : Prg w p l) (hv : coreB l ⟨r, pc, false⟩ = false) :
    Calls Try.prog 37 #[.slice p len cap, .agg #[.int .u32 (r 0), .int .u32 (r 1), .int .u32 (r 2), .int .u32 (r 3), .int .u32 (r 4), .int .u32 (r 5), .int .u32 (r 6), .int .u32 (r 7), .int .i64 pc, .bool false], .int .i64 words] w fun e w' => e = .returned (.agg #[.int .i64 5, .int .i64 0, .int .u32 0, .int .u32 0]) ∧ Below w.heap.size w w' := by
  have HL := Lib.hid hl
  have HP := Lib.hid hp
  have HV := Lib.hid hv
  clear hl hp hv
  go_enter Try.func37, Try.ntmps37
  go_wp2_with fail
  refine (coreR_call p len cap l ⟨r, pc, false⟩ false w _ HL HV HP ((((Below.refl _ _).alloc (Nat.le_refl _) _).alloc (by rw [World.size_alloc]; omega) _).alloc (by rw [World.size_alloc, World.size_alloc]; omega) _)).mono ?_
  rintro e w1 ⟨rfl, hb1⟩
  obtain ⟨kB, kZ, kW, hbb⟩ := three_boxes hb1
  clear hb1
  have HB := Lib.hid hbb
  have c8 : w1.cell? ⟨w.heap.size, 8, none⟩ = some (.int .i64 pc) := kB.c 8
  have c9 : w1.cell? ⟨w.heap.size, 9, none⟩ = some (.bool false) := kB.c 9
  have c2 := kZ.c
  have c3 := kW.c
  have f2 := kZ.f
  have f3 := kW.f
  have s1 := kB.lt
  have s2 := kZ.lt
  have s3 := kW.lt
  clear kB kZ kW hbb HL HP HV
  go_wp2
  refine bodyPost_ret (v := .agg #[.int .i64 5, .int .i64 0, .int .u32 0, .int .u32 0]) (by simp [results, Try.results37, go_sem, c2, c3]) rfl ⟨rfl, ?_⟩
  exact (((HB.out.setCell (Nat.le_succ _) _).setCell (Nat.le_succ _) _).setCell (Nat.le_succ _) _).setCell (Nat.le_succ _) _

theorem bSw {N : Nat} {W0 w : World} {X j : Nat} {v : Value} (h : Below N W0 w) (hX : N ≤ X) : Below N W0 (w.setCell ⟨X, j, none⟩ v) = True := eq_true (h.setCell hX _)
theorem le2 (n : Nat) : (n ≤ n + 1 + 1) = True := eq_true (by omega)

set_option maxHeartbeats 1000000 in
theorem wantsR_rest (b off len cap n : Nat) (l : List I5) (a bb cc k : Int) (r : Nat → Int) (words : Int) (w : World) (hl : l.length = len) (hp : Prg w (some ⟨b, off, none⟩) l) (hv : coreB l ⟨r, n, false⟩ = true) (hn : n < len) (hlen : len ≤ 64)
    (hlt : b < w.heap.size) (hx : Lies w b (off + n * 5) ⟨16, a, bb, cc, k⟩) :
    Calls Try.prog 37 #[.slice (some ⟨b, off, none⟩) len cap, .agg #[.int .u32 (r 0), .int .u32 (r 1), .int .u32 (r 2), .int .u32 (r 3), .int .u32 (r 4), .int .u32 (r 5), .int .u32 (r 6), .int .u32 (r 7), .int .i64 n, .bool false], .int .i64 words] w fun e w' => e = .returned (.agg #[.int .i64 5, .int .i64 0, .int .u32 0, .int .u32 0]) ∧ Below w.heap.size w w' := by
  have HL := Lib.hid hl
  have HP := Lib.hid hp
  have HV := Lib.hid hv
  have HX := Lib.hid hx
  clear hl hp hv hx
  go_enter Try.func37, Try.ntmps37
  go_wp2_with fail
  refine (coreR_call (some ⟨b, off, none⟩) len cap l ⟨r, n, false⟩ true w _ HL HV HP ((((Below.refl _ _).alloc (Nat.le_refl _) _).alloc (by rw [World.size_alloc]; omega) _).alloc (by rw [World.size_alloc, World.size_alloc]; omega) _)).mono ?_
  rintro e w1 ⟨rfl, hb1⟩
  obtain ⟨kB, kZ, kW, hbb⟩ := three_boxes hb1
  clear hb1
  have HB := Lib.hid hbb
  have c8 : w1.cell? ⟨w.heap.size, 8, none⟩ = some (.int .i64 n) := kB.c 8
  have c9 : w1.cell? ⟨w.heap.size, 9, none⟩ = some (.bool false) := kB.c 9
  have c2 := kZ.c
  have c3 := kW.c
  have f2 := kZ.f
  have f3 := kW.f
  have s1 := kB.lt
  have s2 := kZ.lt
  have s3 := kW.lt
  obtain ⟨x0, x1, x2, x3, x4, _, _⟩ := HX.out.below hbb hlt
  clear kB kZ kW hbb HX HL HP HV
  go_wp2
  refine bodyPost_ret (v := .agg #[.int .i64 5, .int .i64 0, .int .u32 0, .int .u32 0]) (by simp [results, Try.results37, go_sem, c2, c3, s1, s2, s3]) rfl ⟨rfl, ?_⟩
  exact Below.alloc (by simp (config := { maxDischargeDepth := 60 }) only [bSw, HB.out, Nat.le_succ, Nat.le_refl, le2]) (by simpa using HB.out.size) _

set_option maxHeartbeats 1000000 in
theorem wantsR_tell (b off len cap n : Nat) (l : List I5) (a : Nat) (bb cc k : Int) (r : Nat → Int) (words : Int) (w : World) (hl : l.length = len) (hp : Prg w (some ⟨b, off, none⟩) l) (hv : coreB l ⟨r, n, false⟩ = true) (hn : n < len) (hlen : len ≤ 64)
    (hlt : b < w.heap.size) (hx : Lies w b (off + n * 5) ⟨15, a, bb, cc, k⟩) (ha : a < 8) (h0a : 0 ≤ r a) (h1a : r a ≤ 4294967295) :
    Calls Try.prog 37 #[.slice (some ⟨b, off, none⟩) len cap, .agg #[.int .u32 (r 0), .int .u32 (r 1), .int .u32 (r 2), .int .u32 (r 3), .int .u32 (r 4), .int .u32 (r 5), .int .u32 (r 6), .int .u32 (r 7), .int .i64 n, .bool false], .int .i64 words] w fun e w' => e = .returned (.agg #[.int .i64 4, .int .i64 0, .int .u32 (r a), .int .u32 0]) ∧ Below w.heap.size w w' := by
  have HL := Lib.hid hl
  have HP := Lib.hid hp
  have HV := Lib.hid hv
  have HX := Lib.hid hx
  clear hl hp hv hx
  go_enter Try.func37, Try.ntmps37
  go_wp2_with fail
  refine (coreR_call (some ⟨b, off, none⟩) len cap l ⟨r, n, false⟩ true w _ HL HV HP ((((Below.refl _ _).alloc (Nat.le_refl _) _).alloc (by rw [World.size_alloc]; omega) _).alloc (by rw [World.size_alloc, World.size_alloc]; omega) _)).mono ?_
  rintro e w1 ⟨rfl, hb1⟩
  obtain ⟨kB, kZ, kW, hbb⟩ := three_boxes hb1
  clear hb1
  have HB := Lib.hid hbb
  have c8 : w1.cell? ⟨w.heap.size, 8, none⟩ = some (.int .i64 n) := kB.c 8
  have c9 : w1.cell? ⟨w.heap.size, 9, none⟩ = some (.bool false) := kB.c 9
  have c2 := kZ.c
  have c3 := kW.c
  have f2 := kZ.f
  have f3 := kW.f
  have s1 := kB.lt
  have s2 := kZ.lt
  have s3 := kW.lt
  obtain ⟨x0, x1, x2, x3, x4, _, _⟩ := HX.out.below hbb hlt
  have qa : w1.cell? ⟨w.heap.size, a, none⟩ = some (.int .u32 (r a)) := (kB.c a).trans (Cor.row_at ⟨r, n, false⟩ a ha)
  clear kB kZ kW hbb HX HL HP HV
  go_wp2
  refine bodyPost_ret (v := .agg #[.int .i64 4, .int .i64 0, .int .u32 (r a), .int .u32 0]) (by simp [results, Try.results37, go_sem, c2, c3, s1, s2, s3]) rfl ⟨rfl, ?_⟩
  exact Below.alloc (by simp (config := { maxDischargeDepth := 60 }) only [bSw, HB.out, Nat.le_succ, Nat.le_refl, le2]) (by simpa using HB.out.size) _

set_option maxHeartbeats 1000000 in
theorem wantsR_nothing (b off len cap n : Nat) (l : List I5) (op a bb cc k : Int) (r : Nat → Int) (words : Int) (w : World) (hl : l.length = len) (hp : Prg w (some ⟨b, off, none⟩) l) (hv : coreB l ⟨r, n, false⟩ = true) (hn : n < len) (hlen : len ≤ 64)
    (hlt : b < w.heap.size) (hx : Lies w b (off + n * 5) ⟨op, a, bb, cc, k⟩) (o9 : (op == 9) = false) (o10 : (op == 10) = false) (o11 : (op == 11) = false) (o15 : (op == 15) = false) (o16 : (op != 16) = true) :
    Calls Try.prog 37 #[.slice (some ⟨b, off, none⟩) len cap, .agg #[.int .u32 (r 0), .int .u32 (r 1), .int .u32 (r 2), .int .u32 (r 3), .int .u32 (r 4), .int .u32 (r 5), .int .u32 (r 6), .int .u32 (r 7), .int .i64 n, .bool false], .int .i64 words] w fun e w' => e = .returned (.agg #[.int .i64 0, .int .i64 0, .int .u32 0, .int .u32 0]) ∧ Below w.heap.size w w' := by
  have HL := Lib.hid hl
  have HP := Lib.hid hp
  have HV := Lib.hid hv
  have HX := Lib.hid hx
  clear hl hp hv hx
  go_enter Try.func37, Try.ntmps37
  go_wp2_with fail
  refine (coreR_call (some ⟨b, off, none⟩) len cap l ⟨r, n, false⟩ true w _ HL HV HP ((((Below.refl _ _).alloc (Nat.le_refl _) _).alloc (by rw [World.size_alloc]; omega) _).alloc (by rw [World.size_alloc, World.size_alloc]; omega) _)).mono ?_
  rintro e w1 ⟨rfl, hb1⟩
  obtain ⟨kB, kZ, kW, hbb⟩ := three_boxes hb1
  clear hb1
  have HB := Lib.hid hbb
  have c8 : w1.cell? ⟨w.heap.size, 8, none⟩ = some (.int .i64 n) := kB.c 8
  have c9 : w1.cell? ⟨w.heap.size, 9, none⟩ = some (.bool false) := kB.c 9
  have c2 := kZ.c
  have c3 := kW.c
  have f2 := kZ.f
  have f3 := kW.f
  have s1 := kB.lt
  have s2 := kZ.lt
  have s3 := kW.lt
  obtain ⟨x0, x1, x2, x3, x4, _, _⟩ := HX.out.below hbb hlt
  clear kB kZ kW hbb HX HL HP HV
  go_wp2
  refine bodyPost_ret (v := .agg #[.int .i64 0, .int .i64 0, .int .u32 0, .int .u32 0]) (by simp [results, Try.results37, go_sem, c2, c3, s1, s2, s3]) rfl ⟨rfl, ?_⟩
  exact Below.alloc (by simp (config := { maxDischargeDepth := 60 }) only [bSw, HB.out, Nat.le_succ, Nat.le_refl, le2]) (by simpa using HB.out.size) _

set_option maxHeartbeats 1000000 in
theorem wantsR_read (b off len cap n : Nat) (l : List I5) (bb : Nat) (a cc k : Int) (r : Nat → Int) (words : Int) (w : World) (hl : l.length = len) (hp : Prg w (some ⟨b, off, none⟩) l) (hv : coreB l ⟨r, n, false⟩ = true) (hn : n < len) (hlen : len ≤ 64)
    (hlt : b < w.heap.size) (hx : Lies w b (off + n * 5) ⟨9, a, bb, cc, k⟩) (hb : bb < 8) (h0b : 0 ≤ r bb) (h1b : r bb ≤ 4294967295) (hw : words ≤ 9223372036854775807) :
    Calls Try.prog 37 #[.slice (some ⟨b, off, none⟩) len cap, .agg #[.int .u32 (r 0), .int .u32 (r 1), .int .u32 (r 2), .int .u32 (r 3), .int .u32 (r 4), .int .u32 (r 5), .int .u32 (r 6), .int .u32 (r 7), .int .i64 n, .bool false], .int .i64 words] w fun e w' => e = .returned (.agg #[.int .i64 1, .int .i64 (placeN (r bb) words), .int .u32 0, .int .u32 0]) ∧ Below w.heap.size w w' := by
  have HL := Lib.hid hl
  have HP := Lib.hid hp
  have HV := Lib.hid hv
  have HX := Lib.hid hx
  clear hl hp hv hx
  go_enter Try.func37, Try.ntmps37
  go_wp2_with fail
  refine (coreR_call (some ⟨b, off, none⟩) len cap l ⟨r, n, false⟩ true w _ HL HV HP ((((Below.refl _ _).alloc (Nat.le_refl _) _).alloc (by rw [World.size_alloc]; omega) _).alloc (by rw [World.size_alloc, World.size_alloc]; omega) _)).mono ?_
  rintro e w1 ⟨rfl, hb1⟩
  obtain ⟨kB, kZ, kW, hbb⟩ := three_boxes hb1
  clear hb1
  have HB := Lib.hid hbb
  have c8 : w1.cell? ⟨w.heap.size, 8, none⟩ = some (.int .i64 n) := kB.c 8
  have c9 : w1.cell? ⟨w.heap.size, 9, none⟩ = some (.bool false) := kB.c 9
  have c2 := kZ.c
  have c3 := kW.c
  have f2 := kZ.f
  have f3 := kW.f
  have s1 := kB.lt
  have s2 := kZ.lt
  have s3 := kW.lt
  obtain ⟨x0, x1, x2, x3, x4, _, _⟩ := HX.out.below hbb hlt
  have qb : w1.cell? ⟨w.heap.size, bb, none⟩ = some (.int .u32 (r bb)) := (kB.c bb).trans (Cor.row_at ⟨r, n, false⟩ bb hb)
  clear kB kZ kW hbb HX HL HP HV
  go_wp2_with fail
  refine (placeR_any (r bb) words _ h0b h1b hw).mono ?_
  rintro e w2 ⟨rfl, rfl⟩
  go_wp2
  refine bodyPost_ret (v := .agg #[.int .i64 1, .int .i64 (placeN (r bb) words), .int .u32 0, .int .u32 0]) (by simp [results, Try.results37, go_sem, c2, c3, s1, s2, s3]) rfl ⟨rfl, ?_⟩
  exact Below.alloc (by simp (config := { maxDischargeDepth := 60 }) only [bSw, HB.out, Nat.le_succ, Nat.le_refl, le2]) (by simpa using HB.out.size) _

set_option maxHeartbeats 1000000 in
theorem wantsR_write (b off len cap n : Nat) (l : List I5) (a bb : Nat) (cc k : Int) (r : Nat → Int) (words : Int) (w : World) (hl : l.length = len) (hp : Prg w (some ⟨b, off, none⟩) l) (hv : coreB l ⟨r, n, false⟩ = true) (hn : n < len) (hlen : len ≤ 64)
    (hlt : b < w.heap.size) (hx : Lies w b (off + n * 5) ⟨10, a, bb, cc, k⟩) (ha : a < 8) (h0a : 0 ≤ r a) (h1a : r a ≤ 4294967295) (hb : bb < 8) (h0b : 0 ≤ r bb) (h1b : r bb ≤ 4294967295) (hw : words ≤ 9223372036854775807) :
    Calls Try.prog 37 #[.slice (some ⟨b, off, none⟩) len cap, .agg #[.int .u32 (r 0), .int .u32 (r 1), .int .u32 (r 2), .int .u32 (r 3), .int .u32 (r 4), .int .u32 (r 5), .int .u32 (r 6), .int .u32 (r 7), .int .i64 n, .bool false], .int .i64 words] w fun e w' => e = .returned (.agg #[.int .i64 2, .int .i64 (placeN (r bb) words), .int .u32 (r a), .int .u32 0]) ∧ Below w.heap.size w w' := by
  have HL := Lib.hid hl
  have HP := Lib.hid hp
  have HV := Lib.hid hv
  have HX := Lib.hid hx
  clear hl hp hv hx
  go_enter Try.func37, Try.ntmps37
  go_wp2_with fail
  refine (coreR_call (some ⟨b, off, none⟩) len cap l ⟨r, n, false⟩ true w _ HL HV HP ((((Below.refl _ _).alloc (Nat.le_refl _) _).alloc (by rw [World.size_alloc]; omega) _).alloc (by rw [World.size_alloc, World.size_alloc]; omega) _)).mono ?_
  rintro e w1 ⟨rfl, hb1⟩
  obtain ⟨kB, kZ, kW, hbb⟩ := three_boxes hb1
  clear hb1
  have HB := Lib.hid hbb
  have c8 : w1.cell? ⟨w.heap.size, 8, none⟩ = some (.int .i64 n) := kB.c 8
  have c9 : w1.cell? ⟨w.heap.size, 9, none⟩ = some (.bool false) := kB.c 9
  have c2 := kZ.c
  have c3 := kW.c
  have f2 := kZ.f
  have f3 := kW.f
  have s1 := kB.lt
  have s2 := kZ.lt
  have s3 := kW.lt
  obtain ⟨x0, x1, x2, x3, x4, _, _⟩ := HX.out.below hbb hlt
  have qa : w1.cell? ⟨w.heap.size, a, none⟩ = some (.int .u32 (r a)) := (kB.c a).trans (Cor.row_at ⟨r, n, false⟩ a ha)
  have qb : w1.cell? ⟨w.heap.size, bb, none⟩ = some (.int .u32 (r bb)) := (kB.c bb).trans (Cor.row_at ⟨r, n, false⟩ bb hb)
  clear kB kZ kW hbb HX HL HP HV
  go_wp2_with fail
  refine (placeR_any (r bb) words _ h0b h1b hw).mono ?_
  rintro e w2 ⟨rfl, rfl⟩
  go_wp2
  refine bodyPost_ret (v := .agg #[.int .i64 2, .int .i64 (placeN (r bb) words), .int .u32 (r a), .int .u32 0]) (by simp [results, Try.results37, go_sem, c2, c3, s1, s2, s3]) rfl ⟨rfl, ?_⟩
  exact Below.alloc (by simp (config := { maxDischargeDepth := 60 }) only [bSw, HB.out, Nat.le_succ, Nat.le_refl, le2]) (by simpa using HB.out.size) _

set_option maxHeartbeats 1000000 in
theorem wantsR_trade (b off len cap n : Nat) (l : List I5) (a bb cc : Nat) (k : Int) (r : Nat → Int) (words : Int) (w : World) (hl : l.length = len) (hp : Prg w (some ⟨b, off, none⟩) l) (hv : coreB l ⟨r, n, false⟩ = true) (hn : n < len) (hlen : len ≤ 64)
    (hlt : b < w.heap.size) (hx : Lies w b (off + n * 5) ⟨11, a, bb, cc, k⟩) (ha : a < 8) (h0a : 0 ≤ r a) (h1a : r a ≤ 4294967295) (hb : bb < 8) (h0b : 0 ≤ r bb) (h1b : r bb ≤ 4294967295) (hc : cc < 8) (h0c : 0 ≤ r cc) (h1c : r cc ≤ 4294967295) (hw : words ≤ 9223372036854775807) :
    Calls Try.prog 37 #[.slice (some ⟨b, off, none⟩) len cap, .agg #[.int .u32 (r 0), .int .u32 (r 1), .int .u32 (r 2), .int .u32 (r 3), .int .u32 (r 4), .int .u32 (r 5), .int .u32 (r 6), .int .u32 (r 7), .int .i64 n, .bool false], .int .i64 words] w fun e w' => e = .returned (.agg #[.int .i64 3, .int .i64 (placeN (r bb) words), .int .u32 (r cc), .int .u32 (r a)]) ∧ Below w.heap.size w w' := by
  have HL := Lib.hid hl
  have HP := Lib.hid hp
  have HV := Lib.hid hv
  have HX := Lib.hid hx
  clear hl hp hv hx
  go_enter Try.func37, Try.ntmps37
  go_wp2_with fail
  refine (coreR_call (some ⟨b, off, none⟩) len cap l ⟨r, n, false⟩ true w _ HL HV HP ((((Below.refl _ _).alloc (Nat.le_refl _) _).alloc (by rw [World.size_alloc]; omega) _).alloc (by rw [World.size_alloc, World.size_alloc]; omega) _)).mono ?_
  rintro e w1 ⟨rfl, hb1⟩
  obtain ⟨kB, kZ, kW, hbb⟩ := three_boxes hb1
  clear hb1
  have HB := Lib.hid hbb
  have c8 : w1.cell? ⟨w.heap.size, 8, none⟩ = some (.int .i64 n) := kB.c 8
  have c9 : w1.cell? ⟨w.heap.size, 9, none⟩ = some (.bool false) := kB.c 9
  have c2 := kZ.c
  have c3 := kW.c
  have f2 := kZ.f
  have f3 := kW.f
  have s1 := kB.lt
  have s2 := kZ.lt
  have s3 := kW.lt
  obtain ⟨x0, x1, x2, x3, x4, _, _⟩ := HX.out.below hbb hlt
  have qa : w1.cell? ⟨w.heap.size, a, none⟩ = some (.int .u32 (r a)) := (kB.c a).trans (Cor.row_at ⟨r, n, false⟩ a ha)
  have qb : w1.cell? ⟨w.heap.size, bb, none⟩ = some (.int .u32 (r bb)) := (kB.c bb).trans (Cor.row_at ⟨r, n, false⟩ bb hb)
  have qc : w1.cell? ⟨w.heap.size, cc, none⟩ = some (.int .u32 (r cc)) := (kB.c cc).trans (Cor.row_at ⟨r, n, false⟩ cc hc)
  clear kB kZ kW hbb HX HL HP HV
  go_wp2_with fail
  refine (placeR_any (r bb) words _ h0b h1b hw).mono ?_
  rintro e w2 ⟨rfl, rfl⟩
  go_wp2
  refine bodyPost_ret (v := .agg #[.int .i64 3, .int .i64 (placeN (r bb) words), .int .u32 (r cc), .int .u32 (r a)]) (by simp [results, Try.results37, go_sem, c2, c3, s1, s2, s3]) rfl ⟨rfl, ?_⟩
  exact Below.alloc (by simp (config := { maxDischargeDepth := 60 }) only [bSw, HB.out, Nat.le_succ, Nat.le_refl, le2]) (by simpa using HB.out.size) _

end Go.Proofs.Ytekiialhljfglaa
