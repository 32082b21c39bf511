/- What core.Wants answers, for every program, core and count of words; it writes nothing that was there. -/
import Derived.Test.YtdebkncjmbhneaaCoreB
import Derived.StillTailTactics
namespace Go.Proofs.Ytdebkncjmbhneaa
set_option linter.unusedVariables false
open Go.ChangeShapes Go.WideShapes Go.ChangeAt Go.RowKit

/-- Two new blocks, behind whatever happened that writes nothing which was there. -/
theorem two_boxes {w w1 : World} {cs ds : Array Value} {t u : TypeId} (hb : Below ((w.alloc (.cells cs t)).alloc (.cells ds u)).heap.size ((w.alloc (.cells cs t)).alloc (.cells ds u)) w1) :
    (∀ j, w1.cell? ⟨w.heap.size, j, none⟩ = cs[j]?) ∧ (∀ j, w1.cell? ⟨w.heap.size + 1, j, none⟩ = ds[j]?) ∧ (∀ j, w1.frozen? ⟨w.heap.size, j, none⟩ = false) ∧ (∀ j, w1.frozen? ⟨w.heap.size + 1, j, none⟩ = false) ∧
      w.heap.size < w1.heap.size ∧ w.heap.size + 1 < w1.heap.size ∧ Below w.heap.size w w1 := by
  have s1 : (w.alloc (.cells cs t)).heap.size = w.heap.size + 1 := World.size_alloc w _
  have s2 : ((w.alloc (.cells cs t)).alloc (.cells ds u)).heap.size = w.heap.size + 1 + 1 := by rw [World.size_alloc, s1]
  have hs := hb.size
  rw [s2] at hb hs
  refine ⟨fun j => ?_, fun j => ?_, fun j => ?_, fun j => ?_, by omega, by omega, ?_⟩
  · rw [hb.cell (p := ⟨w.heap.size, j, none⟩) (by show w.heap.size < _; omega), World.cell?_alloc_past _ _ _ (by omega)]
    exact World.cell?_alloc_new w cs t j
  · rw [hb.cell (p := ⟨w.heap.size + 1, j, none⟩) (by show w.heap.size + 1 < _; omega)]
    exact World.cell?_alloc_at ds u _ j s1.symm
  · rw [hb.frozen (p := ⟨w.heap.size, j, none⟩) (by show w.heap.size < _; omega), World.frozen?_alloc_past _ _ _ (by omega)]
    exact World.frozen?_alloc_at cs t _ j rfl
  · rw [hb.frozen (p := ⟨w.heap.size + 1, j, none⟩) (by show w.heap.size + 1 < _; omega)]
    exact World.frozen?_alloc_at ds u _ j s1.symm
  · exact (((Below.refl _ _).alloc (Nat.le_refl _) _).alloc (by omega) _).trans (hb.mono (by omega))

theorem core_call (p : Option Addr) (len cap : Nat) (l : List I5) (c : Cor) (v : Bool) (w W : World) (hl : Hid (l.length = len)) (hv : Hid (coreB l c = v)) (hp : Hid (Prg w p l)) (hb : Below w.heap.size w W) :
    Calls Try.prog 7 #[.slice p len cap, .agg c.row] W fun e w' => e = .returned (.bool v) ∧ Below W.heap.size W w' := by
  have h := coreRight_any p cap l c W (hp.out.below hb)
  rw [hl.out, hv.out] at h
  exact h

theorem wants_halted (p : Option Addr) (len cap : Nat) (r0 r1 r2 r3 r4 r5 r6 r7 pc : Int) (words : Int) (w : World) :
    Calls Try.prog 9 #[.slice p len cap, .agg #[.int .u32 r0, .int .u32 r1, .int .u32 r2, .int .u32 r3, .int .u32 r4, .int .u32 r5, .int .u32 r6, .int .u32 r7, .int .i64 pc, .bool true], .int .i64 words] w fun e w' => e = .returned (.agg #[.int .i64 5, .int .i64 0, .int .u32 0, .int .u32 0]) ∧ Below w.heap.size w w' := by
  go_enter Try.func9, Try.ntmps9
  go_wp2
  refine bodyPost_ret (v := .agg #[.int .i64 5, .int .i64 0, .int .u32 0, .int .u32 0]) (by simp [results, Try.results9, go_sem]) rfl ⟨rfl, ?_⟩
  exact ((Below.refl _ _).alloc (Nat.le_refl _) _).alloc (by simp) _

theorem wants_wrong (p : Option Addr) (len cap : Nat) (l : List I5) (r0 r1 r2 r3 r4 r5 r6 r7 pc : Int) (words : Int) (w : World) (hl : l.length = len) (hp : Prg w p l) (hv : ∀ r : Nat → Int, coreB l ⟨r, pc, false⟩ = false) :
    Calls Try.prog 9 #[.slice p len cap, .agg #[.int .u32 r0, .int .u32 r1, .int .u32 r2, .int .u32 r3, .int .u32 r4, .int .u32 r5, .int .u32 r6, .int .u32 r7, .int .i64 pc, .bool false], .int .i64 words] w fun e w' => e = .returned (.agg #[.int .i64 5, .int .i64 0, .int .u32 0, .int .u32 0]) ∧ Below w.heap.size w w' := by
  have HL := Lib.hid hl
  have HP := Lib.hid hp
  have HV := Lib.hid (hv (fun i => ([r0, r1, r2, r3, r4, r5, r6, r7] : List Int).getD i 0))
  clear hl hp hv
  go_enter Try.func9, Try.ntmps9
  go_wp2_with fail
  refine (core_call p len cap l ⟨fun i => ([r0, r1, r2, r3, r4, r5, r6, r7] : List Int).getD i 0, pc, false⟩ false w _ HL HV HP (((Below.refl _ _).alloc (Nat.le_refl _) _).alloc (by simp) _)).mono ?_
  rintro e w1 ⟨rfl, hb1⟩
  obtain ⟨c1, c2, f1, f2, s1, s2, hbb⟩ := two_boxes hb1
  have HB := Lib.hid hbb
  clear hb1 hbb c1 f1
  have z0 : w1.cell? ⟨w.heap.size + 1, 0, none⟩ = some (.int .i64 0) := c2 0
  have z1 : w1.cell? ⟨w.heap.size + 1, 1, none⟩ = some (.int .i64 0) := c2 1
  have z2 : w1.cell? ⟨w.heap.size + 1, 2, none⟩ = some (.int .u32 0) := c2 2
  have z3 : w1.cell? ⟨w.heap.size + 1, 3, none⟩ = some (.int .u32 0) := c2 3
  have g0 := f2 0
  have g1 := f2 1
  have g2 := f2 2
  have g3 := f2 3
  clear c2 f2
  go_wp2
  refine bodyPost_ret (v := .agg #[.int .i64 5, .int .i64 0, .int .u32 0, .int .u32 0]) (by simp [results, Try.results9, go_sem, z0, z1, z2, z3]) rfl ⟨rfl, ?_⟩
  exact (((HB.out.setCell (Nat.le_succ _) _).setCell (Nat.le_succ _) _).setCell (Nat.le_succ _) _).setCell (Nat.le_succ _) _
theorem wants_rest (b off len cap n : Nat) (l : List I5) (a bb cc k : Int) (r0 r1 r2 r3 r4 r5 r6 r7 : Int) (words : Int) (w : World) (hl : l.length = len) (hp : Prg w (some ⟨b, off, none⟩) l) (hv : ∀ r : Nat → Int, coreB l ⟨r, n, false⟩ = true) (hn : n < len) (hlen : len ≤ 64)
    (hlt : b < w.heap.size) (hx : Lies w b (off + n * 5) ⟨16, a, bb, cc, k⟩) :
    Calls Try.prog 9 #[.slice (some ⟨b, off, none⟩) len cap, .agg #[.int .u32 r0, .int .u32 r1, .int .u32 r2, .int .u32 r3, .int .u32 r4, .int .u32 r5, .int .u32 r6, .int .u32 r7, .int .i64 n, .bool false], .int .i64 words] w fun e w' => e = .returned (.agg #[.int .i64 5, .int .i64 0, .int .u32 0, .int .u32 0]) ∧ Below w.heap.size w w' := by
  have HL := Lib.hid hl
  have HP := Lib.hid hp
  have HV := Lib.hid (hv (fun i => ([r0, r1, r2, r3, r4, r5, r6, r7] : List Int).getD i 0))
  have HX := Lib.hid hx
  clear hl hp hv hx
  go_enter Try.func9, Try.ntmps9
  go_wp2_with fail
  refine (core_call (some ⟨b, off, none⟩) len cap l ⟨fun i => ([r0, r1, r2, r3, r4, r5, r6, r7] : List Int).getD i 0, n, false⟩ true w _ HL HV HP (((Below.refl _ _).alloc (Nat.le_refl _) _).alloc (by simp) _)).mono ?_
  rintro e w1 ⟨rfl, hb1⟩
  obtain ⟨c1, c2, f1, f2, s1, s2, hbb⟩ := two_boxes hb1
  obtain ⟨x0, x1, x2, x3, x4, _, _⟩ := HX.out.below hbb hlt
  have HB := Lib.hid hbb
  have q8 : w1.cell? ⟨w.heap.size, 8, none⟩ = some (.int .i64 n) := c1 8
  have z0 : w1.cell? ⟨w.heap.size + 1, 0, none⟩ = some (.int .i64 0) := c2 0
  have z1 : w1.cell? ⟨w.heap.size + 1, 1, none⟩ = some (.int .i64 0) := c2 1
  have z2 : w1.cell? ⟨w.heap.size + 1, 2, none⟩ = some (.int .u32 0) := c2 2
  have z3 : w1.cell? ⟨w.heap.size + 1, 3, none⟩ = some (.int .u32 0) := c2 3
  have g0 := f2 0
  have g1 := f2 1
  have g2 := f2 2
  have g3 := f2 3
  clear hb1 hbb c1 f1 c2 f2 HX HL HP HV
  go_wp2
  refine bodyPost_ret (v := .agg #[.int .i64 5, .int .i64 0, .int .u32 0, .int .u32 0]) (by simp [results, Try.results9, go_sem, z0, z1, z2, z3, s2]) rfl ⟨rfl, ?_⟩
  exact ((((HB.out.setCell (Nat.le_succ _) _).setCell (Nat.le_succ _) _).setCell (Nat.le_succ _) _).setCell (Nat.le_succ _) _).alloc (by simpa using HB.out.size) _

theorem wants_tell (b off len cap n : Nat) (l : List I5) (a : Nat) (bb cc k ra : Int) (r0 r1 r2 r3 r4 r5 r6 r7 : Int) (words : Int) (w : World) (hl : l.length = len) (hp : Prg w (some ⟨b, off, none⟩) l) (hv : ∀ r : Nat → Int, coreB l ⟨r, n, false⟩ = true) (hn : n < len) (hlen : len ≤ 64)
    (hlt : b < w.heap.size) (hx : Lies w b (off + n * 5) ⟨15, a, bb, cc, k⟩) (ha : a < 8) (hra : (#[.int .u32 r0, .int .u32 r1, .int .u32 r2, .int .u32 r3, .int .u32 r4, .int .u32 r5, .int .u32 r6, .int .u32 r7, .int .i64 n, .bool false] : Array Value)[a]? = some (.int .u32 ra)) (h0a : 0 ≤ ra) (h1a : ra ≤ 4294967295) :
    Calls Try.prog 9 #[.slice (some ⟨b, off, none⟩) len cap, .agg #[.int .u32 r0, .int .u32 r1, .int .u32 r2, .int .u32 r3, .int .u32 r4, .int .u32 r5, .int .u32 r6, .int .u32 r7, .int .i64 n, .bool false], .int .i64 words] w fun e w' => e = .returned (.agg #[.int .i64 4, .int .i64 0, .int .u32 ra, .int .u32 0]) ∧ Below w.heap.size w w' := by
  have HL := Lib.hid hl
  have HP := Lib.hid hp
  have HV := Lib.hid (hv (fun i => ([r0, r1, r2, r3, r4, r5, r6, r7] : List Int).getD i 0))
  have HX := Lib.hid hx
  clear hl hp hv hx
  go_enter Try.func9, Try.ntmps9
  go_wp2_with fail
  refine (core_call (some ⟨b, off, none⟩) len cap l ⟨fun i => ([r0, r1, r2, r3, r4, r5, r6, r7] : List Int).getD i 0, n, false⟩ true w _ HL HV HP (((Below.refl _ _).alloc (Nat.le_refl _) _).alloc (by simp) _)).mono ?_
  rintro e w1 ⟨rfl, hb1⟩
  obtain ⟨c1, c2, f1, f2, s1, s2, hbb⟩ := two_boxes hb1
  obtain ⟨x0, x1, x2, x3, x4, _, _⟩ := HX.out.below hbb hlt
  have HB := Lib.hid hbb
  have q8 : w1.cell? ⟨w.heap.size, 8, none⟩ = some (.int .i64 n) := c1 8
  have qa : w1.cell? ⟨w.heap.size, a, none⟩ = some (.int .u32 ra) := (c1 a).trans hra
  have z0 : w1.cell? ⟨w.heap.size + 1, 0, none⟩ = some (.int .i64 0) := c2 0
  have z1 : w1.cell? ⟨w.heap.size + 1, 1, none⟩ = some (.int .i64 0) := c2 1
  have z2 : w1.cell? ⟨w.heap.size + 1, 2, none⟩ = some (.int .u32 0) := c2 2
  have z3 : w1.cell? ⟨w.heap.size + 1, 3, none⟩ = some (.int .u32 0) := c2 3
  have g0 := f2 0
  have g1 := f2 1
  have g2 := f2 2
  have g3 := f2 3
  clear hb1 hbb c1 f1 c2 f2 HX HL HP HV
  clear hra
  go_wp2
  refine bodyPost_ret (v := .agg #[.int .i64 4, .int .i64 0, .int .u32 ra, .int .u32 0]) (by simp [results, Try.results9, go_sem, z0, z1, z2, z3, s2]) rfl ⟨rfl, ?_⟩
  exact ((((HB.out.setCell (Nat.le_succ _) _).setCell (Nat.le_succ _) _).setCell (Nat.le_succ _) _).setCell (Nat.le_succ _) _).alloc (by simpa using HB.out.size) _

theorem wants_nothing (b off len cap n : Nat) (l : List I5) (op a bb cc k : Int) (r0 r1 r2 r3 r4 r5 r6 r7 : Int) (words : Int) (w : World) (hl : l.length = len) (hp : Prg w (some ⟨b, off, none⟩) l) (hv : ∀ r : Nat → Int, coreB l ⟨r, n, false⟩ = true) (hn : n < len) (hlen : len ≤ 64)
    (hlt : b < w.heap.size) (hx : Lies w b (off + n * 5) ⟨op, a, bb, cc, k⟩) (o9 : (op == 9) = false) (o10 : (op == 10) = false) (o11 : (op == 11) = false) (o15 : (op == 15) = false) (o16 : (op == 16) = false) :
    Calls Try.prog 9 #[.slice (some ⟨b, off, none⟩) len cap, .agg #[.int .u32 r0, .int .u32 r1, .int .u32 r2, .int .u32 r3, .int .u32 r4, .int .u32 r5, .int .u32 r6, .int .u32 r7, .int .i64 n, .bool false], .int .i64 words] w fun e w' => e = .returned (.agg #[.int .i64 0, .int .i64 0, .int .u32 0, .int .u32 0]) ∧ Below w.heap.size w w' := by
  have HL := Lib.hid hl
  have HP := Lib.hid hp
  have HV := Lib.hid (hv (fun i => ([r0, r1, r2, r3, r4, r5, r6, r7] : List Int).getD i 0))
  have HX := Lib.hid hx
  clear hl hp hv hx
  go_enter Try.func9, Try.ntmps9
  go_wp2_with fail
  refine (core_call (some ⟨b, off, none⟩) len cap l ⟨fun i => ([r0, r1, r2, r3, r4, r5, r6, r7] : List Int).getD i 0, n, false⟩ true w _ HL HV HP (((Below.refl _ _).alloc (Nat.le_refl _) _).alloc (by simp) _)).mono ?_
  rintro e w1 ⟨rfl, hb1⟩
  obtain ⟨c1, c2, f1, f2, s1, s2, hbb⟩ := two_boxes hb1
  obtain ⟨x0, x1, x2, x3, x4, _, _⟩ := HX.out.below hbb hlt
  have HB := Lib.hid hbb
  have q8 : w1.cell? ⟨w.heap.size, 8, none⟩ = some (.int .i64 n) := c1 8
  have z0 : w1.cell? ⟨w.heap.size + 1, 0, none⟩ = some (.int .i64 0) := c2 0
  have z1 : w1.cell? ⟨w.heap.size + 1, 1, none⟩ = some (.int .i64 0) := c2 1
  have z2 : w1.cell? ⟨w.heap.size + 1, 2, none⟩ = some (.int .u32 0) := c2 2
  have z3 : w1.cell? ⟨w.heap.size + 1, 3, none⟩ = some (.int .u32 0) := c2 3
  have g0 := f2 0
  have g1 := f2 1
  have g2 := f2 2
  have g3 := f2 3
  clear hb1 hbb c1 f1 c2 f2 HX HL HP HV
  go_wp2
  refine bodyPost_ret (v := .agg #[.int .i64 0, .int .i64 0, .int .u32 0, .int .u32 0]) (by simp [results, Try.results9, go_sem, z0, z1, z2, z3, s2]) rfl ⟨rfl, ?_⟩
  exact ((((HB.out.setCell (Nat.le_succ _) _).setCell (Nat.le_succ _) _).setCell (Nat.le_succ _) _).setCell (Nat.le_succ _) _).alloc (by simpa using HB.out.size) _

theorem wants_read (b off len cap n : Nat) (l : List I5) (bb : Nat) (a cc k rb : Int) (r0 r1 r2 r3 r4 r5 r6 r7 : Int) (words : Int) (w : World) (hl : l.length = len) (hp : Prg w (some ⟨b, off, none⟩) l) (hv : ∀ r : Nat → Int, coreB l ⟨r, n, false⟩ = true) (hn : n < len) (hlen : len ≤ 64)
    (hlt : b < w.heap.size) (hx : Lies w b (off + n * 5) ⟨9, a, bb, cc, k⟩) (hb : bb < 8) (hrb : (#[.int .u32 r0, .int .u32 r1, .int .u32 r2, .int .u32 r3, .int .u32 r4, .int .u32 r5, .int .u32 r6, .int .u32 r7, .int .i64 n, .bool false] : Array Value)[bb]? = some (.int .u32 rb)) (h0b : 0 ≤ rb) (h1b : rb ≤ 4294967295) (hw : words ≤ 9223372036854775807) :
    Calls Try.prog 9 #[.slice (some ⟨b, off, none⟩) len cap, .agg #[.int .u32 r0, .int .u32 r1, .int .u32 r2, .int .u32 r3, .int .u32 r4, .int .u32 r5, .int .u32 r6, .int .u32 r7, .int .i64 n, .bool false], .int .i64 words] w fun e w' => e = .returned (.agg #[.int .i64 1, .int .i64 (placeN rb words), .int .u32 0, .int .u32 0]) ∧ Below w.heap.size w w' := by
  have HL := Lib.hid hl
  have HP := Lib.hid hp
  have HV := Lib.hid (hv (fun i => ([r0, r1, r2, r3, r4, r5, r6, r7] : List Int).getD i 0))
  have HX := Lib.hid hx
  clear hl hp hv hx
  go_enter Try.func9, Try.ntmps9
  go_wp2_with fail
  refine (core_call (some ⟨b, off, none⟩) len cap l ⟨fun i => ([r0, r1, r2, r3, r4, r5, r6, r7] : List Int).getD i 0, n, false⟩ true w _ HL HV HP (((Below.refl _ _).alloc (Nat.le_refl _) _).alloc (by simp) _)).mono ?_
  rintro e w1 ⟨rfl, hb1⟩
  obtain ⟨c1, c2, f1, f2, s1, s2, hbb⟩ := two_boxes hb1
  obtain ⟨x0, x1, x2, x3, x4, _, _⟩ := HX.out.below hbb hlt
  have HB := Lib.hid hbb
  have q8 : w1.cell? ⟨w.heap.size, 8, none⟩ = some (.int .i64 n) := c1 8
  have qb : w1.cell? ⟨w.heap.size, bb, none⟩ = some (.int .u32 rb) := (c1 bb).trans hrb
  have z0 : w1.cell? ⟨w.heap.size + 1, 0, none⟩ = some (.int .i64 0) := c2 0
  have z1 : w1.cell? ⟨w.heap.size + 1, 1, none⟩ = some (.int .i64 0) := c2 1
  have z2 : w1.cell? ⟨w.heap.size + 1, 2, none⟩ = some (.int .u32 0) := c2 2
  have z3 : w1.cell? ⟨w.heap.size + 1, 3, none⟩ = some (.int .u32 0) := c2 3
  have g0 := f2 0
  have g1 := f2 1
  have g2 := f2 2
  have g3 := f2 3
  clear hb1 hbb c1 f1 c2 f2 HX HL HP HV
  clear hrb
  go_wp2_with fail
  refine (place_any rb words _ h0b h1b hw).mono ?_
  rintro e w2 ⟨rfl, rfl⟩
  go_wp2
  refine bodyPost_ret (v := .agg #[.int .i64 1, .int .i64 (placeN rb words), .int .u32 0, .int .u32 0]) (by simp [results, Try.results9, go_sem, z0, z1, z2, z3, s2]) rfl ⟨rfl, ?_⟩
  exact ((((HB.out.setCell (Nat.le_succ _) _).setCell (Nat.le_succ _) _).setCell (Nat.le_succ _) _).setCell (Nat.le_succ _) _).alloc (by simpa using HB.out.size) _

end Go.Proofs.Ytdebkncjmbhneaa
