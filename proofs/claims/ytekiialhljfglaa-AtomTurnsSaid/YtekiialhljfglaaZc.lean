/- Laid together, in this order: CoreC, CoreD, CoreE. -/
import Derived.Test.YtekiialhljfglaaZb
import Derived.StillTailTactics
/- What core.Wants answers, for every program, core and count of words; it writes nothing that was there. -/
namespace Go.Proofs.Ytekiialhljfglaa
set_option linter.unusedVariables false
open Go.ChangeShapes Go.WideShapes Go.ChangeAt Go.RowKit

/-- Two new blocks, behind whatever happened that writes nothing which was there. -/
theorem two_boxes {w w1 : World} {cs ds : Array Value} {t u : TypeId} (hb : Below ((w.alloc (.cells cs t)).alloc (.cells ds u)).heap.size ((w.alloc (.cells cs t)).alloc (.cells ds u)) w1) :
    (∀ j, w1.cell? ⟨w.heap.size, j, none⟩ = cs[j]?) ∧ (∀ j, w1.cell? ⟨w.heap.size + 1, j, none⟩ = ds[j]?) ∧ (∀ j, w1.frozen? ⟨w.heap.size, j, none⟩ = false) ∧ (∀ j, w1.frozen? ⟨w.heap.size + 1, j, none⟩ = false) ∧
      w.heap.size < w1.heap.size ∧ w.heap.size + 1 < w1.heap.size ∧ Below w.heap.size w w1 := by
  have s1 : (w.alloc (.cells cs t)).heap.size = w.heap.size + 1 := World.size_alloc w _
  have s2 : ((w.alloc (.cells cs t)).alloc (.cells ds u)).heap.size = w.heap.size + 1 + 1 := by rw [World.size_alloc, s1]
  have hs := hb.size
  rw [s2] at hb hs
  refine ⟨fun j => ?_, fun j => ?_, fun j => ?_, fun j => ?_, by omega, by omega, ?_⟩
  · rw [hb.cell (p := ⟨w.heap.size, j, none⟩) (by show w.heap.size < _; omega), World.cell?_alloc_past _ _ _ (by omega)]
    exact World.cell?_alloc_new w cs t j
  · rw [hb.cell (p := ⟨w.heap.size + 1, j, none⟩) (by show w.heap.size + 1 < _; omega)]
    exact World.cell?_alloc_at ds u _ j s1.symm
  · rw [hb.frozen (p := ⟨w.heap.size, j, none⟩) (by show w.heap.size < _; omega), World.frozen?_alloc_past _ _ _ (by omega)]
    exact World.frozen?_alloc_at cs t _ j rfl
  · rw [hb.frozen (p := ⟨w.heap.size + 1, j, none⟩) (by show w.heap.size + 1 < _; omega)]
    exact World.frozen?_alloc_at ds u _ j s1.symm
  · exact (((Below.refl _ _).alloc (Nat.le_refl _) _).alloc (by omega) _).trans (hb.mono (by omega))

theorem core_call (p : Option Addr) (len cap : Nat) (l : List I5) (c : Cor) (v : Bool) (w W : World) (hl : Hid (l.length = len)) (hv : Hid (coreB l c = v)) (hp : Hid (Prg w p l)) (hb : Below w.heap.size w W) :
    Calls Try.prog 31 #[.slice p len cap, .agg c.row] W fun e w' => e = .returned (.bool v) ∧ Below W.heap.size W w' := by
  have h := coreRight_any p cap l c W (hp.out.below hb)
  rw [hl.out, hv.out] at h
  exact h

theorem wants_halted (p : Option Addr) (len cap : Nat) (r0 r1 r2 r3 r4 r5 r6 r7 pc : Int) (words : Int) (w : World) :
    Calls Try.prog 23 #[.slice p len cap, .agg #[.int .u32 r0, .int .u32 r1, .int .u32 r2, .int .u32 r3, .int .u32 r4, .int .u32 r5, .int .u32 r6, .int .u32 r7, .int .i64 pc, .bool true], .int .i64 words] w fun e w' => e = .returned (.agg #[.int .i64 5, .int .i64 0, .int .u32 0, .int .u32 0]) ∧ Below w.heap.size w w' := by
  go_enter Try.func23, Try.ntmps23
  go_wp2
  refine bodyPost_ret (v := .agg #[.int .i64 5, .int .i64 0, .int .u32 0, .int .u32 0]) (by simp [results, Try.results23, go_sem]) rfl ⟨rfl, ?_⟩
  exact ((Below.refl _ _).alloc (Nat.le_refl _) _).alloc (by simp) _

theorem wants_wrong (p : Option Addr) (len cap : Nat) (l : List I5) (r0 r1 r2 r3 r4 r5 r6 r7 pc : Int) (words : Int) (w : World) (hl : l.length = len) (hp : Prg w p l) (hv : ∀ r : Nat → Int, coreB l ⟨r, pc, false⟩ = false) :
    Calls Try.prog 23 #[.slice p len cap, .agg #[.int .u32 r0, .int .u32 r1, .int .u32 r2, .int .u32 r3, .int .u32 r4, .int .u32 r5, .int .u32 r6, .int .u32 r7, .int .i64 pc, .bool false], .int .i64 words] w fun e w' => e = .returned (.agg #[.int .i64 5, .int .i64 0, .int .u32 0, .int .u32 0]) ∧ Below w.heap.size w w' := by
  have HL := Lib.hid hl
  have HP := Lib.hid hp
  have HV := Lib.hid (hv (fun i => ([r0, r1, r2, r3, r4, r5, r6, r7] : List Int).getD i 0))
  clear hl hp hv
  go_enter Try.func23, Try.ntmps23
  go_wp2_with fail
  refine (core_call p len cap l ⟨fun i => ([r0, r1, r2, r3, r4, r5, r6, r7] : List Int).getD i 0, pc, false⟩ false w _ HL HV HP (((Below.refl _ _).alloc (Nat.le_refl _) _).alloc (by simp) _)).mono ?_
  rintro e w1 ⟨rfl, hb1⟩
  obtain ⟨c1, c2, f1, f2, s1, s2, hbb⟩ := two_boxes hb1
  have HB := Lib.hid hbb
  clear hb1 hbb c1 f1
  have z0 : w1.cell? ⟨w.heap.size + 1, 0, none⟩ = some (.int .i64 0) := c2 0
  have z1 : w1.cell? ⟨w.heap.size + 1, 1, none⟩ = some (.int .i64 0) := c2 1
  have z2 : w1.cell? ⟨w.heap.size + 1, 2, none⟩ = some (.int .u32 0) := c2 2
  have z3 : w1.cell? ⟨w.heap.size + 1, 3, none⟩ = some (.int .u32 0) := c2 3
  have g0 := f2 0
  have g1 := f2 1
  have g2 := f2 2
  have g3 := f2 3
  clear c2 f2
  go_wp2
  refine bodyPost_ret (v := .agg #[.int .i64 5, .int .i64 0, .int .u32 0, .int .u32 0]) (by simp [results, Try.results23, go_sem, z0, z1, z2, z3]) rfl ⟨rfl, ?_⟩
  exact (((HB.out.setCell (Nat.le_succ _) _).setCell (Nat.le_succ _) _).setCell (Nat.le_succ _) _).setCell (Nat.le_succ _) _
theorem wants_rest (b off len cap n : Nat) (l : List I5) (a bb cc k : Int) (r0 r1 r2 r3 r4 r5 r6 r7 : Int) (words : Int) (w : World) (hl : l.length = len) (hp : Prg w (some ⟨b, off, none⟩) l) (hv : ∀ r : Nat → Int, coreB l ⟨r, n, false⟩ = true) (hn : n < len) (hlen : len ≤ 64)
    (hlt : b < w.heap.size) (hx : Lies w b (off + n * 5) ⟨16, a, bb, cc, k⟩) :
    Calls Try.prog 23 #[.slice (some ⟨b, off, none⟩) len cap, .agg #[.int .u32 r0, .int .u32 r1, .int .u32 r2, .int .u32 r3, .int .u32 r4, .int .u32 r5, .int .u32 r6, .int .u32 r7, .int .i64 n, .bool false], .int .i64 words] w fun e w' => e = .returned (.agg #[.int .i64 5, .int .i64 0, .int .u32 0, .int .u32 0]) ∧ Below w.heap.size w w' := by
  have HL := Lib.hid hl
  have HP := Lib.hid hp
  have HV := Lib.hid (hv (fun i => ([r0, r1, r2, r3, r4, r5, r6, r7] : List Int).getD i 0))
  have HX := Lib.hid hx
  clear hl hp hv hx
  go_enter Try.func23, Try.ntmps23
  go_wp2_with fail
  refine (core_call (some ⟨b, off, none⟩) len cap l ⟨fun i => ([r0, r1, r2, r3, r4, r5, r6, r7] : List Int).getD i 0, n, false⟩ true w _ HL HV HP (((Below.refl _ _).alloc (Nat.le_refl _) _).alloc (by simp) _)).mono ?_
  rintro e w1 ⟨rfl, hb1⟩
  obtain ⟨c1, c2, f1, f2, s1, s2, hbb⟩ := two_boxes hb1
  obtain ⟨x0, x1, x2, x3, x4, _, _⟩ := HX.out.below hbb hlt
  have HB := Lib.hid hbb
  have q8 : w1.cell? ⟨w.heap.size, 8, none⟩ = some (.int .i64 n) := c1 8
  have z0 : w1.cell? ⟨w.heap.size + 1, 0, none⟩ = some (.int .i64 0) := c2 0
  have z1 : w1.cell? ⟨w.heap.size + 1, 1, none⟩ = some (.int .i64 0) := c2 1
  have z2 : w1.cell? ⟨w.heap.size + 1, 2, none⟩ = some (.int .u32 0) := c2 2
  have z3 : w1.cell? ⟨w.heap.size + 1, 3, none⟩ = some (.int .u32 0) := c2 3
  have g0 := f2 0
  have g1 := f2 1
  have g2 := f2 2
  have g3 := f2 3
  clear hb1 hbb c1 f1 c2 f2 HX HL HP HV
  go_wp2
  refine bodyPost_ret (v := .agg #[.int .i64 5, .int .i64 0, .int .u32 0, .int .u32 0]) (by simp [results, Try.results23, go_sem, z0, z1, z2, z3, s2]) rfl ⟨rfl, ?_⟩
  exact ((((HB.out.setCell (Nat.le_succ _) _).setCell (Nat.le_succ _) _).setCell (Nat.le_succ _) _).setCell (Nat.le_succ _) _).alloc (by simpa using HB.out.size) _

theorem wants_tell (b off len cap n : Nat) (l : List I5) (a : Nat) (bb cc k ra : Int) (r0 r1 r2 r3 r4 r5 r6 r7 : Int) (words : Int) (w : World) (hl : l.length = len) (hp : Prg w (some ⟨b, off, none⟩) l) (hv : ∀ r : Nat → Int, coreB l ⟨r, n, false⟩ = true) (hn : n < len) (hlen : len ≤ 64)
    (hlt : b < w.heap.size) (hx : Lies w b (off + n * 5) ⟨15, a, bb, cc, k⟩) (ha : a < 8) (hra : (#[.int .u32 r0, .int .u32 r1, .int .u32 r2, .int .u32 r3, .int .u32 r4, .int .u32 r5, .int .u32 r6, .int .u32 r7, .int .i64 n, .bool false] : Array Value)[a]? = some (.int .u32 ra)) (h0a : 0 ≤ ra) (h1a : ra ≤ 4294967295) :
    Calls Try.prog 23 #[.slice (some ⟨b, off, none⟩) len cap, .agg #[.int .u32 r0, .int .u32 r1, .int .u32 r2, .int .u32 r3, .int .u32 r4, .int .u32 r5, .int .u32 r6, .int .u32 r7, .int .i64 n, .bool false], .int .i64 words] w fun e w' => e = .returned (.agg #[.int .i64 4, .int .i64 0, .int .u32 ra, .int .u32 0]) ∧ Below w.heap.size w w' := by
  have HL := Lib.hid hl
  have HP := Lib.hid hp
  have HV := Lib.hid (hv (fun i => ([r0, r1, r2, r3, r4, r5, r6, r7] : List Int).getD i 0))
  have HX := Lib.hid hx
  clear hl hp hv hx
  go_enter Try.func23, Try.ntmps23
  go_wp2_with fail
  refine (core_call (some ⟨b, off, none⟩) len cap l ⟨fun i => ([r0, r1, r2, r3, r4, r5, r6, r7] : List Int).getD i 0, n, false⟩ true w _ HL HV HP (((Below.refl _ _).alloc (Nat.le_refl _) _).alloc (by simp) _)).mono ?_
  rintro e w1 ⟨rfl, hb1⟩
  obtain ⟨c1, c2, f1, f2, s1, s2, hbb⟩ := two_boxes hb1
  obtain ⟨x0, x1, x2, x3, x4, _, _⟩ := HX.out.below hbb hlt
  have HB := Lib.hid hbb
  have q8 : w1.cell? ⟨w.heap.size, 8, none⟩ = some (.int .i64 n) := c1 8
  have qa : w1.cell? ⟨w.heap.size, a, none⟩ = some (.int .u32 ra) := (c1 a).trans hra
  have z0 : w1.cell? ⟨w.heap.size + 1, 0, none⟩ = some (.int .i64 0) := c2 0
  have z1 : w1.cell? ⟨w.heap.size + 1, 1, none⟩ = some (.int .i64 0) := c2 1
  have z2 : w1.cell? ⟨w.heap.size + 1, 2, none⟩ = some (.int .u32 0) := c2 2
  have z3 : w1.cell? ⟨w.heap.size + 1, 3, none⟩ = some (.int .u32 0) := c2 3
  have g0 := f2 0
  have g1 := f2 1
  have g2 := f2 2
  have g3 := f2 3
  clear hb1 hbb c1 f1 c2 f2 HX HL HP HV
  clear hra
  go_wp2
  refine bodyPost_ret (v := .agg #[.int .i64 4, .int .i64 0, .int .u32 ra, .int .u32 0]) (by simp [results, Try.results23, go_sem, z0, z1, z2, z3, s2]) rfl ⟨rfl, ?_⟩
  exact ((((HB.out.setCell (Nat.le_succ _) _).setCell (Nat.le_succ _) _).setCell (Nat.le_succ _) _).setCell (Nat.le_succ _) _).alloc (by simpa using HB.out.size) _

theorem wants_nothing (b off len cap n : Nat) (l : List I5) (op a bb cc k : Int) (r0 r1 r2 r3 r4 r5 r6 r7 : Int) (words : Int) (w : World) (hl : l.length = len) (hp : Prg w (some ⟨b, off, none⟩) l) (hv : ∀ r : Nat → Int, coreB l ⟨r, n, false⟩ = true) (hn : n < len) (hlen : len ≤ 64)
    (hlt : b < w.heap.size) (hx : Lies w b (off + n * 5) ⟨op, a, bb, cc, k⟩) (o9 : (op == 9) = false) (o10 : (op == 10) = false) (o11 : (op == 11) = false) (o15 : (op == 15) = false) (o16 : (op == 16) = false) :
    Calls Try.prog 23 #[.slice (some ⟨b, off, none⟩) len cap, .agg #[.int .u32 r0, .int .u32 r1, .int .u32 r2, .int .u32 r3, .int .u32 r4, .int .u32 r5, .int .u32 r6, .int .u32 r7, .int .i64 n, .bool false], .int .i64 words] w fun e w' => e = .returned (.agg #[.int .i64 0, .int .i64 0, .int .u32 0, .int .u32 0]) ∧ Below w.heap.size w w' := by
  have HL := Lib.hid hl
  have HP := Lib.hid hp
  have HV := Lib.hid (hv (fun i => ([r0, r1, r2, r3, r4, r5, r6, r7] : List Int).getD i 0))
  have HX := Lib.hid hx
  clear hl hp hv hx
  go_enter Try.func23, Try.ntmps23
  go_wp2_with fail
  refine (core_call (some ⟨b, off, none⟩) len cap l ⟨fun i => ([r0, r1, r2, r3, r4, r5, r6, r7] : List Int).getD i 0, n, false⟩ true w _ HL HV HP (((Below.refl _ _).alloc (Nat.le_refl _) _).alloc (by simp) _)).mono ?_
  rintro e w1 ⟨rfl, hb1⟩
  obtain ⟨c1, c2, f1, f2, s1, s2, hbb⟩ := two_boxes hb1
  obtain ⟨x0, x1, x2, x3, x4, _, _⟩ := HX.out.below hbb hlt
  have HB := Lib.hid hbb
  have q8 : w1.cell? ⟨w.heap.size, 8, none⟩ = some (.int .i64 n) := c1 8
  have z0 : w1.cell? ⟨w.heap.size + 1, 0, none⟩ = some (.int .i64 0) := c2 0
  have z1 : w1.cell? ⟨w.heap.size + 1, 1, none⟩ = some (.int .i64 0) := c2 1
  have z2 : w1.cell? ⟨w.heap.size + 1, 2, none⟩ = some (.int .u32 0) := c2 2
  have z3 : w1.cell? ⟨w.heap.size + 1, 3, none⟩ = some (.int .u32 0) := c2 3
  have g0 := f2 0
  have g1 := f2 1
  have g2 := f2 2
  have g3 := f2 3
  clear hb1 hbb c1 f1 c2 f2 HX HL HP HV
  go_wp2
  refine bodyPost_ret (v := .agg #[.int .i64 0, .int .i64 0, .int .u32 0, .int .u32 0]) (by simp [results, Try.results23, go_sem, z0, z1, z2, z3, s2]) rfl ⟨rfl, ?_⟩
  exact ((((HB.out.setCell (Nat.le_succ _) _).setCell (Nat.le_succ _) _).setCell (Nat.le_succ _) _).setCell (Nat.le_succ _) _).alloc (by simpa using HB.out.size) _

theorem wants_read (b off len cap n : Nat) (l : List I5) (bb : Nat) (a cc k rb : Int) (r0 r1 r2 r3 r4 r5 r6 r7 : Int) (words : Int) (w : World) (hl : l.length = len) (hp : Prg w (some ⟨b, off, none⟩) l) (hv : ∀ r : Nat → Int, coreB l ⟨r, n, false⟩ = true) (hn : n < len) (hlen : len ≤ 64)
    (hlt : b < w.heap.size) (hx : Lies w b (off + n * 5) ⟨9, a, bb, cc, k⟩) (hb : bb < 8) (hrb : (#[.int .u32 r0, .int .u32 r1, .int .u32 r2, .int .u32 r3, .int .u32 r4, .int .u32 r5, .int .u32 r6, .int .u32 r7, .int .i64 n, .bool false] : Array Value)[bb]? = some (.int .u32 rb)) (h0b : 0 ≤ rb) (h1b : rb ≤ 4294967295) (hw : words ≤ 9223372036854775807) :
    Calls Try.prog 23 #[.slice (some ⟨b, off, none⟩) len cap, .agg #[.int .u32 r0, .int .u32 r1, .int .u32 r2, .int .u32 r3, .int .u32 r4, .int .u32 r5, .int .u32 r6, .int .u32 r7, .int .i64 n, .bool false], .int .i64 words] w fun e w' => e = .returned (.agg #[.int .i64 1, .int .i64 (placeN rb words), .int .u32 0, .int .u32 0]) ∧ Below w.heap.size w w' := by
  have HL := Lib.hid hl
  have HP := Lib.hid hp
  have HV := Lib.hid (hv (fun i => ([r0, r1, r2, r3, r4, r5, r6, r7] : List Int).getD i 0))
  have HX := Lib.hid hx
  clear hl hp hv hx
  go_enter Try.func23, Try.ntmps23
  go_wp2_with fail
  refine (core_call (some ⟨b, off, none⟩) len cap l ⟨fun i => ([r0, r1, r2, r3, r4, r5, r6, r7] : List Int).getD i 0, n, false⟩ true w _ HL HV HP (((Below.refl _ _).alloc (Nat.le_refl _) _).alloc (by simp) _)).mono ?_
  rintro e w1 ⟨rfl, hb1⟩
  obtain ⟨c1, c2, f1, f2, s1, s2, hbb⟩ := two_boxes hb1
  obtain ⟨x0, x1, x2, x3, x4, _, _⟩ := HX.out.below hbb hlt
  have HB := Lib.hid hbb
  have q8 : w1.cell? ⟨w.heap.size, 8, none⟩ = some (.int .i64 n) := c1 8
  have qb : w1.cell? ⟨w.heap.size, bb, none⟩ = some (.int .u32 rb) := (c1 bb).trans hrb
  have z0 : w1.cell? ⟨w.heap.size + 1, 0, none⟩ = some (.int .i64 0) := c2 0
  have z1 : w1.cell? ⟨w.heap.size + 1, 1, none⟩ = some (.int .i64 0) := c2 1
  have z2 : w1.cell? ⟨w.heap.size + 1, 2, none⟩ = some (.int .u32 0) := c2 2
  have z3 : w1.cell? ⟨w.heap.size + 1, 3, none⟩ = some (.int .u32 0) := c2 3
  have g0 := f2 0
  have g1 := f2 1
  have g2 := f2 2
  have g3 := f2 3
  clear hb1 hbb c1 f1 c2 f2 HX HL HP HV
  clear hrb
  go_wp2_with fail
  refine (place_any rb words _ h0b h1b hw).mono ?_
  rintro e w2 ⟨rfl, rfl⟩
  go_wp2
  refine bodyPost_ret (v := .agg #[.int .i64 1, .int .i64 (placeN rb words), .int .u32 0, .int .u32 0]) (by simp [results, Try.results23, go_sem, z0, z1, z2, z3, s2]) rfl ⟨rfl, ?_⟩
  exact ((((HB.out.setCell (Nat.le_succ _) _).setCell (Nat.le_succ _) _).setCell (Nat.le_succ _) _).setCell (Nat.le_succ _) _).alloc (by simpa using HB.out.size) _

end Go.Proofs.Ytekiialhljfglaa
/- What core.Wants answers of Store and Swap; it writes nothing that was there. -/
namespace Go.Proofs.Ytekiialhljfglaa
set_option linter.unusedVariables false
open Go.ChangeShapes Go.WideShapes Go.ChangeAt Go.RowKit

/-- A region that draws, whose first n operations only read, and whose others come one behind the other: the world under a name of its own. -/
theorem region_tail {P : Program} {id : Nat} {Q : Exit → Act → World → Prop} {a : Act} {w : World} {l : List Oper} (n : Nat) (hm : P.follows .mixedOrders = true) (hB : Region.lexTailB .any l.toArray n = true)
    (h : ∀ W : World, W = w.drew → wpStill P l.toArray W (fun a' => wpList P l.toArray Q (l.drop n) a' W) (l.take n) a) : (Code.region id l.toArray true).wp P Q a w :=
  wp_region_still_tail n hm hB (h _ rfl)
theorem place_still (n k : Int) (w : World) (h0 : 0 ≤ n) (h1 : n ≤ 4294967295) (h3 : k ≤ 9223372036854775807) : Calls Try.prog 39 #[.int .u32 n, .int .i64 k] w fun e w' => e = .returned (.int .i64 (placeN n k)) ∧ w' = w :=
  (place_any n k w h0 h1 h3).mono fun e w' he => ⟨he.1, he.2.symm⟩

set_option maxHeartbeats 1000000 in
theorem wants_write (b off len cap n : Nat) (l : List I5) (a bb : Nat) (cc k ra rb : Int) (r0 r1 r2 r3 r4 r5 r6 r7 : Int) (words : Int) (w : World) (hl : l.length = len) (hp : Prg w (some ⟨b, off, none⟩) l) (hv : ∀ r : Nat → Int, coreB l ⟨r, n, false⟩ = true) (hn : n < len) (hlen : len ≤ 64)
    (hlt : b < w.heap.size) (hx : Lies w b (off + n * 5) ⟨10, a, bb, cc, k⟩) (ha : a < 8) (hra : (#[.int .u32 r0, .int .u32 r1, .int .u32 r2, .int .u32 r3, .int .u32 r4, .int .u32 r5, .int .u32 r6, .int .u32 r7, .int .i64 n, .bool false] : Array Value)[a]? = some (.int .u32 ra)) (h0a : 0 ≤ ra) (h1a : ra ≤ 4294967295) (hb : bb < 8) (hrb : (#[.int .u32 r0, .int .u32 r1, .int .u32 r2, .int .u32 r3, .int .u32 r4, .int .u32 r5, .int .u32 r6, .int .u32 r7, .int .i64 n, .bool false] : Array Value)[bb]? = some (.int .u32 rb)) (h0b : 0 ≤ rb) (h1b : rb ≤ 4294967295) (hw : words ≤ 9223372036854775807) :
    Calls Try.prog 23 #[.slice (some ⟨b, off, none⟩) len cap, .agg #[.int .u32 r0, .int .u32 r1, .int .u32 r2, .int .u32 r3, .int .u32 r4, .int .u32 r5, .int .u32 r6, .int .u32 r7, .int .i64 n, .bool false], .int .i64 words] w fun e w' => e = .returned (.agg #[.int .i64 2, .int .i64 (placeN rb words), .int .u32 ra, .int .u32 0]) ∧ Below w.heap.size w w' := by
  have HL := Lib.hid hl
  have HP := Lib.hid hp
  have HV := Lib.hid (hv (fun i => ([r0, r1, r2, r3, r4, r5, r6, r7] : List Int).getD i 0))
  have HX := Lib.hid hx
  clear hl hp hv hx
  go_enter Try.func23, Try.ntmps23
  go_wp2_with fail
  refine (core_call (some ⟨b, off, none⟩) len cap l ⟨fun i => ([r0, r1, r2, r3, r4, r5, r6, r7] : List Int).getD i 0, n, false⟩ true w _ HL HV HP (((Below.refl _ _).alloc (Nat.le_refl _) _).alloc (by simp) _)).mono ?_
  rintro e w1 ⟨rfl, hb1⟩
  obtain ⟨c1, c2, f1, f2, s1, s2, hbb⟩ := two_boxes hb1
  obtain ⟨x0, x1, x2, x3, x4, _, _⟩ := HX.out.below hbb hlt
  have HB := Lib.hid hbb
  have q8 : w1.cell? ⟨w.heap.size, 8, none⟩ = some (.int .i64 n) := c1 8
  have qa : w1.cell? ⟨w.heap.size, a, none⟩ = some (.int .u32 ra) := (c1 a).trans hra
  have qb : w1.cell? ⟨w.heap.size, bb, none⟩ = some (.int .u32 rb) := (c1 bb).trans hrb
  have z0 : w1.cell? ⟨w.heap.size + 1, 0, none⟩ = some (.int .i64 0) := c2 0
  have z1 : w1.cell? ⟨w.heap.size + 1, 1, none⟩ = some (.int .i64 0) := c2 1
  have z2 : w1.cell? ⟨w.heap.size + 1, 2, none⟩ = some (.int .u32 0) := c2 2
  have z3 : w1.cell? ⟨w.heap.size + 1, 3, none⟩ = some (.int .u32 0) := c2 3
  have g0 := f2 0
  have g1 := f2 1
  have g2 := f2 2
  have g3 := f2 3
  clear hb1 hbb c1 f1 c2 f2 HX HL HP HV
  clear hrb hra
  have ia0 : (0 : Int) ≤ (a : Int) := by omega
  have ia1 : (a : Int) < 8 := by omega
  have ib0 : (0 : Int) ≤ (bb : Int) := by omega
  have ib1 : (bb : Int) < 8 := by omega
  go_wp2_with fail
  refine region_tail 13 (by kernel_rfl) (by kernel_rfl) (fun W hW => ?_)
  have F0 : W.cell? ⟨w1.heap.size, 2, none⟩ = some (.int .i64 bb) := by rw [hW]; simp [go_sem, *]
  have F1 : W.cell? ⟨w.heap.size, bb, none⟩ = some (.int .u32 rb) := by rw [hW]; simp [go_sem, *]
  have F2 : W.cell? ⟨w1.heap.size, 1, none⟩ = some (.int .i64 a) := by rw [hW]; simp [go_sem, *]
  have F3 : W.cell? ⟨w.heap.size, a, none⟩ = some (.int .u32 ra) := by rw [hW]; simp [go_sem, *]
  have F4 : W.cell? ⟨w.heap.size + 1, 0, none⟩ = some (.int .i64 0) := by rw [hW]; simp [go_sem, *]
  have F5 : W.cell? ⟨w.heap.size + 1, 1, none⟩ = some (.int .i64 0) := by rw [hW]; simp [go_sem, *]
  have F6 : W.cell? ⟨w.heap.size + 1, 2, none⟩ = some (.int .u32 0) := by rw [hW]; simp [go_sem, *]
  have F7 : W.cell? ⟨w.heap.size + 1, 3, none⟩ = some (.int .u32 0) := by rw [hW]; simp [go_sem, *]
  have G0 : W.frozen? ⟨w.heap.size + 1, 0, none⟩ = false := by rw [hW]; simp [go_sem, *]
  have G1 : W.frozen? ⟨w.heap.size + 1, 1, none⟩ = false := by rw [hW]; simp [go_sem, *]
  have G2 : W.frozen? ⟨w.heap.size + 1, 2, none⟩ = false := by rw [hW]; simp [go_sem, *]
  have G3 : W.frozen? ⟨w.heap.size + 1, 3, none⟩ = false := by rw [hW]; simp [go_sem, *]
  have HBW : Hid (Below w.heap.size w W) := by rw [hW]; exact (HB.out.alloc HB.out.size _).drew
  clear hW z0 z1 z2 z3 g0 g1 g2 g3 HB x0 x1 x2 x3 x4 q8
  simp only [List.take_succ_cons, List.take_zero, List.drop_succ_cons, List.drop_zero]
  iterate 6 still_step
  still_call (place_still rb words W h0b h1b hw)
  repeat still_step
  refine wpStill_nil ?_
  go_wp2
  refine bodyPost_ret (v := .agg #[.int .i64 2, .int .i64 (placeN rb words), .int .u32 ra, .int .u32 0]) (by simp [results, Try.results23, go_sem, F4, F5, F6, F7]) rfl ⟨rfl, ?_⟩
  exact (((HBW.out.setCell (Nat.le_succ _) _).setCell (Nat.le_succ _) _).setCell (Nat.le_succ _) _).setCell (Nat.le_succ _) _

set_option maxHeartbeats 1000000 in
theorem wants_trade (b off len cap n : Nat) (l : List I5) (a bb cc : Nat) (k ra rb rc : Int) (r0 r1 r2 r3 r4 r5 r6 r7 : Int) (words : Int) (w : World) (hl : l.length = len) (hp : Prg w (some ⟨b, off, none⟩) l) (hv : ∀ r : Nat → Int, coreB l ⟨r, n, false⟩ = true) (hn : n < len) (hlen : len ≤ 64)
    (hlt : b < w.heap.size) (hx : Lies w b (off + n * 5) ⟨11, a, bb, cc, k⟩) (ha : a < 8) (hra : (#[.int .u32 r0, .int .u32 r1, .int .u32 r2, .int .u32 r3, .int .u32 r4, .int .u32 r5, .int .u32 r6, .int .u32 r7, .int .i64 n, .bool false] : Array Value)[a]? = some (.int .u32 ra)) (h0a : 0 ≤ ra) (h1a : ra ≤ 4294967295) (hb : bb < 8) (hrb : (#[.int .u32 r0, .int .u32 r1, .int .u32 r2, .int .u32 r3, .int .u32 r4, .int .u32 r5, .int .u32 r6, .int .u32 r7, .int .i64 n, .bool false] : Array Value)[bb]? = some (.int .u32 rb)) (h0b : 0 ≤ rb) (h1b : rb ≤ 4294967295) (hc : cc < 8) (hrc : (#[.int .u32 r0, .int .u32 r1, .int .u32 r2, .int .u32 r3, .int .u32 r4, .int .u32 r5, .int .u32 r6, .int .u32 r7, .int .i64 n, .bool false] : Array Value)[cc]? = some (.int .u32 rc)) (h0c : 0 ≤ rc) (h1c : rc ≤ 4294967295) (hw : words ≤ 9223372036854775807) :
    Calls Try.prog 23 #[.slice (some ⟨b, off, none⟩) len cap, .agg #[.int .u32 r0, .int .u32 r1, .int .u32 r2, .int .u32 r3, .int .u32 r4, .int .u32 r5, .int .u32 r6, .int .u32 r7, .int .i64 n, .bool false], .int .i64 words] w fun e w' => e = .returned (.agg #[.int .i64 3, .int .i64 (placeN rb words), .int .u32 rc, .int .u32 ra]) ∧ Below w.heap.size w w' := by
  have HL := Lib.hid hl
  have HP := Lib.hid hp
  have HV := Lib.hid (hv (fun i => ([r0, r1, r2, r3, r4, r5, r6, r7] : List Int).getD i 0))
  have HX := Lib.hid hx
  clear hl hp hv hx
  go_enter Try.func23, Try.ntmps23
  go_wp2_with fail
  refine (core_call (some ⟨b, off, none⟩) len cap l ⟨fun i => ([r0, r1, r2, r3, r4, r5, r6, r7] : List Int).getD i 0, n, false⟩ true w _ HL HV HP (((Below.refl _ _).alloc (Nat.le_refl _) _).alloc (by simp) _)).mono ?_
  rintro e w1 ⟨rfl, hb1⟩
  obtain ⟨c1, c2, f1, f2, s1, s2, hbb⟩ := two_boxes hb1
  obtain ⟨x0, x1, x2, x3, x4, _, _⟩ := HX.out.below hbb hlt
  have HB := Lib.hid hbb
  have q8 : w1.cell? ⟨w.heap.size, 8, none⟩ = some (.int .i64 n) := c1 8
  have qa : w1.cell? ⟨w.heap.size, a, none⟩ = some (.int .u32 ra) := (c1 a).trans hra
  have qb : w1.cell? ⟨w.heap.size, bb, none⟩ = some (.int .u32 rb) := (c1 bb).trans hrb
  have qc : w1.cell? ⟨w.heap.size, cc, none⟩ = some (.int .u32 rc) := (c1 cc).trans hrc
  have z0 : w1.cell? ⟨w.heap.size + 1, 0, none⟩ = some (.int .i64 0) := c2 0
  have z1 : w1.cell? ⟨w.heap.size + 1, 1, none⟩ = some (.int .i64 0) := c2 1
  have z2 : w1.cell? ⟨w.heap.size + 1, 2, none⟩ = some (.int .u32 0) := c2 2
  have z3 : w1.cell? ⟨w.heap.size + 1, 3, none⟩ = some (.int .u32 0) := c2 3
  have g0 := f2 0
  have g1 := f2 1
  have g2 := f2 2
  have g3 := f2 3
  clear hb1 hbb c1 f1 c2 f2 HX HL HP HV
  clear hrb hra hrc
  have ia0 : (0 : Int) ≤ (a : Int) := by omega
  have ia1 : (a : Int) < 8 := by omega
  have ib0 : (0 : Int) ≤ (bb : Int) := by omega
  have ib1 : (bb : Int) < 8 := by omega
  have ic0 : (0 : Int) ≤ (cc : Int) := by omega
  have ic1 : (cc : Int) < 8 := by omega
  go_wp2_with fail
  refine region_tail 18 (by kernel_rfl) (by kernel_rfl) (fun W hW => ?_)
  have F0 : W.cell? ⟨w1.heap.size, 2, none⟩ = some (.int .i64 bb) := by rw [hW]; simp [go_sem, *]
  have F1 : W.cell? ⟨w.heap.size, bb, none⟩ = some (.int .u32 rb) := by rw [hW]; simp [go_sem, *]
  have F2 : W.cell? ⟨w1.heap.size, 1, none⟩ = some (.int .i64 a) := by rw [hW]; simp [go_sem, *]
  have F3 : W.cell? ⟨w.heap.size, a, none⟩ = some (.int .u32 ra) := by rw [hW]; simp [go_sem, *]
  have F4 : W.cell? ⟨w1.heap.size, 3, none⟩ = some (.int .i64 cc) := by rw [hW]; simp [go_sem, *]
  have F5 : W.cell? ⟨w.heap.size, cc, none⟩ = some (.int .u32 rc) := by rw [hW]; simp [go_sem, *]
  have F6 : W.cell? ⟨w.heap.size + 1, 0, none⟩ = some (.int .i64 0) := by rw [hW]; simp [go_sem, *]
  have F7 : W.cell? ⟨w.heap.size + 1, 1, none⟩ = some (.int .i64 0) := by rw [hW]; simp [go_sem, *]
  have F8 : W.cell? ⟨w.heap.size + 1, 2, none⟩ = some (.int .u32 0) := by rw [hW]; simp [go_sem, *]
  have F9 : W.cell? ⟨w.heap.size + 1, 3, none⟩ = some (.int .u32 0) := by rw [hW]; simp [go_sem, *]
  have G0 : W.frozen? ⟨w.heap.size + 1, 0, none⟩ = false := by rw [hW]; simp [go_sem, *]
  have G1 : W.frozen? ⟨w.heap.size + 1, 1, none⟩ = false := by rw [hW]; simp [go_sem, *]
  have G2 : W.frozen? ⟨w.heap.size + 1, 2, none⟩ = false := by rw [hW]; simp [go_sem, *]
  have G3 : W.frozen? ⟨w.heap.size + 1, 3, none⟩ = false := by rw [hW]; simp [go_sem, *]
  have HBW : Hid (Below w.heap.size w W) := by rw [hW]; exact (HB.out.alloc HB.out.size _).drew
  clear hW z0 z1 z2 z3 g0 g1 g2 g3 HB x0 x1 x2 x3 x4 q8
  simp only [List.take_succ_cons, List.take_zero, List.drop_succ_cons, List.drop_zero]
  iterate 6 still_step
  still_call (place_still rb words W h0b h1b hw)
  repeat still_step
  refine wpStill_nil ?_
  go_wp2
  refine bodyPost_ret (v := .agg #[.int .i64 3, .int .i64 (placeN rb words), .int .u32 rc, .int .u32 ra]) (by simp [results, Try.results23, go_sem, F6, F7, F8, F9]) rfl ⟨rfl, ?_⟩
  exact (((HBW.out.setCell (Nat.le_succ _) _).setCell (Nat.le_succ _) _).setCell (Nat.le_succ _) _).setCell (Nat.le_succ _) _


theorem ret_want {a b : Wnt} (h : a = b) : Ending.returned (.agg a.row) = .returned (.agg b.row) := by rw [h]

theorem wants_any (p : Option Addr) (cap : Nat) (l : List I5) (c : Cor) (words : Int) (w : World) (hp : Prg w p l) (hc : c.Fits) (hw : words ≤ 9223372036854775807) :
    Calls Try.prog 23 #[.slice p l.length cap, .agg c.row, .int .i64 words] w fun e w' => e = .returned (.agg (wantOf l c words).row) ∧ Below w.heap.size w w' := by
  obtain ⟨r, pc, h⟩ := c
  cases h with
  | true =>
    refine (wants_halted p _ cap _ _ _ _ _ _ _ _ _ words w).mono fun e w' he => ⟨he.1.trans (ret_want (a := ⟨5, 0, 0, 0⟩) ?_), he.2⟩
    unfold wantOf; rfl
  | false =>
    cases hr : coreB l ⟨r, pc, false⟩ with
    | false =>
      refine (wants_wrong p _ cap l _ _ _ _ _ _ _ _ pc words w rfl hp (fun r' => hr)).mono fun e w' he => ⟨he.1.trans (ret_want (a := ⟨5, 0, 0, 0⟩) ?_), he.2⟩
      unfold wantOf; rw [hr]; rfl
    | true =>
      obtain ⟨h0, h1, h2⟩ := core_has hr
      simp only at h0 h1
      obtain ⟨n, rfl⟩ := Int.eq_ofNat_of_zero_le h0
      have hlen := right_has h2
      obtain ⟨b, off, hlt, rfl, hx⟩ := hp (by omega)
      have hn : n < l.length := by omega
      have hxn := hx n hn
      have hm := may_regs (core_ins hr)
      have hins : insAt l ⟨r, n, false⟩ = at5 l n := rfl
      have hv : ∀ r' : Nat → Int, coreB l ⟨r', n, false⟩ = true := fun r' => hr
      have hW : wantOf l ⟨r, n, false⟩ words = wantX (at5 l n) ⟨r, n, false⟩ words := by unfold wantOf; rw [hr]; rfl
      rw [hins] at hm
      rw [hW]
      obtain ⟨op, a, bb, cc, k, hat⟩ : ∃ op a bb cc k, at5 l n = ⟨op, a, bb, cc, k⟩ := ⟨_, _, _, _, _, rfl⟩
      rw [hat] at hxn hm ⊢
      simp only at hm
      have hrow : ∀ i, i < 8 → (Cor.row ⟨r, n, false⟩)[i]? = some (.int .u32 (r i)) := fun i hi => Cor.row_at ⟨r, n, false⟩ i hi
      have f0 := hc.r0
      have f1 := hc.r1
      simp only at f0 f1
      by_cases o9 : op = 9
      · subst o9
        obtain ⟨nb, rfl⟩ := Int.eq_ofNat_of_zero_le hm.2.2.1
        have hb : nb < 8 := by omega
        exact (wants_read b off _ cap n l nb a cc k (r nb) _ _ _ _ _ _ _ _ words w rfl hp hv hn hlen.2.1 hlt hxn hb (hrow nb hb) (f0 nb hb) (f1 nb hb) hw).mono fun e w' he => ⟨he.1.trans (ret_want (a := ⟨1, placeN (r nb) words, 0, 0⟩) rfl), he.2⟩
      by_cases o10 : op = 10
      · subst o10
        obtain ⟨na, rfl⟩ := Int.eq_ofNat_of_zero_le hm.1
        obtain ⟨nb, rfl⟩ := Int.eq_ofNat_of_zero_le hm.2.2.1
        have ha : na < 8 := by omega
        have hb : nb < 8 := by omega
        exact (wants_write b off _ cap n l na nb cc k (r na) (r nb) _ _ _ _ _ _ _ _ words w rfl hp hv hn hlen.2.1 hlt hxn ha (hrow na ha) (f0 na ha) (f1 na ha) hb (hrow nb hb) (f0 nb hb) (f1 nb hb) hw).mono fun e w' he => ⟨he.1.trans (ret_want (a := ⟨2, placeN (r nb) words, r na, 0⟩) rfl), he.2⟩
      by_cases o11 : op = 11
      · subst o11
        obtain ⟨na, rfl⟩ := Int.eq_ofNat_of_zero_le hm.1
        obtain ⟨nb, rfl⟩ := Int.eq_ofNat_of_zero_le hm.2.2.1
        obtain ⟨nc, rfl⟩ := Int.eq_ofNat_of_zero_le hm.2.2.2.2.1
        have ha : na < 8 := by omega
        have hb : nb < 8 := by omega
        have hcc : nc < 8 := by omega
        exact (wants_trade b off _ cap n l na nb nc k (r na) (r nb) (r nc) _ _ _ _ _ _ _ _ words w rfl hp hv hn hlen.2.1 hlt hxn ha (hrow na ha) (f0 na ha) (f1 na ha) hb (hrow nb hb) (f0 nb hb) (f1 nb hb) hcc (hrow nc hcc) (f0 nc hcc) (f1 nc hcc) hw).mono fun e w' he => ⟨he.1.trans (ret_want (a := ⟨3, placeN (r nb) words, r nc, r na⟩) rfl), he.2⟩
      by_cases o15 : op = 15
      · subst o15
        obtain ⟨na, rfl⟩ := Int.eq_ofNat_of_zero_le hm.1
        have ha : na < 8 := by omega
        exact (wants_tell b off _ cap n l na bb cc k (r na) _ _ _ _ _ _ _ _ words w rfl hp hv hn hlen.2.1 hlt hxn ha (hrow na ha) (f0 na ha) (f1 na ha)).mono fun e w' he => ⟨he.1.trans (ret_want (a := ⟨4, 0, r na, 0⟩) rfl), he.2⟩
      by_cases o16 : op = 16
      · subst o16
        exact (wants_rest b off _ cap n l a bb cc k _ _ _ _ _ _ _ _ words w rfl hp hv hn hlen.2.1 hlt hxn).mono fun e w' he => ⟨he.1.trans (ret_want (a := ⟨5, 0, 0, 0⟩) rfl), he.2⟩
      refine (wants_nothing b off _ cap n l op a bb cc k _ _ _ _ _ _ _ _ words w rfl hp hv hn hlen.2.1 hlt hxn (by simpa using o9) (by simpa using o10) (by simpa using o11) (by simpa using o15) (by simpa using o16)).mono fun e w' he => ⟨he.1.trans (ret_want (a := ⟨0, 0, 0, 0⟩) ?_), he.2⟩
      unfold wantX
      rw [if_neg o9, if_neg o10, if_neg o11, if_neg o15, if_neg o16]
end Go.Proofs.Ytekiialhljfglaa
/- What core.Done answers, for every program, core and word; it writes nothing that was there. -/
namespace Go.Proofs.Ytekiialhljfglaa
set_option linter.unusedVariables false
open Go.ChangeShapes Go.WideShapes Go.ChangeAt Go.RowKit

def zeroC : Cor := ⟨fun _ => 0, 0, false⟩

/-- A core in block B, an answer's room behind it, and nothing below B written since w. -/
structure CoreAt (w : World) (B : Nat) (c : Cor) (w' : World) : Prop where
  c : ∀ j, w'.cell? ⟨B, j, none⟩ = c.row[j]?
  z : ∀ j, w'.cell? ⟨B + 1, j, none⟩ = zeroC.row[j]?
  f : ∀ j, w'.frozen? ⟨B, j, none⟩ = false
  g : ∀ j, w'.frozen? ⟨B + 1, j, none⟩ = false
  s : B + 1 < w'.heap.size
  b : Below B w w'

theorem CoreAt.below {w w' w2 : World} {B : Nat} {c : Cor} (h : CoreAt w B c w') (hb : Below w'.heap.size w' w2) : CoreAt w B c w2 := by
  have hs := h.s
  have hsz := hb.size
  refine ⟨fun j => ?_, fun j => ?_, fun j => ?_, fun j => ?_, by omega, h.b.trans (hb.mono (by omega))⟩
  · rw [hb.cell (p := ⟨B, j, none⟩) (by show B < _; omega)]; exact h.c j
  · rw [hb.cell (p := ⟨B + 1, j, none⟩) (by show B + 1 < _; omega)]; exact h.z j
  · rw [hb.frozen (p := ⟨B, j, none⟩) (by show B < _; omega)]; exact h.f j
  · rw [hb.frozen (p := ⟨B + 1, j, none⟩) (by show B + 1 < _; omega)]; exact h.g j
theorem CoreAt.set {w w' : World} {B : Nat} {c c' : Cor} {n : Nat} {v : Value} (h : CoreAt w B c w') (hn : n < 10) (he : ∀ j, j ≠ n → c'.row[j]? = c.row[j]?) (hv : c'.row[n]? = some v) : CoreAt w B c' (w'.setCell ⟨B, n, none⟩ v) := by
  refine ⟨fun j => ?_, fun j => ?_, fun j => by simpa using h.f j, fun j => by simpa using h.g j, by simpa using h.s, h.b.setCell (Nat.le_refl _) _⟩
  · by_cases hj : j = n
    · subst hj
      obtain ⟨u, hu⟩ : ∃ u, c.row[j]? = some u := ⟨_, Array.getElem?_eq_getElem (show j < c.row.size from hn)⟩
      rw [hv]
      exact World.cell?_setCell_same _ _ _ ((h.c j).trans hu)
    · rw [he j hj, World.cell?_setCell_other _ _ _ _ (by intro e; injection e with _ e2; exact hj e2.symm)]
      exact h.c j
  · rw [World.cell?_setCell_other _ _ _ _ (by intro e; injection e with e1; omega)]
    exact h.z j

/-- Sixteen facts that a walk needs, out of one. -/
theorem CoreAt.new (w : World) (c : Cor) : CoreAt w w.heap.size c ((w.alloc (.cells c.row 55)).alloc (.cells zeroC.row 55)) := by
  obtain ⟨a, b, d, e, f, g, h⟩ := two_boxes (w := w) (cs := c.row) (ds := zeroC.row) (t := 55) (u := 55) (Below.refl _ _)
  exact ⟨a, b, d, e, g, h⟩

theorem below10 {B N : Nat} {a w : World} (h : Below N a w) (hN : N ≤ B) (v0 v1 v2 v3 v4 v5 v6 v7 v8 v9 : Value) : Below N a ((((((((((w.setCell ⟨B, 0, none⟩ v0).setCell ⟨B, 1, none⟩ v1).setCell ⟨B, 2, none⟩ v2).setCell ⟨B, 3, none⟩ v3).setCell ⟨B, 4, none⟩ v4).setCell ⟨B, 5, none⟩ v5).setCell ⟨B, 6, none⟩ v6).setCell ⟨B, 7, none⟩ v7).setCell ⟨B, 8, none⟩ v8).setCell ⟨B, 9, none⟩ v9) :=
  (((((((((h.setCell hN _).setCell hN _).setCell hN _).setCell hN _).setCell hN _).setCell hN _).setCell hN _).setCell hN _).setCell hN _).setCell hN _

theorem done_halted (p : Option Addr) (len cap : Nat) (r : Nat → Int) (pc was : Int) (w : World) :
    Calls Try.prog 42 #[.slice p len cap, .agg #[.int .u32 (r 0), .int .u32 (r 1), .int .u32 (r 2), .int .u32 (r 3), .int .u32 (r 4), .int .u32 (r 5), .int .u32 (r 6), .int .u32 (r 7), .int .i64 pc, .bool true], .int .u32 was] w fun e w' => e = .returned (.agg #[.int .u32 (r 0), .int .u32 (r 1), .int .u32 (r 2), .int .u32 (r 3), .int .u32 (r 4), .int .u32 (r 5), .int .u32 (r 6), .int .u32 (r 7), .int .i64 pc, .bool true]) ∧ Below w.heap.size w w' := by
  go_enter Try.func42, Try.ntmps42
  go_wp2
  refine bodyPost_ret (v := .agg #[.int .u32 (r 0), .int .u32 (r 1), .int .u32 (r 2), .int .u32 (r 3), .int .u32 (r 4), .int .u32 (r 5), .int .u32 (r 6), .int .u32 (r 7), .int .i64 pc, .bool true]) (by simp [results, Try.results42, go_sem]) rfl ⟨rfl, ?_⟩
  exact ((Below.refl _ _).alloc (Nat.le_refl _) _).alloc (by simp) _

theorem done_wrong (p : Option Addr) (len cap : Nat) (l : List I5) (r : Nat → Int) (pc was : Int) (w : World) (hl : l.length = len) (hp : Prg w p l) (hv : coreB l ⟨r, pc, false⟩ = false) :
    Calls Try.prog 42 #[.slice p len cap, .agg #[.int .u32 (r 0), .int .u32 (r 1), .int .u32 (r 2), .int .u32 (r 3), .int .u32 (r 4), .int .u32 (r 5), .int .u32 (r 6), .int .u32 (r 7), .int .i64 pc, .bool false], .int .u32 was] w fun e w' => e = .returned (.agg #[.int .u32 (r 0), .int .u32 (r 1), .int .u32 (r 2), .int .u32 (r 3), .int .u32 (r 4), .int .u32 (r 5), .int .u32 (r 6), .int .u32 (r 7), .int .i64 pc, .bool false]) ∧ Below w.heap.size w w' := by
  have HL := Lib.hid hl
  have HP := Lib.hid hp
  have HV := Lib.hid hv
  clear hl hp hv
  go_enter Try.func42, Try.ntmps42
  go_wp2_with fail
  refine (core_call p len cap l ⟨r, pc, false⟩ false w _ HL HV HP (((Below.refl _ _).alloc (Nat.le_refl _) _).alloc (by simp) _)).mono ?_
  rintro e w1 ⟨rfl, hb1⟩
  have HC : Hid (CoreAt w w.heap.size ⟨r, pc, false⟩ w1) := (CoreAt.new w ⟨r, pc, false⟩).below hb1
  clear hb1
  have c0 : w1.cell? ⟨w.heap.size, 0, none⟩ = some (.int .u32 (r 0)) := HC.out.c 0
  have c1 : w1.cell? ⟨w.heap.size, 1, none⟩ = some (.int .u32 (r 1)) := HC.out.c 1
  have c2 : w1.cell? ⟨w.heap.size, 2, none⟩ = some (.int .u32 (r 2)) := HC.out.c 2
  have c3 : w1.cell? ⟨w.heap.size, 3, none⟩ = some (.int .u32 (r 3)) := HC.out.c 3
  have c4 : w1.cell? ⟨w.heap.size, 4, none⟩ = some (.int .u32 (r 4)) := HC.out.c 4
  have c5 : w1.cell? ⟨w.heap.size, 5, none⟩ = some (.int .u32 (r 5)) := HC.out.c 5
  have c6 : w1.cell? ⟨w.heap.size, 6, none⟩ = some (.int .u32 (r 6)) := HC.out.c 6
  have c7 : w1.cell? ⟨w.heap.size, 7, none⟩ = some (.int .u32 (r 7)) := HC.out.c 7
  have c8 : w1.cell? ⟨w.heap.size, 8, none⟩ = some (.int .i64 pc) := HC.out.c 8
  have c9 : w1.cell? ⟨w.heap.size, 9, none⟩ = some (.bool false) := HC.out.c 9
  have z0 : w1.cell? ⟨w.heap.size + 1, 0, none⟩ = some (.int .u32 0) := HC.out.z 0
  have g0 : w1.frozen? ⟨w.heap.size + 1, 0, none⟩ = false := HC.out.g 0
  have z1 : w1.cell? ⟨w.heap.size + 1, 1, none⟩ = some (.int .u32 0) := HC.out.z 1
  have g1 : w1.frozen? ⟨w.heap.size + 1, 1, none⟩ = false := HC.out.g 1
  have z2 : w1.cell? ⟨w.heap.size + 1, 2, none⟩ = some (.int .u32 0) := HC.out.z 2
  have g2 : w1.frozen? ⟨w.heap.size + 1, 2, none⟩ = false := HC.out.g 2
  have z3 : w1.cell? ⟨w.heap.size + 1, 3, none⟩ = some (.int .u32 0) := HC.out.z 3
  have g3 : w1.frozen? ⟨w.heap.size + 1, 3, none⟩ = false := HC.out.g 3
  have z4 : w1.cell? ⟨w.heap.size + 1, 4, none⟩ = some (.int .u32 0) := HC.out.z 4
  have g4 : w1.frozen? ⟨w.heap.size + 1, 4, none⟩ = false := HC.out.g 4
  have z5 : w1.cell? ⟨w.heap.size + 1, 5, none⟩ = some (.int .u32 0) := HC.out.z 5
  have g5 : w1.frozen? ⟨w.heap.size + 1, 5, none⟩ = false := HC.out.g 5
  have z6 : w1.cell? ⟨w.heap.size + 1, 6, none⟩ = some (.int .u32 0) := HC.out.z 6
  have g6 : w1.frozen? ⟨w.heap.size + 1, 6, none⟩ = false := HC.out.g 6
  have z7 : w1.cell? ⟨w.heap.size + 1, 7, none⟩ = some (.int .u32 0) := HC.out.z 7
  have g7 : w1.frozen? ⟨w.heap.size + 1, 7, none⟩ = false := HC.out.g 7
  have z8 : w1.cell? ⟨w.heap.size + 1, 8, none⟩ = some (.int .i64 0) := HC.out.z 8
  have g8 : w1.frozen? ⟨w.heap.size + 1, 8, none⟩ = false := HC.out.g 8
  have z9 : w1.cell? ⟨w.heap.size + 1, 9, none⟩ = some (.bool false) := HC.out.z 9
  have g9 : w1.frozen? ⟨w.heap.size + 1, 9, none⟩ = false := HC.out.g 9
  have s2 : w.heap.size + 1 < w1.heap.size := HC.out.s
  have s1 : w.heap.size < w1.heap.size := Nat.lt_of_succ_lt s2
  go_wp2
  refine bodyPost_ret (v := .agg #[.int .u32 (r 0), .int .u32 (r 1), .int .u32 (r 2), .int .u32 (r 3), .int .u32 (r 4), .int .u32 (r 5), .int .u32 (r 6), .int .u32 (r 7), .int .i64 pc, .bool false]) (by simp [results, Try.results42, go_sem, z0, z1, z2, z3, z4, z5, z6, z7, z8, z9]) rfl ⟨rfl, ?_⟩
  exact below10 HC.out.b (Nat.le_succ _) _ _ _ _ _ _ _ _ _ _
end Go.Proofs.Ytekiialhljfglaa
