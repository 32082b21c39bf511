/- What core.Wants answers of Store and Swap; it writes nothing that was there. -/
import Derived.Test.YtdebkncjmbhneaaCoreC
namespace Go.Proofs.Ytdebkncjmbhneaa
set_option linter.unusedVariables false
open Go.ChangeShapes Go.WideShapes Go.ChangeAt Go.RowKit

/-- A region that draws, whose first n operations only read, and whose others come one behind the other: the world under a name of its own. -/
theorem region_tail {P : Program} {id : Nat} {Q : Exit → Act → World → Prop} {a : Act} {w : World} {l : List Oper} (n : Nat) (hm : P.follows .mixedOrders = true) (hB : Region.lexTailB .any l.toArray n = true)
    (h : ∀ W : World, W = w.drew → wpStill P l.toArray W (fun a' => wpList P l.toArray Q (l.drop n) a' W) (l.take n) a) : (Code.region id l.toArray true).wp P Q a w :=
  wp_region_still_tail n hm hB (h _ rfl)
theorem place_still (n k : Int) (w : World) (h0 : 0 ≤ n) (h1 : n ≤ 4294967295) (h3 : k ≤ 9223372036854775807) : Calls Try.prog 15 #[.int .u32 n, .int .i64 k] w fun e w' => e = .returned (.int .i64 (placeN n k)) ∧ w' = w :=
  (place_any n k w h0 h1 h3).mono fun e w' he => ⟨he.1, he.2.symm⟩

set_option maxHeartbeats 1000000 in
theorem wants_write (b off len cap n : Nat) (l : List I5) (a bb : Nat) (cc k ra rb : Int) (r0 r1 r2 r3 r4 r5 r6 r7 : Int) (words : Int) (w : World) (hl : l.length = len) (hp : Prg w (some ⟨b, off, none⟩) l) (hv : ∀ r : Nat → Int, coreB l ⟨r, n, false⟩ = true) (hn : n < len) (hlen : len ≤ 64)
    (hlt : b < w.heap.size) (hx : Lies w b (off + n * 5) ⟨10, a, bb, cc, k⟩) (ha : a < 8) (hra : (#[.int .u32 r0, .int .u32 r1, .int .u32 r2, .int .u32 r3, .int .u32 r4, .int .u32 r5, .int .u32 r6, .int .u32 r7, .int .i64 n, .bool false] : Array Value)[a]? = some (.int .u32 ra)) (h0a : 0 ≤ ra) (h1a : ra ≤ 4294967295) (hb : bb < 8) (hrb : (#[.int .u32 r0, .int .u32 r1, .int .u32 r2, .int .u32 r3, .int .u32 r4, .int .u32 r5, .int .u32 r6, .int .u32 r7, .int .i64 n, .bool false] : Array Value)[bb]? = some (.int .u32 rb)) (h0b : 0 ≤ rb) (h1b : rb ≤ 4294967295) (hw : words ≤ 9223372036854775807) :
    Calls Try.prog 9 #[.slice (some ⟨b, off, none⟩) len cap, .agg #[.int .u32 r0, .int .u32 r1, .int .u32 r2, .int .u32 r3, .int .u32 r4, .int .u32 r5, .int .u32 r6, .int .u32 r7, .int .i64 n, .bool false], .int .i64 words] w fun e w' => e = .returned (.agg #[.int .i64 2, .int .i64 (placeN rb words), .int .u32 ra, .int .u32 0]) ∧ Below w.heap.size w w' := by
  have HL := Lib.hid hl
  have HP := Lib.hid hp
  have HV := Lib.hid (hv (fun i => ([r0, r1, r2, r3, r4, r5, r6, r7] : List Int).getD i 0))
  have HX := Lib.hid hx
  clear hl hp hv hx
  go_enter Try.func9, Try.ntmps9
  go_wp2_with fail
  refine (core_call (some ⟨b, off, none⟩) len cap l ⟨fun i => ([r0, r1, r2, r3, r4, r5, r6, r7] : List Int).getD i 0, n, false⟩ true w _ HL HV HP (((Below.refl _ _).alloc (Nat.le_refl _) _).alloc (by simp) _)).mono ?_
  rintro e w1 ⟨rfl, hb1⟩
  obtain ⟨c1, c2, f1, f2, s1, s2, hbb⟩ := two_boxes hb1
  obtain ⟨x0, x1, x2, x3, x4, _, _⟩ := HX.out.below hbb hlt
  have HB := Lib.hid hbb
  have q8 : w1.cell? ⟨w.heap.size, 8, none⟩ = some (.int .i64 n) := c1 8
  have qa : w1.cell? ⟨w.heap.size, a, none⟩ = some (.int .u32 ra) := (c1 a).trans hra
  have qb : w1.cell? ⟨w.heap.size, bb, none⟩ = some (.int .u32 rb) := (c1 bb).trans hrb
  have z0 : w1.cell? ⟨w.heap.size + 1, 0, none⟩ = some (.int .i64 0) := c2 0
  have z1 : w1.cell? ⟨w.heap.size + 1, 1, none⟩ = some (.int .i64 0) := c2 1
  have z2 : w1.cell? ⟨w.heap.size + 1, 2, none⟩ = some (.int .u32 0) := c2 2
  have z3 : w1.cell? ⟨w.heap.size + 1, 3, none⟩ = some (.int .u32 0) := c2 3
  have g0 := f2 0
  have g1 := f2 1
  have g2 := f2 2
  have g3 := f2 3
  clear hb1 hbb c1 f1 c2 f2 HX HL HP HV
  clear hrb hra
  have ia0 : (0 : Int) ≤ (a : Int) := by omega
  have ia1 : (a : Int) < 8 := by omega
  have ib0 : (0 : Int) ≤ (bb : Int) := by omega
  have ib1 : (bb : Int) < 8 := by omega
  go_wp2_with fail
  refine region_tail 13 (by kernel_rfl) (by kernel_rfl) (fun W hW => ?_)
  have F0 : W.cell? ⟨w1.heap.size, 2, none⟩ = some (.int .i64 bb) := by rw [hW]; simp [go_sem, *]
  have F1 : W.cell? ⟨w.heap.size, bb, none⟩ = some (.int .u32 rb) := by rw [hW]; simp [go_sem, *]
  have F2 : W.cell? ⟨w1.heap.size, 1, none⟩ = some (.int .i64 a) := by rw [hW]; simp [go_sem, *]
  have F3 : W.cell? ⟨w.heap.size, a, none⟩ = some (.int .u32 ra) := by rw [hW]; simp [go_sem, *]
  have F4 : W.cell? ⟨w.heap.size + 1, 0, none⟩ = some (.int .i64 0) := by rw [hW]; simp [go_sem, *]
  have F5 : W.cell? ⟨w.heap.size + 1, 1, none⟩ = some (.int .i64 0) := by rw [hW]; simp [go_sem, *]
  have F6 : W.cell? ⟨w.heap.size + 1, 2, none⟩ = some (.int .u32 0) := by rw [hW]; simp [go_sem, *]
  have F7 : W.cell? ⟨w.heap.size + 1, 3, none⟩ = some (.int .u32 0) := by rw [hW]; simp [go_sem, *]
  have G0 : W.frozen? ⟨w.heap.size + 1, 0, none⟩ = false := by rw [hW]; simp [go_sem, *]
  have G1 : W.frozen? ⟨w.heap.size + 1, 1, none⟩ = false := by rw [hW]; simp [go_sem, *]
  have G2 : W.frozen? ⟨w.heap.size + 1, 2, none⟩ = false := by rw [hW]; simp [go_sem, *]
  have G3 : W.frozen? ⟨w.heap.size + 1, 3, none⟩ = false := by rw [hW]; simp [go_sem, *]
  have HBW : Hid (Below w.heap.size w W) := by rw [hW]; exact (HB.out.alloc HB.out.size _).drew
  clear hW z0 z1 z2 z3 g0 g1 g2 g3 HB x0 x1 x2 x3 x4 q8
  simp only [List.take_succ_cons, List.take_zero, List.drop_succ_cons, List.drop_zero]
  iterate 6 still_step
  still_call (place_still rb words W h0b h1b hw)
  repeat still_step
  refine wpStill_nil ?_
  go_wp2
  refine bodyPost_ret (v := .agg #[.int .i64 2, .int .i64 (placeN rb words), .int .u32 ra, .int .u32 0]) (by simp [results, Try.results9, go_sem, F4, F5, F6, F7]) rfl ⟨rfl, ?_⟩
  exact (((HBW.out.setCell (Nat.le_succ _) _).setCell (Nat.le_succ _) _).setCell (Nat.le_succ _) _).setCell (Nat.le_succ _) _

set_option maxHeartbeats 1000000 in
theorem wants_trade (b off len cap n : Nat) (l : List I5) (a bb cc : Nat) (k ra rb rc : Int) (r0 r1 r2 r3 r4 r5 r6 r7 : Int) (words : Int) (w : World) (hl : l.length = len) (hp : Prg w (some ⟨b, off, none⟩) l) (hv : ∀ r : Nat → Int, coreB l ⟨r, n, false⟩ = true) (hn : n < len) (hlen : len ≤ 64)
    (hlt : b < w.heap.size) (hx : Lies w b (off + n * 5) ⟨11, a, bb, cc, k⟩) (ha : a < 8) (hra : (#[.int .u32 r0, .int .u32 r1, .int .u32 r2, .int .u32 r3, .int .u32 r4, .int .u32 r5, .int .u32 r6, .int .u32 r7, .int .i64 n, .bool false] : Array Value)[a]? = some (.int .u32 ra)) (h0a : 0 ≤ ra) (h1a : ra ≤ 4294967295) (hb : bb < 8) (hrb : (#[.int .u32 r0, .int .u32 r1, .int .u32 r2, .int .u32 r3, .int .u32 r4, .int .u32 r5, .int .u32 r6, .int .u32 r7, .int .i64 n, .bool false] : Array Value)[bb]? = some (.int .u32 rb)) (h0b : 0 ≤ rb) (h1b : rb ≤ 4294967295) (hc : cc < 8) (hrc : (#[.int .u32 r0, .int .u32 r1, .int .u32 r2, .int .u32 r3, .int .u32 r4, .int .u32 r5, .int .u32 r6, .int .u32 r7, .int .i64 n, .bool false] : Array Value)[cc]? = some (.int .u32 rc)) (h0c : 0 ≤ rc) (h1c : rc ≤ 4294967295) (hw : words ≤ 9223372036854775807) :
    Calls Try.prog 9 #[.slice (some ⟨b, off, none⟩) len cap, .agg #[.int .u32 r0, .int .u32 r1, .int .u32 r2, .int .u32 r3, .int .u32 r4, .int .u32 r5, .int .u32 r6, .int .u32 r7, .int .i64 n, .bool false], .int .i64 words] w fun e w' => e = .returned (.agg #[.int .i64 3, .int .i64 (placeN rb words), .int .u32 rc, .int .u32 ra]) ∧ Below w.heap.size w w' := by
  have HL := Lib.hid hl
  have HP := Lib.hid hp
  have HV := Lib.hid (hv (fun i => ([r0, r1, r2, r3, r4, r5, r6, r7] : List Int).getD i 0))
  have HX := Lib.hid hx
  clear hl hp hv hx
  go_enter Try.func9, Try.ntmps9
  go_wp2_with fail
  refine (core_call (some ⟨b, off, none⟩) len cap l ⟨fun i => ([r0, r1, r2, r3, r4, r5, r6, r7] : List Int).getD i 0, n, false⟩ true w _ HL HV HP (((Below.refl _ _).alloc (Nat.le_refl _) _).alloc (by simp) _)).mono ?_
  rintro e w1 ⟨rfl, hb1⟩
  obtain ⟨c1, c2, f1, f2, s1, s2, hbb⟩ := two_boxes hb1
  obtain ⟨x0, x1, x2, x3, x4, _, _⟩ := HX.out.below hbb hlt
  have HB := Lib.hid hbb
  have q8 : w1.cell? ⟨w.heap.size, 8, none⟩ = some (.int .i64 n) := c1 8
  have qa : w1.cell? ⟨w.heap.size, a, none⟩ = some (.int .u32 ra) := (c1 a).trans hra
  have qb : w1.cell? ⟨w.heap.size, bb, none⟩ = some (.int .u32 rb) := (c1 bb).trans hrb
  have qc : w1.cell? ⟨w.heap.size, cc, none⟩ = some (.int .u32 rc) := (c1 cc).trans hrc
  have z0 : w1.cell? ⟨w.heap.size + 1, 0, none⟩ = some (.int .i64 0) := c2 0
  have z1 : w1.cell? ⟨w.heap.size + 1, 1, none⟩ = some (.int .i64 0) := c2 1
  have z2 : w1.cell? ⟨w.heap.size + 1, 2, none⟩ = some (.int .u32 0) := c2 2
  have z3 : w1.cell? ⟨w.heap.size + 1, 3, none⟩ = some (.int .u32 0) := c2 3
  have g0 := f2 0
  have g1 := f2 1
  have g2 := f2 2
  have g3 := f2 3
  clear hb1 hbb c1 f1 c2 f2 HX HL HP HV
  clear hrb hra hrc
  have ia0 : (0 : Int) ≤ (a : Int) := by omega
  have ia1 : (a : Int) < 8 := by omega
  have ib0 : (0 : Int) ≤ (bb : Int) := by omega
  have ib1 : (bb : Int) < 8 := by omega
  have ic0 : (0 : Int) ≤ (cc : Int) := by omega
  have ic1 : (cc : Int) < 8 := by omega
  go_wp2_with fail
  refine region_tail 18 (by kernel_rfl) (by kernel_rfl) (fun W hW => ?_)
  have F0 : W.cell? ⟨w1.heap.size, 2, none⟩ = some (.int .i64 bb) := by rw [hW]; simp [go_sem, *]
  have F1 : W.cell? ⟨w.heap.size, bb, none⟩ = some (.int .u32 rb) := by rw [hW]; simp [go_sem, *]
  have F2 : W.cell? ⟨w1.heap.size, 1, none⟩ = some (.int .i64 a) := by rw [hW]; simp [go_sem, *]
  have F3 : W.cell? ⟨w.heap.size, a, none⟩ = some (.int .u32 ra) := by rw [hW]; simp [go_sem, *]
  have F4 : W.cell? ⟨w1.heap.size, 3, none⟩ = some (.int .i64 cc) := by rw [hW]; simp [go_sem, *]
  have F5 : W.cell? ⟨w.heap.size, cc, none⟩ = some (.int .u32 rc) := by rw [hW]; simp [go_sem, *]
  have F6 : W.cell? ⟨w.heap.size + 1, 0, none⟩ = some (.int .i64 0) := by rw [hW]; simp [go_sem, *]
  have F7 : W.cell? ⟨w.heap.size + 1, 1, none⟩ = some (.int .i64 0) := by rw [hW]; simp [go_sem, *]
  have F8 : W.cell? ⟨w.heap.size + 1, 2, none⟩ = some (.int .u32 0) := by rw [hW]; simp [go_sem, *]
  have F9 : W.cell? ⟨w.heap.size + 1, 3, none⟩ = some (.int .u32 0) := by rw [hW]; simp [go_sem, *]
  have G0 : W.frozen? ⟨w.heap.size + 1, 0, none⟩ = false := by rw [hW]; simp [go_sem, *]
  have G1 : W.frozen? ⟨w.heap.size + 1, 1, none⟩ = false := by rw [hW]; simp [go_sem, *]
  have G2 : W.frozen? ⟨w.heap.size + 1, 2, none⟩ = false := by rw [hW]; simp [go_sem, *]
  have G3 : W.frozen? ⟨w.heap.size + 1, 3, none⟩ = false := by rw [hW]; simp [go_sem, *]
  have HBW : Hid (Below w.heap.size w W) := by rw [hW]; exact (HB.out.alloc HB.out.size _).drew
  clear hW z0 z1 z2 z3 g0 g1 g2 g3 HB x0 x1 x2 x3 x4 q8
  simp only [List.take_succ_cons, List.take_zero, List.drop_succ_cons, List.drop_zero]
  iterate 6 still_step
  still_call (place_still rb words W h0b h1b hw)
  repeat still_step
  refine wpStill_nil ?_
  go_wp2
  refine bodyPost_ret (v := .agg #[.int .i64 3, .int .i64 (placeN rb words), .int .u32 rc, .int .u32 ra]) (by simp [results, Try.results9, go_sem, F6, F7, F8, F9]) rfl ⟨rfl, ?_⟩
  exact (((HBW.out.setCell (Nat.le_succ _) _).setCell (Nat.le_succ _) _).setCell (Nat.le_succ _) _).setCell (Nat.le_succ _) _


theorem ret_want {a b : Wnt} (h : a = b) : Ending.returned (.agg a.row) = .returned (.agg b.row) := by rw [h]

theorem wants_any (p : Option Addr) (cap : Nat) (l : List I5) (c : Cor) (words : Int) (w : World) (hp : Prg w p l) (hc : c.Fits) (hw : words ≤ 9223372036854775807) :
    Calls Try.prog 9 #[.slice p l.length cap, .agg c.row, .int .i64 words] w fun e w' => e = .returned (.agg (wantOf l c words).row) ∧ Below w.heap.size w w' := by
  obtain ⟨r, pc, h⟩ := c
  cases h with
  | true =>
    refine (wants_halted p _ cap _ _ _ _ _ _ _ _ _ words w).mono fun e w' he => ⟨he.1.trans (ret_want (a := ⟨5, 0, 0, 0⟩) ?_), he.2⟩
    unfold wantOf; rfl
  | false =>
    cases hr : coreB l ⟨r, pc, false⟩ with
    | false =>
      refine (wants_wrong p _ cap l _ _ _ _ _ _ _ _ pc words w rfl hp (fun r' => hr)).mono fun e w' he => ⟨he.1.trans (ret_want (a := ⟨5, 0, 0, 0⟩) ?_), he.2⟩
      unfold wantOf; rw [hr]; rfl
    | true =>
      obtain ⟨h0, h1, h2⟩ := core_has hr
      simp only at h0 h1
      obtain ⟨n, rfl⟩ := Int.eq_ofNat_of_zero_le h0
      have hlen := right_has h2
      obtain ⟨b, off, hlt, rfl, hx⟩ := hp (by omega)
      have hn : n < l.length := by omega
      have hxn := hx n hn
      have hm := may_regs (core_ins hr)
      have hins : insAt l ⟨r, n, false⟩ = at5 l n := rfl
      have hv : ∀ r' : Nat → Int, coreB l ⟨r', n, false⟩ = true := fun r' => hr
      have hW : wantOf l ⟨r, n, false⟩ words = wantX (at5 l n) ⟨r, n, false⟩ words := by unfold wantOf; rw [hr]; rfl
      rw [hins] at hm
      rw [hW]
      obtain ⟨op, a, bb, cc, k, hat⟩ : ∃ op a bb cc k, at5 l n = ⟨op, a, bb, cc, k⟩ := ⟨_, _, _, _, _, rfl⟩
      rw [hat] at hxn hm ⊢
      simp only at hm
      have hrow : ∀ i, i < 8 → (Cor.row ⟨r, n, false⟩)[i]? = some (.int .u32 (r i)) := fun i hi => Cor.row_at ⟨r, n, false⟩ i hi
      have f0 := hc.r0
      have f1 := hc.r1
      simp only at f0 f1
      by_cases o9 : op = 9
      · subst o9
        obtain ⟨nb, rfl⟩ := Int.eq_ofNat_of_zero_le hm.2.2.1
        have hb : nb < 8 := by omega
        exact (wants_read b off _ cap n l nb a cc k (r nb) _ _ _ _ _ _ _ _ words w rfl hp hv hn hlen.2.1 hlt hxn hb (hrow nb hb) (f0 nb hb) (f1 nb hb) hw).mono fun e w' he => ⟨he.1.trans (ret_want (a := ⟨1, placeN (r nb) words, 0, 0⟩) rfl), he.2⟩
      by_cases o10 : op = 10
      · subst o10
        obtain ⟨na, rfl⟩ := Int.eq_ofNat_of_zero_le hm.1
        obtain ⟨nb, rfl⟩ := Int.eq_ofNat_of_zero_le hm.2.2.1
        have ha : na < 8 := by omega
        have hb : nb < 8 := by omega
        exact (wants_write b off _ cap n l na nb cc k (r na) (r nb) _ _ _ _ _ _ _ _ words w rfl hp hv hn hlen.2.1 hlt hxn ha (hrow na ha) (f0 na ha) (f1 na ha) hb (hrow nb hb) (f0 nb hb) (f1 nb hb) hw).mono fun e w' he => ⟨he.1.trans (ret_want (a := ⟨2, placeN (r nb) words, r na, 0⟩) rfl), he.2⟩
      by_cases o11 : op = 11
      · subst o11
        obtain ⟨na, rfl⟩ := Int.eq_ofNat_of_zero_le hm.1
        obtain ⟨nb, rfl⟩ := Int.eq_ofNat_of_zero_le hm.2.2.1
        obtain ⟨nc, rfl⟩ := Int.eq_ofNat_of_zero_le hm.2.2.2.2.1
        have ha : na < 8 := by omega
        have hb : nb < 8 := by omega
        have hcc : nc < 8 := by omega
        exact (wants_trade b off _ cap n l na nb nc k (r na) (r nb) (r nc) _ _ _ _ _ _ _ _ words w rfl hp hv hn hlen.2.1 hlt hxn ha (hrow na ha) (f0 na ha) (f1 na ha) hb (hrow nb hb) (f0 nb hb) (f1 nb hb) hcc (hrow nc hcc) (f0 nc hcc) (f1 nc hcc) hw).mono fun e w' he => ⟨he.1.trans (ret_want (a := ⟨3, placeN (r nb) words, r nc, r na⟩) rfl), he.2⟩
      by_cases o15 : op = 15
      · subst o15
        obtain ⟨na, rfl⟩ := Int.eq_ofNat_of_zero_le hm.1
        have ha : na < 8 := by omega
        exact (wants_tell b off _ cap n l na bb cc k (r na) _ _ _ _ _ _ _ _ words w rfl hp hv hn hlen.2.1 hlt hxn ha (hrow na ha) (f0 na ha) (f1 na ha)).mono fun e w' he => ⟨he.1.trans (ret_want (a := ⟨4, 0, r na, 0⟩) rfl), he.2⟩
      by_cases o16 : op = 16
      · subst o16
        exact (wants_rest b off _ cap n l a bb cc k _ _ _ _ _ _ _ _ words w rfl hp hv hn hlen.2.1 hlt hxn).mono fun e w' he => ⟨he.1.trans (ret_want (a := ⟨5, 0, 0, 0⟩) rfl), he.2⟩
      refine (wants_nothing b off _ cap n l op a bb cc k _ _ _ _ _ _ _ _ words w rfl hp hv hn hlen.2.1 hlt hxn (by simpa using o9) (by simpa using o10) (by simpa using o11) (by simpa using o15) (by simpa using o16)).mono fun e w' he => ⟨he.1.trans (ret_want (a := ⟨0, 0, 0, 0⟩) ?_), he.2⟩
      unfold wantX
      rw [if_neg o9, if_neg o10, if_neg o11, if_neg o15, if_neg o16]
end Go.Proofs.Ytdebkncjmbhneaa
