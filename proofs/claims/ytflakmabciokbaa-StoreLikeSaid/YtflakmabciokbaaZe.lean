/- Laid together, in this order: ParP, ParQ, ParR, ParS, ParT, ParU, ParV, ParW, StA, StB. -/
import Derived.Test.YtflakmabciokbaaZd
set_option linter.unusedSimpArgs false
set_option linter.unusedVariables false
/- The document's own Read and Lose; no condition but that the banks read. -/
namespace Go.Proofs.Ytflakmabciokbaa
set_option linter.unusedVariables false
open Go.ChangeShapes Go.WideShapes Go.ChangeAt Go.RowKit

theorem hasW_split {B : Bk} {k a : Int} {m : Nat} (hm : B.par.length = m) : hasW B k a = (hasB B k && decide (0 ≤ a ∧ a < m)) := by unfold hasW; rw [hm]
set_option maxHeartbeats 1000000 in
theorem rread_any (p : Option Addr) (n c : Nat) (xs : List Value) (pp : Option Addr) (m cc : Nat) (B : Bk) (k a : Int) (w : World) (h : Bn w p n c xs pp m cc B) :
    Calls Try.prog 56 #[.agg #[.slice p n c, .slice pp m cc, .int .i64 B.lost], .int .i64 k, .int .i64 a] w fun e w' => e = .returned (.tuple #[.int .u32 (readN B k a : Nat), .int .i64 (readE B k a)]) ∧ Below w.heap.size w w' := by
  have hm := h.m100
  have hn := h.n100
  have HH := Lib.hid h
  have hri := fun w' hb => rhas_any p n c xs pp m cc B k w' (h.below hb)
  have hsp := hasW_split (k := k) (a := a) h.zm
  obtain ⟨r, hr⟩ : ∃ r, r = hasB B k := ⟨_, rfl⟩
  obtain ⟨z, hz⟩ : ∃ z, z = B.lost := ⟨_, rfl⟩
  rw [← hr] at hsp
  rw [← hr, ← hz] at hri
  rw [← hz]
  have HRI := Lib.hid hri
  have HR := Lib.hid hr
  have HZ := Lib.hid hz
  have HSP := Lib.hid hsp
  clear h hr hz hri hsp
  have HB0 : Hid (Below w.heap.size w (w.alloc (.cells #[.slice p n c, .slice pp m cc, .int .i64 z] 25))) := Lib.hid ((Below.refl _ _).alloc (Nat.le_refl _) _)
  have HNO : Hid (hasW B k a = false → readN B k a = 0 ∧ readE B k a = 1) := Lib.hid (fun e => by unfold readN readE; rw [e]; exact ⟨rfl, rfl⟩)
  cases r with
  | false =>
    obtain ⟨e1, e2⟩ := HNO.out (by rw [HSP.out]; rfl)
    rw [e1, e2]
    clear e1 e2
    go_enter Try.func56, Try.ntmps56
    go_wp2_with fail
    refine (HRI.out _ HB0.out).mono ?_
    rintro e w1 ⟨rfl, hb1⟩
    have HB1 : Hid (Below w.heap.size w w1) := Lib.hid (HB0.out.trans (hb1.mono HB0.out.size))
    clear hb1
    go_wp2_with fail
    go_ret2
    exact ⟨rfl, HB1.out⟩
  | true =>
    by_cases h0 : a < 0
    · obtain ⟨e1, e2⟩ := HNO.out (by rw [HSP.out, decide_eq_false (by omega)]; rfl)
      rw [e1, e2]
      have d0 : decide (a < 0) = true := decide_eq_true h0
      clear e1 e2 h0
      go_enter Try.func56, Try.ntmps56
      go_wp2_with fail
      refine (HRI.out _ HB0.out).mono ?_
      rintro e w1 ⟨rfl, hb1⟩
      have kc := (Blk.track1 hb1).c
      have HB1 : Hid (Below w.heap.size w w1) := Lib.hid (HB0.out.trans (hb1.mono HB0.out.size))
      clear hb1
      go_wp2_with fail
      go_ret2
      exact ⟨rfl, HB1.out⟩
    have d0 : decide (a < 0) = false := decide_eq_false h0
    by_cases h1 : (m : Int) ≤ a
    · obtain ⟨e1, e2⟩ := HNO.out (by rw [HSP.out, decide_eq_false (by omega)]; rfl)
      rw [e1, e2]
      have d1 : decide ((m : Int) ≤ a) = true := decide_eq_true h1
      clear e1 e2 h0 h1
      go_enter Try.func56, Try.ntmps56
      go_wp2_with fail
      refine (HRI.out _ HB0.out).mono ?_
      rintro e w1 ⟨rfl, hb1⟩
      have kc := (Blk.track1 hb1).c
      have HB1 : Hid (Below w.heap.size w w1) := Lib.hid (HB0.out.trans (hb1.mono HB0.out.size))
      clear hb1
      go_wp2_with fail
      go_ret2
      exact ⟨rfl, HB1.out⟩
    have d1 : decide ((m : Int) ≤ a) = false := decide_eq_false h1
    have hW : hasW B k a = true := by rw [HSP.out, decide_eq_true (by omega)]; rfl
    obtain ⟨hright, hk0, hk1, ha0, ha1⟩ := hasW_inv hW
    have hri := right_inv hright
    rw [HH.out.zn] at hk1 hri
    rw [HH.out.zm] at ha1 hri
    have hn8 : n ≤ 8 := by omega
    have HALL : Hid (allB B.rows m = true) := Lib.hid hri.2.2.2.2.1
    have e1 : readN B k a = if z = k + 1 then 0 else wordB B k a := by unfold readN; rw [hW, if_pos rfl, HZ.out]
    have e2 : readE B k a = if z = k + 1 then 8 else 0 := by unfold readE; rw [hW, if_pos rfl, HZ.out]
    rw [e1, e2]
    obtain ⟨j, rfl⟩ := Int.eq_ofNat_of_zero_le hk0
    obtain ⟨i, rfl⟩ := Int.eq_ofNat_of_zero_le ha0
    have wk : IntKind.i64.wrap ((j : Int) + 1) = (j : Int) + 1 := by rw [IntKind.wrap_i64]; omega
    clear e1 e2 hright hri h0 h1 hW
    by_cases hl : z = (j : Int) + 1
    · rw [if_pos hl, if_pos hl]
      have e0 : (z == (j : Int) + 1) = true := by simpa using hl
      have HL := Lib.hid hl
      clear hl
      go_enter Try.func56, Try.ntmps56
      go_wp2_with fail
      refine (HRI.out _ HB0.out).mono ?_
      rintro e w1 ⟨rfl, hb1⟩
      have kc := (Blk.track1 hb1).c
      have HB1 : Hid (Below w.heap.size w w1) := Lib.hid (HB0.out.trans (hb1.mono HB0.out.size))
      clear hb1
      go_wp2_with fail
      go_ret2
      exact ⟨rfl, HB1.out⟩
    · rw [if_neg hl, if_neg hl]
      have hd : wordB B (j : Int) (i : Int) = (B.rows.getD j []).getD i 0 := by unfold wordB; simp only [Int.toNat_natCast]
      rw [hd]
      obtain ⟨v0, hv0⟩ : ∃ v, v = (B.rows.getD j []).getD i 0 := ⟨_, rfl⟩
      rw [← hv0]
      have HV0 := Lib.hid hv0
      clear hd hv0
      have e0 : (z == (j : Int) + 1) = false := by simpa using hl
      have HL := Lib.hid hl
      clear hl
      go_enter Try.func56, Try.ntmps56
      go_wp2_with fail
      refine (HRI.out _ HB0.out).mono ?_
      rintro e w1 ⟨rfl, hb1⟩
      have kc := (Blk.track1 hb1).c
      have HB1 : Hid (Below w.heap.size w w1) := Lib.hid (HB0.out.trans (hb1.mono HB0.out.size))
      clear hb1
      obtain ⟨b, off, q, x, c2, rfl, hrow⟩ := (HH.out.rw_.below HB1.out).rowAt j (by rw [HH.out.zn]; omega)
      have hck := hrow.cell
      have hxm : x = m := by rw [← hrow.len]; exact all_at HALL.out j (by rw [HH.out.zn]; omega)
      subst hxm
      obtain ⟨b2, off2, hb2l, hq, hcr⟩ := hrow.nm.cellAt i (by rw [hrow.len]; omega)
      subst hq
      rw [← HV0.out] at hcr
      clear hrow hb2l
      go_wp2_with fail
      go_ret2
      exact ⟨rfl, HB1.out⟩

theorem Bn.lost {w : World} {p : Option Addr} {n c : Nat} {xs : List Value} {pp : Option Addr} {m cc : Nat} {B : Bk} (h : Bn w p n c xs pp m cc B) (z : Int) : Bn w p n c xs pp m cc ⟨B.rows, B.par, z⟩ :=
  ⟨h.zn, h.rw_, h.cn, h.zm, h.nm, h.cm, h.m100⟩
theorem Bn.tm {w : World} {p : Option Addr} {n c : Nat} {xs : List Value} {pp : Option Addr} {m cc : Nat} {B : Bk} (h : Bn w p n c xs pp m cc B) : m ≤ 100 := h.m100
end Go.Proofs.Ytflakmabciokbaa
/- The document's own Lose; no condition but that the banks read. -/
namespace Go.Proofs.Ytflakmabciokbaa
set_option linter.unusedVariables false
open Go.ChangeShapes Go.WideShapes Go.ChangeAt Go.RowKit

/-- The block R is none of those in which banks lie. -/
structure Off (R : Nat) (p : Option Addr) (xs : List Value) (L : List (List Nat)) (pp : Option Addr) (P : List Nat) : Prop where
  head : 0 < L.length → ∀ a, p = some a → a.block ≠ R
  rows : ∀ k, k < L.length → 0 < (L.getD k []).length → ∀ g, (xs.getD k vz).ownBlock = some g → g ≠ R
  par : 0 < P.length → ∀ a, pp = some a → a.block ≠ R
theorem Bn.off {w : World} {p : Option Addr} {n c : Nat} {xs : List Value} {pp : Option Addr} {m cc : Nat} {B : Bk} (h : Bn w p n c xs pp m cc B) {R : Nat} (hR : w.heap.size ≤ R) : Off R p xs B.rows pp B.par := by
  refine ⟨fun h0 a e => ?_, fun k hk h0 g e => ?_, fun h0 a e => ?_⟩
  · obtain ⟨b, off, h1, h2, _⟩ := h.rw_.sl h0
    rw [h2] at e
    injection e with e
    subst e
    show b ≠ R
    omega
  · obtain ⟨q, c2, e2, _, h2⟩ := h.rw_.rs k hk
    obtain ⟨b, off, h1, h3, _⟩ := h2.c h0
    rw [e2, h3] at e
    have e' : some b = some g := e
    injection e' with e'
    omega
  · obtain ⟨b, off, h1, h2, _⟩ := h.nm.c h0
    rw [h2] at e
    injection e with e
    subst e
    show b ≠ R
    omega
theorem Nm.set {w : World} {p : Option Addr} {l : List Nat} (h : Nm w p l) {R : Nat} (ho : 0 < l.length → ∀ a, p = some a → a.block ≠ R) (j : Nat) (u : Value) : Nm (w.setCell ⟨R, j, none⟩ u) p l :=
  ⟨h.lt, fun h0 => by
    obtain ⟨b, off, h1, h2, h3⟩ := h.c h0
    have hne := ho h0 _ h2
    exact ⟨b, off, by rw [size_set]; exact h1, h2, fun k hk => (World.cell?_setCell_other _ _ _ _ (by intro e; injection e with e1; exact hne e1.symm)).trans (h3 k hk)⟩⟩
theorem Bn.set {w : World} {p : Option Addr} {n c : Nat} {xs : List Value} {pp : Option Addr} {m cc : Nat} {B : Bk} (h : Bn w p n c xs pp m cc B) {R : Nat} (ho : Off R p xs B.rows pp B.par) (j : Nat) (u : Value) : Bn (w.setCell ⟨R, j, none⟩ u) p n c xs pp m cc B := by
  refine ⟨h.zn, ⟨h.rw_.len, fun h0 => ?_, fun k hk => ?_, h.rw_.n100, h.rw_.l100⟩, h.cn, h.zm, h.nm.set ho.par j u, h.cm, h.m100⟩
  · obtain ⟨b, off, h1, h2, h3⟩ := h.rw_.sl h0
    have hne := ho.head h0 _ h2
    exact ⟨b, off, by rw [size_set]; exact h1, h2, fun k hk => (World.cell?_setCell_other _ _ _ _ (by intro e; injection e with e1; exact hne e1.symm)).trans (h3 k hk)⟩
  · obtain ⟨q, c2, e2, h1, h2⟩ := h.rw_.rs k hk
    refine ⟨q, c2, e2, h1, h2.set (fun h0 a e => ?_) j u⟩
    exact ho.rows k hk h0 a.block (by rw [e2, e]; rfl)
theorem Bn.set3 {w : World} {p : Option Addr} {n c : Nat} {xs : List Value} {pp : Option Addr} {m cc : Nat} {B : Bk} (h : Bn w p n c xs pp m cc B) {R : Nat} (ho : Off R p xs B.rows pp B.par) (u0 u1 u2 : Value) : Bn (((w.setCell ⟨R, 0, none⟩ u0).setCell ⟨R, 1, none⟩ u1).setCell ⟨R, 2, none⟩ u2) p n c xs pp m cc B := ((h.set ho 0 u0).set ho 1 u1).set ho 2 u2
/-- Where one row is another one. -/
theorem Off.put {R : Nat} {p : Option Addr} {xs : List Value} {L : List (List Nat)} {pp : Option Addr} {P : List Nat} (h : Off R p xs L pp P) {g k : Nat} {r : Value} {l : List Nat} (hlen : xs.length = L.length) (hk : k < L.length) (hg : g ≠ R) (hr : ∀ b, r.ownBlock = some b → b ≠ R) : Off R (some ⟨g, 0, none⟩) (xs.set k r) (L.set k l) pp P := by
  refine ⟨fun h0 a e => ?_, fun i hi h0 b e => ?_, h.par⟩
  · injection e with e; subst e; exact hg
  · rw [List.length_set] at hi
    rw [getD_set xs vz r k i (by omega)] at e
    rw [getD_set L [] l k i hk] at h0
    by_cases h1 : i = k
    · rw [if_pos h1] at e; exact hr b e
    · rw [if_neg h1] at e h0; exact h.rows i hi h0 b e
theorem set3_below {s R : Nat} {w0 w : World} (h : Below s w0 w) (hR : s ≤ R) (u0 u1 u2 : Value) : Below s w0 (((w.setCell ⟨R, 0, none⟩ u0).setCell ⟨R, 1, none⟩ u1).setCell ⟨R, 2, none⟩ u2) :=
  ((h.setCell (p := ⟨R, 0, none⟩) hR _).setCell (p := ⟨R, 1, none⟩) hR _).setCell (p := ⟨R, 2, none⟩) hR _
theorem set3_other {w : World} {B R : Nat} {cs : Array Value} (h : Blk w B cs) (hne : R ≠ B) (u0 u1 u2 : Value) : Blk (((w.setCell ⟨R, 0, none⟩ u0).setCell ⟨R, 1, none⟩ u1).setCell ⟨R, 2, none⟩ u2) B cs := ((h.other u0 hne).other u1 hne).other u2 hne
theorem set3_same {w : World} {R : Nat} {a0 a1 a2 : Value} (h : Blk w R #[a0, a1, a2]) (u0 u1 u2 : Value) : Blk (((w.setCell ⟨R, 0, none⟩ u0).setCell ⟨R, 1, none⟩ u1).setCell ⟨R, 2, none⟩ u2) R #[u0, u1, u2] := ((h.set (n := 0) u0 (by simp)).set (n := 1) u1 (by simp)).set (n := 2) u2 (by simp)

/-- What the document's own functions hand back: it reads as these banks, beside a number; it lies in no block that was there, but where the argument lies. -/
def ROut (w w' : World) (F : Nat → Prop) (e : Ending) (B : Bk) (E : Int) : Prop := ∃ p n c xs pp m cc, e = .returned (.tuple #[.agg #[.slice p n c, .slice pp m cc, .int .i64 B.lost], .int .i64 E]) ∧ Bn w' p n c xs pp m cc B ∧ Below w.heap.size w w' ∧ ∀ R, R < w.heap.size → F R → Off R p xs B.rows pp B.par
set_option maxHeartbeats 4000000 in
theorem rlose_any (p : Option Addr) (n c : Nat) (xs : List Value) (pp : Option Addr) (m cc : Nat) (B : Bk) (k : Int) (w : World) (h : Bn w p n c xs pp m cc B) :
    Calls Try.prog 27 #[.agg #[.slice p n c, .slice pp m cc, .int .i64 B.lost], .int .i64 k] w fun e w' => ROut w w' (fun R => Off R p xs B.rows pp B.par) e (loseB B k) (loseE B k) := by
  have hri := fun w' hb => rhas_any p n c xs pp m cc B k w' (h.below hb)
  obtain ⟨z, hz⟩ : ∃ z, z = B.lost := ⟨_, rfl⟩
  obtain ⟨r, hr⟩ : ∃ r, r = hasB B k := ⟨_, rfl⟩
  rw [← hr, ← hz] at hri
  rw [← hz]
  have HRI := Lib.hid hri
  have HZ := Lib.hid hz
  have HR := Lib.hid hr
  have HH := Lib.hid h
  obtain ⟨B', hB'⟩ : ∃ B', B' = loseB B k := ⟨_, rfl⟩
  obtain ⟨E, hE⟩ : ∃ E, E = loseE B k := ⟨_, rfl⟩
  rw [← hB', ← hE]
  have HB' := Lib.hid hB'
  have HE := Lib.hid hE
  have hm := h.m100
  have hn := h.n100
  obtain ⟨i6, hi6, hz60, hz61, hz62⟩ := info_parts info26
  have HI6 := Lib.hid (And.intro hi6 (And.intro hz60 (And.intro hz61 hz62)))
  clear h hri hz hr hB' hE hi6 hz60 hz61 hz62
  go_enter Try.func27, Try.ntmps27
  have HBA : Hid (Below w.heap.size w ((w.alloc (.cells #[.slice p n c, .slice pp m cc, .int .i64 z] 25)).alloc (.cells #[.slice none 0 0, .slice none 0 0, .int .i64 0] 25))) := Lib.hid (((Below.refl _ _).alloc (Nat.le_refl _) _).alloc (by simp) _)
  go_wp2_with fail
  refine (HRI.out _ HBA.out).mono ?_
  rintro e w1 ⟨rfl, hb1⟩
  have HK1 : Hid (Blk w1 w.heap.size #[.slice p n c, .slice pp m cc, .int .i64 z]) := Lib.hid (Blk.track2 hb1)
  have HR1 : Hid (Blk w1 (w.heap.size + 1) #[.slice none 0 0, .slice none 0 0, .int .i64 0]) := Lib.hid (by simpa using Blk.track1 hb1)
  have HB1 : Hid (Below w.heap.size w w1) := Lib.hid (HBA.out.trans (hb1.mono HBA.out.size))
  have HH1 := Lib.hid (HH.out.below HB1.out)
  clear hb1 HBA HRI
  have cK := HK1.out.c
  have cR := HR1.out.c
  have fR := HR1.out.f
  have lR := HR1.out.lt
  have HOR : Hid (Off (w.heap.size + 1) p xs B.rows pp B.par) := Lib.hid (HH.out.off (by omega))
  have HOK : Hid (Off w.heap.size p xs B.rows pp B.par) := Lib.hid (HH.out.off (Nat.le_refl _))
  cases r with
  | false =>
    have hB : B' = B := by rw [HB'.out]; unfold loseB; rw [← HR.out]; rfl
    have hE : E = 1 := by rw [HE.out]; unfold loseE; rw [← HR.out]; rfl
    subst hB hE
    go_wp2_with fail
    refine bodyPost_ret (v := .tuple #[.agg #[.slice p n c, .slice pp m cc, .int .i64 z], .int .i64 1]) (by simp [results, Try.results27, go_sem, *]) rfl ⟨p, n, c, xs, pp, m, cc, by rw [HZ.out], HH1.out.set3 HOR.out _ _ _, set3_below HB1.out (by omega) _ _ _, fun R _ h => h⟩
  | true =>
    by_cases hz0 : z = 0
    · have hw := hasB_inv HR.out.symm
      obtain ⟨hright, hk0, hk1⟩ := hw
      rw [HH.out.zn] at hk1
      obtain ⟨j, rfl⟩ := Int.eq_ofNat_of_zero_le hk0
      have hj : j < n := by omega
      have hn8 := right_inv hright
      rw [HH.out.zn, HH.out.zm] at hn8
      have hn88 : n ≤ 8 := hn8.2.1
      have hm1 : 1 ≤ m := hn8.2.2.1
      have hB : B' = ⟨B.rows.set j (List.replicate m 0), B.par, (j : Int) + 1⟩ := by rw [HB'.out]; unfold loseB; rw [← HR.out, if_pos rfl, if_pos (by rw [← HZ.out]; exact hz0), HH.out.zm]; simp only [Int.toNat_natCast]
      have hE : E = 0 := by rw [HE.out]; unfold loseE; rw [← HR.out, if_pos rfl, if_pos (by rw [← HZ.out]; exact hz0)]
      subst hE
      have hz0' : (z != 0) = false := by simp; exact hz0
      have HBP := Lib.hid hB
      have wj : IntKind.i64.wrap ((j : Int) + 1) = (j : Int) + 1 := by rw [IntKind.wrap_i64]; omega
      clear hright hk0 hk1 hn8 hB hz0
      go_upto_region 5 with fail
      obtain ⟨w2, hrun, g1, g2⟩ := run_make_full (P := Try.prog) w1.drew w1.heap.size 23 29 i6 (.int .u32 0) 1 Try.underlying23 HI6.out.1 HI6.out.2.1 HI6.out.2.2.1 .i64 .i64 m (by rw [HI6.out.2.2.2]; omega) (by unfold maxLen; omega) (Nat.le_refl _)
      have hsz2 : w1.drew.heap.size = w1.heap.size := rfl
      rw [hsz2] at hrun g1
      have HW2 : Hid (Wd w1.heap.size w2 w1.heap.size m m (List.replicate m 0)) := Lib.hid (Wd.made (by rw [Nat.mul_one] at g1; exact g1))
      have HB2 : Hid (Below w1.heap.size w1 w2) := Lib.hid ((Below.refl w1.heap.size w1).drew.grown g2 (Nat.le_refl _) (fun k hk => by cases hk))
      clear g1 g2 hsz2
      have hwith := with_any p n c xs pp m cc B j (some ⟨w1.heap.size, 0, none⟩) m m (List.replicate m 0) w2 (HH1.out.below HB2.out) hj ⟨_, m, by rw [List.length_replicate], by rw [List.length_replicate]; exact Nat.le_refl _, HW2.out.nm⟩ hm
      rw [← HZ.out] at hwith
      have HWI := Lib.hid hwith
      have HN1 : Hid (w.heap.size + 2 ≤ w1.heap.size) := Lib.hid (by have := HR1.out.lt; omega)
      clear hwith
      refine region_plan (fun w' : World => (∀ j, w'.cell? ⟨w.heap.size, j, none⟩ = (#[.slice p n c, .slice pp m cc, .int .i64 z] : Array Value)[j]?) ∧ Below w1.heap.size w1 w') 7 [(0, true), (1, true), (2, true), (3, true), (4, true), (5, false), (6, false)] (by kernel_rfl) (by kernel_rfl) (sOf HK1 ((Below.refl _ _).drew)) ?_
      iterate 5
        refine plan_read (v := ?_) rfl (by rfl) ?_ ?_
        rotate_left
        · intro w' hS
          try dsimp only at hS
          go_simp
          try with_reducible rfl
        try simp only [Act.put, List.setIfInBounds_toArray, List.set_cons_zero, List.set_cons_succ, List.getElem_toArray, List.getElem_cons_zero, List.getElem_cons_succ]
      refine plan_make (v := .slice (some ⟨w1.heap.size, 0, none⟩) m m) (w1 := w2) rfl (by rfl) (by go_simp) (sOf HK1 HB2.out) ?_
      try simp only [Act.put, List.setIfInBounds_toArray, List.set_cons_zero, List.set_cons_succ, List.getElem_toArray, List.getElem_cons_zero, List.getElem_cons_succ]
      refine plan_call (F := 67) (args := ?_) rfl (by rfl) ?_ ?_
      rotate_left
      · go_simp
        rfl
      refine (HWI.out).mono ?_
      rintro e w3 ⟨g, c', rfl, hbn, hb3, hg⟩
      have HB3 : Hid (Below w1.heap.size w1 w3) := Lib.hid (HB2.out.trans (hb3.mono HB2.out.size))
      have HBN := Lib.hid hbn
      have HG : Hid (w.heap.size + 2 ≤ g) := Lib.hid (by have := HN1.out; have := HB2.out.size; omega)
      clear hbn hb3 hg
      refine ⟨_, rfl, sOf HK1 HB3.out, ?_⟩
      try simp only [Act.put, List.setIfInBounds_toArray, List.set_cons_zero, List.set_cons_succ, List.getElem_toArray, List.getElem_cons_zero, List.getElem_cons_succ]
      refine plan_nil ?_
      simp only [List.drop_succ_cons, List.drop_zero]
      have HK3 := Lib.hid (HK1.out.below HB3.out)
      have HR3 := Lib.hid (HR1.out.below HB3.out)
      have HBW : Hid (Below w.heap.size w w3) := Lib.hid (HB1.out.trans (HB3.out.mono HB1.out.size))
      have hjl : j < B.rows.length := by rw [HH.out.zn]; exact hj
      have HOF : Hid (∀ R, R < w1.heap.size → Off R p xs B.rows pp B.par → g ≠ R → Off R (some ⟨g, 0, none⟩) (xs.set j (.slice (some ⟨w1.heap.size, 0, none⟩) m m)) (B.rows.set j (List.replicate m 0)) pp B.par) := Lib.hid (fun R hR ho hg => ho.put HH.out.rw_.len hjl hg (fun b e => by
        have e' : some w1.heap.size = some b := e
        injection e' with e'
        omega))
      clear hrun HWI cK cR fR lR hjl HK1 HR1
      have cK := HK3.out.c
      have fK := HK3.out.f
      have lK := HK3.out.lt
      go_upto_region 6 with fail
      obtain ⟨w4, hw4⟩ : ∃ w4, w4 = ((w3.setCell ⟨w.heap.size, 0, none⟩ (.slice (some ⟨g, 0, none⟩) n c')).setCell ⟨w.heap.size, 1, none⟩ (.slice pp m cc)).setCell ⟨w.heap.size, 2, none⟩ (.int .i64 z) := ⟨_, rfl⟩
      have HBN4 := Lib.hid (HBN.out.set3 (HOF.out w.heap.size (by have := HN1.out; omega) HOK.out (by have := HG.out; omega)) (.slice (some ⟨g, 0, none⟩) n c') (.slice pp m cc) (.int .i64 z))
      have HK4 : Hid (Blk w4 w.heap.size #[.slice (some ⟨g, 0, none⟩) n c', .slice pp m cc, .int .i64 z]) := Lib.hid (by rw [hw4]; exact set3_same HK3.out _ _ _)
      have HR4 : Hid (Blk w4 (w.heap.size + 1) #[.slice none 0 0, .slice none 0 0, .int .i64 0]) := Lib.hid (by rw [hw4]; exact set3_other HR3.out (by omega) _ _ _)
      have HB4 : Hid (Below w.heap.size w w4) := Lib.hid (by rw [hw4]; exact set3_below HBW.out (Nat.le_refl _) _ _ _)
      rw [← hw4] at HBN4 ⊢
      clear hw4 cK fK lK HK3 HR3 HBW HBN
      have cK := HK4.out.c
      have fK := HK4.out.f
      have lK := HK4.out.lt
      go_upto_region 7 with fail
      obtain ⟨w5, hw5⟩ : ∃ w5, w5 = w4.setCell ⟨w.heap.size, 2, none⟩ (.int .i64 ((j : Int) + 1)) := ⟨_, rfl⟩
      have HBN5 := Lib.hid (HBN4.out.set (HOF.out w.heap.size (by have := HN1.out; omega) HOK.out (by have := HG.out; omega)) 2 (.int .i64 ((j : Int) + 1)))
      have HK5 : Hid (Blk w5 w.heap.size #[.slice (some ⟨g, 0, none⟩) n c', .slice pp m cc, .int .i64 ((j : Int) + 1)]) := Lib.hid (by rw [hw5]; exact HK4.out.set (n := 2) _ (by simp))
      have HR5 : Hid (Blk w5 (w.heap.size + 1) #[.slice none 0 0, .slice none 0 0, .int .i64 0]) := Lib.hid (by rw [hw5]; exact HR4.out.other _ (by omega))
      have HB5 : Hid (Below w.heap.size w w5) := Lib.hid (by rw [hw5]; exact HB4.out.setCell (p := ⟨w.heap.size, 2, none⟩) (Nat.le_refl _) _)
      rw [← hw5] at HBN5 ⊢
      clear hw5 cK fK lK HK4 HR4 HB4 HBN4
      have cK := HK5.out.c
      have cR := HR5.out.c
      have fR := HR5.out.f
      have lR := HR5.out.lt
      go_wp2_with fail
      refine bodyPost_ret (v := .tuple #[.agg #[.slice (some ⟨g, 0, none⟩) n c', .slice pp m cc, .int .i64 ((j : Int) + 1)], .int .i64 0]) (by simp [results, Try.results27, go_sem, *]) rfl ⟨some ⟨g, 0, none⟩, n, c', xs.set j (.slice (some ⟨w1.heap.size, 0, none⟩) m m), pp, m, cc, by rw [HBP.out], ?_, set3_below HB5.out (by omega) _ _ _, ?_⟩
      all_goals rw [HBP.out]
      rotate_left
      · exact fun R hR ho => HOF.out R (by have := HN1.out; omega) ho (by have := HG.out; omega)
      exact (HBN5.out.set3 (HOF.out (w.heap.size + 1) (by have := HN1.out; omega) HOR.out (by have := HG.out; omega)) _ _ _).lost _
    · have hz0' : (z != 0) = true := by simpa using hz0
      have hB : B' = B := by rw [HB'.out]; unfold loseB; rw [← HR.out, if_pos rfl, if_neg (by rw [← HZ.out]; exact hz0)]
      have hE : E = 8 := by rw [HE.out]; unfold loseE; rw [← HR.out, if_pos rfl, if_neg (by rw [← HZ.out]; exact hz0)]
      subst hB hE
      clear hz0
      go_wp2_with fail
      refine bodyPost_ret (v := .tuple #[.agg #[.slice p n c, .slice pp m cc, .int .i64 z], .int .i64 8]) (by simp [results, Try.results27, go_sem, *]) rfl ⟨p, n, c, xs, pp, m, cc, by rw [HZ.out], HH1.out.set3 HOR.out _ _ _, set3_below HB1.out (by omega) _ _ _, fun R _ h => h⟩
end Go.Proofs.Ytflakmabciokbaa
/- The document's own Write; no condition but that the banks read. -/
namespace Go.Proofs.Ytflakmabciokbaa
set_option linter.unusedVariables false
open Go.ChangeShapes Go.WideShapes Go.ChangeAt Go.RowKit

theorem put_eq {B : Bk} {j i : Nat} {v : Nat} (hr : rightB B = true) (h0 : B.lost = 0) (hj : j < B.rows.length) (hi : i < B.par.length) :
    putB B (j : Int) (i : Int) v = ⟨B.rows.set j ((B.rows.getD j []).set i v), B.par.set i (colX (B.rows.set j ((B.rows.getD j []).set i v)) i (-1)), B.lost⟩ := by
  have hall := (right_inv hr).2.2.2.2.1
  have hlj := all_at hall j hj
  unfold putB wordB
  simp only [Int.toNat_natCast]
  rw [colX_set _ _ _ _ hj, getD_set _ 0 v i i (by omega), if_pos rfl, fine_par hr h0 i hi]

set_option maxHeartbeats 8000000 in
theorem rwrite_any (p : Option Addr) (n c : Nat) (xs : List Value) (pp : Option Addr) (m cc : Nat) (B : Bk) (k a : Int) (v : Nat) (w : World) (h : Bn w p n c xs pp m cc B) (hv : v < 4294967296) :
    Calls Try.prog 84 #[.agg #[.slice p n c, .slice pp m cc, .int .i64 B.lost], .int .i64 k, .int .i64 a, .int .u32 v] w fun e w' => ROut w w' (fun R => Off R p xs B.rows pp B.par) e (writeB B k a v) (writeE B k a) := by
  have hri := fun w' hb => rhas_any p n c xs pp m cc B k w' (h.below hb)
  have hsp := hasW_split (k := k) (a := a) h.zm
  obtain ⟨z, hz⟩ : ∃ z, z = B.lost := ⟨_, rfl⟩
  obtain ⟨r, hr⟩ : ∃ r, r = hasB B k := ⟨_, rfl⟩
  rw [← hr] at hsp
  rw [← hr, ← hz] at hri
  rw [← hz]
  have HRI := Lib.hid hri
  have HZ := Lib.hid hz
  have HR := Lib.hid hr
  have HH := Lib.hid h
  have HSP := Lib.hid hsp
  obtain ⟨B', hB'⟩ : ∃ B', B' = writeB B k a v := ⟨_, rfl⟩
  obtain ⟨E, hE⟩ : ∃ E, E = writeE B k a := ⟨_, rfl⟩
  rw [← hB', ← hE]
  have HB' := Lib.hid hB'
  have HE := Lib.hid hE
  have HNO : Hid (hasW B k a = false → B' = B ∧ E = 1) := Lib.hid (fun e => by rw [hB', hE]; unfold writeB writeE; rw [e]; exact ⟨rfl, rfl⟩)
  have hm := h.m100
  have hn := h.n100
  obtain ⟨i6, hi6, hz60, hz61, hz62⟩ := info_parts info26
  have HI6 := Lib.hid (And.intro hi6 (And.intro hz60 (And.intro hz61 hz62)))
  clear h hri hz hr hB' hE hi6 hz60 hz61 hz62 hsp
  go_enter Try.func84, Try.ntmps84
  have HBA : Hid (Below w.heap.size w ((w.alloc (.cells #[.slice p n c, .slice pp m cc, .int .i64 z] 25)).alloc (.cells #[.slice none 0 0, .slice none 0 0, .int .i64 0] 25))) := Lib.hid (((Below.refl _ _).alloc (Nat.le_refl _) _).alloc (by simp) _)
  go_wp2_with fail
  refine (HRI.out _ HBA.out).mono ?_
  rintro e w1 ⟨rfl, hb1⟩
  have HK1 : Hid (Blk w1 w.heap.size #[.slice p n c, .slice pp m cc, .int .i64 z]) := Lib.hid (Blk.track2 hb1)
  have HR1 : Hid (Blk w1 (w.heap.size + 1) #[.slice none 0 0, .slice none 0 0, .int .i64 0]) := Lib.hid (by simpa using Blk.track1 hb1)
  have HB1 : Hid (Below w.heap.size w w1) := Lib.hid (HBA.out.trans (hb1.mono HBA.out.size))
  have HH1 := Lib.hid (HH.out.below HB1.out)
  clear hb1 HBA HRI
  have cK := HK1.out.c
  have cR := HR1.out.c
  have fR := HR1.out.f
  have lR := HR1.out.lt
  have HOR : Hid (Off (w.heap.size + 1) p xs B.rows pp B.par) := Lib.hid (HH.out.off (by omega))
  have HOK : Hid (Off w.heap.size p xs B.rows pp B.par) := Lib.hid (HH.out.off (Nat.le_refl _))
  cases r with
  | false =>
    obtain ⟨hB, hE⟩ := HNO.out (by rw [HSP.out]; rfl)
    subst hB hE
    go_wp2_with fail
    refine bodyPost_ret (v := .tuple #[.agg #[.slice p n c, .slice pp m cc, .int .i64 z], .int .i64 1]) (by simp [results, Try.results84, go_sem, *]) rfl ⟨p, n, c, xs, pp, m, cc, by rw [HZ.out], HH1.out.set3 HOR.out _ _ _, set3_below HB1.out (by omega) _ _ _, fun R _ h => h⟩
  | true =>
    by_cases h0 : a < 0
    · obtain ⟨hB, hE⟩ := HNO.out (by rw [HSP.out, decide_eq_false (by omega)]; rfl)
      subst hB hE
      have d0 : decide (a < 0) = true := decide_eq_true h0
      clear h0
      go_wp2_with fail
      refine bodyPost_ret (v := .tuple #[.agg #[.slice p n c, .slice pp m cc, .int .i64 z], .int .i64 1]) (by simp [results, Try.results84, go_sem, *]) rfl ⟨p, n, c, xs, pp, m, cc, by rw [HZ.out], HH1.out.set3 HOR.out _ _ _, set3_below HB1.out (by omega) _ _ _, fun R _ h => h⟩
    have d0 : decide (a < 0) = false := decide_eq_false h0
    by_cases h1 : (m : Int) ≤ a
    · obtain ⟨hB, hE⟩ := HNO.out (by rw [HSP.out, decide_eq_false (by omega)]; rfl)
      subst hB hE
      have d1 : decide ((m : Int) ≤ a) = true := decide_eq_true h1
      clear h0 h1
      go_wp2_with fail
      refine bodyPost_ret (v := .tuple #[.agg #[.slice p n c, .slice pp m cc, .int .i64 z], .int .i64 1]) (by simp [results, Try.results84, go_sem, *]) rfl ⟨p, n, c, xs, pp, m, cc, by rw [HZ.out], HH1.out.set3 HOR.out _ _ _, set3_below HB1.out (by omega) _ _ _, fun R _ h => h⟩
    have d1 : decide ((m : Int) ≤ a) = false := decide_eq_false h1
    have hW : hasW B k a = true := by rw [HSP.out, decide_eq_true (by omega)]; rfl
    by_cases hz0 : z = 0
    · obtain ⟨hright, hk0, hk1, ha0, ha1⟩ := hasW_inv hW
      have hE : E = 0 := by rw [HE.out]; unfold writeE; rw [hW, if_pos rfl, if_pos (by rw [← HZ.out]; exact hz0)]
      have hB : B' = putB B k a v := by rw [HB'.out]; unfold writeB; rw [hW, if_pos rfl, if_pos (by rw [← HZ.out]; exact hz0)]
      obtain ⟨j, rfl⟩ := Int.eq_ofNat_of_zero_le hk0
      obtain ⟨i, rfl⟩ := Int.eq_ofNat_of_zero_le ha0
      have hjl : j < B.rows.length := by omega
      rw [put_eq hright (by rw [← HZ.out]; exact hz0) hjl (by omega)] at hB
      have hri := right_inv hright
      rw [HH.out.zn, HH.out.zm] at hri
      rw [HH.out.zn] at hk1
      rw [HH.out.zm] at ha1
      have hj : j < n := by omega
      have hi : i < m := by omega
      have hn8 : n ≤ 8 := hri.2.1
      have HALL : Hid (allB B.rows m = true) := Lib.hid hri.2.2.2.2.1
      have HBP := Lib.hid hB
      have HRT := Lib.hid hright
      have hz0' : (z != 0) = false := by simp; exact hz0
      have hjI : (0 : Int) ≤ (j : Int) := by omega
      have hjI2 : (j : Int) < (n : Int) := by omega
      have hiI : (0 : Int) ≤ (i : Int) := by omega
      have hiI2 : (i : Int) < (m : Int) := by omega
      obtain ⟨b, off, q, x, c2, hp, hrow⟩ := HH1.out.rw_.rowAt j (by rw [HH.out.zn]; omega)
      have hxm : x = m := by rw [← hrow.len]; exact all_at HALL.out j hjl
      subst hE hxm hp
      obtain ⟨l, hl⟩ : ∃ l, l = B.rows.getD j [] := ⟨_, rfl⟩
      rw [← hl] at hrow hB
      have HL := Lib.hid hl
      have HROW := Lib.hid hrow
      have HW0 : Hid (Below w1.heap.size w1 (w1.alloc (.cells #[] 29))) := Lib.hid ((Below.refl _ _).alloc (Nat.le_refl _) _)
      have k0 := (HK1.out.alloc (.cells #[] 29)).c
      have hck := (hrow.below HW0.out).cell
      have HS : Hid (Sl (w1.alloc (.cells #[] 29)) q x (u32C l)) := Lib.hid (by have := (hrow.below HW0.out).nm.sl; rwa [hrow.len] at this)
      have HLL : Hid (l.length = x) := Lib.hid hrow.len
      have HLT : Hid (∀ y ∈ l, y < 4294967296) := Lib.hid hrow.nm.lt
      clear hright hk0 hk1 ha0 ha1 h0 h1 hW hri hB hz0 hl hrow HNO HSP
      go_wp2_with (first | (at_builtin; refine wpList_append_sl rfl _ _ 23 rfl w1.heap.size 29 i6 (.int .u32 0) 1 4 Try.underlying23 HI6.out.1 HI6.out.2.1 HI6.out.2.2.1 HI6.out.2.2.2 rfl (by decide) _ 0 [] rfl (fresh_made (Nat.le_refl _)) q x c2 (u32C l) rfl (by rw [u32C_len, HLL.out, Nat.mul_one]) HS.out (u32C_one _) (by unfold maxLen; omega) (by omega) (by simp) ?_))
      intro v' w2 g1 g2 g3
      have g1' : w2.ownsRow w1.heap.size 29 1 v' x (u32C l) := by simpa using g1
      have HB2 : Hid (Below w1.heap.size w1 w2) := Lib.hid (((Below.refl w1.heap.size w1).alloc (Nat.le_refl _) _).grown g2 (by simp) (fun k hk => by simp [Value.ownBlock] at hk; omega))
      obtain ⟨p1, c1, rfl, hc1⟩ := own_cap g1'
      obtain ⟨gr, rfl, _, _, hgr0, hgr1⟩ := own_go g1' (by omega)
      have HWD : Hid (Wd w1.heap.size w2 gr x c1 l) := Lib.hid ⟨g1', HLL.out, HLT.out⟩
      have HN1 : Hid (w.heap.size + 2 ≤ w1.heap.size) := Lib.hid (by have := HR1.out.lt; omega)
      have hcl := HWD.out.cell i hi
      have hfl := HWD.out.frozen i
      clear g1 g1' g2 g3 hgr0 hgr1 hc1 k0 hck HS
      go_upto_region 7 with fail
      obtain ⟨w3, hw3⟩ : ∃ w3, w3 = w2.setCell ⟨gr, i, none⟩ (.int .u32 (v : Int)) := ⟨_, rfl⟩
      have HWD3 : Hid (Wd w1.heap.size w3 gr x c1 (l.set i v)) := Lib.hid (by rw [hw3]; exact HWD.out.set i v hv)
      have HB3 : Hid (Below w1.heap.size w1 w3) := Lib.hid (by rw [hw3]; exact HB2.out.setCell (p := ⟨gr, i, none⟩) (by show w1.heap.size ≤ gr; exact HWD.out.ge.1) _)
      have HK3 := Lib.hid (HK1.out.below HB3.out)
      have HR3 := Lib.hid (HR1.out.below HB3.out)
      have HBW3 : Hid (Below w.heap.size w w3) := Lib.hid (HB1.out.trans (HB3.out.mono HB1.out.size))
      have HGR : Hid (w.heap.size + 2 ≤ gr) := Lib.hid (by have := HWD.out.ge.1; have := HN1.out; omega)
      have hwith := with_any (some ⟨b, off, none⟩) n c xs pp x cc B j (some ⟨gr, 0, none⟩) x c1 (l.set i v) w3 (HH1.out.below HB3.out) hj ⟨_, c1, by rw [List.length_set, HLL.out], by rw [List.length_set, HLL.out]; exact HWD3.out.cap, HWD3.out.nm⟩ hm
      rw [← HZ.out] at hwith
      rw [← hw3]
      clear hw3 hcl hfl HWD HB2 HK1 HR1 HB1 cK cR fR lR
      have cK := HK3.out.c
      go_wp2_with fail
      refine hwith.mono ?_
      clear hwith
      rintro e w4 ⟨g, c', rfl, hbn, hb4, hg⟩
      have HBN4 := Lib.hid hbn
      have HK4 := Lib.hid (HK3.out.below hb4)
      have HR4 := Lib.hid (HR3.out.below hb4)
      have HBW4 : Hid (Below w.heap.size w w4) := Lib.hid (HBW3.out.trans (hb4.mono HBW3.out.size))
      have HG : Hid (w.heap.size + 2 ≤ g) := Lib.hid (by have := HN1.out; have := HB3.out.size; omega)
      obtain ⟨L', hL'⟩ : ∃ L', L' = B.rows.set j (l.set i v) := ⟨_, rfl⟩
      obtain ⟨ys, hys⟩ : ∃ ys, ys = xs.set j (.slice (some ⟨gr, 0, none⟩) x c1) := ⟨_, rfl⟩
      rw [← hL', ← hys] at HBN4
      have HL' := Lib.hid hL'
      have HOF : Hid (∀ R, R < w.heap.size + 2 → Off R (some ⟨b, off, none⟩) xs B.rows pp B.par → Off R (some ⟨g, 0, none⟩) ys L' pp B.par) := Lib.hid (fun R hR ho => by
        rw [hL', hys]
        exact ho.put HH.out.rw_.len hjl (by have := HG.out; omega) (fun b e => by
          have e' : some gr = some b := e
          injection e' with e'
          have := HGR.out
          omega))
      clear hbn hb4 hg hL' hys cK HK3 HR3 HBW3 HB3
      have cK := HK4.out.c
      have fK := HK4.out.f
      have lK := HK4.out.lt
      go_upto_region 8 with fail
      obtain ⟨w5, hw5⟩ : ∃ w5, w5 = ((w4.setCell ⟨w.heap.size, 0, none⟩ (.slice (some ⟨g, 0, none⟩) n c')).setCell ⟨w.heap.size, 1, none⟩ (.slice pp x cc)).setCell ⟨w.heap.size, 2, none⟩ (.int .i64 z) := ⟨_, rfl⟩
      have HBN5 := Lib.hid (HBN4.out.set3 (HOF.out w.heap.size (by omega) HOK.out) (.slice (some ⟨g, 0, none⟩) n c') (.slice pp x cc) (.int .i64 z))
      have HK5 : Hid (Blk w5 w.heap.size #[.slice (some ⟨g, 0, none⟩) n c', .slice pp x cc, .int .i64 z]) := Lib.hid (by rw [hw5]; exact set3_same HK4.out _ _ _)
      have HR5 : Hid (Blk w5 (w.heap.size + 1) #[.slice none 0 0, .slice none 0 0, .int .i64 0]) := Lib.hid (by rw [hw5]; exact set3_other HR4.out (by omega) _ _ _)
      have HB5 : Hid (Below w.heap.size w w5) := Lib.hid (by rw [hw5]; exact set3_below HBW4.out (Nat.le_refl _) _ _ _)
      rw [← hw5] at HBN5 ⊢
      clear hw5 cK fK lK HK4 HR4 HBW4 HBN4
      have HW5 : Hid (Below w5.heap.size w5 (w5.alloc (.cells #[] 29))) := Lib.hid ((Below.refl _ _).alloc (Nat.le_refl _) _)
      have k5 := (HK5.out.alloc (.cells #[] 29)).c
      have HS5 : Hid (Sl (w5.alloc (.cells #[] 29)) pp x (u32C B.par)) := Lib.hid (by have := (HBN5.out.below HW5.out).nm.sl; rwa [HBN5.out.zm] at this)
      have HPL : Hid (B.par.length = x) := Lib.hid HH.out.zm
      go_wp2_with (first | (at_builtin; refine wpList_append_sl rfl _ _ 23 rfl w5.heap.size 29 i6 (.int .u32 0) 1 4 Try.underlying23 HI6.out.1 HI6.out.2.1 HI6.out.2.2.1 HI6.out.2.2.2 rfl (by decide) _ 0 [] rfl (fresh_made (Nat.le_refl _)) pp x cc (u32C B.par) rfl (by rw [u32C_len, HPL.out, Nat.mul_one]) HS5.out (u32C_one _) (by unfold maxLen; omega) (by omega) (by simp) ?_))
      intro v' w6 g1 g2 g3
      have g1' : w6.ownsRow w5.heap.size 29 1 v' x (u32C B.par) := by simpa using g1
      have HB6 : Hid (Below w5.heap.size w5 w6) := Lib.hid (((Below.refl w5.heap.size w5).alloc (Nat.le_refl _) _).grown g2 (by simp) (fun k hk => by simp [Value.ownBlock] at hk; omega))
      obtain ⟨p6, c6, rfl, hc6⟩ := own_cap g1'
      obtain ⟨gq, rfl, _, _, hgq0, hgq1⟩ := own_go g1' (by omega)
      have HWQ : Hid (Wd w5.heap.size w6 gq x c6 B.par) := Lib.hid ⟨g1', HPL.out, HH.out.nm.lt⟩
      have HK6 := Lib.hid (HK5.out.below HB6.out)
      have HR6 := Lib.hid (HR5.out.below HB6.out)
      have HBN6 := Lib.hid (HBN5.out.below HB6.out)
      have HBW6 : Hid (Below w.heap.size w w6) := Lib.hid (HB5.out.trans (HB6.out.mono HB5.out.size))
      have HGQ : Hid (w.heap.size + 2 ≤ gq) := Lib.hid (by have := HWQ.out.ge.1; have := HR5.out.lt; omega)
      have hcl := HWQ.out.cell i hi
      have hfl := HWQ.out.frozen i
      have hall' : allB L' x = true := all_of (fun t ht => by
        rw [HL'.out] at ht ⊢
        rw [List.length_set] at ht
        rw [getD_set B.rows [] _ j t hjl]
        by_cases e : t = j
        · rw [if_pos e, List.length_set]; exact HLL.out
        · rw [if_neg e]; exact all_at HALL.out t ht)
      have hcol := column_any (some ⟨g, 0, none⟩) n c' x i (-1) ys L' w6 HBN6.out.zn HBN6.out.rw_ hall' hi
      obtain ⟨y, hy⟩ : ∃ y, y = colX L' i (-1) := ⟨_, rfl⟩
      rw [← hy] at hcol
      have HCOL := Lib.hid hcol
      have HY := Lib.hid hy
      have hy32 : y < 4294967296 := by rw [hy]; exact colK_lt _ _ _ HBN6.out.rw_.lt _ (Nat.le_refl _)
      clear g1 g1' g2 g3 hgq0 hgq1 hc6 k5 HS5 hcol hy hall' HK5 HR5 HB5 HW5
      have cK := HK6.out.c
      go_upto_region 10 with (first | (go_at_call 68; refine HCOL.out.mono ?_; rintro e w' ⟨rfl, rfl⟩))
      obtain ⟨w7, hw7⟩ : ∃ w7, w7 = w6.setCell ⟨gq, i, none⟩ (.int .u32 (y : Int)) := ⟨_, rfl⟩
      have HWQ7 : Hid (Wd w5.heap.size w7 gq x c6 (B.par.set i y)) := Lib.hid (by rw [hw7]; exact HWQ.out.set i y hy32)
      have HB7 : Hid (Below w5.heap.size w5 w7) := Lib.hid (by rw [hw7]; exact HB6.out.setCell (p := ⟨gq, i, none⟩) (by show w5.heap.size ≤ gq; exact HWQ.out.ge.1) _)
      have HK7 : Hid (Blk w7 w.heap.size #[.slice (some ⟨g, 0, none⟩) n c', .slice pp x cc, .int .i64 z]) := Lib.hid (by rw [hw7]; exact HK6.out.other _ (by have := HGQ.out; omega))
      have HR7 : Hid (Blk w7 (w.heap.size + 1) #[.slice none 0 0, .slice none 0 0, .int .i64 0]) := Lib.hid (by rw [hw7]; exact HR6.out.other _ (by have := HGQ.out; omega))
      have HBW7 : Hid (Below w.heap.size w w7) := Lib.hid (by rw [hw7]; exact HBW6.out.setCell (p := ⟨gq, i, none⟩) (by show w.heap.size ≤ gq; have := HGQ.out; omega) _)
      have HBN7 : Hid (Bn w7 (some ⟨g, 0, none⟩) n c' ys (some ⟨gq, 0, none⟩) x c6 ⟨L', B.par.set i y, B.lost⟩) := Lib.hid (by
        have hh := HBN5.out.below HB7.out
        exact ⟨hh.zn, hh.rw_, hh.cn, HWQ7.out.len, HWQ7.out.nm, HWQ7.out.cap, hh.m100⟩)
      have HOG : Hid (∀ R, R < w.heap.size + 2 → Off R (some ⟨b, off, none⟩) xs B.rows pp B.par → Off R (some ⟨g, 0, none⟩) ys L' (some ⟨gq, 0, none⟩) (B.par.set i y)) := Lib.hid (fun R hR ho => by
        have hh := HOF.out R hR ho
        exact ⟨hh.head, hh.rows, fun _ a e => by injection e with e; subst e; show gq ≠ R; have := HGQ.out; omega⟩)
      rw [← hw7]
      clear hw7 hcl hfl HWQ HB6 HK6 HR6 HBN6 HBN5 HBW6 cK HOF
      have cK := HK7.out.c
      have fK := HK7.out.f
      have lK := HK7.out.lt
      go_upto_region 11 with fail
      obtain ⟨w8, hw8⟩ : ∃ w8, w8 = w7.setCell ⟨w.heap.size, 1, none⟩ (.slice (some ⟨gq, 0, none⟩) x c6) := ⟨_, rfl⟩
      have HBN8 := Lib.hid (HBN7.out.set (HOG.out w.heap.size (by omega) HOK.out) 1 (.slice (some ⟨gq, 0, none⟩) x c6))
      have HK8 : Hid (Blk w8 w.heap.size #[.slice (some ⟨g, 0, none⟩) n c', .slice (some ⟨gq, 0, none⟩) x c6, .int .i64 z]) := Lib.hid (by rw [hw8]; exact HK7.out.set (n := 1) _ (by simp))
      have HR8 : Hid (Blk w8 (w.heap.size + 1) #[.slice none 0 0, .slice none 0 0, .int .i64 0]) := Lib.hid (by rw [hw8]; exact HR7.out.other _ (by omega))
      have HB8 : Hid (Below w.heap.size w w8) := Lib.hid (by rw [hw8]; exact HBW7.out.setCell (p := ⟨w.heap.size, 1, none⟩) (Nat.le_refl _) _)
      rw [← hw8] at HBN8 ⊢
      clear hw8 cK fK lK HK7 HR7 HBW7 HBN7 HB7 HWQ7
      have cK := HK8.out.c
      have cR := HR8.out.c
      have fR := HR8.out.f
      have lR := HR8.out.lt
      have HEQ : Hid (B' = ⟨L', B.par.set i y, B.lost⟩) := Lib.hid (by rw [HBP.out, HY.out, HL'.out, HL.out])
      go_wp2_with fail
      refine bodyPost_ret (v := .tuple #[.agg #[.slice (some ⟨g, 0, none⟩) n c', .slice (some ⟨gq, 0, none⟩) x c6, .int .i64 z], .int .i64 0]) (by simp [results, Try.results84, go_sem, *]) rfl ⟨some ⟨g, 0, none⟩, n, c', ys, some ⟨gq, 0, none⟩, x, c6, by rw [HEQ.out, HZ.out], ?_, set3_below HB8.out (by omega) _ _ _, ?_⟩
      all_goals rw [HEQ.out]
      rotate_left
      · exact fun R hR ho => HOG.out R (by omega) ho
      exact HBN8.out.set3 (HOG.out (w.heap.size + 1) (by omega) HOR.out) _ _ _
    · have hz0' : (z != 0) = true := by simpa using hz0
      have hB : B' = B := by rw [HB'.out]; unfold writeB; rw [hW, if_pos rfl, if_neg (by rw [← HZ.out]; exact hz0)]
      have hE : E = 8 := by rw [HE.out]; unfold writeE; rw [hW, if_pos rfl, if_neg (by rw [← HZ.out]; exact hz0)]
      subst hB hE
      clear hz0 h0 h1
      go_wp2_with fail
      refine bodyPost_ret (v := .tuple #[.agg #[.slice p n c, .slice pp m cc, .int .i64 z], .int .i64 8]) (by simp [results, Try.results84, go_sem, *]) rfl ⟨p, n, c, xs, pp, m, cc, by rw [HZ.out], HH1.out.set3 HOR.out _ _ _, set3_below HB1.out (by omega) _ _ _, fun R _ h => h⟩
end Go.Proofs.Ytflakmabciokbaa
/- The document's own Rebuild; no condition but that the banks read. -/
namespace Go.Proofs.Ytflakmabciokbaa
set_option linter.unusedVariables false
open Go.ChangeShapes Go.WideShapes Go.ChangeAt Go.RowKit

def lostL (B : Bk) (k : Nat) (j : Nat) : List Nat := (List.range j).map fun a => B.par.getD a 0 ^^^ colX B.rows a (k : Int)
theorem lostL_len (B : Bk) (k j : Nat) : (lostL B k j).length = j := by unfold lostL; simp
theorem lostL_succ (B : Bk) (k j : Nat) : lostL B k (j + 1) = lostL B k j ++ [B.par.getD j 0 ^^^ colX B.rows j (k : Int)] := by unfold lostL; rw [List.range_succ, List.map_append]; rfl
theorem lostL_back {B : Bk} {k : Nat} (hr : rightB B = true) (hk : B.lost = (k : Int) + 1) : lostL B k B.par.length = backL B := by
  have hkl : k < B.rows.length := by have := right_inv hr; omega
  unfold lostL backL
  refine List.map_congr_left fun a ha => ?_
  have hz := fine_zero hr (by omega) a
  rw [show (B.lost - 1).toNat = k by omega] at hz
  rw [colX_but B.rows a k hkl, hz, Nat.xor_zero]
theorem blk_sl {w : World} {B n : Nat} {l : List Value} (h : Blk w B l.toArray) : Sl w (some ⟨B, 0, none⟩) n l := fun _ => ⟨B, 0, h.lt, rfl, fun j hj => by rw [Nat.zero_add, h.c]; simp⟩

set_option maxHeartbeats 8000000 in
theorem rrebuild_any (p : Option Addr) (n c : Nat) (xs : List Value) (pp : Option Addr) (m cc : Nat) (B : Bk) (w : World) (h : Bn w p n c xs pp m cc B) :
    Calls Try.prog 28 #[.agg #[.slice p n c, .slice pp m cc, .int .i64 B.lost]] w fun e w' => ROut w w' (fun R => Off R p xs B.rows pp B.par) e (rebuildB B) (rebuildE B) := by
  have hri := fun w' hb => rright_any p n c xs pp m cc B w' (h.below hb)
  obtain ⟨z, hz⟩ : ∃ z, z = B.lost := ⟨_, rfl⟩
  obtain ⟨r, hr⟩ : ∃ r, r = rightB B := ⟨_, rfl⟩
  rw [← hr, ← hz] at hri
  rw [← hz]
  have HRI := Lib.hid hri
  have HZ := Lib.hid hz
  have HR := Lib.hid hr
  have HH := Lib.hid h
  obtain ⟨B', hB'⟩ : ∃ B', B' = rebuildB B := ⟨_, rfl⟩
  obtain ⟨E, hE⟩ : ∃ E, E = rebuildE B := ⟨_, rfl⟩
  rw [← hB', ← hE]
  have HB' := Lib.hid hB'
  have HE := Lib.hid hE
  have hm := h.m100
  have hn := h.n100
  obtain ⟨i6, hi6, hz60, hz61, hz62⟩ := info_parts info26
  have HI6 := Lib.hid (And.intro hi6 (And.intro hz60 (And.intro hz61 hz62)))
  clear h hri hz hr hB' hE hi6 hz60 hz61 hz62
  go_enter Try.func28, Try.ntmps28
  have HBA : Hid (Below w.heap.size w ((w.alloc (.cells #[.slice p n c, .slice pp m cc, .int .i64 z] 25)).alloc (.cells #[.slice none 0 0, .slice none 0 0, .int .i64 0] 25))) := Lib.hid (((Below.refl _ _).alloc (Nat.le_refl _) _).alloc (by simp) _)
  go_wp2_with fail
  refine (HRI.out _ HBA.out).mono ?_
  rintro e w1 ⟨rfl, hb1⟩
  have HK1 : Hid (Blk w1 w.heap.size #[.slice p n c, .slice pp m cc, .int .i64 z]) := Lib.hid (Blk.track2 hb1)
  have HR1 : Hid (Blk w1 (w.heap.size + 1) #[.slice none 0 0, .slice none 0 0, .int .i64 0]) := Lib.hid (by simpa using Blk.track1 hb1)
  have HB1 : Hid (Below w.heap.size w w1) := Lib.hid (HBA.out.trans (hb1.mono HBA.out.size))
  have HH1 := Lib.hid (HH.out.below HB1.out)
  clear hb1 HBA HRI
  have cK := HK1.out.c
  have cR := HR1.out.c
  have fR := HR1.out.f
  have lR := HR1.out.lt
  have HOR : Hid (Off (w.heap.size + 1) p xs B.rows pp B.par) := Lib.hid (HH.out.off (by omega))
  have HOK : Hid (Off w.heap.size p xs B.rows pp B.par) := Lib.hid (HH.out.off (Nat.le_refl _))
  cases r with
  | false =>
    have hB : B' = B := by rw [HB'.out]; unfold rebuildB; rw [← HR.out]; rfl
    have hE : E = 1 := by rw [HE.out]; unfold rebuildE; rw [← HR.out]; rfl
    subst hB hE
    go_wp2_with fail
    refine bodyPost_ret (v := .tuple #[.agg #[.slice p n c, .slice pp m cc, .int .i64 z], .int .i64 1]) (by simp [results, Try.results28, go_sem, *]) rfl ⟨p, n, c, xs, pp, m, cc, by rw [HZ.out], HH1.out.set3 HOR.out _ _ _, set3_below HB1.out (by omega) _ _ _, fun R _ h => h⟩
  | true =>
    by_cases hz0 : z = 0
    · have hz0' : (z == 0) = true := by simpa using hz0
      have hB : B' = B := by rw [HB'.out]; unfold rebuildB; rw [← HR.out, if_pos rfl, if_pos (by rw [← HZ.out]; exact hz0)]
      have hE : E = 8 := by rw [HE.out]; unfold rebuildE; rw [← HR.out, if_pos rfl, if_pos (by rw [← HZ.out]; exact hz0)]
      subst hB hE
      clear hz0
      go_wp2_with fail
      refine bodyPost_ret (v := .tuple #[.agg #[.slice p n c, .slice pp m cc, .int .i64 z], .int .i64 8]) (by simp [results, Try.results28, go_sem, *]) rfl ⟨p, n, c, xs, pp, m, cc, by rw [HZ.out], HH1.out.set3 HOR.out _ _ _, set3_below HB1.out (by omega) _ _ _, fun R _ h => h⟩
    · have hri := right_inv HR.out.symm
      have hbk : ∀ k : Nat, z = (k : Int) + 1 → lostL B k m = backL B := fun k e => by rw [← HH.out.zm]; exact lostL_back HR.out.symm (by rw [← HZ.out]; exact e)
      rw [HH.out.zn, HH.out.zm, ← HZ.out] at hri
      obtain ⟨k, hk⟩ : ∃ k : Nat, z = (k : Int) + 1 := ⟨(z - 1).toNat, by omega⟩
      have hbk2 := hbk k hk
      subst hk
      have hkn : k < n := by omega
      have HALL : Hid (allB B.rows m = true) := Lib.hid hri.2.2.2.2.1
      have hm1 : 1 ≤ m := hri.2.2.1
      have hB : B' = ⟨B.rows.set k (lostL B k m), B.par, 0⟩ := by
        rw [HB'.out, hbk2]; unfold rebuildB
        rw [← HR.out, if_pos rfl, if_neg (by rw [← HZ.out]; omega), ← HZ.out]
        congr 2
        omega
      have hE : E = 0 := by rw [HE.out]; unfold rebuildE; rw [← HR.out, if_pos rfl, if_neg (by rw [← HZ.out]; omega)]
      subst hE
      have hz0' : ((k : Int) + 1 == 0) = false := by simp; omega
      have e4 : (k : Int) + 1 - 1 = (k : Int) := by omega
      have wk : IntKind.i64.wrap (k : Int) = (k : Int) := by rw [IntKind.wrap_i64]; omega
      have HBP := Lib.hid hB
      have HN1 : Hid (w.heap.size + 2 ≤ w1.heap.size) := Lib.hid (by have := HR1.out.lt; omega)
      clear hri hbk hbk2 hB hz0
      go_upto_region 6 with fail
      go_wp2_with fail
      clear cK cR fR lR
      go_loopw [4, 5] (fun s t wr => ∃ j : Nat, j ≤ m ∧ t = .int .i64 j ∧ wr.ownsRow w1.heap.size 29 1 s j (u32C (lostL B k j)) ∧ Blk wr w.heap.size #[.slice p n c, .slice pp m cc, .int .i64 ((k : Int) + 1)] ∧ Blk wr (w.heap.size + 1) #[.slice none 0 0, .slice none 0 0, .int .i64 0] ∧ w1.heap.size ≤ wr.heap.size ∧ Below w.heap.size w wr) (fun _ t _ => m - (intOf t).toNat)
      case atStart => exact ⟨0, Nat.zero_le _, rfl, World.ownsRow_nil _ _ _ _, HK1.out, HR1.out, Nat.le_refl _, HB1.out⟩
      case round =>
        obtain ⟨j, hj, rfl, ho, hkk, hrr, hws, hb⟩ := hrel
        have HO := Lib.hid ho
        have HK := Lib.hid hkk
        have HRR := Lib.hid hrr
        have HWS := Lib.hid hws
        have HB := Lib.hid hb
        obtain ⟨pv, cv, rfl, hcv⟩ := own_cap ho
        have HCV := Lib.hid hcv
        clear ho hkk hrr hws hb HK1 HR1 HB1 HH1 hcv
        have cK := HK.out.c
        by_cases hlt : j < m
        · have hltI : decide ((j : Int) < m) = true := decide_eq_true (by omega)
          have hjI : (0 : Int) ≤ (j : Int) := by omega
          have hjI2 : (j : Int) < (m : Int) := by omega
          have HHR := Lib.hid (HH.out.below HB.out)
          obtain ⟨b2, off2, hb2, hq, hc2⟩ := HHR.out.nm.cellAt j (by rw [HH.out.zm]; exact hlt)
          subst hq
          have HC2 := Lib.hid hc2
          have HB2L := Lib.hid hb2
          have hcol := fun W hb => column_any p n c m j (k : Int) xs B.rows W HH.out.zn ((HHR.out.rw_.below hb)) HALL.out hlt
          have hp32 := HHR.out.nm.getD_lt j
          have hc32 := colK_lt B.rows j (k : Int) HHR.out.rw_.lt B.rows.length (Nat.le_refl _)
          have hsucc := lostL_succ B k j
          obtain ⟨x, hx⟩ : ∃ x, x = B.par.getD j 0 := ⟨_, rfl⟩
          obtain ⟨y, hy⟩ : ∃ y, y = colX B.rows j (k : Int) := ⟨_, rfl⟩
          have hy' : colK B.rows j (k : Int) B.rows.length = y := by rw [hy]; rfl
          rw [hy'] at hc32
          rw [← hx, ← hy] at hsucc
          rw [← hx] at hp32 HC2
          rw [← hy] at hcol
          have HCOL := Lib.hid hcol
          have HSU := Lib.hid hsucc
          have hxor : bits .xor .u32 (x : Int) (y : Int) = ((x ^^^ y : Nat) : Int) := u32_xor_nat x y (by omega) (by omega)
          clear hcol hsucc hx hy hy' hb2 hc2
          go_upto_region 9 with fail
          refine region_plan (fun w' : World => ((∀ j, w'.cell? ⟨w.heap.size, j, none⟩ = (#[.slice p n c, .slice (some ⟨b2, off2, none⟩) m cc, .int .i64 ((k : Int) + 1)] : Array Value)[j]?) ∧ w'.cell? ⟨b2, off2 + j, none⟩ = some (.int .u32 (x : Int))) ∧ Below wr.heap.size wr w') 15 [(0, true), (1, true), (2, true), (3, true), (4, true), (5, true), (6, true), (7, true), (8, true), (9, true), (10, true), (11, true), (12, false), (13, true), (14, false)] (by kernel_rfl) (by kernel_rfl) ⟨⟨HK.out.drew.c, HC2.out⟩, (Below.refl _ _).drew⟩ ?_
          iterate 12
            refine plan_read (v := ?_) rfl (by rfl) ?_ ?_
            rotate_left
            · intro w' hS
              try dsimp only at hS
              obtain ⟨⟨hS1, hS2⟩, hS3⟩ := hS
              go_simp
              try with_reducible rfl
            try simp only [Act.put, List.setIfInBounds_toArray, List.set_cons_zero, List.set_cons_succ, List.getElem_toArray, List.getElem_cons_zero, List.getElem_cons_succ]
          refine plan_call (F := 68) (args := ?_) rfl (by rfl) ?_ ?_
          rotate_left
          · go_simp
            rfl
          refine (HCOL.out wr.drew ((Below.refl _ _).drew)).mono ?_
          rintro e w2 ⟨rfl, rfl⟩
          refine ⟨_, rfl, ⟨⟨HK.out.drew.c, HC2.out⟩, (Below.refl _ _).drew⟩, ?_⟩
          try simp only [Act.put, List.setIfInBounds_toArray, List.set_cons_zero, List.set_cons_succ, List.getElem_toArray, List.getElem_cons_zero, List.getElem_cons_succ]
          refine plan_read (v := .int .u32 ((x ^^^ y : Nat) : Int)) rfl (by rfl) (fun w' hS => by go_simp) ?_
          try simp only [Act.put, List.setIfInBounds_toArray, List.set_cons_zero, List.set_cons_succ, List.getElem_toArray, List.getElem_cons_zero, List.getElem_cons_succ]
          have HBA : Hid (Below wr.heap.size wr (wr.drew.alloc (.cells #[.int .u32 ((x ^^^ y : Nat) : Int)] 29))) := Lib.hid ((Below.refl _ _).drew.alloc (Nat.le_refl _) _)
          refine plan_make (v := .slice (some ⟨wr.heap.size, 0, none⟩) 1 1) (w1 := wr.drew.alloc (.cells #[.int .u32 ((x ^^^ y : Nat) : Int)] 29)) rfl (by rfl) (by go_simp) ⟨⟨(HK.out.below HBA.out).c, (HBA.out.cell (p := ⟨b2, off2 + j, none⟩) HB2L.out).trans HC2.out⟩, HBA.out⟩ ?_
          try simp only [Act.put, List.setIfInBounds_toArray, List.set_cons_zero, List.set_cons_succ, List.getElem_toArray, List.getElem_cons_zero, List.getElem_cons_succ]
          refine plan_nil ?_
          simp only [List.drop_succ_cons, List.drop_zero]
          have HNW : Hid (Blk (wr.drew.alloc (.cells #[.int .u32 ((x ^^^ y : Nat) : Int)] 29)) wr.heap.size [Value.int .u32 ((x ^^^ y : Nat) : Int)].toArray) := Lib.hid (Blk.new wr.drew _ _)
          have HK6 := Lib.hid (HK.out.below HBA.out)
          have HR6 := Lib.hid (HRR.out.below HBA.out)
          have HO6 := Lib.hid (own_below HO.out HBA.out)
          have HB6 : Hid (Below w.heap.size w (wr.drew.alloc (.cells #[.int .u32 ((x ^^^ y : Nat) : Int)] 29))) := Lib.hid (HB.out.trans (HBA.out.mono HB.out.size))
          have HS6 : Hid (w1.heap.size ≤ (wr.drew.alloc (.cells #[.int .u32 ((x ^^^ y : Nat) : Int)] 29)).heap.size) := Lib.hid (Nat.le_trans HWS.out HBA.out.size)
          obtain ⟨w6, hw6⟩ : ∃ w6, w6 = wr.drew.alloc (.cells #[.int .u32 ((x ^^^ y : Nat) : Int)] 29) := ⟨_, rfl⟩
          rw [← hw6] at HNW HK6 HR6 HO6 HB6 HS6 ⊢
          clear hw6 HBA HK HRR HO HB cK HHR HC2
          go_wp2_with (first | (at_builtin; refine wpList_append_sl rfl _ _ 23 rfl w1.heap.size 29 i6 (.int .u32 0) 1 4 Try.underlying23 HI6.out.1 HI6.out.2.1 HI6.out.2.2.1 HI6.out.2.2.2 rfl (by decide) _ j (u32C (lostL B k j)) rfl HO6.out (some ⟨wr.heap.size, 0, none⟩) 1 1 [.int .u32 ((x ^^^ y : Nat) : Int)] rfl rfl (blk_sl HNW.out) (by intro u hu; rw [List.mem_singleton.1 hu]; rfl) (by unfold maxLen; omega) (by omega) HS6.out ?_))
          intro v7 w7 g1 g2 g3
          have hob : ∀ g, (Value.slice pv j cv).ownBlock = some g → w1.heap.size ≤ g := fun g e => (HO6.out.lt g e).1
          have HO7 : Hid (w7.ownsRow w1.heap.size 29 1 v7 (j + 1) (u32C (lostL B k (j + 1)))) := Lib.hid (by
            rw [HSU.out, ← u32C_app]
            exact g1)
          have HK7 := Lib.hid (HK6.out.grown g2 (fun e => by have := hob _ e; have := HN1.out; omega))
          have HR7 := Lib.hid (HR6.out.grown g2 (fun e => by have := hob _ e; have := HN1.out; omega))
          have HB7 : Hid (Below w.heap.size w w7) := Lib.hid (HB6.out.grown g2 HB6.out.size (fun g e => by have := hob g e; have := HN1.out; omega))
          have HS7 : Hid (w1.heap.size ≤ w7.heap.size) := Lib.hid (Nat.le_trans HS6.out g2.size)
          obtain ⟨p7, c7, rfl, _⟩ := own_cap g1
          clear g1 g2 g3 hob
          go_wp2_with fail
          go_roundw
          case rel => exact ⟨j + 1, by omega, by go_num, HO7.out, HK7.out, HR7.out, HS7.out, HB7.out⟩
          case measure => simp [intOf]; omega
        · have hltI : decide ((j : Int) < m) = false := decide_eq_false (by omega)
          have hjm : j = m := by omega
          subst hjm
          obtain ⟨LB, hLB⟩ : ∃ LB, LB = lostL B k j := ⟨_, rfl⟩
          rw [← hLB] at HO HBP
          have HLL : Hid (LB.length = j) := Lib.hid (by rw [hLB, lostL_len])
          have HHR := Lib.hid (HH.out.below HB.out)
          have HLT : Hid (∀ y ∈ LB, y < 4294967296) := Lib.hid (fun y hy => by
            rw [hLB] at hy
            obtain ⟨a, ha, rfl⟩ := List.mem_map.1 hy
            exact xor_lt _ _ (HH.out.nm.getD_lt a) (colK_lt _ _ _ HH.out.rw_.lt _ (Nat.le_refl _)))
          have hnm := nm_own HO.out HLL.out HLT.out
          have hkl : k < B.rows.length := by rw [HH.out.zn]; exact hkn
          have hgv : ∀ b, (Value.slice pv j cv).ownBlock = some b → w1.heap.size ≤ b := fun b e => (HO.out.lt b e).1
          have HGV := Lib.hid hgv
          have hwith := with_any p n c xs pp j cc B k pv j cv LB wr HHR.out hkn ⟨pv, cv, by rw [HLL.out], by rw [HLL.out]; exact HCV.out, hnm⟩ hm
          rw [← HZ.out] at hwith
          clear hLB hnm hgv
          go_upto_region 10 with fail
          go_wp2_with fail
          refine hwith.mono ?_
          clear hwith
          rintro e w4 ⟨g, c', rfl, hbn, hb4, hg⟩
          have HBN4 := Lib.hid hbn
          have HK4 := Lib.hid (HK.out.below hb4)
          have HR4 := Lib.hid (HRR.out.below hb4)
          have HBW4 : Hid (Below w.heap.size w w4) := Lib.hid (HB.out.trans (hb4.mono HB.out.size))
          have HG : Hid (w.heap.size + 2 ≤ g) := Lib.hid (by have := HN1.out; have := HWS.out; omega)
          have HOF : Hid (∀ R, R < w.heap.size + 2 → Off R p xs B.rows pp B.par → Off R (some ⟨g, 0, none⟩) (xs.set k (.slice pv j cv)) (B.rows.set k LB) pp B.par) := Lib.hid (fun R hR ho =>
            ho.put HH.out.rw_.len hkl (by have := HG.out; omega) (fun b e => by have := HGV.out b e; have := HN1.out; omega))
          clear hbn hb4 hg cK HK HRR HB
          have cK := HK4.out.c
          have fK := HK4.out.f
          have lK := HK4.out.lt
          go_upto_region 11 with fail
          obtain ⟨w5, hw5⟩ : ∃ w5, w5 = ((w4.setCell ⟨w.heap.size, 0, none⟩ (.slice (some ⟨g, 0, none⟩) n c')).setCell ⟨w.heap.size, 1, none⟩ (.slice pp j cc)).setCell ⟨w.heap.size, 2, none⟩ (.int .i64 ((k : Int) + 1)) := ⟨_, rfl⟩
          have HBN5 := Lib.hid (HBN4.out.set3 (HOF.out w.heap.size (by omega) HOK.out) (.slice (some ⟨g, 0, none⟩) n c') (.slice pp j cc) (.int .i64 ((k : Int) + 1)))
          have HK5 : Hid (Blk w5 w.heap.size #[.slice (some ⟨g, 0, none⟩) n c', .slice pp j cc, .int .i64 ((k : Int) + 1)]) := Lib.hid (by rw [hw5]; exact set3_same HK4.out _ _ _)
          have HR5 : Hid (Blk w5 (w.heap.size + 1) #[.slice none 0 0, .slice none 0 0, .int .i64 0]) := Lib.hid (by rw [hw5]; exact set3_other HR4.out (by omega) _ _ _)
          have HB5 : Hid (Below w.heap.size w w5) := Lib.hid (by rw [hw5]; exact set3_below HBW4.out (Nat.le_refl _) _ _ _)
          rw [← hw5] at HBN5 ⊢
          clear hw5 cK fK lK HK4 HR4 HBW4 HBN4
          have cK := HK5.out.c
          have fK := HK5.out.f
          have lK := HK5.out.lt
          go_upto_region 12 with fail
          obtain ⟨w8, hw8⟩ : ∃ w8, w8 = w5.setCell ⟨w.heap.size, 2, none⟩ (.int .i64 0) := ⟨_, rfl⟩
          have HBN8 := Lib.hid (HBN5.out.set (HOF.out w.heap.size (by omega) HOK.out) 2 (.int .i64 0))
          have HK8 : Hid (Blk w8 w.heap.size #[.slice (some ⟨g, 0, none⟩) n c', .slice pp j cc, .int .i64 0]) := Lib.hid (by rw [hw8]; exact HK5.out.set (n := 2) _ (by simp))
          have HR8 : Hid (Blk w8 (w.heap.size + 1) #[.slice none 0 0, .slice none 0 0, .int .i64 0]) := Lib.hid (by rw [hw8]; exact HR5.out.other _ (by omega))
          have HB8 : Hid (Below w.heap.size w w8) := Lib.hid (by rw [hw8]; exact HB5.out.setCell (p := ⟨w.heap.size, 2, none⟩) (Nat.le_refl _) _)
          rw [← hw8] at HBN8 ⊢
          clear hw8 cK fK lK HK5 HR5 HB5 HBN5
          have cK := HK8.out.c
          have cR := HR8.out.c
          have fR := HR8.out.f
          have lR := HR8.out.lt
          go_wp2_with fail
          refine bodyPost_ret (v := .tuple #[.agg #[.slice (some ⟨g, 0, none⟩) n c', .slice pp j cc, .int .i64 0], .int .i64 0]) (by simp [results, Try.results28, go_sem, *]) rfl ⟨some ⟨g, 0, none⟩, n, c', xs.set k (.slice pv j cv), pp, j, cc, by rw [HBP.out], ?_, set3_below HB8.out (by omega) _ _ _, ?_⟩
          all_goals rw [HBP.out]
          rotate_left
          · exact fun R hR ho => HOF.out R (by omega) ho
          exact (HBN8.out.set3 (HOF.out (w.heap.size + 1) (by omega) HOR.out) _ _ _).lost _
end Go.Proofs.Ytflakmabciokbaa
/- The document's own New; rows that are laid one by one in memory of one's own; no condition. -/
namespace Go.Proofs.Ytflakmabciokbaa
set_option linter.unusedVariables false
open Go.ChangeShapes Go.WideShapes Go.ChangeAt Go.RowKit

theorem Nm.grown {w w' : World} {p : Option Addr} {l : List Nat} {row : Option Nat} (h : Nm w p l) (hg : w.grownBy w' row) (hne : ∀ a, p = some a → row ≠ some a.block) : Nm w' p l :=
  ⟨h.lt, fun h0 => by
    obtain ⟨b, off, h1, h2, h3⟩ := h.c h0
    refine ⟨b, off, Nat.lt_of_lt_of_le h1 hg.size, h2, fun k hk => ?_⟩
    rw [World.cell?_of_block (hg.block b h1 (fun e => hne _ h2 e.symm))]
    exact h3 k hk⟩
theorem rs_grown {w w' : World} {v : Value} {l : List Nat} {row : Option Nat} (h : Rs w v l) (hg : w.grownBy w' row) (hne : ∀ g, v.ownBlock = some g → row ≠ some g) : Rs w' v l := by
  obtain ⟨p, c, rfl, hc, hn⟩ := h
  exact ⟨p, c, rfl, hc, hn.grown hg (fun a e => hne a.block (by rw [e]; rfl))⟩
theorem Wd.grown {base : Nat} {w w' : World} {g m c : Nat} {l : List Nat} {row : Option Nat} (h : Wd base w g m c l) (hg : w.grownBy w' row) (hne : row ≠ some g) : Wd base w' g m c l :=
  ⟨h.row.kept hg (.inr (fun e => hne e.symm)), h.len, h.lt⟩
/-- Rows that are laid one by one in memory of one's own. -/
structure OwnG (base : Nat) (w : World) (v : Value) (ys : List Value) (L : List (List Nat)) : Prop where
  row : w.ownsRow base 23 1 v L.length ys
  rs : ∀ k, k < L.length → Rs w (ys.getD k vz) (L.getD k [])
  bl : ∀ k, k < L.length → ∀ g, (ys.getD k vz).ownBlock = some g → base ≤ g ∧ g < w.heap.size ∧ v.ownBlock ≠ some g
theorem OwnG.rw_ {base : Nat} {w : World} {v : Value} {ys : List Value} {L : List (List Nat)} (h : OwnG base w v ys L) (hn : L.length ≤ 100) (hl : ∀ l ∈ L, l.length ≤ 100) : ∃ p c, v = .slice p L.length c ∧ L.length ≤ c ∧ Rw w p ys L := by
  obtain ⟨p, c, rfl, hs⟩ := Sl.own h.row
  obtain ⟨p', c', e, hc⟩ := own_cap h.row
  injection e with _ _ e
  subst e
  exact ⟨p, c, rfl, hc, by rw [h.row.1, Nat.mul_one], hs, h.rs, hn, hl⟩
theorem OwnG.step {base : Nat} {w w6 w7 : World} {v v7 r : Value} {ys : List Value} {L : List (List Nat)} {l : List Nat} (h : OwnG base w v ys L) (hbase : base ≤ w.heap.size) (hb : Below w.heap.size w w6) (hr : w6.ownsRow w.heap.size 29 1 r l.length (u32C l)) (hl : ∀ x ∈ l, x < 4294967296)
    (g1 : w7.ownsRow base 23 1 v7 (L.length + 1) (ys ++ [r])) (g2 : w6.grownBy w7 v.ownBlock) (g3 : v7.ownBlock = v.ownBlock ∨ v7.ownBlock = some w6.heap.size) : OwnG base w7 v7 (ys ++ [r]) (L ++ [l]) := by
  have hys : ys.length = L.length := by rw [h.row.1, Nat.mul_one]
  have hv : ∀ g, v.ownBlock = some g → g < w.heap.size := fun g e => (h.row.lt g e).2
  refine ⟨by rw [List.length_append]; exact g1, fun k hk => ?_, fun k hk g e => ?_⟩
  · rw [List.length_append] at hk
    simp at hk
    rw [getD_append1, getD_append1, hys]
    by_cases hkl : k < L.length
    · rw [if_pos hkl, if_pos hkl]
      exact rs_grown ((h.rs k hkl).below hb) g2 (fun g e => (h.bl k hkl g e).2.2)
    · rw [if_neg hkl, if_neg hkl, if_pos (by omega), if_pos (by omega)]
      exact rs_grown (Wv.rs hr hl) g2 (fun g e e2 => by have h1 := (hr.lt g e).1; have h2 := hv g e2; omega)
  · rw [List.length_append] at hk
    simp at hk
    rw [getD_append1, hys] at e
    by_cases hkl : k < L.length
    · rw [if_pos hkl] at e
      obtain ⟨h1, h2, h3⟩ := h.bl k hkl g e
      refine ⟨h1, Nat.lt_of_lt_of_le h2 (Nat.le_trans hb.size g2.size), fun e2 => ?_⟩
      rcases g3 with g3 | g3
      · rw [g3] at e2; exact h3 e2
      · rw [g3] at e2; injection e2 with e2; have := hb.size; omega
    · rw [if_neg hkl, if_pos (by omega)] at e
      have h1 := hr.lt g e
      refine ⟨by omega, Nat.lt_of_lt_of_le h1.2 g2.size, fun e2 => ?_⟩
      rcases g3 with g3 | g3
      · rw [g3] at e2; have := hv g e2; omega
      · rw [g3] at e2; injection e2 with e2; omega
theorem OwnG.below {base : Nat} {w w' : World} {v : Value} {ys : List Value} {L : List (List Nat)} (h : OwnG base w v ys L) (hb : Below w.heap.size w w') : OwnG base w' v ys L :=
  ⟨own_below h.row hb, fun k hk => (h.rs k hk).below hb, fun k hk g e => by obtain ⟨h1, h2, h3⟩ := h.bl k hk g e; exact ⟨h1, Nat.lt_of_lt_of_le h2 hb.size, h3⟩⟩
theorem OwnG.off {base : Nat} {w : World} {v : Value} {ys : List Value} {L : List (List Nat)} (h : OwnG base w v ys L) {R : Nat} (hR : R < base) (j : Nat) (u : Value) : OwnG base (w.setCell ⟨R, j, none⟩ u) v ys L := by
  refine ⟨own_off h.row (fun g e => by have := (h.row.lt g e).1; omega) j u, fun k hk => ?_, fun k hk g e => ?_⟩
  · have hg : w.grownBy (w.setCell ⟨R, j, none⟩ u) (some R) := ⟨rfl, rfl, rfl, by simp, fun k _ hk => heap_setCell_other w ⟨R, j, none⟩ k u (fun e => hk (by simp [e]))⟩
    exact rs_grown (h.rs k hk) hg (fun g e e2 => by injection e2 with e2; have := (h.bl k hk g e).1; omega)
  · obtain ⟨h1, h2, h3⟩ := h.bl k hk g e
    exact ⟨h1, by simpa using h2, h3⟩
theorem OwnG.none (base : Nat) (w : World) : OwnG base w (.slice none 0 0) [] [] := ⟨World.ownsRow_nil _ _ _ _, fun k hk => absurd hk (Nat.not_lt_zero _), fun k hk => absurd hk (Nat.not_lt_zero _)⟩

set_option maxHeartbeats 8000000 in
theorem rnew_any (n m : Int) (w : World) : Calls Try.prog 55 #[.int .i64 n, .int .i64 m] w fun e w' => ROut w w' (fun _ => True) e (newB n m) (newE n m) := by
  obtain ⟨B, hB⟩ : ∃ B, B = newB n m := ⟨_, rfl⟩
  obtain ⟨E, hE⟩ : ∃ E, E = newE n m := ⟨_, rfl⟩
  rw [← hB, ← hE]
  have HNO : Hid (¬ (1 ≤ n ∧ n ≤ 8 ∧ 1 ≤ m ∧ m ≤ 64) → B = ⟨[], [], 0⟩ ∧ E = 1) := Lib.hid (fun hh => by
    have e : mayN n m = false := by unfold mayN; exact decide_eq_false hh
    rw [hB, hE]; unfold newB newE; rw [e]; exact ⟨rfl, rfl⟩)
  have HYES : Hid (1 ≤ n ∧ n ≤ 8 ∧ 1 ≤ m ∧ m ≤ 64 → B = ⟨List.replicate n.toNat (List.replicate m.toNat 0), List.replicate m.toNat 0, 0⟩ ∧ E = 0) := Lib.hid (fun hh => by
    have e : mayN n m = true := by unfold mayN; exact decide_eq_true hh
    rw [hB, hE]; unfold newB newE; rw [e]; exact ⟨rfl, rfl⟩)
  clear hB hE
  have HBN : Hid (Bn (w.alloc (.cells #[.slice none 0 0, .slice none 0 0, .int .i64 0] 25)) none 0 0 [] none 0 0 ⟨[], [], 0⟩) := Lib.hid ⟨rfl, Rw.nil _ _, Nat.le_refl _, rfl, ⟨fun _ h => (by cases h), fun h => absurd h (by decide)⟩, Nat.le_refl _, by decide⟩
  have HB0 : Hid (Below w.heap.size w (w.alloc (.cells #[.slice none 0 0, .slice none 0 0, .int .i64 0] 25))) := Lib.hid ((Below.refl _ _).alloc (Nat.le_refl _) _)
  go_enter Try.func55, Try.ntmps55
  by_cases h1 : n < 1
  · have d1 : decide (n < 1) = true := decide_eq_true h1
    obtain ⟨hB, hE⟩ := HNO.out (by omega)
    subst hB hE
    clear h1
    go_wp2_with fail
    exact bodyPost_ret (v := .tuple #[.agg #[.slice none 0 0, .slice none 0 0, .int .i64 0], .int .i64 1]) (by simp [results, Try.results55, go_sem, *]) rfl ⟨none, 0, 0, [], none, 0, 0, rfl, HBN.out, HB0.out, fun R _ _ => ⟨fun h => absurd h (by decide), fun k h => absurd h (Nat.not_lt_zero _), fun h => absurd h (by decide)⟩⟩
  have d1 : decide (n < 1) = false := decide_eq_false h1
  by_cases h2 : 8 < n
  · have d2 : decide (8 < n) = true := decide_eq_true h2
    obtain ⟨hB, hE⟩ := HNO.out (by omega)
    subst hB hE
    clear h1 h2
    go_wp2_with fail
    exact bodyPost_ret (v := .tuple #[.agg #[.slice none 0 0, .slice none 0 0, .int .i64 0], .int .i64 1]) (by simp [results, Try.results55, go_sem, *]) rfl ⟨none, 0, 0, [], none, 0, 0, rfl, HBN.out, HB0.out, fun R _ _ => ⟨fun h => absurd h (by decide), fun k h => absurd h (Nat.not_lt_zero _), fun h => absurd h (by decide)⟩⟩
  have d2 : decide (8 < n) = false := decide_eq_false h2
  by_cases h3 : m < 1
  · have d3 : decide (m < 1) = true := decide_eq_true h3
    obtain ⟨hB, hE⟩ := HNO.out (by omega)
    subst hB hE
    clear h1 h2 h3
    go_wp2_with fail
    exact bodyPost_ret (v := .tuple #[.agg #[.slice none 0 0, .slice none 0 0, .int .i64 0], .int .i64 1]) (by simp [results, Try.results55, go_sem, *]) rfl ⟨none, 0, 0, [], none, 0, 0, rfl, HBN.out, HB0.out, fun R _ _ => ⟨fun h => absurd h (by decide), fun k h => absurd h (Nat.not_lt_zero _), fun h => absurd h (by decide)⟩⟩
  have d3 : decide (m < 1) = false := decide_eq_false h3
  by_cases h4 : 64 < m
  · have d4 : decide (64 < m) = true := decide_eq_true h4
    obtain ⟨hB, hE⟩ := HNO.out (by omega)
    subst hB hE
    clear h1 h2 h3 h4
    go_wp2_with fail
    exact bodyPost_ret (v := .tuple #[.agg #[.slice none 0 0, .slice none 0 0, .int .i64 0], .int .i64 1]) (by simp [results, Try.results55, go_sem, *]) rfl ⟨none, 0, 0, [], none, 0, 0, rfl, HBN.out, HB0.out, fun R _ _ => ⟨fun h => absurd h (by decide), fun k h => absurd h (Nat.not_lt_zero _), fun h => absurd h (by decide)⟩⟩
  have d4 : decide (64 < m) = false := decide_eq_false h4
  obtain ⟨hB, hE⟩ := HYES.out (by omega)
  subst hE
  obtain ⟨N, rfl⟩ := Int.eq_ofNat_of_zero_le (show 0 ≤ n by omega)
  obtain ⟨M, rfl⟩ := Int.eq_ofNat_of_zero_le (show 0 ≤ m by omega)
  simp only [Int.toNat_natCast] at hB
  have hN1 : 1 ≤ N := by omega
  have hN8 : N ≤ 8 := by omega
  have hM1 : 1 ≤ M := by omega
  have hM64 : M ≤ 64 := by omega
  have HBE := Lib.hid hB
  obtain ⟨i6, hi6, hz60, hz61, hz62⟩ := info_parts info26
  have HI6 := Lib.hid (And.intro hi6 (And.intro hz60 (And.intro hz61 hz62)))
  obtain ⟨i3, hi3, hz30, hz31, hz32⟩ := info_parts info23
  have HI3 := Lib.hid (And.intro hi3 (And.intro hz30 (And.intro hz31 hz32)))
  have HK0 : Hid (Blk (w.alloc (.cells #[.slice none 0 0, .slice none 0 0, .int .i64 0] 25)) w.heap.size #[.slice none 0 0, .slice none 0 0, .int .i64 0]) := Lib.hid (Blk.new _ _ _)
  clear hi6 hz60 hz61 hz62 hi3 hz30 hz31 hz32 HNO HYES HBN h1 h2 h3 h4 hB
  go_upto_region 3 with fail
  obtain ⟨w0, hw0⟩ : ∃ w0, w0 = w.alloc (.cells #[.slice none 0 0, .slice none 0 0, .int .i64 0] 25) := ⟨_, rfl⟩
  have HSZ : Hid (w0.heap.size = w.heap.size + 1) := Lib.hid (by rw [hw0]; exact World.size_alloc _ _)
  rw [← hw0] at HK0 HB0 ⊢
  clear hw0 d1 d2 d3 d4
  go_upto_region 4 with (first | (refine wpList_make_full _ rfl _ _ 23 rfl w0.heap.size 29 i6 (.int .u32 0) 1 Try.underlying23 HI6.out.1 HI6.out.2.1 HI6.out.2.2.1 .i64 .i64 M M M rfl rfl rfl rfl (by rw [HI6.out.2.2.2]; omega) (by unfold maxLen; omega) (Nat.le_refl _) ?_))
  intro w1 g1 g2
  have HW1 := Lib.hid (Wd.made g1)
  have HB1 : Hid (Below w0.heap.size w0 w1) := Lib.hid ((Below.refl _ _).grown g2 (Nat.le_refl _) (fun k hk => by cases hk))
  have HK1 := Lib.hid (HK0.out.below HB1.out)
  have HBW : Hid (Below w.heap.size w w1) := Lib.hid (HB0.out.trans (HB1.out.mono HB0.out.size))
  have HGE : Hid (w.heap.size + 1 ≤ w0.heap.size) := Lib.hid (Nat.le_of_eq HSZ.out.symm)
  obtain ⟨gp, hgp⟩ : ∃ g, g = w0.heap.size := ⟨_, rfl⟩
  rw [← hgp] at HW1 HGE ⊢
  clear g1 g2 hgp HB0 HB1 HK0 HSZ
  go_upto_region 4 with fail
  have HKB2 : Hid (Blk (w1.alloc (.cells #[.slice none 0 0, .slice (some ⟨gp, 0, none⟩) M M, .int .i64 0] 25)) w1.heap.size #[.slice none 0 0, .slice (some ⟨gp, 0, none⟩) M M, .int .i64 0]) := Lib.hid (Blk.new _ _ _)
  have HBA : Hid (Below w1.heap.size w1 (w1.alloc (.cells #[.slice none 0 0, .slice (some ⟨gp, 0, none⟩) M M, .int .i64 0] 25))) := Lib.hid ((Below.refl _ _).alloc (Nat.le_refl _) _)
  have HKR2 := Lib.hid (HK1.out.below HBA.out)
  have HW2 := Lib.hid (HW1.out.below HBA.out)
  have HB2 : Hid (Below w.heap.size w (w1.alloc (.cells #[.slice none 0 0, .slice (some ⟨gp, 0, none⟩) M M, .int .i64 0] 25))) := Lib.hid (HBW.out.trans (HBA.out.mono HBW.out.size))
  have HGB : Hid (gp < w1.heap.size) := Lib.hid HW1.out.ge.2
  have HS2 : Hid ((w1.alloc (.cells #[.slice none 0 0, .slice (some ⟨gp, 0, none⟩) M M, .int .i64 0] 25)).heap.size = w1.heap.size + 1) := Lib.hid (World.size_alloc _ _)
  obtain ⟨w2, hw2⟩ : ∃ w2, w2 = w1.alloc (.cells #[.slice none 0 0, .slice (some ⟨gp, 0, none⟩) M M, .int .i64 0] 25) := ⟨_, rfl⟩
  obtain ⟨bb, hbb⟩ : ∃ b, b = w1.heap.size := ⟨_, rfl⟩
  have HWB : Hid (w.heap.size < bb) := Lib.hid (by rw [hbb]; exact HK1.out.lt)
  rw [← hw2] at HKB2 HKR2 HW2 HB2 HS2 ⊢
  rw [← hbb] at HKB2 HGB HS2 ⊢
  clear hw2 hbb HW1 HK1 HBW HBA
  go_wp2_with fail
  go_loopw [7] (fun s wr => ∃ k : Nat, k ≤ N ∧ s = .int .i64 k ∧ (∃ v ys, OwnG (bb + 1) wr v ys (List.replicate k (List.replicate M 0)) ∧ Blk wr bb #[v, .slice (some ⟨gp, 0, none⟩) M M, .int .i64 0]) ∧ Wd 0 wr gp M M (List.replicate M 0) ∧ Blk wr w.heap.size #[.slice none 0 0, .slice none 0 0, .int .i64 0] ∧ Below w.heap.size w wr) (fun s _ => N - (intOf s).toNat)
  case atStart => exact ⟨0, Nat.zero_le _, rfl, ⟨_, _, OwnG.none _ _, HKB2.out⟩, HW2.out.mono (Nat.zero_le _), HKR2.out, HB2.out⟩
  case round =>
    obtain ⟨k, hk, rfl, ⟨v, ys, ho, hkb⟩, hwd, hkr, hb⟩ := hrel
    clear HKB2 HKR2 HW2 HB2
    have HO := Lib.hid ho
    have HKB := Lib.hid hkb
    have HWD := Lib.hid hwd
    have HKR := Lib.hid hkr
    have HB := Lib.hid hb
    have hrow := ho.row
    rw [List.length_replicate] at hrow
    obtain ⟨pv, cv, rfl, hcv⟩ := own_cap hrow
    have HROW := Lib.hid hrow
    clear ho hkb hwd hkr hb hrow hcv
    have kB := HKB.out.c
    by_cases hlt : k < N
    · have hltI : decide ((k : Int) < N) = true := decide_eq_true (by omega)
      go_upto_region 7 with fail
      obtain ⟨w5, hrun, g1, g2⟩ := run_make_full (P := Try.prog) wr.drew wr.heap.size 23 29 i6 (.int .u32 0) 1 Try.underlying23 HI6.out.1 HI6.out.2.1 HI6.out.2.2.1 .i64 .i64 M (by rw [HI6.out.2.2.2]; omega) (by unfold maxLen; omega) (Nat.le_refl _)
      have hsz5 : wr.drew.heap.size = wr.heap.size := rfl
      rw [hsz5] at hrun g1
      have HW5 : Hid (Wd wr.heap.size w5 wr.heap.size M M (List.replicate M 0)) := Lib.hid (Wd.made (by rw [Nat.mul_one] at g1; exact g1))
      have HB5 : Hid (Below wr.heap.size wr w5) := Lib.hid ((Below.refl wr.heap.size wr).drew.grown g2 (Nat.le_refl _) (fun k hk => by cases hk))
      clear g1 g2 hsz5
      refine region_plan (fun w' : World => (∀ j, w'.cell? ⟨bb, j, none⟩ = (#[.slice pv k cv, .slice (some ⟨gp, 0, none⟩) M M, .int .i64 0] : Array Value)[j]?) ∧ Below wr.heap.size wr w') 5 [(0, true), (1, true), (2, true), (3, false), (4, false)] (by kernel_rfl) (by kernel_rfl) (sOf HKB ((Below.refl _ _).drew)) ?_
      iterate 3
        refine plan_read (v := ?_) rfl (by rfl) ?_ ?_
        rotate_left
        · intro w' hS
          try dsimp only at hS
          go_simp
          try with_reducible rfl
        try simp only [Act.put, List.setIfInBounds_toArray, List.set_cons_zero, List.set_cons_succ, List.getElem_toArray, List.getElem_cons_zero, List.getElem_cons_succ]
      refine plan_make (v := .slice (some ⟨wr.heap.size, 0, none⟩) M M) (w1 := w5) rfl (by rfl) (by go_simp) (sOf HKB HB5.out) ?_
      try simp only [Act.put, List.setIfInBounds_toArray, List.set_cons_zero, List.set_cons_succ, List.getElem_toArray, List.getElem_cons_zero, List.getElem_cons_succ]
      have HB6 : Hid (Below wr.heap.size wr (w5.alloc (.cells #[.slice (some ⟨wr.heap.size, 0, none⟩) M M] 23))) := Lib.hid (HB5.out.alloc HB5.out.size _)
      refine plan_make (v := .slice (some ⟨w5.heap.size, 0, none⟩) 1 1) (w1 := w5.alloc (.cells #[.slice (some ⟨wr.heap.size, 0, none⟩) M M] 23)) rfl (by rfl) (by go_simp) (sOf HKB HB6.out) ?_
      try simp only [Act.put, List.setIfInBounds_toArray, List.set_cons_zero, List.set_cons_succ, List.getElem_toArray, List.getElem_cons_zero, List.getElem_cons_succ]
      refine plan_nil ?_
      simp only [List.drop_succ_cons, List.drop_zero]
      have HNW : Hid (Blk (w5.alloc (.cells #[.slice (some ⟨wr.heap.size, 0, none⟩) M M] 23)) w5.heap.size [Value.slice (some ⟨wr.heap.size, 0, none⟩) M M].toArray) := Lib.hid (Blk.new _ _ _)
      have HW6 := Lib.hid (HW5.out.below ((Below.refl w5.heap.size w5).alloc (Nat.le_refl _) (.cells #[.slice (some ⟨wr.heap.size, 0, none⟩) M M] 23)))
      obtain ⟨w6, hw6⟩ : ∃ w6, w6 = w5.alloc (.cells #[.slice (some ⟨wr.heap.size, 0, none⟩) M M] 23) := ⟨_, rfl⟩
      rw [← hw6] at HB6 HNW HW6 ⊢
      have HROW6 := Lib.hid (own_below HROW.out HB6.out)
      have HKB6 := Lib.hid (HKB.out.below HB6.out)
      have HKR6 := Lib.hid (HKR.out.below HB6.out)
      have HWD6 := Lib.hid (HWD.out.below HB6.out)
      have HBW6 : Hid (Below w.heap.size w w6) := Lib.hid (HB.out.trans (HB6.out.mono HB.out.size))
      have HBL : Hid (bb + 1 ≤ wr.heap.size) := Lib.hid HKB.out.lt
      clear hw6 hrun HKB HKR HWD HB kB HB5
      go_wp2_with (first | (at_builtin; refine wpList_append_sl rfl _ _ 22 rfl (bb + 1) 23 i3 (.slice none 0 0) 1 24 Try.underlying22 HI3.out.1 HI3.out.2.1 HI3.out.2.2.1 HI3.out.2.2.2 rfl (by decide) _ k ys rfl HROW6.out (some ⟨w5.heap.size, 0, none⟩) 1 1 [.slice (some ⟨wr.heap.size, 0, none⟩) M M] rfl rfl (blk_sl HNW.out) (by intro u hu; rw [List.mem_singleton.1 hu]; rfl) (by unfold maxLen; omega) (by omega) (Nat.le_trans HBL.out HB6.out.size) ?_))
      intro v7 w7 g1 g2 g3
      have hob : ∀ g, (Value.slice pv k cv).ownBlock = some g → bb + 1 ≤ g := fun g e => (HROW6.out.lt g e).1
      have HO7 : Hid (OwnG (bb + 1) w7 v7 (ys ++ [.slice (some ⟨wr.heap.size, 0, none⟩) M M]) (List.replicate (k + 1) (List.replicate M 0))) := Lib.hid (by
        rw [List.replicate_succ']
        exact HO.out.step HBL.out HB6.out (by rw [List.length_replicate]; exact HW6.out.row) (rep_lt M) (by rw [List.length_replicate]; exact g1) g2 g3)
      have HKB7 := Lib.hid (HKB6.out.grown g2 (fun e => by have := hob _ e; omega))
      have HKR7 := Lib.hid (HKR6.out.grown g2 (fun e => by have := hob _ e; have := HWB.out; omega))
      have HWD7 := Lib.hid (HWD6.out.grown g2 (fun e => by have := hob _ e; have := HGB.out; omega))
      have HB7 : Hid (Below w.heap.size w w7) := Lib.hid (HBW6.out.grown g2 HBW6.out.size (fun g e => by have := hob g e; have := HWB.out; omega))
      obtain ⟨p7, c7, rfl, _⟩ := own_cap g1
      clear g1 g2 g3 hob
      have kB := HKB7.out.c
      have fB := HKB7.out.f
      have lB := HKB7.out.lt
      go_wp2_with fail
      have HO8 := Lib.hid (HO7.out.off (R := bb) (by omega) 0 (.slice p7 (k + 1) c7))
      have HKB8 := Lib.hid (HKB7.out.set (n := 0) (.slice p7 (k + 1) c7) (by simp))
      have HKR8 := Lib.hid (HKR7.out.other (B' := bb) (n := 0) (.slice p7 (k + 1) c7) (by have := HWB.out; omega))
      have HWD8 := Lib.hid (HWD7.out.off (R := bb) (by have := HGB.out; omega) 0 (.slice p7 (k + 1) c7))
      have HB8 := Lib.hid (HB7.out.setCell (p := ⟨bb, 0, none⟩) (by show w.heap.size ≤ bb; have := HWB.out; omega) (.slice p7 (k + 1) c7))
      go_roundw
      case rel => exact ⟨k + 1, by omega, by go_num, ⟨_, _, HO8.out, HKB8.out⟩, HWD8.out, HKR8.out, HB8.out⟩
      case measure => simp [intOf]; omega
    · have hltI : decide ((k : Int) < N) = false := decide_eq_false (by omega)
      have hkn : k = N := by omega
      subst hkn
      obtain ⟨pz, cz, e1, hcz, hrw⟩ := HO.out.rw_ (by rw [List.length_replicate]; omega) (fun l hl => by rw [(List.mem_replicate.1 hl).2, List.length_replicate]; omega)
      rw [List.length_replicate] at e1 hcz
      injection e1 with e1 e2 e3
      subst e1 e3
      have HBN : Hid (Bn wr pv k cv ys (some ⟨gp, 0, none⟩) M M ⟨List.replicate k (List.replicate M 0), List.replicate M 0, 0⟩) := Lib.hid ⟨by simp, hrw, hcz, by simp, HWD.out.nm, Nat.le_refl _, by omega⟩
      have HOF : Hid (∀ R, R ≤ w.heap.size → Off R pv ys (List.replicate k (List.replicate M 0)) (some ⟨gp, 0, none⟩) (List.replicate M 0)) := Lib.hid fun R hR => ⟨fun h0 a e => by
          subst e
          have := (HROW.out.lt a.block rfl).1
          have := HWB.out
          omega, fun i hi h0 g e => by
          have := (HO.out.bl i hi g e).1
          have := HWB.out
          omega, fun h0 a e => by
          injection e with e
          subst e
          show gp ≠ R
          have := HGE.out
          omega⟩
      clear hrw hcz e2
      have cR := HKR.out.c
      have fR := HKR.out.f
      have lR := HKR.out.lt
      go_wp2_with fail
      refine bodyPost_ret (v := .tuple #[.agg #[.slice pv k cv, .slice (some ⟨gp, 0, none⟩) M M, .int .i64 0], .int .i64 0]) (by simp [results, Try.results55, go_sem, *]) rfl ⟨pv, k, cv, ys, some ⟨gp, 0, none⟩, M, M, by rw [HBE.out], ?_, set3_below HB.out (Nat.le_refl _) _ _ _, ?_⟩
      all_goals rw [HBE.out]
      rotate_left
      · exact fun R hR _ => HOF.out R (by omega)
      exact HBN.out.set3 (HOF.out _ (Nat.le_refl _)) _ _ _
end Go.Proofs.Ytflakmabciokbaa
/- The document's own Same, of banks that read alike, and Short; no condition but that the banks read. -/
namespace Go.Proofs.Ytflakmabciokbaa
set_option linter.unusedVariables false
open Go.ChangeShapes Go.WideShapes Go.ChangeAt Go.RowKit

set_option maxHeartbeats 8000000 in
theorem same_any (p : Option Addr) (n c : Nat) (xs : List Value) (pp : Option Addr) (m cc : Nat) (p' : Option Addr) (n' c' : Nat) (xs' : List Value) (pp' : Option Addr) (m' cc' : Nat) (B : Bk) (w : World) (h : Bn w p n c xs pp m cc B) (h' : Bn w p' n' c' xs' pp' m' cc' B) :
    Calls Try.prog 29 #[.agg #[.slice p n c, .slice pp m cc, .int .i64 B.lost], .agg #[.slice p' n' c', .slice pp' m' cc', .int .i64 B.lost]] w fun e w' => e = .returned (.bool true) ∧ Below w.heap.size w w' := by
  have hnn : n' = n := by rw [← h.zn, ← h'.zn]
  have hmm : m' = m := by rw [← h.zm, ← h'.zm]
  subst hnn hmm
  have hn := h.n100
  have hm := h.m100
  obtain ⟨z, hz⟩ : ∃ z, z = B.lost := ⟨_, rfl⟩
  rw [← hz]
  have HBW0 : Hid (Below w.heap.size w ((w.alloc (.cells #[.slice p n' c, .slice pp m' cc, .int .i64 z] 25)).alloc (.cells #[.slice p' n' c', .slice pp' m' cc', .int .i64 z] 25))) := Lib.hid (((Below.refl _ _).alloc (Nat.le_refl _) _).alloc (by simp) _)
  have HK1 : Hid (Blk ((w.alloc (.cells #[.slice p n' c, .slice pp m' cc, .int .i64 z] 25)).alloc (.cells #[.slice p' n' c', .slice pp' m' cc', .int .i64 z] 25)) w.heap.size #[.slice p n' c, .slice pp m' cc, .int .i64 z]) := Lib.hid ((Blk.new _ _ _).alloc _)
  have HK2 : Hid (Blk ((w.alloc (.cells #[.slice p n' c, .slice pp m' cc, .int .i64 z] 25)).alloc (.cells #[.slice p' n' c', .slice pp' m' cc', .int .i64 z] 25)) (w.heap.size + 1) #[.slice p' n' c', .slice pp' m' cc', .int .i64 z]) := Lib.hid (by
    have := Blk.new (w.alloc (.cells #[.slice p n' c, .slice pp m' cc, .int .i64 z] 25)) #[.slice p' n' c', .slice pp' m' cc', .int .i64 z] 25
    rwa [size_new] at this)
  have HH := Lib.hid (h.below HBW0.out)
  have HH' := Lib.hid (h'.below HBW0.out)
  have HZN : Hid (B.rows.length = n') := Lib.hid h.zn
  have HZM : Hid (B.par.length = m') := Lib.hid h.zm
  clear h h' hz
  go_enter Try.func29, Try.ntmps29
  have hz1 : (z != z) = false := by simp
  go_wp2_with fail
  obtain ⟨W, hW⟩ : ∃ W, W = (w.alloc (.cells #[.slice p n' c, .slice pp m' cc, .int .i64 z] 25)).alloc (.cells #[.slice p' n' c', .slice pp' m' cc', .int .i64 z] 25) := ⟨_, rfl⟩
  rw [← hW] at HBW0 HK1 HK2 HH HH' ⊢
  clear hW hz1
  go_loopw [5] (fun i wr => ∃ k : Nat, k ≤ m' ∧ i = .int .i64 k ∧ Below W.heap.size W wr) (fun i _ => m' - (intOf i).toNat)
  case atStart => exact ⟨0, Nat.zero_le _, rfl, Below.refl _ _⟩
  case round =>
    obtain ⟨k, hk, rfl, hb⟩ := hrel
    have HB := Lib.hid hb
    have c1 := (HK1.out.below hb).c
    have c2 := (HK2.out.below hb).c
    clear hb
    by_cases hlt : k < m'
    · have hltI : decide ((k : Int) < m') = true := decide_eq_true (by omega)
      obtain ⟨b1, o1, hb1, rfl, hc1⟩ := HH.out.nm.cellAt k (by rw [HZM.out]; exact hlt)
      obtain ⟨b2, o2, hb2, rfl, hc2⟩ := HH'.out.nm.cellAt k (by rw [HZM.out]; exact hlt)
      have k1 := (HB.out.cell (p := ⟨b1, o1 + k, none⟩) hb1).trans hc1
      have k2 := (HB.out.cell (p := ⟨b2, o2 + k, none⟩) hb2).trans hc2
      obtain ⟨x, hx⟩ : ∃ x, x = B.par.getD k 0 := ⟨_, rfl⟩
      rw [← hx] at k1 k2
      have e1 : ((x : Int) != (x : Int)) = false := by simp
      clear hx hb1 hb2 hc1 hc2
      go_wp2_with fail
      go_quiet (fail)
      go_wp2
      go_roundw
      case rel => exact ⟨k + 1, by omega, by go_num, below_drewN HB.out _⟩
      case measure => simp [intOf]; omega
    · have hltI : decide ((k : Int) < m') = false := decide_eq_false (by omega)
      go_wp2_with fail
      obtain ⟨V, hV⟩ : ∃ V, V = wr := ⟨_, rfl⟩
      rw [← hV] at HB ⊢
      have HHV := Lib.hid (HH.out.below HB.out)
      have HHV' := Lib.hid (HH'.out.below HB.out)
      have HK1V := Lib.hid (HK1.out.below HB.out)
      have HK2V := Lib.hid (HK2.out.below HB.out)
      have HBV : Hid (Below w.heap.size w V) := Lib.hid (HBW0.out.trans (HB.out.mono HBW0.out.size))
      clear hV c1 c2 HB HH HH' HK1 HK2 hlt hltI hk
      go_loopw [6] (fun i wr => ∃ k : Nat, k ≤ n' ∧ i = .int .i64 k ∧ Below V.heap.size V wr) (fun i _ => n' - (intOf i).toNat)
      case atStart => exact ⟨0, Nat.zero_le _, rfl, Below.refl _ _⟩
      case round =>
        obtain ⟨k, hk, rfl, hb⟩ := hrel
        have HB := Lib.hid hb
        have c1 := (HK1V.out.below hb).c
        have c2 := (HK2V.out.below hb).c
        clear hb
        by_cases hlt : k < n'
        · have hltI : decide ((k : Int) < n') = true := decide_eq_true (by omega)
          have hkI : (0 : Int) ≤ (k : Int) := by omega
          have hkI2 : (k : Int) < (n' : Int) := by omega
          obtain ⟨b1, o1, q1, x1, d1, rfl, hrow1⟩ := HHV.out.rw_.rowAt k (by rw [HZN.out]; exact hlt)
          obtain ⟨b2, o2, q2, x2, d2, rfl, hrow2⟩ := HHV'.out.rw_.rowAt k (by rw [HZN.out]; exact hlt)
          have hxx : x2 = x1 := by rw [← hrow1.len, ← hrow2.len]
          subst hxx
          have HR1 := Lib.hid hrow1
          have HR2 := Lib.hid hrow2
          have k1 := (hrow1.below HB.out).cell
          have k2 := (hrow2.below HB.out).cell
          have hx100 := hrow1.x100
          obtain ⟨l, hl⟩ : ∃ l, l = B.rows.getD k [] := ⟨_, rfl⟩
          rw [← hl] at HR1 HR2
          have e1 : ((x2 : Int) != (x2 : Int)) = false := by simp
          clear hrow1 hrow2 hl
          go_wp2_with fail
          go_quiet (fail)
          go_wp2_with fail
          obtain ⟨U, hU⟩ : ∃ U, U = wr := ⟨_, rfl⟩
          rw [← hU] at HB k1 k2 c1 c2 ⊢
          clear hU
          go_loopw [7] (fun i wr => ∃ j : Nat, j ≤ x2 ∧ i = .int .i64 j ∧ Below V.heap.size V wr) (fun i _ => x2 - (intOf i).toNat)
          case atStart => exact ⟨0, Nat.zero_le _, rfl, below_drewN HB.out _⟩
          case round =>
            obtain ⟨j, hj, rfl, hb⟩ := hrel
            have HBJ := Lib.hid hb
            clear hb c1 c2 k1 k2 HB
            have c1 := (HK1V.out.below HBJ.out).c
            have c2 := (HK2V.out.below HBJ.out).c
            have k1 := (HR1.out.below HBJ.out).cell
            have k2 := (HR2.out.below HBJ.out).cell
            by_cases hjl : j < x2
            · have hjlI : decide ((j : Int) < x2) = true := decide_eq_true (by omega)
              obtain ⟨a1, f1, ha1, rfl, hd1⟩ := HR1.out.nm.cellAt j (by rw [HR1.out.len]; exact hjl)
              obtain ⟨a2, f2, ha2, rfl, hd2⟩ := HR2.out.nm.cellAt j (by rw [HR2.out.len]; exact hjl)
              have k3 := (HBJ.out.cell (p := ⟨a1, f1 + j, none⟩) ha1).trans hd1
              have k4 := (HBJ.out.cell (p := ⟨a2, f2 + j, none⟩) ha2).trans hd2
              obtain ⟨x, hx⟩ : ∃ x, x = l.getD j 0 := ⟨_, rfl⟩
              rw [← hx] at k3 k4
              have e2 : ((x : Int) != (x : Int)) = false := by simp
              have hjI : (0 : Int) ≤ (j : Int) := by omega
              clear hx ha1 ha2 hd1 hd2
              go_wp2_with fail
              go_quiet (fail)
              go_wp2
              go_roundw
              case rel => exact ⟨j + 1, by omega, by go_num, below_drewN HBJ.out _⟩
              case measure => simp [intOf]; omega
            · have hjlI : decide ((j : Int) < x2) = false := decide_eq_false (by omega)
              go_wp2_with fail
              go_roundw
              case rel => exact ⟨k + 1, by omega, by go_num, HBJ.out⟩
              case measure => simp [intOf]; omega
        · have hltI : decide ((k : Int) < n') = false := decide_eq_false (by omega)
          go_wp2_with fail
          go_ret
          exact ⟨rfl, HBV.out.trans (HB.out.mono HBV.out.size)⟩
end Go.Proofs.Ytflakmabciokbaa
/- Banks of any size, and the document's own Short; no condition but that the banks read. -/
namespace Go.Proofs.Ytflakmabciokbaa
set_option linter.unusedVariables false
open Go.ChangeShapes Go.WideShapes Go.ChangeAt Go.RowKit

def shortB (B : Bk) : Bool := decide (B.rows.length ≤ 10 ∧ B.par.length ≤ 80) && B.rows.all fun r => decide (r.length ≤ 80)
theorem short_inv {B : Bk} (h : shortB B = true) : B.rows.length ≤ 10 ∧ B.par.length ≤ 80 ∧ ∀ r ∈ B.rows, r.length ≤ 80 := by
  unfold shortB at h
  rw [Bool.and_eq_true, decide_eq_true_eq, List.all_eq_true] at h
  exact ⟨h.1.1, h.1.2, fun r hr => by simpa using h.2 r hr⟩
theorem short_of {B : Bk} (h1 : B.rows.length ≤ 10) (h2 : B.par.length ≤ 80) (h3 : ∀ k, k < B.rows.length → (B.rows.getD k []).length ≤ 80) : shortB B = true := by
  unfold shortB
  rw [Bool.and_eq_true, decide_eq_true_eq, List.all_eq_true]
  refine ⟨⟨h1, h2⟩, fun r hr => ?_⟩
  obtain ⟨k, hk, rfl⟩ := List.getElem_of_mem hr
  have := h3 k hk
  rw [List.getD_eq_getElem?_getD, List.getElem?_eq_getElem hk] at this
  simpa using this
theorem short_no1 {B : Bk} (h : ¬ (B.rows.length ≤ 10 ∧ B.par.length ≤ 80)) : shortB B = false := by unfold shortB; rw [decide_eq_false h, Bool.false_and]
/-- Banks in memory, of any size. -/
structure BnX (w : World) (p : Option Addr) (n c : Nat) (xs : List Value) (pp : Option Addr) (m cc : Nat) (B : Bk) : Prop where
  zn : B.rows.length = n
  len : xs.length = n
  sl : Sl w p n xs
  rs : ∀ k, k < n → Rs w (xs.getD k vz) (B.rows.getD k [])
  cn : n ≤ c
  nx : n ≤ maxLen
  zm : B.par.length = m
  nm : Nm w pp B.par
  cm : m ≤ cc
  mx : m ≤ maxLen
  lx : ∀ r ∈ B.rows, r.length ≤ maxLen
theorem BnX.below {w w' : World} {p : Option Addr} {n c : Nat} {xs : List Value} {pp : Option Addr} {m cc : Nat} {B : Bk} (h : BnX w p n c xs pp m cc B) (hb : Below w.heap.size w w') : BnX w' p n c xs pp m cc B :=
  ⟨h.zn, h.len, h.sl.below hb, fun k hk => (h.rs k hk).below hb, h.cn, h.nx, h.zm, h.nm.below hb, h.cm, h.mx, h.lx⟩
theorem BnX.bn {w : World} {p : Option Addr} {n c : Nat} {xs : List Value} {pp : Option Addr} {m cc : Nat} {B : Bk} (h : BnX w p n c xs pp m cc B) (hs : shortB B = true) : Bn w p n c xs pp m cc B := by
  obtain ⟨h1, h2, h3⟩ := short_inv hs
  exact ⟨h.zn, ⟨by rw [h.len, h.zn], by rw [h.zn]; exact h.sl, fun k hk => h.rs k (by rw [← h.zn]; exact hk), by omega, fun l hl => by have := h3 l hl; omega⟩, h.cn, h.zm, h.nm, h.cm, by have := h.zm; omega⟩

set_option maxHeartbeats 2000000 in
theorem short_any (p : Option Addr) (n c : Nat) (xs : List Value) (pp : Option Addr) (m cc : Nat) (B : Bk) (w : World) (h : BnX w p n c xs pp m cc B) :
    Calls Try.prog 35 #[.agg #[.slice p n c, .slice pp m cc, .int .i64 B.lost]] w fun e w' => e = .returned (.bool (shortB B)) ∧ Below w.heap.size w w' := by
  have hn := h.nx
  have hm := h.mx
  unfold maxLen at hn hm
  have HH := Lib.hid h
  obtain ⟨r, hr⟩ : ∃ r, r = shortB B := ⟨_, rfl⟩
  obtain ⟨z, hz⟩ : ∃ z, z = B.lost := ⟨_, rfl⟩
  rw [← hr, ← hz]
  have HR := Lib.hid hr
  have HNO : Hid (¬ (n ≤ 10 ∧ m ≤ 80) → r = false) := Lib.hid (fun hh => by rw [hr]; exact short_no1 (by rw [h.zn, h.zm]; exact hh))
  have HB0 : Hid (Below w.heap.size w (w.alloc (.cells #[.slice p n c, .slice pp m cc, .int .i64 z] 25))) := Lib.hid ((Below.refl _ _).alloc (Nat.le_refl _) _)
  have HK0 : Hid (Blk (w.alloc (.cells #[.slice p n c, .slice pp m cc, .int .i64 z] 25)) w.heap.size #[.slice p n c, .slice pp m cc, .int .i64 z]) := Lib.hid (Blk.new _ _ _)
  clear h hr hz
  go_enter Try.func35, Try.ntmps35
  by_cases h1 : 10 < n
  · have hf := HNO.out (by omega)
    subst hf
    have d1 : decide ((10 : Int) < (n : Int)) = true := decide_eq_true (by omega)
    clear h1
    go_wp2_with fail
    go_ret
    exact ⟨rfl, HB0.out⟩
  have d1 : decide ((10 : Int) < (n : Int)) = false := decide_eq_false (by omega)
  by_cases h2 : 80 < m
  · have hf := HNO.out (by omega)
    subst hf
    have d2 : decide ((80 : Int) < (m : Int)) = true := decide_eq_true (by omega)
    clear h1 h2
    go_wp2_with fail
    go_ret
    exact ⟨rfl, HB0.out⟩
  have d2 : decide ((80 : Int) < (m : Int)) = false := decide_eq_false (by omega)
  have HN : Hid (n ≤ 10 ∧ m ≤ 80) := Lib.hid (by omega)
  have hn10 : n ≤ 10 := by omega
  clear h1 h2 HNO
  go_wp2_with fail
  clear d1 d2
  obtain ⟨W, hW⟩ : ∃ W, W = w.alloc (.cells #[.slice p n c, .slice pp m cc, .int .i64 z] 25) := ⟨_, rfl⟩
  rw [← hW] at HB0 HK0 ⊢
  clear hW
  have HHW := Lib.hid (HH.out.below HB0.out)
  have kW := HK0.out.c
  go_loopw [3] (fun i wr => ∃ k : Nat, k ≤ n ∧ i = .int .i64 k ∧ Hid (∀ j, j < k → (B.rows.getD j []).length ≤ 80) ∧ W = wr) (fun i _ => n - (intOf i).toNat)
  case atStart => exact ⟨0, Nat.zero_le _, rfl, Lib.hid (fun j hj => absurd hj (Nat.not_lt_zero _)), rfl⟩
  case round =>
    obtain ⟨k, hk, rfl, hi, rfl⟩ := hrel
    by_cases hlt : k < n
    · have hltI : decide ((k : Int) < n) = true := decide_eq_true (by omega)
      obtain ⟨b, off, hb, hp, hcell⟩ := HHW.out.sl (by omega)
      subst hp
      have hck := hcell k (by rw [HH.out.len]; exact hlt)
      obtain ⟨q, c2, hv, hc2, hnm⟩ := HHW.out.rs k hlt
      have hlx := HH.out.lx _ (mem_getD B.rows [] k (by rw [HH.out.zn]; exact hlt))
      unfold maxLen at hlx
      obtain ⟨x, hx⟩ : ∃ x, x = (B.rows.getD k []).length := ⟨_, rfl⟩
      rw [← hx] at hv hlx
      have hck2 : W.cell? ⟨b, off + k, none⟩ = some (.slice q x c2) := by
        rw [hck, ← hv, List.getD_eq_getElem?_getD, List.getElem?_eq_getElem (by rw [HH.out.len]; exact hlt)]
        rfl
      have HX := Lib.hid hx
      clear hck hcell hv hc2 hnm hx hb
      by_cases hx80 : 80 < x
      · have e1 : decide ((80 : Int) < (x : Int)) = true := decide_eq_true (by omega)
        have hf : r = false := by
          rw [HR.out]
          cases hs : shortB B with
          | false => rfl
          | true => have := (short_inv hs).2.2 _ (mem_getD B.rows [] k (by rw [HH.out.zn]; exact hlt)); have := HX.out; omega
        subst hf
        clear hx80 hi
        go_wp2_with fail
        go_ret
        exact ⟨rfl, HB0.out⟩
      · have e1 : decide ((80 : Int) < (x : Int)) = false := decide_eq_false (by omega)
        have HI : Hid (∀ j, j < k + 1 → (B.rows.getD j []).length ≤ 80) := Lib.hid (fun j hj => by
          by_cases e : j = k
          · subst e; have := HX.out; omega
          · exact hi.out j (by omega))
        clear hx80 hi
        go_wp2_with fail
        go_roundw
        case rel => exact ⟨k + 1, by omega, by go_num, HI, trivial⟩
        case measure => simp [intOf]; omega
    · have hltI : decide ((k : Int) < n) = false := decide_eq_false (by omega)
      have hf : r = true := by
        rw [HR.out]
        exact short_of (by rw [HH.out.zn]; exact HN.out.1) (by rw [HH.out.zm]; exact HN.out.2) (fun j hj => hi.out j (by rw [HH.out.zn] at hj; omega))
      subst hf
      clear hi
      go_wp2_with fail
      go_ret
      exact ⟨rfl, HB0.out⟩
end Go.Proofs.Ytflakmabciokbaa
/- The fixed answers that each statement of layer 7 begins with; no condition. -/
namespace Go.Proofs.Ytflakmabciokbaa
set_option linter.unusedVariables false
open Go.ChangeShapes Go.WideShapes Go.ChangeAt Go.RowKit

def aw0 : Bk := ⟨[[0], [0]], [0], 0⟩
def aw1 : Bk := ⟨[[5], [0]], [5], 0⟩
def aw2 : Bk := ⟨[[5], [6]], [3], 0⟩
def aw3 : Bk := ⟨[[0], [6]], [3], 1⟩
theorem aw_new : newB 2 1 = aw0 ∧ newE 2 1 = 0 := ⟨rfl, rfl⟩
theorem aw_w1 : writeB aw0 0 0 5 = aw1 ∧ writeE aw0 0 0 = 0 := ⟨rfl, rfl⟩
theorem aw_w2 : writeB aw1 1 0 6 = aw2 ∧ writeE aw1 1 0 = 0 := ⟨rfl, rfl⟩
theorem aw_lose : loseB aw2 0 = aw3 ∧ loseE aw2 0 = 0 := ⟨rfl, rfl⟩
theorem aw_back : rebuildB aw3 = aw2 ∧ rebuildE aw3 = 0 := ⟨rfl, rfl⟩
theorem aw_read : readN aw2 0 0 = 5 ∧ readE aw2 0 0 = 0 := ⟨rfl, rfl⟩
theorem aw_right : rightB aw3 = true := rfl

theorem OwnB.off {base R : Nat} {w : World} {p : Option Addr} {n c : Nat} {ys : List Value} {pp : Option Addr} {m cc : Nat} {B : Bk} (h : OwnB base w p n c ys pp m cc B) (hR : R < base) : Off R p ys B.rows pp B.par := by
  refine ⟨fun h0 a e => ?_, fun k hk h0 g e => ?_, fun h0 a e => ?_⟩
  · subst e
    have := (h.own.row.lt a.block rfl).1
    omega
  · have := ((h.own.fr k hk).lt g e).1
    omega
  · subst e
    have := (h.par.lt a.block rfl).1
    omega
end Go.Proofs.Ytflakmabciokbaa
/- Stores in memory, as they read; no condition but that they read. -/
namespace Go.Proofs.Ytflakmabciokbaa
set_option linter.unusedVariables false
open Go.ChangeShapes Go.WideShapes Go.ChangeAt Go.RowKit

/-- A store in memory: what it reads as. -/
structure Vc (w : World) (p : Option Addr) (n c : Nat) (xs : List Value) (pp : Option Addr) (m cc : Nat) (q : Option Addr) (k d : Nat) (V : Vt) : Prop where
  bn : Bn w p n c xs pp m cc V.B
  ll : V.list.length = k
  ls : Sl w q k (Ud.unC V.list)
  kd : k ≤ d
  k10 : k ≤ 10000
  u32 : U32 V.list
theorem Vc.below {w w' : World} {p : Option Addr} {n c : Nat} {xs : List Value} {pp : Option Addr} {m cc : Nat} {q : Option Addr} {k d : Nat} {V : Vt} (h : Vc w p n c xs pp m cc q k d V) (hb : Below w.heap.size w w') : Vc w' p n c xs pp m cc q k d V :=
  ⟨h.bn.below hb, h.ll, h.ls.below hb, h.kd, h.k10, h.u32⟩
/-- A store lies not in the block R. -/
def OffV (R : Nat) (p : Option Addr) (xs : List Value) (pp : Option Addr) (q : Option Addr) (k : Nat) (V : Vt) : Prop := Off R p xs V.B.rows pp V.B.par ∧ Ud.Off R q k
theorem Vc.set {w : World} {p : Option Addr} {n c : Nat} {xs : List Value} {pp : Option Addr} {m cc : Nat} {q : Option Addr} {k d : Nat} {V : Vt} (h : Vc w p n c xs pp m cc q k d V) {R : Nat} (ho : OffV R p xs pp q k V) (j : Nat) (u : Value) : Vc (w.setCell ⟨R, j, none⟩ u) p n c xs pp m cc q k d V :=
  ⟨h.bn.set ho.1 j u, h.ll, h.ls.set ho.2 j u, h.kd, h.k10, h.u32⟩
theorem Vc.off {w : World} {p : Option Addr} {n c : Nat} {xs : List Value} {pp : Option Addr} {m cc : Nat} {q : Option Addr} {k d : Nat} {V : Vt} (h : Vc w p n c xs pp m cc q k d V) {R : Nat} (hR : w.heap.size ≤ R) : OffV R p xs pp q k V :=
  ⟨h.bn.off hR, h.ls.off hR⟩
theorem Vc.lt {w : World} {p : Option Addr} {n c : Nat} {xs : List Value} {pp : Option Addr} {m cc : Nat} {q : Option Addr} {k d : Nat} {V : Vt} (h : Vc w p n c xs pp m cc q k d V) (N : Nat) : ∀ x ∈ memB V.B N, 0 ≤ x ∧ x < 4294967296 := by
  intro x hx
  unfold memB at hx
  obtain ⟨a, _, rfl⟩ := List.mem_map.1 hx
  have := h.bn.rw_.word_lt (a % V.B.rows.length) (a / V.B.rows.length)
  unfold wdA wd
  omega
/-- A value that reads as a store, and lies in none of the blocks S. -/
def Vo (S : Nat → Prop) (w : World) (v : Value) (V : Vt) : Prop := ∃ p n c xs pp m cc q k d, v = .agg #[.slice p n c, .slice pp m cc, .int .i64 V.B.lost, .int .i64 V.words, .int .i64 V.span, .slice q k d] ∧ Vc w p n c xs pp m cc q k d V ∧ ∀ R, S R → OffV R p xs pp q k V
theorem Vo.below {S : Nat → Prop} {w w' : World} {v : Value} {V : Vt} (h : Vo S w v V) (hb : Below w.heap.size w w') : Vo S w' v V := by
  obtain ⟨p, n, c, xs, pp, m, cc, q, k, d, e, h, ho⟩ := h
  exact ⟨p, n, c, xs, pp, m, cc, q, k, d, e, h.below hb, ho⟩
theorem Vo.weak {S S' : Nat → Prop} {w : World} {v : Value} {V : Vt} (h : Vo S w v V) (hs : ∀ R, S' R → S R) : Vo S' w v V := by
  obtain ⟨p, n, c, xs, pp, m, cc, q, k, d, e, h, ho⟩ := h
  exact ⟨p, n, c, xs, pp, m, cc, q, k, d, e, h, fun R hR => ho R (hs R hR)⟩
theorem Vo.later {S S' : Nat → Prop} {w : World} {v : Value} {V : Vt} (h : Vo S w v V) (hs : ∀ R, S' R → S R ∨ w.heap.size ≤ R) : Vo S' w v V := by
  obtain ⟨p, n, c, xs, pp, m, cc, q, k, d, e, h, ho⟩ := h
  refine ⟨p, n, c, xs, pp, m, cc, q, k, d, e, h, fun R hR => ?_⟩
  rcases hs R hR with h1 | h1
  · exact ho R h1
  · exact h.off h1
/-- The six cells of a variable are written. -/
def set6 (w : World) (R : Nat) (u0 u1 u2 u3 u4 u5 : Value) : World := (((((w.setCell ⟨R, 0, none⟩ u0).setCell ⟨R, 1, none⟩ u1).setCell ⟨R, 2, none⟩ u2).setCell ⟨R, 3, none⟩ u3).setCell ⟨R, 4, none⟩ u4).setCell ⟨R, 5, none⟩ u5
theorem set6_eq (w : World) (R : Nat) (u0 u1 u2 u3 u4 u5 : Value) : (((((w.setCell ⟨R, 0, none⟩ u0).setCell ⟨R, 1, none⟩ u1).setCell ⟨R, 2, none⟩ u2).setCell ⟨R, 3, none⟩ u3).setCell ⟨R, 4, none⟩ u4).setCell ⟨R, 5, none⟩ u5 = set6 w R u0 u1 u2 u3 u4 u5 := rfl
theorem Vo.set {S : Nat → Prop} {w : World} {v : Value} {V : Vt} (h : Vo S w v V) {R : Nat} (hR : S R) (j : Nat) (u : Value) : Vo S (w.setCell ⟨R, j, none⟩ u) v V := by
  obtain ⟨p, n, c, xs, pp, m, cc, q, k, d, e, h, ho⟩ := h
  exact ⟨p, n, c, xs, pp, m, cc, q, k, d, e, h.set (ho R hR) j u, ho⟩
theorem Vo.set6 {S : Nat → Prop} {w : World} {v : Value} {V : Vt} (h : Vo S w v V) {R : Nat} (hR : S R) (u0 u1 u2 u3 u4 u5 : Value) : Vo S (Go.Proofs.Ytflakmabciokbaa.set6 w R u0 u1 u2 u3 u4 u5) v V :=
  (((((h.set hR 0 u0).set hR 1 u1).set hR 2 u2).set hR 3 u3).set hR 4 u4).set hR 5 u5
theorem set6_below {s R : Nat} {w0 w : World} (h : Below s w0 w) (hR : s ≤ R) (u0 u1 u2 u3 u4 u5 : Value) : Below s w0 (set6 w R u0 u1 u2 u3 u4 u5) :=
  (((((h.setCell (p := ⟨R, 0, none⟩) hR u0).setCell (p := ⟨R, 1, none⟩) hR u1).setCell (p := ⟨R, 2, none⟩) hR u2).setCell (p := ⟨R, 3, none⟩) hR u3).setCell (p := ⟨R, 4, none⟩) hR u4).setCell (p := ⟨R, 5, none⟩) hR u5
theorem set6_other {w : World} {B R : Nat} {cs : Array Value} (h : Blk w B cs) (hne : R ≠ B) (u0 u1 u2 u3 u4 u5 : Value) : Blk (set6 w R u0 u1 u2 u3 u4 u5) B cs := (((((h.other u0 hne).other u1 hne).other u2 hne).other u3 hne).other u4 hne).other u5 hne
theorem set6_same {w : World} {R : Nat} {a0 a1 a2 a3 a4 a5 : Value} (h : Blk w R #[a0, a1, a2, a3, a4, a5]) (u0 u1 u2 u3 u4 u5 : Value) : Blk (set6 w R u0 u1 u2 u3 u4 u5) R #[u0, u1, u2, u3, u4, u5] :=
  (((((h.set (n := 0) u0 (by simp)).set (n := 1) u1 (by simp)).set (n := 2) u2 (by simp)).set (n := 3) u3 (by simp)).set (n := 4) u4 (by simp)).set (n := 5) u5 (by simp)
theorem set6_size (w : World) (R : Nat) (u0 u1 u2 u3 u4 u5 : Value) : (set6 w R u0 u1 u2 u3 u4 u5).heap.size = w.heap.size := by unfold set6; simp

/-- Banks lie apart from the block O. -/
structure Ap (O : Nat) (p : Option Addr) (n c : Nat) (ys : List Value) (pp : Option Addr) (m cc : Nat) : Prop where
  head : ∀ g, (Value.slice p n c).ownBlock = some g → g ≠ O
  rows : ∀ j, j < n → ∀ g, (ys.getD j vz).ownBlock = some g → g ≠ O
  par : ∀ g, (Value.slice pp m cc).ownBlock = some g → g ≠ O
theorem Ap.under {O O' : Nat} {p : Option Addr} {n c : Nat} {ys : List Value} {pp : Option Addr} {m cc : Nat} (h : Under O p n c ys pp m cc) (ho : O ≤ O') : Ap O' p n c ys pp m cc :=
  ⟨fun g e => by have := h.head g e; omega, fun j hj g e => by have := h.rows j hj g e; omega, fun g e => by have := h.par g e; omega⟩
theorem Ap.over {base O : Nat} {w : World} {p : Option Addr} {n c : Nat} {ys : List Value} {pp : Option Addr} {m cc : Nat} {B : Bk} (h : OwnB base w p n c ys pp m cc B) (ho : O < base) : Ap O p n c ys pp m cc := by
  obtain ⟨h1, h2⟩ := h.own.ge
  refine ⟨fun g e => by have := h1 g e; omega, fun j hj g e => by have := h2 j (by rw [h.zn]; exact hj) g e; omega, fun g e => by have := (h.par.lt g e).1; omega⟩
theorem ownB_setAp {base O : Nat} {w : World} {p : Option Addr} {n c : Nat} {ys : List Value} {pp : Option Addr} {m cc : Nat} {B : Bk} (h : OwnB base w p n c ys pp m cc B) (ho : Ap O p n c ys pp m cc) (j : Nat) (u : Value) : OwnB base (w.setCell ⟨O, j, none⟩ u) p n c ys pp m cc B :=
  ⟨h.zn, h.own.off ho.head (fun k hk => ho.rows k (by rw [← h.zn]; exact hk)) j u, h.zm, own_off h.par ho.par j u, h.plt, h.rlt, h.n100, h.l100, h.m100, h.sep1, h.sep2⟩
theorem ownB_grownAp {base O : Nat} {w w' : World} {p : Option Addr} {n c : Nat} {ys : List Value} {pp : Option Addr} {m cc : Nat} {B : Bk} (h : OwnB base w p n c ys pp m cc B) (ho : Ap O p n c ys pp m cc) (hg : w.grownBy w' (some O)) : OwnB base w' p n c ys pp m cc B := by
  have kp : ∀ {e : TypeId} {z k : Nat} {v : Value} {xs : List Value}, w.ownsRow base e z v k xs → (∀ g, v.ownBlock = some g → g ≠ O) → w'.ownsRow base e z v k xs := fun {e z k v xs} hr hne => hr.kept hg (by
    cases hv : v.ownBlock with
    | none => exact .inl rfl
    | some g => exact .inr (fun e => hne g hv (by injection e)))
  exact ⟨h.zn, ⟨kp h.own.row ho.head, fun j hj => kp (h.own.fr j hj) (ho.rows j (by rw [← h.zn]; exact hj)), h.own.sep, h.own.two, h.own.rest⟩, h.zm, kp h.par ho.par, h.plt, h.rlt, h.n100, h.l100, h.m100, h.sep1, h.sep2⟩

theorem ownB_grown0 {base : Nat} {w w' : World} {p : Option Addr} {n c : Nat} {ys : List Value} {pp : Option Addr} {m cc : Nat} {B : Bk} (h : OwnB base w p n c ys pp m cc B) (hg : w.grownBy w' none) : OwnB base w' p n c ys pp m cc B :=
  ownB_grownAp h (O := w.heap.size) (Ap.under h.under (Nat.le_refl _)) ⟨hg.os, hg.tape, hg.output, hg.size, fun k hk hne => hg.block k hk (by simp)⟩

/-- A store in memory of one's own. -/
structure OwnV (base : Nat) (w : World) (p : Option Addr) (n c : Nat) (ys : List Value) (pp : Option Addr) (m cc : Nat) (q : Option Addr) (k d : Nat) (V : Vt) : Prop where
  ob : OwnB base w p n c ys pp m cc V.B
  lo : w.ownsRow base 66 3 (.slice q k d) k (Ud.unC V.list)
  k10 : k ≤ 10000
  u32 : U32 V.list
  ap : ∀ g, (Value.slice q k d).ownBlock = some g → Ap g p n c ys pp m cc
theorem OwnV.ll {base : Nat} {w : World} {p : Option Addr} {n c : Nat} {ys : List Value} {pp : Option Addr} {m cc : Nat} {q : Option Addr} {k d : Nat} {V : Vt} (h : OwnV base w p n c ys pp m cc q k d V) : V.list.length = k := by
  have := h.lo.1; rw [Ud.unC_len] at this; omega
theorem OwnV.vc {base : Nat} {w : World} {p : Option Addr} {n c : Nat} {ys : List Value} {pp : Option Addr} {m cc : Nat} {q : Option Addr} {k d : Nat} {V : Vt} (h : OwnV base w p n c ys pp m cc q k d V) : Vc w p n c ys pp m cc q k d V := by
  obtain ⟨p', c', e, hs⟩ := Sl.own h.lo
  injection e with e1 e2 e3
  subst e1 e3
  obtain ⟨p2, c2, e2, hc⟩ := own_cap h.lo
  injection e2 with _ _ e2
  exact ⟨h.ob.bn, h.ll, hs, by omega, h.k10, h.u32⟩
theorem OwnV.below {base : Nat} {w w' : World} {p : Option Addr} {n c : Nat} {ys : List Value} {pp : Option Addr} {m cc : Nat} {q : Option Addr} {k d : Nat} {V : Vt} (h : OwnV base w p n c ys pp m cc q k d V) (hb : Below w.heap.size w w') : OwnV base w' p n c ys pp m cc q k d V :=
  ⟨h.ob.below hb, own_below h.lo hb, h.k10, h.u32, h.ap⟩
theorem OwnV.mono {base base' : Nat} {w : World} {p : Option Addr} {n c : Nat} {ys : List Value} {pp : Option Addr} {m cc : Nat} {q : Option Addr} {k d : Nat} {V : Vt} (h : OwnV base w p n c ys pp m cc q k d V) (hb : base' ≤ base) : OwnV base' w p n c ys pp m cc q k d V :=
  ⟨h.ob.mono hb, own_base h.lo hb, h.k10, h.u32, h.ap⟩
theorem own_offL {base : Nat} {w : World} {p : Option Addr} {n c : Nat} {xs : List Value} {e : TypeId} {z : Nat} (h : w.ownsRow base e z (.slice p n c) n xs) {R : Nat} (hR : R < base) : Ud.Off R p n := Ud.own_offR h hR
theorem OwnV.off {base R : Nat} {w : World} {p : Option Addr} {n c : Nat} {ys : List Value} {pp : Option Addr} {m cc : Nat} {q : Option Addr} {k d : Nat} {V : Vt} (h : OwnV base w p n c ys pp m cc q k d V) (hR : R < base) : OffV R p ys pp q k V := ⟨h.ob.off hR, own_offL h.lo hR⟩
theorem OwnV.vo {base : Nat} {w : World} {p : Option Addr} {n c : Nat} {ys : List Value} {pp : Option Addr} {m cc : Nat} {q : Option Addr} {k d : Nat} {V : Vt} (h : OwnV base w p n c ys pp m cc q k d V) {S : Nat → Prop} (hS : ∀ R, S R → R < base) : Vo S w (.agg #[.slice p n c, .slice pp m cc, .int .i64 V.B.lost, .int .i64 V.words, .int .i64 V.span, .slice q k d]) V :=
  ⟨p, n, c, ys, pp, m, cc, q, k, d, rfl, h.vc, fun R hR => h.off (hS R hR)⟩
theorem OwnV.setOff {base : Nat} {w : World} {p : Option Addr} {n c : Nat} {ys : List Value} {pp : Option Addr} {m cc : Nat} {q : Option Addr} {k d : Nat} {V : Vt} (h : OwnV base w p n c ys pp m cc q k d V) {R : Nat} (hR : R < base) (j : Nat) (u : Value) : OwnV base (w.setCell ⟨R, j, none⟩ u) p n c ys pp m cc q k d V :=
  ⟨h.ob.setOff hR j u, own_off h.lo (fun g e => by have := (h.lo.lt g e).1; omega) j u, h.k10, h.u32, h.ap⟩
theorem OwnV.set6 {base : Nat} {w : World} {p : Option Addr} {n c : Nat} {ys : List Value} {pp : Option Addr} {m cc : Nat} {q : Option Addr} {k d : Nat} {V : Vt} (h : OwnV base w p n c ys pp m cc q k d V) {R : Nat} (hR : R < base) (u0 u1 u2 u3 u4 u5 : Value) : OwnV base (Go.Proofs.Ytflakmabciokbaa.set6 w R u0 u1 u2 u3 u4 u5) p n c ys pp m cc q k d V :=
  (((((h.setOff hR 0 u0).setOff hR 1 u1).setOff hR 2 u2).setOff hR 3 u3).setOff hR 4 u4).setOff hR 5 u5
/-- What a call that answers a store and an error leaves. -/
def OutV (S : Nat → Prop) (w w' : World) (e : Ending) (V : Vt) (X : Int) : Prop := ∃ v, e = .returned (.tuple #[v, .int .i64 X]) ∧ Vo S w' v V ∧ Below w.heap.size w w'
/-- A variable in block b that holds a store, which lies in none of the blocks S. -/
def VarV (S : Nat → Prop) (w : World) (b : Nat) (V : Vt) : Prop := ∃ p n c xs pp m cc q k d, Blk w b #[.slice p n c, .slice pp m cc, .int .i64 V.B.lost, .int .i64 V.words, .int .i64 V.span, .slice q k d] ∧ Vc w p n c xs pp m cc q k d V ∧ ∀ R, S R → OffV R p xs pp q k V
theorem VarV.below {S : Nat → Prop} {w w' : World} {b : Nat} {V : Vt} (h : VarV S w b V) (hb : Below w.heap.size w w') : VarV S w' b V := by
  obtain ⟨p, n, c, xs, pp, m, cc, q, k, d, hk, h, ho⟩ := h
  exact ⟨p, n, c, xs, pp, m, cc, q, k, d, hk.below hb, h.below hb, ho⟩
theorem VarV.lt {S : Nat → Prop} {w : World} {b : Nat} {V : Vt} (h : VarV S w b V) : b < w.heap.size := by
  obtain ⟨p, n, c, xs, pp, m, cc, q, k, d, hk, h, ho⟩ := h
  exact hk.lt
theorem VarV.later {S S' : Nat → Prop} {w : World} {b : Nat} {V : Vt} (h : VarV S w b V) (hs : ∀ R, S' R → S R ∨ w.heap.size ≤ R) : VarV S' w b V := by
  obtain ⟨p, n, c, xs, pp, m, cc, q, k, d, hk, h, ho⟩ := h
  refine ⟨p, n, c, xs, pp, m, cc, q, k, d, hk, h, fun R hR => ?_⟩
  rcases hs R hR with h1 | h1
  · exact ho R h1
  · exact h.off h1
theorem VarV.set {S : Nat → Prop} {w : World} {b : Nat} {V : Vt} (h : VarV S w b V) {R : Nat} (hR : S R) (hne : R ≠ b) (j : Nat) (u : Value) : VarV S (w.setCell ⟨R, j, none⟩ u) b V := by
  obtain ⟨p, n, c, xs, pp, m, cc, q, k, d, hk, h, ho⟩ := h
  exact ⟨p, n, c, xs, pp, m, cc, q, k, d, hk.other u hne, h.set (ho R hR) j u, ho⟩
theorem VarV.set6 {S : Nat → Prop} {w : World} {b : Nat} {V : Vt} (h : VarV S w b V) {R : Nat} (hR : S R) (hne : R ≠ b) (u0 u1 u2 u3 u4 u5 : Value) : VarV S (Go.Proofs.Ytflakmabciokbaa.set6 w R u0 u1 u2 u3 u4 u5) b V :=
  (((((h.set hR hne 0 u0).set hR hne 1 u1).set hR hne 2 u2).set hR hne 3 u3).set hR hne 4 u4).set hR hne 5 u5
theorem VarV.new {S : Nat → Prop} {w : World} {V : Vt} {u0 u1 u2 u3 u4 u5 : Value} (t : TypeId) (h : Vo S w (.agg #[u0, u1, u2, u3, u4, u5]) V) : VarV S (w.alloc (.cells #[u0, u1, u2, u3, u4, u5] t)) w.heap.size V := by
  obtain ⟨p, n, c, xs, pp, m, cc, q, k, d, e, h, ho⟩ := h
  injection e with e
  simp at e
  obtain ⟨rfl, rfl, rfl, rfl, rfl, rfl⟩ := e
  exact ⟨p, n, c, xs, pp, m, cc, q, k, d, Blk.new _ _ _, h.below ((Below.refl _ _).alloc (Nat.le_refl _) _), ho⟩
theorem VarV.put {S : Nat → Prop} {w : World} {b : Nat} {V : Vt} {u0 u1 u2 u3 u4 u5 a0 a1 a2 a3 a4 a5 : Value} (hk : Blk w b #[a0, a1, a2, a3, a4, a5]) (h : Vo S w (.agg #[u0, u1, u2, u3, u4, u5]) V) (hS : S b) : VarV S (Go.Proofs.Ytflakmabciokbaa.set6 w b u0 u1 u2 u3 u4 u5) b V := by
  have h2 := h.set6 hS u0 u1 u2 u3 u4 u5
  obtain ⟨p, n, c, xs, pp, m, cc, q, k, d, e, h, ho⟩ := h2
  injection e with e
  simp at e
  obtain ⟨rfl, rfl, rfl, rfl, rfl, rfl⟩ := e
  exact ⟨p, n, c, xs, pp, m, cc, q, k, d, set6_same hk _ _ _ _ _ _, h, ho⟩
/-- A variable's store as a value. -/
theorem VarV.vo {S : Nat → Prop} {w : World} {b : Nat} {V : Vt} (h : VarV S w b V) : ∃ p n c pp m cc q k d, Blk w b #[.slice p n c, .slice pp m cc, .int .i64 V.B.lost, .int .i64 V.words, .int .i64 V.span, .slice q k d] ∧ Vo S w (.agg #[.slice p n c, .slice pp m cc, .int .i64 V.B.lost, .int .i64 V.words, .int .i64 V.span, .slice q k d]) V := by
  obtain ⟨p, n, c, xs, pp, m, cc, q, k, d, hk, h, ho⟩ := h
  exact ⟨p, n, c, pp, m, cc, q, k, d, hk, p, n, c, xs, pp, m, cc, q, k, d, rfl, h, ho⟩
end Go.Proofs.Ytflakmabciokbaa
/- Whether a store may be so large, and lies in its banks as it should, by the program; no condition but that it reads. -/
namespace Go.Proofs.Ytflakmabciokbaa
set_option linter.unusedVariables false
open Go.ChangeShapes Go.WideShapes Go.ChangeAt Go.RowKit

theorem size_eqV (n : Int) : Ud.sizeB n = (decide (1 ≤ n) && decide (n ≤ 64)) := by unfold Ud.sizeB; rw [← Bool.decide_and]
theorem smay_any (n : Int) (w : World) : Calls Try.prog 52 #[.int .i64 n] w fun e w' => e = .returned (.bool (Ud.sizeB n)) ∧ w = w' := by
  rw [size_eqV]
  by_cases h : 1 ≤ n
  · rw [decide_eq_true h, Bool.true_and]
    have hI : decide (1 ≤ n) = true := decide_eq_true h
    clear h
    by_cases h2 : n ≤ 64
    · have hJ : decide (n ≤ 64) = true := decide_eq_true h2
      rw [hJ]
      clear h2
      go_enter Try.func52, Try.ntmps52
      go_wp2_with fail
      go_ret
      exact ⟨rfl, rfl⟩
    · have hJ : decide (n ≤ 64) = false := decide_eq_false h2
      rw [hJ]
      clear h2
      go_enter Try.func52, Try.ntmps52
      go_wp2_with fail
      go_ret
      exact ⟨rfl, rfl⟩
  · rw [decide_eq_false h, Bool.false_and]
    have hI : decide (1 ≤ n) = false := decide_eq_false h
    clear h
    go_enter Try.func52, Try.ntmps52
    go_wp2_with fail
    go_ret
    exact ⟨rfl, rfl⟩
def upV (n m : Int) : Bool := decide (0 ≤ n) && decide (n ≤ m)
theorem upV_iff {n m : Int} : upV n m = decide (0 ≤ n ∧ n ≤ m) := by unfold upV; rw [← Bool.decide_and]
theorem supTo_any (n m : Int) (w : World) : Calls Try.prog 59 #[.int .i64 n, .int .i64 m] w fun e w' => e = .returned (.bool (upV n m)) ∧ w = w' := by
  unfold upV
  by_cases h : 0 ≤ n
  · rw [decide_eq_true h, Bool.true_and]
    have hI : decide (0 ≤ n) = true := decide_eq_true h
    clear h
    by_cases h2 : n ≤ m
    · have hJ : decide (n ≤ m) = true := decide_eq_true h2
      rw [hJ]
      clear h2
      go_enter Try.func59, Try.ntmps59
      go_wp2_with fail
      go_ret
      exact ⟨rfl, rfl⟩
    · have hJ : decide (n ≤ m) = false := decide_eq_false h2
      rw [hJ]
      clear h2
      go_enter Try.func59, Try.ntmps59
      go_wp2_with fail
      go_ret
      exact ⟨rfl, rfl⟩
  · rw [decide_eq_false h, Bool.false_and]
    have hI : decide (0 ≤ n) = false := decide_eq_false h
    clear h
    go_enter Try.func59, Try.ntmps59
    go_wp2_with fail
    go_ret
    exact ⟨rfl, rfl⟩
theorem tdiv_nat (a b : Nat) : (a : Int).tdiv (b : Int) = ((a / b : Nat) : Int) := (Int.ofNat_tdiv a b).symm
theorem tmod_nat (a b : Nat) : (a : Int).tmod (b : Int) = ((a % b : Nat) : Int) := (Int.ofNat_tmod a b).symm
theorem need_any (n b : Nat) (w : World) (hn : 1 ≤ n) (hn64 : n ≤ 64) (hb : 1 ≤ b) : Calls Try.prog 54 #[.int .i64 n, .int .i64 b] w fun e w' => e = .returned (.int .i64 (needN n b)) ∧ w = w' := by
  rw [need_nat hn]
  have h1 : IntKind.i64.wrap ((n : Int) - 1) = ((n - 1 : Nat) : Int) := by rw [IntKind.wrap_i64]; omega
  have h1' : wrap64 ((n : Int) - 1) = ((n - 1 : Nat) : Int) := by unfold wrap64; omega
  have hle : (n - 1) / b ≤ n - 1 := Nat.div_le_self _ _
  obtain ⟨z, hz⟩ : ∃ z, z = (n - 1) / b := ⟨_, rfl⟩
  have h2 : ((n - 1 : Nat) : Int).tdiv (b : Int) = (z : Int) := by rw [tdiv_nat, hz]
  rw [← hz] at hle ⊢
  have h3 : IntKind.i64.wrap (z : Int) = (z : Int) := by rw [IntKind.wrap_i64]; omega
  have h3' : wrap64 (z : Int) = (z : Int) := by unfold wrap64; omega
  have h4 : IntKind.i64.wrap ((z : Int) + 1) = ((z + 1 : Nat) : Int) := by rw [IntKind.wrap_i64]; omega
  have h4' : wrap64 ((z : Int) + 1) = ((z + 1 : Nat) : Int) := by unfold wrap64; omega
  have hb0 : ¬ b = 0 := by omega
  have hb1 : ¬ (b : Int) = 0 := by omega
  have hb2 : ((b : Int) == 0) = false := by simp; omega
  obtain ⟨y, hy⟩ : ∃ y, y = n - 1 := ⟨_, rfl⟩
  rw [← hy] at h1 h1' h2
  clear hz hle hb hy hn hn64
  go_enter Try.func54, Try.ntmps54
  go_wp2_with fail
  go_ret
  exact ⟨rfl, rfl⟩
end Go.Proofs.Ytflakmabciokbaa
