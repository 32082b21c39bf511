/- The document's own Lose; no condition but that the banks read. -/
import Derived.Test.YtkeemmedbbammaaParP
namespace Go.Proofs.Ytkeemmedbbammaa
set_option linter.unusedVariables false
open Go.ChangeShapes Go.WideShapes Go.ChangeAt Go.RowKit

/-- The block R is none of those in which banks lie. -/
structure Off (R : Nat) (p : Option Addr) (xs : List Value) (L : List (List Nat)) (pp : Option Addr) (P : List Nat) : Prop where
  head : 0 < L.length → ∀ a, p = some a → a.block ≠ R
  rows : ∀ k, k < L.length → 0 < (L.getD k []).length → ∀ g, (xs.getD k vz).ownBlock = some g → g ≠ R
  par : 0 < P.length → ∀ a, pp = some a → a.block ≠ R
theorem Bn.off {w : World} {p : Option Addr} {n c : Nat} {xs : List Value} {pp : Option Addr} {m cc : Nat} {B : Bk} (h : Bn w p n c xs pp m cc B) {R : Nat} (hR : w.heap.size ≤ R) : Off R p xs B.rows pp B.par := by
  refine ⟨fun h0 a e => ?_, fun k hk h0 g e => ?_, fun h0 a e => ?_⟩
  · obtain ⟨b, off, h1, h2, _⟩ := h.rw_.sl h0
    rw [h2] at e
    injection e with e
    subst e
    show b ≠ R
    omega
  · obtain ⟨q, c2, e2, _, h2⟩ := h.rw_.rs k hk
    obtain ⟨b, off, h1, h3, _⟩ := h2.c h0
    rw [e2, h3] at e
    have e' : some b = some g := e
    injection e' with e'
    omega
  · obtain ⟨b, off, h1, h2, _⟩ := h.nm.c h0
    rw [h2] at e
    injection e with e
    subst e
    show b ≠ R
    omega
theorem Nm.set {w : World} {p : Option Addr} {l : List Nat} (h : Nm w p l) {R : Nat} (ho : 0 < l.length → ∀ a, p = some a → a.block ≠ R) (j : Nat) (u : Value) : Nm (w.setCell ⟨R, j, none⟩ u) p l :=
  ⟨h.lt, fun h0 => by
    obtain ⟨b, off, h1, h2, h3⟩ := h.c h0
    have hne := ho h0 _ h2
    exact ⟨b, off, by rw [size_set]; exact h1, h2, fun k hk => (World.cell?_setCell_other _ _ _ _ (by intro e; injection e with e1; exact hne e1.symm)).trans (h3 k hk)⟩⟩
theorem Bn.set {w : World} {p : Option Addr} {n c : Nat} {xs : List Value} {pp : Option Addr} {m cc : Nat} {B : Bk} (h : Bn w p n c xs pp m cc B) {R : Nat} (ho : Off R p xs B.rows pp B.par) (j : Nat) (u : Value) : Bn (w.setCell ⟨R, j, none⟩ u) p n c xs pp m cc B := by
  refine ⟨h.zn, ⟨h.rw_.len, fun h0 => ?_, fun k hk => ?_, h.rw_.n100, h.rw_.l100⟩, h.cn, h.zm, h.nm.set ho.par j u, h.cm, h.m100⟩
  · obtain ⟨b, off, h1, h2, h3⟩ := h.rw_.sl h0
    have hne := ho.head h0 _ h2
    exact ⟨b, off, by rw [size_set]; exact h1, h2, fun k hk => (World.cell?_setCell_other _ _ _ _ (by intro e; injection e with e1; exact hne e1.symm)).trans (h3 k hk)⟩
  · obtain ⟨q, c2, e2, h1, h2⟩ := h.rw_.rs k hk
    refine ⟨q, c2, e2, h1, h2.set (fun h0 a e => ?_) j u⟩
    exact ho.rows k hk h0 a.block (by rw [e2, e]; rfl)
theorem Bn.set3 {w : World} {p : Option Addr} {n c : Nat} {xs : List Value} {pp : Option Addr} {m cc : Nat} {B : Bk} (h : Bn w p n c xs pp m cc B) {R : Nat} (ho : Off R p xs B.rows pp B.par) (u0 u1 u2 : Value) : Bn (((w.setCell ⟨R, 0, none⟩ u0).setCell ⟨R, 1, none⟩ u1).setCell ⟨R, 2, none⟩ u2) p n c xs pp m cc B := ((h.set ho 0 u0).set ho 1 u1).set ho 2 u2
/-- Where one row is another one. -/
theorem Off.put {R : Nat} {p : Option Addr} {xs : List Value} {L : List (List Nat)} {pp : Option Addr} {P : List Nat} (h : Off R p xs L pp P) {g k : Nat} {r : Value} {l : List Nat} (hlen : xs.length = L.length) (hk : k < L.length) (hg : g ≠ R) (hr : ∀ b, r.ownBlock = some b → b ≠ R) : Off R (some ⟨g, 0, none⟩) (xs.set k r) (L.set k l) pp P := by
  refine ⟨fun h0 a e => ?_, fun i hi h0 b e => ?_, h.par⟩
  · injection e with e; subst e; exact hg
  · rw [List.length_set] at hi
    rw [getD_set xs vz r k i (by omega)] at e
    rw [getD_set L [] l k i hk] at h0
    by_cases h1 : i = k
    · rw [if_pos h1] at e; exact hr b e
    · rw [if_neg h1] at e h0; exact h.rows i hi h0 b e
theorem set3_below {s R : Nat} {w0 w : World} (h : Below s w0 w) (hR : s ≤ R) (u0 u1 u2 : Value) : Below s w0 (((w.setCell ⟨R, 0, none⟩ u0).setCell ⟨R, 1, none⟩ u1).setCell ⟨R, 2, none⟩ u2) :=
  ((h.setCell (p := ⟨R, 0, none⟩) hR _).setCell (p := ⟨R, 1, none⟩) hR _).setCell (p := ⟨R, 2, none⟩) hR _
theorem set3_other {w : World} {B R : Nat} {cs : Array Value} (h : Blk w B cs) (hne : R ≠ B) (u0 u1 u2 : Value) : Blk (((w.setCell ⟨R, 0, none⟩ u0).setCell ⟨R, 1, none⟩ u1).setCell ⟨R, 2, none⟩ u2) B cs := ((h.other u0 hne).other u1 hne).other u2 hne
theorem set3_same {w : World} {R : Nat} {a0 a1 a2 : Value} (h : Blk w R #[a0, a1, a2]) (u0 u1 u2 : Value) : Blk (((w.setCell ⟨R, 0, none⟩ u0).setCell ⟨R, 1, none⟩ u1).setCell ⟨R, 2, none⟩ u2) R #[u0, u1, u2] := ((h.set (n := 0) u0 (by simp)).set (n := 1) u1 (by simp)).set (n := 2) u2 (by simp)

/-- What the document's own functions hand back: it reads as these banks, beside a number; it lies in no block that was there, but where the argument lies. -/
def ROut (w w' : World) (F : Nat → Prop) (e : Ending) (B : Bk) (E : Int) : Prop := ∃ p n c xs pp m cc, e = .returned (.tuple #[.agg #[.slice p n c, .slice pp m cc, .int .i64 B.lost], .int .i64 E]) ∧ Bn w' p n c xs pp m cc B ∧ Below w.heap.size w w' ∧ ∀ R, R < w.heap.size → F R → Off R p xs B.rows pp B.par
set_option maxHeartbeats 4000000 in
theorem rlose_any (p : Option Addr) (n c : Nat) (xs : List Value) (pp : Option Addr) (m cc : Nat) (B : Bk) (k : Int) (w : World) (h : Bn w p n c xs pp m cc B) :
    Calls Try.prog 14 #[.agg #[.slice p n c, .slice pp m cc, .int .i64 B.lost], .int .i64 k] w fun e w' => ROut w w' (fun R => Off R p xs B.rows pp B.par) e (loseB B k) (loseE B k) := by
  have hri := fun w' hb => rhas_any p n c xs pp m cc B k w' (h.below hb)
  obtain ⟨z, hz⟩ : ∃ z, z = B.lost := ⟨_, rfl⟩
  obtain ⟨r, hr⟩ : ∃ r, r = hasB B k := ⟨_, rfl⟩
  rw [← hr, ← hz] at hri
  rw [← hz]
  have HRI := Lib.hid hri
  have HZ := Lib.hid hz
  have HR := Lib.hid hr
  have HH := Lib.hid h
  obtain ⟨B', hB'⟩ : ∃ B', B' = loseB B k := ⟨_, rfl⟩
  obtain ⟨E, hE⟩ : ∃ E, E = loseE B k := ⟨_, rfl⟩
  rw [← hB', ← hE]
  have HB' := Lib.hid hB'
  have HE := Lib.hid hE
  have hm := h.m100
  have hn := h.n100
  obtain ⟨i6, hi6, hz60, hz61, hz62⟩ := info_parts info26
  have HI6 := Lib.hid (And.intro hi6 (And.intro hz60 (And.intro hz61 hz62)))
  clear h hri hz hr hB' hE hi6 hz60 hz61 hz62
  go_enter Try.func14, Try.ntmps14
  have HBA : Hid (Below w.heap.size w ((w.alloc (.cells #[.slice p n c, .slice pp m cc, .int .i64 z] 25)).alloc (.cells #[.slice none 0 0, .slice none 0 0, .int .i64 0] 25))) := Lib.hid (((Below.refl _ _).alloc (Nat.le_refl _) _).alloc (by simp) _)
  go_wp2_with fail
  refine (HRI.out _ HBA.out).mono ?_
  rintro e w1 ⟨rfl, hb1⟩
  have HK1 : Hid (Blk w1 w.heap.size #[.slice p n c, .slice pp m cc, .int .i64 z]) := Lib.hid (Blk.track2 hb1)
  have HR1 : Hid (Blk w1 (w.heap.size + 1) #[.slice none 0 0, .slice none 0 0, .int .i64 0]) := Lib.hid (by simpa using Blk.track1 hb1)
  have HB1 : Hid (Below w.heap.size w w1) := Lib.hid (HBA.out.trans (hb1.mono HBA.out.size))
  have HH1 := Lib.hid (HH.out.below HB1.out)
  clear hb1 HBA HRI
  have cK := HK1.out.c
  have cR := HR1.out.c
  have fR := HR1.out.f
  have lR := HR1.out.lt
  have HOR : Hid (Off (w.heap.size + 1) p xs B.rows pp B.par) := Lib.hid (HH.out.off (by omega))
  have HOK : Hid (Off w.heap.size p xs B.rows pp B.par) := Lib.hid (HH.out.off (Nat.le_refl _))
  cases r with
  | false =>
    have hB : B' = B := by rw [HB'.out]; unfold loseB; rw [← HR.out]; rfl
    have hE : E = 1 := by rw [HE.out]; unfold loseE; rw [← HR.out]; rfl
    subst hB hE
    go_wp2_with fail
    refine bodyPost_ret (v := .tuple #[.agg #[.slice p n c, .slice pp m cc, .int .i64 z], .int .i64 1]) (by simp [results, Try.results14, go_sem, *]) rfl ⟨p, n, c, xs, pp, m, cc, by rw [HZ.out], HH1.out.set3 HOR.out _ _ _, set3_below HB1.out (by omega) _ _ _, fun R _ h => h⟩
  | true =>
    by_cases hz0 : z = 0
    · have hw := hasB_inv HR.out.symm
      obtain ⟨hright, hk0, hk1⟩ := hw
      rw [HH.out.zn] at hk1
      obtain ⟨j, rfl⟩ := Int.eq_ofNat_of_zero_le hk0
      have hj : j < n := by omega
      have hn8 := right_inv hright
      rw [HH.out.zn, HH.out.zm] at hn8
      have hn88 : n ≤ 8 := hn8.2.1
      have hm1 : 1 ≤ m := hn8.2.2.1
      have hB : B' = ⟨B.rows.set j (List.replicate m 0), B.par, (j : Int) + 1⟩ := by rw [HB'.out]; unfold loseB; rw [← HR.out, if_pos rfl, if_pos (by rw [← HZ.out]; exact hz0), HH.out.zm]; simp only [Int.toNat_natCast]
      have hE : E = 0 := by rw [HE.out]; unfold loseE; rw [← HR.out, if_pos rfl, if_pos (by rw [← HZ.out]; exact hz0)]
      subst hE
      have hz0' : (z != 0) = false := by simp; exact hz0
      have HBP := Lib.hid hB
      have wj : IntKind.i64.wrap ((j : Int) + 1) = (j : Int) + 1 := by rw [IntKind.wrap_i64]; omega
      clear hright hk0 hk1 hn8 hB hz0
      go_upto_region 5 with fail
      obtain ⟨w2, hrun, g1, g2⟩ := run_make_full (P := Try.prog) w1.drew w1.heap.size 23 26 i6 (.int .u32 0) 1 Try.underlying23 HI6.out.1 HI6.out.2.1 HI6.out.2.2.1 .i64 .i64 m (by rw [HI6.out.2.2.2]; omega) (by unfold maxLen; omega) (Nat.le_refl _)
      have hsz2 : w1.drew.heap.size = w1.heap.size := rfl
      rw [hsz2] at hrun g1
      have HW2 : Hid (Wd w1.heap.size w2 w1.heap.size m m (List.replicate m 0)) := Lib.hid (Wd.made (by rw [Nat.mul_one] at g1; exact g1))
      have HB2 : Hid (Below w1.heap.size w1 w2) := Lib.hid ((Below.refl w1.heap.size w1).drew.grown g2 (Nat.le_refl _) (fun k hk => by cases hk))
      clear g1 g2 hsz2
      have hwith := with_any p n c xs pp m cc B j (some ⟨w1.heap.size, 0, none⟩) m m (List.replicate m 0) w2 (HH1.out.below HB2.out) hj ⟨_, m, by rw [List.length_replicate], by rw [List.length_replicate]; exact Nat.le_refl _, HW2.out.nm⟩ hm
      rw [← HZ.out] at hwith
      have HWI := Lib.hid hwith
      have HN1 : Hid (w.heap.size + 2 ≤ w1.heap.size) := Lib.hid (by have := HR1.out.lt; omega)
      clear hwith
      refine region_plan (fun w' : World => (∀ j, w'.cell? ⟨w.heap.size, j, none⟩ = (#[.slice p n c, .slice pp m cc, .int .i64 z] : Array Value)[j]?) ∧ Below w1.heap.size w1 w') 7 [(0, true), (1, true), (2, true), (3, true), (4, true), (5, false), (6, false)] (by kernel_rfl) (by kernel_rfl) (sOf HK1 ((Below.refl _ _).drew)) ?_
      iterate 5
        refine plan_read (v := ?_) rfl (by rfl) ?_ ?_
        rotate_left
        · intro w' hS
          try dsimp only at hS
          go_simp
          try with_reducible rfl
        try simp only [Act.put, List.setIfInBounds_toArray, List.set_cons_zero, List.set_cons_succ, List.getElem_toArray, List.getElem_cons_zero, List.getElem_cons_succ]
      refine plan_make (v := .slice (some ⟨w1.heap.size, 0, none⟩) m m) (w1 := w2) rfl (by rfl) (by go_simp) (sOf HK1 HB2.out) ?_
      try simp only [Act.put, List.setIfInBounds_toArray, List.set_cons_zero, List.set_cons_succ, List.getElem_toArray, List.getElem_cons_zero, List.getElem_cons_succ]
      refine plan_call (F := 24) (args := ?_) rfl (by rfl) ?_ ?_
      rotate_left
      · go_simp
        rfl
      refine (HWI.out).mono ?_
      rintro e w3 ⟨g, c', rfl, hbn, hb3, hg⟩
      have HB3 : Hid (Below w1.heap.size w1 w3) := Lib.hid (HB2.out.trans (hb3.mono HB2.out.size))
      have HBN := Lib.hid hbn
      have HG : Hid (w.heap.size + 2 ≤ g) := Lib.hid (by have := HN1.out; have := HB2.out.size; omega)
      clear hbn hb3 hg
      refine ⟨_, rfl, sOf HK1 HB3.out, ?_⟩
      try simp only [Act.put, List.setIfInBounds_toArray, List.set_cons_zero, List.set_cons_succ, List.getElem_toArray, List.getElem_cons_zero, List.getElem_cons_succ]
      refine plan_nil ?_
      simp only [List.drop_succ_cons, List.drop_zero]
      have HK3 := Lib.hid (HK1.out.below HB3.out)
      have HR3 := Lib.hid (HR1.out.below HB3.out)
      have HBW : Hid (Below w.heap.size w w3) := Lib.hid (HB1.out.trans (HB3.out.mono HB1.out.size))
      have hjl : j < B.rows.length := by rw [HH.out.zn]; exact hj
      have HOF : Hid (∀ R, R < w1.heap.size → Off R p xs B.rows pp B.par → g ≠ R → Off R (some ⟨g, 0, none⟩) (xs.set j (.slice (some ⟨w1.heap.size, 0, none⟩) m m)) (B.rows.set j (List.replicate m 0)) pp B.par) := Lib.hid (fun R hR ho hg => ho.put HH.out.rw_.len hjl hg (fun b e => by
        have e' : some w1.heap.size = some b := e
        injection e' with e'
        omega))
      clear hrun HWI cK cR fR lR hjl HK1 HR1
      have cK := HK3.out.c
      have fK := HK3.out.f
      have lK := HK3.out.lt
      go_upto_region 6 with fail
      obtain ⟨w4, hw4⟩ : ∃ w4, w4 = ((w3.setCell ⟨w.heap.size, 0, none⟩ (.slice (some ⟨g, 0, none⟩) n c')).setCell ⟨w.heap.size, 1, none⟩ (.slice pp m cc)).setCell ⟨w.heap.size, 2, none⟩ (.int .i64 z) := ⟨_, rfl⟩
      have HBN4 := Lib.hid (HBN.out.set3 (HOF.out w.heap.size (by have := HN1.out; omega) HOK.out (by have := HG.out; omega)) (.slice (some ⟨g, 0, none⟩) n c') (.slice pp m cc) (.int .i64 z))
      have HK4 : Hid (Blk w4 w.heap.size #[.slice (some ⟨g, 0, none⟩) n c', .slice pp m cc, .int .i64 z]) := Lib.hid (by rw [hw4]; exact set3_same HK3.out _ _ _)
      have HR4 : Hid (Blk w4 (w.heap.size + 1) #[.slice none 0 0, .slice none 0 0, .int .i64 0]) := Lib.hid (by rw [hw4]; exact set3_other HR3.out (by omega) _ _ _)
      have HB4 : Hid (Below w.heap.size w w4) := Lib.hid (by rw [hw4]; exact set3_below HBW.out (Nat.le_refl _) _ _ _)
      rw [← hw4] at HBN4 ⊢
      clear hw4 cK fK lK HK3 HR3 HBW HBN
      have cK := HK4.out.c
      have fK := HK4.out.f
      have lK := HK4.out.lt
      go_upto_region 7 with fail
      obtain ⟨w5, hw5⟩ : ∃ w5, w5 = w4.setCell ⟨w.heap.size, 2, none⟩ (.int .i64 ((j : Int) + 1)) := ⟨_, rfl⟩
      have HBN5 := Lib.hid (HBN4.out.set (HOF.out w.heap.size (by have := HN1.out; omega) HOK.out (by have := HG.out; omega)) 2 (.int .i64 ((j : Int) + 1)))
      have HK5 : Hid (Blk w5 w.heap.size #[.slice (some ⟨g, 0, none⟩) n c', .slice pp m cc, .int .i64 ((j : Int) + 1)]) := Lib.hid (by rw [hw5]; exact HK4.out.set (n := 2) _ (by simp))
      have HR5 : Hid (Blk w5 (w.heap.size + 1) #[.slice none 0 0, .slice none 0 0, .int .i64 0]) := Lib.hid (by rw [hw5]; exact HR4.out.other _ (by omega))
      have HB5 : Hid (Below w.heap.size w w5) := Lib.hid (by rw [hw5]; exact HB4.out.setCell (p := ⟨w.heap.size, 2, none⟩) (Nat.le_refl _) _)
      rw [← hw5] at HBN5 ⊢
      clear hw5 cK fK lK HK4 HR4 HB4 HBN4
      have cK := HK5.out.c
      have cR := HR5.out.c
      have fR := HR5.out.f
      have lR := HR5.out.lt
      go_wp2_with fail
      refine bodyPost_ret (v := .tuple #[.agg #[.slice (some ⟨g, 0, none⟩) n c', .slice pp m cc, .int .i64 ((j : Int) + 1)], .int .i64 0]) (by simp [results, Try.results14, go_sem, *]) rfl ⟨some ⟨g, 0, none⟩, n, c', xs.set j (.slice (some ⟨w1.heap.size, 0, none⟩) m m), pp, m, cc, by rw [HBP.out], ?_, set3_below HB5.out (by omega) _ _ _, ?_⟩
      all_goals rw [HBP.out]
      rotate_left
      · exact fun R hR ho => HOF.out R (by have := HN1.out; omega) ho (by have := HG.out; omega)
      exact (HBN5.out.set3 (HOF.out (w.heap.size + 1) (by have := HN1.out; omega) HOR.out (by have := HG.out; omega)) _ _ _).lost _
    · have hz0' : (z != 0) = true := by simpa using hz0
      have hB : B' = B := by rw [HB'.out]; unfold loseB; rw [← HR.out, if_pos rfl, if_neg (by rw [← HZ.out]; exact hz0)]
      have hE : E = 8 := by rw [HE.out]; unfold loseE; rw [← HR.out, if_pos rfl, if_neg (by rw [← HZ.out]; exact hz0)]
      subst hB hE
      clear hz0
      go_wp2_with fail
      refine bodyPost_ret (v := .tuple #[.agg #[.slice p n c, .slice pp m cc, .int .i64 z], .int .i64 8]) (by simp [results, Try.results14, go_sem, *]) rfl ⟨p, n, c, xs, pp, m, cc, by rw [HZ.out], HH1.out.set3 HOR.out _ _ _, set3_below HB1.out (by omega) _ _ _, fun R _ h => h⟩
end Go.Proofs.Ytkeemmedbbammaa
