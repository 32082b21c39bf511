/- The document's own has, Read and with; no condition but that the banks read. -/
import Derived.Test.YtkeemmedbbammaaParN
namespace Go.Proofs.Ytkeemmedbbammaa
set_option linter.unusedVariables false
open Go.ChangeShapes Go.WideShapes Go.ChangeAt Go.RowKit

set_option maxHeartbeats 1000000 in
theorem rhas_any (p : Option Addr) (n c : Nat) (xs : List Value) (pp : Option Addr) (m cc : Nat) (B : Bk) (k : Int) (w : World) (h : Bn w p n c xs pp m cc B) :
    Calls Try.prog 22 #[.agg #[.slice p n c, .slice pp m cc, .int .i64 B.lost], .int .i64 k] w fun e w' => e = .returned (.bool (hasB B k)) ∧ Below w.heap.size w w' := by
  have hm := h.m100
  have hn := h.n100
  have hri := fun w' hb => rright_any p n c xs pp m cc B w' (h.below hb)
  obtain ⟨r, hr⟩ : ∃ r, r = rightB B := ⟨_, rfl⟩
  obtain ⟨z, hz⟩ : ∃ z, z = B.lost := ⟨_, rfl⟩
  obtain ⟨y, hy⟩ : ∃ y, y = hasB B k := ⟨_, rfl⟩
  have hy2 : y = (r && decide (0 ≤ k ∧ k < n)) := by rw [hy, hr]; unfold hasB; rw [h.zn]
  rw [← hr, ← hz] at hri
  rw [← hz, ← hy]
  have HRI := Lib.hid hri
  have HY := Lib.hid hy2
  clear h hr hz hy hy2 hri
  go_enter Try.func22, Try.ntmps22
  go_wp2_with fail
  have HB0 : Hid (Below w.heap.size w (w.alloc (.cells #[.slice p n c, .slice pp m cc, .int .i64 z] 25))) := Lib.hid ((Below.refl _ _).alloc (Nat.le_refl _) _)
  refine (HRI.out _ HB0.out).mono ?_
  rintro e w1 ⟨rfl, hb1⟩
  have kc := (Blk.track1 hb1).c
  have HB1 : Hid (Below w.heap.size w w1) := Lib.hid (HB0.out.trans (hb1.mono HB0.out.size))
  clear hb1 HB0 HRI
  cases r with
  | false =>
    go_wp2_with fail
    go_ret
    exact ⟨by rw [HY.out]; rfl, HB1.out⟩
  | true =>
    by_cases h0 : 0 ≤ k
    · have e0 : decide (0 ≤ k) = true := decide_eq_true h0
      by_cases h1 : k < (n : Int)
      · have e1 : decide (k < (n : Int)) = true := decide_eq_true h1
        have hf : y = true := by rw [HY.out, decide_eq_true ⟨h0, h1⟩]; rfl
        subst hf
        clear h0 h1
        go_wp2_with fail
        go_ret
        exact ⟨rfl, HB1.out⟩
      · have e1 : decide (k < (n : Int)) = false := decide_eq_false h1
        have hf : y = false := by rw [HY.out, decide_eq_false (by omega)]; rfl
        subst hf
        clear h0 h1
        go_wp2_with fail
        go_ret
        exact ⟨rfl, HB1.out⟩
    · have e0 : decide (0 ≤ k) = false := decide_eq_false h0
      have hf : y = false := by rw [HY.out, decide_eq_false (by omega)]; rfl
      subst hf
      clear h0
      go_wp2_with fail
      go_ret
      exact ⟨rfl, HB1.out⟩

theorem Rw.put {w w1 : World} {base : Nat} {p : Option Addr} {xs : List Value} {L : List (List Nat)} (h : Rw w p xs L) {g n c k : Nat} {r : Value} {l : List Nat} (ho : w1.ownsRow base 23 1 (.slice (some ⟨g, 0, none⟩) n c) n xs) (hz : L.length = n) (hbase : w.heap.size ≤ base) (hb : Below w.heap.size w w1)
    (hr : Rs w r l) (hl : l.length ≤ 100) (hk : k < n) : Rw (w1.setCell ⟨g, k, none⟩ r) (some ⟨g, 0, none⟩) (xs.set k r) (L.set k l) := by
  have hs := (ho.stored k r).1
  have hg := (ho.lt g rfl).1
  have hb2 : Below w.heap.size w (w1.setCell ⟨g, k, none⟩ r) := hb.setCell (p := ⟨g, k, none⟩) (by show w.heap.size ≤ g; omega) _
  have hY : ∀ i, (xs.set k r).getD i vz = if i = k then r else xs.getD i vz := fun i => getD_set xs vz r k i (by rw [h.len, hz]; exact hk)
  have hD : ∀ i, (L.set k l).getD i [] = if i = k then l else L.getD i [] := fun i => getD_set L [] l k i (by rw [hz]; exact hk)
  refine ⟨by rw [List.length_set, List.length_set]; exact h.len, ?_, fun i hi => ?_, by rw [List.length_set]; exact h.n100, fun l2 hl2 => ?_⟩
  · obtain ⟨q, d, e, hsl⟩ := Sl.own hs
    injection e with e1 e2 e3
    subst e1
    rw [List.length_set, hz]
    exact hsl
  · rw [hY, hD]
    by_cases e : i = k
    · rw [if_pos e, if_pos e]; exact hr.below hb2
    · rw [if_neg e, if_neg e]; exact (h.rs i (by rwa [List.length_set] at hi)).below hb2
  · rcases List.mem_or_eq_of_mem_set hl2 with h1 | h1
    · exact h.l100 l2 h1
    · rw [h1]; exact hl

set_option maxHeartbeats 2000000 in
theorem with_any (p : Option Addr) (n c : Nat) (xs : List Value) (pp : Option Addr) (m cc : Nat) (B : Bk) (k : Nat) (q : Option Addr) (x d : Nat) (l : List Nat) (w : World) (h : Bn w p n c xs pp m cc B) (hk : k < n) (hr : Rs w (.slice q x d) l) (hx : x ≤ 100) :
    Calls Try.prog 24 #[.agg #[.slice p n c, .slice pp m cc, .int .i64 B.lost], .int .i64 k, .slice q x d] w fun e w' => ∃ g c', e = .returned (.agg #[.slice (some ⟨g, 0, none⟩) n c', .slice pp m cc, .int .i64 B.lost]) ∧ Bn w' (some ⟨g, 0, none⟩) n c' (xs.set k (.slice q x d)) pp m cc ⟨B.rows.set k l, B.par, B.lost⟩ ∧ Below w.heap.size w w' ∧ w.heap.size ≤ g := by
  obtain ⟨i0, hi, hz0, hz1, hz2⟩ := info_parts info23
  have HI := Lib.hid (And.intro hi (And.intro hz0 (And.intro hz1 hz2)))
  have hm := h.m100
  have hn := h.n100
  have HH := Lib.hid h
  have HRR := Lib.hid hr
  obtain ⟨z, hz⟩ : ∃ z, z = B.lost := ⟨_, rfl⟩
  rw [← hz]
  have HZ := Lib.hid hz
  have HBA : Hid (Below w.heap.size w ((w.alloc (.cells #[.slice p n c, .slice pp m cc, .int .i64 z] 25)).alloc (.cells #[.slice none 0 0, .slice none 0 0, .int .i64 0] 25))) := Lib.hid (((Below.refl _ _).alloc (Nat.le_refl _) _).alloc (by simp) _)
  have HK0 : Hid (Blk ((w.alloc (.cells #[.slice p n c, .slice pp m cc, .int .i64 z] 25)).alloc (.cells #[.slice none 0 0, .slice none 0 0, .int .i64 0] 25)) w.heap.size #[.slice p n c, .slice pp m cc, .int .i64 z]) := Lib.hid ((Blk.new _ _ _).alloc _)
  have HR0 : Hid (Blk ((w.alloc (.cells #[.slice p n c, .slice pp m cc, .int .i64 z] 25)).alloc (.cells #[.slice none 0 0, .slice none 0 0, .int .i64 0] 25)) (w.heap.size + 1) #[.slice none 0 0, .slice none 0 0, .int .i64 0]) := Lib.hid (by
    have := Blk.new (w.alloc (.cells #[.slice p n c, .slice pp m cc, .int .i64 z] 25)) #[.slice none 0 0, .slice none 0 0, .int .i64 0] 25
    rwa [size_new] at this)
  obtain ⟨b, off, q0, x0, c0, rfl, hrow⟩ := h.rw_.rowAt k (by rw [h.zn]; exact hk)
  have HXL : Hid (xs.length = n) := Lib.hid (by rw [h.rw_.len, h.zn])
  have hkI : (0 : Int) ≤ (k : Int) := by omega
  have hkI2 : (k : Int) < (n : Int) := by omega
  clear h hi hz0 hz1 hz2 hr hz hrow
  go_enter Try.func24, Try.ntmps24
  go_upto_region 1 with fail
  obtain ⟨w0, hw0⟩ : ∃ w0, w0 = (w.alloc (.cells #[.slice (some ⟨b, off, none⟩) n c, .slice pp m cc, .int .i64 z] 25)).alloc (.cells #[.slice none 0 0, .slice none 0 0, .int .i64 0] 25) := ⟨_, rfl⟩
  have HSZ : Hid (w0.heap.size = w.heap.size + 2) := Lib.hid (by rw [hw0, size_new, size_new])
  rw [← hw0] at HBA HK0 HR0 ⊢
  clear hw0
  have HHW := Lib.hid (HH.out.below HBA.out)
  have k0 := (HK0.out.alloc (.cells #[] 23)).c
  have HS : Hid (Sl (w0.alloc (.cells #[] 23)) (some ⟨b, off, none⟩) n xs) := Lib.hid (by
    have := HHW.out.rw_.sl.below ((Below.refl _ _).alloc (Nat.le_refl _) (.cells #[] 23))
    rwa [HH.out.zn] at this)
  go_wp2_with (first | (at_builtin; refine wpList_append_sl rfl _ _ 22 rfl w0.heap.size 23 i0 (.slice none 0 0) 1 24 Try.underlying22 HI.out.1 HI.out.2.1 HI.out.2.2.1 HI.out.2.2.2 rfl (by decide) _ 0 [] rfl (fresh_made (Nat.le_refl _)) (some ⟨b, off, none⟩) n c xs rfl (by rw [HXL.out, Nat.mul_one]) HS.out HH.out.rw_.one (by unfold maxLen; omega) (by omega) (by simp) ?_))
  intro v' w1 g1 g2 g3
  have g1' : w1.ownsRow w0.heap.size 23 1 v' n xs := by simpa using g1
  have HB1 : Hid (Below w0.heap.size w0 w1) := Lib.hid (((Below.refl w0.heap.size w0).alloc (Nat.le_refl _) _).grown g2 (by simp) (fun k hk => by simp [Value.ownBlock] at hk; omega))
  obtain ⟨p1, c1, rfl, hc1⟩ := own_cap g1'
  obtain ⟨g, rfl, _, _, hg0, hg1⟩ := own_go g1' (by omega)
  have HO1 := Lib.hid g1'
  have HK1 := Lib.hid (HK0.out.below HB1.out)
  have HR1 := Lib.hid (HR0.out.below HB1.out)
  have HBW : Hid (Below w.heap.size w w1) := Lib.hid (HBA.out.trans (HB1.out.mono HBA.out.size))
  have HG : Hid (w.heap.size + 2 ≤ g) := Lib.hid (by have := HSZ.out; omega)
  have hcg : ∃ u, w1.cell? ⟨g, k, none⟩ = some u := ⟨_, by rw [HO1.out.cellAt k (by omega)]; exact List.getElem?_eq_getElem (by rw [HXL.out]; exact hk)⟩
  obtain ⟨u1, hu1⟩ := hcg
  have hf1 : w1.frozen? ⟨g, k, none⟩ = false := HO1.out.frozenAt k
  clear g1 g1' g2 g3 hg0 hg1 k0
  go_upto_region 3 with fail
  obtain ⟨w2, hw2⟩ : ∃ w2, w2 = w1.setCell ⟨g, k, none⟩ (.slice q x d) := ⟨_, rfl⟩
  have HRW : Hid (Rw w2 (some ⟨g, 0, none⟩) (xs.set k (.slice q x d)) (B.rows.set k l)) := Lib.hid (by
    rw [hw2]
    obtain ⟨q', d', e, h1, h2⟩ := HRR.out
    have hlx : l.length = x := by injection e with _ e _; exact e.symm
    exact HH.out.rw_.put (base := w0.heap.size) HO1.out HH.out.zn (by have := HSZ.out; omega) HBW.out HRR.out (by omega) hk)
  have HK2 : Hid (Blk w2 w.heap.size #[.slice (some ⟨b, off, none⟩) n c, .slice pp m cc, .int .i64 z]) := Lib.hid (by rw [hw2]; exact HK1.out.other _ (by have := HG.out; omega))
  have HR2 : Hid (Blk w2 (w.heap.size + 1) #[.slice none 0 0, .slice none 0 0, .int .i64 0]) := Lib.hid (by rw [hw2]; exact HR1.out.other _ (by have := HG.out; omega))
  have HB2 : Hid (Below w.heap.size w w2) := Lib.hid (by rw [hw2]; exact HBW.out.setCell (p := ⟨g, k, none⟩) (by show w.heap.size ≤ g; have := HG.out; omega) _)
  have HCC : Hid (n ≤ c1) := Lib.hid hc1
  rw [← hw2]
  clear hw2 hu1 hf1 HO1 HK1 HR1 HBW hc1
  have cK := HK2.out.c
  have fK := HK2.out.f
  have lK := HK2.out.lt
  go_upto_region 4 with fail
  obtain ⟨w3, hw3⟩ : ∃ w3, w3 = w2.setCell ⟨w.heap.size, 0, none⟩ (.slice (some ⟨g, 0, none⟩) n c1) := ⟨_, rfl⟩
  have HK3 : Hid (Blk w3 w.heap.size #[.slice (some ⟨g, 0, none⟩) n c1, .slice pp m cc, .int .i64 z]) := Lib.hid (by rw [hw3]; exact HK2.out.set (n := 0) _ (by simp))
  have HR3 : Hid (Blk w3 (w.heap.size + 1) #[.slice none 0 0, .slice none 0 0, .int .i64 0]) := Lib.hid (by rw [hw3]; exact HR2.out.other _ (by omega))
  have HB3 : Hid (Below w.heap.size w w3) := Lib.hid (by rw [hw3]; exact HB2.out.setCell (p := ⟨w.heap.size, 0, none⟩) (Nat.le_refl _) _)
  have HX3 : Hid (∀ j, w3.cell? ⟨g, j, none⟩ = w2.cell? ⟨g, j, none⟩) := Lib.hid (fun j => by rw [hw3]; exact World.cell?_setCell_other _ _ _ _ (by intro e; injection e with e1; have := HG.out; omega))
  have HZ3 : Hid (w3.heap.size = w2.heap.size) := Lib.hid (by rw [hw3, size_set])
  rw [← hw3]
  clear hw3 cK fK lK HK2 HR2
  have cK := HK3.out.c
  have cR := HR3.out.c
  have fR := HR3.out.f
  have lR := HR3.out.lt
  go_wp2_with fail
  have HBF : Hid (Below w.heap.size w (((w3.setCell ⟨w.heap.size + 1, 0, none⟩ (.slice (some ⟨g, 0, none⟩) n c1)).setCell ⟨w.heap.size + 1, 1, none⟩ (.slice pp m cc)).setCell ⟨w.heap.size + 1, 2, none⟩ (.int .i64 z))) := Lib.hid (res3_below HB3.out _ _ _)
  have HXF : Hid (∀ j, (((w3.setCell ⟨w.heap.size + 1, 0, none⟩ (.slice (some ⟨g, 0, none⟩) n c1)).setCell ⟨w.heap.size + 1, 1, none⟩ (.slice pp m cc)).setCell ⟨w.heap.size + 1, 2, none⟩ (.int .i64 z)).cell? ⟨g, j, none⟩ = w2.cell? ⟨g, j, none⟩) := Lib.hid (fun j => by
    rw [World.cell?_setCell_other _ _ _ _ (by intro e; injection e with e1; have := HG.out; omega), World.cell?_setCell_other _ _ _ _ (by intro e; injection e with e1; have := HG.out; omega), World.cell?_setCell_other _ _ _ _ (by intro e; injection e with e1; have := HG.out; omega)]
    exact HX3.out j)
  refine bodyPost_ret (v := .agg #[.slice (some ⟨g, 0, none⟩) n c1, .slice pp m cc, .int .i64 z]) (by simp [results, Try.results24, go_sem, *]) rfl ⟨g, c1, rfl, ?_, HBF.out, by have := HG.out; omega⟩
  refine ⟨by rw [List.length_set]; exact HH.out.zn, ⟨HRW.out.len, fun h0 => ?_, fun i hi => ?_, HRW.out.n100, HRW.out.l100⟩, HCC.out, HH.out.zm, HH.out.nm.below HBF.out, HH.out.cm, hm⟩
  · obtain ⟨b2, o2, h1, h2, h3⟩ := HRW.out.sl h0
    injection h2 with h2
    injection h2 with h2 h4
    subst h2 h4
    exact ⟨_, _, by simp [HZ3.out]; exact h1, rfl, fun j hj => by rw [HXF.out]; exact h3 j hj⟩
  · rw [List.length_set] at hi
    rw [getD_set xs vz _ k i (by rw [HXL.out]; exact hk), getD_set B.rows [] _ k i (by rw [HH.out.zn]; exact hk)]
    by_cases e : i = k
    · rw [if_pos e, if_pos e]; exact HRR.out.below HBF.out
    · rw [if_neg e, if_neg e]; exact (HH.out.rw_.rs i hi).below HBF.out
end Go.Proofs.Ytkeemmedbbammaa
