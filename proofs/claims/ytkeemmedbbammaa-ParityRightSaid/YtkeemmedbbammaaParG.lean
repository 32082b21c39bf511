/- Banks copied: in memory of one's own; no condition but that they read. -/
import Derived.Test.YtkeemmedbbammaaParF
namespace Go.Proofs.Ytkeemmedbbammaa
set_option linter.unusedVariables false
open Go.ChangeShapes Go.WideShapes Go.ChangeAt Go.RowKit

/-- Banks in memory of one's own. -/
structure OwnB (base : Nat) (w : World) (p : Option Addr) (n c : Nat) (ys : List Value) (pp : Option Addr) (m cc : Nat) (B : Bk) : Prop where
  zn : B.rows.length = n
  own : Own base w (.slice p n c) ys B.rows
  zm : B.par.length = m
  par : w.ownsRow base 26 1 (.slice pp m cc) m (u32C B.par)
  plt : ∀ x ∈ B.par, x < 4294967296
  rlt : ∀ l ∈ B.rows, ∀ x ∈ l, x < 4294967296
  n100 : n ≤ 100
  l100 : ∀ l ∈ B.rows, l.length ≤ 100
  m100 : m ≤ 100
  sep1 : ∀ g, (Value.slice pp m cc).ownBlock = some g → (Value.slice p n c).ownBlock ≠ some g
  sep2 : ∀ k, k < n → ∀ g, (Value.slice pp m cc).ownBlock = some g → (ys.getD k vz).ownBlock ≠ some g
theorem OwnB.below {base : Nat} {w w' : World} {p : Option Addr} {n c : Nat} {ys : List Value} {pp : Option Addr} {m cc : Nat} {B : Bk} (h : OwnB base w p n c ys pp m cc B) (hb : Below w.heap.size w w') : OwnB base w' p n c ys pp m cc B :=
  ⟨h.zn, h.own.below hb, h.zm, own_below h.par hb, h.plt, h.rlt, h.n100, h.l100, h.m100, h.sep1, h.sep2⟩
theorem OwnB.mono {base base' : Nat} {w : World} {p : Option Addr} {n c : Nat} {ys : List Value} {pp : Option Addr} {m cc : Nat} {B : Bk} (h : OwnB base w p n c ys pp m cc B) (hb : base' ≤ base) : OwnB base' w p n c ys pp m cc B :=
  ⟨h.zn, h.own.mono hb, h.zm, own_base h.par hb, h.plt, h.rlt, h.n100, h.l100, h.m100, h.sep1, h.sep2⟩
theorem OwnB.setOff {base : Nat} {w : World} {p : Option Addr} {n c : Nat} {ys : List Value} {pp : Option Addr} {m cc : Nat} {B : Bk} (h : OwnB base w p n c ys pp m cc B) {R : Nat} (hR : R < base) (j : Nat) (u : Value) : OwnB base (w.setCell ⟨R, j, none⟩ u) p n c ys pp m cc B :=
  ⟨h.zn, h.own.setOff hR j u, h.zm, own_off h.par (fun g e => by have := (h.par.lt g e).1; omega) j u, h.plt, h.rlt, h.n100, h.l100, h.m100, h.sep1, h.sep2⟩
theorem OwnB.bn {base : Nat} {w : World} {p : Option Addr} {n c : Nat} {ys : List Value} {pp : Option Addr} {m cc : Nat} {B : Bk} (h : OwnB base w p n c ys pp m cc B) : Bn w p n c ys pp m cc B := by
  obtain ⟨p', c', e, hc, hr⟩ := h.own.rw_ (by rw [h.zn]; exact h.n100) h.l100 h.rlt
  injection e with e1 e2 e3
  subst e1 e3
  obtain ⟨q, d, e, hd⟩ := own_cap h.par
  injection e with e4 e5 e6
  subst e6
  exact ⟨h.zn, hr, by rw [← h.zn]; exact hc, h.zm, nm_own h.par h.zm h.plt, hd, h.m100⟩

set_option maxHeartbeats 4000000 in
theorem copied_any (p : Option Addr) (n c : Nat) (xs : List Value) (pp : Option Addr) (m cc : Nat) (B : Bk) (w : World) (h : Bn w p n c xs pp m cc B) :
    Calls Try.prog 23 #[.agg #[.slice p n c, .slice pp m cc, .int .i64 B.lost]] w fun e w' => ∃ p' c' ys pp' cc', e = .returned (.agg #[.slice p' n c', .slice pp' m cc', .int .i64 B.lost]) ∧ OwnB w.heap.size w' p' n c' ys pp' m cc' B ∧ Below w.heap.size w w' := by
  have hm := h.n100
  have HH := Lib.hid h
  have HZ := Lib.hid h.zn
  have HP := Lib.hid h.rw_
  obtain ⟨L, hL⟩ : ∃ L, L = B.rows := ⟨_, rfl⟩
  rw [← hL] at HZ HP
  obtain ⟨z, hz⟩ : ∃ z, z = B.lost := ⟨_, rfl⟩
  rw [← hz]
  have HL := Lib.hid hL
  clear h hL hz
  go_enter Try.func23, Try.ntmps23
  go_wp2_with fail
  refine (clone_rows p n c xs L _ HZ.out (HP.out.below (((Below.refl _ _).alloc (Nat.le_refl _) _).alloc (by simp) _))).mono ?_
  rintro e w1 ⟨v, rfl, ho, hb⟩
  obtain ⟨q, cap, rfl, hcap⟩ := own_cap ho
  have HB1 : Hid (Below w.heap.size w w1) := Lib.hid ((((Below.refl _ _).alloc (Nat.le_refl _) _).alloc (by simp) _).trans (hb.mono (by simp; omega)))
  have HR : Hid (Blk w1 (w.heap.size + 1) #[.slice none 0 0, .slice none 0 0, .int .i64 0]) := Lib.hid (by
    have := Blk.track1 hb
    simpa using this)
  have HA : Hid (Blk w1 w.heap.size #[.slice p n c, .slice pp m cc, .int .i64 z]) := Lib.hid (Blk.track2 hb)
  have HO : Hid (OwnK (w.heap.size + 2) w1 (.slice q L.length cap) xs xs L 0) := Lib.hid (OwnK.begin (by rw [HZ.out]; exact own_base ho (by simp)))
  have HG : Hid (∀ g, q = some ⟨g, 0, none⟩ → w.heap.size + 2 ≤ g) := Lib.hid (by
    intro g e
    subst e
    have := (ho.lt g rfl).1
    simpa using this)
  clear hb ho
  go_wp2_with fail
  go_loopw [11] (fun i wr => ∃ k : Nat, k ≤ n ∧ i = .int .i64 k ∧ (∃ ys, OwnK (w.heap.size + 2) wr (.slice q L.length cap) xs ys L k) ∧ Blk wr (w.heap.size + 1) #[.slice none 0 0, .slice none 0 0, .int .i64 0] ∧ Blk wr w.heap.size #[.slice p n c, .slice pp m cc, .int .i64 z] ∧ Below w.heap.size w wr) (fun i _ => n - (intOf i).toNat)
  case atStart => exact ⟨0, Nat.zero_le _, rfl, ⟨_, HO.out⟩, HR.out, HA.out, HB1.out⟩
  case round =>
    obtain ⟨k, hk, rfl, ⟨ys, ho⟩, hr, ha, hb⟩ := hrel
    clear HB1 HR HO HA
    have HRR := Lib.hid hr
    have HAA := Lib.hid ha
    have HB := Lib.hid hb
    clear hr hb ha
    by_cases hlt : k < n
    · have hlt' : k < L.length := by rw [HZ.out]; exact hlt
      obtain ⟨g, rfl, hnc, hcm, hbg, hgl⟩ := own_go ho.row (by rw [HZ.out]; omega)
      have hfs : Rs wr (xs.getD k vz) (L.getD k []) := (HP.out.rs k hlt').below HB.out
      have hl := HP.out.l100 _ (mem_getD L [] k hlt')
      obtain ⟨l, hle⟩ : ∃ l, l = L.getD k [] := ⟨_, rfl⟩
      rw [← hle] at hfs hl
      have HFS := Lib.hid hfs
      have HLE := Lib.hid hle
      obtain ⟨pk, ck, hv, _, _⟩ := hfs
      have hck : wr.cell? ⟨g, k, none⟩ = some (.slice pk l.length ck) := by
        rw [ho.row.cellAt k (by omega), ← hv, ← ho.rest k (Nat.le_refl _), List.getD_eq_getElem?_getD, List.getElem?_eq_getElem (by rw [ho.row.1]; omega)]
        rfl
      have HO := Lib.hid ho
      have HV := Lib.hid hv
      have HBG : Hid (w.heap.size + 2 ≤ g) := Lib.hid (HG.out g rfl)
      clear ho hv hbg hgl hnc hcm hle
      go_wp2_with fail
      refine (clone_words _ l _ (by rw [← HV.out]; exact HFS.out) hl).mono ?_
      rintro e w2 ⟨r, rfl, hr2, hb2⟩
      have HO2 := Lib.hid (HO.out.step hlt' HRR.out.lt hb2 (by rw [← HLE.out]; exact hr2))
      obtain ⟨q2, c2, rfl, _⟩ := own_cap hr2
      have hc2 : w2.cell? ⟨g, k, none⟩ = some (.slice pk l.length ck) := (hb2.cell (p := ⟨g, k, none⟩) (HO.out.row.lt g rfl).2).trans hck
      have hf2 : w2.frozen? ⟨g, k, none⟩ = false := (OwnK.below HO.out hb2).row.frozenAt k
      have HRR2 := Lib.hid ((HRR.out.below hb2).other (B' := g) (n := k) (.slice q2 l.length c2) (by have := HBG.out; omega))
      have HAA2 := Lib.hid ((HAA.out.below hb2).other (B' := g) (n := k) (.slice q2 l.length c2) (by have := HBG.out; omega))
      have HB2 := Lib.hid ((HB.out.trans (hb2.mono HB.out.size)).setCell (p := ⟨g, k, none⟩) (by show w.heap.size ≤ g; have := HBG.out; omega) (.slice q2 l.length c2))
      clear hb2 hr2 hck
      go_wp2_with fail
      go_roundw
      case rel => exact ⟨k + 1, by omega, by go_num, ⟨_, HO2.out⟩, HRR2.out, HAA2.out, HB2.out⟩
      case measure => simp [intOf]; omega
    · have hkn : k = L.length := by rw [HZ.out]; omega
      have HO := Lib.hid (OwnK.done (hkn ▸ ho))
      clear ho hkn
      go_upto_region 7 with fail
      have HNR := Lib.hid (HH.out.nm.below HB.out)
      have hmm := HH.out.m100
      have hcmm := HH.out.cm
      refine region_plan (fun w' : World => (∀ j, w'.cell? ⟨w.heap.size, j, none⟩ = (#[.slice p n c, .slice pp m cc, .int .i64 z] : Array Value)[j]?) ∧ Below wr.heap.size wr w') 6 [(0, true), (1, true), (2, true), (4, true), (5, true), (3, false)] (by kernel_rfl) (by kernel_rfl) (sOf HAA ((Below.refl _ _).drew)) ?_
      iterate 5
        refine plan_read (v := ?_) rfl (by rfl) ?_ ?_
        rotate_left
        · intro w' hS
          try dsimp only at hS
          go_simp
          try with_reducible rfl
        try simp only [Act.put, List.setIfInBounds_toArray, List.set_cons_zero, List.set_cons_succ, List.getElem_toArray, List.getElem_cons_zero, List.getElem_cons_succ]
      refine plan_call (F := 34) (args := ?_) rfl (by rfl) ?_ ?_
      rotate_left
      · go_simp
        rfl
      refine (clone_words _ B.par _ ⟨pp, cc, by rw [HH.out.zm], by rw [HH.out.zm]; exact hcmm, HNR.out.below (Below.refl _ _).drew⟩ (by rw [HH.out.zm]; exact hmm)).mono ?_
      rintro e w2 ⟨r, rfl, hr2, hb2⟩
      have HB2 : Hid (Below wr.heap.size wr w2) := Lib.hid ((Below.refl _ _).drew.trans hb2)
      unfold Wv at hr2
      rw [HH.out.zm] at hr2
      obtain ⟨q2, c2, rfl, hqc⟩ := own_cap hr2
      have HW2 : Hid (w2.ownsRow wr.heap.size 26 1 (.slice q2 m c2) m (u32C B.par)) := Lib.hid hr2
      clear hb2 hr2
      refine ⟨_, rfl, sOf HAA HB2.out, ?_⟩
      try simp only [Act.put, List.setIfInBounds_toArray, List.set_cons_zero, List.set_cons_succ, List.getElem_toArray, List.getElem_cons_zero, List.getElem_cons_succ]
      refine plan_nil ?_
      simp only [List.drop_succ_cons, List.drop_zero]
      have HOB : Hid (OwnB (w.heap.size + 2) w2 q n cap ys q2 m c2 B) := Lib.hid (by
        have hw := HW2.out
        have hnew : ∀ g, (Value.slice q2 m c2).ownBlock = some g → wr.heap.size ≤ g := fun g e => (hw.lt g e).1
        have ho := HO.out.below HB2.out
        have hor := HO.out.row
        rw [HZ.out] at ho hor
        refine ⟨HH.out.zn, by rw [← HL.out]; exact ho, HH.out.zm, own_base hw (by have := HRR.out.lt; omega), HNR.out.lt, HH.out.rw_.lt, hm, HH.out.rw_.l100, hmm, fun g e1 e2 => ?_, fun k hk g e1 e2 => ?_⟩
        · have := hnew g e1
          have := (hor.lt g e2).2
          omega
        · have := hnew g e1
          have := ((HO.out.fr k (by rw [HZ.out]; exact hk)).lt g e2).2
          omega)
      have HR2 := Lib.hid (HRR.out.below HB2.out)
      have cR := HR2.out.c
      have fR := HR2.out.f
      have lR := HR2.out.lt
      go_wp2_with fail
      refine bodyPost_ret (v := .agg #[.slice q n cap, .slice q2 m c2, .int .i64 z]) (by simp [results, Try.results23, go_sem, *]) rfl ⟨q, cap, ys, q2, c2, rfl, ?_, ?_⟩
      · exact (((HOB.out.setOff (by omega) 0 _).setOff (by omega) 1 _).setOff (by omega) 2 _).mono (by omega)
      · have hbb := HB.out.trans (HB2.out.mono HB.out.size)
        exact ((hbb.setCell (p := ⟨w.heap.size + 1, 0, none⟩) (by show w.heap.size ≤ w.heap.size + 1; omega) _).setCell (p := ⟨w.heap.size + 1, 1, none⟩) (by show w.heap.size ≤ w.heap.size + 1; omega) _).setCell (p := ⟨w.heap.size + 1, 2, none⟩) (by show w.heap.size ≤ w.heap.size + 1; omega) _
end Go.Proofs.Ytkeemmedbbammaa
