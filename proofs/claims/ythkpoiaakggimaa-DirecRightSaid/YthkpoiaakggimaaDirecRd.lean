/- The document's own Write; no condition but that what is known reads. -/
import Derived.Test.YthkpoiaakggimaaDirecRc
namespace Go.Proofs.Ythkpoiaakggimaa
theorem op_store {P : Program} {ops : Array Oper} {Q : Exit → Act → World → Prop} {i : Nat} {a : Act} {w w1 : World} {o : Oper} {K : Act → World → Prop} (ho : ops[i]? = some o) (hw : Region.wanted o (yielded ops a.tmps) = true) (hr : (execOp a.eval o).run P w = .ok .skip w1) (h : K (a.put o.dst undef) w1) : wpOp P ops Q i K a w := by
  unfold wpOp
  simp only [ho, hw, if_true, Oper.wp, hr, Oper.upon]
  exact .inl h
set_option linter.unusedVariables false
open Go.ChangeShapes Go.WideShapes Go.ChangeAt Go.RowKit

set_option maxHeartbeats 4000000 in
set_option maxRecDepth 100000 in
theorem rwrite_any (S : Nat → Prop) (v : Value) (E : En) (k : Int) (w : World) (h : Eo S w v E) (hS : ∀ R, S R → R < w.heap.size) : Calls Try.prog 11 #[v, .int .i64 k] w fun e w' => Out4 S w w' e (writeC E k) (readF E k) (writeT E k) (askX E k) := by
  have HHS := Lib.hid (fun W hW => has_any S v E k W (h.below (w := w) (w' := W) hW))
  obtain ⟨p, n, c, rfl, hc, hoff⟩ := h
  have hn := hc.n100
  have HLEN := Lib.hid hc.len
  have HEC := Lib.hid hc
  have HOF := Lib.hid hoff
  have HOT := Lib.hid (fun W hW => rothers_any p n c E k W (hc.below (w := w) (w' := W) hW))
  have HFIN : Hid (∀ w' p' n' c' O' L' q d F T X, Ec w' p' n' c' ⟨O', L'⟩ → (∀ R, S R → Off R p' n') → Below w.heap.size w w' → w'.ownsRow w.heap.size 3 1 (.slice q T.length d) T.length (inC T) → T.length ≤ 100 → writeC E k = ⟨O', L'⟩ ∧ readF E k = F ∧ askX E k = X ∧ writeT E k = T →
      Out4 S w w' (.returned (.tuple #[.agg #[.int .i64 O', .slice p' n' c'], .int .i64 F, .slice q T.length d, .int .i64 X])) (writeC E k) (readF E k) (writeT E k) (askX E k)) := Lib.hid (fun w' p' n' c' O' L' q d F T X ho hf hb hq ht e => by
    rw [e.1, e.2.1, e.2.2.1, e.2.2.2]
    obtain ⟨q', d', e', hs⟩ := Sl.own hq
    injection e' with e1 e2 e3
    subst e1
    exact ⟨_, _, _, rfl, ⟨_, _, _, rfl, ho, hf⟩, hs, fun R hR => own_offR hq (hS R hR), ht, hb⟩)
  have HSS := Lib.hid hS
  obtain ⟨O, hO⟩ : ∃ O, O = E.owner := ⟨_, rfl⟩
  obtain ⟨L, hL⟩ : ∃ L, L = E.share := ⟨_, rfl⟩
  have HEO : Hid (E.owner = O ∧ E.share = L) := Lib.hid ⟨hO.symm, hL.symm⟩
  rw [← hO] at HOT HHS ⊢
  rw [← hL] at HLEN
  have HES : Hid (E = ⟨O, L⟩) := Lib.hid (by rw [hO, hL])
  clear hO hL hc hoff
  obtain ⟨w0, hw0⟩ : ∃ w0, w0 = (w.alloc (.cells #[.int .i64 O, .slice p n c] 24)).alloc (.cells #[.int .i64 0, .slice none 0 0] 24) := ⟨_, rfl⟩
  have HB0 : Hid (Below w.heap.size w w0) := Lib.hid (by rw [hw0]; exact ((Below.refl _ _).alloc (Nat.le_refl _) _).alloc (by simp) _)
  have HA0 : Hid (Blk w0 w.heap.size #[.int .i64 O, .slice p n c]) := Lib.hid (by rw [hw0]; exact (Blk.new _ _ _).alloc _)
  have HT0 : Hid (Blk w0 (w.heap.size + 1) #[.int .i64 0, .slice none 0 0]) := Lib.hid (by
    have := Blk.new (w.alloc (.cells #[.int .i64 O, .slice p n c] 24)) #[.int .i64 0, .slice none 0 0] 24
    rw [World.size_alloc] at this
    rw [hw0]; exact this)
  have HW0 := Lib.hid hw0
  have HQ := Lib.hid (HHS.out w0 HB0.out)
  clear hw0 HHS
  go_enter Try.func11, Try.ntmps11
  have kA := HA0.out.c
  go_upto_region 1 with fail
  rw [← HW0.out]
  clear HW0
  obtain ⟨t, ht⟩ : ∃ t, t = hasE E k := ⟨_, rfl⟩
  rw [← ht] at HQ
  have HTT := Lib.hid ht
  clear ht
  go_wp2_with fail
  refine HQ.out.mono ?_
  rintro e w1 ⟨rfl, hb1⟩
  have HA1 := Lib.hid (HA0.out.below hb1)
  have HT1 := Lib.hid (HT0.out.below hb1)
  have HB1 : Hid (Below w.heap.size w w1) := Lib.hid (HB0.out.trans (hb1.mono HB0.out.size))
  clear hb1 HA0 HB0 HQ HT0 kA
  have kA := HA1.out.c
  have cT := HT1.out.c
  have fT := HT1.out.f
  have lT := HT1.out.lt
  cases t with
  | false =>
    have hh : ¬ hasE E k = true := by rw [← HTT.out]; decide
    have HRL : Hid (writeC E k = ⟨O, L⟩ ∧ readF E k = 0 ∧ askX E k = 1 ∧ writeT E k = []) := Lib.hid (by
      obtain ⟨e1, e2, e3, e4⟩ := write_no hh
      exact ⟨by rw [e1, HEO.out.1, HEO.out.2], e2, e3, e4⟩)
    clear hh HOT
    go_wp2_with fail
    have hec := HEC.out.below HB1.out
    rw [HES.out] at hec
    exact bodyPost_ret (v := .tuple #[.agg #[.int .i64 O, .slice p n c], .int .i64 0, .slice none 0 0, .int .i64 1]) (by simp [results, Try.results11, go_sem, *]) rfl (HFIN.out _ _ _ _ _ _ _ _ _ [] _ ((hec.set (HEC.out.off (Nat.le_succ _)) 0 _).set (HEC.out.off (Nat.le_succ _)) 1 _) HOF.out (set2_below HB1.out (by omega) _ _) (World.ownsRow_nil _ _ _ _) (Nat.zero_le _) HRL.out)
  | true =>
    have hh : hasE E k = true := HTT.out.symm
    obtain ⟨kk, rfl, hkn⟩ := has_nat (n := n) hh (by rw [HEO.out.2]; exact HLEN.out)
    have hk1 : wrap64 ((kk : Int) + 1) = (kk : Int) + 1 := by unfold wrap64; omega
    have hk2 : IntKind.i64.wrap ((kk : Int) + 1) = (kk : Int) + 1 := by rw [IntKind.wrap_i64]; omega
    have HRL : Hid (writeC E (kk : Int) = ⟨(kk : Int) + 1, List.replicate n false⟩ ∧ readF E (kk : Int) = O ∧ askX E (kk : Int) = 0 ∧ writeT E (kk : Int) = othE E (kk : Int)) := Lib.hid (by
      obtain ⟨e1, e2, e3, e4⟩ := write_yes hh
      exact ⟨by rw [e1, HEO.out.2, HLEN.out], by rw [e2, HEO.out.1], e3, e4⟩)
    have HTL : Hid ((othE E (kk : Int)).length ≤ 100) := Lib.hid (by
      have := oth_le E.share (kk : Int) E.share.length
      unfold othE
      rw [HEO.out.2, HLEN.out] at this ⊢
      omega)
    obtain ⟨T, hT⟩ : ∃ T, T = othE E (kk : Int) := ⟨_, rfl⟩
    rw [← hT] at HRL HTL HOT
    obtain ⟨i0, hi, hz0, hz1, hz2⟩ := info_parts info4
    have HI := Lib.hid (And.intro hi (And.intro hz0 (And.intro hz1 hz2)))
    clear hh hT hi hz0 hz1 hz2 cT fT lT
    have HS3 : Hid (∀ W, Below w1.heap.size w1 W → ∀ t, W.cell? ⟨w.heap.size, t, none⟩ = (#[.int .i64 O, .slice p n c] : Array Value)[t]?) := Lib.hid (fun W hW => (HA1.out.below hW).c)
    have HSZ : Hid (w.heap.size + 2 ≤ w1.heap.size) := Lib.hid (by have := HT1.out.lt; omega)
    go_upto_region 3 with fail
    refine region_planT (fun W : World => ∀ t, W.cell? ⟨w.heap.size, t, none⟩ = (#[.int .i64 O, .slice p n c] : Array Value)[t]?) 13 (.read 0 (.read 1 (.read 2 (.read 3 (.read 4 (.read 7 (.read 8 (.read 9 (.read 10 (.two 5 11 (.read 6 (.one 11 (.one 12 .stop))) (.one 5 (.read 6 (.one 12 .stop)))))))))))))  (by kernel_rfl) (by kernel_rfl) (HS3.out _ (Below.refl _ _).drew) ?_
    iterate 9
      refine planT_read (v := ?_) rfl (by rfl) ?_ ?_
      rotate_left
      · intro w' hS
        try dsimp only at hS
        go_simp
        try with_reducible rfl
      try simp only [Act.put, List.setIfInBounds_toArray, List.set_cons_zero, List.set_cons_succ, List.getElem_toArray, List.getElem_cons_zero, List.getElem_cons_succ]
    refine planT_two ?_ ?_
    · obtain ⟨w5, hrun, g1, g2⟩ := run_make_full (P := Try.prog) w1.drew w1.heap.size 22 4 i0 (.bool false) 1 Try.underlying22 HI.out.1 HI.out.2.1 HI.out.2.2.1 .i64 .i64 n (by rw [HI.out.2.2.2]; omega) (by unfold maxLen; omega) (Nat.le_refl _)
      have hsz5 : w1.drew.heap.size = w1.heap.size := rfl
      rw [hsz5, Nat.mul_one] at g1
      rw [hsz5] at hrun
      have e1 : (madeCells #[Value.bool false] n).toList = List.replicate n (.bool false) := toList_madeCells_one _ _
      have HM5 : Hid (w5.ownsRow w1.heap.size 4 1 (.slice (some ⟨w1.heap.size, 0, none⟩) n n) n (boC (List.replicate n false))) := Lib.hid (by rw [← boC_rep, ← e1]; exact g1)
      have HB5 : Hid (Below w1.heap.size w1 w5) := Lib.hid ((Below.refl w1.heap.size w1).drew.grown g2 (Nat.le_refl _) (fun k hk => by cases hk))
      clear g1 g2 e1 hsz5
      refine op_make (v := .slice (some ⟨w1.heap.size, 0, none⟩) n n) (w1 := w5) rfl (by rfl) (by go_simp) ⟨HS3.out _ HB5.out, ?_⟩
      try simp only [Act.put, List.setIfInBounds_toArray, List.set_cons_zero, List.set_cons_succ, List.getElem_toArray, List.getElem_cons_zero, List.getElem_cons_succ]
      clear hrun
      iterate 1
        refine planT_read (v := ?_) rfl (by rfl) ?_ ?_
        rotate_left
        · intro w' hS
          try dsimp only at hS
          go_simp
          try with_reducible rfl
        try simp only [Act.put, List.setIfInBounds_toArray, List.set_cons_zero, List.set_cons_succ, List.getElem_toArray, List.getElem_cons_zero, List.getElem_cons_succ]
      refine planT_one ?_
      refine op_call (F := 18) (args := ?_) rfl (by rfl) ?_ ?_
      rotate_left
      · go_simp
        rfl
      refine (HOT.out w5 (HB1.out.trans (HB5.out.mono HB1.out.size))).mono ?_
      rintro e w6 ⟨q, d, rfl, hq, hb⟩
      have HBZ : Hid (Below w1.heap.size w1 w6) := Lib.hid (HB5.out.trans (hb.mono HB5.out.size))
      have HQ6 : Hid (w6.ownsRow (w.heap.size + 2) 3 1 (.slice q T.length d) T.length (inC T)) := Lib.hid (own_base hq (by have := HSZ.out; have := HB5.out.size; omega))
      obtain ⟨gg, hgg⟩ : ∃ z, z = w1.heap.size := ⟨_, rfl⟩
      have HMK : Hid (w6.ownsRow (w.heap.size + 2) 4 1 (.slice (some ⟨gg, 0, none⟩) n n) n (boC (List.replicate n false))) := Lib.hid (by rw [hgg]; exact own_base (own_below HM5.out hb) HSZ.out)
      rw [← hgg]
      clear hq hb hgg HM5 HB5 HOT
      refine ⟨_, rfl, HS3.out _ HBZ.out, ?_⟩
      try simp only [Act.put, List.setIfInBounds_toArray, List.set_cons_zero, List.set_cons_succ, List.getElem_toArray, List.getElem_cons_zero, List.getElem_cons_succ]
      have HAZ := Lib.hid (HA1.out.below HBZ.out)
      have HTZ := Lib.hid (HT1.out.below HBZ.out)
      have HBW : Hid (Below w.heap.size w w6) := Lib.hid (HB1.out.trans (HBZ.out.mono HB1.out.size))
      clear HA1 HT1 HB1
      obtain ⟨wx, hwx⟩ : ∃ z, z = (w6.setCell ⟨w.heap.size + 1, 0, none⟩ (.int .i64 ((kk : Int) + 1))).setCell ⟨w.heap.size + 1, 1, none⟩ (.slice (some ⟨gg, 0, none⟩) n n) := ⟨_, rfl⟩
      have HSX : Hid (∀ t, wx.cell? ⟨w.heap.size, t, none⟩ = (#[.int .i64 O, .slice p n c] : Array Value)[t]?) := Lib.hid (by rw [hwx]; exact (set2_other HAZ.out (by omega) _ _).c)
      have HTX : Hid (Blk wx (w.heap.size + 1) #[.int .i64 ((kk : Int) + 1), .slice (some ⟨gg, 0, none⟩) n n]) := Lib.hid (by rw [hwx]; exact set2_same HTZ.out _ _)
      have HBX : Hid (Below w.heap.size w wx) := Lib.hid (by rw [hwx]; exact set2_below HBW.out (by omega) _ _)
      have HMX : Hid (wx.ownsRow (w.heap.size + 2) 4 1 (.slice (some ⟨gg, 0, none⟩) n n) n (boC (List.replicate n false))) := Lib.hid (by rw [hwx]; exact own_off (own_off HMK.out (fun b e => by have := (HMK.out.lt b e).1; omega) _ _) (fun b e => by have := (HMK.out.lt b e).1; omega) _ _)
      have HQX : Hid (wx.ownsRow (w.heap.size + 2) 3 1 (.slice q T.length d) T.length (inC T)) := Lib.hid (by rw [hwx]; exact own_off (own_off HQ6.out (fun b e => by have := (HQ6.out.lt b e).1; omega) _ _) (fun b e => by have := (HQ6.out.lt b e).1; omega) _ _)
      have HWX := Lib.hid hwx
      clear hwx HAZ HBW HQ6 HMK
      have cT := HTZ.out.c
      have fT := HTZ.out.f
      have lT := HTZ.out.lt
      refine planT_one (op_store (w1 := wx) rfl (by rfl) (by go_simp; rw [HWX.out]) ⟨HSX.out, ?_⟩)
      try simp only [Act.put, List.setIfInBounds_toArray, List.set_cons_zero, List.set_cons_succ, List.getElem_toArray, List.getElem_cons_zero, List.getElem_cons_succ]
      refine planT_stop ?_
      simp only [List.drop_succ_cons, List.drop_zero]
      clear cT fT lT HWX HTZ HSX
      have cT := HTX.out.c
      go_wp2_with fail
      exact bodyPost_ret (v := .tuple #[.agg #[.int .i64 ((kk : Int) + 1), .slice (some ⟨gg, 0, none⟩) n n], .int .i64 O, .slice q T.length d, .int .i64 0]) (by simp [results, Try.results11, go_sem, *]) rfl (HFIN.out _ _ _ _ _ _ _ _ _ T _ (Ec.own (E := ⟨(kk : Int) + 1, List.replicate n false⟩) HMX.out (by omega)) (fun R hR => own_offR HMX.out (by have := HSS.out R hR; omega)) HBX.out (own_base HQX.out (by omega)) HTL.out HRL.out)
    · refine op_call (F := 18) (args := ?_) rfl (by rfl) ?_ ?_
      rotate_left
      · go_simp
        rfl
      refine (HOT.out w1.drew HB1.out.drew).mono ?_
      rintro e w6 ⟨q, d, rfl, hq, hb⟩
      have HB6 : Hid (Below w1.heap.size w1 w6) := Lib.hid ((Below.refl _ _).drew.trans hb)
      have HQ5 : Hid (w6.ownsRow (w.heap.size + 2) 3 1 (.slice q T.length d) T.length (inC T)) := Lib.hid (own_base hq (by show w.heap.size + 2 ≤ w1.heap.size + 1; have := HSZ.out; omega))
      obtain ⟨wy, hwy⟩ : ∃ z, z = w6 := ⟨_, rfl⟩
      rw [← hwy] at HB6 HQ5 ⊢
      clear hq hb HOT hwy
      refine ⟨_, rfl, HS3.out _ HB6.out, ?_⟩
      try simp only [Act.put, List.setIfInBounds_toArray, List.set_cons_zero, List.set_cons_succ, List.getElem_toArray, List.getElem_cons_zero, List.getElem_cons_succ]
      obtain ⟨w6, hrun, g1, g2⟩ := run_make_full (P := Try.prog) wy wy.heap.size 22 4 i0 (.bool false) 1 Try.underlying22 HI.out.1 HI.out.2.1 HI.out.2.2.1 .i64 .i64 n (by rw [HI.out.2.2.2]; omega) (by unfold maxLen; omega) (Nat.le_refl _)
      have e1 : (madeCells #[Value.bool false] n).toList = List.replicate n (.bool false) := toList_madeCells_one _ _
      rw [Nat.mul_one] at g1
      have HN6 : Hid (Below wy.heap.size wy w6) := Lib.hid ((Below.refl wy.heap.size wy).grown g2 (Nat.le_refl _) (fun k hk => by cases hk))
      obtain ⟨gg, hgg⟩ : ∃ z, z = wy.heap.size := ⟨_, rfl⟩
      have HMK : Hid (w6.ownsRow (w.heap.size + 2) 4 1 (.slice (some ⟨gg, 0, none⟩) n n) n (boC (List.replicate n false))) := Lib.hid (by
        rw [hgg]
        have h2 : w6.ownsRow wy.heap.size 4 1 (.slice (some ⟨wy.heap.size, 0, none⟩) n n) n (boC (List.replicate n false)) := by rw [← boC_rep, ← e1]; exact g1
        exact own_base h2 (by have := HSZ.out; have := HB6.out.size; omega))
      have HBZ : Hid (Below w1.heap.size w1 w6) := Lib.hid (HB6.out.trans (HN6.out.mono HB6.out.size))
      have HQ6 := Lib.hid (own_below HQ5.out HN6.out)
      rw [← hgg] at hrun
      refine planT_one ?_
      refine op_make (v := .slice (some ⟨gg, 0, none⟩) n n) (w1 := w6) rfl (by rfl) (by go_simp) ⟨HS3.out _ HBZ.out, ?_⟩
      clear hrun g1 g2 e1 hgg HN6 HB6 HQ5
      try simp only [Act.put, List.setIfInBounds_toArray, List.set_cons_zero, List.set_cons_succ, List.getElem_toArray, List.getElem_cons_zero, List.getElem_cons_succ]
      iterate 1
        refine planT_read (v := ?_) rfl (by rfl) ?_ ?_
        rotate_left
        · intro w' hS
          try dsimp only at hS
          go_simp
          try with_reducible rfl
        try simp only [Act.put, List.setIfInBounds_toArray, List.set_cons_zero, List.set_cons_succ, List.getElem_toArray, List.getElem_cons_zero, List.getElem_cons_succ]
      have HAZ := Lib.hid (HA1.out.below HBZ.out)
      have HTZ := Lib.hid (HT1.out.below HBZ.out)
      have HBW : Hid (Below w.heap.size w w6) := Lib.hid (HB1.out.trans (HBZ.out.mono HB1.out.size))
      clear HA1 HT1 HB1
      obtain ⟨wx, hwx⟩ : ∃ z, z = (w6.setCell ⟨w.heap.size + 1, 0, none⟩ (.int .i64 ((kk : Int) + 1))).setCell ⟨w.heap.size + 1, 1, none⟩ (.slice (some ⟨gg, 0, none⟩) n n) := ⟨_, rfl⟩
      have HSX : Hid (∀ t, wx.cell? ⟨w.heap.size, t, none⟩ = (#[.int .i64 O, .slice p n c] : Array Value)[t]?) := Lib.hid (by rw [hwx]; exact (set2_other HAZ.out (by omega) _ _).c)
      have HTX : Hid (Blk wx (w.heap.size + 1) #[.int .i64 ((kk : Int) + 1), .slice (some ⟨gg, 0, none⟩) n n]) := Lib.hid (by rw [hwx]; exact set2_same HTZ.out _ _)
      have HBX : Hid (Below w.heap.size w wx) := Lib.hid (by rw [hwx]; exact set2_below HBW.out (by omega) _ _)
      have HMX : Hid (wx.ownsRow (w.heap.size + 2) 4 1 (.slice (some ⟨gg, 0, none⟩) n n) n (boC (List.replicate n false))) := Lib.hid (by rw [hwx]; exact own_off (own_off HMK.out (fun b e => by have := (HMK.out.lt b e).1; omega) _ _) (fun b e => by have := (HMK.out.lt b e).1; omega) _ _)
      have HQX : Hid (wx.ownsRow (w.heap.size + 2) 3 1 (.slice q T.length d) T.length (inC T)) := Lib.hid (by rw [hwx]; exact own_off (own_off HQ6.out (fun b e => by have := (HQ6.out.lt b e).1; omega) _ _) (fun b e => by have := (HQ6.out.lt b e).1; omega) _ _)
      have HWX := Lib.hid hwx
      clear hwx HAZ HBW HQ6 HMK
      have cT := HTZ.out.c
      have fT := HTZ.out.f
      have lT := HTZ.out.lt
      refine planT_one (op_store (w1 := wx) rfl (by rfl) (by go_simp; rw [HWX.out]) ⟨HSX.out, ?_⟩)
      try simp only [Act.put, List.setIfInBounds_toArray, List.set_cons_zero, List.set_cons_succ, List.getElem_toArray, List.getElem_cons_zero, List.getElem_cons_succ]
      refine planT_stop ?_
      simp only [List.drop_succ_cons, List.drop_zero]
      clear cT fT lT HWX HTZ HSX
      have cT := HTX.out.c
      go_wp2_with fail
      exact bodyPost_ret (v := .tuple #[.agg #[.int .i64 ((kk : Int) + 1), .slice (some ⟨gg, 0, none⟩) n n], .int .i64 O, .slice q T.length d, .int .i64 0]) (by simp [results, Try.results11, go_sem, *]) rfl (HFIN.out _ _ _ _ _ _ _ _ _ T _ (Ec.own (E := ⟨(kk : Int) + 1, List.replicate n false⟩) HMX.out (by omega)) (fun R hR => own_offR HMX.out (by have := HSS.out R hR; omega)) HBX.out (own_base HQX.out (by omega)) HTL.out HRL.out)
end Go.Proofs.Ythkpoiaakggimaa
