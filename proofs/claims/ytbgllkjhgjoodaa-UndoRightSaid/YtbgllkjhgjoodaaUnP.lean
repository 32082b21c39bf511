/- Logs in plain numbers: what each call keeps; gone back to an interval the memory is as it was; no program in sight. -/
import Derived.Test.YtbgllkjhgjoodaaUnN
namespace Go.Proofs.Ytbgllkjhgjoodaa
set_option linter.unusedVariables false

theorem setM_self (m : List Int) (k : Nat) (h : k < m.length) : m.set k (m.getD k 0) = m := by
  rw [← get_getD m 0 k h]; exact List.set_getElem_self h
theorem set_comm' (m : List Int) (a b : Nat) (x y : Int) (h : a ≠ b) : (m.set a x).set b y = (m.set b y).set a x := List.set_comm _ _ h
theorem set_twice (m : List Int) (a : Nat) (x y : Int) : (m.set a x).set a y = m.set a y := List.set_set _
/-- What is written at a place that is undone doesn't count. -/
theorem undo_set_at (l : List Un) (m : List Int) (a : Nat) (v x : Int) : (undoM l (m.set a v)).set a x = (undoM l m).set a x := by
  induction l generalizing x with
  | nil => exact set_twice m a v x
  | cons u l ih =>
    rw [undoM_cons, undoM_cons]
    unfold setM
    by_cases e : u.at_.toNat = a
    · rw [e, set_twice, set_twice, ih]
    · rw [set_comm' _ _ _ _ _ e, ih, set_comm' _ _ _ _ _ (fun h => e h.symm)]
theorem undo_set {l : List Un} {a : Nat} (h : ∃ u ∈ l, u.at_ = (a : Int)) (m : List Int) (v : Int) : undoM l (m.set a v) = undoM l m := by
  induction l with
  | nil => obtain ⟨u, hu, _⟩ := h; cases hu
  | cons u l ih =>
    rw [undoM_cons, undoM_cons]
    unfold setM
    by_cases e : u.at_ = (a : Int)
    · rw [e, Int.toNat_natCast, undo_set_at]
    · obtain ⟨y, hy, hya⟩ := h
      rcases List.mem_cons.1 hy with rfl | hy
      · exact absurd hya e
      · rw [ih ⟨y, hy, hya⟩]
theorem fromL_app (l k : List Un) (s : Int) : fromL (l ++ k) s = fromL l s ++ fromL k s := by unfold fromL; rw [List.filter_append]
theorem fromL_mem {l : List Un} {s : Int} {u : Un} : u ∈ fromL l s ↔ u ∈ l ∧ s ≤ u.span := by unfold fromL; rw [List.mem_filter, decide_eq_true_eq]
theorem belowL_mem {l : List Un} {s : Int} {u : Un} : u ∈ belowL l s ↔ u ∈ l ∧ u.span < s := by unfold belowL; rw [List.mem_filter, decide_eq_true_eq]
theorem from_split {l : List Un} (h : l.Pairwise fun x y => x.span ≤ y.span) {j t : Int} (hj : j ≤ t) : fromL l j = fromL (belowL l t) j ++ fromL l t := by
  obtain ⟨h1, h2⟩ := cut_split h t
  have e : l = belowL l t ++ fromL l t := by rw [h1, h2, List.take_append_drop]
  have e2 : fromL (fromL l t) j = fromL l t := by
    unfold fromL
    rw [List.filter_filter]
    refine List.filter_congr fun u _ => ?_
    by_cases h : t ≤ u.span
    · rw [decide_eq_true h, decide_eq_true (show j ≤ u.span by omega)]; rfl
    · rw [decide_eq_false h]; simp
  calc fromL l j = fromL (belowL l t ++ fromL l t) j := by rw [← e]
    _ = _ := by rw [fromL_app, e2]
theorem from_from {l : List Un} {j t : Int} (hj : t ≤ j) : fromL (fromL l t) j = fromL l j := by
  unfold fromL
  rw [List.filter_filter]
  refine List.filter_congr fun u _ => ?_
  by_cases h : j ≤ u.span
  · rw [decide_eq_true h, decide_eq_true (show t ≤ u.span by omega)]; rfl
  · rw [decide_eq_false h]; simp

theorem rt_write {L : Lg} (h : Rt L) {a : Nat} (ha : a < L.mem.length) (hl : L.list.length < 256) (v : Int) : writeL L a v = ⟨L.mem.set a v, L.span, putL L a⟩ ∧ writeE L a = 0 ∧ Rt (writeL L a v) := by
  have hok : okW L (a : Int) = true := by unfold okW hasW; rw [right_iff.2 h, decide_eq_true (show 0 ≤ (a : Int) ∧ (a : Int) < (L.mem.length : Int) by omega)]; rfl
  have hfu : fullW L (a : Int) = false := by unfold fullW; rw [decide_eq_false (show ¬ L.list.length = 256 by omega)]; simp
  have hw : writeL L a v = ⟨L.mem.set a v, L.span, putL L a⟩ := by unfold writeL; rw [hok, hfu]; unfold setM; rw [Int.toNat_natCast]; rfl
  refine ⟨hw, by unfold writeE; rw [hok, hfu]; rfl, ?_⟩
  rw [hw]
  unfold putL
  by_cases e : hasU L.list L.span a = true
  · rw [if_pos e]
    exact ⟨by simpa using h.m1, by simpa using h.m64, h.s0, h.st, h.n256, by simpa using h.fit, h.sort, h.ap⟩
  · rw [if_neg e]
    refine ⟨by simpa using h.m1, by simpa using h.m64, h.s0, h.st, by simp; omega, fun u hu => ?_, ?_, ?_⟩
    · rw [List.length_set]
      rcases List.mem_append.1 hu with hu | hu
      · exact h.fit u hu
      · rw [List.mem_singleton] at hu
        subst hu
        have := h.s0
        exact ⟨⟨by show 0 ≤ L.span; omega, Int.le_refl _⟩, by show (0 : Int) ≤ (a : Int); omega, by show (a : Int) < _; omega⟩
    · refine List.pairwise_append.2 ⟨h.sort, List.pairwise_singleton _ _, fun x hx y hy => ?_⟩
      rw [List.mem_singleton] at hy
      subst hy
      exact (h.fit x hx).1.2
    · refine List.pairwise_append.2 ⟨h.ap, List.pairwise_singleton _ _, fun x hx y hy => ?_⟩
      rw [List.mem_singleton] at hy
      subst hy
      intro hc
      exact e (List.any_eq_true.2 ⟨x, hx, decide_eq_true hc⟩)
theorem rt_next {L : Lg} (h : Rt L) (hs : L.span < topS) : nextL L = ⟨L.mem, L.span + 1, L.list⟩ ∧ nextE L = 0 ∧ Rt (nextL L) := by
  have hok : okN L = true := by unfold okN; rw [right_iff.2 h, decide_eq_true hs]; rfl
  have hw : nextL L = ⟨L.mem, L.span + 1, L.list⟩ := by unfold nextL; rw [hok]; rfl
  refine ⟨hw, by unfold nextE; rw [hok]; rfl, ?_⟩
  rw [hw]
  have h0 := h.s0
  refine ⟨h.m1, h.m64, by show 0 ≤ L.span + 1; omega, by show L.span + 1 ≤ topS; omega, h.n256, fun u hu => ?_, h.sort, h.ap⟩
  have := h.fit u hu
  unfold FitU at this ⊢
  dsimp only
  omega
theorem rt_ok {L : Lg} (h : Rt L) {t : Int} (h0 : 0 ≤ t) (h1 : t ≤ L.span) : okB L t = true := by unfold okB; rw [right_iff.2 h, decide_eq_true ⟨h0, h1⟩]; rfl
theorem rt_back {L : Lg} (h : Rt L) {t : Int} (h0 : 0 ≤ t) (h1 : t ≤ L.span) : backL L t = ⟨undoM (fromL L.list t) L.mem, t, belowL L.list t⟩ ∧ backE L t = 0 ∧ Rt (backL L t) := by
  have hok := rt_ok h h0 h1
  have hw : backL L t = ⟨undoM (fromL L.list t) L.mem, t, belowL L.list t⟩ := by unfold backL; rw [hok]; rfl
  refine ⟨hw, by unfold backE; rw [hok]; rfl, ?_⟩
  rw [hw]
  have h2 := h.st
  refine ⟨by show 1 ≤ (undoM _ _).length; rw [len_undoM]; exact h.m1, by show (undoM _ _).length ≤ 64; rw [len_undoM]; exact h.m64, h0, by show t ≤ topS; omega, Nat.le_trans (List.length_filter_le _ _) h.n256, fun u hu => ?_, h.sort.filter _, h.ap.filter _⟩
  obtain ⟨hu1, hu2⟩ := belowL_mem.1 hu
  have := h.fit u hu1
  unfold FitU at this ⊢
  dsimp only
  rw [len_undoM]
  omega
theorem rt_trim {L : Lg} (h : Rt L) {t : Int} (h0 : 0 ≤ t) (h1 : t ≤ L.span) : trimL L t = ⟨L.mem, L.span, fromL L.list t⟩ ∧ Rt (trimL L t) := by
  have hok := rt_ok h h0 h1
  have hw : trimL L t = ⟨L.mem, L.span, fromL L.list t⟩ := by unfold trimL; rw [hok]; rfl
  refine ⟨hw, ?_⟩
  rw [hw]
  exact ⟨h.m1, h.m64, h.s0, h.st, Nat.le_trans (List.length_filter_le _ _) h.n256, fun u hu => h.fit u (fromL_mem.1 hu).1, h.sort.filter _, h.ap.filter _⟩
theorem rt_new {n : Nat} (h1 : 1 ≤ n) (h2 : n ≤ 64) : newL n = ⟨List.replicate n 0, 0, []⟩ ∧ newE n = 0 ∧ Rt ⟨List.replicate n 0, 0, []⟩ := by
  have hok : sizeB (n : Int) = true := decide_eq_true (by omega)
  refine ⟨by unfold newL; rw [hok]; rfl, by unfold newE; rw [hok]; rfl, ⟨by simpa using h1, by simpa using h2, Int.le_refl _, (show (0 : Int) ≤ topS from by decide), by simp, fun u hu => (by cases hu), .nil, .nil⟩⟩

/-- What holds behind k things that were done: gone back to any interval that may be gone back to, the memory is what it was. -/
structure Inv (n : Nat) (L : Lg) (f sp : Nat) (Ws : List (List Int)) (k : Nat) : Prop where
  rt : Rt L
  ml : L.mem.length = n
  sp_ : L.span = (sp : Int)
  spk : sp ≤ k
  fsp : f ≤ sp
  lk : L.list.length ≤ k
  wl : sp + 1 ≤ Ws.length
  was : ∀ j, f ≤ j → j ≤ sp → undoM (fromL L.list (j : Int)) L.mem = Ws.getD j []
theorem Inv.new {n : Nat} (h1 : 1 ≤ n) (h2 : n ≤ 64) : Inv n ⟨List.replicate n 0, 0, []⟩ 0 0 [List.replicate n 0] 0 :=
  ⟨(rt_new h1 h2).2.2, by simp, rfl, Nat.le_refl _, Nat.le_refl _, Nat.le_refl _, by simp, fun j _ hj => by
    have : j = 0 := by omega
    subst this; rfl⟩
theorem Inv.write {n : Nat} {L : Lg} {f sp : Nat} {Ws : List (List Int)} {k : Nat} (h : Inv n L f sp Ws k) (hk : k < 100) {a : Nat} (ha : a < n) (v : Int) :
    writeE L a = 0 ∧ (writeL L a v).mem.getD a 0 = v ∧ Inv n (writeL L a v) f sp Ws (k + 1) := by
  have hlk := h.lk
  have hspk := h.spk
  obtain ⟨hw, he, hr⟩ := rt_write h.rt (a := a) (by rw [h.ml]; exact ha) (by omega) v
  refine ⟨he, ?_, ?_⟩
  · rw [hw]
    show (L.mem.set a v).getD a 0 = v
    rw [← get_getD (L.mem.set a v) 0 a (by rw [List.length_set, h.ml]; exact ha)]
    simp
  · have hput : putL L a = L.list ∧ (∃ u ∈ L.list, u.at_ = (a : Int) ∧ u.span = L.span) ∨ putL L a = L.list ++ [⟨L.span, a, L.mem.getD a 0⟩] := by
      unfold putL
      by_cases e : hasU L.list L.span a = true
      · rw [if_pos e]
        obtain ⟨u, hu, hc⟩ := List.any_eq_true.1 e
        have hc := of_decide_eq_true hc
        exact .inl ⟨rfl, u, hu, hc.2, hc.1⟩
      · rw [if_neg e, Int.toNat_natCast]; exact .inr rfl
    rw [hw] at hr ⊢
    refine ⟨hr, by show (L.mem.set a v).length = n; rw [List.length_set, h.ml], h.sp_, by omega, h.fsp, ?_, h.wl, fun j h1 h2 => ?_⟩
    · show (putL L a).length ≤ k + 1
      rcases hput with ⟨e, _⟩ | e
      · rw [e]; omega
      · rw [e, List.length_append]; simp; omega
    · show undoM (fromL (putL L a) (j : Int)) (L.mem.set a v) = _
      rcases hput with ⟨e, u, hu, hua, hus⟩ | e
      · rw [e, undo_set ⟨u, fromL_mem.2 ⟨hu, by rw [hus, h.sp_]; omega⟩, hua⟩]
        exact h.was j h1 h2
      · rw [e, fromL_app]
        have e2 : fromL [(⟨L.span, a, L.mem.getD a 0⟩ : Un)] (j : Int) = [⟨L.span, a, L.mem.getD a 0⟩] := by
          unfold fromL
          rw [List.filter_cons_of_pos (by
            have := h.sp_
            simp; omega)]
          rfl
        rw [e2, undoM_app, undoM_cons]
        show undoM _ (setM (L.mem.set a v) (a : Int) (L.mem.getD a 0)) = _
        unfold setM
        rw [Int.toNat_natCast, set_twice, setM_self _ _ (by rw [h.ml]; exact ha)]
        exact h.was j h1 h2
theorem Inv.next {n : Nat} {L : Lg} {f sp : Nat} {Ws : List (List Int)} {k : Nat} (h : Inv n L f sp Ws k) (hk : k < 100) :
    nextE L = 0 ∧ nextL L = ⟨L.mem, ((sp + 1 : Nat) : Int), L.list⟩ ∧ Inv n (nextL L) f (sp + 1) (Ws.take (sp + 1) ++ [L.mem]) (k + 1) := by
  have hlk := h.lk
  have hspk := h.spk
  have hwl := h.wl
  have hsp := h.sp_
  obtain ⟨hw, he, hr⟩ := rt_next h.rt (by unfold topS; omega)
  have hfs := h.fsp
  have hw2 : nextL L = ⟨L.mem, ((sp + 1 : Nat) : Int), L.list⟩ := by rw [hw, hsp]; congr 1
  refine ⟨he, hw2, ?_⟩
  rw [hw2] at hr ⊢
  refine ⟨hr, h.ml, rfl, by omega, by omega, by show L.list.length ≤ k + 1; omega, by simp; omega, fun j h1 h2 => ?_⟩
  show undoM (fromL L.list (j : Int)) L.mem = _
  by_cases e : j = sp + 1
  · subst e
    have e2 : fromL L.list ((sp + 1 : Nat) : Int) = [] := by
      unfold fromL
      rw [List.filter_eq_nil_iff]
      intro u hu
      have := (h.rt.fit u hu).1.2
      simp; omega
    rw [e2, List.getD_eq_getElem?_getD, List.getElem?_append_right (by rw [List.length_take]; omega), List.length_take, show sp + 1 - min (sp + 1) Ws.length = 0 by omega]
    rfl
  · rw [h.was j h1 (by omega), List.getD_eq_getElem?_getD, List.getD_eq_getElem?_getD, List.getElem?_append_left (by rw [List.length_take]; omega), List.getElem?_take_of_lt (by omega)]
theorem Inv.back {n : Nat} {L : Lg} {f sp : Nat} {Ws : List (List Int)} {k : Nat} (h : Inv n L f sp Ws k) {t : Nat} (h1 : f ≤ t) (h2 : t ≤ sp) :
    backE L t = 0 ∧ (backL L t).span = (t : Int) ∧ (backL L t).mem = Ws.getD t [] ∧ Inv n (backL L t) f t Ws (k + 1) := by
  have hsp := h.sp_
  have hlk := h.lk
  have hwl := h.wl
  have hspk := h.spk
  obtain ⟨hw, he, hr⟩ := rt_back h.rt (t := (t : Int)) (by omega) (by omega)
  rw [hw] at hr ⊢
  refine ⟨he, rfl, h.was t h1 h2, hr, by show (undoM _ _).length = n; rw [len_undoM, h.ml], rfl, by omega, h1, ?_, by omega, fun j h3 h4 => ?_⟩
  · show (belowL L.list (t : Int)).length ≤ k + 1
    have : (belowL L.list (t : Int)).length ≤ L.list.length := List.length_filter_le _ _
    omega
  · show undoM (fromL (belowL L.list (t : Int)) (j : Int)) (undoM (fromL L.list (t : Int)) L.mem) = _
    rw [← undoM_app, ← from_split h.rt.sort (by omega)]
    exact h.was j h3 (by omega)
theorem Inv.trim {n : Nat} {L : Lg} {f sp : Nat} {Ws : List (List Int)} {k : Nat} (h : Inv n L f sp Ws k) {t : Nat} (h1 : f ≤ t) (h2 : t ≤ sp) :
    backE L t = 0 ∧ (trimL L t).mem = L.mem ∧ roomL L ≤ roomL (trimL L t) ∧ Inv n (trimL L t) t sp Ws (k + 1) := by
  have hsp := h.sp_
  have hlk := h.lk
  have hspk := h.spk
  obtain ⟨hw, hr⟩ := rt_trim h.rt (t := (t : Int)) (by omega) (by omega)
  have he := (rt_back h.rt (t := (t : Int)) (by omega) (by omega)).2.1
  have hle : (fromL L.list (t : Int)).length ≤ L.list.length := List.length_filter_le _ _
  refine ⟨he, by rw [hw], ?_, ?_⟩
  · unfold roomL
    rw [right_iff.2 h.rt, right_iff.2 hr, hw]
    show 256 - (L.list.length : Int) ≤ 256 - ((fromL L.list (t : Int)).length : Int)
    omega
  · rw [hw] at hr ⊢
    refine ⟨hr, h.ml, h.sp_, by omega, h2, by show (fromL L.list (t : Int)).length ≤ k + 1; omega, h.wl, fun j h3 h4 => ?_⟩
    show undoM (fromL (fromL L.list (t : Int)) (j : Int)) L.mem = _
    rw [from_from (by omega)]
    exact h.was j (by omega) h4
end Go.Proofs.Ytbgllkjhgjoodaa
