/- What is sure is never elder than it was, in plain numbers; no condition. -/
import Derived.Test.YtbogkloemmddcaaCkQ
namespace Go.Proofs.Ytbogkloemmddcaa
set_option linter.unusedVariables false
open Go.RowKit

theorem Rt.mono {C : Ck} (h : Rt C) {j k : Nat} (hjk : j ≤ k) (hk : k < C.marks.length) : (C.marks.getD j zM).when ≤ (C.marks.getD k zM).when ∧ (C.marks.getD j zM).span ≤ (C.marks.getD k zM).span := by
  induction k with
  | zero => rw [Nat.le_zero.1 hjk]; exact ⟨Int.le_refl _, Int.le_refl _⟩
  | succ k ih =>
    rcases Nat.lt_or_ge j (k + 1) with h1 | h1
    · have h2 := ih (by omega) (by omega)
      have h3 := h.up k hk
      exact ⟨by omega, by omega⟩
    · rw [show j = k + 1 by omega]; exact ⟨Int.le_refl _, Int.le_refl _⟩
theorem sureM_ok {C : Ck} {t : Int} (h : okC C t = true) : sureM C t = C.marks.getD (sureC C t) zM := by unfold sureM; rw [h]; rfl
/-- What holds of a clock as the time goes on. -/
structure Inv (wait : Nat) (C : Ck) (now span : Int) : Prop where
  rt : Rt C
  wt : C.wait = (wait : Int) + 1
  n0 : 0 ≤ now
  s0 : 0 ≤ span
  ls : (lastM C.marks).span ≤ span
  lw : (lastM C.marks).when ≤ now
theorem Inv.ok {wait : Nat} {C : Ck} {now span : Int} (h : Inv wait C now span) {t : Int} (h1 : now ≤ t) (h2 : t ≤ 1099511627776) : okC C t = true := ok_iff.2 ⟨h.rt, time_iff.2 ⟨by have := h.n0; omega, h2⟩⟩
theorem Inv.later {wait : Nat} {C : Ck} {now span : Int} (h : Inv wait C now span) {t : Int} (h1 : now ≤ t) : Inv wait C t span := ⟨h.rt, h.wt, by have := h.n0; omega, h.s0, h.ls, by have := h.lw; omega⟩
theorem Inv.mono {wait : Nat} {C : Ck} {now span : Int} (h : Inv wait C now span) {t : Int} (h1 : now ≤ t) (h2 : t ≤ 1099511627776) : (sureM C now).when ≤ (sureM C t).when ∧ (sureM C now).span ≤ (sureM C t).span := by
  rw [sureM_ok (h.ok (Int.le_refl now) (by omega)), sureM_ok (h.ok h1 h2)]
  exact h.rt.mono (sureN_later h.rt.l1 h1) (sureN_lt _ _ _ _ h.rt.l1)
theorem Inv.new (wait : Nat) (hw : wait < 256) : Inv wait (newC ((wait : Int) + 1) []) 0 0 ∧ newE ((wait : Int) + 1) [] = 0 ∧ newC ((wait : Int) + 1) [] = newK ((wait : Int) + 1) [] ∧ sureM (newC ((wait : Int) + 1) []) 0 = zM := by
  have hr : Rt (newK ((wait : Int) + 1) []) := ⟨Nat.le_refl 1, by show 1 ≤ 8; omega, by show (1 : Int) ≤ (wait : Int) + 1; omega, by show (wait : Int) + 1 ≤ 1048576; omega,
    fun k hk => by have : k = 0 := by have : k < 1 := hk; omega
                   subst this; exact ⟨by show (0 : Int) ≤ 0; omega, by show (0 : Int) ≤ 1099511627776; omega⟩,
    fun k hk => by have : k = 0 := by have : k < 1 := hk; omega
                   subst this; exact ⟨by show (0 : Int) ≤ 0; omega, by show (0 : Int) ≤ 1099511627776; omega⟩,
    fun k hk => by have : k = 0 := by have : k < 1 := hk; omega
                   subst this; show 0 ≤ 4; omega,
    fun k hk => by have : k + 1 < 1 := hk; omega⟩
  have hb := right_iff.2 hr
  have e : newC ((wait : Int) + 1) [] = newK ((wait : Int) + 1) [] := by unfold newC; rw [hb]; rfl
  have hi : Inv wait (newK ((wait : Int) + 1) []) 0 0 := ⟨hr, rfl, Int.le_refl _, Int.le_refl _, Int.le_refl _, Int.le_refl _⟩
  refine ⟨by rw [e]; exact hi, by unfold newE; rw [hb]; rfl, e, ?_⟩
  rw [e, sureM_ok (hi.ok (Int.le_refl _) (by omega))]
  have : sureC (newK ((wait : Int) + 1) []) 0 = 0 := by have := sureN_lt [⟨0, 0, []⟩] ((wait : Int) + 1) 0 1 Nat.one_pos; show sureN [⟨0, 0, []⟩] ((wait : Int) + 1) 0 1 = 0; omega
  rw [this]; rfl
theorem getD_app_lt (l m : List Mk) (k : Nat) (h : k < l.length) : (l ++ m).getD k zM = l.getD k zM := by
  rw [List.getD_eq_getElem?_getD, List.getD_eq_getElem?_getD, List.getElem?_append_left h]
theorem getD_app_eq (l : List Mk) (m : Mk) : (l ++ [m]).getD l.length zM = m := by
  rw [List.getD_eq_getElem?_getD, List.getElem?_append_right (Nat.le_refl _), Nat.sub_self]; rfl
theorem sureN_cong {l m : List Mk} {wait now : Int} {n : Nat} (h : ∀ k, k < n → (l.getD k zM).when = (m.getD k zM).when) : sureN l wait now n = sureN m wait now n := by
  induction n with
  | zero => rfl
  | succ n ih =>
    unfold sureN
    rw [h n (Nat.lt_succ_self n), ih (fun k hk => h k (by omega))]
def roomB (C : Ck) (now : Int) : Bool := decide (C.marks.length < 8) && decide ((lastM C.marks).when < now)
/-- A mark comes. -/
theorem Inv.tick {wait : Nat} {C : Ck} {now span : Int} (h : Inv wait C now span) (hn : now ≤ 1099511627776) (hs : span + 1 ≤ 1099511627776) (hr : roomB C now = true) :
    tickC C (span + 1) now [] = ⟨C.marks ++ [⟨span + 1, now, []⟩], C.wait⟩ ∧ tickE C (span + 1) now [] = 0 ∧ Inv wait ⟨C.marks ++ [⟨span + 1, now, []⟩], C.wait⟩ now (span + 1) ∧ sureM ⟨C.marks ++ [⟨span + 1, now, []⟩], C.wait⟩ now = sureM C now := by
  unfold roomB at hr
  simp only [Bool.and_eq_true, decide_eq_true_eq] at hr
  obtain ⟨h8, hw⟩ := hr
  have hl := h.rt.l1
  have h0 := h.n0
  have hs0 := h.s0
  have hok := h.ok (Int.le_refl now) hn
  have hls := h.ls
  have hf : fitB C.marks ⟨span + 1, now, []⟩ = true := by
    unfold fitB behind
    simp only [Bool.and_eq_true, decide_eq_true_eq, Bool.or_eq_true]
    refine ⟨time_iff.2 ⟨by omega, by omega⟩, time_iff.2 ⟨by omega, by omega⟩, by show 0 ≤ 4; omega, .inr ⟨by omega, hw⟩⟩
  have h8' : C.marks.length ≠ 8 := by omega
  have e1 : tickC C (span + 1) now [] = ⟨C.marks ++ [⟨span + 1, now, []⟩], C.wait⟩ := by unfold tickC tickB; rw [hok, hf, decide_eq_true h8']; rfl
  have e2 : tickE C (span + 1) now [] = 0 := by unfold tickE; rw [hok, if_pos rfl, if_neg h8', hf]; rfl
  have hlen : (C.marks ++ [(⟨span + 1, now, []⟩ : Mk)]).length = C.marks.length + 1 := by simp
  have hg : ∀ k, k < C.marks.length + 1 → (k < C.marks.length ∧ (C.marks ++ [(⟨span + 1, now, []⟩ : Mk)]).getD k zM = C.marks.getD k zM) ∨ (k = C.marks.length ∧ (C.marks ++ [(⟨span + 1, now, []⟩ : Mk)]).getD k zM = ⟨span + 1, now, []⟩) := fun k hk => by
    by_cases e : k < C.marks.length
    · exact .inl ⟨e, getD_app_lt _ _ _ e⟩
    · have : k = C.marks.length := by omega
      subst this
      exact .inr ⟨rfl, getD_app_eq _ _⟩
  have hrt : Rt ⟨C.marks ++ [⟨span + 1, now, []⟩], C.wait⟩ := by
    refine ⟨by dsimp only; rw [hlen]; omega, by dsimp only; rw [hlen]; omega, h.rt.w1, h.rt.wb, fun k hk => ?_, fun k hk => ?_, fun k hk => ?_, fun k hk => ?_⟩
    · dsimp only at hk ⊢; rw [hlen] at hk
      rcases hg k hk with ⟨h1, e⟩ | ⟨h1, e⟩
      · rw [e]; exact h.rt.sp k h1
      · rw [e]; exact ⟨by show 0 ≤ span + 1; omega, hs⟩
    · dsimp only at hk ⊢; rw [hlen] at hk
      rcases hg k hk with ⟨h1, e⟩ | ⟨h1, e⟩
      · rw [e]; exact h.rt.wh k h1
      · rw [e]; exact ⟨h0, hn⟩
    · dsimp only at hk ⊢; rw [hlen] at hk
      rcases hg k hk with ⟨h1, e⟩ | ⟨h1, e⟩
      · rw [e]; exact h.rt.co k h1
      · rw [e]; exact Nat.zero_le _
    · dsimp only at hk ⊢; rw [hlen] at hk
      rcases hg k (by omega) with ⟨h1, e⟩ | ⟨h1, e⟩
      · rcases hg (k + 1) hk with ⟨h2, f⟩ | ⟨h2, f⟩
        · rw [e, f]; exact h.rt.up k h2
        · rw [e, f]
          have hk1 : k = C.marks.length - 1 := by omega
          rw [hk1]
          exact ⟨by show (lastM C.marks).span < span + 1; omega, hw⟩
      · omega
  have hlast : lastM (C.marks ++ [(⟨span + 1, now, []⟩ : Mk)]) = ⟨span + 1, now, []⟩ := by
    unfold lastM; rw [hlen, Nat.add_sub_cancel, getD_app_eq]
  have hi : Inv wait ⟨C.marks ++ [⟨span + 1, now, []⟩], C.wait⟩ now (span + 1) := ⟨hrt, h.wt, h0, by omega, by dsimp only; rw [hlast]; exact Int.le_refl _, by dsimp only; rw [hlast]; exact Int.le_refl _⟩
  refine ⟨e1, e2, hi, ?_⟩
  rw [sureM_ok (hi.ok (Int.le_refl now) hn), sureM_ok hok]
  have hsz : sureC ⟨C.marks ++ [⟨span + 1, now, []⟩], C.wait⟩ now = sureC C now := by
    show sureN (C.marks ++ [⟨span + 1, now, []⟩]) C.wait now (C.marks ++ [(⟨span + 1, now, []⟩ : Mk)]).length = sureN C.marks C.wait now C.marks.length
    rw [hlen]
    conv => lhs; unfold sureN
    have hw1 := h.rt.w1
    rw [getD_app_eq, if_neg (by show ¬ (now - now ≥ C.wait); omega)]
    exact sureN_cong (fun k hk => by rw [getD_app_lt _ _ _ hk])
  rw [hsz]
  exact getD_app_lt _ _ _ (sureN_lt _ _ _ _ hl)
theorem Inv.full {wait : Nat} {C : Ck} {now span : Int} (h : Inv wait C now span) (hn : now ≤ 1099511627776) (hr : roomB C now = false) : tickC C (span + 1) now [] = C ∧ (tickE C (span + 1) now [] = 6 ∨ tickE C (span + 1) now [] = 1) := by
  have hok := h.ok (Int.le_refl now) hn
  have h8 := h.rt.l8
  by_cases e : C.marks.length = 8
  · unfold tickC tickE tickB
    rw [hok, if_pos rfl, if_pos e, decide_eq_false (show ¬ C.marks.length ≠ 8 by omega)]
    exact ⟨rfl, .inl rfl⟩
  · have hw : ¬ (lastM C.marks).when < now := fun hw => by
      unfold roomB at hr
      rw [decide_eq_true (show C.marks.length < 8 by omega), decide_eq_true hw] at hr
      cases hr
    have hl := h.rt.l1
    have hf : fitB C.marks ⟨span + 1, now, []⟩ = false := by
      unfold fitB behind
      rw [decide_eq_false (show ¬ C.marks.length = 0 by omega), decide_eq_false (show ¬ (lastM C.marks).when < (⟨span + 1, now, []⟩ : Mk).when from hw)]
      simp
    unfold tickC tickE tickB
    rw [hok, if_pos rfl, if_neg e, hf]
    exact ⟨by simp, .inr rfl⟩
/-- Elder ones go. -/
theorem Inv.keep {wait : Nat} {C : Ck} {now span : Int} (h : Inv wait C now span) (hn : now ≤ 1099511627776) : errC C now = 0 ∧ Inv wait (keepC C now) now span ∧ sureM (keepC C now) now = sureM C now ∧ (keepC C now).marks.getD 0 zM = sureM C now ∧ 1 ≤ (keepC C now).marks.length := by
  have hok := h.ok (Int.le_refl now) hn
  have hf := keep_fact hok (Int.le_refl now) hn
  have hs : sureC C now < C.marks.length := sureN_lt _ _ _ _ h.rt.l1
  have hD : keepC C now = ⟨C.marks.drop (sureC C now), C.wait⟩ := by unfold keepC; rw [hok]; rfl
  have hl : lastM (C.marks.drop (sureC C now)) = lastM C.marks := by
    unfold lastM; rw [List.length_drop, getD_drop, show sureC C now + (C.marks.length - sureC C now - 1) = C.marks.length - 1 by omega]
  refine ⟨by unfold errC; rw [hok]; rfl, ⟨(ok_iff.1 hf.okD).1, by rw [hD]; exact h.wt, h.n0, h.s0, by rw [hD]; dsimp only; rw [hl]; exact h.ls, by rw [hD]; dsimp only; rw [hl]; exact h.lw⟩, hf.eq, ?_, (ok_iff.1 hf.okD).1.l1⟩
  rw [hD, sureM_ok hok]
  dsimp only
  rw [getD_drop, Nat.add_zero]
/-- It goes back. -/
theorem Inv.back {wait : Nat} {C : Ck} {now span : Int} (h : Inv wait C now span) (hn : now ≤ 1099511627776) : errC C now = 0 ∧ backC C now = ⟨[sureM C now], C.wait⟩ ∧ Inv wait (backC C now) now span ∧ sureM (backC C now) now = sureM C now := by
  have hok := h.ok (Int.le_refl now) hn
  have hs : sureC C now < C.marks.length := sureN_lt _ _ _ _ h.rt.l1
  have hm := sureM_ok hok
  have hD : backC C now = ⟨[sureM C now], C.wait⟩ := by unfold backC; rw [hok, hm]; rfl
  have hlast := h.rt.mono (j := sureC C now) (k := C.marks.length - 1) (by omega) (by omega)
  have hw1 : (sureM C now).when ≤ (lastM C.marks).when := by rw [hm]; exact hlast.1
  have hw2 : (sureM C now).span ≤ (lastM C.marks).span := by rw [hm]; exact hlast.2
  have k0 : ∀ k, k < [sureM C now].length → k = 0 := fun k hk => by have : k < 1 := hk; omega
  have hrt : Rt ⟨[sureM C now], C.wait⟩ := ⟨Nat.le_refl 1, by show 1 ≤ 8; omega, h.rt.w1, h.rt.wb,
    fun k hk => by rw [k0 k hk]; show 0 ≤ (sureM C now).span ∧ (sureM C now).span ≤ 1099511627776; rw [hm]; exact h.rt.sp _ hs,
    fun k hk => by rw [k0 k hk]; show 0 ≤ (sureM C now).when ∧ (sureM C now).when ≤ 1099511627776; rw [hm]; exact h.rt.wh _ hs,
    fun k hk => by rw [k0 k hk]; show (sureM C now).cs.length ≤ 4; rw [hm]; exact h.rt.co _ hs,
    fun k hk => by have : k + 1 < 1 := hk; omega⟩
  have hi : Inv wait ⟨[sureM C now], C.wait⟩ now span := ⟨hrt, h.wt, h.n0, h.s0, by show (sureM C now).span ≤ span; have := h.ls; omega, by show (sureM C now).when ≤ now; have := h.lw; omega⟩
  refine ⟨by unfold errC; rw [hok]; rfl, hD, by rw [hD]; exact hi, ?_⟩
  rw [hD, sureM_ok (hi.ok (Int.le_refl _) hn)]
  have h0 := sureN_lt [sureM C now] C.wait now 1 Nat.one_pos
  have : sureC ⟨[sureM C now], C.wait⟩ now = 0 := by show sureN [sureM C now] C.wait now 1 = 0; omega
  rw [this]; rfl
/-- It is the latest of those that are old enough. -/
theorem Inv.latest {wait : Nat} {C : Ck} {now span : Int} (h : Inv wait C now span) (hn : now ≤ 1099511627776) {k : Nat} (hk : k < C.marks.length) (hw : now - (C.marks.getD k zM).when > (wait : Int)) : (C.marks.getD k zM).when ≤ (sureM C now).when := by
  rw [sureM_ok (h.ok (Int.le_refl now) hn)]
  rcases Nat.lt_or_ge (sureC C now) k with h1 | h1
  · have := sureN_not C.marks C.wait now C.marks.length k h1 hk
    rw [h.wt] at this
    omega
  · exact (h.rt.mono h1 (sureN_lt _ _ _ _ h.rt.l1)).1
end Go.Proofs.Ytbogkloemmddcaa
