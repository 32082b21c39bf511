/- What Keep leaves is sure just as before, now and later, in plain numbers; no condition. -/
import Derived.Test.YtbogkloemmddcaaCkNum
namespace Go.Proofs.Ytbogkloemmddcaa
set_option linter.unusedVariables false
open Go.RowKit

theorem Rt.drop {C : Ck} (h : Rt C) {s : Nat} (hs : s < C.marks.length) : Rt ⟨C.marks.drop s, C.wait⟩ := by
  have hl : (C.marks.drop s).length = C.marks.length - s := List.length_drop
  refine ⟨?_, ?_, h.w1, h.wb, fun k hk => ?_, fun k hk => ?_, fun k hk => ?_, fun k hk => ?_⟩
  · show 1 ≤ (C.marks.drop s).length; omega
  · show (C.marks.drop s).length ≤ 8; have := h.l8; omega
  · dsimp only at hk ⊢; rw [getD_drop]; exact h.sp _ (by omega)
  · dsimp only at hk ⊢; rw [getD_drop]; exact h.wh _ (by omega)
  · dsimp only at hk ⊢; rw [getD_drop]; exact h.co _ (by omega)
  · dsimp only at hk ⊢; rw [getD_drop, getD_drop, show s + (k + 1) = s + k + 1 by omega]; exact h.up _ (by omega)
theorem sureN_later {l : List Mk} {wait t t' : Int} {n : Nat} (h0 : 0 < n) (ht : t ≤ t') : sureN l wait t n ≤ sureN l wait t' n := by
  rcases Nat.lt_or_ge (sureN l wait t' n) (sureN l wait t n) with h | h
  · have h1 := sureN_not l wait t' n _ h (sureN_lt l wait t n h0)
    have h2 := sureN_is l wait t n (by omega)
    omega
  · exact h
theorem sureN_drop {l : List Mk} {wait t t' : Int} (h0 : 0 < l.length) (ht : t ≤ t') : sureN (l.drop (sureN l wait t l.length)) wait t' (l.length - sureN l wait t l.length) = sureN l wait t' l.length - sureN l wait t l.length := by
  have h1 := sureN_later (l := l) (wait := wait) h0 ht
  have h2 := sureN_lt l wait t' l.length h0
  refine sureN_eq (by omega) ?_ (fun j hj hjl => ?_)
  · rcases Nat.lt_or_ge (sureN l wait t l.length) (sureN l wait t' l.length) with h | h
    · right
      rw [getD_drop, show sureN l wait t l.length + (sureN l wait t' l.length - sureN l wait t l.length) = sureN l wait t' l.length by omega]
      exact sureN_is l wait t' l.length (by omega)
    · left; omega
  · rw [getD_drop]
    exact sureN_not l wait t' l.length _ (by omega) (by omega)
structure KeepF (C : Ck) (now t : Int) : Prop where
  ok : okC C t = true
  okD : okC (keepC C now) t = true
  eq : sureM (keepC C now) t = sureM C t
theorem ok_iff {C : Ck} {t : Int} : okC C t = true ↔ Rt C ∧ timeB t = true := by unfold okC; rw [Bool.and_eq_true, right_iff]
theorem keep_fact {C : Ck} {now t : Int} (h : okC C now = true) (ht : now ≤ t) (ht2 : t ≤ 1099511627776) : KeepF C now t := by
  obtain ⟨hr, hn⟩ := ok_iff.1 h
  have hn' := time_iff.1 hn
  have hl := hr.l1
  have hs := sureN_lt C.marks C.wait now C.marks.length (by omega)
  have hok : okC C t = true := ok_iff.2 ⟨hr, time_iff.2 ⟨by omega, ht2⟩⟩
  have hD : keepC C now = ⟨C.marks.drop (sureC C now), C.wait⟩ := by unfold keepC; rw [h]; rfl
  have hokD : okC (keepC C now) t = true := ok_iff.2 ⟨by rw [hD]; exact hr.drop hs, time_iff.2 ⟨by omega, ht2⟩⟩
  refine ⟨hok, hokD, ?_⟩
  unfold sureM
  rw [hokD, hok]
  show (keepC C now).marks.getD (sureC (keepC C now) t) zM = C.marks.getD (sureC C t) zM
  rw [hD]
  show (C.marks.drop (sureC C now)).getD (sureN (C.marks.drop (sureC C now)) C.wait t (C.marks.drop (sureC C now)).length) zM = C.marks.getD (sureN C.marks C.wait t C.marks.length) zM
  rw [getD_drop, List.length_drop]
  unfold sureC
  rw [sureN_drop (by omega) ht]
  have := sureN_later (l := C.marks) (wait := C.wait) (n := C.marks.length) (by omega) ht
  rw [show sureN C.marks C.wait now C.marks.length + (sureN C.marks C.wait t C.marks.length - sureN C.marks C.wait now C.marks.length) = sureN C.marks C.wait t C.marks.length by omega]
theorem keep_twice {C : Ck} {now : Int} (h : okC C now = true) : keepC (keepC C now) now = keepC C now ∧ errC (keepC C now) now = 0 := by
  have h1 := keep_fact h (Int.le_refl now) (time_iff.1 (ok_iff.1 h).2).2
  obtain ⟨hr, hn⟩ := ok_iff.1 h
  have hl := hr.l1
  have hD : keepC C now = ⟨C.marks.drop (sureC C now), C.wait⟩ := by unfold keepC; rw [h]; rfl
  refine ⟨?_, by unfold errC; rw [h1.okD]; rfl⟩
  have e : keepC (keepC C now) now = ⟨(keepC C now).marks.drop (sureC (keepC C now) now), (keepC C now).wait⟩ := by
    rw [show keepC (keepC C now) now = _ from if_pos h1.okD]
  rw [e]
  have e2 : sureC (keepC C now) now = 0 := by
    rw [hD]
    show sureN (C.marks.drop (sureC C now)) C.wait now (C.marks.drop (sureC C now)).length = 0
    rw [List.length_drop]
    unfold sureC
    rw [sureN_drop (by omega) (Int.le_refl now), Nat.sub_self]
  rw [e2]; rfl
end Go.Proofs.Ytbogkloemmddcaa
