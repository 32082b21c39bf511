/- What the reference's Right, All and Short answer: for every program what isa.Right answers, for every list of programs what isa.All answers; they write nothing that was there. -/
import Derived.Test.YtdebkncjmbhneaaIsaRefMay
namespace Go.Proofs.Ytdebkncjmbhneaa
open Go.ChangeShapes Go.WideShapes Go.ChangeAt Go.RowKit

theorem rightR_few_any (p : Option Addr) (len cap : Nat) (w : World) (h : len < 1 ∨ 64 < len) :
    Calls Try.prog 14 #[.slice p len cap] w fun e w' => e = .returned (.bool false) ∧ Below w.heap.size w w' := by
  rcases h with h | h
  · have d1 : ((len : Int) == 0) = true := by simp; omega
    go_enter Try.func14, Try.ntmps14
    go_wp2
    go_ret
    exact ⟨rfl, Below.refl _ _⟩
  · have d1 : ((len : Int) == 0) = false := by simp; omega
    have d2 : decide (64 < (len : Int)) = true := decide_eq_true (by omega)
    go_enter Try.func14, Try.ntmps14
    go_wp2
    go_ret
    exact ⟨rfl, Below.refl _ _⟩

set_option maxHeartbeats 1000000 in
theorem rightR_loop_any (b off len cap : Nat) (l : List I5) (w : World) (hl : l.length = len) (h1 : 1 ≤ len) (h2 : len ≤ 64) (hlt : b < w.heap.size) (hx : ∀ i, i < len → Lies w b (off + i * 5) (at5 l i)) :
    Calls Try.prog 14 #[.slice (some ⟨b, off, none⟩) len cap] w fun e w' => e = .returned (.bool (rightB l)) ∧ Below w.heap.size w w' := by
  have HL := Lib.hid hl
  have HX := Lib.hid hx
  clear hx hl
  have d1 : ((len : Int) == 0) = false := by simp; omega
  have d2 : decide (64 < (len : Int)) = false := decide_eq_false (by omega)
  go_enter Try.func14, Try.ntmps14
  go_wp2_with fail
  go_loopw [3] (fun i wr => ∃ k : Nat, k ≤ len ∧ i = .int .i64 k ∧ (∀ j, j < k → mayB (at5 l j) len = true) ∧ Below w.heap.size w wr) (fun i _ => len - (intOf i).toNat)
  case atStart => exact ⟨0, Nat.zero_le _, rfl, fun j hj => absurd hj (by omega), Below.refl _ _⟩
  case round =>
    obtain ⟨i, hi, rfl, hall, hbel⟩ := hrel
    have HA := Lib.hid hall
    have HBE := Lib.hid hbel
    clear hall hbel
    by_cases hlt' : i < len
    · have hl5 := ((HX.out) i hlt').below HBE.out hlt
      obtain ⟨op, a, bb, c, k, hat⟩ : ∃ op a bb c k, at5 l i = ⟨op, a, bb, c, k⟩ := ⟨_, _, _, _, _, rfl⟩
      rw [hat] at hl5
      have HAT := Lib.hid hat
      clear hat
      obtain ⟨c0, c1, c2, c3, c4, g0, g1⟩ := hl5
      go_wp2_with fail
      refine (mayR_any ⟨op, a, bb, c, k⟩ _ _ g0 g1).mono ?_
      rintro e w2 ⟨rfl, hb2⟩
      rw [← HAT.out]
      have HB2 := Lib.hid (HBE.out.trans (hb2.mono HBE.out.size))
      clear hb2 c0 c1 c2 c3 c4
      cases hm : mayB (at5 l i) len with
      | true =>
        have HM := Lib.hid hm
        go_wp2
        go_roundw
        case rel =>
          refine ⟨i + 1, by omega, by go_num, fun j hj => ?_, HB2.out⟩
          by_cases hji : j = i
          · rw [hji]; exact HM.out
          · exact HA.out j (by omega)
        case measure => simp [intOf]; omega
      | false =>
        have HM := Lib.hid hm
        go_wp2
        go_ret
        refine ⟨?_, HB2.out⟩
        rw [right_not (l := l) (i := i) (by rw [HL.out]; exact hlt') (by rw [HL.out]; exact HM.out)]
        rfl
    · have hl5 := ((HX.out) (len - 1) (by omega)).below HBE.out hlt
      have HE : Hid (rightB l = endB (at5 l (len - 1))) := by
        cases he : endB (at5 l (len - 1)) with
        | true => exact right_yes (l := l) (by rw [HL.out]; exact h1) (by rw [HL.out]; exact h2) (by rw [HL.out]; exact he) (fun j hj => by rw [HL.out] at hj ⊢; exact HA.out j (by omega))
        | false => exact right_end (l := l) (by rw [HL.out]; exact he)
      obtain ⟨op, a, bb, c, k, hat⟩ : ∃ op a bb c k, at5 l (len - 1) = ⟨op, a, bb, c, k⟩ := ⟨_, _, _, _, _, rfl⟩
      rw [hat] at hl5 HE
      clear hat
      obtain ⟨c0, _, _, _, _, _, _⟩ := hl5
      by_cases h16 : op = 16
      · have HF : Hid (rightB l = true) := HE.out.trans (decide_eq_true (Or.inl h16))
        have q : (op == 16) = true := by simpa using h16
        clear h16 HE
        go_wp2
        go_ret
        refine ⟨?_, HBE.out⟩
        rw [HF.out]
        rfl
      · have HF : Hid (rightB l = (op == 13)) := HE.out.trans (by unfold endB; rw [Bool.eq_iff_iff]; simp [h16])
        have q : (op == 16) = false := by simpa using h16
        clear h16 HE
        go_wp2
        go_ret
        refine ⟨?_, HBE.out⟩
        rw [HF.out]
        rfl

theorem rightR_any (p : Option Addr) (cap : Nat) (l : List I5) (w : World) (h : Prg w p l) :
    Calls Try.prog 14 #[.slice p l.length cap] w fun e w' => e = .returned (.bool (rightB l)) ∧ Below w.heap.size w w' := by
  by_cases h0 : l.length < 1 ∨ 64 < l.length
  · rw [right_few h0]
    exact rightR_few_any p _ cap w h0
  · obtain ⟨b, off, hlt, rfl, hx⟩ := h (by omega)
    exact rightR_loop_any b off _ cap l w rfl (by omega) (by omega) hlt hx

end Go.Proofs.Ytdebkncjmbhneaa
