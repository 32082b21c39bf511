/- The walk of IsaStays: for every program that lies in memory the statement answers true, and writes nothing that was there. -/
import Derived.Test.YtafilmbldgimmaaAwake
namespace Go.Proofs.Ytafilmbldgimmaa.isaStays
open Go.ChangeShapes Go.WideShapes Go.ChangeAt Go.RowKit

theorem goal_there {l : List I5} (h : rightB l = true) (i : Nat) (hi : i < l.length) (hj : (at5 l i).op = 13 ∨ (at5 l i).op = 14) : (at5 l i).k < l.length := by
  have hm := (right_has h).2.2.2 i hi
  unfold mayB at hm
  simp only [Bool.and_eq_true] at hm
  have hk := hm.2.2.2.2
  have hu : useK (at5 l i).op = true := decide_eq_true (by omega)
  rw [hu] at hk
  have := of_decide_eq_true hk
  omega
theorem next_there {l : List I5} (h : rightB l = true) (i : Nat) (hi : i < l.length) (h1 : (at5 l i).op ≠ 13) (h2 : (at5 l i).op ≠ 16) : i + 1 < l.length := by
  have he := (right_has h).2.2.1
  by_cases hl : i = l.length - 1
  · rw [← hl] at he
    have := of_decide_eq_true he
    omega
  · omega

theorem right_is (p : Option Addr) (len cap : Nat) (l : List I5) (w : World) (r : Bool) (hl : l.length = len) (hr : rightB l = r) (h : Prg w p l) :
    Calls Try.prog 8 #[.slice p len cap] w fun e w' => e = .returned (.bool r) ∧ Below w.heap.size w w' := by
  subst hl hr
  exact right_any p cap l w h

theorem wrap64_u32 (k : Int) (h0 : 0 ≤ k) (h1 : k ≤ 4294967295) : wrap64 k = k := by unfold wrap64; omega

theorem walk_long (p : Option Addr) (len cap : Nat) (w : World) (hlen : 80 < len) :
    Calls Try.prog 5 #[.slice p len cap] w fun e w' => e = .returned (.bool true) ∧ Below w.heap.size w w' := by
  have d1 : decide (80 < (len : Int)) = true := decide_eq_true (by omega)
  go_enter Try.func5, Try.ntmps5
  go_wp2_with fail
  refine (awake_any _).mono ?_
  rintro e w1 ⟨rfl, hb1⟩
  have HB1 := Lib.hid hb1
  clear hb1
  go_wp2
  go_ret
  exact ⟨rfl, HB1.out⟩

theorem walk_wrong (p : Option Addr) (len cap : Nat) (l : List I5) (w : World) (hlen : len ≤ 80) (hl : l.length = len) (hr : rightB l = false) (h : Prg w p l) :
    Calls Try.prog 5 #[.slice p len cap] w fun e w' => e = .returned (.bool true) ∧ Below w.heap.size w w' := by
  have d1 : decide (80 < (len : Int)) = false := decide_eq_false (by omega)
  have HL := Lib.hid hl
  have HR := Lib.hid hr
  have HP := Lib.hid h
  clear hl hr h
  go_enter Try.func5, Try.ntmps5
  go_wp2_with fail
  refine (awake_any _).mono ?_
  rintro e w1 ⟨rfl, hb1⟩
  have HB1 := Lib.hid hb1
  clear hb1
  go_wp2_with fail
  refine (right_is _ _ _ l _ _ HL.out HR.out (HP.out.below HB1.out)).mono ?_
  rintro e w2 ⟨rfl, hb2⟩
  have HB2 := Lib.hid hb2
  clear hb2
  go_wp2
  go_ret
  exact ⟨rfl, HB1.out.trans (HB2.out.mono HB1.out.size)⟩

set_option maxHeartbeats 2000000 in
theorem walk_right (b off len cap : Nat) (l : List I5) (w : World) (hlt : b < w.heap.size) (hlen : len ≤ 80) (hl : l.length = len) (hr : rightB l = true) (hx : ∀ i, i < len → Lies w b (off + i * 5) (at5 l i)) :
    Calls Try.prog 5 #[.slice (some ⟨b, off, none⟩) len cap] w fun e w' => e = .returned (.bool true) ∧ Below w.heap.size w w' := by
  have d1 : decide (80 < (len : Int)) = false := decide_eq_false (by omega)
  have HP : Hid (Prg w (some ⟨b, off, none⟩) l) := fun _ => ⟨b, off, hlt, rfl, by rw [hl]; exact hx⟩
  have HL := Lib.hid hl
  have HR := Lib.hid hr
  have HX := Lib.hid hx
  clear hl hr hx
  go_enter Try.func5, Try.ntmps5
  go_wp2_with fail
  refine (awake_any _).mono ?_
  rintro e w1 ⟨rfl, hb1⟩
  have HB1 := Lib.hid hb1
  clear hb1
  go_wp2_with fail
  refine (right_is _ _ _ l _ _ HL.out HR.out (HP.out.below HB1.out)).mono ?_
  rintro e w2 ⟨rfl, hb2⟩
  have HB2 := Lib.hid (HB1.out.trans (hb2.mono HB1.out.size))
  clear hb2 HB1
  go_wp2_with fail
  go_loopw [3] (fun i wr => ∃ k : Nat, k ≤ len ∧ i = .int .i64 k ∧ Below w.heap.size w wr) (fun i _ => len - (intOf i).toNat)
  case atStart => exact ⟨0, Nat.zero_le _, rfl, HB2.out⟩
  case round =>
    obtain ⟨i, hi, rfl, hbel⟩ := hrel
    have HBE := Lib.hid hbel
    clear hbel HB2
    by_cases hlt' : i < len
    · have hl5 := ((HX.out) i hlt').below HBE.out hlt
      have G1 := Lib.hid (goal_there HR.out i (by rw [HL.out]; exact hlt'))
      have G2 := Lib.hid (next_there HR.out i (by rw [HL.out]; exact hlt'))
      rw [HL.out] at G1 G2
      obtain ⟨op, a, bb, c, k, hat⟩ : ∃ op a bb c k, at5 l i = ⟨op, a, bb, c, k⟩ := ⟨_, _, _, _, _, rfl⟩
      rw [hat] at hl5 G1 G2
      clear hat
      obtain ⟨c0, _, _, _, c4, g0, g1⟩ := hl5
      by_cases o13 : op = 13
      · have hk := G1.out (Or.inl o13)
        simp only at hk
        have q1 : (op == 13) = true := by simpa using o13
        have q2 : (op != 13) = false := by simpa using o13
        have d2 : decide ((len : Int) ≤ k) = false := decide_eq_false (by omega)
        have ew := wrap64_u32 k g0 g1
        clear o13
        go_wp2
        go_roundw
        case rel => exact ⟨i + 1, by omega, by go_num, HBE.out⟩
        case measure => simp [intOf]; omega
      · have q1 : (op == 13) = false := by simpa using o13
        have q2 : (op != 13) = true := by simpa using o13
        by_cases o14 : op = 14
        · have hk := G1.out (Or.inr o14)
          have hn := G2.out o13 (by simp only; omega)
          simp only at hk
          have q3 : (op == 14) = true := by simpa using o14
          have q4 : (op != 16) = true := by simp; omega
          have d2 : decide ((len : Int) ≤ k) = false := decide_eq_false (by omega)
          have d3 : decide ((len : Int) ≤ (i : Int) + 1) = false := decide_eq_false (by omega)
          have ew := wrap64_u32 k g0 g1
          clear o13 o14
          go_wp2
          go_roundw
          case rel => exact ⟨i + 1, by omega, by go_num, HBE.out⟩
          case measure => simp [intOf]; omega
        · have q3 : (op == 14) = false := by simpa using o14
          by_cases o16 : op = 16
          · have q4 : (op != 16) = false := by simpa using o16
            clear o13 o14 o16
            go_wp2
            go_roundw
            case rel => exact ⟨i + 1, by omega, by go_num, HBE.out⟩
            case measure => simp [intOf]; omega
          · have hn := G2.out o13 o16
            have q4 : (op != 16) = true := by simpa using o16
            have d3 : decide ((len : Int) ≤ (i : Int) + 1) = false := decide_eq_false (by omega)
            clear o13 o14 o16
            go_wp2
            go_roundw
            case rel => exact ⟨i + 1, by omega, by go_num, HBE.out⟩
            case measure => simp [intOf]; omega
    · go_wp2
      go_ret
      exact ⟨rfl, HBE.out⟩

theorem walk (p : Option Addr) (cap : Nat) (l : List I5) (w : World) (h : Prg w p l) :
    Calls Try.prog 5 #[.slice p l.length cap] w fun e w' => e = .returned (.bool true) ∧ Below w.heap.size w w' := by
  by_cases hlen : 80 < l.length
  · exact walk_long p _ cap w hlen
  · cases hr : rightB l with
    | false => exact walk_wrong p _ cap l w (by omega) rfl hr h
    | true =>
      obtain ⟨b, off, hlt, rfl, hx⟩ := h (by have := (right_has hr).1; omega)
      exact walk_right b off _ cap l w hlt (by omega) rfl hr hx
end Go.Proofs.Ytafilmbldgimmaa.isaStays
