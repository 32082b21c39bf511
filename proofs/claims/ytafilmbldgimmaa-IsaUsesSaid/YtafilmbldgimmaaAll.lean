/- What isa.All answers, for every list of programs; it writes nothing that was there. -/
import Derived.Test.YtafilmbldgimmaaRight
namespace Go.Proofs.Ytafilmbldgimmaa
open Go.ChangeShapes Go.WideShapes Go.ChangeAt Go.RowKit

/-- The programs ls lie behind p: nothing is asked of p where there are none. -/
def Prgs (w : World) (p : Option Addr) (ls : List (List I5)) : Prop :=
  0 < ls.length → ∃ b off, b < w.heap.size ∧ p = some ⟨b, off, none⟩ ∧ ∀ i, i < ls.length → ∃ q cap, w.cell? ⟨b, off + i, none⟩ = some (.slice q (atP ls i).length cap) ∧ Prg w q (atP ls i)

theorem Prgs.below {w w' : World} {p : Option Addr} {ls : List (List I5)} (h : Prgs w p ls) (hb : Below w.heap.size w w') : Prgs w' p ls := fun h0 => by
  obtain ⟨b, off, h1, h2, h3⟩ := h h0
  refine ⟨b, off, Nat.lt_of_lt_of_le h1 hb.size, h2, fun i hi => ?_⟩
  obtain ⟨q, cap, h4, h5⟩ := h3 i hi
  exact ⟨q, cap, (hb.cell (p := ⟨b, off + i, none⟩) h1).trans h4, h5.below hb⟩

theorem all_few_any (p : Option Addr) (len cap : Nat) (w : World) (h : len < 1 ∨ 4 < len) :
    Calls Try.prog 12 #[.slice p len cap] w fun e w' => e = .returned (.bool false) ∧ Below w.heap.size w w' := by
  rcases h with h | h
  · have d1 : decide ((len : Int) < 1) = true := decide_eq_true (by omega)
    go_enter Try.func12, Try.ntmps12
    go_wp2
    go_ret
    exact ⟨rfl, Below.refl _ _⟩
  · have d1 : decide ((len : Int) < 1) = false := decide_eq_false (by omega)
    have d2 : decide (4 < (len : Int)) = true := decide_eq_true (by omega)
    go_enter Try.func12, Try.ntmps12
    go_wp2
    go_ret
    exact ⟨rfl, Below.refl _ _⟩

set_option maxHeartbeats 800000 in
theorem all_loop_any (b off len cap : Nat) (ls : List (List I5)) (w : World) (hl : ls.length = len) (h1 : 1 ≤ len) (h2 : len ≤ 4) (hlt : b < w.heap.size)
    (hx : ∀ i, i < len → ∃ q cap, w.cell? ⟨b, off + i, none⟩ = some (.slice q (atP ls i).length cap) ∧ Prg w q (atP ls i)) :
    Calls Try.prog 12 #[.slice (some ⟨b, off, none⟩) len cap] w fun e w' => e = .returned (.bool (allB ls)) ∧ Below w.heap.size w w' := by
  have HL := Lib.hid hl
  have HX := Lib.hid hx
  clear hx hl
  have d1 : decide ((len : Int) < 1) = false := decide_eq_false (by omega)
  have d2 : decide (4 < (len : Int)) = false := decide_eq_false (by omega)
  go_enter Try.func12, Try.ntmps12
  go_wp2_with fail
  go_loopw [15] (fun i wr => ∃ k : Nat, k ≤ len ∧ i = .int .i64 k ∧ (∀ j, j < k → rightB (atP ls j) = true) ∧ Below w.heap.size w wr) (fun i _ => len - (intOf i).toNat)
  case atStart => exact ⟨0, Nat.zero_le _, rfl, fun j hj => absurd hj (by omega), Below.refl _ _⟩
  case round =>
    obtain ⟨i, hi, rfl, hall, hbel⟩ := hrel
    have HA := Lib.hid hall
    have HBE := Lib.hid hbel
    clear hall hbel
    by_cases hlt' : i < len
    · obtain ⟨q, qc, hcell, hprg⟩ := HX.out i hlt'
      have hc := (HBE.out.cell (p := ⟨b, off + i, none⟩) hlt).trans hcell
      have HP := Lib.hid (hprg.below HBE.out)
      clear hcell hprg
      obtain ⟨n, hn⟩ : ∃ n, n = (atP ls i).length := ⟨_, rfl⟩
      rw [← hn] at hc
      have HN := Lib.hid hn
      clear hn
      go_wp2_with fail
      rw [HN.out]
      refine (right_any _ _ _ _ HP.out).mono ?_
      rintro e w2 ⟨rfl, hb2⟩
      have HB2 := Lib.hid hb2
      clear hb2 hc
      rw [← HN.out]
      cases hm : rightB (atP ls i) with
      | true =>
        have HM := Lib.hid hm
        go_wp2
        go_roundw
        case rel =>
          refine ⟨i + 1, by omega, by go_num, fun j hj => ?_, HBE.out.trans (HB2.out.mono HBE.out.size)⟩
          by_cases hji : j = i
          · rw [hji]; exact HM.out
          · exact HA.out j (by omega)
        case measure => simp [intOf]; omega
      | false =>
        have HM := Lib.hid hm
        go_wp2
        go_ret
        refine ⟨?_, HBE.out.trans (HB2.out.mono HBE.out.size)⟩
        rw [all_not (l := ls) (i := i) (by rw [HL.out]; exact hlt') HM.out]
        rfl
    · go_wp2
      go_ret
      refine ⟨?_, HBE.out⟩
      rw [all_yes (l := ls) (by rw [HL.out]; exact h1) (by rw [HL.out]; exact h2) (fun j hj => by rw [HL.out] at hj; exact HA.out j (by omega))]
      rfl

theorem all_any (p : Option Addr) (cap : Nat) (ls : List (List I5)) (w : World) (h : Prgs w p ls) :
    Calls Try.prog 12 #[.slice p ls.length cap] w fun e w' => e = .returned (.bool (allB ls)) ∧ Below w.heap.size w w' := by
  by_cases h0 : ls.length < 1 ∨ 4 < ls.length
  · rw [all_few h0]
    exact all_few_any p _ cap w h0
  · obtain ⟨b, off, hlt, rfl, hx⟩ := h (by omega)
    exact all_loop_any b off _ cap ls w rfl (by omega) (by omega) hlt hx
end Go.Proofs.Ytafilmbldgimmaa
