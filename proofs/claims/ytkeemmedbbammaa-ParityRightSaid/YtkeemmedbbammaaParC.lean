/- Whether two rows are the same (slices.Equal); no condition but that they read. -/
import Derived.Test.YtkeemmedbbammaaParB
import Derived.BigQuiet
namespace Go.Proofs.Ytkeemmedbbammaa
set_option linter.unusedVariables false
open Go.ChangeShapes Go.WideShapes Go.ChangeAt Go.RowKit

theorem take_next {l l' : List Nat} {k : Nat} (h : l.take k = l'.take k) (hk : k < l.length) (hk' : k < l'.length) (e : l.getD k 0 = l'.getD k 0) : l.take (k + 1) = l'.take (k + 1) := by
  rw [take_getD l 0 k hk, take_getD l' 0 k hk', h, e]
theorem below_drewN {W w : World} (h : Below W.heap.size W w) (m : Nat) : Below W.heap.size W (w.drewN m) := ⟨h.os, h.tape, h.output, h.size, h.block⟩
set_option maxHeartbeats 1000000 in
theorem equal_any (p : Option Addr) (n c : Nat) (q : Option Addr) (n' c' : Nat) (l l' : List Nat) (w : World) (hz : l.length = n) (hz' : l'.length = n') (hm : n ≤ 100) (hm' : n' ≤ 100) (h : Nm w p l) (h' : Nm w q l') :
    Calls Try.prog 30 #[.slice p n c, .slice q n' c'] w fun e w' => e = .returned (.bool (decide (l = l'))) ∧ Below w.heap.size w w' := by
  have HZ := Lib.hid hz
  have HZ' := Lib.hid hz'
  have HP := Lib.hid h
  have HP' := Lib.hid h'
  clear h h' hz hz'
  obtain ⟨r, hr⟩ : ∃ r, r = decide (l = l') := ⟨_, rfl⟩
  rw [← hr]
  have HR := Lib.hid hr
  clear hr
  by_cases hn : n = n'
  · subst hn
    go_enter Try.func30, Try.ntmps30
    go_wp2_with fail
    go_loopw [13] (fun i wr => ∃ k : Nat, k ≤ n ∧ i = .int .i64 k ∧ Hid (l.take k = l'.take k) ∧ Below w.heap.size w wr) (fun i _ => n - (intOf i).toNat)
    case atStart => exact ⟨0, Nat.zero_le _, rfl, Lib.hid rfl, Below.refl _ _⟩
    case round =>
      obtain ⟨k, hk, rfl, hi, hb⟩ := hrel
      have HB := Lib.hid hb
      clear hb
      by_cases hlt : k < n
      · obtain ⟨b, off, hb1, rfl, hc1⟩ := HP.out.cellAt k (by rw [HZ.out]; exact hlt)
        obtain ⟨b', off', hb1', rfl, hc1'⟩ := HP'.out.cellAt k (by rw [HZ'.out]; exact hlt)
        have c0 := (HB.out.cell (p := ⟨b, off + k, none⟩) hb1).trans hc1
        have d0 := (HB.out.cell (p := ⟨b', off' + k, none⟩) hb1').trans hc1'
        obtain ⟨x, hx⟩ : ∃ x, x = l.getD k 0 := ⟨_, rfl⟩
        obtain ⟨y, hy⟩ : ∃ y, y = l'.getD k 0 := ⟨_, rfl⟩
        rw [← hx] at c0
        rw [← hy] at d0
        have HX := Lib.hid hx
        have HY := Lib.hid hy
        clear hx hy hb1 hb1' hc1 hc1'
        by_cases hxy : x = y
        · have HI := Lib.hid (take_next hi.out (by rw [HZ.out]; exact hlt) (by rw [HZ'.out]; exact hlt) (by rw [← HX.out, ← HY.out]; exact hxy))
          have e1 : ((x : Int) != (y : Int)) = false := by simp; omega
          have HXY := Lib.hid hxy
          clear hxy hi
          go_wp2_with fail
          go_quiet (fail)
          go_wp2
          go_roundw
          case rel => exact ⟨k + 1, by omega, by go_num, HI, below_drewN HB.out _⟩
          case measure => simp [intOf]; omega
        · have e1 : ((x : Int) != (y : Int)) = true := by simp; omega
          have hf : r = false := by
            rw [HR.out]
            exact decide_eq_false (fun e => hxy (by rw [HX.out, HY.out, e]))
          subst hf
          have HXY := Lib.hid hxy
          clear hxy hi
          go_wp2_with fail
          go_quiet (fail)
          go_wp2
          go_ret
          exact ⟨rfl, below_drewN HB.out _⟩
      · have hkn : k = n := by omega
        subst hkn
        have hf : r = true := by
          rw [HR.out]
          refine decide_eq_true ?_
          have := hi.out
          rwa [List.take_of_length_le (Nat.le_of_eq HZ.out), List.take_of_length_le (Nat.le_of_eq HZ'.out)] at this
        subst hf
        clear hi
        go_wp2
        go_ret
        exact ⟨rfl, HB.out⟩
  · have hf : r = false := by
      rw [HR.out]
      refine decide_eq_false (fun e => hn ?_)
      rw [← HZ.out, ← HZ'.out, e]
    have e1 : ((n : Int) != (n' : Int)) = true := by simp; omega
    subst hf
    clear hn
    go_enter Try.func30, Try.ntmps30
    go_wp2_with fail
    go_ret
    exact ⟨rfl, Below.refl _ _⟩
end Go.Proofs.Ytkeemmedbbammaa
