/- What the document's own column is, and its Right, has and Read; no condition but that the banks read. -/
import Derived.Test.YtkeemmedbbammaaParL
namespace Go.Proofs.Ytkeemmedbbammaa
set_option linter.unusedVariables false
open Go.ChangeShapes Go.WideShapes Go.ChangeAt Go.RowKit

set_option maxHeartbeats 1000000 in
theorem column_any (p : Option Addr) (n c m a : Nat) (but : Int) (xs : List Value) (L : List (List Nat)) (w : World) (hz : L.length = n) (h : Rw w p xs L) (hall : allB L m = true) (ha : a < m) :
    Calls Try.prog 25 #[.slice p n c, .int .i64 a, .int .i64 but] w fun e w' => e = .returned (.int .u32 (colX L a but : Nat)) ∧ w = w' := by
  have HZ := Lib.hid hz
  have HP := Lib.hid h
  have HA := Lib.hid hall
  have hn : n ≤ 100 := by rw [← hz]; exact h.n100
  obtain ⟨r, hr⟩ : ∃ r, r = colX L a but := ⟨_, rfl⟩
  rw [← hr]
  have HR := Lib.hid hr
  clear h hz hall hr
  go_enter Try.func25, Try.ntmps25
  go_wp2
  go_loop [7, 8] (fun s i => ∃ k : Nat, k ≤ n ∧ i = .int .i64 k ∧ ∃ v : Nat, s = .int .u32 v ∧ Hid (v = colK L a but k)) (fun _ i => n - (intOf i).toNat)
  case atStart => exact ⟨0, Nat.zero_le _, rfl, 0, rfl, Lib.hid rfl⟩
  case round =>
    obtain ⟨k, hk, rfl, v, rfl, hv⟩ := hrel
    by_cases hlt : k < n
    · have hltI : decide ((k : Int) < n) = true := decide_eq_true (by omega)
      have hltk : k < L.length := by rw [HZ.out]; exact hlt
      by_cases hb : (k : Int) = but
      · have e0 : ((k : Int) != but) = false := by simp; exact hb
        have HV : Hid (v = colK L a but (k + 1)) := Lib.hid (by
          rw [hv.out]
          conv => rhs; unfold colK
          rw [if_pos hb])
        clear hb hv
        go_wp2
        go_round
        case rel => exact ⟨k + 1, by omega, by go_num, v, rfl, HV⟩
        case measure => simp [intOf]; omega
      · have e0 : ((k : Int) != but) = true := by simp; exact hb
        obtain ⟨b, off, q, x, c2, rfl, hrow⟩ := HP.out.rowAt k hltk
        have hck := hrow.cell
        have hxm : x = m := by rw [← hrow.len]; exact all_at HA.out k hltk
        subst hxm
        obtain ⟨b2, off2, hb2l, hq, hcr⟩ := hrow.nm.cellAt a (by rw [hrow.len]; exact ha)
        subst hq
        have hr32 := hrow.nm.getD_lt a
        have hv32 : v < 4294967296 := by rw [hv.out]; exact colK_lt L a but HP.out.lt k (by omega)
        obtain ⟨y, hy⟩ : ∃ y, y = (L.getD k []).getD a 0 := ⟨_, rfl⟩
        rw [← hy] at hcr hr32
        have hxor : bits .xor .u32 (v : Int) (y : Int) = ((v ^^^ y : Nat) : Int) := u32_xor_nat v y (by omega) (by omega)
        have HV : Hid (v ^^^ y = colK L a but (k + 1)) := Lib.hid (by
          rw [hv.out, hy]
          conv => rhs; unfold colK
          rw [if_neg hb])
        clear hb hv hy hb2l hrow
        go_wp2
        go_round
        case rel => exact ⟨k + 1, by omega, by go_num, v ^^^ y, rfl, HV⟩
        case measure => simp [intOf]; omega
    · have hltI : decide ((k : Int) < n) = false := decide_eq_false (by omega)
      have hkn : k = n := by omega
      have he : v = r := by rw [hv.out, HR.out, hkn]; unfold colX; rw [HZ.out]
      subst he
      clear hv hkn
      go_wp2
      go_ret
      exact ⟨rfl, rfl⟩
end Go.Proofs.Ytkeemmedbbammaa
