/- What the sums of layer 5 answer: frame.halved, frame.Sum, and the document's own Sum; frame.truth; no condition but that the bytes read. -/
import Derived.Test.YtpmheaeiemnjeaaRef
import Derived.Test.YtpmheaeiemnjeaaFrameNum
namespace Go.Proofs.Ytpmheaeiemnjeaa
set_option linter.unusedVariables false
open Go.ChangeShapes Go.WideShapes Go.ChangeAt Go.RowKit

/-- A slice that reads as these bytes. -/
structure Byts (w : World) (p : Option Addr) (l : List Nat) : Prop where
  lt : ∀ x ∈ l, x < 256
  c : 0 < l.length → ∃ b off, b < w.heap.size ∧ p = some ⟨b, off, none⟩ ∧ ∀ k, k < l.length → w.cell? ⟨b, off + k, none⟩ = some (.int .u8 (l.getD k 0 : Nat))
theorem Byts.below {w w' : World} {p : Option Addr} {l : List Nat} (h : Byts w p l) (hb : Below w.heap.size w w') : Byts w' p l :=
  ⟨h.lt, fun h0 => by
    obtain ⟨b, off, h1, h2, h3⟩ := h.c h0
    exact ⟨b, off, Nat.lt_of_lt_of_le h1 hb.size, h2, fun k hk => (hb.cell (p := ⟨b, off + k, none⟩) h1).trans (h3 k hk)⟩⟩
theorem Byts.drew {w : World} {p : Option Addr} {l : List Nat} (h : Byts w p l) : Byts w.drew p l := ⟨h.lt, h.c⟩

theorem halved_any (n : Nat) (w : World) (h : n < 4294967296) : Calls Try.prog 51 #[.int .u32 n] w fun e w' => e = .returned (.int .u32 (hv n : Nat)) ∧ w = w' := by
  have e0 : bits .and .u32 (n : Int) 1 = ((n &&& 1 : Nat) : Int) := u32_and_nat n 1 h (by decide)
  rw [Nat.and_one_is_mod] at e0
  have e1 : bits .xor .u32 ((n / 2 : Nat) : Int) 3988292384 = ((n / 2 ^^^ 3988292384 : Nat) : Int) := u32_xor_nat (n / 2) 3988292384 (by omega) (by decide)
  rw [show ((n / 2 : Nat) : Int) = (n : Int) / 2 by omega] at e1
  by_cases hx : n % 2 = 1
  · have e2 : hv n = n / 2 ^^^ 3988292384 := by unfold hv; rw [if_pos hx]
    rw [hx] at e0
    rw [e2]
    have E1 := Lib.hid e1
    clear e1 e2
    go_enter Try.func51, Try.ntmps51
    go_wp2
    go_ret
    exact ⟨ret_int E1.out, rfl⟩
  · have e2 : hv n = n / 2 := by unfold hv; rw [if_neg hx]
    have h0 : n % 2 = 0 := by omega
    rw [h0] at e0
    rw [e2]
    clear e1 e2 hx
    go_enter Try.func51, Try.ntmps51
    go_wp2
    go_ret
    exact ⟨ret_int (by omega), rfl⟩
theorem take_snoc (l : List Nat) (k : Nat) (h : k < l.length) : l.take (k + 1) = l.take k ++ [l.getD k 0] := by
  rw [List.take_succ_eq_append_getElem h, List.getD_eq_getElem?_getD, List.getElem?_eq_getElem h]; rfl
theorem crc_take (l : List Nat) (k : Nat) (h : ∀ x ∈ l, x < 256) : crc 4294967295 (l.take k) < 4294967296 := crc_lt _ _ (by decide) (fun x hx => h x (List.mem_of_mem_take hx))

set_option maxHeartbeats 1000000 in
theorem sum_any (p : Option Addr) (len cap : Nat) (l : List Nat) (w : World) (hz : l.length = len) (hm : len ≤ maxLen) (h : Byts w p l) :
    Calls Try.prog 41 #[.slice p len cap] w fun e w' => e = .returned (.int .u32 (sumN l : Nat)) ∧ w = w' := by
  unfold maxLen at hm
  have HZ := Lib.hid hz
  have HB := Lib.hid h
  clear h hz
  go_enter Try.func41, Try.ntmps41
  go_wp2
  go_loop [3, 8] (fun s i => ∃ k : Nat, k ≤ len ∧ i = .int .i64 k ∧ s = .int .u32 (crc 4294967295 (l.take k) : Nat)) (fun _ i => len - (intOf i).toNat)
  case atStart => exact ⟨0, Nat.zero_le _, rfl, rfl⟩
  case round =>
    obtain ⟨k, hk, rfl, rfl⟩ := hrel
    have hc0 := crc_take l k HB.out.lt
    by_cases hlt : k < len
    · obtain ⟨b, off, hb, rfl, hcell⟩ := HB.out.c (by rw [HZ.out]; omega)
      have hck := hcell k (by rw [HZ.out]; exact hlt)
      have hx := getD_lt l HB.out.lt k
      have HS : Hid (crc 4294967295 (l.take (k + 1)) = hvs 8 (crc 4294967295 (l.take k) ^^^ l.getD k 0)) := by rw [take_snoc l k (by rw [HZ.out]; exact hlt), crc_snoc]; rfl
      obtain ⟨c, hcd⟩ : ∃ c, c = crc 4294967295 (l.take k) := ⟨_, rfl⟩
      obtain ⟨x, hxd⟩ : ∃ x, x = l.getD k 0 := ⟨_, rfl⟩
      rw [← hcd, ← hxd] at HS
      rw [← hcd] at hc0 ⊢
      rw [← hxd] at hck hx
      have e1 : bits .xor .u32 (c : Int) (x : Int) = ((c ^^^ x : Nat) : Int) := u32_xor_nat c x hc0 (by omega)
      have hcx := xor_lt c x hc0 (by omega)
      obtain ⟨y, hyd⟩ : ∃ y, y = c ^^^ x := ⟨_, rfl⟩
      rw [← hyd] at e1 hcx HS
      clear hcell hcd hxd hyd
      go_wp2
      go_loop [3, 16] (fun s j => ∃ m : Nat, m ≤ 8 ∧ j = .int .i64 m ∧ s = .int .u32 (hvs m y : Nat)) (fun _ j => 8 - (intOf j).toNat)
      case atStart => exact ⟨0, by omega, rfl, rfl⟩
      case round =>
        obtain ⟨m, hm8, rfl, rfl⟩ := hrel
        have hh := hvs_lt m y hcx
        by_cases h8 : m < 8
        · go_wp2_with (go_at_call 51; refine (halved_any _ _ hh).mono ?_; rintro e w' ⟨rfl, rfl⟩)
          go_round
          case rel => exact ⟨m + 1, by omega, by go_num, rfl⟩
          case measure => simp [intOf]; omega
        · have e8 : m = 8 := by omega
          subst e8
          go_wp2
          go_round
          case rel => exact ⟨k + 1, by omega, by go_num, by rw [HS.out]⟩
          case measure => simp [intOf]; omega
    · have hk' : l.take k = l := by rw [List.take_of_length_le (by rw [HZ.out]; omega)]
      rw [hk'] at hc0 ⊢
      clear hk'
      have hn : bits .xor .u32 IntKind.u32.max ((crc 4294967295 l : Nat) : Int) = ((sumN l : Nat) : Int) := by
        have := u32_xor_nat 4294967295 (crc 4294967295 l) (by decide) hc0
        rw [← top_sub _ hc0] at this
        exact this
      have HN := Lib.hid hn
      clear hn
      go_wp2
      go_ret
      exact ⟨ret_int HN.out, rfl⟩

set_option maxHeartbeats 1000000 in
theorem sumR_any (p : Option Addr) (len cap : Nat) (l : List Nat) (w : World) (hz : l.length = len) (hm : len ≤ maxLen) (h : Byts w p l) :
    Calls Try.prog 43 #[.slice p len cap] w fun e w' => e = .returned (.int .u32 (sumN l : Nat)) ∧ w = w' := by
  unfold maxLen at hm
  have HZ := Lib.hid hz
  have HB := Lib.hid h
  clear h hz
  go_enter Try.func43, Try.ntmps43
  go_wp2
  go_loop [3, 4] (fun s i => ∃ k : Nat, k ≤ len ∧ i = .int .i64 k ∧ s = .int .u32 (crc 4294967295 (l.take k) : Nat)) (fun _ i => len - (intOf i).toNat)
  case atStart => exact ⟨0, Nat.zero_le _, rfl, rfl⟩
  case round =>
    obtain ⟨k, hk, rfl, rfl⟩ := hrel
    have hc0 := crc_take l k HB.out.lt
    by_cases hlt : k < len
    · obtain ⟨b, off, hb, rfl, hcell⟩ := HB.out.c (by rw [HZ.out]; omega)
      have hck := hcell k (by rw [HZ.out]; exact hlt)
      have hx := getD_lt l HB.out.lt k
      have HS : Hid (crc 4294967295 (l.take (k + 1)) = hvs 8 (crc 4294967295 (l.take k) ^^^ l.getD k 0)) := by rw [take_snoc l k (by rw [HZ.out]; exact hlt), crc_snoc]; rfl
      obtain ⟨c, hcd⟩ : ∃ c, c = crc 4294967295 (l.take k) := ⟨_, rfl⟩
      obtain ⟨x, hxd⟩ : ∃ x, x = l.getD k 0 := ⟨_, rfl⟩
      rw [← hcd, ← hxd] at HS
      rw [← hcd] at hc0 ⊢
      rw [← hxd] at hck hx
      have e1 : bits .xor .u32 (c : Int) (x : Int) = ((c ^^^ x : Nat) : Int) := u32_xor_nat c x hc0 (by omega)
      have hcx := xor_lt c x hc0 (by omega)
      obtain ⟨y, hyd⟩ : ∃ y, y = c ^^^ x := ⟨_, rfl⟩
      rw [← hyd] at e1 hcx HS
      clear hcell hcd hxd hyd
      go_wp2
      go_loop [3, 5] (fun s j => ∃ m : Nat, m ≤ 8 ∧ j = .int .i64 m ∧ s = .int .u32 (hvs m y : Nat)) (fun _ j => 8 - (intOf j).toNat)
      case atStart => exact ⟨0, by omega, rfl, rfl⟩
      case round =>
        obtain ⟨m, hm8, rfl, rfl⟩ := hrel
        have hh := hvs_lt m y hcx
        by_cases h8 : m < 8
        · have HV : Hid (hvs (m + 1) y = hv (hvs m y)) := Lib.hid rfl
          obtain ⟨n, hn⟩ : ∃ n, n = hvs m y := ⟨_, rfl⟩
          rw [← hn] at HV hh ⊢
          clear hn
          have e2 : bits .xor .u32 ((n / 2 : Nat) : Int) 3988292384 = ((n / 2 ^^^ 3988292384 : Nat) : Int) := u32_xor_nat (n / 2) 3988292384 (by omega) (by decide)
          rw [show ((n / 2 : Nat) : Int) = (n : Int) / 2 by omega] at e2
          by_cases hx : n % 2 = 1
          · have HV2 : Hid (hv n = n / 2 ^^^ 3988292384) := Lib.hid (by unfold hv; rw [if_pos hx])
            have t := bool_of hx
            have E2 := Lib.hid e2
            clear e2 hx
            go_wp2
            go_round
            case rel => exact ⟨m + 1, by omega, by go_num, by rw [HV.out, HV2.out, ← E2.out]⟩
            case measure => simp [intOf]; omega
          · have HV2 : Hid (hv n = n / 2) := Lib.hid (by unfold hv; rw [if_neg hx])
            have t := bool_no hx
            clear e2 hx
            go_wp2
            go_round
            case rel => exact ⟨m + 1, by omega, by go_num, by rw [HV.out, HV2.out]; go_num⟩
            case measure => simp [intOf]; omega
        · have e8 : m = 8 := by omega
          subst e8
          go_wp2
          go_round
          case rel => exact ⟨k + 1, by omega, by go_num, by rw [HS.out]⟩
          case measure => simp [intOf]; omega
    · have hk' : l.take k = l := by rw [List.take_of_length_le (by rw [HZ.out]; omega)]
      rw [hk'] at hc0 ⊢
      clear hk'
      have hn : 4294967295 - ((crc 4294967295 l : Nat) : Int) = ((sumN l : Nat) : Int) := by unfold sumN; omega
      have HN := Lib.hid hn
      clear hn
      go_wp2
      go_ret
      exact ⟨ret_int HN.out, rfl⟩

theorem truth_any (b : Bool) (w : World) : Calls Try.prog 38 #[.bool b] w fun e w' => e = .returned (.int .u8 (b.toNat : Nat)) ∧ w = w' := by
  cases b
  all_goals
    go_enter Try.func38, Try.ntmps38
    go_wp2
    go_ret
    exact ⟨rfl, rfl⟩
end Go.Proofs.Ytpmheaeiemnjeaa
