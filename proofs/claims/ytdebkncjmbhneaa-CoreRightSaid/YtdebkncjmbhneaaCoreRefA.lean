/- What the reference's Right, Place and Wants of layer 3 answer: for every program, core and count of words what the program answers; they write nothing that was there. -/
import Derived.Test.YtdebkncjmbhneaaCoreD
import Derived.Test.YtdebkncjmbhneaaIsaRefRight
import Derived.Test.YtdebkncjmbhneaaBlk
namespace Go.Proofs.Ytdebkncjmbhneaa
set_option linter.unusedVariables false
open Go.ChangeShapes Go.WideShapes Go.ChangeAt Go.RowKit

theorem placeR_pos (n k : Int) (w : World) (h0 : 0 ≤ n) (h1 : n ≤ 4294967295) (h2 : 1 ≤ k) (h3 : k ≤ 9223372036854775807) : Calls Try.prog 16 #[.int .u32 n, .int .i64 k] w fun e w' => e = .returned (.int .i64 (n % k)) ∧ w = w' := by
  have h4 : 0 ≤ n % k := Int.emod_nonneg _ (by omega)
  have h5 : n % k < k := Int.emod_lt_of_pos _ (by omega)
  have hw : wrap64 n = n := by unfold wrap64; omega
  have ht : n.tmod k = n % k := Int.tmod_eq_emod_of_nonneg h0
  have d1 : decide (k < 1) = false := decide_eq_false (by omega)
  go_enter Try.func16, Try.ntmps16
  go_wp2
  go_ret
  exact ⟨rfl, rfl⟩
theorem placeR_none (n k : Int) (w : World) (h2 : k < 1) : Calls Try.prog 16 #[.int .u32 n, .int .i64 k] w fun e w' => e = .returned (.int .i64 0) ∧ w = w' := by
  have d1 : decide (k < 1) = true := decide_eq_true (by omega)
  go_enter Try.func16, Try.ntmps16
  go_wp2
  go_ret
  exact ⟨rfl, rfl⟩
theorem placeR_any (n k : Int) (w : World) (h0 : 0 ≤ n) (h1 : n ≤ 4294967295) (h3 : k ≤ 9223372036854775807) : Calls Try.prog 16 #[.int .u32 n, .int .i64 k] w fun e w' => e = .returned (.int .i64 (placeN n k)) ∧ w = w' := by
  unfold placeN
  by_cases h : k < 1
  · rw [if_pos h]; exact placeR_none n k w h
  · rw [if_neg h]; exact placeR_pos n k w h0 h1 (by omega) h3

theorem coreRightR_in (p : Option Addr) (len cap : Nat) (l : List I5) (r : Nat → Int) (pc : Int) (h v c0 c1 : Bool) (w : World) (hl : l.length = len) (hv : rightB l = v) (hp : Prg w p l) (h0 : decide (0 ≤ pc) = c0) (h1 : decide (pc < (len : Int)) = c1) :
    Calls Try.prog 8 #[.slice p len cap, .agg #[.int .u32 (r 0), .int .u32 (r 1), .int .u32 (r 2), .int .u32 (r 3), .int .u32 (r 4), .int .u32 (r 5), .int .u32 (r 6), .int .u32 (r 7), .int .i64 pc, .bool h]] w fun e w' => e = .returned (.bool (v && (c0 && c1))) ∧ Below w.heap.size w w' := by
  have HL := Lib.hid hl
  have HV := Lib.hid hv
  have HP := Lib.hid hp
  clear hl hv hp
  have hr := fun W hb => rightR_any p cap l W (HP.out.below hb)
  rw [HL.out, HV.out] at hr
  have HRR := Lib.hid hr
  clear hr
  have hcase : v = false ∨ v = true ∧ c0 = false ∨ v = true ∧ c0 = true := by cases v <;> cases c0 <;> simp
  rcases hcase with rfl | ⟨rfl, rfl⟩ | ⟨rfl, rfl⟩
  all_goals
    go_enter Try.func8, Try.ntmps8
    go_wp2_with fail
    refine (HRR.out (w.alloc (.cells #[.int .u32 (r 0), .int .u32 (r 1), .int .u32 (r 2), .int .u32 (r 3), .int .u32 (r 4), .int .u32 (r 5), .int .u32 (r 6), .int .u32 (r 7), .int .i64 pc, .bool h] 26)) ((Below.refl _ _).alloc (Nat.le_refl _) _)).mono ?_
    rintro e w1 ⟨rfl, hb1⟩
    have HC : Hid (Blk w1 w.heap.size #[.int .u32 (r 0), .int .u32 (r 1), .int .u32 (r 2), .int .u32 (r 3), .int .u32 (r 4), .int .u32 (r 5), .int .u32 (r 6), .int .u32 (r 7), .int .i64 pc, .bool h]) := (Blk.new w _ 26).below hb1
    have HB1 := Lib.hid (((Below.refl w.heap.size w).alloc (Nat.le_refl _) _).trans (hb1.mono (by simp)))
    clear hb1
    have c := HC.out.c
    go_wp2
    go_ret
    exact ⟨rfl, HB1.out⟩

theorem coreRightR_any (p : Option Addr) (cap : Nat) (l : List I5) (c : Cor) (w : World) (hp : Prg w p l) :
    Calls Try.prog 8 #[.slice p l.length cap, .agg c.row] w fun e w' => e = .returned (.bool (coreB l c)) ∧ Below w.heap.size w w' := by
  have e : coreB l c = (rightB l && (decide (0 ≤ c.pc) && decide (c.pc < (l.length : Int)))) := by
    unfold coreB
    cases rightB l <;> cases decide (0 ≤ c.pc) <;> cases decide (c.pc < (l.length : Int)) <;> rfl
  rw [e]
  exact coreRightR_in p _ cap l c.r c.pc c.h _ _ _ w rfl rfl hp rfl rfl
theorem coreR_call (p : Option Addr) (len cap : Nat) (l : List I5) (c : Cor) (v : Bool) (w W : World) (hl : Hid (l.length = len)) (hv : Hid (coreB l c = v)) (hp : Hid (Prg w p l)) (hb : Below w.heap.size w W) :
    Calls Try.prog 8 #[.slice p len cap, .agg c.row] W fun e w' => e = .returned (.bool v) ∧ Below W.heap.size W w' := by
  have h := coreRightR_any p cap l c W (hp.out.below hb)
  rw [hl.out, hv.out] at h
  exact h
end Go.Proofs.Ytdebkncjmbhneaa
