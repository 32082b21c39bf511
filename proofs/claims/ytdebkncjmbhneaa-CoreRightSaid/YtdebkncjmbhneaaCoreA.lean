/- What word.Place, core.Right, core.next and core.made answer, for every program, core and instruction that may be; they write nothing that was there. -/
import Derived.Test.YtdebkncjmbhneaaCoreNum
import Derived.Test.YtdebkncjmbhneaaRefDo
import Derived.Test.YtdebkncjmbhneaaIsaRight
namespace Go.Proofs.Ytdebkncjmbhneaa
set_option linter.unusedVariables false
open Go.ChangeShapes Go.WideShapes Go.ChangeAt Go.RowKit

def Cor.row (c : Cor) : Array Value := #[.int .u32 (c.r 0), .int .u32 (c.r 1), .int .u32 (c.r 2), .int .u32 (c.r 3), .int .u32 (c.r 4), .int .u32 (c.r 5), .int .u32 (c.r 6), .int .u32 (c.r 7), .int .i64 c.pc, .bool c.h]
def Wnt.row (x : Wnt) : Array Value := #[.int .i64 x.kind, .int .i64 x.at_, .int .u32 x.val, .int .u32 x.old]

theorem place_any (n k : Int) (w : World) (h0 : 0 ≤ n) (h1 : n ≤ 4294967295) (h3 : k ≤ 9223372036854775807) : Calls Try.prog 15 #[.int .u32 n, .int .i64 k] w fun e w' => e = .returned (.int .i64 (placeN n k)) ∧ w = w' := by
  unfold placeN
  by_cases h : k < 1
  · rw [if_pos h]; exact place_none n k w h
  · rw [if_neg h]; exact place_pos n k w h0 h1 (by omega) h3

theorem coreRight_low (p : Option Addr) (len cap : Nat) (r0 r1 r2 r3 r4 r5 r6 r7 pc : Int) (h : Bool) (w : World) (hpc : pc < 0 ∨ (len : Int) ≤ pc) :
    Calls Try.prog 7 #[.slice p len cap, .agg #[.int .u32 r0, .int .u32 r1, .int .u32 r2, .int .u32 r3, .int .u32 r4, .int .u32 r5, .int .u32 r6, .int .u32 r7, .int .i64 pc, .bool h]] w fun e w' => e = .returned (.bool false) ∧ Below w.heap.size w w' := by
  by_cases h0 : pc < 0
  · have d1 : decide (0 ≤ pc) = false := decide_eq_false (by omega)
    clear hpc h0
    go_enter Try.func7, Try.ntmps7
    go_wp2
    go_ret
    exact ⟨rfl, (Below.refl _ _).alloc (Nat.le_refl _) _⟩
  · have d1 : decide (0 ≤ pc) = true := decide_eq_true (by omega)
    have d2 : decide (pc < (len : Int)) = false := decide_eq_false (by omega)
    clear hpc h0
    go_enter Try.func7, Try.ntmps7
    go_wp2
    go_ret
    exact ⟨rfl, (Below.refl _ _).alloc (Nat.le_refl _) _⟩

theorem coreRight_in (p : Option Addr) (len cap : Nat) (l : List I5) (r0 r1 r2 r3 r4 r5 r6 r7 pc : Int) (h : Bool) (v : Bool) (w : World) (hl : l.length = len) (hv : rightB l = v) (hp : Prg w p l) (h0 : 0 ≤ pc) (h1 : pc < (len : Int)) :
    Calls Try.prog 7 #[.slice p len cap, .agg #[.int .u32 r0, .int .u32 r1, .int .u32 r2, .int .u32 r3, .int .u32 r4, .int .u32 r5, .int .u32 r6, .int .u32 r7, .int .i64 pc, .bool h]] w fun e w' => e = .returned (.bool v) ∧ Below w.heap.size w w' := by
  have d1 : decide (0 ≤ pc) = true := decide_eq_true (by omega)
  have d2 : decide (pc < (len : Int)) = true := decide_eq_true (by omega)
  have HL := Lib.hid hl
  have HV := Lib.hid hv
  have HP := Lib.hid hp
  clear hl hv hp h0 h1
  go_enter Try.func7, Try.ntmps7
  go_wp2_with fail
  have hb : Below w.heap.size w (w.alloc (.cells #[.int .u32 r0, .int .u32 r1, .int .u32 r2, .int .u32 r3, .int .u32 r4, .int .u32 r5, .int .u32 r6, .int .u32 r7, .int .i64 pc, .bool h] 26)) := (Below.refl _ _).alloc (Nat.le_refl _) _
  have hr := right_any p cap l _ (HP.out.below hb)
  rw [HL.out, HV.out] at hr
  have HB := Lib.hid hb
  clear hb
  refine hr.mono ?_
  clear hr
  rintro e w1 ⟨rfl, hb1⟩
  have HB1 := Lib.hid (HB.out.trans (hb1.mono HB.out.size))
  clear hb1 HB
  go_wp2
  go_ret
  exact ⟨rfl, HB1.out⟩

theorem coreRight_any (p : Option Addr) (cap : Nat) (l : List I5) (c : Cor) (w : World) (hp : Prg w p l) :
    Calls Try.prog 7 #[.slice p l.length cap, .agg c.row] w fun e w' => e = .returned (.bool (coreB l c)) ∧ Below w.heap.size w w' := by
  by_cases h : 0 ≤ c.pc ∧ c.pc < l.length
  · have e : coreB l c = rightB l := by unfold coreB; rw [decide_eq_true h.1, decide_eq_true h.2]; rfl
    rw [e]
    exact coreRight_in p _ cap l _ _ _ _ _ _ _ _ _ _ _ w rfl rfl hp h.1 h.2
  · have e : coreB l c = false := by
      cases hc : coreB l c with
      | false => rfl
      | true => exact absurd ⟨(core_has hc).1, (core_has hc).2.1⟩ h
    rw [e]
    exact coreRight_low p _ cap _ _ _ _ _ _ _ _ _ _ w (by omega)
end Go.Proofs.Ytdebkncjmbhneaa
