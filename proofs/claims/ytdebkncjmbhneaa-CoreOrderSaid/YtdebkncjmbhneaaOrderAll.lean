/- The walk of CoreOrder, whole: for every program and answers that lie in memory, registers that fit, and count of words. -/
import Derived.Test.YtdebkncjmbhneaaOrderMain
import Derived.Test.YtdebkncjmbhneaaNumsOpen
namespace Go.Proofs.Ytdebkncjmbhneaa.coreOrder
set_option linter.unusedVariables false
open Go.ChangeShapes Go.WideShapes Go.ChangeAt Go.RowKit

set_option maxRecDepth 100000 in
theorem walk_none (p s2 : Option Addr) (len cap cap2 : Nat) (l : List I5) (r0 : Nat → Int) (n : Int) (w : World) (hlen : len ≤ 80) (hl : l.length = len) (hr : coreB l ⟨r0, 0, false⟩ = true) (hp : Prg w p l) (hf : (⟨r0, 0, false⟩ : Cor).Fits)
    (n0 : 0 ≤ n) (n1 : n ≤ 255) :
    Calls Try.prog 4 #[.slice p len cap, .agg #[.int .u32 (r0 0), .int .u32 (r0 1), .int .u32 (r0 2), .int .u32 (r0 3), .int .u32 (r0 4), .int .u32 (r0 5), .int .u32 (r0 6), .int .u32 (r0 7)], .slice s2 0 cap2, .int .u8 n] w fun e w' => e = .returned (.bool true) ∧ Below w.heap.size w w' := by
  have d1 : decide (80 < (len : Int)) = false := decide_eq_false (by omega)
  have HL := Lib.hid hl
  have HR := Lib.hid hr
  have HP := Lib.hid hp
  have HF := Lib.hid hf
  clear hl hr hp hf
  go_enter Try.func4, Try.ntmps4
  go_wp2_with fail
  refine (awake_any _).mono ?_
  rintro e w1 ⟨rfl, hb1⟩
  have HC : Hid (Blk w1 w.heap.size #[.int .u32 (r0 0), .int .u32 (r0 1), .int .u32 (r0 2), .int .u32 (r0 3), .int .u32 (r0 4), .int .u32 (r0 5), .int .u32 (r0 6), .int .u32 (r0 7)]) := (Blk.new w _ 24).below hb1
  have HB1 := Lib.hid (((Below.refl w.heap.size w).alloc (Nat.le_refl _) _).trans (hb1.mono (by simp)))
  clear hb1
  have c := HC.out.c
  go_wp2_with fail
  refine (core_call p len cap l ⟨r0, 0, false⟩ true w (w1.alloc (.cells #[.int .u32 (r0 0), .int .u32 (r0 1), .int .u32 (r0 2), .int .u32 (r0 3), .int .u32 (r0 4), .int .u32 (r0 5), .int .u32 (r0 6), .int .u32 (r0 7), .int .i64 0, .bool false] 26)) HL HR HP (HB1.out.alloc HB1.out.size _)).mono ?_
  rintro e w2 ⟨rfl, hb2⟩
  have HB2 : Hid (Below w.heap.size w w2) := (HB1.out.alloc HB1.out.size _).trans (hb2.mono (HB1.out.alloc HB1.out.size _).size)
  have HC2 : Hid (Blk w2 w1.heap.size #[.int .u32 (r0 0), .int .u32 (r0 1), .int .u32 (r0 2), .int .u32 (r0 3), .int .u32 (r0 4), .int .u32 (r0 5), .int .u32 (r0 6), .int .u32 (r0 7), .int .i64 0, .bool false]) := (Blk.new w1 _ 26).below hb2
  have HBS : Hid (w.heap.size ≤ w1.heap.size) := HB1.out.size
  clear hb2 c HC HB1
  go_wp2_with fail
  go_loopw [11] (fun iv wr => iv = .int .i64 0 ∧ Below w.heap.size w wr) (fun _ _ => 0)
  case atStart => exact ⟨rfl, HB2.out⟩
  case round =>
    obtain ⟨rfl, hbel⟩ := hrel
    have HBE := Lib.hid hbel
    clear hbel
    go_wp2
    go_ret
    exact ⟨rfl, HBE.out⟩

theorem walk (p s2 : Option Addr) (cap len2 cap2 : Nat) (l : List I5) (r0 z : Nat → Int) (n : Int) (w : World) (hp : Prg w p l) (hf : (⟨r0, 0, false⟩ : Cor).Fits) (n0 : 0 ≤ n) (n1 : n ≤ 255) (hz : Nums w s2 len2 z) (hzb : ∀ i, i < len2 → 0 ≤ z i ∧ z i ≤ 4294967295) :
    Calls Try.prog 4 #[.slice p l.length cap, .agg #[.int .u32 (r0 0), .int .u32 (r0 1), .int .u32 (r0 2), .int .u32 (r0 3), .int .u32 (r0 4), .int .u32 (r0 5), .int .u32 (r0 6), .int .u32 (r0 7)], .slice s2 len2 cap2, .int .u8 n] w fun e w' => e = .returned (.bool true) ∧ Below w.heap.size w w' := by
  by_cases hlen : 80 < l.length
  · exact walk_long p s2 _ cap len2 cap2 r0 n w hlen
  cases hr : coreB l ⟨r0, 0, false⟩ with
  | false => exact walk_wrong p s2 _ cap len2 cap2 l r0 n w (by omega) rfl hr hp
  | true =>
    by_cases h0 : len2 = 0
    · subst h0
      exact walk_none p s2 _ cap cap2 l r0 n w (by omega) rfl hr hp hf n0 n1
    · obtain ⟨b2, off2, hlt2, rfl, hc⟩ := hz (by omega)
      refine walk_main p _ cap b2 off2 len2 cap2 l r0 z n w (by omega) rfl hr hp hf n0 n1 hlt2 hc hzb (fun i hi => ?_)
      obtain ⟨b, off, _, _, hx⟩ := hp (by omega)
      exact ⟨(hx i hi).k0, (hx i hi).k1⟩
end Go.Proofs.Ytdebkncjmbhneaa.coreOrder
