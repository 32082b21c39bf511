/- The walk of CoreRight: for every program that lies in memory, every core, count of words and word, the statement answers true, and writes nothing that was there. -/
import Derived.Test.YtdebkncjmbhneaaCoreRefF
import Derived.Test.YtdebkncjmbhneaaCoreAwake
import Derived.Test.YtdebkncjmbhneaaCoreEq
import Derived.Deep.RegionHeld3
namespace Go.Proofs.Ytdebkncjmbhneaa.coreRight
set_option linter.unusedVariables false
open Go.ChangeShapes Go.WideShapes Go.ChangeAt Go.RowKit

theorem k7 (p : Option Addr) (len cap : Nat) (l : List I5) (r : Nat → Int) (pc : Int) (h : Bool) (t : Bool) (ht : Hid (coreB l ⟨r, pc, h⟩ = t)) (B : Nat) (W0 W : World) (hl : Hid (l.length = len)) (hp : Hid (Prg W0 p l)) (hB : Hid (Blk W0 B #[.int .u32 (r 0), .int .u32 (r 1), .int .u32 (r 2), .int .u32 (r 3), .int .u32 (r 4), .int .u32 (r 5), .int .u32 (r 6), .int .u32 (r 7), .int .i64 pc, .bool h])) (hb : Below W0.heap.size W0 W) :
    Calls Try.prog 7 #[.slice p len cap, .agg #[.int .u32 (r 0), .int .u32 (r 1), .int .u32 (r 2), .int .u32 (r 3), .int .u32 (r 4), .int .u32 (r 5), .int .u32 (r 6), .int .u32 (r 7), .int .i64 pc, .bool h]] W fun e w' => e = .returned (.bool t) ∧ (∀ j, w'.cell? ⟨B, j, none⟩ = (#[.int .u32 (r 0), .int .u32 (r 1), .int .u32 (r 2), .int .u32 (r 3), .int .u32 (r 4), .int .u32 (r 5), .int .u32 (r 6), .int .u32 (r 7), .int .i64 pc, .bool h] : Array Value)[j]?) ∧ Below W0.heap.size W0 w' := by
  have hh := coreRight_any p cap l ⟨r, pc, h⟩ W (hp.out.below hb)
  rw [hl.out, ht.out] at hh
  exact hh.mono fun e w' he => ⟨he.1, sOf hB (hb.trans (he.2.mono hb.size))⟩
theorem k8 (p : Option Addr) (len cap : Nat) (l : List I5) (r : Nat → Int) (pc : Int) (h : Bool) (t : Bool) (ht : Hid (coreB l ⟨r, pc, h⟩ = t)) (B : Nat) (W0 W : World) (hl : Hid (l.length = len)) (hp : Hid (Prg W0 p l)) (hB : Hid (Blk W0 B #[.int .u32 (r 0), .int .u32 (r 1), .int .u32 (r 2), .int .u32 (r 3), .int .u32 (r 4), .int .u32 (r 5), .int .u32 (r 6), .int .u32 (r 7), .int .i64 pc, .bool h])) (hb : Below W0.heap.size W0 W) :
    Calls Try.prog 8 #[.slice p len cap, .agg #[.int .u32 (r 0), .int .u32 (r 1), .int .u32 (r 2), .int .u32 (r 3), .int .u32 (r 4), .int .u32 (r 5), .int .u32 (r 6), .int .u32 (r 7), .int .i64 pc, .bool h]] W fun e w' => e = .returned (.bool t) ∧ (∀ j, w'.cell? ⟨B, j, none⟩ = (#[.int .u32 (r 0), .int .u32 (r 1), .int .u32 (r 2), .int .u32 (r 3), .int .u32 (r 4), .int .u32 (r 5), .int .u32 (r 6), .int .u32 (r 7), .int .i64 pc, .bool h] : Array Value)[j]?) ∧ Below W0.heap.size W0 w' := by
  have hh := coreRightR_any p cap l ⟨r, pc, h⟩ W (hp.out.below hb)
  rw [hl.out, ht.out] at hh
  exact hh.mono fun e w' he => ⟨he.1, sOf hB (hb.trans (he.2.mono hb.size))⟩
theorem k9 (p : Option Addr) (len cap : Nat) (l : List I5) (r : Nat → Int) (pc : Int) (h : Bool) (m k q v o : Int) (hd : Hid (wantOf l ⟨r, pc, h⟩ m = ⟨k, q, v, o⟩)) (hf : Hid ((⟨r, pc, h⟩ : Cor).Fits)) (hm : m ≤ 9223372036854775807) (B : Nat) (W0 W : World) (hl : Hid (l.length = len)) (hp : Hid (Prg W0 p l)) (hB : Hid (Blk W0 B #[.int .u32 (r 0), .int .u32 (r 1), .int .u32 (r 2), .int .u32 (r 3), .int .u32 (r 4), .int .u32 (r 5), .int .u32 (r 6), .int .u32 (r 7), .int .i64 pc, .bool h])) (hb : Below W0.heap.size W0 W) :
    Calls Try.prog 9 #[.slice p len cap, .agg #[.int .u32 (r 0), .int .u32 (r 1), .int .u32 (r 2), .int .u32 (r 3), .int .u32 (r 4), .int .u32 (r 5), .int .u32 (r 6), .int .u32 (r 7), .int .i64 pc, .bool h], .int .i64 m] W fun e w' => e = .returned (.agg #[.int .i64 k, .int .i64 q, .int .u32 v, .int .u32 o]) ∧ (∀ j, w'.cell? ⟨B, j, none⟩ = (#[.int .u32 (r 0), .int .u32 (r 1), .int .u32 (r 2), .int .u32 (r 3), .int .u32 (r 4), .int .u32 (r 5), .int .u32 (r 6), .int .u32 (r 7), .int .i64 pc, .bool h] : Array Value)[j]?) ∧ Below W0.heap.size W0 w' := by
  have hh := wants_any p cap l ⟨r, pc, h⟩ m W (hp.out.below hb) hf.out hm
  rw [hl.out, hd.out] at hh
  exact hh.mono fun e w' he => ⟨he.1, sOf hB (hb.trans (he.2.mono hb.size))⟩
theorem k10 (p : Option Addr) (len cap : Nat) (l : List I5) (r : Nat → Int) (pc : Int) (h : Bool) (m k q v o : Int) (hd : Hid (wantOf l ⟨r, pc, h⟩ m = ⟨k, q, v, o⟩)) (hf : Hid ((⟨r, pc, h⟩ : Cor).Fits)) (hm : m ≤ 9223372036854775807) (B : Nat) (W0 W : World) (hl : Hid (l.length = len)) (hp : Hid (Prg W0 p l)) (hB : Hid (Blk W0 B #[.int .u32 (r 0), .int .u32 (r 1), .int .u32 (r 2), .int .u32 (r 3), .int .u32 (r 4), .int .u32 (r 5), .int .u32 (r 6), .int .u32 (r 7), .int .i64 pc, .bool h])) (hb : Below W0.heap.size W0 W) :
    Calls Try.prog 10 #[.slice p len cap, .agg #[.int .u32 (r 0), .int .u32 (r 1), .int .u32 (r 2), .int .u32 (r 3), .int .u32 (r 4), .int .u32 (r 5), .int .u32 (r 6), .int .u32 (r 7), .int .i64 pc, .bool h], .int .i64 m] W fun e w' => e = .returned (.agg #[.int .i64 k, .int .i64 q, .int .u32 v, .int .u32 o]) ∧ (∀ j, w'.cell? ⟨B, j, none⟩ = (#[.int .u32 (r 0), .int .u32 (r 1), .int .u32 (r 2), .int .u32 (r 3), .int .u32 (r 4), .int .u32 (r 5), .int .u32 (r 6), .int .u32 (r 7), .int .i64 pc, .bool h] : Array Value)[j]?) ∧ Below W0.heap.size W0 w' := by
  have hh := wantsR_any p cap l ⟨r, pc, h⟩ m W (hp.out.below hb) hf.out hm
  rw [hl.out, hd.out] at hh
  exact hh.mono fun e w' he => ⟨he.1, sOf hB (hb.trans (he.2.mono hb.size))⟩
theorem k11 (p : Option Addr) (len cap : Nat) (l : List I5) (r : Nat → Int) (pc : Int) (h : Bool) (u : Int) (x : Nat → Int) (px : Int) (hx : Bool) (hd : Hid (doneOf l ⟨r, pc, h⟩ u = ⟨x, px, hx⟩)) (hf : Hid ((⟨r, pc, h⟩ : Cor).Fits)) (B : Nat) (W0 W : World) (hl : Hid (l.length = len)) (hp : Hid (Prg W0 p l)) (hB : Hid (Blk W0 B #[.int .u32 (r 0), .int .u32 (r 1), .int .u32 (r 2), .int .u32 (r 3), .int .u32 (r 4), .int .u32 (r 5), .int .u32 (r 6), .int .u32 (r 7), .int .i64 pc, .bool h])) (hb : Below W0.heap.size W0 W) :
    Calls Try.prog 11 #[.slice p len cap, .agg #[.int .u32 (r 0), .int .u32 (r 1), .int .u32 (r 2), .int .u32 (r 3), .int .u32 (r 4), .int .u32 (r 5), .int .u32 (r 6), .int .u32 (r 7), .int .i64 pc, .bool h], .int .u32 u] W fun e w' => e = .returned (.agg #[.int .u32 (x 0), .int .u32 (x 1), .int .u32 (x 2), .int .u32 (x 3), .int .u32 (x 4), .int .u32 (x 5), .int .u32 (x 6), .int .u32 (x 7), .int .i64 px, .bool hx]) ∧ (∀ j, w'.cell? ⟨B, j, none⟩ = (#[.int .u32 (r 0), .int .u32 (r 1), .int .u32 (r 2), .int .u32 (r 3), .int .u32 (r 4), .int .u32 (r 5), .int .u32 (r 6), .int .u32 (r 7), .int .i64 pc, .bool h] : Array Value)[j]?) ∧ Below W0.heap.size W0 w' := by
  have hh := done_any p cap l ⟨r, pc, h⟩ u W (hp.out.below hb)
  rw [hl.out, hd.out] at hh
  exact hh.mono fun e w' he => ⟨he.1, sOf hB (hb.trans (he.2.mono hb.size))⟩
theorem k12 (p : Option Addr) (len cap : Nat) (l : List I5) (r : Nat → Int) (pc : Int) (h : Bool) (u : Int) (x : Nat → Int) (px : Int) (hx : Bool) (hd : Hid (doneOf l ⟨r, pc, h⟩ u = ⟨x, px, hx⟩)) (hf : Hid ((⟨r, pc, h⟩ : Cor).Fits)) (B : Nat) (W0 W : World) (hl : Hid (l.length = len)) (hp : Hid (Prg W0 p l)) (hB : Hid (Blk W0 B #[.int .u32 (r 0), .int .u32 (r 1), .int .u32 (r 2), .int .u32 (r 3), .int .u32 (r 4), .int .u32 (r 5), .int .u32 (r 6), .int .u32 (r 7), .int .i64 pc, .bool h])) (hb : Below W0.heap.size W0 W) :
    Calls Try.prog 12 #[.slice p len cap, .agg #[.int .u32 (r 0), .int .u32 (r 1), .int .u32 (r 2), .int .u32 (r 3), .int .u32 (r 4), .int .u32 (r 5), .int .u32 (r 6), .int .u32 (r 7), .int .i64 pc, .bool h], .int .u32 u] W fun e w' => e = .returned (.agg #[.int .u32 (x 0), .int .u32 (x 1), .int .u32 (x 2), .int .u32 (x 3), .int .u32 (x 4), .int .u32 (x 5), .int .u32 (x 6), .int .u32 (x 7), .int .i64 px, .bool hx]) ∧ (∀ j, w'.cell? ⟨B, j, none⟩ = (#[.int .u32 (r 0), .int .u32 (r 1), .int .u32 (r 2), .int .u32 (r 3), .int .u32 (r 4), .int .u32 (r 5), .int .u32 (r 6), .int .u32 (r 7), .int .i64 pc, .bool h] : Array Value)[j]?) ∧ Below W0.heap.size W0 w' := by
  have hh := doneR_any p cap l ⟨r, pc, h⟩ u W (hp.out.below hb) hf.out
  rw [hl.out, hd.out] at hh
  exact hh.mono fun e w' he => ⟨he.1, sOf hB (hb.trans (he.2.mono hb.size))⟩

theorem walk_long (p : Option Addr) (len cap : Nat) (r : Nat → Int) (pc : Int) (h : Bool) (m u : Int) (w : World) (hlen : 80 < len) :
    Calls Try.prog 3 #[.slice p len cap, .agg #[.int .u32 (r 0), .int .u32 (r 1), .int .u32 (r 2), .int .u32 (r 3), .int .u32 (r 4), .int .u32 (r 5), .int .u32 (r 6), .int .u32 (r 7), .int .i64 pc, .bool h], .int .i64 m, .int .u32 u] w fun e w' => e = .returned (.bool true) ∧ Below w.heap.size w w' := by
  have d1 : decide (80 < (len : Int)) = true := decide_eq_true (by omega)
  go_enter Try.func3, Try.ntmps3
  go_wp2_with fail
  refine (awake_any _).mono ?_
  rintro e w1 ⟨rfl, hb1⟩
  have HB1 := Lib.hid (((Below.refl w.heap.size w).alloc (Nat.le_refl _) _).trans (hb1.mono (by simp)))
  clear hb1
  go_wp2
  go_ret
  exact ⟨rfl, HB1.out⟩

set_option maxRecDepth 100000 in
set_option maxHeartbeats 8000000 in
theorem walk_main (p : Option Addr) (len cap : Nat) (l : List I5) (r : Nat → Int) (pc : Int) (h : Bool) (m u : Int) (t : Bool) (k q v o : Int) (x : Nat → Int) (px : Int) (hx : Bool) (w : World) (hlen : len ≤ 80) (hl : l.length = len) (hp : Prg w p l) (hf : (⟨r, pc, h⟩ : Cor).Fits) (hm : m ≤ 9223372036854775807)
    (ht : coreB l ⟨r, pc, h⟩ = t) (hw : wantOf l ⟨r, pc, h⟩ m = ⟨k, q, v, o⟩) (hd : doneOf l ⟨r, pc, h⟩ u = ⟨x, px, hx⟩) :
    Calls Try.prog 3 #[.slice p len cap, .agg #[.int .u32 (r 0), .int .u32 (r 1), .int .u32 (r 2), .int .u32 (r 3), .int .u32 (r 4), .int .u32 (r 5), .int .u32 (r 6), .int .u32 (r 7), .int .i64 pc, .bool h], .int .i64 m, .int .u32 u] w fun e w' => e = .returned (.bool true) ∧ Below w.heap.size w w' := by
  have d1 : decide (80 < (len : Int)) = false := decide_eq_false (by omega)
  have HL := Lib.hid hl
  have HP := Lib.hid hp
  have HF := Lib.hid hf
  have HT := Lib.hid ht
  have HW := Lib.hid hw
  have HD := Lib.hid hd
  clear hl hp hf ht hw hd
  go_enter Try.func3, Try.ntmps3
  go_wp2_with fail
  refine (awake_any _).mono ?_
  rintro e w1 ⟨rfl, hb1⟩
  have HC : Hid (Blk w1 w.heap.size #[.int .u32 (r 0), .int .u32 (r 1), .int .u32 (r 2), .int .u32 (r 3), .int .u32 (r 4), .int .u32 (r 5), .int .u32 (r 6), .int .u32 (r 7), .int .i64 pc, .bool h]) := (Blk.new w _ 26).below hb1
  have HB1 := Lib.hid (((Below.refl w.heap.size w).alloc (Nat.le_refl _) _).trans (hb1.mono (by simp)))
  clear hb1
  have HP1 : Hid (Prg w1 p l) := HP.out.below HB1.out
  have c := HC.out.c
  have hq : ∀ W, (binOp .eql 26 (.agg #[.int .u32 (x 0), .int .u32 (x 1), .int .u32 (x 2), .int .u32 (x 3), .int .u32 (x 4), .int .u32 (x 5), .int .u32 (x 6), .int .u32 (x 7), .int .i64 px, .bool hx]) (.agg #[.int .u32 (x 0), .int .u32 (x 1), .int .u32 (x 2), .int .u32 (x 3), .int .u32 (x 4), .int .u32 (x 5), .int .u32 (x 6), .int .u32 (x 7), .int .i64 px, .bool hx])).run Try.prog W = .ok (.bool true) W := fun W => (eq_core W ⟨x, px, hx⟩ ⟨x, px, hx⟩).trans (by rw [eqC_refl])
  go_wp2_with fail
  go_region_held3 (fun w' => (∀ j, w'.cell? ⟨w.heap.size, j, none⟩ = (#[.int .u32 (r 0), .int .u32 (r 1), .int .u32 (r 2), .int .u32 (r 3), .int .u32 (r 4), .int .u32 (r 5), .int .u32 (r 6), .int .u32 (r 7), .int .i64 pc, .bool h] : Array Value)[j]?) ∧ Below w1.heap.size w1 w')
    ((refine sOf HC ?_; simp (config := { maxDischargeDepth := 60 }) only [bA, bS, bD, bR, *]))
    (first
      | (go_at_call 7; refine (k7 p len cap l r pc h t HT w.heap.size w1 _ HL HP1 HC ?_).mono ?_; (first | assumption | (exact (‹_ ∧ _›).2)); (rintro e w7 ⟨rfl, c7, hb7⟩))
      | (go_at_call 8; refine (k8 p len cap l r pc h t HT w.heap.size w1 _ HL HP1 HC ?_).mono ?_; (first | assumption | (exact (‹_ ∧ _›).2)); (rintro e w8 ⟨rfl, c8, hb8⟩))
      | (go_at_call 9; refine (k9 p len cap l r pc h m k q v o HW HF hm w.heap.size w1 _ HL HP1 HC ?_).mono ?_; (first | assumption | (exact (‹_ ∧ _›).2)); (rintro e w9 ⟨rfl, c9, hb9⟩))
      | (go_at_call 10; refine (k10 p len cap l r pc h m k q v o HW HF hm w.heap.size w1 _ HL HP1 HC ?_).mono ?_; (first | assumption | (exact (‹_ ∧ _›).2)); (rintro e w10 ⟨rfl, c10, hb10⟩))
      | (go_at_call 11; refine (k11 p len cap l r pc h u x px hx HD HF w.heap.size w1 _ HL HP1 HC ?_).mono ?_; (first | assumption | (exact (‹_ ∧ _›).2)); (rintro e w11 ⟨rfl, c11, hb11⟩))
      | (go_at_call 12; refine (k12 p len cap l r pc h u x px hx HD HF w.heap.size w1 _ HL HP1 HC ?_).mono ?_; (first | assumption | (exact (‹_ ∧ _›).2)); (rintro e w12 ⟨rfl, c12, hb12⟩)))
  all_goals
    have HF : Hid (Below w1.heap.size w1 _) := ‹_›
    go_wp2
    go_ret
    exact ⟨rfl, HB1.out.trans (HF.out.mono HB1.out.size)⟩

theorem walk (p : Option Addr) (cap : Nat) (l : List I5) (c : Cor) (m u : Int) (w : World) (hp : Prg w p l) (hf : c.Fits) (hm : m ≤ 9223372036854775807) :
    Calls Try.prog 3 #[.slice p l.length cap, .agg c.row, .int .i64 m, .int .u32 u] w fun e w' => e = .returned (.bool true) ∧ Below w.heap.size w w' := by
  obtain ⟨r, pc, h⟩ := c
  by_cases hlen : 80 < l.length
  · exact walk_long p _ cap r pc h m u w hlen
  · exact walk_main p _ cap l r pc h m u _ _ _ _ _ _ _ _ w (by omega) rfl hp hf hm rfl rfl rfl
end Go.Proofs.Ytdebkncjmbhneaa.coreRight
