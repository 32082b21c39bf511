/- The walk of CoreOrder: for every program that lies in memory, every registers and answers, the statement answers true, and writes nothing that was there. -/
import Derived.Test.YtdebkncjmbhneaaCoreAwake
import Derived.Test.YtdebkncjmbhneaaCoreEq2
import Derived.Test.YtdebkncjmbhneaaCoreFacts2
import Derived.Test.YtdebkncjmbhneaaBlk
import Derived.Deep.RegionHeld3
import Derived.Deep.RegionWith
import Derived.Deep.Light
import Derived.Deep.DeepCutAuto
namespace Go.Proofs.Ytdebkncjmbhneaa.coreOrder
set_option linter.unusedVariables false
open Go.ChangeShapes Go.WideShapes Go.ChangeAt Go.RowKit

theorem walk_long (p s2 : Option Addr) (len cap len2 cap2 : Nat) (r0 : Nat → Int) (n : Int) (w : World) (hlen : 80 < len) :
    Calls Try.prog 4 #[.slice p len cap, .agg #[.int .u32 (r0 0), .int .u32 (r0 1), .int .u32 (r0 2), .int .u32 (r0 3), .int .u32 (r0 4), .int .u32 (r0 5), .int .u32 (r0 6), .int .u32 (r0 7)], .slice s2 len2 cap2, .int .u8 n] w fun e w' => e = .returned (.bool true) ∧ Below w.heap.size w w' := by
  have d1 : decide (80 < (len : Int)) = true := decide_eq_true (by omega)
  go_enter Try.func4, Try.ntmps4
  go_wp2_with fail
  refine (awake_any _).mono ?_
  rintro e w1 ⟨rfl, hb1⟩
  have HC : Hid (Blk w1 w.heap.size #[.int .u32 (r0 0), .int .u32 (r0 1), .int .u32 (r0 2), .int .u32 (r0 3), .int .u32 (r0 4), .int .u32 (r0 5), .int .u32 (r0 6), .int .u32 (r0 7)]) := (Blk.new w _ 24).below hb1
  have HB1 := Lib.hid (((Below.refl w.heap.size w).alloc (Nat.le_refl _) _).trans (hb1.mono (by simp)))
  clear hb1
  have c := HC.out.c
  go_wp2
  go_ret
  exact ⟨rfl, HB1.out.alloc HB1.out.size _⟩

theorem walk_wrong (p s2 : Option Addr) (len cap len2 cap2 : Nat) (l : List I5) (r0 : Nat → Int) (n : Int) (w : World) (hlen : len ≤ 80) (hl : l.length = len) (hr : coreB l ⟨r0, 0, false⟩ = false) (hp : Prg w p l) :
    Calls Try.prog 4 #[.slice p len cap, .agg #[.int .u32 (r0 0), .int .u32 (r0 1), .int .u32 (r0 2), .int .u32 (r0 3), .int .u32 (r0 4), .int .u32 (r0 5), .int .u32 (r0 6), .int .u32 (r0 7)], .slice s2 len2 cap2, .int .u8 n] w fun e w' => e = .returned (.bool true) ∧ Below w.heap.size w w' := by
  have d1 : decide (80 < (len : Int)) = false := decide_eq_false (by omega)
  have HL := Lib.hid hl
  have HR := Lib.hid hr
  have HP := Lib.hid hp
  clear hl hr hp
  go_enter Try.func4, Try.ntmps4
  go_wp2_with fail
  refine (awake_any _).mono ?_
  rintro e w1 ⟨rfl, hb1⟩
  have HC : Hid (Blk w1 w.heap.size #[.int .u32 (r0 0), .int .u32 (r0 1), .int .u32 (r0 2), .int .u32 (r0 3), .int .u32 (r0 4), .int .u32 (r0 5), .int .u32 (r0 6), .int .u32 (r0 7)]) := (Blk.new w _ 24).below hb1
  have HB1 := Lib.hid (((Below.refl w.heap.size w).alloc (Nat.le_refl _) _).trans (hb1.mono (by simp)))
  clear hb1
  have c := HC.out.c
  go_wp2_with fail
  refine (core_call p len cap l ⟨r0, 0, false⟩ false w _ HL HR HP (HB1.out.alloc HB1.out.size _)).mono ?_
  rintro e w2 ⟨rfl, hb2⟩
  have HB2 : Hid (Below w.heap.size w w2) := (HB1.out.alloc HB1.out.size _).trans (hb2.mono (HB1.out.alloc HB1.out.size _).size)
  clear hb2
  go_wp2
  go_ret
  exact ⟨rfl, HB2.out⟩

theorem storeAny {w : World} {X : Nat} {r : Nat → Int} {pc : Int} {h : Bool} (x : Nat → Int) (px : Int) (hx : Bool) (hb : Blk w X #[.int .u32 (r 0), .int .u32 (r 1), .int .u32 (r 2), .int .u32 (r 3), .int .u32 (r 4), .int .u32 (r 5), .int .u32 (r 6), .int .u32 (r 7), .int .i64 pc, .bool h]) : Blk ((((((((((w.setCell ⟨X, 0, none⟩ (.int .u32 (x 0))).setCell ⟨X, 1, none⟩ (.int .u32 (x 1))).setCell ⟨X, 2, none⟩ (.int .u32 (x 2))).setCell ⟨X, 3, none⟩ (.int .u32 (x 3))).setCell ⟨X, 4, none⟩ (.int .u32 (x 4))).setCell ⟨X, 5, none⟩ (.int .u32 (x 5))).setCell ⟨X, 6, none⟩ (.int .u32 (x 6))).setCell ⟨X, 7, none⟩ (.int .u32 (x 7))).setCell ⟨X, 8, none⟩ (.int .i64 px)).setCell ⟨X, 9, none⟩ (.bool hx)) X #[.int .u32 (x 0), .int .u32 (x 1), .int .u32 (x 2), .int .u32 (x 3), .int .u32 (x 4), .int .u32 (x 5), .int .u32 (x 6), .int .u32 (x 7), .int .i64 px, .bool hx] :=
  (((((((((((hb.set _ (by simp)).set _ (by simp)).set _ (by simp)).set _ (by simp)).set _ (by simp)).set _ (by simp)).set _ (by simp)).set _ (by simp)).set _ (by simp)).set _ (by simp)).cast (by simp))
theorem storeZ {w : World} {X : Nat} {x : Nat → Int} {px : Int} {hx : Bool} (hb : Blk w X #[.int .u32 0, .int .u32 0, .int .u32 0, .int .u32 0, .int .u32 0, .int .u32 0, .int .u32 0, .int .u32 0, .int .i64 0, .bool false]) : Blk ((((((((((w.setCell ⟨X, 0, none⟩ (.int .u32 (x 0))).setCell ⟨X, 1, none⟩ (.int .u32 (x 1))).setCell ⟨X, 2, none⟩ (.int .u32 (x 2))).setCell ⟨X, 3, none⟩ (.int .u32 (x 3))).setCell ⟨X, 4, none⟩ (.int .u32 (x 4))).setCell ⟨X, 5, none⟩ (.int .u32 (x 5))).setCell ⟨X, 6, none⟩ (.int .u32 (x 6))).setCell ⟨X, 7, none⟩ (.int .u32 (x 7))).setCell ⟨X, 8, none⟩ (.int .i64 px)).setCell ⟨X, 9, none⟩ (.bool hx)) X #[.int .u32 (x 0), .int .u32 (x 1), .int .u32 (x 2), .int .u32 (x 3), .int .u32 (x 4), .int .u32 (x 5), .int .u32 (x 6), .int .u32 (x 7), .int .i64 px, .bool hx] = True := eq_true (storeAny (r := fun _ => 0) (pc := 0) (h := false) x px hx hb)
theorem otherX {w : World} {X Y : Nat} {cs : Array Value} {x : Nat → Int} {px : Int} {hx : Bool} (hne : X ≠ Y) (h : Blk w Y cs) : Blk ((((((((((w.setCell ⟨X, 0, none⟩ (.int .u32 (x 0))).setCell ⟨X, 1, none⟩ (.int .u32 (x 1))).setCell ⟨X, 2, none⟩ (.int .u32 (x 2))).setCell ⟨X, 3, none⟩ (.int .u32 (x 3))).setCell ⟨X, 4, none⟩ (.int .u32 (x 4))).setCell ⟨X, 5, none⟩ (.int .u32 (x 5))).setCell ⟨X, 6, none⟩ (.int .u32 (x 6))).setCell ⟨X, 7, none⟩ (.int .u32 (x 7))).setCell ⟨X, 8, none⟩ (.int .i64 px)).setCell ⟨X, 9, none⟩ (.bool hx)) Y cs = True :=
  eq_true ((((((((((h.other _ hne).other _ hne).other _ hne).other _ hne).other _ hne).other _ hne).other _ hne).other _ hne).other _ hne).other _ hne)

theorem sOf3 {W0 w' : World} {B b2 o2 : Nat} {cs : Array Value} {u : Value} (hB : Hid (Blk W0 B cs)) (hz : Hid (W0.cell? ⟨b2, o2, none⟩ = some u)) (hlt : Hid (b2 < W0.heap.size)) (hb : Below W0.heap.size W0 w') : (∀ j, w'.cell? ⟨B, j, none⟩ = cs[j]?) ∧ w'.cell? ⟨b2, o2, none⟩ = some u ∧ Below W0.heap.size W0 w' :=
  ⟨(hB.out.below hb).c, (hb.cell (p := ⟨b2, o2, none⟩) hlt.out).trans hz.out, hb⟩
theorem kdone (p : Option Addr) (len cap : Nat) (l : List I5) (r : Nat → Int) (pc : Int) (h : Bool) (v : Int) (x : Nat → Int) (px : Int) (hx : Bool) (B b2 o2 : Nat) (u : Value) (W0 W : World) (hl : Hid (l.length = len)) (hp : Hid (Prg W0 p l)) (hd : Hid (doneOf l ⟨r, pc, h⟩ v = ⟨x, px, hx⟩)) (hB : Hid (Blk W0 B #[.int .u32 (r 0), .int .u32 (r 1), .int .u32 (r 2), .int .u32 (r 3), .int .u32 (r 4), .int .u32 (r 5), .int .u32 (r 6), .int .u32 (r 7), .int .i64 pc, .bool h])) (hz : Hid (W0.cell? ⟨b2, o2, none⟩ = some u)) (hlt : Hid (b2 < W0.heap.size)) (hb : Below W0.heap.size W0 W) :
    Calls Try.prog 11 #[.slice p len cap, .agg #[.int .u32 (r 0), .int .u32 (r 1), .int .u32 (r 2), .int .u32 (r 3), .int .u32 (r 4), .int .u32 (r 5), .int .u32 (r 6), .int .u32 (r 7), .int .i64 pc, .bool h], .int .u32 v] W fun e w' => e = .returned (.agg #[.int .u32 (x 0), .int .u32 (x 1), .int .u32 (x 2), .int .u32 (x 3), .int .u32 (x 4), .int .u32 (x 5), .int .u32 (x 6), .int .u32 (x 7), .int .i64 px, .bool hx]) ∧ (∀ j, w'.cell? ⟨B, j, none⟩ = (#[.int .u32 (r 0), .int .u32 (r 1), .int .u32 (r 2), .int .u32 (r 3), .int .u32 (r 4), .int .u32 (r 5), .int .u32 (r 6), .int .u32 (r 7), .int .i64 pc, .bool h] : Array Value)[j]?) ∧ w'.cell? ⟨b2, o2, none⟩ = some u ∧ Below W0.heap.size W0 w' ∧ Below W.heap.size W w' := by
  have hh := done_any p cap l ⟨r, pc, h⟩ v W (hp.out.below hb)
  rw [hl.out, hd.out] at hh
  refine hh.mono fun e w' he => ?_
  have hb' := hb.trans (he.2.mono hb.size)
  have hs := sOf3 hB hz hlt hb'
  exact ⟨he.1, hs.1, hs.2.1, hb', he.2⟩
theorem restOf {w W0 wc : World} {B G : Nat} {cs ds : Array Value} (hB : Hid (Blk W0 B cs)) (hG : Hid (Blk W0 G ds)) (h0 : Hid (Below w.heap.size w W0)) (hb : Below W0.heap.size W0 wc) : Blk wc B cs ∧ Blk wc G ds ∧ Below w.heap.size w wc := ⟨hB.out.below hb, hG.out.below hb, h0.out.trans (hb.mono h0.out.size)⟩
theorem kwants (p : Option Addr) (len cap : Nat) (l : List I5) (r : Nat → Int) (pc : Int) (h : Bool) (m k q v o : Int) (w W : World) (hl : Hid (l.length = len)) (hp : Hid (Prg w p l)) (hd : Hid (wantOf l ⟨r, pc, h⟩ m = ⟨k, q, v, o⟩)) (hf : Hid ((⟨r, pc, h⟩ : Cor).Fits)) (hm : m ≤ 64) (hb : Below w.heap.size w W) :
    Calls Try.prog 9 #[.slice p len cap, .agg #[.int .u32 (r 0), .int .u32 (r 1), .int .u32 (r 2), .int .u32 (r 3), .int .u32 (r 4), .int .u32 (r 5), .int .u32 (r 6), .int .u32 (r 7), .int .i64 pc, .bool h], .int .i64 m] W fun e w' => e = .returned (.agg #[.int .i64 k, .int .i64 q, .int .u32 v, .int .u32 o]) ∧ Below W.heap.size W w' := by
  have hh := wants_any p cap l ⟨r, pc, h⟩ m W (hp.out.below hb) hf.out (by omega)
  rw [hl.out, hd.out] at hh
  exact hh

theorem sOf4 {W0 w' : World} {B G : Nat} {cs ds : Array Value} (hB : Hid (Blk W0 B cs)) (hG : Hid (Blk W0 G ds)) (hb : Below W0.heap.size W0 w') : (∀ j, w'.cell? ⟨B, j, none⟩ = cs[j]?) ∧ (∀ j, w'.cell? ⟨G, j, none⟩ = ds[j]?) ∧ Below W0.heap.size W0 w' := ⟨(hB.out.below hb).c, (hG.out.below hb).c, hb⟩
theorem kwants4 (p : Option Addr) (len cap : Nat) (l : List I5) (x : Nat → Int) (px : Int) (m q v o : Int) (D G : Nat) (W0 W : World) (hl : Hid (l.length = len)) (hp : Hid (Prg W0 p l)) (hd : Hid (wantOf l ⟨x, px, true⟩ m = ⟨5, q, v, o⟩)) (hf : Hid ((⟨x, px, true⟩ : Cor).Fits)) (hm : m ≤ 64) (hB : Hid (Blk W0 D #[.int .u32 (x 0), .int .u32 (x 1), .int .u32 (x 2), .int .u32 (x 3), .int .u32 (x 4), .int .u32 (x 5), .int .u32 (x 6), .int .u32 (x 7), .int .i64 px, .bool true])) (hG : Hid (Blk W0 G #[.int .i64 5, .int .i64 q, .int .u32 v, .int .u32 o])) (hb : Below W0.heap.size W0 W) :
    Calls Try.prog 9 #[.slice p len cap, .agg #[.int .u32 (x 0), .int .u32 (x 1), .int .u32 (x 2), .int .u32 (x 3), .int .u32 (x 4), .int .u32 (x 5), .int .u32 (x 6), .int .u32 (x 7), .int .i64 px, .bool true], .int .i64 m] W fun e w' => e = .returned (.agg #[.int .i64 5, .int .i64 q, .int .u32 v, .int .u32 o]) ∧ (∀ j, w'.cell? ⟨D, j, none⟩ = (#[.int .u32 (x 0), .int .u32 (x 1), .int .u32 (x 2), .int .u32 (x 3), .int .u32 (x 4), .int .u32 (x 5), .int .u32 (x 6), .int .u32 (x 7), .int .i64 px, .bool true] : Array Value)[j]?) ∧ (∀ j, w'.cell? ⟨G, j, none⟩ = (#[.int .i64 5, .int .i64 q, .int .u32 v, .int .u32 o] : Array Value)[j]?) ∧ Below W0.heap.size W0 w' := by
  have hh := wants_any p cap l ⟨x, px, true⟩ m W (hp.out.below hb) hf.out (by omega)
  rw [hl.out, hd.out] at hh
  refine hh.mono fun e w' he => ⟨he.1, sOf4 hB hG (hb.trans (he.2.mono hb.size))⟩
theorem sOf5 {W0 w' : World} {A B G : Nat} {es cs ds : Array Value} (hA : Hid (Blk W0 A es)) (hB : Hid (Blk W0 B cs)) (hG : Hid (Blk W0 G ds)) (hb : Below W0.heap.size W0 w') : (∀ j, w'.cell? ⟨A, j, none⟩ = es[j]?) ∧ (∀ j, w'.cell? ⟨B, j, none⟩ = cs[j]?) ∧ (∀ j, w'.cell? ⟨G, j, none⟩ = ds[j]?) ∧ Below W0.heap.size W0 w' := ⟨(hA.out.below hb).c, (hB.out.below hb).c, (hG.out.below hb).c, hb⟩
theorem kdone5 (p : Option Addr) (len cap : Nat) (l : List I5) (r : Nat → Int) (pc : Int) (h : Bool) (x : Nat → Int) (px : Int) (hx : Bool) (D B G : Nat) (gs : Array Value) (W0 W : World) (hl : Hid (l.length = len)) (hp : Hid (Prg W0 p l)) (hd : Hid (doneOf l ⟨r, pc, h⟩ 0 = ⟨x, px, hx⟩)) (hA : Hid (Blk W0 D #[.int .u32 (x 0), .int .u32 (x 1), .int .u32 (x 2), .int .u32 (x 3), .int .u32 (x 4), .int .u32 (x 5), .int .u32 (x 6), .int .u32 (x 7), .int .i64 px, .bool hx])) (hB : Hid (Blk W0 B #[.int .u32 (r 0), .int .u32 (r 1), .int .u32 (r 2), .int .u32 (r 3), .int .u32 (r 4), .int .u32 (r 5), .int .u32 (r 6), .int .u32 (r 7), .int .i64 pc, .bool h])) (hG : Hid (Blk W0 G gs)) (hb : Below W0.heap.size W0 W) :
    Calls Try.prog 11 #[.slice p len cap, .agg #[.int .u32 (r 0), .int .u32 (r 1), .int .u32 (r 2), .int .u32 (r 3), .int .u32 (r 4), .int .u32 (r 5), .int .u32 (r 6), .int .u32 (r 7), .int .i64 pc, .bool h], .int .u32 0] W fun e w' => e = .returned (.agg #[.int .u32 (x 0), .int .u32 (x 1), .int .u32 (x 2), .int .u32 (x 3), .int .u32 (x 4), .int .u32 (x 5), .int .u32 (x 6), .int .u32 (x 7), .int .i64 px, .bool hx]) ∧ (∀ j, w'.cell? ⟨D, j, none⟩ = (#[.int .u32 (x 0), .int .u32 (x 1), .int .u32 (x 2), .int .u32 (x 3), .int .u32 (x 4), .int .u32 (x 5), .int .u32 (x 6), .int .u32 (x 7), .int .i64 px, .bool hx] : Array Value)[j]?) ∧ (∀ j, w'.cell? ⟨B, j, none⟩ = (#[.int .u32 (r 0), .int .u32 (r 1), .int .u32 (r 2), .int .u32 (r 3), .int .u32 (r 4), .int .u32 (r 5), .int .u32 (r 6), .int .u32 (r 7), .int .i64 pc, .bool h] : Array Value)[j]?) ∧ (∀ j, w'.cell? ⟨G, j, none⟩ = gs[j]?) ∧ Below W0.heap.size W0 w' := by
  have hh := done_any p cap l ⟨r, pc, h⟩ 0 W (hp.out.below hb)
  rw [hl.out, hd.out] at hh
  refine hh.mono fun e w' he => ⟨he.1, sOf5 hA hB hG (hb.trans (he.2.mono hb.size))⟩
theorem keep4 {w W0 wc : World} {D B G : Nat} {es cs ds : Array Value} (hA : Hid (Blk W0 D es)) (hB : Hid (Blk W0 B cs)) (hG : Hid (Blk W0 G ds)) (h0 : Hid (Below w.heap.size w W0)) (hb : Below W0.heap.size W0 wc) : Blk wc D es ∧ Blk wc B cs ∧ Blk wc G ds ∧ Below w.heap.size w wc := ⟨hA.out.below hb, hB.out.below hb, hG.out.below hb, h0.out.trans (hb.mono h0.out.size)⟩
end Go.Proofs.Ytdebkncjmbhneaa.coreOrder
