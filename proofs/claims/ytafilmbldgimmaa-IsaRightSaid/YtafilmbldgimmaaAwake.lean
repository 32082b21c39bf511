/- The fixed answers that each statement of layer 2 begins with: they are given, and nothing that was there is written. -/
import Derived.Test.YtafilmbldgimmaaAll
namespace Go.Proofs.Ytafilmbldgimmaa
open Go.ChangeShapes Go.WideShapes Go.ChangeAt Go.RowKit

def i1 : I5 := ⟨1, 0, 0, 0, 7⟩
def i2 : I5 := ⟨15, 0, 0, 0, 0⟩
def i3 : I5 := ⟨16, 0, 0, 0, 0⟩
def row15 : Array Value := #[.int .i64 1, .int .i64 0, .int .i64 0, .int .i64 0, .int .u32 7, .int .i64 15, .int .i64 0, .int .i64 0, .int .i64 0, .int .u32 0, .int .i64 16, .int .i64 0, .int .i64 0, .int .i64 0, .int .u32 0]

/-- Block b holds the three instructions. -/
def Three (w : World) (b : Nat) : Prop := b < w.heap.size ∧ ∀ j, w.cell? ⟨b, j, none⟩ = row15[j]?
theorem Three.new (w : World) (t : TypeId) : Three (w.alloc (.cells row15 t)) w.heap.size := ⟨by simp, fun j => World.cell?_alloc_new w row15 t j⟩
theorem Three.below {w w' : World} {b : Nat} (h : Three w b) (hb : Below w.heap.size w w') : Three w' b :=
  ⟨Nat.lt_of_lt_of_le h.1 hb.size, fun j => (hb.cell (p := ⟨b, j, none⟩) h.1).trans (h.2 j)⟩
theorem Three.lies0 {w : World} {b : Nat} (h : Three w b) : Lies w b 0 i1 := ⟨h.2 0, h.2 1, h.2 2, h.2 3, h.2 4, by decide, by decide⟩
theorem Three.lies1 {w : World} {b : Nat} (h : Three w b) : Lies w b 5 i2 := ⟨h.2 5, h.2 6, h.2 7, h.2 8, h.2 9, by decide, by decide⟩
theorem Three.lies2 {w : World} {b : Nat} (h : Three w b) : Lies w b 10 i3 := ⟨h.2 10, h.2 11, h.2 12, h.2 13, h.2 14, by decide, by decide⟩
theorem Three.prg {w : World} {b : Nat} (h : Three w b) : Prg w (some ⟨b, 0, none⟩) [i1, i2, i3] := fun _ => ⟨b, 0, h.1, rfl, fun i hi => by
  match i, hi with
  | 0, _ => exact h.lies0
  | 1, _ => exact h.lies1
  | 2, _ => exact h.lies2⟩
theorem Three.prg2 {w : World} {b : Nat} (h : Three w b) : Prg w (some ⟨b, 0, none⟩) [i1, i2] := fun _ => ⟨b, 0, h.1, rfl, fun i hi => by
  match i, hi with
  | 0, _ => exact h.lies0
  | 1, _ => exact h.lies1⟩
theorem Three.right {w : World} {b : Nat} (h : Three w b) (cap : Nat) :
    Calls Try.prog 8 #[.slice (some ⟨b, 0, none⟩) 3 cap] w fun e w' => e = .returned (.bool true) ∧ Below w.heap.size w w' := right_any _ cap _ w h.prg
theorem Three.right2 {w : World} {b : Nat} (h : Three w b) (cap : Nat) :
    Calls Try.prog 8 #[.slice (some ⟨b, 0, none⟩) 2 cap] w fun e w' => e = .returned (.bool false) ∧ Below w.heap.size w w' := right_any _ cap _ w h.prg2
theorem Three.all {w : World} {b : Nat} (h : Three w b) (cap : Nat) (t : TypeId) :
    Calls Try.prog 12 #[.slice (some ⟨w.heap.size, 0, none⟩) 1 1] (w.alloc (.cells #[.slice (some ⟨b, 0, none⟩) 3 cap] t)) fun e w' => e = .returned (.bool true) ∧ Below w.heap.size w w' := by
  have hb : Below w.heap.size w (w.alloc (.cells #[.slice (some ⟨b, 0, none⟩) 3 cap] t)) := (Below.refl _ _).alloc (Nat.le_refl _) _
  refine (all_any _ 1 [[i1, i2, i3]] _ (fun _ => ⟨w.heap.size, 0, by simp, rfl, fun i hi => ?_⟩)).mono ?_
  · match i, hi with
    | 0, _ => exact ⟨_, cap, World.cell?_alloc_new w _ t 0, (h.below hb).prg⟩
  · intro e w' he
    exact ⟨he.1, hb.trans (he.2.mono hb.size)⟩
theorem Three.may {w : World} {b : Nat} (_h : Three w b) :
    Calls Try.prog 10 #[.agg #[.int .i64 1, .int .i64 0, .int .i64 0, .int .i64 0, .int .u32 7], .int .i64 1] w fun e w' => e = .returned (.bool true) ∧ Below w.heap.size w w' := may_any i1 1 w (by decide) (by decide)
theorem uses9 (w : World) : Calls Try.prog 14 #[.int .i64 9] w fun e w' => e = .returned (.tuple #[.bool true, .bool true, .bool false, .bool false]) ∧ w = w' := uses_any 9 w

set_option maxHeartbeats 400000 in
theorem awake_any (w : World) : Calls Try.prog 6 #[] w fun e w' => e = .returned (.bool true) ∧ Below w.heap.size w w' := by
  go_enter Try.func6, Try.ntmps6
  go_wp2_with fail
  refine (uses9 _).mono ?_
  rintro e w' ⟨rfl, rfl⟩
  go_wp2_with fail
  have H1 : Hid (Three (w.alloc (.cells row15 24)) w.heap.size) := Three.new w 24
  refine (Three.right H1.out _).mono ?_
  rintro e w2 ⟨rfl, hb2⟩
  have HB2 : Hid (Below w.heap.size w w2) := ((Below.refl _ _).alloc (Nat.le_refl _) _).trans (hb2.mono (by simp))
  have H2 : Hid (Three w2 w.heap.size) := H1.out.below hb2
  clear H1 hb2
  go_wp2_with fail
  refine (Three.right2 H2.out _).mono ?_
  rintro e w3 ⟨rfl, hb3⟩
  have HB3 : Hid (Below w.heap.size w w3) := HB2.out.trans (hb3.mono HB2.out.size)
  have H3 : Hid (Three w3 w.heap.size) := H2.out.below hb3
  clear HB2 H2 hb3
  go_wp2_with fail
  refine (Three.all H3.out _ _).mono ?_
  rintro e w4 ⟨rfl, hb4⟩
  have HB4 : Hid (Below w.heap.size w w4) := HB3.out.trans (hb4.mono HB3.out.size)
  have H4 : Hid (Three w4 w.heap.size) := H3.out.below hb4
  clear HB3 H3 hb4
  obtain ⟨c0, c1, c2, c3, c4, _, _⟩ := H4.out.lies0
  go_wp2_with fail
  refine (Three.may H4.out).mono ?_
  rintro e w5 ⟨rfl, hb5⟩
  have HB5 : Hid (Below w.heap.size w w5) := HB4.out.trans (hb5.mono HB4.out.size)
  clear hb5 c0 c1 c2 c3 c4
  go_wp2
  go_ret
  exact ⟨rfl, HB5.out⟩
end Go.Proofs.Ytafilmbldgimmaa
