/- The fixed answers that each statement of layer 3 begins with: they are given, and nothing that was there is written. -/
import Derived.Test.YtdebkncjmbhneaaCoreF
namespace Go.Proofs.Ytdebkncjmbhneaa
set_option linter.unusedVariables false
open Go.ChangeShapes Go.WideShapes Go.ChangeAt Go.RowKit

def iLoad : I5 := ⟨9, 1, 0, 0, 0⟩
def iHalt : I5 := ⟨16, 0, 0, 0, 0⟩
def rowTwo : Array Value := #[.int .i64 9, .int .i64 1, .int .i64 0, .int .i64 0, .int .u32 0, .int .i64 16, .int .i64 0, .int .i64 0, .int .i64 0, .int .u32 0]
def c70 : Cor := ⟨fun i => if i = 0 then 70 else 0, 0, false⟩
def d70 : Cor := ⟨fun i => if i = 1 then 9 else if i = 0 then 70 else 0, 1, false⟩
theorem c70_fits : c70.Fits := ⟨fun i _ => by unfold c70; simp only; split <;> omega, fun i _ => by unfold c70; simp only; split <;> omega⟩
theorem d70_fits : d70.Fits := ⟨fun i _ => by unfold d70; simp only; split <;> (try split) <;> omega, fun i _ => by unfold d70; simp only; split <;> (try split) <;> omega⟩

/-- Block b holds the two instructions. -/
def Two (w : World) (b : Nat) : Prop := b < w.heap.size ∧ ∀ j, w.cell? ⟨b, j, none⟩ = rowTwo[j]?
theorem Two.new (w : World) (t : TypeId) : Two (w.alloc (.cells rowTwo t)) w.heap.size := ⟨by simp, fun j => World.cell?_alloc_new w rowTwo t j⟩
theorem Two.below {w w' : World} {b : Nat} (h : Two w b) (hb : Below w.heap.size w w') : Two w' b :=
  ⟨Nat.lt_of_lt_of_le h.1 hb.size, fun j => (hb.cell (p := ⟨b, j, none⟩) h.1).trans (h.2 j)⟩
theorem Two.prg {w : World} {b : Nat} (h : Two w b) : Prg w (some ⟨b, 0, none⟩) [iLoad, iHalt] := fun _ => ⟨b, 0, h.1, rfl, fun i hi => by
  match i, hi with
  | 0, _ => exact ⟨h.2 0, h.2 1, h.2 2, h.2 3, h.2 4, by decide, by decide⟩
  | 1, _ => exact ⟨h.2 5, h.2 6, h.2 7, h.2 8, h.2 9, by decide, by decide⟩⟩

theorem two_right : rightB [iLoad, iHalt] = true := by decide
theorem Two.done {w : World} {b : Nat} (h : Two w b) (cap : Nat) :
    Calls Try.prog 11 #[.slice (some ⟨b, 0, none⟩) 2 cap, .agg #[.int .u32 70, .int .u32 0, .int .u32 0, .int .u32 0, .int .u32 0, .int .u32 0, .int .u32 0, .int .u32 0, .int .i64 0, .bool false], .int .u32 9] w
      fun e w' => e = .returned (.agg #[.int .u32 70, .int .u32 9, .int .u32 0, .int .u32 0, .int .u32 0, .int .u32 0, .int .u32 0, .int .u32 0, .int .i64 1, .bool false]) ∧ Below w.heap.size w w' :=
  (done_any _ cap [iLoad, iHalt] c70 9 w h.prg).mono fun e w' he => ⟨he.1.trans rfl, he.2⟩
theorem Two.right {w : World} {b : Nat} (h : Two w b) (cap : Nat) :
    Calls Try.prog 7 #[.slice (some ⟨b, 0, none⟩) 2 cap, .agg #[.int .u32 70, .int .u32 0, .int .u32 0, .int .u32 0, .int .u32 0, .int .u32 0, .int .u32 0, .int .u32 0, .int .i64 0, .bool false]] w
      fun e w' => e = .returned (.bool true) ∧ Below w.heap.size w w' :=
  (coreRight_any _ cap [iLoad, iHalt] c70 w h.prg).mono fun e w' he => ⟨he.1.trans rfl, he.2⟩
theorem Two.wants {w : World} {b : Nat} (h : Two w b) (cap : Nat) :
    Calls Try.prog 9 #[.slice (some ⟨b, 0, none⟩) 2 cap, .agg #[.int .u32 70, .int .u32 0, .int .u32 0, .int .u32 0, .int .u32 0, .int .u32 0, .int .u32 0, .int .u32 0, .int .i64 0, .bool false], .int .i64 64] w
      fun e w' => e = .returned (.agg #[.int .i64 1, .int .i64 6, .int .u32 0, .int .u32 0]) ∧ Below w.heap.size w w' :=
  (wants_any _ cap [iLoad, iHalt] c70 64 w h.prg c70_fits (by decide)).mono fun e w' he => ⟨he.1.trans rfl, he.2⟩
theorem Two.rests {w : World} {b : Nat} (h : Two w b) (cap : Nat) :
    Calls Try.prog 9 #[.slice (some ⟨b, 0, none⟩) 2 cap, .agg #[.int .u32 70, .int .u32 9, .int .u32 0, .int .u32 0, .int .u32 0, .int .u32 0, .int .u32 0, .int .u32 0, .int .i64 1, .bool false], .int .i64 64] w
      fun e w' => e = .returned (.agg #[.int .i64 5, .int .i64 0, .int .u32 0, .int .u32 0]) ∧ Below w.heap.size w w' :=
  (wants_any _ cap [iLoad, iHalt] d70 64 w h.prg d70_fits (by decide)).mono fun e w' he => ⟨he.1.trans rfl, he.2⟩

/-- What stays from call to call: the program's block B, the core's behind it. -/
structure Aw (w : World) (B : Nat) (w' : World) : Prop where
  t : Two w' B
  c : ∀ j, w'.cell? ⟨B + 1, j, none⟩ = c70.row[j]?
  s : B + 1 < w'.heap.size
  b : Below B w w'
theorem Aw.below {w w' w2 : World} {B : Nat} (h : Aw w B w') (hb : Below w'.heap.size w' w2) : Aw w B w2 :=
  ⟨h.t.below hb, fun j => (hb.cell (p := ⟨B + 1, j, none⟩) h.s).trans (h.c j), Nat.lt_of_lt_of_le h.s hb.size, h.b.trans (hb.mono (by have := h.s; omega))⟩
theorem Aw.new (w : World) (t : TypeId) : Aw w w.heap.size ((w.alloc (.cells rowTwo t)).alloc (.cells c70.row 26)) := by
  obtain ⟨a, b, d, e, f, g, h⟩ := two_boxes (w := w) (cs := rowTwo) (ds := c70.row) (t := t) (u := 26) (Below.refl _ _)
  exact ⟨⟨f, a⟩, b, g, h⟩
/-- A new block of ten cells stays, too. -/
def Has10 (w : World) (B : Nat) (cs : Array Value) : Prop := B < w.heap.size ∧ ∀ j, w.cell? ⟨B, j, none⟩ = cs[j]?
theorem Has10.new (w : World) (cs : Array Value) (t : TypeId) : Has10 (w.alloc (.cells cs t)) w.heap.size cs := ⟨by simp, fun j => World.cell?_alloc_new w cs t j⟩
theorem Has10.below {w w' : World} {B : Nat} {cs : Array Value} (h : Has10 w B cs) (hb : Below w.heap.size w w') : Has10 w' B cs :=
  ⟨Nat.lt_of_lt_of_le h.1 hb.size, fun j => (hb.cell (p := ⟨B, j, none⟩) h.1).trans (h.2 j)⟩

set_option maxHeartbeats 1000000 in
theorem awake_any (w : World) : Calls Try.prog 6 #[] w fun e w' => e = .returned (.bool true) ∧ Below w.heap.size w w' := by
  go_enter Try.func6, Try.ntmps6
  go_wp2_with fail
  have H0 : Hid (Aw w w.heap.size ((w.alloc (.cells rowTwo 38)).alloc (.cells c70.row 26))) := Aw.new w 38
  refine (Two.done (w := (w.alloc (.cells rowTwo 38)).alloc (.cells c70.row 26)) H0.out.t _).mono ?_
  rintro e w1 ⟨rfl, hb1⟩
  have H1 : Hid (Aw w w.heap.size w1) := H0.out.below hb1
  clear hb1 H0
  have c0 : w1.cell? ⟨w.heap.size + 1, 0, none⟩ = some (.int .u32 70) := H1.out.c 0
  have c1 : w1.cell? ⟨w.heap.size + 1, 1, none⟩ = some (.int .u32 0) := H1.out.c 1
  have c2 : w1.cell? ⟨w.heap.size + 1, 2, none⟩ = some (.int .u32 0) := H1.out.c 2
  have c3 : w1.cell? ⟨w.heap.size + 1, 3, none⟩ = some (.int .u32 0) := H1.out.c 3
  have c4 : w1.cell? ⟨w.heap.size + 1, 4, none⟩ = some (.int .u32 0) := H1.out.c 4
  have c5 : w1.cell? ⟨w.heap.size + 1, 5, none⟩ = some (.int .u32 0) := H1.out.c 5
  have c6 : w1.cell? ⟨w.heap.size + 1, 6, none⟩ = some (.int .u32 0) := H1.out.c 6
  have c7 : w1.cell? ⟨w.heap.size + 1, 7, none⟩ = some (.int .u32 0) := H1.out.c 7
  have c8 : w1.cell? ⟨w.heap.size + 1, 8, none⟩ = some (.int .i64 0) := H1.out.c 8
  have c9 : w1.cell? ⟨w.heap.size + 1, 9, none⟩ = some (.bool false) := H1.out.c 9
  have s1 : w.heap.size + 1 < w1.heap.size := H1.out.s
  go_wp2_with fail
  have H2 : Hid (Aw w w.heap.size (w1.alloc (.cells d70.row 26))) := H1.out.below ((Below.refl _ _).alloc (Nat.le_refl _) _)
  have D2 : Hid (Has10 (w1.alloc (.cells d70.row 26)) w1.heap.size d70.row) := Has10.new w1 d70.row 26
  refine (Two.right (w := w1.alloc (.cells d70.row 26)) H2.out.t _).mono ?_
  rintro e w2 ⟨rfl, hb2⟩
  have H3 : Hid (Aw w w.heap.size w2) := H2.out.below hb2
  have D3 : Hid (Has10 w2 w1.heap.size d70.row) := D2.out.below hb2
  clear hb2 H2 D2 H1
  clear c0 c1 c2 c3 c4 c5 c6 c7 c8 c9
  have c0 : w2.cell? ⟨w.heap.size + 1, 0, none⟩ = some (.int .u32 70) := H3.out.c 0
  have c1 : w2.cell? ⟨w.heap.size + 1, 1, none⟩ = some (.int .u32 0) := H3.out.c 1
  have c2 : w2.cell? ⟨w.heap.size + 1, 2, none⟩ = some (.int .u32 0) := H3.out.c 2
  have c3 : w2.cell? ⟨w.heap.size + 1, 3, none⟩ = some (.int .u32 0) := H3.out.c 3
  have c4 : w2.cell? ⟨w.heap.size + 1, 4, none⟩ = some (.int .u32 0) := H3.out.c 4
  have c5 : w2.cell? ⟨w.heap.size + 1, 5, none⟩ = some (.int .u32 0) := H3.out.c 5
  have c6 : w2.cell? ⟨w.heap.size + 1, 6, none⟩ = some (.int .u32 0) := H3.out.c 6
  have c7 : w2.cell? ⟨w.heap.size + 1, 7, none⟩ = some (.int .u32 0) := H3.out.c 7
  have c8 : w2.cell? ⟨w.heap.size + 1, 8, none⟩ = some (.int .i64 0) := H3.out.c 8
  have c9 : w2.cell? ⟨w.heap.size + 1, 9, none⟩ = some (.bool false) := H3.out.c 9
  go_wp2_with fail
  refine (Two.wants (w := w2) H3.out.t _).mono ?_
  rintro e w3 ⟨rfl, hb3⟩
  have H4 : Hid (Aw w w.heap.size w3) := H3.out.below hb3
  have D4 : Hid (Has10 w3 w1.heap.size d70.row) := D3.out.below hb3
  clear hb3 H3 D3
  clear c0 c1 c2 c3 c4 c5 c6 c7 c8 c9
  have d0 : w3.cell? ⟨w1.heap.size, 0, none⟩ = some (.int .u32 70) := D4.out.2 0
  have d1 : w3.cell? ⟨w1.heap.size, 1, none⟩ = some (.int .u32 9) := D4.out.2 1
  have d2 : w3.cell? ⟨w1.heap.size, 2, none⟩ = some (.int .u32 0) := D4.out.2 2
  have d3 : w3.cell? ⟨w1.heap.size, 3, none⟩ = some (.int .u32 0) := D4.out.2 3
  have d4 : w3.cell? ⟨w1.heap.size, 4, none⟩ = some (.int .u32 0) := D4.out.2 4
  have d5 : w3.cell? ⟨w1.heap.size, 5, none⟩ = some (.int .u32 0) := D4.out.2 5
  have d6 : w3.cell? ⟨w1.heap.size, 6, none⟩ = some (.int .u32 0) := D4.out.2 6
  have d7 : w3.cell? ⟨w1.heap.size, 7, none⟩ = some (.int .u32 0) := D4.out.2 7
  have d8 : w3.cell? ⟨w1.heap.size, 8, none⟩ = some (.int .i64 1) := D4.out.2 8
  have d9 : w3.cell? ⟨w1.heap.size, 9, none⟩ = some (.bool false) := D4.out.2 9
  go_wp2_with fail
  refine (Two.rests (w := w3) H4.out.t _).mono ?_
  rintro e w4 ⟨rfl, hb4⟩
  have H5 : Hid (Aw w w.heap.size w4) := H4.out.below hb4
  clear hb4 H4 D4
  clear d0 d1 d2 d3 d4 d5 d6 d7 d8 d9
  have hf : ∀ w, (Instr.field 30 (.agg #[.int .i64 5, .int .i64 0, .int .u32 0, .int .u32 0]) 0).run Try.prog w = .ok (.int .i64 5) w := fun _ => by kernel_rfl
  go_wp2
  go_ret
  exact ⟨rfl, H5.out.b⟩
end Go.Proofs.Ytdebkncjmbhneaa
