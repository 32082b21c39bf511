/- Slices of one element that are laid in memory: the operation's own law, whatever the frame. -/
import Derived.Test.YtpmheaeiemnjeaaPoolY
import Derived.Test.YtpmheaeiemnjeaaPoolQ
namespace Go.Proofs.Ytpmheaeiemnjeaa
set_option linter.unusedVariables false
open Go.ChangeShapes Go.WideShapes Go.ChangeAt Go.RowKit

theorem build48_run (ρ : Operand → Value) (w : World) (dst : Option Tmp) (x : Operand) (ty : TypeId) (pos : String) (after : Array Edge) (guard : Option (Nat × Bool)) (mk mf mt ml mo ma : Int) (mown : Bool) (mn mv : Nat) (h : ρ x = .agg #[.int .i64 mk, .int .i64 mf, .int .i64 mt, .int .i64 ml, .int .i64 mo, .int .i64 ma, .bool mown, .int .u32 mn, .int .u32 mv]) :
    (execOp ρ { dst, op := .buildSlice 48 1 #[(0, x)], type := ty, pos, after, guard }).run Try.prog w = .ok (.value (.slice (some ⟨w.heap.size, 0, none⟩) 1 1)) (w.alloc (.cells #[.int .i64 mk, .int .i64 mf, .int .i64 mt, .int .i64 ml, .int .i64 mo, .int .i64 ma, .bool mown, .int .u32 mn, .int .u32 mv] 27)) := by
  go_simp
theorem build49_run (ρ : Operand → Value) (w : World) (dst : Option Tmp) (x : Operand) (ty : TypeId) (pos : String) (after : Array Edge) (guard : Option (Nat × Bool)) (z0 z1 z2 z3 z4 z5 z6 z7 z8 z9 z10 z11 z12 z13 z14 z15 z16 z17 z18 : Nat) (h : ρ x = .agg #[.int .u8 (z0 : Int), .int .u8 (z1 : Int), .int .u8 (z2 : Int), .int .u8 (z3 : Int), .int .u8 (z4 : Int), .int .u8 (z5 : Int), .int .u8 (z6 : Int), .int .u8 (z7 : Int), .int .u8 (z8 : Int), .int .u8 (z9 : Int), .int .u8 (z10 : Int), .int .u8 (z11 : Int), .int .u8 (z12 : Int), .int .u8 (z13 : Int), .int .u8 (z14 : Int), .int .u8 (z15 : Int), .int .u8 (z16 : Int), .int .u8 (z17 : Int), .int .u8 (z18 : Int)]) :
    (execOp ρ { dst, op := .buildSlice 49 1 #[(0, x)], type := ty, pos, after, guard }).run Try.prog w = .ok (.value (.slice (some ⟨w.heap.size, 0, none⟩) 1 1)) (w.alloc (.cells #[.int .u8 (z0 : Int), .int .u8 (z1 : Int), .int .u8 (z2 : Int), .int .u8 (z3 : Int), .int .u8 (z4 : Int), .int .u8 (z5 : Int), .int .u8 (z6 : Int), .int .u8 (z7 : Int), .int .u8 (z8 : Int), .int .u8 (z9 : Int), .int .u8 (z10 : Int), .int .u8 (z11 : Int), .int .u8 (z12 : Int), .int .u8 (z13 : Int), .int .u8 (z14 : Int), .int .u8 (z15 : Int), .int .u8 (z16 : Int), .int .u8 (z17 : Int), .int .u8 (z18 : Int)] 53)) := by
  go_simp
section
variable {ops : Array Oper} {rest : List Oper} {a : Act} {w : World} {Q : Exit → Act → World → Prop} {dst : Option Tmp} {x : Operand} {ty : TypeId} {pos : String} {after : Array Edge}
theorem wpList_build48 (mk mf mt ml mo ma : Int) (mown : Bool) (mn mv : Nat) (hx : a.eval x = .agg #[.int .i64 mk, .int .i64 mf, .int .i64 mt, .int .i64 ml, .int .i64 mo, .int .i64 ma, .bool mown, .int .u32 mn, .int .u32 mv])
    (h : wpList Try.prog ops Q rest (a.put dst (.slice (some ⟨w.heap.size, 0, none⟩) 1 1)) (w.alloc (.cells #[.int .i64 mk, .int .i64 mf, .int .i64 mt, .int .i64 ml, .int .i64 mo, .int .i64 ma, .bool mown, .int .u32 mn, .int .u32 mv] 27))) :
    wpList Try.prog ops Q ({ dst, op := .buildSlice 48 1 #[(0, x)], type := ty, pos, after, guard := none } :: rest) a w :=
  wpList_plain rfl fun K hK => by
    unfold Oper.wp
    rw [build48_run a.eval w dst x ty pos after none mk mf mt ml mo ma mown mn mv hx]
    exact hK _ _ h
theorem wpList_build49 (z0 z1 z2 z3 z4 z5 z6 z7 z8 z9 z10 z11 z12 z13 z14 z15 z16 z17 z18 : Nat) (hx : a.eval x = .agg #[.int .u8 (z0 : Int), .int .u8 (z1 : Int), .int .u8 (z2 : Int), .int .u8 (z3 : Int), .int .u8 (z4 : Int), .int .u8 (z5 : Int), .int .u8 (z6 : Int), .int .u8 (z7 : Int), .int .u8 (z8 : Int), .int .u8 (z9 : Int), .int .u8 (z10 : Int), .int .u8 (z11 : Int), .int .u8 (z12 : Int), .int .u8 (z13 : Int), .int .u8 (z14 : Int), .int .u8 (z15 : Int), .int .u8 (z16 : Int), .int .u8 (z17 : Int), .int .u8 (z18 : Int)])
    (h : wpList Try.prog ops Q rest (a.put dst (.slice (some ⟨w.heap.size, 0, none⟩) 1 1)) (w.alloc (.cells #[.int .u8 (z0 : Int), .int .u8 (z1 : Int), .int .u8 (z2 : Int), .int .u8 (z3 : Int), .int .u8 (z4 : Int), .int .u8 (z5 : Int), .int .u8 (z6 : Int), .int .u8 (z7 : Int), .int .u8 (z8 : Int), .int .u8 (z9 : Int), .int .u8 (z10 : Int), .int .u8 (z11 : Int), .int .u8 (z12 : Int), .int .u8 (z13 : Int), .int .u8 (z14 : Int), .int .u8 (z15 : Int), .int .u8 (z16 : Int), .int .u8 (z17 : Int), .int .u8 (z18 : Int)] 53))) :
    wpList Try.prog ops Q ({ dst, op := .buildSlice 49 1 #[(0, x)], type := ty, pos, after, guard := none } :: rest) a w :=
  wpList_plain rfl fun K hK => by
    unfold Oper.wp
    rw [build49_run a.eval w dst x ty pos after none z0 z1 z2 z3 z4 z5 z6 z7 z8 z9 z10 z11 z12 z13 z14 z15 z16 z17 z18 hx]
    exact hK _ _ h
end
end Go.Proofs.Ytpmheaeiemnjeaa
