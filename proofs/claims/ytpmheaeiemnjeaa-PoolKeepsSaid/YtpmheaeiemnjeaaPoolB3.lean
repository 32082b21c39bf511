/- More operations' own laws, whatever the frame: empty slices, a byte's bits. -/
import Derived.Test.YtpmheaeiemnjeaaPoolB2
namespace Go.Proofs.Ytpmheaeiemnjeaa
set_option linter.unusedVariables false
open Go.ChangeShapes Go.WideShapes Go.ChangeAt Go.RowKit

theorem build480_run (ρ : Operand → Value) (w : World) (dst : Option Tmp) (ty : TypeId) (pos : String) (after : Array Edge) (guard : Option (Nat × Bool)) :
    (execOp ρ { dst, op := .buildSlice 48 0 #[], type := ty, pos, after, guard }).run Try.prog w = .ok (.value (.slice (some ⟨w.heap.size, 0, none⟩) 0 0)) (w.alloc (.cells #[] 27)) := by
  go_simp
theorem build490_run (ρ : Operand → Value) (w : World) (dst : Option Tmp) (ty : TypeId) (pos : String) (after : Array Edge) (guard : Option (Nat × Bool)) :
    (execOp ρ { dst, op := .buildSlice 49 0 #[], type := ty, pos, after, guard }).run Try.prog w = .ok (.value (.slice (some ⟨w.heap.size, 0, none⟩) 0 0)) (w.alloc (.cells #[] 53)) := by
  go_simp
theorem shl_run (ρ : Operand → Value) (w : World) (dst : Option Tmp) (x y : Operand) (ty : TypeId) (pos : String) (after : Array Edge) (guard : Option (Nat × Bool)) (b : Nat) (hb : b < 8) (hx : ρ x = .int .u8 1) (hy : ρ y = .int .u64 (b : Int)) :
    (execOp ρ { dst, op := .binOp .shl 5 x y 54, type := ty, pos, after, guard }).run Try.prog w = .ok (.value (.int .u8 ((2 ^ b : Nat) : Int))) w := by
  have hbb : b = 0 ∨ b = 1 ∨ b = 2 ∨ b = 3 ∨ b = 4 ∨ b = 5 ∨ b = 6 ∨ b = 7 := by omega
  rcases hbb with rfl | rfl | rfl | rfl | rfl | rfl | rfl | rfl <;> go_simp <;> rfl
theorem shr_run (ρ : Operand → Value) (w : World) (dst : Option Tmp) (x y : Operand) (ty : TypeId) (pos : String) (after : Array Edge) (guard : Option (Nat × Bool)) (z b : Nat) (hz : z < 256) (hb : b < 8) (hx : ρ x = .int .u8 (z : Int)) (hy : ρ y = .int .u64 (b : Int)) :
    (execOp ρ { dst, op := .binOp .shr 5 x y 54, type := ty, pos, after, guard }).run Try.prog w = .ok (.value (.int .u8 ((z / 2 ^ b : Nat) : Int))) w := by
  have hbb : b = 0 ∨ b = 1 ∨ b = 2 ∨ b = 3 ∨ b = 4 ∨ b = 5 ∨ b = 6 ∨ b = 7 := by omega
  rcases hbb with rfl | rfl | rfl | rfl | rfl | rfl | rfl | rfl <;> go_simp
theorem and1_all : ∀ z : Nat, z < 256 → bits .and .u8 (z : Int) 1 = ((z % 2 : Nat) : Int) := by decide +kernel
theorem and1_run (ρ : Operand → Value) (w : World) (dst : Option Tmp) (x y : Operand) (ty : TypeId) (pos : String) (after : Array Edge) (guard : Option (Nat × Bool)) (z : Nat) (hz : z < 256) (hx : ρ x = .int .u8 (z : Int)) (hy : ρ y = .int .u8 1) :
    (execOp ρ { dst, op := .binOp .and 5 x y 5, type := ty, pos, after, guard }).run Try.prog w = .ok (.value (.int .u8 ((z % 2 : Nat) : Int))) w := by
  have h := and1_all z hz
  go_simp
  try simpa using h
section
variable {ops : Array Oper} {rest : List Oper} {a : Act} {w : World} {Q : Exit → Act → World → Prop} {dst : Option Tmp} {x y : Operand} {ty : TypeId} {pos : String} {after : Array Edge}
theorem wpList_build490 (h : wpList Try.prog ops Q rest (a.put dst (.slice (some ⟨w.heap.size, 0, none⟩) 0 0)) (w.alloc (.cells #[] 53))) :
    wpList Try.prog ops Q ({ dst, op := .buildSlice 49 0 #[], type := ty, pos, after, guard := none } :: rest) a w :=
  wpList_plain rfl fun K hK => by
    unfold Oper.wp
    rw [build490_run a.eval w dst ty pos after none]
    exact hK _ _ h
theorem wpList_shr (z b : Nat) (hz : z < 256) (hb : b < 8) (hx : a.eval x = .int .u8 (z : Int)) (hy : a.eval y = .int .u64 (b : Int)) (h : wpList Try.prog ops Q rest (a.put dst (.int .u8 ((z / 2 ^ b : Nat) : Int))) w) :
    wpList Try.prog ops Q ({ dst, op := .binOp .shr 5 x y 54, type := ty, pos, after, guard := none } :: rest) a w :=
  wpList_plain rfl fun K hK => by
    unfold Oper.wp
    rw [shr_run a.eval w dst x y ty pos after none z b hz hb hx hy]
    exact hK _ _ h
theorem wpList_and1 (z : Nat) (hz : z < 256) (hx : a.eval x = .int .u8 (z : Int)) (hy : a.eval y = .int .u8 1) (h : wpList Try.prog ops Q rest (a.put dst (.int .u8 ((z % 2 : Nat) : Int))) w) :
    wpList Try.prog ops Q ({ dst, op := .binOp .and 5 x y 5, type := ty, pos, after, guard := none } :: rest) a w :=
  wpList_plain rfl fun K hK => by
    unfold Oper.wp
    rw [and1_run a.eval w dst x y ty pos after none z hz hx hy]
    exact hK _ _ h
end
end Go.Proofs.Ytpmheaeiemnjeaa
