/- Slices that are cut at a place: the operation's own law, whatever the frame. -/
import Derived.Test.YtpmheaeiemnjeaaPoolB3
namespace Go.Proofs.Ytpmheaeiemnjeaa
set_option linter.unusedVariables false
open Go.ChangeShapes Go.WideShapes Go.ChangeAt Go.RowKit

theorem cutlo48_run (ρ : Operand → Value) (w : World) (dst : Option Tmp) (x y : Operand) (ty : TypeId) (pos : String) (after : Array Edge) (guard : Option (Nat × Bool)) (g s c k : Nat) (hk : k ≤ c) (hc : 0 < c) (hx : ρ x = .slice (some ⟨g, 0, none⟩) s c) (hy : ρ y = .int .i64 (k : Int)) :
    (execOp ρ { dst, op := .slice 48 x none (some y) none, type := ty, pos, after, guard }).run Try.prog w = .ok (.value (.slice (some ⟨g, 0, none⟩) k c)) w := by
  have h1 : (0 : Int) ≤ (k : Int) := by omega
  have h2 : (k : Int) ≤ (c : Int) := by omega
  have h3 : ¬ c = 0 := by omega
  go_simp
  try simp [Addr.add]
theorem cuthi48_run (ρ : Operand → Value) (w : World) (dst : Option Tmp) (x y : Operand) (ty : TypeId) (pos : String) (after : Array Edge) (guard : Option (Nat × Bool)) (g s c k : Nat) (hk : k + 1 ≤ s) (hx : ρ x = .slice (some ⟨g, 0, none⟩) s c) (hy : ρ y = .int .i64 ((k : Int) + 1)) :
    (execOp ρ { dst, op := .slice 48 x (some y) none none, type := ty, pos, after, guard }).run Try.prog w = .ok (.value (.slice (some ⟨g, if c = k + 1 then 0 else (k + 1) * 9, none⟩) (s - (k + 1)) (c - (k + 1)))) w := by
  have h1 : (0 : Int) ≤ (k : Int) + 1 := by omega
  have h2 : (k : Int) + 1 ≤ (s : Int) := by omega
  have h3 : ((k : Int) + 1).toNat = k + 1 := by omega
  go_simp
  by_cases h : c = k + 1
  · simp [h, Addr.add]
  · simp [h, Addr.add]
theorem cutlo49_run (ρ : Operand → Value) (w : World) (dst : Option Tmp) (x y : Operand) (ty : TypeId) (pos : String) (after : Array Edge) (guard : Option (Nat × Bool)) (g s c k : Nat) (hk : k ≤ c) (hc : 0 < c) (hx : ρ x = .slice (some ⟨g, 0, none⟩) s c) (hy : ρ y = .int .i64 (k : Int)) :
    (execOp ρ { dst, op := .slice 49 x none (some y) none, type := ty, pos, after, guard }).run Try.prog w = .ok (.value (.slice (some ⟨g, 0, none⟩) k c)) w := by
  have h1 : (0 : Int) ≤ (k : Int) := by omega
  have h2 : (k : Int) ≤ (c : Int) := by omega
  have h3 : ¬ c = 0 := by omega
  go_simp
  try simp [Addr.add]
theorem cuthi49_run (ρ : Operand → Value) (w : World) (dst : Option Tmp) (x y : Operand) (ty : TypeId) (pos : String) (after : Array Edge) (guard : Option (Nat × Bool)) (g s c k : Nat) (hk : k + 1 ≤ s) (hx : ρ x = .slice (some ⟨g, 0, none⟩) s c) (hy : ρ y = .int .i64 ((k : Int) + 1)) :
    (execOp ρ { dst, op := .slice 49 x (some y) none none, type := ty, pos, after, guard }).run Try.prog w = .ok (.value (.slice (some ⟨g, if c = k + 1 then 0 else (k + 1) * 19, none⟩) (s - (k + 1)) (c - (k + 1)))) w := by
  have h1 : (0 : Int) ≤ (k : Int) + 1 := by omega
  have h2 : (k : Int) + 1 ≤ (s : Int) := by omega
  have h3 : ((k : Int) + 1).toNat = k + 1 := by omega
  go_simp
  by_cases h : c = k + 1
  · simp [h, Addr.add]
  · simp [h, Addr.add]

theorem rowsM_take (M : List Msg) (k : Nat) (hk : k ≤ M.length) {w : World} {g : Nat} {c : Nat} (h : ∀ j, j < (rowsM M).length → w.cell? ⟨g, j, none⟩ = (rowsM M)[j]?) (hlt : g < w.heap.size) : Sl w (some ⟨g, 0, none⟩) k (rowsM (M.take k)) := fun _ => by
  refine ⟨g, 0, hlt, rfl, fun j hj => ?_⟩
  have e : rowsM M = rowsM (M.take k) ++ rowsM (M.drop k) := by
    conv => lhs; rw [← List.take_append_drop k M]
    unfold rowsM
    rw [List.flatMap_append]
  have hl : j < (rowsM M).length := by rw [e, List.length_append]; omega
  rw [Nat.zero_add, h j hl, e, List.getElem?_append_left hj]
theorem rowsM_drop (M : List Msg) (k : Nat) (hk : k ≤ M.length) {w : World} {g o : Nat} (ho : k < M.length → o = k * 9) (h : ∀ j, j < (rowsM M).length → w.cell? ⟨g, j, none⟩ = (rowsM M)[j]?) (hlt : g < w.heap.size) : Sl w (some ⟨g, o, none⟩) (M.length - k) (rowsM (M.drop k)) := fun h0 => by
  refine ⟨g, o, hlt, rfl, fun j hj => ?_⟩
  have ho' := ho (by omega)
  subst ho'
  have e : rowsM M = rowsM (M.take k) ++ rowsM (M.drop k) := by
    conv => lhs; rw [← List.take_append_drop k M]
    unfold rowsM
    rw [List.flatMap_append]
  have hl0 : (rowsM (M.take k)).length = k * 9 := by rw [rowsM_len, List.length_take, Nat.min_eq_left hk]
  have hl : k * 9 + j < (rowsM M).length := by rw [e, List.length_append]; omega
  rw [h _ hl, e, List.getElem?_append_right (by omega), hl0, show k * 9 + j - k * 9 = j by omega]
theorem rowsZ_take {Z : List (List Nat)} (hz : ∀ z ∈ Z, Zed z) (k : Nat) (hk : k ≤ Z.length) {w : World} {g : Nat} (h : ∀ j, j < (rowsZ Z).length → w.cell? ⟨g, j, none⟩ = (rowsZ Z)[j]?) (hlt : g < w.heap.size) : Sl w (some ⟨g, 0, none⟩) k (rowsZ (Z.take k)) := fun _ => by
  refine ⟨g, 0, hlt, rfl, fun j hj => ?_⟩
  have e : rowsZ Z = rowsZ (Z.take k) ++ rowsZ (Z.drop k) := by
    conv => lhs; rw [← List.take_append_drop k Z]
    unfold rowsZ
    rw [List.flatMap_append]
  have hl : j < (rowsZ Z).length := by rw [e, List.length_append]; omega
  rw [Nat.zero_add, h j hl, e, List.getElem?_append_left hj]
theorem rowsZ_drop {Z : List (List Nat)} (hz : ∀ z ∈ Z, Zed z) (k : Nat) (hk : k ≤ Z.length) {w : World} {g o : Nat} (ho : k < Z.length → o = k * 19) (h : ∀ j, j < (rowsZ Z).length → w.cell? ⟨g, j, none⟩ = (rowsZ Z)[j]?) (hlt : g < w.heap.size) : Sl w (some ⟨g, o, none⟩) (Z.length - k) (rowsZ (Z.drop k)) := fun h0 => by
  refine ⟨g, o, hlt, rfl, fun j hj => ?_⟩
  have ho' := ho (by omega)
  subst ho'
  have e : rowsZ Z = rowsZ (Z.take k) ++ rowsZ (Z.drop k) := by
    conv => lhs; rw [← List.take_append_drop k Z]
    unfold rowsZ
    rw [List.flatMap_append]
  have hl0 : (rowsZ (Z.take k)).length = k * 19 := by rw [rowsZ_len (fun z h => hz z (List.mem_of_mem_take h)), List.length_take, Nat.min_eq_left hk]
  have hl : k * 19 + j < (rowsZ Z).length := by rw [e, List.length_append]; omega
  rw [h _ hl, e, List.getElem?_append_right (by omega), hl0, show k * 19 + j - k * 19 = j by omega]
/-- The two parts that stand about place k of an owned row of messages. -/
theorem own_parts {w : World} {base : Nat} {e : TypeId} {g s c : Nat} {M : List Msg} (h : w.ownsRow base e 9 (.slice (some ⟨g, 0, none⟩) s c) s (rowsM M)) (hs : s = M.length) (k : Nat) (hk : k < s) :
    Sl w (some ⟨g, 0, none⟩) k (rowsM (M.take k)) ∧ Sl w (some ⟨g, if c = k + 1 then 0 else (k + 1) * 9, none⟩) (s - (k + 1)) (rowsM (M.drop (k + 1))) := by
  have hg := (h.lt g rfl).2
  have hc : ∀ j, j < (rowsM M).length → w.cell? ⟨g, j, none⟩ = (rowsM M)[j]? := fun j hj => h.cellAt j (by rw [rowsM_len, ← hs] at hj; exact hj)
  obtain ⟨p, c', e1, hsc⟩ := own_cap h
  injection e1 with _ _ e1
  subst e1
  refine ⟨rowsM_take M k (by omega) (c := 0) hc hg, ?_⟩
  rw [hs]
  refine rowsM_drop M (k + 1) (by omega) (fun hl => ?_) hc hg
  rw [if_neg (by omega)]
theorem own_partsZ {w : World} {base : Nat} {e : TypeId} {g s c : Nat} {Z : List (List Nat)} (hz : ∀ z ∈ Z, Zed z) (h : w.ownsRow base e 19 (.slice (some ⟨g, 0, none⟩) s c) s (rowsZ Z)) (hs : s = Z.length) (k : Nat) (hk : k < s) :
    Sl w (some ⟨g, 0, none⟩) k (rowsZ (Z.take k)) ∧ Sl w (some ⟨g, if c = k + 1 then 0 else (k + 1) * 19, none⟩) (s - (k + 1)) (rowsZ (Z.drop (k + 1))) := by
  have hg := (h.lt g rfl).2
  have hc : ∀ j, j < (rowsZ Z).length → w.cell? ⟨g, j, none⟩ = (rowsZ Z)[j]? := fun j hj => h.cellAt j (by rw [rowsZ_len hz, ← hs] at hj; exact hj)
  obtain ⟨p, c', e1, hsc⟩ := own_cap h
  injection e1 with _ _ e1
  subst e1
  refine ⟨rowsZ_take hz k (by omega) hc hg, ?_⟩
  rw [hs]
  refine rowsZ_drop hz (k + 1) (by omega) (fun hl => ?_) hc hg
  rw [if_neg (by omega)]
end Go.Proofs.Ytpmheaeiemnjeaa
