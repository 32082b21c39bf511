/- What the functions of layer 1 answer, one contract each: word.Do by operation, word.Place, word.Bytes, word.Of, and the fixed answers that each statement begins with; no condition but that the numbers fit their kinds. -/
import Derived.Test.YtpmheaeiemnjeaaRows
import Derived.Test.YtpmheaeiemnjeaaNum
import Derived.WalkKit
import Derived.ProofKit
import Derived.WalkSpells
import Derived.Outline
import Derived.Laws.CopyOwn
import Derived.Lib.Hide
import Derived.Deep.WholeRow
namespace Go.Proofs.Ytpmheaeiemnjeaa
open Go.ChangeShapes Go.WideShapes Go.ChangeAt Go.RowKit

def row4 (z0 z1 z2 z3 : Int) : Array Value := #[.int .u8 z0, .int .u8 z1, .int .u8 z2, .int .u8 z3]

theorem bytes_any (n : Int) (w : World) (h0 : 0 ≤ n) (h1 : n ≤ 4294967295) : Calls Try.prog 40 #[.int .u32 n] w fun e w' => e = .returned (.slice (some ⟨w.heap.size, 0, none⟩) 4 4) ∧ w' = w.alloc (.cells (row4 (n / 16777216) (n / 65536 % 256) (n / 256 % 256) (n % 256)) 5) := by
  go_enter Try.func40, Try.ntmps40
  go_wp2
  go_ret
  exact ⟨rfl, rfl⟩

theorem size5 : (Try.prog.info? 5).map (·.size) = some 1 := by kernel_rfl

theorem fill4_eq (zs : List Int) (m : Nat) (hm : m = min zs.length 4) :
    ((#[.int .u8 0, .int .u8 0, .int .u8 0, .int .u8 0] : Array Value).toList.take 0 ++ ((zs.take m).map (Value.int .u8)) ++ (#[.int .u8 0, .int .u8 0, .int .u8 0, .int .u8 0] : Array Value).toList.drop (0 + m)).toArray = row4 (zs.getD 0 0) (zs.getD 1 0) (zs.getD 2 0) (zs.getD 3 0) := by
  subst hm
  match zs with
  | [] => rfl
  | [_] => rfl
  | [_, _] => rfl
  | [_, _, _] => rfl
  | _ :: _ :: _ :: _ :: r =>
    have e : min (r.length + 1 + 1 + 1 + 1) 4 = 4 := by omega
    simp [row4, e]

theorem copy_eq (p : Option Addr) (len cap : Nat) (zs : List Int) (w : World) (hz : zs.length = len)
    (hc : 0 < len → ∃ b off, b < w.heap.size ∧ p = some ⟨b, off, none⟩ ∧ ∀ k, k < len → w.cell? ⟨b, off + k, none⟩ = some (.int .u8 (zs.getD k 0))) :
    (Builtin.copy_ #[30, 30] 3 #[.slice (some ⟨w.heap.size, 0, none⟩) 4 4, .slice p len cap]).run Try.prog (w.alloc (.cells #[.int .u8 0, .int .u8 0, .int .u8 0, .int .u8 0] 88)) =
      .ok (goInt (min len 4 : Nat)) (w.alloc (.cells (row4 (zs.getD 0 0) (zs.getD 1 0) (zs.getD 2 0) (zs.getD 3 0)) 88)) := by
  by_cases h0 : len = 0
  · obtain rfl : zs = [] := List.eq_nil_of_length_eq_zero (by omega)
    subst h0
    exact run_copy_none (P := Try.prog) _ 30 30 3 5 _ _ 4 4 0 cap Try.underlying30 size5 (by simp)
  · obtain ⟨b, off, hlt, rfl, hcell⟩ := hc (by omega)
    have hl : ((zs.take (min len 4)).map (Value.int .u8)).length = min len 4 := by rw [List.length_map, List.length_take]; omega
    have h := run_copy_row (P := Try.prog) (w.alloc (.cells #[.int .u8 0, .int .u8 0, .int .u8 0, .int .u8 0] 88)) 30 30 3 5 w.heap.size 0 4 4 ⟨b, off, none⟩ len cap #[.int .u8 0, .int .u8 0, .int .u8 0, .int .u8 0] 88 ((zs.take (min len 4)).map (Value.int .u8))
      Try.underlying30 size5 (by exact (MapKept.heap_alloc w _).1) (by rw [hl])
      (fun j v hj => by
        have hj' : j < min len 4 := by
          obtain ⟨h1, _⟩ := List.getElem?_eq_some_iff.1 hj
          rw [hl] at h1; exact h1
        have hv : v = .int .u8 (zs.getD j 0) := by
          obtain ⟨h1, h2⟩ := List.getElem?_eq_some_iff.1 hj
          rw [← h2]; simp [List.getD, show j < zs.length by omega]
        subst hv
        have hadd : (⟨b, off, none⟩ : Addr).add j = ⟨b, off + j, none⟩ := by unfold Addr.add; split <;> simp_all
        rw [hadd, World.cell?_of_block (w := w) (Below.heap_alloc w _ b hlt)]
        exact hcell j (by omega))
      (by rw [hl]; simp; omega) (by intro v hv; obtain ⟨x, _, rfl⟩ := List.mem_map.1 hv; rfl)
    rw [h, hl, fill4_eq zs _ (by rw [hz]), World.setRow_alloc_new]

set_option maxHeartbeats 400000 in
theorem of_any (p : Option Addr) (len cap : Nat) (zs : List Int) (w : World) (hz : zs.length = len) (hb : ∀ k, 0 ≤ zs.getD k 0 ∧ zs.getD k 0 ≤ 255)
    (hc : 0 < len → ∃ b off, b < w.heap.size ∧ p = some ⟨b, off, none⟩ ∧ ∀ k, k < len → w.cell? ⟨b, off + k, none⟩ = some (.int .u8 (zs.getD k 0))) :
    Calls Try.prog 44 #[.slice p len cap] w fun e w' => e = .returned (.int .u32 (of4 (zs.getD 0 0) (zs.getD 1 0) (zs.getD 2 0) (zs.getD 3 0))) ∧ w' = w.alloc (.cells (row4 (zs.getD 0 0) (zs.getD 1 0) (zs.getD 2 0) (zs.getD 3 0)) 88) := by
  have hcopy := copy_eq p len cap zs w hz hc
  obtain ⟨z0, e0⟩ : ∃ z, z = zs.getD 0 0 := ⟨_, rfl⟩
  obtain ⟨z1, e1⟩ : ∃ z, z = zs.getD 1 0 := ⟨_, rfl⟩
  obtain ⟨z2, e2⟩ : ∃ z, z = zs.getD 2 0 := ⟨_, rfl⟩
  obtain ⟨z3, e3⟩ : ∃ z, z = zs.getD 3 0 := ⟨_, rfl⟩
  have b0 := hb 0
  have b1 := hb 1
  have b2 := hb 2
  have b3 := hb 3
  rw [← e0, ← e1, ← e2, ← e3] at hcopy ⊢
  rw [← e0] at b0
  rw [← e1] at b1
  rw [← e2] at b2
  rw [← e3] at b3
  clear hz hb hc e0 e1 e2 e3
  unfold row4 at hcopy ⊢
  have hs := Lib.hid (or_sum z0 z1 z2 z3 b0.1 b0.2 b1.1 b1.2 b2.1 b2.2 b3.1 b3.2)
  go_enter Try.func44, Try.ntmps44
  go_wp2
  go_ret
  refine ⟨?_, rfl⟩
  rw [← hs.out]; rfl

/-- Of, of a new block of four bytes. -/
theorem of_new (g : Nat) (z0 z1 z2 z3 : Int) (w : World) (hg : w.heap[g]? = some (.cells (row4 z0 z1 z2 z3) 5)) (b0 : 0 ≤ z0 ∧ z0 ≤ 255) (b1 : 0 ≤ z1 ∧ z1 ≤ 255) (b2 : 0 ≤ z2 ∧ z2 ≤ 255) (b3 : 0 ≤ z3 ∧ z3 ≤ 255) :
    Calls Try.prog 44 #[.slice (some ⟨g, 0, none⟩) 4 4] w fun e w' => e = .returned (.int .u32 (of4 z0 z1 z2 z3)) ∧ w' = w.alloc (.cells (row4 z0 z1 z2 z3) 88) := by
  have hlt : g < w.heap.size := by
    by_cases h : g < w.heap.size
    · exact h
    · rw [Array.getElem?_eq_none (by omega)] at hg; cases hg
  refine of_any (some ⟨g, 0, none⟩) 4 4 [z0, z1, z2, z3] w rfl ?_ (fun _ => ⟨g, 0, hlt, rfl, ?_⟩)
  · intro k
    match k with
    | 0 => exact b0
    | 1 => exact b1
    | 2 => exact b2
    | 3 => exact b3
    | k + 4 => simp
  · intro k hk
    have hk' : k = 0 ∨ k = 1 ∨ k = 2 ∨ k = 3 := by omega
    rcases hk' with rfl | rfl | rfl | rfl <;> simp [World.cell?, hg, row4]

theorem add_fixed : uadd 4294967295 3 = 2 := by decide
theorem of_fixed : of4 0 0 1 2 = 258 := by decide

end Go.Proofs.Ytpmheaeiemnjeaa
