/- What the functions of layer 1 answer, one contract each: word.Do by operation, word.Place, word.Bytes, word.Of, and the fixed answers that each statement begins with; no condition but that the numbers fit their kinds. -/
import Derived.Test.YtjkpcmnpgibmkaaRows
import Derived.Test.YtjkpcmnpgibmkaaNum
import Derived.WalkKit
import Derived.ProofKit
import Derived.WalkSpells
import Derived.Outline
import Derived.Laws.CopyOwn
import Derived.Lib.Hide
import Derived.Deep.WholeRow
namespace Go.Proofs.Ytjkpcmnpgibmkaa
open Go.ChangeShapes Go.WideShapes Go.ChangeAt Go.RowKit

theorem do_add (b c : Int) (w : World) : Calls Try.prog 8 #[.int .i64 2, .int .u32 b, .int .u32 c] w fun e w' => e = .returned (.tuple #[.int .u32 (uadd b c), .bool true]) ∧ w = w' := by
  go_enter Try.func8, Try.ntmps8
  go_wp2
  go_ret2
  exact ⟨rfl, rfl⟩
theorem do_sub (b c : Int) (w : World) : Calls Try.prog 8 #[.int .i64 3, .int .u32 b, .int .u32 c] w fun e w' => e = .returned (.tuple #[.int .u32 (usub b c), .bool true]) ∧ w = w' := by
  go_enter Try.func8, Try.ntmps8
  go_wp2
  go_ret2
  exact ⟨rfl, rfl⟩
theorem do_mul (b c : Int) (w : World) : Calls Try.prog 8 #[.int .i64 4, .int .u32 b, .int .u32 c] w fun e w' => e = .returned (.tuple #[.int .u32 (umul b c), .bool true]) ∧ w = w' := by
  go_enter Try.func8, Try.ntmps8
  go_wp2
  go_ret2
  exact ⟨rfl, rfl⟩
theorem do_and (b c : Int) (w : World) : Calls Try.prog 8 #[.int .i64 5, .int .u32 b, .int .u32 c] w fun e w' => e = .returned (.tuple #[.int .u32 (uand b c), .bool true]) ∧ w = w' := by
  go_enter Try.func8, Try.ntmps8
  go_wp2
  go_ret2
  exact ⟨rfl, rfl⟩
theorem do_xor (b c : Int) (w : World) : Calls Try.prog 8 #[.int .i64 6, .int .u32 b, .int .u32 c] w fun e w' => e = .returned (.tuple #[.int .u32 (uxor b c), .bool true]) ∧ w = w' := by
  go_enter Try.func8, Try.ntmps8
  go_wp2
  go_ret2
  exact ⟨rfl, rfl⟩
theorem do_eq (b c : Int) (w : World) : Calls Try.prog 8 #[.int .i64 7, .int .u32 b, .int .u32 c] w fun e w' => e = .returned (.tuple #[.int .u32 (ueq b c), .bool true]) ∧ w = w' := by
  by_cases h : b = c
  · have e : ueq b c = 1 := by unfold ueq; rw [if_pos h]
    rw [e]; clear e
    have h' : (b == c) = true := by simpa using h
    clear h
    go_enter Try.func8, Try.ntmps8
    go_wp2
    go_ret2
    exact ⟨rfl, rfl⟩
  · have e : ueq b c = 0 := by unfold ueq; rw [if_neg h]
    rw [e]; clear e
    have h' : (b == c) = false := by simpa using h
    clear h
    go_enter Try.func8, Try.ntmps8
    go_wp2
    go_ret2
    exact ⟨rfl, rfl⟩
theorem do_lt (b c : Int) (w : World) : Calls Try.prog 8 #[.int .i64 8, .int .u32 b, .int .u32 c] w fun e w' => e = .returned (.tuple #[.int .u32 (ult b c), .bool true]) ∧ w = w' := by
  by_cases h : b < c
  · have e : ult b c = 1 := by unfold ult; rw [if_pos h]
    rw [e]; clear e
    go_enter Try.func8, Try.ntmps8
    go_wp2
    go_ret2
    exact ⟨rfl, rfl⟩
  · have e : ult b c = 0 := by unfold ult; rw [if_neg h]
    rw [e]; clear e
    go_enter Try.func8, Try.ntmps8
    go_wp2
    go_ret2
    exact ⟨rfl, rfl⟩

theorem place_pos (n k : Int) (w : World) (h0 : 0 ≤ n) (h1 : n ≤ 4294967295) (h2 : 1 ≤ k) (h3 : k ≤ 9223372036854775807) : Calls Try.prog 10 #[.int .u32 n, .int .i64 k] w fun e w' => e = .returned (.int .i64 (n % k)) ∧ w = w' := by
  have h4 : 0 ≤ n % k := Int.emod_nonneg _ (by omega)
  have h5 : n % k < k := Int.emod_lt_of_pos _ (by omega)
  go_enter Try.func10, Try.ntmps10
  go_wp2
  go_ret
  exact ⟨rfl, rfl⟩
theorem place_none (n k : Int) (w : World) (h2 : k < 1) : Calls Try.prog 10 #[.int .u32 n, .int .i64 k] w fun e w' => e = .returned (.int .i64 0) ∧ w = w' := by
  go_enter Try.func10, Try.ntmps10
  go_wp2
  go_ret
  exact ⟨rfl, rfl⟩

def row4 (z0 z1 z2 z3 : Int) : Array Value := #[.int .u8 z0, .int .u8 z1, .int .u8 z2, .int .u8 z3]

theorem bytes_any (n : Int) (w : World) (h0 : 0 ≤ n) (h1 : n ≤ 4294967295) : Calls Try.prog 11 #[.int .u32 n] w fun e w' => e = .returned (.slice (some ⟨w.heap.size, 0, none⟩) 4 4) ∧ w' = w.alloc (.cells (row4 (n / 16777216) (n / 65536 % 256) (n / 256 % 256) (n % 256)) 5) := by
  go_enter Try.func11, Try.ntmps11
  go_wp2
  go_ret
  exact ⟨rfl, rfl⟩

theorem size5 : (Try.prog.info? 5).map (·.size) = some 1 := by kernel_rfl

theorem fill4_eq (zs : List Int) (m : Nat) (hm : m = min zs.length 4) :
    ((#[.int .u8 0, .int .u8 0, .int .u8 0, .int .u8 0] : Array Value).toList.take 0 ++ ((zs.take m).map (Value.int .u8)) ++ (#[.int .u8 0, .int .u8 0, .int .u8 0, .int .u8 0] : Array Value).toList.drop (0 + m)).toArray = row4 (zs.getD 0 0) (zs.getD 1 0) (zs.getD 2 0) (zs.getD 3 0) := by
  subst hm
  match zs with
  | [] => rfl
  | [_] => rfl
  | [_, _] => rfl
  | [_, _, _] => rfl
  | _ :: _ :: _ :: _ :: r =>
    have e : min (r.length + 1 + 1 + 1 + 1) 4 = 4 := by omega
    simp [row4, e]

theorem copy_eq (p : Option Addr) (len cap : Nat) (zs : List Int) (w : World) (hz : zs.length = len)
    (hc : 0 < len → ∃ b off, b < w.heap.size ∧ p = some ⟨b, off, none⟩ ∧ ∀ k, k < len → w.cell? ⟨b, off + k, none⟩ = some (.int .u8 (zs.getD k 0))) :
    (Builtin.copy_ #[23, 23] 3 #[.slice (some ⟨w.heap.size, 0, none⟩) 4 4, .slice p len cap]).run Try.prog (w.alloc (.cells #[.int .u8 0, .int .u8 0, .int .u8 0, .int .u8 0] 38)) =
      .ok (goInt (min len 4 : Nat)) (w.alloc (.cells (row4 (zs.getD 0 0) (zs.getD 1 0) (zs.getD 2 0) (zs.getD 3 0)) 38)) := by
  by_cases h0 : len = 0
  · obtain rfl : zs = [] := List.eq_nil_of_length_eq_zero (by omega)
    subst h0
    exact run_copy_none (P := Try.prog) _ 23 23 3 5 _ _ 4 4 0 cap Try.underlying23 size5 (by simp)
  · obtain ⟨b, off, hlt, rfl, hcell⟩ := hc (by omega)
    have hl : ((zs.take (min len 4)).map (Value.int .u8)).length = min len 4 := by rw [List.length_map, List.length_take]; omega
    have h := run_copy_row (P := Try.prog) (w.alloc (.cells #[.int .u8 0, .int .u8 0, .int .u8 0, .int .u8 0] 38)) 23 23 3 5 w.heap.size 0 4 4 ⟨b, off, none⟩ len cap #[.int .u8 0, .int .u8 0, .int .u8 0, .int .u8 0] 38 ((zs.take (min len 4)).map (Value.int .u8))
      Try.underlying23 size5 (by exact (MapKept.heap_alloc w _).1) (by rw [hl])
      (fun j v hj => by
        have hj' : j < min len 4 := by
          obtain ⟨h1, _⟩ := List.getElem?_eq_some_iff.1 hj
          rw [hl] at h1; exact h1
        have hv : v = .int .u8 (zs.getD j 0) := by
          obtain ⟨h1, h2⟩ := List.getElem?_eq_some_iff.1 hj
          rw [← h2]; simp [List.getD, show j < zs.length by omega]
        subst hv
        have hadd : (⟨b, off, none⟩ : Addr).add j = ⟨b, off + j, none⟩ := by unfold Addr.add; split <;> simp_all
        rw [hadd, World.cell?_of_block (w := w) (Below.heap_alloc w _ b hlt)]
        exact hcell j (by omega))
      (by rw [hl]; simp; omega) (by intro v hv; obtain ⟨x, _, rfl⟩ := List.mem_map.1 hv; rfl)
    rw [h, hl, fill4_eq zs _ (by rw [hz]), World.setRow_alloc_new]

set_option maxHeartbeats 400000 in
theorem of_any (p : Option Addr) (len cap : Nat) (zs : List Int) (w : World) (hz : zs.length = len) (hb : ∀ k, 0 ≤ zs.getD k 0 ∧ zs.getD k 0 ≤ 255)
    (hc : 0 < len → ∃ b off, b < w.heap.size ∧ p = some ⟨b, off, none⟩ ∧ ∀ k, k < len → w.cell? ⟨b, off + k, none⟩ = some (.int .u8 (zs.getD k 0))) :
    Calls Try.prog 13 #[.slice p len cap] w fun e w' => e = .returned (.int .u32 (of4 (zs.getD 0 0) (zs.getD 1 0) (zs.getD 2 0) (zs.getD 3 0))) ∧ w' = w.alloc (.cells (row4 (zs.getD 0 0) (zs.getD 1 0) (zs.getD 2 0) (zs.getD 3 0)) 38) := by
  have hcopy := copy_eq p len cap zs w hz hc
  obtain ⟨z0, e0⟩ : ∃ z, z = zs.getD 0 0 := ⟨_, rfl⟩
  obtain ⟨z1, e1⟩ : ∃ z, z = zs.getD 1 0 := ⟨_, rfl⟩
  obtain ⟨z2, e2⟩ : ∃ z, z = zs.getD 2 0 := ⟨_, rfl⟩
  obtain ⟨z3, e3⟩ : ∃ z, z = zs.getD 3 0 := ⟨_, rfl⟩
  have b0 := hb 0
  have b1 := hb 1
  have b2 := hb 2
  have b3 := hb 3
  rw [← e0, ← e1, ← e2, ← e3] at hcopy ⊢
  rw [← e0] at b0
  rw [← e1] at b1
  rw [← e2] at b2
  rw [← e3] at b3
  clear hz hb hc e0 e1 e2 e3
  unfold row4 at hcopy ⊢
  have hs := Lib.hid (or_sum z0 z1 z2 z3 b0.1 b0.2 b1.1 b1.2 b2.1 b2.2 b3.1 b3.2)
  go_enter Try.func13, Try.ntmps13
  go_wp2
  go_ret
  refine ⟨?_, rfl⟩
  rw [← hs.out]; rfl

/-- Of, of a new block of four bytes. -/
theorem of_new (g : Nat) (z0 z1 z2 z3 : Int) (w : World) (hg : w.heap[g]? = some (.cells (row4 z0 z1 z2 z3) 5)) (b0 : 0 ≤ z0 ∧ z0 ≤ 255) (b1 : 0 ≤ z1 ∧ z1 ≤ 255) (b2 : 0 ≤ z2 ∧ z2 ≤ 255) (b3 : 0 ≤ z3 ∧ z3 ≤ 255) :
    Calls Try.prog 13 #[.slice (some ⟨g, 0, none⟩) 4 4] w fun e w' => e = .returned (.int .u32 (of4 z0 z1 z2 z3)) ∧ w' = w.alloc (.cells (row4 z0 z1 z2 z3) 38) := by
  have hlt : g < w.heap.size := by
    by_cases h : g < w.heap.size
    · exact h
    · rw [Array.getElem?_eq_none (by omega)] at hg; cases hg
  refine of_any (some ⟨g, 0, none⟩) 4 4 [z0, z1, z2, z3] w rfl ?_ (fun _ => ⟨g, 0, hlt, rfl, ?_⟩)
  · intro k
    match k with
    | 0 => exact b0
    | 1 => exact b1
    | 2 => exact b2
    | 3 => exact b3
    | k + 4 => simp
  · intro k hk
    have hk' : k = 0 ∨ k = 1 ∨ k = 2 ∨ k = 3 := by omega
    rcases hk' with rfl | rfl | rfl | rfl <;> simp [World.cell?, hg, row4]

theorem add_fixed : uadd 4294967295 3 = 2 := by decide
theorem of_fixed : of4 0 0 1 2 = 258 := by decide

set_option maxHeartbeats 400000 in
theorem awake_any (w : World) : Calls Try.prog 7 #[] w fun e w' => e = .returned (.bool true) ∧ Grown w w' := by
  go_enter Try.func7, Try.ntmps7
  go_wp2_with fail
  refine (do_add _ _ _).mono ?_
  rintro e w' ⟨rfl, rfl⟩
  rw [add_fixed]
  go_wp2_with fail
  refine (bytes_any 258 _ (by omega) (by omega)).mono ?_
  rintro e w' ⟨rfl, rfl⟩
  unfold row4
  go_wp2_with fail
  refine (place_pos 17 5 _ (by omega) (by omega) (by omega) (by omega)).mono ?_
  rintro e w' ⟨rfl, rfl⟩
  go_wp2_with fail
  refine (of_new _ _ _ _ _ _ (by exact (MapKept.heap_alloc w _).1) (by omega) (by omega) (by omega) (by omega)).mono ?_
  rintro e w' ⟨rfl, rfl⟩
  rw [of_fixed]
  go_wp2
  go_ret
  exact ⟨rfl, by repeat (first | exact Grown.refl _ | apply Grown.drew | apply Grown.alloc)⟩
end Go.Proofs.Ytjkpcmnpgibmkaa
