/- What isa.Uses, isa.registerMay, isa.constantMay, isa.May and isa.ends answer, for every instruction; they write nothing that was there. -/
import Derived.Test.YtdebkncjmbhneaaIsaUsed
namespace Go.Proofs.Ytdebkncjmbhneaa
open Go.ChangeShapes Go.WideShapes Go.ChangeAt Go.RowKit

theorem results_tmp4 {fn : Func} {t u v x : Tmp} (h : fn.results = #[.tmp t, .tmp u, .tmp v, .tmp x]) (tmps : Array Value) (P : Program) (w : World) :
    (results fn tmps).run P w = .ok (.tuple #[tmps.getD t undef, tmps.getD u undef, tmps.getD v undef, tmps.getD x undef]) w := by simp [results, h]

theorem reg_any (r : Int) (u : Bool) (w : World) : Calls Try.prog 26 #[.int .i64 r, .bool u] w fun e w' => e = .returned (.bool (regB r u)) ∧ w = w' := by
  cases u with
  | false =>
    have e : regB r false = (r == 0) := by
      unfold regB; rw [if_neg (by decide)]; rw [Bool.eq_iff_iff]; simp
    rw [e]
    go_enter Try.func26, Try.ntmps26
    go_wp2
    go_ret
    exact ⟨rfl, rfl⟩
  | true =>
    by_cases h : 0 ≤ r
    · have e : regB r true = decide (r < 8) := by
        unfold regB; rw [if_pos rfl]; rw [Bool.eq_iff_iff]; simp; omega
      rw [e]
      clear e
      have h' : decide (0 ≤ r) = true := decide_eq_true h
      go_enter Try.func26, Try.ntmps26
      go_wp2
      go_ret
      exact ⟨rfl, rfl⟩
    · have e : regB r true = false := by
        unfold regB; rw [if_pos rfl]; exact decide_eq_false (by omega)
      rw [e]
      clear e
      have h' : decide (0 ≤ r) = false := decide_eq_false h
      go_enter Try.func26, Try.ntmps26
      go_wp2
      go_ret
      exact ⟨rfl, rfl⟩

/-- An instruction as a value, and as the block that a parameter of its kind is laid in. -/
def I5.row (x : I5) : Array Value := #[.int .i64 x.op, .int .i64 x.a, .int .i64 x.b, .int .i64 x.c, .int .u32 x.k]

theorem con_any (op a b c k : Int) (u : Bool) (n : Int) (w : World) (hk0 : 0 ≤ k) (hk1 : k ≤ 4294967295) :
    Calls Try.prog 27 #[.agg #[.int .i64 op, .int .i64 a, .int .i64 b, .int .i64 c, .int .u32 k], .bool u, .int .i64 n] w fun e w' => e = .returned (.bool (conB op k u n)) ∧ w' = w.alloc (.cells #[.int .i64 op, .int .i64 a, .int .i64 b, .int .i64 c, .int .u32 k] 38) := by
  cases u with
  | false =>
    have e : conB op k false n = (k == 0) := by
      unfold conB; rw [if_neg (by decide)]; rw [Bool.eq_iff_iff]; simp
    rw [e]
    clear e
    go_enter Try.func27, Try.ntmps27
    go_wp2
    go_ret
    exact ⟨rfl, rfl⟩
  | true =>
    by_cases h : op = 1
    · have e : conB op k true n = true := by
        unfold conB; rw [if_pos rfl]; exact decide_eq_true (Or.inl h)
      rw [e]
      clear e
      have h' : (op == 1) = true := by simpa using h
      clear h
      go_enter Try.func27, Try.ntmps27
      go_wp2
      go_ret
      exact ⟨rfl, rfl⟩
    · have e : conB op k true n = decide (k < n) := by
        unfold conB; rw [if_pos rfl]; rw [Bool.eq_iff_iff]; simp [h]
      rw [e]
      clear e
      have h' : (op == 1) = false := by simpa using h
      clear h
      go_enter Try.func27, Try.ntmps27
      go_wp2
      go_ret
      exact ⟨rfl, rfl⟩

theorem ends_any (op a b c k : Int) (w : World) :
    Calls Try.prog 20 #[.agg #[.int .i64 op, .int .i64 a, .int .i64 b, .int .i64 c, .int .u32 k]] w fun e w' => e = .returned (.bool (decide (op = 16 ∨ op = 13))) ∧ Below w.heap.size w w' := by
  by_cases h : op = 16
  · have e : decide (op = 16 ∨ op = 13) = true := decide_eq_true (Or.inl h)
    rw [e]
    clear e
    have h' : (op == 16) = true := by simpa using h
    clear h
    go_enter Try.func20, Try.ntmps20
    go_wp2
    go_ret
    exact ⟨rfl, (Below.refl _ _).alloc (Nat.le_refl _) _⟩
  · have e : decide (op = 16 ∨ op = 13) = (op == 13) := by rw [Bool.eq_iff_iff]; simp [h]
    rw [e]
    clear e
    have h' : (op == 16) = false := by simpa using h
    clear h
    go_enter Try.func20, Try.ntmps20
    go_wp2
    go_ret
    exact ⟨rfl, (Below.refl _ _).alloc (Nat.le_refl _) _⟩

theorem bit_a (op : Int) : (bits .and .i64 (usum op) 1 != 0) = useA op := by
  rcases op_cases op with rfl | rfl | rfl | rfl | rfl | rfl | rfl | rfl | rfl | rfl | rfl | rfl | rfl | rfl | rfl | rfl | h
  case inr.inr.inr.inr.inr.inr.inr.inr.inr.inr.inr.inr.inr.inr.inr.inr =>
    rw [usum_out h, show useA op = false from decide_eq_false (by omega)]; rfl
  all_goals rfl
theorem bit_b (op : Int) : (bits .and .i64 (usum op) 2 != 0) = useB op := by
  rcases op_cases op with rfl | rfl | rfl | rfl | rfl | rfl | rfl | rfl | rfl | rfl | rfl | rfl | rfl | rfl | rfl | rfl | h
  case inr.inr.inr.inr.inr.inr.inr.inr.inr.inr.inr.inr.inr.inr.inr.inr =>
    rw [usum_out h, show useB op = false from decide_eq_false (by omega)]; rfl
  all_goals rfl
theorem bit_c (op : Int) : (bits .and .i64 (usum op) 4 != 0) = useC op := by
  rcases op_cases op with rfl | rfl | rfl | rfl | rfl | rfl | rfl | rfl | rfl | rfl | rfl | rfl | rfl | rfl | rfl | rfl | h
  case inr.inr.inr.inr.inr.inr.inr.inr.inr.inr.inr.inr.inr.inr.inr.inr =>
    rw [usum_out h, show useC op = false from decide_eq_false (by omega)]; rfl
  all_goals rfl
theorem bit_k (op : Int) : (bits .and .i64 (usum op) 8 != 0) = useK op := by
  rcases op_cases op with rfl | rfl | rfl | rfl | rfl | rfl | rfl | rfl | rfl | rfl | rfl | rfl | rfl | rfl | rfl | rfl | h
  case inr.inr.inr.inr.inr.inr.inr.inr.inr.inr.inr.inr.inr.inr.inr.inr =>
    rw [usum_out h, show useK op = false from decide_eq_false (by omega)]; rfl
  all_goals rfl
end Go.Proofs.Ytdebkncjmbhneaa
