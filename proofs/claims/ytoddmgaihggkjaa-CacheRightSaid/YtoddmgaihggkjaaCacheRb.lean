/- Lines held against each other, where an address stands, by the document's own; no condition but that they read. -/
import Derived.Test.YtoddmgaihggkjaaCacheRa
import Derived.DeepKeys
namespace Go.Proofs.Ytoddmgaihggkjaa
set_option linter.unusedVariables false
open Go.ChangeShapes Go.WideShapes Go.ChangeAt Go.RowKit

def eqN (x y : Ln) : Bool := (x.addr == y.addr) && ((x.state == y.state) && (((x.val : Int) == (y.val : Int)) && (x.used == y.used)))
theorem eqN_iff (x y : Ln) : eqN x y = true ↔ x = y := by
  obtain ⟨a, b, c, d⟩ := x
  obtain ⟨a', b', c', d'⟩ := y
  unfold eqN
  simp only [Bool.and_eq_true, beq_iff_eq, Ln.mk.injEq]
  omega
set_option maxHeartbeats 1000000 in
theorem eq_line (w : World) (x y : Ln) : (binOp .eql 30 (.agg #[.int .i64 x.addr, .int .i64 x.state, .int .u32 x.val, .int .i64 x.used]) (.agg #[.int .i64 y.addr, .int .i64 y.state, .int .u32 y.val, .int .i64 y.used])).run Try.prog w = .ok (.bool (eqN x y)) w := by
  have e1 : ∀ x : Ln, (part 3 #[.int .i64 x.addr, .int .i64 x.state, .int .u32 x.val, .int .i64 x.used] 0).run Try.prog w = .ok (.int .i64 x.addr) w := fun x => by simp [part, go_sem]
  have e2 : ∀ x : Ln, (part 3 #[.int .i64 x.addr, .int .i64 x.state, .int .u32 x.val, .int .i64 x.used] 1).run Try.prog w = .ok (.int .i64 x.state) w := fun x => by simp [part, go_sem]
  have e3 : ∀ x : Ln, (part 25 #[.int .i64 x.addr, .int .i64 x.state, .int .u32 x.val, .int .i64 x.used] 2).run Try.prog w = .ok (.int .u32 x.val) w := fun x => by simp [part, go_sem]
  have e4 : ∀ x : Ln, (part 3 #[.int .i64 x.addr, .int .i64 x.state, .int .u32 x.val, .int .i64 x.used] 3).run Try.prog w = .ok (.int .i64 x.used) w := fun x => by simp [part, go_sem]
  rw [run_eql_struct, show (10000 : Nat) = 9999 + 1 from rfl, run_equalIn_agg w 9999 30 _ _ (by simp [Program.fieldsOf, Try.underlying30]) Try.stoodInHeld30]
  have n1 : ("Addr" ≠ "_") = True := by simp
  have n2 : ("State" ≠ "_") = True := by simp
  have n3 : ("Val" ≠ "_") = True := by simp
  have n4 : ("Used" ≠ "_") = True := by simp
  have q1 := run_equalIn_int w 9998 3 .i64 .i64 x.addr y.addr Try.underlying3
  have q2 := run_equalIn_int w 9998 3 .i64 .i64 x.state y.state Try.underlying3
  have q3 := run_equalIn_int w 9998 25 .u32 .u32 x.val y.val Try.underlying25
  have q4 := run_equalIn_int w 9998 3 .i64 .i64 x.used y.used Try.underlying3
  unfold eqN
  revert q1 q2 q3 q4
  generalize (x.addr == y.addr) = b1
  generalize (x.state == y.state) = b2
  generalize ((x.val : Int) == (y.val : Int)) = b3
  generalize (x.used == y.used) = b4
  intro q1 q2 q3 q4
  simp only [Program.fieldsOf, Try.underlying30, Op.eqFields, n1, n2, n3, n4, if_true, Sem.run_bind, e1, e2, e3, e4, Result.andThen_ok, q1, q2, q3, q4, Sem.run_ite]
  cases b1 <;> cases b2 <;> cases b3 <;> cases b4 <;> simp
theorem neq_line (w : World) (x y : Ln) : (binOp .neq 30 (.agg #[.int .i64 x.addr, .int .i64 x.state, .int .u32 x.val, .int .i64 x.used]) (.agg #[.int .i64 y.addr, .int .i64 y.state, .int .u32 y.val, .int .i64 y.used])).run Try.prog w = .ok (.bool (!eqN x y)) w := by
  have h := eq_line w x y
  rw [run_eql_struct] at h
  rw [run_neq_struct]
  generalize (Op.equalIn 10000 30 (Value.agg #[.int .i64 x.addr, .int .i64 x.state, .int .u32 x.val, .int .i64 x.used]) (Value.agg #[.int .i64 y.addr, .int .i64 y.state, .int .u32 y.val, .int .i64 y.used])).run Try.prog w = r at h ⊢
  cases r with
  | ok b w' =>
    simp only [Result.andThen_ok, Result.ok.injEq, Value.bool.injEq] at h ⊢
    exact ⟨by rw [h.1], h.2⟩
  | halt x w' => simp [Result.andThen] at h

set_option maxHeartbeats 2000000 in
/-- Two lists that read alike. -/
theorem lines_any (p q : Option Addr) (c d : Nat) (l : List Ln) (w : World) (hp : Lm w p l) (hq : Lm w q l) (hm : l.length ≤ 10000) :
    Calls Try.prog 10 #[.slice p l.length c, .slice q l.length d] w fun e w' => e = .returned (.bool true) ∧ Below w.heap.size w w' := by
  obtain ⟨n, hn⟩ : ∃ n, n = l.length := ⟨_, rfl⟩
  rw [← hn] at hm ⊢
  have HP := Lib.hid hp
  have HQ := Lib.hid hq
  have HN := Lib.hid hn
  clear hp hq hn
  go_enter Try.func10, Try.ntmps10
  go_wp2_with fail
  go_loopw [5] (fun i wr => ∃ k : Nat, k ≤ n ∧ i = .int .i64 k ∧ Below w.heap.size w wr) (fun i _ => n - (intOf i).toNat)
  case atStart => exact ⟨0, Nat.zero_le _, rfl, Below.refl _ _⟩
  case round =>
    obtain ⟨k, hk, rfl, hb⟩ := hrel
    have HB := Lib.hid hb
    clear hb
    by_cases hlt : k < n
    · obtain ⟨b, off, rfl, h1⟩ := HP.out.at_ k (by rw [← HN.out]; exact hlt)
      obtain ⟨b2, off2, rfl, h2⟩ := HQ.out.at_ k (by rw [← HN.out]; exact hlt)
      obtain ⟨lt, c0, c1, c2, c3⟩ := h1.below HB.out
      obtain ⟨lt2, d0, d1, d2, d3⟩ := h2.below HB.out
      obtain ⟨x, hx⟩ : ∃ x, x = l.getD k zL := ⟨_, rfl⟩
      rw [← hx] at c0 c1 c2 c3 d0 d1 d2 d3
      have hne : ∀ W, (binOp .neq 30 (.agg #[.int .i64 x.addr, .int .i64 x.state, .int .u32 x.val, .int .i64 x.used]) (.agg #[.int .i64 x.addr, .int .i64 x.state, .int .u32 x.val, .int .i64 x.used])).run Try.prog W = .ok (.bool false) W := fun W => by
        rw [neq_line, (eqN_iff x x).2 rfl]; rfl
      have hkI : (k : Int) < (n : Int) := by omega
      clear h1 h2 hx
      go_upto_region 6 with fail
      go_quiet (fail)
      go_wp2_with fail
      go_roundw
      case rel => exact ⟨k + 1, by omega, by go_num, drewN_below HB.out _⟩
      case measure => simp [intOf]; omega
    · have hkn : k = n := by omega
      subst hkn
      go_wp2_with fail
      go_ret
      exact ⟨rfl, HB.out⟩

set_option maxHeartbeats 2000000 in
theorem at_any (p : Option Addr) (n c : Nat) (xs : List Value) (C : Ch) (a : Int) (w : World) (h : Cc w p n c xs C) (hr : Rt C) (ha : 0 ≤ a) :
    Calls Try.prog 25 #[.agg #[.int .i64 C.sets, .int .i64 C.ways, .int .i64 C.clock, .slice p n c], .int .i64 a] w fun e w' => e = .returned (.int .i64 (atC C a)) ∧ Below w.heap.size w w' := by
  have hkn : setNo C a < n := by have := hr.set_lt a; have := h.zn; omega
  obtain ⟨b, off, q, x, c2, rfl, hat⟩ := h.setAt (setNo C a) hkn
  rw [setC_eq] at hat
  have hs1 := hr.n1
  have hk2 := hr.set_as a
  have hn100 := h.n100
  have HHIT : Hid (∀ j, j < (setC C a).length → ((setC C a).getD j zL).addr = a → (∀ i, i < j → ((setC C a).getD i zL).addr ≠ a) → atC C a = (j : Int)) := Lib.hid (fun j hj h1 h2 => by
    have := idxA_hit a (setC C a) 0 j hj h1 h2
    unfold atC; rw [this]; simp)
  have HNO : Hid ((∀ i, i < (setC C a).length → ((setC C a).getD i zL).addr ≠ a) → atC C a = -1) := Lib.hid (fun h => by
    unfold atC
    exact (idxA_none a (setC C a) 0).2 (fun y hy => by obtain ⟨i, hi, rfl⟩ := mem_idx _ zL y hy; exact h i hi))
  obtain ⟨lt, cell, len, lm, cap, x100⟩ := hat
  have HLM := Lib.hid lm
  have HLEN := Lib.hid len
  obtain ⟨l, hle⟩ : ∃ l, l = setC C a := ⟨_, rfl⟩
  obtain ⟨k, hke⟩ : ∃ k, k = setNo C a := ⟨_, rfl⟩
  obtain ⟨r, hre⟩ : ∃ r, r = atC C a := ⟨_, rfl⟩
  obtain ⟨A, W, K, hA, hW, hK⟩ : ∃ A W K, A = C.sets ∧ W = C.ways ∧ K = C.clock := ⟨_, _, _, rfl, rfl, rfl⟩
  rw [← hle] at HHIT HNO HLM HLEN
  rw [← hke] at cell hkn hk2
  rw [← hre] at HHIT HNO ⊢
  rw [← hA] at hs1 hk2
  rw [← hA, ← hW, ← hK]
  clear hle hke hre hA hW hK lm len h hr
  have hA0 : A ≠ 0 := by omega
  have htm : a.tmod A = (k : Int) := by rw [Int.tmod_eq_emod_of_nonneg ha, hk2]
  have hkI : (k : Int) < (n : Int) := by omega
  have HB0 : Hid (Below w.heap.size w (w.alloc (.cells #[.int .i64 A, .int .i64 W, .int .i64 K, .slice (some ⟨b, off, none⟩) n c] 24))) := Lib.hid ((Below.refl _ _).alloc (Nat.le_refl _) _)
  have HA0 : Hid (Blk (w.alloc (.cells #[.int .i64 A, .int .i64 W, .int .i64 K, .slice (some ⟨b, off, none⟩) n c] 24)) w.heap.size #[.int .i64 A, .int .i64 W, .int .i64 K, .slice (some ⟨b, off, none⟩) n c]) := Lib.hid (Blk.new _ _ _)
  go_enter Try.func25, Try.ntmps25
  go_upto_region 1 with fail
  obtain ⟨w1, hw1⟩ : ∃ w1, w1 = w.alloc (.cells #[.int .i64 A, .int .i64 W, .int .i64 K, .slice (some ⟨b, off, none⟩) n c] 24) := ⟨_, rfl⟩
  have hc1 : w1.cell? ⟨b, off + k, none⟩ = some (.slice q x c2) := by
    have := HB0.out.cell (p := ⟨b, off + k, none⟩) lt
    rw [← hw1] at this
    rw [this]; exact cell
  rw [← hw1] at HB0 HA0 ⊢
  clear hw1 cell
  have kA := HA0.out.c
  refine region_plan (fun W : World => W = w1.drew) 8 [(0, true), (1, true), (2, true), (3, true), (4, true), (5, true), (6, true), (7, true)] (by kernel_rfl) (by kernel_rfl) rfl ?_
  iterate 8
    refine plan_read (v := ?_) rfl (by rfl) ?_ ?_
    rotate_left
    · intro w' hS
      try dsimp only at hS
      go_simp
      try with_reducible rfl
    try simp only [Act.put, List.setIfInBounds_toArray, List.set_cons_zero, List.set_cons_succ, List.getElem_toArray, List.getElem_cons_zero, List.getElem_cons_succ]
  refine plan_nil ?_
  simp only [List.drop_succ_cons, List.drop_zero]
  have HB1 : Hid (Below w.heap.size w w1.drew) := Lib.hid HB0.out.drew
  clear kA hc1 htm hA0 hkI
  go_wp2_with fail
  go_loopw [6] (fun i wr => ∃ j : Nat, j ≤ x ∧ i = .int .i64 j ∧ (∀ t, t < j → (l.getD t zL).addr ≠ a) ∧ Below w.heap.size w wr) (fun i _ => x - (intOf i).toNat)
  case atStart => exact ⟨0, Nat.zero_le _, rfl, fun t ht => absurd ht (Nat.not_lt_zero _), HB1.out⟩
  case round =>
    obtain ⟨j, hj, rfl, hall, hb⟩ := hrel
    have HALL := Lib.hid hall
    have HB := Lib.hid hb
    clear hall hb HB1 HA0 HB0
    by_cases hlt : j < x
    · obtain ⟨b2, off2, rfl, hline⟩ := HLM.out.at_ j (by rw [HLEN.out]; exact hlt)
      obtain ⟨l0, d0, d1, d2, d3⟩ := hline.below HB.out
      have HH1 := Lib.hid (HHIT.out j (by rw [HLEN.out]; exact hlt))
      obtain ⟨y, hy⟩ : ∃ y, y = l.getD j zL := ⟨_, rfl⟩
      rw [← hy] at d0 d1 d2 d3 HH1
      have HY := Lib.hid hy
      have hjI : (j : Int) < (x : Int) := by omega
      clear hline hy
      by_cases he : y.addr = a
      · have hq : (y.addr == a) = true := by simpa using he
        go_wp2_with fail
        go_ret
        exact ⟨by rw [HH1.out he HALL.out]; rfl, HB.out⟩
      · have hq : (y.addr == a) = false := by simpa using he
        go_wp2_with fail
        go_roundw
        case rel => exact ⟨j + 1, by omega, by go_num, fun t ht => by
          by_cases e : t = j
          · rw [e, ← HY.out]; exact he
          · exact HALL.out t (by omega), HB.out⟩
        case measure => simp [intOf]; omega
    · have hjx : j = x := by omega
      subst hjx
      go_wp2_with fail
      go_ret
      exact ⟨by rw [HNO.out (fun i hi => HALL.out i (by rw [HLEN.out] at hi; exact hi))]; rfl, HB.out⟩
end Go.Proofs.Ytoddmgaihggkjaa
