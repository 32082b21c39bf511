/- Gates and lists that read alike, by the document's own functions; no condition. -/
import Derived.Test.YteffmidpinlpjaaCmE
import Derived.DeepKeys
import Derived.BigQuiet
namespace Go.Proofs.Yteffmidpinlpjaa
set_option linter.unusedVariables false
set_option linter.unusedSimpArgs false
open Go.ChangeShapes Go.WideShapes Go.ChangeAt Go.RowKit

def eqT (x y : Td) : Bool := (x.core == y.core) && (x.val == y.val)
theorem eqT_self (x : Td) : eqT x x = true := by unfold eqT; simp
def eqH (x y : Hd) : Bool := eqT x.td y.td && (x.span == y.span)
theorem eqH_self (x : Hd) : eqH x x = true := by unfold eqH; rw [eqT_self]; simp
set_option maxHeartbeats 1000000 in
theorem eqIn_told (w : World) (f : Nat) (x y : Td) : (Op.equalIn (f + 2) 28 (.agg #[.int .i64 x.core, .int .u32 x.val]) (.agg #[.int .i64 y.core, .int .u32 y.val])).run Try.prog w = .ok (eqT x y) w := by
  have e1 : ∀ x : Td, (part 3 #[.int .i64 x.core, .int .u32 x.val] 0).run Try.prog w = .ok (.int .i64 x.core) w := fun x => by simp [part, go_sem]
  have e2 : ∀ x : Td, (part 26 #[.int .i64 x.core, .int .u32 x.val] 1).run Try.prog w = .ok (.int .u32 x.val) w := fun x => by simp [part, go_sem]
  rw [show f + 2 = (f + 1) + 1 from rfl, run_equalIn_agg w (f + 1) 28 _ _ (by simp [Program.fieldsOf, Try.underlying28]) Try.stoodInHeld28]
  have n1 : ("Core" ≠ "_") = True := by simp
  have n2 : ("Val" ≠ "_") = True := by simp
  have q1 := run_equalIn_int w f 3 .i64 .i64 x.core y.core Try.underlying3
  have q2 := run_equalIn_int w f 26 .u32 .u32 x.val y.val Try.underlying26
  unfold eqT
  revert q1 q2
  generalize (x.core == y.core) = b1
  generalize (x.val == y.val) = b2
  intro q1 q2
  simp only [Program.fieldsOf, Try.underlying28, Op.eqFields, n1, n2, if_true, Sem.run_bind, e1, e2, Result.andThen_ok, q1, q2, Sem.run_ite]
  cases b1 <;> cases b2 <;> simp
set_option maxHeartbeats 1000000 in
theorem eq_told (w : World) (x y : Td) : (binOp .eql 28 (.agg #[.int .i64 x.core, .int .u32 x.val]) (.agg #[.int .i64 y.core, .int .u32 y.val])).run Try.prog w = .ok (.bool (eqT x y)) w := by
  rw [run_eql_struct, show (10000 : Nat) = 9998 + 2 from rfl, eqIn_told]; rfl
theorem neq_told (w : World) (x y : Td) : (binOp .neq 28 (.agg #[.int .i64 x.core, .int .u32 x.val]) (.agg #[.int .i64 y.core, .int .u32 y.val])).run Try.prog w = .ok (.bool (!eqT x y)) w := by
  rw [run_neq_struct, show (10000 : Nat) = 9998 + 2 from rfl, eqIn_told]; rfl
set_option maxHeartbeats 1000000 in
theorem neq_held (w : World) (x y : Hd) : (binOp .neq 52 (.agg #[.int .i64 x.td.core, .int .u32 x.td.val, .int .i64 x.span]) (.agg #[.int .i64 y.td.core, .int .u32 y.td.val, .int .i64 y.span])).run Try.prog w = .ok (.bool (!eqH x y)) w := by
  have e1 : ∀ x : Hd, (part 28 #[.int .i64 x.td.core, .int .u32 x.td.val, .int .i64 x.span] 0).run Try.prog w = .ok (.agg #[.int .i64 x.td.core, .int .u32 x.td.val]) w := fun x => by
    have h1 := Try.isAgg28
    have h2 := Try.sizeOf28
    simp [part, go_sem, h1, h2]
  have e2 : ∀ x : Hd, (part 3 #[.int .i64 x.td.core, .int .u32 x.td.val, .int .i64 x.span] 2).run Try.prog w = .ok (.int .i64 x.span) w := fun x => by simp [part, go_sem]
  rw [run_neq_struct, show (10000 : Nat) = 9999 + 1 from rfl, run_equalIn_agg w 9999 52 _ _ (by simp [Program.fieldsOf, Try.underlying52]) Try.stoodInHeld52]
  have n1 : ("Told" ≠ "_") = True := by simp
  have n2 : ("Span" ≠ "_") = True := by simp
  have q1 := eqIn_told w 9997 x.td y.td
  have q2 := run_equalIn_int w 9998 3 .i64 .i64 x.span y.span Try.underlying3
  unfold eqH
  revert q1 q2
  generalize (x.span == y.span) = b2
  generalize eqT x.td y.td = b1
  intro q1 q2
  simp only [Program.fieldsOf, Try.underlying52, Op.eqFields, n1, n2, if_true, Sem.run_bind, e1, e2, Result.andThen_ok, q1, q2, Sem.run_ite]
  cases b1 <;> cases b2 <;> simp

set_option maxHeartbeats 2000000 in
theorem outs_any (p q : Option Addr) (n c d : Nat) (T : List Td) (w : World) (hl : T.length = n) (hp : Sl w p n (tdC T)) (hq : Sl w q n (tdC T)) (hm : n ≤ 20000) :
    Calls Try.prog 16 #[.slice p n c, .slice q n d] w fun e w' => e = .returned (.bool true) ∧ Below w.heap.size w w' := by
  have HP := Lib.hid (fun k hk => td_at hp hl k hk)
  have HQ := Lib.hid (fun k hk => td_at hq hl k hk)
  clear hp hq hl
  have eN : ((n : Int) != (n : Int)) = false := by simp
  go_enter Try.func16, Try.ntmps16
  go_wp2_with fail
  go_loopw [5] (fun i wr => ∃ k : Nat, k ≤ n ∧ i = .int .i64 k ∧ Below w.heap.size w wr) (fun i _ => n - (intOf i).toNat)
  case atStart => exact ⟨0, Nat.zero_le _, rfl, Below.refl _ _⟩
  case round =>
    obtain ⟨k, hk, rfl, hb⟩ := hrel
    have HB := Lib.hid hb
    clear hb
    by_cases hlt : k < n
    · obtain ⟨b, off, rfl, hat1⟩ := HP.out k hlt
      obtain ⟨b2, off2, rfl, hat2⟩ := HQ.out k hlt
      obtain ⟨l1, c1, c2⟩ := hat1.below HB.out
      obtain ⟨l2, c3, c4⟩ := hat2.below HB.out
      obtain ⟨x, hx⟩ : ∃ x, x = T.getD k zT := ⟨_, rfl⟩
      rw [← hx] at c1 c2 c3 c4
      have hne : ∀ W, (binOp .neq 28 (.agg #[.int .i64 x.core, .int .u32 x.val]) (.agg #[.int .i64 x.core, .int .u32 x.val])).run Try.prog W = .ok (.bool false) W := fun W => by
        rw [neq_told, eqT_self]; rfl
      have hkI : (k : Int) < (n : Int) := by omega
      clear hat1 hat2 hx eN
      go_upto_region 6 with fail
      go_quiet (fail)
      go_wp2_with fail
      go_roundw
      case rel => exact ⟨k + 1, by omega, by go_num, drewN_below HB.out _⟩
      case measure => simp [intOf]; omega
    · have hkn : k = n := by omega
      subst hkn
      go_wp2_with fail
      go_ret
      exact ⟨rfl, HB.out⟩

set_option maxHeartbeats 4000000 in
set_option maxRecDepth 100000 in
theorem same_any (S T : Nat → Prop) (v u : Value) (L : Gt) (w : World) (h1 : Lo S w v L) (h2 : Lo T w u L) :
    Calls Try.prog 9 #[v, u] w fun e w' => e = .returned (.bool true) ∧ Below w.heap.size w w' := by
  obtain ⟨p, m, c, q, n, d, rfl, hc, -⟩ := h1
  obtain ⟨p', m', c', q', n', d', rfl, hc', -⟩ := h2
  obtain rfl : m' = m := hc'.ml.symm.trans hc.ml
  obtain rfl : n' = n := hc'.ll.symm.trans hc.ll
  have hm := hc.m10
  have hn := hc.n10
  have H1 := Lib.hid (fun k hk => hc.hdAt k hk)
  have H2 := Lib.hid (fun k hk => hc'.hdAt k hk)
  have HO : Hid (∀ W, Below w.heap.size w W → Calls Try.prog 16 #[.slice q n' d, .slice q' n' d'] W fun e w' => e = .returned (.bool true) ∧ Below W.heap.size W w') := Lib.hid (fun W hW => outs_any q q' n' d d' L.out W hc.ll (hc.ls.below hW) (hc'.ls.below hW) (by omega))
  clear hc hc'
  obtain ⟨w0, hw0⟩ : ∃ w0, w0 = (w.alloc (.cells #[.slice p m' c, .slice q n' d] 25)).alloc (.cells #[.slice p' m' c', .slice q' n' d'] 25) := ⟨_, rfl⟩
  have HB0 : Hid (Below w.heap.size w w0) := Lib.hid (by rw [hw0]; exact ((Below.refl _ _).alloc (Nat.le_refl _) _).alloc (by simp) _)
  have HA0 : Hid (Blk w0 w.heap.size #[.slice p m' c, .slice q n' d]) := Lib.hid (by rw [hw0]; exact (Blk.new _ _ _).alloc _)
  have HC0 : Hid (Blk w0 (w.heap.size + 1) #[.slice p' m' c', .slice q' n' d']) := Lib.hid (by
    have := Blk.new (w.alloc (.cells #[.slice p m' c, .slice q n' d] 25)) #[.slice p' m' c', .slice q' n' d'] 25
    rw [World.size_alloc] at this
    rw [hw0]; exact this)
  have HW0 := Lib.hid hw0
  clear hw0
  have eM : ((m' : Int) != (m' : Int)) = false := by simp
  go_enter Try.func9, Try.ntmps9
  have kA0 := HA0.out.c
  have kC0 := HC0.out.c
  go_upto_region 3 with fail
  rw [← HW0.out]
  clear HW0 eM kA0 kC0
  go_wp2_with fail
  go_loopw [5] (fun i wr => ∃ k : Nat, k ≤ m' ∧ i = .int .i64 k ∧ Blk wr w.heap.size #[.slice p m' c, .slice q n' d] ∧ Blk wr (w.heap.size + 1) #[.slice p' m' c', .slice q' n' d'] ∧ Below w.heap.size w wr) (fun i _ => m' - (intOf i).toNat)
  case atStart => exact ⟨0, Nat.zero_le _, rfl, HA0.out, HC0.out, HB0.out⟩
  case round =>
    obtain ⟨k, hk, rfl, ha, hc, hb⟩ := hrel
    have HAA := Lib.hid ha
    have HCC := Lib.hid hc
    have HB := Lib.hid hb
    clear ha hc hb HA0 HC0 HB0
    have kA := HAA.out.c
    have kC := HCC.out.c
    by_cases hlt : k < m'
    · obtain ⟨b, off, rfl, hat⟩ := H1.out k hlt
      obtain ⟨b2, off2, rfl, hat2⟩ := H2.out k hlt
      have hkI : (k : Int) < (m' : Int) := by omega
      obtain ⟨l1, c0, c1, c2⟩ := hat.below HB.out
      obtain ⟨l2, d0, d1, d2⟩ := hat2.below HB.out
      obtain ⟨x, hx⟩ : ∃ x, x = L.held.getD k zH := ⟨_, rfl⟩
      rw [← hx] at c0 c1 c2 d0 d1 d2
      have hne : ∀ W, (binOp .neq 52 (.agg #[.int .i64 x.td.core, .int .u32 x.td.val, .int .i64 x.span]) (.agg #[.int .i64 x.td.core, .int .u32 x.td.val, .int .i64 x.span])).run Try.prog W = .ok (.bool false) W := fun W => by
        rw [neq_held, eqH_self]; rfl
      clear hat hat2 hx
      go_upto_region 6 with fail
      go_quiet (fail)
      go_wp2_with fail
      go_roundw
      case rel => exact ⟨k + 1, by omega, by go_num, HAA.out.drewN _, HCC.out.drewN _, drewN_below HB.out _⟩
      case measure => simp [intOf]; omega
    · have hkn : k = m' := by omega
      subst hkn
      go_wp2_with fail
      refine (HO.out wr HB.out).mono ?_
      rintro e w1 ⟨rfl, hb⟩
      have HBE : Hid (Below w.heap.size w w1) := Lib.hid (HB.out.trans (hb.mono HB.out.size))
      clear hb
      go_wp2_with fail
      go_ret
      exact ⟨rfl, HBE.out⟩
end Go.Proofs.Yteffmidpinlpjaa
