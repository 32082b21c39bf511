/- Logs and words that read alike; the statements' fixed answer, awake; no condition. -/
import Derived.Test.YtbgllkjhgjoodaaUnM
import Derived.DeepKeys
namespace Go.Proofs.Ytbgllkjhgjoodaa
set_option linter.unusedVariables false
open Go.ChangeShapes Go.WideShapes Go.ChangeAt Go.RowKit

def eqN (x y : Un) : Bool := (x.span == y.span) && ((x.at_ == y.at_) && (x.val == y.val))
theorem eqN_iff (x y : Un) : eqN x y = true ↔ x = y := by
  obtain ⟨a, b, c⟩ := x
  obtain ⟨a', b', c'⟩ := y
  unfold eqN
  simp only [Bool.and_eq_true, beq_iff_eq, Un.mk.injEq]
set_option maxHeartbeats 1000000 in
theorem eq_line (w : World) (x y : Un) : (binOp .eql 51 (.agg #[.int .i64 x.span, .int .i64 x.at_, .int .u32 x.val]) (.agg #[.int .i64 y.span, .int .i64 y.at_, .int .u32 y.val])).run Try.prog w = .ok (.bool (eqN x y)) w := by
  have e1 : ∀ x : Un, (part 3 #[.int .i64 x.span, .int .i64 x.at_, .int .u32 x.val] 0).run Try.prog w = .ok (.int .i64 x.span) w := fun x => by simp [part, go_sem]
  have e2 : ∀ x : Un, (part 3 #[.int .i64 x.span, .int .i64 x.at_, .int .u32 x.val] 1).run Try.prog w = .ok (.int .i64 x.at_) w := fun x => by simp [part, go_sem]
  have e3 : ∀ x : Un, (part 26 #[.int .i64 x.span, .int .i64 x.at_, .int .u32 x.val] 2).run Try.prog w = .ok (.int .u32 x.val) w := fun x => by simp [part, go_sem]
  rw [run_eql_struct, show (10000 : Nat) = 9999 + 1 from rfl, run_equalIn_agg w 9999 51 _ _ (by simp [Program.fieldsOf, Try.underlying51]) Try.stoodInHeld51]
  have n1 : ("Span" ≠ "_") = True := by simp
  have n2 : ("At" ≠ "_") = True := by simp
  have n3 : ("Val" ≠ "_") = True := by simp
  have q1 := run_equalIn_int w 9998 3 .i64 .i64 x.span y.span Try.underlying3
  have q2 := run_equalIn_int w 9998 3 .i64 .i64 x.at_ y.at_ Try.underlying3
  have q3 := run_equalIn_int w 9998 26 .u32 .u32 x.val y.val Try.underlying26
  unfold eqN
  revert q1 q2 q3
  generalize (x.span == y.span) = b1
  generalize (x.at_ == y.at_) = b2
  generalize (x.val == y.val) = b3
  intro q1 q2 q3
  simp only [Program.fieldsOf, Try.underlying51, Op.eqFields, n1, n2, n3, if_true, Sem.run_bind, e1, e2, e3, Result.andThen_ok, q1, q2, q3, Sem.run_ite]
  cases b1 <;> cases b2 <;> cases b3 <;> simp
theorem neq_line (w : World) (x y : Un) : (binOp .neq 51 (.agg #[.int .i64 x.span, .int .i64 x.at_, .int .u32 x.val]) (.agg #[.int .i64 y.span, .int .i64 y.at_, .int .u32 y.val])).run Try.prog w = .ok (.bool (!eqN x y)) w := by
  have h := eq_line w x y
  rw [run_eql_struct] at h
  rw [run_neq_struct]
  generalize (Op.equalIn 10000 51 (Value.agg #[.int .i64 x.span, .int .i64 x.at_, .int .u32 x.val]) (Value.agg #[.int .i64 y.span, .int .i64 y.at_, .int .u32 y.val])).run Try.prog w = r at h ⊢
  cases r with
  | ok b w' =>
    simp only [Result.andThen_ok, Result.ok.injEq, Value.bool.injEq] at h ⊢
    exact ⟨by rw [h.1], h.2⟩
  | halt x w' => simp [Result.andThen] at h

set_option maxHeartbeats 2000000 in
theorem words_any (p q : Option Addr) (c d : Nat) (T : List Int) (w : World) (hp : Sl w p T.length (wdC T)) (hq : Sl w q T.length (wdC T)) (hm : T.length ≤ 10000) :
    Calls Try.prog 20 #[.slice p T.length c, .slice q T.length d] w fun e w' => e = .returned (.bool true) ∧ Below w.heap.size w w' := by
  have HP := Lib.hid (fun k hk => wd_at hp k hk)
  have HQ := Lib.hid (fun k hk => wd_at hq k hk)
  obtain ⟨n, hn⟩ : ∃ n, n = T.length := ⟨_, rfl⟩
  rw [← hn] at hm HP HQ ⊢
  clear hp hq hn
  have eN : ((n : Int) != (n : Int)) = false := by simp
  go_enter Try.func20, Try.ntmps20
  go_wp2_with fail
  go_loopw [5] (fun i wr => ∃ k : Nat, k ≤ n ∧ i = .int .i64 k ∧ Below w.heap.size w wr) (fun i _ => n - (intOf i).toNat)
  case atStart => exact ⟨0, Nat.zero_le _, rfl, Below.refl _ _⟩
  case round =>
    obtain ⟨k, hk, rfl, hb⟩ := hrel
    have HB := Lib.hid hb
    clear hb
    by_cases hlt : k < n
    · obtain ⟨b, off, rfl, hl1, h1⟩ := HP.out k hlt
      obtain ⟨b2, off2, rfl, hl2, h2⟩ := HQ.out k hlt
      have c1 := (HB.out.cell (p := ⟨b, off + k, none⟩) hl1).trans h1
      have c2 := (HB.out.cell (p := ⟨b2, off2 + k, none⟩) hl2).trans h2
      obtain ⟨x, hx⟩ : ∃ x, x = T.getD k 0 := ⟨_, rfl⟩
      rw [← hx] at c1 c2
      have eX : (x != x) = false := by simp
      have hkI : (k : Int) < (n : Int) := by omega
      clear h1 h2 hx hl1 hl2 eN
      go_upto_region 6 with fail
      go_quiet (fail)
      go_wp2_with fail
      go_roundw
      case rel => exact ⟨k + 1, by omega, by go_num, drewN_below HB.out _⟩
      case measure => simp [intOf]; omega
    · have hkn : k = n := by omega
      subst hkn
      go_wp2_with fail
      go_ret
      exact ⟨rfl, HB.out⟩

set_option maxHeartbeats 4000000 in
set_option maxRecDepth 100000 in
theorem same_any (S T : Nat → Prop) (v u : Value) (L : Lg) (w : World) (h1 : Lo S w v L) (h2 : Lo T w u L) :
    Calls Try.prog 9 #[v, u] w fun e w' => e = .returned (.bool true) ∧ Below w.heap.size w w' := by
  obtain ⟨p, m, c, q, n, d, rfl, hc, -⟩ := h1
  obtain ⟨p', m', c', q', n', d', rfl, hc', -⟩ := h2
  obtain rfl : m' = m := hc'.ml.symm.trans hc.ml
  obtain rfl : n' = n := hc'.ll.symm.trans hc.ll
  have hm := hc.m10
  have hn := hc.n10
  have H1 := Lib.hid (fun k hk => hc.wdAt k hk)
  have H2 := Lib.hid (fun k hk => hc'.wdAt k hk)
  have H3 := Lib.hid (fun k hk => hc.unAt k hk)
  have H4 := Lib.hid (fun k hk => hc'.unAt k hk)
  obtain ⟨s, hs⟩ : ∃ s, s = L.span := ⟨_, rfl⟩
  rw [← hs]
  clear hc hc' hs
  obtain ⟨w0, hw0⟩ : ∃ w0, w0 = (w.alloc (.cells #[.slice p m' c, .int .i64 s, .slice q n' d] 25)).alloc (.cells #[.slice p' m' c', .int .i64 s, .slice q' n' d'] 25) := ⟨_, rfl⟩
  have HB0 : Hid (Below w.heap.size w w0) := Lib.hid (by rw [hw0]; exact ((Below.refl _ _).alloc (Nat.le_refl _) _).alloc (by simp) _)
  have HA0 : Hid (Blk w0 w.heap.size #[.slice p m' c, .int .i64 s, .slice q n' d]) := Lib.hid (by rw [hw0]; exact (Blk.new _ _ _).alloc _)
  have HC0 : Hid (Blk w0 (w.heap.size + 1) #[.slice p' m' c', .int .i64 s, .slice q' n' d']) := Lib.hid (by
    have := Blk.new (w.alloc (.cells #[.slice p m' c, .int .i64 s, .slice q n' d] 25)) #[.slice p' m' c', .int .i64 s, .slice q' n' d'] 25
    rw [World.size_alloc] at this
    rw [hw0]; exact this)
  have HW0 := Lib.hid hw0
  clear hw0
  have eA : (s != s) = false := by simp
  have eM : ((m' : Int) != (m' : Int)) = false := by simp
  have eN : ((n' : Int) != (n' : Int)) = false := by simp
  go_enter Try.func9, Try.ntmps9
  have kA0 := HA0.out.c
  have kC0 := HC0.out.c
  go_upto_region 3 with fail
  rw [← HW0.out]
  clear HW0 eA eN eM kA0 kC0
  go_wp2_with fail
  go_loopw [5] (fun i wr => ∃ k : Nat, k ≤ m' ∧ i = .int .i64 k ∧ Blk wr w.heap.size #[.slice p m' c, .int .i64 s, .slice q n' d] ∧ Blk wr (w.heap.size + 1) #[.slice p' m' c', .int .i64 s, .slice q' n' d'] ∧ Below w.heap.size w wr) (fun i _ => m' - (intOf i).toNat)
  case atStart => exact ⟨0, Nat.zero_le _, rfl, HA0.out, HC0.out, HB0.out⟩
  case round =>
    obtain ⟨k, hk, rfl, ha, hc, hb⟩ := hrel
    have HAA := Lib.hid ha
    have HCC := Lib.hid hc
    have HB := Lib.hid hb
    clear ha hc hb HA0 HC0 HB0
    have kA := HAA.out.c
    have kC := HCC.out.c
    by_cases hlt : k < m'
    · obtain ⟨b, off, rfl, hb1, hc1⟩ := H1.out k hlt
      obtain ⟨b2, off2, rfl, hb2, hc2⟩ := H2.out k hlt
      have hkI : (k : Int) < (m' : Int) := by omega
      have c1 := (HB.out.cell (p := ⟨b, off + k, none⟩) hb1).trans hc1
      have c2 := (HB.out.cell (p := ⟨b2, off2 + k, none⟩) hb2).trans hc2
      obtain ⟨x, hx⟩ : ∃ x, x = L.mem.getD k 0 := ⟨_, rfl⟩
      rw [← hx] at c1 c2
      have eX : (x != x) = false := by simp
      clear hb1 hb2 hc1 hc2 hx
      go_upto_region 6 with fail
      go_quiet (fail)
      go_wp2_with fail
      go_roundw
      case rel => exact ⟨k + 1, by omega, by go_num, HAA.out.drewN _, HCC.out.drewN _, drewN_below HB.out _⟩
      case measure => simp [intOf]; omega
    · have hkn : k = m' := by omega
      subst hkn
      go_wp2_with fail
      obtain ⟨wo, hwo⟩ : ∃ wo, wo = wr := ⟨_, rfl⟩
      subst hwo
      clear kA kC
      go_loopw [6] (fun i wr => ∃ j : Nat, j ≤ n' ∧ i = .int .i64 j ∧ Blk wr w.heap.size #[.slice p k c, .int .i64 s, .slice q n' d] ∧ Blk wr (w.heap.size + 1) #[.slice p' k c', .int .i64 s, .slice q' n' d'] ∧ Below w.heap.size w wr) (fun i _ => n' - (intOf i).toNat)
      case atStart => exact ⟨0, Nat.zero_le _, rfl, HAA.out, HCC.out, HB.out⟩
      case round =>
        obtain ⟨j, hj, rfl, ha, hc, hb⟩ := hrel
        have HAB := Lib.hid ha
        have HCB := Lib.hid hc
        have HBB := Lib.hid hb
        clear ha hc hb HAA HCC HB
        have kA := HAB.out.c
        have kC := HCB.out.c
        by_cases hlt : j < n'
        · obtain ⟨b, off, rfl, hat⟩ := H3.out j hlt
          obtain ⟨b2, off2, rfl, hat2⟩ := H4.out j hlt
          have hjI : (j : Int) < (n' : Int) := by omega
          obtain ⟨l1, c0, c1, c2⟩ := hat.below HBB.out
          obtain ⟨l2, d0, d1, d2⟩ := hat2.below HBB.out
          obtain ⟨x, hx⟩ : ∃ x, x = L.list.getD j zU := ⟨_, rfl⟩
          rw [← hx] at c0 c1 c2 d0 d1 d2
          have hne : ∀ W, (binOp .neq 51 (.agg #[.int .i64 x.span, .int .i64 x.at_, .int .u32 x.val]) (.agg #[.int .i64 x.span, .int .i64 x.at_, .int .u32 x.val])).run Try.prog W = .ok (.bool false) W := fun W => by
            rw [neq_line, (eqN_iff x x).2 rfl]; rfl
          clear hat hat2 hx
          go_upto_region 11 with fail
          go_quiet (fail)
          go_wp2_with fail
          go_roundw
          case rel => exact ⟨j + 1, by omega, by go_num, HAB.out.drewN _, HCB.out.drewN _, drewN_below HBB.out _⟩
          case measure => simp [intOf]; omega
        · have hjn : j = n' := by omega
          subst hjn
          go_wp2_with fail
          go_ret
          exact ⟨rfl, HBB.out⟩

def aw0 : Lg := ⟨[0, 0], 0, []⟩
def aw1 : Lg := ⟨[5, 0], 0, [⟨0, 0, 0⟩]⟩
def aw2 : Lg := ⟨[5, 0], 1, [⟨0, 0, 0⟩]⟩
def aw3 : Lg := ⟨[6, 0], 1, [⟨0, 0, 0⟩, ⟨1, 0, 5⟩]⟩
def aw4 : Lg := ⟨[7, 0], 1, [⟨0, 0, 0⟩, ⟨1, 0, 5⟩]⟩
theorem aw_0 : newL 2 = aw0 ∧ newE 2 = 0 := ⟨rfl, rfl⟩
theorem aw_1 : writeL aw0 0 5 = aw1 ∧ writeE aw0 0 = 0 := ⟨by kernel_rfl, by kernel_rfl⟩
theorem aw_2 : nextL aw1 = aw2 ∧ nextE aw1 = 0 := ⟨by kernel_rfl, by kernel_rfl⟩
theorem aw_3 : writeL aw2 0 6 = aw3 ∧ writeE aw2 0 = 0 := ⟨by kernel_rfl, by kernel_rfl⟩
theorem aw_4 : writeL aw3 0 7 = aw4 ∧ writeE aw3 0 = 0 := ⟨by kernel_rfl, by kernel_rfl⟩
theorem aw_5 : backL aw4 1 = aw2 ∧ backE aw4 1 = 0 := ⟨by kernel_rfl, by kernel_rfl⟩
theorem aw_6 : roomL aw2 = 255 := by kernel_rfl
end Go.Proofs.Ytbgllkjhgjoodaa
