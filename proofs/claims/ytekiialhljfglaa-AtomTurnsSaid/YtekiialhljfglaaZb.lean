/- Laid together, in this order: CoreFacts, CoreFacts2, Blk, AtomNum, AtomA, CoreEq, CoreEq2, CoreB, AtomB, AtomC, AtomD, AtomE, AtomF. -/
import Derived.Test.YtekiialhljfglaaZa
import Derived.WalkKit
import Derived.ProofKit
import Derived.Below
import Derived.Lib.Hide
import Derived.StillTailTactics
import Derived.Deep.QuietTactic
import Derived.Lib.SliceRun
import Derived.Lib.Walk
import Derived.DeepKeys
import Derived.BigQuiet
import Derived.Deep.RegionHeld3
import Derived.Deep.RegionWith
/- What is true of what a core wants and becomes: plain facts on numbers, no program in sight. -/
namespace Go.Proofs.Ytekiialhljfglaa
set_option linter.unusedVariables false

theorem kind_read {x : I5} {c : Cor} {n : Int} : ((wantX x c n).kind = 1 ↔ x.op = 9) ∧ ((wantX x c n).kind = 3 ↔ x.op = 11) := by
  unfold wantX
  by_cases h9 : x.op = 9
  · rw [if_pos h9]; exact ⟨⟨fun _ => h9, fun _ => rfl⟩, ⟨fun h => by simp at h, fun h => by omega⟩⟩
  by_cases h10 : x.op = 10
  · rw [if_neg h9, if_pos h10]; simp only; omega
  by_cases h11 : x.op = 11
  · rw [if_neg h9, if_neg h10, if_pos h11]; exact ⟨⟨fun h => by simp at h, fun h => by omega⟩, ⟨fun _ => h11, fun _ => rfl⟩⟩
  by_cases h15 : x.op = 15
  · rw [if_neg h9, if_neg h10, if_neg h11, if_pos h15]; simp only; omega
  by_cases h16 : x.op = 16
  · rw [if_neg h9, if_neg h10, if_neg h11, if_neg h15, if_pos h16]; simp only; omega
  rw [if_neg h9, if_neg h10, if_neg h11, if_neg h15, if_neg h16]; simp only; omega

/-- Where a core doesn't read, what it is answered doesn't count. -/
theorem done_plain_same {l : List I5} {c : Cor} {n : Int} (a b : Int) (h1 : (wantOf l c n).kind ≠ 1) (h3 : (wantOf l c n).kind ≠ 3) : doneOf l c a = doneOf l c b := by
  unfold doneOf wantOf at *
  cases hb : (c.h || !coreB l c) with
  | true => rfl
  | false =>
    rw [hb] at h1 h3
    rw [if_neg (by decide)] at h1 h3
    rw [if_neg (by decide), if_neg (by decide)]
    have k1 : (insAt l c).op ≠ 9 := fun h => h1 (kind_read.1.2 h)
    have k3 : (insAt l c).op ≠ 11 := fun h => h3 (kind_read.2.2 h)
    unfold doneX madeV
    rw [if_neg (c := (insAt l c).op = 9 ∨ (insAt l c).op = 11) (by omega), if_neg (c := (insAt l c).op = 9 ∨ (insAt l c).op = 11) (by omega)]

/-- Where it reads, one register becomes what it is answered; all else is as if it were answered anything. -/
theorem done_read {l : List I5} {c : Cor} {n : Int} (h : (wantOf l c n).kind = 1 ∨ (wantOf l c n).kind = 3) :
    c.h = false ∧ ∃ (A : Nat) (p : Int), A < 8 ∧ ∀ a, doneOf l c a = ⟨fun i => if i = A then a else c.r i, p, false⟩ := by
  unfold wantOf at h
  cases hb : (c.h || !coreB l c) with
  | true => rw [hb, if_pos rfl] at h; simp only at h; omega
  | false =>
    rw [hb, if_neg (by decide)] at h
    simp only [Bool.or_eq_false_iff, Bool.not_eq_false'] at hb
    have ho : (insAt l c).op = 9 ∨ (insAt l c).op = 11 := by
      rcases h with h | h
      · exact Or.inl (kind_read.1.1 h)
      · exact Or.inr (kind_read.2.1 h)
    have hm := may_regs (core_ins hb.2)
    refine ⟨hb.1, (insAt l c).a.toNat, nextX (insAt l c) c, by omega, fun a => ?_⟩
    have ok : madeOk (insAt l c) = true := decide_eq_true (by omega)
    have e : doneOf l c a = doneX (insAt l c) c a := by unfold doneOf; rw [hb.1, hb.2]; rfl
    rw [e]
    unfold doneX madeV
    rw [if_neg (by omega), ok, if_pos rfl, if_neg (by omega), if_pos ho]
    unfold Cor.go Cor.set
    rw [hb.1]
end Go.Proofs.Ytekiialhljfglaa
/- A core that may be stays one, changes one register at most, and what it wants is there: plain facts on numbers, no program in sight. -/
namespace Go.Proofs.Ytekiialhljfglaa
set_option linter.unusedVariables false
open Go.RowKit

theorem goal_in {l : List I5} (h : rightB l = true) (i : Nat) (hi : i < l.length) (hj : (at5 l i).op = 13 ∨ (at5 l i).op = 14) : (at5 l i).k < l.length := by
  have hm := (right_has h).2.2.2 i hi
  unfold mayB at hm
  simp only [Bool.and_eq_true] at hm
  have hk := hm.2.2.2.2
  have hu : useK (at5 l i).op = true := decide_eq_true (by omega)
  rw [hu] at hk
  have := of_decide_eq_true hk
  omega
theorem next_in {l : List I5} (h : rightB l = true) (i : Nat) (hi : i < l.length) (h1 : (at5 l i).op ≠ 13) (h2 : (at5 l i).op ≠ 16) : i + 1 < l.length := by
  have he := (right_has h).2.2.1
  by_cases hl : i = l.length - 1
  · rw [← hl] at he
    have := of_decide_eq_true he
    omega
  · omega

theorem not_wrong {l : List I5} {c : Cor} (hc : coreB l c = true) (hh : c.h = false) : (c.h || !coreB l c) = false := by rw [hc, hh]; rfl
theorem done_is {l : List I5} {c : Cor} (a : Int) (hc : coreB l c = true) (hh : c.h = false) : doneOf l c a = doneX (insAt l c) c a := by
  unfold doneOf; rw [not_wrong hc hh]; rfl
theorem want_is {l : List I5} {c : Cor} (n : Int) (hc : coreB l c = true) (hh : c.h = false) : wantOf l c n = wantX (insAt l c) c n := by
  unfold wantOf; rw [not_wrong hc hh]; rfl
theorem done_halt {l : List I5} {c : Cor} (a : Int) (hh : c.h = true) : doneOf l c a = c := by unfold doneOf; rw [hh]; rfl
theorem want_halt {l : List I5} {c : Cor} (n : Int) (hh : c.h = true) : wantOf l c n = ⟨5, 0, 0, 0⟩ := by unfold wantOf; rw [hh]; rfl

theorem core_of_pc {l : List I5} {c d : Cor} (hc : coreB l c = true) (h0 : 0 ≤ d.pc) (h1 : d.pc < l.length) : coreB l d = true := by
  unfold coreB; rw [decide_eq_true h0, decide_eq_true h1, (core_has hc).2.2]; rfl

theorem next_ok {l : List I5} {c : Cor} (hk0 : 0 ≤ (insAt l c).k) (hc : coreB l c = true) (h16 : (insAt l c).op ≠ 16) : 0 ≤ nextX (insAt l c) c ∧ nextX (insAt l c) c < l.length := by
  obtain ⟨h0, h1, h2⟩ := core_has hc
  unfold nextX
  by_cases hj : (insAt l c).op = 13 ∨ (insAt l c).op = 14 ∧ c.r (insAt l c).a.toNat = 0
  · rw [if_pos hj]
    exact ⟨hk0, goal_in h2 c.pc.toNat (by omega) (by show (insAt l c).op = 13 ∨ (insAt l c).op = 14; omega)⟩
  · rw [if_neg hj]
    have := next_in h2 c.pc.toNat (by omega) (by show (insAt l c).op ≠ 13; omega) h16
    omega

theorem done_stays {l : List I5} {c : Cor} (a : Int) (hk0 : 0 ≤ (insAt l c).k) (hc : coreB l c = true) : coreB l (doneOf l c a) = true := by
  cases hh : c.h with
  | true => rw [done_halt a hh]; exact hc
  | false =>
    rw [done_is a hc hh]
    unfold doneX
    by_cases h16 : (insAt l c).op = 16
    · rw [if_pos h16]; exact hc
    · have hn := next_ok hk0 hc h16
      rw [if_neg h16]
      cases madeOk (insAt l c) with
      | true => rw [if_pos rfl]; exact core_of_pc hc hn.1 hn.2
      | false => rw [if_neg (by decide)]; exact core_of_pc hc hn.1 hn.2

/-- At most one register is turned: the one of number A. -/
theorem done_one (l : List I5) (c : Cor) (a : Int) : ∃ A : Nat, ∀ i, i ≠ A → (doneOf l c a).r i = c.r i := by
  refine ⟨(insAt l c).a.toNat, fun i hi => ?_⟩
  unfold doneOf
  cases (c.h || !coreB l c) with
  | true => rw [if_pos rfl]
  | false =>
    rw [if_neg (by decide)]
    unfold doneX
    by_cases h16 : (insAt l c).op = 16
    · rw [if_pos h16]; rfl
    · rw [if_neg h16]
      cases madeOk (insAt l c) with
      | true => rw [if_pos rfl]; show (if i = (insAt l c).a.toNat then _ else _) = _; rw [if_neg hi]; rfl
      | false => rw [if_neg (by decide)]; rfl

theorem kind_other {x : I5} {c : Cor} {n : Int} : ((wantX x c n).kind = 2 ↔ x.op = 10) ∧ ((wantX x c n).kind = 4 ↔ x.op = 15) ∧ ((wantX x c n).kind = 5 ↔ x.op = 16) ∧ 0 ≤ (wantX x c n).kind ∧ (wantX x c n).kind ≤ 5 := by
  unfold wantX
  by_cases h9 : x.op = 9
  · rw [if_pos h9]; simp; omega
  by_cases h10 : x.op = 10
  · rw [if_neg h9, if_pos h10]; simp; omega
  by_cases h11 : x.op = 11
  · rw [if_neg h9, if_neg h10, if_pos h11]; simp; omega
  by_cases h15 : x.op = 15
  · rw [if_neg h9, if_neg h10, if_neg h11, if_pos h15]; simp; omega
  by_cases h16 : x.op = 16
  · rw [if_neg h9, if_neg h10, if_neg h11, if_neg h15, if_pos h16]; simp; omega
  rw [if_neg h9, if_neg h10, if_neg h11, if_neg h15, if_neg h16]; simp; omega

theorem want_kind (l : List I5) (c : Cor) (n : Int) : 0 ≤ (wantOf l c n).kind ∧ (wantOf l c n).kind ≤ 5 := by
  unfold wantOf
  cases (c.h || !coreB l c) with
  | true => rw [if_pos rfl]; simp
  | false => rw [if_neg (by decide)]; exact kind_other.2.2.2
theorem placeN_in (m n : Int) (hn : 1 ≤ n) : 0 ≤ placeN m n ∧ placeN m n < n := by
  unfold placeN; rw [if_neg (by omega)]; exact ⟨Int.emod_nonneg _ (by omega), Int.emod_lt_of_pos _ (by omega)⟩
theorem want_at (l : List I5) (c : Cor) (n : Int) (hn : 1 ≤ n) : 0 ≤ (wantOf l c n).at_ ∧ (wantOf l c n).at_ < n := by
  unfold wantOf
  cases (c.h || !coreB l c) with
  | true => rw [if_pos rfl]; simp only; omega
  | false =>
    rw [if_neg (by decide)]
    unfold wantX
    have hp := placeN_in (c.r (insAt l c).b.toNat) n hn
    by_cases h9 : (insAt l c).op = 9
    · rw [if_pos h9]; exact hp
    by_cases h10 : (insAt l c).op = 10
    · rw [if_neg h9, if_pos h10]; exact hp
    by_cases h11 : (insAt l c).op = 11
    · rw [if_neg h9, if_neg h10, if_pos h11]; exact hp
    by_cases h15 : (insAt l c).op = 15
    · rw [if_neg h9, if_neg h10, if_neg h11, if_pos h15]; simp only; omega
    by_cases h16 : (insAt l c).op = 16
    · rw [if_neg h9, if_neg h10, if_neg h11, if_neg h15, if_pos h16]; simp only; omega
    rw [if_neg h9, if_neg h10, if_neg h11, if_neg h15, if_neg h16]; simp only; omega

/-- One that rests is so for ever. -/
theorem want_rest {l : List I5} {c : Cor} {n : Int} (a : Int) (hc : coreB l c = true) (h5 : (wantOf l c n).kind = 5) :
    (∀ i, (doneOf l c a).r i = c.r i) ∧ (doneOf l c a).h = true ∧ wantOf l (doneOf l c a) n = wantOf l c n := by
  cases hh : c.h with
  | true => rw [done_halt a hh]; exact ⟨fun i => rfl, hh, rfl⟩
  | false =>
    rw [want_is n hc hh] at h5
    have h16 := kind_other.2.2.1.1 h5
    have e : doneOf l c a = c.stop := by rw [done_is a hc hh]; unfold doneX; rw [if_pos h16]
    rw [e]
    refine ⟨fun i => rfl, rfl, ?_⟩
    rw [want_halt n rfl, want_is n hc hh]
    unfold wantX
    rw [if_neg (by omega), if_neg (by omega), if_neg (by omega), if_neg (by omega), if_pos h16]

/-- One that writes or tells turns no register, whatever it is answered. -/
theorem want_write {l : List I5} {c : Cor} {n : Int} (a : Int) (hc : coreB l c = true) (h24 : (wantOf l c n).kind = 2 ∨ (wantOf l c n).kind = 4) : (∀ i, (doneOf l c a).r i = c.r i) ∧ doneOf l c a = doneOf l c 0 := by
  refine ⟨?_, done_plain_same (n := n) a 0 (by omega) (by omega)⟩
  cases hh : c.h with
  | true => rw [done_halt a hh]; exact fun i => rfl
  | false =>
    rw [want_is n hc hh] at h24
    have ho : (insAt l c).op = 10 ∨ (insAt l c).op = 15 := by
      rcases h24 with h | h
      · exact Or.inl (kind_other.1.1 h)
      · exact Or.inr (kind_other.2.1.1 h)
    rw [done_is a hc hh]
    unfold doneX
    have ok : madeOk (insAt l c) = false := decide_eq_false (by omega)
    rw [if_neg (by omega), ok, if_neg (by decide)]
    exact fun i => rfl

theorem doV_fits (op b c : Int) (hb : 0 ≤ b ∧ b ≤ 4294967295) (hc : 0 ≤ c ∧ c ≤ 4294967295) : 0 ≤ doV op b c ∧ doV op b c ≤ 4294967295 := by
  unfold doV
  by_cases h2 : op = 2
  · rw [if_pos h2]; unfold uadd; rw [wrap_u32]; omega
  by_cases h3 : op = 3
  · rw [if_neg h2, if_pos h3]; unfold usub; rw [wrap_u32]; omega
  by_cases h4 : op = 4
  · rw [if_neg h2, if_neg h3, if_pos h4]; unfold umul; rw [wrap_u32]; omega
  by_cases h5 : op = 5
  · rw [if_neg h2, if_neg h3, if_neg h4, if_pos h5]
    obtain ⟨n, rfl⟩ := Int.eq_ofNat_of_zero_le hb.1
    obtain ⟨m, rfl⟩ := Int.eq_ofNat_of_zero_le hc.1
    rw [and_of n m (by omega) (by omega)]
    have := bitN_lt true n m (by omega) (by omega)
    omega
  by_cases h6 : op = 6
  · rw [if_neg h2, if_neg h3, if_neg h4, if_neg h5, if_pos h6]
    obtain ⟨n, rfl⟩ := Int.eq_ofNat_of_zero_le hb.1
    obtain ⟨m, rfl⟩ := Int.eq_ofNat_of_zero_le hc.1
    rw [xor_of n m (by omega) (by omega)]
    have := bitN_lt false n m (by omega) (by omega)
    omega
  by_cases h7 : op = 7
  · rw [if_neg h2, if_neg h3, if_neg h4, if_neg h5, if_neg h6, if_pos h7]
    have := ueq_bd b c
    omega
  by_cases h8 : op = 8
  · rw [if_neg h2, if_neg h3, if_neg h4, if_neg h5, if_neg h6, if_neg h7, if_pos h8]
    have := ult_bd b c
    omega
  rw [if_neg h2, if_neg h3, if_neg h4, if_neg h5, if_neg h6, if_neg h7, if_neg h8]; omega

/-- What fits goes on fitting. -/
theorem done_fits {l : List I5} {c : Cor} {a : Int} (hf : c.Fits) (ha : 0 ≤ a ∧ a ≤ 4294967295) (hk0 : 0 ≤ (insAt l c).k) (hk1 : (insAt l c).k ≤ 4294967295) : (doneOf l c a).Fits := by
  have key : ∀ i, i < 8 → 0 ≤ (doneOf l c a).r i ∧ (doneOf l c a).r i ≤ 4294967295 := fun i hi => by
    have hci : 0 ≤ c.r i ∧ c.r i ≤ 4294967295 := ⟨hf.r0 i hi, hf.r1 i hi⟩
    unfold doneOf
    cases hb : (c.h || !coreB l c) with
    | true => rw [if_pos rfl]; exact hci
    | false =>
      simp only [Bool.or_eq_false_iff, Bool.not_eq_false'] at hb
      have hm := may_regs (core_ins hb.2)
      rw [if_neg (by decide)]
      unfold doneX
      by_cases h16 : (insAt l c).op = 16
      · rw [if_pos h16]; exact hci
      · rw [if_neg h16]
        cases madeOk (insAt l c) with
        | false => rw [if_neg (by decide)]; exact hci
        | true =>
          rw [if_pos rfl]
          show 0 ≤ (if i = (insAt l c).a.toNat then _ else _) ∧ (if i = (insAt l c).a.toNat then _ else _) ≤ _
          by_cases hA : i = (insAt l c).a.toNat
          · rw [if_pos hA]
            unfold madeV
            by_cases h1 : (insAt l c).op = 1
            · rw [if_pos h1]; exact ⟨hk0, hk1⟩
            · rw [if_neg h1]
              by_cases h9 : (insAt l c).op = 9 ∨ (insAt l c).op = 11
              · rw [if_pos h9]; exact ha
              · rw [if_neg h9]
                exact doV_fits _ _ _ ⟨hf.r0 _ (by omega), hf.r1 _ (by omega)⟩ ⟨hf.r0 _ (by omega), hf.r1 _ (by omega)⟩
          · rw [if_neg hA]; exact hci
  exact ⟨fun i hi => (key i hi).1, fun i hi => (key i hi).2⟩

/-- How many of the first j registers were turned. -/
def cnt (r x : Nat → Int) : Nat → Nat
  | 0 => 0
  | j + 1 => cnt r x j + (if r j = x j then 0 else 1)
theorem cnt_le (r x : Nat → Int) (j : Nat) : cnt r x j ≤ j := by
  induction j with
  | zero => exact Nat.le_refl _
  | succ j ih => show cnt r x j + (if r j = x j then 0 else 1) ≤ j + 1; split <;> omega
theorem cnt_zero (r x : Nat → Int) (h : ∀ i, x i = r i) (j : Nat) : cnt r x j = 0 := by
  induction j with
  | zero => rfl
  | succ j ih => show cnt r x j + (if r j = x j then 0 else 1) = 0; rw [ih, if_pos (h j).symm]
theorem cnt_one (r x : Nat → Int) (A : Nat) (h : ∀ i, i ≠ A → x i = r i) (j : Nat) : cnt r x j ≤ 1 ∧ (j ≤ A → cnt r x j = 0) := by
  induction j with
  | zero => exact ⟨Nat.zero_le _, fun _ => rfl⟩
  | succ j ih =>
    show cnt r x j + (if r j = x j then 0 else 1) ≤ 1 ∧ (j + 1 ≤ A → cnt r x j + (if r j = x j then 0 else 1) = 0)
    by_cases hj : j = A
    · subst hj
      have := ih.2 (Nat.le_refl _)
      refine ⟨?_, fun hh => by omega⟩
      split <;> omega
    · rw [if_pos (h j hj).symm]
      exact ⟨by omega, fun hh => by have := ih.2 (by omega); omega⟩
end Go.Proofs.Ytekiialhljfglaa
/- Blocks of memory of which all is known, and how they stay so: behind new blocks, calls that write nothing which was there, and stores elsewhere; no program in sight. -/
namespace Go.Proofs.Ytekiialhljfglaa
set_option linter.unusedVariables false
open Go.ChangeShapes Go.WideShapes Go.ChangeAt Go.RowKit

/-- Block B holds just these cells, and none of them is frozen. -/
structure Blk (w : World) (B : Nat) (cs : Array Value) : Prop where
  lt : B < w.heap.size
  c : ∀ j, w.cell? ⟨B, j, none⟩ = cs[j]?
  f : ∀ j, w.frozen? ⟨B, j, none⟩ = false

theorem Blk.new (w : World) (cs : Array Value) (t : TypeId) : Blk (w.alloc (.cells cs t)) w.heap.size cs :=
  ⟨by simp, fun j => World.cell?_alloc_new w cs t j, fun j => World.frozen?_alloc_at cs t _ j rfl⟩
theorem Blk.below {w w' : World} {B : Nat} {cs : Array Value} (h : Blk w B cs) (hb : Below w.heap.size w w') : Blk w' B cs :=
  ⟨Nat.lt_of_lt_of_le h.lt hb.size, fun j => (hb.cell (p := ⟨B, j, none⟩) h.lt).trans (h.c j), fun j => (hb.frozen (p := ⟨B, j, none⟩) h.lt).trans (h.f j)⟩
theorem Blk.belowN {w w' : World} {B M : Nat} {cs : Array Value} (h : Blk w B cs) (hb : Below M w w') (hM : B < M) : Blk w' B cs :=
  ⟨Nat.lt_of_lt_of_le h.lt hb.size, fun j => (hb.cell (p := ⟨B, j, none⟩) hM).trans (h.c j), fun j => (hb.frozen (p := ⟨B, j, none⟩) hM).trans (h.f j)⟩
theorem Blk.alloc {w : World} {B : Nat} {cs : Array Value} (h : Blk w B cs) (o : Obj) : Blk (w.alloc o) B cs := h.below ((Below.refl _ _).alloc (Nat.le_refl _) _)
theorem Blk.drew {w : World} {B : Nat} {cs : Array Value} (h : Blk w B cs) : Blk w.drew B cs := ⟨h.lt, h.c, h.f⟩
theorem Blk.set {w : World} {B n : Nat} {cs : Array Value} (h : Blk w B cs) (v : Value) (hn : n < cs.size) : Blk (w.setCell ⟨B, n, none⟩ v) B (cs.setIfInBounds n v) := by
  refine ⟨by simpa using h.lt, fun j => ?_, fun j => by simpa using h.f j⟩
  by_cases hj : n = j
  · subst hj
    rw [Array.getElem?_setIfInBounds_self_of_lt hn]
    exact World.cell?_setCell_same _ _ _ ((h.c n).trans (Array.getElem?_eq_getElem hn))
  · rw [Array.getElem?_setIfInBounds_ne hj, World.cell?_setCell_other _ _ _ _ (by intro e; injection e with _ e2; exact hj e2)]
    exact h.c j
theorem Blk.other {w : World} {B B' n : Nat} {cs : Array Value} (h : Blk w B cs) (v : Value) (hne : B' ≠ B) : Blk (w.setCell ⟨B', n, none⟩ v) B cs :=
  ⟨by simpa using h.lt, fun j => (World.cell?_setCell_other _ _ _ _ (by intro e; injection e with e1; exact hne e1)).trans (h.c j), fun j => by simpa using h.f j⟩
theorem Blk.cast {w : World} {B : Nat} {cs ds : Array Value} (h : Blk w B cs) (e : cs = ds) : Blk w B ds := e ▸ h

/-- Blocks that were laid just ahead of a call. -/
theorem Blk.track1 {w w' : World} {cs : Array Value} {t : TypeId} (hb : Below (w.alloc (.cells cs t)).heap.size (w.alloc (.cells cs t)) w') : Blk w' w.heap.size cs := (Blk.new w cs t).below hb
theorem Blk.track2 {w w' : World} {cs : Array Value} {t : TypeId} {o : Obj} (hb : Below ((w.alloc (.cells cs t)).alloc o).heap.size ((w.alloc (.cells cs t)).alloc o) w') : Blk w' w.heap.size cs := ((Blk.new w cs t).alloc o).below hb
theorem Blk.carry1 {w w' : World} {B : Nat} {cs : Array Value} {o : Obj} (h : Blk w B cs) (hb : Below (w.alloc o).heap.size (w.alloc o) w') : Blk w' B cs := (h.alloc o).below hb

theorem Blk.drewN {w : World} {B : Nat} {cs : Array Value} (h : Blk w B cs) (n : Nat) : Blk (w.drewN n) B cs := ⟨h.lt, h.c, h.f⟩

/-- A block that was laid behind W0. -/
structure Trk (W0 w' : World) (X : Nat) (cs : Array Value) : Prop where
  blk : Blk w' X cs
  ge : W0.heap.size ≤ X
theorem Trk.one {W0 w' : World} {cs : Array Value} {t : TypeId} (hb : Below (W0.alloc (.cells cs t)).drew.heap.size (W0.alloc (.cells cs t)).drew w') : Trk W0 w' W0.heap.size cs := ⟨(Blk.new W0 cs t).drew.below hb, Nat.le_refl _⟩
theorem Trk.two1 {W0 w' : World} {cs : Array Value} {t : TypeId} {o : Obj} (hb : Below ((W0.alloc (.cells cs t)).alloc o).drew.heap.size ((W0.alloc (.cells cs t)).alloc o).drew w') : Trk W0 w' W0.heap.size cs := ⟨((Blk.new W0 cs t).alloc o).drew.below hb, Nat.le_refl _⟩
theorem Trk.two2 {W0 w' : World} {cs : Array Value} {t : TypeId} {o : Obj} (hb : Below ((W0.alloc o).alloc (.cells cs t)).drew.heap.size ((W0.alloc o).alloc (.cells cs t)).drew w') : Trk W0 w' (W0.heap.size + 1) cs := by
  have h := (Blk.new (W0.alloc o) cs t).drew.below hb
  rw [World.size_alloc] at h
  exact ⟨h, Nat.le_succ _⟩
theorem Trk.carry0 {W0 w w' : World} {X : Nat} {cs : Array Value} (h : Trk W0 w X cs) (hb : Below w.heap.size w w') : Trk W0 w' X cs := ⟨h.blk.below hb, h.ge⟩
theorem Trk.carry1 {W0 w w' : World} {X : Nat} {cs : Array Value} {o : Obj} (h : Trk W0 w X cs) (hb : Below (w.alloc o).heap.size (w.alloc o) w') : Trk W0 w' X cs := ⟨(h.blk.alloc o).below hb, h.ge⟩
theorem Trk.at1 {W0 w w' : World} {cs : Array Value} {t : TypeId} (hw : Below W0.heap.size W0 w) (hb : Below (w.alloc (.cells cs t)).heap.size (w.alloc (.cells cs t)) w') : Trk W0 w' w.heap.size cs := ⟨Blk.track1 hb, hw.size⟩
theorem Trk.at21 {W0 w w' : World} {cs : Array Value} {t : TypeId} {o : Obj} (hw : Below W0.heap.size W0 w) (hb : Below ((w.alloc (.cells cs t)).alloc o).heap.size ((w.alloc (.cells cs t)).alloc o) w') : Trk W0 w' w.heap.size cs := ⟨Blk.track2 hb, hw.size⟩
theorem Trk.at22 {W0 w w' : World} {cs : Array Value} {t : TypeId} {o : Obj} (hw : Below W0.heap.size W0 w) (hb : Below ((w.alloc o).alloc (.cells cs t)).heap.size ((w.alloc o).alloc (.cells cs t)) w') : Trk W0 w' (w.heap.size + 1) cs := by
  have h := (Blk.new (w.alloc o) cs t).below hb
  rw [World.size_alloc] at h
  exact ⟨h, Nat.le_trans hw.size (Nat.le_succ _)⟩
theorem belowAlloc {W0 w : World} (h : Below W0.heap.size W0 w) (o : Obj) : Below W0.heap.size W0 (w.alloc o) := h.alloc h.size o
theorem bA {W0 w : World} {o : Obj} (h : Below W0.heap.size W0 w) : Below W0.heap.size W0 (w.alloc o) = True := eq_true (h.alloc h.size o)
theorem bS {W0 w : World} {X j : Nat} {v : Value} (h : Below W0.heap.size W0 w) (hX : W0.heap.size ≤ X) : Below W0.heap.size W0 (w.setCell ⟨X, j, none⟩ v) = True := eq_true (h.setCell hX _)
theorem bD {W0 w : World} (h : Below W0.heap.size W0 w) : Below W0.heap.size W0 w.drew = True := eq_true h.drew
theorem bR {W0 : World} : Below W0.heap.size W0 W0 = True := eq_true (Below.refl _ _)
theorem size_set (w : World) (a : Addr) (v : Value) : (w.setCell a v).heap.size = w.heap.size := by simp
theorem size_new (w : World) (o : Obj) : (w.alloc o).heap.size = w.heap.size + 1 := World.size_alloc w o
theorem blkNew {w : World} {Y : Nat} {cs : Array Value} {t : TypeId} (h : w.heap.size = Y) : Blk (w.alloc (.cells cs t)) Y cs = True := eq_true (h ▸ Blk.new w cs t)
theorem blkA {w : World} {X : Nat} {cs : Array Value} {o : Obj} (h : Blk w X cs) : Blk (w.alloc o) X cs = True := eq_true (h.alloc o)

theorem ne_succ (n : Nat) : n ≠ n + 1 := by omega
theorem succ_ne (n : Nat) : n + 1 ≠ n := by omega
theorem sOf {W0 w' : World} {B : Nat} {cs : Array Value} (hB : Hid (Blk W0 B cs)) (hb : Below W0.heap.size W0 w') : (∀ j, w'.cell? ⟨B, j, none⟩ = cs[j]?) ∧ Below W0.heap.size W0 w' := ⟨(hB.out.below hb).c, hb⟩

end Go.Proofs.Ytekiialhljfglaa
/- A machine as lists of numbers, cores and what was told; what a step makes of it; lists that lie in memory as cells: plain definitions and facts on them. -/
namespace Go.Proofs.Ytekiialhljfglaa
set_option linter.unusedVariables false
open Go.ChangeShapes Go.WideShapes Go.ChangeAt Go.RowKit

structure Atm where
  mem : List Int
  cores : List Cor
  outs : List (Int × Int)

def zcor : Cor := ⟨fun _ => 0, 0, false⟩
def coreAt (l : List Cor) (i : Nat) : Cor := l.getD i zcor
def memC (l : List Int) : List Value := l.map (Value.int .u32)
def coreC (c : Cor) : List Value := c.row.toList
def coresC (l : List Cor) : List Value := l.flatMap coreC
def outC (o : Int × Int) : List Value := [.int .i64 o.1, .int .u32 o.2]
def outsC (l : List (Int × Int)) : List Value := l.flatMap outC
def outAt (l : List (Int × Int)) (i : Nat) : Int × Int := l.getD i (0, 0)

theorem flat_len {α : Type} (f : α → List Value) (k : Nat) (hf : ∀ x, (f x).length = k) (l : List α) : (l.flatMap f).length = l.length * k := by
  induction l with
  | nil => simp
  | cons x l ih => rw [List.flatMap_cons, List.length_append, hf, ih, List.length_cons, Nat.succ_mul, Nat.add_comm]
theorem flat_at {α : Type} (f : α → List Value) (k : Nat) (hf : ∀ x, (f x).length = k) (z : α) (l : List α) (i j : Nat) (hi : i < l.length) (hj : j < k) : (l.flatMap f)[i * k + j]? = (f (l.getD i z))[j]? := by
  induction l generalizing i with
  | nil => simp at hi
  | cons x l ih =>
    rw [List.flatMap_cons]
    cases i with
    | zero => rw [List.getElem?_append_left (by rw [hf]; omega)]; simp
    | succ i =>
      have hi' : i < l.length := by simpa using hi
      rw [List.getElem?_append_right (by rw [hf, Nat.succ_mul]; omega), hf]
      have e : (i + 1) * k + j - k = i * k + j := by rw [Nat.succ_mul]; omega
      rw [e, ih i hi']
      simp
theorem flat_take {α : Type} (f : α → List Value) (k : Nat) (hf : ∀ x, (f x).length = k) (l : List α) (n : Nat) : (l.flatMap f).take (n * k) = (l.take n).flatMap f := by
  induction l generalizing n with
  | nil => simp
  | cons x l ih =>
    cases n with
    | zero => simp
    | succ n =>
      rw [List.take_succ_cons, List.flatMap_cons, List.flatMap_cons, List.take_append, hf, Nat.succ_mul, Nat.add_sub_cancel, ih]
      rw [List.take_of_length_le (by rw [hf]; omega)]

theorem coreC_len (c : Cor) : (coreC c).length = 10 := rfl
theorem outC_len (o : Int × Int) : (outC o).length = 2 := rfl
theorem memC_len (l : List Int) : (memC l).length = l.length := by unfold memC; simp
theorem coresC_len (l : List Cor) : (coresC l).length = l.length * 10 := flat_len coreC 10 coreC_len l
theorem outsC_len (l : List (Int × Int)) : (outsC l).length = l.length * 2 := flat_len outC 2 outC_len l
theorem memC_at (l : List Int) (i : Nat) (hi : i < l.length) : (memC l)[i]? = some (.int .u32 (l.getD i 0)) := by unfold memC; simp [List.getD, hi]
theorem coresC_at (l : List Cor) (i j : Nat) (hi : i < l.length) (hj : j < 10) : (coresC l)[i * 10 + j]? = (coreAt l i).row[j]? := by
  have h := flat_at coreC 10 coreC_len zcor l i j hi hj
  rw [coresC, h]
  show (l.getD i zcor).row.toList[j]? = (l.getD i zcor).row[j]?
  simp
theorem outsC_at (l : List (Int × Int)) (i j : Nat) (hi : i < l.length) (hj : j < 2) : (outsC l)[i * 2 + j]? = (outC (outAt l i))[j]? := flat_at outC 2 outC_len (0, 0) l i j hi hj

theorem memC_set (l : List Int) (i : Nat) (v : Int) : (memC l).set i (.int .u32 v) = memC (l.set i v) := by unfold memC; rw [List.map_set]
theorem outsC_app (l m : List (Int × Int)) : outsC (l ++ m) = outsC l ++ outsC m := by unfold outsC; simp
theorem outsC_one (n v : Int) : outsC [(n, v)] = [.int .i64 n, .int .u32 v] := rfl

theorem coreAt_set_same (l : List Cor) (i : Nat) (c : Cor) (hi : i < l.length) : coreAt (l.set i c) i = c := by unfold coreAt; simp [List.getD, hi]
theorem coreAt_set_other (l : List Cor) (i k : Nat) (c : Cor) (h : k ≠ i) : coreAt (l.set i c) k = coreAt l k := by unfold coreAt; simp [List.getD, List.getElem?_set, Ne.symm h]

/-- Ten cells of a core's place are stored over: the core there is another. -/
theorem coresC_set (l : List Cor) (i : Nat) (c : Cor) (hi : i < l.length) :
    ((((((((((coresC l).set (i * 10) (.int .u32 (c.r 0))).set (i * 10 + 1) (.int .u32 (c.r 1))).set (i * 10 + 2) (.int .u32 (c.r 2))).set (i * 10 + 3) (.int .u32 (c.r 3))).set (i * 10 + 4) (.int .u32 (c.r 4))).set (i * 10 + 5) (.int .u32 (c.r 5))).set (i * 10 + 6) (.int .u32 (c.r 6))).set (i * 10 + 7) (.int .u32 (c.r 7))).set (i * 10 + 8) (.int .i64 c.pc)).set (i * 10 + 9) (.bool c.h) = coresC (l.set i c) := by
  apply List.ext_getElem?
  intro m
  have hL := coresC_len l
  have hL2 := coresC_len (l.set i c)
  by_cases hm : m < l.length * 10
  · have hq : m / 10 < l.length := by omega
    have hr : m % 10 < 10 := by omega
    have e : m = m / 10 * 10 + m % 10 := by omega
    have hR := coresC_at (l.set i c) (m / 10) (m % 10) (by simpa using hq) hr
    rw [← e] at hR
    rw [hR]
    by_cases hi2 : m / 10 = i
    · rw [hi2, coreAt_set_same l i c hi]
      have hmi : m = i * 10 + m % 10 := by omega
      simp only [List.getElem?_set, List.length_set, hL]
      have h0 : i * 10 < l.length * 10 := by omega
      rcases (show m % 10 = 0 ∨ m % 10 = 1 ∨ m % 10 = 2 ∨ m % 10 = 3 ∨ m % 10 = 4 ∨ m % 10 = 5 ∨ m % 10 = 6 ∨ m % 10 = 7 ∨ m % 10 = 8 ∨ m % 10 = 9 by omega) with h | h | h | h | h | h | h | h | h | h <;> (rw [h]; rw [h] at hmi; subst hmi; simp [Cor.row]; try omega)
    · have hO := coresC_at l (m / 10) (m % 10) hq hr
      rw [← e] at hO
      rw [coreAt_set_other l i (m / 10) c hi2, ← hO]
      simp only [List.getElem?_set, List.length_set]
      rw [if_neg (by omega), if_neg (by omega), if_neg (by omega), if_neg (by omega), if_neg (by omega), if_neg (by omega), if_neg (by omega), if_neg (by omega), if_neg (by omega), if_neg (by omega)]
  · rw [List.getElem?_eq_none (by simp only [List.length_set, hL]; omega), List.getElem?_eq_none (by rw [hL2]; simp; omega)]

/-- The cells cs lie behind p, which points at len things: nothing is asked of p where there are none. -/
def Sl (w : World) (p : Option Addr) (len : Nat) (cs : List Value) : Prop :=
  0 < len → ∃ b off, b < w.heap.size ∧ p = some ⟨b, off, none⟩ ∧ ∀ j, j < cs.length → w.cell? ⟨b, off + j, none⟩ = cs[j]?
theorem Sl.below {w w' : World} {p : Option Addr} {len : Nat} {cs : List Value} (h : Sl w p len cs) (hb : Below w.heap.size w w') : Sl w' p len cs := fun h0 => by
  obtain ⟨b, off, h1, h2, h3⟩ := h h0
  exact ⟨b, off, Nat.lt_of_lt_of_le h1 hb.size, h2, fun j hj => (hb.cell (p := ⟨b, off + j, none⟩) h1).trans (h3 j hj)⟩
theorem Sl.empty (w : World) (p : Option Addr) (cs : List Value) : Sl w p 0 cs := fun h => absurd h (by omega)
/-- What is owned lies there. -/
theorem Sl.own {w : World} {base : Nat} {e : TypeId} {size : Nat} {v : Value} {n : Nat} {xs : List Value} (h : w.ownsRow base e size v n xs) : ∃ p cap, v = .slice p n cap ∧ Sl w p n xs := by
  obtain ⟨hl, ⟨rfl, rfl⟩ | ⟨g, cap, cur, rfl, hg, hh, h1, h2, h3, h4⟩⟩ := h
  · exact ⟨_, _, rfl, Sl.empty _ _ _⟩
  · have ho : w.ownsRow base e size (.slice (some ⟨g, 0, none⟩) n cap) n xs := ⟨hl, .inr ⟨g, cap, cur, rfl, hg, hh, h1, h2, h3, h4⟩⟩
    refine ⟨_, _, rfl, fun _ => ⟨g, 0, ?_, rfl, fun j hj => ?_⟩⟩
    · exact (Array.getElem?_eq_some_iff.1 hh).1
    · rw [Nat.zero_add]; exact ho.cellAt j (by omega)

/-- A machine as Go hands it about: three lists. -/
def Mach (w : World) (v : Value) (a : Atm) : Prop :=
  ∃ pm cm pc cc po co, v = .agg #[.slice pm a.mem.length cm, .slice pc a.cores.length cc, .slice po a.outs.length co] ∧ Sl w pm a.mem.length (memC a.mem) ∧ Sl w pc a.cores.length (coresC a.cores) ∧ Sl w po a.outs.length (outsC a.outs)
theorem Mach.below {w w' : World} {v : Value} {a : Atm} (h : Mach w v a) (hb : Below w.heap.size w w') : Mach w' v a := by
  obtain ⟨pm, cm, pc, cc, po, co, h1, h2, h3, h4⟩ := h
  exact ⟨pm, cm, pc, cc, po, co, h1, h2.below hb, h3.below hb, h4.below hb⟩

/-- A machine in memory of its own, from block base on. -/
structure OwnM (w : World) (base : Nat) (vm vc vo : Value) (a : Atm) : Prop where
  m : w.ownsRow base 28 1 vm a.mem.length (memC a.mem)
  c : w.ownsRow base 55 10 vc a.cores.length (coresC a.cores)
  o : w.ownsRow base 63 2 vo a.outs.length (outsC a.outs)
theorem OwnM.mach {w : World} {base : Nat} {vm vc vo : Value} {a : Atm} (h : OwnM w base vm vc vo a) : Mach w (.agg #[vm, vc, vo]) a := by
  obtain ⟨pm, cm, rfl, h1⟩ := Sl.own h.m
  obtain ⟨pc, cc, rfl, h2⟩ := Sl.own h.c
  obtain ⟨po, co, rfl, h3⟩ := Sl.own h.o
  exact ⟨pm, cm, pc, cc, po, co, rfl, h1, h2, h3⟩

def actHit (mem : List Int) (x : Wnt) : Bool := decide (0 ≤ x.at_) && decide (x.at_ < mem.length)
def actWas (mem : List Int) (x : Wnt) : Int := if actHit mem x && (decide (1 ≤ x.kind) && decide (x.kind ≤ 3)) then mem.getD x.at_.toNat 0 else 0
def actMem (mem : List Int) (x : Wnt) : List Int :=
  if actHit mem x && (decide (x.kind = 2) || decide (x.kind = 3) && decide (mem.getD x.at_.toNat 0 = x.old)) then mem.set x.at_.toNat x.val else mem
def stepA (P : List (List I5)) (a : Atm) (n : Nat) : Atm :=
  ⟨actMem a.mem (wantOf (atP P n) (coreAt a.cores n) a.mem.length),
   a.cores.set n (doneOf (atP P n) (coreAt a.cores n) (actWas a.mem (wantOf (atP P n) (coreAt a.cores n) a.mem.length))),
   if (wantOf (atP P n) (coreAt a.cores n) a.mem.length).kind = 4 then a.outs ++ [((n : Int), (wantOf (atP P n) (coreAt a.cores n) a.mem.length).val)] else a.outs⟩
def newA (n words : Nat) : Atm := ⟨List.replicate words 0, List.replicate n zcor, []⟩
def pickA (P : List (List I5)) (a : Atm) (n : Int) : Atm := if 0 ≤ n ∧ n < a.cores.length then stepA P a n.toNat else a
def runA (P : List (List I5)) (words : Nat) (l : List Int) : Atm := l.foldl (pickA P) (newA P.length words)
def coresB (P : List (List I5)) (l : List Cor) (k : Nat) : Bool := (List.range k).all fun i => coreB (atP P i) (coreAt l i)
def rightA (P : List (List I5)) (a : Atm) : Bool := (decide (1 ≤ a.mem.length) && decide (a.mem.length ≤ 64)) && (decide (a.cores.length = P.length) && (allB P && coresB P a.cores P.length))
def overA (l : List Cor) : Bool := l.all fun c => c.h
structure Atm.Fits (a : Atm) : Prop where
  m : ∀ i, i < a.mem.length → 0 ≤ a.mem.getD i 0 ∧ a.mem.getD i 0 ≤ 4294967295
  c : ∀ i, i < a.cores.length → (coreAt a.cores i).Fits

theorem actMem_len (mem : List Int) (x : Wnt) : (actMem mem x).length = mem.length := by unfold actMem; split <;> simp
theorem stepA_mem (P : List (List I5)) (a : Atm) (n : Nat) : (stepA P a n).mem.length = a.mem.length := actMem_len _ _
theorem stepA_cores (P : List (List I5)) (a : Atm) (n : Nat) : (stepA P a n).cores.length = a.cores.length := by unfold stepA; simp
theorem stepA_outs (P : List (List I5)) (a : Atm) (n : Nat) : (stepA P a n).outs.length ≤ a.outs.length + 1 := by unfold stepA; simp only; split <;> simp

theorem memC_one (l : List Int) : ∀ u ∈ memC l, u.oneCell' = true := ints_oneCell _ _
theorem coresC_one (l : List Cor) : ∀ u ∈ coresC l, u.oneCell' = true := by
  intro u hu
  obtain ⟨c, _, hc⟩ := List.mem_flatMap.1 hu
  simp [coreC, Cor.row] at hc
  rcases hc with rfl | rfl | rfl | rfl | rfl | rfl | rfl | rfl | rfl | rfl <;> rfl
theorem outsC_one' (l : List (Int × Int)) : ∀ u ∈ outsC l, u.oneCell' = true := by
  intro u hu
  obtain ⟨c, _, hc⟩ := List.mem_flatMap.1 hu
  simp [outC] at hc
  rcases hc with rfl | rfl <;> rfl
end Go.Proofs.Ytekiialhljfglaa
/- What the clones of a machine's three lists answer; they write nothing that was there. -/
namespace Go.Proofs.Ytekiialhljfglaa
set_option linter.unusedVariables false
open Go.ChangeShapes Go.WideShapes Go.ChangeAt Go.RowKit

theorem info28 : (Try.prog.info? 28).map (fun i => (i.zero, i.size, i.bytes)) = some (some (.int .u32 0), 1, 4) := by kernel_rfl
theorem info55 : (Try.prog.info? 55).map (fun i => (i.zero, i.size, i.bytes)) = some (some (.agg zcor.row), 10, 48) := by kernel_rfl
theorem info63 : (Try.prog.info? 63).map (fun i => (i.zero, i.size, i.bytes)) = some (some (.agg #[.int .i64 0, .int .u32 0]), 2, 16) := by kernel_rfl

set_option maxHeartbeats 2000000 in
theorem clone24 (p : Option Addr) (len cap : Nat) (cs : List Value) (w : World) (hl : cs.length = len * 1) (h1 : ∀ u ∈ cs, u.oneCell' = true) (hbig : len * 4 ≤ 140737488355328) (hs : Sl w p len cs) :
    Calls Try.prog 24 #[.slice p len cap] w fun e w' => ∃ v, e = .returned v ∧ w'.ownsRow w.heap.size 28 1 v len cs ∧ Below w.heap.size w w' := by
  obtain ⟨i0, hi, hz0, hz1, hz2⟩ := info_parts info28
  have q : ∀ (w : World) (a : Option Addr) (n c n' c' : Nat), (binOp .eql 23 (.slice a n c) (.slice none n' c')).run Try.prog w = .ok (.bool a.isNone) w := fun w a n c n' c' => Lib.run_eql_slice_nil w _ _ a n c n' c' Try.underlying23
  have u : ∀ w, Sem.run Try.prog (underlying 23) w = .ok (TypeDesc.slice 28) w := run_underlying Try.underlying23
  have HS := Lib.hid hs
  clear hs
  cases p with
  | none =>
    have h0 : len = 0 := by
      cases len with
      | zero => rfl
      | succ n => obtain ⟨_, _, _, h, _⟩ := HS.out (by omega); cases h
    subst h0
    obtain rfl : cs = [] := List.length_eq_zero_iff.1 (by omega)
    go_enter Try.func24, Try.ntmps24
    go_wp2
    go_ret
    exact ⟨_, rfl, World.ownsRow_nil _ _ _ _, Below.refl _ _⟩
  | some ad =>
    have hc : Hid (∀ j u, cs[j]? = some u → w.cell? (ad.add j) = some u) := by
      intro j u hj
      have hjl := (List.getElem?_eq_some_iff.1 hj).1
      obtain ⟨b, off, _, he, hcell⟩ := HS.out (by omega)
      injection he with he
      subst he
      rw [Addr.add_lit]
      exact (hcell j hjl).trans hj
    have H1 := Lib.hid h1
    have HL := Lib.hid hl
    clear h1 hl
    go_enter Try.func24, Try.ntmps24
    go_wp2_with (at_builtin; refine wpList_append_own _ rfl _ _ 23 rfl w.heap.size 28 i0 (.int .u32 0) 1 4 Try.underlying23 hi hz0 hz1 hz2 rfl (by decide) _ _ _ rfl (World.ownsRow_made w #[] 0 (Nat.le_refl _) (Nat.zero_le _) rfl) ad len cap cs rfl ?qc1 ?qc2 ?qc3 ?qc4 ?qc5 ?qc6 ?_)
    case qc1 => exact HL.out
    case qc2 => intro j u hj; exact Lib.cell?_alloc_some _ (hc.out j u hj)
    case qc3 => exact H1.out
    case qc4 => unfold maxLen; omega
    case qc5 => omega
    case qc6 => simp
    intro v' w1 hown hgrow hnil
    go_wp2
    go_ret
    refine ⟨v', rfl, by simpa using hown, ?_⟩
    exact ((Below.refl _ w).alloc (Nat.le_refl _) _).grown hgrow (by simp) (by intro k hk; simp [Value.ownBlock] at hk; omega)
set_option maxHeartbeats 2000000 in
theorem clone33 (p : Option Addr) (len cap : Nat) (cs : List Value) (w : World) (hl : cs.length = len * 10) (h1 : ∀ u ∈ cs, u.oneCell' = true) (hbig : len * 48 ≤ 140737488355328) (hs : Sl w p len cs) :
    Calls Try.prog 33 #[.slice p len cap] w fun e w' => ∃ v, e = .returned v ∧ w'.ownsRow w.heap.size 55 10 v len cs ∧ Below w.heap.size w w' := by
  obtain ⟨i0, hi, hz0, hz1, hz2⟩ := info_parts info55
  have q : ∀ (w : World) (a : Option Addr) (n c n' c' : Nat), (binOp .eql 24 (.slice a n c) (.slice none n' c')).run Try.prog w = .ok (.bool a.isNone) w := fun w a n c n' c' => Lib.run_eql_slice_nil w _ _ a n c n' c' Try.underlying24
  have u : ∀ w, Sem.run Try.prog (underlying 24) w = .ok (TypeDesc.slice 55) w := run_underlying Try.underlying24
  have HS := Lib.hid hs
  clear hs
  cases p with
  | none =>
    have h0 : len = 0 := by
      cases len with
      | zero => rfl
      | succ n => obtain ⟨_, _, _, h, _⟩ := HS.out (by omega); cases h
    subst h0
    obtain rfl : cs = [] := List.length_eq_zero_iff.1 (by omega)
    go_enter Try.func33, Try.ntmps33
    go_wp2
    go_ret
    exact ⟨_, rfl, World.ownsRow_nil _ _ _ _, Below.refl _ _⟩
  | some ad =>
    have hc : Hid (∀ j u, cs[j]? = some u → w.cell? (ad.add j) = some u) := by
      intro j u hj
      have hjl := (List.getElem?_eq_some_iff.1 hj).1
      obtain ⟨b, off, _, he, hcell⟩ := HS.out (by omega)
      injection he with he
      subst he
      rw [Addr.add_lit]
      exact (hcell j hjl).trans hj
    have H1 := Lib.hid h1
    have HL := Lib.hid hl
    clear h1 hl
    go_enter Try.func33, Try.ntmps33
    go_wp2_with (at_builtin; refine wpList_append_own _ rfl _ _ 24 rfl w.heap.size 55 i0 (.agg zcor.row) 10 48 Try.underlying24 hi hz0 hz1 hz2 rfl (by decide) _ _ _ rfl (World.ownsRow_made w #[] 0 (Nat.le_refl _) (Nat.zero_le _) rfl) ad len cap cs rfl ?qc1 ?qc2 ?qc3 ?qc4 ?qc5 ?qc6 ?_)
    case qc1 => exact HL.out
    case qc2 => intro j u hj; exact Lib.cell?_alloc_some _ (hc.out j u hj)
    case qc3 => exact H1.out
    case qc4 => unfold maxLen; omega
    case qc5 => omega
    case qc6 => simp
    intro v' w1 hown hgrow hnil
    go_wp2
    go_ret
    refine ⟨v', rfl, by simpa using hown, ?_⟩
    exact ((Below.refl _ w).alloc (Nat.le_refl _) _).grown hgrow (by simp) (by intro k hk; simp [Value.ownBlock] at hk; omega)
set_option maxHeartbeats 2000000 in
theorem clone34 (p : Option Addr) (len cap : Nat) (cs : List Value) (w : World) (hl : cs.length = len * 2) (h1 : ∀ u ∈ cs, u.oneCell' = true) (hbig : len * 16 ≤ 140737488355328) (hs : Sl w p len cs) :
    Calls Try.prog 34 #[.slice p len cap] w fun e w' => ∃ v, e = .returned v ∧ w'.ownsRow w.heap.size 63 2 v len cs ∧ Below w.heap.size w w' := by
  obtain ⟨i0, hi, hz0, hz1, hz2⟩ := info_parts info63
  have q : ∀ (w : World) (a : Option Addr) (n c n' c' : Nat), (binOp .eql 25 (.slice a n c) (.slice none n' c')).run Try.prog w = .ok (.bool a.isNone) w := fun w a n c n' c' => Lib.run_eql_slice_nil w _ _ a n c n' c' Try.underlying25
  have u : ∀ w, Sem.run Try.prog (underlying 25) w = .ok (TypeDesc.slice 63) w := run_underlying Try.underlying25
  have HS := Lib.hid hs
  clear hs
  cases p with
  | none =>
    have h0 : len = 0 := by
      cases len with
      | zero => rfl
      | succ n => obtain ⟨_, _, _, h, _⟩ := HS.out (by omega); cases h
    subst h0
    obtain rfl : cs = [] := List.length_eq_zero_iff.1 (by omega)
    go_enter Try.func34, Try.ntmps34
    go_wp2
    go_ret
    exact ⟨_, rfl, World.ownsRow_nil _ _ _ _, Below.refl _ _⟩
  | some ad =>
    have hc : Hid (∀ j u, cs[j]? = some u → w.cell? (ad.add j) = some u) := by
      intro j u hj
      have hjl := (List.getElem?_eq_some_iff.1 hj).1
      obtain ⟨b, off, _, he, hcell⟩ := HS.out (by omega)
      injection he with he
      subst he
      rw [Addr.add_lit]
      exact (hcell j hjl).trans hj
    have H1 := Lib.hid h1
    have HL := Lib.hid hl
    clear h1 hl
    go_enter Try.func34, Try.ntmps34
    go_wp2_with (at_builtin; refine wpList_append_own _ rfl _ _ 25 rfl w.heap.size 63 i0 (.agg #[.int .i64 0, .int .u32 0]) 2 16 Try.underlying25 hi hz0 hz1 hz2 rfl (by decide) _ _ _ rfl (World.ownsRow_made w #[] 0 (Nat.le_refl _) (Nat.zero_le _) rfl) ad len cap cs rfl ?qc1 ?qc2 ?qc3 ?qc4 ?qc5 ?qc6 ?_)
    case qc1 => exact HL.out
    case qc2 => intro j u hj; exact Lib.cell?_alloc_some _ (hc.out j u hj)
    case qc3 => exact H1.out
    case qc4 => unfold maxLen; omega
    case qc5 => omega
    case qc6 => simp
    intro v' w1 hown hgrow hnil
    go_wp2
    go_ret
    refine ⟨v', rfl, by simpa using hown, ?_⟩
    exact ((Below.refl _ w).alloc (Nat.le_refl _) _).grown hgrow (by simp) (by intro k hk; simp [Value.ownBlock] at hk; omega)
end Go.Proofs.Ytekiialhljfglaa
/- How Go holds two cores against each other: number by number; no condition. -/
namespace Go.Proofs.Ytekiialhljfglaa
set_option linter.unusedVariables false
open Go.ChangeShapes Go.WideShapes Go.ChangeAt Go.RowKit
theorem cells_u32 : Try.prog.cellsOf 28 = 1 := by kernel_rfl

/-- The tests one behind the other, as Go holds arrays and structs against each other. -/
def eqC (c d : Cor) : Bool := (c.r 0 == d.r 0) && (c.r 1 == d.r 1) && (c.r 2 == d.r 2) && (c.r 3 == d.r 3) && (c.r 4 == d.r 4) && (c.r 5 == d.r 5) && (c.r 6 == d.r 6) && (c.r 7 == d.r 7) && (c.pc == d.pc) && (c.h == d.h)

theorem eq_step (w : World) (d : Nat) (xs ys : Array Value) (i : Nat) (is : List Nat) (a b : Int) (hx : xs[i]? = some (.int .u32 a)) (hy : ys[i]? = some (.int .u32 b)) (r : Bool) (h : (Op.eqItems (d + 1) 28 1 xs ys is).run Try.prog w = .ok r w) :
    (Op.eqItems (d + 1) 28 1 xs ys (i :: is)).run Try.prog w = .ok (a == b && r) w := by
  have p1 : ∀ (zs : Array Value) (v : Int), zs[i]? = some (.int .u32 v) → (part 28 zs (i * 1)).run Try.prog w = .ok (.int .u32 v) w := fun zs v hz => by
    simp [part, go_sem, hz]
  simp only [Op.eqItems, Sem.run_bind, p1 xs a hx, p1 ys b hy, Result.andThen_ok, run_equalIn_int w d 28 .u32 .u32 a b Try.underlying28]
  cases hab : (a == b) with
  | true => simpa using h
  | false => simp

theorem eq_regs (w : World) (d : Nat) (a0 a1 a2 a3 a4 a5 a6 a7 b0 b1 b2 b3 b4 b5 b6 b7 : Int) :
   (Op.equalIn (d + 2) 53 (.agg #[.int .u32 a0, .int .u32 a1, .int .u32 a2, .int .u32 a3, .int .u32 a4, .int .u32 a5, .int .u32 a6, .int .u32 a7]) (.agg #[.int .u32 b0, .int .u32 b1, .int .u32 b2, .int .u32 b3, .int .u32 b4, .int .u32 b5, .int .u32 b6, .int .u32 b7])).run Try.prog w = .ok (a0 == b0 && (a1 == b1 && (a2 == b2 && (a3 == b3 && (a4 == b4 && (a5 == b5 && (a6 == b6 && (a7 == b7 && true)))))))) w := by
  obtain ⟨i, hi⟩ := info_of_underlying Try.underlying28
  rw [run_equalIn_array w (d + 1) _ _ Try.underlying53 hi, cells_u32]
  show (Op.eqItems (d + 1) 28 1 _ _ [0, 1, 2, 3, 4, 5, 6, 7]).run Try.prog w = _
  exact eq_step w d _ _ 0 _ a0 b0 rfl rfl _ (eq_step w d _ _ 1 _ a1 b1 rfl rfl _ (eq_step w d _ _ 2 _ a2 b2 rfl rfl _ (eq_step w d _ _ 3 _ a3 b3 rfl rfl _ (eq_step w d _ _ 4 _ a4 b4 rfl rfl _ (eq_step w d _ _ 5 _ a5 b5 rfl rfl _ (eq_step w d _ _ 6 _ a6 b6 rfl rfl _ (eq_step w d _ _ 7 _ a7 b7 rfl rfl _ (by simp [Op.eqItems]))))))))

theorem eq_core (w : World) (c d : Cor) : (binOp .eql 55 (.agg c.row) (.agg d.row)).run Try.prog w = .ok (.bool (eqC c d)) w := by
  have e1 : ∀ c : Cor, (part 53 c.row 0).run Try.prog w = .ok (.agg #[.int .u32 (c.r 0), .int .u32 (c.r 1), .int .u32 (c.r 2), .int .u32 (c.r 3), .int .u32 (c.r 4), .int .u32 (c.r 5), .int .u32 (c.r 6), .int .u32 (c.r 7)]) w := fun c => by
    simp [part, go_sem, Cor.row]
  have e2 : ∀ c : Cor, (part 3 c.row 8).run Try.prog w = .ok (.int .i64 c.pc) w := fun c => by
    simp [part, go_sem, Cor.row]
  have e3 : ∀ c : Cor, (part 4 c.row 9).run Try.prog w = .ok (.bool c.h) w := fun c => by
    simp [part, go_sem, Cor.row]
  rw [run_eql_struct, show (10000 : Nat) = 9999 + 1 from rfl, run_equalIn_agg w 9999 55 _ _ (by simp [Program.fieldsOf, Try.underlying55]) Try.stoodInHeld55]
  have n1 : ("Regs" ≠ "_") = True := by simp
  have n2 : ("PC" ≠ "_") = True := by simp
  have n3 : ("Halted" ≠ "_") = True := by simp
  have q1 := eq_regs w 9997 (c.r 0) (c.r 1) (c.r 2) (c.r 3) (c.r 4) (c.r 5) (c.r 6) (c.r 7) (d.r 0) (d.r 1) (d.r 2) (d.r 3) (d.r 4) (d.r 5) (d.r 6) (d.r 7)
  have q2 := run_equalIn_int w 9998 3 .i64 .i64 c.pc d.pc Try.underlying3
  have q3 := run_equalIn_bool' w 9998 4 c.h d.h Try.underlying4
  have e : eqC c d = ((c.r 0 == d.r 0 && (c.r 1 == d.r 1 && (c.r 2 == d.r 2 && (c.r 3 == d.r 3 && (c.r 4 == d.r 4 && (c.r 5 == d.r 5 && (c.r 6 == d.r 6 && (c.r 7 == d.r 7 && true)))))))) && ((c.pc == d.pc) && (c.h == d.h))) := by
    unfold eqC; simp only [Bool.and_assoc, Bool.true_and]
  rw [e]
  revert q1 q2 q3
  generalize (c.r 0 == d.r 0 && (c.r 1 == d.r 1 && (c.r 2 == d.r 2 && (c.r 3 == d.r 3 && (c.r 4 == d.r 4 && (c.r 5 == d.r 5 && (c.r 6 == d.r 6 && (c.r 7 == d.r 7 && true)))))))) = b1
  generalize (c.pc == d.pc) = b2
  generalize (c.h == d.h) = b3
  intro q1 q2 q3
  simp only [Program.fieldsOf, Try.underlying55, Op.eqFields, n1, n2, n3, if_true, Sem.run_bind, e1, e2, e3, Result.andThen_ok, q1, q2, q3, Sem.run_ite]
  cases b1 <;> cases b2 <;> cases b3 <;> simp
theorem eqC_refl (c : Cor) : eqC c c = true := by unfold eqC; simp
theorem eqC_false {c d : Cor} (i : Nat) (hi : i < 8) (h : c.r i ≠ d.r i) : eqC c d = false := by
  unfold eqC
  match i, hi with
  | 0, _ | 1, _ | 2, _ | 3, _ | 4, _ | 5, _ | 6, _ | 7, _ => simp [h]
end Go.Proofs.Ytekiialhljfglaa
/- How Go says that two cores aren't the same; no condition. -/
namespace Go.Proofs.Ytekiialhljfglaa
set_option linter.unusedVariables false
open Go.ChangeShapes Go.WideShapes Go.ChangeAt Go.RowKit

theorem neq_core (w : World) (c d : Cor) : (binOp .neq 55 (.agg c.row) (.agg d.row)).run Try.prog w = .ok (.bool (!eqC c d)) w := by
  have h := eq_core w c d
  rw [run_eql_struct] at h
  rw [run_neq_struct]
  generalize (Op.equalIn 10000 55 (Value.agg c.row) (Value.agg d.row)).run Try.prog w = r at h ⊢
  cases r with
  | ok b w' =>
    simp only [Result.andThen_ok, Result.ok.injEq, Value.bool.injEq] at h ⊢
    exact ⟨by rw [h.1], h.2⟩
  | halt x w' => simp [Result.andThen] at h
end Go.Proofs.Ytekiialhljfglaa
/- What core.next and core.made answer, for every core and instruction whose registers are there; they write nothing that was there. -/
namespace Go.Proofs.Ytekiialhljfglaa
set_option linter.unusedVariables false
open Go.ChangeShapes Go.WideShapes Go.ChangeAt Go.RowKit

theorem Cor.row_at (c : Cor) (n : Nat) (h : n < 8) : c.row[n]? = some (.int .u32 (c.r n)) := by
  match n, h with
  | 0, _ => rfl
  | 1, _ => rfl
  | 2, _ => rfl
  | 3, _ => rfl
  | 4, _ => rfl
  | 5, _ => rfl
  | 6, _ => rfl
  | 7, _ => rfl

/-- A register of a core that was just laid. -/
theorem cell_box2 (w : World) (o : Obj) (c : Cor) (t : TypeId) (n : Nat) (h : n < 8) : ((w.alloc o).alloc (.cells c.row t)).cell? ⟨w.heap.size + 1, n, none⟩ = some (.int .u32 (c.r n)) := by
  have e : (w.alloc o).heap.size = w.heap.size + 1 := World.size_alloc w o
  have := World.cell?_alloc_new (w.alloc o) c.row t n
  rw [e, c.row_at n h] at this
  exact this

theorem below_drewN {B : Nat} {a w : World} (h : Below B a w) (n : Nat) : Below B a (w.drewN n) := ⟨h.os, h.tape, h.output, h.size, h.block⟩

theorem next_zero (a : Nat) (b cc k : Int) (r0 r1 r2 r3 r4 r5 r6 r7 pc : Int) (h : Bool) (ra : Int) (z : Bool) (w : World) (ha : a < 8) (hz : (ra == 0) = z) (hk0 : 0 ≤ k) (hk1 : k ≤ 4294967295) (hpc : 0 ≤ pc) (hpc1 : pc ≤ 64)
    (hca : ((w.alloc (.cells #[.int .i64 14, .int .i64 a, .int .i64 b, .int .i64 cc, .int .u32 k] 61)).alloc (.cells #[.int .u32 r0, .int .u32 r1, .int .u32 r2, .int .u32 r3, .int .u32 r4, .int .u32 r5, .int .u32 r6, .int .u32 r7, .int .i64 pc, .bool h] 55)).cell? ⟨w.heap.size + 1, a, none⟩ = some (.int .u32 ra)) :
    Calls Try.prog 48 #[.agg #[.int .i64 14, .int .i64 a, .int .i64 b, .int .i64 cc, .int .u32 k], .agg #[.int .u32 r0, .int .u32 r1, .int .u32 r2, .int .u32 r3, .int .u32 r4, .int .u32 r5, .int .u32 r6, .int .u32 r7, .int .i64 pc, .bool h]] w fun e w' => e = .returned (.int .i64 (if z then k else pc + 1)) ∧ Below w.heap.size w w' := by
  have hw : wrap64 k = k := by unfold wrap64; omega
  cases z with
  | true =>
    go_enter Try.func48, Try.ntmps48
    go_wp2
    go_ret
    exact ⟨rfl, ((Below.refl _ _).alloc (Nat.le_refl _) _).alloc (by simp) _⟩
  | false =>
    go_enter Try.func48, Try.ntmps48
    go_wp2
    go_ret
    exact ⟨rfl, ((Below.refl _ _).alloc (Nat.le_refl _) _).alloc (by simp) _⟩

theorem next_other (op a b cc k : Int) (r0 r1 r2 r3 r4 r5 r6 r7 pc : Int) (h : Bool) (j : Bool) (w : World) (h13 : (op == 13) = j) (h14 : (op == 14) = false) (hk0 : 0 ≤ k) (hk1 : k ≤ 4294967295) (hpc : 0 ≤ pc) (hpc1 : pc ≤ 64) :
    Calls Try.prog 48 #[.agg #[.int .i64 op, .int .i64 a, .int .i64 b, .int .i64 cc, .int .u32 k], .agg #[.int .u32 r0, .int .u32 r1, .int .u32 r2, .int .u32 r3, .int .u32 r4, .int .u32 r5, .int .u32 r6, .int .u32 r7, .int .i64 pc, .bool h]] w fun e w' => e = .returned (.int .i64 (if j then k else pc + 1)) ∧ Below w.heap.size w w' := by
  have hw : wrap64 k = k := by unfold wrap64; omega
  cases j with
  | true =>
    go_enter Try.func48, Try.ntmps48
    go_wp2
    go_ret
    exact ⟨rfl, ((Below.refl _ _).alloc (Nat.le_refl _) _).alloc (by simp) _⟩
  | false =>
    go_enter Try.func48, Try.ntmps48
    go_wp2
    go_ret
    exact ⟨rfl, ((Below.refl _ _).alloc (Nat.le_refl _) _).alloc (by simp) _⟩

theorem next_any (x : I5) (c : Cor) (w : World) (ha0 : 0 ≤ x.a) (ha1 : x.a < 8) (hk0 : 0 ≤ x.k) (hk1 : x.k ≤ 4294967295) (hpc : 0 ≤ c.pc) (hpc1 : c.pc ≤ 64) :
    Calls Try.prog 48 #[.agg x.row, .agg c.row] w fun e w' => e = .returned (.int .i64 (nextX x c)) ∧ Below w.heap.size w w' := by
  by_cases h14 : x.op = 14
  · obtain ⟨op, a, b, cc, k⟩ := x
    simp only at h14 ha0 ha1 hk0 hk1
    subst h14
    obtain ⟨n, rfl⟩ := Int.eq_ofNat_of_zero_le ha0
    have e : nextX ⟨14, n, b, cc, k⟩ c = if (c.r n == 0) then k else c.pc + 1 := by
      unfold nextX
      by_cases hz : c.r n = 0
      · rw [if_pos (Or.inr ⟨rfl, hz⟩), if_pos (by simpa using hz)]
      · rw [if_neg (by simp; exact hz), if_neg (by simpa using hz)]
    rw [e]
    exact next_zero n b cc k _ _ _ _ _ _ _ _ _ _ (c.r n) _ w (by omega) rfl hk0 hk1 hpc hpc1 (cell_box2 w _ c 55 n (by omega))
  · have e : nextX x c = if (x.op == 13) then x.k else c.pc + 1 := by
      unfold nextX
      by_cases hz : x.op = 13
      · rw [if_pos (Or.inl hz), if_pos (by simpa using hz)]
      · rw [if_neg (by omega), if_neg (by simpa using hz)]
    rw [e]
    exact next_other _ _ _ _ _ _ _ _ _ _ _ _ _ _ _ _ w rfl (by simpa using h14) hk0 hk1 hpc hpc1

theorem made_set (a b cc k : Int) (r0 r1 r2 r3 r4 r5 r6 r7 pc : Int) (h : Bool) (was : Int) (w : World) :
    Calls Try.prog 49 #[.agg #[.int .i64 1, .int .i64 a, .int .i64 b, .int .i64 cc, .int .u32 k], .agg #[.int .u32 r0, .int .u32 r1, .int .u32 r2, .int .u32 r3, .int .u32 r4, .int .u32 r5, .int .u32 r6, .int .u32 r7, .int .i64 pc, .bool h], .int .u32 was] w fun e w' => e = .returned (.tuple #[.int .u32 k, .bool true]) ∧ Below w.heap.size w w' := by
  go_enter Try.func49, Try.ntmps49
  go_wp2
  go_ret2
  exact ⟨rfl, ((Below.refl _ _).alloc (Nat.le_refl _) _).alloc (by simp) _⟩

theorem made_read (op a b cc k : Int) (r0 r1 r2 r3 r4 r5 r6 r7 pc : Int) (h : Bool) (was : Int) (w : World) (ho : op = 9 ∨ op = 11) :
    Calls Try.prog 49 #[.agg #[.int .i64 op, .int .i64 a, .int .i64 b, .int .i64 cc, .int .u32 k], .agg #[.int .u32 r0, .int .u32 r1, .int .u32 r2, .int .u32 r3, .int .u32 r4, .int .u32 r5, .int .u32 r6, .int .u32 r7, .int .i64 pc, .bool h], .int .u32 was] w fun e w' => e = .returned (.tuple #[.int .u32 was, .bool true]) ∧ Below w.heap.size w w' := by
  rcases ho with rfl | rfl
  all_goals
    go_enter Try.func49, Try.ntmps49
    go_wp2
    go_ret2
    exact ⟨rfl, ((Below.refl _ _).alloc (Nat.le_refl _) _).alloc (by simp) _⟩

theorem do_quiet (op b c : Int) (w : World) (n : Nat) : Calls Try.prog 56 #[.int .i64 op, .int .u32 b, .int .u32 c] (w.drewN n) fun e w' => e = .returned (.tuple #[.int .u32 (doV op b c), .bool (doOk op)]) ∧ w' = w.drewN n :=
  (do_any op b c _).mono fun e w' h => ⟨h.1, h.2.symm⟩

set_option maxHeartbeats 1000000 in
theorem made_do (op a k : Int) (b cc : Nat) (r0 r1 r2 r3 r4 r5 r6 r7 pc : Int) (h : Bool) (was rb rc : Int) (w : World) (hb : b < 8) (hc : cc < 8) (h1 : (op == 1) = false) (h9 : (op == 9) = false) (h11 : (op == 11) = false)
    (hcb : ((w.alloc (.cells #[.int .i64 op, .int .i64 a, .int .i64 b, .int .i64 cc, .int .u32 k] 61)).alloc (.cells #[.int .u32 r0, .int .u32 r1, .int .u32 r2, .int .u32 r3, .int .u32 r4, .int .u32 r5, .int .u32 r6, .int .u32 r7, .int .i64 pc, .bool h] 55)).cell? ⟨w.heap.size + 1, b, none⟩ = some (.int .u32 rb))
    (hcc : ((w.alloc (.cells #[.int .i64 op, .int .i64 a, .int .i64 b, .int .i64 cc, .int .u32 k] 61)).alloc (.cells #[.int .u32 r0, .int .u32 r1, .int .u32 r2, .int .u32 r3, .int .u32 r4, .int .u32 r5, .int .u32 r6, .int .u32 r7, .int .i64 pc, .bool h] 55)).cell? ⟨w.heap.size + 1, cc, none⟩ = some (.int .u32 rc)) :
    Calls Try.prog 49 #[.agg #[.int .i64 op, .int .i64 a, .int .i64 b, .int .i64 cc, .int .u32 k], .agg #[.int .u32 r0, .int .u32 r1, .int .u32 r2, .int .u32 r3, .int .u32 r4, .int .u32 r5, .int .u32 r6, .int .u32 r7, .int .i64 pc, .bool h], .int .u32 was] w fun e w' => e = .returned (.tuple #[.int .u32 (doV op rb rc), .bool (doOk op)]) ∧ Below w.heap.size w w' := by
  have hbb : Below w.heap.size w ((w.alloc (.cells #[.int .i64 op, .int .i64 a, .int .i64 b, .int .i64 cc, .int .u32 k] 61)).alloc (.cells #[.int .u32 r0, .int .u32 r1, .int .u32 r2, .int .u32 r3, .int .u32 r4, .int .u32 r5, .int .u32 r6, .int .u32 r7, .int .i64 pc, .bool h] 55)) := ((Below.refl _ _).alloc (Nat.le_refl _) _).alloc (by simp) _
  have HB := Lib.hid hbb
  clear hbb
  go_enter Try.func49, Try.ntmps49
  go_wp2
  go_quiet ((go_at_call 56; exact Calls.quiet_of_same (do_quiet _ _ _ _ _)))
  go_wp2
  go_ret2
  exact ⟨rfl, below_drewN HB.out _⟩

theorem made_any (x : I5) (c : Cor) (was : Int) (w : World) (hr : 0 ≤ x.a ∧ x.a < 8 ∧ 0 ≤ x.b ∧ x.b < 8 ∧ 0 ≤ x.c ∧ x.c < 8) :
    Calls Try.prog 49 #[.agg x.row, .agg c.row, .int .u32 was] w fun e w' => e = .returned (.tuple #[.int .u32 (madeV x c was), .bool (madeOk x)]) ∧ Below w.heap.size w w' := by
  obtain ⟨op, a, b, cc, k⟩ := x
  by_cases h1 : op = 1
  · subst h1
    exact (made_set a b cc k _ _ _ _ _ _ _ _ _ _ was w).mono fun e w' h => ⟨h.1.trans (ret_pair rfl rfl), h.2⟩
  · by_cases h2 : op = 9 ∨ op = 11
    · refine (made_read op a b cc k _ _ _ _ _ _ _ _ _ _ was w h2).mono fun e w' h => ⟨h.1.trans (ret_pair ?_ ?_), h.2⟩
      · unfold madeV; rw [if_neg h1, if_pos h2]
      · unfold madeOk; symm; exact decide_eq_true (by simp only; omega)
    · simp only at hr
      obtain ⟨n, rfl⟩ := Int.eq_ofNat_of_zero_le hr.2.2.1
      obtain ⟨m, rfl⟩ := Int.eq_ofNat_of_zero_le hr.2.2.2.2.1
      refine (made_do op a k n m _ _ _ _ _ _ _ _ _ _ was (c.r n) (c.r m) w (by omega) (by omega) (by simp; omega) (by simp; omega) (by simp; omega) (cell_box2 w _ c 55 n (by omega)) (cell_box2 w _ c 55 m (by omega))).mono fun e w' h => ⟨h.1.trans (ret_pair ?_ ?_), h.2⟩
      · unfold madeV; rw [if_neg h1, if_neg h2]; rfl
      · unfold doOk madeOk; rw [Bool.eq_iff_iff]; simp; omega
end Go.Proofs.Ytekiialhljfglaa
/- What the document's comparisons of lists answer of lists that hold the same, and what the two Overs answer; they write nothing that was there. -/
namespace Go.Proofs.Ytekiialhljfglaa
set_option linter.unusedVariables false
open Go.ChangeShapes Go.WideShapes Go.ChangeAt Go.RowKit

theorem eq_told (w : World) (a b : Int) : (binOp .eql 63 (.agg #[.int .i64 a, .int .u32 b]) (.agg #[.int .i64 a, .int .u32 b])).run Try.prog w = .ok (.bool true) w := by
  have e1 : (part 3 #[.int .i64 a, .int .u32 b] 0).run Try.prog w = .ok (.int .i64 a) w := by simp [part, go_sem]
  have e2 : (part 28 #[.int .i64 a, .int .u32 b] 1).run Try.prog w = .ok (.int .u32 b) w := by simp [part, go_sem]
  rw [run_eql_struct, show (10000 : Nat) = 9999 + 1 from rfl, run_equalIn_agg w 9999 63 _ _ (by simp [Program.fieldsOf, Try.underlying63]) Try.stoodInHeld63]
  have n1 : ("Core" ≠ "_") = True := by simp
  have n2 : ("Val" ≠ "_") = True := by simp
  have q1 := run_equalIn_int w 9998 3 .i64 .i64 a a Try.underlying3
  have q2 := run_equalIn_int w 9998 28 .u32 .u32 b b Try.underlying28
  simp only [Program.fieldsOf, Try.underlying63, Op.eqFields, n1, n2, if_true, Sem.run_bind, e1, e2, Result.andThen_ok, q1, q2, Sem.run_ite]
  simp
theorem neq_told (w : World) (a b : Int) : (binOp .neq 63 (.agg #[.int .i64 a, .int .u32 b]) (.agg #[.int .i64 a, .int .u32 b])).run Try.prog w = .ok (.bool false) w := by
  have h := eq_told w a b
  rw [run_eql_struct] at h
  rw [run_neq_struct]
  generalize (Op.equalIn 10000 63 (Value.agg #[.int .i64 a, .int .u32 b]) (Value.agg #[.int .i64 a, .int .u32 b])).run Try.prog w = r at h ⊢
  cases r with
  | ok b w' =>
    simp only [Result.andThen_ok, Result.ok.injEq, Value.bool.injEq] at h ⊢
    exact ⟨by rw [h.1]; rfl, h.2⟩
  | halt x w' => simp [Result.andThen] at h
theorem drewN_below (w : World) (n : Nat) : Below w.heap.size w (w.drewN n) := ⟨rfl, rfl, rfl, Nat.le_refl _, fun _ _ => rfl⟩

set_option maxHeartbeats 1000000 in
theorem words_same (pa pb : Option Addr) (len ca cb : Nat) (l : List Int) (w : World) (hl : l.length = len) (hmax : len ≤ maxLen) (ha : Sl w pa len (memC l)) (hb : Sl w pb len (memC l)) :
    Calls Try.prog 11 #[.slice pa len ca, .slice pb len cb] w fun e w' => e = .returned (.bool true) ∧ Below w.heap.size w w' := by
  have hmx : len ≤ 9223372036854775807 := hmax
  clear hmax
  have HL := Lib.hid hl
  have HA := Lib.hid ha
  have HB := Lib.hid hb
  clear hl ha hb
  go_enter Try.func11, Try.ntmps11
  go_wp2_with fail
  go_loopw [5] (fun i wr => ∃ k : Nat, k ≤ len ∧ i = .int .i64 k ∧ Below w.heap.size w wr) (fun i _ => len - (intOf i).toNat)
  case atStart => exact ⟨0, Nat.zero_le _, rfl, Below.refl _ _⟩
  case round =>
    obtain ⟨i, hi, rfl, hbel⟩ := hrel
    have HBE := Lib.hid hbel
    clear hbel
    by_cases hlt : i < len
    · obtain ⟨b, off, hb1, rfl, hb3⟩ := HA.out.below HBE.out (by omega)
      obtain ⟨b', off', hb1', rfl, hb3'⟩ := HB.out.below HBE.out (by omega)
      obtain ⟨x, hx⟩ : ∃ x, x = l.getD i 0 := ⟨_, rfl⟩
      have c0 : wr.cell? ⟨b, off + i, none⟩ = some (.int .u32 x) := (hb3 i (by rw [memC_len, HL.out]; exact hlt)).trans (by rw [hx]; exact memC_at l i (by rw [HL.out]; exact hlt))
      have d0 : wr.cell? ⟨b', off' + i, none⟩ = some (.int .u32 x) := (hb3' i (by rw [memC_len, HL.out]; exact hlt)).trans (by rw [hx]; exact memC_at l i (by rw [HL.out]; exact hlt))
      clear hx
      clear hb3 hb3'
      clear hb1 hb1'
      have e1 : (x != x) = false := by simp
      go_wp2_with fail
      go_quiet (fail)
      go_wp2
      go_roundw
      case rel => exact ⟨i + 1, by omega, by go_num, below_drewN HBE.out _⟩
      case measure => simp [intOf]; omega
    · go_wp2
      go_ret
      exact ⟨rfl, HBE.out⟩

set_option maxHeartbeats 1000000 in
theorem cores_same (pa pb : Option Addr) (len ca cb : Nat) (l : List Cor) (w : World) (hl : l.length = len) (hmax : len ≤ maxLen) (ha : Sl w pa len (coresC l)) (hb : Sl w pb len (coresC l)) :
    Calls Try.prog 30 #[.slice pa len ca, .slice pb len cb] w fun e w' => e = .returned (.bool true) ∧ Below w.heap.size w w' := by
  have hmx : len ≤ 9223372036854775807 := hmax
  clear hmax
  have HL := Lib.hid hl
  have HA := Lib.hid ha
  have HB := Lib.hid hb
  clear hl ha hb
  go_enter Try.func30, Try.ntmps30
  go_wp2_with fail
  go_loopw [5] (fun i wr => ∃ k : Nat, k ≤ len ∧ i = .int .i64 k ∧ Below w.heap.size w wr) (fun i _ => len - (intOf i).toNat)
  case atStart => exact ⟨0, Nat.zero_le _, rfl, Below.refl _ _⟩
  case round =>
    obtain ⟨i, hi, rfl, hbel⟩ := hrel
    have HBE := Lib.hid hbel
    clear hbel
    by_cases hlt : i < len
    · obtain ⟨b, off, hb1, rfl, hb3⟩ := HA.out.below HBE.out (by omega)
      obtain ⟨b', off', hb1', rfl, hb3'⟩ := HB.out.below HBE.out (by omega)
      obtain ⟨c, hc⟩ : ∃ c, c = coreAt l i := ⟨_, rfl⟩
      have K : ∀ j, j < 10 → (coresC l)[i * 10 + j]? = c.row[j]? := fun j hj => by rw [hc]; exact coresC_at l i j (by rw [HL.out]; exact hlt) hj
      have L : ∀ j, j < 10 → i * 10 + j < (coresC l).length := fun j hj => by rw [coresC_len, HL.out]; omega
      have c0 : wr.cell? ⟨b, off + i * 10, none⟩ = some (.int .u32 (c.r 0)) := (hb3 (i * 10 + 0) (L 0 (by omega))).trans (K 0 (by omega))
      have c1 : wr.cell? ⟨b, off + i * 10 + 1, none⟩ = some (.int .u32 (c.r 1)) := (hb3 (i * 10 + 1) (L 1 (by omega))).trans (K 1 (by omega))
      have c2 : wr.cell? ⟨b, off + i * 10 + 2, none⟩ = some (.int .u32 (c.r 2)) := (hb3 (i * 10 + 2) (L 2 (by omega))).trans (K 2 (by omega))
      have c3 : wr.cell? ⟨b, off + i * 10 + 3, none⟩ = some (.int .u32 (c.r 3)) := (hb3 (i * 10 + 3) (L 3 (by omega))).trans (K 3 (by omega))
      have c4 : wr.cell? ⟨b, off + i * 10 + 4, none⟩ = some (.int .u32 (c.r 4)) := (hb3 (i * 10 + 4) (L 4 (by omega))).trans (K 4 (by omega))
      have c5 : wr.cell? ⟨b, off + i * 10 + 5, none⟩ = some (.int .u32 (c.r 5)) := (hb3 (i * 10 + 5) (L 5 (by omega))).trans (K 5 (by omega))
      have c6 : wr.cell? ⟨b, off + i * 10 + 6, none⟩ = some (.int .u32 (c.r 6)) := (hb3 (i * 10 + 6) (L 6 (by omega))).trans (K 6 (by omega))
      have c7 : wr.cell? ⟨b, off + i * 10 + 7, none⟩ = some (.int .u32 (c.r 7)) := (hb3 (i * 10 + 7) (L 7 (by omega))).trans (K 7 (by omega))
      have c8 : wr.cell? ⟨b, off + i * 10 + 8, none⟩ = some (.int .i64 c.pc) := (hb3 (i * 10 + 8) (L 8 (by omega))).trans (K 8 (by omega))
      have c9 : wr.cell? ⟨b, off + i * 10 + 9, none⟩ = some (.bool c.h) := (hb3 (i * 10 + 9) (L 9 (by omega))).trans (K 9 (by omega))
      have d0 : wr.cell? ⟨b', off' + i * 10, none⟩ = some (.int .u32 (c.r 0)) := (hb3' (i * 10 + 0) (L 0 (by omega))).trans (K 0 (by omega))
      have d1 : wr.cell? ⟨b', off' + i * 10 + 1, none⟩ = some (.int .u32 (c.r 1)) := (hb3' (i * 10 + 1) (L 1 (by omega))).trans (K 1 (by omega))
      have d2 : wr.cell? ⟨b', off' + i * 10 + 2, none⟩ = some (.int .u32 (c.r 2)) := (hb3' (i * 10 + 2) (L 2 (by omega))).trans (K 2 (by omega))
      have d3 : wr.cell? ⟨b', off' + i * 10 + 3, none⟩ = some (.int .u32 (c.r 3)) := (hb3' (i * 10 + 3) (L 3 (by omega))).trans (K 3 (by omega))
      have d4 : wr.cell? ⟨b', off' + i * 10 + 4, none⟩ = some (.int .u32 (c.r 4)) := (hb3' (i * 10 + 4) (L 4 (by omega))).trans (K 4 (by omega))
      have d5 : wr.cell? ⟨b', off' + i * 10 + 5, none⟩ = some (.int .u32 (c.r 5)) := (hb3' (i * 10 + 5) (L 5 (by omega))).trans (K 5 (by omega))
      have d6 : wr.cell? ⟨b', off' + i * 10 + 6, none⟩ = some (.int .u32 (c.r 6)) := (hb3' (i * 10 + 6) (L 6 (by omega))).trans (K 6 (by omega))
      have d7 : wr.cell? ⟨b', off' + i * 10 + 7, none⟩ = some (.int .u32 (c.r 7)) := (hb3' (i * 10 + 7) (L 7 (by omega))).trans (K 7 (by omega))
      have d8 : wr.cell? ⟨b', off' + i * 10 + 8, none⟩ = some (.int .i64 c.pc) := (hb3' (i * 10 + 8) (L 8 (by omega))).trans (K 8 (by omega))
      have d9 : wr.cell? ⟨b', off' + i * 10 + 9, none⟩ = some (.bool c.h) := (hb3' (i * 10 + 9) (L 9 (by omega))).trans (K 9 (by omega))
      clear K L hc
      clear hb3 hb3'
      clear hb1 hb1'
      have hq : ∀ W, (binOp .neq 55 (.agg #[.int .u32 (c.r 0), .int .u32 (c.r 1), .int .u32 (c.r 2), .int .u32 (c.r 3), .int .u32 (c.r 4), .int .u32 (c.r 5), .int .u32 (c.r 6), .int .u32 (c.r 7), .int .i64 c.pc, .bool c.h]) (.agg #[.int .u32 (c.r 0), .int .u32 (c.r 1), .int .u32 (c.r 2), .int .u32 (c.r 3), .int .u32 (c.r 4), .int .u32 (c.r 5), .int .u32 (c.r 6), .int .u32 (c.r 7), .int .i64 c.pc, .bool c.h])).run Try.prog W = .ok (.bool false) W := fun W => (neq_core W c c).trans (by rw [eqC_refl]; rfl)
      go_wp2_with fail
      go_quiet (fail)
      go_wp2
      go_roundw
      case rel => exact ⟨i + 1, by omega, by go_num, below_drewN HBE.out _⟩
      case measure => simp [intOf]; omega
    · go_wp2
      go_ret
      exact ⟨rfl, HBE.out⟩

set_option maxHeartbeats 1000000 in
theorem outs_same (pa pb : Option Addr) (len ca cb : Nat) (l : List (Int × Int)) (w : World) (hl : l.length = len) (hmax : len ≤ maxLen) (ha : Sl w pa len (outsC l)) (hb : Sl w pb len (outsC l)) :
    Calls Try.prog 22 #[.slice pa len ca, .slice pb len cb] w fun e w' => e = .returned (.bool true) ∧ Below w.heap.size w w' := by
  have hmx : len ≤ 9223372036854775807 := hmax
  clear hmax
  have HL := Lib.hid hl
  have HA := Lib.hid ha
  have HB := Lib.hid hb
  clear hl ha hb
  go_enter Try.func22, Try.ntmps22
  go_wp2_with fail
  go_loopw [5] (fun i wr => ∃ k : Nat, k ≤ len ∧ i = .int .i64 k ∧ Below w.heap.size w wr) (fun i _ => len - (intOf i).toNat)
  case atStart => exact ⟨0, Nat.zero_le _, rfl, Below.refl _ _⟩
  case round =>
    obtain ⟨i, hi, rfl, hbel⟩ := hrel
    have HBE := Lib.hid hbel
    clear hbel
    by_cases hlt : i < len
    · obtain ⟨b, off, hb1, rfl, hb3⟩ := HA.out.below HBE.out (by omega)
      obtain ⟨b', off', hb1', rfl, hb3'⟩ := HB.out.below HBE.out (by omega)
      obtain ⟨x, hx⟩ : ∃ x, x = outAt l i := ⟨_, rfl⟩
      have K : ∀ j, j < 2 → (outsC l)[i * 2 + j]? = (outC x)[j]? := fun j hj => by rw [hx]; exact outsC_at l i j (by rw [HL.out]; exact hlt) hj
      have L : ∀ j, j < 2 → i * 2 + j < (outsC l).length := fun j hj => by rw [outsC_len, HL.out]; omega
      have c0 : wr.cell? ⟨b, off + i * 2, none⟩ = some (.int .i64 x.1) := (hb3 (i * 2 + 0) (L 0 (by omega))).trans (K 0 (by omega))
      have c1 : wr.cell? ⟨b, off + i * 2 + 1, none⟩ = some (.int .u32 x.2) := (hb3 (i * 2 + 1) (L 1 (by omega))).trans (K 1 (by omega))
      have d0 : wr.cell? ⟨b', off' + i * 2, none⟩ = some (.int .i64 x.1) := (hb3' (i * 2 + 0) (L 0 (by omega))).trans (K 0 (by omega))
      have d1 : wr.cell? ⟨b', off' + i * 2 + 1, none⟩ = some (.int .u32 x.2) := (hb3' (i * 2 + 1) (L 1 (by omega))).trans (K 1 (by omega))
      clear K L hx
      clear hb3 hb3'
      clear hb1 hb1'
      have hq : ∀ W, (binOp .neq 63 (.agg #[.int .i64 x.1, .int .u32 x.2]) (.agg #[.int .i64 x.1, .int .u32 x.2])).run Try.prog W = .ok (.bool false) W := fun W => neq_told W x.1 x.2
      go_wp2_with fail
      go_quiet (fail)
      go_wp2
      go_roundw
      case rel => exact ⟨i + 1, by omega, by go_num, below_drewN HBE.out _⟩
      case measure => simp [intOf]; omega
    · go_wp2
      go_ret
      exact ⟨rfl, HBE.out⟩
end Go.Proofs.Ytekiialhljfglaa
/- What the two Overs, Same of machines that hold the same, wordsMay and has answer; they write nothing that was there. -/
namespace Go.Proofs.Ytekiialhljfglaa
set_option linter.unusedVariables false
open Go.ChangeShapes Go.WideShapes Go.ChangeAt Go.RowKit

theorem below_core {N X : Nat} {w w1 : World} (h : Below N w w1) (hN : N ≤ X) (v0 v1 v2 v3 v4 v5 v6 v7 v8 v9 : Value) : Below N w ((((((((((w1.setCell ⟨X, 0, none⟩ v0).setCell ⟨X, 1, none⟩ v1).setCell ⟨X, 2, none⟩ v2).setCell ⟨X, 3, none⟩ v3).setCell ⟨X, 4, none⟩ v4).setCell ⟨X, 5, none⟩ v5).setCell ⟨X, 6, none⟩ v6).setCell ⟨X, 7, none⟩ v7).setCell ⟨X, 8, none⟩ v8).setCell ⟨X, 9, none⟩ v9) :=
  (((((((((h.setCell hN _).setCell hN _).setCell hN _).setCell hN _).setCell hN _).setCell hN _).setCell hN _).setCell hN _).setCell hN _).setCell hN _
theorem over_yes {l : List Cor} (h : ∀ j, j < l.length → (coreAt l j).h = true) : overA l = true := by
  unfold overA
  rw [List.all_eq_true]
  intro x hx
  obtain ⟨i, hi, rfl⟩ := List.getElem_of_mem hx
  have := h i hi
  unfold coreAt at this
  simpa [List.getD, hi] using this
theorem over_no {l : List Cor} {i : Nat} (hi : i < l.length) (h : (coreAt l i).h = false) : overA l = false := by
  cases ho : overA l with
  | false => rfl
  | true =>
    unfold overA at ho
    rw [List.all_eq_true] at ho
    have := ho l[i] (List.getElem_mem hi)
    unfold coreAt at h
    simp [List.getD, hi] at h
    rw [h] at this
    cases this

set_option maxHeartbeats 1000000 in
theorem over_any (pm pc po : Option Addr) (lm cm len cc lo co : Nat) (l : List Cor) (w : World) (hl : l.length = len) (hmax : len ≤ maxLen) (hc : Sl w pc len (coresC l)) :
    Calls Try.prog 12 #[.agg #[.slice pm lm cm, .slice pc len cc, .slice po lo co]] w fun e w' => e = .returned (.bool (overA l)) ∧ Below w.heap.size w w' := by
  have hmx : len ≤ 9223372036854775807 := hmax
  clear hmax
  have HL := Lib.hid hl
  have HA := Lib.hid hc
  clear hl hc
  go_enter Try.func12, Try.ntmps12
  go_wp2_with fail
  go_loopw [8] (fun i wr => ∃ k : Nat, k ≤ len ∧ i = .int .i64 k ∧ (∀ j, j < k → (coreAt l j).h = true) ∧ Below w.heap.size w wr) (fun i _ => len - (intOf i).toNat)
  case atStart => exact ⟨0, Nat.zero_le _, rfl, fun j hj => absurd hj (by omega), (Below.refl _ _).alloc (Nat.le_refl _) _⟩
  case round =>
    obtain ⟨i, hi, rfl, hall, hbel⟩ := hrel
    have HBE := Lib.hid hbel
    have HAL := Lib.hid hall
    clear hbel hall
    by_cases hlt : i < len
    · obtain ⟨b, off, hb1, rfl, hb3⟩ := HA.out.below HBE.out (by omega)
      obtain ⟨c, hc⟩ : ∃ c, c = coreAt l i := ⟨_, rfl⟩
      have K : ∀ j, j < 10 → (coresC l)[i * 10 + j]? = c.row[j]? := fun j hj => by rw [hc]; exact coresC_at l i j (by rw [HL.out]; exact hlt) hj
      have L : ∀ j, j < 10 → i * 10 + j < (coresC l).length := fun j hj => by rw [coresC_len, HL.out]; omega
      have c0 : wr.cell? ⟨b, off + i * 10, none⟩ = some (.int .u32 (c.r 0)) := (hb3 (i * 10 + 0) (L 0 (by omega))).trans (K 0 (by omega))
      have c1 : wr.cell? ⟨b, off + i * 10 + 1, none⟩ = some (.int .u32 (c.r 1)) := (hb3 (i * 10 + 1) (L 1 (by omega))).trans (K 1 (by omega))
      have c2 : wr.cell? ⟨b, off + i * 10 + 2, none⟩ = some (.int .u32 (c.r 2)) := (hb3 (i * 10 + 2) (L 2 (by omega))).trans (K 2 (by omega))
      have c3 : wr.cell? ⟨b, off + i * 10 + 3, none⟩ = some (.int .u32 (c.r 3)) := (hb3 (i * 10 + 3) (L 3 (by omega))).trans (K 3 (by omega))
      have c4 : wr.cell? ⟨b, off + i * 10 + 4, none⟩ = some (.int .u32 (c.r 4)) := (hb3 (i * 10 + 4) (L 4 (by omega))).trans (K 4 (by omega))
      have c5 : wr.cell? ⟨b, off + i * 10 + 5, none⟩ = some (.int .u32 (c.r 5)) := (hb3 (i * 10 + 5) (L 5 (by omega))).trans (K 5 (by omega))
      have c6 : wr.cell? ⟨b, off + i * 10 + 6, none⟩ = some (.int .u32 (c.r 6)) := (hb3 (i * 10 + 6) (L 6 (by omega))).trans (K 6 (by omega))
      have c7 : wr.cell? ⟨b, off + i * 10 + 7, none⟩ = some (.int .u32 (c.r 7)) := (hb3 (i * 10 + 7) (L 7 (by omega))).trans (K 7 (by omega))
      have c8 : wr.cell? ⟨b, off + i * 10 + 8, none⟩ = some (.int .i64 c.pc) := (hb3 (i * 10 + 8) (L 8 (by omega))).trans (K 8 (by omega))
      have c9 : wr.cell? ⟨b, off + i * 10 + 9, none⟩ = some (.bool c.h) := (hb3 (i * 10 + 9) (L 9 (by omega))).trans (K 9 (by omega))
      have HC := Lib.hid hc
      clear K L hb3 hb1 hc
      obtain ⟨r, p, h⟩ := c
      cases h with
      | true =>
        go_wp2
        go_roundw
        case rel =>
          refine ⟨i + 1, by omega, by go_num, fun j hj => ?_, ?_⟩
          · by_cases hji : j = i
            · rw [hji, ← HC.out]
            · exact HAL.out j (by omega)
          · first | exact HBE.out.alloc HBE.out.size _ | exact below_core (HBE.out.alloc HBE.out.size _) HBE.out.size _ _ _ _ _ _ _ _ _ _
        case measure => simp [intOf]; omega
      | false =>
        go_wp2
        go_ret
        refine ⟨?_, ?_⟩
        · rw [over_no (l := l) (i := i) (by rw [HL.out]; exact hlt) (by rw [← HC.out])]; rfl
        · first | exact HBE.out.alloc HBE.out.size _ | exact below_core (HBE.out.alloc HBE.out.size _) HBE.out.size _ _ _ _ _ _ _ _ _ _
    · go_wp2
      go_ret
      refine ⟨?_, HBE.out⟩
      rw [over_yes (l := l) (fun j hj => by rw [HL.out] at hj; exact HAL.out j (by omega))]; rfl

set_option maxHeartbeats 1000000 in
theorem overR_any (pm pc po : Option Addr) (lm cm len cc lo co : Nat) (l : List Cor) (w : World) (hl : l.length = len) (hmax : len ≤ maxLen) (hc : Sl w pc len (coresC l)) :
    Calls Try.prog 13 #[.slice pc len cc] w fun e w' => e = .returned (.bool (overA l)) ∧ Below w.heap.size w w' := by
  have hmx : len ≤ 9223372036854775807 := hmax
  clear hmax
  have HL := Lib.hid hl
  have HA := Lib.hid hc
  clear hl hc
  go_enter Try.func13, Try.ntmps13
  go_wp2_with fail
  go_loopw [3] (fun i wr => ∃ k : Nat, k ≤ len ∧ i = .int .i64 k ∧ (∀ j, j < k → (coreAt l j).h = true) ∧ Below w.heap.size w wr) (fun i _ => len - (intOf i).toNat)
  case atStart => exact ⟨0, Nat.zero_le _, rfl, fun j hj => absurd hj (by omega), Below.refl _ _⟩
  case round =>
    obtain ⟨i, hi, rfl, hall, hbel⟩ := hrel
    have HBE := Lib.hid hbel
    have HAL := Lib.hid hall
    clear hbel hall
    by_cases hlt : i < len
    · obtain ⟨b, off, hb1, rfl, hb3⟩ := HA.out.below HBE.out (by omega)
      obtain ⟨c, hc⟩ : ∃ c, c = coreAt l i := ⟨_, rfl⟩
      have K : ∀ j, j < 10 → (coresC l)[i * 10 + j]? = c.row[j]? := fun j hj => by rw [hc]; exact coresC_at l i j (by rw [HL.out]; exact hlt) hj
      have L : ∀ j, j < 10 → i * 10 + j < (coresC l).length := fun j hj => by rw [coresC_len, HL.out]; omega
      have c0 : wr.cell? ⟨b, off + i * 10, none⟩ = some (.int .u32 (c.r 0)) := (hb3 (i * 10 + 0) (L 0 (by omega))).trans (K 0 (by omega))
      have c1 : wr.cell? ⟨b, off + i * 10 + 1, none⟩ = some (.int .u32 (c.r 1)) := (hb3 (i * 10 + 1) (L 1 (by omega))).trans (K 1 (by omega))
      have c2 : wr.cell? ⟨b, off + i * 10 + 2, none⟩ = some (.int .u32 (c.r 2)) := (hb3 (i * 10 + 2) (L 2 (by omega))).trans (K 2 (by omega))
      have c3 : wr.cell? ⟨b, off + i * 10 + 3, none⟩ = some (.int .u32 (c.r 3)) := (hb3 (i * 10 + 3) (L 3 (by omega))).trans (K 3 (by omega))
      have c4 : wr.cell? ⟨b, off + i * 10 + 4, none⟩ = some (.int .u32 (c.r 4)) := (hb3 (i * 10 + 4) (L 4 (by omega))).trans (K 4 (by omega))
      have c5 : wr.cell? ⟨b, off + i * 10 + 5, none⟩ = some (.int .u32 (c.r 5)) := (hb3 (i * 10 + 5) (L 5 (by omega))).trans (K 5 (by omega))
      have c6 : wr.cell? ⟨b, off + i * 10 + 6, none⟩ = some (.int .u32 (c.r 6)) := (hb3 (i * 10 + 6) (L 6 (by omega))).trans (K 6 (by omega))
      have c7 : wr.cell? ⟨b, off + i * 10 + 7, none⟩ = some (.int .u32 (c.r 7)) := (hb3 (i * 10 + 7) (L 7 (by omega))).trans (K 7 (by omega))
      have c8 : wr.cell? ⟨b, off + i * 10 + 8, none⟩ = some (.int .i64 c.pc) := (hb3 (i * 10 + 8) (L 8 (by omega))).trans (K 8 (by omega))
      have c9 : wr.cell? ⟨b, off + i * 10 + 9, none⟩ = some (.bool c.h) := (hb3 (i * 10 + 9) (L 9 (by omega))).trans (K 9 (by omega))
      have HC := Lib.hid hc
      clear K L hb3 hb1 hc
      obtain ⟨r, p, h⟩ := c
      cases h with
      | true =>
        go_wp2
        go_roundw
        case rel =>
          refine ⟨i + 1, by omega, by go_num, fun j hj => ?_, ?_⟩
          · by_cases hji : j = i
            · rw [hji, ← HC.out]
            · exact HAL.out j (by omega)
          · exact HBE.out
        case measure => simp [intOf]; omega
      | false =>
        go_wp2
        go_ret
        refine ⟨?_, ?_⟩
        · rw [over_no (l := l) (i := i) (by rw [HL.out]; exact hlt) (by rw [← HC.out])]; rfl
        · exact HBE.out
    · go_wp2
      go_ret
      refine ⟨?_, HBE.out⟩
      rw [over_yes (l := l) (fun j hj => by rw [HL.out] at hj; exact HAL.out j (by omega))]; rfl

theorem wordsMay_any (n : Int) (w : World) : Calls Try.prog 27 #[.int .i64 n] w fun e w' => e = .returned (.bool (decide (1 ≤ n) && decide (n ≤ 64))) ∧ w = w' := by
  by_cases h1 : 1 ≤ n
  · have d1 : decide (1 ≤ n) = true := decide_eq_true h1
    cases d2 : decide (n ≤ 64) <;>
    · go_enter Try.func27, Try.ntmps27
      go_wp2
      go_ret
      exact ⟨by simp [d1, d2], rfl⟩
  · have d1 : decide (1 ≤ n) = false := decide_eq_false h1
    go_enter Try.func27, Try.ntmps27
    go_wp2
    go_ret
    exact ⟨by simp [d1], rfl⟩
theorem has_any (pm pc po : Option Addr) (lm cm len cc lo co : Nat) (n : Int) (w : World) : Calls Try.prog 35 #[.agg #[.slice pm lm cm, .slice pc len cc, .slice po lo co], .int .i64 n] w fun e w' => e = .returned (.bool (decide (0 ≤ n) && decide (n < len))) ∧ Below w.heap.size w w' := by
  by_cases h1 : 0 ≤ n
  · have d1 : decide (0 ≤ n) = true := decide_eq_true h1
    cases d2 : decide (n < (len : Int)) <;>
    · go_enter Try.func35, Try.ntmps35
      go_wp2
      go_ret
      exact ⟨by simp [d1, d2], (Below.refl _ _).alloc (Nat.le_refl _) _⟩
  · have d1 : decide (0 ≤ n) = false := decide_eq_false h1
    go_enter Try.func35, Try.ntmps35
    go_wp2
    go_ret
    exact ⟨by simp [d1], (Below.refl _ _).alloc (Nat.le_refl _) _⟩

set_option maxHeartbeats 1000000 in
theorem same_parts (pm pc po qm qc qo : Option Addr) (lm cm lc cc lo co dm dc do' : Nat) (a : Atm) (w : World) (h1 : a.mem.length = lm) (h2 : a.cores.length = lc) (h3 : a.outs.length = lo) (m1 : lm ≤ maxLen) (m2 : lc ≤ maxLen) (m3 : lo ≤ maxLen)
    (s1 : Sl w pm lm (memC a.mem)) (s2 : Sl w pc lc (coresC a.cores)) (s3 : Sl w po lo (outsC a.outs)) (t1 : Sl w qm lm (memC a.mem)) (t2 : Sl w qc lc (coresC a.cores)) (t3 : Sl w qo lo (outsC a.outs)) :
    Calls Try.prog 16 #[.agg #[.slice pm lm cm, .slice pc lc cc, .slice po lo co], .agg #[.slice qm lm dm, .slice qc lc dc, .slice qo lo do']] w fun e w' => e = .returned (.bool true) ∧ Below w.heap.size w w' := by
  have H1 := Lib.hid h1
  have H2 := Lib.hid h2
  have H3 := Lib.hid h3
  have M1 := Lib.hid m1
  have M2 := Lib.hid m2
  have M3 := Lib.hid m3
  have S1 := Lib.hid s1
  have S2 := Lib.hid s2
  have S3 := Lib.hid s3
  have T1 := Lib.hid t1
  have T2 := Lib.hid t2
  have T3 := Lib.hid t3
  clear h1 h2 h3 m1 m2 m3 s1 s2 s3 t1 t2 t3
  go_enter Try.func16, Try.ntmps16
  go_wp2_with fail
  have b0 : Hid (Below w.heap.size w ((w.alloc (.cells #[.slice pm lm cm, .slice pc lc cc, .slice po lo co] 27)).alloc (.cells #[.slice qm lm dm, .slice qc lc dc, .slice qo lo do'] 27))) := ((Below.refl _ _).alloc (Nat.le_refl _) _).alloc (by simp) _
  refine (words_same pm qm lm cm dm a.mem _ H1.out M1.out (S1.out.below b0.out) (T1.out.below b0.out)).mono ?_
  rintro e w1 ⟨rfl, hb1⟩
  have k1 : Hid (Blk w1 w.heap.size #[.slice pm lm cm, .slice pc lc cc, .slice po lo co]) := Blk.track2 hb1
  have k2 : Hid (Blk w1 (w.heap.size + 1) #[.slice qm lm dm, .slice qc lc dc, .slice qo lo do']) := by have h := (Blk.new (w.alloc (.cells #[.slice pm lm cm, .slice pc lc cc, .slice po lo co] 27)) #[.slice qm lm dm, .slice qc lc dc, .slice qo lo do'] 27).below hb1; rw [World.size_alloc] at h; exact h
  have b1 : Hid (Below w.heap.size w w1) := b0.out.trans (hb1.mono b0.out.size)
  clear hb1 b0
  have c1 := k1.out.c
  have c2 := k2.out.c
  go_wp2_with fail
  refine (cores_same pc qc lc cc dc a.cores _ H2.out M2.out (S2.out.below b1.out) (T2.out.below b1.out)).mono ?_
  rintro e w2 ⟨rfl, hb2⟩
  have b2 : Hid (Below w.heap.size w w2) := b1.out.trans (hb2.mono b1.out.size)
  have k3 : Hid (Blk w2 w.heap.size #[.slice pm lm cm, .slice pc lc cc, .slice po lo co]) := k1.out.below hb2
  have k4 : Hid (Blk w2 (w.heap.size + 1) #[.slice qm lm dm, .slice qc lc dc, .slice qo lo do']) := k2.out.below hb2
  clear hb2 c1 c2 k1 k2 b1
  have c1 := k3.out.c
  have c2 := k4.out.c
  go_wp2_with fail
  refine (outs_same po qo lo co do' a.outs _ H3.out M3.out (S3.out.below b2.out) (T3.out.below b2.out)).mono ?_
  rintro e w3 ⟨rfl, hb3⟩
  have b3 : Hid (Below w.heap.size w w3) := b2.out.trans (hb3.mono b2.out.size)
  clear hb3 c1 c2 k3 k4 b2
  go_wp2
  go_ret
  exact ⟨rfl, b3.out⟩

/-- Two machines that hold the same are told to be the same. -/
theorem same_any (v u : Value) (a : Atm) (w : World) (m1 : a.mem.length ≤ maxLen) (m2 : a.cores.length ≤ maxLen) (m3 : a.outs.length ≤ maxLen) (hv : Mach w v a) (hu : Mach w u a) :
    Calls Try.prog 16 #[v, u] w fun e w' => e = .returned (.bool true) ∧ Below w.heap.size w w' := by
  obtain ⟨pm, cm, pc, cc, po, co, rfl, h2, h3, h4⟩ := hv
  obtain ⟨qm, dm, qc, dc, qo, do', rfl, g2, g3, g4⟩ := hu
  exact same_parts pm pc po qm qc qo _ cm _ cc _ co dm dc do' a w rfl rfl rfl m1 m2 m3 h2 h3 h4 g2 g3 g4
end Go.Proofs.Ytekiialhljfglaa
/- What atom.act does to words that it may write, and what atom.Act answers. -/
namespace Go.Proofs.Ytekiialhljfglaa
set_option linter.unusedVariables false
open Go.ChangeShapes Go.WideShapes Go.ChangeAt Go.RowKit

theorem grown_alloc {w w1 : World} {row : Option Nat} (h : w.grownBy w1 row) (o : Obj) : w.grownBy (w1.alloc o) row :=
  ⟨h.os, h.tape, h.output, by rw [World.size_alloc]; have := h.size; omega, fun k hk hne => (Below.heap_alloc w1 o k (Nat.lt_of_lt_of_le hk h.size)).trans (h.block k hk hne)⟩
theorem grown_set {w w1 : World} {g : Nat} (h : w.grownBy w1 (some g)) (j : Nat) (v : Value) : w.grownBy (w1.setCell ⟨g, j, none⟩ v) (some g) :=
  ⟨h.os, h.tape, h.output, by rw [size_set]; exact h.size, fun k hk hne => (Below.heap_setCell w1 ⟨g, j, none⟩ v k (fun e => hne (by rw [e]))).trans (h.block k hk hne)⟩
theorem grown_new (w : World) (o : Obj) (row : Option Nat) : w.grownBy (w.alloc o) row := grown_alloc (World.grownBy.refl w row) o

theorem act_out (p : Option Addr) (len cap : Nat) (kind at_ val old : Int) (w : World) (h : at_ < 0 ∨ (len : Int) ≤ at_) :
    Calls Try.prog 25 #[.slice p len cap, .agg #[.int .i64 kind, .int .i64 at_, .int .u32 val, .int .u32 old]] w fun e w' => e = .returned (.int .u32 0) ∧ w' = w.alloc (.cells #[.int .i64 kind, .int .i64 at_, .int .u32 val, .int .u32 old] 30) := by
  by_cases h0 : at_ < 0
  · have d1 : decide (at_ < 0) = true := decide_eq_true h0
    go_enter Try.func25, Try.ntmps25
    go_wp2
    go_ret
    exact ⟨rfl, rfl⟩
  · have d1 : decide (at_ < 0) = false := decide_eq_false h0
    have d2 : decide ((len : Int) ≤ at_) = true := decide_eq_true (by omega)
    go_enter Try.func25, Try.ntmps25
    go_wp2
    go_ret
    exact ⟨rfl, rfl⟩

set_option maxHeartbeats 1000000 in
theorem act_in (g len cap n : Nat) (kind val old was : Int) (w : World) (hn : n < len) (hg : g < w.heap.size) (hc : w.cell? ⟨g, n, none⟩ = some (.int .u32 was)) (hf : w.frozen? ⟨g, n, none⟩ = false) :
    Calls Try.prog 25 #[.slice (some ⟨g, 0, none⟩) len cap, .agg #[.int .i64 kind, .int .i64 n, .int .u32 val, .int .u32 old]] w fun e w' => e = .returned (.int .u32 (if 1 ≤ kind ∧ kind ≤ 3 then was else 0)) ∧
      w' = (if kind = 2 ∨ kind = 3 ∧ was = old then (w.setCell ⟨g, n, none⟩ (.int .u32 val)).alloc (.cells #[.int .i64 kind, .int .i64 n, .int .u32 val, .int .u32 old] 30) else w.alloc (.cells #[.int .i64 kind, .int .i64 n, .int .u32 val, .int .u32 old] 30)) := by
  have d1 : decide ((n : Int) < 0) = false := decide_eq_false (by omega)
  have d2 : decide ((len : Int) ≤ (n : Int)) = false := decide_eq_false (by omega)
  have n0 : (0 : Int) ≤ (n : Int) := by omega
  have n1 : (n : Int) < (len : Int) := by omega
  have hne : g ≠ w.heap.size := by omega
  by_cases k1 : kind = 1
  · subst k1
    rw [if_pos (by omega), if_neg (by omega)]
    go_enter Try.func25, Try.ntmps25
    go_wp2
    go_ret
    exact ⟨rfl, rfl⟩
  have e1 : (kind == 1) = false := by simpa using k1
  by_cases k2 : kind = 2
  · subst k2
    rw [if_pos (by omega), if_pos (by omega)]
    go_enter Try.func25, Try.ntmps25
    go_wp2
    go_ret
    exact ⟨rfl, rfl⟩
  have e2 : (kind == 2) = false := by simpa using k2
  by_cases k3 : kind = 3
  · subst k3
    rw [if_pos (by omega)]
    by_cases ho : was = old
    · have e3 : (was == old) = true := by simpa using ho
      have ho' : (2 : Int) ≠ 3 := by omega
      rw [if_pos (by right; exact ⟨rfl, ho⟩)]
      clear ho
      go_enter Try.func25, Try.ntmps25
      go_wp2
      go_ret
      exact ⟨rfl, rfl⟩
    · have e3 : (was == old) = false := by simpa using ho
      rw [if_neg (by rintro (h | h); · omega
                     · exact ho h.2)]
      clear ho
      go_enter Try.func25, Try.ntmps25
      go_wp2
      go_ret
      exact ⟨rfl, rfl⟩
  have e3 : (kind == 3) = false := by simpa using k3
  rw [if_neg (by omega), if_neg (by omega)]
  clear k1 k2 k3
  go_enter Try.func25, Try.ntmps25
  go_wp2
  go_ret
  exact ⟨rfl, rfl⟩

theorem ownBlock_some {g n c : Nat} : (Value.slice (some ⟨g, 0, none⟩) n c).ownBlock = some g := rfl

theorem act_any (vm : Value) (base : Nat) (mem : List Int) (x : Wnt) (w : World) (hown : w.ownsRow base 28 1 vm mem.length (memC mem)) (hbase : base ≤ w.heap.size) :
    Calls Try.prog 25 #[vm, .agg x.row] w fun e w' => e = .returned (.int .u32 (actWas mem x)) ∧ w'.ownsRow base 28 1 vm mem.length (memC (actMem mem x)) ∧ w.grownBy w' vm.ownBlock := by
  obtain ⟨kind, at_, val, old⟩ := x
  by_cases h : at_ < 0 ∨ (mem.length : Int) ≤ at_
  · obtain ⟨p, cap, rfl, _⟩ := Sl.own hown
    have hh : actHit mem ⟨kind, at_, val, old⟩ = false := by
      unfold actHit
      rcases h with h | h
      · rw [decide_eq_false (p := (0 : Int) ≤ at_) (by omega)]; rfl
      · rw [decide_eq_false (p := at_ < (mem.length : Int)) (by omega)]; simp
    have e1 : actWas mem ⟨kind, at_, val, old⟩ = 0 := by unfold actWas; rw [hh]; rfl
    have e2 : actMem mem ⟨kind, at_, val, old⟩ = mem := by unfold actMem; rw [hh]; rfl
    rw [e1, e2]
    refine (act_out p _ cap kind at_ val old w h).mono ?_
    rintro e w' ⟨rfl, rfl⟩
    exact ⟨rfl, hown.alloc _, grown_new w _ _⟩
  · obtain ⟨n, rfl⟩ : ∃ n : Nat, at_ = n := ⟨at_.toNat, by omega⟩
    have hn : n < mem.length := by omega
    obtain ⟨hl, ⟨_, h0⟩ | ⟨g, cap, cur, rfl, hg, hb, h1, h2, h3, h4⟩⟩ := hown
    · omega
    have hown : w.ownsRow base 28 1 (.slice (some ⟨g, 0, none⟩) mem.length cap) mem.length (memC mem) := ⟨hl, .inr ⟨g, cap, cur, rfl, hg, hb, h1, h2, h3, h4⟩⟩
    have hgl : g < w.heap.size := (Array.getElem?_eq_some_iff.1 hb).1
    have hc : w.cell? ⟨g, n, none⟩ = some (.int .u32 (mem.getD n 0)) := (hown.cellAt n (by omega)).trans (memC_at mem n hn)
    have hh : actHit mem ⟨kind, n, val, old⟩ = true := by
      unfold actHit
      simp only
      rw [decide_eq_true (p := (0 : Int) ≤ n) (by omega), decide_eq_true (p := (n : Int) < mem.length) (by omega)]; rfl
    have e1 : actWas mem ⟨kind, n, val, old⟩ = if 1 ≤ kind ∧ kind ≤ 3 then mem.getD n 0 else 0 := by
      unfold actWas; rw [hh]
      simp only [Bool.true_and, Int.toNat_natCast, Bool.and_eq_true, decide_eq_true_eq]
    have e2 : actMem mem ⟨kind, n, val, old⟩ = if kind = 2 ∨ kind = 3 ∧ mem.getD n 0 = old then mem.set n val else mem := by
      unfold actMem; rw [hh]
      simp only [Bool.true_and, Int.toNat_natCast, Bool.and_eq_true, Bool.or_eq_true, decide_eq_true_eq]
    rw [e1, e2]
    refine (act_in g mem.length cap n kind val old _ w hn hgl hc (hown.frozenAt n)).mono ?_
    rintro e w' ⟨rfl, rfl⟩
    refine ⟨rfl, ?_, ?_⟩
    · split
      · rw [← memC_set]
        exact (hown.stored n _).1.alloc _
      · exact hown.alloc _
    · split
      · exact grown_alloc (grown_set (World.grownBy.refl _ _) n _) _
      · exact grown_new w _ _

set_option maxHeartbeats 1000000 in
/-- atom.Act. -/
theorem Act_any (p : Option Addr) (len cap : Nat) (mem : List Int) (x : Wnt) (w : World) (hl : mem.length = len) (hmax : len * 4 ≤ 140737488355328) (hs : Sl w p len (memC mem)) :
    Calls Try.prog 9 #[.slice p len cap, .agg x.row] w fun e w' => ∃ q c, e = .returned (.tuple #[.slice q len c, .int .u32 (actWas mem x)]) ∧ Sl w' q len (memC (actMem mem x)) ∧ Below w.heap.size w w' := by
  obtain ⟨kind, at_, val, old⟩ := x
  show Calls Try.prog 9 #[.slice p len cap, .agg #[.int .i64 kind, .int .i64 at_, .int .u32 val, .int .u32 old]] w _
  have HL := Lib.hid hl
  have HS := Lib.hid hs
  clear hl hs
  go_enter Try.func9, Try.ntmps9
  go_wp2_with fail
  have b0 : Hid (Below w.heap.size w (w.alloc (.cells #[.int .i64 kind, .int .i64 at_, .int .u32 val, .int .u32 old] 30))) := (Below.refl _ _).alloc (Nat.le_refl _) _
  refine (clone24 p len cap (memC mem) _ (by rw [memC_len, HL.out, Nat.mul_one]) (memC_one mem) hmax (HS.out.below b0.out)).mono ?_
  rintro e w1 ⟨v, rfl, hown, hb1⟩
  have HK : Hid (Blk w1 w.heap.size #[.int .i64 kind, .int .i64 at_, .int .u32 val, .int .u32 old]) := Blk.track1 hb1
  have HO := Lib.hid hown
  have b1 : Hid (Below w.heap.size w w1) := b0.out.trans (hb1.mono b0.out.size)
  have b2 : Hid (Below (w.heap.size + 1) (w.alloc (.cells #[.int .i64 kind, .int .i64 at_, .int .u32 val, .int .u32 old] 30)) w1) := by rw [World.size_alloc] at hb1; exact hb1
  have s1 : Hid (w.heap.size + 1 ≤ w1.heap.size) := by have := hb1.size; rw [World.size_alloc] at this; exact this
  clear hown hb1
  have c := HK.out.c
  go_wp2_with fail
  have HO' : w1.ownsRow (w.alloc (.cells #[.int .i64 kind, .int .i64 at_, .int .u32 val, .int .u32 old] 30)).heap.size 28 1 v mem.length (memC mem) := by rw [HL.out]; exact HO.out
  refine (act_any v _ mem ⟨kind, at_, val, old⟩ w1 HO' (by rw [World.size_alloc]; exact s1.out)).mono ?_
  rintro e w2 ⟨rfl, hown, hgr⟩
  obtain ⟨q, c2, rfl, hsl⟩ := Sl.own hown
  have HSL := Lib.hid hsl
  have HB2 : Hid (Below w.heap.size w w2) := b1.out.grown hgr b1.out.size (fun k hk => by have := (HO'.lt k hk).1; rw [World.size_alloc] at this; omega)
  clear hown hgr hsl HO' c
  rw [HL.out]
  go_wp2
  go_ret2
  exact ⟨q, c2, rfl, by have := HSL.out; rw [HL.out] at this; exact this, HB2.out⟩
end Go.Proofs.Ytekiialhljfglaa
/- What atom.New and atom.Right answer; they write nothing that was there. -/
namespace Go.Proofs.Ytekiialhljfglaa
set_option linter.unusedVariables false
open Go.ChangeShapes Go.WideShapes Go.ChangeAt Go.RowKit

theorem coresB_yes {P : List (List I5)} {l : List Cor} {k : Nat} (h : ∀ j, j < k → coreB (atP P j) (coreAt l j) = true) : coresB P l k = true := by
  unfold coresB
  rw [List.all_eq_true]
  intro x hx
  exact h x (List.mem_range.1 hx)
theorem coresB_at {P : List (List I5)} {l : List Cor} {k j : Nat} (h : coresB P l k = true) (hj : j < k) : coreB (atP P j) (coreAt l j) = true := by
  unfold coresB at h
  rw [List.all_eq_true] at h
  exact h j (List.mem_range.2 hj)
theorem coresB_no {P : List (List I5)} {l : List Cor} {k j : Nat} (hj : j < k) (h : coreB (atP P j) (coreAt l j) = false) : coresB P l k = false := by
  cases hc : coresB P l k with
  | false => rfl
  | true => have := coresB_at hc hj; rw [h] at this; cases this
theorem madeM (n : Nat) : (madeCells (Value.int .u32 0).cells (n * 1)).toList = memC (List.replicate n 0) := by
  have e : (Value.int .u32 0).cells = #[.int .u32 0] := rfl
  rw [e, toList_madeCells_one, Nat.mul_one]
  unfold memC
  simp
theorem madeK (n : Nat) : (madeCells (Value.agg zcor.row).cells (n * 10)).toList = coresC (List.replicate n zcor) := by
  apply List.ext_getElem?
  intro m
  have hL := coresC_len (List.replicate n zcor)
  rw [List.length_replicate] at hL
  have e : (Value.agg zcor.row).cells = zcor.row := rfl
  have e2 : zcor.row.size = 10 := rfl
  by_cases hm : m < n * 10
  · have hq : m / 10 < n := by omega
    have hR := coresC_at (List.replicate n zcor) (m / 10) (m % 10) (by simpa using hq) (by omega)
    rw [show m / 10 * 10 + m % 10 = m by omega] at hR
    have e3 : coreAt (List.replicate n zcor) (m / 10) = zcor := by unfold coreAt; simp [List.getD, hq]
    rw [hR, e3, e]
    have h10 : m % 10 < zcor.row.size := by rw [e2]; omega
    simp [madeCells, hm, e2]
    rw [Array.getElem?_eq_getElem h10, getElem!_pos zcor.row (m % 10) h10]
  · rw [List.getElem?_eq_none (by rw [Array.length_toList, size_madeCells]; omega), List.getElem?_eq_none (by omega)]

/-- What is tested ahead of the cores. -/
theorem right_head_no (p pm pc po : Option Addr) (np cap lm cm len cc lo co : Nat) (P : List (List I5)) (w : World) (hl : P.length = np) (hp : Prgs w p P) (h : (1 ≤ lm ∧ lm ≤ 64 ∧ len = np ∧ allB P = true) → False) :
    Calls Try.prog 17 #[.slice p np cap, .agg #[.slice pm lm cm, .slice pc len cc, .slice po lo co]] w fun e w' => e = .returned (.bool false) ∧ Below w.heap.size w w' := by
  have HL := Lib.hid hl
  have HP := Lib.hid hp
  clear hl hp
  have b0 : Hid (Below w.heap.size w (w.alloc (.cells #[.slice pm lm cm, .slice pc len cc, .slice po lo co] 27))) := (Below.refl _ _).alloc (Nat.le_refl _) _
  by_cases h1 : 1 ≤ lm ∧ lm ≤ 64
  · have d1 : (decide (1 ≤ (lm : Int)) && decide ((lm : Int) ≤ 64)) = true := by rw [decide_eq_true (by omega), decide_eq_true (by omega)]; rfl
    by_cases h2 : len = np
    · have e2 : ((len : Int) != (np : Int)) = false := by simp; omega
      have h3 : Hid (allB P = false) := by
        cases hh : allB P with
        | false => rfl
        | true => exact (h ⟨h1.1, h1.2, h2, hh⟩).elim
      clear h h1 h2
      go_enter Try.func17, Try.ntmps17
      go_wp2_with fail
      refine (wordsMay_any _ _).mono ?_
      rintro e w1 ⟨rfl, rfl⟩
      rw [d1]
      go_wp2_with fail
      have hal := all_any p cap P _ (HP.out.below b0.out)
      rw [HL.out, h3.out] at hal
      refine hal.mono ?_
      clear hal
      rintro e w2 ⟨rfl, hb2⟩
      have b2 : Hid (Below w.heap.size w w2) := b0.out.trans (hb2.mono b0.out.size)
      clear hb2
      go_wp2
      go_ret
      exact ⟨rfl, b2.out⟩
    · have e2 : ((len : Int) != (np : Int)) = true := by simp; omega
      clear h h1
      go_enter Try.func17, Try.ntmps17
      go_wp2_with fail
      refine (wordsMay_any _ _).mono ?_
      rintro e w1 ⟨rfl, rfl⟩
      rw [d1]
      go_wp2
      go_ret
      exact ⟨rfl, b0.out⟩
  · have d1 : (decide (1 ≤ (lm : Int)) && decide ((lm : Int) ≤ 64)) = false := by
      rcases (show lm < 1 ∨ 64 < lm by omega) with h | h
      · rw [decide_eq_false (by omega)]; rfl
      · rw [decide_eq_false (p := (lm : Int) ≤ 64) (by omega)]; simp
    clear h h1
    go_enter Try.func17, Try.ntmps17
    go_wp2_with fail
    refine (wordsMay_any _ _).mono ?_
    rintro e w1 ⟨rfl, rfl⟩
    rw [d1]
    go_wp2
    go_ret
    exact ⟨rfl, b0.out⟩

set_option maxHeartbeats 1000000 in
theorem right_loop (b off : Nat) (pm pc po : Option Addr) (cap lm cm len cc lo co : Nat) (P : List (List I5)) (l : List Cor) (w : World) (hl : P.length = len) (hp : Prgs w (some ⟨b, off, none⟩) P) (hlc : l.length = len) (hc : Sl w pc len (coresC l)) (h1 : 1 ≤ lm) (h2 : lm ≤ 64) (h3 : allB P = true) (h4 : len ≤ 4)
    (hlt0 : b < w.heap.size) (hx : ∀ i, i < len → ∃ q cap, w.cell? ⟨b, off + i, none⟩ = some (.slice q (atP P i).length cap) ∧ Prg w q (atP P i)) :
    Calls Try.prog 17 #[.slice (some ⟨b, off, none⟩) len cap, .agg #[.slice pm lm cm, .slice pc len cc, .slice po lo co]] w fun e w' => e = .returned (.bool (coresB P l len)) ∧ Below w.heap.size w w' := by
  have HL := Lib.hid hl
  have HP := Lib.hid hp
  have HLC := Lib.hid hlc
  have HC := Lib.hid hc
  have H3 := Lib.hid h3
  have HX := Lib.hid hx
  have HLT := Lib.hid hlt0
  clear hl hp hlc hc h3 hx hlt0
  have d1 : (decide (1 ≤ (lm : Int)) && decide ((lm : Int) ≤ 64)) = true := by rw [decide_eq_true (by omega), decide_eq_true (by omega)]; rfl
  have e2 : ((len : Int) != (len : Int)) = false := by simp
  have b0 : Hid (Below w.heap.size w (w.alloc (.cells #[.slice pm lm cm, .slice pc len cc, .slice po lo co] 27))) := (Below.refl _ _).alloc (Nat.le_refl _) _
  go_enter Try.func17, Try.ntmps17
  go_wp2_with fail
  refine (wordsMay_any _ _).mono ?_
  rintro e w1 ⟨rfl, rfl⟩
  rw [d1]
  go_wp2_with fail
  have hal := all_any (some ⟨b, off, none⟩) cap P _ (HP.out.below b0.out)
  rw [HL.out, H3.out] at hal
  refine hal.mono ?_
  clear hal
  rintro e w2 ⟨rfl, hb2⟩
  have b2 : Hid (Below w.heap.size w w2) := b0.out.trans (hb2.mono b0.out.size)
  have K2 : Hid (Blk w2 w.heap.size #[.slice pm lm cm, .slice pc len cc, .slice po lo co]) := Blk.track1 hb2
  clear hb2 b0
  go_wp2_with fail
  go_loopw [27] (fun i wr => ∃ k : Nat, k ≤ len ∧ i = .int .i64 k ∧ (∀ j, j < k → coreB (atP P j) (coreAt l j) = true) ∧ Blk wr w.heap.size #[.slice pm lm cm, .slice pc len cc, .slice po lo co] ∧ Below w.heap.size w wr) (fun i _ => len - (intOf i).toNat)
  case atStart => exact ⟨0, Nat.zero_le _, rfl, fun j hj => absurd hj (by omega), K2.out, b2.out⟩
  case round =>
    obtain ⟨i, hi, rfl, hall, hblk, hbel⟩ := hrel
    clear K2 b2
    have HA := Lib.hid hall
    have HK := Lib.hid hblk
    have HBE := Lib.hid hbel
    clear hall hblk hbel
    by_cases hlt : i < len
    · obtain ⟨q, qc, hcell, hprg⟩ := HX.out i hlt
      have hcp := (HBE.out.cell (p := ⟨b, off + i, none⟩) HLT.out).trans hcell
      have HPQ := Lib.hid (hprg.below HBE.out)
      obtain ⟨b', off', hb1, rfl, hb3⟩ := HC.out.below HBE.out (by omega)
      obtain ⟨c, hc⟩ : ∃ c, c = coreAt l i := ⟨_, rfl⟩
      have K : ∀ j, j < 10 → (coresC l)[i * 10 + j]? = c.row[j]? := fun j hj => by rw [hc]; exact coresC_at l i j (by rw [HLC.out]; exact hlt) hj
      have L : ∀ j, j < 10 → i * 10 + j < (coresC l).length := fun j hj => by rw [coresC_len, HLC.out]; omega
      have c0 : wr.cell? ⟨b', off' + i * 10, none⟩ = some (.int .u32 (c.r 0)) := (hb3 (i * 10 + 0) (L 0 (by omega))).trans (K 0 (by omega))
      have c1 : wr.cell? ⟨b', off' + i * 10 + 1, none⟩ = some (.int .u32 (c.r 1)) := (hb3 (i * 10 + 1) (L 1 (by omega))).trans (K 1 (by omega))
      have c2 : wr.cell? ⟨b', off' + i * 10 + 2, none⟩ = some (.int .u32 (c.r 2)) := (hb3 (i * 10 + 2) (L 2 (by omega))).trans (K 2 (by omega))
      have c3 : wr.cell? ⟨b', off' + i * 10 + 3, none⟩ = some (.int .u32 (c.r 3)) := (hb3 (i * 10 + 3) (L 3 (by omega))).trans (K 3 (by omega))
      have c4 : wr.cell? ⟨b', off' + i * 10 + 4, none⟩ = some (.int .u32 (c.r 4)) := (hb3 (i * 10 + 4) (L 4 (by omega))).trans (K 4 (by omega))
      have c5 : wr.cell? ⟨b', off' + i * 10 + 5, none⟩ = some (.int .u32 (c.r 5)) := (hb3 (i * 10 + 5) (L 5 (by omega))).trans (K 5 (by omega))
      have c6 : wr.cell? ⟨b', off' + i * 10 + 6, none⟩ = some (.int .u32 (c.r 6)) := (hb3 (i * 10 + 6) (L 6 (by omega))).trans (K 6 (by omega))
      have c7 : wr.cell? ⟨b', off' + i * 10 + 7, none⟩ = some (.int .u32 (c.r 7)) := (hb3 (i * 10 + 7) (L 7 (by omega))).trans (K 7 (by omega))
      have c8 : wr.cell? ⟨b', off' + i * 10 + 8, none⟩ = some (.int .i64 c.pc) := (hb3 (i * 10 + 8) (L 8 (by omega))).trans (K 8 (by omega))
      have c9 : wr.cell? ⟨b', off' + i * 10 + 9, none⟩ = some (.bool c.h) := (hb3 (i * 10 + 9) (L 9 (by omega))).trans (K 9 (by omega))
      have HCE := Lib.hid hc
      clear K L hb3 hb1 hc hcell hprg
      obtain ⟨n, hn⟩ : ∃ n, n = (atP P i).length := ⟨_, rfl⟩
      rw [← hn] at hcp
      have HN := Lib.hid hn
      clear hn
      have ck := HK.out.c
      go_wp2_with fail
      rw [HN.out]
      refine (coreRight_any q qc (atP P i) c _ HPQ.out).mono ?_
      rintro e w3 ⟨rfl, hb3⟩
      have B3 := Lib.hid (HBE.out.trans (hb3.mono HBE.out.size))
      have K3 := Lib.hid (HK.out.below hb3)
      clear hb3 hcp c0 c1 c2 c3 c4 c5 c6 c7 c8 c9 ck
      rw [← HN.out]
      cases hm : coreB (atP P i) c with
      | true =>
        have HM := Lib.hid hm
        clear hm
        go_wp2
        go_roundw
        case rel =>
          refine ⟨i + 1, by omega, by go_num, fun j hj => ?_, K3.out, B3.out⟩
          by_cases hji : j = i
          · rw [hji, ← HCE.out]; exact HM.out
          · exact HA.out j (by omega)
        case measure => simp [intOf]; omega
      | false =>
        have HM := Lib.hid hm
        clear hm
        go_wp2
        go_ret
        refine ⟨?_, B3.out⟩
        rw [coresB_no hlt (by rw [← HCE.out]; exact HM.out)]
        rfl
    · go_wp2
      go_ret
      refine ⟨?_, HBE.out⟩
      rw [coresB_yes (fun j hj => HA.out j (by omega))]
      rfl

theorem all_len {P : List (List I5)} (h : allB P = true) : 1 ≤ P.length ∧ P.length ≤ 4 := by
  by_cases hh : P.length < 1 ∨ 4 < P.length
  · rw [all_few hh] at h; cases h
  · omega
theorem right_any4 (p : Option Addr) (cap : Nat) (P : List (List I5)) (v : Value) (a : Atm) (w : World) (hp : Prgs w p P) (hv : Mach w v a) :
    Calls Try.prog 17 #[.slice p P.length cap, v] w fun e w' => e = .returned (.bool (rightA P a)) ∧ Below w.heap.size w w' := by
  obtain ⟨pm, cm, pc, cc, po, co, rfl, h2, h3, h4⟩ := hv
  by_cases h : 1 ≤ a.mem.length ∧ a.mem.length ≤ 64 ∧ a.cores.length = P.length ∧ allB P = true
  · obtain ⟨g1, g2, g3, g4⟩ := h
    have e : rightA P a = coresB P a.cores a.cores.length := by
      unfold rightA
      rw [decide_eq_true g1, decide_eq_true g2, decide_eq_true g3, g4, g3]; rfl
    rw [e]
    have hlen := all_len g4
    obtain ⟨b, off, hlt, rfl, hx⟩ := hp (by omega)
    rw [← g3] at hx ⊢
    exact right_loop b off pm pc po cap _ cm _ cc _ co P a.cores w g3.symm hp rfl h3 g1 g2 g4 (by omega) hlt hx
  · have e : rightA P a = false := by
      cases hr : rightA P a with
      | false => rfl
      | true =>
        unfold rightA at hr
        simp only [Bool.and_eq_true, decide_eq_true_eq] at hr
        exact (h ⟨hr.1.1, hr.1.2, hr.2.1, hr.2.2.1⟩).elim
    rw [e]
    exact right_head_no p pm pc po _ cap _ cm _ cc _ co P w rfl hp h
end Go.Proofs.Ytekiialhljfglaa
/- What atom.New answers; it writes nothing that was there. -/
namespace Go.Proofs.Ytekiialhljfglaa
set_option linter.unusedVariables false
open Go.ChangeShapes Go.WideShapes Go.ChangeAt Go.RowKit

theorem make23 (n : Nat) (hn : n ≤ 64) (w : World) : (Instr.makeSlice 23 (.int .i64 (n : Int)) (.int .i64 (n : Int))).run Try.prog w = .ok (.slice (some ⟨w.heap.size, 0, none⟩) n n) (w.alloc (.cells (madeCells (Value.int .u32 0).cells (n * 1)) 28)) := by
  obtain ⟨i0, hi, hz0, hz1, hz2⟩ := info_parts info28
  have h := run_make (P := Try.prog) w 23 28 i0 _ Try.underlying23 hi hz0 .i64 .i64 n n (by omega) (Int.le_refl _) (by rw [hz2]; omega) (by omega)
  rw [hz1] at h
  exact h
theorem make24 (n : Nat) (hn : n ≤ 64) (w : World) : (Instr.makeSlice 24 (.int .i64 (n : Int)) (.int .i64 (n : Int))).run Try.prog w = .ok (.slice (some ⟨w.heap.size, 0, none⟩) n n) (w.alloc (.cells (madeCells (Value.agg zcor.row).cells (n * 10)) 55)) := by
  obtain ⟨i0, hi, hz0, hz1, hz2⟩ := info_parts info55
  have h := run_make (P := Try.prog) w 24 55 i0 _ Try.underlying24 hi hz0 .i64 .i64 n n (by omega) (Int.le_refl _) (by rw [hz2]; omega) (by omega)
  rw [hz1] at h
  exact h

theorem ownA {W : World} {s base words : Nat} (hs : W.heap.size = s) (hb : base ≤ s) (hw : words ≤ 64) : (W.alloc (.cells (madeCells (Value.int .u32 0).cells (words * 1)) 28)).ownsRow base 28 1 (.slice (some ⟨s, 0, none⟩) words words) (newA 0 words).mem.length (memC (newA 0 words).mem) := by
  have h := World.ownsRow_lit (base := base) (e := 28) (size := 1) W (madeCells (Value.int .u32 0).cells (words * 1)) words (by omega) (by unfold maxLen; omega) (size_madeCells _ _)
  rw [madeM, hs] at h
  have e : (newA 0 words).mem.length = words := by unfold newA; simp
  rw [e]
  exact h
theorem ownB {W : World} {s base np : Nat} (hs : W.heap.size = s) (hb : base ≤ s) (hw : np ≤ 64) : (W.alloc (.cells (madeCells (Value.agg zcor.row).cells (np * 10)) 55)).ownsRow base 55 10 (.slice (some ⟨s, 0, none⟩) np np) (newA np 0).cores.length (coresC (newA np 0).cores) := by
  have h := World.ownsRow_lit (base := base) (e := 55) (size := 10) W (madeCells (Value.agg zcor.row).cells (np * 10)) np (by omega) (by unfold maxLen; omega) (size_madeCells _ _)
  rw [madeK, hs] at h
  have e : (newA np 0).cores.length = np := by unfold newA; simp
  rw [e]
  exact h
theorem new_own1 {W : World} {s base np words : Nat} (hs : W.heap.size = s) (hb : base ≤ s) (hw : words ≤ 64) (hn : np ≤ 64) : OwnM ((W.alloc (.cells (madeCells (Value.int .u32 0).cells (words * 1)) 28)).alloc (.cells (madeCells (Value.agg zcor.row).cells (np * 10)) 55)).drew base (.slice (some ⟨s, 0, none⟩) words words) (.slice (some ⟨s + 1, 0, none⟩) np np) (.slice none 0 0) (newA np words) :=
  ⟨((ownA hs hb hw).alloc _).drew, (ownB (by rw [World.size_alloc, hs]) (by omega) hn).drew, World.ownsRow_nil _ _ _ _⟩
theorem new_own2 {W : World} {s base np words : Nat} (hs : W.heap.size = s) (hb : base ≤ s) (hw : words ≤ 64) (hn : np ≤ 64) : OwnM ((W.alloc (.cells (madeCells (Value.agg zcor.row).cells (np * 10)) 55)).alloc (.cells (madeCells (Value.int .u32 0).cells (words * 1)) 28)).drew base (.slice (some ⟨s + 1, 0, none⟩) words words) (.slice (some ⟨s, 0, none⟩) np np) (.slice none 0 0) (newA np words) :=
  ⟨(ownA (by rw [World.size_alloc, hs]) (by omega) hw).drew, ((ownB hs hb hn).alloc _).drew, World.ownsRow_nil _ _ _ _⟩

theorem new_no (p : Option Addr) (np cap : Nat) (words : Int) (P : List (List I5)) (w : World) (hl : P.length = np) (hp : Prgs w p P) (h : (1 ≤ words ∧ words ≤ 64 ∧ allB P = true) → False) :
    Calls Try.prog 14 #[.slice p np cap, .int .i64 words] w fun e w' => e = .returned (.tuple #[.agg #[.slice none 0 0, .slice none 0 0, .slice none 0 0], .int .i64 1]) ∧ Below w.heap.size w w' := by
  have HL := Lib.hid hl
  have HP := Lib.hid hp
  clear hl hp
  have b0 : Hid (Below w.heap.size w (w.alloc (.cells #[.slice none 0 0, .slice none 0 0, .slice none 0 0] 27))) := (Below.refl _ _).alloc (Nat.le_refl _) _
  by_cases h1 : 1 ≤ words ∧ words ≤ 64
  · have d1 : (decide (1 ≤ words) && decide (words ≤ 64)) = true := by rw [decide_eq_true (by omega), decide_eq_true (by omega)]; rfl
    have h3 : Hid (allB P = false) := by
      cases hh : allB P with
      | false => rfl
      | true => exact (h ⟨h1.1, h1.2, hh⟩).elim
    clear h h1
    go_enter Try.func14, Try.ntmps14
    go_wp2_with fail
    refine (wordsMay_any _ _).mono ?_
    rintro e w1 ⟨rfl, rfl⟩
    rw [d1]
    go_wp2_with fail
    have hal := all_any p cap P _ (HP.out.below b0.out)
    rw [HL.out, h3.out] at hal
    refine hal.mono ?_
    clear hal
    rintro e w2 ⟨rfl, hb2⟩
    have b2 : Hid (Below w.heap.size w w2) := b0.out.trans (hb2.mono b0.out.size)
    have K2 : Hid (Blk w2 w.heap.size #[.slice none 0 0, .slice none 0 0, .slice none 0 0]) := Blk.track1 hb2
    clear hb2
    have c := K2.out.c
    have f := K2.out.f
    have lt := K2.out.lt
    go_wp2
    refine bodyPost_ret (v := .tuple #[.agg #[.slice none 0 0, .slice none 0 0, .slice none 0 0], .int .i64 1]) (by simp [results, Try.results14, go_sem, *]) rfl ⟨rfl, ?_⟩
    exact ((b2.out.setCell (Nat.le_refl _) _).setCell (Nat.le_refl _) _).setCell (Nat.le_refl _) _
  · have d1 : (decide (1 ≤ words) && decide (words ≤ 64)) = false := by
      rcases (show words < 1 ∨ 64 < words by omega) with h | h
      · rw [decide_eq_false (by omega)]; rfl
      · rw [decide_eq_false (p := words ≤ 64) (by omega)]; simp
    clear h h1
    go_enter Try.func14, Try.ntmps14
    go_wp2_with fail
    refine (wordsMay_any _ _).mono ?_
    rintro e w1 ⟨rfl, rfl⟩
    rw [d1]
    go_wp2
    refine bodyPost_ret (v := .tuple #[.agg #[.slice none 0 0, .slice none 0 0, .slice none 0 0], .int .i64 1]) (by simp [results, Try.results14, go_sem]) rfl ⟨rfl, ?_⟩
    exact b0.out

set_option maxHeartbeats 1000000 in
theorem new_yes (p : Option Addr) (np cap words : Nat) (P : List (List I5)) (w : World) (hl : P.length = np) (hp : Prgs w p P) (h1 : 1 ≤ words) (h2 : words ≤ 64) (h3 : allB P = true) (h4 : np ≤ 4) :
    Calls Try.prog 14 #[.slice p np cap, .int .i64 words] w fun e w' => ∃ vm vc vo, e = .returned (.tuple #[.agg #[vm, vc, vo], .int .i64 0]) ∧ OwnM w' w.heap.size vm vc vo (newA np words) ∧ Below w.heap.size w w' := by
  have HL := Lib.hid hl
  have HP := Lib.hid hp
  have H3 := Lib.hid h3
  clear hl hp h3
  have b0 : Hid (Below w.heap.size w (w.alloc (.cells #[.slice none 0 0, .slice none 0 0, .slice none 0 0] 27))) := (Below.refl _ _).alloc (Nat.le_refl _) _
  have d1 : (decide (1 ≤ (words : Int)) && decide ((words : Int) ≤ 64)) = true := by rw [decide_eq_true (by omega), decide_eq_true (by omega)]; rfl
  go_enter Try.func14, Try.ntmps14
  go_wp2_with fail
  refine (wordsMay_any _ _).mono ?_
  rintro e w1 ⟨rfl, rfl⟩
  rw [d1]
  go_wp2_with fail
  have hal := all_any p cap P _ (HP.out.below b0.out)
  rw [HL.out, H3.out] at hal
  refine hal.mono ?_
  clear hal
  rintro e w2 ⟨rfl, hb2⟩
  have b2 : Hid (Below w.heap.size w w2) := b0.out.trans (hb2.mono b0.out.size)
  have K2 : Hid (Blk w2 w.heap.size #[.slice none 0 0, .slice none 0 0, .slice none 0 0]) := Blk.track1 hb2
  clear hb2
  have c := K2.out.c
  have f := K2.out.f
  have lt := K2.out.lt
  have mk1 := make23 words h2
  have mk2 := make24 np (by omega)
  obtain ⟨A, hA⟩ : ∃ A, A = madeCells (Value.int .u32 0).cells (words * 1) := ⟨_, rfl⟩
  obtain ⟨B, hB⟩ : ∃ B, B = madeCells (Value.agg zcor.row).cells (np * 10) := ⟨_, rfl⟩
  rw [← hA] at mk1
  rw [← hB] at mk2
  have HA := Lib.hid hA
  have HB := Lib.hid hB
  clear hA hB
  go_wp2_with fail
  go_region
  all_goals (try go_wp2)
  · refine bodyPost_ret (v := .tuple #[.agg #[.slice (some ⟨w2.heap.size, 0, none⟩) words words, .slice (some ⟨w2.heap.size + 1, 0, none⟩) np np, .slice none 0 0], .int .i64 0]) (by simp [results, Try.results14, go_sem, *]) rfl ⟨_, _, _, rfl, ?_, ?_⟩
    · rw [HA.out, HB.out]
      exact new_own1 (by simp) b2.out.size h2 (by omega)
    · exact ((((((b2.out.setCell (Nat.le_refl _) _).setCell (Nat.le_refl _) _).setCell (Nat.le_refl _) _).alloc (by simp; exact b2.out.size) _).alloc (by simp; have := b2.out.size; omega) _)).drew
  · refine bodyPost_ret (v := .tuple #[.agg #[.slice (some ⟨w2.heap.size + 1, 0, none⟩) words words, .slice (some ⟨w2.heap.size, 0, none⟩) np np, .slice none 0 0], .int .i64 0]) (by simp [results, Try.results14, go_sem, *]) rfl ⟨_, _, _, rfl, ?_, ?_⟩
    · rw [HA.out, HB.out]
      exact new_own2 (by simp) b2.out.size h2 (by omega)
    · exact ((((((b2.out.setCell (Nat.le_refl _) _).setCell (Nat.le_refl _) _).setCell (Nat.le_refl _) _).alloc (by simp; exact b2.out.size) _).alloc (by simp; have := b2.out.size; omega) _)).drew

/-- What New answers, whole. -/
def newOk (P : List (List I5)) (words : Int) : Bool := decide (1 ≤ words) && (decide (words ≤ 64) && allB P)
theorem newOk_has {P : List (List I5)} {words : Int} (h : newOk P words = true) : 1 ≤ words ∧ words ≤ 64 ∧ allB P = true := by
  unfold newOk at h
  simp only [Bool.and_eq_true, decide_eq_true_eq] at h
  exact h
theorem newOk_not {P : List (List I5)} {words : Int} (h : newOk P words = false) : (1 ≤ words ∧ words ≤ 64 ∧ allB P = true) → False := fun ⟨h1, h2, h3⟩ => by
  unfold newOk at h
  rw [decide_eq_true h1, decide_eq_true h2, h3] at h
  cases h
end Go.Proofs.Ytekiialhljfglaa
