/- Laid together, in this order: Blk, Plan, PlanT, Gen, PgA, Num, Base, RefNum, Ref, FrameNum, FrameA, FrameB. -/
import Derived.Test.YtmeomdfmljanhaaGreatZc
import Derived.WalkKit
import Derived.ProofKit
import Derived.Below
import Derived.Lib.Hide
import Derived.StillTailTactics
import Derived.Deep.QuietTactic
import Derived.StillTail
import Derived.OrdersHeld
import Derived.Deep.RegionHeld3
import Derived.Maps.AppendAt
import Derived.Lib.AppendZeros
import Derived.Lib.SmallJoins
import Derived.Test.YtmeomdfmljanhaaGreatRows
import Derived.WalkSpells
import Derived.Outline
import Derived.Laws.CopyOwn
import Derived.Deep.WholeRow
import Derived.OwnWalk
import Derived.BigGuardPart
import Derived.Deep.RegionLaw
import Derived.Lib.SliceRun
import Derived.Deep.CutBlock
import Derived.Deep.DeepCutAuto
import Derived.Laws.BitsAllLaws
set_option linter.unusedSimpArgs false
set_option linter.unusedVariables false
/- Blocks of memory of which all is known, and how they stay so: behind new blocks, calls that write nothing which was there, and stores elsewhere; no program in sight. -/
namespace Go.Proofs.YtmeomdfmljanhaaGreat
set_option linter.unusedVariables false
open Go.ChangeShapes Go.WideShapes Go.ChangeAt Go.RowKit

/-- Block B holds just these cells, and none of them is frozen. -/
structure Blk (w : World) (B : Nat) (cs : Array Value) : Prop where
  lt : B < w.heap.size
  c : ∀ j, w.cell? ⟨B, j, none⟩ = cs[j]?
  f : ∀ j, w.frozen? ⟨B, j, none⟩ = false

theorem Blk.new (w : World) (cs : Array Value) (t : TypeId) : Blk (w.alloc (.cells cs t)) w.heap.size cs :=
  ⟨by simp, fun j => World.cell?_alloc_new w cs t j, fun j => World.frozen?_alloc_at cs t _ j rfl⟩
theorem Blk.below {w w' : World} {B : Nat} {cs : Array Value} (h : Blk w B cs) (hb : Below w.heap.size w w') : Blk w' B cs :=
  ⟨Nat.lt_of_lt_of_le h.lt hb.size, fun j => (hb.cell (p := ⟨B, j, none⟩) h.lt).trans (h.c j), fun j => (hb.frozen (p := ⟨B, j, none⟩) h.lt).trans (h.f j)⟩
theorem Blk.belowN {w w' : World} {B M : Nat} {cs : Array Value} (h : Blk w B cs) (hb : Below M w w') (hM : B < M) : Blk w' B cs :=
  ⟨Nat.lt_of_lt_of_le h.lt hb.size, fun j => (hb.cell (p := ⟨B, j, none⟩) hM).trans (h.c j), fun j => (hb.frozen (p := ⟨B, j, none⟩) hM).trans (h.f j)⟩
theorem Blk.alloc {w : World} {B : Nat} {cs : Array Value} (h : Blk w B cs) (o : Obj) : Blk (w.alloc o) B cs := h.below ((Below.refl _ _).alloc (Nat.le_refl _) _)
theorem Blk.drew {w : World} {B : Nat} {cs : Array Value} (h : Blk w B cs) : Blk w.drew B cs := ⟨h.lt, h.c, h.f⟩
theorem Blk.set {w : World} {B n : Nat} {cs : Array Value} (h : Blk w B cs) (v : Value) (hn : n < cs.size) : Blk (w.setCell ⟨B, n, none⟩ v) B (cs.setIfInBounds n v) := by
  refine ⟨by simpa using h.lt, fun j => ?_, fun j => by simpa using h.f j⟩
  by_cases hj : n = j
  · subst hj
    rw [Array.getElem?_setIfInBounds_self_of_lt hn]
    exact World.cell?_setCell_same _ _ _ ((h.c n).trans (Array.getElem?_eq_getElem hn))
  · rw [Array.getElem?_setIfInBounds_ne hj, World.cell?_setCell_other _ _ _ _ (by intro e; injection e with _ e2; exact hj e2)]
    exact h.c j
theorem Blk.other {w : World} {B B' n : Nat} {cs : Array Value} (h : Blk w B cs) (v : Value) (hne : B' ≠ B) : Blk (w.setCell ⟨B', n, none⟩ v) B cs :=
  ⟨by simpa using h.lt, fun j => (World.cell?_setCell_other _ _ _ _ (by intro e; injection e with e1; exact hne e1)).trans (h.c j), fun j => by simpa using h.f j⟩
theorem Blk.cast {w : World} {B : Nat} {cs ds : Array Value} (h : Blk w B cs) (e : cs = ds) : Blk w B ds := e ▸ h

/-- Blocks that were laid just ahead of a call. -/
theorem Blk.track1 {w w' : World} {cs : Array Value} {t : TypeId} (hb : Below (w.alloc (.cells cs t)).heap.size (w.alloc (.cells cs t)) w') : Blk w' w.heap.size cs := (Blk.new w cs t).below hb
theorem Blk.track2 {w w' : World} {cs : Array Value} {t : TypeId} {o : Obj} (hb : Below ((w.alloc (.cells cs t)).alloc o).heap.size ((w.alloc (.cells cs t)).alloc o) w') : Blk w' w.heap.size cs := ((Blk.new w cs t).alloc o).below hb
theorem Blk.carry1 {w w' : World} {B : Nat} {cs : Array Value} {o : Obj} (h : Blk w B cs) (hb : Below (w.alloc o).heap.size (w.alloc o) w') : Blk w' B cs := (h.alloc o).below hb

/-- A block that was laid behind W0. -/
structure Trk (W0 w' : World) (X : Nat) (cs : Array Value) : Prop where
  blk : Blk w' X cs
  ge : W0.heap.size ≤ X
theorem Trk.one {W0 w' : World} {cs : Array Value} {t : TypeId} (hb : Below (W0.alloc (.cells cs t)).drew.heap.size (W0.alloc (.cells cs t)).drew w') : Trk W0 w' W0.heap.size cs := ⟨(Blk.new W0 cs t).drew.below hb, Nat.le_refl _⟩
theorem Trk.carry1 {W0 w w' : World} {X : Nat} {cs : Array Value} {o : Obj} (h : Trk W0 w X cs) (hb : Below (w.alloc o).heap.size (w.alloc o) w') : Trk W0 w' X cs := ⟨(h.blk.alloc o).below hb, h.ge⟩
theorem belowAlloc {W0 w : World} (h : Below W0.heap.size W0 w) (o : Obj) : Below W0.heap.size W0 (w.alloc o) := h.alloc h.size o
theorem size_set (w : World) (a : Addr) (v : Value) : (w.setCell a v).heap.size = w.heap.size := by simp
end Go.Proofs.YtmeomdfmljanhaaGreat
/- A region that draws its order, of which a plan is given: reads that hold wherever S does, taken first; calls that come alone, one behind the other; and an end in one forced order. No program in sight. -/
namespace Go.Proofs.YtmeomdfmljanhaaGreat
set_option linter.unusedVariables false

section
variable {P : Program} {ops : Array Oper} {md : Region.Mode} {Q : Exit → Act → World → Prop} {S : World → Prop}

def anyHL (P : Program) (md : Region.Mode) (ops : Array Oper) (Q : Exit → Act → World → Prop) (S : World → Prop) (n : Nat) (L : Array Bool → Act → World → Prop) : Nat → Array Bool → Act → World → Prop
  | 0, listed, a, w => L listed a w
  | f + 1, listed, a, w => Region.ready md ops listed ≠ [] ∧ ∀ i ∈ Region.ready md ops listed, i < n ∧ wpOp P ops Q i (fun a' w' => S w' ∧ anyHL P md ops Q S n L f (listed.setIfInBounds i true) a' w') a w

theorem wpOp_np {i : Nat} {K : Act → World → Prop} {a : Act} {w : World} (h : wpOp P ops (NoPanic Q) i K a w) : wpOp P ops Q i K a w := by
  unfold wpOp at *
  split
  · simpa [*] using h
  · rename_i o ho
    simp only [ho] at h
    split
    · rename_i hw
      simp only [hw, if_true] at h
      rcases h with h | ⟨h1, h2⟩
      · left
        unfold Oper.wp at *
        generalize (execOp a.eval o).run P w = r at *
        cases r with
        | ok n w' =>
          cases n <;> simp only [Oper.upon] at h ⊢
          case value u => exact h
          case skip => exact h
          case defer d => exact h
          case enter f args =>
            refine Calls.mono h fun e w'' he => ?_
            cases e with
            | returned u => exact he
            | panicked c => exact (he : False).elim
            | outgrown => obtain ⟨a0, w0, h0⟩ := he; exact ⟨a0, w0, h0⟩
          case row row args => exact h
        | halt x w' => cases x <;> simp only [Oper.upon] at h ⊢; exact (h : False).elim
      · right
        obtain ⟨a0, w0, h0⟩ := h2
        exact ⟨h1, a0, w0, h0⟩
    · rename_i hw
      simpa [hw] using h

theorem any_of_headH {n g : Nat} {L : Array Bool → Act → World → Prop} (hL : ∀ listed a w, L listed a w → wpAny P md ops Q g listed a w) :
    ∀ (f : Nat) (listed : Array Bool) (a : Act) (w : World), anyHL P md ops (NoPanic Q) S n L f listed a w → wpAny P md ops Q (f + g) listed a w
  | 0, listed, a, w, h => by rw [Nat.zero_add]; exact hL _ _ _ h
  | f + 1, listed, a, w, h => by
    rw [show f + 1 + g = (f + g) + 1 by omega]
    exact ⟨fun h0 => absurd h0 h.1, fun i hi => wpOp_np (wpOp_mono (fun a' w' h' => any_of_headH hL f _ a' w' h'.2) (h.2 i hi).2)⟩

theorem anyHL_first {n i : Nat} {oi : Oper} {v : Value} {L : Array Bool → Act → World → Prop} (hi : ops[i]? = some oi) (hsel : ∀ (j : Nat) (o : Oper) cs b, ops[j]? = some o → o.op ≠ .select cs b)
    (hs : Region.sinkB md ops n = true) (hc : Region.chainB md ops n = true) (hn : n < ops.size) (hin : i < n) (hQ : ∀ c a w, Q (.panic c) (a.put oi.dst v) w → Q (.panic c) a w)
    (hdone : ∀ listed a w, L listed a w → ∀ j ∈ Region.ready md ops listed, n ≤ j) :
    ∀ (f : Nat) (listed : Array Bool) (a : Act) (w : World), HeadInv md ops n listed →
      (∀ j oj, ops[j]? = some oj → j ≠ i → listed.getD j true = false → (∀ e ∈ oj.after, Region.binds md e = true → e.on ≠ i) → oi.apart ops oj = true) →
      i ∈ Region.ready md ops listed → YieldsIf P ops S oi v a → S w →
      anyHL P md ops Q S n L f (listed.setIfInBounds i true) (a.put oi.dst v) w → anyHL P md ops Q S n L (f + 1) listed a w := by
  intro f
  induction f with
  | zero =>
    intro listed a w inv _ hr hy hS H
    have hun := (mem_ready.1 hr).1
    refine ⟨fun h => (by rw [h] at hr; cases hr), fun j hj => ?_⟩
    have hjn : j < n := by
      rcases Nat.lt_or_ge j n with h | h
      · exact h
      · exact absurd hj (tail_waits hs hc hn inv _ i rfl hin hun j h)
    refine ⟨hjn, ?_⟩
    by_cases hji : j = i
    · subst hji; exact hy.wpOp hi hS ⟨hS, H⟩
    · have := hdone _ _ _ H j (ready_mono hj hji)
      omega
  | succ f ih =>
    intro listed a w inv hfree hr hy hS H
    have hun := (mem_ready.1 hr).1
    refine ⟨fun h => (by rw [h] at hr; cases hr), fun j hj => ?_⟩
    have hjn : j < n := by
      rcases Nat.lt_or_ge j n with h | h
      · exact h
      · exact absurd hj (tail_waits hs hc hn inv _ i rfl hin hun j h)
    refine ⟨hjn, ?_⟩
    by_cases hji : j = i
    · subst hji; exact hy.wpOp hi hS ⟨hS, H⟩
    · have h1 := (H.2 j (ready_mono hj hji)).2
      obtain ⟨hjun, oj, hoj, hall⟩ := mem_ready.1 hj
      have hnot : ∀ e ∈ oj.after, Region.binds md e = true → e.on ≠ i := fun e he hb heq => by
        have h1 := hall e he hb
        rw [heq, getD_both hun] at h1
        cases h1
      have h2 := wpOp_putIf hoj (hfree j oj hoj hji hjun hnot) (fun cs b => hsel i oi cs b hi) (fun cs b => hsel j oj cs b hoj) hQ hy h1
      have hfree' : ∀ k ok, ops[k]? = some ok → k ≠ i → (listed.setIfInBounds j true).getD k true = false →
          (∀ e ∈ ok.after, Region.binds md e = true → e.on ≠ i) → oi.apart ops ok = true := fun k ok hk hki hun hno => by
        refine hfree k ok hk hki ?_ hno
        by_cases hjk : j = k
        · subst hjk; exact hjun
        · rw [getD_set_ne true hjk] at hun; exact hun
      refine wpOp_mono (fun a' w' h3 => ⟨h3.2.1, ih (listed.setIfInBounds j true) a' w' (inv.set hj hjn) hfree' (ready_mono hr (Ne.symm hji)) h3.1 h3.2.1 ?_⟩) h2
      rw [Array.setIfInBounds_comm _ _ hji]
      exact h3.2.2

/-- The plan's places: true: a read, taken first; false: what comes alone. -/
def planB (md : Region.Mode) (ops : Array Oper) (g n : Nat) : List (Nat × Bool) → Array Bool → Bool
  | [], listed => Region.seqB md ops g n listed
  | (i, true) :: r, listed => (Region.ready md ops listed).contains i && Region.free md ops listed i && decide (i < n) && planB md ops g n r (listed.setIfInBounds i true)
  | (i, false) :: r, listed => decide (Region.ready md ops listed = [i]) && decide (i < n) && planB md ops g n r (listed.setIfInBounds i true)
def planOk (ops : Array Oper) (n : Nat) (plan : List (Nat × Bool)) : Bool :=
  Region.noSelect ops && decide (n < ops.size) && Region.sinkB .any ops n && Region.chainB .any ops n && decide (plan.length = n) && planB .any ops (ops.size - n) n plan (Array.replicate ops.size false)

def wpPlan (P : Program) (ops : Array Oper) (Q : Exit → Act → World → Prop) (S : World → Prop) (K : Act → World → Prop) : List (Nat × Bool) → Act → World → Prop
  | [], a, w => K a w
  | (i, true) :: r, a, w => ∃ o v, ops[i]? = some o ∧ YieldsIf P ops S o v a ∧ wpPlan P ops Q S K r (a.put o.dst v) w
  | (i, false) :: r, a, w => wpOp P ops Q i (fun a' w' => S w' ∧ wpPlan P ops Q S K r a' w') a w

theorem anyHL_plan {n g : Nat} {K : Act → World → Prop} (hsel : Region.noSelect ops = true) (hs : Region.sinkB md ops n = true) (hc : Region.chainB md ops n = true) (hn : n < ops.size) (hQ : ∀ d v c a w, Q (.panic c) (a.put d v) w → Q (.panic c) a w) :
    ∀ (l : List (Nat × Bool)) (listed : Array Bool) (a : Act) (w : World), HeadInv md ops n listed → planB md ops g n l listed = true → S w → wpPlan P ops Q S K l a w →
      anyHL P md ops Q S n (fun listed' a' w' => Region.seqB md ops g n listed' = true ∧ K a' w') l.length listed a w
  | [], listed, a, w, _, hB, _, h => ⟨hB, h⟩
  | (i, true) :: l, listed, a, w, inv, hB, hS, h => by
    simp only [planB, Bool.and_eq_true, decide_eq_true_eq] at hB
    obtain ⟨⟨⟨hr, hf⟩, hin⟩, hB'⟩ := hB
    obtain ⟨o, v, ho, hy, hK⟩ := h
    have hr' : i ∈ Region.ready md ops listed := by simpa using hr
    exact anyHL_first ho (Region.noSelect_spec hsel) hs hc hn hin (fun c a w => hQ _ _ c a w) (fun listed' a' w' hL => seqB_ready hL.1) l.length listed a w inv (Region.free_spec ho hf) hr' hy hS
      (anyHL_plan hsel hs hc hn hQ l _ _ w (inv.set hr' hin) hB' hS hK)
  | (i, false) :: l, listed, a, w, inv, hB, hS, h => by
    simp only [planB, Bool.and_eq_true, decide_eq_true_eq] at hB
    obtain ⟨⟨hr, hin⟩, hB'⟩ := hB
    have hr' : i ∈ Region.ready md ops listed := by rw [hr]; exact List.mem_singleton.2 rfl
    refine ⟨by rw [hr]; simp, fun j hj => ?_⟩
    rw [hr] at hj
    have hji : j = i := by simpa using hj
    subst hji
    exact ⟨hin, wpOp_mono (fun a' w' h' => ⟨h'.1, anyHL_plan hsel hs hc hn hQ l _ a' w' (inv.set hr' hin) hB' h'.1 h'.2⟩) h⟩

/-- A region by its plan. -/
theorem region_plan {id : Nat} {a : Act} {w : World} {l : List Oper} (S : World → Prop) (n : Nat) (plan : List (Nat × Bool)) (hm : P.follows .mixedOrders = true) (hB : planOk l.toArray n plan = true) (hS : S w.drew)
    (h : wpPlan P l.toArray (NoPanic Q) S (fun a' w' => wpList P l.toArray Q (l.drop n) a' w') plan a w.drew) : (Code.region id l.toArray true).wp P Q a w := by
  simp only [planOk, Bool.and_eq_true, decide_eq_true_eq] at hB
  obtain ⟨⟨⟨⟨⟨hsel, hn⟩, hs⟩, hc⟩, hlen⟩, hplan⟩ := hB
  have hn' : n < l.length := by simpa using hn
  have hdl : (l.drop n).length = l.toArray.size - n := by simp
  have inv0 : HeadInv .any l.toArray n (Array.replicate l.toArray.size false) :=
    ⟨by simp, fun j oj _ hl => (by rw [getD_replicate_false] at hl; cases hl), fun t _ ht => getD_in (by simpa using ht) (getD_replicate_false _ _)⟩
  have H := anyHL_plan (P := P) (Q := NoPanic Q) (S := S) hsel hs hc hn (fun _ _ _ _ _ h => h) plan _ a w.drew inv0 hplan hS h
  refine wp_region_any hm ?_
  have := any_of_headH (Q := Q) (g := l.toArray.size - n) (fun listed a' w' hL => by
    have := wpAny_of_seq (md := .any) (Q' := Q) (l.drop n) n listed a' w' (fun j => by simp [List.getElem?_drop]) (by rw [hdl]; exact hL.1) hL.2
    rwa [hdl] at this) _ _ _ _ H
  rw [hlen, show n + (l.toArray.size - n) = l.toArray.size by omega] at this
  exact this

theorem plan_read {K : Act → World → Prop} {i : Nat} {r : List (Nat × Bool)} {a : Act} {w : World} {o : Oper} {v : Value} (ho : ops[i]? = some o) (hw : Region.wanted o (yielded ops a.tmps) = true) (hy : ∀ w, S w → (execOp a.eval o).run P w = .ok (.value v) w) (h : wpPlan P ops Q S K r (a.put o.dst v) w) : wpPlan P ops Q S K ((i, true) :: r) a w :=
  ⟨o, v, ho, .inl ⟨hw, hy⟩, h⟩
theorem plan_call {K : Act → World → Prop} {i : Nat} {r : List (Nat × Bool)} {a : Act} {w : World} {o : Oper} {F : FuncId} {args : Array Value} (ho : ops[i]? = some o) (hw : Region.wanted o (yielded ops a.tmps) = true) (hr : (execOp a.eval o).run P w = .ok (.enter F args) w)
    (h : Calls P F args w fun e w' => ∃ u, e = .returned u ∧ S w' ∧ wpPlan P ops Q S K r (a.put o.dst u) w') : wpPlan P ops Q S K ((i, false) :: r) a w := by
  show wpOp P ops Q i _ a w
  unfold wpOp
  simp only [ho, hw, if_true, Oper.wp, hr, Oper.upon]
  left
  refine Calls.mono h fun e w' he => ?_
  obtain ⟨u, rfl, hS, hK⟩ := he
  exact ⟨hS, hK⟩
theorem plan_nil {K : Act → World → Prop} {a : Act} {w : World} (h : K a w) : wpPlan P ops Q S K [] a w := h
end
end Go.Proofs.YtmeomdfmljanhaaGreat
/- A region that draws its order, of which a plan with branches is given; and an append to a row of one's own of a list that is nil. No program in sight. -/
namespace Go.Proofs.YtmeomdfmljanhaaGreat
set_option linter.unusedVariables false

inductive PlanT where
  | stop
  | read (i : Nat) (p : PlanT)
  | one (i : Nat) (p : PlanT)
  | two (i j : Nat) (p q : PlanT)

section
variable {P : Program} {ops : Array Oper} {md : Region.Mode} {Q : Exit → Act → World → Prop} {S : World → Prop}

def planTB (md : Region.Mode) (ops : Array Oper) (g n : Nat) : Nat → PlanT → Array Bool → Bool
  | 0, .stop, listed => Region.seqB md ops g n listed
  | d + 1, .read i p, listed => (Region.ready md ops listed).contains i && Region.free md ops listed i && decide (i < n) && planTB md ops g n d p (listed.setIfInBounds i true)
  | d + 1, .one i p, listed => decide (Region.ready md ops listed = [i]) && decide (i < n) && planTB md ops g n d p (listed.setIfInBounds i true)
  | d + 1, .two i j p q, listed => decide (Region.ready md ops listed = [i, j]) && (decide (i < n) && decide (j < n)) && (planTB md ops g n d p (listed.setIfInBounds i true) && planTB md ops g n d q (listed.setIfInBounds j true))
  | _, _, _ => false
def planTOk (ops : Array Oper) (n : Nat) (plan : PlanT) : Bool :=
  Region.noSelect ops && decide (n < ops.size) && Region.sinkB .any ops n && Region.chainB .any ops n && planTB .any ops (ops.size - n) n n plan (Array.replicate ops.size false)

def wpPlanT (P : Program) (ops : Array Oper) (Q : Exit → Act → World → Prop) (S : World → Prop) (K : Act → World → Prop) : PlanT → Act → World → Prop
  | .stop, a, w => K a w
  | .read i p, a, w => ∃ o v, ops[i]? = some o ∧ YieldsIf P ops S o v a ∧ wpPlanT P ops Q S K p (a.put o.dst v) w
  | .one i p, a, w => wpOp P ops Q i (fun a' w' => S w' ∧ wpPlanT P ops Q S K p a' w') a w
  | .two i j p q, a, w => wpOp P ops Q i (fun a' w' => S w' ∧ wpPlanT P ops Q S K p a' w') a w ∧ wpOp P ops Q j (fun a' w' => S w' ∧ wpPlanT P ops Q S K q a' w') a w

theorem anyHL_planT {n g : Nat} {K : Act → World → Prop} (hsel : Region.noSelect ops = true) (hs : Region.sinkB md ops n = true) (hc : Region.chainB md ops n = true) (hn : n < ops.size) (hQ : ∀ d v c a w, Q (.panic c) (a.put d v) w → Q (.panic c) a w) :
    ∀ (d : Nat) (l : PlanT) (listed : Array Bool) (a : Act) (w : World), HeadInv md ops n listed → planTB md ops g n d l listed = true → S w → wpPlanT P ops Q S K l a w →
      anyHL P md ops Q S n (fun listed' a' w' => Region.seqB md ops g n listed' = true ∧ K a' w') d listed a w
  | 0, .stop, listed, a, w, _, hB, _, h => ⟨hB, h⟩
  | d + 1, .read i p, listed, a, w, inv, hB, hS, h => by
    simp only [planTB, Bool.and_eq_true, decide_eq_true_eq] at hB
    obtain ⟨⟨⟨hr, hf⟩, hin⟩, hB'⟩ := hB
    obtain ⟨o, v, ho, hy, hK⟩ := h
    have hr' : i ∈ Region.ready md ops listed := by simpa using hr
    exact anyHL_first ho (Region.noSelect_spec hsel) hs hc hn hin (fun c a w => hQ _ _ c a w) (fun listed' a' w' hL => seqB_ready hL.1) d listed a w inv (Region.free_spec ho hf) hr' hy hS
      (anyHL_planT hsel hs hc hn hQ d p _ _ w (inv.set hr' hin) hB' hS hK)
  | d + 1, .one i p, listed, a, w, inv, hB, hS, h => by
    simp only [planTB, Bool.and_eq_true, decide_eq_true_eq] at hB
    obtain ⟨⟨hr, hin⟩, hB'⟩ := hB
    have hr' : i ∈ Region.ready md ops listed := by rw [hr]; exact List.mem_singleton.2 rfl
    refine ⟨by rw [hr]; simp, fun j hj => ?_⟩
    rw [hr] at hj
    have hji : j = i := by simpa using hj
    subst hji
    exact ⟨hin, wpOp_mono (fun a' w' h' => ⟨h'.1, anyHL_planT hsel hs hc hn hQ d p _ a' w' (inv.set hr' hin) hB' h'.1 h'.2⟩) h⟩
  | d + 1, .two i j p q, listed, a, w, inv, hB, hS, h => by
    simp only [planTB, Bool.and_eq_true, decide_eq_true_eq] at hB
    obtain ⟨⟨hr, hin, hjn⟩, hB1, hB2⟩ := hB
    have hr1 : i ∈ Region.ready md ops listed := by rw [hr]; simp
    have hr2 : j ∈ Region.ready md ops listed := by rw [hr]; simp
    refine ⟨by rw [hr]; simp, fun k hk => ?_⟩
    rw [hr] at hk
    have hki : k = i ∨ k = j := by simpa using hk
    rcases hki with rfl | rfl
    · exact ⟨hin, wpOp_mono (fun a' w' h' => ⟨h'.1, anyHL_planT hsel hs hc hn hQ d p _ a' w' (inv.set hr1 hin) hB1 h'.1 h'.2⟩) h.1⟩
    · exact ⟨hjn, wpOp_mono (fun a' w' h' => ⟨h'.1, anyHL_planT hsel hs hc hn hQ d q _ a' w' (inv.set hr2 hjn) hB2 h'.1 h'.2⟩) h.2⟩
  | 0, .read _ _, _, _, _, _, hB, _, _ => by simp [planTB] at hB
  | 0, .one _ _, _, _, _, _, hB, _, _ => by simp [planTB] at hB
  | 0, .two _ _ _ _, _, _, _, _, hB, _, _ => by simp [planTB] at hB
  | _ + 1, .stop, _, _, _, _, hB, _, _ => by simp [planTB] at hB

/-- A region by its plan. -/
theorem region_planT {id : Nat} {a : Act} {w : World} {l : List Oper} (S : World → Prop) (n : Nat) (plan : PlanT) (hm : P.follows .mixedOrders = true) (hB : planTOk l.toArray n plan = true) (hS : S w.drew)
    (h : wpPlanT P l.toArray (NoPanic Q) S (fun a' w' => wpList P l.toArray Q (l.drop n) a' w') plan a w.drew) : (Code.region id l.toArray true).wp P Q a w := by
  simp only [planTOk, Bool.and_eq_true, decide_eq_true_eq] at hB
  obtain ⟨⟨⟨⟨hsel, hn⟩, hs⟩, hc⟩, hplan⟩ := hB
  have hn' : n < l.length := by simpa using hn
  have hdl : (l.drop n).length = l.toArray.size - n := by simp
  have inv0 : HeadInv .any l.toArray n (Array.replicate l.toArray.size false) :=
    ⟨by simp, fun j oj _ hl => (by rw [getD_replicate_false] at hl; cases hl), fun t _ ht => getD_in (by simpa using ht) (getD_replicate_false _ _)⟩
  have H := anyHL_planT (P := P) (Q := NoPanic Q) (S := S) hsel hs hc hn (fun _ _ _ _ _ h => h) n plan _ a w.drew inv0 hplan hS h
  refine wp_region_any hm ?_
  have := any_of_headH (Q := Q) (g := l.toArray.size - n) (fun listed a' w' hL => by
    have := wpAny_of_seq (md := .any) (Q' := Q) (l.drop n) n listed a' w' (fun j => by simp [List.getElem?_drop]) (by rw [hdl]; exact hL.1) hL.2
    rwa [hdl] at this) _ _ _ _ H
  rw [show n + (l.toArray.size - n) = l.toArray.size by omega] at this
  exact this

variable {K : Act → World → Prop} {i j : Nat} {p q : PlanT} {a : Act} {w : World} {o : Oper}
theorem planT_read {v : Value} (ho : ops[i]? = some o) (hw : Region.wanted o (yielded ops a.tmps) = true) (hy : ∀ w, S w → (execOp a.eval o).run P w = .ok (.value v) w) (h : wpPlanT P ops Q S K p (a.put o.dst v) w) : wpPlanT P ops Q S K (.read i p) a w :=
  ⟨o, v, ho, .inl ⟨hw, hy⟩, h⟩
theorem op_call {K : Act → World → Prop} {F : FuncId} {args : Array Value} (ho : ops[i]? = some o) (hw : Region.wanted o (yielded ops a.tmps) = true) (hr : (execOp a.eval o).run P w = .ok (.enter F args) w)
    (h : Calls P F args w fun e w' => ∃ u, e = .returned u ∧ K (a.put o.dst u) w') : wpOp P ops Q i K a w := by
  unfold wpOp
  simp only [ho, hw, if_true, Oper.wp, hr, Oper.upon]
  left
  refine Calls.mono h fun e w' he => ?_
  obtain ⟨u, rfl, hK⟩ := he
  exact hK
/-- An operation that makes something new and yields a value. -/
theorem op_make {K : Act → World → Prop} {v : Value} {w1 : World} (ho : ops[i]? = some o) (hw : Region.wanted o (yielded ops a.tmps) = true) (hr : (execOp a.eval o).run P w = .ok (.value v) w1) (h : K (a.put o.dst v) w1) : wpOp P ops Q i K a w := by
  unfold wpOp
  simp only [ho, hw, if_true, Oper.wp, hr, Oper.upon]
  exact .inl h
theorem planT_one (h : wpOp P ops Q i (fun a' w' => S w' ∧ wpPlanT P ops Q S K p a' w') a w) : wpPlanT P ops Q S K (.one i p) a w := h
theorem planT_two (h1 : wpOp P ops Q i (fun a' w' => S w' ∧ wpPlanT P ops Q S K p a' w') a w) (h2 : wpOp P ops Q j (fun a' w' => S w' ∧ wpPlanT P ops Q S K q a' w') a w) : wpPlanT P ops Q S K (.two i j p q) a w := ⟨h1, h2⟩
theorem planT_stop (h : K a w) : wpPlanT P ops Q S K .stop a w := h
end

section
variable {P : Program} {w : World}
theorem run_append_nil (base : Nat) (t ty e : TypeId) (i : TypeInfo) (size c : Nat) (ht : P.underlying t = some (.slice e)) (hi : P.info? e = some i)
    (v : Value) (n : Nat) (xs : List Value) (hown : w.ownsRow base e size v n xs) :
    (Builtin.append_ #[t, t] ty #[v, .slice none 0 c]).run P w = .ok v w := by
  rcases hown.2 with ⟨rfl, rfl⟩ | ⟨g, cap, cur, rfl, _, _, hnc, _⟩
  · simp [Builtin.append_, run_underlying ht, sizeOf, typeInfo, hi, Builtin.lenOf, Builtin.firstCells]
  · simp [Builtin.append_, run_underlying ht, sizeOf, typeInfo, hi, Builtin.lenOf, Builtin.firstCells, hnc, storeCells]
theorem wp_append_nil {o : Oper} {a : Act} {K : Act → World → Prop} {Q : Exit → Act → World → Prop} (s x : Operand) (t : TypeId)
    (ho : o.op = .call { callee := .builtin .append, args := #[s, x], argTypes := #[t, t] })
    (base : Nat) (e : TypeId) (i : TypeInfo) (size c : Nat) (ht : P.underlying t = some (.slice e)) (hi : P.info? e = some i)
    (v : Value) (n : Nat) (xs : List Value) (hs : a.eval s = v) (hown : w.ownsRow base e size v n xs) (hx : a.eval x = .slice none 0 c)
    (h : K (a.put o.dst v) w) : o.wp P a w K Q := by
  have hrun := run_append_nil (P := P) (w := w) base t o.type e i size c ht hi v n xs hown
  unfold Oper.wp
  simp [execOp, ho, resolve, invoke, builtin, hs, hx, hrun, Result.andThen]
  exact h
theorem wp_append_own_at {o : Oper} {a : Act} {K : Act → World → Prop} {Q : Exit → Act → World → Prop} (s x : Operand) (t : TypeId)
    (ho : o.op = .call { callee := .builtin .append, args := #[s, x], argTypes := #[t, t] })
    (base : Nat) (e : TypeId) (i : TypeInfo) (z : Value) (size bytes : Nat) (ht : P.underlying t = some (.slice e)) (hi : P.info? e = some i) (hz : i.zero = some z)
    (hsize : i.size = size) (hby : i.bytes = bytes) (hzs : z.cells.size = size) (hsz : 0 < size)
    (v : Value) (n : Nat) (xs : List Value) (hs : a.eval s = v) (hown : w.ownsRow base e size v n xs)
    (ad : Addr) (m c : Nat) (news : List Value) (hx : a.eval x = .slice (some ad) m c) (hl : news.length = m * size) (hnews : ∀ j u, news[j]? = some u → w.cell? (ad.add j) = some u) (h1 : ∀ u ∈ news, u.oneCell' = true)
    (h63 : n + m ≤ maxLen) (hbytes : (n + m) * bytes ≤ 140737488355328) (hbase : base ≤ w.heap.size)
    (h : ∀ v' w', w'.ownsRow base e size v' (n + m) (xs ++ news) → w.grownBy w' v.ownBlock → (v' = .slice none 0 0 ↔ v = .slice none 0 0 ∧ m = 0) → (v'.ownBlock = v.ownBlock ∨ v'.ownBlock = some w.heap.size) → K (a.put o.dst v') w') : o.wp P a w K Q := by
  obtain ⟨v', w', hr, h2, h3, h4, h5⟩ := run_append_own_at (P := P) w base t o.type e i z size bytes ht hi hz hsize hby hzs hsz v n xs hown ad m c news hl hnews h1 h63 hbytes hbase
  unfold Oper.wp execOp
  simp only [ho, resolve, invoke, builtin, Sem.run_bind, Sem.run_pure, Result.andThen_ok, List.map_toArray, List.map_cons, List.map_nil, hs, hx, hr]
  exact h v' w' h2 h3 h4 h5
end
end Go.Proofs.YtmeomdfmljanhaaGreat
/- Lists in memory, what is asked of an append of one, blocks that stay; guarded operations of a plan; no program in sight. -/
namespace Go.Proofs.YtmeomdfmljanhaaGreat
set_option linter.unusedVariables false
open Go.ChangeShapes Go.WideShapes Go.ChangeAt Go.RowKit

/-- The cells cs lie behind p, which points at len things: nothing is asked of p where there are none. -/
def Sl (w : World) (p : Option Addr) (len : Nat) (cs : List Value) : Prop :=
  0 < len → ∃ b off, b < w.heap.size ∧ p = some ⟨b, off, none⟩ ∧ ∀ j, j < cs.length → w.cell? ⟨b, off + j, none⟩ = cs[j]?
theorem Sl.below {w w' : World} {p : Option Addr} {len : Nat} {cs : List Value} (h : Sl w p len cs) (hb : Below w.heap.size w w') : Sl w' p len cs := fun h0 => by
  obtain ⟨b, off, h1, h2, h3⟩ := h h0
  exact ⟨b, off, Nat.lt_of_lt_of_le h1 hb.size, h2, fun j hj => (hb.cell (p := ⟨b, off + j, none⟩) h1).trans (h3 j hj)⟩
theorem Sl.empty (w : World) (p : Option Addr) (cs : List Value) : Sl w p 0 cs := fun h => absurd h (by omega)
/-- What is owned lies there. -/
theorem Sl.own {w : World} {base : Nat} {e : TypeId} {size : Nat} {v : Value} {n : Nat} {xs : List Value} (h : w.ownsRow base e size v n xs) : ∃ p cap, v = .slice p n cap ∧ Sl w p n xs := by
  obtain ⟨hl, ⟨rfl, rfl⟩ | ⟨g, cap, cur, rfl, hg, hh, h1, h2, h3, h4⟩⟩ := h
  · exact ⟨_, _, rfl, Sl.empty _ _ _⟩
  · have ho : w.ownsRow base e size (.slice (some ⟨g, 0, none⟩) n cap) n xs := ⟨hl, .inr ⟨g, cap, cur, rfl, hg, hh, h1, h2, h3, h4⟩⟩
    refine ⟨_, _, rfl, fun _ => ⟨g, 0, ?_, rfl, fun j hj => ?_⟩⟩
    · exact (Array.getElem?_eq_some_iff.1 hh).1
    · rw [Nat.zero_add]; exact ho.cellAt j (by omega)

theorem Blk.grown {w w' : World} {B : Nat} {cs : Array Value} {row : Option Nat} (h : Blk w B cs) (hg : w.grownBy w' row) (hne : row ≠ some B) : Blk w' B cs := by
  have e := hg.block B h.lt (fun e => hne e.symm)
  refine ⟨Nat.lt_of_lt_of_le h.lt hg.size, fun j => ?_, fun j => ?_⟩
  · rw [← h.c j]; unfold World.cell?; rw [e]
  · rw [← h.f j]; unfold World.frozen?; rw [e]
theorem wp_append_sl {P : Program} {o : Oper} {a : Act} {w : World} {K : Act → World → Prop} {Q : Exit → Act → World → Prop} (s x : Operand) (t : TypeId)
    (ho : o.op = .call { callee := .builtin .append, args := #[s, x], argTypes := #[t, t] })
    (base : Nat) (e : TypeId) (i : TypeInfo) (z : Value) (size bytes : Nat) (ht : P.underlying t = some (.slice e)) (hi : P.info? e = some i) (hz : i.zero = some z)
    (hsize : i.size = size) (hby : i.bytes = bytes) (hzs : z.cells.size = size) (hsz : 0 < size)
    (v : Value) (n : Nat) (xs : List Value) (hs : a.eval s = v) (hown : w.ownsRow base e size v n xs)
    (p : Option Addr) (m c : Nat) (news : List Value) (hx : a.eval x = .slice p m c) (hl : news.length = m * size) (hsl : Sl w p m news) (h1 : ∀ u ∈ news, u.oneCell' = true)
    (h63 : n + m ≤ maxLen) (hbytes : (n + m) * bytes ≤ 140737488355328) (hbase : base ≤ w.heap.size)
    (h : ∀ v' w', w'.ownsRow base e size v' (n + m) (xs ++ news) → w.grownBy w' v.ownBlock → (v'.ownBlock = v.ownBlock ∨ v'.ownBlock = some w.heap.size) → K (a.put o.dst v') w') : o.wp P a w K Q := by
  cases p with
  | none =>
    have h0 : m = 0 := by
      cases m with
      | zero => rfl
      | succ n => obtain ⟨_, _, _, h, _⟩ := hsl (by omega); cases h
    subst h0
    obtain rfl : news = [] := List.length_eq_zero_iff.1 (by omega)
    exact wp_append_nil s x t ho base e i size c ht hi v n xs hs hown hx (h v w (by simpa using hown) (World.grownBy.refl _ _) (.inl rfl))
  | some ad =>
    refine wp_append_own_at s x t ho base e i z size bytes ht hi hz hsize hby hzs hsz v n xs hs hown ad m c news hx hl ?_ h1 h63 hbytes hbase (fun v' w' g1 g2 _ g4 => h v' w' g1 g2 g4)
    intro j u hj
    have hjl := (List.getElem?_eq_some_iff.1 hj).1
    have hm : 0 < m := by
      rcases Nat.eq_zero_or_pos m with h0 | h0
      · subst h0; rw [Nat.zero_mul] at hl; omega
      · exact h0
    obtain ⟨b, off, _, he, hcell⟩ := hsl hm
    injection he with he
    subst he
    rw [Addr.add_lit]
    exact (hcell j hjl).trans hj
theorem wpList_append_sl {P : Program} {ops : Array Oper} {rest : List Oper} {o : Oper} {a : Act} {w : World} {Q : Exit → Act → World → Prop} (hgd : o.guard = none) (s x : Operand) (t : TypeId)
    (ho : o.op = .call { callee := .builtin .append, args := #[s, x], argTypes := #[t, t] })
    (base : Nat) (e : TypeId) (i : TypeInfo) (z : Value) (size bytes : Nat) (ht : P.underlying t = some (.slice e)) (hi : P.info? e = some i) (hz : i.zero = some z)
    (hsize : i.size = size) (hby : i.bytes = bytes) (hzs : z.cells.size = size) (hsz : 0 < size)
    (v : Value) (n : Nat) (xs : List Value) (hs : a.eval s = v) (hown : w.ownsRow base e size v n xs)
    (p : Option Addr) (m c : Nat) (news : List Value) (hx : a.eval x = .slice p m c) (hl : news.length = m * size) (hsl : Sl w p m news) (h1 : ∀ u ∈ news, u.oneCell' = true)
    (h63 : n + m ≤ maxLen) (hbytes : (n + m) * bytes ≤ 140737488355328) (hbase : base ≤ w.heap.size)
    (h : ∀ v' w', w'.ownsRow base e size v' (n + m) (xs ++ news) → w.grownBy w' v.ownBlock → (v'.ownBlock = v.ownBlock ∨ v'.ownBlock = some w.heap.size) → wpList P ops Q rest (a.put o.dst v') w') : wpList P ops Q (o :: rest) a w :=
  wpList_plain hgd fun K hK => wp_append_sl s x t ho base e i z size bytes ht hi hz hsize hby hzs hsz v n xs hs hown p m c news hx hl hsl h1 h63 hbytes hbase (fun v' w' g1 g2 g3 => hK _ _ (h v' w' g1 g2 g3))

theorem fresh_made {w : World} {e : TypeId} {size base : Nat} (h : base ≤ w.heap.size) : (w.alloc (.cells #[] e)).ownsRow base e size (.slice (some ⟨w.heap.size, 0, none⟩) 0 0) 0 [] :=
  World.ownsRow_made w #[] 0 h (Nat.zero_le _) (by simp)

section
variable {P : Program} {ops : Array Oper} {Q : Exit → Act → World → Prop} {S : World → Prop}
theorem plan_skip {K : Act → World → Prop} {i : Nat} {r : List (Nat × Bool)} {a : Act} {w : World} {o : Oper} (ho : ops[i]? = some o) (hw : Region.wanted o (yielded ops a.tmps) = false) (h : wpPlan P ops Q S K r (a.put o.dst undef) w) : wpPlan P ops Q S K ((i, true) :: r) a w :=
  ⟨o, undef, ho, .inr ⟨hw, rfl⟩, h⟩
theorem plan_skipc {K : Act → World → Prop} {i : Nat} {r : List (Nat × Bool)} {a : Act} {w : World} {o : Oper} (ho : ops[i]? = some o) (hw : Region.wanted o (yielded ops a.tmps) = false) (hS : S w) (h : wpPlan P ops Q S K r (a.put o.dst undef) w) : wpPlan P ops Q S K ((i, false) :: r) a w := by
  show wpOp P ops Q i _ a w
  unfold wpOp
  simp only [ho, hw, Bool.false_eq_true, if_false]
  exact ⟨hS, h⟩
end
section
variable {P : Program} {ops : Array Oper} {Q : Exit → Act → World → Prop} {S : World → Prop} {K : Act → World → Prop} {i : Nat} {p : PlanT} {a : Act} {w : World} {o : Oper}
theorem planT_skip (ho : ops[i]? = some o) (hw : Region.wanted o (yielded ops a.tmps) = false) (h : wpPlanT P ops Q S K p (a.put o.dst undef) w) : wpPlanT P ops Q S K (.read i p) a w :=
  ⟨o, undef, ho, .inr ⟨hw, rfl⟩, h⟩
/-- A store of a plan that comes alone. -/
theorem plan_store {r : List (Nat × Bool)} {w1 : World} (ho : ops[i]? = some o) (hw : Region.wanted o (yielded ops a.tmps) = true) (hr : (execOp a.eval o).run P w = .ok .skip w1) (hS : S w1) (h : wpPlan P ops Q S K r (a.put o.dst undef) w1) : wpPlan P ops Q S K ((i, false) :: r) a w := by
  show wpOp P ops Q i _ a w
  unfold wpOp
  simp only [ho, hw, if_true, Oper.wp, hr, Oper.upon]
  exact .inl ⟨hS, h⟩
end
end Go.Proofs.YtmeomdfmljanhaaGreat
/- Clones of rows, of whatever; no condition but that they read. -/
namespace Go.Proofs.YtmeomdfmljanhaaGreat.Pg
set_option linter.unusedVariables false
open Go.ChangeShapes Go.WideShapes Go.ChangeAt Go.RowKit

theorem infoXwait : (Tryz.prog.info? 86).map (fun i => (i.zero, i.size, i.bytes)) = some (some (.agg #[.int .i64 0, .bool false, .bool false, .bool false, .bool false, .bool false, .int .i64 0, .int .i64 0, .int .u32 0]), 9, 40) := by kernel_rfl
theorem clone_wait (a : Addr) (n c : Nat) (xs : List Value) (w : World) (hm : n ≤ 100) (hl : xs.length = n * 9) (hs : Sl w (some a) n xs) (h1 : ∀ u ∈ xs, u.oneCell' = true) :
    Calls Tryz.prog 64 #[.slice (some a) n c] w fun e w' => ∃ r, e = .returned r ∧ w'.ownsRow w.heap.size 86 9 r n xs ∧ Below w.heap.size w w' := by
  obtain ⟨i0, hi, hz0, hz1, hz2⟩ := info_parts infoXwait
  have HI := Lib.hid (And.intro hi (And.intro hz0 (And.intro hz1 hz2)))
  have HS : Hid (Sl w (some a) n xs) := Lib.hid hs
  have HL := Lib.hid hl
  have H1 := Lib.hid h1
  have hq : ∀ W, (binOp .eql 24 (.slice (some a) n c) (.slice none 0 0)).run Tryz.prog W = .ok (.bool (some a).isNone) W := fun W => Lib.run_eql_slice_nil W _ 86 _ _ _ _ _ Tryz.underlying24
  clear hi hz0 hz1 hz2 hs hl h1
  simp only [Option.isNone_none, Option.isNone_some] at hq
  go_enter Tryz.func64, Tryz.ntmps64
  go_wp2_with (first | (at_builtin; refine wpList_append_sl rfl _ _ 24 rfl w.heap.size 86 i0 _ 9 40 Tryz.underlying24 HI.out.1 HI.out.2.1 HI.out.2.2.1 HI.out.2.2.2 rfl (by decide) _ 0 [] rfl (fresh_made (Nat.le_refl _)) (some a) n c xs rfl HL.out (HS.out.below ((Below.refl _ _).alloc (Nat.le_refl _) _)) H1.out (by unfold maxLen; omega) (by omega) (by simp) ?_))
  intro v' w' g1 g2 g3
  have HG : Hid (w'.ownsRow w.heap.size 86 9 v' n xs) := Lib.hid g1
  have HB : Hid (Below w.heap.size w w') := Lib.hid (((Below.refl w.heap.size w).alloc (Nat.le_refl _) _).grown g2 (by simp) (fun k hk => by simp [Value.ownBlock] at hk; omega))
  clear g1 g2 g3
  go_wp2
  go_ret
  exact ⟨_, rfl, HG.out, HB.out⟩
theorem infoXu32 : (Tryz.prog.info? 33).map (fun i => (i.zero, i.size, i.bytes)) = some (some (.int .u32 0), 1, 4) := by kernel_rfl
theorem clone_u32 (a : Addr) (n c : Nat) (xs : List Value) (w : World) (hm : n ≤ 100) (hl : xs.length = n * 1) (hs : Sl w (some a) n xs) (h1 : ∀ u ∈ xs, u.oneCell' = true) :
    Calls Tryz.prog 65 #[.slice (some a) n c] w fun e w' => ∃ r, e = .returned r ∧ w'.ownsRow w.heap.size 33 1 r n xs ∧ Below w.heap.size w w' := by
  obtain ⟨i0, hi, hz0, hz1, hz2⟩ := info_parts infoXu32
  have HI := Lib.hid (And.intro hi (And.intro hz0 (And.intro hz1 hz2)))
  have HS : Hid (Sl w (some a) n xs) := Lib.hid hs
  have HL := Lib.hid hl
  have H1 := Lib.hid h1
  have hq : ∀ W, (binOp .eql 25 (.slice (some a) n c) (.slice none 0 0)).run Tryz.prog W = .ok (.bool (some a).isNone) W := fun W => Lib.run_eql_slice_nil W _ 33 _ _ _ _ _ Tryz.underlying25
  clear hi hz0 hz1 hz2 hs hl h1
  simp only [Option.isNone_none, Option.isNone_some] at hq
  go_enter Tryz.func65, Tryz.ntmps65
  go_wp2_with (first | (at_builtin; refine wpList_append_sl rfl _ _ 25 rfl w.heap.size 33 i0 _ 1 4 Tryz.underlying25 HI.out.1 HI.out.2.1 HI.out.2.2.1 HI.out.2.2.2 rfl (by decide) _ 0 [] rfl (fresh_made (Nat.le_refl _)) (some a) n c xs rfl HL.out (HS.out.below ((Below.refl _ _).alloc (Nat.le_refl _) _)) H1.out (by unfold maxLen; omega) (by omega) (by simp) ?_))
  intro v' w' g1 g2 g3
  have HG : Hid (w'.ownsRow w.heap.size 33 1 v' n xs) := Lib.hid g1
  have HB : Hid (Below w.heap.size w w') := Lib.hid (((Below.refl w.heap.size w).alloc (Nat.le_refl _) _).grown g2 (by simp) (fun k hk => by simp [Value.ownBlock] at hk; omega))
  clear g1 g2 g3
  go_wp2
  go_ret
  exact ⟨_, rfl, HG.out, HB.out⟩
theorem infoXentry : (Tryz.prog.info? 65).map (fun i => (i.zero, i.size, i.bytes)) = some (some (.agg #[.int .i64 0, .slice none 0 0]), 2, 32) := by kernel_rfl
theorem clone_entry (a : Addr) (n c : Nat) (xs : List Value) (w : World) (hm : n ≤ 100) (hl : xs.length = n * 2) (hs : Sl w (some a) n xs) (h1 : ∀ u ∈ xs, u.oneCell' = true) :
    Calls Tryz.prog 66 #[.slice (some a) n c] w fun e w' => ∃ r, e = .returned r ∧ w'.ownsRow w.heap.size 65 2 r n xs ∧ Below w.heap.size w w' := by
  obtain ⟨i0, hi, hz0, hz1, hz2⟩ := info_parts infoXentry
  have HI := Lib.hid (And.intro hi (And.intro hz0 (And.intro hz1 hz2)))
  have HS : Hid (Sl w (some a) n xs) := Lib.hid hs
  have HL := Lib.hid hl
  have H1 := Lib.hid h1
  have hq : ∀ W, (binOp .eql 26 (.slice (some a) n c) (.slice none 0 0)).run Tryz.prog W = .ok (.bool (some a).isNone) W := fun W => Lib.run_eql_slice_nil W _ 65 _ _ _ _ _ Tryz.underlying26
  clear hi hz0 hz1 hz2 hs hl h1
  simp only [Option.isNone_none, Option.isNone_some] at hq
  go_enter Tryz.func66, Tryz.ntmps66
  go_wp2_with (first | (at_builtin; refine wpList_append_sl rfl _ _ 26 rfl w.heap.size 65 i0 _ 2 32 Tryz.underlying26 HI.out.1 HI.out.2.1 HI.out.2.2.1 HI.out.2.2.2 rfl (by decide) _ 0 [] rfl (fresh_made (Nat.le_refl _)) (some a) n c xs rfl HL.out (HS.out.below ((Below.refl _ _).alloc (Nat.le_refl _) _)) H1.out (by unfold maxLen; omega) (by omega) (by simp) ?_))
  intro v' w' g1 g2 g3
  have HG : Hid (w'.ownsRow w.heap.size 65 2 v' n xs) := Lib.hid g1
  have HB : Hid (Below w.heap.size w w') := Lib.hid (((Below.refl w.heap.size w).alloc (Nat.le_refl _) _).grown g2 (by simp) (fun k hk => by simp [Value.ownBlock] at hk; omega))
  clear g1 g2 g3
  go_wp2
  go_ret
  exact ⟨_, rfl, HG.out, HB.out⟩
theorem infoXint : (Tryz.prog.info? 3).map (fun i => (i.zero, i.size, i.bytes)) = some (some (.int .i64 0), 1, 8) := by kernel_rfl
theorem clone_int (a : Addr) (n c : Nat) (xs : List Value) (w : World) (hm : n ≤ 100) (hl : xs.length = n * 1) (hs : Sl w (some a) n xs) (h1 : ∀ u ∈ xs, u.oneCell' = true) :
    Calls Tryz.prog 67 #[.slice (some a) n c] w fun e w' => ∃ r, e = .returned r ∧ w'.ownsRow w.heap.size 3 1 r n xs ∧ Below w.heap.size w w' := by
  obtain ⟨i0, hi, hz0, hz1, hz2⟩ := info_parts infoXint
  have HI := Lib.hid (And.intro hi (And.intro hz0 (And.intro hz1 hz2)))
  have HS : Hid (Sl w (some a) n xs) := Lib.hid hs
  have HL := Lib.hid hl
  have H1 := Lib.hid h1
  have hq : ∀ W, (binOp .eql 27 (.slice (some a) n c) (.slice none 0 0)).run Tryz.prog W = .ok (.bool (some a).isNone) W := fun W => Lib.run_eql_slice_nil W _ 3 _ _ _ _ _ Tryz.underlying27
  clear hi hz0 hz1 hz2 hs hl h1
  simp only [Option.isNone_none, Option.isNone_some] at hq
  go_enter Tryz.func67, Tryz.ntmps67
  go_wp2_with (first | (at_builtin; refine wpList_append_sl rfl _ _ 27 rfl w.heap.size 3 i0 _ 1 8 Tryz.underlying27 HI.out.1 HI.out.2.1 HI.out.2.2.1 HI.out.2.2.2 rfl (by decide) _ 0 [] rfl (fresh_made (Nat.le_refl _)) (some a) n c xs rfl HL.out (HS.out.below ((Below.refl _ _).alloc (Nat.le_refl _) _)) H1.out (by unfold maxLen; omega) (by omega) (by simp) ?_))
  intro v' w' g1 g2 g3
  have HG : Hid (w'.ownsRow w.heap.size 3 1 v' n xs) := Lib.hid g1
  have HB : Hid (Below w.heap.size w w') := Lib.hid (((Below.refl w.heap.size w).alloc (Nat.le_refl _) _).grown g2 (by simp) (fun k hk => by simp [Value.ownBlock] at hk; omega))
  clear g1 g2 g3
  go_wp2
  go_ret
  exact ⟨_, rfl, HG.out, HB.out⟩
theorem infoXbool : (Tryz.prog.info? 4).map (fun i => (i.zero, i.size, i.bytes)) = some (some (.bool false), 1, 1) := by kernel_rfl
theorem clone_bool (a : Addr) (n c : Nat) (xs : List Value) (w : World) (hm : n ≤ 100) (hl : xs.length = n * 1) (hs : Sl w (some a) n xs) (h1 : ∀ u ∈ xs, u.oneCell' = true) :
    Calls Tryz.prog 69 #[.slice (some a) n c] w fun e w' => ∃ r, e = .returned r ∧ w'.ownsRow w.heap.size 4 1 r n xs ∧ Below w.heap.size w w' := by
  obtain ⟨i0, hi, hz0, hz1, hz2⟩ := info_parts infoXbool
  have HI := Lib.hid (And.intro hi (And.intro hz0 (And.intro hz1 hz2)))
  have HS : Hid (Sl w (some a) n xs) := Lib.hid hs
  have HL := Lib.hid hl
  have H1 := Lib.hid h1
  have hq : ∀ W, (binOp .eql 63 (.slice (some a) n c) (.slice none 0 0)).run Tryz.prog W = .ok (.bool (some a).isNone) W := fun W => Lib.run_eql_slice_nil W _ 4 _ _ _ _ _ Tryz.underlying63
  clear hi hz0 hz1 hz2 hs hl h1
  simp only [Option.isNone_none, Option.isNone_some] at hq
  go_enter Tryz.func69, Tryz.ntmps69
  go_wp2_with (first | (at_builtin; refine wpList_append_sl rfl _ _ 63 rfl w.heap.size 4 i0 _ 1 1 Tryz.underlying63 HI.out.1 HI.out.2.1 HI.out.2.2.1 HI.out.2.2.2 rfl (by decide) _ 0 [] rfl (fresh_made (Nat.le_refl _)) (some a) n c xs rfl HL.out (HS.out.below ((Below.refl _ _).alloc (Nat.le_refl _) _)) H1.out (by unfold maxLen; omega) (by omega) (by simp) ?_))
  intro v' w' g1 g2 g3
  have HG : Hid (w'.ownsRow w.heap.size 4 1 v' n xs) := Lib.hid g1
  have HB : Hid (Below w.heap.size w w') := Lib.hid (((Below.refl w.heap.size w).alloc (Nat.le_refl _) _).grown g2 (by simp) (fun k hk => by simp [Value.ownBlock] at hk; omega))
  clear g1 g2 g3
  go_wp2
  go_ret
  exact ⟨_, rfl, HG.out, HB.out⟩
theorem infoXints : (Tryz.prog.info? 27).map (fun i => (i.zero, i.size, i.bytes)) = some (some (.slice none 0 0), 1, 24) := by kernel_rfl
theorem clone_ints (a : Addr) (n c : Nat) (xs : List Value) (w : World) (hm : n ≤ 100) (hl : xs.length = n * 1) (hs : Sl w (some a) n xs) (h1 : ∀ u ∈ xs, u.oneCell' = true) :
    Calls Tryz.prog 95 #[.slice (some a) n c] w fun e w' => ∃ r, e = .returned r ∧ w'.ownsRow w.heap.size 27 1 r n xs ∧ Below w.heap.size w w' := by
  obtain ⟨i0, hi, hz0, hz1, hz2⟩ := info_parts infoXints
  have HI := Lib.hid (And.intro hi (And.intro hz0 (And.intro hz1 hz2)))
  have HS : Hid (Sl w (some a) n xs) := Lib.hid hs
  have HL := Lib.hid hl
  have H1 := Lib.hid h1
  have hq : ∀ W, (binOp .eql 22 (.slice (some a) n c) (.slice none 0 0)).run Tryz.prog W = .ok (.bool (some a).isNone) W := fun W => Lib.run_eql_slice_nil W _ 27 _ _ _ _ _ Tryz.underlying22
  clear hi hz0 hz1 hz2 hs hl h1
  simp only [Option.isNone_none, Option.isNone_some] at hq
  go_enter Tryz.func95, Tryz.ntmps95
  go_wp2_with (first | (at_builtin; refine wpList_append_sl rfl _ _ 22 rfl w.heap.size 27 i0 _ 1 24 Tryz.underlying22 HI.out.1 HI.out.2.1 HI.out.2.2.1 HI.out.2.2.2 rfl (by decide) _ 0 [] rfl (fresh_made (Nat.le_refl _)) (some a) n c xs rfl HL.out (HS.out.below ((Below.refl _ _).alloc (Nat.le_refl _) _)) H1.out (by unfold maxLen; omega) (by omega) (by simp) ?_))
  intro v' w' g1 g2 g3
  have HG : Hid (w'.ownsRow w.heap.size 27 1 v' n xs) := Lib.hid g1
  have HB : Hid (Below w.heap.size w w') := Lib.hid (((Below.refl w.heap.size w).alloc (Nat.le_refl _) _).grown g2 (by simp) (fun k hk => by simp [Value.ownBlock] at hk; omega))
  clear g1 g2 g3
  go_wp2
  go_ret
  exact ⟨_, rfl, HG.out, HB.out⟩
theorem infoXu32s : (Tryz.prog.info? 25).map (fun i => (i.zero, i.size, i.bytes)) = some (some (.slice none 0 0), 1, 24) := by kernel_rfl
theorem clone_u32s (a : Addr) (n c : Nat) (xs : List Value) (w : World) (hm : n ≤ 100) (hl : xs.length = n * 1) (hs : Sl w (some a) n xs) (h1 : ∀ u ∈ xs, u.oneCell' = true) :
    Calls Tryz.prog 96 #[.slice (some a) n c] w fun e w' => ∃ r, e = .returned r ∧ w'.ownsRow w.heap.size 25 1 r n xs ∧ Below w.heap.size w w' := by
  obtain ⟨i0, hi, hz0, hz1, hz2⟩ := info_parts infoXu32s
  have HI := Lib.hid (And.intro hi (And.intro hz0 (And.intro hz1 hz2)))
  have HS : Hid (Sl w (some a) n xs) := Lib.hid hs
  have HL := Lib.hid hl
  have H1 := Lib.hid h1
  have hq : ∀ W, (binOp .eql 23 (.slice (some a) n c) (.slice none 0 0)).run Tryz.prog W = .ok (.bool (some a).isNone) W := fun W => Lib.run_eql_slice_nil W _ 25 _ _ _ _ _ Tryz.underlying23
  clear hi hz0 hz1 hz2 hs hl h1
  simp only [Option.isNone_none, Option.isNone_some] at hq
  go_enter Tryz.func96, Tryz.ntmps96
  go_wp2_with (first | (at_builtin; refine wpList_append_sl rfl _ _ 23 rfl w.heap.size 25 i0 _ 1 24 Tryz.underlying23 HI.out.1 HI.out.2.1 HI.out.2.2.1 HI.out.2.2.2 rfl (by decide) _ 0 [] rfl (fresh_made (Nat.le_refl _)) (some a) n c xs rfl HL.out (HS.out.below ((Below.refl _ _).alloc (Nat.le_refl _) _)) H1.out (by unfold maxLen; omega) (by omega) (by simp) ?_))
  intro v' w' g1 g2 g3
  have HG : Hid (w'.ownsRow w.heap.size 25 1 v' n xs) := Lib.hid g1
  have HB : Hid (Below w.heap.size w w') := Lib.hid (((Below.refl w.heap.size w).alloc (Nat.le_refl _) _).grown g2 (by simp) (fun k hk => by simp [Value.ownBlock] at hk; omega))
  clear g1 g2 g3
  go_wp2
  go_ret
  exact ⟨_, rfl, HG.out, HB.out⟩
end Go.Proofs.YtmeomdfmljanhaaGreat.Pg
/- Plain numbers for layer 1: what the operations of word answer, as functions of integers, and what is true of them; no program is run here; no condition but the numbers' bounds. -/
namespace Go.Proofs.YtmeomdfmljanhaaGreat
open Go.RowKit

def uadd (b c : Int) : Int := IntKind.u32.wrap (b + c)
def usub (b c : Int) : Int := IntKind.u32.wrap (b - c)
def umul (b c : Int) : Int := IntKind.u32.wrap (b * c)
def uand (b c : Int) : Int := bits .and .u32 b c
def uxor (b c : Int) : Int := bits .xor .u32 b c
def ueq (b c : Int) : Int := if b = c then 1 else 0
def ult (b c : Int) : Int := if b < c then 1 else 0
def of4 (z0 z1 z2 z3 : Int) : Int := ((z0 * 256 + z1) * 256 + z2) * 256 + z3

theorem or_mul (a b i m : Nat) (hm : m = 2 ^ i) (h : a < m) : (b * m) ||| a = b * m + a := by
  subst hm
  rw [← Nat.shiftLeft_eq, Nat.shiftLeft_add_eq_or_of_lt h]
theorem or_sum (x0 x1 x2 x3 : Int) (a0 : 0 ≤ x0) (b0 : x0 ≤ 255) (a1 : 0 ≤ x1) (b1 : x1 ≤ 255) (a2 : 0 ≤ x2) (b2 : x2 ≤ 255) (a3 : 0 ≤ x3) (b3 : x3 ≤ 255) :
    bits BinOp.or IntKind.u32 (bits BinOp.or IntKind.u32 (bits BinOp.or IntKind.u32 (x0 * 16777216) (x1 * 65536)) (x2 * 256)) x3 = of4 x0 x1 x2 x3 := by
  obtain ⟨n0, rfl⟩ := Int.eq_ofNat_of_zero_le a0
  obtain ⟨n1, rfl⟩ := Int.eq_ofNat_of_zero_le a1
  obtain ⟨n2, rfl⟩ := Int.eq_ofNat_of_zero_le a2
  obtain ⟨n3, rfl⟩ := Int.eq_ofNat_of_zero_le a3
  have e2 : ((n2 : Int) * 256) = ((n2 * 256 : Nat) : Int) := by omega
  have e1 : ((n1 : Int) * 65536) = ((n1 * 65536 : Nat) : Int) := by omega
  have e0 : ((n0 : Int) * 16777216) = ((n0 * 16777216 : Nat) : Int) := by omega
  rw [e2, e1, e0, u32_or_nat (n0 * 16777216) (n1 * 65536) (by omega) (by omega), or_mul (n1 * 65536) n0 24 16777216 (by decide) (by omega),
    u32_or_nat _ (n2 * 256) (by omega) (by omega), show n0 * 16777216 + n1 * 65536 = (n0 * 256 + n1) * 65536 by omega, or_mul (n2 * 256) (n0 * 256 + n1) 16 65536 (by decide) (by omega),
    u32_or_nat _ n3 (by omega) (by omega), show (n0 * 256 + n1) * 65536 + n2 * 256 = ((n0 * 256 + n1) * 256 + n2) * 256 by omega, or_mul n3 ((n0 * 256 + n1) * 256 + n2) 8 256 (by decide) (by omega)]
  unfold of4
  omega
end Go.Proofs.YtmeomdfmljanhaaGreat
/- What the functions of layer 1 answer, one contract each: word.Do by operation, word.Place, word.Bytes, word.Of, and the fixed answers that each statement begins with; no condition but that the numbers fit their kinds. -/
namespace Go.Proofs.YtmeomdfmljanhaaGreat
open Go.ChangeShapes Go.WideShapes Go.ChangeAt Go.RowKit

def row4 (z0 z1 z2 z3 : Int) : Array Value := #[.int .u8 z0, .int .u8 z1, .int .u8 z2, .int .u8 z3]

theorem bytes_any (n : Int) (w : World) (h0 : 0 ≤ n) (h1 : n ≤ 4294967295) : Calls Tryz.prog 143 #[.int .u32 n] w fun e w' => e = .returned (.slice (some ⟨w.heap.size, 0, none⟩) 4 4) ∧ w' = w.alloc (.cells (row4 (n / 16777216) (n / 65536 % 256) (n / 256 % 256) (n % 256)) 5) := by
  go_enter Tryz.func143, Tryz.ntmps143
  go_wp2
  go_ret
  exact ⟨rfl, rfl⟩

theorem size5 : (Tryz.prog.info? 5).map (·.size) = some 1 := by kernel_rfl

theorem fill4_eq (zs : List Int) (m : Nat) (hm : m = min zs.length 4) :
    ((#[.int .u8 0, .int .u8 0, .int .u8 0, .int .u8 0] : Array Value).toList.take 0 ++ ((zs.take m).map (Value.int .u8)) ++ (#[.int .u8 0, .int .u8 0, .int .u8 0, .int .u8 0] : Array Value).toList.drop (0 + m)).toArray = row4 (zs.getD 0 0) (zs.getD 1 0) (zs.getD 2 0) (zs.getD 3 0) := by
  subst hm
  match zs with
  | [] => rfl
  | [_] => rfl
  | [_, _] => rfl
  | [_, _, _] => rfl
  | _ :: _ :: _ :: _ :: r =>
    have e : min (r.length + 1 + 1 + 1 + 1) 4 = 4 := by omega
    simp [row4, e]

theorem copy_eq (p : Option Addr) (len cap : Nat) (zs : List Int) (w : World) (hz : zs.length = len)
    (hc : 0 < len → ∃ b off, b < w.heap.size ∧ p = some ⟨b, off, none⟩ ∧ ∀ k, k < len → w.cell? ⟨b, off + k, none⟩ = some (.int .u8 (zs.getD k 0))) :
    (Builtin.copy_ #[104, 104] 3 #[.slice (some ⟨w.heap.size, 0, none⟩) 4 4, .slice p len cap]).run Tryz.prog (w.alloc (.cells #[.int .u8 0, .int .u8 0, .int .u8 0, .int .u8 0] 157)) =
      .ok (goInt (min len 4 : Nat)) (w.alloc (.cells (row4 (zs.getD 0 0) (zs.getD 1 0) (zs.getD 2 0) (zs.getD 3 0)) 157)) := by
  by_cases h0 : len = 0
  · obtain rfl : zs = [] := List.eq_nil_of_length_eq_zero (by omega)
    subst h0
    exact run_copy_none (P := Tryz.prog) _ 104 104 3 5 _ _ 4 4 0 cap Tryz.underlying104 size5 (by simp)
  · obtain ⟨b, off, hlt, rfl, hcell⟩ := hc (by omega)
    have hl : ((zs.take (min len 4)).map (Value.int .u8)).length = min len 4 := by rw [List.length_map, List.length_take]; omega
    have h := run_copy_row (P := Tryz.prog) (w.alloc (.cells #[.int .u8 0, .int .u8 0, .int .u8 0, .int .u8 0] 157)) 104 104 3 5 w.heap.size 0 4 4 ⟨b, off, none⟩ len cap #[.int .u8 0, .int .u8 0, .int .u8 0, .int .u8 0] 157 ((zs.take (min len 4)).map (Value.int .u8))
      Tryz.underlying104 size5 (by exact (MapKept.heap_alloc w _).1) (by rw [hl])
      (fun j v hj => by
        have hj' : j < min len 4 := by
          obtain ⟨h1, _⟩ := List.getElem?_eq_some_iff.1 hj
          rw [hl] at h1; exact h1
        have hv : v = .int .u8 (zs.getD j 0) := by
          obtain ⟨h1, h2⟩ := List.getElem?_eq_some_iff.1 hj
          rw [← h2]; simp [List.getD, show j < zs.length by omega]
        subst hv
        have hadd : (⟨b, off, none⟩ : Addr).add j = ⟨b, off + j, none⟩ := by unfold Addr.add; split <;> simp_all
        rw [hadd, World.cell?_of_block (w := w) (Below.heap_alloc w _ b hlt)]
        exact hcell j (by omega))
      (by rw [hl]; simp; omega) (by intro v hv; obtain ⟨x, _, rfl⟩ := List.mem_map.1 hv; rfl)
    rw [h, hl, fill4_eq zs _ (by rw [hz]), World.setRow_alloc_new]

set_option maxHeartbeats 400000 in
theorem of_any (p : Option Addr) (len cap : Nat) (zs : List Int) (w : World) (hz : zs.length = len) (hb : ∀ k, 0 ≤ zs.getD k 0 ∧ zs.getD k 0 ≤ 255)
    (hc : 0 < len → ∃ b off, b < w.heap.size ∧ p = some ⟨b, off, none⟩ ∧ ∀ k, k < len → w.cell? ⟨b, off + k, none⟩ = some (.int .u8 (zs.getD k 0))) :
    Calls Tryz.prog 102 #[.slice p len cap] w fun e w' => e = .returned (.int .u32 (of4 (zs.getD 0 0) (zs.getD 1 0) (zs.getD 2 0) (zs.getD 3 0))) ∧ w' = w.alloc (.cells (row4 (zs.getD 0 0) (zs.getD 1 0) (zs.getD 2 0) (zs.getD 3 0)) 157) := by
  have hcopy := copy_eq p len cap zs w hz hc
  obtain ⟨z0, e0⟩ : ∃ z, z = zs.getD 0 0 := ⟨_, rfl⟩
  obtain ⟨z1, e1⟩ : ∃ z, z = zs.getD 1 0 := ⟨_, rfl⟩
  obtain ⟨z2, e2⟩ : ∃ z, z = zs.getD 2 0 := ⟨_, rfl⟩
  obtain ⟨z3, e3⟩ : ∃ z, z = zs.getD 3 0 := ⟨_, rfl⟩
  have b0 := hb 0
  have b1 := hb 1
  have b2 := hb 2
  have b3 := hb 3
  rw [← e0, ← e1, ← e2, ← e3] at hcopy ⊢
  rw [← e0] at b0
  rw [← e1] at b1
  rw [← e2] at b2
  rw [← e3] at b3
  clear hz hb hc e0 e1 e2 e3
  unfold row4 at hcopy ⊢
  have hs := Lib.hid (or_sum z0 z1 z2 z3 b0.1 b0.2 b1.1 b1.2 b2.1 b2.2 b3.1 b3.2)
  go_enter Tryz.func102, Tryz.ntmps102
  go_wp2
  go_ret
  refine ⟨?_, rfl⟩
  rw [← hs.out]; rfl

end Go.Proofs.YtmeomdfmljanhaaGreat
/- Plain numbers for the document's answers of layer 1: bit by bit it is the same as at once; what an operation answers, by its number; no program is run here; no condition but the numbers' bounds. -/
namespace Go.Proofs.YtmeomdfmljanhaaGreat
set_option linter.unusedVariables false
open Go.RowKit

/-- What operation op makes of b and c, and whether there is one. -/
def doV (op b c : Int) : Int := if op = 2 then uadd b c else if op = 3 then usub b c else if op = 4 then umul b c else if op = 5 then uand b c else if op = 6 then uxor b c else if op = 7 then ueq b c else if op = 8 then ult b c else 0
def doOk (op : Int) : Bool := decide (2 ≤ op ∧ op ≤ 8)

/-- The number both of whose arguments' bits are met, bit by bit. -/
def bitN (same : Bool) (b c : Nat) : Nat := if same then b &&& c else b ^^^ c
def bitT (same x y : Bool) : Bool := if same then x && y else x != y

end Go.Proofs.YtmeomdfmljanhaaGreat
/- What the document's own answers of layer 1 (backstayref01) are, one contract each: bits, Do by operation, Bytes, Of; and word.Do for whatever operation; no condition but that the numbers fit their kinds. -/
namespace Go.Proofs.YtmeomdfmljanhaaGreat
set_option linter.unusedVariables false
open Go.ChangeShapes Go.WideShapes Go.ChangeAt Go.RowKit

theorem ret_int {k : IntKind} {a b : Int} (h : a = b) : Ending.returned (.int k a) = .returned (.int k b) := by rw [h]

end Go.Proofs.YtmeomdfmljanhaaGreat
/- Plain numbers for layer 5: the sum of bytes, what it is under exclusive or, frames and what is read of them; no program is run here; no condition but the numbers' bounds. -/
namespace Go.Proofs.YtmeomdfmljanhaaGreat
set_option linter.unusedVariables false
open Go.RowKit

/-- One of the eight steps of a sum for each byte. -/
def hv (n : Nat) : Nat := if n % 2 = 1 then n / 2 ^^^ 3988292384 else n / 2
def hvs : Nat → Nat → Nat
  | 0, n => n
  | k + 1, n => hv (hvs k n)
def bstep (n x : Nat) : Nat := hvs 8 (n ^^^ x)
def crc (n : Nat) (l : List Nat) : Nat := l.foldl bstep n
def sumN (l : List Nat) : Nat := 4294967295 - crc 4294967295 l

theorem xor_lt (a b : Nat) (ha : a < 4294967296) (hb : b < 4294967296) : a ^^^ b < 4294967296 := Nat.xor_lt_two_pow (n := 32) ha hb
theorem hv_lt (n : Nat) (h : n < 4294967296) : hv n < 4294967296 := by
  unfold hv; split
  · exact xor_lt _ _ (by omega) (by omega)
  · omega
theorem hvs_lt (k n : Nat) (h : n < 4294967296) : hvs k n < 4294967296 := by
  induction k with
  | zero => exact h
  | succ k ih => exact hv_lt _ ih
theorem bstep_lt (n x : Nat) (h : n < 4294967296) (hx : x < 256) : bstep n x < 4294967296 := hvs_lt _ _ (xor_lt _ _ h (by omega))
theorem crc_lt (l : List Nat) (n : Nat) (h : n < 4294967296) (hl : ∀ x ∈ l, x < 256) : crc n l < 4294967296 := by
  induction l generalizing n with
  | nil => exact h
  | cons x l ih => exact ih (bstep n x) (bstep_lt n x h (hl x (by simp))) (fun y hy => hl y (by simp [hy]))
theorem crc_snoc (n : Nat) (l : List Nat) (x : Nat) : crc n (l ++ [x]) = bstep (crc n l) x := by unfold crc; rw [List.foldl_append]; rfl
theorem sumN_lt (l : List Nat) : sumN l < 4294967296 := by unfold sumN; omega

/-- The number of the first four bytes. -/
def ofN (l : List Nat) : Nat := ((l.getD 0 0 * 256 + l.getD 1 0) * 256 + l.getD 2 0) * 256 + l.getD 3 0
theorem getD_lt (l : List Nat) (h : ∀ x ∈ l, x < 256) (k : Nat) : l.getD k 0 < 256 := by
  rw [List.getD_eq_getElem?_getD]
  by_cases hk : k < l.length
  · rw [List.getElem?_eq_getElem hk]; exact h _ (List.getElem_mem hk)
  · rw [List.getElem?_eq_none (by omega)]; decide
/-- A frame's sum fits. -/
def fitsB (l : List Nat) : Bool := decide (ofN (l.drop 15) = sumN (l.take 15))
def syn (l : List Nat) : Nat := ofN (l.drop 15) ^^^ crc 0 (l.take 15)
theorem top_sub (n : Nat) (h : n < 4294967296) : 4294967295 - n = 4294967295 ^^^ n := by
  apply Nat.eq_of_testBit_eq
  intro j
  rw [Nat.testBit_xor, show 4294967295 - n = 2 ^ 32 - (n + 1) by omega, Nat.testBit_two_pow_sub_succ (by simpa using h), show (4294967295 : Nat) = 2 ^ 32 - 1 by rfl, Nat.testBit_two_pow_sub_one]
  by_cases hj : j < 32
  · simp [hj]
  · have : n.testBit j = false := Nat.testBit_lt_two_pow (Nat.lt_of_lt_of_le h (Nat.pow_le_pow_right (n := 2) (i := 32) (by decide) (by omega)))
    simp [hj, this]
/-- One bit of nineteen bytes. -/
def bitL (i : Nat) : List Nat := (List.replicate 19 0).set (i / 8) (2 ^ (i % 8))
/-- l with its bit i turned. -/
def turnL (l : List Nat) (i : Nat) : List Nat := l.set (i / 8) (l.getD (i / 8) 0 ^^^ 2 ^ (i % 8))
def syns : List Nat := (List.range 152).map fun i => syn (bitL i)
def distinct : List Nat → Bool
  | [] => true
  | x :: l => l.all (fun y => !(Nat.beq x y)) && distinct l
end Go.Proofs.YtmeomdfmljanhaaGreat
/- What the sums of layer 5 answer: frame.halved, frame.Sum, and the document's own Sum; frame.truth; no condition but that the bytes read. -/
namespace Go.Proofs.YtmeomdfmljanhaaGreat
set_option linter.unusedVariables false
open Go.ChangeShapes Go.WideShapes Go.ChangeAt Go.RowKit

/-- A slice that reads as these bytes. -/
structure Byts (w : World) (p : Option Addr) (l : List Nat) : Prop where
  lt : ∀ x ∈ l, x < 256
  c : 0 < l.length → ∃ b off, b < w.heap.size ∧ p = some ⟨b, off, none⟩ ∧ ∀ k, k < l.length → w.cell? ⟨b, off + k, none⟩ = some (.int .u8 (l.getD k 0 : Nat))
theorem Byts.below {w w' : World} {p : Option Addr} {l : List Nat} (h : Byts w p l) (hb : Below w.heap.size w w') : Byts w' p l :=
  ⟨h.lt, fun h0 => by
    obtain ⟨b, off, h1, h2, h3⟩ := h.c h0
    exact ⟨b, off, Nat.lt_of_lt_of_le h1 hb.size, h2, fun k hk => (hb.cell (p := ⟨b, off + k, none⟩) h1).trans (h3 k hk)⟩⟩
theorem Byts.drew {w : World} {p : Option Addr} {l : List Nat} (h : Byts w p l) : Byts w.drew p l := ⟨h.lt, h.c⟩

theorem halved_any (n : Nat) (w : World) (h : n < 4294967296) : Calls Tryz.prog 125 #[.int .u32 n] w fun e w' => e = .returned (.int .u32 (hv n : Nat)) ∧ w = w' := by
  have e0 : bits .and .u32 (n : Int) 1 = ((n &&& 1 : Nat) : Int) := u32_and_nat n 1 h (by decide)
  rw [Nat.and_one_is_mod] at e0
  have e1 : bits .xor .u32 ((n / 2 : Nat) : Int) 3988292384 = ((n / 2 ^^^ 3988292384 : Nat) : Int) := u32_xor_nat (n / 2) 3988292384 (by omega) (by decide)
  rw [show ((n / 2 : Nat) : Int) = (n : Int) / 2 by omega] at e1
  by_cases hx : n % 2 = 1
  · have e2 : hv n = n / 2 ^^^ 3988292384 := by unfold hv; rw [if_pos hx]
    rw [hx] at e0
    rw [e2]
    have E1 := Lib.hid e1
    clear e1 e2
    go_enter Tryz.func125, Tryz.ntmps125
    go_wp2
    go_ret
    exact ⟨ret_int E1.out, rfl⟩
  · have e2 : hv n = n / 2 := by unfold hv; rw [if_neg hx]
    have h0 : n % 2 = 0 := by omega
    rw [h0] at e0
    rw [e2]
    clear e1 e2 hx
    go_enter Tryz.func125, Tryz.ntmps125
    go_wp2
    go_ret
    exact ⟨ret_int (by omega), rfl⟩
theorem take_snoc (l : List Nat) (k : Nat) (h : k < l.length) : l.take (k + 1) = l.take k ++ [l.getD k 0] := by
  rw [List.take_succ_eq_append_getElem h, List.getD_eq_getElem?_getD, List.getElem?_eq_getElem h]; rfl
theorem crc_take (l : List Nat) (k : Nat) (h : ∀ x ∈ l, x < 256) : crc 4294967295 (l.take k) < 4294967296 := crc_lt _ _ (by decide) (fun x hx => h x (List.mem_of_mem_take hx))

set_option maxHeartbeats 1000000 in
theorem sum_any (p : Option Addr) (len cap : Nat) (l : List Nat) (w : World) (hz : l.length = len) (hm : len ≤ maxLen) (h : Byts w p l) :
    Calls Tryz.prog 103 #[.slice p len cap] w fun e w' => e = .returned (.int .u32 (sumN l : Nat)) ∧ w = w' := by
  unfold maxLen at hm
  have HZ := Lib.hid hz
  have HB := Lib.hid h
  clear h hz
  go_enter Tryz.func103, Tryz.ntmps103
  go_wp2
  go_loop [3, 8] (fun s i => ∃ k : Nat, k ≤ len ∧ i = .int .i64 k ∧ s = .int .u32 (crc 4294967295 (l.take k) : Nat)) (fun _ i => len - (intOf i).toNat)
  case atStart => exact ⟨0, Nat.zero_le _, rfl, rfl⟩
  case round =>
    obtain ⟨k, hk, rfl, rfl⟩ := hrel
    have hc0 := crc_take l k HB.out.lt
    by_cases hlt : k < len
    · obtain ⟨b, off, hb, rfl, hcell⟩ := HB.out.c (by rw [HZ.out]; omega)
      have hck := hcell k (by rw [HZ.out]; exact hlt)
      have hx := getD_lt l HB.out.lt k
      have HS : Hid (crc 4294967295 (l.take (k + 1)) = hvs 8 (crc 4294967295 (l.take k) ^^^ l.getD k 0)) := by rw [take_snoc l k (by rw [HZ.out]; exact hlt), crc_snoc]; rfl
      obtain ⟨c, hcd⟩ : ∃ c, c = crc 4294967295 (l.take k) := ⟨_, rfl⟩
      obtain ⟨x, hxd⟩ : ∃ x, x = l.getD k 0 := ⟨_, rfl⟩
      rw [← hcd, ← hxd] at HS
      rw [← hcd] at hc0 ⊢
      rw [← hxd] at hck hx
      have e1 : bits .xor .u32 (c : Int) (x : Int) = ((c ^^^ x : Nat) : Int) := u32_xor_nat c x hc0 (by omega)
      have hcx := xor_lt c x hc0 (by omega)
      obtain ⟨y, hyd⟩ : ∃ y, y = c ^^^ x := ⟨_, rfl⟩
      rw [← hyd] at e1 hcx HS
      clear hcell hcd hxd hyd
      go_wp2
      go_loop [3, 16] (fun s j => ∃ m : Nat, m ≤ 8 ∧ j = .int .i64 m ∧ s = .int .u32 (hvs m y : Nat)) (fun _ j => 8 - (intOf j).toNat)
      case atStart => exact ⟨0, by omega, rfl, rfl⟩
      case round =>
        obtain ⟨m, hm8, rfl, rfl⟩ := hrel
        have hh := hvs_lt m y hcx
        by_cases h8 : m < 8
        · go_wp2_with (go_at_call 125; refine (halved_any _ _ hh).mono ?_; rintro e w' ⟨rfl, rfl⟩)
          go_round
          case rel => exact ⟨m + 1, by omega, by go_num, rfl⟩
          case measure => simp [intOf]; omega
        · have e8 : m = 8 := by omega
          subst e8
          go_wp2
          go_round
          case rel => exact ⟨k + 1, by omega, by go_num, by rw [HS.out]⟩
          case measure => simp [intOf]; omega
    · have hk' : l.take k = l := by rw [List.take_of_length_le (by rw [HZ.out]; omega)]
      rw [hk'] at hc0 ⊢
      clear hk'
      have hn : bits .xor .u32 IntKind.u32.max ((crc 4294967295 l : Nat) : Int) = ((sumN l : Nat) : Int) := by
        have := u32_xor_nat 4294967295 (crc 4294967295 l) (by decide) hc0
        rw [← top_sub _ hc0] at this
        exact this
      have HN := Lib.hid hn
      clear hn
      go_wp2
      go_ret
      exact ⟨ret_int HN.out, rfl⟩

theorem truth_any (b : Bool) (w : World) : Calls Tryz.prog 141 #[.bool b] w fun e w' => e = .returned (.int .u8 (b.toNat : Nat)) ∧ w = w' := by
  cases b
  all_goals
    go_enter Tryz.func141, Tryz.ntmps141
    go_wp2
    go_ret
    exact ⟨rfl, rfl⟩
end Go.Proofs.YtmeomdfmljanhaaGreat
/- Whether a message may be: frame.May and the document's May; no condition but that the numbers fit. -/
namespace Go.Proofs.YtmeomdfmljanhaaGreat
set_option linter.unusedVariables false
open Go.ChangeShapes Go.WideShapes Go.ChangeAt Go.RowKit

/-- A message. -/
structure Msg where
  k : Int
  f : Int
  t : Int
  l : Int
  o : Int
  a : Int
  own : Bool
  n : Nat
  v : Nat
def Msg.row (m : Msg) : Array Value := #[.int .i64 m.k, .int .i64 m.f, .int .i64 m.t, .int .i64 m.l, .int .i64 m.o, .int .i64 m.a, .bool m.own, .int .u32 m.n, .int .u32 m.v]
def byteB (n : Int) : Bool := decide (0 ≤ n ∧ n ≤ 255)
def mayM (m : Msg) : Bool := decide (1 ≤ m.k ∧ m.k ≤ 11) && (byteB m.f && (byteB m.t && (byteB m.l && (byteB m.o && byteB m.a))))

def farB (n : Int) : Bool := decide (n < 0) || decide (255 < n)
theorem far_any (n : Int) (w : World) : Calls Tryz.prog 140 #[.int .i64 n] w fun e w' => e = .returned (.bool (farB n)) ∧ w = w' := by
  by_cases h : n < 0
  · have e : farB n = true := by unfold farB; rw [decide_eq_true h]; rfl
    rw [e]; clear e
    go_enter Tryz.func140, Tryz.ntmps140
    go_wp2
    go_ret
    exact ⟨rfl, rfl⟩
  · by_cases h2 : 255 < n
    · have e : farB n = true := by unfold farB; rw [decide_eq_true h2, Bool.or_true]
      rw [e]; clear e
      go_enter Tryz.func140, Tryz.ntmps140
      go_wp2
      go_ret
      exact ⟨rfl, rfl⟩
    · have e : farB n = false := by unfold farB; rw [decide_eq_false h2, decide_eq_false h]; rfl
      rw [e]; clear e
      go_enter Tryz.func140, Tryz.ntmps140
      go_wp2
      go_ret
      exact ⟨rfl, rfl⟩
/-- The place of the first that is far. -/
def idxF : List Int → Nat → Int
  | [], _ => -1
  | x :: r, k => if farB x then (k : Int) else idxF r (k + 1)
theorem idx_any (l : List Int) (k : Nat) : decide (0 ≤ idxF l k) = l.any farB := by
  induction l generalizing k with
  | nil => rfl
  | cons x r ih =>
    unfold idxF
    rw [List.any_cons]
    cases hx : farB x with
    | true => simp
    | false => simp only [Bool.false_eq_true, if_false, Bool.false_or]; exact ih (k + 1)
theorem drop_cons (l : List Int) (k : Nat) (h : k < l.length) : l.drop k = l.getD k 0 :: l.drop (k + 1) := by
  rw [List.drop_eq_getElem_cons h, List.getD_eq_getElem?_getD, List.getElem?_eq_getElem h]; rfl

set_option maxHeartbeats 1000000 in
theorem index_any (B len : Nat) (l : List Int) (w : World) (hz : l.length = len) (hm : len ≤ 1000) (h : ∀ k, k < len → w.cell? ⟨B, k, none⟩ = some (.int .i64 (l.getD k 0))) :
    Calls Tryz.prog 123 #[.slice (some ⟨B, 0, none⟩) len len, .func (.func 140) #[] #[]] w fun e w' => e = .returned (.int .i64 (idxF l 0)) ∧ w = w' := by
  have HZ := Lib.hid hz
  have HB := Lib.hid h
  obtain ⟨r, hr⟩ : ∃ r, r = idxF l 0 := ⟨_, rfl⟩
  rw [← hr]
  have HR := Lib.hid hr
  clear h hz hr
  go_enter Tryz.func123, Tryz.ntmps123
  go_wp2
  go_loop [8] (fun i => ∃ k : Nat, k ≤ len ∧ i = .int .i64 k ∧ Hid (r = idxF (l.drop k) k)) (fun i => len - (intOf i).toNat)
  case atStart => exact ⟨0, Nat.zero_le _, rfl, by rw [List.drop_zero]; exact HR⟩
  case round =>
    obtain ⟨k, hk, rfl, hi⟩ := hrel
    by_cases hlt : k < len
    · have hck := HB.out k hlt
      have hd := drop_cons l k (by rw [HZ.out]; exact hlt)
      rw [hd] at hi
      obtain ⟨x, hx⟩ : ∃ x, x = l.getD k 0 := ⟨_, rfl⟩
      rw [← hx] at hi hck
      clear hd hx
      cases hf : farB x with
      | true =>
        have he := hi.out
        unfold idxF at he
        rw [if_pos hf] at he
        have HF := Lib.hid hf
        subst he
        clear hf hi HR
        go_wp2_with (first | (go_at_call 140; refine (far_any _ _).mono ?_; rintro e w' ⟨rfl, rfl⟩; rw [HF.out]))
        go_ret
        exact ⟨rfl, rfl⟩
      | false =>
        have HI : Hid (r = idxF (l.drop (k + 1)) (k + 1)) := Lib.hid (by
          have he := hi.out
          unfold idxF at he
          rw [if_neg (by rw [hf]; decide)] at he
          rw [he])
        have HF := Lib.hid hf
        clear hf hi
        go_wp2_with (first | (go_at_call 140; refine (far_any _ _).mono ?_; rintro e w' ⟨rfl, rfl⟩; rw [HF.out]))
        go_round
        case rel => exact ⟨k + 1, by omega, by go_num, HI⟩
        case measure => simp [intOf]; omega
    · have hd : l.drop k = [] := List.drop_eq_nil_of_le (by rw [HZ.out]; omega)
      rw [hd] at hi
      have he : r = -1 := hi.out
      subst he
      clear hi hd HR
      go_wp2
      go_ret
      exact ⟨rfl, rfl⟩
theorem contains_any (B len : Nat) (l : List Int) (w : World) (hz : l.length = len) (hm : len ≤ 1000) (h : ∀ k, k < len → w.cell? ⟨B, k, none⟩ = some (.int .i64 (l.getD k 0))) :
    Calls Tryz.prog 89 #[.slice (some ⟨B, 0, none⟩) len len, .func (.func 140) #[] #[]] w fun e w' => e = .returned (.bool (l.any farB)) ∧ w = w' := by
  have hi := index_any B len l w hz hm h
  have he := idx_any l 0
  obtain ⟨r, hr⟩ : ∃ r, r = idxF l 0 := ⟨_, rfl⟩
  rw [← hr] at hi he
  rw [← he]
  have HI := Lib.hid hi
  clear hi he hr h hz hm
  go_enter Tryz.func89, Tryz.ntmps89
  go_wp2_with (first | (go_at_call 123; refine HI.out.mono ?_; rintro e w' ⟨rfl, rfl⟩))
  go_ret
  exact ⟨rfl, rfl⟩

set_option maxHeartbeats 1000000 in
theorem may_any (m : Msg) (w : World) : Calls Tryz.prog 126 #[.agg m.row] w fun e w' => e = .returned (.bool (mayM m)) ∧ Below w.heap.size w w' := by
  obtain ⟨k, f, t, l, o, a, own, n, v⟩ := m
  unfold Msg.row mayM
  simp only
  by_cases h1 : k < 1
  · have e : decide (1 ≤ k ∧ k ≤ 11) = false := decide_eq_false (by omega)
    rw [e, Bool.false_and]; clear e
    go_enter Tryz.func126, Tryz.ntmps126
    go_wp2
    go_ret
    exact ⟨rfl, (Below.refl _ _).alloc (Nat.le_refl _) _⟩
  · by_cases h2 : 11 < k
    · have e : decide (1 ≤ k ∧ k ≤ 11) = false := decide_eq_false (by omega)
      rw [e, Bool.false_and]; clear e
      go_enter Tryz.func126, Tryz.ntmps126
      go_wp2
      go_ret
      exact ⟨rfl, (Below.refl _ _).alloc (Nat.le_refl _) _⟩
    · have e : decide (1 ≤ k ∧ k ≤ 11) = true := decide_eq_true (by omega)
      rw [e, Bool.true_and]; clear e
      have hfar : ∀ n : Int, byteB n = !farB n := fun n => by
        unfold byteB farB
        by_cases h0 : n < 0
        · rw [decide_eq_true h0, decide_eq_false (show ¬ (0 ≤ n ∧ n ≤ 255) by omega)]; rfl
        · by_cases h3 : 255 < n
          · rw [decide_eq_true h3, Bool.or_true, decide_eq_false (show ¬ (0 ≤ n ∧ n ≤ 255) by omega)]; rfl
          · rw [decide_eq_false h3, decide_eq_false h0, decide_eq_true (show 0 ≤ n ∧ n ≤ 255 by omega)]; rfl
      have hany : (byteB f && (byteB t && (byteB l && (byteB o && byteB a)))) = !([f, t, l, o, a].any farB) := by
        rw [hfar, hfar, hfar, hfar, hfar]; simp [Bool.not_or]
      rw [hany]
      obtain ⟨r, hr⟩ : ∃ r, r = [f, t, l, o, a].any farB := ⟨_, rfl⟩
      rw [← hr]
      have HR := Lib.hid hr
      clear hr hany hfar
      go_enter Tryz.func126, Tryz.ntmps126
      go_wp2_with fail
      refine (contains_any _ 5 [f, t, l, o, a] _ rfl (by decide) ?_).mono ?_
      · intro k hk
        have : k = 0 ∨ k = 1 ∨ k = 2 ∨ k = 3 ∨ k = 4 := by omega
        rcases this with rfl | rfl | rfl | rfl | rfl <;> simp [World.cell?_alloc_new]
      rintro e w' ⟨rfl, rfl⟩
      rw [← HR.out]
      go_wp2
      go_ret
      exact ⟨rfl, ((Below.refl _ _).alloc (Nat.le_refl _) _).alloc (by simp) _⟩
end Go.Proofs.YtmeomdfmljanhaaGreat
