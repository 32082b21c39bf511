/- Laid together, in this order: Blk, Plan, PlanT, Gen, UnNum, UnP, UnA, UnB, UnC, UnD. -/
import Derived.WalkKit
import Derived.ProofKit
import Derived.Below
import Derived.Lib.Hide
import Derived.StillTailTactics
import Derived.Deep.QuietTactic
import Derived.StillTail
import Derived.OrdersHeld
import Derived.Deep.RegionHeld3
import Derived.Maps.AppendAt
import Derived.Lib.AppendZeros
import Derived.Lib.SmallJoins
import Derived.Test.YtflakmabciokbaaRows
import Derived.WalkSpells
import Derived.Outline
import Derived.Laws.CopyOwn
import Derived.Deep.WholeRow
import Derived.OwnWalk
import Derived.BigGuardPart
import Derived.Deep.RegionLaw
import Derived.Lib.SliceRun
import Derived.Deep.CutBlock
import Derived.Deep.DeepCutAuto
set_option linter.unusedSimpArgs false
set_option linter.unusedVariables false
/- Blocks of memory of which all is known, and how they stay so: behind new blocks, calls that write nothing which was there, and stores elsewhere; no program in sight. -/
namespace Go.Proofs.Ytflakmabciokbaa
set_option linter.unusedVariables false
open Go.ChangeShapes Go.WideShapes Go.ChangeAt Go.RowKit

/-- Block B holds just these cells, and none of them is frozen. -/
structure Blk (w : World) (B : Nat) (cs : Array Value) : Prop where
  lt : B < w.heap.size
  c : ∀ j, w.cell? ⟨B, j, none⟩ = cs[j]?
  f : ∀ j, w.frozen? ⟨B, j, none⟩ = false

theorem Blk.new (w : World) (cs : Array Value) (t : TypeId) : Blk (w.alloc (.cells cs t)) w.heap.size cs :=
  ⟨by simp, fun j => World.cell?_alloc_new w cs t j, fun j => World.frozen?_alloc_at cs t _ j rfl⟩
theorem Blk.below {w w' : World} {B : Nat} {cs : Array Value} (h : Blk w B cs) (hb : Below w.heap.size w w') : Blk w' B cs :=
  ⟨Nat.lt_of_lt_of_le h.lt hb.size, fun j => (hb.cell (p := ⟨B, j, none⟩) h.lt).trans (h.c j), fun j => (hb.frozen (p := ⟨B, j, none⟩) h.lt).trans (h.f j)⟩
theorem Blk.belowN {w w' : World} {B M : Nat} {cs : Array Value} (h : Blk w B cs) (hb : Below M w w') (hM : B < M) : Blk w' B cs :=
  ⟨Nat.lt_of_lt_of_le h.lt hb.size, fun j => (hb.cell (p := ⟨B, j, none⟩) hM).trans (h.c j), fun j => (hb.frozen (p := ⟨B, j, none⟩) hM).trans (h.f j)⟩
theorem Blk.alloc {w : World} {B : Nat} {cs : Array Value} (h : Blk w B cs) (o : Obj) : Blk (w.alloc o) B cs := h.below ((Below.refl _ _).alloc (Nat.le_refl _) _)
theorem Blk.drew {w : World} {B : Nat} {cs : Array Value} (h : Blk w B cs) : Blk w.drew B cs := ⟨h.lt, h.c, h.f⟩
theorem Blk.set {w : World} {B n : Nat} {cs : Array Value} (h : Blk w B cs) (v : Value) (hn : n < cs.size) : Blk (w.setCell ⟨B, n, none⟩ v) B (cs.setIfInBounds n v) := by
  refine ⟨by simpa using h.lt, fun j => ?_, fun j => by simpa using h.f j⟩
  by_cases hj : n = j
  · subst hj
    rw [Array.getElem?_setIfInBounds_self_of_lt hn]
    exact World.cell?_setCell_same _ _ _ ((h.c n).trans (Array.getElem?_eq_getElem hn))
  · rw [Array.getElem?_setIfInBounds_ne hj, World.cell?_setCell_other _ _ _ _ (by intro e; injection e with _ e2; exact hj e2)]
    exact h.c j
theorem Blk.other {w : World} {B B' n : Nat} {cs : Array Value} (h : Blk w B cs) (v : Value) (hne : B' ≠ B) : Blk (w.setCell ⟨B', n, none⟩ v) B cs :=
  ⟨by simpa using h.lt, fun j => (World.cell?_setCell_other _ _ _ _ (by intro e; injection e with e1; exact hne e1)).trans (h.c j), fun j => by simpa using h.f j⟩
theorem Blk.cast {w : World} {B : Nat} {cs ds : Array Value} (h : Blk w B cs) (e : cs = ds) : Blk w B ds := e ▸ h

/-- Blocks that were laid just ahead of a call. -/
theorem Blk.track1 {w w' : World} {cs : Array Value} {t : TypeId} (hb : Below (w.alloc (.cells cs t)).heap.size (w.alloc (.cells cs t)) w') : Blk w' w.heap.size cs := (Blk.new w cs t).below hb
theorem Blk.track2 {w w' : World} {cs : Array Value} {t : TypeId} {o : Obj} (hb : Below ((w.alloc (.cells cs t)).alloc o).heap.size ((w.alloc (.cells cs t)).alloc o) w') : Blk w' w.heap.size cs := ((Blk.new w cs t).alloc o).below hb
theorem Blk.carry1 {w w' : World} {B : Nat} {cs : Array Value} {o : Obj} (h : Blk w B cs) (hb : Below (w.alloc o).heap.size (w.alloc o) w') : Blk w' B cs := (h.alloc o).below hb

theorem Blk.drewN {w : World} {B : Nat} {cs : Array Value} (h : Blk w B cs) (n : Nat) : Blk (w.drewN n) B cs := ⟨h.lt, h.c, h.f⟩

/-- A block that was laid behind W0. -/
structure Trk (W0 w' : World) (X : Nat) (cs : Array Value) : Prop where
  blk : Blk w' X cs
  ge : W0.heap.size ≤ X
theorem Trk.one {W0 w' : World} {cs : Array Value} {t : TypeId} (hb : Below (W0.alloc (.cells cs t)).drew.heap.size (W0.alloc (.cells cs t)).drew w') : Trk W0 w' W0.heap.size cs := ⟨(Blk.new W0 cs t).drew.below hb, Nat.le_refl _⟩
theorem Trk.two1 {W0 w' : World} {cs : Array Value} {t : TypeId} {o : Obj} (hb : Below ((W0.alloc (.cells cs t)).alloc o).drew.heap.size ((W0.alloc (.cells cs t)).alloc o).drew w') : Trk W0 w' W0.heap.size cs := ⟨((Blk.new W0 cs t).alloc o).drew.below hb, Nat.le_refl _⟩
theorem Trk.two2 {W0 w' : World} {cs : Array Value} {t : TypeId} {o : Obj} (hb : Below ((W0.alloc o).alloc (.cells cs t)).drew.heap.size ((W0.alloc o).alloc (.cells cs t)).drew w') : Trk W0 w' (W0.heap.size + 1) cs := by
  have h := (Blk.new (W0.alloc o) cs t).drew.below hb
  rw [World.size_alloc] at h
  exact ⟨h, Nat.le_succ _⟩
theorem Trk.carry0 {W0 w w' : World} {X : Nat} {cs : Array Value} (h : Trk W0 w X cs) (hb : Below w.heap.size w w') : Trk W0 w' X cs := ⟨h.blk.below hb, h.ge⟩
theorem Trk.carry1 {W0 w w' : World} {X : Nat} {cs : Array Value} {o : Obj} (h : Trk W0 w X cs) (hb : Below (w.alloc o).heap.size (w.alloc o) w') : Trk W0 w' X cs := ⟨(h.blk.alloc o).below hb, h.ge⟩
theorem Trk.at1 {W0 w w' : World} {cs : Array Value} {t : TypeId} (hw : Below W0.heap.size W0 w) (hb : Below (w.alloc (.cells cs t)).heap.size (w.alloc (.cells cs t)) w') : Trk W0 w' w.heap.size cs := ⟨Blk.track1 hb, hw.size⟩
theorem Trk.at21 {W0 w w' : World} {cs : Array Value} {t : TypeId} {o : Obj} (hw : Below W0.heap.size W0 w) (hb : Below ((w.alloc (.cells cs t)).alloc o).heap.size ((w.alloc (.cells cs t)).alloc o) w') : Trk W0 w' w.heap.size cs := ⟨Blk.track2 hb, hw.size⟩
theorem Trk.at22 {W0 w w' : World} {cs : Array Value} {t : TypeId} {o : Obj} (hw : Below W0.heap.size W0 w) (hb : Below ((w.alloc o).alloc (.cells cs t)).heap.size ((w.alloc o).alloc (.cells cs t)) w') : Trk W0 w' (w.heap.size + 1) cs := by
  have h := (Blk.new (w.alloc o) cs t).below hb
  rw [World.size_alloc] at h
  exact ⟨h, Nat.le_trans hw.size (Nat.le_succ _)⟩
theorem belowAlloc {W0 w : World} (h : Below W0.heap.size W0 w) (o : Obj) : Below W0.heap.size W0 (w.alloc o) := h.alloc h.size o
theorem bA {W0 w : World} {o : Obj} (h : Below W0.heap.size W0 w) : Below W0.heap.size W0 (w.alloc o) = True := eq_true (h.alloc h.size o)
theorem bS {W0 w : World} {X j : Nat} {v : Value} (h : Below W0.heap.size W0 w) (hX : W0.heap.size ≤ X) : Below W0.heap.size W0 (w.setCell ⟨X, j, none⟩ v) = True := eq_true (h.setCell hX _)
theorem bD {W0 w : World} (h : Below W0.heap.size W0 w) : Below W0.heap.size W0 w.drew = True := eq_true h.drew
theorem bR {W0 : World} : Below W0.heap.size W0 W0 = True := eq_true (Below.refl _ _)
theorem size_set (w : World) (a : Addr) (v : Value) : (w.setCell a v).heap.size = w.heap.size := by simp
theorem size_new (w : World) (o : Obj) : (w.alloc o).heap.size = w.heap.size + 1 := World.size_alloc w o
theorem blkNew {w : World} {Y : Nat} {cs : Array Value} {t : TypeId} (h : w.heap.size = Y) : Blk (w.alloc (.cells cs t)) Y cs = True := eq_true (h ▸ Blk.new w cs t)
theorem blkA {w : World} {X : Nat} {cs : Array Value} {o : Obj} (h : Blk w X cs) : Blk (w.alloc o) X cs = True := eq_true (h.alloc o)

theorem ne_succ (n : Nat) : n ≠ n + 1 := by omega
theorem succ_ne (n : Nat) : n + 1 ≠ n := by omega
theorem sOf {W0 w' : World} {B : Nat} {cs : Array Value} (hB : Hid (Blk W0 B cs)) (hb : Below W0.heap.size W0 w') : (∀ j, w'.cell? ⟨B, j, none⟩ = cs[j]?) ∧ Below W0.heap.size W0 w' := ⟨(hB.out.below hb).c, hb⟩

end Go.Proofs.Ytflakmabciokbaa
/- A region that draws its order, of which a plan is given: reads that hold wherever S does, taken first; calls that come alone, one behind the other; and an end in one forced order. No program in sight. -/
namespace Go.Proofs.Ytflakmabciokbaa
set_option linter.unusedVariables false

section
variable {P : Program} {ops : Array Oper} {md : Region.Mode} {Q : Exit → Act → World → Prop} {S : World → Prop}

def anyHL (P : Program) (md : Region.Mode) (ops : Array Oper) (Q : Exit → Act → World → Prop) (S : World → Prop) (n : Nat) (L : Array Bool → Act → World → Prop) : Nat → Array Bool → Act → World → Prop
  | 0, listed, a, w => L listed a w
  | f + 1, listed, a, w => Region.ready md ops listed ≠ [] ∧ ∀ i ∈ Region.ready md ops listed, i < n ∧ wpOp P ops Q i (fun a' w' => S w' ∧ anyHL P md ops Q S n L f (listed.setIfInBounds i true) a' w') a w

theorem wpOp_np {i : Nat} {K : Act → World → Prop} {a : Act} {w : World} (h : wpOp P ops (NoPanic Q) i K a w) : wpOp P ops Q i K a w := by
  unfold wpOp at *
  split
  · simpa [*] using h
  · rename_i o ho
    simp only [ho] at h
    split
    · rename_i hw
      simp only [hw, if_true] at h
      rcases h with h | ⟨h1, h2⟩
      · left
        unfold Oper.wp at *
        generalize (execOp a.eval o).run P w = r at *
        cases r with
        | ok n w' =>
          cases n <;> simp only [Oper.upon] at h ⊢
          case value u => exact h
          case skip => exact h
          case defer d => exact h
          case enter f args =>
            refine Calls.mono h fun e w'' he => ?_
            cases e with
            | returned u => exact he
            | panicked c => exact (he : False).elim
            | outgrown => obtain ⟨a0, w0, h0⟩ := he; exact ⟨a0, w0, h0⟩
          case row row args => exact h
        | halt x w' => cases x <;> simp only [Oper.upon] at h ⊢; exact (h : False).elim
      · right
        obtain ⟨a0, w0, h0⟩ := h2
        exact ⟨h1, a0, w0, h0⟩
    · rename_i hw
      simpa [hw] using h

theorem any_of_headH {n g : Nat} {L : Array Bool → Act → World → Prop} (hL : ∀ listed a w, L listed a w → wpAny P md ops Q g listed a w) :
    ∀ (f : Nat) (listed : Array Bool) (a : Act) (w : World), anyHL P md ops (NoPanic Q) S n L f listed a w → wpAny P md ops Q (f + g) listed a w
  | 0, listed, a, w, h => by rw [Nat.zero_add]; exact hL _ _ _ h
  | f + 1, listed, a, w, h => by
    rw [show f + 1 + g = (f + g) + 1 by omega]
    exact ⟨fun h0 => absurd h0 h.1, fun i hi => wpOp_np (wpOp_mono (fun a' w' h' => any_of_headH hL f _ a' w' h'.2) (h.2 i hi).2)⟩

theorem anyHL_first {n i : Nat} {oi : Oper} {v : Value} {L : Array Bool → Act → World → Prop} (hi : ops[i]? = some oi) (hsel : ∀ (j : Nat) (o : Oper) cs b, ops[j]? = some o → o.op ≠ .select cs b)
    (hs : Region.sinkB md ops n = true) (hc : Region.chainB md ops n = true) (hn : n < ops.size) (hin : i < n) (hQ : ∀ c a w, Q (.panic c) (a.put oi.dst v) w → Q (.panic c) a w)
    (hdone : ∀ listed a w, L listed a w → ∀ j ∈ Region.ready md ops listed, n ≤ j) :
    ∀ (f : Nat) (listed : Array Bool) (a : Act) (w : World), HeadInv md ops n listed →
      (∀ j oj, ops[j]? = some oj → j ≠ i → listed.getD j true = false → (∀ e ∈ oj.after, Region.binds md e = true → e.on ≠ i) → oi.apart ops oj = true) →
      i ∈ Region.ready md ops listed → YieldsIf P ops S oi v a → S w →
      anyHL P md ops Q S n L f (listed.setIfInBounds i true) (a.put oi.dst v) w → anyHL P md ops Q S n L (f + 1) listed a w := by
  intro f
  induction f with
  | zero =>
    intro listed a w inv _ hr hy hS H
    have hun := (mem_ready.1 hr).1
    refine ⟨fun h => (by rw [h] at hr; cases hr), fun j hj => ?_⟩
    have hjn : j < n := by
      rcases Nat.lt_or_ge j n with h | h
      · exact h
      · exact absurd hj (tail_waits hs hc hn inv _ i rfl hin hun j h)
    refine ⟨hjn, ?_⟩
    by_cases hji : j = i
    · subst hji; exact hy.wpOp hi hS ⟨hS, H⟩
    · have := hdone _ _ _ H j (ready_mono hj hji)
      omega
  | succ f ih =>
    intro listed a w inv hfree hr hy hS H
    have hun := (mem_ready.1 hr).1
    refine ⟨fun h => (by rw [h] at hr; cases hr), fun j hj => ?_⟩
    have hjn : j < n := by
      rcases Nat.lt_or_ge j n with h | h
      · exact h
      · exact absurd hj (tail_waits hs hc hn inv _ i rfl hin hun j h)
    refine ⟨hjn, ?_⟩
    by_cases hji : j = i
    · subst hji; exact hy.wpOp hi hS ⟨hS, H⟩
    · have h1 := (H.2 j (ready_mono hj hji)).2
      obtain ⟨hjun, oj, hoj, hall⟩ := mem_ready.1 hj
      have hnot : ∀ e ∈ oj.after, Region.binds md e = true → e.on ≠ i := fun e he hb heq => by
        have h1 := hall e he hb
        rw [heq, getD_both hun] at h1
        cases h1
      have h2 := wpOp_putIf hoj (hfree j oj hoj hji hjun hnot) (fun cs b => hsel i oi cs b hi) (fun cs b => hsel j oj cs b hoj) hQ hy h1
      have hfree' : ∀ k ok, ops[k]? = some ok → k ≠ i → (listed.setIfInBounds j true).getD k true = false →
          (∀ e ∈ ok.after, Region.binds md e = true → e.on ≠ i) → oi.apart ops ok = true := fun k ok hk hki hun hno => by
        refine hfree k ok hk hki ?_ hno
        by_cases hjk : j = k
        · subst hjk; exact hjun
        · rw [getD_set_ne true hjk] at hun; exact hun
      refine wpOp_mono (fun a' w' h3 => ⟨h3.2.1, ih (listed.setIfInBounds j true) a' w' (inv.set hj hjn) hfree' (ready_mono hr (Ne.symm hji)) h3.1 h3.2.1 ?_⟩) h2
      rw [Array.setIfInBounds_comm _ _ hji]
      exact h3.2.2

/-- The plan's places: true: a read, taken first; false: what comes alone. -/
def planB (md : Region.Mode) (ops : Array Oper) (g n : Nat) : List (Nat × Bool) → Array Bool → Bool
  | [], listed => Region.seqB md ops g n listed
  | (i, true) :: r, listed => (Region.ready md ops listed).contains i && Region.free md ops listed i && decide (i < n) && planB md ops g n r (listed.setIfInBounds i true)
  | (i, false) :: r, listed => decide (Region.ready md ops listed = [i]) && decide (i < n) && planB md ops g n r (listed.setIfInBounds i true)
def planOk (ops : Array Oper) (n : Nat) (plan : List (Nat × Bool)) : Bool :=
  Region.noSelect ops && decide (n < ops.size) && Region.sinkB .any ops n && Region.chainB .any ops n && decide (plan.length = n) && planB .any ops (ops.size - n) n plan (Array.replicate ops.size false)

def wpPlan (P : Program) (ops : Array Oper) (Q : Exit → Act → World → Prop) (S : World → Prop) (K : Act → World → Prop) : List (Nat × Bool) → Act → World → Prop
  | [], a, w => K a w
  | (i, true) :: r, a, w => ∃ o v, ops[i]? = some o ∧ YieldsIf P ops S o v a ∧ wpPlan P ops Q S K r (a.put o.dst v) w
  | (i, false) :: r, a, w => wpOp P ops Q i (fun a' w' => S w' ∧ wpPlan P ops Q S K r a' w') a w

theorem anyHL_plan {n g : Nat} {K : Act → World → Prop} (hsel : Region.noSelect ops = true) (hs : Region.sinkB md ops n = true) (hc : Region.chainB md ops n = true) (hn : n < ops.size) (hQ : ∀ d v c a w, Q (.panic c) (a.put d v) w → Q (.panic c) a w) :
    ∀ (l : List (Nat × Bool)) (listed : Array Bool) (a : Act) (w : World), HeadInv md ops n listed → planB md ops g n l listed = true → S w → wpPlan P ops Q S K l a w →
      anyHL P md ops Q S n (fun listed' a' w' => Region.seqB md ops g n listed' = true ∧ K a' w') l.length listed a w
  | [], listed, a, w, _, hB, _, h => ⟨hB, h⟩
  | (i, true) :: l, listed, a, w, inv, hB, hS, h => by
    simp only [planB, Bool.and_eq_true, decide_eq_true_eq] at hB
    obtain ⟨⟨⟨hr, hf⟩, hin⟩, hB'⟩ := hB
    obtain ⟨o, v, ho, hy, hK⟩ := h
    have hr' : i ∈ Region.ready md ops listed := by simpa using hr
    exact anyHL_first ho (Region.noSelect_spec hsel) hs hc hn hin (fun c a w => hQ _ _ c a w) (fun listed' a' w' hL => seqB_ready hL.1) l.length listed a w inv (Region.free_spec ho hf) hr' hy hS
      (anyHL_plan hsel hs hc hn hQ l _ _ w (inv.set hr' hin) hB' hS hK)
  | (i, false) :: l, listed, a, w, inv, hB, hS, h => by
    simp only [planB, Bool.and_eq_true, decide_eq_true_eq] at hB
    obtain ⟨⟨hr, hin⟩, hB'⟩ := hB
    have hr' : i ∈ Region.ready md ops listed := by rw [hr]; exact List.mem_singleton.2 rfl
    refine ⟨by rw [hr]; simp, fun j hj => ?_⟩
    rw [hr] at hj
    have hji : j = i := by simpa using hj
    subst hji
    exact ⟨hin, wpOp_mono (fun a' w' h' => ⟨h'.1, anyHL_plan hsel hs hc hn hQ l _ a' w' (inv.set hr' hin) hB' h'.1 h'.2⟩) h⟩

/-- A region by its plan. -/
theorem region_plan {id : Nat} {a : Act} {w : World} {l : List Oper} (S : World → Prop) (n : Nat) (plan : List (Nat × Bool)) (hm : P.follows .mixedOrders = true) (hB : planOk l.toArray n plan = true) (hS : S w.drew)
    (h : wpPlan P l.toArray (NoPanic Q) S (fun a' w' => wpList P l.toArray Q (l.drop n) a' w') plan a w.drew) : (Code.region id l.toArray true).wp P Q a w := by
  simp only [planOk, Bool.and_eq_true, decide_eq_true_eq] at hB
  obtain ⟨⟨⟨⟨⟨hsel, hn⟩, hs⟩, hc⟩, hlen⟩, hplan⟩ := hB
  have hn' : n < l.length := by simpa using hn
  have hdl : (l.drop n).length = l.toArray.size - n := by simp
  have inv0 : HeadInv .any l.toArray n (Array.replicate l.toArray.size false) :=
    ⟨by simp, fun j oj _ hl => (by rw [getD_replicate_false] at hl; cases hl), fun t _ ht => getD_in (by simpa using ht) (getD_replicate_false _ _)⟩
  have H := anyHL_plan (P := P) (Q := NoPanic Q) (S := S) hsel hs hc hn (fun _ _ _ _ _ h => h) plan _ a w.drew inv0 hplan hS h
  refine wp_region_any hm ?_
  have := any_of_headH (Q := Q) (g := l.toArray.size - n) (fun listed a' w' hL => by
    have := wpAny_of_seq (md := .any) (Q' := Q) (l.drop n) n listed a' w' (fun j => by simp [List.getElem?_drop]) (by rw [hdl]; exact hL.1) hL.2
    rwa [hdl] at this) _ _ _ _ H
  rw [hlen, show n + (l.toArray.size - n) = l.toArray.size by omega] at this
  exact this

theorem plan_read {K : Act → World → Prop} {i : Nat} {r : List (Nat × Bool)} {a : Act} {w : World} {o : Oper} {v : Value} (ho : ops[i]? = some o) (hw : Region.wanted o (yielded ops a.tmps) = true) (hy : ∀ w, S w → (execOp a.eval o).run P w = .ok (.value v) w) (h : wpPlan P ops Q S K r (a.put o.dst v) w) : wpPlan P ops Q S K ((i, true) :: r) a w :=
  ⟨o, v, ho, .inl ⟨hw, hy⟩, h⟩
theorem plan_call {K : Act → World → Prop} {i : Nat} {r : List (Nat × Bool)} {a : Act} {w : World} {o : Oper} {F : FuncId} {args : Array Value} (ho : ops[i]? = some o) (hw : Region.wanted o (yielded ops a.tmps) = true) (hr : (execOp a.eval o).run P w = .ok (.enter F args) w)
    (h : Calls P F args w fun e w' => ∃ u, e = .returned u ∧ S w' ∧ wpPlan P ops Q S K r (a.put o.dst u) w') : wpPlan P ops Q S K ((i, false) :: r) a w := by
  show wpOp P ops Q i _ a w
  unfold wpOp
  simp only [ho, hw, if_true, Oper.wp, hr, Oper.upon]
  left
  refine Calls.mono h fun e w' he => ?_
  obtain ⟨u, rfl, hS, hK⟩ := he
  exact ⟨hS, hK⟩
theorem plan_nil {K : Act → World → Prop} {a : Act} {w : World} (h : K a w) : wpPlan P ops Q S K [] a w := h
end
end Go.Proofs.Ytflakmabciokbaa
/- A region that draws its order, of which a plan with branches is given; and an append to a row of one's own of a list that is nil. No program in sight. -/
namespace Go.Proofs.Ytflakmabciokbaa
set_option linter.unusedVariables false

inductive PlanT where
  | stop
  | read (i : Nat) (p : PlanT)
  | one (i : Nat) (p : PlanT)
  | two (i j : Nat) (p q : PlanT)

section
variable {P : Program} {ops : Array Oper} {md : Region.Mode} {Q : Exit → Act → World → Prop} {S : World → Prop}

def planTB (md : Region.Mode) (ops : Array Oper) (g n : Nat) : Nat → PlanT → Array Bool → Bool
  | 0, .stop, listed => Region.seqB md ops g n listed
  | d + 1, .read i p, listed => (Region.ready md ops listed).contains i && Region.free md ops listed i && decide (i < n) && planTB md ops g n d p (listed.setIfInBounds i true)
  | d + 1, .one i p, listed => decide (Region.ready md ops listed = [i]) && decide (i < n) && planTB md ops g n d p (listed.setIfInBounds i true)
  | d + 1, .two i j p q, listed => decide (Region.ready md ops listed = [i, j]) && (decide (i < n) && decide (j < n)) && (planTB md ops g n d p (listed.setIfInBounds i true) && planTB md ops g n d q (listed.setIfInBounds j true))
  | _, _, _ => false
def planTOk (ops : Array Oper) (n : Nat) (plan : PlanT) : Bool :=
  Region.noSelect ops && decide (n < ops.size) && Region.sinkB .any ops n && Region.chainB .any ops n && planTB .any ops (ops.size - n) n n plan (Array.replicate ops.size false)

def wpPlanT (P : Program) (ops : Array Oper) (Q : Exit → Act → World → Prop) (S : World → Prop) (K : Act → World → Prop) : PlanT → Act → World → Prop
  | .stop, a, w => K a w
  | .read i p, a, w => ∃ o v, ops[i]? = some o ∧ YieldsIf P ops S o v a ∧ wpPlanT P ops Q S K p (a.put o.dst v) w
  | .one i p, a, w => wpOp P ops Q i (fun a' w' => S w' ∧ wpPlanT P ops Q S K p a' w') a w
  | .two i j p q, a, w => wpOp P ops Q i (fun a' w' => S w' ∧ wpPlanT P ops Q S K p a' w') a w ∧ wpOp P ops Q j (fun a' w' => S w' ∧ wpPlanT P ops Q S K q a' w') a w

theorem anyHL_planT {n g : Nat} {K : Act → World → Prop} (hsel : Region.noSelect ops = true) (hs : Region.sinkB md ops n = true) (hc : Region.chainB md ops n = true) (hn : n < ops.size) (hQ : ∀ d v c a w, Q (.panic c) (a.put d v) w → Q (.panic c) a w) :
    ∀ (d : Nat) (l : PlanT) (listed : Array Bool) (a : Act) (w : World), HeadInv md ops n listed → planTB md ops g n d l listed = true → S w → wpPlanT P ops Q S K l a w →
      anyHL P md ops Q S n (fun listed' a' w' => Region.seqB md ops g n listed' = true ∧ K a' w') d listed a w
  | 0, .stop, listed, a, w, _, hB, _, h => ⟨hB, h⟩
  | d + 1, .read i p, listed, a, w, inv, hB, hS, h => by
    simp only [planTB, Bool.and_eq_true, decide_eq_true_eq] at hB
    obtain ⟨⟨⟨hr, hf⟩, hin⟩, hB'⟩ := hB
    obtain ⟨o, v, ho, hy, hK⟩ := h
    have hr' : i ∈ Region.ready md ops listed := by simpa using hr
    exact anyHL_first ho (Region.noSelect_spec hsel) hs hc hn hin (fun c a w => hQ _ _ c a w) (fun listed' a' w' hL => seqB_ready hL.1) d listed a w inv (Region.free_spec ho hf) hr' hy hS
      (anyHL_planT hsel hs hc hn hQ d p _ _ w (inv.set hr' hin) hB' hS hK)
  | d + 1, .one i p, listed, a, w, inv, hB, hS, h => by
    simp only [planTB, Bool.and_eq_true, decide_eq_true_eq] at hB
    obtain ⟨⟨hr, hin⟩, hB'⟩ := hB
    have hr' : i ∈ Region.ready md ops listed := by rw [hr]; exact List.mem_singleton.2 rfl
    refine ⟨by rw [hr]; simp, fun j hj => ?_⟩
    rw [hr] at hj
    have hji : j = i := by simpa using hj
    subst hji
    exact ⟨hin, wpOp_mono (fun a' w' h' => ⟨h'.1, anyHL_planT hsel hs hc hn hQ d p _ a' w' (inv.set hr' hin) hB' h'.1 h'.2⟩) h⟩
  | d + 1, .two i j p q, listed, a, w, inv, hB, hS, h => by
    simp only [planTB, Bool.and_eq_true, decide_eq_true_eq] at hB
    obtain ⟨⟨hr, hin, hjn⟩, hB1, hB2⟩ := hB
    have hr1 : i ∈ Region.ready md ops listed := by rw [hr]; simp
    have hr2 : j ∈ Region.ready md ops listed := by rw [hr]; simp
    refine ⟨by rw [hr]; simp, fun k hk => ?_⟩
    rw [hr] at hk
    have hki : k = i ∨ k = j := by simpa using hk
    rcases hki with rfl | rfl
    · exact ⟨hin, wpOp_mono (fun a' w' h' => ⟨h'.1, anyHL_planT hsel hs hc hn hQ d p _ a' w' (inv.set hr1 hin) hB1 h'.1 h'.2⟩) h.1⟩
    · exact ⟨hjn, wpOp_mono (fun a' w' h' => ⟨h'.1, anyHL_planT hsel hs hc hn hQ d q _ a' w' (inv.set hr2 hjn) hB2 h'.1 h'.2⟩) h.2⟩
  | 0, .read _ _, _, _, _, _, hB, _, _ => by simp [planTB] at hB
  | 0, .one _ _, _, _, _, _, hB, _, _ => by simp [planTB] at hB
  | 0, .two _ _ _ _, _, _, _, _, hB, _, _ => by simp [planTB] at hB
  | _ + 1, .stop, _, _, _, _, hB, _, _ => by simp [planTB] at hB

/-- A region by its plan. -/
theorem region_planT {id : Nat} {a : Act} {w : World} {l : List Oper} (S : World → Prop) (n : Nat) (plan : PlanT) (hm : P.follows .mixedOrders = true) (hB : planTOk l.toArray n plan = true) (hS : S w.drew)
    (h : wpPlanT P l.toArray (NoPanic Q) S (fun a' w' => wpList P l.toArray Q (l.drop n) a' w') plan a w.drew) : (Code.region id l.toArray true).wp P Q a w := by
  simp only [planTOk, Bool.and_eq_true, decide_eq_true_eq] at hB
  obtain ⟨⟨⟨⟨hsel, hn⟩, hs⟩, hc⟩, hplan⟩ := hB
  have hn' : n < l.length := by simpa using hn
  have hdl : (l.drop n).length = l.toArray.size - n := by simp
  have inv0 : HeadInv .any l.toArray n (Array.replicate l.toArray.size false) :=
    ⟨by simp, fun j oj _ hl => (by rw [getD_replicate_false] at hl; cases hl), fun t _ ht => getD_in (by simpa using ht) (getD_replicate_false _ _)⟩
  have H := anyHL_planT (P := P) (Q := NoPanic Q) (S := S) hsel hs hc hn (fun _ _ _ _ _ h => h) n plan _ a w.drew inv0 hplan hS h
  refine wp_region_any hm ?_
  have := any_of_headH (Q := Q) (g := l.toArray.size - n) (fun listed a' w' hL => by
    have := wpAny_of_seq (md := .any) (Q' := Q) (l.drop n) n listed a' w' (fun j => by simp [List.getElem?_drop]) (by rw [hdl]; exact hL.1) hL.2
    rwa [hdl] at this) _ _ _ _ H
  rw [show n + (l.toArray.size - n) = l.toArray.size by omega] at this
  exact this

variable {K : Act → World → Prop} {i j : Nat} {p q : PlanT} {a : Act} {w : World} {o : Oper}
theorem planT_read {v : Value} (ho : ops[i]? = some o) (hw : Region.wanted o (yielded ops a.tmps) = true) (hy : ∀ w, S w → (execOp a.eval o).run P w = .ok (.value v) w) (h : wpPlanT P ops Q S K p (a.put o.dst v) w) : wpPlanT P ops Q S K (.read i p) a w :=
  ⟨o, v, ho, .inl ⟨hw, hy⟩, h⟩
theorem op_call {K : Act → World → Prop} {F : FuncId} {args : Array Value} (ho : ops[i]? = some o) (hw : Region.wanted o (yielded ops a.tmps) = true) (hr : (execOp a.eval o).run P w = .ok (.enter F args) w)
    (h : Calls P F args w fun e w' => ∃ u, e = .returned u ∧ K (a.put o.dst u) w') : wpOp P ops Q i K a w := by
  unfold wpOp
  simp only [ho, hw, if_true, Oper.wp, hr, Oper.upon]
  left
  refine Calls.mono h fun e w' he => ?_
  obtain ⟨u, rfl, hK⟩ := he
  exact hK
/-- An operation that makes something new and yields a value. -/
theorem op_make {K : Act → World → Prop} {v : Value} {w1 : World} (ho : ops[i]? = some o) (hw : Region.wanted o (yielded ops a.tmps) = true) (hr : (execOp a.eval o).run P w = .ok (.value v) w1) (h : K (a.put o.dst v) w1) : wpOp P ops Q i K a w := by
  unfold wpOp
  simp only [ho, hw, if_true, Oper.wp, hr, Oper.upon]
  exact .inl h
theorem op_wp {K : Act → World → Prop} (ho : ops[i]? = some o) (hw : Region.wanted o (yielded ops a.tmps) = true) (h : o.wp P a w K Q) : wpOp P ops Q i K a w := by
  unfold wpOp
  simp only [ho, hw, if_true]
  exact .inl h
theorem planT_one (h : wpOp P ops Q i (fun a' w' => S w' ∧ wpPlanT P ops Q S K p a' w') a w) : wpPlanT P ops Q S K (.one i p) a w := h
theorem planT_two (h1 : wpOp P ops Q i (fun a' w' => S w' ∧ wpPlanT P ops Q S K p a' w') a w) (h2 : wpOp P ops Q j (fun a' w' => S w' ∧ wpPlanT P ops Q S K q a' w') a w) : wpPlanT P ops Q S K (.two i j p q) a w := ⟨h1, h2⟩
theorem planT_stop (h : K a w) : wpPlanT P ops Q S K .stop a w := h
end

section
variable {P : Program} {w : World}
theorem run_append_nil (base : Nat) (t ty e : TypeId) (i : TypeInfo) (size c : Nat) (ht : P.underlying t = some (.slice e)) (hi : P.info? e = some i)
    (v : Value) (n : Nat) (xs : List Value) (hown : w.ownsRow base e size v n xs) :
    (Builtin.append_ #[t, t] ty #[v, .slice none 0 c]).run P w = .ok v w := by
  rcases hown.2 with ⟨rfl, rfl⟩ | ⟨g, cap, cur, rfl, _, _, hnc, _⟩
  · simp [Builtin.append_, run_underlying ht, sizeOf, typeInfo, hi, Builtin.lenOf, Builtin.firstCells]
  · simp [Builtin.append_, run_underlying ht, sizeOf, typeInfo, hi, Builtin.lenOf, Builtin.firstCells, hnc, storeCells]
theorem wp_append_nil {o : Oper} {a : Act} {K : Act → World → Prop} {Q : Exit → Act → World → Prop} (s x : Operand) (t : TypeId)
    (ho : o.op = .call { callee := .builtin .append, args := #[s, x], argTypes := #[t, t] })
    (base : Nat) (e : TypeId) (i : TypeInfo) (size c : Nat) (ht : P.underlying t = some (.slice e)) (hi : P.info? e = some i)
    (v : Value) (n : Nat) (xs : List Value) (hs : a.eval s = v) (hown : w.ownsRow base e size v n xs) (hx : a.eval x = .slice none 0 c)
    (h : K (a.put o.dst v) w) : o.wp P a w K Q := by
  have hrun := run_append_nil (P := P) (w := w) base t o.type e i size c ht hi v n xs hown
  unfold Oper.wp
  simp [execOp, ho, resolve, invoke, builtin, hs, hx, hrun, Result.andThen]
  exact h
theorem wpList_append_nil {ops : Array Oper} {rest : List Oper} {o : Oper} {a : Act} {Q : Exit → Act → World → Prop} (hgd : o.guard = none) (s x : Operand) (t : TypeId)
    (ho : o.op = .call { callee := .builtin .append, args := #[s, x], argTypes := #[t, t] })
    (base : Nat) (e : TypeId) (i : TypeInfo) (size c : Nat) (ht : P.underlying t = some (.slice e)) (hi : P.info? e = some i)
    (v : Value) (n : Nat) (xs : List Value) (hs : a.eval s = v) (hown : w.ownsRow base e size v n xs) (hx : a.eval x = .slice none 0 c)
    (h : wpList P ops Q rest (a.put o.dst v) w) : wpList P ops Q (o :: rest) a w :=
  wpList_plain hgd fun K hK => wp_append_nil s x t ho base e i size c ht hi v n xs hs hown hx (hK _ _ h)
theorem wp_append_own_at {o : Oper} {a : Act} {K : Act → World → Prop} {Q : Exit → Act → World → Prop} (s x : Operand) (t : TypeId)
    (ho : o.op = .call { callee := .builtin .append, args := #[s, x], argTypes := #[t, t] })
    (base : Nat) (e : TypeId) (i : TypeInfo) (z : Value) (size bytes : Nat) (ht : P.underlying t = some (.slice e)) (hi : P.info? e = some i) (hz : i.zero = some z)
    (hsize : i.size = size) (hby : i.bytes = bytes) (hzs : z.cells.size = size) (hsz : 0 < size)
    (v : Value) (n : Nat) (xs : List Value) (hs : a.eval s = v) (hown : w.ownsRow base e size v n xs)
    (ad : Addr) (m c : Nat) (news : List Value) (hx : a.eval x = .slice (some ad) m c) (hl : news.length = m * size) (hnews : ∀ j u, news[j]? = some u → w.cell? (ad.add j) = some u) (h1 : ∀ u ∈ news, u.oneCell' = true)
    (h63 : n + m ≤ maxLen) (hbytes : (n + m) * bytes ≤ 140737488355328) (hbase : base ≤ w.heap.size)
    (h : ∀ v' w', w'.ownsRow base e size v' (n + m) (xs ++ news) → w.grownBy w' v.ownBlock → (v' = .slice none 0 0 ↔ v = .slice none 0 0 ∧ m = 0) → (v'.ownBlock = v.ownBlock ∨ v'.ownBlock = some w.heap.size) → K (a.put o.dst v') w') : o.wp P a w K Q := by
  obtain ⟨v', w', hr, h2, h3, h4, h5⟩ := run_append_own_at (P := P) w base t o.type e i z size bytes ht hi hz hsize hby hzs hsz v n xs hown ad m c news hl hnews h1 h63 hbytes hbase
  unfold Oper.wp execOp
  simp only [ho, resolve, invoke, builtin, Sem.run_bind, Sem.run_pure, Result.andThen_ok, List.map_toArray, List.map_cons, List.map_nil, hs, hx, hr]
  exact h v' w' h2 h3 h4 h5
end
end Go.Proofs.Ytflakmabciokbaa
/- Lists in memory, what is asked of an append of one, blocks that stay; guarded operations of a plan; no program in sight. -/
namespace Go.Proofs.Ytflakmabciokbaa
set_option linter.unusedVariables false
open Go.ChangeShapes Go.WideShapes Go.ChangeAt Go.RowKit

/-- The cells cs lie behind p, which points at len things: nothing is asked of p where there are none. -/
def Sl (w : World) (p : Option Addr) (len : Nat) (cs : List Value) : Prop :=
  0 < len → ∃ b off, b < w.heap.size ∧ p = some ⟨b, off, none⟩ ∧ ∀ j, j < cs.length → w.cell? ⟨b, off + j, none⟩ = cs[j]?
theorem Sl.below {w w' : World} {p : Option Addr} {len : Nat} {cs : List Value} (h : Sl w p len cs) (hb : Below w.heap.size w w') : Sl w' p len cs := fun h0 => by
  obtain ⟨b, off, h1, h2, h3⟩ := h h0
  exact ⟨b, off, Nat.lt_of_lt_of_le h1 hb.size, h2, fun j hj => (hb.cell (p := ⟨b, off + j, none⟩) h1).trans (h3 j hj)⟩
theorem Sl.empty (w : World) (p : Option Addr) (cs : List Value) : Sl w p 0 cs := fun h => absurd h (by omega)
/-- What is owned lies there. -/
theorem Sl.own {w : World} {base : Nat} {e : TypeId} {size : Nat} {v : Value} {n : Nat} {xs : List Value} (h : w.ownsRow base e size v n xs) : ∃ p cap, v = .slice p n cap ∧ Sl w p n xs := by
  obtain ⟨hl, ⟨rfl, rfl⟩ | ⟨g, cap, cur, rfl, hg, hh, h1, h2, h3, h4⟩⟩ := h
  · exact ⟨_, _, rfl, Sl.empty _ _ _⟩
  · have ho : w.ownsRow base e size (.slice (some ⟨g, 0, none⟩) n cap) n xs := ⟨hl, .inr ⟨g, cap, cur, rfl, hg, hh, h1, h2, h3, h4⟩⟩
    refine ⟨_, _, rfl, fun _ => ⟨g, 0, ?_, rfl, fun j hj => ?_⟩⟩
    · exact (Array.getElem?_eq_some_iff.1 hh).1
    · rw [Nat.zero_add]; exact ho.cellAt j (by omega)

theorem Blk.grown {w w' : World} {B : Nat} {cs : Array Value} {row : Option Nat} (h : Blk w B cs) (hg : w.grownBy w' row) (hne : row ≠ some B) : Blk w' B cs := by
  have e := hg.block B h.lt (fun e => hne e.symm)
  refine ⟨Nat.lt_of_lt_of_le h.lt hg.size, fun j => ?_, fun j => ?_⟩
  · rw [← h.c j]; unfold World.cell?; rw [e]
  · rw [← h.f j]; unfold World.frozen?; rw [e]
theorem wp_append_sl {P : Program} {o : Oper} {a : Act} {w : World} {K : Act → World → Prop} {Q : Exit → Act → World → Prop} (s x : Operand) (t : TypeId)
    (ho : o.op = .call { callee := .builtin .append, args := #[s, x], argTypes := #[t, t] })
    (base : Nat) (e : TypeId) (i : TypeInfo) (z : Value) (size bytes : Nat) (ht : P.underlying t = some (.slice e)) (hi : P.info? e = some i) (hz : i.zero = some z)
    (hsize : i.size = size) (hby : i.bytes = bytes) (hzs : z.cells.size = size) (hsz : 0 < size)
    (v : Value) (n : Nat) (xs : List Value) (hs : a.eval s = v) (hown : w.ownsRow base e size v n xs)
    (p : Option Addr) (m c : Nat) (news : List Value) (hx : a.eval x = .slice p m c) (hl : news.length = m * size) (hsl : Sl w p m news) (h1 : ∀ u ∈ news, u.oneCell' = true)
    (h63 : n + m ≤ maxLen) (hbytes : (n + m) * bytes ≤ 140737488355328) (hbase : base ≤ w.heap.size)
    (h : ∀ v' w', w'.ownsRow base e size v' (n + m) (xs ++ news) → w.grownBy w' v.ownBlock → (v'.ownBlock = v.ownBlock ∨ v'.ownBlock = some w.heap.size) → K (a.put o.dst v') w') : o.wp P a w K Q := by
  cases p with
  | none =>
    have h0 : m = 0 := by
      cases m with
      | zero => rfl
      | succ n => obtain ⟨_, _, _, h, _⟩ := hsl (by omega); cases h
    subst h0
    obtain rfl : news = [] := List.length_eq_zero_iff.1 (by omega)
    exact wp_append_nil s x t ho base e i size c ht hi v n xs hs hown hx (h v w (by simpa using hown) (World.grownBy.refl _ _) (.inl rfl))
  | some ad =>
    refine wp_append_own_at s x t ho base e i z size bytes ht hi hz hsize hby hzs hsz v n xs hs hown ad m c news hx hl ?_ h1 h63 hbytes hbase (fun v' w' g1 g2 _ g4 => h v' w' g1 g2 g4)
    intro j u hj
    have hjl := (List.getElem?_eq_some_iff.1 hj).1
    have hm : 0 < m := by
      rcases Nat.eq_zero_or_pos m with h0 | h0
      · subst h0; rw [Nat.zero_mul] at hl; omega
      · exact h0
    obtain ⟨b, off, _, he, hcell⟩ := hsl hm
    injection he with he
    subst he
    rw [Addr.add_lit]
    exact (hcell j hjl).trans hj
theorem wpList_append_sl {P : Program} {ops : Array Oper} {rest : List Oper} {o : Oper} {a : Act} {w : World} {Q : Exit → Act → World → Prop} (hgd : o.guard = none) (s x : Operand) (t : TypeId)
    (ho : o.op = .call { callee := .builtin .append, args := #[s, x], argTypes := #[t, t] })
    (base : Nat) (e : TypeId) (i : TypeInfo) (z : Value) (size bytes : Nat) (ht : P.underlying t = some (.slice e)) (hi : P.info? e = some i) (hz : i.zero = some z)
    (hsize : i.size = size) (hby : i.bytes = bytes) (hzs : z.cells.size = size) (hsz : 0 < size)
    (v : Value) (n : Nat) (xs : List Value) (hs : a.eval s = v) (hown : w.ownsRow base e size v n xs)
    (p : Option Addr) (m c : Nat) (news : List Value) (hx : a.eval x = .slice p m c) (hl : news.length = m * size) (hsl : Sl w p m news) (h1 : ∀ u ∈ news, u.oneCell' = true)
    (h63 : n + m ≤ maxLen) (hbytes : (n + m) * bytes ≤ 140737488355328) (hbase : base ≤ w.heap.size)
    (h : ∀ v' w', w'.ownsRow base e size v' (n + m) (xs ++ news) → w.grownBy w' v.ownBlock → (v'.ownBlock = v.ownBlock ∨ v'.ownBlock = some w.heap.size) → wpList P ops Q rest (a.put o.dst v') w') : wpList P ops Q (o :: rest) a w :=
  wpList_plain hgd fun K hK => wp_append_sl s x t ho base e i z size bytes ht hi hz hsize hby hzs hsz v n xs hs hown p m c news hx hl hsl h1 h63 hbytes hbase (fun v' w' g1 g2 g3 => hK _ _ (h v' w' g1 g2 g3))

theorem fresh_made {w : World} {e : TypeId} {size base : Nat} (h : base ≤ w.heap.size) : (w.alloc (.cells #[] e)).ownsRow base e size (.slice (some ⟨w.heap.size, 0, none⟩) 0 0) 0 [] :=
  World.ownsRow_made w #[] 0 h (Nat.zero_le _) (by simp)

theorem own_len {w : World} {base : Nat} {e : TypeId} {size : Nat} {p : Option Addr} {l c n : Nat} {xs : List Value} (h : w.ownsRow base e size (.slice p l c) n xs) : l = n := by
  obtain ⟨_, ⟨e, rfl⟩ | ⟨g, cap, cur, e, _⟩⟩ := h
  · injection e with _ e _
  · injection e with _ e _
section
variable {P : Program} {ops : Array Oper} {Q : Exit → Act → World → Prop} {S : World → Prop}
theorem plan_skip {K : Act → World → Prop} {i : Nat} {r : List (Nat × Bool)} {a : Act} {w : World} {o : Oper} (ho : ops[i]? = some o) (hw : Region.wanted o (yielded ops a.tmps) = false) (h : wpPlan P ops Q S K r (a.put o.dst undef) w) : wpPlan P ops Q S K ((i, true) :: r) a w :=
  ⟨o, undef, ho, .inr ⟨hw, rfl⟩, h⟩
theorem plan_skipc {K : Act → World → Prop} {i : Nat} {r : List (Nat × Bool)} {a : Act} {w : World} {o : Oper} (ho : ops[i]? = some o) (hw : Region.wanted o (yielded ops a.tmps) = false) (hS : S w) (h : wpPlan P ops Q S K r (a.put o.dst undef) w) : wpPlan P ops Q S K ((i, false) :: r) a w := by
  show wpOp P ops Q i _ a w
  unfold wpOp
  simp only [ho, hw, Bool.false_eq_true, if_false]
  exact ⟨hS, h⟩
end
section
variable {P : Program} {ops : Array Oper} {Q : Exit → Act → World → Prop} {S : World → Prop} {K : Act → World → Prop} {i : Nat} {p : PlanT} {a : Act} {w : World} {o : Oper}
theorem planT_skip (ho : ops[i]? = some o) (hw : Region.wanted o (yielded ops a.tmps) = false) (h : wpPlanT P ops Q S K p (a.put o.dst undef) w) : wpPlanT P ops Q S K (.read i p) a w :=
  ⟨o, undef, ho, .inr ⟨hw, rfl⟩, h⟩
theorem planT_skipc (ho : ops[i]? = some o) (hw : Region.wanted o (yielded ops a.tmps) = false) (hS : S w) (h : wpPlanT P ops Q S K p (a.put o.dst undef) w) : wpPlanT P ops Q S K (.one i p) a w := by
  show wpOp P ops Q i _ a w
  unfold wpOp
  simp only [ho, hw, Bool.false_eq_true, if_false]
  exact ⟨hS, h⟩
/-- An operation of a plan that comes alone, and yields a value. -/
theorem plan_make {r : List (Nat × Bool)} {v : Value} {w1 : World} (ho : ops[i]? = some o) (hw : Region.wanted o (yielded ops a.tmps) = true) (hr : (execOp a.eval o).run P w = .ok (.value v) w1) (hS : S w1) (h : wpPlan P ops Q S K r (a.put o.dst v) w1) : wpPlan P ops Q S K ((i, false) :: r) a w :=
  op_make ho hw hr ⟨hS, h⟩
/-- A store of a plan that comes alone. -/
theorem plan_store {r : List (Nat × Bool)} {w1 : World} (ho : ops[i]? = some o) (hw : Region.wanted o (yielded ops a.tmps) = true) (hr : (execOp a.eval o).run P w = .ok .skip w1) (hS : S w1) (h : wpPlan P ops Q S K r (a.put o.dst undef) w1) : wpPlan P ops Q S K ((i, false) :: r) a w := by
  show wpOp P ops Q i _ a w
  unfold wpOp
  simp only [ho, hw, if_true, Oper.wp, hr, Oper.upon]
  exact .inl ⟨hS, h⟩
end
end Go.Proofs.Ytflakmabciokbaa
/- Logs in plain numbers: when one is right, and what it becomes; no program in sight; no condition. -/
namespace Go.Proofs.Ytflakmabciokbaa.Ud
set_option linter.unusedVariables false
open Go.RowKit

/-- What was there, and a log. -/
structure Un where
  span : Int
  at_ : Int
  val : Int
structure Lg where
  mem : List Int
  span : Int
  list : List Un
def zU : Un := ⟨0, 0, 0⟩
def topS : Int := 1099511627776
def FitU (m : Nat) (s : Int) (u : Un) : Prop := (0 ≤ u.span ∧ u.span ≤ s) ∧ 0 ≤ u.at_ ∧ u.at_ < (m : Int)
instance (m : Nat) (s : Int) (u : Un) : Decidable (FitU m s u) := by unfold FitU; infer_instance
def ApartU (x y : Un) : Prop := ¬ (x.span = y.span ∧ x.at_ = y.at_)
instance (x y : Un) : Decidable (ApartU x y) := by unfold ApartU; infer_instance
/-- A log that is right. -/
structure Rt (L : Lg) : Prop where
  m1 : 1 ≤ L.mem.length
  m64 : L.mem.length ≤ 64
  s0 : 0 ≤ L.span
  st : L.span ≤ topS
  n256 : L.list.length ≤ 256
  fit : ∀ u ∈ L.list, FitU L.mem.length L.span u
  sort : L.list.Pairwise fun x y => x.span ≤ y.span
  ap : L.list.Pairwise ApartU
theorem rt_iff (L : Lg) : Rt L ↔ (1 ≤ L.mem.length ∧ L.mem.length ≤ 64 ∧ 0 ≤ L.span ∧ L.span ≤ topS ∧ L.list.length ≤ 256 ∧ (∀ u ∈ L.list, FitU L.mem.length L.span u) ∧ (L.list.Pairwise fun x y => x.span ≤ y.span) ∧ L.list.Pairwise ApartU) :=
  ⟨fun ⟨a, b, c, d, e, f, g, h⟩ => ⟨a, b, c, d, e, f, g, h⟩, fun ⟨a, b, c, d, e, f, g, h⟩ => ⟨a, b, c, d, e, f, g, h⟩⟩
instance (L : Lg) : Decidable (Rt L) := decidable_of_iff' _ (rt_iff L)
def rightL (L : Lg) : Bool := decide (Rt L)
theorem right_iff {L : Lg} : rightL L = true ↔ Rt L := by unfold rightL; exact decide_eq_true_iff
def hasW (L : Lg) (a : Int) : Bool := decide (0 ≤ a ∧ a < (L.mem.length : Int))
def hasU (l : List Un) (s a : Int) : Bool := l.any fun (u : Un) => decide (u.span = s ∧ u.at_ = a)
def okW (L : Lg) (a : Int) : Bool := rightL L && hasW L a
def fullW (L : Lg) (a : Int) : Bool := !hasU L.list L.span a && decide (L.list.length = 256)
def setM (m : List Int) (a : Int) (v : Int) : List Int := m.set a.toNat v
def putL (L : Lg) (a : Int) : List Un := if hasU L.list L.span a then L.list else L.list ++ [⟨L.span, a, L.mem.getD a.toNat 0⟩]
def writeL (L : Lg) (a v : Int) : Lg := if okW L a && !fullW L a then ⟨setM L.mem a v, L.span, putL L a⟩ else L
def writeE (L : Lg) (a : Int) : Int := if okW L a then (if fullW L a then 6 else 0) else 1
def okN (L : Lg) : Bool := rightL L && decide (L.span < topS)
def nextL (L : Lg) : Lg := if okN L then ⟨L.mem, L.span + 1, L.list⟩ else L
def nextE (L : Lg) : Int := if okN L then 0 else 1
def okB (L : Lg) (s : Int) : Bool := rightL L && decide (0 ≤ s ∧ s ≤ L.span)
/-- The last one first. -/
def undoM (l : List Un) (m : List Int) : List Int := l.foldr (fun u m => setM m u.at_ u.val) m
def fromL (l : List Un) (s : Int) : List Un := l.filter fun (u : Un) => decide (s ≤ u.span)
def belowL (l : List Un) (s : Int) : List Un := l.filter fun (u : Un) => decide (u.span < s)
def backL (L : Lg) (s : Int) : Lg := if okB L s then ⟨undoM (fromL L.list s) L.mem, s, belowL L.list s⟩ else L
def trimL (L : Lg) (s : Int) : Lg := if okB L s then ⟨L.mem, L.span, fromL L.list s⟩ else L
def backE (L : Lg) (s : Int) : Int := if okB L s then 0 else 1
def sizeB (n : Int) : Bool := decide (1 ≤ n ∧ n ≤ 64)
def newL (n : Int) : Lg := if sizeB n then ⟨List.replicate n.toNat 0, 0, []⟩ else ⟨[], 0, []⟩
def newE (n : Int) : Int := if sizeB n then 0 else 1
def roomL (L : Lg) : Int := if rightL L then 256 - (L.list.length : Int) else 0

theorem mem_getD {α : Type} (l : List α) (d : α) (k : Nat) (hk : k < l.length) : l.getD k d ∈ l := by
  rw [List.getD_eq_getElem?_getD, List.getElem?_eq_getElem hk]; exact List.getElem_mem hk
theorem get_getD {α : Type} (l : List α) (d : α) (j : Nat) (h : j < l.length) : l[j] = l.getD j d := by rw [List.getD_eq_getElem?_getD, List.getElem?_eq_getElem h]; rfl
theorem take_getD {α : Type} (l : List α) (d : α) (k : Nat) (hk : k < l.length) : l.take (k + 1) = l.take k ++ [l.getD k d] := by
  rw [List.take_succ_eq_append_getElem hk, get_getD l d k hk]
theorem mem_idx {α : Type} (l : List α) (d x : α) (h : x ∈ l) : ∃ k, k < l.length ∧ x = l.getD k d := by
  obtain ⟨k, hk, rfl⟩ := List.getElem_of_mem h
  exact ⟨k, hk, get_getD l d k hk⟩

theorem len_setM (m : List Int) (a v : Int) : (setM m a v).length = m.length := by unfold setM; rw [List.length_set]
theorem len_undoM (l : List Un) (m : List Int) : (undoM l m).length = m.length := by
  induction l with
  | nil => rfl
  | cons u l ih => show (setM (undoM l m) u.at_ u.val).length = _; rw [len_setM, ih]
theorem undoM_cons (u : Un) (l : List Un) (m : List Int) : undoM (u :: l) m = setM (undoM l m) u.at_ u.val := rfl
theorem undoM_app (l k : List Un) (m : List Int) : undoM (l ++ k) m = undoM l (undoM k m) := by
  unfold undoM; rw [List.foldr_append]

/-- Of a list whose intervals rise: how many are below s. -/
def cutU (l : List Un) (s : Int) : Nat := (belowL l s).length
theorem cut_le (l : List Un) (s : Int) : cutU l s ≤ l.length := List.length_filter_le _ _
theorem cut_split {l : List Un} (h : l.Pairwise fun x y => x.span ≤ y.span) (s : Int) : belowL l s = l.take (cutU l s) ∧ fromL l s = l.drop (cutU l s) := by
  induction l with
  | nil => exact ⟨rfl, rfl⟩
  | cons u l ih =>
    rw [List.pairwise_cons] at h
    obtain ⟨h1, h2⟩ := ih h.2
    by_cases e : u.span < s
    · have e1 : belowL (u :: l) s = u :: belowL l s := by unfold belowL; rw [List.filter_cons_of_pos (by simpa using e)]
      have e2 : fromL (u :: l) s = fromL l s := by unfold fromL; rw [List.filter_cons_of_neg (by simpa using e)]
      have e3 : cutU (u :: l) s = cutU l s + 1 := by unfold cutU; rw [e1]; rfl
      rw [e1, e2, e3, List.take_succ_cons, List.drop_succ_cons]
      exact ⟨by rw [← h1], h2⟩
    · have e1 : belowL (u :: l) s = [] := by
        unfold belowL
        rw [List.filter_eq_nil_iff]
        intro y hy
        rcases List.mem_cons.1 hy with rfl | hy
        · simpa using e
        · have := h.1 y hy
          simp; omega
      have e2 : fromL (u :: l) s = u :: l := by
        unfold fromL
        rw [List.filter_eq_self]
        intro y hy
        rcases List.mem_cons.1 hy with rfl | hy
        · simp; omega
        · have := h.1 y hy
          simp; omega
      have e3 : cutU (u :: l) s = 0 := by unfold cutU; rw [e1]; rfl
      rw [e1, e2, e3]
      exact ⟨rfl, rfl⟩
/-- Where a list that rises stands below s. -/
theorem cut_lt {l : List Un} (h : l.Pairwise fun x y => x.span ≤ y.span) (s : Int) (k : Nat) (hk : k < l.length) : (l.getD k zU).span < s ↔ k < cutU l s := by
  obtain ⟨h1, h2⟩ := cut_split h s
  have hc := cut_le l s
  constructor
  · intro hs
    rcases Nat.lt_or_ge k (cutU l s) with h3 | h3
    · exact h3
    · have hm : l.getD k zU ∈ fromL l s := by
        rw [h2, ← get_getD l zU k hk]
        have : l[k] = (l.drop (cutU l s))[k - cutU l s]'(by rw [List.length_drop]; omega) := by
          rw [List.getElem_drop]; congr 1; omega
        rw [this]; exact List.getElem_mem _
      have := of_decide_eq_true (List.mem_filter.1 hm).2
      omega
  · intro h3
    have hm : l.getD k zU ∈ belowL l s := by
      rw [h1, ← get_getD l zU k hk]
      have : l[k] = (l.take (cutU l s))[k]'(by rw [List.length_take]; omega) := by rw [List.getElem_take]
      rw [this]; exact List.getElem_mem _
    simpa using (List.mem_filter.1 hm).2
end Go.Proofs.Ytflakmabciokbaa.Ud
/- Logs in plain numbers: what each call keeps; gone back to an interval the memory is as it was; no program in sight. -/
namespace Go.Proofs.Ytflakmabciokbaa.Ud
set_option linter.unusedVariables false

theorem setM_self (m : List Int) (k : Nat) (h : k < m.length) : m.set k (m.getD k 0) = m := by
  rw [← get_getD m 0 k h]; exact List.set_getElem_self h
theorem set_comm' (m : List Int) (a b : Nat) (x y : Int) (h : a ≠ b) : (m.set a x).set b y = (m.set b y).set a x := List.set_comm _ _ h
theorem set_twice (m : List Int) (a : Nat) (x y : Int) : (m.set a x).set a y = m.set a y := List.set_set _
/-- What is written at a place that is undone doesn't count. -/
theorem undo_set_at (l : List Un) (m : List Int) (a : Nat) (v x : Int) : (undoM l (m.set a v)).set a x = (undoM l m).set a x := by
  induction l generalizing x with
  | nil => exact set_twice m a v x
  | cons u l ih =>
    rw [undoM_cons, undoM_cons]
    unfold setM
    by_cases e : u.at_.toNat = a
    · rw [e, set_twice, set_twice, ih]
    · rw [set_comm' _ _ _ _ _ e, ih, set_comm' _ _ _ _ _ (fun h => e h.symm)]
theorem undo_set {l : List Un} {a : Nat} (h : ∃ u ∈ l, u.at_ = (a : Int)) (m : List Int) (v : Int) : undoM l (m.set a v) = undoM l m := by
  induction l with
  | nil => obtain ⟨u, hu, _⟩ := h; cases hu
  | cons u l ih =>
    rw [undoM_cons, undoM_cons]
    unfold setM
    by_cases e : u.at_ = (a : Int)
    · rw [e, Int.toNat_natCast, undo_set_at]
    · obtain ⟨y, hy, hya⟩ := h
      rcases List.mem_cons.1 hy with rfl | hy
      · exact absurd hya e
      · rw [ih ⟨y, hy, hya⟩]
theorem fromL_app (l k : List Un) (s : Int) : fromL (l ++ k) s = fromL l s ++ fromL k s := by unfold fromL; rw [List.filter_append]
theorem fromL_mem {l : List Un} {s : Int} {u : Un} : u ∈ fromL l s ↔ u ∈ l ∧ s ≤ u.span := by unfold fromL; rw [List.mem_filter, decide_eq_true_eq]
theorem belowL_mem {l : List Un} {s : Int} {u : Un} : u ∈ belowL l s ↔ u ∈ l ∧ u.span < s := by unfold belowL; rw [List.mem_filter, decide_eq_true_eq]
theorem from_split {l : List Un} (h : l.Pairwise fun x y => x.span ≤ y.span) {j t : Int} (hj : j ≤ t) : fromL l j = fromL (belowL l t) j ++ fromL l t := by
  obtain ⟨h1, h2⟩ := cut_split h t
  have e : l = belowL l t ++ fromL l t := by rw [h1, h2, List.take_append_drop]
  have e2 : fromL (fromL l t) j = fromL l t := by
    unfold fromL
    rw [List.filter_filter]
    refine List.filter_congr fun u _ => ?_
    by_cases h : t ≤ u.span
    · rw [decide_eq_true h, decide_eq_true (show j ≤ u.span by omega)]; rfl
    · rw [decide_eq_false h]; simp
  calc fromL l j = fromL (belowL l t ++ fromL l t) j := by rw [← e]
    _ = _ := by rw [fromL_app, e2]
theorem from_from {l : List Un} {j t : Int} (hj : t ≤ j) : fromL (fromL l t) j = fromL l j := by
  unfold fromL
  rw [List.filter_filter]
  refine List.filter_congr fun u _ => ?_
  by_cases h : j ≤ u.span
  · rw [decide_eq_true h, decide_eq_true (show t ≤ u.span by omega)]; rfl
  · rw [decide_eq_false h]; simp

theorem rt_write {L : Lg} (h : Rt L) {a : Nat} (ha : a < L.mem.length) (hl : L.list.length < 256) (v : Int) : writeL L a v = ⟨L.mem.set a v, L.span, putL L a⟩ ∧ writeE L a = 0 ∧ Rt (writeL L a v) := by
  have hok : okW L (a : Int) = true := by unfold okW hasW; rw [right_iff.2 h, decide_eq_true (show 0 ≤ (a : Int) ∧ (a : Int) < (L.mem.length : Int) by omega)]; rfl
  have hfu : fullW L (a : Int) = false := by unfold fullW; rw [decide_eq_false (show ¬ L.list.length = 256 by omega)]; simp
  have hw : writeL L a v = ⟨L.mem.set a v, L.span, putL L a⟩ := by unfold writeL; rw [hok, hfu]; unfold setM; rw [Int.toNat_natCast]; rfl
  refine ⟨hw, by unfold writeE; rw [hok, hfu]; rfl, ?_⟩
  rw [hw]
  unfold putL
  by_cases e : hasU L.list L.span a = true
  · rw [if_pos e]
    exact ⟨by simpa using h.m1, by simpa using h.m64, h.s0, h.st, h.n256, by simpa using h.fit, h.sort, h.ap⟩
  · rw [if_neg e]
    refine ⟨by simpa using h.m1, by simpa using h.m64, h.s0, h.st, by simp; omega, fun u hu => ?_, ?_, ?_⟩
    · rw [List.length_set]
      rcases List.mem_append.1 hu with hu | hu
      · exact h.fit u hu
      · rw [List.mem_singleton] at hu
        subst hu
        have := h.s0
        exact ⟨⟨by show 0 ≤ L.span; omega, Int.le_refl _⟩, by show (0 : Int) ≤ (a : Int); omega, by show (a : Int) < _; omega⟩
    · refine List.pairwise_append.2 ⟨h.sort, List.pairwise_singleton _ _, fun x hx y hy => ?_⟩
      rw [List.mem_singleton] at hy
      subst hy
      exact (h.fit x hx).1.2
    · refine List.pairwise_append.2 ⟨h.ap, List.pairwise_singleton _ _, fun x hx y hy => ?_⟩
      rw [List.mem_singleton] at hy
      subst hy
      intro hc
      exact e (List.any_eq_true.2 ⟨x, hx, decide_eq_true hc⟩)
theorem rt_next {L : Lg} (h : Rt L) (hs : L.span < topS) : nextL L = ⟨L.mem, L.span + 1, L.list⟩ ∧ nextE L = 0 ∧ Rt (nextL L) := by
  have hok : okN L = true := by unfold okN; rw [right_iff.2 h, decide_eq_true hs]; rfl
  have hw : nextL L = ⟨L.mem, L.span + 1, L.list⟩ := by unfold nextL; rw [hok]; rfl
  refine ⟨hw, by unfold nextE; rw [hok]; rfl, ?_⟩
  rw [hw]
  have h0 := h.s0
  refine ⟨h.m1, h.m64, by show 0 ≤ L.span + 1; omega, by show L.span + 1 ≤ topS; omega, h.n256, fun u hu => ?_, h.sort, h.ap⟩
  have := h.fit u hu
  unfold FitU at this ⊢
  dsimp only
  omega
theorem rt_ok {L : Lg} (h : Rt L) {t : Int} (h0 : 0 ≤ t) (h1 : t ≤ L.span) : okB L t = true := by unfold okB; rw [right_iff.2 h, decide_eq_true ⟨h0, h1⟩]; rfl
theorem rt_back {L : Lg} (h : Rt L) {t : Int} (h0 : 0 ≤ t) (h1 : t ≤ L.span) : backL L t = ⟨undoM (fromL L.list t) L.mem, t, belowL L.list t⟩ ∧ backE L t = 0 ∧ Rt (backL L t) := by
  have hok := rt_ok h h0 h1
  have hw : backL L t = ⟨undoM (fromL L.list t) L.mem, t, belowL L.list t⟩ := by unfold backL; rw [hok]; rfl
  refine ⟨hw, by unfold backE; rw [hok]; rfl, ?_⟩
  rw [hw]
  have h2 := h.st
  refine ⟨by show 1 ≤ (undoM _ _).length; rw [len_undoM]; exact h.m1, by show (undoM _ _).length ≤ 64; rw [len_undoM]; exact h.m64, h0, by show t ≤ topS; omega, Nat.le_trans (List.length_filter_le _ _) h.n256, fun u hu => ?_, h.sort.filter _, h.ap.filter _⟩
  obtain ⟨hu1, hu2⟩ := belowL_mem.1 hu
  have := h.fit u hu1
  unfold FitU at this ⊢
  dsimp only
  rw [len_undoM]
  omega
theorem rt_trim {L : Lg} (h : Rt L) {t : Int} (h0 : 0 ≤ t) (h1 : t ≤ L.span) : trimL L t = ⟨L.mem, L.span, fromL L.list t⟩ ∧ Rt (trimL L t) := by
  have hok := rt_ok h h0 h1
  have hw : trimL L t = ⟨L.mem, L.span, fromL L.list t⟩ := by unfold trimL; rw [hok]; rfl
  refine ⟨hw, ?_⟩
  rw [hw]
  exact ⟨h.m1, h.m64, h.s0, h.st, Nat.le_trans (List.length_filter_le _ _) h.n256, fun u hu => h.fit u (fromL_mem.1 hu).1, h.sort.filter _, h.ap.filter _⟩
theorem rt_new {n : Nat} (h1 : 1 ≤ n) (h2 : n ≤ 64) : newL n = ⟨List.replicate n 0, 0, []⟩ ∧ newE n = 0 ∧ Rt ⟨List.replicate n 0, 0, []⟩ := by
  have hok : sizeB (n : Int) = true := decide_eq_true (by omega)
  refine ⟨by unfold newL; rw [hok]; rfl, by unfold newE; rw [hok]; rfl, ⟨by simpa using h1, by simpa using h2, Int.le_refl _, (show (0 : Int) ≤ topS from by decide), by simp, fun u hu => (by cases hu), .nil, .nil⟩⟩

/-- What holds behind k things that were done: gone back to any interval that may be gone back to, the memory is what it was. -/
structure Inv (n : Nat) (L : Lg) (f sp : Nat) (Ws : List (List Int)) (k : Nat) : Prop where
  rt : Rt L
  ml : L.mem.length = n
  sp_ : L.span = (sp : Int)
  spk : sp ≤ k
  fsp : f ≤ sp
  lk : L.list.length ≤ k
  wl : sp + 1 ≤ Ws.length
  was : ∀ j, f ≤ j → j ≤ sp → undoM (fromL L.list (j : Int)) L.mem = Ws.getD j []
theorem Inv.new {n : Nat} (h1 : 1 ≤ n) (h2 : n ≤ 64) : Inv n ⟨List.replicate n 0, 0, []⟩ 0 0 [List.replicate n 0] 0 :=
  ⟨(rt_new h1 h2).2.2, by simp, rfl, Nat.le_refl _, Nat.le_refl _, Nat.le_refl _, by simp, fun j _ hj => by
    have : j = 0 := by omega
    subst this; rfl⟩
theorem Inv.write {n : Nat} {L : Lg} {f sp : Nat} {Ws : List (List Int)} {k : Nat} (h : Inv n L f sp Ws k) (hk : k < 100) {a : Nat} (ha : a < n) (v : Int) :
    writeE L a = 0 ∧ (writeL L a v).mem.getD a 0 = v ∧ Inv n (writeL L a v) f sp Ws (k + 1) := by
  have hlk := h.lk
  have hspk := h.spk
  obtain ⟨hw, he, hr⟩ := rt_write h.rt (a := a) (by rw [h.ml]; exact ha) (by omega) v
  refine ⟨he, ?_, ?_⟩
  · rw [hw]
    show (L.mem.set a v).getD a 0 = v
    rw [← get_getD (L.mem.set a v) 0 a (by rw [List.length_set, h.ml]; exact ha)]
    simp
  · have hput : putL L a = L.list ∧ (∃ u ∈ L.list, u.at_ = (a : Int) ∧ u.span = L.span) ∨ putL L a = L.list ++ [⟨L.span, a, L.mem.getD a 0⟩] := by
      unfold putL
      by_cases e : hasU L.list L.span a = true
      · rw [if_pos e]
        obtain ⟨u, hu, hc⟩ := List.any_eq_true.1 e
        have hc := of_decide_eq_true hc
        exact .inl ⟨rfl, u, hu, hc.2, hc.1⟩
      · rw [if_neg e, Int.toNat_natCast]; exact .inr rfl
    rw [hw] at hr ⊢
    refine ⟨hr, by show (L.mem.set a v).length = n; rw [List.length_set, h.ml], h.sp_, by omega, h.fsp, ?_, h.wl, fun j h1 h2 => ?_⟩
    · show (putL L a).length ≤ k + 1
      rcases hput with ⟨e, _⟩ | e
      · rw [e]; omega
      · rw [e, List.length_append]; simp; omega
    · show undoM (fromL (putL L a) (j : Int)) (L.mem.set a v) = _
      rcases hput with ⟨e, u, hu, hua, hus⟩ | e
      · rw [e, undo_set ⟨u, fromL_mem.2 ⟨hu, by rw [hus, h.sp_]; omega⟩, hua⟩]
        exact h.was j h1 h2
      · rw [e, fromL_app]
        have e2 : fromL [(⟨L.span, a, L.mem.getD a 0⟩ : Un)] (j : Int) = [⟨L.span, a, L.mem.getD a 0⟩] := by
          unfold fromL
          rw [List.filter_cons_of_pos (by
            have := h.sp_
            simp; omega)]
          rfl
        rw [e2, undoM_app, undoM_cons]
        show undoM _ (setM (L.mem.set a v) (a : Int) (L.mem.getD a 0)) = _
        unfold setM
        rw [Int.toNat_natCast, set_twice, setM_self _ _ (by rw [h.ml]; exact ha)]
        exact h.was j h1 h2
theorem Inv.next {n : Nat} {L : Lg} {f sp : Nat} {Ws : List (List Int)} {k : Nat} (h : Inv n L f sp Ws k) (hk : k < 100) :
    nextE L = 0 ∧ nextL L = ⟨L.mem, ((sp + 1 : Nat) : Int), L.list⟩ ∧ Inv n (nextL L) f (sp + 1) (Ws.take (sp + 1) ++ [L.mem]) (k + 1) := by
  have hlk := h.lk
  have hspk := h.spk
  have hwl := h.wl
  have hsp := h.sp_
  obtain ⟨hw, he, hr⟩ := rt_next h.rt (by unfold topS; omega)
  have hfs := h.fsp
  have hw2 : nextL L = ⟨L.mem, ((sp + 1 : Nat) : Int), L.list⟩ := by rw [hw, hsp]; congr 1
  refine ⟨he, hw2, ?_⟩
  rw [hw2] at hr ⊢
  refine ⟨hr, h.ml, rfl, by omega, by omega, by show L.list.length ≤ k + 1; omega, by simp; omega, fun j h1 h2 => ?_⟩
  show undoM (fromL L.list (j : Int)) L.mem = _
  by_cases e : j = sp + 1
  · subst e
    have e2 : fromL L.list ((sp + 1 : Nat) : Int) = [] := by
      unfold fromL
      rw [List.filter_eq_nil_iff]
      intro u hu
      have := (h.rt.fit u hu).1.2
      simp; omega
    rw [e2, List.getD_eq_getElem?_getD, List.getElem?_append_right (by rw [List.length_take]; omega), List.length_take, show sp + 1 - min (sp + 1) Ws.length = 0 by omega]
    rfl
  · rw [h.was j h1 (by omega), List.getD_eq_getElem?_getD, List.getD_eq_getElem?_getD, List.getElem?_append_left (by rw [List.length_take]; omega), List.getElem?_take_of_lt (by omega)]
theorem Inv.back {n : Nat} {L : Lg} {f sp : Nat} {Ws : List (List Int)} {k : Nat} (h : Inv n L f sp Ws k) {t : Nat} (h1 : f ≤ t) (h2 : t ≤ sp) :
    backE L t = 0 ∧ (backL L t).span = (t : Int) ∧ (backL L t).mem = Ws.getD t [] ∧ Inv n (backL L t) f t Ws (k + 1) := by
  have hsp := h.sp_
  have hlk := h.lk
  have hwl := h.wl
  have hspk := h.spk
  obtain ⟨hw, he, hr⟩ := rt_back h.rt (t := (t : Int)) (by omega) (by omega)
  rw [hw] at hr ⊢
  refine ⟨he, rfl, h.was t h1 h2, hr, by show (undoM _ _).length = n; rw [len_undoM, h.ml], rfl, by omega, h1, ?_, by omega, fun j h3 h4 => ?_⟩
  · show (belowL L.list (t : Int)).length ≤ k + 1
    have : (belowL L.list (t : Int)).length ≤ L.list.length := List.length_filter_le _ _
    omega
  · show undoM (fromL (belowL L.list (t : Int)) (j : Int)) (undoM (fromL L.list (t : Int)) L.mem) = _
    rw [← undoM_app, ← from_split h.rt.sort (by omega)]
    exact h.was j h3 (by omega)
theorem Inv.trim {n : Nat} {L : Lg} {f sp : Nat} {Ws : List (List Int)} {k : Nat} (h : Inv n L f sp Ws k) {t : Nat} (h1 : f ≤ t) (h2 : t ≤ sp) :
    backE L t = 0 ∧ (trimL L t).mem = L.mem ∧ roomL L ≤ roomL (trimL L t) ∧ Inv n (trimL L t) t sp Ws (k + 1) := by
  have hsp := h.sp_
  have hlk := h.lk
  have hspk := h.spk
  obtain ⟨hw, hr⟩ := rt_trim h.rt (t := (t : Int)) (by omega) (by omega)
  have he := (rt_back h.rt (t := (t : Int)) (by omega) (by omega)).2.1
  have hle : (fromL L.list (t : Int)).length ≤ L.list.length := List.length_filter_le _ _
  refine ⟨he, by rw [hw], ?_, ?_⟩
  · unfold roomL
    rw [right_iff.2 h.rt, right_iff.2 hr, hw]
    show 256 - (L.list.length : Int) ≤ 256 - ((fromL L.list (t : Int)).length : Int)
    omega
  · rw [hw] at hr ⊢
    refine ⟨hr, h.ml, h.sp_, by omega, h2, by show (fromL L.list (t : Int)).length ≤ k + 1; omega, h.wl, fun j h3 h4 => ?_⟩
    show undoM (fromL (fromL L.list (t : Int)) (j : Int)) L.mem = _
    rw [from_from (by omega)]
    exact h.was j (by omega) h4
end Go.Proofs.Ytflakmabciokbaa.Ud
/- Logs in memory, as they read, and in which blocks they don't lie; no condition but that they read. -/
namespace Go.Proofs.Ytflakmabciokbaa.Ud
set_option linter.unusedVariables false
open Go.ChangeShapes Go.WideShapes Go.ChangeAt Go.RowKit

theorem own_base {w : World} {b b' : Nat} {e : TypeId} {size : Nat} {v : Value} {n : Nat} {xs : List Value} (h : w.ownsRow b e size v n xs) (hb : b' ≤ b) : w.ownsRow b' e size v n xs := by
  obtain ⟨h1, h2 | ⟨g, cap, cur, e1, e2, e3⟩⟩ := h
  · exact ⟨h1, .inl h2⟩
  · exact ⟨h1, .inr ⟨g, cap, cur, e1, by omega, e3⟩⟩
theorem own_below {w w' : World} {base : Nat} {e : TypeId} {size : Nat} {v : Value} {n : Nat} {xs : List Value} (h : w.ownsRow base e size v n xs) (hb : Below w.heap.size w w') : w'.ownsRow base e size v n xs := by
  obtain ⟨h1, h2 | ⟨g', c', cur, e1, e2, e3, e4⟩⟩ := h
  · exact ⟨h1, .inl h2⟩
  · exact ⟨h1, .inr ⟨g', c', cur, e1, e2, by rw [hb.block g' (Array.getElem?_eq_some_iff.1 e3).1]; exact e3, e4⟩⟩
theorem own_cap {w : World} {base : Nat} {e : TypeId} {size : Nat} {v : Value} {n : Nat} {xs : List Value} (h : w.ownsRow base e size v n xs) : ∃ p cap, v = .slice p n cap ∧ n ≤ cap := by
  obtain ⟨h1, ⟨h2, h3⟩ | ⟨g', c', cur, e1, e2, e3, e4, _⟩⟩ := h
  · subst h3; exact ⟨_, _, h2, Nat.le_refl _⟩
  · exact ⟨_, _, e1, e4⟩
theorem own_go {w : World} {base : Nat} {e : TypeId} {size : Nat} {p : Option Addr} {n c : Nat} {xs : List Value} (h : w.ownsRow base e size (.slice p n c) n xs) (h0 : 0 < n) : ∃ g, p = some ⟨g, 0, none⟩ ∧ n ≤ c ∧ c ≤ maxLen ∧ base ≤ g ∧ g < w.heap.size := by
  obtain ⟨h1, ⟨_, h2⟩ | ⟨g, cap, cur, e1, e2, e3, e4, e5, _⟩⟩ := h
  · omega
  · injection e1 with e1 e6 e7
    subst e7
    exact ⟨g, e1, e4, e5, e2, (Array.getElem?_eq_some_iff.1 e3).1⟩
theorem own_off {w : World} {base : Nat} {e : TypeId} {size : Nat} {v : Value} {n : Nat} {xs : List Value} (h : w.ownsRow base e size v n xs) {R : Nat} (hR : ∀ g, v.ownBlock = some g → g ≠ R) (j : Nat) (u : Value) : (w.setCell ⟨R, j, none⟩ u).ownsRow base e size v n xs := by
  refine h.kept (row := some R) ⟨rfl, rfl, rfl, by simp, fun k _ hk => heap_setCell_other w ⟨R, j, none⟩ k u (fun e => hk (by simp [e]))⟩ ?_
  cases hv : v.ownBlock with
  | none => exact .inl rfl
  | some b => exact .inr (fun e2 => by injection e2 with e2; exact hR b hv e2)
theorem info26 : (Try.prog.info? 29).map (fun i => (i.zero, i.size, i.bytes)) = some (some (.int .u32 0), 1, 4) := by kernel_rfl
theorem info51 : (Try.prog.info? 66).map (fun i => (i.zero, i.size, i.bytes)) = some (some (.agg #[.int .i64 0, .int .i64 0, .int .u32 0]), 3, 24) := by kernel_rfl

def wdC (l : List Int) : List Value := l.map (Value.int .u32)
theorem wdC_len (l : List Int) : (wdC l).length = l.length := List.length_map _
theorem wdC_one (l : List Int) : ∀ u ∈ wdC l, u.oneCell' = true := by
  intro u hu
  obtain ⟨x, _, rfl⟩ := List.mem_map.1 hu
  rfl
theorem wdC_at (l : List Int) (k : Nat) (hk : k < l.length) : (wdC l)[k]? = some (.int .u32 (l.getD k 0)) := by
  unfold wdC
  rw [List.getElem?_map, List.getD_eq_getElem?_getD, List.getElem?_eq_getElem hk]
  rfl
theorem wdC_set (l : List Int) (k : Nat) (v : Int) : (wdC l).set k (.int .u32 v) = wdC (l.set k v) := by unfold wdC; rw [List.map_set]
theorem wdC_rep (n : Nat) : List.replicate n (Value.int .u32 0) = wdC (List.replicate n 0) := by unfold wdC; rw [List.map_replicate]
def unR (u : Un) : Array Value := #[.int .i64 u.span, .int .i64 u.at_, .int .u32 u.val]
def unC (l : List Un) : List Value := l.flatMap fun u => (unR u).toList
theorem unC_nil : unC [] = [] := rfl
theorem unC_cons (u : Un) (l : List Un) : unC (u :: l) = (unR u).toList ++ unC l := rfl
theorem unC_app (l m : List Un) : unC (l ++ m) = unC l ++ unC m := by unfold unC; exact List.flatMap_append
theorem unC_len (l : List Un) : (unC l).length = l.length * 3 := by
  induction l with
  | nil => rfl
  | cons x l ih => rw [unC_cons, List.length_append, ih, List.length_cons]; show 3 + l.length * 3 = _; omega
theorem unC_oneCell (l : List Un) : ∀ u ∈ unC l, u.oneCell' = true := by
  intro u hu
  obtain ⟨x, _, hx⟩ := List.mem_flatMap.1 hu
  simp [unR] at hx
  rcases hx with rfl | rfl | rfl <;> rfl
theorem unC_at (l : List Un) (k j : Nat) (hk : k < l.length) (hj : j < 3) : (unC l)[k * 3 + j]? = (unR (l.getD k zU))[j]? := by
  induction l generalizing k with
  | nil => exact absurd hk (Nat.not_lt_zero _)
  | cons x l ih =>
    rw [unC_cons]
    cases k with
    | zero =>
      rw [List.getElem?_append_left (by show 0 * 3 + j < 3; omega), Nat.zero_mul, Nat.zero_add]
      simp
    | succ k =>
      rw [List.getElem?_append_right (by show 3 ≤ (k + 1) * 3 + j; omega)]
      have e : (k + 1) * 3 + j - ((unR x).toList).length = k * 3 + j := by show (k + 1) * 3 + j - 3 = _; omega
      rw [e, ih k (by simpa using hk), List.getD_cons_succ]
theorem unC_take (l : List Un) (k : Nat) : unC (l.take k) = (unC l).take (k * 3) := by
  induction l generalizing k with
  | nil => simp [unC_nil]
  | cons x l ih =>
    cases k with
    | zero => simp [unC_nil]
    | succ k => rw [List.take_succ_cons, unC_cons, unC_cons, ih, List.take_append, show (unR x).toList.length = 3 from rfl, show (k + 1) * 3 - 3 = k * 3 by omega, List.take_of_length_le (show (unR x).toList.length ≤ (k + 1) * 3 by show 3 ≤ _; omega)]
theorem unC_drop (l : List Un) (k : Nat) : unC (l.drop k) = (unC l).drop (k * 3) := by
  induction l generalizing k with
  | nil => simp [unC_nil]
  | cons x l ih =>
    cases k with
    | zero => simp
    | succ k => rw [List.drop_succ_cons, unC_cons, ih, List.drop_append, show (unR x).toList.length = 3 from rfl, show (k + 1) * 3 - 3 = k * 3 by omega, List.drop_of_length_le (show (unR x).toList.length ≤ (k + 1) * 3 by show 3 ≤ _; omega), List.nil_append]
end Go.Proofs.Ytflakmabciokbaa.Ud
namespace Go.Proofs.Ytflakmabciokbaa
open Go.ChangeShapes Go.WideShapes Go.ChangeAt Go.RowKit
theorem Sl.set {w : World} {p : Option Addr} {n : Nat} {cs : List Value} (h : Sl w p n cs) {R : Nat} (ho : 0 < n → ∀ a, p = some a → a.block ≠ R) (j : Nat) (u : Value) : Sl (w.setCell ⟨R, j, none⟩ u) p n cs := fun h0 => by
  obtain ⟨b, off, h1, h2, h3⟩ := h h0
  have hne := ho h0 _ h2
  exact ⟨b, off, by simpa using h1, h2, fun k hk => (World.cell?_setCell_other _ _ _ _ (by intro e; injection e with e1; exact hne e1.symm)).trans (h3 k hk)⟩
end Go.Proofs.Ytflakmabciokbaa
namespace Go.Proofs.Ytflakmabciokbaa.Ud
open Go.ChangeShapes Go.WideShapes Go.ChangeAt Go.RowKit
theorem blk_sl {w : World} {B n : Nat} {l : List Value} (h : Blk w B l.toArray) : Sl w (some ⟨B, 0, none⟩) n l := fun _ => ⟨B, 0, h.lt, rfl, fun j hj => by rw [Nat.zero_add, h.c j]; simp⟩
/-- What one of its list is in memory. -/
structure UnAt (w : World) (b off k : Nat) (u : Un) : Prop where
  lt : b < w.heap.size
  c0 : w.cell? ⟨b, off + k * 3, none⟩ = some (.int .i64 u.span)
  c1 : w.cell? ⟨b, off + k * 3 + 1, none⟩ = some (.int .i64 u.at_)
  c2 : w.cell? ⟨b, off + k * 3 + 2, none⟩ = some (.int .u32 u.val)
theorem UnAt.below {w w' : World} {b off k : Nat} {u : Un} (h : UnAt w b off k u) (hb : Below w.heap.size w w') : UnAt w' b off k u :=
  ⟨Nat.lt_of_lt_of_le h.lt hb.size, (hb.cell (p := ⟨b, _, none⟩) h.lt).trans h.c0, (hb.cell (p := ⟨b, _, none⟩) h.lt).trans h.c1, (hb.cell (p := ⟨b, _, none⟩) h.lt).trans h.c2⟩
theorem un_at {w : World} {q : Option Addr} {l : List Un} (h : Sl w q l.length (unC l)) (k : Nat) (hk : k < l.length) : ∃ b off, q = some ⟨b, off, none⟩ ∧ UnAt w b off k (l.getD k zU) := by
  obtain ⟨b, off, h1, h2, h3⟩ := h (by omega)
  have hc := fun j (hj : j < 3) => (h3 (k * 3 + j) (by rw [unC_len]; omega)).trans (unC_at l k j hk hj)
  exact ⟨b, off, h2, h1, hc 0 (by decide), hc 1 (by decide), hc 2 (by decide)⟩
theorem wd_at {w : World} {p : Option Addr} {l : List Int} (h : Sl w p l.length (wdC l)) (k : Nat) (hk : k < l.length) : ∃ b off, p = some ⟨b, off, none⟩ ∧ b < w.heap.size ∧ w.cell? ⟨b, off + k, none⟩ = some (.int .u32 (l.getD k 0)) := by
  obtain ⟨b, off, h1, h2, h3⟩ := h (by omega)
  exact ⟨b, off, h2, h1, (h3 k (by rw [wdC_len]; exact hk)).trans (wdC_at l k hk)⟩
/-- The block R isn't the one behind p. -/
def Off (R : Nat) (p : Option Addr) (n : Nat) : Prop := 0 < n → ∀ a, p = some a → a.block ≠ R
end Go.Proofs.Ytflakmabciokbaa.Ud
namespace Go.Proofs.Ytflakmabciokbaa
open Go.ChangeShapes Go.WideShapes Go.ChangeAt Go.RowKit
theorem Sl.off {w : World} {p : Option Addr} {n : Nat} {cs : List Value} (h : Sl w p n cs) {R : Nat} (hR : w.heap.size ≤ R) : Ud.Off R p n := fun h0 a e => by
  obtain ⟨b, off, h1, h2, _⟩ := h h0
  rw [h2] at e
  injection e with e
  subst e
  show b ≠ R
  omega
end Go.Proofs.Ytflakmabciokbaa
namespace Go.Proofs.Ytflakmabciokbaa.Ud
open Go.ChangeShapes Go.WideShapes Go.ChangeAt Go.RowKit
theorem own_offR {base : Nat} {w : World} {p : Option Addr} {n c : Nat} {xs : List Value} {e : TypeId} {z : Nat} (h : w.ownsRow base e z (.slice p n c) n xs) {R : Nat} (hR : R < base) : Off R p n := fun h0 a ha => by
  subst ha
  have := (h.lt a.block rfl).1
  omega
/-- A log, in memory. -/
structure Lc (w : World) (p : Option Addr) (m c : Nat) (q : Option Addr) (n d : Nat) (L : Lg) : Prop where
  ml : L.mem.length = m
  ll : L.list.length = n
  ms : Sl w p m (wdC L.mem)
  ls : Sl w q n (unC L.list)
  mc : m ≤ c
  nd : n ≤ d
  m10 : m ≤ 10000
  n10 : n ≤ 10000
theorem Lc.below {w w' : World} {p q : Option Addr} {m c n d : Nat} {L : Lg} (h : Lc w p m c q n d L) (hb : Below w.heap.size w w') : Lc w' p m c q n d L := ⟨h.ml, h.ll, h.ms.below hb, h.ls.below hb, h.mc, h.nd, h.m10, h.n10⟩
theorem Lc.set {w : World} {p q : Option Addr} {m c n d : Nat} {L : Lg} (h : Lc w p m c q n d L) {R : Nat} (hp : Off R p m) (hq : Off R q n) (j : Nat) (u : Value) : Lc (w.setCell ⟨R, j, none⟩ u) p m c q n d L := ⟨h.ml, h.ll, h.ms.set hp j u, h.ls.set hq j u, h.mc, h.nd, h.m10, h.n10⟩
theorem Lc.unAt {w : World} {p q : Option Addr} {m c n d : Nat} {L : Lg} (h : Lc w p m c q n d L) (k : Nat) (hk : k < n) : ∃ b off, q = some ⟨b, off, none⟩ ∧ UnAt w b off k (L.list.getD k zU) := un_at (by rw [h.ll]; exact h.ls) k (by rw [h.ll]; exact hk)
theorem Lc.wdAt {w : World} {p q : Option Addr} {m c n d : Nat} {L : Lg} (h : Lc w p m c q n d L) (k : Nat) (hk : k < m) : ∃ b off, p = some ⟨b, off, none⟩ ∧ b < w.heap.size ∧ w.cell? ⟨b, off + k, none⟩ = some (.int .u32 (L.mem.getD k 0)) := wd_at (by rw [h.ml]; exact h.ms) k (by rw [h.ml]; exact hk)
/-- A log in memory of one's own: two lists that share no block. -/
structure OwnL (base : Nat) (w : World) (p : Option Addr) (m c : Nat) (q : Option Addr) (n d : Nat) (L : Lg) : Prop where
  mo : w.ownsRow base 29 1 (.slice p m c) m (wdC L.mem)
  lo : w.ownsRow base 66 3 (.slice q n d) n (unC L.list)
  sep : ∀ g, (Value.slice p m c).ownBlock = some g → (Value.slice q n d).ownBlock ≠ some g
  m10 : m ≤ 10000
  n10 : n ≤ 10000
theorem OwnL.below {base : Nat} {w w' : World} {p q : Option Addr} {m c n d : Nat} {L : Lg} (h : OwnL base w p m c q n d L) (hb : Below w.heap.size w w') : OwnL base w' p m c q n d L := ⟨own_below h.mo hb, own_below h.lo hb, h.sep, h.m10, h.n10⟩
theorem OwnL.mono {base base' : Nat} {w : World} {p q : Option Addr} {m c n d : Nat} {L : Lg} (h : OwnL base w p m c q n d L) (hb : base' ≤ base) : OwnL base' w p m c q n d L := ⟨own_base h.mo hb, own_base h.lo hb, h.sep, h.m10, h.n10⟩
theorem OwnL.ml {base : Nat} {w : World} {p q : Option Addr} {m c n d : Nat} {L : Lg} (h : OwnL base w p m c q n d L) : L.mem.length = m := by have := h.mo.1; rw [wdC_len, Nat.mul_one] at this; exact this
theorem OwnL.ll {base : Nat} {w : World} {p q : Option Addr} {m c n d : Nat} {L : Lg} (h : OwnL base w p m c q n d L) : L.list.length = n := by have := h.lo.1; rw [unC_len] at this; omega
theorem OwnL.lc {base : Nat} {w : World} {p q : Option Addr} {m c n d : Nat} {L : Lg} (h : OwnL base w p m c q n d L) : Lc w p m c q n d L := by
  obtain ⟨p', c', e, hs⟩ := Sl.own h.mo
  injection e with e1 e2 e3
  subst e1
  obtain ⟨p', c', e, hc⟩ := own_cap h.mo
  injection e with e1 e2 e3
  subst e3
  obtain ⟨p', c', e, ht⟩ := Sl.own h.lo
  injection e with e1 e2 e3
  subst e1
  obtain ⟨p', c', e, hd⟩ := own_cap h.lo
  injection e with e1 e2 e3
  subst e3
  exact ⟨h.ml, h.ll, hs, ht, hc, hd, h.m10, h.n10⟩
theorem OwnL.off {base : Nat} {w : World} {p q : Option Addr} {m c n d : Nat} {L : Lg} (h : OwnL base w p m c q n d L) {R : Nat} (hR : R < base) : Off R p m ∧ Off R q n := ⟨own_offR h.mo hR, own_offR h.lo hR⟩
theorem OwnL.setOff {base : Nat} {w : World} {p q : Option Addr} {m c n d : Nat} {L : Lg} (h : OwnL base w p m c q n d L) {R : Nat} (hR : R < base) (j : Nat) (u : Value) : OwnL base (w.setCell ⟨R, j, none⟩ u) p m c q n d L :=
  ⟨own_off h.mo (fun g e => by have := (h.mo.lt g e).1; omega) j u, own_off h.lo (fun g e => by have := (h.lo.lt g e).1; omega) j u, h.sep, h.m10, h.n10⟩
theorem OwnL.setOff3 {base : Nat} {w : World} {p q : Option Addr} {m c n d : Nat} {L : Lg} (h : OwnL base w p m c q n d L) {R : Nat} (hR : R < base) (u0 u1 u2 : Value) : OwnL base (((w.setCell ⟨R, 0, none⟩ u0).setCell ⟨R, 1, none⟩ u1).setCell ⟨R, 2, none⟩ u2) p m c q n d L :=
  ((h.setOff hR 0 u0).setOff hR 1 u1).setOff hR 2 u2
/-- A value that reads as a log, and lies in none of the blocks S. -/
def Lo (S : Nat → Prop) (w : World) (v : Value) (L : Lg) : Prop := ∃ p m c q n d, v = .agg #[.slice p m c, .int .i64 L.span, .slice q n d] ∧ Lc w p m c q n d L ∧ ∀ R, S R → Off R p m ∧ Off R q n
theorem Lo.below {S : Nat → Prop} {w w' : World} {v : Value} {L : Lg} (h : Lo S w v L) (hb : Below w.heap.size w w') : Lo S w' v L := by
  obtain ⟨p, m, c, q, n, d, e, h1, h2⟩ := h
  exact ⟨p, m, c, q, n, d, e, h1.below hb, h2⟩
theorem Lo.set {S : Nat → Prop} {w : World} {v : Value} {L : Lg} (h : Lo S w v L) {R : Nat} (hR : S R) (j : Nat) (u : Value) : Lo S (w.setCell ⟨R, j, none⟩ u) v L := by
  obtain ⟨p, m, c, q, n, d, e, h1, h2⟩ := h
  exact ⟨p, m, c, q, n, d, e, h1.set (h2 R hR).1 (h2 R hR).2 j u, h2⟩
theorem Lo.weak {S S' : Nat → Prop} {w : World} {v : Value} {L : Lg} (h : Lo S w v L) (hs : ∀ R, S' R → S R) : Lo S' w v L := by
  obtain ⟨p, m, c, q, n, d, e, h1, h2⟩ := h
  exact ⟨p, m, c, q, n, d, e, h1, fun R hR => h2 R (hs R hR)⟩
theorem Lo.later {S S' : Nat → Prop} {w : World} {v : Value} {L : Lg} (h : Lo S w v L) (hs : ∀ R, S' R → S R ∨ w.heap.size ≤ R) : Lo S' w v L := by
  obtain ⟨p, m, c, q, n, d, e, h1, h2⟩ := h
  exact ⟨p, m, c, q, n, d, e, h1, fun R hR => (hs R hR).elim (h2 R) fun h => ⟨h1.ms.off h, h1.ls.off h⟩⟩
theorem Lo.set3 {S : Nat → Prop} {w : World} {v : Value} {L : Lg} (h : Lo S w v L) {R : Nat} (hR : S R) (u0 u1 u2 : Value) : Lo S (((w.setCell ⟨R, 0, none⟩ u0).setCell ⟨R, 1, none⟩ u1).setCell ⟨R, 2, none⟩ u2) v L := ((h.set hR 0 u0).set hR 1 u1).set hR 2 u2
theorem OwnL.out {base : Nat} {w : World} {p q : Option Addr} {m c n d : Nat} {L : Lg} (h : OwnL base w p m c q n d L) {S : Nat → Prop} (hS : ∀ R, S R → R < base) : Lo S w (.agg #[.slice p m c, .int .i64 L.span, .slice q n d]) L :=
  ⟨p, m, c, q, n, d, rfl, h.lc, fun R hR => h.off (hS R hR)⟩
theorem set3_below {s R : Nat} {w0 w : World} (h : Below s w0 w) (hR : s ≤ R) (u0 u1 u2 : Value) : Below s w0 (((w.setCell ⟨R, 0, none⟩ u0).setCell ⟨R, 1, none⟩ u1).setCell ⟨R, 2, none⟩ u2) :=
  ((h.setCell (p := ⟨R, 0, none⟩) hR _).setCell (p := ⟨R, 1, none⟩) hR _).setCell (p := ⟨R, 2, none⟩) hR _
theorem set3_other {w : World} {B R : Nat} {cs : Array Value} (h : Blk w B cs) (hne : R ≠ B) (u0 u1 u2 : Value) : Blk (((w.setCell ⟨R, 0, none⟩ u0).setCell ⟨R, 1, none⟩ u1).setCell ⟨R, 2, none⟩ u2) B cs := ((h.other u0 hne).other u1 hne).other u2 hne
theorem set3_same {w : World} {R : Nat} {a0 a1 a2 : Value} (h : Blk w R #[a0, a1, a2]) (u0 u1 u2 : Value) : Blk (((w.setCell ⟨R, 0, none⟩ u0).setCell ⟨R, 1, none⟩ u1).setCell ⟨R, 2, none⟩ u2) R #[u0, u1, u2] := ((h.set (n := 0) u0 (by simp)).set (n := 1) u1 (by simp)).set (n := 2) u2 (by simp)
theorem drewN_below {B : Nat} {a w : World} (h : Below B a w) (n : Nat) : Below B a (w.drewN n) := ⟨h.os, h.tape, h.output, h.size, h.block⟩
/-- A log, and a number. -/
def OutL (S : Nat → Prop) (w w' : World) (e : Ending) (L : Lg) (X : Int) : Prop := ∃ v, e = .returned (.tuple #[v, .int .i64 X]) ∧ Lo S w' v L ∧ Below w.heap.size w w'
/-- A variable in block b that holds a log, which lies in none of the blocks S. -/
def Var (S : Nat → Prop) (w : World) (b : Nat) (L : Lg) : Prop := ∃ p m c q n d, Blk w b #[.slice p m c, .int .i64 L.span, .slice q n d] ∧ Lc w p m c q n d L ∧ ∀ R, S R → Off R p m ∧ Off R q n
theorem Var.below {S : Nat → Prop} {w w' : World} {b : Nat} {L : Lg} (h : Var S w b L) (hb : Below w.heap.size w w') : Var S w' b L := by
  obtain ⟨p, m, c, q, n, d, h1, h2, h3⟩ := h
  exact ⟨p, m, c, q, n, d, h1.below hb, h2.below hb, h3⟩
theorem Var.lt {S : Nat → Prop} {w : World} {b : Nat} {L : Lg} (h : Var S w b L) : b < w.heap.size := by
  obtain ⟨p, m, c, q, n, d, h1, _⟩ := h
  exact h1.lt
theorem Var.lo {S : Nat → Prop} {w : World} {b : Nat} {L : Lg} (h : Var S w b L) : ∃ p m c q n d, Blk w b #[.slice p m c, .int .i64 L.span, .slice q n d] ∧ Lo S w (.agg #[.slice p m c, .int .i64 L.span, .slice q n d]) L ∧ Lc w p m c q n d L := by
  obtain ⟨p, m, c, q, n, d, h1, h2, h3⟩ := h
  exact ⟨p, m, c, q, n, d, h1, ⟨p, m, c, q, n, d, rfl, h2, h3⟩, h2⟩
theorem Var.later {S S' : Nat → Prop} {w : World} {b : Nat} {L : Lg} (h : Var S w b L) (hs : ∀ R, S' R → S R ∨ w.heap.size ≤ R) : Var S' w b L := by
  obtain ⟨p, m, c, q, n, d, h1, h2, h3⟩ := h
  exact ⟨p, m, c, q, n, d, h1, h2, fun R hR => (hs R hR).elim (h3 R) fun h => ⟨h2.ms.off h, h2.ls.off h⟩⟩
theorem Var.set {S : Nat → Prop} {w : World} {b : Nat} {L : Lg} (h : Var S w b L) {R : Nat} (hR : S R) (hne : R ≠ b) (j : Nat) (u : Value) : Var S (w.setCell ⟨R, j, none⟩ u) b L := by
  obtain ⟨p, m, c, q, n, d, h1, h2, h3⟩ := h
  exact ⟨p, m, c, q, n, d, h1.other u hne, h2.set (h3 R hR).1 (h3 R hR).2 j u, h3⟩
theorem Var.set3 {S : Nat → Prop} {w : World} {b : Nat} {L : Lg} (h : Var S w b L) {R : Nat} (hR : S R) (hne : R ≠ b) (u0 u1 u2 : Value) : Var S (((w.setCell ⟨R, 0, none⟩ u0).setCell ⟨R, 1, none⟩ u1).setCell ⟨R, 2, none⟩ u2) b L :=
  ((h.set hR hne 0 u0).set hR hne 1 u1).set hR hne 2 u2
theorem Var.new {S : Nat → Prop} {w : World} {L : Lg} {u0 u1 u2 : Value} (h : Lo S w (.agg #[u0, u1, u2]) L) : Var S (w.alloc (.cells #[u0, u1, u2] 59)) w.heap.size L := by
  obtain ⟨p, m, c, q, n, d, e, h2, h3⟩ := h
  injection e with e
  simp at e
  obtain ⟨rfl, rfl, rfl⟩ := e
  exact ⟨p, m, c, q, n, d, Blk.new _ _ _, h2.below ((Below.refl _ _).alloc (Nat.le_refl _) _), h3⟩
theorem Var.newt {S : Nat → Prop} {w : World} {L : Lg} {u0 u1 u2 : Value} (t : TypeId) (h : Lo S w (.agg #[u0, u1, u2]) L) : Var S (w.alloc (.cells #[u0, u1, u2] t)) w.heap.size L := by
  obtain ⟨p, m, c, q, n, d, e, h2, h3⟩ := h
  injection e with e
  simp at e
  obtain ⟨rfl, rfl, rfl⟩ := e
  exact ⟨p, m, c, q, n, d, Blk.new _ _ _, h2.below ((Below.refl _ _).alloc (Nat.le_refl _) _), h3⟩
theorem Var.put {S : Nat → Prop} {w : World} {b : Nat} {L : Lg} {u0 u1 u2 a0 a1 a2 : Value} (hk : Blk w b #[a0, a1, a2]) (h : Lo S w (.agg #[u0, u1, u2]) L) (hS : S b) : Var S (((w.setCell ⟨b, 0, none⟩ u0).setCell ⟨b, 1, none⟩ u1).setCell ⟨b, 2, none⟩ u2) b L := by
  have h4 := h.set3 hS u0 u1 u2
  have hk4 := set3_same hk u0 u1 u2
  obtain ⟨p, m, c, q, n, d, e, h2, h3⟩ := h4
  injection e with e
  simp at e
  obtain ⟨rfl, rfl, rfl⟩ := e
  exact ⟨p, m, c, q, n, d, hk4, h2, h3⟩
end Go.Proofs.Ytflakmabciokbaa.Ud
/- What the program says of how many words, of a number up to another, of a word, of one of a list: contracts; no condition. -/
namespace Go.Proofs.Ytflakmabciokbaa.Ud
set_option linter.unusedVariables false
open Go.ChangeShapes Go.WideShapes Go.ChangeAt Go.RowKit

theorem size_eq (n : Int) : sizeB n = (decide (1 ≤ n) && decide (n ≤ 64)) := by
  unfold sizeB
  rw [Bool.eq_iff_iff]
  simp only [Bool.and_eq_true, decide_eq_true_eq]
set_option maxHeartbeats 1000000 in
theorem mayBe_any (n : Int) (w : World) : Calls Try.prog 69 #[.int .i64 n] w fun e w' => e = .returned (.bool (sizeB n)) ∧ w = w' := by
  have HM := Lib.hid (size_eq n)
  obtain ⟨r, hr⟩ : ∃ r, r = sizeB n := ⟨_, rfl⟩
  rw [← hr] at HM ⊢
  clear hr
  obtain ⟨b1, d1⟩ : ∃ b, decide (1 ≤ n) = b := ⟨_, rfl⟩
  obtain ⟨b2, d2⟩ : ∃ b, decide (n ≤ 64) = b := ⟨_, rfl⟩
  cases b1 <;> cases b2
  all_goals
    go_enter Try.func69, Try.ntmps69
    go_wp2_with fail
    go_ret
    exact ⟨by rw [HM.out, d1, d2]; rfl, rfl⟩
def upB (n m : Int) : Bool := decide (0 ≤ n) && decide (n ≤ m)
theorem up_iff {n m : Int} : upB n m = true ↔ 0 ≤ n ∧ n ≤ m := by unfold upB; simp only [Bool.and_eq_true, decide_eq_true_eq]
set_option maxHeartbeats 1000000 in
theorem upTo_any (n m : Int) (w : World) : Calls Try.prog 92 #[.int .i64 n, .int .i64 m] w fun e w' => e = .returned (.bool (upB n m)) ∧ w = w' := by
  have HM : Hid (upB n m = (decide (0 ≤ n) && decide (n ≤ m))) := Lib.hid rfl
  obtain ⟨r, hr⟩ : ∃ r, r = upB n m := ⟨_, rfl⟩
  rw [← hr] at HM ⊢
  clear hr
  obtain ⟨b1, d1⟩ : ∃ b, decide (0 ≤ n) = b := ⟨_, rfl⟩
  obtain ⟨b2, d2⟩ : ∃ b, decide (n ≤ m) = b := ⟨_, rfl⟩
  cases b1 <;> cases b2
  all_goals
    go_enter Try.func92, Try.ntmps92
    go_wp2_with fail
    go_ret
    exact ⟨by rw [HM.out, d1, d2]; rfl, rfl⟩
theorem hasW_eq (L : Lg) (a : Int) : hasW L a = upB a ((L.mem.length : Int) - 1) := by
  unfold hasW
  rw [Bool.eq_iff_iff, up_iff, decide_eq_true_eq]
  omega
set_option maxHeartbeats 1000000 in
theorem hasWord_at (p q : Option Addr) (m c n d : Nat) (s a : Int) (w : World) (hm : m ≤ 10000) : Calls Try.prog 72 #[.agg #[.slice p m c, .int .i64 s, .slice q n d], .int .i64 a] w fun e w' => e = .returned (.bool (upB a ((m : Int) - 1))) ∧ Below w.heap.size w w' := by
  have hw : IntKind.i64.wrap ((m : Int) - 1) = (m : Int) - 1 := by rw [IntKind.wrap_i64]; omega
  have hw2 : wrap64 ((m : Int) - 1) = (m : Int) - 1 := by unfold wrap64; omega
  go_enter Try.func72, Try.ntmps72
  go_wp2_with (go_at_call 92; refine (upTo_any a ((m : Int) - 1) _).mono ?_; rintro e w' ⟨rfl, rfl⟩)
  go_ret
  exact ⟨rfl, (Below.refl _ _).alloc (Nat.le_refl _) _⟩
theorem hasWord_any (S : Nat → Prop) (v : Value) (L : Lg) (a : Int) (w : World) (h : Lo S w v L) : Calls Try.prog 72 #[v, .int .i64 a] w fun e w' => e = .returned (.bool (hasW L a)) ∧ Below w.heap.size w w' := by
  obtain ⟨p, m, c, q, n, d, rfl, hc, -⟩ := h
  rw [hasW_eq, hc.ml]
  exact hasWord_at p q m c n d L.span a w hc.m10

theorem isNaN_any (n : Int) (w : World) : Calls Try.prog 109 #[.int .i64 n] w fun e w' => e = .returned (.bool false) ∧ w = w' := by
  have h : (n != n) = false := by simp
  go_enter Try.func109, Try.ntmps109
  go_wp2_with fail
  go_ret
  exact ⟨by first | rfl | simp, rfl⟩
def cmpI (a b : Int) : Int := if a < b then -1 else if b < a then 1 else 0
set_option maxHeartbeats 1000000 in
theorem compare_any (a b : Int) (w : World) : Calls Try.prog 105 #[.int .i64 a, .int .i64 b] w fun e w' => e = .returned (.int .i64 (cmpI a b)) ∧ w = w' := by
  have H1 : Hid (a < b → cmpI a b = -1) := Lib.hid (fun h => by unfold cmpI; rw [if_pos h])
  have H2 : Hid (b < a → cmpI a b = 1) := Lib.hid (fun h => by unfold cmpI; rw [if_neg (by omega), if_pos h])
  have H3 : Hid (¬ a < b → ¬ b < a → cmpI a b = 0) := Lib.hid (fun h h' => by unfold cmpI; rw [if_neg h, if_neg h'])
  obtain ⟨r, hr⟩ : ∃ r, r = cmpI a b := ⟨_, rfl⟩
  rw [← hr] at H1 H2 H3 ⊢
  clear hr
  by_cases h1 : a < b
  · have d1 : decide (a < b) = true := decide_eq_true h1
    have e := H1.out h1
    subst e
    clear H1 H2 H3 h1
    go_enter Try.func105, Try.ntmps105
    go_wp2_with (go_at_call 109; refine (isNaN_any _ _).mono ?_; rintro e w' ⟨rfl, rfl⟩)
    go_ret
    exact ⟨rfl, rfl⟩
  · have d1 : decide (a < b) = false := decide_eq_false h1
    by_cases h2 : b < a
    · have d2 : decide (b < a) = true := decide_eq_true h2
      have e := H2.out h2
      subst e
      clear H1 H2 H3 h1 h2
      go_enter Try.func105, Try.ntmps105
      go_wp2_with (go_at_call 109; refine (isNaN_any _ _).mono ?_; rintro e w' ⟨rfl, rfl⟩)
      go_ret
      exact ⟨rfl, rfl⟩
    · have d2 : decide (b < a) = false := decide_eq_false h2
      have e := H3.out h1 h2
      subst e
      clear H1 H2 H3 h1 h2
      go_enter Try.func105, Try.ntmps105
      go_wp2_with (go_at_call 109; refine (isNaN_any _ _).mono ?_; rintro e w' ⟨rfl, rfl⟩)
      go_ret
      exact ⟨rfl, rfl⟩
set_option maxHeartbeats 1000000 in
theorem bySpan_any (s a v t b u : Int) (w : World) : Calls Try.prog 95 #[.agg #[.int .i64 s, .int .i64 a, .int .u32 v], .agg #[.int .i64 t, .int .i64 b, .int .u32 u]] w fun e w' => e = .returned (.int .i64 (cmpI s t)) ∧ Below w.heap.size w w' := by
  go_enter Try.func95, Try.ntmps95
  go_wp2_with (go_at_call 105; refine (compare_any _ _ _).mono ?_; rintro e w' ⟨rfl, rfl⟩)
  go_ret
  exact ⟨rfl, ((Below.refl _ _).alloc (Nat.le_refl _) _).alloc (by simp) _⟩

/-- What the closure of fits asks: it answers whether one of the list is bad. -/
def fitB (m : Nat) (s : Int) (u : Un) : Bool := upB u.span s && upB u.at_ ((m : Int) - 1)
theorem fitB_iff {m : Nat} {s : Int} {u : Un} : fitB m s u = true ↔ FitU m s u := by
  unfold fitB FitU
  rw [Bool.and_eq_true, up_iff, up_iff]
  omega
set_option maxHeartbeats 2000000 in
theorem bad_any (p q : Option Addr) (m c n d : Nat) (s : Int) (B : Nat) (u : Un) (W : World) (hB : ∀ j, W.cell? ⟨B, j, none⟩ = (#[.slice p m c, .int .i64 s, .slice q n d] : Array Value)[j]?) (hlt : B < W.heap.size) (hm : m ≤ 10000) :
    Calls Try.prog 104 #[.agg #[.int .i64 u.span, .int .i64 u.at_, .int .u32 u.val], .pointer (some ⟨B, 0, none⟩)] W fun e w' => e = .returned (.bool (!fitB m s u)) ∧ Below W.heap.size W w' := by
  have hne : B ≠ W.heap.size := by omega
  obtain ⟨us, ua, uv⟩ := u
  have HF : Hid (fitB m s ⟨us, ua, uv⟩ = (upB us s && upB ua ((m : Int) - 1))) := Lib.hid rfl
  obtain ⟨r, hr⟩ : ∃ r, r = fitB m s ⟨us, ua, uv⟩ := ⟨_, rfl⟩
  rw [← hr] at HF ⊢
  dsimp only
  clear hr
  obtain ⟨b1, d1⟩ : ∃ b, upB us s = b := ⟨_, rfl⟩
  obtain ⟨b2, d2⟩ : ∃ b, upB ua ((m : Int) - 1) = b := ⟨_, rfl⟩
  rw [d1, d2] at HF
  have D1 := Lib.hid d1
  have D2 := Lib.hid d2
  clear d1 d2
  cases b1 with
  | false =>
    go_enter Try.func104, Try.ntmps104
    go_wp2_with (go_at_call 92; refine (upTo_any us s _).mono ?_; rw [D1.out]; rintro e w' ⟨rfl, rfl⟩)
    go_ret
    exact ⟨by rw [HF.out]; rfl, (Below.refl _ _).alloc (Nat.le_refl _) _⟩
  | true =>
    go_enter Try.func104, Try.ntmps104
    go_wp2_with (first | (go_at_call 92; refine (upTo_any us s _).mono ?_; rw [D1.out]; rintro e w' ⟨rfl, rfl⟩) | (go_at_call 72; refine (hasWord_at p q m c n d s ua _ hm).mono ?_; rw [D2.out]; rintro e w' ⟨rfl, hb⟩))
    go_ret
    exact ⟨by rw [HF.out]; rfl, ((Below.refl _ _).alloc (Nat.le_refl _) _).trans (hb.mono (by simp))⟩
end Go.Proofs.Ytflakmabciokbaa.Ud
/- Whether one of a list is bad, and whether a list's intervals rise, by the program; no condition but that the list reads. -/
namespace Go.Proofs.Ytflakmabciokbaa.Ud
set_option linter.unusedVariables false
open Go.ChangeShapes Go.WideShapes Go.ChangeAt Go.RowKit

def anyBad (m : Nat) (s : Int) (l : List Un) : Bool := l.any fun u => !fitB m s u
set_option maxHeartbeats 2000000 in
theorem index_any (p q : Option Addr) (m c n d x : Nat) (s : Int) (B : Nat) (l : List Un) (w : World) (hB : ∀ j, w.cell? ⟨B, j, none⟩ = (#[.slice p m c, .int .i64 s, .slice q n d] : Array Value)[j]?) (hlt : B < w.heap.size) (hm : m ≤ 10000)
    (hl : l.length = n) (hs : Sl w q n (unC l)) (hn : n ≤ 10000) :
    Calls Try.prog 86 #[.slice q n x, .func (.func 104) #[] #[.pointer (some ⟨B, 0, none⟩)]] w fun e w' => ∃ r : Int, e = .returned (.int .i64 r) ∧ decide (0 ≤ r) = anyBad m s l ∧ Below w.heap.size w w' := by
  have HYES : Hid (∀ k : Nat, k < n → fitB m s (l.getD k zU) = false → decide (0 ≤ (k : Int)) = anyBad m s l) := Lib.hid (fun k hk hg => by
    have : anyBad m s l = true := List.any_eq_true.2 ⟨_, mem_getD l zU k (by omega), by rw [hg]; rfl⟩
    rw [this]; exact decide_eq_true (by omega))
  have HNO : Hid ((∀ j, j < n → fitB m s (l.getD j zU) = true) → decide (0 ≤ (-1 : Int)) = anyBad m s l) := Lib.hid (fun hh => by
    have : anyBad m s l = false := List.any_eq_false.2 fun u hu => by
      obtain ⟨k, hk, rfl⟩ := mem_idx l zU u hu
      rw [hh k (by omega)]; decide
    rw [this]; rfl)
  have HAT : Hid (∀ k, k < n → ∃ b off, q = some ⟨b, off, none⟩ ∧ UnAt w b off k (l.getD k zU)) := Lib.hid (fun k hk => un_at (by rw [hl]; exact hs) k (by omega))
  have HBAD : Hid (∀ W, Below w.heap.size w W → ∀ u : Un, Calls Try.prog 104 #[.agg #[.int .i64 u.span, .int .i64 u.at_, .int .u32 u.val], .pointer (some ⟨B, 0, none⟩)] W fun e w' => e = .returned (.bool (!fitB m s u)) ∧ Below W.heap.size W w') :=
    Lib.hid (fun W hW u => bad_any p q m c n d s B u W (fun j => (hW.cell (p := ⟨B, j, none⟩) hlt).trans (hB j)) (Nat.lt_of_lt_of_le hlt hW.size) hm)
  obtain ⟨t, ht⟩ : ∃ t, t = anyBad m s l := ⟨_, rfl⟩
  rw [← ht] at HYES HNO ⊢
  clear ht hs hl hB hlt
  go_enter Try.func86, Try.ntmps86
  go_wp2_with fail
  go_loopw [8] (fun i wr => ∃ k : Nat, k ≤ n ∧ i = .int .i64 k ∧ Hid (∀ j, j < k → fitB m s (l.getD j zU) = true) ∧ Below w.heap.size w wr) (fun i _ => n - (intOf i).toNat)
  case atStart => exact ⟨0, Nat.zero_le _, rfl, Lib.hid (fun j hj => absurd hj (Nat.not_lt_zero _)), Below.refl _ _⟩
  case round =>
    obtain ⟨k, hk, rfl, HALL, hb⟩ := hrel
    have HB := Lib.hid hb
    clear hb
    by_cases hlt : k < n
    · obtain ⟨b, off, rfl, hat⟩ := HAT.out k hlt
      obtain ⟨l0, c0, c1, c2⟩ := hat.below HB.out
      have hkI : (k : Int) < (n : Int) := by omega
      have hcall := HBAD.out wr HB.out (l.getD k zU)
      obtain ⟨y, hy⟩ : ∃ y, y = l.getD k zU := ⟨_, rfl⟩
      rw [← hy] at c0 c1 c2 hcall
      have HX := Lib.hid hy
      obtain ⟨ys, ya, yv⟩ := y
      dsimp only at c0 c1 c2 hcall
      obtain ⟨g, hg⟩ : ∃ g, fitB m s ⟨ys, ya, yv⟩ = g := ⟨_, rfl⟩
      rw [hg] at hcall
      have HG := Lib.hid hg
      have HC := Lib.hid hcall
      clear hat hy hcall hg
      cases g with
      | false =>
        have e := HYES.out k hlt (by rw [← HX.out]; exact HG.out)
        go_wp2_with fail
        refine HC.out.mono ?_
        rintro e w' ⟨rfl, hb'⟩
        go_wp2_with fail
        go_ret
        exact ⟨_, rfl, e, HB.out.trans (hb'.mono HB.out.size)⟩
      | true =>
        go_wp2_with fail
        refine HC.out.mono ?_
        rintro e w' ⟨rfl, hb'⟩
        go_wp2_with fail
        go_roundw
        case rel => exact ⟨k + 1, by omega, by go_num, Lib.hid (fun j hj => by
          by_cases e : j = k
          · rw [e, ← HX.out]; exact HG.out
          · exact HALL.out j (by omega)), HB.out.trans (hb'.mono HB.out.size)⟩
        case measure => simp [intOf]; omega
    · have hkn : k = n := by omega
      subst hkn
      have e := HNO.out HALL.out
      go_wp2_with fail
      go_ret
      exact ⟨_, rfl, e, HB.out⟩
set_option maxHeartbeats 2000000 in
theorem fits_any (S : Nat → Prop) (v : Value) (L : Lg) (w : World) (h : Lo S w v L) : Calls Try.prog 93 #[v] w fun e w' => e = .returned (.bool (!anyBad L.mem.length L.span L.list)) ∧ Below w.heap.size w w' := by
  obtain ⟨p, m, c, q, n, d, rfl, hc, -⟩ := h
  have h10 := hc.m10
  have HI : Hid (∀ x, Calls Try.prog 86 #[.slice q n x, .func (.func 104) #[] #[.pointer (some ⟨w.heap.size, 0, none⟩)]] (w.alloc (.cells #[.slice p m c, .int .i64 L.span, .slice q n d] 59)) fun e w' => ∃ r : Int, e = .returned (.int .i64 r) ∧ decide (0 ≤ r) = anyBad m L.span L.list ∧ Below (w.alloc (.cells #[.slice p m c, .int .i64 L.span, .slice q n d] 59)).heap.size (w.alloc (.cells #[.slice p m c, .int .i64 L.span, .slice q n d] 59)) w') :=
    Lib.hid (fun x => index_any p q m c n d x L.span w.heap.size L.list _ (fun j => (Blk.new w _ _).c j) (by simp) hc.m10 hc.ll (hc.ls.below ((Below.refl _ _).alloc (Nat.le_refl _) _)) hc.n10)
  rw [hc.ml]
  obtain ⟨s, hs⟩ : ∃ s, s = L.span := ⟨_, rfl⟩
  obtain ⟨g, hg⟩ : ∃ g, g = anyBad m L.span L.list := ⟨_, rfl⟩
  rw [← hg] at HI ⊢
  rw [← hs] at HI ⊢
  clear hg hs hc
  have HCF : Hid (∀ x, Calls Try.prog 103 #[.slice q n x, .func (.func 104) #[] #[.pointer (some ⟨w.heap.size, 0, none⟩)]] (w.alloc (.cells #[.slice p m c, .int .i64 s, .slice q n d] 59)) fun e w' => e = .returned (.bool g) ∧ Below w.heap.size w w') := Lib.hid (by
    intro x
    obtain ⟨W, hW⟩ : ∃ W, W = w.alloc (.cells #[.slice p m c, .int .i64 s, .slice q n d] 59) := ⟨_, rfl⟩
    have HB0 : Hid (Below w.heap.size w W) := Lib.hid (by rw [hW]; exact (Below.refl _ _).alloc (Nat.le_refl _) _)
    rw [← hW] at HI ⊢
    clear hW
    go_enter Try.func103, Try.ntmps103
    go_wp2_with fail
    refine (HI.out x).mono ?_
    rintro e w' ⟨r, rfl, hr, hb⟩
    go_wp2_with fail
    go_ret
    exact ⟨rfl, HB0.out.trans (hb.mono HB0.out.size)⟩)
  clear HI
  go_enter Try.func93, Try.ntmps93
  go_wp2_with fail
  refine (HCF.out d).mono ?_
  rintro e w' ⟨rfl, hb⟩
  go_wp2_with fail
  go_ret
  exact ⟨rfl, hb⟩

end Go.Proofs.Ytflakmabciokbaa.Ud
/- Whether a list's intervals rise, by the program; no condition but that the list reads. -/
namespace Go.Proofs.Ytflakmabciokbaa.Ud
set_option linter.unusedVariables false
open Go.ChangeShapes Go.WideShapes Go.ChangeAt Go.RowKit

def sortB (l : List Un) : Bool := decide (l.Pairwise fun x y => x.span ≤ y.span)
theorem sort_no {l : List Un} {k : Nat} (hk : k + 1 < l.length) (h : (l.getD (k + 1) zU).span < (l.getD k zU).span) : sortB l = false := by
  unfold sortB
  refine decide_eq_false fun hp => ?_
  have := (List.pairwise_iff_getElem.1 hp) k (k + 1) (by omega) hk (by omega)
  rw [get_getD l zU, get_getD l zU] at this
  omega
theorem sort_yes {l : List Un} (h : ∀ k, k + 1 < l.length → ¬ (l.getD (k + 1) zU).span < (l.getD k zU).span) : sortB l = true := by
  unfold sortB
  refine decide_eq_true (List.pairwise_iff_getElem.2 fun i j hi hj hij => ?_)
  rw [get_getD l zU, get_getD l zU]
  have : ∀ t, i + 1 + t < l.length → (l.getD i zU).span ≤ (l.getD (i + 1 + t) zU).span := by
    intro t
    induction t with
    | zero => intro ht; have := h i ht; rw [Nat.add_zero]; omega
    | succ t ih =>
      intro ht
      have h1 := ih (by omega)
      have h2 := h (i + 1 + t) (by omega)
      rw [show i + 1 + (t + 1) = i + 1 + t + 1 by omega]
      omega
  have := this (j - i - 1) (by omega)
  rwa [show i + 1 + (j - i - 1) = j by omega] at this
theorem cmp_neg {a b : Int} : decide (cmpI a b < 0) = decide (a < b) := by
  unfold cmpI
  by_cases h : a < b
  · rw [if_pos h, decide_eq_true h]; rfl
  · rw [if_neg h, decide_eq_false h]
    by_cases h2 : b < a
    · rw [if_pos h2]; rfl
    · rw [if_neg h2]; rfl
def Six (V : World) (b off i j : Nat) (x y : Un) : Prop :=
  V.cell? ⟨b, off + i * 3, none⟩ = some (.int .i64 x.span) ∧ V.cell? ⟨b, off + i * 3 + 1, none⟩ = some (.int .i64 x.at_) ∧ V.cell? ⟨b, off + i * 3 + 2, none⟩ = some (.int .u32 x.val) ∧
  V.cell? ⟨b, off + j * 3, none⟩ = some (.int .i64 y.span) ∧ V.cell? ⟨b, off + j * 3 + 1, none⟩ = some (.int .i64 y.at_) ∧ V.cell? ⟨b, off + j * 3 + 2, none⟩ = some (.int .u32 y.val)
set_option maxHeartbeats 4000000 in
set_option maxRecDepth 100000 in
theorem sorted_any (q : Option Addr) (n x : Nat) (l : List Un) (w : World) (hl : l.length = n) (hs : Sl w q n (unC l)) (hn : n ≤ 10000) :
    Calls Try.prog 94 #[.slice q n x, .func (.func 95) #[] #[]] w fun e w' => e = .returned (.bool (sortB l)) ∧ Below w.heap.size w w' := by
  have HNO : Hid (∀ k, k + 1 < n → (l.getD (k + 1) zU).span < (l.getD k zU).span → sortB l = false) := Lib.hid (fun k hk hh => sort_no (by omega) hh)
  have HYES : Hid ((∀ k, k + 1 < n → ¬ (l.getD (k + 1) zU).span < (l.getD k zU).span) → sortB l = true) := Lib.hid (fun hh => sort_yes (fun k hk => hh k (by omega)))
  have HAT : Hid (∀ k, k < n → ∃ b off, q = some ⟨b, off, none⟩ ∧ UnAt w b off k (l.getD k zU)) := Lib.hid (fun k hk => un_at (by rw [hl]; exact hs) k (by omega))
  obtain ⟨r, hr⟩ : ∃ r, r = sortB l := ⟨_, rfl⟩
  rw [← hr] at HNO HYES ⊢
  clear hr hs hl
  have hw0 : wrap64 ((n : Int) - 1) = (n : Int) - 1 := by unfold wrap64; omega
  have hw1 : IntKind.i64.wrap ((n : Int) - 1) = (n : Int) - 1 := by rw [IntKind.wrap_i64]; omega
  go_enter Try.func94, Try.ntmps94
  go_wp2_with fail
  go_loopw [5] (fun s5 wr => ∃ iz : Int, s5 = .int .i64 iz ∧ (0 < iz → iz < n) ∧ (-1 ≤ iz) ∧ Hid (∀ k : Nat, iz ≤ k → k + 1 < n → ¬ (l.getD (k + 1) zU).span < (l.getD k zU).span) ∧ Below w.heap.size w wr) (fun i _ => (intOf i).toNat)
  case atStart => exact ⟨(n : Int) - 1, rfl, by omega, by omega, Lib.hid (fun k h1 h2 => by omega), Below.refl _ _⟩
  case round =>
    obtain ⟨iz, rfl, hi, hi0, HALL, hb⟩ := hrel
    have HB := Lib.hid hb
    clear hb hw0 hw1
    by_cases hlt : 0 < iz
    · obtain ⟨i, rfl⟩ := Int.eq_ofNat_of_zero_le (show 0 ≤ iz by omega)
      have hin : i < n := by omega
      obtain ⟨j, hj⟩ : ∃ j : Nat, j = i - 1 := ⟨_, rfl⟩
      have hij : i = j + 1 := by omega
      obtain ⟨b, off, rfl, hat⟩ := HAT.out i hin
      obtain ⟨b', off', e2, hat2⟩ := HAT.out j (by omega)
      injection e2 with e2
      injection e2 with e2 e3 _
      subst e2 e3
      have ha := hat.below HB.out
      have ha2 := hat2.below HB.out
      have HIJ : Hid (l.getD i zU = l.getD (j + 1) zU) := Lib.hid (by rw [hij])
      obtain ⟨y, hy⟩ : ∃ y, y = l.getD i zU := ⟨_, rfl⟩
      obtain ⟨z, hz⟩ : ∃ z, z = l.getD j zU := ⟨_, rfl⟩
      rw [← hy] at ha HIJ
      rw [← hz] at ha2
      have HZ := Lib.hid hz
      have HS : Hid (∀ V, Below wr.heap.size wr V → Six V b off i j y z) := Lib.hid (fun V hV => by
        have h1 := ha.below hV
        have h2 := ha2.below hV
        exact ⟨h1.c0, h1.c1, h1.c2, h2.c0, h2.c1, h2.c2⟩)
      obtain ⟨ys, ya, yv⟩ := y
      obtain ⟨zs, za, zv⟩ := z
      have hw0 : wrap64 ((i : Int) - 1) = (j : Int) := by unfold wrap64; omega
      have hw1 : IntKind.i64.wrap ((i : Int) - 1) = (j : Int) := by rw [IntKind.wrap_i64]; omega
      have hiI : (i : Int) < (n : Int) := by omega
      have hjI : (j : Int) < (n : Int) := by omega
      have HJ := Lib.hid hij
      clear hat hat2 ha ha2 hy hz hi hi0 hj hij
      go_upto_region 4 with fail
      refine region_plan (fun V : World => Six V b off i j ⟨ys, ya, yv⟩ ⟨zs, za, zv⟩) 11 [(0, true), (1, true), (2, true), (3, true), (4, true), (5, true), (6, true), (7, true), (8, true), (9, true), (10, false)] (by kernel_rfl) (by kernel_rfl) (HS.out _ (Below.refl _ _).drew) ?_
      iterate 10
        refine plan_read (v := ?_) rfl (by rfl) ?_ ?_
        rotate_left
        · intro w' hS
          unfold Six at hS
          go_simp
          try with_reducible rfl
        try simp only [Act.put, List.setIfInBounds_toArray, List.set_cons_zero, List.set_cons_succ, List.getElem_toArray, List.getElem_cons_zero, List.getElem_cons_succ]
      refine plan_call (F := 95) (args := ?_) rfl (by rfl) ?_ ?_
      rotate_left
      · go_simp
        rfl
      refine (bySpan_any ys ya yv zs za zv wr.drew).mono ?_
      rintro e w2 ⟨rfl, hb2⟩
      have HB2 : Hid (Below wr.heap.size wr w2) := Lib.hid ((Below.refl _ _).drew.trans hb2)
      clear hb2
      refine ⟨_, rfl, HS.out _ HB2.out, ?_⟩
      try simp only [Act.put, List.setIfInBounds_toArray, List.set_cons_zero, List.set_cons_succ, List.getElem_toArray, List.getElem_cons_zero, List.getElem_cons_succ]
      refine plan_nil ?_
      simp only [List.drop_succ_cons, List.drop_zero]
      have HBW : Hid (Below w.heap.size w w2) := Lib.hid (HB.out.trans (HB2.out.mono HB.out.size))
      by_cases hc : ys < zs
      · have dc : decide (cmpI ys zs < 0) = true := by rw [cmp_neg]; exact decide_eq_true hc
        have e := HNO.out j (by have := HJ.out; omega) (by rw [← HIJ.out, ← HZ.out]; exact hc)
        subst e
        clear hc
        go_wp2_with fail
        go_ret
        exact ⟨rfl, HBW.out⟩
      · have dc : decide (cmpI ys zs < 0) = false := by rw [cmp_neg]; exact decide_eq_false hc
        have HC := Lib.hid hc
        clear hc
        go_wp2_with fail
        go_roundw
        case rel => exact ⟨(j : Int), rfl, fun _ => by omega, by omega, Lib.hid (fun k h1 h2 => by
          by_cases e : k = j
          · rw [e, ← HIJ.out, ← HZ.out]; exact HC.out
          · exact HALL.out k (by have := HJ.out; omega) h2), HBW.out⟩
        case measure => have := HJ.out; simp [intOf]; omega
    · have e := HYES.out (fun k hk => by have := HALL.out k (by omega) hk; omega)
      subst e
      have d0 : decide (0 < iz) = false := decide_eq_false hlt
      go_wp2_with fail
      go_ret
      exact ⟨rfl, HB.out⟩
end Go.Proofs.Ytflakmabciokbaa.Ud
