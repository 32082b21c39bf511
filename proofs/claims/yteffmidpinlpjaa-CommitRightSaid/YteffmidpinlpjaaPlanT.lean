/- A region that draws its order, of which a plan with branches is given; and an append to a row of one's own of a list that is nil. No program in sight. -/
import Derived.Test.YteffmidpinlpjaaPlan
import Derived.Maps.AppendAt
namespace Go.Proofs.Yteffmidpinlpjaa
set_option linter.unusedVariables false

inductive PlanT where
  | stop
  | read (i : Nat) (p : PlanT)
  | one (i : Nat) (p : PlanT)
  | two (i j : Nat) (p q : PlanT)

section
variable {P : Program} {ops : Array Oper} {md : Region.Mode} {Q : Exit → Act → World → Prop} {S : World → Prop}

def planTB (md : Region.Mode) (ops : Array Oper) (g n : Nat) : Nat → PlanT → Array Bool → Bool
  | 0, .stop, listed => Region.seqB md ops g n listed
  | d + 1, .read i p, listed => (Region.ready md ops listed).contains i && Region.free md ops listed i && decide (i < n) && planTB md ops g n d p (listed.setIfInBounds i true)
  | d + 1, .one i p, listed => decide (Region.ready md ops listed = [i]) && decide (i < n) && planTB md ops g n d p (listed.setIfInBounds i true)
  | d + 1, .two i j p q, listed => decide (Region.ready md ops listed = [i, j]) && (decide (i < n) && decide (j < n)) && (planTB md ops g n d p (listed.setIfInBounds i true) && planTB md ops g n d q (listed.setIfInBounds j true))
  | _, _, _ => false
def planTOk (ops : Array Oper) (n : Nat) (plan : PlanT) : Bool :=
  Region.noSelect ops && decide (n < ops.size) && Region.sinkB .any ops n && Region.chainB .any ops n && planTB .any ops (ops.size - n) n n plan (Array.replicate ops.size false)

def wpPlanT (P : Program) (ops : Array Oper) (Q : Exit → Act → World → Prop) (S : World → Prop) (K : Act → World → Prop) : PlanT → Act → World → Prop
  | .stop, a, w => K a w
  | .read i p, a, w => ∃ o v, ops[i]? = some o ∧ YieldsIf P ops S o v a ∧ wpPlanT P ops Q S K p (a.put o.dst v) w
  | .one i p, a, w => wpOp P ops Q i (fun a' w' => S w' ∧ wpPlanT P ops Q S K p a' w') a w
  | .two i j p q, a, w => wpOp P ops Q i (fun a' w' => S w' ∧ wpPlanT P ops Q S K p a' w') a w ∧ wpOp P ops Q j (fun a' w' => S w' ∧ wpPlanT P ops Q S K q a' w') a w

theorem anyHL_planT {n g : Nat} {K : Act → World → Prop} (hsel : Region.noSelect ops = true) (hs : Region.sinkB md ops n = true) (hc : Region.chainB md ops n = true) (hn : n < ops.size) (hQ : ∀ d v c a w, Q (.panic c) (a.put d v) w → Q (.panic c) a w) :
    ∀ (d : Nat) (l : PlanT) (listed : Array Bool) (a : Act) (w : World), HeadInv md ops n listed → planTB md ops g n d l listed = true → S w → wpPlanT P ops Q S K l a w →
      anyHL P md ops Q S n (fun listed' a' w' => Region.seqB md ops g n listed' = true ∧ K a' w') d listed a w
  | 0, .stop, listed, a, w, _, hB, _, h => ⟨hB, h⟩
  | d + 1, .read i p, listed, a, w, inv, hB, hS, h => by
    simp only [planTB, Bool.and_eq_true, decide_eq_true_eq] at hB
    obtain ⟨⟨⟨hr, hf⟩, hin⟩, hB'⟩ := hB
    obtain ⟨o, v, ho, hy, hK⟩ := h
    have hr' : i ∈ Region.ready md ops listed := by simpa using hr
    exact anyHL_first ho (Region.noSelect_spec hsel) hs hc hn hin (fun c a w => hQ _ _ c a w) (fun listed' a' w' hL => seqB_ready hL.1) d listed a w inv (Region.free_spec ho hf) hr' hy hS
      (anyHL_planT hsel hs hc hn hQ d p _ _ w (inv.set hr' hin) hB' hS hK)
  | d + 1, .one i p, listed, a, w, inv, hB, hS, h => by
    simp only [planTB, Bool.and_eq_true, decide_eq_true_eq] at hB
    obtain ⟨⟨hr, hin⟩, hB'⟩ := hB
    have hr' : i ∈ Region.ready md ops listed := by rw [hr]; exact List.mem_singleton.2 rfl
    refine ⟨by rw [hr]; simp, fun j hj => ?_⟩
    rw [hr] at hj
    have hji : j = i := by simpa using hj
    subst hji
    exact ⟨hin, wpOp_mono (fun a' w' h' => ⟨h'.1, anyHL_planT hsel hs hc hn hQ d p _ a' w' (inv.set hr' hin) hB' h'.1 h'.2⟩) h⟩
  | d + 1, .two i j p q, listed, a, w, inv, hB, hS, h => by
    simp only [planTB, Bool.and_eq_true, decide_eq_true_eq] at hB
    obtain ⟨⟨hr, hin, hjn⟩, hB1, hB2⟩ := hB
    have hr1 : i ∈ Region.ready md ops listed := by rw [hr]; simp
    have hr2 : j ∈ Region.ready md ops listed := by rw [hr]; simp
    refine ⟨by rw [hr]; simp, fun k hk => ?_⟩
    rw [hr] at hk
    have hki : k = i ∨ k = j := by simpa using hk
    rcases hki with rfl | rfl
    · exact ⟨hin, wpOp_mono (fun a' w' h' => ⟨h'.1, anyHL_planT hsel hs hc hn hQ d p _ a' w' (inv.set hr1 hin) hB1 h'.1 h'.2⟩) h.1⟩
    · exact ⟨hjn, wpOp_mono (fun a' w' h' => ⟨h'.1, anyHL_planT hsel hs hc hn hQ d q _ a' w' (inv.set hr2 hjn) hB2 h'.1 h'.2⟩) h.2⟩
  | 0, .read _ _, _, _, _, _, hB, _, _ => by simp [planTB] at hB
  | 0, .one _ _, _, _, _, _, hB, _, _ => by simp [planTB] at hB
  | 0, .two _ _ _ _, _, _, _, _, hB, _, _ => by simp [planTB] at hB
  | _ + 1, .stop, _, _, _, _, hB, _, _ => by simp [planTB] at hB

/-- A region by its plan. -/
theorem region_planT {id : Nat} {a : Act} {w : World} {l : List Oper} (S : World → Prop) (n : Nat) (plan : PlanT) (hm : P.follows .mixedOrders = true) (hB : planTOk l.toArray n plan = true) (hS : S w.drew)
    (h : wpPlanT P l.toArray (NoPanic Q) S (fun a' w' => wpList P l.toArray Q (l.drop n) a' w') plan a w.drew) : (Code.region id l.toArray true).wp P Q a w := by
  simp only [planTOk, Bool.and_eq_true, decide_eq_true_eq] at hB
  obtain ⟨⟨⟨⟨hsel, hn⟩, hs⟩, hc⟩, hplan⟩ := hB
  have hn' : n < l.length := by simpa using hn
  have hdl : (l.drop n).length = l.toArray.size - n := by simp
  have inv0 : HeadInv .any l.toArray n (Array.replicate l.toArray.size false) :=
    ⟨by simp, fun j oj _ hl => (by rw [getD_replicate_false] at hl; cases hl), fun t _ ht => getD_in (by simpa using ht) (getD_replicate_false _ _)⟩
  have H := anyHL_planT (P := P) (Q := NoPanic Q) (S := S) hsel hs hc hn (fun _ _ _ _ _ h => h) n plan _ a w.drew inv0 hplan hS h
  refine wp_region_any hm ?_
  have := any_of_headH (Q := Q) (g := l.toArray.size - n) (fun listed a' w' hL => by
    have := wpAny_of_seq (md := .any) (Q' := Q) (l.drop n) n listed a' w' (fun j => by simp [List.getElem?_drop]) (by rw [hdl]; exact hL.1) hL.2
    rwa [hdl] at this) _ _ _ _ H
  rw [show n + (l.toArray.size - n) = l.toArray.size by omega] at this
  exact this

variable {K : Act → World → Prop} {i j : Nat} {p q : PlanT} {a : Act} {w : World} {o : Oper}
theorem planT_read {v : Value} (ho : ops[i]? = some o) (hw : Region.wanted o (yielded ops a.tmps) = true) (hy : ∀ w, S w → (execOp a.eval o).run P w = .ok (.value v) w) (h : wpPlanT P ops Q S K p (a.put o.dst v) w) : wpPlanT P ops Q S K (.read i p) a w :=
  ⟨o, v, ho, .inl ⟨hw, hy⟩, h⟩
theorem op_call {K : Act → World → Prop} {F : FuncId} {args : Array Value} (ho : ops[i]? = some o) (hw : Region.wanted o (yielded ops a.tmps) = true) (hr : (execOp a.eval o).run P w = .ok (.enter F args) w)
    (h : Calls P F args w fun e w' => ∃ u, e = .returned u ∧ K (a.put o.dst u) w') : wpOp P ops Q i K a w := by
  unfold wpOp
  simp only [ho, hw, if_true, Oper.wp, hr, Oper.upon]
  left
  refine Calls.mono h fun e w' he => ?_
  obtain ⟨u, rfl, hK⟩ := he
  exact hK
/-- An operation that makes something new and yields a value. -/
theorem op_make {K : Act → World → Prop} {v : Value} {w1 : World} (ho : ops[i]? = some o) (hw : Region.wanted o (yielded ops a.tmps) = true) (hr : (execOp a.eval o).run P w = .ok (.value v) w1) (h : K (a.put o.dst v) w1) : wpOp P ops Q i K a w := by
  unfold wpOp
  simp only [ho, hw, if_true, Oper.wp, hr, Oper.upon]
  exact .inl h
theorem op_wp {K : Act → World → Prop} (ho : ops[i]? = some o) (hw : Region.wanted o (yielded ops a.tmps) = true) (h : o.wp P a w K Q) : wpOp P ops Q i K a w := by
  unfold wpOp
  simp only [ho, hw, if_true]
  exact .inl h
theorem planT_one (h : wpOp P ops Q i (fun a' w' => S w' ∧ wpPlanT P ops Q S K p a' w') a w) : wpPlanT P ops Q S K (.one i p) a w := h
theorem planT_two (h1 : wpOp P ops Q i (fun a' w' => S w' ∧ wpPlanT P ops Q S K p a' w') a w) (h2 : wpOp P ops Q j (fun a' w' => S w' ∧ wpPlanT P ops Q S K q a' w') a w) : wpPlanT P ops Q S K (.two i j p q) a w := ⟨h1, h2⟩
theorem planT_stop (h : K a w) : wpPlanT P ops Q S K .stop a w := h
end

section
variable {P : Program} {w : World}
theorem run_append_nil (base : Nat) (t ty e : TypeId) (i : TypeInfo) (size c : Nat) (ht : P.underlying t = some (.slice e)) (hi : P.info? e = some i)
    (v : Value) (n : Nat) (xs : List Value) (hown : w.ownsRow base e size v n xs) :
    (Builtin.append_ #[t, t] ty #[v, .slice none 0 c]).run P w = .ok v w := by
  rcases hown.2 with ⟨rfl, rfl⟩ | ⟨g, cap, cur, rfl, _, _, hnc, _⟩
  · simp [Builtin.append_, run_underlying ht, sizeOf, typeInfo, hi, Builtin.lenOf, Builtin.firstCells]
  · simp [Builtin.append_, run_underlying ht, sizeOf, typeInfo, hi, Builtin.lenOf, Builtin.firstCells, hnc, storeCells]
theorem wp_append_nil {o : Oper} {a : Act} {K : Act → World → Prop} {Q : Exit → Act → World → Prop} (s x : Operand) (t : TypeId)
    (ho : o.op = .call { callee := .builtin .append, args := #[s, x], argTypes := #[t, t] })
    (base : Nat) (e : TypeId) (i : TypeInfo) (size c : Nat) (ht : P.underlying t = some (.slice e)) (hi : P.info? e = some i)
    (v : Value) (n : Nat) (xs : List Value) (hs : a.eval s = v) (hown : w.ownsRow base e size v n xs) (hx : a.eval x = .slice none 0 c)
    (h : K (a.put o.dst v) w) : o.wp P a w K Q := by
  have hrun := run_append_nil (P := P) (w := w) base t o.type e i size c ht hi v n xs hown
  unfold Oper.wp
  simp [execOp, ho, resolve, invoke, builtin, hs, hx, hrun, Result.andThen]
  exact h
theorem wpList_append_nil {ops : Array Oper} {rest : List Oper} {o : Oper} {a : Act} {Q : Exit → Act → World → Prop} (hgd : o.guard = none) (s x : Operand) (t : TypeId)
    (ho : o.op = .call { callee := .builtin .append, args := #[s, x], argTypes := #[t, t] })
    (base : Nat) (e : TypeId) (i : TypeInfo) (size c : Nat) (ht : P.underlying t = some (.slice e)) (hi : P.info? e = some i)
    (v : Value) (n : Nat) (xs : List Value) (hs : a.eval s = v) (hown : w.ownsRow base e size v n xs) (hx : a.eval x = .slice none 0 c)
    (h : wpList P ops Q rest (a.put o.dst v) w) : wpList P ops Q (o :: rest) a w :=
  wpList_plain hgd fun K hK => wp_append_nil s x t ho base e i size c ht hi v n xs hs hown hx (hK _ _ h)
theorem wp_append_own_at {o : Oper} {a : Act} {K : Act → World → Prop} {Q : Exit → Act → World → Prop} (s x : Operand) (t : TypeId)
    (ho : o.op = .call { callee := .builtin .append, args := #[s, x], argTypes := #[t, t] })
    (base : Nat) (e : TypeId) (i : TypeInfo) (z : Value) (size bytes : Nat) (ht : P.underlying t = some (.slice e)) (hi : P.info? e = some i) (hz : i.zero = some z)
    (hsize : i.size = size) (hby : i.bytes = bytes) (hzs : z.cells.size = size) (hsz : 0 < size)
    (v : Value) (n : Nat) (xs : List Value) (hs : a.eval s = v) (hown : w.ownsRow base e size v n xs)
    (ad : Addr) (m c : Nat) (news : List Value) (hx : a.eval x = .slice (some ad) m c) (hl : news.length = m * size) (hnews : ∀ j u, news[j]? = some u → w.cell? (ad.add j) = some u) (h1 : ∀ u ∈ news, u.oneCell' = true)
    (h63 : n + m ≤ maxLen) (hbytes : (n + m) * bytes ≤ 140737488355328) (hbase : base ≤ w.heap.size)
    (h : ∀ v' w', w'.ownsRow base e size v' (n + m) (xs ++ news) → w.grownBy w' v.ownBlock → (v' = .slice none 0 0 ↔ v = .slice none 0 0 ∧ m = 0) → (v'.ownBlock = v.ownBlock ∨ v'.ownBlock = some w.heap.size) → K (a.put o.dst v') w') : o.wp P a w K Q := by
  obtain ⟨v', w', hr, h2, h3, h4, h5⟩ := run_append_own_at (P := P) w base t o.type e i z size bytes ht hi hz hsize hby hzs hsz v n xs hown ad m c news hl hnews h1 h63 hbytes hbase
  unfold Oper.wp execOp
  simp only [ho, resolve, invoke, builtin, Sem.run_bind, Sem.run_pure, Result.andThen_ok, List.map_toArray, List.map_cons, List.map_nil, hs, hx, hr]
  exact h v' w' h2 h3 h4 h5
end
end Go.Proofs.Yteffmidpinlpjaa
