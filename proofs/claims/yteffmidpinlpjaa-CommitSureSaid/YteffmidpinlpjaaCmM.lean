/- CommitSure in plain numbers: what holds behind each thing that is done; what its walk holds of memory; no condition. -/
import Derived.Test.YteffmidpinlpjaaCmL
import Derived.Test.YteffmidpinlpjaaCmOpen
namespace Go.Proofs.Yteffmidpinlpjaa
set_option linter.unusedVariables false
set_option linter.unusedSimpArgs false
open Go.ChangeShapes Go.WideShapes Go.ChangeAt Go.RowKit

/-- A gate, of which all that was told (and not taken back) is H; the interval, and how far it is sure; at most i things were done. -/
structure Iv (G : Gt) (H : List Hd) (sp su i : Nat) : Prop where
  le : su ≤ sp
  si : sp ≤ i
  li : H.length ≤ i
  i60 : i ≤ 60
  up : H.Pairwise fun x y => x.span ≤ y.span
  bd : ∀ h ∈ H, 0 ≤ h.span ∧ h.span ≤ (sp : Int)
  out : G.out = (belowL H su).map Hd.td
  held : G.held = fromL H su
theorem Iv.zero : Iv ⟨[], []⟩ [] 0 0 0 := ⟨Nat.le_refl _, Nat.le_refl _, Nat.le_refl _, by omega, List.Pairwise.nil, fun h hh => (by cases hh), rfl, rfl⟩
theorem Iv.split {G : Gt} {H : List Hd} {sp su i : Nat} (h : Iv G H sp su i) (s : Int) : belowL H s ++ fromL H s = H := by
  obtain ⟨h1, h2⟩ := cut_split h.up s
  rw [h1, h2, List.take_append_drop]
theorem Iv.right {G : Gt} {H : List Hd} {sp su i : Nat} (h : Iv G H sp su i) : rightG G = true := by
  rw [right_iff]
  have := h.i60
  have := h.li
  have := h.si
  refine ⟨?_, fun x hx => ?_, ?_⟩
  · rw [h.held]; exact Nat.le_trans (List.length_filter_le _ _) (by omega)
  · rw [h.held] at hx
    have := h.bd x (List.mem_filter.1 hx).1
    omega
  · rw [h.held]; exact h.up.filter _
theorem Iv.all {G : Gt} {H : List Hd} {sp su i : Nat} (h : Iv G H sp su i) : allG G = H.map Hd.td := by
  unfold allG
  rw [h.out, h.held, ← List.map_append, h.split]
theorem Iv.ok {G : Gt} {H : List Hd} {sp su i s : Nat} (h : Iv G H sp su i) (hs : s ≤ 61) : okG G (s : Int) = true := ok_of h.right (by omega) (by omega)
theorem Iv.len {G : Gt} {H : List Hd} {sp su i : Nat} (h : Iv G H sp su i) : G.out.length ≤ 60 ∧ G.held.length ≤ 60 := by
  have := h.i60
  have := h.li
  refine ⟨?_, ?_⟩
  · rw [h.out, List.length_map]; exact Nat.le_trans (List.length_filter_le _ _) (by omega)
  · rw [h.held]; exact Nat.le_trans (List.length_filter_le _ _) (by omega)
theorem Iv.next {G : Gt} {H : List Hd} {sp su i : Nat} (h : Iv G H sp su i) (hi : i < 60) : Iv G H (sp + 1) su (i + 1) :=
  ⟨by have := h.le; omega, by have := h.si; omega, by have := h.li; omega, by omega, h.up, fun x hx => by have := h.bd x hx; omega, h.out, h.held⟩
theorem Iv.tell {G : Gt} {H : List Hd} {sp su i : Nat} (h : Iv G H sp su i) (hi : i < 60) (t : Td) : tellE G sp = 0 ∧ Iv (tellG G sp t) (H ++ [⟨t, sp⟩]) sp su (i + 1) ∧ ∃ e, (tellG G sp t).out = G.out ++ e := by
  have h1 : okG G (sp : Int) = true := h.ok (by have := h.si; omega)
  have h2 : lateB G.held (sp : Int) = false := by
    unfold lateB
    rcases Nat.eq_zero_or_pos G.held.length with h0 | h0
    · rw [h0]; rfl
    · have hm : lastH G.held ∈ G.held := mem_getD _ _ _ (by omega)
      have h3 : lastH G.held ∈ H := by rw [h.held] at hm ⊢; exact (List.mem_filter.1 hm).1
      have := (h.bd _ h3).2
      rw [decide_eq_false (show ¬ (sp : Int) < (lastH G.held).span by omega), Bool.and_false]
  have h4 : tellB G sp = true := by unfold tellB; rw [h1, h2]; rfl
  have h5 : ¬ G.held.length = 64 := by have := h.len.2; omega
  have e1 : tellG G sp t = ⟨G.held ++ [⟨t, sp⟩], G.out⟩ := by unfold tellG; rw [h4, if_pos rfl, if_neg h5]
  have hle := h.le
  refine ⟨by unfold tellE; rw [h4, if_pos rfl, if_neg h5], ?_, [], by rw [e1, List.append_nil]⟩
  rw [e1]
  refine ⟨hle, by have := h.si; omega, by rw [List.length_append]; have := h.li; simp; omega, by omega, ?_, fun x hx => ?_, ?_, ?_⟩
  · rw [List.pairwise_append]
    refine ⟨h.up, List.pairwise_singleton _ _, fun a ha b hb => ?_⟩
    rw [List.mem_singleton.1 hb]
    exact (h.bd a ha).2
  · rcases List.mem_append.1 hx with hx | hx
    · exact h.bd x hx
    · rw [List.mem_singleton.1 hx]; exact ⟨by show (0 : Int) ≤ sp; omega, Int.le_refl _⟩
  · show G.out = _
    unfold belowL
    rw [List.filter_append, List.filter_cons_of_neg (by simp; omega)]
    simp only [List.filter_nil, List.append_nil]
    exact h.out
  · show G.held ++ _ = _
    unfold fromL
    rw [List.filter_append, List.filter_cons_of_pos (by simp; omega)]
    rw [h.held]; rfl
theorem from_from (l : List Hd) {s t : Int} (h : s ≤ t) : fromL (fromL l s) t = fromL l t := by
  unfold fromL
  rw [List.filter_filter]
  congr 1
  funext x
  by_cases h2 : t ≤ x.span
  · simp [h2]; omega
  · simp [h2]
theorem below_below (l : List Hd) {s t : Int} (h : s ≤ t) : belowL (belowL l t) s = belowL l s := by
  unfold belowL
  rw [List.filter_filter]
  congr 1
  funext x
  by_cases h2 : x.span < s
  · simp [h2]; omega
  · simp [h2]
theorem below_from (l : List Hd) (s t : Int) : belowL (fromL l s) t = fromL (belowL l t) s := by
  unfold belowL fromL
  rw [List.filter_filter, List.filter_filter]
  congr 1
  funext x
  exact Bool.and_comm _ _
theorem below_cat {l : List Hd} (hu : l.Pairwise fun x y => x.span ≤ y.span) {s t : Int} (h : s ≤ t) : belowL l t = belowL l s ++ belowL (fromL l s) t := by
  obtain ⟨h1, h2⟩ := cut_split hu s
  have e3 : l = belowL l s ++ fromL l s := by rw [h1, h2, List.take_append_drop]
  have e4 : belowL (belowL l s) t = belowL l s := by
    unfold belowL
    rw [List.filter_filter]
    congr 1
    funext x
    by_cases h : x.span < s
    · simp [h]; omega
    · simp [h]
  have e5 : belowL l t = belowL (belowL l s) t ++ belowL (fromL l s) t := by
    conv => lhs; rw [e3]
    unfold belowL
    rw [List.filter_append]
  rw [e5, e4]
theorem Iv.sure {G : Gt} {H : List Hd} {sp su i s : Nat} (h : Iv G H sp su i) (hi : i < 60) (h1 : su ≤ s) (h2 : s ≤ sp) : okE G s = 0 ∧ Iv (sureG G s) H sp s (i + 1) ∧ ∃ e, (sureG G s).out = G.out ++ e := by
  have hok : okG G (s : Int) = true := h.ok (by have := h.si; have := h.i60; omega)
  have e1 := sure_ok hok
  refine ⟨okE_ok hok, ?_, (belowL G.held s).map Hd.td, by rw [e1]⟩
  rw [e1]
  refine ⟨h2, by have := h.si; omega, by have := h.li; omega, by omega, h.up, h.bd, ?_, ?_⟩
  · show G.out ++ _ = _
    rw [h.out, h.held, ← List.map_append, ← below_cat h.up (by omega)]
  · show fromL G.held s = _
    rw [h.held, from_from _ (by omega)]
theorem Iv.back {G : Gt} {H : List Hd} {sp su i s : Nat} (h : Iv G H sp su i) (hi : i < 60) (h1 : su ≤ s) (h2 : s ≤ sp) : okE G s = 0 ∧ Iv (backG G s) (belowL H s) s su (i + 1) ∧ ∃ e, (backG G s).out = G.out ++ e := by
  have hok : okG G (s : Int) = true := h.ok (by have := h.si; have := h.i60; omega)
  have e1 := back_ok hok
  refine ⟨okE_ok hok, ?_, [], by rw [e1, List.append_nil]⟩
  rw [e1]
  refine ⟨h1, by have := h.si; omega, ?_, by omega, h.up.filter _, fun x hx => ?_, ?_, ?_⟩
  · have := h.li
    exact Nat.le_trans (List.length_filter_le _ _) (by omega)
  · obtain ⟨hx1, hx2⟩ := List.mem_filter.1 hx
    have hx3 : x.span < (s : Int) := of_decide_eq_true hx2
    have := (h.bd x hx1).1
    exact ⟨this, by omega⟩
  · show G.out = _
    rw [h.out, below_below _ (by omega)]
  · show belowL G.held s = _
    rw [h.held, below_from]
/-- How many of the first k are of intervals that are sure. -/
theorem below_take (l : List Hd) (t : Int) (i : Nat) (hi : i < l.length) : (belowL (l.take (i + 1)) t).length = (belowL (l.take i) t).length + if (l.getD i zH).span < t then 1 else 0 := by
  rw [take_getD l zH i hi]
  unfold belowL
  rw [List.filter_append, List.length_append]
  split
  · rename_i h
    rw [List.filter_cons_of_pos (by simpa using h)]
    rfl
  · rename_i h
    rw [List.filter_cons_of_neg (by simpa using h)]
    rfl
/-- What is popped off the end: what is left of H is a beginning that still has all below s. -/
theorem pop_more {l : List Hd} {s : Int} {k : Nat} (hk : k < l.length) (h : ¬ (l.getD k zH).span < s) (hb : belowL (l.take (k + 1)) s = belowL l s) : belowL (l.take k) s = belowL l s := by
  rw [← hb, take_getD l zH k hk]
  unfold belowL
  rw [List.filter_append, List.filter_cons_of_neg (by simpa using h)]
  simp
theorem pop_done {l : List Hd} (hu : l.Pairwise fun x y => x.span ≤ y.span) {s : Int} {k : Nat} (hk : k ≤ l.length) (h : k = 0 ∨ (l.getD (k - 1) zH).span < s) (hb : belowL (l.take k) s = belowL l s) : l.take k = belowL l s := by
  rw [← hb]
  symm
  unfold belowL
  rw [List.filter_eq_self]
  intro x hx
  obtain ⟨j, hj, rfl⟩ := List.mem_iff_getElem.1 hx
  rw [List.length_take] at hj
  rw [List.getElem_take]
  rcases h with h | h
  · omega
  · have h2 : l[j].span ≤ (l[k - 1]'(by omega)).span := by
      rcases Nat.lt_or_ge j (k - 1) with h3 | h3
      · exact (List.pairwise_iff_getElem.1 hu) j (k - 1) (by omega) (by omega) h3
      · have : j = k - 1 := by omega
        subst this; exact Int.le_refl _
    rw [get_getD l zH (k - 1) (by omega)] at h2
    simp; omega

def spC (l : List Hd) : List Value := l.map fun h => Value.int .i64 h.span
theorem spC_len (l : List Hd) : (spC l).length = l.length := List.length_map _
theorem spC_app (l m : List Hd) : spC (l ++ m) = spC l ++ spC m := List.map_append
theorem spC_take (l : List Hd) (k : Nat) : spC (l.take k) = (spC l).take k := by unfold spC; rw [List.map_take]
theorem spC_one (l : List Hd) : ∀ u ∈ spC l, u.oneCell' = true := by
  intro u hu
  obtain ⟨x, _, rfl⟩ := List.mem_map.1 hu
  rfl
theorem spC_at (l : List Hd) (k : Nat) (hk : k < l.length) : (spC l)[k]? = some (.int .i64 (l.getD k zH).span) := by
  unfold spC
  rw [List.getElem?_map, List.getD_eq_getElem?_getD, List.getElem?_eq_getElem hk]
  rfl
theorem infoI : (Try.prog.info? 3).map (fun i => (i.zero, i.size, i.bytes)) = some (some (.int .i64 0), 1, 8) := by kernel_rfl
/-- A beginning of a row of one's own. -/
theorem own_take {w : World} {base : Nat} {e : TypeId} {z : Nat} {p : Option Addr} {n c k : Nat} {xs : List Value} (h : w.ownsRow base e z (.slice p n c) n xs) (hk : k ≤ n) : w.ownsRow base e z (.slice p k c) k (xs.take (k * z)) := by
  have hkz : k * z ≤ n * z := Nat.mul_le_mul_right z hk
  obtain ⟨h1, ⟨h2, h3⟩ | ⟨g, cap, cur, e1, e2, e3, e4, e5, e6, e7⟩⟩ := h
  · subst h3
    have h0 : k = 0 := Nat.le_zero.1 hk
    subst h0
    injection h2 with h4 _ h5
    subst h4 h5
    refine ⟨by simp, .inl ⟨rfl, rfl⟩⟩
  · injection e1 with e1 _ e8
    subst e1 e8
    refine ⟨by rw [List.length_take, h1]; omega, .inr ⟨g, c, cur, rfl, e2, e3, by omega, e5, e6, ?_⟩⟩
    rw [← e7, List.take_take, Nat.min_eq_left hkz]
/-- What the walk holds of memory: the gate's variable, and the two lists of what was told. -/
structure Gs (w W : World) (bg : Nat) (p : Option Addr) (m c : Nat) (q : Option Addr) (n d : Nat) (G : Gt) (a : Option Addr) (x : Nat) (b : Option Addr) (y : Nat) (H : List Hd) (k : Nat) : Prop where
  hk : Blk W bg #[.slice p m c, .slice q n d]
  hc : Lc W p m c q n d G
  tk : k ≤ 60
  hl : H.length = k
  to_ : W.ownsRow (bg + 1) 28 2 (.slice a k x) k (tdC (H.map Hd.td))
  wo : W.ownsRow (bg + 1) 3 1 (.slice b k y) k (spC H)
  sep : ∀ g, (Value.slice a k x).ownBlock = some g → (Value.slice b k y).ownBlock ≠ some g
  ob : Off bg p m ∧ Off bg q n
  ot : ∀ g, (Value.slice a k x).ownBlock = some g → Off g p m ∧ Off g q n
  ow : ∀ g, (Value.slice b k y).ownBlock = some g → Off g p m ∧ Off g q n
  hb : Below w.heap.size w W
  ge : w.heap.size ≤ bg
theorem Gs.below {w W W' : World} {bg : Nat} {p : Option Addr} {m c : Nat} {q : Option Addr} {n d : Nat} {G : Gt} {a : Option Addr} {x : Nat} {b : Option Addr} {y : Nat} {H : List Hd} {k : Nat} (h : Gs w W bg p m c q n d G a x b y H k) (hb : Below W.heap.size W W') : Gs w W' bg p m c q n d G a x b y H k :=
  ⟨h.hk.below hb, h.hc.below hb, h.tk, h.hl, own_below h.to_ hb, own_below h.wo hb, h.sep, h.ob, h.ot, h.ow, h.hb.trans (hb.mono h.hb.size), h.ge⟩
theorem Gs.lo {w W : World} {bg : Nat} {p : Option Addr} {m c : Nat} {q : Option Addr} {n d : Nat} {G : Gt} {a : Option Addr} {x : Nat} {b : Option Addr} {y : Nat} {H : List Hd} {k : Nat} (h : Gs w W bg p m c q n d G a x b y H k) : Lo (fun _ => False) W (.agg #[.slice p m c, .slice q n d]) G := ⟨_, _, _, _, _, _, rfl, h.hc, fun R h => h.elim⟩
/-- A store of two cells in a block of another variable, made later than the gate's. -/
theorem Gs.set2 {w W : World} {bg : Nat} {p : Option Addr} {m c : Nat} {q : Option Addr} {n d : Nat} {G : Gt} {a : Option Addr} {x : Nat} {b : Option Addr} {y : Nat} {H : List Hd} {k : Nat} (h : Gs w W bg p m c q n d G a x b y H k) {R : Nat} (hR : bg < R) (h1 : Off R p m ∧ Off R q n) (h2 : (Value.slice a k x).ownBlock ≠ some R) (h3 : (Value.slice b k y).ownBlock ≠ some R) (u0 u1 : Value) : Gs w ((W.setCell ⟨R, 0, none⟩ u0).setCell ⟨R, 1, none⟩ u1) bg p m c q n d G a x b y H k :=
  ⟨set2_other h.hk (by omega) u0 u1, (h.hc.set h1.1 h1.2 0 u0).set h1.1 h1.2 1 u1, h.tk, h.hl, own_off (own_off h.to_ (fun g e e2 => h2 (by rw [e, e2])) 0 u0) (fun g e e2 => h2 (by rw [e, e2])) 1 u1,
    own_off (own_off h.wo (fun g e e2 => h3 (by rw [e, e2])) 0 u0) (fun g e e2 => h3 (by rw [e, e2])) 1 u1, h.sep, h.ob, h.ot, h.ow, set2_below h.hb (by have := h.ge; omega) u0 u1, h.ge⟩
/-- Another gate is stored in the variable. -/
theorem Gs.put {w W : World} {bg : Nat} {p : Option Addr} {m c : Nat} {q : Option Addr} {n d : Nat} {G : Gt} {a : Option Addr} {x : Nat} {b : Option Addr} {y : Nat} {H : List Hd} {k : Nat} (h : Gs w W bg p m c q n d G a x b y H k) {p' q' : Option Addr} {m' c' n' d' : Nat} {G' : Gt} (hc : Lc W p' m' c' q' n' d' G') (ob : Off bg p' m' ∧ Off bg q' n') (ot : ∀ g, (Value.slice a k x).ownBlock = some g → Off g p' m' ∧ Off g q' n') (ow : ∀ g, (Value.slice b k y).ownBlock = some g → Off g p' m' ∧ Off g q' n') :
    Gs w ((W.setCell ⟨bg, 0, none⟩ (.slice p' m' c')).setCell ⟨bg, 1, none⟩ (.slice q' n' d')) bg p' m' c' q' n' d' G' a x b y H k := by
  have h2 : ∀ g, (Value.slice a k x).ownBlock = some g → g ≠ bg := fun g e => by have := (h.to_.lt g e).1; omega
  have h3 : ∀ g, (Value.slice b k y).ownBlock = some g → g ≠ bg := fun g e => by have := (h.wo.lt g e).1; omega
  exact ⟨set2_same h.hk _ _, (hc.set ob.1 ob.2 0 _).set ob.1 ob.2 1 _, h.tk, h.hl, own_off (own_off h.to_ h2 0 _) h2 1 _, own_off (own_off h.wo h3 0 _) h3 1 _, h.sep, ob, ot, ow, set2_below h.hb h.ge _ _, h.ge⟩
/-- Something more was told: its list has grown. -/
theorem Gs.more {w W W1 : World} {bg : Nat} {p : Option Addr} {m c : Nat} {q : Option Addr} {n d : Nat} {G : Gt} {a : Option Addr} {x : Nat} {b : Option Addr} {y : Nat} {H : List Hd} {k : Nat} (h : Gs w W bg p m c q n d G a x b y H k) {u : Hd} {a' b' : Option Addr} {x' y' : Nat} {W2 W3 : World} (hk1 : k < 60)
    (o1 : W1.ownsRow (bg + 1) 28 2 (.slice a' (k + 1) x') (k + 1) (tdC ((H ++ [u]).map Hd.td))) (g1 : W.grownBy W1 (Value.slice a k x).ownBlock) (b1 : (Value.slice a' (k + 1) x').ownBlock = (Value.slice a k x).ownBlock ∨ (Value.slice a' (k + 1) x').ownBlock = some W.heap.size)
    (hb : Below W1.heap.size W1 W2)
    (o2 : W3.ownsRow (bg + 1) 3 1 (.slice b' (k + 1) y') (k + 1) (spC (H ++ [u]))) (g2 : W2.grownBy W3 (Value.slice b k y).ownBlock) (b2 : (Value.slice b' (k + 1) y').ownBlock = (Value.slice b k y).ownBlock ∨ (Value.slice b' (k + 1) y').ownBlock = some W2.heap.size) :
    Gs w W3 bg p m c q n d G a' x' b' y' (H ++ [u]) (k + 1) := by
  have hge := h.ge
  have hlt := h.hk.lt
  have t1 : ∀ g, (Value.slice a k x).ownBlock = some g → bg + 1 ≤ g ∧ g < W.heap.size := fun g e => h.to_.lt g e
  have t2 : ∀ g, (Value.slice b k y).ownBlock = some g → bg + 1 ≤ g ∧ g < W.heap.size := fun g e => h.wo.lt g e
  have hs1 : W.heap.size ≤ W1.heap.size := g1.size
  have hs2 : W1.heap.size ≤ W2.heap.size := hb.size
  have k1 : Blk W1 bg #[.slice p m c, .slice q n d] := h.hk.grown g1 (fun e => by have := (t1 _ e).1; omega)
  have k3 : Blk W3 bg #[.slice p m c, .slice q n d] := (k1.below hb).grown g2 (fun e => by have := (t2 _ e).1; omega)
  have c1 : Lc W1 p m c q n d G := ⟨h.hc.ml, h.hc.ll, h.hc.ms.grown g1 (fun R e => (h.ot R e).1), h.hc.ls.grown g1 (fun R e => (h.ot R e).2), h.hc.mc, h.hc.nd, h.hc.m10, h.hc.n10⟩
  have c2 := c1.below hb
  have c3 : Lc W3 p m c q n d G := ⟨c2.ml, c2.ll, c2.ms.grown g2 (fun R e => (h.ow R e).1), c2.ls.grown g2 (fun R e => (h.ow R e).2), c2.mc, c2.nd, c2.m10, c2.n10⟩
  have a1 : ∀ g, (Value.slice a' (k + 1) x').ownBlock = some g → (bg + 1 ≤ g ∧ g < W1.heap.size) := fun g e => o1.lt g e
  have n1 : ∀ g, (Value.slice a' (k + 1) x').ownBlock = some g → (Value.slice a k x).ownBlock = some g ∨ g = W.heap.size := fun g e => by
    rcases b1 with b1 | b1
    · exact .inl (by rw [← b1]; exact e)
    · rw [b1] at e; injection e with e; exact .inr e.symm
  have n2 : ∀ g, (Value.slice b' (k + 1) y').ownBlock = some g → (Value.slice b k y).ownBlock = some g ∨ g = W2.heap.size := fun g e => by
    rcases b2 with b2 | b2
    · exact .inl (by rw [← b2]; exact e)
    · rw [b2] at e; injection e with e; exact .inr e.symm
  have ot1 : ∀ g, (Value.slice a' (k + 1) x').ownBlock = some g → Off g p m ∧ Off g q n := fun g e => by
    rcases n1 g e with e | e
    · exact h.ot g e
    · exact ⟨h.hc.ms.off (by omega), h.hc.ls.off (by omega)⟩
  have o13 : W3.ownsRow (bg + 1) 28 2 (.slice a' (k + 1) x') (k + 1) (tdC ((H ++ [u]).map Hd.td)) := by
    refine (own_below o1 hb).kept g2 ?_
    cases hv : (Value.slice a' (k + 1) x').ownBlock with
    | none => exact .inl rfl
    | some g => exact .inr (fun e => by
        rcases n1 g hv with e1 | e1
        · exact h.sep g e1 e.symm
        · have := (t2 g e.symm).2; omega)
  refine ⟨k3, c3, hk1, by rw [List.length_append, h.hl]; rfl, o13, o2, fun g e e2 => ?_, h.ob, ot1, fun g e => ?_, ?_, hge⟩
  · rcases n2 g e2 with e3 | e3
    · rcases n1 g e with e1 | e1
      · exact h.sep g e1 e3
      · have := (t2 g e3).2; omega
    · have := (a1 g e).2; omega
  · rcases n2 g e with e | e
    · exact h.ow g e
    · exact ⟨c2.ms.off (by omega), c2.ls.off (by omega)⟩
  · have hb1 : Below w.heap.size w W1 := h.hb.grown g1 h.hb.size (fun g e => by have := (t1 g e).1; omega)
    have hb2 : Below w.heap.size w W2 := hb1.trans (hb.mono hb1.size)
    exact hb2.grown g2 hb2.size (fun g e => by have := (t2 g e).1; omega)
theorem own_blk (a : Option Addr) (j k x : Nat) : (Value.slice a j x).ownBlock = (Value.slice a k x).ownBlock := by cases a <;> rfl
/-- The last ones are gone. -/
theorem Gs.pop {w W : World} {bg : Nat} {p : Option Addr} {m c : Nat} {q : Option Addr} {n d : Nat} {G : Gt} {a : Option Addr} {x : Nat} {b : Option Addr} {y : Nat} {H : List Hd} {k : Nat} (h : Gs w W bg p m c q n d G a x b y H k) {j : Nat} (hj : j ≤ k) : Gs w W bg p m c q n d G a x b y (H.take j) j :=
  ⟨h.hk, h.hc, by have := h.tk; omega, by rw [List.length_take, h.hl]; omega, by have := own_take h.to_ hj; rw [List.map_take, tdC_take]; exact this, by have := own_take h.wo hj; rw [spC_take]; rw [Nat.mul_one] at this; exact this, fun g e => by rw [own_blk b j k y]; exact h.sep g (by rw [own_blk a k j x]; exact e), h.ob, fun g e => h.ot g (by rw [own_blk a k j x]; exact e), fun g e => h.ow g (by rw [own_blk b k j y]; exact e), h.hb, h.ge⟩
theorem Gs.told {w W : World} {bg : Nat} {p : Option Addr} {m c : Nat} {q : Option Addr} {n d : Nat} {G : Gt} {a : Option Addr} {x : Nat} {b : Option Addr} {y : Nat} {H : List Hd} {k : Nat} (h : Gs w W bg p m c q n d G a x b y H k) : Sl W a k (tdC (H.map Hd.td)) := by
  obtain ⟨p', c', e, hs⟩ := Sl.own h.to_
  injection e with e1 e2 e3
  subst e1
  exact hs
theorem Gs.at_ {w W : World} {bg : Nat} {p : Option Addr} {m c : Nat} {q : Option Addr} {n d : Nat} {G : Gt} {a : Option Addr} {x : Nat} {b : Option Addr} {y : Nat} {H : List Hd} {k : Nat} (h : Gs w W bg p m c q n d G a x b y H k) (j : Nat) (hj : j < k) : ∃ g, b = some ⟨g, 0, none⟩ ∧ g < W.heap.size ∧ W.cell? ⟨g, j, none⟩ = some (.int .i64 (H.getD j zH).span) ∧ k ≤ y := by
  obtain ⟨g, rfl, h1, h2, h3, h4⟩ := own_go h.wo (by omega)
  refine ⟨g, rfl, h4, ?_, h1⟩
  obtain ⟨p', c', e, hs⟩ := Sl.own h.wo
  injection e with e1 e2 e3
  subst e1
  obtain ⟨b', off, h5, h6, h7⟩ := hs (by omega)
  injection h6 with h6
  injection h6 with h6 h8
  subst h6 h8
  have := h7 j (by rw [spC_len, h.hl]; exact hj)
  rw [Nat.zero_add] at this
  rw [this, spC_at _ _ (by rw [h.hl]; exact hj)]
end Go.Proofs.Yteffmidpinlpjaa
