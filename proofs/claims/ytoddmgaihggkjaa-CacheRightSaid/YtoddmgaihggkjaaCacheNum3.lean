/- Plain numbers for layer 8: what is in a cache after addresses were put one behind the other; no program is run here; no condition. -/
import Derived.Test.YtoddmgaihggkjaaCacheNum2
namespace Go.Proofs.Ytoddmgaihggkjaa
set_option linter.unusedVariables false
open Go.RowKit

/-- Each of a list once, where it comes first. -/
def recL : List Nat → List Nat
  | [] => []
  | a :: r => a :: (recL r).filter fun k => k != a
theorem recL_cons (a : Nat) (r : List Nat) : recL (a :: r) = a :: (recL r).filter fun k => k != a := rfl
theorem recL_mem (l : List Nat) (x : Nat) : x ∈ recL l ↔ x ∈ l := by
  induction l with
  | nil => exact Iff.rfl
  | cons a r ih =>
    rw [recL_cons]
    rw [List.mem_cons, List.mem_cons, List.mem_filter, ih]
    by_cases h : x = a
    · simp [h]
    · simp [h]
theorem recL_nodup (l : List Nat) : (recL l).Pairwise fun x y => x ≠ y := by
  induction l with
  | nil => exact List.Pairwise.nil
  | cons a r ih =>
    rw [recL_cons]
    rw [List.pairwise_cons]
    exact ⟨fun y hy e => by rw [List.mem_filter] at hy; rw [e] at hy; simp at hy, ih.filter _⟩
theorem recL_append (p q : List Nat) : recL (p ++ q) = recL p ++ (recL q).filter fun k => !(p.contains k) := by
  induction p with
  | nil =>
    rw [List.nil_append]
    exact (List.filter_eq_self.2 fun _ _ => rfl).symm
  | cons b p ih =>
    rw [List.cons_append]
    rw [recL_cons, recL_cons]
    rw [ih, List.filter_append, List.filter_filter, List.cons_append]
    congr 2
    refine List.filter_congr fun x _ => ?_
    rw [List.contains_cons, Bool.not_or]
    rfl
theorem perm_getD {l : List Ln} {t : Nat} (h : t < l.length) : l.Perm (l.getD t zL :: l.eraseIdx t) := by
  induction l generalizing t with
  | nil => exact absurd h (by simp)
  | cons x l ih =>
    cases t with
    | zero => exact List.Perm.refl _
    | succ t =>
      rw [List.getD_cons_succ, List.eraseIdx_cons_succ]
      exact ((ih (by simpa using h)).cons x).trans (List.Perm.swap _ _ _)
theorem perm_set {l : List Ln} {t : Nat} (h : t < l.length) (x : Ln) : (l.set t x).Perm (x :: l.eraseIdx t) := by
  induction l generalizing t with
  | nil => exact absurd h (by simp)
  | cons y l ih =>
    cases t with
    | zero => exact List.Perm.refl _
    | succ t =>
      rw [List.set_cons_succ, List.eraseIdx_cons_succ]
      exact ((ih (by simpa using h)).cons y).trans (List.Perm.swap _ _ _)
def castL (R : List Nat) : List Int := R.map fun k : Nat => (k : Int)
/-- The lines of a set, the one used last first, are the first m of R. -/
def LsS (l : List Ln) (R : List Nat) (m : Nat) : Prop := ∃ L : List Ln, L.Perm l ∧ (L.map fun x => x.addr) = castL (R.take m) ∧ L.Pairwise fun x y => y.used < x.used
theorem LsS.mem {l : List Ln} {R : List Nat} {m : Nat} (h : LsS l R m) (a : Nat) : a ∈ R.take m ↔ ∃ x ∈ l, x.addr = (a : Int) := by
  obtain ⟨L, hp, hm, _⟩ := h
  have e : (a : Int) ∈ castL (R.take m) ↔ a ∈ R.take m := by
    unfold castL
    rw [List.mem_map]
    exact ⟨fun ⟨k, hk, e⟩ => by have : k = a := by omega
                                rw [← this]; exact hk, fun h => ⟨a, h, rfl⟩⟩
  rw [← e, ← hm, List.mem_map]
  exact ⟨fun ⟨x, hx, e⟩ => ⟨x, hp.mem_iff.1 hx, e⟩, fun ⟨x, hx, e⟩ => ⟨x, hp.mem_iff.2 hx, e⟩⟩
theorem LsS.len {l : List Ln} {R : List Nat} {m : Nat} (h : LsS l R m) : l.length = min m R.length := by
  obtain ⟨L, hp, hm, _⟩ := h
  have := congrArg List.length hm
  unfold castL at this
  rw [List.length_map, List.length_map, List.length_take] at this
  rw [← hp.length_eq]; exact this
theorem castL_inj {A B : List Nat} (h : castL A = castL B) : A = B := by
  unfold castL at h
  refine List.map_inj_right (f := fun k : Nat => (k : Int)) (fun x y e => ?_) |>.1 h
  have e : (x : Int) = (y : Int) := e
  omega
theorem filter_ne {R : List Nat} {a : Nat} (h : a ∉ R) : (R.filter fun k => k != a) = R := by
  rw [List.filter_eq_self]
  intro k hk
  simp only [bne_iff_ne, ne_eq]
  rintro rfl
  exact h hk
/-- A line that is there is put again. -/
theorem LsS.re {l : List Ln} {R : List Nat} {m : Nat} (h : LsS l R m) (hR : R.Pairwise fun x y => x ≠ y) (hm : 1 ≤ m) (a t : Nat) (ht : t < l.length) (ha : (l.getD t zL).addr = (a : Int)) (x0 : Ln) (hx0 : x0.addr = (a : Int)) (hu : ∀ x ∈ l, x.used < x0.used) :
    LsS (l.set t x0) (a :: R.filter fun k => k != a) m := by
  obtain ⟨L, hp, hmap, ho⟩ := h
  obtain ⟨x, hx⟩ : ∃ x, x = l.getD t zL := ⟨_, rfl⟩
  rw [← hx] at ha
  have hxl : x ∈ l := by rw [hx]; exact mem_getD l zL t ht
  obtain ⟨L1, L2, rfl⟩ := List.append_of_mem (hp.mem_iff.2 hxl)
  have hpl := perm_getD ht
  rw [← hx] at hpl
  have hrest : (L1 ++ L2).Perm (l.eraseIdx t) := (List.perm_middle.symm.trans (hp.trans hpl)).cons_inv
  refine ⟨x0 :: (L1 ++ L2), (hrest.cons x0).trans (perm_set ht x0).symm, ?_, ?_⟩
  · rw [List.map_append, List.map_cons] at hmap
    unfold castL at hmap
    obtain ⟨R1, R3, e1, e2, e3⟩ := List.map_eq_append_iff.1 hmap.symm
    obtain ⟨b, R2, e4, e5, e6⟩ := List.map_eq_cons_iff.1 e3
    have hb : b = a := by have e5 : (b : Int) = x.addr := e5; omega
    subst hb
    subst e4
    have hdr : R = R1 ++ b :: (R2 ++ R.drop m) := by
      have := List.take_append_drop m R
      rw [e1] at this
      rw [List.append_assoc, List.cons_append] at this
      exact this.symm
    have hnb : b ∉ R1 ∧ b ∉ R2 ++ R.drop m := by
      rw [hdr, List.pairwise_append, List.pairwise_cons] at hR
      exact ⟨fun hb => hR.2.2 b hb b (.head _) rfl, fun hb => hR.2.1.1 b hb rfl⟩
    have hf : (R.filter fun k => k != b) = R1 ++ (R2 ++ R.drop m) := by
      rw [congrArg (fun X => List.filter (fun k => k != b) X) hdr, List.filter_append, List.filter_cons, filter_ne hnb.1, filter_ne hnb.2]
      simp
    rw [hf, List.map_cons, hx0, List.map_append]
    have hlen := congrArg List.length e1
    rw [List.length_take, List.length_append, List.length_cons] at hlen
    obtain ⟨m', rfl⟩ : ∃ m', m = m' + 1 := ⟨m - 1, by omega⟩
    rw [List.take_succ_cons]
    have htk : (R1 ++ (R2 ++ R.drop (m' + 1))).take m' = R1 ++ R2 := by
      rw [← List.append_assoc]
      by_cases hc : m' + 1 ≤ R.length
      · exact List.take_left' (by rw [List.length_append]; omega)
      · rw [List.drop_eq_nil_of_le (by omega), List.append_nil, List.take_of_length_le (by rw [List.length_append]; omega)]
    rw [htk]
    unfold castL
    rw [List.map_cons, List.map_append, e2, e6]
  · rw [List.pairwise_append, List.pairwise_cons] at ho
    rw [List.pairwise_cons, List.pairwise_append]
    exact ⟨fun y hy => hu y (by
      refine hp.mem_iff.1 ?_
      rcases List.mem_append.1 hy with h | h
      · exact List.mem_append.2 (.inl h)
      · exact List.mem_append.2 (.inr (.tail _ h))), ho.1, ho.2.1.2, fun y hy z hz => ho.2.2 y hy z (.tail _ hz)⟩
/-- A line that isn't there is put, where there is room. -/
theorem LsS.more {l : List Ln} {R : List Nat} {m : Nat} (h : LsS l R m) (a : Nat) (ha : a ∉ R.take m) (hl : l.length < m) (x0 : Ln) (hx0 : x0.addr = (a : Int)) (hu : ∀ x ∈ l, x.used < x0.used) :
    LsS (l ++ [x0]) (a :: R.filter fun k => k != a) m := by
  have hlen := h.len
  obtain ⟨L, hp, hmap, ho⟩ := h
  have htk : R.take m = R := List.take_of_length_le (by omega)
  rw [htk] at ha hmap
  refine ⟨x0 :: L, (hp.cons x0).trans (List.perm_append_singleton x0 l).symm, ?_, List.pairwise_cons.2 ⟨fun y hy => hu y (hp.mem_iff.1 hy), ho⟩⟩
  rw [filter_ne ha, List.map_cons, hx0, hmap, List.take_of_length_le (by rw [List.length_cons]; omega)]
  rfl
/-- A line that isn't there is put, where there is none: the one of the least Used goes. -/
theorem LsS.push {l : List Ln} {R : List Nat} {m : Nat} (h : LsS l R m) (hm : 1 ≤ m) (a : Nat) (ha : a ∉ R.take m) (hl : l.length = m) (x0 : Ln) (hx0 : x0.addr = (a : Int)) (hu : ∀ x ∈ l, x.used < x0.used) :
    LsS (l.eraseIdx (outN l) ++ [x0]) (a :: R.filter fun k => k != a) m := by
  have hlen := h.len
  obtain ⟨L, hp, hmap, ho⟩ := h
  have hlt := outN_lt (l := l) (by omega)
  have hne : L ≠ [] := fun e => by have := hp.length_eq; rw [e, List.length_nil] at this; omega
  obtain ⟨L0, z, rfl⟩ : ∃ L0 z, L = L0 ++ [z] := ⟨L.dropLast, L.getLast hne, (List.dropLast_concat_getLast hne).symm⟩
  have hz : l.getD (outN l) zL = z := by
    have h1 := hp.mem_iff.2 (mem_getD l zL (outN l) hlt)
    rcases List.mem_append.1 h1 with h1 | h1
    · have h2 := (List.pairwise_append.1 ho).2.2 _ h1 z (.head _)
      have h3 := outN_le l z (hp.mem_iff.1 (List.mem_append.2 (.inr (.head _))))
      omega
    · exact List.mem_singleton.1 h1
  have hpl := perm_getD hlt
  rw [hz] at hpl
  have hrest : L0.Perm (l.eraseIdx (outN l)) := ((List.perm_append_singleton z L0).symm.trans (hp.trans hpl)).cons_inv
  refine ⟨x0 :: L0, ((hrest.cons x0).trans (List.perm_append_singleton x0 _).symm), ?_, List.pairwise_cons.2 ⟨fun y hy => hu y (hp.mem_iff.1 (List.mem_append.2 (.inl hy))), (List.pairwise_append.1 ho).1⟩⟩
  obtain ⟨m', rfl⟩ : ∃ m', m = m' + 1 := ⟨m - 1, by omega⟩
  rw [List.take_succ_cons, List.map_cons, hx0]
  unfold castL
  rw [List.map_cons]
  congr 1
  have hf : (R.filter fun k => k != a).take m' = R.take m' := by
    have e := List.take_append_drop (m' + 1) R
    have e2 : (R.filter fun k => k != a) = R.take (m' + 1) ++ (R.drop (m' + 1)).filter fun k => k != a := by
      rw [← congrArg (fun X => List.filter (fun k => k != a) X) e, List.filter_append, filter_ne ha]
    rw [e2, List.take_append_of_le_length (by rw [List.length_take]; omega), List.take_take, Nat.min_eq_left (by omega)]
  rw [hf]
  have h5 := congrArg (List.take m') hmap
  unfold castL at h5
  rw [← List.map_take, ← List.map_take, List.take_take, Nat.min_eq_left (by omega : m' ≤ m' + 1)] at h5
  rw [← h5, List.take_left' (by have := hp.length_eq; rw [List.length_append, List.length_singleton] at this; omega)]

/-- What is known of a cache into which the addresses q were put, the last one first. -/
structure Ls (C : Ch) (n m i : Nat) (q : List Nat) : Prop where
  rt : Rt C
  sn : C.sets = (n : Int)
  wm : C.ways = (m : Int)
  ck : C.clock ≤ (i : Int)
  st : ∀ s, s < n → LsS (C.lines.getD s []) (recL (q.filter fun k => k % n == s)) m
theorem Ls.new {n m : Nat} (hn : 1 ≤ n) (hn8 : n ≤ 8) (hm : 1 ≤ m) (hm8 : m ≤ 8) : Ls (newC n m) n m 0 [] ∧ newE n m = 0 := by
  have hy : mayS (n : Int) (m : Int) = true := by unfold mayS; exact decide_eq_true ⟨by omega, by omega, by omega, by omega⟩
  have hr := new_right hy
  have e0 : ∀ s : Nat, (List.replicate n ([] : List Ln)).getD s [] = [] := fun s => by
    rw [List.getD_eq_getElem?_getD, List.getElem?_replicate]; split <;> rfl
  have e1 : newC n m = ⟨n, m, 0, List.replicate n []⟩ := by unfold newC; rw [if_pos hy, Int.toNat_natCast]
  refine ⟨⟨hr, by rw [e1], by rw [e1], by rw [e1]; exact Int.le_refl _, fun s _ => ?_⟩, by unfold newE; rw [if_pos hy]⟩
  rw [e1]
  show LsS ((List.replicate n ([] : List Ln)).getD s []) _ m
  rw [e0]
  exact ⟨[], List.Perm.refl _, by simp [recL, castL], List.Pairwise.nil⟩
theorem Ls.no {C : Ch} {n m i : Nat} {q : List Nat} (h : Ls C n m i q) (a : Nat) : setNo C a = a % n := by
  unfold setNo; rw [h.sn, ← Int.natCast_emod, Int.toNat_natCast]
theorem Ls.n1 {C : Ch} {n m i : Nat} {q : List Nat} (h : Ls C n m i q) : 1 ≤ n := by have := h.rt.n1; have := h.sn; omega
theorem Ls.m1 {C : Ch} {n m i : Nat} {q : List Nat} (h : Ls C n m i q) : 1 ≤ m := by have := h.rt.m1; have := h.wm; omega
theorem Ls.set {C : Ch} {n m i : Nat} {q : List Nat} (h : Ls C n m i q) (a : Nat) : LsS (setC C a) (recL (q.filter fun k => k % n == a % n)) m := by
  have := h.st (a % n) (Nat.mod_lt _ h.n1)
  unfold setC; rw [h.no a]; exact this
theorem Ls.len {C : Ch} {n m i : Nat} {q : List Nat} (h : Ls C n m i q) : C.lines.length = n := by have := h.rt.len; have := h.sn; omega
theorem Ls.can {C : Ch} {n m i : Nat} {q : List Nat} (h : Ls C n m i q) (a : Nat) (hi : i < 1000) : canC C a = true := by
  rw [canC_iff]
  refine ⟨h.rt, by omega, ?_⟩
  have := h.ck
  unfold clockTop; omega
theorem Ls.at_ {C : Ch} {n m i : Nat} {q : List Nat} (h : Ls C n m i q) (a : Nat) : 0 ≤ atC C a ↔ a ∈ (recL (q.filter fun k => k % n == a % n)).take m := by
  rw [(h.set a).mem a]
  constructor
  · intro e; exact ⟨_, atC_mem e, atC_addr e⟩
  · rintro ⟨x, hx, e⟩; exact atC_pos hx e
theorem Ls.has {C : Ch} {n m i : Nat} {q : List Nat} (h : Ls C n m i q) (a : Nat) : hasC C a = decide (a ∈ (recL (q.filter fun k => k % n == a % n)).take m) := by
  have hm : mayC C a = true := by rw [mayC_iff]; exact ⟨h.rt, by omega⟩
  unfold hasC
  rw [hm, Bool.true_and]
  exact decide_eq_decide.2 (h.at_ a)
theorem Ls.put {C : Ch} {n m i : Nat} {q : List Nat} (h : Ls C n m i q) (a v : Nat) (hi : i < 1000) : putE C a 1 = 0 ∧ Ls (putC C a 1 v) n m (i + 1) (a :: q) := by
  have hok : okP C a 1 = true := okP_of (h.can a hi) (by decide) (by decide)
  have hck := h.ck
  have hk0 := h.rt.k0
  refine ⟨by unfold putE; rw [if_pos hok], ?_⟩
  have hr := put_right h.rt a 1 v
  have hp : putC C a 1 v = withC C a (C.clock + 1) (putL C a 1 v) := by unfold putC; rw [if_pos hok]
  rw [hp] at hr ⊢
  refine ⟨hr, h.sn, h.wm, by show C.clock + 1 ≤ _; omega, fun s hs => ?_⟩
  show LsS ((C.lines.set (setNo C a) (putL C a 1 v)).getD s []) (recL ((a :: q).filter fun k => k % n == s)) m
  rw [h.no a, getD_set _ _ _ _ _ (by rw [h.len]; exact Nat.mod_lt _ h.n1)]
  by_cases e : s = a % n
  · rw [if_pos e, List.filter_cons, if_pos (by rw [e]; simp), e]
    have hst := h.set a
    have hu : ∀ x ∈ setC C a, x.used < C.clock + 1 := fun x hx => by have := (h.rt.line a x hx).uk; omega
    show LsS (putL C a 1 v) (a :: (recL (q.filter fun k => k % n == a % n)).filter fun k => k != a) m
    unfold putL
    by_cases hat : 0 ≤ atC C a
    · rw [if_pos hat]
      exact hst.re (recL_nodup _) h.m1 a _ (atC_lt hat) (atC_addr hat) _ rfl hu
    · rw [if_neg hat]
      have hno : a ∉ (recL (q.filter fun k => k % n == a % n)).take m := fun e => hat ((h.at_ a).2 e)
      have hw := h.rt.len_le a
      have hwm := h.wm
      by_cases hf : fullC C a = true
      · rw [if_pos hf]
        have hf := of_decide_eq_true hf
        exact hst.push h.m1 a hno (by omega) _ rfl hu
      · rw [if_neg hf]
        have hf : ¬ ((setC C a).length : Int) = C.ways := fun e => hf (decide_eq_true e)
        exact hst.more a hno (by omega) _ rfl hu
  · rw [if_neg e, List.filter_cons, if_neg (by simp; omega)]
    exact h.st s hs
/-- How many others of the set of a are among these. -/
def cntS (n a : Nat) (p : List Nat) : Nat := (recL (p.filter fun k => k % n == a % n)).length
theorem cntS_nil (n a : Nat) : cntS n a [] = 0 := rfl
theorem cntS_step (n a : Nat) (p : List Nat) (b : Nat) : cntS n a (p ++ [b]) = if b % n = a % n ∧ b ∉ p then cntS n a p + 1 else cntS n a p := by
  unfold cntS
  rw [List.filter_append, recL_append, List.length_append]
  by_cases h : b % n = a % n
  · have e : ([b].filter fun k => k % n == a % n) = [b] := by simp [h]
    rw [e]
    by_cases hb : b ∈ p
    · rw [if_neg (fun e => e.2 hb)]
      have : ((p.filter fun k => k % n == a % n).contains b) = true := by simp [hb, h]
      simp [recL, hb, h]
    · rw [if_pos ⟨h, hb⟩]
      simp [recL, hb, h]
  · have e : ([b].filter fun k => k % n == a % n) = [] := by simp [h]
    rw [e, if_neg (fun e => h e.1)]
    rfl
theorem cntS_le (n a : Nat) (p : List Nat) : cntS n a p ≤ p.length := by
  unfold cntS
  have h1 : ∀ l : List Nat, (recL l).length ≤ l.length := fun l => by
    induction l with
    | nil => exact Nat.le_refl _
    | cons x l ih =>
      rw [recL_cons, List.length_cons, List.length_cons]
      have := List.length_filter_le (fun k => k != x) (recL l)
      omega
  exact Nat.le_trans (h1 _) (List.length_filter_le _ _)
theorem scan_found (n m a : Nat) (p r : List Nat) (h : a ∉ p) : a ∈ (recL ((p ++ a :: r).filter fun k => k % n == a % n)).take m ↔ cntS n a p < m := by
  have e : ((p ++ a :: r).filter fun k => k % n == a % n) = (p.filter fun k => k % n == a % n) ++ a :: (r.filter fun k => k % n == a % n) := by
    rw [List.filter_append, List.filter_cons, if_pos (by simp)]
  obtain ⟨P, hP⟩ : ∃ P, P = p.filter fun k => k % n == a % n := ⟨_, rfl⟩
  have hn : a ∉ P := fun hm => h (by rw [hP] at hm; exact (List.mem_filter.1 hm).1)
  have hc : P.contains a = false := by simpa using hn
  unfold cntS
  rw [e, ← hP, recL_append]
  rw [recL_cons]
  rw [List.filter_cons, if_pos (by rw [hc]; rfl)]
  have hnr : a ∉ recL P := fun hm => hn ((recL_mem P a).1 hm)
  obtain ⟨X, hX⟩ : ∃ X, X = ((recL (r.filter fun k => k % n == a % n)).filter fun k => k != a).filter fun k => !(P.contains k) := ⟨_, rfl⟩
  rw [← hX]
  constructor
  · intro hm
    refine Nat.lt_of_not_le fun hle => ?_
    rw [List.take_append_of_le_length hle] at hm
    exact hnr (List.mem_of_mem_take hm)
  · intro hlt
    rw [List.take_append, List.mem_append]
    refine .inr ?_
    obtain ⟨d, hd⟩ : ∃ d, m - (recL P).length = d + 1 := ⟨m - (recL P).length - 1, by omega⟩
    rw [hd, List.take_succ_cons]
    exact .head _
theorem scan_none (n m a : Nat) (q : List Nat) (h : a ∉ q) : a ∉ (recL (q.filter fun k => k % n == a % n)).take m := fun hm =>
  h (List.mem_filter.1 ((recL_mem _ a).1 (List.mem_of_mem_take hm))).1
end Go.Proofs.Ytoddmgaihggkjaa
