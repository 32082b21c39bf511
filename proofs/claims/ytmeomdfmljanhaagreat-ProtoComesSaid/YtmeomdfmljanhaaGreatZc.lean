/- Laid together, in this order: ProtoZc, ProtoZe, ProtoZd. -/
import Derived.Test.YtmeomdfmljanhaaGreatZb
set_option linter.unusedSimpArgs false
set_option linter.unusedVariables false
/- Layer 10: a system, its messages and its lines; what is asked of it, in plain values. No program in sight. -/
namespace Go.Proofs.YtmeomdfmljanhaaGreat.Pr
set_option linter.unusedVariables false

structure Zz where
  F : Fs
  ms : List Fm
  Y : Sy
/-- All that holds of it. -/
structure Zz.ok (c l : Nat) (Z : Zz) : Prop where
  is_ : Is c l Z.F Z.ms Z.Y
  bd : Bd c l Z.F
  fb : AllB c l Z.ms
  c1 : 1 ≤ c
  c4 : c ≤ 4
  l1 : 1 ≤ l
  l4 : l ≤ 4
def hasZ (F : Fs) (n k : Nat) (wr : Bool) : Bool := !decide ((F.wt n).line = k + 1) && (!decide (F.st n k = 0) && (!wr || (decide (F.st n k = 2) || decide (F.st n k = 3))))
def wantC (F : Fs) (n k : Nat) (wr : Bool) : Bool := decide (0 < (F.wt n).line) || hasZ F n k wr
def wantZ (Z : Zz) (n k : Nat) (wr : Bool) : Zz :=
  if wantC Z.F n k wr then Z else ⟨Z.F.wait n ((Rq.get wr).wt k), Z.ms ++ [(Z.F.wait n ((Rq.get wr).wt k)).asked n], ⟨upd Z.Y.li k { Z.Y.li k with q := upd (Z.Y.li k).q n (.get wr) }, Z.Y.M ++ [(k, .get n wr)]⟩⟩
def wantX (Z : Zz) (n k : Nat) (wr : Bool) : Int := if wantC Z.F n k wr then 8 else 0
def evictC (F : Fs) (n k : Nat) : Bool := decide (0 < (F.wt n).line) || decide (F.st n k = 0)
def evictZ (Z : Zz) (n k : Nat) : Zz :=
  if evictC Z.F n k then Z
  else if 1 < Z.F.st n k then ⟨Z.F.wait n ((Rq.put 0).wt k), Z.ms ++ [(Z.F.wait n ((Rq.put 0).wt k)).asked n], ⟨upd Z.Y.li k { Z.Y.li k with q := upd (Z.Y.li k).q n (.put ((Z.Y.li k).v n)) }, Z.Y.M ++ [(k, .put n ((Z.Y.li k).v n))]⟩⟩
  else ⟨Z.F.state n k 0, Z.ms, ⟨upd Z.Y.li k { Z.Y.li k with s := upd (Z.Y.li k).s n 0 }, Z.Y.M⟩⟩
def evictX (Z : Zz) (n k : Nat) : Int := if evictC Z.F n k then 8 else 0
def setZ (Z : Zz) (n k x : Nat) : Zz :=
  if hasZ Z.F n k true then ⟨(Z.F.value n k x).state n k 3, Z.ms, ⟨upd Z.Y.li k { Z.Y.li k with s := upd (Z.Y.li k).s n 3, v := upd (Z.Y.li k).v n x, last := x }, Z.Y.M⟩⟩ else Z
def setX (Z : Zz) (n k : Nat) : Int := if hasZ Z.F n k true then 0 else 8
def zF : Fm := ⟨0, 0, 0, 0, 0, 0, false, 0, 0⟩
def zG : Nat × Mg := (0, .free 0)
def delivY (c : Nat) (Y : Sy) (i : Nat) : Sy := Y.del c (Y.M.getD i zG).1 (Y.M.getD i zG).2 (Y.M.take i) (Y.M.drop (i + 1))
def delivZ (c : Nat) (Z : Zz) (i : Nat) : Zz := ⟨(Z.F.act c (Z.ms.getD i zF)).1, Z.ms.eraseIdx i ++ (Z.F.act c (Z.ms.getD i zF)).2, delivY c Z.Y i⟩
theorem getD_lt {α : Type} (l : List α) (d : α) (k : Nat) (hk : k < l.length) : ∃ a b, l = a ++ l.getD k d :: b ∧ a.length = k ∧ l.eraseIdx k = a ++ b ∧ l.take k = a ∧ l.drop (k + 1) = b := by
  refine ⟨l.take k, l.drop (k + 1), ?_, by rw [List.length_take]; omega, ?_, rfl, rfl⟩
  · have h1 : l.drop k = l.getD k d :: l.drop (k + 1) := by
      rw [List.drop_eq_getElem_cons hk, List.getD_eq_getElem?_getD, List.getElem?_eq_getElem hk]; rfl
    rw [← h1, List.take_append_drop]
  · rw [List.eraseIdx_eq_take_drop_succ]
theorem mid_getD {α : Type} (a b : List α) (x d : α) (k : Nat) (h : a.length = k) : (a ++ x :: b).getD k d = x ∧ (a ++ x :: b).take k = a ∧ (a ++ x :: b).drop (k + 1) = b := by
  subst h
  refine ⟨?_, List.take_left, ?_⟩
  · rw [List.getD_eq_getElem?_getD, List.getElem?_append_right (Nat.le_refl _), Nat.sub_self]; rfl
  · rw [List.drop_append, List.drop_of_length_le (Nat.le_succ _), List.nil_append, show a.length + 1 - a.length = 1 by omega]; rfl
theorem want_not {F : Fs} {n k : Nat} {wr : Bool} (h : wantC F n k wr = false) : (F.wt n).line = 0 ∧ if wr then F.st n k ≠ 2 ∧ F.st n k ≠ 3 else F.st n k = 0 := by
  unfold wantC hasZ at h
  rw [Bool.or_eq_false_iff] at h
  have h0 : (F.wt n).line = 0 := by have := of_decide_eq_false h.1; omega
  refine ⟨h0, ?_⟩
  have h1 := h.2
  rw [h0, decide_eq_false (show ¬ 0 = k + 1 by omega)] at h1
  by_cases hs : F.st n k = 0
  · cases wr with
    | true => exact ⟨by rw [hs]; omega, by rw [hs]; omega⟩
    | false => exact hs
  · rw [decide_eq_false hs] at h1
    cases wr with
    | false => cases h1
    | true =>
      have h3 : (decide (F.st n k = 2) || decide (F.st n k = 3)) = false := h1
      rw [Bool.or_eq_false_iff] at h3
      exact ⟨of_decide_eq_false h3.1, of_decide_eq_false h3.2⟩
theorem wb_get (l k : Nat) (hk : k < l) (wr : Bool) : WB l ((Rq.get wr).wt k) := ⟨by show k + 1 ≤ l; omega, Nat.zero_le _, Nat.zero_le _, z32⟩
theorem wb_put (l k : Nat) (hk : k < l) : WB l ((Rq.put 0).wt k) := ⟨by show k + 1 ≤ l; omega, Nat.zero_le _, Nat.zero_le _, z32⟩
theorem Zz.ok.want {c l n k : Nat} {Z : Zz} (h : Z.ok c l) (hn : n < c) (hk : k < l) (wr : Bool) : (wantZ Z n k wr).ok c l := by
  unfold wantZ
  cases hc : wantC Z.F n k wr with
  | true => exact h
  | false =>
    obtain ⟨h1, h2⟩ := want_not hc
    have hb := h.bd.wait n _ (wb_get l k hk wr)
    have ha := asked_fb hb hn h.l1
    exact ⟨h.is_.want hk hn wr h1 h2, hb, allB_app h.fb (allB_one ha.1 ha.2), h.c1, h.c4, h.l1, h.l4⟩
theorem Zz.ok.evict {c l n k : Nat} {Z : Zz} (h : Z.ok c l) (hn : n < c) (hk : k < l) : (evictZ Z n k).ok c l := by
  unfold evictZ
  cases hc : evictC Z.F n k with
  | true => exact h
  | false =>
    unfold evictC at hc
    rw [Bool.or_eq_false_iff] at hc
    have h0 : (Z.F.wt n).line = 0 := by have := of_decide_eq_false hc.1; omega
    have hs := of_decide_eq_false hc.2
    by_cases h2 : 1 < Z.F.st n k
    · simp only [if_pos h2]
      have hb := h.bd.wait n _ (wb_put l k hk)
      have ha := asked_fb hb hn h.l1
      exact ⟨h.is_.evict hk hn h0 (by omega), hb, allB_app h.fb (allB_one ha.1 ha.2), h.c1, h.c4, h.l1, h.l4⟩
    · simp only [if_neg h2]
      exact ⟨h.is_.leave hk (by omega), h.bd.state n k 0 (by omega), h.fb, h.c1, h.c4, h.l1, h.l4⟩
theorem has_yes {F : Fs} {n k : Nat} (h : hasZ F n k true = true) : (F.st n k = 2 ∨ F.st n k = 3) ∧ (F.wt n).line ≠ k + 1 := by
  unfold hasZ at h
  simp only [Bool.and_eq_true, Bool.not_eq_true', decide_eq_false_iff_not, Bool.or_eq_true, decide_eq_true_eq] at h
  refine ⟨?_, h.1⟩
  rcases h.2.2 with h3 | h3
  · cases h3
  · exact h3
theorem Zz.ok.set {c l n k x : Nat} {Z : Zz} (h : Z.ok c l) (hk : k < l) (hx : x < 4294967296) : (setZ Z n k x).ok c l := by
  unfold setZ
  cases hc : hasZ Z.F n k true with
  | false => exact h
  | true =>
    obtain ⟨h1, h2⟩ := has_yes hc
    exact ⟨h.is_.set hk h1 h2, (h.bd.value n k x hx).state n k 3 (by omega), h.fb, h.c1, h.c4, h.l1, h.l4⟩
theorem Zz.ok.deliv {c l i : Nat} {Z : Zz} (h : Z.ok c l) (hi : i < Z.ms.length) : (delivZ c Z i).ok c l ∧ (Z.Y.M.getD i zG).1 < l ∧ (Z.Y.M.getD i zG).2.is (Z.Y.M.getD i zG).1 (Z.ms.getD i zF) := by
  obtain ⟨a, b, e1, e2, e3, -, -⟩ := getD_lt Z.ms zF i hi
  have h0 := h.is_
  rw [e1] at h0
  obtain ⟨k, m, M1, M2, hk, hm, hM, hl, his⟩ := h0.act h.c4
  have hg := mid_getD M1 M2 (k, m) zG i (by rw [hl, e2])
  rw [← hM] at hg
  have hmem : Z.ms.getD i zF ∈ Z.ms := by
    have : Z.ms.getD i zF ∈ a ++ Z.ms.getD i zF :: b := List.mem_append_right _ (List.mem_cons_self ..)
    rwa [← e1] at this
  obtain ⟨q1, q2⟩ := h.fb _ hmem
  have hbd := act_bd h.c4 h.l1 h.bd q1 q2 (is_fr hm)
  refine ⟨⟨?_, hbd.1, ?_, h.c1, h.c4, h.l1, h.l4⟩, by rw [hg.1]; exact hk, by rw [hg.1]; exact hm⟩
  · show Is c l (Z.F.act c (Z.ms.getD i zF)).1 (Z.ms.eraseIdx i ++ (Z.F.act c (Z.ms.getD i zF)).2) (delivY c Z.Y i)
    unfold delivY
    rw [hg.1, hg.2.1, hg.2.2, e3]
    exact his
  · show AllB c l (Z.ms.eraseIdx i ++ _)
    refine allB_app (fun f hf => h.fb f ?_) hbd.2
    rw [e3] at hf
    rw [e1]
    rcases List.mem_append.1 hf with hf | hf
    · exact List.mem_append_left _ hf
    · exact List.mem_append_right _ (List.mem_cons_of_mem _ hf)
/-- A new system. -/
theorem Zz.new (c l : Nat) (h1 : 1 ≤ c) (h4 : c ≤ 4) (g1 : 1 ≤ l) (g4 : l ≤ 4) : ∃ Y, Zz.ok c l ⟨⟨fun _ _ => 0, fun _ _ => 0, fun _ => Wt.none, fun _ => 0, fun _ => 0, fun _ _ => false, fun _ => 0⟩, [], Y⟩ ∧ ∀ k, (Y.li k).last = 0 :=
  ⟨_, ⟨⟨OkS.new c l, fun _ _ => trivial, sim_new l, trivial⟩, Bd.new c l, allB_nil c l, h1, h4, g1, g4⟩, fun _ => rfl⟩
/-- The first one comes. -/
theorem deliv_step {c : Nat} {Y : Sy} (h : Y.M ≠ []) : delivY c Y 0 = Y.step c := by
  obtain ⟨li, M⟩ := Y
  cases M with
  | nil => exact absurd rfl h
  | cons x M =>
    obtain ⟨k, m⟩ := x
    rw [step_cons]
    rfl
end Go.Proofs.YtmeomdfmljanhaaGreat.Pr
/- Who asks to read a line that isn't busy doesn't own it; what a message that comes home is sure of. -/
namespace Go.Proofs.YtmeomdfmljanhaaGreat.Pr
set_option linter.unusedVariables false

theorem ask_owner {c l k n : Nat} {Y : Sy} (h : OkS c l Y) (hk : k < l) (hm : (k, Mg.get n false) ∈ Y.M) (hi : (Y.li k).ph = .idle) : (Y.li k).own ≠ n + 1 := fun e => by
  have h1 : Mg.get n false ∈ onLine k Y.M := by
    unfold onLine
    exact List.mem_map.2 ⟨(k, .get n false), List.mem_filter.2 ⟨hm, decide_eq_true rfl⟩, rfl⟩
  have h2 := (mem_get ((h.perm k hk).mem_iff.1 h1)).2
  have h3 := (h.ok k hk).askR n (.inl h2)
  have h4 : (Y.li k).top = some n := by
    unfold Li.top
    rw [hi, e]
    simp
  have h5 := ((h.ok k hk).top n h4).1
  omega
theorem Zz.ok.home {c l i : Nat} {Z : Zz} (h : Z.ok c l) (hi : i < Z.ms.length) :
    (Z.ms.getD i zF).to = 0 → (Z.ms.getD i zF).kind = 1 ∨ (Z.ms.getD i zF).kind = 2 → (Z.ms.getD i zF).fr = (Z.ms.getD i zF).frm → Z.F.busy (Z.ms.getD i zF).line = 0 →
      (1 ≤ (Z.ms.getD i zF).frm ∧ (Z.ms.getD i zF).frm ≤ c) ∧ Z.F.own (Z.ms.getD i zF).line ≤ c ∧ ((Z.ms.getD i zF).kind = 1 → ¬ Z.F.own (Z.ms.getD i zF).line = (Z.ms.getD i zF).frm) ∧ (∀ j, c ≤ j → Z.F.sh (Z.ms.getD i zF).line j = false) := by
  obtain ⟨a, b, e1, e2, e3, -, -⟩ := getD_lt Z.ms zF i hi
  have hmem : Z.ms.getD i zF ∈ Z.ms := by
    have : Z.ms.getD i zF ∈ a ++ Z.ms.getD i zF :: b := List.mem_append_right _ (List.mem_cons_self ..)
    rwa [← e1] at this
  obtain ⟨q1, q2⟩ := h.fb _ hmem
  obtain ⟨-, d1, d2⟩ := h.deliv hi
  have hgm : Z.Y.M.getD i zG ∈ Z.Y.M := by
    have hl := areAll_length h.is_.are
    have hi2 : i < Z.Y.M.length := by omega
    rw [List.getD_eq_getElem?_getD, List.getElem?_eq_getElem hi2]
    exact List.getElem_mem hi2
  intro h0 h12 hfr hb
  refine ⟨⟨q2 h0, q1.frm⟩, h.bd.own _, fun h1 => ?_, fun j hj => h.bd.sh _ j hj⟩
  obtain ⟨⟨k, m⟩, hkm⟩ : ∃ x, x = Z.Y.M.getD i zG := ⟨_, rfl⟩
  rw [← hkm] at d1 d2 hgm
  obtain ⟨f, hf⟩ : ∃ f, f = Z.ms.getD i zF := ⟨_, rfl⟩
  rw [← hf] at d2 h1 hb ⊢
  have d2 : m.is k f := d2
  have d1 : k < l := d1
  cases m with
  | get n wr =>
    cases wr with
    | true => rw [show f = _ from d2] at h1; simp at h1
    | false =>
      rw [show f = _ from d2] at hb ⊢
      have hsim := h.is_.sim.line k d1
      have hb : Z.F.busy k = 0 := hb
      rw [hsim.busy] at hb
      have hph : (Z.Y.li k).ph = .idle := by
        cases hp : (Z.Y.li k).ph with
        | idle => rfl
        | free r => rw [hp] at hb; cases hb
        | turn r wr d i a g => rw [hp] at hb; cases hb
      show ¬ Z.F.own k = n + 1
      rw [hsim.own]
      exact ask_owner h.is_.ok d1 hgm hph
  | put n x => rw [show f = _ from d2] at h1; simp at h1
  | free n => rw [show f = _ from d2] at h1; simp at h1
  | nack n => rw [show f = _ from d2] at h1; simp at h1
  | putAck n => rw [show f = _ from d2] at h1; simp at h1
  | data r own keep need x => obtain ⟨frm, d2⟩ := d2; rw [d2] at h1; simp at h1
  | fwd o r wr need => rw [show f = _ from d2] at h1; cases wr <;> simp at h1
  | inv n r => rw [show f = _ from d2] at h1; simp at h1
  | ack r => obtain ⟨frm, d2⟩ := d2; rw [d2] at h1; simp at h1
end Go.Proofs.YtmeomdfmljanhaaGreat.Pr
/- Layer 10: who has a line, by what the system says; how all that is under way comes. No program in sight. -/
namespace Go.Proofs.YtmeomdfmljanhaaGreat.Pr
set_option linter.unusedVariables false

theorem waits_line {c l k n : Nat} {F : Fs} {ms : List Fm} {Y : Sy} (h : Is c l F ms Y) (hk : k < l) : (Y.li k).waits n ↔ (F.wt n).line = k + 1 := by
  have hl : ∀ j, j < l → (Y.li j).waits n → (F.wt n).line = j + 1 := fun j hj hn => by
    rw [(h.sim.line j hj).wt n hn]
    rcases hn with k1 | ⟨wr, d, i, a, g, k1⟩
    · rw [wt_q (h.ok.ok j hj) j k1, (wt_line k1).1]
    · rw [wt_turn j k1]; cases d <;> rfl
  constructor
  · exact hl k hk
  · intro e
    refine Classical.byContradiction fun hn => ?_
    by_cases hx : ∃ j, j < l ∧ (Y.li j).waits n
    · obtain ⟨j, hj, hw⟩ := hx
      have := hl j hj hw
      have : j = k := by omega
      subst this
      exact hn hw
    · rw [h.sim.none n (fun j hj hw => hx ⟨j, hj, hw⟩)] at e
      cases e
theorem has_iff {c l k n : Nat} {Z : Zz} (h : Z.ok c l) (hk : k < l) (wr : Bool) : hasZ Z.F n k wr = true ↔ ¬ (Z.Y.li k).waits n ∧ (Z.Y.li k).s n ≠ 0 ∧ (wr = true → (Z.Y.li k).s n = 2 ∨ (Z.Y.li k).s n = 3) := by
  rw [waits_line h.is_ hk, ← (h.is_.sim.line k hk).st n]
  unfold hasZ
  simp only [Bool.and_eq_true, Bool.not_eq_true', decide_eq_false_iff_not, Bool.or_eq_true, decide_eq_true_eq]
  cases wr <;> simp
/-- All comes, one by one, the first one first. -/
def calmZ (c : Nat) : Nat → Zz → Zz
  | 0, Z => Z
  | n + 1, Z => delivZ c (calmZ c n Z) 0
theorem ms_nil {c l : Nat} {Z : Zz} (h : Z.ok c l) : Z.ms = [] ↔ Z.Y.M = [] := by
  have := areAll_length h.is_.are
  constructor
  · intro e; rw [e] at this; exact List.length_eq_zero_iff.1 this.symm
  · intro e; rw [e] at this; exact List.length_eq_zero_iff.1 this
theorem calm_ok {c l : Nat} {Z : Zz} (h : Z.ok c l) : ∀ n, (∀ j, j < n → (calmZ c j Z).ms ≠ []) → (calmZ c n Z).ok c l ∧ (calmZ c n Z).Y = Sy.steps c n Z.Y
  | 0, _ => ⟨h, rfl⟩
  | n + 1, hn => by
    obtain ⟨h1, h2⟩ := calm_ok h n (fun j hj => hn j (by omega))
    have hne := hn n (Nat.lt_succ_self n)
    have hne2 : (calmZ c n Z).Y.M ≠ [] := fun e => hne ((ms_nil h1).2 e)
    refine ⟨(h1.deliv (List.length_pos_iff.2 hne)).1, ?_⟩
    show delivY c (calmZ c n Z).Y 0 = _
    rw [deliv_step hne2, h2, steps_succ]
/-- At last nothing is under way. -/
theorem calm_ends {c l : Nat} {Z : Zz} (h : Z.ok c l) : ∃ N, N ≤ 1008 ∧ (calmZ c N Z).ms = [] ∧ ∀ j, j < N → (calmZ c j Z).ms ≠ [] := by
  obtain ⟨n, hn, he⟩ := comes h.c4 h.l4 h.is_.ok h.is_.small
  have hex : ∃ N, N ≤ n ∧ (calmZ c N Z).ms = [] := by
    refine Classical.byContradiction fun hno => ?_
    have hall : ∀ j, j ≤ n → (calmZ c j Z).ms ≠ [] := fun j hj e => hno ⟨j, hj, e⟩
    obtain ⟨h1, h2⟩ := calm_ok h n (fun j hj => hall j (by omega))
    exact hall n (Nat.le_refl n) ((ms_nil h1).2 (by rw [h2]; exact he))
  have least : ∀ m, (∃ N, N ≤ m ∧ (calmZ c N Z).ms = []) → ∃ N, N ≤ m ∧ (calmZ c N Z).ms = [] ∧ ∀ j, j < N → (calmZ c j Z).ms ≠ [] := by
    intro m
    induction m with
    | zero => rintro ⟨N, hN, e⟩; exact ⟨N, hN, e, fun j hj => by omega⟩
    | succ m ih =>
      rintro ⟨N, hN, e⟩
      by_cases hx : ∃ N, N ≤ m ∧ (calmZ c N Z).ms = []
      · obtain ⟨N2, a, b, d⟩ := ih hx
        exact ⟨N2, by omega, b, d⟩
      · exact ⟨N, hN, e, fun j hj e2 => hx ⟨j, by omega, e2⟩⟩
  obtain ⟨N, a, b, d⟩ := least n hex
  exact ⟨N, by omega, b, d⟩
/-- A quiet system: nobody waits, no line is busy. -/
theorem quiet_z {c l : Nat} {Z : Zz} (h : Z.ok c l) (hM : Z.ms = []) : (∀ k, k < l → Z.F.busy k = 0) ∧ ∀ n, (Z.F.wt n).line = 0 := by
  have hq := quiet h.is_.ok ((ms_nil h).1 hM)
  refine ⟨fun k hk => ?_, fun n => ?_⟩
  · rw [(h.is_.sim.line k hk).busy, (hq k hk).1]; rfl
  · rw [h.is_.sim.none n (fun k hk => (hq k hk).2 n)]; rfl
/-- Who asks, where all is quiet, has it once all has come. -/
theorem asked_z {c l k n : Nat} {Z : Zz} (h : Z.ok c l) (hM : Z.ms = []) (hk : k < l) (hn : n < c) (wr : Bool) (hh : hasZ Z.F n k wr = false) (N : Nat) (hN : (calmZ c N (wantZ Z n k wr)).ms = []) (hj : ∀ j, j < N → (calmZ c j (wantZ Z n k wr)).ms ≠ []) :
    wantX Z n k wr = 0 ∧ hasZ (calmZ c N (wantZ Z n k wr)).F n k wr = true ∧ (calmZ c N (wantZ Z n k wr)).F.va n k = ((calmZ c N (wantZ Z n k wr)).Y.li k).last := by
  have hq := quiet_z h hM
  have hc : wantC Z.F n k wr = false := by unfold wantC; rw [hh, hq.2 n]; rfl
  have hw := h.want hn hk wr
  obtain ⟨h1, h2⟩ := calm_ok hw N hj
  have hne := want_not hc
  have hs := hne.2
  rw [(h.is_.sim.line k hk).st n] at hs
  have hwy : (wantZ Z n k wr).Y = ⟨upd Z.Y.li k { Z.Y.li k with q := upd (Z.Y.li k).q n (.get wr) }, Z.Y.M ++ [(k, .get n wr)]⟩ := by unfold wantZ; rw [hc]; rfl
  have ha := asked h.c4 h.l4 h.is_.ok h.is_.small ((ms_nil h).1 hM) k n wr hk hn hs N (by rw [← hwy, ← h2]; exact (ms_nil h1).1 hN) _ rfl
  rw [← hwy, ← h2] at ha
  refine ⟨by unfold wantX; rw [hc]; rfl, ?_, ?_⟩
  · refine (has_iff h1 hk wr).2 ⟨?_, ha.1, fun e => .inr (ha.2.1 e)⟩
    exact (quiet h1.is_.ok ((ms_nil h1).1 hN) k hk).2 n
  · rw [(h1.is_.sim.line k hk).va n]; exact ha.2.2
end Go.Proofs.YtmeomdfmljanhaaGreat.Pr
