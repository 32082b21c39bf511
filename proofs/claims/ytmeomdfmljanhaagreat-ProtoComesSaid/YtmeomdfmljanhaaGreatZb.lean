/- Laid together, in this order: ProtoP, ProtoQ, ProtoR, ProtoS, ProtoT, ProtoU, ProtoV, ProtoW, ProtoX, ProtoY, ProtoZ, ProtoZa. -/
import Derived.Test.YtmeomdfmljanhaaGreatZa
set_option linter.unusedSimpArgs false
set_option linter.unusedVariables false
/- Layer 10's lines together: the first one first, all that is on its way comes; plain values, no program in sight. -/
namespace Go.Proofs.YtmeomdfmljanhaaGreat.Pr
set_option linter.unusedVariables false

def Mg.asks : Mg → Bool
  | .get _ _ => true
  | .put _ _ => true
  | _ => false
def Mg.nacks : Mg → Bool
  | .nack _ => true
  | _ => false
def Mg.turns : Mg → Bool
  | .free _ => true
  | .data _ _ _ _ _ => true
  | .fwd _ _ _ _ => true
  | .inv _ _ => true
  | .ack _ => true
  | _ => false
theorem ph_turns {p : Ph} {m : Mg} (h : m ∈ p.msgs) : m.turns = true := by
  cases p with
  | idle => cases h
  | free r => simp [Ph.msgs] at h; subst h; rfl
  | turn r wr d i a g =>
    cases d <;> simp [Ph.msgs, Dt.msgs] at h
    · rcases h with rfl | ⟨_, _, rfl⟩ | ⟨_, rfl⟩ <;> rfl
    · rcases h with rfl | ⟨_, _, rfl⟩ | ⟨_, rfl⟩ <;> rfl
    · rcases h with ⟨_, _, rfl⟩ | ⟨_, rfl⟩ <;> rfl
/-- What is still to come of all lines. -/
def Sy.w (c : Nat) (Y : Sy) : Nat → Nat
  | 0 => 0
  | l + 1 => Y.w c l + (Y.li l).w c
/-- The first one comes. -/
def Sy.step (c : Nat) (Y : Sy) : Sy :=
  match Y.M with
  | [] => Y
  | (k, m) :: M2 => Y.del c k m [] M2
theorem w_congr {c : Nat} {Y Z : Sy} {l : Nat} (h : ∀ k, k < l → Z.li k = Y.li k) : Z.w c l = Y.w c l := by
  induction l with
  | zero => rfl
  | succ l ih => unfold Sy.w; rw [ih (fun k hk => h k (by omega)), h l (by omega)]
theorem w_upd {c : Nat} (Y : Sy) (L' : Li) (M' : List (Nat × Mg)) (k l : Nat) (hk : k < l) : (Sy.mk (upd Y.li k L') M').w c l + (Y.li k).w c = Y.w c l + L'.w c := by
  induction l with
  | zero => omega
  | succ l ih =>
    unfold Sy.w
    by_cases e : k = l
    · subst e
      rw [w_congr (Y := Y) (fun j hj => upd_ne _ _ (by omega))]
      show _ + (upd Y.li k L' k).w c + _ = _
      rw [upd_same]
      omega
    · show _ + (upd Y.li k L' l).w c + _ = _
      rw [upd_ne _ _ (fun h => e h.symm)]
      have := ih (by omega)
      omega
/-- It comes to nothing: Nack, or a request or Put at a line that is busy. -/
def Sy.idle (Y : Sy) (x : Nat × Mg) : Prop := x.2.nacks = true ∨ ((Y.li x.1).ph ≠ .idle ∧ x.2.asks = true)
theorem nack_new {L : Li} {c n : Nat} (hm : Mg.nack n ∈ L.msgs c) (hw : ¬ (L.del c (.nack n)).1.w c < L.w c) : ∃ y, (L.del c (.nack n)).2 = [y] ∧ y.asks = true := by
  obtain ⟨hn, hq⟩ := mem_nack hm
  have hG : ∀ wr, L.q n = .nackG wr → ∃ y, (L.del c (.nack n)).2 = [y] ∧ y.asks = true := fun wr hq => by
    have e : L.del c (.nack n) = ({ L with q := upd L.q n (.get wr) }, [.get n wr]) := by simp only [Li.del, hq]
    rw [e]; exact ⟨_, rfl, rfl⟩
  rcases hq with hq | hq | hq
  · exact hG false hq
  · exact hG true hq
  · by_cases h2 : L.s n < 2
    · exfalso
      apply hw
      have e : L.del c (.nack n) = ({ L with q := upd L.q n .no }, []) := by simp only [Li.del, hq]; rw [if_pos h2]
      rw [e]
      have hw := w_ask L { L with q := upd L.q n .no } c n hn _ .no hq rfl rfl
      simp only [Rq.w] at hw
      show ({ L with q := upd L.q n .no } : Li).w c < L.w c
      omega
    · have e : L.del c (.nack n) = ({ L with q := upd L.q n (.put (L.v n)) }, [.put n (L.v n)]) := by simp only [Li.del, hq]; rw [if_neg h2]
      rw [e]; exact ⟨_, rfl, rfl⟩
/-- One step: the weight gets less, or nothing turns but the asking. -/
theorem step_ok {c l : Nat} {Y : Sy} (h : OkS c l Y) (hc : c ≤ 4) (k : Nat) (m : Mg) (M2 : List (Nat × Mg)) (hM : Y.M = (k, m) :: M2) : OkS c l (Y.step c) ∧ ∃ N : List Mg, (Y.step c).M = M2 ++ N.map (fun x => (k, x)) ∧
    ((Y.step c).w c l < Y.w c l ∨ ((Y.step c).w c l = Y.w c l ∧ (∀ j, ((Y.step c).li j).ph = (Y.li j).ph) ∧ Y.idle (k, m) ∧ (m.nacks = true → ∃ y, N = [y] ∧ y.asks = true))) := by
  have hs : Y.step c = Y.del c k m [] M2 := by unfold Sy.step; rw [hM]
  have hk : k < l := h.lines (k, m) (by rw [hM]; simp)
  have hm : m ∈ (Y.li k).msgs c := (h.perm k hk).mem_iff.1 (onLine_mem.2 (by rw [hM]; simp))
  obtain ⟨h1, h2⟩ := h.del hc k m [] M2 hM
  rw [hs]
  have hw := w_upd (c := c) Y ((Y.li k).del c m).1 ([] ++ M2 ++ ((Y.li k).del c m).2.map fun x => (k, x)) k l hk
  refine ⟨h1, ((Y.li k).del c m).2, rfl, ?_⟩
  by_cases hl : ((Y.li k).del c m).1.w c < (Y.li k).w c
  · refine .inl ?_
    show (Sy.mk _ _).w c l < _
    omega
  · rcases h2.less with e | ⟨e1, e2, e3⟩
    · exact absurd e hl
    · refine .inr ⟨?_, fun j => ?_, ?_, fun hn => ?_⟩
      · show (Sy.mk _ _).w c l = _
        omega
      · show (upd Y.li k _ j).ph = _
        by_cases e : j = k
        · subst e; rw [upd_same]; exact e2
        · rw [upd_ne _ _ e]
      · rcases e3 with ⟨n, rfl⟩ | ⟨e4, ⟨n, wr, rfl⟩ | ⟨n, x, rfl⟩⟩
        · exact .inl rfl
        · exact .inr ⟨e4, rfl⟩
        · exact .inr ⟨e4, rfl⟩
      · cases m with
        | nack n => exact nack_new hm hl
        | get n wr => cases hn
        | put n x => cases hn
        | free r => cases hn
        | putAck n => cases hn
        | data r o k' n x => cases hn
        | fwd o r wr n => cases hn
        | inv n r => cases hn
        | ack r => cases hn
def Sy.steps (c : Nat) : Nat → Sy → Sy
  | 0, Y => Y
  | n + 1, Y => Sy.steps c n (Y.step c)
/-- All that is ahead comes once. -/
theorem pass_ok {c l : Nat} (hc : c ≤ 4) (A : List (Nat × Mg)) : ∀ (Y : Sy) (B : List (Nat × Mg)), OkS c l Y → Y.M = A ++ B →
    (∃ n, n ≤ A.length ∧ (Sy.steps c n Y).w c l < Y.w c l ∧ OkS c l (Sy.steps c n Y)) ∨
    ∃ N, OkS c l (Sy.steps c A.length Y) ∧ (Sy.steps c A.length Y).M = B ++ N ∧ (Sy.steps c A.length Y).w c l = Y.w c l ∧ (∀ j, ((Sy.steps c A.length Y).li j).ph = (Y.li j).ph) ∧ (∀ x ∈ A, Y.idle x) ∧
      ((∀ x ∈ A, x.2.nacks = true) → N.length = A.length ∧ ∀ x ∈ N, x.2.asks = true) := by
  induction A with
  | nil => exact fun Y B h hM => .inr ⟨[], h, by rw [List.append_nil]; exact hM, rfl, fun _ => rfl, fun x hx => (by cases hx), fun _ => ⟨rfl, fun x hx => (by cases hx)⟩⟩
  | cons x A ih =>
    intro Y B h hM
    obtain ⟨k, m⟩ := x
    obtain ⟨h1, N, h2, h3⟩ := step_ok h hc k m (A ++ B) hM
    rcases h3 with h3 | ⟨h3, h4, h5, h6⟩
    · exact .inl ⟨1, by simp, h3, h1⟩
    · rcases ih (Y.step c) (B ++ N.map fun x => (k, x)) h1 (by rw [h2, List.append_assoc]) with ⟨n, e1, e2, e3⟩ | ⟨N', e1, e2, e3, e4, e5, e6⟩
      · exact .inl ⟨n + 1, by simp; omega, by rw [← h3]; exact e2, e3⟩
      · refine .inr ⟨N.map (fun x => (k, x)) ++ N', e1, ?_, e3.trans h3, fun j => (e4 j).trans (h4 j), fun x hx => ?_, fun hn => ?_⟩
        · rw [← List.append_assoc]; exact e2
        · rcases List.mem_cons.1 hx with rfl | hx
          · exact h5
          · rcases e5 x hx with e | ⟨e, e'⟩
            · exact .inl e
            · exact .inr ⟨by rw [← h4]; exact e, e'⟩
        · obtain ⟨y, hy, hya⟩ := h6 (hn (k, m) (List.mem_cons_self ..))
          obtain ⟨g1, g2⟩ := e6 (fun x hx => hn x (List.mem_cons_of_mem _ hx))
          subst hy
          refine ⟨by simp [g1], fun x hx => ?_⟩
          rcases List.mem_append.1 hx with hx | hx
          · simp at hx; subst hx; exact hya
          · exact g2 x hx
theorem steps_succ (c n : Nat) (Y : Sy) : Sy.steps c (n + 1) Y = (Sy.steps c n Y).step c := by
  induction n generalizing Y with
  | zero => rfl
  | succ n ih => show Sy.steps c (n + 1) (Y.step c) = _; rw [ih]; rfl
/-- Where something is on its way, the weight gets less before all of it, and one more, has come. -/
theorem gets_on {c l : Nat} {Y : Sy} (h : OkS c l Y) (hc : c ≤ 4) (hne : Y.M ≠ []) : ∃ n, n ≤ Y.M.length + 1 ∧ (Sy.steps c n Y).w c l < Y.w c l ∧ OkS c l (Sy.steps c n Y) := by
  rcases pass_ok hc Y.M Y [] h (by simp) with ⟨n, e1, e2, e3⟩ | ⟨N, e1, e2, e3, e4, e5, e6⟩
  · exact ⟨n, by omega, e2, e3⟩
  · have hidle : ∀ k, k < l → (Y.li k).ph = .idle := fun k hk => Classical.byContradiction fun hp => by
      obtain ⟨m, hm⟩ := busy_msgs (h.ok k hk) (h.set k hk) hp
      have ht := ph_turns hm
      have h1 : (k, m) ∈ Y.M := onLine_mem.1 ((h.perm k hk).mem_iff.2 (List.mem_append.2 (.inr hm)))
      rcases e5 (k, m) h1 with e | ⟨_, e⟩
      · cases m <;> first | (simp [Mg.turns] at ht; done) | (simp [Mg.nacks] at e; done) | (simp [Mg.asks] at e; done)
      · cases m <;> first | (simp [Mg.turns] at ht; done) | (simp [Mg.nacks] at e; done) | (simp [Mg.asks] at e; done)
    have hn : ∀ x ∈ Y.M, x.2.nacks = true := fun x hx => by
      rcases e5 x hx with e | ⟨e, _⟩
      · exact e
      · exact absurd (hidle x.1 (h.lines x hx)) e
    obtain ⟨g1, g2⟩ := e6 hn
    cases N with
    | nil => exact absurd (List.length_eq_zero_iff.1 g1.symm) hne
    | cons y N =>
      obtain ⟨k, m⟩ := y
      have hM : (Sy.steps c Y.M.length Y).M = (k, m) :: N := by rw [e2]; rfl
      obtain ⟨h1, N', h2, h3⟩ := step_ok e1 hc k m N hM
      refine ⟨Y.M.length + 1, Nat.le_refl _, ?_, by rw [steps_succ]; exact h1⟩
      rw [steps_succ]
      rcases h3 with h3 | ⟨_, _, h5, _⟩
      · omega
      · exfalso
        have ha : m.asks = true := g2 (k, m) (List.mem_cons_self ..)
        rcases h5 with e | ⟨e, _⟩
        · cases m <;> first | (simp [Mg.asks] at ha; done) | (simp [Mg.nacks] at e; done)
        · have hk := e1.lines (k, m) (by rw [hM]; simp)
          rw [e4] at e
          exact e (hidle k hk)
end Go.Proofs.YtmeomdfmljanhaaGreat.Pr
/- Layer 10's lines together: how much can be on its way, and how much can still come; plain values, no program in sight. -/
namespace Go.Proofs.YtmeomdfmljanhaaGreat.Pr
set_option linter.unusedVariables false

def Ph.small (c : Nat) : Ph → Prop
  | .turn r _ _ i a g => r < c ∧ i.length + a.length + g + 1 ≤ c
  | _ => True
theorem offs_succ (c n : Nat) (sh : Nat → Bool) : offs (c + 1) n sh = offs c n sh ++ if c ≠ n ∧ sh c = true then [c] else [] := by
  unfold offs
  rw [List.range_succ, List.filter_append]
  congr 1
  by_cases e : c = n <;> cases hs : sh c <;> simp [e, hs] <;> simp_all
theorem offs_len (c n : Nat) (sh : Nat → Bool) : (offs c n sh).length + (if n < c then 1 else 0) ≤ c := by
  induction c with
  | zero => simp [offs]
  | succ c ih =>
    rw [offs_succ, List.length_append]
    by_cases e : c = n
    · subst e
      rw [if_neg (by omega)] at ih
      rw [if_neg (fun h => h.1 rfl), if_pos (by omega)]
      simp; omega
    · have hl : (if c ≠ n ∧ sh c = true then [c] else []).length ≤ 1 := by split <;> simp
      by_cases h1 : n < c
      · rw [if_pos h1] at ih
        rw [if_pos (show n < c + 1 by omega)]
        omega
      · rw [if_neg h1] at ih
        rw [if_neg (show ¬ n < c + 1 by omega)]
        omega
theorem acked_small {L : Li} {c r : Nat} {wr : Bool} {d : Dt} {i a : List Nat} {g : Nat} (h : (Ph.turn r wr d i a g).small c) : (L.acked r wr d i a g).1.ph.small c := by
  unfold Li.acked
  cases d with
  | came own keep m x =>
    by_cases e : m ≤ g
    · simp only [if_pos e]; exact trivial
    · simp only [if_neg e]; exact h
  | fwd o m => exact h
  | data own keep m x => exact h
theorem del_small {L : Li} {c : Nat} (h : L.ph.small c) (m : Mg) (hm : m ∈ L.msgs c) : (L.del c m).1.ph.small c := by
  obtain ⟨s, v, q, own, sh, home, last, ph⟩ := L
  cases m with
  | get n wr =>
    obtain ⟨hn, _⟩ := mem_get hm
    cases ph with
    | idle =>
      have ho := offs_len c n sh
      rw [if_pos hn] at ho
      cases wr with
      | true => exact ⟨hn, by show (offs c n sh).length + 0 + 0 + 1 ≤ c; omega⟩
      | false =>
        show (if own = 0 ∧ offs c n sh = [] then _ else _ : Li × List Mg).1.ph.small c
        split
        · exact ⟨hn, by show 0 + 0 + 0 + 1 ≤ c; omega⟩
        · exact ⟨hn, by show 0 + 0 + 0 + 1 ≤ c; omega⟩
    | free r => exact trivial
    | turn r wr' d i a g => exact h
  | put n x => cases ph <;> exact h
  | free r => exact trivial
  | nack n =>
    show (match q n with | .nackG wr => _ | .nackP => _ | _ => _ : Li × List Mg).1.ph.small c
    split
    · exact h
    · split <;> exact h
    · exact h
  | putAck n => exact h
  | data r own keep m x =>
    cases ph with
    | idle => exact h
    | free r => exact h
    | turn r' wr d i a g =>
      obtain ⟨wr, i', a', g', e⟩ := mem_data hm
      cases e
      exact acked_small h
  | fwd o r wr m =>
    cases ph with
    | idle => exact h
    | free r => exact h
    | turn r' wr' d i a g =>
      obtain ⟨i', a', g', e⟩ := mem_fwd hm
      cases e
      exact h
  | inv n r =>
    cases ph with
    | idle => exact h
    | free r => exact h
    | turn r' wr d i a g =>
      obtain ⟨wr', d', i', a', g', e, hn⟩ := mem_inv hm
      cases e
      have h1 := List.length_erase_of_mem hn
      have h2 := List.length_pos_of_mem hn
      refine ⟨h.1, ?_⟩
      have h3 : i.length + a.length + g + 1 ≤ c := h.2
      show (i.erase n).length + (n :: a).length + g + 1 ≤ c
      rw [List.length_cons]; omega
  | ack r =>
    cases ph with
    | idle => exact h
    | free r => exact h
    | turn r' wr d i a g =>
      obtain ⟨wr', d', i', a', g', e, hn⟩ := mem_ack hm
      cases e
      refine acked_small ⟨h.1, ?_⟩
      have h3 : i.length + a.length + g + 1 ≤ c := h.2
      have h4 := List.length_pos_iff.2 hn
      rw [List.length_tail]; omega

def sm (f : Nat → Nat) : Nat → Nat
  | 0 => 0
  | n + 1 => sm f n + f n
theorem sm_succ (f : Nat → Nat) (n : Nat) : sm f (n + 1) = sm f n + f n := rfl
theorem sm_add (f g : Nat → Nat) (n : Nat) : sm (fun k => f k + g k) n = sm f n + sm g n := by
  induction n with
  | zero => rfl
  | succ n ih => simp only [sm_succ]; rw [ih]; omega
theorem sm_le (f : Nat → Nat) (n b : Nat) (h : ∀ k, k < n → f k ≤ b) : sm f n ≤ b * n := by
  induction n with
  | zero => exact Nat.le_refl _
  | succ n ih =>
    simp only [sm_succ]
    have h1 := ih (fun k hk => h k (by omega))
    have h2 := h n (by omega)
    rw [Nat.mul_succ]; omega
theorem sm_mono (f g : Nat → Nat) (n : Nat) (h : ∀ k, k < n → f k ≤ g k) : sm f n ≤ sm g n := by
  induction n with
  | zero => exact Nat.le_refl _
  | succ n ih =>
    simp only [sm_succ]
    have h1 := ih (fun k hk => h k (by omega))
    have h2 := h n (by omega)
    omega
theorem sm_comm (f : Nat → Nat → Nat) (c l : Nat) : sm (fun k => sm (fun n => f n k) c) l = sm (fun n => sm (fun k => f n k) l) c := by
  induction l with
  | zero =>
    show 0 = sm (fun n => 0) c
    have := sm_le (fun n => 0) c 0 (fun _ _ => Nat.le_refl _)
    omega
  | succ l ih =>
    show sm (fun k => sm (fun n => f n k) c) l + sm (fun n => f n l) c = sm (fun n => sm (fun k => f n k) l + f n l) c
    rw [ih, sm_add]
theorem sm_one (g : Nat → Nat) (l b : Nat) (hb : ∀ k, k < l → g k ≤ b) (h : ∀ j k, j < l → k < l → g j ≠ 0 → g k ≠ 0 → j = k) : sm g l ≤ b := by
  induction l with
  | zero => exact Nat.zero_le _
  | succ l ih =>
    simp only [sm_succ]
    by_cases e : g l = 0
    · have := ih (fun k hk => hb k (by omega)) (fun j k hj hk => h j k (by omega) (by omega))
      omega
    · have := sm_le g l 0 (fun k hk => Classical.byContradiction fun h0 => by
        have := h k l (by omega) (by omega) (by omega) e
        omega)
      have := hb l (by omega)
      omega
theorem sm_at (n c b : Nat) (hn : n < c) : b ≤ sm (fun k => if k = n then b else 0) c := by
  induction c with
  | zero => omega
  | succ c ih =>
    simp only [sm_succ]
    by_cases e : c = n
    · simp [e]
    · have := ih (by omega); omega
/-- A core waits for one line at most: so all that cores cost, of all lines, is bounded by the cores; and 1 for each line that is free. -/
theorem cost_le {c l b : Nat} {Y : Sy} (h : OkS c l Y) (hs : ∀ k, k < l → (Y.li k).ph.small c) (qa : Rq → Nat) (pa : Ph → Nat) (h0 : qa .no = 0) (hq : ∀ x, qa x ≤ b) (hi : pa .idle = 0) (hf : ∀ r, pa (.free r) ≤ 1)
    (ht : ∀ r wr d i a g, (Ph.turn r wr d i a g).small c → pa (.turn r wr d i a g) ≤ b) : sm (fun k => sm (fun n => qa ((Y.li k).q n)) c + pa (Y.li k).ph) l ≤ b * c + l := by
  let tn : Ph → Nat → Nat := fun p n => match p with
    | .turn r _ _ _ _ _ => if n = r then b else 0
    | _ => 0
  have h1 : ∀ k, k < l → sm (fun n => qa ((Y.li k).q n)) c + pa (Y.li k).ph ≤ sm (fun n => qa ((Y.li k).q n) + tn (Y.li k).ph n) c + 1 := fun k hk => by
    rw [sm_add]
    have hsk := hs k hk
    cases e : (Y.li k).ph with
    | idle => rw [hi]; omega
    | free r => have := hf r; omega
    | turn r wr d i a g =>
      rw [e] at hsk
      have h2 := ht r wr d i a g hsk
      have h3 : b ≤ sm (fun n => tn (.turn r wr d i a g) n) c := sm_at r c b hsk.1
      have h4 : sm (fun n => qa ((Y.li k).q n)) c + pa (.turn r wr d i a g) ≤ sm (fun n => qa ((Y.li k).q n)) c + sm (fun n => tn (.turn r wr d i a g) n) c + 1 := by omega
      exact h4
  have h2 := sm_mono _ _ l h1
  have h3 : sm (fun k => sm (fun n => qa ((Y.li k).q n) + tn (Y.li k).ph n) c + 1) l = sm (fun k => sm (fun n => qa ((Y.li k).q n) + tn (Y.li k).ph n) c) l + sm (fun _ => 1) l := sm_add _ (fun _ => 1) l
  have h4 : sm (fun _ => 1) l ≤ 1 * l := sm_le _ l 1 (fun _ _ => Nat.le_refl _)
  have h5 := sm_comm (fun n k => qa ((Y.li k).q n) + tn (Y.li k).ph n) c l
  have hz : ∀ n k, k < l → qa ((Y.li k).q n) + tn (Y.li k).ph n ≠ 0 → (Y.li k).waits n := fun n k hk hne => by
    by_cases e : (Y.li k).q n = .no
    · rw [e, h0] at hne
      cases e2 : (Y.li k).ph with
      | idle => rw [e2] at hne; exact absurd rfl hne
      | free r => rw [e2] at hne; exact absurd rfl hne
      | turn r wr d i a g =>
        rw [e2] at hne
        by_cases e3 : n = r
        · subst e3; exact .inr ⟨wr, d, i, a, g, e2⟩
        · exact absurd (by show 0 + (if n = r then b else 0) = 0; rw [if_neg e3]) hne
    · exact .inl e
  have h6 : sm (fun n => sm (fun k => qa ((Y.li k).q n) + tn (Y.li k).ph n) l) c ≤ b * c := sm_le _ c b fun n hn => sm_one _ l b (fun k hk => by
      cases e2 : (Y.li k).ph with
      | idle => exact hq _
      | free r => exact hq _
      | turn r wr d i a g =>
        show qa ((Y.li k).q n) + (if n = r then b else 0) ≤ b
        by_cases e3 : n = r
        · subst e3; rw [(h.ok k hk).turnQ n wr d i a g e2, h0]; simp
        · rw [if_neg e3]; exact hq _) fun j k hj hk a1 a2 => h.one n j k hj hk (hz n j hj a1) (hz n k hk a2)
  omega
theorem asksW_sm (q : Nat → Rq) (c : Nat) : asksW q c = sm (fun n => (q n).w) c := by
  induction c with
  | zero => rfl
  | succ c ih => rw [sm_succ, ← ih]; rfl
def Rq.cnt : Rq → Nat
  | .no => 0
  | _ => 1
theorem asks_sm (q : Nat → Rq) (c : Nat) : (asks q c).length = sm (fun n => (q n).cnt) c := by
  induction c with
  | zero => rfl
  | succ c ih =>
    rw [asks_succ, List.length_append, ih]
    rw [sm_succ]
    have : ((q c).msgs c).length = (q c).cnt := by cases q c <;> rfl
    omega
theorem w_sm (c : Nat) (Y : Sy) (l : Nat) : Y.w c l = sm (fun k => sm (fun n => ((Y.li k).q n).w) c + (Y.li k).ph.w) l := by
  induction l with
  | zero => rfl
  | succ l ih => rw [sm_succ, ← ih, ← asksW_sm]; rfl
theorem onLine_sm (M : List (Nat × Mg)) (l : Nat) (h : ∀ x ∈ M, x.1 < l) : M.length = sm (fun k => (onLine k M).length) l := by
  induction M with
  | nil =>
    have := sm_le (fun k => (onLine k ([] : List (Nat × Mg))).length) l 0 (fun k hk => Nat.le_refl _)
    simp only [List.length_nil]; omega
  | cons x M ih =>
    obtain ⟨j, m⟩ := x
    have h1 := ih (fun x hx => h x (List.mem_cons_of_mem _ hx))
    have hj : j < l := h (j, m) (List.mem_cons_self ..)
    have h2 : ∀ n, sm (fun k => (onLine k ((j, m) :: M)).length) n = sm (fun k => (onLine k M).length) n + if j < n then 1 else 0 := fun n => by
      induction n with
      | zero => rfl
      | succ n ihn =>
        rw [sm_succ, sm_succ, ihn]
        by_cases e : j = n
        · subst e
          rw [onLine_cons_same, if_neg (by omega), if_pos (by omega), List.length_cons]; omega
        · rw [onLine_cons_other e]
          by_cases e2 : j < n
          · rw [if_pos e2, if_pos (by omega)]; omega
          · rw [if_neg e2, if_neg (by omega)]; omega
    rw [h2, if_pos hj, List.length_cons]; omega
/-- At most 20 are on their way. -/
theorem msgs_le {c l : Nat} {Y : Sy} (h : OkS c l Y) (hc : c ≤ 4) (hl : l ≤ 4) (hs : ∀ k, k < l → (Y.li k).ph.small c) : Y.M.length ≤ 20 := by
  have h1 := onLine_sm Y.M l h.lines
  have h2 := sm_mono (fun k => (onLine k Y.M).length) (fun k => sm (fun n => ((Y.li k).q n).cnt) c + (Y.li k).ph.msgs.length) l (fun k hk => by
    show (onLine k Y.M).length ≤ _
    rw [(h.perm k hk).length_eq]
    unfold Li.msgs
    rw [List.length_append, asks_sm]
    exact Nat.le_refl _)
  have h3 := cost_le (b := 4) h hs Rq.cnt (fun p => p.msgs.length) rfl (fun x => by cases x <;> simp [Rq.cnt]) rfl (fun r => by simp [Ph.msgs]) (fun r wr d i a g hp => by
    have h4 : i.length + a.length + g + 1 ≤ c := hp.2
    cases d <;> simp [Ph.msgs, Dt.msgs] <;> omega)
  omega
theorem w_le {c l : Nat} {Y : Sy} (h : OkS c l Y) (hc : c ≤ 4) (hl : l ≤ 4) (hs : ∀ k, k < l → (Y.li k).ph.small c) : Y.w c l ≤ 48 := by
  have h3 := cost_le (b := 11) h hs Rq.w Ph.w rfl (fun x => by cases x <;> simp [Rq.w]) rfl (fun r => by simp [Ph.w]) (fun r wr d i a g hp => by
    have h4 : i.length + a.length + g + 1 ≤ c := hp.2
    cases d <;> simp [Ph.w, Dt.w] <;> omega)
  rw [w_sm]
  omega
theorem step_small {c l : Nat} {Y : Sy} (h : OkS c l Y) (hs : ∀ k, k < l → (Y.li k).ph.small c) : ∀ k, k < l → ((Y.step c).li k).ph.small c := fun j hj => by
  cases e : Y.M with
  | nil => have : Y.step c = Y := by unfold Sy.step; rw [e]
           rw [this]; exact hs j hj
  | cons x M2 =>
    obtain ⟨k, m⟩ := x
    have hst : Y.step c = Y.del c k m [] M2 := by unfold Sy.step; rw [e]
    have hk : k < l := h.lines (k, m) (by rw [e]; simp)
    have hm : m ∈ (Y.li k).msgs c := (h.perm k hk).mem_iff.1 (onLine_mem.2 (by rw [e]; simp))
    rw [hst]
    show (upd Y.li k _ j).ph.small c
    by_cases e2 : j = k
    · subst e2; rw [upd_same]; exact del_small (hs j hj) m hm
    · rw [upd_ne _ _ e2]; exact hs j hj
theorem step_keeps {c l : Nat} {Y : Sy} (h : OkS c l Y) (hc : c ≤ 4) : OkS c l (Y.step c) := by
  cases e : Y.M with
  | nil => have : Y.step c = Y := by unfold Sy.step; rw [e]
           rw [this]; exact h
  | cons x M2 =>
    obtain ⟨k, m⟩ := x
    exact (step_ok h hc k m M2 e).1
theorem steps_keep {c l : Nat} (hc : c ≤ 4) (n : Nat) (Y : Sy) (h : OkS c l Y) (hs : ∀ k, k < l → (Y.li k).ph.small c) : OkS c l (Sy.steps c n Y) ∧ ∀ k, k < l → ((Sy.steps c n Y).li k).ph.small c := by
  induction n generalizing Y with
  | zero => exact ⟨h, hs⟩
  | succ n ih => exact ih (Y.step c) (step_keeps h hc) (step_small h hs)
theorem steps_add (c m n : Nat) (Y : Sy) : Sy.steps c (m + n) Y = Sy.steps c n (Sy.steps c m Y) := by
  induction m generalizing Y with
  | zero => rw [Nat.zero_add]; rfl
  | succ m ih => rw [Nat.succ_add]; exact ih (Y.step c)
/-- The first one first: all comes. -/
theorem ends {c l : Nat} (hc : c ≤ 4) (hl : l ≤ 4) (w : Nat) : ∀ Y : Sy, OkS c l Y → (∀ k, k < l → (Y.li k).ph.small c) → Y.w c l ≤ w → ∃ n, n ≤ 21 * w ∧ (Sy.steps c n Y).M = [] := by
  induction w with
  | zero =>
    intro Y h hs hw
    refine ⟨0, Nat.le_refl _, Classical.byContradiction fun hne => ?_⟩
    obtain ⟨n, _, h2, _⟩ := gets_on h hc hne
    omega
  | succ w ih =>
    intro Y h hs hw
    by_cases hne : Y.M = []
    · exact ⟨0, Nat.zero_le _, hne⟩
    · obtain ⟨n, h1, h2, h3⟩ := gets_on h hc hne
      obtain ⟨k1, k2⟩ := steps_keep hc n Y h hs
      obtain ⟨n', h4, h5⟩ := ih (Sy.steps c n Y) k1 k2 (by omega)
      have := msgs_le h hc hl hs
      exact ⟨n + n', by omega, by rw [steps_add]; exact h5⟩
/-- So 1008 are enough. -/
theorem comes {c l : Nat} {Y : Sy} (hc : c ≤ 4) (hl : l ≤ 4) (h : OkS c l Y) (hs : ∀ k, k < l → (Y.li k).ph.small c) : ∃ n, n ≤ 1008 ∧ (Sy.steps c n Y).M = [] := ends hc hl 48 Y h hs (w_le h hc hl hs)
end Go.Proofs.YtmeomdfmljanhaaGreat.Pr
/- Layer 10's lines together: whoever asks has it then; whoever gives back leaves the word at home; plain values, no program in sight. -/
namespace Go.Proofs.YtmeomdfmljanhaaGreat.Pr
set_option linter.unusedVariables false

/-- One that asked is asking yet, or in turn, or has the line. -/
def Li.toHas (L : Li) (n : Nat) (wr : Bool) : Prop :=
  L.q n = .get wr ∨ L.q n = .nackG wr ∨ (∃ d i a g, L.ph = .turn n wr d i a g) ∨ (¬ L.waits n ∧ L.s n ≠ 0 ∧ (wr = true → L.s n = 3))
theorem toHas_get {L : Li} (h : Ok L) {n : Nat} {wr : Bool} (ht : L.toHas n wr) (hq : L.q n ≠ .no) : L.q n = .get wr ∨ L.q n = .nackG wr := by
  rcases ht with e | e | ⟨d, i, a, g, e⟩ | ⟨e, _⟩
  · exact .inl e
  · exact .inr e
  · exact absurd (h.turnQ n wr d i a g e) hq
  · exact absurd (.inl hq) e
theorem toHas_turn {L : Li} (h : Ok L) {n : Nat} {wr wr' : Bool} {d : Dt} {i a : List Nat} {g : Nat} (ht : L.toHas n wr) (hp : L.ph = .turn n wr' d i a g) : wr' = wr := by
  have hq := h.turnQ n wr' d i a g hp
  rcases ht with e | e | ⟨d', i', a', g', e⟩ | ⟨e, _⟩
  · rw [hq] at e; cases e
  · rw [hq] at e; cases e
  · rw [hp] at e; cases e; rfl
  · exact absurd (.inr ⟨_, _, _, _, _, hp⟩) e
theorem toHas_acked {L : Li} (h : Ok L) {n : Nat} {wr : Bool} {d d' : Dt} {i a i' a' : List Nat} {g g' : Nat} (hp : L.ph = .turn n wr d i a g) : (L.acked n wr d' i' a' g').1.toHas n wr := by
  have hq := h.turnQ n wr d i a g hp
  unfold Li.acked
  cases d' with
  | came own keep m x =>
    by_cases e : m ≤ g'
    · simp only [if_pos e]
      have hs : (L.done n wr own keep x).s n = if wr then 3 else if own then 2 else 1 := upd_same _ _ _
      refine .inr (.inr (.inr ⟨fun hw => ?_, ?_, fun e => ?_⟩))
      · rcases hw with k | ⟨_, _, _, _, _, k⟩
        · exact k hq
        · cases k
      · rw [hs]; cases wr <;> cases own <;> decide
      · rw [hs, e]; rfl
    · simp only [if_neg e]; exact .inr (.inr (.inl ⟨_, _, _, _, rfl⟩))
  | fwd o m => exact .inr (.inr (.inl ⟨_, _, _, _, rfl⟩))
  | data own keep m x => exact .inr (.inr (.inl ⟨_, _, _, _, rfl⟩))
theorem del_toHas {L : Li} {c n : Nat} {wr : Bool} (h : Ok L) (m : Mg) (hm : m ∈ L.msgs c) (ho : ∀ i, L.waits i → i = n) (ht : L.toHas n wr) : (L.del c m).1.toHas n wr := by
  cases m with
  | get i wr' =>
    obtain ⟨_, hq⟩ := mem_get hm
    have hi : i = n := ho i (.inl (by rw [hq]; exact fun e => by cases e))
    subst hi
    have hw : wr' = wr := by
      rcases toHas_get h ht (by rw [hq]; exact fun e => by cases e) with e | e <;> rw [hq] at e <;> cases e
      rfl
    subst hw
    cases e : L.ph with
    | idle =>
      have e1 : L.del c (.get i wr') = if wr' then L.write c i else if L.own = 0 ∧ offs c i L.sh = [] then L.lone i else L.read i := by simp only [Li.del, e]
      rw [e1]
      cases wr' with
      | true => exact .inr (.inr (.inl ⟨_, _, _, _, rfl⟩))
      | false =>
        rw [if_neg (by decide)]
        split <;> exact .inr (.inr (.inl ⟨_, _, _, _, rfl⟩))
    | free r =>
      have e1 : L.del c (.get i wr') = ({ L with q := upd L.q i (.nackG wr') }, [.nack i]) := by simp only [Li.del, e]
      rw [e1]; exact .inr (.inl (upd_same _ _ _))
    | turn r w d i' a g =>
      have e1 : L.del c (.get i wr') = ({ L with q := upd L.q i (.nackG wr') }, [.nack i]) := by simp only [Li.del, e]
      rw [e1]; exact .inr (.inl (upd_same _ _ _))
  | put i x =>
    exfalso
    obtain ⟨_, hq⟩ := mem_put hm
    have hi : i = n := ho i (.inl (by rw [hq]; exact fun e => by cases e))
    subst hi
    rcases toHas_get h ht (by rw [hq]; exact fun e => by cases e) with e | e <;> rw [hq] at e <;> cases e
  | putAck i =>
    exfalso
    obtain ⟨_, hq⟩ := mem_putAck hm
    have hi : i = n := ho i (.inl (by rw [hq]; exact fun e => by cases e))
    subst hi
    rcases toHas_get h ht (by rw [hq]; exact fun e => by cases e) with e | e <;> rw [hq] at e <;> cases e
  | free r =>
    have hp := mem_free hm
    rcases ht with e | e | ⟨d, i, a, g, e⟩ | ⟨e1, e2, e3⟩
    · exact .inl e
    · exact .inr (.inl e)
    · rw [hp] at e; cases e
    · refine .inr (.inr (.inr ⟨fun hw => ?_, e2, e3⟩))
      rcases hw with k | ⟨_, _, _, _, _, k⟩
      · exact e1 (.inl k)
      · cases k
  | nack i =>
    obtain ⟨_, hq⟩ := mem_nack hm
    have hne : L.q i ≠ .no := by rcases hq with e | e | e <;> rw [e] <;> exact fun k => by cases k
    have hi : i = n := ho i (.inl hne)
    subst hi
    rcases toHas_get h ht hne with e | e
    · rcases hq with k | k | k <;> rw [e] at k <;> cases k
    · have e1 : L.del c (.nack i) = ({ L with q := upd L.q i (.get wr) }, [.get i wr]) := by simp only [Li.del, e]
      rw [e1]; exact .inl (upd_same _ _ _)
  | data r own keep need x =>
    obtain ⟨w, i, a, g, hp⟩ := mem_data hm
    have hr : r = n := ho r (.inr ⟨_, _, _, _, _, hp⟩)
    subst hr
    have hw := toHas_turn h ht hp
    subst hw
    have e1 : L.del c (.data r own keep need x) = L.acked r w (.came own keep need x) i a g := by simp only [Li.del, hp]
    rw [e1]; exact toHas_acked h hp
  | fwd o r w need =>
    obtain ⟨i, a, g, hp⟩ := mem_fwd hm
    have hr : r = n := ho r (.inr ⟨_, _, _, _, _, hp⟩)
    subst hr
    have hw := toHas_turn h ht hp
    subst hw
    simp only [Li.del, hp]
    exact .inr (.inr (.inl ⟨_, _, _, _, rfl⟩))
  | inv j r =>
    obtain ⟨w, d, i, a, g, hp, _⟩ := mem_inv hm
    have hr : r = n := ho r (.inr ⟨_, _, _, _, _, hp⟩)
    subst hr
    have hw := toHas_turn h ht hp
    subst hw
    simp only [Li.del, hp]
    exact .inr (.inr (.inl ⟨_, _, _, _, rfl⟩))
  | ack r =>
    obtain ⟨w, d, i, a, g, hp, _⟩ := mem_ack hm
    have hr : r = n := ho r (.inr ⟨_, _, _, _, _, hp⟩)
    subst hr
    have hw := toHas_turn h ht hp
    subst hw
    have e1 : L.del c (.ack r) = L.acked r w d i a.tail (g + 1) := by simp only [Li.del, hp]
    rw [e1]; exact toHas_acked h hp
/-- Just one core waits, for one line, that it asked for; or it has it. -/
structure Alone (l k n : Nat) (wr : Bool) (Y : Sy) : Prop where
  only : ∀ j, j < l → ∀ i, (Y.li j).waits i → j = k ∧ i = n
  to : (Y.li k).toHas n wr
theorem step_alone {c l k n : Nat} {wr : Bool} {Y : Sy} (h : OkS c l Y) (hk : k < l) (ha : Alone l k n wr Y) : Alone l k n wr (Y.step c) := by
  cases e : Y.M with
  | nil => have : Y.step c = Y := by unfold Sy.step; rw [e]
           rw [this]; exact ha
  | cons x M2 =>
    obtain ⟨j, m⟩ := x
    have hst : Y.step c = Y.del c j m [] M2 := by unfold Sy.step; rw [e]
    have hj : j < l := h.lines (j, m) (by rw [e]; simp)
    have hm : m ∈ (Y.li j).msgs c := (h.perm j hj).mem_iff.1 (onLine_mem.2 (by rw [e]; simp))
    rw [hst]
    refine ⟨fun j' hj' i hi => ?_, ?_⟩
    · have hi : (upd Y.li j ((Y.li j).del c m).1 j').waits i := hi
      by_cases e2 : j' = j
      · subst e2; rw [upd_same] at hi; exact ha.only j' hj' i (del_waits m hm i hi)
      · rw [upd_ne _ _ e2] at hi; exact ha.only j' hj' i hi
    · show (upd Y.li j _ k).toHas n wr
      by_cases e2 : k = j
      · subst e2
        rw [upd_same]
        exact del_toHas (h.ok k hk) m hm (fun i hi => (ha.only k hk i hi).2) ha.to
      · rw [upd_ne _ _ e2]; exact ha.to
theorem steps_alone {c l k n : Nat} {wr : Bool} (hc : c ≤ 4) (hk : k < l) (N : Nat) (Y : Sy) (h : OkS c l Y) (ha : Alone l k n wr Y) : Alone l k n wr (Sy.steps c N Y) := by
  induction N generalizing Y with
  | zero => exact ha
  | succ N ih => exact ih (Y.step c) (step_keeps h hc) (step_alone h hk ha)
/-- Nothing on its way: nobody waits, no line is busy. -/
theorem quiet {c l : Nat} {Y : Sy} (h : OkS c l Y) (hM : Y.M = []) : ∀ k, k < l → (Y.li k).ph = .idle ∧ ∀ n, ¬ (Y.li k).waits n := fun k hk => by
  have hm : (Y.li k).msgs c = [] := by
    have := h.perm k hk
    rw [hM] at this
    exact this.symm.eq_nil
  obtain ⟨h1, h2⟩ := still_of_none (h.ok k hk) (h.set k hk) hm
  refine ⟨h1, fun n hn => ?_⟩
  rcases hn with e | ⟨_, _, _, _, _, e⟩
  · rcases Nat.lt_or_ge n c with k1 | k1
    · exact e (h2 n k1)
    · exact e ((h.fits k hk).q n k1)
  · rw [h1] at e; cases e
/-- Who asks, where nothing is on its way, has it when all has come, with the word that was set last. -/
theorem asked {c l : Nat} {Y : Sy} (hc : c ≤ 4) (hl : l ≤ 4) (h : OkS c l Y) (hs : ∀ k, k < l → (Y.li k).ph.small c) (hM : Y.M = []) (k n : Nat) (wr : Bool) (hk : k < l) (hn : n < c)
    (hh : if wr then (Y.li k).s n ≠ 2 ∧ (Y.li k).s n ≠ 3 else (Y.li k).s n = 0) (N : Nat)
    (hN : (Sy.steps c N ⟨upd Y.li k { Y.li k with q := upd (Y.li k).q n (.get wr) }, Y.M ++ [(k, .get n wr)]⟩).M = []) :
    ∀ Z, Z = (Sy.steps c N ⟨upd Y.li k { Y.li k with q := upd (Y.li k).q n (.get wr) }, Y.M ++ [(k, .get n wr)]⟩).li k → Z.s n ≠ 0 ∧ (wr = true → Z.s n = 3) ∧ Z.v n = Z.last := by
  intro Z hZ
  have hq := quiet h hM
  have h1 := h.want k n wr hk hn (fun j hj => (hq j hj).2 n) hh
  have ha : Alone l k n wr ⟨upd Y.li k { Y.li k with q := upd (Y.li k).q n (.get wr) }, Y.M ++ [(k, .get n wr)]⟩ := by
    refine ⟨fun j hj i hi => ?_, .inl ?_⟩
    · have hi : (upd Y.li k { Y.li k with q := upd (Y.li k).q n (.get wr) } j).waits i := hi
      by_cases e : j = k
      · subst e
        rw [upd_same] at hi
        refine ⟨rfl, Classical.byContradiction fun e2 => (hq j hj).2 i ?_⟩
        rcases hi with k1 | k1
        · have k1 : upd (Y.li j).q n (.get wr) i ≠ .no := k1
          rw [upd_ne _ _ e2] at k1; exact .inl k1
        · exact .inr k1
      · rw [upd_ne _ _ e] at hi; exact absurd hi ((hq j hj).2 i)
    · show (upd Y.li k _ k).q n = _
      rw [upd_same]; exact upd_same _ _ _
  have hs1 : ∀ j, j < l → ((Sy.mk (upd Y.li k { Y.li k with q := upd (Y.li k).q n (.get wr) }) (Y.M ++ [(k, .get n wr)])).li j).ph.small c := fun j hj => by
    show (upd Y.li k _ j).ph.small c
    by_cases e : j = k
    · subst e; rw [upd_same]; exact hs j hj
    · rw [upd_ne _ _ e]; exact hs j hj
  have h2 := (steps_keep hc N _ h1 hs1).1
  have h3 := steps_alone hc hk N _ h1 ha
  obtain ⟨k1, k2⟩ := quiet h2 hN k hk
  rw [← hZ] at k1 k2
  have h4 := h3.to
  rw [← hZ] at h4
  rcases h4 with e | e | ⟨d, i, a, g, e⟩ | ⟨e1, e2, e3⟩
  · exact absurd (.inl (by rw [e]; exact fun x => by cases x)) (k2 n)
  · exact absurd (.inl (by rw [e]; exact fun x => by cases x)) (k2 n)
  · exact absurd (.inr ⟨_, _, _, _, _, e⟩) (k2 n)
  · refine ⟨e2, e3, ?_⟩
    have h5 := (h2.ok k hk).reads n (by rw [← hZ]; exact e2) (by rw [← hZ]; exact e1)
    rw [← hZ] at h5; exact h5
end Go.Proofs.YtmeomdfmljanhaaGreat.Pr
/- Layer 10's lines together: a line that its owner gives back is at home; plain values, no program in sight. -/
namespace Go.Proofs.YtmeomdfmljanhaaGreat.Pr
set_option linter.unusedVariables false

theorem step_cons {c : Nat} (li : Nat → Li) (k : Nat) (m : Mg) (M2 : List (Nat × Mg)) : (Sy.mk li ((k, m) :: M2)).step c = ⟨upd li k ((li k).del c m).1, M2 ++ ((li k).del c m).2.map fun x => (k, x)⟩ := by
  show Sy.del c _ k m [] M2 = _
  unfold Sy.del
  rw [List.nil_append]
/-- The owner of a line gives it back, where nothing is on its way: two come, and it is at home. -/
theorem gave {c l : Nat} {Y : Sy} (hc : c ≤ 4) (h : OkS c l Y) (hM : Y.M = []) (k n : Nat) (hk : k < l) (hn : n < c) (hs : 2 ≤ (Y.li k).s n) :
    ∀ Z, Z = Sy.steps c 2 ⟨upd Y.li k { Y.li k with q := upd (Y.li k).q n (.put ((Y.li k).v n)) }, Y.M ++ [(k, .put n ((Y.li k).v n))]⟩ →
      Z.M = [] ∧ (Z.li k).own = 0 ∧ (Z.li k).home = (Y.li k).last ∧ (Z.li k).last = (Y.li k).last ∧ (Z.li k).s n = 0 ∧ (∀ m, m ≠ n → (Z.li k).s m = (Y.li k).s m) ∧ (Z.li k).v = (Y.li k).v ∧ (Z.li k).sh = (Y.li k).sh ∧ (∀ j, j ≠ k → Z.li j = Y.li j) := by
  intro Z hZ
  obtain ⟨hi, hw⟩ := quiet h hM k hk
  have ho := h.ok k hk
  have hq : (Y.li k).q n = .no := (no_waits (hw n)).1
  have htop : (Y.li k).top = some n := by
    rcases ho.high n hs with e | e | e
    · exact e
    · rw [hq] at e; cases e
    · obtain ⟨⟨_, _, _, _, _, _, e | e⟩, _⟩ := e <;> rw [hi] at e <;> cases e
  have hown : (Y.li k).own = n + 1 := (Li.top_own (fun r wr d i a g e => by rw [hi] at e; cases e) n).1 htop
  have hv : (Y.li k).v n = (Y.li k).last := (ho.top n htop).2.1
  generalize hL : Y.li k = L at *
  obtain ⟨s, v, q, own, sh, home, last, ph⟩ := L
  simp only at hi hq hown hv hs
  subst hi
  have e1 : (Sy.mk (upd Y.li k ⟨s, v, upd q n (.put (v n)), own, sh, home, last, .idle⟩) [(k, .put n (v n))]).step c = ⟨upd (upd Y.li k ⟨s, v, upd q n (.put (v n)), own, sh, home, last, .idle⟩) k ⟨s, v, upd (upd q n (.put (v n))) n .putAck, 0, sh, v n, last, .idle⟩, [(k, .putAck n)]⟩ := by
    rw [step_cons, upd_same]
    simp only [Li.del, if_pos hown, List.nil_append, List.map_cons, List.map_nil]
  have e2 : Z = ⟨upd (upd (upd Y.li k ⟨s, v, upd q n (.put (v n)), own, sh, home, last, .idle⟩) k ⟨s, v, upd (upd q n (.put (v n))) n .putAck, 0, sh, v n, last, .idle⟩) k ⟨upd s n 0, v, upd (upd (upd q n (.put (v n))) n .putAck) n .no, 0, sh, v n, last, .idle⟩, []⟩ := by
    rw [hZ, hM]
    show Sy.step c (Sy.step c _) = _
    rw [List.nil_append]
    rw [e1, step_cons, upd_same]
    simp only [Li.del, List.nil_append, List.map_nil]
  rw [e2]
  simp only [upd_same]
  refine ⟨trivial, trivial, hv, trivial, trivial, fun m hm => upd_ne _ _ hm, trivial, trivial, fun j hj => ?_⟩
  rw [upd_ne _ _ hj, upd_ne _ _ hj, upd_ne _ _ hj]
end Go.Proofs.YtmeomdfmljanhaaGreat.Pr
/- Layer 10: a system in plain values, as the document says what it does; and when it is what the lines say. No program in sight. -/
namespace Go.Proofs.YtmeomdfmljanhaaGreat.Pr
set_option linter.unusedVariables false

/-- A message, in plain values. -/
structure Fm where
  kind : Nat
  frm : Nat
  to : Nat
  line : Nat
  fr : Nat
  acks : Nat
  own : Bool
  num : Nat
  val : Nat
/-- What a core waits for, in plain values. -/
structure Wt where
  line : Nat
  write : Bool
  back : Bool
  came : Bool
  own : Bool
  keep : Bool
  need : Nat
  got : Nat
  val : Nat
def Wt.none : Wt := ⟨0, false, false, false, false, false, 0, 0, 0⟩
/-- A system but for what is under way: of cores and lines, what waits, home, the directory, who is busy. -/
structure Fs where
  st : Nat → Nat → Nat
  va : Nat → Nat → Nat
  wt : Nat → Wt
  home : Nat → Nat
  own : Nat → Nat
  sh : Nat → Nat → Bool
  busy : Nat → Nat
def upd2 {α : Type} (f : Nat → Nat → α) (n k : Nat) (x : α) : Nat → Nat → α := upd f n (upd (f n) k x)
def Fs.state (F : Fs) (n k s : Nat) : Fs := { F with st := upd2 F.st n k s }
def Fs.value (F : Fs) (n k w : Nat) : Fs := { F with va := upd2 F.va n k w }
def Fs.wait (F : Fs) (n : Nat) (w : Wt) : Fs := { F with wt := upd F.wt n w }
/-- What a core waits for is asked for. -/
def Fs.asked (F : Fs) (n : Nat) : Fm :=
  if (F.wt n).back then ⟨8, n + 1, 0, (F.wt n).line - 1, 0, 0, false, 0, F.va n ((F.wt n).line - 1)⟩
  else if (F.wt n).write then ⟨2, n + 1, 0, (F.wt n).line - 1, n + 1, 0, false, 0, 0⟩
  else ⟨1, n + 1, 0, (F.wt n).line - 1, n + 1, 0, false, 0, 0⟩
def Fs.dataTo (k r need : Nat) (own : Bool) (num x frm : Nat) : Fm := ⟨3, frm, r, k, 0, need, own, num, x⟩
/-- A request at home, of a line that isn't busy: of core n, to read. -/
def Fs.reads (F : Fs) (c n k : Nat) : Fs × List Fm :=
  if F.own k = 0 ∧ offs c n (F.sh k) = [] then ({ F with busy := upd F.busy k (n + 1), own := upd F.own k (n + 1), sh := upd F.sh k fun _ => false }, [⟨3, 0, n + 1, k, 0, 0, true, 0, F.home k⟩])
  else ({ F with busy := upd F.busy k (n + 1), sh := upd F.sh k (upd (F.sh k) n true) }, if F.own k = 0 then [⟨3, 0, n + 1, k, 0, 0, false, 0, F.home k⟩] else [⟨6, 0, F.own k, k, n + 1, 0, false, 0, 0⟩])
/-- A request at home, of a line that isn't busy: of core n, to write. -/
def Fs.writes (F : Fs) (c n k : Nat) : Fs × List Fm :=
  ({ F with busy := upd F.busy k (n + 1), own := upd F.own k (n + 1), sh := upd F.sh k fun _ => false },
    (offs c n (F.sh k)).map (fun m => ⟨4, 0, m + 1, k, n + 1, 0, false, 0, 0⟩) ++ (if F.own k = 0 then [⟨3, 0, n + 1, k, 0, (offs c n (F.sh k)).length, true, 0, F.home k⟩] else if F.own k = n + 1 then [⟨3, 0, n + 1, k, 0, (offs c n (F.sh k)).length, true, 1, 0⟩] else [⟨7, 0, F.own k, k, n + 1, (offs c n (F.sh k)).length, false, 0, 0⟩]))
def Fs.atHome (F : Fs) (c : Nat) (m : Fm) : Fs × List Fm :=
  if m.kind = 1 ∨ m.kind = 2 then
    if m.fr = m.frm then
      if F.busy m.line = 0 then (if m.kind = 2 then F.writes c (m.frm - 1) m.line else F.reads c (m.frm - 1) m.line) else (F, [⟨10, 0, m.frm, m.line, 0, 0, false, 0, 0⟩])
    else (F, [])
  else if m.kind = 8 then
    if F.busy m.line = 0 then ({ F with own := upd F.own m.line (if F.own m.line = m.frm then 0 else F.own m.line), home := upd F.home m.line (if F.own m.line = m.frm then m.val else F.home m.line) }, [⟨9, 0, m.frm, m.line, 0, 0, false, 0, 0⟩])
    else (F, [⟨10, 0, m.frm, m.line, 0, 0, false, 0, 0⟩])
  else if m.kind = 11 ∧ F.busy m.line = m.frm then ({ F with busy := upd F.busy m.line 0 }, [])
  else (F, [])
/-- If all is there that a core waits for, it has it. -/
def Fs.came (F : Fs) (n : Nat) : Fs × List Fm :=
  if (F.wt n).came = true ∧ (F.wt n).need ≤ (F.wt n).got then
    ({ F with st := upd2 F.st n ((F.wt n).line - 1) (if (F.wt n).write then 3 else if (F.wt n).own then 2 else 1), va := if (F.wt n).keep then F.va else upd2 F.va n ((F.wt n).line - 1) (F.wt n).val, wt := upd F.wt n Wt.none }, [⟨11, n + 1, 0, (F.wt n).line - 1, 0, 0, false, 0, 0⟩])
  else (F, [])
def Fs.atCore (F : Fs) (n : Nat) (m : Fm) : Fs × List Fm :=
  if m.kind = 3 then
    if (F.wt n).line = m.line + 1 ∧ (F.wt n).back = false ∧ (F.wt n).came = false then (F.wait n ⟨(F.wt n).line, (F.wt n).write, false, true, m.own, decide (m.num = 1), m.acks, (F.wt n).got, m.val⟩).came n else (F, [])
  else if m.kind = 5 then
    if (F.wt n).line = m.line + 1 ∧ (F.wt n).write = true ∧ (F.wt n).got < 255 then (F.wait n { F.wt n with got := (F.wt n).got + 1 }).came n else (F, [])
  else if m.kind = 4 then (if F.st n m.line = 1 then F.state n m.line 0 else F, [⟨5, n + 1, m.fr, m.line, 0, 0, false, 0, 0⟩])
  else if m.kind = 6 then
    if 1 < F.st n m.line then (F.state n m.line 4, [⟨3, n + 1, m.fr, m.line, 0, m.acks, false, 0, F.va n m.line⟩]) else (F, [])
  else if m.kind = 7 then
    if 1 < F.st n m.line then (F.state n m.line 0, [⟨3, n + 1, m.fr, m.line, 0, m.acks, true, 0, F.va n m.line⟩]) else (F, [])
  else if m.kind = 10 then
    if (F.wt n).line = m.line + 1 ∧ (F.wt n).came = false then
      if (F.wt n).back = true ∧ F.st n m.line < 2 then (F.wait n Wt.none, []) else (F, [F.asked n])
    else (F, [])
  else if m.kind = 9 then
    if (F.wt n).line = m.line + 1 ∧ (F.wt n).back = true then ((F.state n m.line 0).wait n Wt.none, []) else (F, [])
  else (F, [])
/-- A message comes. -/
def Fs.act (F : Fs) (c : Nat) (m : Fm) : Fs × List Fm := if m.to = 0 then F.atHome c m else F.atCore (m.to - 1) m

/-- A message of line k, in plain values: from whom isn't said of Data and Ack. -/
def Mg.is (k : Nat) (f : Fm) : Mg → Prop
  | .get n wr => f = ⟨if wr then 2 else 1, n + 1, 0, k, n + 1, 0, false, 0, 0⟩
  | .put n x => f = ⟨8, n + 1, 0, k, 0, 0, false, 0, x⟩
  | .free n => f = ⟨11, n + 1, 0, k, 0, 0, false, 0, 0⟩
  | .nack n => f = ⟨10, 0, n + 1, k, 0, 0, false, 0, 0⟩
  | .putAck n => f = ⟨9, 0, n + 1, k, 0, 0, false, 0, 0⟩
  | .data r own keep need x => ∃ frm, f = ⟨3, frm, r + 1, k, 0, need, own, if keep then 1 else 0, x⟩
  | .fwd o r wr need => f = ⟨if wr then 7 else 6, 0, o + 1, k, r + 1, need, false, 0, 0⟩
  | .inv n r => f = ⟨4, 0, n + 1, k, r + 1, 0, false, 0, 0⟩
  | .ack r => ∃ frm, f = ⟨5, frm, r + 1, k, 0, 0, false, 0, 0⟩
def Ph.busy : Ph → Nat
  | .idle => 0
  | .free r => r + 1
  | .turn r _ _ _ _ _ => r + 1
def Rq.wt (k : Nat) : Rq → Wt
  | .no => Wt.none
  | .get wr => ⟨k + 1, wr, false, false, false, false, 0, 0, 0⟩
  | .nackG wr => ⟨k + 1, wr, false, false, false, false, 0, 0, 0⟩
  | .put _ => ⟨k + 1, false, true, false, false, false, 0, 0, 0⟩
  | .nackP => ⟨k + 1, false, true, false, false, false, 0, 0, 0⟩
  | .putAck => ⟨k + 1, false, true, false, false, false, 0, 0, 0⟩
def Dt.wt (k : Nat) (wr : Bool) (g : Nat) : Dt → Wt
  | .came own keep m x => ⟨k + 1, wr, false, true, own, keep, m, g, x⟩
  | _ => ⟨k + 1, wr, false, false, false, false, 0, g, 0⟩
def Li.wt (L : Li) (k n : Nat) : Wt :=
  match L.ph with
  | .turn r wr d _ _ g => if n = r then d.wt k wr g else (L.q n).wt k
  | _ => (L.q n).wt k
/-- One line is what the system says of it. -/
structure SimL (k : Nat) (F : Fs) (L : Li) : Prop where
  st : ∀ n, F.st n k = L.s n
  va : ∀ n, F.va n k = L.v n
  home : F.home k = L.home
  own : F.own k = L.own
  sh : F.sh k = L.sh
  busy : F.busy k = L.ph.busy
  wt : ∀ n, L.waits n → F.wt n = L.wt k n
/-- All lines are; and who waits for none of them doesn't wait. -/
structure Sim (l : Nat) (F : Fs) (Y : Sy) : Prop where
  line : ∀ k, k < l → SimL k F (Y.li k)
  none : ∀ n, (∀ k, k < l → ¬ (Y.li k).waits n) → F.wt n = Wt.none
theorem sim_new (l : Nat) : Sim l ⟨fun _ _ => 0, fun _ _ => 0, fun _ => Wt.none, fun _ => 0, fun _ => 0, fun _ _ => false, fun _ => 0⟩ ⟨fun _ => ⟨fun _ => 0, fun _ => 0, fun _ => .no, 0, fun _ => false, 0, 0, .idle⟩, []⟩ where
  line := fun k _ => ⟨fun _ => rfl, fun _ => rfl, rfl, rfl, rfl, rfl, fun n h => rfl⟩
  none := fun _ _ => rfl
/-- Messages, one by one. -/
def Are (k : Nat) : List Fm → List Mg → Prop
  | [], [] => True
  | f :: l, m :: M => m.is k f ∧ Are k l M
  | _, _ => False
theorem are_map (k : Nat) (f : Nat → Fm) (g : Nat → Mg) (h : ∀ n, (g n).is k (f n)) : ∀ l : List Nat, Are k (l.map f) (l.map g)
  | [] => trivial
  | n :: l => ⟨h n, are_map k f g h l⟩
theorem are_app {k : Nat} {a b : List Fm} {M N : List Mg} (h : Are k a M) (h2 : Are k b N) : Are k (a ++ b) (M ++ N) := by
  induction a generalizing M with
  | nil => cases M with
    | nil => exact h2
    | cons m M => exact h.elim
  | cons f a ih => cases M with
    | nil => exact h.elim
    | cons m M => exact ⟨h.1, ih h.2⟩
end Go.Proofs.YtmeomdfmljanhaaGreat.Pr
/- Layer 10: what comes of a message in the system is what comes of it in its line. No program in sight. -/
namespace Go.Proofs.YtmeomdfmljanhaaGreat.Pr
set_option linter.unusedVariables false

/-- What a message does to the system, beside what it does to line k. -/
structure Acts (k : Nat) (F : Fs) (L : Li) (F' : Fs) (out : List Fm) (L' : Li) (new : List Mg) : Prop where
  sim : SimL k F' L'
  are : Are k out new
  st : ∀ n j, j ≠ k → F'.st n j = F.st n j
  va : ∀ n j, j ≠ k → F'.va n j = F.va n j
  home : ∀ j, j ≠ k → F'.home j = F.home j
  own : ∀ j, j ≠ k → F'.own j = F.own j
  sh : ∀ j, j ≠ k → F'.sh j = F.sh j
  busy : ∀ j, j ≠ k → F'.busy j = F.busy j
  wt : ∀ i, ¬ L.waits i → F'.wt i = F.wt i
  gone : ∀ i, L.waits i → ¬ L'.waits i → F'.wt i = Wt.none
theorem upd2_ne {α : Type} (f : Nat → Nat → α) (n k : Nat) (x : α) {i j : Nat} (h : j ≠ k) : upd2 f n k x i j = f i j := by
  unfold upd2
  by_cases e : i = n
  · subst e; rw [upd_same, upd_ne _ _ h]
  · rw [upd_ne _ _ e]
theorem upd2_at {α : Type} (f : Nat → Nat → α) (n k : Nat) (x : α) (i : Nat) : upd2 f n k x i k = upd (fun m => f m k) n x i := by
  unfold upd2
  by_cases e : i = n
  · subst e; rw [upd_same, upd_same, upd_same]
  · rw [upd_ne _ _ e, upd_ne _ _ e]
theorem wt_q {L : Li} (h : Ok L) (k : Nat) {n : Nat} (hq : L.q n ≠ .no) : L.wt k n = (L.q n).wt k := by
  unfold Li.wt
  cases e : L.ph with
  | idle => rfl
  | free r => rfl
  | turn r wr d i a g =>
    show (if n = r then _ else _) = _
    by_cases e2 : n = r
    · subst e2; exact absurd (h.turnQ _ _ _ _ _ _ e) hq
    · rw [if_neg e2]
theorem wt_turn {L : Li} (k : Nat) {n : Nat} {wr : Bool} {d : Dt} {i a : List Nat} {g : Nat} (hp : L.ph = .turn n wr d i a g) : L.wt k n = d.wt k wr g := by
  unfold Li.wt
  rw [hp]
  exact if_pos rfl
/-- What a core asks turns, but not what it waits for. -/
theorem sim_q {k : Nat} {F : Fs} {L : Li} (h : Ok L) (hs : SimL k F L) {n : Nat} {y : Rq} (hq : L.q n ≠ .no) (hy : y.wt k = (L.q n).wt k) : SimL k F { L with q := upd L.q n y } where
  st := hs.st
  va := hs.va
  home := hs.home
  own := hs.own
  sh := hs.sh
  busy := hs.busy
  wt := fun i hi => by
    by_cases e : i = n
    · subst e
      rw [hs.wt i (.inl hq), wt_q h k hq, ← hy]
      show _ = (match L.ph with | .turn r wr d _ _ g => if i = r then d.wt k wr g else (upd L.q i y i).wt k | _ => (upd L.q i y i).wt k)
      rw [upd_same]
      cases e2 : L.ph with
      | idle => rfl
      | free r => rfl
      | turn r wr d i' a g =>
        show _ = if i = r then _ else _
        by_cases e3 : i = r
        · subst e3; exact absurd (h.turnQ _ _ _ _ _ _ e2) hq
        · rw [if_neg e3]
    · have hi : L.waits i := by
        rcases hi with k1 | k1
        · have k1 : upd L.q n y i ≠ .no := k1
          rw [upd_ne _ _ e] at k1; exact .inl k1
        · exact .inr k1
      rw [hs.wt i hi]
      show _ = (match L.ph with | .turn r wr d _ _ g => if i = r then d.wt k wr g else (upd L.q n y i).wt k | _ => (upd L.q n y i).wt k)
      rw [upd_ne _ _ e]
      rfl
theorem acts_q {k : Nat} {F : Fs} {L : Li} (h : Ok L) (hs : SimL k F L) {n : Nat} {y : Rq} (hq : L.q n ≠ .no) (hy : y.wt k = (L.q n).wt k) (hn : y ≠ .no) {out : List Fm} {new : List Mg} (ha : Are k out new) : Acts k F L F out { L with q := upd L.q n y } new where
  sim := sim_q h hs hq hy
  are := ha
  st := fun _ _ _ => rfl
  va := fun _ _ _ => rfl
  home := fun _ _ => rfl
  own := fun _ _ => rfl
  sh := fun _ _ => rfl
  busy := fun _ _ => rfl
  wt := fun _ _ => rfl
  gone := fun i hi hi' => by
    exfalso
    apply hi'
    rcases hi with k1 | k1
    · refine .inl ?_
      show upd L.q n y i ≠ .no
      by_cases e : i = n
      · subst e; rw [upd_same]; exact hn
      · rw [upd_ne _ _ e]; exact k1
    · exact .inr k1
/-- A line that isn't busy is taken: of what a core that asks waits for nothing turns. -/
theorem take_wt {k : Nat} {F : Fs} {L L' : Li} (hs : SimL k F L) {n : Nat} {wr : Bool} {d : Dt} {i a : List Nat} (hq : L.q n = .get wr) (hi : L.ph = .idle) (hq' : L'.q = upd L.q n .no) (hp' : L'.ph = .turn n wr d i a 0) (hd : d.wt k wr 0 = (Rq.get wr).wt k) :
    (∀ m, L'.waits m → F.wt m = L'.wt k m) ∧ ∀ m, L.waits m → L'.waits m := by
  refine ⟨fun m hm => ?_, fun m hm => ?_⟩
  · by_cases e : m = n
    · subst e
      rw [wt_turn k hp', hd, hs.wt m (.inl (by rw [hq]; exact fun e => by cases e))]
      unfold Li.wt; rw [hi, hq]
    · have h1 : L.waits m := by
        rcases hm with k1 | ⟨_, _, _, _, _, k1⟩
        · rw [hq', upd_ne _ _ e] at k1; exact .inl k1
        · rw [hp'] at k1; cases k1; exact absurd rfl e
      rw [hs.wt m h1]
      unfold Li.wt
      rw [hi, hp', hq', upd_ne _ _ e]
      show _ = if m = n then _ else _
      rw [if_neg e]
  · by_cases e : m = n
    · subst e; exact .inr ⟨_, _, _, _, _, hp'⟩
    · rcases hm with k1 | ⟨_, _, _, _, _, k1⟩
      · refine .inl ?_
        rw [hq', upd_ne _ _ e]; exact k1
      · rw [hi] at k1; cases k1
theorem acts_free {c k : Nat} {F : Fs} {L : Li} {f : Fm} {r : Nat} (h : Ok L) (hs : SimL k F L) (hm : Mg.free r ∈ L.msgs c) (hf : (Mg.free r).is k f) : Acts k F L (F.act c f).1 (F.act c f).2 (L.del c (.free r)).1 (L.del c (.free r)).2 := by
  have hp := mem_free hm
  have hb : F.busy k = r + 1 := by rw [hs.busy, hp]; rfl
  have hf : f = _ := hf
  subst hf
  have e : F.act c ⟨11, r + 1, 0, k, 0, 0, false, 0, 0⟩ = ({ F with busy := upd F.busy k 0 }, []) := by
    simp [Fs.act, Fs.atHome, hb]
  rw [e]
  exact { sim := ⟨hs.st, hs.va, hs.home, hs.own, hs.sh, upd_same _ _ _, fun n hn => by
            have hn' : L.q n ≠ .no := by
              rcases hn with k1 | ⟨_, _, _, _, _, k1⟩
              · exact k1
              · cases k1
            show F.wt n = _
            rw [hs.wt n (.inl hn')]
            unfold Li.wt; rw [hp]; rfl⟩
          are := trivial, st := fun _ _ _ => rfl, va := fun _ _ _ => rfl, home := fun _ _ => rfl, own := fun _ _ => rfl, sh := fun _ _ => rfl
          busy := fun j hj => upd_ne _ _ hj, wt := fun _ _ => rfl
          gone := fun i hi hi' => by
            exfalso
            rcases hi with k1 | ⟨_, _, _, _, _, k1⟩
            · exact hi' (.inl k1)
            · rw [hp] at k1; cases k1 }
theorem acts_put {c k : Nat} {F : Fs} {L : Li} {f : Fm} {n x : Nat} (h : Ok L) (hs : SimL k F L) (hm : Mg.put n x ∈ L.msgs c) (hf : (Mg.put n x).is k f) : Acts k F L (F.act c f).1 (F.act c f).2 (L.del c (.put n x)).1 (L.del c (.put n x)).2 := by
  obtain ⟨_, hq⟩ := mem_put hm
  have hne : L.q n ≠ .no := by rw [hq]; exact fun e => by cases e
  have hf : f = _ := hf
  subst hf
  have hb := hs.busy
  by_cases hp : L.ph = .idle
  · have hb0 : F.busy k = 0 := by rw [hb, hp]; rfl
    have e : F.act c ⟨8, n + 1, 0, k, 0, 0, false, 0, x⟩ = ({ F with own := upd F.own k (if F.own k = n + 1 then 0 else F.own k), home := upd F.home k (if F.own k = n + 1 then x else F.home k) }, [⟨9, 0, n + 1, k, 0, 0, false, 0, 0⟩]) := by
      simp [Fs.act, Fs.atHome, hb0]
    have e2 : L.del c (.put n x) = ({ L with q := upd L.q n .putAck, own := if L.own = n + 1 then 0 else L.own, home := if L.own = n + 1 then x else L.home }, [.putAck n]) := by simp only [Li.del, hp]
    rw [e, e2]
    have h1 := acts_q h hs (y := .putAck) hne (by rw [hq]; rfl) (fun e => by cases e) (out := [⟨9, 0, n + 1, k, 0, 0, false, 0, 0⟩]) (new := [.putAck n]) ⟨rfl, trivial⟩
    exact { sim := ⟨hs.st, hs.va, by show upd F.home k _ k = _; rw [upd_same, hs.own, hs.home], by show upd F.own k _ k = _; rw [upd_same, hs.own], hs.sh, hs.busy, h1.sim.wt⟩
            are := h1.are, st := h1.st, va := h1.va, home := fun j hj => upd_ne _ _ hj, own := fun j hj => upd_ne _ _ hj, sh := h1.sh, busy := h1.busy, wt := h1.wt, gone := h1.gone }
  · have hb0 : F.busy k ≠ 0 := by
      rw [hb]
      cases e : L.ph with
      | idle => exact absurd e hp
      | free r => exact fun e => by cases e
      | turn r w d i a g => exact fun e => by cases e
    have e : F.act c ⟨8, n + 1, 0, k, 0, 0, false, 0, x⟩ = (F, [⟨10, 0, n + 1, k, 0, 0, false, 0, 0⟩]) := by
      simp [Fs.act, Fs.atHome, hb0]
    have e2 : L.del c (.put n x) = ({ L with q := upd L.q n .nackP }, [.nack n]) := by
      cases e : L.ph with
      | idle => exact absurd e hp
      | free r => simp only [Li.del, e]
      | turn r w d i a g => simp only [Li.del, e]
    rw [e, e2]
    exact acts_q h hs (y := .nackP) hne (by rw [hq]; rfl) (fun e => by cases e) ⟨rfl, trivial⟩
end Go.Proofs.YtmeomdfmljanhaaGreat.Pr
/- Layer 10: what comes of Get, Nack, PutAck, Fwd and Inv in the system is what comes of it in its line. No program in sight. -/
namespace Go.Proofs.YtmeomdfmljanhaaGreat.Pr
set_option linter.unusedVariables false

theorem wt_line {k : Nat} {x : Rq} (h : x ≠ .no) : (x.wt k).line = k + 1 ∧ (x.wt k).came = false ∧ ((x.wt k).back = true ↔ x.backs = true) := by
  cases x <;> simp [Rq.wt, Rq.backs] at *
/-- A core doesn't wait any more. -/
theorem acts_gone {k : Nat} {F F' : Fs} {L L' : Li} (h : Ok L) (hs : SimL k F L) {n : Nat} (hq : L.q n ≠ .no) (hq' : L'.q = upd L.q n .no) (hp' : L'.ph = L.ph) (hst : ∀ i j, F'.st i j = if j = k then L'.s i else F.st i j) (hva : F'.va = F.va) (hv : L'.v = L.v)
    (hho : F'.home = F.home) (hh : L'.home = L.home) (hown : F'.own = F.own) (ho : L'.own = L.own) (hsh : F'.sh = F.sh) (hs' : L'.sh = L.sh) (hbu : F'.busy = F.busy) (hwt : F'.wt = upd F.wt n Wt.none) {out : List Fm} {new : List Mg} (ha : Are k out new) : Acts k F L F' out L' new where
  sim := ⟨fun i => by rw [hst, if_pos rfl], fun i => by rw [hva, hv]; exact hs.va i, by rw [hho, hh]; exact hs.home, by rw [hown, ho]; exact hs.own, by rw [hsh, hs']; exact hs.sh, by rw [hbu, hp']; exact hs.busy, fun i hi => by
    have hin : i ≠ n := fun e => by
      subst e
      rcases hi with k1 | ⟨_, _, _, _, _, k1⟩
      · rw [hq', upd_same] at k1; exact k1 rfl
      · rw [hp'] at k1; exact hq (h.turnQ _ _ _ _ _ _ k1)
    have hi2 : L.waits i := by
      rcases hi with k1 | k1
      · rw [hq', upd_ne _ _ hin] at k1; exact .inl k1
      · rw [hp'] at k1; exact .inr k1
    rw [hwt, upd_ne _ _ hin, hs.wt i hi2]
    unfold Li.wt; rw [hp', hq', upd_ne _ _ hin]⟩
  are := ha
  st := fun i j hj => by rw [hst, if_neg hj]
  va := fun i j _ => by rw [hva]
  home := fun j _ => by rw [hho]
  own := fun j _ => by rw [hown]
  sh := fun j _ => by rw [hsh]
  busy := fun j _ => by rw [hbu]
  wt := fun i hi => by
    have hin : i ≠ n := fun e => hi (.inl (by rw [e]; exact hq))
    rw [hwt, upd_ne _ _ hin]
  gone := fun i hi hi' => by
    by_cases e : i = n
    · subst e; rw [hwt, upd_same]
    · exfalso
      apply hi'
      rcases hi with k1 | k1
      · exact .inl (by rw [hq', upd_ne _ _ e]; exact k1)
      · exact .inr (by rw [hp']; exact k1)
theorem acts_putAck {c k : Nat} {F : Fs} {L : Li} {f : Fm} {n : Nat} (h : Ok L) (hs : SimL k F L) (hm : Mg.putAck n ∈ L.msgs c) (hf : (Mg.putAck n).is k f) : Acts k F L (F.act c f).1 (F.act c f).2 (L.del c (.putAck n)).1 (L.del c (.putAck n)).2 := by
  obtain ⟨_, hq⟩ := mem_putAck hm
  have hne : L.q n ≠ .no := by rw [hq]; exact fun e => by cases e
  have hf : f = _ := hf
  subst hf
  have hw : F.wt n = ⟨k + 1, false, true, false, false, false, 0, 0, 0⟩ := by rw [hs.wt n (.inl hne), wt_q h k hne, hq]; rfl
  have e : F.act c ⟨9, 0, n + 1, k, 0, 0, false, 0, 0⟩ = ((F.state n k 0).wait n Wt.none, []) := by
    simp [Fs.act, Fs.atCore, hw]
  rw [e]
  show Acts k F L ((F.state n k 0).wait n Wt.none) [] { L with s := upd L.s n 0, q := upd L.q n .no } []
  refine acts_gone (F' := (F.state n k 0).wait n Wt.none) (L' := { L with s := upd L.s n 0, q := upd L.q n .no }) (out := []) (new := []) h hs hne rfl rfl (fun i j => ?_) rfl rfl rfl rfl rfl rfl rfl rfl rfl rfl trivial
  show upd2 F.st n k 0 i j = if j = k then upd L.s n 0 i else F.st i j
  by_cases e : j = k
  · subst e; rw [if_pos rfl, upd2_at]; congr 1; funext m; exact hs.st m
  · rw [if_neg e, upd2_ne _ _ _ _ e]
theorem acts_nack {c k : Nat} {F : Fs} {L : Li} {f : Fm} {n : Nat} (h : Ok L) (hs : SimL k F L) (hm : Mg.nack n ∈ L.msgs c) (hf : (Mg.nack n).is k f) : Acts k F L (F.act c f).1 (F.act c f).2 (L.del c (.nack n)).1 (L.del c (.nack n)).2 := by
  obtain ⟨_, hq⟩ := mem_nack hm
  have hf : f = _ := hf
  subst hf
  have hG : ∀ wr, L.q n = .nackG wr → Acts k F L (F.act c ⟨10, 0, n + 1, k, 0, 0, false, 0, 0⟩).1 (F.act c ⟨10, 0, n + 1, k, 0, 0, false, 0, 0⟩).2 (L.del c (.nack n)).1 (L.del c (.nack n)).2 := fun wr hq => by
    have hne : L.q n ≠ .no := by rw [hq]; exact fun e => by cases e
    have hw : F.wt n = ⟨k + 1, wr, false, false, false, false, 0, 0, 0⟩ := by rw [hs.wt n (.inl hne), wt_q h k hne, hq]; rfl
    have e : F.act c ⟨10, 0, n + 1, k, 0, 0, false, 0, 0⟩ = (F, [⟨if wr then 2 else 1, n + 1, 0, k, n + 1, 0, false, 0, 0⟩]) := by
      cases wr <;> simp [Fs.act, Fs.atCore, Fs.asked, hw]
    have e2 : L.del c (.nack n) = ({ L with q := upd L.q n (.get wr) }, [.get n wr]) := by simp only [Li.del, hq]
    rw [e, e2]
    exact acts_q h hs hne (by rw [hq]; rfl) (fun e => by cases e) ⟨rfl, trivial⟩
  rcases hq with hq | hq | hq
  · exact hG _ hq
  · exact hG _ hq
  · have hne : L.q n ≠ .no := by rw [hq]; exact fun e => by cases e
    have hw : F.wt n = ⟨k + 1, false, true, false, false, false, 0, 0, 0⟩ := by rw [hs.wt n (.inl hne), wt_q h k hne, hq]; rfl
    have hst := hs.st n
    by_cases h2 : L.s n < 2
    · have e : F.act c ⟨10, 0, n + 1, k, 0, 0, false, 0, 0⟩ = (F.wait n Wt.none, []) := by
        simp [Fs.act, Fs.atCore, hw, hst, h2]
      have e2 : L.del c (.nack n) = ({ L with q := upd L.q n .no }, []) := by simp only [Li.del, hq, if_pos h2]
      rw [e, e2]
      show Acts k F L (F.wait n Wt.none) [] { L with q := upd L.q n .no } []
      refine acts_gone (F' := F.wait n Wt.none) (L' := { L with q := upd L.q n .no }) (out := []) (new := []) h hs hne rfl rfl (fun i j => ?_) rfl rfl rfl rfl rfl rfl rfl rfl rfl rfl trivial
      show F.st i j = if j = k then L.s i else F.st i j
      by_cases e : j = k
      · subst e; rw [if_pos rfl]; exact hs.st i
      · rw [if_neg e]
    · have e : F.act c ⟨10, 0, n + 1, k, 0, 0, false, 0, 0⟩ = (F, [⟨8, n + 1, 0, k, 0, 0, false, 0, F.va n k⟩]) := by
        simp [Fs.act, Fs.atCore, Fs.asked, hw, hst, h2]
      have e2 : L.del c (.nack n) = ({ L with q := upd L.q n (.put (L.v n)) }, [.put n (L.v n)]) := by simp only [Li.del, hq, if_neg h2]
      rw [e, e2]
      exact acts_q h hs hne (by rw [hq]; rfl) (fun e => by cases e) ⟨by show _ = _; rw [hs.va], trivial⟩
theorem acts_get {c k : Nat} {F : Fs} {L : Li} {f : Fm} {n : Nat} {wr : Bool} (h : Ok L) (hs : SimL k F L) (hm : Mg.get n wr ∈ L.msgs c) (hf : (Mg.get n wr).is k f) : Acts k F L (F.act c f).1 (F.act c f).2 (L.del c (.get n wr)).1 (L.del c (.get n wr)).2 := by
  obtain ⟨_, hq⟩ := mem_get hm
  have hne : L.q n ≠ .no := by rw [hq]; exact fun e => by cases e
  have hf : f = _ := hf
  subst hf
  have hb := hs.busy
  by_cases hp : L.ph = .idle
  · have hb0 : F.busy k = 0 := by rw [hb, hp]; rfl
    have hgone : ∀ (F' : Fs) (L' : Li), (∀ m, L.waits m → L'.waits m) → ∀ i, L.waits i → ¬ L'.waits i → F'.wt i = Wt.none := fun F' L' hw i h1 h2 => absurd (hw i h1) h2
    cases wr with
    | true =>
      have e : F.act c ⟨if true = true then 2 else 1, n + 1, 0, k, n + 1, 0, false, 0, 0⟩ = F.writes c n k := by
        simp [Fs.act, Fs.atHome, hb0]
      have e2 : L.del c (.get n true) = L.write c n := by simp only [Li.del, hp]; rfl
      rw [e, e2]
      have ht := take_wt (L' := (L.write c n).1) (d := if L.own = 0 then .data true false (offs c n L.sh).length L.home else if L.own = n + 1 then .data true true (offs c n L.sh).length 0 else .fwd (L.own - 1) (offs c n L.sh).length) (k := k) hs hq hp rfl rfl (by split <;> first | rfl | (split <;> rfl))
      exact { sim := ⟨hs.st, hs.va, hs.home, upd_same _ _ _, upd_same _ _ _, upd_same _ _ _, ht.1⟩
              are := by
                show Are k ((offs c n (F.sh k)).map _ ++ _) ((offs c n L.sh).map _ ++ _)
                rw [hs.sh, hs.own, hs.home]
                refine are_app (are_map k (fun m => ⟨4, 0, m + 1, k, n + 1, 0, false, 0, 0⟩) (fun m => Mg.inv m n) (fun m => rfl) _) ?_
                by_cases h0 : L.own = 0
                · rw [if_pos h0, if_pos h0]; exact ⟨⟨0, rfl⟩, trivial⟩
                · rw [if_neg h0, if_neg h0]
                  by_cases h1 : L.own = n + 1
                  · rw [if_pos h1, if_pos h1]; exact ⟨⟨0, rfl⟩, trivial⟩
                  · rw [if_neg h1, if_neg h1]
                    refine ⟨?_, trivial⟩
                    show _ = Fm.mk _ _ (L.own - 1 + 1) _ _ _ _ _ _
                    rw [show L.own - 1 + 1 = L.own by omega]; rfl
              st := fun _ _ _ => rfl, va := fun _ _ _ => rfl, home := fun _ _ => rfl, own := fun j hj => upd_ne _ _ hj, sh := fun j hj => upd_ne _ _ hj, busy := fun j hj => upd_ne _ _ hj
              wt := fun _ _ => rfl, gone := hgone _ _ ht.2 }
    | false =>
      have e : F.act c ⟨if false = true then 2 else 1, n + 1, 0, k, n + 1, 0, false, 0, 0⟩ = F.reads c n k := by
        simp [Fs.act, Fs.atHome, hb0]
      have e2 : L.del c (.get n false) = if L.own = 0 ∧ offs c n L.sh = [] then L.lone n else L.read n := by simp only [Li.del, hp]; rfl
      rw [e, e2]
      by_cases h0 : L.own = 0 ∧ offs c n L.sh = []
      · have e3 : F.reads c n k = ({ F with busy := upd F.busy k (n + 1), own := upd F.own k (n + 1), sh := upd F.sh k fun _ => false }, [⟨3, 0, n + 1, k, 0, 0, true, 0, F.home k⟩]) := by
          unfold Fs.reads
          rw [if_pos (by rw [hs.own, hs.sh]; exact h0)]
        rw [e3, if_pos h0]
        have ht := take_wt (L' := (L.lone n).1) (k := k) hs hq hp rfl rfl rfl
        exact { sim := ⟨hs.st, hs.va, hs.home, upd_same _ _ _, upd_same _ _ _, upd_same _ _ _, ht.1⟩
                are := ⟨⟨0, by rw [hs.home]; rfl⟩, trivial⟩
                st := fun _ _ _ => rfl, va := fun _ _ _ => rfl, home := fun _ _ => rfl, own := fun j hj => upd_ne _ _ hj, sh := fun j hj => upd_ne _ _ hj, busy := fun j hj => upd_ne _ _ hj
                wt := fun _ _ => rfl, gone := hgone _ _ ht.2 }
      · have e3 : F.reads c n k = ({ F with busy := upd F.busy k (n + 1), sh := upd F.sh k (upd (F.sh k) n true) }, if F.own k = 0 then [⟨3, 0, n + 1, k, 0, 0, false, 0, F.home k⟩] else [⟨6, 0, F.own k, k, n + 1, 0, false, 0, 0⟩]) := by
          unfold Fs.reads
          rw [if_neg (by rw [hs.own, hs.sh]; exact h0)]
        rw [e3, if_neg h0]
        have ht := take_wt (L' := (L.read n).1) (d := if L.own = 0 then .data false false 0 L.home else .fwd (L.own - 1) 0) (k := k) hs hq hp rfl rfl (by split <;> rfl)
        exact { sim := ⟨hs.st, hs.va, hs.home, hs.own, by show upd F.sh k _ k = _; rw [upd_same, hs.sh]; rfl, upd_same _ _ _, ht.1⟩
                are := by
                  show Are k (if F.own k = 0 then _ else _) (if L.own = 0 then _ else _)
                  rw [hs.own, hs.home]
                  by_cases h1 : L.own = 0
                  · rw [if_pos h1, if_pos h1]; exact ⟨⟨0, rfl⟩, trivial⟩
                  · rw [if_neg h1, if_neg h1]
                    refine ⟨?_, trivial⟩
                    show _ = Fm.mk _ _ (L.own - 1 + 1) _ _ _ _ _ _
                    rw [show L.own - 1 + 1 = L.own by omega]; rfl
                st := fun _ _ _ => rfl, va := fun _ _ _ => rfl, home := fun _ _ => rfl, own := fun _ _ => rfl, sh := fun j hj => upd_ne _ _ hj, busy := fun j hj => upd_ne _ _ hj
                wt := fun _ _ => rfl, gone := hgone _ _ ht.2 }
  · have hb0 : F.busy k ≠ 0 := by
      rw [hb]
      cases e : L.ph with
      | idle => exact absurd e hp
      | free r => exact fun e => by cases e
      | turn r w d i a g => exact fun e => by cases e
    have e : F.act c ⟨if wr = true then 2 else 1, n + 1, 0, k, n + 1, 0, false, 0, 0⟩ = (F, [⟨10, 0, n + 1, k, 0, 0, false, 0, 0⟩]) := by
      cases wr <;> simp [Fs.act, Fs.atHome, hb0]
    have e2 : L.del c (.get n wr) = ({ L with q := upd L.q n (.nackG wr) }, [.nack n]) := by
      cases e : L.ph with
      | idle => exact absurd e hp
      | free r => simp only [Li.del, e]
      | turn r w d i a g => simp only [Li.del, e]
    rw [e, e2]
    exact acts_q h hs hne (by rw [hq]; rfl) (fun e => by cases e) ⟨rfl, trivial⟩
end Go.Proofs.YtmeomdfmljanhaaGreat.Pr
/- Layer 10: what comes of Data, Ack, Fwd and Inv in the system is what comes of it in its line. No program in sight. -/
namespace Go.Proofs.YtmeomdfmljanhaaGreat.Pr
set_option linter.unusedVariables false

/-- A turn goes on: what others wait for stays. -/
theorem turn_wt {k : Nat} {F F' : Fs} {L L' : Li} (hs : SimL k F L) {r : Nat} {wr wr' : Bool} {d d' : Dt} {i a i' a' : List Nat} {g g' : Nat} (hp : L.ph = .turn r wr d i a g) (hp' : L'.ph = .turn r wr' d' i' a' g') (hq : L'.q = L.q) (hwt : F'.wt = upd F.wt r (d'.wt k wr' g')) :
    (∀ m, L'.waits m → F'.wt m = L'.wt k m) ∧ (∀ m, ¬ L.waits m → F'.wt m = F.wt m) ∧ ∀ m, L.waits m → L'.waits m := by
  refine ⟨fun m hm => ?_, fun m hm => ?_, fun m hm => ?_⟩
  · by_cases e : m = r
    · subst e; rw [hwt, upd_same, wt_turn k hp']
    · have h1 : L.waits m := by
        rcases hm with k1 | ⟨_, _, _, _, _, k1⟩
        · rw [hq] at k1; exact .inl k1
        · rw [hp'] at k1; cases k1; exact absurd rfl e
      rw [hwt, upd_ne _ _ e, hs.wt m h1]
      unfold Li.wt
      rw [hp, hp', hq]
      show (if m = r then _ else _) = if m = r then _ else _
      rw [if_neg e, if_neg e]
  · have e : m ≠ r := fun e => hm (.inr ⟨_, _, _, _, _, by rw [e]; exact hp⟩)
    rw [hwt, upd_ne _ _ e]
  · rcases hm with k1 | ⟨_, _, _, _, _, k1⟩
    · exact .inl (by rw [hq]; exact k1)
    · rw [hp] at k1; cases k1; exact .inr ⟨_, _, _, _, _, hp'⟩
theorem upd_self_wt {F : Fs} {n : Nat} {w : Wt} (h : F.wt n = w) : F.wt = upd F.wt n w := by
  rw [← h, upd_self]
theorem acts_inv {c k : Nat} {F : Fs} {L : Li} {f : Fm} {n r : Nat} (h : Ok L) (hs : SimL k F L) (hm : Mg.inv n r ∈ L.msgs c) (hf : (Mg.inv n r).is k f) : Acts k F L (F.act c f).1 (F.act c f).2 (L.del c (.inv n r)).1 (L.del c (.inv n r)).2 := by
  obtain ⟨wr, d, i, a, g, hp, _⟩ := mem_inv hm
  have hf : f = _ := hf
  subst hf
  have hst := hs.st n
  have e : F.act c ⟨4, 0, n + 1, k, r + 1, 0, false, 0, 0⟩ = (if F.st n k = 1 then F.state n k 0 else F, [⟨5, n + 1, r + 1, k, 0, 0, false, 0, 0⟩]) := by
    simp [Fs.act, Fs.atCore]
  have e2 : L.del c (.inv n r) = ({ L with s := if L.s n = 1 then upd L.s n 0 else L.s, ph := .turn r wr d (i.erase n) (n :: a) g }, [.ack r]) := by simp only [Li.del, hp]
  rw [e, e2]
  have hw : F.wt r = d.wt k wr g := by rw [hs.wt r (.inr ⟨_, _, _, _, _, hp⟩), wt_turn k hp]
  by_cases h1 : L.s n = 1
  · rw [if_pos (by rw [hst]; exact h1), if_pos h1]
    have ht := turn_wt (F' := F.state n k 0) (L' := { L with s := upd L.s n 0, ph := .turn r wr d (i.erase n) (n :: a) g }) hs hp rfl rfl (upd_self_wt hw)
    exact { sim := ⟨fun m => by show upd2 F.st n k 0 m k = upd L.s n 0 m; rw [upd2_at]; congr 1; funext j; exact hs.st j, hs.va, hs.home, hs.own, hs.sh, by rw [show (F.state n k 0).busy k = F.busy k from rfl, hs.busy, hp]; rfl, ht.1⟩
            are := ⟨⟨n + 1, rfl⟩, trivial⟩, st := fun m j hj => upd2_ne _ _ _ _ hj, va := fun _ _ _ => rfl, home := fun _ _ => rfl, own := fun _ _ => rfl, sh := fun _ _ => rfl, busy := fun _ _ => rfl
            wt := ht.2.1, gone := fun m h1 h2 => absurd (ht.2.2 m h1) h2 }
  · rw [if_neg (by rw [hst]; exact h1), if_neg h1]
    have ht := turn_wt (F' := F) (L' := { L with ph := .turn r wr d (i.erase n) (n :: a) g }) hs hp rfl rfl (upd_self_wt hw)
    exact { sim := ⟨hs.st, hs.va, hs.home, hs.own, hs.sh, by rw [hs.busy, hp]; rfl, ht.1⟩
            are := ⟨⟨n + 1, rfl⟩, trivial⟩, st := fun _ _ _ => rfl, va := fun _ _ _ => rfl, home := fun _ _ => rfl, own := fun _ _ => rfl, sh := fun _ _ => rfl, busy := fun _ _ => rfl
            wt := ht.2.1, gone := fun m h1 h2 => absurd (ht.2.2 m h1) h2 }
theorem acts_fwd {c k : Nat} {F : Fs} {L : Li} {f : Fm} {o r need : Nat} {wr : Bool} (h : Ok L) (hs : SimL k F L) (hm : Mg.fwd o r wr need ∈ L.msgs c) (hf : (Mg.fwd o r wr need).is k f) : Acts k F L (F.act c f).1 (F.act c f).2 (L.del c (.fwd o r wr need)).1 (L.del c (.fwd o r wr need)).2 := by
  obtain ⟨i, a, g, hp⟩ := mem_fwd hm
  have hf : f = _ := hf
  subst hf
  have h2 := (h.fwd r o need wr i a g hp).1
  have hst : 1 < F.st o k := by rw [hs.st]; omega
  have e : F.act c ⟨if wr = true then 7 else 6, 0, o + 1, k, r + 1, need, false, 0, 0⟩ = (F.state o k (if wr then 0 else 4), [⟨3, o + 1, r + 1, k, 0, need, wr, 0, F.va o k⟩]) := by
    cases wr <;> simp [Fs.act, Fs.atCore, hst]
  have e2 : L.del c (.fwd o r wr need) = ({ L with s := upd L.s o (if wr then 0 else 4), ph := .turn r wr (.data wr false need (L.v o)) i a g }, [.data r wr false need (L.v o)]) := by simp only [Li.del, hp]
  rw [e, e2]
  have hw : F.wt r = (Dt.data wr false need (L.v o)).wt k wr g := by rw [hs.wt r (.inr ⟨_, _, _, _, _, hp⟩), wt_turn k hp]; rfl
  have ht := turn_wt (F' := F.state o k (if wr then 0 else 4)) (L' := { L with s := upd L.s o (if wr then 0 else 4), ph := .turn r wr (.data wr false need (L.v o)) i a g }) hs hp rfl rfl (upd_self_wt hw)
  exact { sim := ⟨fun m => by show upd2 F.st o k _ m k = upd L.s o _ m; rw [upd2_at]; congr 1; funext j; exact hs.st j, hs.va, hs.home, hs.own, hs.sh, by rw [show (F.state o k (if wr then 0 else 4)).busy k = F.busy k from rfl, hs.busy, hp]; rfl, ht.1⟩
          are := ⟨⟨o + 1, by rw [hs.va]; rfl⟩, trivial⟩, st := fun m j hj => upd2_ne _ _ _ _ hj, va := fun _ _ _ => rfl, home := fun _ _ => rfl, own := fun _ _ => rfl, sh := fun _ _ => rfl, busy := fun _ _ => rfl
          wt := ht.2.1, gone := fun m h1 h2 => absurd (ht.2.2 m h1) h2 }
/-- Behind Data and Ack: it has the line then, or not yet. -/
theorem acts_came {k : Nat} {F : Fs} {L : Li} {r : Nat} {wr : Bool} {d d' : Dt} {i a i' a' : List Nat} {g g' : Nat} (h : Ok L) (hs : SimL k F L) (hp : L.ph = .turn r wr d i a g) (w : Wt) (hw : w = d'.wt k wr g') : Acts k F L ((F.wait r w).came r).1 ((F.wait r w).came r).2 (L.acked r wr d' i' a' g').1 (L.acked r wr d' i' a' g').2 := by
  have hr : (F.wait r w).wt r = d'.wt k wr g' := by rw [← hw]; exact upd_same _ _ _
  have hq := h.turnQ _ _ _ _ _ _ hp
  have hno : (¬ ∃ own keep m x, d' = .came own keep m x ∧ m ≤ g') → Acts k F L ((F.wait r w).came r).1 ((F.wait r w).came r).2 (L.acked r wr d' i' a' g').1 (L.acked r wr d' i' a' g').2 := fun hn => by
    have e : (F.wait r w).came r = (F.wait r w, []) := by
      unfold Fs.came
      rw [hr, if_neg]
      rintro ⟨h1, h2⟩
      cases d' with
      | came own keep m x => exact hn ⟨own, keep, m, x, rfl, h2⟩
      | data own keep m x => cases h1
      | fwd o m => cases h1
    have e2 : L.acked r wr d' i' a' g' = ({ L with ph := .turn r wr d' i' a' g' }, []) := by
      unfold Li.acked
      cases d' with
      | came own keep m x => exact if_neg fun h2 => hn ⟨own, keep, m, x, rfl, h2⟩
      | data own keep m x => rfl
      | fwd o m => rfl
    rw [e, e2]
    have ht := turn_wt (F' := F.wait r w) (L' := { L with ph := .turn r wr d' i' a' g' }) hs hp rfl rfl (by rw [← hw]; rfl)
    exact { sim := ⟨hs.st, hs.va, hs.home, hs.own, hs.sh, by rw [show (F.wait r w).busy k = F.busy k from rfl, hs.busy, hp]; rfl, ht.1⟩
            are := trivial, st := fun _ _ _ => rfl, va := fun _ _ _ => rfl, home := fun _ _ => rfl, own := fun _ _ => rfl, sh := fun _ _ => rfl, busy := fun _ _ => rfl
            wt := ht.2.1, gone := fun m h1 h2 => absurd (ht.2.2 m h1) h2 }
  by_cases hn : ∃ own keep m x, d' = .came own keep m x ∧ m ≤ g'
  · obtain ⟨own, keep, m, x, e1, hmg⟩ := hn
    subst e1
    have e : (F.wait r w).came r = ({ F with st := upd2 F.st r k (if wr then 3 else if own then 2 else 1), va := if keep then F.va else upd2 F.va r k x, wt := upd (F.wait r w).wt r Wt.none }, [⟨11, r + 1, 0, k, 0, 0, false, 0, 0⟩]) := by
      unfold Fs.came
      rw [hr]
      exact if_pos ⟨rfl, hmg⟩
    have e2 : L.acked r wr (.came own keep m x) i' a' g' = (L.done r wr own keep x, [.free r]) := if_pos hmg
    rw [e, e2]
    have hwt : ∀ j, j ≠ r → upd (F.wait r w).wt r Wt.none j = F.wt j := fun j hj => by
      rw [upd_ne _ _ hj]; exact upd_ne _ _ hj
    exact { sim := ⟨fun j => by show upd2 F.st r k _ j k = upd L.s r _ j; rw [upd2_at]; congr 1; funext j; exact hs.st j
                    , fun j => by
                      show (if keep then F.va else upd2 F.va r k x) j k = (if keep then L.v else upd L.v r x) j
                      cases keep with
                      | true => exact hs.va j
                      | false => show upd2 F.va r k x j k = upd L.v r x j; rw [upd2_at]; congr 1; funext j; exact hs.va j
                    , hs.home, hs.own, hs.sh, by show F.busy k = _; rw [hs.busy, hp]; rfl, fun j hj => by
                      have hj1 : L.q j ≠ .no := by
                        rcases hj with k1 | ⟨_, _, _, _, _, k1⟩
                        · exact k1
                        · cases k1
                      have hjr : j ≠ r := fun e => hj1 (by rw [e]; exact hq)
                      show upd (F.wait r w).wt r Wt.none j = _
                      rw [hwt j hjr, hs.wt j (.inl hj1), wt_q h k hj1]
                      rfl⟩
            are := ⟨rfl, trivial⟩, st := fun _ j hj => upd2_ne _ _ _ _ hj
            va := fun _ j hj => by
              show (if keep then F.va else upd2 F.va r k x) _ j = _
              cases keep with
              | true => rfl
              | false => exact upd2_ne _ _ _ _ hj
            home := fun _ _ => rfl, own := fun _ _ => rfl, sh := fun _ _ => rfl, busy := fun _ _ => rfl
            wt := fun j hj => hwt j fun e => hj (.inr ⟨wr, d, i, a, g, by rw [e]; exact hp⟩)
            gone := fun j h1 h2 => by
              by_cases e : j = r
              · subst e; exact upd_same _ _ _
              · exfalso
                apply h2
                rcases h1 with k1 | ⟨_, _, _, _, _, k1⟩
                · exact .inl k1
                · rw [hp] at k1; cases k1; exact absurd rfl e }
  · exact hno hn
theorem acts_data {c k : Nat} {F : Fs} {L : Li} {f : Fm} {r need x : Nat} {own keep : Bool} (h : Ok L) (hs : SimL k F L) (hm : Mg.data r own keep need x ∈ L.msgs c) (hf : (Mg.data r own keep need x).is k f) : Acts k F L (F.act c f).1 (F.act c f).2 (L.del c (.data r own keep need x)).1 (L.del c (.data r own keep need x)).2 := by
  obtain ⟨wr, i, a, g, hp⟩ := mem_data hm
  obtain ⟨frm, hf⟩ := hf
  subst hf
  have hw : F.wt r = ⟨k + 1, wr, false, false, false, false, 0, g, 0⟩ := by rw [hs.wt r (.inr ⟨_, _, _, _, _, hp⟩), wt_turn k hp]; rfl
  have e : F.act c ⟨3, frm, r + 1, k, 0, need, own, if keep = true then 1 else 0, x⟩ = (F.wait r ⟨k + 1, wr, false, true, own, keep, need, g, x⟩).came r := by
    cases keep <;> simp [Fs.act, Fs.atCore, hw]
  have e2 : L.del c (.data r own keep need x) = L.acked r wr (.came own keep need x) i a g := by simp only [Li.del, hp]
  rw [e, e2]
  exact acts_came h hs hp _ rfl
theorem acts_ack {c k : Nat} {F : Fs} {L : Li} {f : Fm} {r : Nat} (hc : c ≤ 4) (h : Ok L) (hsm : L.ph.small c) (hs : SimL k F L) (hm : Mg.ack r ∈ L.msgs c) (hf : (Mg.ack r).is k f) : Acts k F L (F.act c f).1 (F.act c f).2 (L.del c (.ack r)).1 (L.del c (.ack r)).2 := by
  obtain ⟨wr, d, i, a, g, hp, ha⟩ := mem_ack hm
  obtain ⟨frm, hf⟩ := hf
  subst hf
  rw [hp] at hsm
  have hg : g < 255 := by have h1 : i.length + a.length + g + 1 ≤ c := hsm.2; omega
  have hwr : wr = true := by
    cases wr with
    | true => rfl
    | false => exact absurd (h.turnR r d i a g hp).2.2.1 ha
  subst hwr
  have hw : F.wt r = d.wt k true g := by rw [hs.wt r (.inr ⟨_, _, _, _, _, hp⟩), wt_turn k hp]
  have e : F.act c ⟨5, frm, r + 1, k, 0, 0, false, 0, 0⟩ = (F.wait r (d.wt k true (g + 1))).came r := by
    cases d <;> simp [Fs.act, Fs.atCore, hw, Dt.wt, hg]
  have e2 : L.del c (.ack r) = L.acked r true d i a.tail (g + 1) := by simp only [Li.del, hp]
  rw [e, e2]
  exact acts_came h hs hp _ rfl
/-- Whatever comes. -/
theorem acts_ok {c k : Nat} {F : Fs} {L : Li} {f : Fm} (hc : c ≤ 4) (h : Ok L) (hsm : L.ph.small c) (hs : SimL k F L) (m : Mg) (hm : m ∈ L.msgs c) (hf : m.is k f) : Acts k F L (F.act c f).1 (F.act c f).2 (L.del c m).1 (L.del c m).2 := by
  cases m with
  | get n wr => exact acts_get h hs hm hf
  | put n x => exact acts_put h hs hm hf
  | free r => exact acts_free h hs hm hf
  | nack n => exact acts_nack h hs hm hf
  | putAck n => exact acts_putAck h hs hm hf
  | data r own keep need x => exact acts_data h hs hm hf
  | fwd o r wr need => exact acts_fwd h hs hm hf
  | inv n r => exact acts_inv h hs hm hf
  | ack r => exact acts_ack hc h hsm hs hm hf
end Go.Proofs.YtmeomdfmljanhaaGreat.Pr
/- Layer 10: a message comes in the system as in the lines together. No program in sight. -/
namespace Go.Proofs.YtmeomdfmljanhaaGreat.Pr
set_option linter.unusedVariables false

/-- What the system says, all lines together. -/
theorem sim_acts {c l k : Nat} {F F' : Fs} {Y : Sy} {M' : List (Nat × Mg)} {L' : Li} {out : List Fm} {new : List Mg} (h : OkS c l Y) (hs : Sim l F Y) (hk : k < l) (ha : Acts k F (Y.li k) F' out L' new) (hl : ∀ i, L'.waits i → (Y.li k).waits i) : Sim l F' ⟨upd Y.li k L', M'⟩ where
  line := fun j hj => by
    show SimL j F' (upd Y.li k L' j)
    by_cases e : j = k
    · subst e; rw [upd_same]; exact ha.sim
    · rw [upd_ne _ _ e]
      have h1 := hs.line j hj
      exact ⟨fun n => by rw [ha.st n j e]; exact h1.st n, fun n => by rw [ha.va n j e]; exact h1.va n, by rw [ha.home j e]; exact h1.home, by rw [ha.own j e]; exact h1.own, by rw [ha.sh j e]; exact h1.sh, by rw [ha.busy j e]; exact h1.busy, fun n hn => by
        rw [ha.wt n fun h2 => e (h.one n j k hj hk hn h2)]
        exact h1.wt n hn⟩
  none := fun n hn => by
    have h0 : ¬ L'.waits n := fun h0 => hn k hk (by show (upd Y.li k L' k).waits n; rw [upd_same]; exact h0)
    by_cases e : (Y.li k).waits n
    · exact ha.gone n e h0
    · rw [ha.wt n e]
      refine hs.none n fun j hj hj2 => ?_
      by_cases e2 : j = k
      · subst e2; exact e hj2
      · exact hn j hj (by show (upd Y.li k L' j).waits n; rw [upd_ne _ _ e2]; exact hj2)
/-- A message comes: of any place under way. -/
theorem sim_del {c l k : Nat} {F : Fs} {Y : Sy} {f : Fm} {m : Mg} {M1 M2 : List (Nat × Mg)} (hc : c ≤ 4) (h : OkS c l Y) (hsm : ∀ k, k < l → (Y.li k).ph.small c) (hs : Sim l F Y) (hM : Y.M = M1 ++ (k, m) :: M2) (hf : m.is k f) :
    Sim l (F.act c f).1 (Y.del c k m M1 M2) ∧ Are k (F.act c f).2 ((Y.li k).del c m).2 := by
  have hk : k < l := h.lines (k, m) (by rw [hM]; simp)
  have hm : m ∈ (Y.li k).msgs c := (h.perm k hk).mem_iff.1 (onLine_mem.2 (by rw [hM]; simp))
  have ha := acts_ok hc (h.ok k hk) (hsm k hk) (hs.line k hk) m hm hf
  exact ⟨sim_acts h hs hk ha (fun i hi => del_waits m hm i hi), ha.are⟩
theorem del_small_all {c l k : Nat} {Y : Sy} {m : Mg} {M1 M2 : List (Nat × Mg)} (h : OkS c l Y) (hsm : ∀ k, k < l → (Y.li k).ph.small c) (hM : Y.M = M1 ++ (k, m) :: M2) : ∀ j, j < l → ((Y.del c k m M1 M2).li j).ph.small c := fun j hj => by
  have hk : k < l := h.lines (k, m) (by rw [hM]; simp)
  have hm : m ∈ (Y.li k).msgs c := (h.perm k hk).mem_iff.1 (onLine_mem.2 (by rw [hM]; simp))
  show (upd Y.li k _ j).ph.small c
  by_cases e : j = k
  · subst e; rw [upd_same]; exact del_small (hsm j hj) m hm
  · rw [upd_ne _ _ e]; exact hsm j hj
end Go.Proofs.YtmeomdfmljanhaaGreat.Pr
/- Layer 10: what a core does by itself, in the system as in the lines together. No program in sight. -/
namespace Go.Proofs.YtmeomdfmljanhaaGreat.Pr
set_option linter.unusedVariables false

/-- A core that waits for nothing asks, or gives back. -/
theorem sim_ask {c l k n : Nat} {F : Fs} {Y : Sy} {M' : List (Nat × Mg)} (h : OkS c l Y) (hs : Sim l F Y) (hk : k < l) (hw : ∀ j, j < l → ¬ (Y.li j).waits n) (y : Rq) (hy : y ≠ .no) : Sim l (F.wait n (y.wt k)) ⟨upd Y.li k { Y.li k with q := upd (Y.li k).q n y }, M'⟩ where
  line := fun j hj => by
    show SimL j (F.wait n (y.wt k)) (upd Y.li k _ j)
    have h1 := hs.line j hj
    have hne : ∀ i, (Y.li j).waits i → i ≠ n := fun i hi e => hw j hj (e ▸ hi)
    by_cases e : j = k
    · subst e
      rw [upd_same]
      refine ⟨h1.st, h1.va, h1.home, h1.own, h1.sh, h1.busy, fun i hi => ?_⟩
      by_cases e2 : i = n
      · subst e2
        show upd F.wt i (y.wt j) i = (match (Y.li j).ph with | .turn r wr d _ _ g => if i = r then d.wt j wr g else (upd (Y.li j).q i y i).wt j | _ => (upd (Y.li j).q i y i).wt j)
        rw [upd_same, upd_same]
        cases e3 : (Y.li j).ph with
        | idle => rfl
        | free r => rfl
        | turn r wr d i' a g =>
          show _ = if i = r then _ else _
          rw [if_neg]
          intro e4
          subst e4
          exact hw j hj (.inr ⟨_, _, _, _, _, e3⟩)
      · have hi2 : (Y.li j).waits i := by
          rcases hi with k1 | k1
          · have k1 : upd (Y.li j).q n y i ≠ .no := k1
            rw [upd_ne _ _ e2] at k1; exact .inl k1
          · exact .inr k1
        show upd F.wt n (y.wt j) i = (match (Y.li j).ph with | .turn r wr d _ _ g => if i = r then d.wt j wr g else (upd (Y.li j).q n y i).wt j | _ => (upd (Y.li j).q n y i).wt j)
        rw [upd_ne _ _ e2, upd_ne _ _ e2]
        exact h1.wt i hi2
    · rw [upd_ne _ _ e]
      exact ⟨h1.st, h1.va, h1.home, h1.own, h1.sh, h1.busy, fun i hi => by
        show upd F.wt n (y.wt k) i = _
        rw [upd_ne _ _ (hne i hi)]; exact h1.wt i hi⟩
  none := fun i hi => by
    have e : i ≠ n := fun e => hi k hk (by
      show (upd Y.li k _ k).waits i
      rw [upd_same]
      refine .inl ?_
      show upd (Y.li k).q n y i ≠ .no
      rw [e, upd_same]; exact hy)
    show upd F.wt n (y.wt k) i = _
    rw [upd_ne _ _ e]
    refine hs.none i fun j hj hj2 => hi j hj ?_
    show (upd Y.li k _ j).waits i
    by_cases e2 : j = k
    · subst e2
      rw [upd_same]
      rcases hj2 with k1 | k1
      · refine .inl ?_
        show upd (Y.li j).q n y i ≠ .no
        rw [upd_ne _ _ e]; exact k1
      · exact .inr k1
    · rw [upd_ne _ _ e2]; exact hj2
theorem want_msg (F : Fs) (n k : Nat) (wr : Bool) : (Mg.get n wr).is k ((F.wait n ((Rq.get wr).wt k)).asked n) := by
  have h : (F.wait n ((Rq.get wr).wt k)).wt n = (Rq.get wr).wt k := upd_same _ _ _
  show _ = _
  unfold Fs.asked
  rw [h]
  cases wr <;> rfl
theorem evict_msg {k : Nat} {F : Fs} {L : Li} (hs : SimL k F L) (n : Nat) : (Mg.put n (L.v n)).is k ((F.wait n ((Rq.put (L.v n)).wt k)).asked n) := by
  have h : (F.wait n ((Rq.put (L.v n)).wt k)).wt n = (Rq.put (L.v n)).wt k := upd_same _ _ _
  show _ = _
  unfold Fs.asked
  rw [h, ← hs.va n]
  rfl
/-- A core gives back what it shares, or sets its word. -/
theorem sim_set {l k : Nat} {F F' : Fs} {Y : Sy} {M' : List (Nat × Mg)} {s : Nat → Nat} {v : Nat → Nat} {x : Nat} (hs : Sim l F Y) (hk : k < l) (h1 : ∀ i j, F'.st i j = if j = k then s i else F.st i j) (h2 : ∀ i j, F'.va i j = if j = k then v i else F.va i j)
    (h3 : F'.wt = F.wt) (h4 : F'.home = F.home) (h5 : F'.own = F.own) (h6 : F'.sh = F.sh) (h7 : F'.busy = F.busy) : Sim l F' ⟨upd Y.li k { Y.li k with s := s, v := v, last := x }, M'⟩ where
  line := fun j hj => by
    show SimL j F' (upd Y.li k _ j)
    have h0 := hs.line j hj
    by_cases e : j = k
    · subst e
      rw [upd_same]
      exact ⟨fun i => by rw [h1, if_pos rfl], fun i => by rw [h2, if_pos rfl], by rw [h4]; exact h0.home, by rw [h5]; exact h0.own, by rw [h6]; exact h0.sh, by rw [h7]; exact h0.busy, fun i hi => by rw [h3]; exact h0.wt i hi⟩
    · rw [upd_ne _ _ e]
      exact ⟨fun i => by rw [h1, if_neg e]; exact h0.st i, fun i => by rw [h2, if_neg e]; exact h0.va i, by rw [h4]; exact h0.home, by rw [h5]; exact h0.own, by rw [h6]; exact h0.sh, by rw [h7]; exact h0.busy, fun i hi => by rw [h3]; exact h0.wt i hi⟩
  none := fun i hi => by
    rw [h3]
    refine hs.none i fun j hj hj2 => hi j hj ?_
    show (upd Y.li k _ j).waits i
    by_cases e2 : j = k
    · subst e2; rw [upd_same]; exact hj2
    · rw [upd_ne _ _ e2]; exact hj2
end Go.Proofs.YtmeomdfmljanhaaGreat.Pr
/- Layer 10: a system and what is under way, as the lines say; whatever is asked, set, given back and delivered keeps it. No program in sight. -/
namespace Go.Proofs.YtmeomdfmljanhaaGreat.Pr
set_option linter.unusedVariables false

def AreAll : List Fm → List (Nat × Mg) → Prop
  | [], [] => True
  | f :: l, x :: M => x.2.is x.1 f ∧ AreAll l M
  | _, _ => False
theorem areAll_of {k : Nat} : ∀ {l : List Fm} {M : List Mg}, Are k l M → AreAll l (M.map fun m => (k, m))
  | [], [], _ => trivial
  | f :: l, m :: M, h => ⟨h.1, areAll_of h.2⟩
  | [], _ :: _, h => h.elim
  | _ :: _, [], h => h.elim
theorem areAll_app : ∀ {a b : List Fm} {M N : List (Nat × Mg)}, AreAll a M → AreAll b N → AreAll (a ++ b) (M ++ N)
  | [], _, [], _, _, h2 => h2
  | f :: a, _, x :: M, _, h, h2 => ⟨h.1, areAll_app h.2 h2⟩
  | [], _, _ :: _, _, h, _ => h.elim
  | _ :: _, _, [], _, h, _ => h.elim
theorem areAll_split : ∀ {a b : List Fm} {f : Fm} {M : List (Nat × Mg)}, AreAll (a ++ f :: b) M → ∃ M1 x M2, M = M1 ++ x :: M2 ∧ M1.length = a.length ∧ AreAll a M1 ∧ x.2.is x.1 f ∧ AreAll b M2
  | [], b, f, [], h => h.elim
  | [], b, f, x :: M, h => ⟨[], x, M, rfl, rfl, trivial, h.1, h.2⟩
  | g :: a, b, f, [], h => h.elim
  | g :: a, b, f, x :: M, h => by
    obtain ⟨M1, y, M2, e, h1, h2, h3, h4⟩ := areAll_split (a := a) h.2
    exact ⟨x :: M1, y, M2, by rw [e]; rfl, by simp [h1], ⟨h.1, h2⟩, h3, h4⟩
theorem areAll_length : ∀ {l : List Fm} {M : List (Nat × Mg)}, AreAll l M → l.length = M.length
  | [], [], _ => rfl
  | f :: l, x :: M, h => by simp [areAll_length h.2]
  | [], _ :: _, h => h.elim
  | _ :: _, [], h => h.elim
/-- A system F with ms under way is what the lines Y say. -/
structure Is (c l : Nat) (F : Fs) (ms : List Fm) (Y : Sy) : Prop where
  ok : OkS c l Y
  small : ∀ k, k < l → (Y.li k).ph.small c
  sim : Sim l F Y
  are : AreAll ms Y.M
theorem small_upd {c l k : Nat} {Y : Sy} {L' : Li} (h : ∀ j, j < l → (Y.li j).ph.small c) (hk : k < l) (hp : L'.ph = (Y.li k).ph) : ∀ j, j < l → (upd Y.li k L' j).ph.small c := fun j hj => by
  by_cases e : j = k
  · subst e; rw [upd_same, hp]; exact h j hj
  · rw [upd_ne _ _ e]; exact h j hj
theorem Is.new (c l : Nat) : ∃ Y, Is c l ⟨fun _ _ => 0, fun _ _ => 0, fun _ => Wt.none, fun _ => 0, fun _ => 0, fun _ _ => false, fun _ => 0⟩ [] Y :=
  ⟨_, OkS.new c l, fun _ _ => trivial, sim_new l, trivial⟩
/-- A frame comes. -/
theorem Is.act {c l : Nat} {F : Fs} {a b : List Fm} {f : Fm} {Y : Sy} (hc : c ≤ 4) (h : Is c l F (a ++ f :: b) Y) : ∃ k m M1 M2, k < l ∧ m.is k f ∧ Y.M = M1 ++ (k, m) :: M2 ∧ M1.length = a.length ∧ Is c l (F.act c f).1 (a ++ b ++ (F.act c f).2) (Y.del c k m M1 M2) := by
  obtain ⟨M1, ⟨k, m⟩, M2, e, h1, h2, h3, h4⟩ := areAll_split h.are
  have hk : k < l := h.ok.lines (k, m) (by rw [e]; simp)
  obtain ⟨g1, g2⟩ := sim_del hc h.ok h.small h.sim e h3
  exact ⟨k, m, M1, M2, hk, h3, e, h1, (h.ok.del hc k m M1 M2 e).1, del_small_all h.ok h.small e, g1, areAll_app (areAll_app h2 h4) (areAll_of g2)⟩
/-- Who waits for nothing. -/
theorem Is.free {c l : Nat} {F : Fs} {ms : List Fm} {Y : Sy} (h : Is c l F ms Y) {n : Nat} (hw : (F.wt n).line = 0) : ∀ j, j < l → ¬ (Y.li j).waits n := fun j hj hn => by
  rw [(h.sim.line j hj).wt n hn] at hw
  rcases hn with k1 | ⟨wr, d, i, a, g, k1⟩
  · rw [wt_q (h.ok.ok j hj) j k1, (wt_line k1).1] at hw; omega
  · rw [wt_turn j k1] at hw
    cases d <;> cases hw
/-- A core wants a line. -/
theorem Is.want {c l k n : Nat} {F : Fs} {ms : List Fm} {Y : Sy} (h : Is c l F ms Y) (hk : k < l) (hn : n < c) (wr : Bool) (hw : (F.wt n).line = 0) (hs : if wr then F.st n k ≠ 2 ∧ F.st n k ≠ 3 else F.st n k = 0) :
    Is c l (F.wait n ((Rq.get wr).wt k)) (ms ++ [(F.wait n ((Rq.get wr).wt k)).asked n]) ⟨upd Y.li k { Y.li k with q := upd (Y.li k).q n (.get wr) }, Y.M ++ [(k, .get n wr)]⟩ where
  ok := h.ok.want k n wr hk hn (h.free hw) (by rw [← (h.sim.line k hk).st n]; exact hs)
  small := small_upd h.small hk rfl
  sim := sim_ask h.ok h.sim hk (h.free hw) (.get wr) (fun e => by cases e)
  are := areAll_app h.are ⟨want_msg F n k wr, trivial⟩
/-- A core gives a line back, that it owns. -/
theorem Is.evict {c l k n : Nat} {F : Fs} {ms : List Fm} {Y : Sy} (h : Is c l F ms Y) (hk : k < l) (hn : n < c) (hw : (F.wt n).line = 0) (hs : 2 ≤ F.st n k) :
    Is c l (F.wait n ((Rq.put 0).wt k)) (ms ++ [(F.wait n ((Rq.put 0).wt k)).asked n]) ⟨upd Y.li k { Y.li k with q := upd (Y.li k).q n (.put ((Y.li k).v n)) }, Y.M ++ [(k, .put n ((Y.li k).v n))]⟩ where
  ok := h.ok.evict k n hk hn (h.free hw) (by rw [← (h.sim.line k hk).st n]; exact hs)
  small := small_upd h.small hk rfl
  sim := sim_ask h.ok h.sim hk (h.free hw) (.put ((Y.li k).v n)) (fun e => by cases e)
  are := areAll_app h.are ⟨evict_msg (h.sim.line k hk) n, trivial⟩
/-- A core gives a line back, that it shares. -/
theorem Is.leave {c l k n : Nat} {F : Fs} {ms : List Fm} {Y : Sy} (h : Is c l F ms Y) (hk : k < l) (hs : F.st n k = 1) : Is c l (F.state n k 0) ms ⟨upd Y.li k { Y.li k with s := upd (Y.li k).s n 0 }, Y.M⟩ where
  ok := h.ok.leave k n hk (by rw [← (h.sim.line k hk).st n]; exact hs)
  small := small_upd h.small hk rfl
  sim := sim_set (F' := F.state n k 0) (s := upd (Y.li k).s n 0) (v := (Y.li k).v) (x := (Y.li k).last) h.sim hk (fun i j => by
    show upd2 F.st n k 0 i j = _
    by_cases e : j = k
    · subst e; rw [if_pos rfl, upd2_at]; congr 1; funext m; exact (h.sim.line j hk).st m
    · rw [if_neg e, upd2_ne _ _ _ _ e]) (fun i j => by
    by_cases e : j = k
    · subst e; rw [if_pos rfl]; exact (h.sim.line j hk).va i
    · rw [if_neg e]; rfl) rfl rfl rfl rfl rfl
  are := h.are
/-- A core sets its word. -/
theorem Is.set {c l k n w : Nat} {F : Fs} {ms : List Fm} {Y : Sy} (h : Is c l F ms Y) (hk : k < l) (hs : F.st n k = 2 ∨ F.st n k = 3) (hw : (F.wt n).line ≠ k + 1) : Is c l ((F.value n k w).state n k 3) ms ⟨upd Y.li k { Y.li k with s := upd (Y.li k).s n 3, v := upd (Y.li k).v n w, last := w }, Y.M⟩ where
  ok := h.ok.setWord k n w hk (by rw [← (h.sim.line k hk).st n]; exact hs) (fun hn => by
    apply hw
    rw [(h.sim.line k hk).wt n hn]
    rcases hn with k1 | ⟨wr, d, i, a, g, k1⟩
    · rw [wt_q (h.ok.ok k hk) k k1, (wt_line k1).1]
    · rw [wt_turn k k1]; cases d <;> rfl)
  small := small_upd h.small hk rfl
  sim := sim_set (F' := (F.value n k w).state n k 3) (s := upd (Y.li k).s n 3) (v := upd (Y.li k).v n w) (x := w) h.sim hk (fun i j => by
    show upd2 F.st n k 3 i j = _
    by_cases e : j = k
    · subst e; rw [if_pos rfl, upd2_at]; congr 1; funext m; exact (h.sim.line j hk).st m
    · rw [if_neg e, upd2_ne _ _ _ _ e]) (fun i j => by
    show upd2 F.va n k w i j = _
    by_cases e : j = k
    · subst e; rw [if_pos rfl, upd2_at]; congr 1; funext m; exact (h.sim.line j hk).va m
    · rw [if_neg e, upd2_ne _ _ _ _ e]) rfl rfl rfl rfl rfl
  are := h.are
end Go.Proofs.YtmeomdfmljanhaaGreat.Pr
/- Layer 10: what the numbers of a system, and of messages, are, as long as it goes on. No program in sight. -/
namespace Go.Proofs.YtmeomdfmljanhaaGreat.Pr
set_option linter.unusedVariables false

/-- A system's numbers. -/
structure Bd (c l : Nat) (F : Fs) : Prop where
  st : ∀ n k, F.st n k ≤ 4
  va : ∀ n k, F.va n k < 4294967296
  line : ∀ n, (F.wt n).line ≤ l
  need : ∀ n, (F.wt n).need ≤ 255
  got : ∀ n, (F.wt n).got ≤ 255
  wval : ∀ n, (F.wt n).val < 4294967296
  home : ∀ k, F.home k < 4294967296
  own : ∀ k, F.own k ≤ c
  busy : ∀ k, F.busy k ≤ c
  sh : ∀ k j, c ≤ j → F.sh k j = false
/-- A message's numbers. -/
structure FB (c l : Nat) (f : Fm) : Prop where
  k1 : 1 ≤ f.kind
  k11 : f.kind ≤ 11
  frm : f.frm ≤ c
  to : f.to ≤ c
  line : f.line < l
  fr : f.fr ≤ c
  acks : f.acks ≤ 255
  num : f.num ≤ 1
  val : f.val < 4294967296
/-- Whoever isn't home is told who sends; what comes home is said by whom. -/
def FB.said (f : Fm) : Prop := f.to = 0 → 1 ≤ f.frm
theorem upd2_get {α : Type} (f : Nat → Nat → α) (n k : Nat) (x : α) (i j : Nat) : upd2 f n k x i j = if i = n ∧ j = k then x else f i j := by
  unfold upd2 upd
  by_cases h : i = n
  · subst h
    by_cases h2 : j = k
    · simp [h2]
    · simp [h2]
  · simp [h]
theorem Bd.new (c l : Nat) : Bd c l ⟨fun _ _ => 0, fun _ _ => 0, fun _ => Wt.none, fun _ => 0, fun _ => 0, fun _ _ => false, fun _ => 0⟩ :=
  ⟨fun _ _ => by show 0 ≤ 4; omega, fun _ _ => by show 0 < 4294967296; omega, fun _ => Nat.zero_le _, fun _ => Nat.zero_le _, fun _ => Nat.zero_le _, fun _ => by show 0 < 4294967296; omega, fun _ => by show 0 < 4294967296; omega, fun _ => Nat.zero_le _, fun _ => Nat.zero_le _, fun _ _ _ => rfl⟩
theorem Bd.state {c l : Nat} {F : Fs} (h : Bd c l F) (n k s : Nat) (hs : s ≤ 4) : Bd c l (F.state n k s) :=
  { h with st := fun i j => by show upd2 F.st n k s i j ≤ 4; rw [upd2_get]; split; exact hs; exact h.st i j }
theorem Bd.value {c l : Nat} {F : Fs} (h : Bd c l F) (n k w : Nat) (hw : w < 4294967296) : Bd c l (F.value n k w) :=
  { h with va := fun i j => by show upd2 F.va n k w i j < _; rw [upd2_get]; split; exact hw; exact h.va i j }
structure WB (l : Nat) (x : Wt) : Prop where
  line : x.line ≤ l
  need : x.need ≤ 255
  got : x.got ≤ 255
  wval : x.val < 4294967296
theorem WB.none (l : Nat) : WB l Wt.none := ⟨Nat.zero_le _, Nat.zero_le _, Nat.zero_le _, by show 0 < 4294967296; omega⟩
theorem Bd.wb {c l : Nat} {F : Fs} (h : Bd c l F) (n : Nat) : WB l (F.wt n) := ⟨h.line n, h.need n, h.got n, h.wval n⟩
theorem Bd.wait {c l : Nat} {F : Fs} (h : Bd c l F) (n : Nat) (x : Wt) (hx : WB l x) : Bd c l (F.wait n x) := by
  have hw : ∀ m, WB l ((F.wait n x).wt m) := fun m => by
    show WB l (upd F.wt n x m)
    unfold upd
    split
    · exact hx
    · exact h.wb m
  exact { h with line := fun m => (hw m).line, need := fun m => (hw m).need, got := fun m => (hw m).got, wval := fun m => (hw m).wval }
theorem fb_mk {c l : Nat} {kind frm to line fr acks : Nat} {own : Bool} {num val : Nat} (h1 : 1 ≤ kind) (h2 : kind ≤ 11) (h3 : frm ≤ c) (h4 : to ≤ c) (h5 : line < l) (h6 : fr ≤ c) (h7 : acks ≤ 255) (h8 : num ≤ 1) (h9 : val < 4294967296) : FB c l ⟨kind, frm, to, line, fr, acks, own, num, val⟩ := ⟨h1, h2, h3, h4, h5, h6, h7, h8, h9⟩
def AllB (c l : Nat) (ms : List Fm) : Prop := ∀ f ∈ ms, FB c l f ∧ FB.said f
theorem allB_nil (c l : Nat) : AllB c l [] := fun f hf => by cases hf
theorem allB_one {c l : Nat} {f : Fm} (h : FB c l f) (h2 : FB.said f) : AllB c l [f] := fun g hg => by rw [List.mem_singleton.1 hg]; exact ⟨h, h2⟩
theorem allB_app {c l : Nat} {a b : List Fm} (h : AllB c l a) (h2 : AllB c l b) : AllB c l (a ++ b) := fun f hf => (List.mem_append.1 hf).elim (h f) (h2 f)
theorem said_to {f : Fm} (h : f.to ≠ 0) : FB.said f := fun e => absurd e h
theorem z32 : 0 < 4294967296 := by omega
/-- What a core asks. -/
theorem asked_fb {c l n : Nat} {F : Fs} (h : Bd c l F) (hn : n < c) (hl : 1 ≤ l) : FB c l (F.asked n) ∧ FB.said (F.asked n) := by
  have h1 := h.line n
  unfold Fs.asked
  split
  · exact ⟨fb_mk (by omega) (by omega) (by omega) (by omega) (by omega) (by omega) (by omega) (by omega) (h.va _ _), fun _ => by show 1 ≤ n + 1; omega⟩
  · split
    · exact ⟨fb_mk (by omega) (by omega) (by omega) (by omega) (by omega) (by omega) (by omega) (by omega) z32, fun _ => by show 1 ≤ n + 1; omega⟩
    · exact ⟨fb_mk (by omega) (by omega) (by omega) (by omega) (by omega) (by omega) (by omega) (by omega) z32, fun _ => by show 1 ≤ n + 1; omega⟩
theorem came_bd {c l n : Nat} {F : Fs} (h : Bd c l F) (hn : n < c) (hl : 1 ≤ l) : Bd c l (F.came n).1 ∧ AllB c l (F.came n).2 := by
  have h1 := h.line n
  unfold Fs.came
  split
  · refine ⟨?_, allB_one (fb_mk (by omega) (by omega) (by omega) (by omega) (by omega) (by omega) (by omega) (by omega) z32) (fun _ => by show 1 ≤ n + 1; omega)⟩
    have h2 : Bd c l (F.wait n Wt.none) := h.wait n _ (WB.none l)
    have h3 : Bd c l ((F.wait n Wt.none).state n ((F.wt n).line - 1) (if (F.wt n).write then 3 else if (F.wt n).own then 2 else 1)) := h2.state _ _ _ (by split; omega; split <;> omega)
    refine { h3 with va := fun i j => ?_ }
    show (if (F.wt n).keep then F.va else upd2 F.va n ((F.wt n).line - 1) (F.wt n).val) i j < _
    split
    · exact h.va i j
    · rw [upd2_get]
      split
      · exact h.wval n
      · exact h.va i j
  · exact ⟨h, allB_nil c l⟩
theorem offs_le (c n : Nat) (sh : Nat → Bool) : (offs c n sh).length ≤ c := by have := offs_len c n sh; omega
theorem offs_lt {c n m : Nat} {sh : Nat → Bool} (h : m ∈ offs c n sh) : m < c := by
  unfold offs at h
  exact List.mem_range.1 (List.mem_filter.1 h).1
theorem Bd.asks {c l n k : Nat} {F : Fs} (h : Bd c l F) (hn : n < c) : Bd c l { F with busy := upd F.busy k (n + 1), own := upd F.own k (n + 1), sh := upd F.sh k fun _ => false } :=
  { h with
    own := fun j => by show upd F.own k (n + 1) j ≤ c; unfold upd; split; omega; exact h.own j
    busy := fun j => by show upd F.busy k (n + 1) j ≤ c; unfold upd; split; omega; exact h.busy j
    sh := fun i j hj => by show upd F.sh k _ i j = false; unfold upd; split; rfl; exact h.sh i j hj }
theorem reads_bd {c l n k : Nat} {F : Fs} (h : Bd c l F) (hn : n < c) (hk : k < l) : Bd c l (F.reads c n k).1 ∧ AllB c l (F.reads c n k).2 := by
  unfold Fs.reads
  split
  · exact ⟨h.asks hn, allB_one (fb_mk (by omega) (by omega) (by omega) (by omega) hk (by omega) (by omega) (by omega) (h.home k)) (said_to (by show n + 1 ≠ 0; omega))⟩
  · refine ⟨{ h with busy := fun j => by show upd F.busy k (n + 1) j ≤ c; unfold upd; split; omega; exact h.busy j, sh := fun i j hj => ?_ }, ?_⟩
    · show upd F.sh k (upd (F.sh k) n true) i j = false
      by_cases e : i = k
      · subst e
        rw [upd_same, upd_ne _ _ (show j ≠ n by omega)]
        exact h.sh i j hj
      · rw [upd_ne _ _ e]
        exact h.sh i j hj
    · split
      · exact allB_one (fb_mk (by omega) (by omega) (by omega) (by omega) hk (by omega) (by omega) (by omega) (h.home k)) (said_to (by show n + 1 ≠ 0; omega))
      · rename_i ho
        exact allB_one (fb_mk (by omega) (by omega) (by omega) (h.own k) hk (by omega) (by omega) (by omega) z32) (said_to (by show F.own k ≠ 0; exact ho))
theorem writes_bd {c l n k : Nat} {F : Fs} (hc : c ≤ 4) (h : Bd c l F) (hn : n < c) (hk : k < l) : Bd c l (F.writes c n k).1 ∧ AllB c l (F.writes c n k).2 := by
  have hlen := offs_le c n (F.sh k)
  unfold Fs.writes
  refine ⟨h.asks hn, allB_app (fun f hf => ?_) ?_⟩
  · obtain ⟨m, hm, rfl⟩ := List.mem_map.1 hf
    have := offs_lt hm
    exact ⟨fb_mk (by omega) (by omega) (by omega) (by omega) hk (by omega) (by omega) (by omega) z32, said_to (by show m + 1 ≠ 0; omega)⟩
  · split
    · exact allB_one (fb_mk (by omega) (by omega) (by omega) (by omega) hk (by omega) (by omega) (by omega) (h.home k)) (said_to (by show n + 1 ≠ 0; omega))
    · split
      · exact allB_one (fb_mk (by omega) (by omega) (by omega) (by omega) hk (by omega) (by omega) (by omega) z32) (said_to (by show n + 1 ≠ 0; omega))
      · rename_i ho _
        exact allB_one (fb_mk (by omega) (by omega) (by omega) (h.own k) hk (by omega) (by omega) (by omega) z32) (said_to (by show F.own k ≠ 0; exact ho))
theorem home_bd {c l : Nat} {F : Fs} {m : Fm} (hc : c ≤ 4) (h : Bd c l F) (hm : FB c l m) (hs : 1 ≤ m.frm) : Bd c l (F.atHome c m).1 ∧ AllB c l (F.atHome c m).2 := by
  have hf := hm.frm
  have hn : m.frm - 1 < c := by omega
  have nack : AllB c l [⟨10, 0, m.frm, m.line, 0, 0, false, 0, 0⟩] := allB_one (fb_mk (by omega) (by omega) (by omega) hf hm.line (by omega) (by omega) (by omega) z32) (said_to (by show m.frm ≠ 0; omega))
  unfold Fs.atHome
  by_cases h12 : m.kind = 1 ∨ m.kind = 2
  · rw [if_pos h12]
    by_cases hfr : m.fr = m.frm
    · rw [if_pos hfr]
      by_cases hb : F.busy m.line = 0
      · rw [if_pos hb]
        by_cases h2 : m.kind = 2
        · rw [if_pos h2]; exact writes_bd hc h hn hm.line
        · rw [if_neg h2]; exact reads_bd h hn hm.line
      · rw [if_neg hb]; exact ⟨h, nack⟩
    · rw [if_neg hfr]; exact ⟨h, allB_nil c l⟩
  · rw [if_neg h12]
    by_cases h8 : m.kind = 8
    · rw [if_pos h8]
      by_cases hb : F.busy m.line = 0
      · rw [if_pos hb]
        refine ⟨{ h with own := fun j => ?_, home := fun j => ?_ }, allB_one (fb_mk (by omega) (by omega) (by omega) hf hm.line (by omega) (by omega) (by omega) z32) (said_to (by show m.frm ≠ 0; omega))⟩
        · show upd F.home m.line (if F.own m.line = m.frm then m.val else F.home m.line) j < 4294967296
          by_cases e : j = m.line
          · subst e
            rw [upd_same]
            split
            · exact hm.val
            · exact h.home _
          · rw [upd_ne _ _ e]; exact h.home j
        · show upd F.own m.line (if F.own m.line = m.frm then 0 else F.own m.line) j ≤ c
          by_cases e : j = m.line
          · subst e
            rw [upd_same]
            split
            · omega
            · exact h.own _
          · rw [upd_ne _ _ e]; exact h.own j
      · rw [if_neg hb]; exact ⟨h, nack⟩
    · rw [if_neg h8]
      by_cases h11 : m.kind = 11 ∧ F.busy m.line = m.frm
      · rw [if_pos h11]
        exact ⟨{ h with busy := fun j => by show upd F.busy m.line 0 j ≤ c; unfold upd; split; omega; exact h.busy j }, allB_nil c l⟩
      · rw [if_neg h11]; exact ⟨h, allB_nil c l⟩
theorem core_bd {c l n : Nat} {F : Fs} {m : Fm} (h : Bd c l F) (hn : n < c) (hl : 1 ≤ l) (hm : FB c l m) (hfr : m.kind = 4 ∨ m.kind = 6 ∨ m.kind = 7 → 1 ≤ m.fr) : Bd c l (F.atCore n m).1 ∧ AllB c l (F.atCore n m).2 := by
  have h1 := h.line n
  unfold Fs.atCore
  split
  · split
    · exact came_bd (h.wait n _ ⟨h1, hm.acks, h.got n, hm.val⟩) hn hl
    · exact ⟨h, allB_nil c l⟩
  split
  · split
    · rename_i hg
      exact came_bd (h.wait n _ ⟨h1, h.need n, by show (F.wt n).got + 1 ≤ 255; have := hg.2.2; omega, h.wval n⟩) hn hl
    · exact ⟨h, allB_nil c l⟩
  split
  · rename_i h4
    have := hfr (.inl h4)
    refine ⟨?_, allB_one (fb_mk (by omega) (by omega) (by omega) hm.fr hm.line (by omega) (by omega) (by omega) z32) (said_to (by show m.fr ≠ 0; omega))⟩
    split
    · exact h.state _ _ _ (by omega)
    · exact h
  split
  · rename_i h6
    have := hfr (.inr (.inl h6))
    split
    · exact ⟨h.state _ _ _ (by omega), allB_one (fb_mk (by omega) (by omega) (by omega) hm.fr hm.line (by omega) hm.acks (by omega) (h.va _ _)) (said_to (by show m.fr ≠ 0; omega))⟩
    · exact ⟨h, allB_nil c l⟩
  split
  · rename_i h7
    have := hfr (.inr (.inr h7))
    split
    · exact ⟨h.state _ _ _ (by omega), allB_one (fb_mk (by omega) (by omega) (by omega) hm.fr hm.line (by omega) hm.acks (by omega) (h.va _ _)) (said_to (by show m.fr ≠ 0; omega))⟩
    · exact ⟨h, allB_nil c l⟩
  split
  · split
    · split
      · exact ⟨h.wait n _ (WB.none l), allB_nil c l⟩
      · have := asked_fb h hn hl
        exact ⟨h, allB_one this.1 this.2⟩
    · exact ⟨h, allB_nil c l⟩
  split
  · split
    · exact ⟨(h.state _ _ _ (by omega)).wait n _ (WB.none l), allB_nil c l⟩
    · exact ⟨h, allB_nil c l⟩
  · exact ⟨h, allB_nil c l⟩
/-- Whatever comes, it stays so. -/
theorem act_bd {c l : Nat} {F : Fs} {m : Fm} (hc : c ≤ 4) (hl : 1 ≤ l) (h : Bd c l F) (hm : FB c l m) (hs : FB.said m) (hfr : m.kind = 4 ∨ m.kind = 6 ∨ m.kind = 7 → 1 ≤ m.fr) : Bd c l (F.act c m).1 ∧ AllB c l (F.act c m).2 := by
  have ht := hm.to
  unfold Fs.act
  split
  · rename_i h0
    exact home_bd hc h hm (hs h0)
  · exact core_bd h (by omega) hl hm hfr
/-- Who asks to be sent something says whom. -/
theorem is_fr {k : Nat} {f : Fm} {m : Mg} (h : m.is k f) : f.kind = 4 ∨ f.kind = 6 ∨ f.kind = 7 → 1 ≤ f.fr := by
  intro hk
  cases m with
  | get n wr => rw [show f = _ from h] at hk; cases wr <;> simp at hk
  | put n x => rw [show f = _ from h] at hk; simp at hk
  | free n => rw [show f = _ from h] at hk; simp at hk
  | nack n => rw [show f = _ from h] at hk; simp at hk
  | putAck n => rw [show f = _ from h] at hk; simp at hk
  | data r own keep need x => obtain ⟨frm, rfl⟩ := h; simp at hk
  | fwd o r wr need => rw [show f = _ from h]; show 1 ≤ r + 1; omega
  | inv n r => rw [show f = _ from h]; show 1 ≤ r + 1; omega
  | ack r => obtain ⟨frm, rfl⟩ := h; simp at hk
end Go.Proofs.YtmeomdfmljanhaaGreat.Pr
