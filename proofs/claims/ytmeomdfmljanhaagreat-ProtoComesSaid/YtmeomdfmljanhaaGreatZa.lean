/- Laid together, in this order: ProtoA, ProtoB, ProtoC, ProtoD, ProtoE, ProtoF, ProtoG, ProtoH, ProtoI, ProtoJ, ProtoK, ProtoL. -/
import Derived.Lib.Hide
set_option linter.unusedSimpArgs false
set_option linter.unusedVariables false
/- Layer 10's lines, one by one: what a line is at, by what is on its way, and what always holds of it; plain values, no program in sight. -/
namespace Go.Proofs.YtmeomdfmljanhaaGreat.Pr
set_option linter.unusedVariables false

/-- What a core's own asking about a line is at: nothing on its way; GetS or GetM on its way home; Nack on its way to it; Put on its way home; Nack of it; PutAck. -/
inductive Rq where
  | no
  | get (wr : Bool)
  | nackG (wr : Bool)
  | put (x : Nat)
  | nackP
  | putAck
/-- What the word of the one in turn is at: on its way to it; to be sent by o; come. -/
inductive Dt where
  | data (own keep : Bool) (need x : Nat)
  | fwd (o need : Nat)
  | came (own keep : Bool) (need x : Nat)
def Dt.need : Dt → Nat
  | .data _ _ n _ => n
  | .fwd _ n => n
  | .came _ _ n _ => n
/-- A line is free; or Free is on its way from r; or r is in turn. -/
inductive Ph where
  | idle
  | free (r : Nat)
  | turn (r : Nat) (wr : Bool) (d : Dt) (inv ack : List Nat) (got : Nat)
/-- A line: how each core has it, with which word, and what it asked; whom the directory knows; the word at home, and what was set last. -/
structure Li where
  s : Nat → Nat
  v : Nat → Nat
  q : Nat → Rq
  own : Nat
  sh : Nat → Bool
  home : Nat
  last : Nat
  ph : Ph
def upd {α : Type} (f : Nat → α) (n : Nat) (x : α) : Nat → α := fun m => if m = n then x else f m
theorem upd_same {α : Type} (f : Nat → α) (n : Nat) (x : α) : upd f n x n = x := if_pos rfl
theorem upd_ne {α : Type} (f : Nat → α) {n m : Nat} (x : α) (h : m ≠ n) : upd f n x m = f m := if_neg h
/-- It gives back, and hasn't heard. -/
def Rq.backs : Rq → Bool
  | .put _ => true
  | .nackP => true
  | .putAck => true
  | _ => false
/-- Who is in turn. -/
def Ph.at_ : Ph → Option Nat
  | .turn r _ _ _ _ _ => some r
  | _ => none
/-- Who owns it truly. -/
def Li.top (L : Li) : Option Nat :=
  match L.ph with
  | .turn _ true (.fwd o _) _ _ _ => some o
  | .turn _ true _ _ _ _ => none
  | .turn r false _ _ _ _ => if L.own = 0 ∨ L.own = r + 1 then none else some (L.own - 1)
  | _ => if L.own = 0 then none else some (L.own - 1)
/-- Does the one in turn keep its word? -/
def Li.keeps (L : Li) (n : Nat) : Prop := ∃ own need x inv ack got, L.ph = .turn n true (.data own true need x) inv ack got ∨ L.ph = .turn n true (.came own true need x) inv ack got
/-- Who has been told off, and hasn't heard it. -/
def Li.told (L : Li) (n : Nat) : Prop := ∃ r d inv ack got, L.ph = .turn r true d inv ack got ∧ (n ∈ inv ∨ n = r)
/-- What always holds of a line. -/
structure Ok (L : Li) : Prop where
  /-- who owns it truly has its word -/
  top : ∀ n, L.top = some n → 2 ≤ L.s n ∧ L.v n = L.last ∧ L.q n ≠ .putAck
  /-- who has it so owns it truly, or has given it back, or keeps it -/
  high : ∀ n, 2 ≤ L.s n → L.top = some n ∨ L.q n = .putAck ∨ (L.keeps n ∧ L.s n = 4)
  le4 : ∀ n, L.s n ≤ 4
  /-- who shares it has its word, and is known to, or told off -/
  share : ∀ n, L.s n = 1 → L.v n = L.last ∧ (L.sh n = true ∨ L.told n)
  /-- nobody shares what somebody may write -/
  alone : ∀ n, L.top = some n → L.s n ≠ 4 → ∀ m, m ≠ n → L.s m = 0 ∨ L.q m = .putAck
  /-- who owns it doesn't share it; who has given it back neither -/
  apart : ∀ n, L.sh n = true → L.own ≠ n + 1 ∧ (L.q n).backs = false
  backs : ∀ n, (L.q n).backs = true → L.s n ≠ 1
  back : ∀ n, L.q n = .putAck → L.own ≠ n + 1 ∧ L.top ≠ some n
  /-- what was asked -/
  askR : ∀ n, (L.q n = .get false ∨ L.q n = .nackG false) → L.s n = 0
  askW : ∀ n, (L.q n = .get true ∨ L.q n = .nackG true) → L.s n ≠ 2 ∧ L.s n ≠ 3
  gave : ∀ n x, L.q n = .put x → L.v n = x
  /-- the word at home -/
  home : (∀ r d i a g, L.ph ≠ .turn r true d i a g) → L.own = 0 → L.home = L.last
  /-- the one in turn -/
  turnQ : ∀ r wr d i a g, L.ph = .turn r wr d i a g → L.q r = .no
  turnR : ∀ r d i a g, L.ph = .turn r false d i a g → L.s r = 0 ∧ i = [] ∧ a = [] ∧ g = 0 ∧ d.need = 0 ∧ (L.own = r + 1 ∧ (∀ m, L.sh m = false) ∧ (∀ m, L.s m = 0 ∨ L.q m = .putAck) ∨ L.own ≠ r + 1 ∧ L.sh r = true)
  turnW : ∀ r d i a g, L.ph = .turn r true d i a g → L.own = r + 1 ∧ (∀ m, L.sh m = false) ∧ g + a.length + i.length = d.need ∧ i.Nodup ∧ r ∉ i ∧ L.s r ≠ 2 ∧ L.s r ≠ 3 ∧ ∀ m, m ∈ i → L.q m ≠ .putAck ∧ L.top ≠ some m
  fwdR : ∀ r o m i a g, L.ph = .turn r false (.fwd o m) i a g → L.own = o + 1 ∧ o ≠ r ∧ (L.s o ≠ 4 → ∀ m, L.sh m = true → m = r)
  fwdW : ∀ r o m i a g, L.ph = .turn r true (.fwd o m) i a g → o ≠ r ∧ o ∉ i ∧ L.s r ≠ 4
  /-- its word, and whether it has it alone then -/
  word : ∀ r wr own keep m x i a g, (L.ph = .turn r wr (.data own keep m x) i a g ∨ L.ph = .turn r wr (.came own keep m x) i a g) → (keep = true → wr = true ∧ L.s r = 4 ∧ L.v r = L.last) ∧ (keep = false → x = L.last ∧ L.s r ≠ 4) ∧
    (wr = false → (own = true ↔ L.own = r + 1) ∧ ∀ n, L.top = some n → L.s n = 4)
  /-- free: nobody shares what isn't Owned -/
  calm : (∀ r wr d i a g, L.ph ≠ .turn r wr d i a g) → ∀ n, L.own = n + 1 → L.s n ≠ 4 → ∀ m, L.sh m = false

/-- A line of a new system. -/
theorem Ok.new : Ok ⟨fun _ => 0, fun _ => 0, fun _ => .no, 0, fun _ => false, 0, 0, .idle⟩ where
  top := fun n h => by simp [Li.top] at h
  high := fun n h => by simp at h
  le4 := fun n => Nat.zero_le _
  share := fun n h => by simp at h
  alone := fun n h => by simp [Li.top] at h
  apart := fun n h => by simp at h
  back := fun n h => by simp at h
  backs := fun n h => by simp [Rq.backs] at h
  askR := fun n h => rfl
  askW := fun n h => by simp
  gave := fun n x h => by simp at h
  home := fun _ _ => rfl
  turnQ := fun r wr d i a g h => by simp at h
  turnR := fun r d i a g h => by simp at h
  turnW := fun r d i a g h => by simp at h
  fwdR := fun r o m i a g h => by simp at h
  fwdW := fun r o m i a g h => by simp at h
  word := fun r wr own keep m x i a g h => by simp at h
  calm := fun _ n h => by simp at h

theorem upd_eq {α : Type} (f : Nat → α) (n m : Nat) (x : α) : upd f n x m = if m = n then x else f m := rfl
theorem putAck_backs {x : Rq} (h : x.backs = false) : x ≠ .putAck := fun e => by rw [e] at h; cases h
/-- A core asks, or hears Nack, or asks again: what it shares, owns and has stays. -/
theorem Ok.ask {L : Li} (h : Ok L) (n : Nat) (x : Rq) (h0 : L.q n ≠ .putAck) (hx : x ≠ .putAck) (ht : ∀ wr d i a g, L.ph ≠ .turn n wr d i a g)
    (hR : x = .get false ∨ x = .nackG false → L.s n = 0) (hW : x = .get true ∨ x = .nackG true → L.s n ≠ 2 ∧ L.s n ≠ 3) (hg : ∀ y, x = .put y → L.v n = y)
    (hb : x.backs = true → L.sh n = false ∧ L.s n ≠ 1) : Ok { L with q := upd L.q n x } := by
  have hq : ∀ m, upd L.q n x m = .putAck ↔ L.q m = .putAck := fun m => by
    unfold upd
    by_cases e : m = n
    · subst e; rw [if_pos rfl]; exact ⟨fun h => absurd h hx, fun h => absurd h h0⟩
    · rw [if_neg e]
  exact {
    top := fun m hm => ⟨(h.top m hm).1, (h.top m hm).2.1, fun e => (h.top m hm).2.2 ((hq m).1 e)⟩
    high := fun m hm => by
      rcases h.high m hm with e | e | e
      · exact .inl e
      · exact .inr (.inl ((hq m).2 e))
      · exact .inr (.inr e)
    le4 := h.le4
    share := h.share
    alone := fun m hm h4 k hk => (h.alone m hm h4 k hk).imp id (fun e => (hq k).2 e)
    apart := fun m hm => ⟨(h.apart m hm).1, by
      show (upd L.q n x m).backs = false
      unfold upd
      by_cases e : m = n
      · rw [if_pos e]
        cases hxb : x.backs with
        | false => rfl
        | true => have := (hb hxb).1; subst e; rw [this] at hm; cases hm
      · rw [if_neg e]; exact (h.apart m hm).2⟩
    backs := fun m hm => by
      have hm : (upd L.q n x m).backs = true := hm
      unfold upd at hm
      by_cases e : m = n
      · rw [if_pos e] at hm; rw [e]; exact (hb hm).2
      · rw [if_neg e] at hm; exact h.backs m hm
    back := fun m hm => h.back m ((hq m).1 hm)
    askR := fun m hm => by
      have hm : upd L.q n x m = .get false ∨ upd L.q n x m = .nackG false := hm
      unfold upd at hm
      by_cases e : m = n
      · rw [if_pos e] at hm; rw [e]; exact hR hm
      · rw [if_neg e] at hm; exact h.askR m hm
    askW := fun m hm => by
      have hm : upd L.q n x m = .get true ∨ upd L.q n x m = .nackG true := hm
      unfold upd at hm
      by_cases e : m = n
      · rw [if_pos e] at hm; rw [e]; exact hW hm
      · rw [if_neg e] at hm; exact h.askW m hm
    gave := fun m y hm => by
      have hm : upd L.q n x m = .put y := hm
      unfold upd at hm
      by_cases e : m = n
      · rw [if_pos e] at hm; rw [e]; exact hg y hm
      · rw [if_neg e] at hm; exact h.gave m y hm
    home := h.home
    turnQ := fun r wr d i a g e => by
      show upd L.q n x r = .no
      rw [upd_ne _ _ (fun e2 => by subst e2; exact ht wr d i a g e)]
      exact h.turnQ r wr d i a g e
    turnR := fun r d i a g e => by
      obtain ⟨h1, h2, h3, h4, h5, h6⟩ := h.turnR r d i a g e
      exact ⟨h1, h2, h3, h4, h5, h6.imp (fun k => ⟨k.1, k.2.1, fun m => (k.2.2 m).imp id (fun e => (hq m).2 e)⟩) id⟩
    turnW := fun r d i a g e => by
      obtain ⟨h1, h2, h3, h4, h5, h6, h7, h8⟩ := h.turnW r d i a g e
      exact ⟨h1, h2, h3, h4, h5, h6, h7, fun m hm => ⟨fun e => (h8 m hm).1 ((hq m).1 e), (h8 m hm).2⟩⟩
    fwdR := h.fwdR
    fwdW := h.fwdW
    word := h.word
    calm := h.calm }

/-- A core that shares a line hasn't it any more. -/
theorem Ok.drop {L : Li} (h : Ok L) (n : Nat) (h1 : L.s n = 1) : Ok { L with s := upd L.s n 0 } := by
  have hs : ∀ m, upd L.s n 0 m = L.s m ∨ (m = n ∧ upd L.s n 0 m = 0) := fun m => by
    unfold upd
    by_cases e : m = n
    · exact .inr ⟨e, if_pos e⟩
    · exact .inl (if_neg e)
  have hne : ∀ m, L.s m ≠ 1 → upd L.s n 0 m = L.s m := fun m hm => upd_ne _ _ (fun e => hm (by rw [e]; exact h1))
  exact {
    top := fun m hm => by
      have := h.top m hm
      exact ⟨by show 2 ≤ upd L.s n 0 m; rw [hne m (by omega)]; exact this.1, this.2.1, this.2.2⟩
    high := fun m hm => by
      have hm : 2 ≤ upd L.s n 0 m := hm
      rcases hs m with e | e
      · rw [e] at hm
        rcases h.high m hm with k | k | k
        · exact .inl k
        · exact .inr (.inl k)
        · exact .inr (.inr ⟨k.1, by show upd L.s n 0 m = 4; rw [e]; exact k.2⟩)
      · rw [e.2] at hm; omega
    le4 := fun m => by
      show upd L.s n 0 m ≤ 4
      rcases hs m with e | e
      · rw [e]; exact h.le4 m
      · rw [e.2]; omega
    share := fun m hm => by
      have hm : upd L.s n 0 m = 1 := hm
      rcases hs m with e | e
      · rw [e] at hm; exact h.share m hm
      · rw [e.2] at hm; omega
    alone := fun m hm h4 k hk => by
      have h4 : upd L.s n 0 m ≠ 4 := h4
      have h2 := (h.top m hm).1
      rw [hne m (by omega)] at h4
      refine (h.alone m hm h4 k hk).imp (fun e => ?_) id
      show upd L.s n 0 k = 0
      rcases hs k with e2 | e2
      · rw [e2]; exact e
      · exact e2.2
    apart := h.apart
    backs := fun m hm => by
      have := h.backs m hm
      show upd L.s n 0 m ≠ 1
      rw [hne m this]; exact this
    back := h.back
    askR := fun m hm => by
      have := h.askR m hm
      show upd L.s n 0 m = 0
      rw [hne m (by omega)]; exact this
    askW := fun m hm => by
      have := h.askW m hm
      show upd L.s n 0 m ≠ 2 ∧ upd L.s n 0 m ≠ 3
      rcases hs m with e | e
      · rw [e]; exact this
      · rw [e.2]; omega
    gave := h.gave
    home := h.home
    turnQ := h.turnQ
    turnR := fun r d i a g e => by
      obtain ⟨h1, h2, h3, h4, h5, h6⟩ := h.turnR r d i a g e
      refine ⟨?_, h2, h3, h4, h5, h6.imp (fun k => ⟨k.1, k.2.1, fun m => ?_⟩) id⟩
      · show upd L.s n 0 r = 0
        rw [hne r (by omega)]; exact h1
      · refine (k.2.2 m).imp (fun e => ?_) id
        show upd L.s n 0 m = 0
        rcases hs m with e2 | e2
        · rw [e2]; exact e
        · exact e2.2
    turnW := fun r d i a g e => by
      obtain ⟨h1, h2, h3, h4, h5, h6, h7, h8⟩ := h.turnW r d i a g e
      have h9 : upd L.s n 0 r ≠ 2 ∧ upd L.s n 0 r ≠ 3 := by
        rcases hs r with e2 | e2
        · rw [e2]; exact ⟨h6, h7⟩
        · rw [e2.2]; omega
      exact ⟨h1, h2, h3, h4, h5, h9.1, h9.2, h8⟩
    fwdR := fun r o m i a g e => by
      obtain ⟨h1, h2, h3⟩ := h.fwdR r o m i a g e
      refine ⟨h1, h2, fun h4 => h3 (fun h5 => h4 ?_)⟩
      show upd L.s n 0 o = 4
      rw [hne o (by omega)]; exact h5
    fwdW := fun r o m i a g e => by
      obtain ⟨h1, h2, h3⟩ := h.fwdW r o m i a g e
      refine ⟨h1, h2, ?_⟩
      show upd L.s n 0 r ≠ 4
      rcases hs r with e2 | e2
      · rw [e2]; exact h3
      · rw [e2.2]; omega
    word := fun r wr own keep m x i a g e => by
      obtain ⟨h1, h2, h3⟩ := h.word r wr own keep m x i a g e
      refine ⟨fun hk => ?_, fun hk => ?_, fun hw => ⟨(h3 hw).1, fun k hk => ?_⟩⟩
      · obtain ⟨k1, k2, k3⟩ := h1 hk
        refine ⟨k1, ?_, k3⟩
        show upd L.s n 0 r = 4
        rw [hne r (by omega)]; exact k2
      · obtain ⟨k1, k2⟩ := h2 hk
        refine ⟨k1, ?_⟩
        show upd L.s n 0 r ≠ 4
        rcases hs r with e2 | e2
        · rw [e2]; exact k2
        · rw [e2.2]; omega
      · have := (h3 hw).2 k hk
        show upd L.s n 0 k = 4
        rw [hne k (by omega)]; exact this
    calm := fun hp m hm h4 => by
      have h4 : upd L.s n 0 m ≠ 4 := h4
      refine h.calm hp m hm (fun h5 => h4 ?_)
      rw [hne m (by omega)]; exact h5 }
end Go.Proofs.YtmeomdfmljanhaaGreat.Pr
/- Layer 10's lines: a word is set, Free comes home, PutAck comes, Put comes home; plain values, no program in sight. -/
namespace Go.Proofs.YtmeomdfmljanhaaGreat.Pr
set_option linter.unusedVariables false

theorem Li.top_none {L : Li} (hp : ∀ r d i a g, L.ph ≠ .turn r true d i a g) (h0 : L.own = 0) : L.top = none := by
  obtain ⟨s, v, q, own, sh, home, last, ph⟩ := L
  simp only at h0
  subst h0
  unfold Li.top
  cases ph with
  | idle => rfl
  | free r => rfl
  | turn r wr d i a g =>
    cases wr with
    | true => exact absurd rfl (hp r d i a g)
    | false => simp
theorem Li.top_word {L : Li} {r m x : Nat} {own keep : Bool} {i a : List Nat} {g : Nat} (h : L.ph = .turn r true (.data own keep m x) i a g ∨ L.ph = .turn r true (.came own keep m x) i a g) : L.top = none := by
  rcases h with h | h <;> (unfold Li.top; rw [h])
theorem Li.top_calm {L : Li} (hp : ∀ r wr d i a g, L.ph ≠ .turn r wr d i a g) : L.top = if L.own = 0 then none else some (L.own - 1) := by
  obtain ⟨s, v, q, own, sh, home, last, ph⟩ := L
  unfold Li.top
  cases ph with
  | idle => rfl
  | free r => rfl
  | turn r wr d i a g => exact absurd rfl (hp r wr d i a g)
theorem Li.top_own {L : Li} (hp : ∀ r wr d i a g, L.ph ≠ .turn r wr d i a g) (n : Nat) : L.top = some n ↔ L.own = n + 1 := by
  rw [Li.top_calm hp]
  by_cases h : L.own = 0
  · rw [if_pos h]; simp; omega
  · rw [if_neg h]; simp; omega

/-- A word is set. -/
theorem Ok.set {L : Li} (h : Ok L) (n w : Nat) (hs : L.s n = 2 ∨ L.s n = 3) (hq : L.q n = .no) (ht : ∀ wr d i a g, L.ph ≠ .turn n wr d i a g) : Ok { L with s := upd L.s n 3, v := upd L.v n w, last := w } := by
  have htop : L.top = some n := by
    rcases h.high n (by omega) with e | e | e
    · exact e
    · rw [hq] at e; cases e
    · omega
  have hal := h.alone n htop (by omega)
  have hone : ∀ m, L.top = some m → m = n := fun m hm => by rw [htop] at hm; injection hm with hm; exact hm.symm
  have hne : ∀ m, m ≠ n → upd L.s n 3 m = L.s m := fun m hm => upd_ne _ _ hm
  have hnv : ∀ m, m ≠ n → upd L.v n w m = L.v m := fun m hm => upd_ne _ _ hm
  have hturn : ∀ r wr d i a g, L.ph = .turn r wr d i a g → r ≠ n := fun r wr d i a g e e2 => by subst e2; exact ht wr d i a g e
  have hsn : upd L.s n 3 n = 3 := upd_same _ _ _
  exact {
    top := fun m hm => by
      have := hone m hm
      subst this
      exact ⟨by show 2 ≤ upd L.s m 3 m; rw [hsn]; omega, upd_same _ _ _, (h.top m hm).2.2⟩
    high := fun m hm => by
      by_cases e : m = n
      · subst e; exact .inl htop
      · have hm : 2 ≤ upd L.s n 3 m := hm
        rw [hne m e] at hm
        rcases h.high m hm with k | k | k
        · exact .inl k
        · exact .inr (.inl k)
        · exact .inr (.inr ⟨k.1, by show upd L.s n 3 m = 4; rw [hne m e]; exact k.2⟩)
    le4 := fun m => by
      show upd L.s n 3 m ≤ 4
      by_cases e : m = n
      · subst e; rw [hsn]; omega
      · rw [hne m e]; exact h.le4 m
    share := fun m hm => by
      exfalso
      have hm : upd L.s n 3 m = 1 := hm
      by_cases e : m = n
      · subst e; rw [hsn] at hm; omega
      · rw [hne m e] at hm
        rcases hal m e with k | k
        · omega
        · exact h.backs m (by rw [k]; rfl) hm
    alone := fun m hm _ k hk => by
      have := hone m hm
      subst this
      refine (hal k hk).imp (fun e => ?_) id
      show upd L.s m 3 k = 0
      rw [hne k hk]; exact e
    apart := h.apart
    backs := fun m hm => by
      show upd L.s n 3 m ≠ 1
      by_cases e : m = n
      · subst e; rw [hsn]; omega
      · rw [hne m e]; exact h.backs m hm
    back := h.back
    askR := fun m hm => by
      have e : m ≠ n := fun e => by subst e; rw [show ({ L with s := upd L.s m 3, v := upd L.v m w, last := w } : Li).q m = .no from hq] at hm; rcases hm with k | k <;> cases k
      show upd L.s n 3 m = 0
      rw [hne m e]; exact h.askR m hm
    askW := fun m hm => by
      have e : m ≠ n := fun e => by subst e; rw [show ({ L with s := upd L.s m 3, v := upd L.v m w, last := w } : Li).q m = .no from hq] at hm; rcases hm with k | k <;> cases k
      show upd L.s n 3 m ≠ 2 ∧ upd L.s n 3 m ≠ 3
      rw [hne m e]; exact h.askW m hm
    gave := fun m x hm => by
      have e : m ≠ n := fun e => by subst e; rw [show ({ L with s := upd L.s m 3, v := upd L.v m w, last := w } : Li).q m = .no from hq] at hm; cases hm
      show upd L.v n w m = x
      rw [hnv m e]; exact h.gave m x hm
    home := fun hp h0 => by
      rw [Li.top_none (L := L) hp h0] at htop; cases htop
    turnQ := h.turnQ
    turnR := fun r d i a g e => by
      obtain ⟨h1, h2, h3, h4, h5, h6⟩ := h.turnR r d i a g e
      refine ⟨by show upd L.s n 3 r = 0; rw [hne r (hturn r _ _ _ _ _ e)]; exact h1, h2, h3, h4, h5, ?_⟩
      rcases h6 with k | k
      · exfalso
        rcases k.2.2 n with k2 | k2
        · omega
        · rw [hq] at k2; cases k2
      · exact .inr k
    turnW := fun r d i a g e => by
      obtain ⟨h1, h2, h3, h4, h5, h6, h7, h8⟩ := h.turnW r d i a g e
      have h9 : upd L.s n 3 r = L.s r := hne r (hturn r _ _ _ _ _ e)
      exact ⟨h1, h2, h3, h4, h5, by show upd L.s n 3 r ≠ 2; rw [h9]; exact h6, by show upd L.s n 3 r ≠ 3; rw [h9]; exact h7, h8⟩
    fwdR := fun r o m i a g e => by
      obtain ⟨h1, h2, h3⟩ := h.fwdR r o m i a g e
      refine ⟨h1, h2, fun h4 => h3 (fun h5 => ?_)⟩
      by_cases eo : o = n
      · subst eo; omega
      · have h4 : upd L.s n 3 o ≠ 4 := h4
        rw [hne o eo] at h4; exact h4 h5
    fwdW := fun r o m i a g e => by
      obtain ⟨h1, h2, h3⟩ := h.fwdW r o m i a g e
      exact ⟨h1, h2, by show upd L.s n 3 r ≠ 4; rw [hne r (hturn r _ _ _ _ _ e)]; exact h3⟩
    word := fun r wr own keep m x i a g e => by
      exfalso
      cases wr with
      | true =>
        rw [Li.top_word (L := L) e] at htop; cases htop
      | false =>
        have := (h.word r false own keep m x i a g e).2.2 rfl
        have := this.2 n htop
        omega
    calm := fun hp m hm h4 => by
      have hm1 : L.top = some m := (Li.top_own hp m).2 hm
      have := hone m hm1
      subst this
      exact h.calm hp m hm (by omega) }

/-- Free comes home. -/
theorem Ok.freed {L : Li} (h : Ok L) (r : Nat) (hp : L.ph = .free r) : Ok { L with ph := .idle } := by
  obtain ⟨s, v, q, own, sh, home, last, ph⟩ := L
  simp only at hp
  subst hp
  exact {
    top := h.top, high := fun m hm => by
      rcases h.high m hm with k | k | k
      · exact .inl k
      · exact .inr (.inl k)
      · obtain ⟨⟨_, _, _, _, _, _, e | e⟩, _⟩ := k <;> cases e
    le4 := h.le4
    share := fun m hm => by
      refine ⟨(h.share m hm).1, ?_⟩
      rcases (h.share m hm).2 with k | k
      · exact .inl k
      · obtain ⟨_, _, _, _, _, e, _⟩ := k; cases e
    alone := h.alone, apart := h.apart, backs := h.backs, back := h.back, askR := h.askR, askW := h.askW, gave := h.gave
    home := fun _ h0 => h.home (fun r d i a g e => by cases e) h0
    turnQ := fun r wr d i a g e => by cases e
    turnR := fun r d i a g e => by cases e
    turnW := fun r d i a g e => by cases e
    fwdR := fun r o m i a g e => by cases e
    fwdW := fun r o m i a g e => by cases e
    word := fun r wr own keep m x i a g e => by rcases e with e | e <;> cases e
    calm := fun _ => h.calm (fun r wr d i a g e => by cases e) }

/-- PutAck comes. -/
theorem Ok.acked {L : Li} (h : Ok L) (n : Nat) (hq : L.q n = .putAck) : Ok { L with s := upd L.s n 0, q := upd L.q n .no } := by
  have hsn : upd L.s n 0 n = 0 := upd_same _ _ _
  have hqn : upd L.q n .no n = .no := upd_same _ _ _
  have hne : ∀ m, m ≠ n → upd L.s n 0 m = L.s m := fun m hm => upd_ne _ _ hm
  have hnq : ∀ m, m ≠ n → upd L.q n .no m = L.q m := fun m hm => upd_ne _ _ hm
  have hturn : ∀ r wr d i a g, L.ph = .turn r wr d i a g → r ≠ n := fun r wr d i a g e e2 => by
    have := h.turnQ r wr d i a g e
    rw [e2, hq] at this; cases this
  have htop : ∀ m, L.top = some m → m ≠ n := fun m hm e => (h.top m hm).2.2 (by rw [e]; exact hq)
  have hz : ∀ m, (L.s m = 0 ∨ L.q m = .putAck) → (upd L.s n 0 m = 0 ∨ upd L.q n .no m = .putAck) := fun m hm => by
    by_cases e : m = n
    · subst e; exact .inl hsn
    · rw [hne m e, hnq m e]; exact hm
  exact {
    top := fun m hm => by
      have e := htop m hm
      obtain ⟨h1, h2, h3⟩ := h.top m hm
      exact ⟨by show 2 ≤ upd L.s n 0 m; rw [hne m e]; exact h1, h2, by show upd L.q n .no m ≠ .putAck; rw [hnq m e]; exact h3⟩
    high := fun m hm => by
      have hm : 2 ≤ upd L.s n 0 m := hm
      by_cases e : m = n
      · subst e; rw [hsn] at hm; omega
      · rw [hne m e] at hm
        rcases h.high m hm with k | k | k
        · exact .inl k
        · exact .inr (.inl (by show upd L.q n .no m = .putAck; rw [hnq m e]; exact k))
        · exact .inr (.inr ⟨k.1, by show upd L.s n 0 m = 4; rw [hne m e]; exact k.2⟩)
    le4 := fun m => by
      show upd L.s n 0 m ≤ 4
      by_cases e : m = n
      · subst e; rw [hsn]; omega
      · rw [hne m e]; exact h.le4 m
    share := fun m hm => by
      have hm : upd L.s n 0 m = 1 := hm
      by_cases e : m = n
      · subst e; rw [hsn] at hm; omega
      · rw [hne m e] at hm; exact h.share m hm
    alone := fun m hm h4 k hk => by
      have h4 : upd L.s n 0 m ≠ 4 := h4
      rw [hne m (htop m hm)] at h4
      exact hz k (h.alone m hm h4 k hk)
    apart := fun m hm => by
      refine ⟨(h.apart m hm).1, ?_⟩
      show (upd L.q n .no m).backs = false
      by_cases e : m = n
      · subst e; rw [hqn]; rfl
      · rw [hnq m e]; exact (h.apart m hm).2
    backs := fun m hm => by
      show upd L.s n 0 m ≠ 1
      by_cases e : m = n
      · subst e; rw [hsn]; omega
      · have hm : (upd L.q n .no m).backs = true := hm
        rw [hnq m e] at hm
        rw [hne m e]; exact h.backs m hm
    back := fun m hm => by
      have hm : upd L.q n .no m = .putAck := hm
      by_cases e : m = n
      · subst e; rw [hqn] at hm; cases hm
      · rw [hnq m e] at hm; exact h.back m hm
    askR := fun m hm => by
      show upd L.s n 0 m = 0
      by_cases e : m = n
      · subst e; exact hsn
      · have hm : upd L.q n .no m = .get false ∨ upd L.q n .no m = .nackG false := hm
        rw [hnq m e] at hm
        rw [hne m e]; exact h.askR m hm
    askW := fun m hm => by
      show upd L.s n 0 m ≠ 2 ∧ upd L.s n 0 m ≠ 3
      by_cases e : m = n
      · subst e; rw [hsn]; omega
      · have hm : upd L.q n .no m = .get true ∨ upd L.q n .no m = .nackG true := hm
        rw [hnq m e] at hm
        rw [hne m e]; exact h.askW m hm
    gave := fun m x hm => by
      have hm : upd L.q n .no m = .put x := hm
      by_cases e : m = n
      · subst e; rw [hqn] at hm; cases hm
      · rw [hnq m e] at hm; exact h.gave m x hm
    home := h.home
    turnQ := fun r wr d i a g e => by
      show upd L.q n .no r = .no
      rw [hnq r (hturn r _ _ _ _ _ e)]; exact h.turnQ r wr d i a g e
    turnR := fun r d i a g e => by
      obtain ⟨h1, h2, h3, h4, h5, h6⟩ := h.turnR r d i a g e
      exact ⟨by show upd L.s n 0 r = 0; rw [hne r (hturn r _ _ _ _ _ e)]; exact h1, h2, h3, h4, h5, h6.imp (fun k => ⟨k.1, k.2.1, fun m => hz m (k.2.2 m)⟩) id⟩
    turnW := fun r d i a g e => by
      obtain ⟨h1, h2, h3, h4, h5, h6, h7, h8⟩ := h.turnW r d i a g e
      have h9 : upd L.s n 0 r = L.s r := hne r (hturn r _ _ _ _ _ e)
      refine ⟨h1, h2, h3, h4, h5, by show upd L.s n 0 r ≠ 2; rw [h9]; exact h6, by show upd L.s n 0 r ≠ 3; rw [h9]; exact h7, fun m hm => ⟨?_, (h8 m hm).2⟩⟩
      show upd L.q n .no m ≠ .putAck
      by_cases e2 : m = n
      · subst e2; rw [hqn]; exact fun e => by cases e
      · rw [hnq m e2]; exact (h8 m hm).1
    fwdR := fun r o m i a g e => by
      obtain ⟨h1, h2, h3⟩ := h.fwdR r o m i a g e
      have ho : o ≠ n := fun e2 => (h.back n hq).1 (by rw [h1, e2])
      refine ⟨h1, h2, fun h4 => h3 (fun h5 => h4 ?_)⟩
      show upd L.s n 0 o = 4
      rw [hne o ho]; exact h5
    fwdW := fun r o m i a g e => by
      obtain ⟨h1, h2, h3⟩ := h.fwdW r o m i a g e
      exact ⟨h1, h2, by show upd L.s n 0 r ≠ 4; rw [hne r (hturn r _ _ _ _ _ e)]; exact h3⟩
    word := fun r wr own keep m x i a g e => by
      obtain ⟨h1, h2, h3⟩ := h.word r wr own keep m x i a g e
      have hr : upd L.s n 0 r = L.s r := hne r (by rcases e with e | e <;> exact hturn r _ _ _ _ _ e)
      refine ⟨fun hk => ?_, fun hk => ?_, fun hw => ⟨(h3 hw).1, fun k hk => ?_⟩⟩
      · obtain ⟨k1, k2, k3⟩ := h1 hk
        exact ⟨k1, by show upd L.s n 0 r = 4; rw [hr]; exact k2, k3⟩
      · obtain ⟨k1, k2⟩ := h2 hk
        exact ⟨k1, by show upd L.s n 0 r ≠ 4; rw [hr]; exact k2⟩
      · show upd L.s n 0 k = 4
        rw [hne k (htop k hk)]; exact (h3 hw).2 k hk
    calm := fun hp m hm h4 => by
      have h4 : upd L.s n 0 m ≠ 4 := h4
      rw [hne m (fun e => (h.back n hq).1 (by rw [← e]; exact hm))] at h4
      exact h.calm hp m hm h4 }
end Go.Proofs.YtmeomdfmljanhaaGreat.Pr
/- Layer 10's lines: Put comes home, a request comes home; plain values, no program in sight. -/
namespace Go.Proofs.YtmeomdfmljanhaaGreat.Pr
set_option linter.unusedVariables false

/-- Put comes home: of the owner, or of one that isn't it any more. -/
theorem Ok.put {L : Li} (h : Ok L) (n x : Nat) (hq : L.q n = .put x) (hp : L.ph = .idle) (own home : Nat) (ho : own = (if L.own = n + 1 then 0 else L.own)) (hh : home = (if L.own = n + 1 then x else L.home)) : Ok { L with q := upd L.q n .putAck, own := own, home := home } := by
  have hb : (L.q n).backs = true := by rw [hq]; rfl
  have hsh : L.sh n = false := by
    cases e : L.sh n with
    | false => rfl
    | true => have := (h.apart n e).2; rw [hb] at this; cases this
  obtain ⟨s, v, q, own0, sh, home0, last, ph⟩ := L
  simp only at hq hp hb hsh ho hh
  subst hp
  have hqn : upd q n .putAck n = .putAck := upd_same _ _ _
  have hnq : ∀ m, m ≠ n → upd q n .putAck m = q m := fun m hm => upd_ne _ _ hm
  have hz : ∀ m, (s m = 0 ∨ q m = .putAck) → (s m = 0 ∨ upd q n .putAck m = .putAck) := fun m hm => by
    by_cases e : m = n
    · subst e; exact .inr hqn
    · rw [hnq m e]; exact hm
  have hpq : ∀ wr (r : Nat) d i a g, Ph.idle ≠ .turn r wr d i a g := fun _ _ _ _ _ _ e => by cases e
  have htop : ∀ m, (⟨s, v, q, own0, sh, home0, last, .idle⟩ : Li).top = some m ↔ own0 = m + 1 := fun m => Li.top_own (fun r wr d i a g e => by cases e) m
  have htop2 : ∀ m, (⟨s, v, upd q n .putAck, own, sh, home, last, .idle⟩ : Li).top = some m ↔ own = m + 1 := fun m => Li.top_own (fun r wr d i a g e => by cases e) m
  have ho2 : ∀ m, own = m + 1 → own0 = m + 1 ∧ m ≠ n := fun m hm => by
    by_cases e : own0 = n + 1
    · rw [if_pos e] at ho; omega
    · rw [if_neg e] at ho; exact ⟨by omega, fun e2 => e (by omega)⟩
  exact {
    top := fun m hm => by
      obtain ⟨h1, h2⟩ := ho2 m ((htop2 m).1 hm)
      obtain ⟨k1, k2, k3⟩ := h.top m ((htop m).2 h1)
      exact ⟨k1, k2, by show upd q n .putAck m ≠ .putAck; rw [hnq m h2]; exact k3⟩
    high := fun m hm => by
      by_cases e : m = n
      · subst e; exact .inr (.inl hqn)
      · rcases h.high m hm with k | k | k
        · refine .inl ((htop2 m).2 ?_)
          have := (htop m).1 k
          rw [ho, if_neg (by omega)]; exact this
        · exact .inr (.inl (by show upd q n .putAck m = .putAck; rw [hnq m e]; exact k))
        · obtain ⟨⟨_, _, _, _, _, _, e | e⟩, _⟩ := k <;> cases e
    le4 := h.le4
    share := fun m hm => by
      refine ⟨(h.share m hm).1, ?_⟩
      rcases (h.share m hm).2 with k | k
      · exact .inl k
      · obtain ⟨_, _, _, _, _, e, _⟩ := k; cases e
    alone := fun m hm h4 k hk => hz k (h.alone m ((htop m).2 (ho2 m ((htop2 m).1 hm)).1) h4 k hk)
    apart := fun m hm => by
      refine ⟨fun e => (h.apart m hm).1 (ho2 m e).1, ?_⟩
      have e : m ≠ n := fun e => by rw [e] at hm; rw [show sh n = true from hm] at hsh; cases hsh
      show (upd q n .putAck m).backs = false
      rw [hnq m e]; exact (h.apart m hm).2
    backs := fun m hm => by
      by_cases e : m = n
      · subst e; exact h.backs m hb
      · have hm : (upd q n .putAck m).backs = true := hm
        rw [hnq m e] at hm; exact h.backs m hm
    back := fun m hm => by
      have hm : upd q n .putAck m = .putAck := hm
      by_cases e : m = n
      · exact ⟨fun e2 => (ho2 m e2).2 e, fun e2 => (ho2 m ((htop2 m).1 e2)).2 e⟩
      · rw [hnq m e] at hm
        obtain ⟨k1, k2⟩ := h.back m hm
        exact ⟨fun e2 => k1 (ho2 m e2).1, fun e2 => k2 ((htop m).2 (ho2 m ((htop2 m).1 e2)).1)⟩
    askR := fun m hm => by
      have hm : upd q n .putAck m = .get false ∨ upd q n .putAck m = .nackG false := hm
      by_cases e : m = n
      · subst e; rw [hqn] at hm; rcases hm with k | k <;> cases k
      · rw [hnq m e] at hm; exact h.askR m hm
    askW := fun m hm => by
      have hm : upd q n .putAck m = .get true ∨ upd q n .putAck m = .nackG true := hm
      by_cases e : m = n
      · subst e; rw [hqn] at hm; rcases hm with k | k <;> cases k
      · rw [hnq m e] at hm; exact h.askW m hm
    gave := fun m y hm => by
      have hm : upd q n .putAck m = .put y := hm
      by_cases e : m = n
      · subst e; rw [hqn] at hm; cases hm
      · rw [hnq m e] at hm; exact h.gave m y hm
    home := fun _ h0 => by
      have h0 : own = 0 := h0
      show home = last
      by_cases e : own0 = n + 1
      · rw [if_pos e] at hh
        rw [hh, ← h.gave n x hq]
        exact (h.top n ((htop n).2 e)).2.1
      · rw [if_neg e] at hh ho
        rw [hh]
        exact h.home (fun r d i a g e => by cases e) (by show own0 = 0; omega)
    turnQ := fun r wr d i a g e => by cases e
    turnR := fun r d i a g e => by cases e
    turnW := fun r d i a g e => by cases e
    fwdR := fun r o m i a g e => by cases e
    fwdW := fun r o m i a g e => by cases e
    word := fun r wr own keep m x i a g e => by rcases e with e | e <;> cases e
    calm := fun _ m hm h4 => h.calm (fun r wr d i a g e => by cases e) m (ho2 m hm).1 h4 }

/-- GetS comes home, nobody owns the line nor shares it but perhaps itself. -/
theorem Ok.getLone {L : Li} (h : Ok L) (n : Nat) (hq : L.q n = .get false) (hp : L.ph = .idle) (h0 : L.own = 0) (hs : ∀ m, m ≠ n → L.sh m = false) : Ok { L with q := upd L.q n .no, own := n + 1, sh := fun _ => false, ph := .turn n false (.data true false 0 L.home) [] [] 0 } := by
  have hsn : L.s n = 0 := h.askR n (.inl hq)
  have hhome := h.home (fun r d i a g e => by rw [hp] at e; cases e) h0
  obtain ⟨s, v, q, own0, sh, home, last, ph⟩ := L
  simp only at hq hp hsn h0 hs hhome
  subst hp h0 hhome
  have hqn : upd q n .no n = .no := upd_same _ _ _
  have hnq : ∀ m, m ≠ n → upd q n .no m = q m := fun m hm => upd_ne _ _ hm
  have hnA : ∀ m, q m = .putAck → upd q n .no m = .putAck := fun m hm => by
    rw [hnq m (fun e => by rw [e, hq] at hm; cases hm)]; exact hm
  have hA : ∀ m, upd q n .no m = .putAck → q m = .putAck := fun m hm => by
    by_cases e : m = n
    · subst e; rw [hqn] at hm; cases hm
    · rw [hnq m e] at hm; exact hm
  have htop : (⟨s, v, upd q n .no, n + 1, fun _ => false, home, home, .turn n false (.data true false 0 home) [] [] 0⟩ : Li).top = none := by unfold Li.top; simp
  have hno : ∀ m, (⟨s, v, q, 0, sh, home, home, .idle⟩ : Li).top ≠ some m := fun m e => by
    have := (Li.top_own (L := ⟨s, v, q, 0, sh, home, home, .idle⟩) (fun r wr d i a g e => by cases e) m).1 e
    simp at this
  have hz : ∀ m, s m = 0 ∨ upd q n .no m = .putAck := fun m => by
    by_cases h2 : 2 ≤ s m
    · rcases h.high m h2 with k | k | k
      · exact absurd k (hno m)
      · exact .inr (hnA m k)
      · obtain ⟨⟨_, _, _, _, _, _, e | e⟩, _⟩ := k <;> cases e
    · by_cases h1 : s m = 1
      · exfalso
        rcases (h.share m h1).2 with k | k
        · by_cases e : m = n
          · subst e; rw [hsn] at h1; cases h1
          · have k : sh m = true := k
            rw [hs m e] at k; cases k
        · obtain ⟨_, _, _, _, _, e, _⟩ := k; cases e
      · exact .inl (by omega)
  exact {
    top := fun m hm => by rw [htop] at hm; cases hm
    high := fun m hm => .inr (.inl ((hz m).resolve_left (by have hm : 2 ≤ s m := hm; omega)))
    le4 := h.le4
    share := fun m hm => by
      exfalso
      have hm : s m = 1 := hm
      rcases hz m with k | k
      · omega
      · exact h.backs m (by show (q m).backs = true; rw [hA m k]; rfl) hm
    alone := fun m hm => by rw [htop] at hm; cases hm
    apart := fun m hm => by cases hm
    backs := fun m hm => by
      by_cases e : m = n
      · subst e; have hm : (upd q m .no m).backs = true := hm; rw [hqn] at hm; cases hm
      · have hm : (upd q n .no m).backs = true := hm
        rw [hnq m e] at hm; exact h.backs m hm
    back := fun m hm => by
      refine ⟨fun e => ?_, fun e => by rw [htop] at e; cases e⟩
      have hm := hA m hm
      have : m = n := by have e : n + 1 = m + 1 := e; omega
      rw [this, hq] at hm; cases hm
    askR := fun m hm => by
      have hm : upd q n .no m = .get false ∨ upd q n .no m = .nackG false := hm
      by_cases e : m = n
      · subst e; rw [hqn] at hm; rcases hm with k | k <;> cases k
      · rw [hnq m e] at hm; exact h.askR m hm
    askW := fun m hm => by
      have hm : upd q n .no m = .get true ∨ upd q n .no m = .nackG true := hm
      by_cases e : m = n
      · subst e; rw [hqn] at hm; rcases hm with k | k <;> cases k
      · rw [hnq m e] at hm; exact h.askW m hm
    gave := fun m y hm => by
      have hm : upd q n .no m = .put y := hm
      by_cases e : m = n
      · subst e; rw [hqn] at hm; cases hm
      · rw [hnq m e] at hm; exact h.gave m y hm
    home := fun _ h0 => by cases h0
    turnQ := fun r wr d i a g e => by injection e with e1; subst e1; exact hqn
    turnR := fun r d i a g e => by
      injection e with e1 e2 e3 e4 e5 e6
      subst e1 e3 e4 e5 e6
      exact ⟨hsn, rfl, rfl, rfl, rfl, .inl ⟨rfl, fun _ => rfl, hz⟩⟩
    turnW := fun r d i a g e => by injection e with e1 e2; cases e2
    fwdR := fun r o m i a g e => by injection e with e1 e2 e3; cases e3
    fwdW := fun r o m i a g e => by injection e with e1 e2 e3; cases e3
    word := fun r wr own keep m x i a g e => by
      rcases e with e | e
      · injection e with e1 e2 e3
        injection e3 with e4 e5 e6 e7
        subst e1 e2 e4 e5 e6 e7
        exact ⟨(fun e => by cases e), fun _ => ⟨rfl, (by show s n ≠ 4; omega)⟩, fun _ => ⟨⟨fun _ => rfl, fun _ => rfl⟩, (fun m hm => by rw [htop] at hm; cases hm)⟩⟩
      · injection e with e1 e2 e3; cases e3
    calm := fun hp => absurd rfl (hp n false _ _ _ _) }
end Go.Proofs.YtmeomdfmljanhaaGreat.Pr
/- Layer 10's lines: other requests come home; plain values, no program in sight. -/
namespace Go.Proofs.YtmeomdfmljanhaaGreat.Pr
set_option linter.unusedVariables false

/-- GetS comes home, somebody owns or shares the line. -/
theorem Ok.getRead {L : Li} (h : Ok L) (n : Nat) (hq : L.q n = .get false) (hp : L.ph = .idle) : Ok { L with q := upd L.q n .no, sh := upd L.sh n true, ph := .turn n false (if L.own = 0 then .data false false 0 L.home else .fwd (L.own - 1) 0) [] [] 0 } := by
  have hsn : L.s n = 0 := h.askR n (.inl hq)
  have hhome := h.home (fun r d i a g e => by rw [hp] at e; cases e)
  obtain ⟨s, v, q, own, sh, home, last, ph⟩ := L
  simp only at hq hp hsn hhome
  subst hp
  have hqn : upd q n .no n = .no := upd_same _ _ _
  have hnq : ∀ m, m ≠ n → upd q n .no m = q m := fun m hm => upd_ne _ _ hm
  have hnA : ∀ m, q m = .putAck → upd q n .no m = .putAck := fun m hm => by
    rw [hnq m (fun e => by rw [e, hq] at hm; cases hm)]; exact hm
  have hA : ∀ m, upd q n .no m = .putAck → q m = .putAck := fun m hm => by
    by_cases e : m = n
    · subst e; rw [hqn] at hm; cases hm
    · rw [hnq m e] at hm; exact hm
  have htop0 : ∀ m, (⟨s, v, q, own, sh, home, last, .idle⟩ : Li).top = some m ↔ own = m + 1 := fun m => Li.top_own (fun r wr d i a g e => by cases e) m
  have hon : own ≠ n + 1 := fun e => by
    have := (h.top n ((htop0 n).2 e)).1
    have hsn : (⟨s, v, q, own, sh, home, last, .idle⟩ : Li).s n = 0 := hsn
    omega
  obtain ⟨d, hd⟩ : ∃ d, d = (if own = 0 then Dt.data false false 0 home else .fwd (own - 1) 0) := ⟨_, rfl⟩
  have htop : ∀ m, (⟨s, v, upd q n .no, own, upd sh n true, home, last, .turn n false d [] [] 0⟩ : Li).top = some m ↔ own = m + 1 := fun m => by
    unfold Li.top
    simp only
    by_cases e : own = 0
    · rw [if_pos (.inl e)]; simp; omega
    · rw [if_neg (by omega)]; simp; omega
  have hs2 : ∀ m, m ≠ n → upd sh n true m = sh m := fun m hm => upd_ne _ _ hm
  rw [← hd]
  exact {
    top := fun m hm => by
      have hm := (htop m).1 hm
      obtain ⟨k1, k2, k3⟩ := h.top m ((htop0 m).2 hm)
      exact ⟨k1, k2, fun e => k3 (hA m e)⟩
    high := fun m hm => by
      rcases h.high m hm with k | k | k
      · exact .inl ((htop m).2 ((htop0 m).1 k))
      · exact .inr (.inl (hnA m k))
      · obtain ⟨⟨_, _, _, _, _, _, e | e⟩, _⟩ := k <;> cases e
    le4 := h.le4
    share := fun m hm => by
      refine ⟨(h.share m hm).1, .inl ?_⟩
      show upd sh n true m = true
      by_cases e : m = n
      · subst e; exact upd_same _ _ _
      · rw [hs2 m e]
        rcases (h.share m hm).2 with k | k
        · exact k
        · obtain ⟨_, _, _, _, _, e, _⟩ := k; cases e
    alone := fun m hm h4 k hk => (h.alone m ((htop0 m).2 ((htop m).1 hm)) h4 k hk).imp id (hnA k)
    apart := fun m hm => by
      by_cases e : m = n
      · subst e; exact ⟨hon, by show (upd q m .no m).backs = false; rw [hqn]; rfl⟩
      · have hm : upd sh n true m = true := hm
        rw [hs2 m e] at hm
        refine ⟨(h.apart m hm).1, ?_⟩
        show (upd q n .no m).backs = false
        rw [hnq m e]; exact (h.apart m hm).2
    backs := fun m hm => by
      by_cases e : m = n
      · subst e; have hm : (upd q m .no m).backs = true := hm; rw [hqn] at hm; cases hm
      · have hm : (upd q n .no m).backs = true := hm
        rw [hnq m e] at hm; exact h.backs m hm
    back := fun m hm => by
      obtain ⟨k1, k2⟩ := h.back m (hA m hm)
      exact ⟨k1, fun e => k1 ((htop m).1 e)⟩
    askR := fun m hm => by
      have hm : upd q n .no m = .get false ∨ upd q n .no m = .nackG false := hm
      by_cases e : m = n
      · subst e; rw [hqn] at hm; rcases hm with k | k <;> cases k
      · rw [hnq m e] at hm; exact h.askR m hm
    askW := fun m hm => by
      have hm : upd q n .no m = .get true ∨ upd q n .no m = .nackG true := hm
      by_cases e : m = n
      · subst e; rw [hqn] at hm; rcases hm with k | k <;> cases k
      · rw [hnq m e] at hm; exact h.askW m hm
    gave := fun m y hm => by
      have hm : upd q n .no m = .put y := hm
      by_cases e : m = n
      · subst e; rw [hqn] at hm; cases hm
      · rw [hnq m e] at hm; exact h.gave m y hm
    home := fun _ h0 => hhome h0
    turnQ := fun r wr d i a g e => by injection e with e1; subst e1; exact hqn
    turnR := fun r d' i a g e => by
      injection e with e1 e2 e3 e4 e5 e6
      subst e1 e3 e4 e5 e6
      refine ⟨hsn, rfl, rfl, rfl, ?_, .inr ⟨hon, upd_same _ _ _⟩⟩
      rw [hd]; split <;> rfl
    turnW := fun r d i a g e => by injection e with e1 e2; cases e2
    fwdR := fun r o m i a g e => by
      injection e with e1 e2 e3 e4 e5 e6
      subst e1
      rw [hd] at e3
      by_cases e0 : own = 0
      · rw [if_pos e0] at e3; cases e3
      · rw [if_neg e0] at e3
        injection e3 with e3 _
        have ho : own = o + 1 := by omega
        refine ⟨ho, by omega, fun h4 m hm => ?_⟩
        by_cases e : m = n
        · exact e
        · have hm : upd sh n true m = true := hm
          rw [hs2 m e] at hm
          have := h.calm (fun r wr d i a g e => by cases e) o ho h4 m
          rw [show sh m = false from this] at hm; cases hm
    fwdW := fun r o m i a g e => by injection e with e1 e2; cases e2
    word := fun r wr own' keep m x i a g e => by
      rcases e with e | e
      · injection e with e1 e2 e3
        subst e1 e2
        rw [hd] at e3
        by_cases e0 : own = 0
        · rw [if_pos e0] at e3
          injection e3 with e4 e5 e6 e7
          subst e4 e5 e6 e7
          refine ⟨(fun e => by cases e), fun _ => ⟨hhome e0, (by show s n ≠ 4; omega)⟩, fun _ => ⟨⟨(fun e => by cases e), (fun e => absurd e hon)⟩, fun m hm => ?_⟩⟩
          have := (htop m).1 hm
          omega
        · rw [if_neg e0] at e3; cases e3
      · injection e with e1 e2 e3
        rw [hd] at e3
        by_cases e0 : own = 0
        · rw [if_pos e0] at e3; cases e3
        · rw [if_neg e0] at e3; cases e3
    calm := fun hp => absurd rfl (hp n false _ _ _ _) }

/-- GetM comes home. -/
theorem Ok.getWrite {L : Li} (h : Ok L) (n : Nat) (off : List Nat) (hq : L.q n = .get true) (hp : L.ph = .idle) (hnd : off.Nodup) (hoff : ∀ m, m ∈ off ↔ m ≠ n ∧ L.sh m = true) :
    Ok { L with q := upd L.q n .no, own := n + 1, sh := fun _ => false, ph := .turn n true (if L.own = 0 then .data true false off.length L.home else if L.own = n + 1 then .data true true off.length 0 else .fwd (L.own - 1) off.length) off [] 0 } := by
  have hsn := h.askW n (.inl hq)
  have hhome := h.home (fun r d i a g e => by rw [hp] at e; cases e)
  obtain ⟨s, v, q, own, sh, home, last, ph⟩ := L
  simp only at hq hp hsn hhome hoff
  subst hp
  have hqn : upd q n .no n = .no := upd_same _ _ _
  have hnq : ∀ m, m ≠ n → upd q n .no m = q m := fun m hm => upd_ne _ _ hm
  have hnA : ∀ m, q m = .putAck → upd q n .no m = .putAck := fun m hm => by
    rw [hnq m (fun e => by rw [e, hq] at hm; cases hm)]; exact hm
  have hA : ∀ m, upd q n .no m = .putAck → q m = .putAck := fun m hm => by
    by_cases e : m = n
    · subst e; rw [hqn] at hm; cases hm
    · rw [hnq m e] at hm; exact hm
  have htop0 : ∀ m, (⟨s, v, q, own, sh, home, last, .idle⟩ : Li).top = some m ↔ own = m + 1 := fun m => Li.top_own (fun r wr d i a g e => by cases e) m
  have hidle : ∀ m, ¬ (⟨s, v, q, own, sh, home, last, .idle⟩ : Li).keeps m := fun m k => by
    obtain ⟨_, _, _, _, _, _, e | e⟩ := k <;> cases e
  have hn4 : 2 ≤ s n → own = n + 1 ∧ s n = 4 := fun h2 => by
    have h4 := h.le4 n
    have h4 : s n ≤ 4 := h4
    rcases h.high n h2 with k | k | k
    · exact ⟨(htop0 n).1 k, by omega⟩
    · have k : q n = .putAck := k
      rw [hq] at k; cases k
    · exact absurd k.1 (hidle n)
  obtain ⟨d, hd⟩ : ∃ d, d = (if own = 0 then Dt.data true false off.length home else if own = n + 1 then .data true true off.length 0 else .fwd (own - 1) off.length) := ⟨_, rfl⟩
  have htop : ∀ m, (⟨s, v, upd q n .no, n + 1, fun _ => false, home, last, .turn n true d off [] 0⟩ : Li).top = some m ↔ own = m + 1 ∧ own ≠ n + 1 := fun m => by
    unfold Li.top
    rw [hd]
    by_cases e : own = 0
    · rw [if_pos e]; simp; omega
    · rw [if_neg e]
      by_cases e2 : own = n + 1
      · rw [if_pos e2]; simp [e2]
      · rw [if_neg e2]; simp; omega
  have hneed : d.need = off.length := by rw [hd]; split; rfl; split <;> rfl
  rw [← hd]
  exact {
    top := fun m hm => by
      obtain ⟨k1, k2, k3⟩ := h.top m ((htop0 m).2 ((htop m).1 hm).1)
      exact ⟨k1, k2, fun e => k3 (hA m e)⟩
    high := fun m hm => by
      have hm : 2 ≤ s m := hm
      rcases h.high m hm with k | k | k
      · have ho := (htop0 m).1 k
        by_cases e : own = n + 1
        · have hmn : m = n := by omega
          subst hmn
          refine .inr (.inr ⟨⟨true, off.length, 0, off, [], 0, .inl ?_⟩, (hn4 hm).2⟩)
          rw [hd, if_neg (by omega), if_pos e]
        · exact .inl ((htop m).2 ⟨ho, e⟩)
      · exact .inr (.inl (hnA m k))
      · exact absurd k.1 (hidle m)
    le4 := h.le4
    share := fun m hm => by
      refine ⟨(h.share m hm).1, .inr ⟨n, d, off, [], 0, rfl, ?_⟩⟩
      by_cases e : m = n
      · exact .inr e
      · refine .inl ((hoff m).2 ⟨e, ?_⟩)
        rcases (h.share m hm).2 with k | k
        · exact k
        · obtain ⟨_, _, _, _, _, e, _⟩ := k; cases e
    alone := fun m hm h4 k hk => (h.alone m ((htop0 m).2 ((htop m).1 hm).1) h4 k hk).imp id (hnA k)
    apart := fun m hm => by cases hm
    backs := fun m hm => by
      by_cases e : m = n
      · subst e; have hm : (upd q m .no m).backs = true := hm; rw [hqn] at hm; cases hm
      · have hm : (upd q n .no m).backs = true := hm
        rw [hnq m e] at hm; exact h.backs m hm
    back := fun m hm => by
      have hm := hA m hm
      obtain ⟨k1, k2⟩ := h.back m hm
      refine ⟨fun e => ?_, fun e => k1 ((htop m).1 e).1⟩
      have : m = n := by have e : n + 1 = m + 1 := e; omega
      rw [this, hq] at hm; cases hm
    askR := fun m hm => by
      have hm : upd q n .no m = .get false ∨ upd q n .no m = .nackG false := hm
      by_cases e : m = n
      · subst e; rw [hqn] at hm; rcases hm with k | k <;> cases k
      · rw [hnq m e] at hm; exact h.askR m hm
    askW := fun m hm => by
      have hm : upd q n .no m = .get true ∨ upd q n .no m = .nackG true := hm
      by_cases e : m = n
      · subst e; rw [hqn] at hm; rcases hm with k | k <;> cases k
      · rw [hnq m e] at hm; exact h.askW m hm
    gave := fun m y hm => by
      have hm : upd q n .no m = .put y := hm
      by_cases e : m = n
      · subst e; rw [hqn] at hm; cases hm
      · rw [hnq m e] at hm; exact h.gave m y hm
    home := fun hp => absurd rfl (hp n d off [] 0)
    turnQ := fun r wr d i a g e => by injection e with e1; subst e1; exact hqn
    turnR := fun r d' i a g e => by injection e with e1 e2; cases e2
    turnW := fun r d' i a g e => by
      injection e with e1 e2 e3 e4 e5 e6
      subst e1 e3 e4 e5 e6
      refine ⟨rfl, fun _ => rfl, by rw [hneed]; simp, hnd, fun e => ((hoff n).1 e).1 rfl, hsn.1, hsn.2, fun m hm => ?_⟩
      obtain ⟨k1, k2⟩ := (hoff m).1 hm
      obtain ⟨k3, k4⟩ := h.apart m k2
      exact ⟨fun e => putAck_backs k4 (hA m e), fun e => k3 ((htop m).1 e).1⟩
    fwdR := fun r o m i a g e => by injection e with e1 e2; cases e2
    fwdW := fun r o m i a g e => by
      injection e with e1 e2 e3 e4 e5 e6
      subst e1 e4
      rw [hd] at e3
      by_cases e0 : own = 0
      · rw [if_pos e0] at e3; cases e3
      · rw [if_neg e0] at e3
        by_cases e7 : own = n + 1
        · rw [if_pos e7] at e3; cases e3
        · rw [if_neg e7] at e3
          injection e3 with e3 _
          refine ⟨by omega, fun hm => (h.apart o ((hoff o).1 hm).2).1 (by show own = o + 1; omega), fun h4 => ?_⟩
          have h4 : s n = 4 := h4
          exact e7 (hn4 (by omega)).1
    word := fun r wr own' keep m x i a g e => by
      rcases e with e | e
      · injection e with e1 e2 e3
        subst e1 e2
        rw [hd] at e3
        by_cases e0 : own = 0
        · rw [if_pos e0] at e3
          injection e3 with e4 e5 e6 e7
          subst e4 e5 e6 e7
          refine ⟨(fun e => by cases e), fun _ => ⟨hhome e0, fun h4 => ?_⟩, (fun e => by cases e)⟩
          have h4 : s n = 4 := h4
          have := (hn4 (by omega)).1
          omega
        · rw [if_neg e0] at e3
          by_cases e8 : own = n + 1
          · rw [if_pos e8] at e3
            injection e3 with e4 e5 e6 e7
            subst e4 e5 e6 e7
            have ht := h.top n ((htop0 n).2 e8)
            exact ⟨fun _ => ⟨rfl, (hn4 ht.1).2, ht.2.1⟩, (fun e => by cases e), (fun e => by cases e)⟩
          · rw [if_neg e8] at e3; cases e3
      · injection e with e1 e2 e3
        rw [hd] at e3
        by_cases e0 : own = 0
        · rw [if_pos e0] at e3; cases e3
        · rw [if_neg e0] at e3
          by_cases e8 : own = n + 1
          · rw [if_pos e8] at e3; cases e3
          · rw [if_neg e8] at e3; cases e3
    calm := fun hp => absurd rfl (hp n true _ _ _ _) }
end Go.Proofs.YtmeomdfmljanhaaGreat.Pr
/- Layer 10's lines: what comes to a core, and what it has then; plain values, no program in sight. -/
namespace Go.Proofs.YtmeomdfmljanhaaGreat.Pr
set_option linter.unusedVariables false

/-- FwdS or FwdM comes to the one that owns the line. -/
theorem Ok.fwd {L : Li} (h : Ok L) (r o m : Nat) (wr : Bool) (i a : List Nat) (g : Nat) (hp : L.ph = .turn r wr (.fwd o m) i a g) : 2 ≤ L.s o ∧ Ok { L with s := upd L.s o (if wr then 0 else 4), ph := .turn r wr (.data wr false m (L.v o)) i a g } := by
  obtain ⟨s, v, q, own, sh, home, last, ph⟩ := L
  simp only at hp
  subst hp
  have hro : o ≠ r := by
    cases wr with
    | true => exact (h.fwdW r o m i a g rfl).1
    | false => exact (h.fwdR r o m i a g rfl).2.1
  have hown : wr = false → own = o + 1 := fun e => by subst e; exact (h.fwdR r o m i a g rfl).1
  have htop : (⟨s, v, q, own, sh, home, last, .turn r wr (.fwd o m) i a g⟩ : Li).top = some o := by
    unfold Li.top
    cases wr with
    | true => rfl
    | false =>
      have := hown rfl
      simp only
      rw [if_neg (by omega)]
      congr 1; omega
  obtain ⟨t1, t2, t3⟩ := h.top o htop
  have t1 : 2 ≤ s o := t1
  have t2 : v o = last := t2
  have hone : ∀ k, (⟨s, v, q, own, sh, home, last, .turn r wr (.fwd o m) i a g⟩ : Li).top = some k → k = o := fun k hk => by rw [htop] at hk; injection hk with hk; exact hk.symm
  have hnk : ∀ k, ¬ (⟨s, v, q, own, sh, home, last, .turn r wr (.fwd o m) i a g⟩ : Li).keeps k := fun k e => by
    obtain ⟨_, _, _, _, _, _, e | e⟩ := e <;> (injection e with _ _ e; cases e)
  obtain ⟨y, hy⟩ : ∃ y, y = (if wr then 0 else 4) := ⟨_, rfl⟩
  have hy1 : y = 0 ∨ y = 4 := by rw [hy]; cases wr <;> simp
  have hso : upd s o y o = y := upd_same _ _ _
  have hne : ∀ k, k ≠ o → upd s o y k = s k := fun k hk => upd_ne _ _ hk
  have htop2 : ∀ k, (⟨upd s o y, v, q, own, sh, home, last, .turn r wr (.data wr false m (v o)) i a g⟩ : Li).top = some k → wr = false ∧ k = o := fun k hk => by
    unfold Li.top at hk
    cases wr with
    | true => cases hk
    | false =>
      have := hown rfl
      simp only at hk
      rw [if_neg (by omega)] at hk
      injection hk with hk
      exact ⟨rfl, by omega⟩
  refine ⟨t1, ?_⟩
  rw [← hy]
  exact {
    top := fun k hk => by
      obtain ⟨e1, e2⟩ := htop2 k hk
      subst e1 e2
      exact ⟨by show 2 ≤ upd s k y k; rw [hso, hy]; simp, t2, t3⟩
    high := fun k hk => by
      have hk : 2 ≤ upd s o y k := hk
      by_cases e : k = o
      · subst e
        rw [hso] at hk
        have hw : wr = false := by
          cases wr with
          | false => rfl
          | true =>
            exfalso
            have : y = 0 := hy
            omega
        subst hw
        refine .inl ?_
        unfold Li.top
        have := hown rfl
        simp only
        rw [if_neg (by omega)]
        congr 1; omega
      · rw [hne k e] at hk
        rcases h.high k hk with c | c | c
        · exact absurd (hone k c) e
        · exact .inr (.inl c)
        · exact absurd c.1 (hnk k)
    le4 := fun k => by
      show upd s o y k ≤ 4
      by_cases e : k = o
      · subst e; rw [hso]; omega
      · rw [hne k e]; exact h.le4 k
    share := fun k hk => by
      have hk : upd s o y k = 1 := hk
      have e : k ≠ o := fun e => by subst e; rw [hso] at hk; omega
      rw [hne k e] at hk
      refine ⟨(h.share k hk).1, (h.share k hk).2.imp id (fun c => ?_)⟩
      obtain ⟨r', d', i', a', g', c1, c2⟩ := c
      injection c1 with c3 c4 c5 c6 c7 c8
      subst c3 c4 c6 c7 c8
      exact ⟨r, _, i, a, g, rfl, c2⟩
    alone := fun k hk h4 => by
      obtain ⟨e1, e2⟩ := htop2 k hk
      subst e1 e2
      have h4 : upd s k y k ≠ 4 := h4
      rw [hso, hy] at h4
      exact absurd rfl h4
    apart := h.apart
    backs := fun k hk => by
      show upd s o y k ≠ 1
      by_cases e : k = o
      · subst e; rw [hso]; omega
      · rw [hne k e]; exact h.backs k hk
    back := fun k hk => ⟨(h.back k hk).1, fun e => by
      obtain ⟨e1, e2⟩ := htop2 k e
      subst e2
      exact t3 hk⟩
    askR := fun k hk => by
      have h0 := h.askR k hk
      have h0 : s k = 0 := h0
      show upd s o y k = 0
      rw [hne k (fun e => by subst e; omega)]; exact h0
    askW := fun k hk => by
      show upd s o y k ≠ 2 ∧ upd s o y k ≠ 3
      by_cases e : k = o
      · subst e; rw [hso]; omega
      · rw [hne k e]; exact h.askW k hk
    gave := h.gave
    home := fun hp h0 => by
      cases wr with
      | true => exact absurd rfl (hp r _ i a g)
      | false => have := hown rfl; have h0 : own = 0 := h0; omega
    turnQ := fun r' wr' d' i' a' g' e => by
      injection e with e1
      subst e1
      exact h.turnQ r wr _ i a g rfl
    turnR := fun r' d' i' a' g' e => by
      injection e with e1 e2 e3 e4 e5 e6
      subst e1 e2 e3 e4 e5 e6
      obtain ⟨k1, k2, k3, k4, k5, k6⟩ := h.turnR r _ i a g rfl
      have := hown rfl
      refine ⟨by show upd s o y r = 0; rw [hne r (fun e => hro e.symm)]; exact k1, k2, k3, k4, k5, .inr ?_⟩
      rcases k6 with k6 | k6
      · have : own = r + 1 := k6.1
        omega
      · exact k6
    turnW := fun r' d' i' a' g' e => by
      injection e with e1 e2 e3 e4 e5 e6
      subst e1 e2 e3 e4 e5 e6
      obtain ⟨k1, k2, k3, k4, k5, k6, k7, k8⟩ := h.turnW r _ i a g rfl
      have hr := hne r (fun e => hro e.symm)
      exact ⟨k1, k2, k3, k4, k5, by show upd s o y r ≠ 2; rw [hr]; exact k6, by show upd s o y r ≠ 3; rw [hr]; exact k7, fun k hk => ⟨(k8 k hk).1, fun e => by have := (htop2 k e).1; cases this⟩⟩
    fwdR := fun r' o' m' i' a' g' e => by injection e with _ _ e; cases e
    fwdW := fun r' o' m' i' a' g' e => by injection e with _ _ e; cases e
    word := fun r' wr' own' keep m' x i' a' g' e => by
      rcases e with e | e
      · injection e with e1 e2 e3 e4 e5 e6
        injection e3 with e7 e8 e9 e10
        subst e1 e2 e4 e5 e6 e7 e8 e9 e10
        have hr := hne r (fun e => hro e.symm)
        refine ⟨(fun e => by cases e), fun _ => ⟨t2, ?_⟩, fun hw => ?_⟩
        · show upd s o y r ≠ 4
          rw [hr]
          cases wr with
          | true => exact (h.fwdW r o m i a g rfl).2.2
          | false => have k := (h.turnR r _ i a g rfl).1; have k : s r = 0 := k; omega
        · subst hw
          have := hown rfl
          refine ⟨⟨(fun e => by cases e), fun e => by have e : own = r + 1 := e; omega⟩, fun k hk => ?_⟩
          have e2 := (htop2 k hk).2
          subst e2
          show upd s k y k = 4
          rw [hso, hy]; rfl
      · injection e with _ _ e; cases e
    calm := fun hp => absurd rfl (hp r wr _ i a g) }

/-- Data comes to the one in turn. -/
theorem Ok.data {L : Li} (h : Ok L) (r m x : Nat) (wr own keep : Bool) (i a : List Nat) (g : Nat) (hp : L.ph = .turn r wr (.data own keep m x) i a g) : Ok { L with ph := .turn r wr (.came own keep m x) i a g } := by
  obtain ⟨s, v, q, own0, sh, home, last, ph⟩ := L
  simp only at hp
  subst hp
  have htop : (⟨s, v, q, own0, sh, home, last, .turn r wr (.came own keep m x) i a g⟩ : Li).top = (⟨s, v, q, own0, sh, home, last, .turn r wr (.data own keep m x) i a g⟩ : Li).top := by
    unfold Li.top
    cases wr <;> rfl
  exact {
    top := fun k hk => h.top k (htop ▸ hk)
    high := fun k hk => by
      rcases h.high k hk with c | c | c
      · exact .inl (htop.trans c)
      · exact .inr (.inl c)
      · refine .inr (.inr ⟨?_, c.2⟩)
        obtain ⟨⟨o', n', x', i', a', g', e | e⟩, _⟩ := c
        · injection e with e1 e2 e3 e4 e5 e6
          injection e3 with e7 e8 e9 e10
          subst e1 e2 e4 e5 e6 e7 e8 e9 e10
          exact ⟨_, _, _, _, _, _, .inr rfl⟩
        · injection e with _ _ e; cases e
    le4 := h.le4
    share := fun k hk => ⟨(h.share k hk).1, (h.share k hk).2.imp id (fun c => by
      obtain ⟨r', d', i', a', g', c1, c2⟩ := c
      injection c1 with c3 c4 c5 c6 c7 c8
      subst c3 c4 c6 c7 c8
      exact ⟨r, _, i, a, g, rfl, c2⟩)⟩
    alone := fun k hk => h.alone k (htop ▸ hk)
    apart := h.apart, backs := h.backs
    back := fun k hk => ⟨(h.back k hk).1, fun e => (h.back k hk).2 (htop ▸ e)⟩
    askR := h.askR, askW := h.askW, gave := h.gave
    home := fun hp h0 => h.home (fun r' d' i' a' g' e => by
      injection e with e1 e2 e3 e4 e5 e6
      subst e2
      exact hp r (.came own keep m x) i a g rfl) h0
    turnQ := fun r' wr' d' i' a' g' e => by injection e with e1; subst e1; exact h.turnQ r wr (.data own keep m x) i a g rfl
    turnR := fun r' d' i' a' g' e => by
      injection e with e1 e2 e3 e4 e5 e6
      subst e1 e2 e3 e4 e5 e6
      exact h.turnR r (.data own keep m x) i a g rfl
    turnW := fun r' d' i' a' g' e => by
      injection e with e1 e2 e3 e4 e5 e6
      subst e1 e2 e3 e4 e5 e6
      obtain ⟨k1, k2, k3, k4, k5, k6, k7, k8⟩ := h.turnW r (.data own keep m x) i a g rfl
      exact ⟨k1, k2, k3, k4, k5, k6, k7, fun k hk => ⟨(k8 k hk).1, fun e => (k8 k hk).2 (htop ▸ e)⟩⟩
    fwdR := fun r' o' m' i' a' g' e => by injection e with _ _ e; cases e
    fwdW := fun r' o' m' i' a' g' e => by injection e with _ _ e; cases e
    word := fun r' wr' own' keep' m' x' i' a' g' e => by
      rcases e with e | e
      · injection e with _ _ e; cases e
      · injection e with e1 e2 e3 e4 e5 e6
        injection e3 with e7 e8 e9 e10
        subst e1 e2 e4 e5 e6 e7 e8 e9 e10
        obtain ⟨k1, k2, k3⟩ := h.word r wr own keep m x i a g (.inl rfl)
        exact ⟨k1, k2, fun hw => ⟨(k3 hw).1, fun k hk => (k3 hw).2 k (htop ▸ hk)⟩⟩
    calm := fun hp => absurd rfl (hp r wr _ i a g) }

/-- Ack comes to the one in turn; or Inv to one that hasn't the line (any more). -/
theorem Ok.acks {L : Li} (h : Ok L) (r : Nat) (d : Dt) (i a i2 a2 : List Nat) (g g2 : Nat) (hp : L.ph = .turn r true d i a g) (hn : g2 + a2.length + i2.length = g + a.length + i.length) (hi : ∀ m, m ∈ i2 → m ∈ i) (hnd : i2.Nodup)
    (hs : ∀ m, m ∈ i → m ∉ i2 → L.s m ≠ 1) : Ok { L with ph := .turn r true d i2 a2 g2 } := by
  obtain ⟨s, v, q, own0, sh, home, last, ph⟩ := L
  simp only at hp hs
  subst hp
  have htop : (⟨s, v, q, own0, sh, home, last, .turn r true d i2 a2 g2⟩ : Li).top = (⟨s, v, q, own0, sh, home, last, .turn r true d i a g⟩ : Li).top := by
    unfold Li.top
    cases d <;> rfl
  exact {
    top := fun k hk => h.top k (htop ▸ hk)
    high := fun k hk => by
      rcases h.high k hk with c | c | c
      · exact .inl (htop.trans c)
      · exact .inr (.inl c)
      · refine .inr (.inr ⟨?_, c.2⟩)
        obtain ⟨⟨o', n', x', i', a', g', e | e⟩, _⟩ := c
        · injection e with e1 e2 e3 e4 e5 e6
          subst e1 e3
          exact ⟨_, _, _, _, _, _, .inl rfl⟩
        · injection e with e1 e2 e3 e4 e5 e6
          subst e1 e3
          exact ⟨_, _, _, _, _, _, .inr rfl⟩
    le4 := h.le4
    share := fun k hk => ⟨(h.share k hk).1, (h.share k hk).2.imp id (fun c => by
      obtain ⟨r', d', i', a', g', c1, c2⟩ := c
      injection c1 with c3 c4 c5 c6 c7 c8
      subst c3 c5 c6 c7 c8
      refine ⟨r, d, i2, a2, g2, rfl, c2.imp (fun c3 => ?_) id⟩
      by_cases e : k ∈ i2
      · exact e
      · exact absurd hk (hs k c3 e))⟩
    alone := fun k hk => h.alone k (htop ▸ hk)
    apart := h.apart, backs := h.backs
    back := fun k hk => ⟨(h.back k hk).1, fun e => (h.back k hk).2 (htop ▸ e)⟩
    askR := h.askR, askW := h.askW, gave := h.gave
    home := fun hp => absurd rfl (hp r d i2 a2 g2)
    turnQ := fun r' wr' d' i' a' g' e => by injection e with e1; subst e1; exact h.turnQ r true _ i a g rfl
    turnR := fun r' d' i' a' g' e => by injection e with e1 e2; cases e2
    turnW := fun r' d' i' a' g' e => by
      injection e with e1 e2 e3 e4 e5 e6
      subst e1 e3 e4 e5 e6
      obtain ⟨k1, k2, k3, k4, k5, k6, k7, k8⟩ := h.turnW r _ i a g rfl
      exact ⟨k1, k2, by omega, hnd, fun e => k5 (hi r e), k6, k7, fun k hk => ⟨(k8 k (hi k hk)).1, fun e => (k8 k (hi k hk)).2 (htop ▸ e)⟩⟩
    fwdR := fun r' o' m' i' a' g' e => by injection e with e1 e2; cases e2
    fwdW := fun r' o' m' i' a' g' e => by
      injection e with e1 e2 e3 e4 e5 e6
      subst e1 e3 e4
      obtain ⟨k1, k2, k3⟩ := h.fwdW r o' m' i a g rfl
      exact ⟨k1, fun e => k2 (hi o' e), k3⟩
    word := fun r' wr' own' keep' m' x' i' a' g' e => by
      have e' : (⟨s, v, q, own0, sh, home, last, .turn r true d i a g⟩ : Li).ph = .turn r' wr' (.data own' keep' m' x') i a g ∨ (⟨s, v, q, own0, sh, home, last, .turn r true d i a g⟩ : Li).ph = .turn r' wr' (.came own' keep' m' x') i a g := by
        rcases e with e | e
        · injection e with e1 e2 e3; subst e1 e2 e3; exact .inl rfl
        · injection e with e1 e2 e3; subst e1 e2 e3; exact .inr rfl
      obtain ⟨k1, k2, k3⟩ := h.word r' wr' own' keep' m' x' i a g e'
      exact ⟨k1, k2, fun hw => ⟨(k3 hw).1, fun k hk => (k3 hw).2 k (htop ▸ hk)⟩⟩
    calm := fun hp => absurd rfl (hp r true d i2 a2 g2) }
end Go.Proofs.YtmeomdfmljanhaaGreat.Pr
/- Layer 10's lines: the one in turn has the line; who has a line to write has it alone, and whoever has it has the word that was set last; plain values, no program in sight. -/
namespace Go.Proofs.YtmeomdfmljanhaaGreat.Pr
set_option linter.unusedVariables false

/-- Its word came, and all acknowledgements: to read. -/
theorem Ok.hasR {L : Li} (h : Ok L) (r m x : Nat) (own keep : Bool) (i a : List Nat) (g : Nat) (hp : L.ph = .turn r false (.came own keep m x) i a g) : keep = false ∧ x = L.last ∧ Ok { L with s := upd L.s r (if own then 2 else 1), v := upd L.v r x, ph := .free r } := by
  obtain ⟨s, v, q, own0, sh, home, last, ph⟩ := L
  simp only at hp
  subst hp
  obtain ⟨k1, k2, k3⟩ := h.word r false own keep m x i a g (.inr rfl)
  have hkeep : keep = false := by
    cases keep with
    | false => rfl
    | true => have := (k1 rfl).1; cases this
  obtain ⟨hx, -⟩ := k2 hkeep
  obtain ⟨k3, k4⟩ := k3 rfl
  have hx : x = last := hx
  obtain ⟨r1, r2, r3, r4, r5, r6⟩ := h.turnR r _ i a g rfl
  have r1 : s r = 0 := r1
  have hqr : q r = .no := h.turnQ r false _ i a g rfl
  obtain ⟨y, hy⟩ : ∃ y, y = (if own then 2 else 1) := ⟨_, rfl⟩
  have hsr : upd s r y r = y := upd_same _ _ _
  have hne : ∀ k, k ≠ r → upd s r y k = s k := fun k hk => upd_ne _ _ hk
  have hvr : upd v r x r = x := upd_same _ _ _
  have hnv : ∀ k, k ≠ r → upd v r x k = v k := fun k hk => upd_ne _ _ hk
  have htop0 : ∀ k, (⟨s, v, q, own0, sh, home, last, .turn r false (.came own keep m x) i a g⟩ : Li).top = some k ↔ own0 = k + 1 ∧ own0 ≠ r + 1 := fun k => by
    unfold Li.top
    simp only
    by_cases e : own0 = 0 ∨ own0 = r + 1
    · rw [if_pos e]; simp; omega
    · rw [if_neg e]; simp; omega
  have htop : ∀ k, (⟨upd s r y, upd v r x, q, own0, sh, home, last, .free r⟩ : Li).top = some k ↔ own0 = k + 1 := fun k => Li.top_own (fun r wr d i a g e => by cases e) k
  have hnk : ∀ k, ¬ (⟨s, v, q, own0, sh, home, last, .turn r false (.came own keep m x) i a g⟩ : Li).keeps k := fun k e => by
    obtain ⟨_, _, _, _, _, _, e | e⟩ := e <;> (injection e with _ e; cases e)
  have hnt : ∀ k, ¬ (⟨s, v, q, own0, sh, home, last, .turn r false (.came own keep m x) i a g⟩ : Li).told k := fun k e => by
    obtain ⟨_, _, _, _, _, e, _⟩ := e
    injection e with _ e; cases e
  have hyA : own0 = r + 1 → y = 2 := fun e => by
    have : own = true := k3.2 e
    rw [hy, this]; rfl
  have hyB : own0 ≠ r + 1 → y = 1 := fun e => by
    have : own = false := by
      cases own with
      | false => rfl
      | true => exact absurd (k3.1 rfl) e
    rw [hy, this]; rfl
  have hA : own0 = r + 1 → (∀ k, sh k = false) ∧ ∀ k, s k = 0 ∨ q k = .putAck := fun e => by
    rcases r6 with c | c
    · exact ⟨c.2.1, c.2.2⟩
    · exact absurd e c.1
  have hB : own0 ≠ r + 1 → sh r = true := fun e => by
    rcases r6 with c | c
    · exact absurd c.1 e
    · exact c.2
  have hz : ∀ k, s k = 1 → q k ≠ .putAck := fun k hk e => h.backs k (by show (q k).backs = true; rw [e]; rfl) hk
  refine ⟨hkeep, hx, ?_⟩
  rw [← hy]
  exact {
    top := fun k hk => by
      have ho := (htop k).1 hk
      by_cases e : own0 = r + 1
      · have : k = r := by omega
        subst this
        exact ⟨by show 2 ≤ upd s k y k; rw [hsr, hyA e]; omega, by show upd v k x k = last; rw [hvr]; exact hx, by show q k ≠ .putAck; rw [hqr]; exact fun e => by cases e⟩
      · obtain ⟨t1, t2, t3⟩ := h.top k ((htop0 k).2 ⟨ho, e⟩)
        have hk : k ≠ r := by omega
        exact ⟨by show 2 ≤ upd s r y k; rw [hne k hk]; exact t1, by show upd v r x k = last; rw [hnv k hk]; exact t2, t3⟩
    high := fun k hk => by
      have hk : 2 ≤ upd s r y k := hk
      by_cases e : k = r
      · subst e
        refine .inl ((htop k).2 ?_)
        by_cases e : own0 = k + 1
        · exact e
        · rw [hsr, hyB e] at hk; omega
      · rw [hne k e] at hk
        rcases h.high k hk with c | c | c
        · exact .inl ((htop k).2 ((htop0 k).1 c).1)
        · exact .inr (.inl c)
        · exact absurd c.1 (hnk k)
    le4 := fun k => by
      show upd s r y k ≤ 4
      by_cases e : k = r
      · subst e; rw [hsr, hy]; split <;> omega
      · rw [hne k e]; exact h.le4 k
    share := fun k hk => by
      have hk : upd s r y k = 1 := hk
      by_cases e : k = r
      · subst e
        refine ⟨by show upd v k x k = last; rw [hvr]; exact hx, .inl (hB (fun e => ?_))⟩
        rw [hsr, hyA e] at hk; omega
      · rw [hne k e] at hk
        obtain ⟨c1, c2⟩ := h.share k hk
        exact ⟨by show upd v r x k = last; rw [hnv k e]; exact c1, .inl (c2.resolve_right (hnt k))⟩
    alone := fun k hk h4 j hj => by
      have ho := (htop k).1 hk
      by_cases e : own0 = r + 1
      · have : k = r := by omega
        subst this
        show upd s k y j = 0 ∨ q j = .putAck
        rw [hne j hj]
        exact (hA e).2 j
      · have hk : k ≠ r := by omega
        have h4 : upd s r y k ≠ 4 := h4
        rw [hne k hk] at h4
        exact absurd (k4 k ((htop0 k).2 ⟨ho, e⟩)) h4
    apart := h.apart
    backs := fun k hk => by
      show upd s r y k ≠ 1
      have e : k ≠ r := fun e => by subst e; have hk : (q k).backs = true := hk; rw [hqr] at hk; cases hk
      rw [hne k e]; exact h.backs k hk
    back := fun k hk => ⟨(h.back k hk).1, fun e => (h.back k hk).1 ((htop k).1 e)⟩
    askR := fun k hk => by
      have e : k ≠ r := fun e => by subst e; have hk : q k = .get false ∨ q k = .nackG false := hk; rw [hqr] at hk; rcases hk with c | c <;> cases c
      show upd s r y k = 0
      rw [hne k e]; exact h.askR k hk
    askW := fun k hk => by
      have e : k ≠ r := fun e => by subst e; have hk : q k = .get true ∨ q k = .nackG true := hk; rw [hqr] at hk; rcases hk with c | c <;> cases c
      show upd s r y k ≠ 2 ∧ upd s r y k ≠ 3
      rw [hne k e]; exact h.askW k hk
    gave := fun k z hk => by
      have e : k ≠ r := fun e => by subst e; have hk : q k = .put z := hk; rw [hqr] at hk; cases hk
      show upd v r x k = z
      rw [hnv k e]; exact h.gave k z hk
    home := fun _ h0 => h.home (fun r' d' i' a' g' e => by injection e with _ e; cases e) h0
    turnQ := fun r wr d i a g e => by cases e
    turnR := fun r d i a g e => by cases e
    turnW := fun r d i a g e => by cases e
    fwdR := fun r o m i a g e => by cases e
    fwdW := fun r o m i a g e => by cases e
    word := fun r wr own keep m x i a g e => by rcases e with e | e <;> cases e
    calm := fun _ k ho h4 j => by
      by_cases e : own0 = r + 1
      · exact (hA e).1 j
      · have ho : own0 = k + 1 := ho
        have hk : k ≠ r := by omega
        have h4 : upd s r y k ≠ 4 := h4
        rw [hne k hk] at h4
        exact absurd (k4 k ((htop0 k).2 ⟨ho, e⟩)) h4 }

/-- Its word came, and all acknowledgements: to write. -/
theorem Ok.hasW {L : Li} (h : Ok L) (r m x : Nat) (own keep : Bool) (i a : List Nat) (g : Nat) (hp : L.ph = .turn r true (.came own keep m x) i a g) (hg : m ≤ g) : i = [] ∧ a = [] ∧ Ok { L with s := upd L.s r 3, v := if keep then L.v else upd L.v r x, ph := .free r } := by
  obtain ⟨s, v, q, own0, sh, home, last, ph⟩ := L
  simp only at hp
  subst hp
  obtain ⟨k1, k2, -⟩ := h.word r true own keep m x i a g (.inr rfl)
  obtain ⟨w1, w2, w3, w4, w5, w6, w7, w8⟩ := h.turnW r _ i a g rfl
  have w1 : own0 = r + 1 := w1
  have w3 : g + a.length + i.length = m := w3
  have hi : i = [] := List.length_eq_zero_iff.1 (by omega)
  have ha : a = [] := List.length_eq_zero_iff.1 (by omega)
  refine ⟨hi, ha, ?_⟩
  have hqr : q r = .no := h.turnQ r true _ i a g rfl
  have htop0 : (⟨s, v, q, own0, sh, home, last, .turn r true (.came own keep m x) i a g⟩ : Li).top = none := rfl
  have htop : ∀ k (v' : Nat → Nat), (⟨upd s r 3, v', q, own0, sh, home, last, .free r⟩ : Li).top = some k ↔ own0 = k + 1 := fun k v' => Li.top_own (fun r wr d i a g e => by cases e) k
  have hz : ∀ k, k ≠ r → s k = 0 ∨ q k = .putAck := fun k hk => by
    by_cases h2 : 2 ≤ s k
    · rcases h.high k h2 with c | c | c
      · rw [htop0] at c; cases c
      · exact .inr c
      · obtain ⟨⟨_, _, _, _, _, _, e | e⟩, _⟩ := c
        · injection e with _ _ e; cases e
        · injection e with e; exact absurd e.symm hk
    · by_cases h1 : s k = 1
      · exfalso
        rcases (h.share k h1).2 with c | c
        · rw [w2 k] at c; cases c
        · obtain ⟨_, _, _, _, _, e, c⟩ := c
          injection e with e1 _ _ e4
          subst e1 e4
          rcases c with c | c
          · rw [hi] at c; cases c
          · exact hk c
      · exact .inl (by omega)
  have hz1 : ∀ k, k ≠ r → s k ≠ 1 := fun k hk e => by
    rcases hz k hk with c | c
    · omega
    · exact h.backs k (by show (q k).backs = true; rw [c]; rfl) e
  have hsr : upd s r 3 r = 3 := upd_same _ _ _
  have hne : ∀ k, k ≠ r → upd s r 3 k = s k := fun k hk => upd_ne _ _ hk
  obtain ⟨v', hv'⟩ : ∃ v', v' = (if keep then v else upd v r x) := ⟨_, rfl⟩
  have hvr : v' r = last := by
    rw [hv']
    cases keep with
    | true => exact (k1 rfl).2.2
    | false => exact (upd_same _ _ _).trans (k2 rfl).1
  have hnv : ∀ k, k ≠ r → v' k = v k := fun k hk => by
    rw [hv']
    cases keep with
    | true => rfl
    | false => exact upd_ne _ _ hk
  rw [← hv']
  exact {
    top := fun k hk => by
      have ho := (htop k v').1 hk
      have : k = r := by omega
      subst this
      exact ⟨by show 2 ≤ upd s k 3 k; rw [hsr]; omega, hvr, by show q k ≠ .putAck; rw [hqr]; exact fun e => by cases e⟩
    high := fun k hk => by
      by_cases e : k = r
      · subst e; exact .inl ((htop k v').2 w1)
      · have hk : 2 ≤ upd s r 3 k := hk
        rw [hne k e] at hk
        exact .inr (.inl ((hz k e).resolve_left (by omega)))
    le4 := fun k => by
      show upd s r 3 k ≤ 4
      by_cases e : k = r
      · subst e; rw [hsr]; omega
      · rw [hne k e]; exact h.le4 k
    share := fun k hk => by
      exfalso
      have hk : upd s r 3 k = 1 := hk
      by_cases e : k = r
      · subst e; rw [hsr] at hk; omega
      · rw [hne k e] at hk; exact hz1 k e hk
    alone := fun k hk _ j hj => by
      have ho := (htop k v').1 hk
      have : k = r := by omega
      subst this
      show upd s k 3 j = 0 ∨ q j = .putAck
      rw [hne j hj]; exact hz j hj
    apart := h.apart
    backs := fun k hk => by
      show upd s r 3 k ≠ 1
      by_cases e : k = r
      · subst e; rw [hsr]; omega
      · rw [hne k e]; exact h.backs k hk
    back := fun k hk => ⟨(h.back k hk).1, fun e => (h.back k hk).1 ((htop k v').1 e)⟩
    askR := fun k hk => by
      have e : k ≠ r := fun e => by subst e; have hk : q k = .get false ∨ q k = .nackG false := hk; rw [hqr] at hk; rcases hk with c | c <;> cases c
      show upd s r 3 k = 0
      rw [hne k e]; exact h.askR k hk
    askW := fun k hk => by
      have e : k ≠ r := fun e => by subst e; have hk : q k = .get true ∨ q k = .nackG true := hk; rw [hqr] at hk; rcases hk with c | c <;> cases c
      show upd s r 3 k ≠ 2 ∧ upd s r 3 k ≠ 3
      rw [hne k e]; exact h.askW k hk
    gave := fun k z hk => by
      have e : k ≠ r := fun e => by subst e; have hk : q k = .put z := hk; rw [hqr] at hk; cases hk
      show v' k = z
      rw [hnv k e]; exact h.gave k z hk
    home := fun _ h0 => by have h0 : own0 = 0 := h0; omega
    turnQ := fun r wr d i a g e => by cases e
    turnR := fun r d i a g e => by cases e
    turnW := fun r d i a g e => by cases e
    fwdR := fun r o m i a g e => by cases e
    fwdW := fun r o m i a g e => by cases e
    word := fun r wr own keep m x i a g e => by rcases e with e | e <;> cases e
    calm := fun _ k ho h4 j => w2 j }

/-- A core waits for the line. -/
def Li.waits (L : Li) (n : Nat) : Prop := L.q n ≠ .no ∨ ∃ wr d i a g, L.ph = .turn n wr d i a g
/-- Who has a line has the word that was set last. -/
theorem Ok.reads {L : Li} (h : Ok L) (n : Nat) (hs : L.s n ≠ 0) (hw : ¬ L.waits n) : L.v n = L.last := by
  by_cases h2 : 2 ≤ L.s n
  · rcases h.high n h2 with c | c | c
    · exact (h.top n c).2.1
    · exact absurd (.inl (by rw [c]; exact fun e => by cases e)) hw
    · obtain ⟨⟨_, _, _, _, _, _, e | e⟩, _⟩ := c <;> exact absurd (.inr ⟨_, _, _, _, _, e⟩) hw
  · exact (h.share n (by omega)).1
/-- Who has a line to write has it alone. -/
theorem Ok.one {L : Li} (h : Ok L) (n m : Nat) (hs : L.s n = 2 ∨ L.s n = 3) (hw : ¬ L.waits n) (hm : m ≠ n) (hwm : ¬ L.waits m) : L.s m = 0 := by
  have htop : L.top = some n := by
    rcases h.high n (by omega) with c | c | c
    · exact c
    · exact absurd (.inl (by rw [c]; exact fun e => by cases e)) hw
    · omega
  rcases h.alone n htop (by omega) m hm with c | c
  · exact c
  · exact absurd (.inl (by rw [c]; exact fun e => by cases e)) hwm
end Go.Proofs.YtmeomdfmljanhaaGreat.Pr
/- Layer 10's lines: what is on its way about a line is just what the line's state says; plain values, no program in sight. -/
namespace Go.Proofs.YtmeomdfmljanhaaGreat.Pr
set_option linter.unusedVariables false

/-- What is on its way about a line. -/
inductive Mg where
  | get (n : Nat) (wr : Bool)
  | put (n x : Nat)
  | free (n : Nat)
  | nack (n : Nat)
  | putAck (n : Nat)
  | data (r : Nat) (own keep : Bool) (need x : Nat)
  | fwd (o r : Nat) (wr : Bool) (need : Nat)
  | inv (n r : Nat)
  | ack (r : Nat)
def Rq.msgs (n : Nat) : Rq → List Mg
  | .no => []
  | .get wr => [.get n wr]
  | .nackG _ => [.nack n]
  | .put x => [.put n x]
  | .nackP => [.nack n]
  | .putAck => [.putAck n]
def Dt.msgs (r : Nat) (wr : Bool) : Dt → List Mg
  | .data own keep need x => [.data r own keep need x]
  | .fwd o need => [.fwd o r wr need]
  | .came _ _ _ _ => []
def Ph.msgs : Ph → List Mg
  | .idle => []
  | .free r => [.free r]
  | .turn r wr d inv ack g => d.msgs r wr ++ (inv.map (fun n => Mg.inv n r) ++ ack.map (fun _ => Mg.ack r))
def asks (q : Nat → Rq) (c : Nat) : List Mg := (List.range c).flatMap fun n => (q n).msgs n
def Li.msgs (L : Li) (c : Nat) : List Mg := asks L.q c ++ L.ph.msgs

theorem asks_succ (q : Nat → Rq) (c : Nat) : asks q (c + 1) = asks q c ++ (q c).msgs c := by
  unfold asks
  rw [List.range_succ, List.flatMap_append]
  simp
theorem asks_congr {q q' : Nat → Rq} {c : Nat} (h : ∀ n, n < c → q n = q' n) : asks q c = asks q' c := by
  induction c with
  | zero => rfl
  | succ c ih => rw [asks_succ, asks_succ, ih (fun n hn => h n (by omega)), h c (by omega)]
/-- What one core asks, and the rest. -/
theorem asks_one (q : Nat → Rq) (c n : Nat) (hn : n < c) : ∃ R, ∀ y, (asks (upd q n y) c).Perm (y.msgs n ++ R) := by
  induction c with
  | zero => omega
  | succ c ih =>
    by_cases e : n = c
    · subst e
      refine ⟨asks q n, fun y => ?_⟩
      rw [asks_succ, upd_same, asks_congr (q' := q) (fun m hm => upd_ne _ _ (by omega))]
      exact List.perm_append_comm
    · obtain ⟨R, hR⟩ := ih (by omega)
      refine ⟨R ++ (q c).msgs c, fun y => ?_⟩
      rw [asks_succ, upd_ne _ _ (fun h => e h.symm), ← List.append_assoc]
      exact (hR y).append_right _
theorem upd_self {α : Type} (f : Nat → α) (n : Nat) : upd f n (f n) = f := by
  funext m
  unfold upd
  split
  · rename_i e; rw [e]
  · rfl
/-- What a core asks turns: one of its own on its way less, or another. -/
theorem msgs_ask (L : Li) (c n : Nat) (hn : n < c) (x y : Rq) (hx : L.q n = x) (M : List Mg) (hM : M.Perm (L.msgs c)) : ∃ R, M.Perm (x.msgs n ++ R) ∧ ({ L with q := upd L.q n y } : Li).msgs c = asks (upd L.q n y) c ++ L.ph.msgs ∧ (({ L with q := upd L.q n y } : Li).msgs c).Perm (y.msgs n ++ R) := by
  obtain ⟨R, hR⟩ := asks_one L.q c n hn
  refine ⟨R ++ L.ph.msgs, hM.trans ?_, rfl, ?_⟩
  · unfold Li.msgs
    have := hR (L.q n)
    rw [upd_self, hx] at this
    rw [← List.append_assoc]
    exact this.append_right _
  · rw [← List.append_assoc]
    exact (hR y).append_right _
theorem asks_mem {q : Nat → Rq} {c : Nat} {m : Mg} (h : m ∈ asks q c) : ∃ n, n < c ∧ m ∈ (q n).msgs n := by
  unfold asks at h
  obtain ⟨n, hn, hm⟩ := List.mem_flatMap.1 h
  exact ⟨n, List.mem_range.1 hn, hm⟩
/-- Which message says what of the line. -/
theorem mem_get {L : Li} {c n : Nat} {wr : Bool} (h : Mg.get n wr ∈ L.msgs c) : n < c ∧ L.q n = .get wr := by
  rcases List.mem_append.1 h with h | h
  · obtain ⟨m, hm, hx⟩ := asks_mem h
    cases e : L.q m <;> rw [e] at hx <;> simp [Rq.msgs] at hx
    obtain ⟨rfl, rfl⟩ := hx
    exact ⟨hm, e⟩
  · cases e : L.ph with
    | idle => rw [e] at h; simp [Ph.msgs] at h
    | free r => rw [e] at h; simp [Ph.msgs] at h
    | turn r w d i a g => rw [e] at h; cases d <;> simp [Ph.msgs, Dt.msgs] at h
theorem mem_put {L : Li} {c n x : Nat} (h : Mg.put n x ∈ L.msgs c) : n < c ∧ L.q n = .put x := by
  rcases List.mem_append.1 h with h | h
  · obtain ⟨m, hm, hx⟩ := asks_mem h
    cases e : L.q m <;> rw [e] at hx <;> simp [Rq.msgs] at hx
    obtain ⟨rfl, rfl⟩ := hx
    exact ⟨hm, e⟩
  · cases e : L.ph with
    | idle => rw [e] at h; simp [Ph.msgs] at h
    | free r => rw [e] at h; simp [Ph.msgs] at h
    | turn r w d i a g => rw [e] at h; cases d <;> simp [Ph.msgs, Dt.msgs] at h
theorem mem_nack {L : Li} {c n : Nat} (h : Mg.nack n ∈ L.msgs c) : n < c ∧ (L.q n = .nackG false ∨ L.q n = .nackG true ∨ L.q n = .nackP) := by
  rcases List.mem_append.1 h with h | h
  · obtain ⟨m, hm, hx⟩ := asks_mem h
    cases e : L.q m <;> rw [e] at hx <;> simp [Rq.msgs] at hx
    · rename_i w
      subst hx
      cases w with
      | false => exact ⟨hm, .inl e⟩
      | true => exact ⟨hm, .inr (.inl e)⟩
    · subst hx
      exact ⟨hm, .inr (.inr e)⟩
  · cases e : L.ph with
    | idle => rw [e] at h; simp [Ph.msgs] at h
    | free r => rw [e] at h; simp [Ph.msgs] at h
    | turn r w d i a g => rw [e] at h; cases d <;> simp [Ph.msgs, Dt.msgs] at h
theorem mem_putAck {L : Li} {c n : Nat} (h : Mg.putAck n ∈ L.msgs c) : n < c ∧ L.q n = .putAck := by
  rcases List.mem_append.1 h with h | h
  · obtain ⟨m, hm, hx⟩ := asks_mem h
    cases e : L.q m <;> rw [e] at hx <;> simp [Rq.msgs] at hx
    subst hx
    exact ⟨hm, e⟩
  · cases e : L.ph with
    | idle => rw [e] at h; simp [Ph.msgs] at h
    | free r => rw [e] at h; simp [Ph.msgs] at h
    | turn r w d i a g => rw [e] at h; cases d <;> simp [Ph.msgs, Dt.msgs] at h
theorem no_asks {q : Nat → Rq} {c : Nat} {m : Mg} (h : m ∈ asks q c) : (∃ n wr, m = .get n wr) ∨ (∃ n x, m = .put n x) ∨ (∃ n, m = .nack n) ∨ ∃ n, m = .putAck n := by
  obtain ⟨k, hk, hx⟩ := asks_mem h
  cases e : q k <;> rw [e] at hx <;> simp [Rq.msgs] at hx
  · exact .inl ⟨_, _, hx⟩
  · exact .inr (.inr (.inl ⟨_, hx⟩))
  · exact .inr (.inl ⟨_, _, hx⟩)
  · exact .inr (.inr (.inl ⟨_, hx⟩))
  · exact .inr (.inr (.inr ⟨_, hx⟩))
theorem mem_free {L : Li} {c r : Nat} (h : Mg.free r ∈ L.msgs c) : L.ph = .free r := by
  rcases List.mem_append.1 h with h | h
  · rcases no_asks h with ⟨_, _, e⟩ | ⟨_, _, e⟩ | ⟨_, e⟩ | ⟨_, e⟩ <;> cases e
  · cases e : L.ph with
    | idle => rw [e] at h; simp [Ph.msgs] at h
    | free r => rw [e] at h; simp [Ph.msgs] at h; rw [h]
    | turn r w d i a g => rw [e] at h; cases d <;> simp [Ph.msgs, Dt.msgs] at h
theorem mem_data {L : Li} {c r need x : Nat} {own keep : Bool} (h : Mg.data r own keep need x ∈ L.msgs c) : ∃ wr i a g, L.ph = .turn r wr (.data own keep need x) i a g := by
  rcases List.mem_append.1 h with h | h
  · rcases no_asks h with ⟨_, _, e⟩ | ⟨_, _, e⟩ | ⟨_, e⟩ | ⟨_, e⟩ <;> cases e
  · cases e : L.ph with
    | idle => rw [e] at h; simp [Ph.msgs] at h
    | free r => rw [e] at h; simp [Ph.msgs] at h
    | turn r' w d i a g =>
      rw [e] at h
      cases d <;> simp [Ph.msgs, Dt.msgs] at h
      obtain ⟨rfl, rfl, rfl, rfl, rfl⟩ := h
      exact ⟨_, _, _, _, rfl⟩
theorem mem_fwd {L : Li} {c o r need : Nat} {wr : Bool} (h : Mg.fwd o r wr need ∈ L.msgs c) : ∃ i a g, L.ph = .turn r wr (.fwd o need) i a g := by
  rcases List.mem_append.1 h with h | h
  · rcases no_asks h with ⟨_, _, e⟩ | ⟨_, _, e⟩ | ⟨_, e⟩ | ⟨_, e⟩ <;> cases e
  · cases e : L.ph with
    | idle => rw [e] at h; simp [Ph.msgs] at h
    | free r => rw [e] at h; simp [Ph.msgs] at h
    | turn r' w d i a g =>
      rw [e] at h
      cases d <;> simp [Ph.msgs, Dt.msgs] at h
      obtain ⟨rfl, rfl, rfl, rfl⟩ := h
      exact ⟨_, _, _, rfl⟩
theorem mem_inv {L : Li} {c n r : Nat} (h : Mg.inv n r ∈ L.msgs c) : ∃ wr d i a g, L.ph = .turn r wr d i a g ∧ n ∈ i := by
  rcases List.mem_append.1 h with h | h
  · rcases no_asks h with ⟨_, _, e⟩ | ⟨_, _, e⟩ | ⟨_, e⟩ | ⟨_, e⟩ <;> cases e
  · cases e : L.ph with
    | idle => rw [e] at h; simp [Ph.msgs] at h
    | free r => rw [e] at h; simp [Ph.msgs] at h
    | turn r' w d i a g =>
      rw [e] at h
      cases d <;> simp [Ph.msgs, Dt.msgs] at h <;> (obtain ⟨k, h1, rfl, rfl⟩ := h; exact ⟨_, _, _, _, _, rfl, h1⟩)
theorem mem_ack {L : Li} {c r : Nat} (h : Mg.ack r ∈ L.msgs c) : ∃ wr d i a g, L.ph = .turn r wr d i a g ∧ a ≠ [] := by
  rcases List.mem_append.1 h with h | h
  · rcases no_asks h with ⟨_, _, e⟩ | ⟨_, _, e⟩ | ⟨_, e⟩ | ⟨_, e⟩ <;> cases e
  · cases e : L.ph with
    | idle => rw [e] at h; simp [Ph.msgs] at h
    | free r => rw [e] at h; simp [Ph.msgs] at h
    | turn r' w d i a g =>
      rw [e] at h
      cases d <;> simp [Ph.msgs, Dt.msgs] at h <;> (obtain ⟨h1, rfl⟩ := h; refine ⟨_, _, _, _, _, rfl, ?_⟩; intro ha; subst ha; simp at h1)
end Go.Proofs.YtmeomdfmljanhaaGreat.Pr
/- Layer 10's lines: whatever is on its way comes: what always holds, and what is on its way then; plain values, no program in sight. -/
namespace Go.Proofs.YtmeomdfmljanhaaGreat.Pr
set_option linter.unusedVariables false

/-- The message m comes, and new ones go. -/
structure Goes (c : Nat) (L L' : Li) (m : Mg) (new : List Mg) : Prop where
  ok : Ok L'
  perm : ∃ R, (L.msgs c).Perm (m :: R) ∧ (L'.msgs c).Perm (R ++ new)
theorem Goes.all {c : Nat} {L L' : Li} {m : Mg} {new M1 M2 : List Mg} (h : Goes c L L' m new) (hM : (M1 ++ m :: M2).Perm (L.msgs c)) : (M1 ++ M2 ++ new).Perm (L'.msgs c) := by
  obtain ⟨R, h1, h2⟩ := h.perm
  have h3 : (m :: (M1 ++ M2)).Perm (m :: R) := (List.perm_middle.symm.trans hM).trans h1
  exact ((List.Perm.cons_inv h3).append_right new).trans h2.symm
/-- One core's asking turns. -/
theorem asks_goes (L : Li) (c n : Nat) (hn : n < c) (m : Mg) (x y : Rq) (hx : L.q n = x) (hm : x.msgs n = [m]) (L' : Li) (hq : L'.q = upd L.q n y) (hp : L'.ph = L.ph) : ∃ R, (L.msgs c).Perm (m :: R) ∧ (L'.msgs c).Perm (R ++ y.msgs n) := by
  obtain ⟨R, h1, h2, h3⟩ := msgs_ask L c n hn x y hx (L.msgs c) (List.Perm.refl _)
  rw [hm] at h1
  refine ⟨R, h1, ?_⟩
  unfold Li.msgs
  rw [hq, hp, ← h2]
  exact h3.trans List.perm_append_comm
/-- A core's request is taken up. -/
theorem take_goes (L : Li) (c n : Nat) (hn : n < c) (m : Mg) (x : Rq) (hx : L.q n = x) (hm : x.msgs n = [m]) (hi : L.ph = .idle) (L' : Li) (hq : L'.q = upd L.q n .no) (new : List Mg) (hnew : L'.ph.msgs.Perm new) : ∃ R, (L.msgs c).Perm (m :: R) ∧ (L'.msgs c).Perm (R ++ new) := by
  obtain ⟨R, hR⟩ := asks_one L.q c n hn
  refine ⟨R, ?_, ?_⟩
  · unfold Li.msgs
    rw [hi]
    have := hR (L.q n)
    rw [upd_self, hx, hm] at this
    simpa [Ph.msgs] using this
  · unfold Li.msgs
    rw [hq]
    have := hR .no
    exact (this.append_right _).trans (by simpa [Rq.msgs] using hnew.append_left R)
/-- The one in turn goes on. -/
theorem turn_goes (L L' : Li) (c : Nat) (m : Mg) (P new : List Mg) (hq : L'.q = L.q) (h1 : L.ph.msgs.Perm (m :: P)) (h2 : L'.ph.msgs.Perm (P ++ new)) : ∃ R, (L.msgs c).Perm (m :: R) ∧ (L'.msgs c).Perm (R ++ new) := by
  refine ⟨asks L.q c ++ P, ?_, ?_⟩
  · unfold Li.msgs
    exact (h1.append_left _).trans List.perm_middle
  · unfold Li.msgs
    rw [hq, List.append_assoc]
    exact h2.append_left _
theorem not_turn_of {L : Li} (h : Ok L) {n : Nat} (hq : L.q n ≠ .no) : ∀ wr d i a g, L.ph ≠ .turn n wr d i a g := fun wr d i a g e => hq (h.turnQ n wr d i a g e)

/-- A request finds the line busy. -/
theorem goes_busy {L : Li} (h : Ok L) (c n : Nat) (wr : Bool) (hm : Mg.get n wr ∈ L.msgs c) : Goes c L { L with q := upd L.q n (.nackG wr) } (.get n wr) [.nack n] := by
  obtain ⟨hn, hq⟩ := mem_get hm
  refine ⟨h.ask n (.nackG wr) (by rw [hq]; exact fun e => by cases e) (fun e => by cases e) (not_turn_of h (by rw [hq]; exact fun e => by cases e)) (fun e => ?_) (fun e => ?_) (fun y e => by cases e) (fun e => by cases e), asks_goes L c n hn _ _ (.nackG wr) hq rfl _ rfl rfl⟩
  · cases wr with
    | false => exact h.askR n (.inl hq)
    | true => rcases e with e | e <;> cases e
  · cases wr with
    | true => exact h.askW n (.inl hq)
    | false => rcases e with e | e <;> cases e
/-- Nack of a request: it asks again. -/
theorem goes_again {L : Li} (h : Ok L) (c n : Nat) (wr : Bool) (hn : n < c) (hq : L.q n = .nackG wr) : Goes c L { L with q := upd L.q n (.get wr) } (.nack n) [.get n wr] := by
  refine ⟨h.ask n (.get wr) (by rw [hq]; exact fun e => by cases e) (fun e => by cases e) (not_turn_of h (by rw [hq]; exact fun e => by cases e)) (fun e => ?_) (fun e => ?_) (fun y e => by cases e) (fun e => by cases e), asks_goes L c n hn _ _ (.get wr) hq rfl _ rfl rfl⟩
  · cases wr with
    | false => exact h.askR n (.inr hq)
    | true => rcases e with e | e <;> cases e
  · cases wr with
    | true => exact h.askW n (.inr hq)
    | false => rcases e with e | e <;> cases e
/-- What a core gives back isn't shared. -/
theorem back_facts {L : Li} (h : Ok L) {n : Nat} (hb : (L.q n).backs = true) : L.sh n = false ∧ L.s n ≠ 1 := by
  refine ⟨?_, h.backs n hb⟩
  cases e : L.sh n with
  | false => rfl
  | true => have := (h.apart n e).2; rw [hb] at this; cases this
/-- Put finds the line busy. -/
theorem goes_putBusy {L : Li} (h : Ok L) (c n x : Nat) (hm : Mg.put n x ∈ L.msgs c) : Goes c L { L with q := upd L.q n .nackP } (.put n x) [.nack n] := by
  obtain ⟨hn, hq⟩ := mem_put hm
  have hb := back_facts h (n := n) (by rw [hq]; rfl)
  exact ⟨h.ask n .nackP (by rw [hq]; exact fun e => by cases e) (fun e => by cases e) (not_turn_of h (by rw [hq]; exact fun e => by cases e)) (fun e => by rcases e with e | e <;> cases e) (fun e => by rcases e with e | e <;> cases e) (fun y e => by cases e) (fun _ => hb), asks_goes L c n hn _ _ .nackP hq rfl _ rfl rfl⟩
/-- Nack of Put: it gives back again, or has nothing to give back any more. -/
theorem goes_putAgain {L : Li} (h : Ok L) (c n : Nat) (hn : n < c) (hq : L.q n = .nackP) (h2 : 2 ≤ L.s n) : Goes c L { L with q := upd L.q n (.put (L.v n)) } (.nack n) [.put n (L.v n)] := by
  have hb := back_facts h (n := n) (by rw [hq]; rfl)
  exact ⟨h.ask n (.put (L.v n)) (by rw [hq]; exact fun e => by cases e) (fun e => by cases e) (not_turn_of h (by rw [hq]; exact fun e => by cases e)) (fun e => by rcases e with e | e <;> cases e) (fun e => by rcases e with e | e <;> cases e) (fun y e => by injection e) (fun _ => hb), asks_goes L c n hn _ _ (.put (L.v n)) hq rfl _ rfl rfl⟩
theorem goes_giveUp {L : Li} (h : Ok L) (c n : Nat) (hn : n < c) (hq : L.q n = .nackP) : Goes c L { L with q := upd L.q n .no } (.nack n) [] := by
  exact ⟨h.ask n .no (by rw [hq]; exact fun e => by cases e) (fun e => by cases e) (not_turn_of h (by rw [hq]; exact fun e => by cases e)) (fun e => by rcases e with e | e <;> cases e) (fun e => by rcases e with e | e <;> cases e) (fun y e => by cases e) (fun e => by cases e), asks_goes L c n hn _ _ .no hq rfl _ rfl rfl⟩
/-- Put comes home. -/
theorem goes_put {L : Li} (h : Ok L) (c n x : Nat) (hm : Mg.put n x ∈ L.msgs c) (hi : L.ph = .idle) : Goes c L { L with q := upd L.q n .putAck, own := if L.own = n + 1 then 0 else L.own, home := if L.own = n + 1 then x else L.home } (.put n x) [.putAck n] := by
  obtain ⟨hn, hq⟩ := mem_put hm
  exact ⟨h.put n x hq hi _ _ rfl rfl, asks_goes L c n hn _ _ .putAck hq rfl _ rfl rfl⟩
/-- PutAck comes. -/
theorem goes_putAck {L : Li} (h : Ok L) (c n : Nat) (hm : Mg.putAck n ∈ L.msgs c) : Goes c L { L with s := upd L.s n 0, q := upd L.q n .no } (.putAck n) [] := by
  obtain ⟨hn, hq⟩ := mem_putAck hm
  exact ⟨h.acked n hq, asks_goes L c n hn _ _ .no hq rfl _ rfl rfl⟩
/-- GetS is taken up. -/
theorem goes_lone {L : Li} (h : Ok L) (c n : Nat) (hm : Mg.get n false ∈ L.msgs c) (hi : L.ph = .idle) (h0 : L.own = 0) (hs : ∀ m, m ≠ n → L.sh m = false) :
    Goes c L { L with q := upd L.q n .no, own := n + 1, sh := fun _ => false, ph := .turn n false (.data true false 0 L.home) [] [] 0 } (.get n false) [.data n true false 0 L.home] := by
  obtain ⟨hn, hq⟩ := mem_get hm
  exact ⟨h.getLone n hq hi h0 hs, take_goes L c n hn _ _ hq rfl hi _ rfl _ (by simp [Ph.msgs, Dt.msgs])⟩
theorem goes_read {L : Li} (h : Ok L) (c n : Nat) (hm : Mg.get n false ∈ L.msgs c) (hi : L.ph = .idle) :
    Goes c L { L with q := upd L.q n .no, sh := upd L.sh n true, ph := .turn n false (if L.own = 0 then .data false false 0 L.home else .fwd (L.own - 1) 0) [] [] 0 } (.get n false) (if L.own = 0 then [.data n false false 0 L.home] else [.fwd (L.own - 1) n false 0]) := by
  obtain ⟨hn, hq⟩ := mem_get hm
  refine ⟨h.getRead n hq hi, take_goes L c n hn _ _ hq rfl hi _ rfl _ ?_⟩
  by_cases e : L.own = 0
  · rw [if_pos e, if_pos e]; simp [Ph.msgs, Dt.msgs]
  · rw [if_neg e, if_neg e]; simp [Ph.msgs, Dt.msgs]
/-- GetM is taken up. -/
theorem goes_write {L : Li} (h : Ok L) (c n : Nat) (off : List Nat) (hm : Mg.get n true ∈ L.msgs c) (hi : L.ph = .idle) (hnd : off.Nodup) (hoff : ∀ m, m ∈ off ↔ m ≠ n ∧ L.sh m = true) :
    Goes c L { L with q := upd L.q n .no, own := n + 1, sh := fun _ => false, ph := .turn n true (if L.own = 0 then .data true false off.length L.home else if L.own = n + 1 then .data true true off.length 0 else .fwd (L.own - 1) off.length) off [] 0 } (.get n true)
      (off.map (fun m => Mg.inv m n) ++ (if L.own = 0 then [.data n true false off.length L.home] else if L.own = n + 1 then [.data n true true off.length 0] else [.fwd (L.own - 1) n true off.length])) := by
  obtain ⟨hn, hq⟩ := mem_get hm
  refine ⟨h.getWrite n off hq hi hnd hoff, take_goes L c n hn _ _ hq rfl hi _ rfl _ ?_⟩
  by_cases e : L.own = 0
  · rw [if_pos e, if_pos e]; simp only [Ph.msgs, Dt.msgs, List.map_nil, List.append_nil]; exact List.perm_append_comm
  · rw [if_neg e, if_neg e]
    by_cases e2 : L.own = n + 1
    · rw [if_pos e2, if_pos e2]; simp only [Ph.msgs, Dt.msgs, List.map_nil, List.append_nil]; exact List.perm_append_comm
    · rw [if_neg e2, if_neg e2]; simp only [Ph.msgs, Dt.msgs, List.map_nil, List.append_nil]; exact List.perm_append_comm
/-- Free comes home. -/
theorem goes_free {L : Li} (h : Ok L) (c r : Nat) (hm : Mg.free r ∈ L.msgs c) : Goes c L { L with ph := .idle } (.free r) [] := by
  have hp := mem_free hm
  exact ⟨h.freed r hp, turn_goes L _ c _ [] [] rfl (by rw [hp]; exact List.Perm.refl _) (List.Perm.refl _)⟩
/-- The owner sends its word on. -/
theorem goes_fwd {L : Li} (h : Ok L) (c o r m : Nat) (wr : Bool) (i a : List Nat) (g : Nat) (hp : L.ph = .turn r wr (.fwd o m) i a g) :
    2 ≤ L.s o ∧ Goes c L { L with s := upd L.s o (if wr then 0 else 4), ph := .turn r wr (.data wr false m (L.v o)) i a g } (.fwd o r wr m) [.data r wr false m (L.v o)] := by
  obtain ⟨h1, h2⟩ := h.fwd r o m wr i a g hp
  refine ⟨h1, h2, turn_goes L _ c _ (i.map (fun n => Mg.inv n r) ++ a.map (fun _ => Mg.ack r)) _ rfl (by rw [hp]; exact List.Perm.refl _) ?_⟩
  simp only [Ph.msgs, Dt.msgs]
  exact List.perm_append_comm
/-- Data comes, and acknowledgements are still to come. -/
theorem goes_data {L : Li} (h : Ok L) (c r m x : Nat) (wr own keep : Bool) (i a : List Nat) (g : Nat) (hp : L.ph = .turn r wr (.data own keep m x) i a g) : Goes c L { L with ph := .turn r wr (.came own keep m x) i a g } (.data r own keep m x) [] := by
  refine ⟨h.data r m x wr own keep i a g hp, turn_goes L _ c _ (i.map (fun n => Mg.inv n r) ++ a.map (fun _ => Mg.ack r)) [] rfl (by rw [hp]; exact List.Perm.refl _) ?_⟩
  simp only [Ph.msgs, Dt.msgs, List.nil_append, List.append_nil]
  exact List.Perm.refl _
/-- Ack comes. -/
theorem goes_ack {L : Li} (h : Ok L) (c r : Nat) (d : Dt) (i a : List Nat) (k g : Nat) (hp : L.ph = .turn r true d i (k :: a) g) : Goes c L { L with ph := .turn r true d i a (g + 1) } (.ack r) [] := by
  have hnd := (h.turnW r d i (k :: a) g hp).2.2.2.1
  refine ⟨h.acks r d i (k :: a) i a g (g + 1) hp (by simp; omega) (fun _ h => h) hnd (fun m h1 h2 => absurd h1 h2), turn_goes L _ c _ (d.msgs r true ++ (i.map (fun n => Mg.inv n r) ++ a.map (fun _ => Mg.ack r))) [] rfl ?_ ?_⟩
  · rw [hp]
    simp only [Ph.msgs, List.map_cons]
    exact (List.perm_middle.append_left _).trans List.perm_middle
  · simp only [Ph.msgs, List.append_nil]
    exact List.Perm.refl _
/-- Inv comes. -/
theorem goes_inv {L : Li} (h : Ok L) (c n r : Nat) (d : Dt) (i a : List Nat) (g : Nat) (hp : L.ph = .turn r true d i a g) (hn : n ∈ i) :
    Goes c L { L with s := if L.s n = 1 then upd L.s n 0 else L.s, ph := .turn r true d (i.erase n) (n :: a) g } (.inv n r) [.ack r] := by
  have hnd := (h.turnW r d i a g hp).2.2.2.1
  have hok : Ok { L with s := if L.s n = 1 then upd L.s n 0 else L.s } := by
    by_cases e : L.s n = 1
    · rw [if_pos e]; exact h.drop n e
    · rw [if_neg e]; exact h
  have hs : (if L.s n = 1 then upd L.s n 0 else L.s) n ≠ 1 := by
    by_cases e : L.s n = 1
    · rw [if_pos e, upd_same]; omega
    · rw [if_neg e]; exact e
  have hlen : (i.erase n).length + 1 = i.length := by
    have h1 := List.length_erase_of_mem hn
    have h2 := List.length_pos_of_mem hn
    omega
  refine ⟨hok.acks r d i a (i.erase n) (n :: a) g g hp (by simp; omega) (fun m hm => List.mem_of_mem_erase hm) (hnd.erase n) (fun m h1 h2 => ?_), turn_goes L _ c _ (d.msgs r true ++ ((i.erase n).map (fun n => Mg.inv n r) ++ a.map (fun _ => Mg.ack r))) _ rfl ?_ ?_⟩
  · have : m = n := by
      rcases Classical.em (m = n) with e | e
      · exact e
      · exact absurd ((List.mem_erase_of_ne e).2 h1) h2
    rw [this]; exact hs
  · rw [hp]
    simp only [Ph.msgs]
    have hp2 : (i.map (fun n => Mg.inv n r)).Perm (Mg.inv n r :: (i.erase n).map (fun n => Mg.inv n r)) := (List.perm_cons_erase hn).map _
    exact ((hp2.append_right _).append_left _).trans List.perm_middle
  · simp only [Ph.msgs, List.map_cons]
    have h1 : ((i.erase n).map (fun n => Mg.inv n r) ++ Mg.ack r :: a.map (fun _ => Mg.ack r)).Perm (((i.erase n).map (fun n => Mg.inv n r) ++ a.map (fun _ => Mg.ack r)) ++ [Mg.ack r]) := by
      refine List.perm_middle.trans ?_
      exact (List.perm_append_singleton _ _).symm
    rw [List.append_assoc]
    exact h1.append_left _
/-- The one in turn has it, behind its last message. -/
theorem goes_has {L L1 L2 : Li} {c r : Nat} {m : Mg} {d : Dt} {wr : Bool} {g : Nat} (h : Goes c L L1 m []) (hp : L1.ph = .turn r wr d [] [] g) (hd : d.msgs r wr = []) (hq : L2.q = L1.q) (h2 : L2.ph = .free r) (hok : Ok L2) : Goes c L L2 m [.free r] := by
  obtain ⟨R, k1, k2⟩ := h.perm
  refine ⟨hok, R, k1, ?_⟩
  unfold Li.msgs at k2 ⊢
  rw [hp] at k2
  rw [hq, h2]
  simp only [Ph.msgs, hd, List.map_nil, List.append_nil] at k2 ⊢
  exact k2.append_right _
end Go.Proofs.YtmeomdfmljanhaaGreat.Pr
/- Layer 10's lines: a weight that gets less whenever something comes, but where Nack is told and asked again; plain values, no program in sight. -/
namespace Go.Proofs.YtmeomdfmljanhaaGreat.Pr
set_option linter.unusedVariables false

def Rq.w : Rq → Nat
  | .no => 0
  | .get _ => 11
  | .nackG _ => 11
  | .put _ => 2
  | .nackP => 2
  | .putAck => 1
def Dt.w : Dt → Nat
  | .fwd _ _ => 2
  | .data _ _ _ _ => 1
  | .came _ _ _ _ => 0
def Ph.w : Ph → Nat
  | .idle => 0
  | .free _ => 1
  | .turn _ _ d inv ack _ => 2 + d.w + 2 * inv.length + ack.length
def asksW (q : Nat → Rq) : Nat → Nat
  | 0 => 0
  | c + 1 => asksW q c + (q c).w
/-- What is still to come of a line. -/
def Li.w (L : Li) (c : Nat) : Nat := asksW L.q c + L.ph.w
theorem asksW_congr {q q' : Nat → Rq} {c : Nat} (h : ∀ n, n < c → q n = q' n) : asksW q c = asksW q' c := by
  induction c with
  | zero => rfl
  | succ c ih => unfold asksW; rw [ih (fun n hn => h n (by omega)), h c (by omega)]
theorem asksW_upd (q : Nat → Rq) (c n : Nat) (hn : n < c) (y : Rq) : asksW (upd q n y) c + (q n).w = asksW q c + y.w := by
  induction c with
  | zero => omega
  | succ c ih =>
    unfold asksW
    by_cases e : n = c
    · subst e
      rw [upd_same, asksW_congr (q' := q) (fun m hm => upd_ne _ _ (by omega))]
      omega
    · rw [upd_ne _ _ (fun h => e h.symm)]
      have := ih (by omega)
      omega
/-- Nobody in turn has all that he waits for. -/
def Li.set (L : Li) : Prop := ∀ r wr own keep m x i a g, L.ph = .turn r wr (.came own keep m x) i a g → g < m
/-- A line that isn't free has something on its way of its turn. -/
theorem busy_msgs {L : Li} (h : Ok L) (hs : L.set) (hi : L.ph ≠ .idle) : ∃ m, m ∈ L.ph.msgs := by
  cases e : L.ph with
  | idle => exact absurd e hi
  | free r => exact ⟨.free r, by simp [Ph.msgs]⟩
  | turn r wr d i a g =>
    cases d with
    | data own keep need x => exact ⟨.data r own keep need x, by simp [Ph.msgs, Dt.msgs]⟩
    | fwd o need => exact ⟨.fwd o r wr need, by simp [Ph.msgs, Dt.msgs]⟩
    | came own keep m x =>
      have hg := hs r wr own keep m x i a g e
      cases wr with
      | false =>
        have := (h.turnR r _ i a g e).2.2.2.2.1
        have : m = 0 := this
        omega
      | true =>
        have := (h.turnW r _ i a g e).2.2.1
        have : g + a.length + i.length = m := this
        cases i with
        | cons n i => exact ⟨.inv n r, by simp [Ph.msgs]⟩
        | nil =>
          cases a with
          | cons k a => exact ⟨.ack r, by simp [Ph.msgs]⟩
          | nil => simp at this; omega
/-- Where nothing is on its way, nobody asks, and the line is free. -/
theorem still_of_none {L : Li} {c : Nat} (h : Ok L) (hs : L.set) (hm : L.msgs c = []) : L.ph = .idle ∧ ∀ n, n < c → L.q n = .no := by
  obtain ⟨h1, h2⟩ := List.append_eq_nil_iff.1 hm
  refine ⟨?_, fun n hn => ?_⟩
  · cases e : L.ph with
    | idle => rfl
    | free r => rw [e] at h2; simp [Ph.msgs] at h2
    | turn r wr d i a g =>
      obtain ⟨m, k⟩ := busy_msgs h hs (by rw [e]; exact fun e => by cases e)
      rw [h2] at k; cases k
  · have k : (L.q n).msgs n = [] := by
      unfold asks at h1
      exact List.flatMap_eq_nil_iff.1 h1 n (List.mem_range.2 hn)
    cases e : L.q n <;> rw [e] at k <;> first | rfl | (simp [Rq.msgs] at k)
theorem w_ask (L L' : Li) (c n : Nat) (hn : n < c) (x y : Rq) (hx : L.q n = x) (hq : L'.q = upd L.q n y) (hp : L'.ph = L.ph) : L'.w c + x.w = L.w c + y.w := by
  unfold Li.w
  rw [hq, hp]
  have := asksW_upd L.q c n hn y
  rw [hx] at this
  omega
theorem w_take (L L' : Li) (c n : Nat) (hn : n < c) (wr : Bool) (hx : L.q n = .get wr) (hi : L.ph = .idle) (hq : L'.q = upd L.q n .no) (hw : L'.ph.w ≤ 10) : L'.w c < L.w c := by
  unfold Li.w
  rw [hq, hi]
  have h1 := asksW_upd L.q c n hn .no
  rw [hx] at h1
  have h2 : (Rq.get wr).w = 11 := rfl
  have h3 : Rq.no.w = 0 := rfl
  have h4 : Ph.idle.w = 0 := rfl
  omega
theorem Goes.less_put {L : Li} (c n x : Nat) (hm : Mg.put n x ∈ L.msgs c) (own home : Nat) : ({ L with q := upd L.q n .putAck, own := own, home := home } : Li).w c < L.w c := by
  obtain ⟨hn, hq⟩ := mem_put hm
  have := w_ask L { L with q := upd L.q n .putAck, own := own, home := home } c n hn _ .putAck hq rfl rfl
  simp only [Rq.w] at this
  omega
theorem Goes.less_putAck {L : Li} (c n : Nat) (hm : Mg.putAck n ∈ L.msgs c) (s : Nat → Nat) : ({ L with s := s, q := upd L.q n .no } : Li).w c < L.w c := by
  obtain ⟨hn, hq⟩ := mem_putAck hm
  have := w_ask L { L with s := s, q := upd L.q n .no } c n hn _ .no hq rfl rfl
  simp only [Rq.w] at this
  omega
theorem w_turn (L L' : Li) (c : Nat) (hq : L'.q = L.q) (hw : L'.ph.w < L.ph.w) : L'.w c < L.w c := by
  unfold Li.w
  rw [hq]
  omega
theorem less_free {r : Nat} : Ph.idle.w < (Ph.free r).w := by simp [Ph.w]
theorem less_fwd {r o m : Nat} {wr own keep : Bool} {n x : Nat} {i a : List Nat} {g : Nat} : (Ph.turn r wr (.data own keep n x) i a g).w < (Ph.turn r wr (.fwd o m) i a g).w := by simp [Ph.w, Dt.w]
theorem less_data {r : Nat} {wr own keep : Bool} {n x : Nat} {i a : List Nat} {g : Nat} : (Ph.turn r wr (.came own keep n x) i a g).w < (Ph.turn r wr (.data own keep n x) i a g).w := by simp [Ph.w, Dt.w]
theorem less_ack {r k : Nat} {wr : Bool} {d : Dt} {i a : List Nat} {g : Nat} : (Ph.turn r wr d i a (g + 1)).w < (Ph.turn r wr d i (k :: a) g).w := by simp [Ph.w]
theorem less_inv {r n : Nat} {wr : Bool} {d : Dt} {i a : List Nat} {g : Nat} (hn : n ∈ i) : (Ph.turn r wr d (i.erase n) (n :: a) g).w < (Ph.turn r wr d i a g).w := by
  have h1 := List.length_erase_of_mem hn
  have h2 := List.length_pos_of_mem hn
  simp only [Ph.w, List.length_cons]
  omega
theorem less_has {r : Nat} {wr : Bool} {d : Dt} {i a : List Nat} {g : Nat} : (Ph.free r).w < (Ph.turn r wr d i a g).w := by simp only [Ph.w]; omega
end Go.Proofs.YtmeomdfmljanhaaGreat.Pr
/- Layer 10's lines: what comes, as one function; it keeps what always holds, and gets on, but where Nack is told and asked again; plain values, no program in sight. -/
namespace Go.Proofs.YtmeomdfmljanhaaGreat.Pr
set_option linter.unusedVariables false

def offs (c n : Nat) (sh : Nat → Bool) : List Nat := (List.range c).filter fun m => decide (m ≠ n) && sh m
/-- Cores are below c. -/
structure Li.fits (L : Li) (c : Nat) : Prop where
  q : ∀ n, c ≤ n → L.q n = .no
  sh : ∀ n, c ≤ n → L.sh n = false
theorem offs_mem {L : Li} {c : Nat} (h : L.fits c) (n m : Nat) : m ∈ offs c n L.sh ↔ m ≠ n ∧ L.sh m = true := by
  unfold offs
  rw [List.mem_filter, List.mem_range, Bool.and_eq_true, decide_eq_true_iff]
  refine ⟨fun e => e.2, fun e => ⟨?_, e⟩⟩
  rcases Nat.lt_or_ge m c with h1 | h1
  · exact h1
  · have := h.sh m h1; rw [this] at e; exact absurd e.2 (by decide)
theorem offs_nodup (c n : Nat) (sh : Nat → Bool) : (offs c n sh).Nodup := List.Pairwise.filter _ List.nodup_range
def Li.done (L : Li) (r : Nat) (wr own keep : Bool) (x : Nat) : Li :=
  { L with s := upd L.s r (if wr then 3 else if own then 2 else 1), v := if keep then L.v else upd L.v r x, ph := .free r }
def Li.write (L : Li) (c n : Nat) : Li × List Mg :=
  ({ L with q := upd L.q n .no, own := n + 1, sh := fun _ => false, ph := .turn n true (if L.own = 0 then .data true false (offs c n L.sh).length L.home else if L.own = n + 1 then .data true true (offs c n L.sh).length 0 else .fwd (L.own - 1) (offs c n L.sh).length) (offs c n L.sh) [] 0 },
    (offs c n L.sh).map (fun m => Mg.inv m n) ++ (if L.own = 0 then [.data n true false (offs c n L.sh).length L.home] else if L.own = n + 1 then [.data n true true (offs c n L.sh).length 0] else [.fwd (L.own - 1) n true (offs c n L.sh).length]))
def Li.lone (L : Li) (n : Nat) : Li × List Mg :=
  ({ L with q := upd L.q n .no, own := n + 1, sh := fun _ => false, ph := .turn n false (.data true false 0 L.home) [] [] 0 }, [.data n true false 0 L.home])
def Li.read (L : Li) (n : Nat) : Li × List Mg :=
  ({ L with q := upd L.q n .no, sh := upd L.sh n true, ph := .turn n false (if L.own = 0 then .data false false 0 L.home else .fwd (L.own - 1) 0) [] [] 0 }, if L.own = 0 then [.data n false false 0 L.home] else [.fwd (L.own - 1) n false 0])
def Li.acked (L : Li) (r : Nat) (wr : Bool) (d : Dt) (i a : List Nat) (g : Nat) : Li × List Mg :=
  match d with
  | .came own keep m x => if m ≤ g then (L.done r wr own keep x, [.free r]) else ({ L with ph := .turn r wr d i a g }, [])
  | _ => ({ L with ph := .turn r wr d i a g }, [])
/-- What comes of a message. -/
def Li.del (c : Nat) (L : Li) : Mg → Li × List Mg
  | .get n wr => match L.ph with
    | .idle => if wr then L.write c n else if L.own = 0 ∧ offs c n L.sh = [] then L.lone n else L.read n
    | _ => ({ L with q := upd L.q n (.nackG wr) }, [.nack n])
  | .put n x => match L.ph with
    | .idle => ({ L with q := upd L.q n .putAck, own := if L.own = n + 1 then 0 else L.own, home := if L.own = n + 1 then x else L.home }, [.putAck n])
    | _ => ({ L with q := upd L.q n .nackP }, [.nack n])
  | .free r => ({ L with ph := .idle }, [])
  | .nack n => match L.q n with
    | .nackG wr => ({ L with q := upd L.q n (.get wr) }, [.get n wr])
    | .nackP => if L.s n < 2 then ({ L with q := upd L.q n .no }, []) else ({ L with q := upd L.q n (.put (L.v n)) }, [.put n (L.v n)])
    | _ => (L, [])
  | .putAck n => ({ L with s := upd L.s n 0, q := upd L.q n .no }, [])
  | .data r own keep m x => match L.ph with
    | .turn _ wr _ i a g => L.acked r wr (.came own keep m x) i a g
    | _ => (L, [])
  | .fwd o r wr m => match L.ph with
    | .turn _ _ _ i a g => ({ L with s := upd L.s o (if wr then 0 else 4), ph := .turn r wr (.data wr false m (L.v o)) i a g }, [.data r wr false m (L.v o)])
    | _ => (L, [])
  | .inv n r => match L.ph with
    | .turn _ wr d i a g => ({ L with s := if L.s n = 1 then upd L.s n 0 else L.s, ph := .turn r wr d (i.erase n) (n :: a) g }, [.ack r])
    | _ => (L, [])
  | .ack r => match L.ph with
    | .turn _ wr d i a g => L.acked r wr d i a.tail (g + 1)
    | _ => (L, [])

/-- What comes of a message, told: it goes on; or Nack is told, or one asks again, and nothing else turns. -/
structure Del (c : Nat) (L : Li) (m : Mg) (L' : Li) (new : List Mg) : Prop where
  goes : Goes c L L' m new
  set : L'.set
  fits : L'.fits c
  less : L'.w c < L.w c ∨ (L'.w c = L.w c ∧ L'.ph = L.ph ∧ ((∃ n, m = .nack n) ∨ L.ph ≠ .idle ∧ ((∃ n wr, m = .get n wr) ∨ ∃ n x, m = .put n x)))
theorem fits_ask {L : Li} {c n : Nat} (h : L.fits c) (hn : n < c) (y : Rq) : ∀ k, c ≤ k → upd L.q n y k = .no := fun k hk => by
  rw [upd_ne _ _ (by omega)]; exact h.q k hk
theorem set_of {L L' : Li} (h : L.set) (hp : L'.ph = L.ph) : L'.set := fun r wr own keep m x i a g e => h r wr own keep m x i a g (hp ▸ e)

/-- Its last message came: the one in turn has the line; or not yet. -/
theorem acked_del {L L1 : Li} {c r : Nat} {m : Mg} {wr : Bool} {d : Dt} {i a : List Nat} {g : Nat} (hg : Goes c L L1 m []) (h1 : L1 = { L with ph := .turn r wr d i a g }) (hf : L.fits c) (hw : L1.w c < L.w c) (hq : L.q = L1.q) : Del c L m (L.acked r wr d i a g).1 (L.acked r wr d i a g).2 := by
  have hp : L1.ph = .turn r wr d i a g := by rw [h1]
  have hno : (∀ own keep n x, d = .came own keep n x → g < n) → Del c L m L1 [] := fun hn =>
    ⟨hg, fun r' wr' own keep n x i' a' g' e => by
      rw [hp] at e
      injection e with _ _ e3 _ _ e6
      rw [← e6]
      exact hn own keep n x e3, ⟨fun k hk => by rw [← hq]; exact hf.q k hk, fun k hk => by rw [h1]; exact hf.sh k hk⟩, .inl hw⟩
  have hyes : ∀ own keep n x, d = .came own keep n x → n ≤ g → Del c L m (L.done r wr own keep x) [.free r] := fun own keep n x hd hn => by
    subst hd
    have hok : Ok (L.done r wr own keep x) ∧ i = [] ∧ a = [] := by
      cases wr with
      | true =>
        obtain ⟨k1, k2, k3⟩ := hg.ok.hasW r n x own keep i a g hp hn
        rw [h1] at k3
        exact ⟨k3, k1, k2⟩
      | false =>
        obtain ⟨k1, k2, k3⟩ := hg.ok.hasR r n x own keep i a g hp
        obtain ⟨_, t2, t3, _⟩ := hg.ok.turnR r _ i a g hp
        subst k1
        rw [h1] at k3
        exact ⟨k3, t2, t3⟩
    obtain ⟨hok, rfl, rfl⟩ := hok
    refine ⟨goes_has hg hp rfl (by rw [h1]; rfl) rfl hok, fun r' wr' own keep n x i' a' g' e => (by cases e), ⟨hf.q, hf.sh⟩, .inl (Nat.lt_trans ?_ hw)⟩
    exact w_turn L1 (L.done r wr own keep x) c (by rw [h1]; rfl) (by rw [hp]; exact less_has)
  unfold Li.acked
  cases d with
  | data own keep n x => rw [← h1]; exact hno (fun _ _ _ _ e => by cases e)
  | fwd o n => rw [← h1]; exact hno (fun _ _ _ _ e => by cases e)
  | came own keep n x =>
    simp only
    by_cases e : n ≤ g
    · rw [if_pos e]; exact hyes own keep n x rfl e
    · rw [if_neg e, ← h1]
      exact hno (fun own' keep' n' x' e2 => by injection e2 with _ _ e2; omega)
theorem busy_ne {L : Li} {c : Nat} (hi : L.ph ≠ .idle) (n : Nat) (wr : Bool) : L.del c (.get n wr) = ({ L with q := upd L.q n (.nackG wr) }, [.nack n]) := by
  unfold Li.del
  cases e : L.ph with
  | idle => exact absurd e hi
  | free r => rfl
  | turn r w d i a g => rfl
theorem busy_put {L : Li} {c : Nat} (hi : L.ph ≠ .idle) (n x : Nat) : L.del c (.put n x) = ({ L with q := upd L.q n .nackP }, [.nack n]) := by
  unfold Li.del
  cases e : L.ph with
  | idle => exact absurd e hi
  | free r => rfl
  | turn r w d i a g => rfl
/-- Whatever is on its way comes. -/
theorem del_ok {L : Li} {c : Nat} (h : Ok L) (hs : L.set) (hf : L.fits c) (hc : c ≤ 4) (m : Mg) (hm : m ∈ L.msgs c) : Del c L m (L.del c m).1 (L.del c m).2 := by
  cases m with
  | get n wr =>
    obtain ⟨hn, hq⟩ := mem_get hm
    by_cases hi : L.ph = .idle
    · have hwr : wr = true → L.del c (.get n wr) = L.write c n := fun e => by subst e; unfold Li.del; rw [hi]; simp
      have hrd : wr = false → L.del c (.get n wr) = if L.own = 0 ∧ offs c n L.sh = [] then L.lone n else L.read n := fun e => by subst e; unfold Li.del; rw [hi]; simp
      have hoff : (offs c n L.sh).length ≤ 3 := by
        have h1 : (offs c n L.sh).length < (List.range c).length := List.length_filter_lt_length_iff_exists.2 ⟨n, List.mem_range.2 hn, by simp⟩
        rw [List.length_range] at h1
        omega
      cases wr with
      | true =>
        rw [hwr rfl]
        have hg := goes_write h c n (offs c n L.sh) hm hi (offs_nodup c n L.sh) (offs_mem hf n)
        refine ⟨hg, fun r wr own keep m x i a g e => ?_, ⟨fits_ask hf hn _, fun k hk => rfl⟩, .inl (w_take L _ c n hn true hq hi rfl ?_)⟩
        · exfalso
          have e : Ph.turn n true (if L.own = 0 then .data true false (offs c n L.sh).length L.home else if L.own = n + 1 then .data true true (offs c n L.sh).length 0 else .fwd (L.own - 1) (offs c n L.sh).length) (offs c n L.sh) [] 0 = .turn r wr (.came own keep m x) i a g := e
          injection e with _ _ e
          split at e
          · cases e
          · split at e <;> cases e
        · show Ph.w (.turn n true _ (offs c n L.sh) [] 0) ≤ 10
          simp only [Ph.w, List.length_nil]
          split
          · simp only [Dt.w]; omega
          · split <;> (simp only [Dt.w]; omega)
      | false =>
        rw [hrd rfl]
        by_cases hl : L.own = 0 ∧ offs c n L.sh = []
        · rw [if_pos hl]
          have hg := goes_lone h c n hm hi hl.1 (fun k hk => by
            cases e : L.sh k with
            | false => rfl
            | true => have := (offs_mem hf n k).2 ⟨hk, e⟩; rw [hl.2] at this; cases this)
          refine ⟨hg, fun r wr own keep m x i a g e => (by injection e with _ _ e; cases e), ⟨fits_ask hf hn _, fun k hk => rfl⟩, .inl (w_take L _ c n hn false hq hi rfl (by simp [Li.lone, Ph.w, Dt.w]))⟩
        · rw [if_neg hl]
          have hg := goes_read h c n hm hi
          refine ⟨hg, fun r wr own keep m x i a g e => ?_, ⟨fits_ask hf hn _, fun k hk => ?_⟩, .inl (w_take L _ c n hn false hq hi rfl ?_)⟩
          · exfalso
            have e : Ph.turn n false (if L.own = 0 then .data false false 0 L.home else .fwd (L.own - 1) 0) [] [] 0 = .turn r wr (.came own keep m x) i a g := e
            injection e with _ _ e
            split at e <;> cases e
          · show upd L.sh n true k = false
            rw [upd_ne _ _ (by omega)]; exact hf.sh k hk
          · show Ph.w (.turn n false _ [] [] 0) ≤ 10
            simp only [Ph.w, List.length_nil]
            split <;> (simp only [Dt.w]; omega)
    · rw [busy_ne hi]
      have hw := w_ask L { L with q := upd L.q n (.nackG wr) } c n hn _ (.nackG wr) hq rfl rfl
      simp only [Rq.w] at hw
      have hw : ({ L with q := upd L.q n (.nackG wr) } : Li).w c = L.w c := by omega
      exact ⟨goes_busy h c n wr hm, set_of hs rfl, ⟨fits_ask hf hn _, hf.sh⟩, .inr ⟨hw, rfl, .inr ⟨hi, .inl ⟨n, wr, rfl⟩⟩⟩⟩
  | put n x =>
    obtain ⟨hn, hq⟩ := mem_put hm
    by_cases hi : L.ph = .idle
    · have e : L.del c (.put n x) = ({ L with q := upd L.q n .putAck, own := if L.own = n + 1 then 0 else L.own, home := if L.own = n + 1 then x else L.home }, [.putAck n]) := by unfold Li.del; rw [hi]
      rw [e]
      exact ⟨goes_put h c n x hm hi, set_of hs rfl, ⟨fits_ask hf hn _, hf.sh⟩, .inl (Goes.less_put c n x hm _ _)⟩
    · rw [busy_put hi]
      have hw := w_ask L { L with q := upd L.q n .nackP } c n hn _ .nackP hq rfl rfl
      simp only [Rq.w] at hw
      have hw : ({ L with q := upd L.q n .nackP } : Li).w c = L.w c := by omega
      exact ⟨goes_putBusy h c n x hm, set_of hs rfl, ⟨fits_ask hf hn _, hf.sh⟩, .inr ⟨hw, rfl, .inr ⟨hi, .inr ⟨n, x, rfl⟩⟩⟩⟩
  | free r =>
    have hp := mem_free hm
    exact ⟨goes_free h c r hm, fun r' wr own keep m x i a g e => (by cases e), ⟨hf.q, hf.sh⟩, .inl (w_turn L { L with ph := .idle } c rfl (by rw [hp]; exact less_free))⟩
  | nack n =>
    obtain ⟨hn, hq⟩ := mem_nack hm
    have hG : ∀ wr, L.q n = .nackG wr → Del c L (.nack n) (L.del c (.nack n)).1 (L.del c (.nack n)).2 := fun wr hq => by
      have e : L.del c (.nack n) = ({ L with q := upd L.q n (.get wr) }, [.get n wr]) := by simp only [Li.del, hq]
      rw [e]
      have hw := w_ask L { L with q := upd L.q n (.get wr) } c n hn _ (.get wr) hq rfl rfl
      simp only [Rq.w] at hw
      have hw : ({ L with q := upd L.q n (.get wr) } : Li).w c = L.w c := by omega
      exact ⟨goes_again h c n wr hn hq, set_of hs rfl, ⟨fits_ask hf hn _, hf.sh⟩, .inr ⟨hw, rfl, .inl ⟨n, rfl⟩⟩⟩
    rcases hq with hq | hq | hq
    · exact hG false hq
    · exact hG true hq
    · by_cases h2 : L.s n < 2
      · have e : L.del c (.nack n) = ({ L with q := upd L.q n .no }, []) := by simp only [Li.del, hq]; rw [if_pos h2]
        rw [e]
        have hw := w_ask L { L with q := upd L.q n .no } c n hn _ .no hq rfl rfl
        simp only [Rq.w] at hw
        have hw : ({ L with q := upd L.q n .no } : Li).w c < L.w c := by omega
        exact ⟨goes_giveUp h c n hn hq, set_of hs rfl, ⟨fits_ask hf hn _, hf.sh⟩, .inl hw⟩
      · have e : L.del c (.nack n) = ({ L with q := upd L.q n (.put (L.v n)) }, [.put n (L.v n)]) := by simp only [Li.del, hq]; rw [if_neg h2]
        rw [e]
        have hw := w_ask L { L with q := upd L.q n (.put (L.v n)) } c n hn _ (.put (L.v n)) hq rfl rfl
        simp only [Rq.w] at hw
        have hw : ({ L with q := upd L.q n (.put (L.v n)) } : Li).w c = L.w c := by omega
        exact ⟨goes_putAgain h c n hn hq (by omega), set_of hs rfl, ⟨fits_ask hf hn _, hf.sh⟩, .inr ⟨hw, rfl, .inl ⟨n, rfl⟩⟩⟩
  | putAck n =>
    obtain ⟨hn, hq⟩ := mem_putAck hm
    exact ⟨goes_putAck h c n hm, set_of hs rfl, ⟨fits_ask hf hn _, hf.sh⟩, .inl (Goes.less_putAck c n hm _)⟩
  | data r own keep m x =>
    obtain ⟨wr, i, a, g, hp⟩ := mem_data hm
    have e : L.del c (.data r own keep m x) = L.acked r wr (.came own keep m x) i a g := by unfold Li.del; rw [hp]
    rw [e]
    exact acked_del (goes_data h c r m x wr own keep i a g hp) rfl hf (w_turn L _ c rfl (by rw [hp]; exact less_data)) rfl
  | fwd o r wr m =>
    obtain ⟨i, a, g, hp⟩ := mem_fwd hm
    have e : L.del c (.fwd o r wr m) = ({ L with s := upd L.s o (if wr then 0 else 4), ph := .turn r wr (.data wr false m (L.v o)) i a g }, [.data r wr false m (L.v o)]) := by unfold Li.del; rw [hp]
    rw [e]
    exact ⟨(goes_fwd h c o r m wr i a g hp).2, fun r' wr' own keep m x i a g e => (by injection e with _ _ e; cases e), ⟨hf.q, hf.sh⟩, .inl (w_turn L _ c rfl (by rw [hp]; exact less_fwd))⟩
  | inv n r =>
    obtain ⟨wr, d, i, a, g, hp, hn⟩ := mem_inv hm
    have hwr : wr = true := by
      cases wr with
      | true => rfl
      | false => have := (h.turnR r d i a g hp).2.1; rw [this] at hn; cases hn
    subst hwr
    have e : L.del c (.inv n r) = ({ L with s := if L.s n = 1 then upd L.s n 0 else L.s, ph := .turn r true d (i.erase n) (n :: a) g }, [.ack r]) := by unfold Li.del; rw [hp]
    rw [e]
    exact ⟨goes_inv h c n r d i a g hp hn, fun r' wr' own keep m x i' a' g' e => (by
      injection e with e1 e2 e3 e4 e5 e6
      rw [← e6]
      exact hs r true own keep m x i a g (by rw [hp, e3])), ⟨hf.q, hf.sh⟩, .inl (w_turn L _ c rfl (by rw [hp]; exact less_inv hn))⟩
  | ack r =>
    obtain ⟨wr, d, i, a, g, hp, ha⟩ := mem_ack hm
    have hwr : wr = true := by
      cases wr with
      | true => rfl
      | false => have := (h.turnR r d i a g hp).2.2.1; exact absurd this ha
    subst hwr
    cases a with
    | nil => exact absurd rfl ha
    | cons k a =>
      have e : L.del c (.ack r) = L.acked r true d i a (g + 1) := by unfold Li.del; rw [hp]; rfl
      rw [e]
      exact acked_del (goes_ack h c r d i a k g hp) rfl hf (w_turn L _ c rfl (by rw [hp]; exact less_ack)) rfl
end Go.Proofs.YtmeomdfmljanhaaGreat.Pr
/- Layer 10's lines together: each line by itself, and all that is on its way in one row; plain values, no program in sight. -/
namespace Go.Proofs.YtmeomdfmljanhaaGreat.Pr
set_option linter.unusedVariables false

/-- Lines, and what is on its way, in order: about which line, and what. -/
structure Sy where
  li : Nat → Li
  M : List (Nat × Mg)
def onLine (k : Nat) (M : List (Nat × Mg)) : List Mg := (M.filter fun x => decide (x.1 = k)).map (·.2)
theorem onLine_app (k : Nat) (M N : List (Nat × Mg)) : onLine k (M ++ N) = onLine k M ++ onLine k N := by
  unfold onLine
  rw [List.filter_append, List.map_append]
theorem onLine_same (k : Nat) (N : List Mg) : onLine k (N.map fun m => (k, m)) = N := by
  unfold onLine
  induction N with
  | nil => rfl
  | cons m N ih => simp only [List.map_cons, List.filter_cons, decide_true, if_true]; rw [ih]
theorem onLine_other {k j : Nat} (h : j ≠ k) (N : List Mg) : onLine k (N.map fun m => (j, m)) = [] := by
  unfold onLine
  induction N with
  | nil => rfl
  | cons m N ih => simp only [List.map_cons, List.filter_cons, decide_eq_false h]; simpa using ih
theorem onLine_cons_same (k : Nat) (m : Mg) (M : List (Nat × Mg)) : onLine k ((k, m) :: M) = m :: onLine k M := by
  unfold onLine
  simp
theorem onLine_cons_other {k j : Nat} (h : j ≠ k) (m : Mg) (M : List (Nat × Mg)) : onLine k ((j, m) :: M) = onLine k M := by
  unfold onLine
  simp [h]
theorem onLine_mem {k : Nat} {m : Mg} {M : List (Nat × Mg)} : m ∈ onLine k M ↔ (k, m) ∈ M := by
  unfold onLine
  rw [List.mem_map]
  refine ⟨fun ⟨x, hx, e⟩ => ?_, fun h => ⟨(k, m), List.mem_filter.2 ⟨h, by simp⟩, rfl⟩⟩
  obtain ⟨h1, h2⟩ := List.mem_filter.1 hx
  have := of_decide_eq_true h2
  obtain ⟨a, b⟩ := x
  simp only at this e
  subst this e
  exact h1
/-- What always holds of the lines together, with c cores and l lines. -/
structure OkS (c l : Nat) (Y : Sy) : Prop where
  ok : ∀ k, k < l → Ok (Y.li k)
  set : ∀ k, k < l → (Y.li k).set
  fits : ∀ k, k < l → (Y.li k).fits c
  perm : ∀ k, k < l → (onLine k Y.M).Perm ((Y.li k).msgs c)
  lines : ∀ x ∈ Y.M, x.1 < l
  one : ∀ n j k, j < l → k < l → (Y.li j).waits n → (Y.li k).waits n → j = k
/-- A message comes: of line k, with M1 ahead of it and M2 behind. -/
def Sy.del (c : Nat) (Y : Sy) (k : Nat) (m : Mg) (M1 M2 : List (Nat × Mg)) : Sy :=
  ⟨upd Y.li k ((Y.li k).del c m).1, M1 ++ M2 ++ ((Y.li k).del c m).2.map fun x => (k, x)⟩
/-- Nobody waits who didn't. -/
theorem waits_ask {L L' : Li} {n k : Nat} {y : Rq} (h : L'.waits k) (hq : L'.q = upd L.q n y) (hp : L'.ph = L.ph) (hn : L.q n ≠ .no) : L.waits k := by
  rcases h with h | ⟨wr, d, i, a, g, h⟩
  · rw [hq] at h
    by_cases e : k = n
    · subst e; exact .inl hn
    · rw [upd_ne _ _ e] at h; exact .inl h
  · rw [hp] at h; exact .inr ⟨wr, d, i, a, g, h⟩
theorem waits_take {L L' : Li} {n k : Nat} {wr : Bool} {d : Dt} {i a : List Nat} {g : Nat} (h : L'.waits k) (hq : L'.q = upd L.q n .no) (hp : L'.ph = .turn n wr d i a g) (hn : L.q n ≠ .no) : L.waits k := by
  rcases h with h | ⟨wr, d, i, a, g, h⟩
  · rw [hq] at h
    by_cases e : k = n
    · subst e; exact .inl hn
    · rw [upd_ne _ _ e] at h; exact .inl h
  · rw [hp] at h
    injection h with h
    subst h
    exact .inl hn
theorem waits_turn {L L' : Li} {r k : Nat} (h : L'.waits k) (hq : L'.q = L.q) (hL : ∃ wr d i a g, L.ph = .turn r wr d i a g) (hp : L'.ph = .free r ∨ L'.ph = .idle ∨ ∃ wr d i a g, L'.ph = .turn r wr d i a g) : L.waits k := by
  rcases h with h | ⟨wr, d, i, a, g, h⟩
  · rw [hq] at h; exact .inl h
  · rcases hp with e | e | ⟨wr', d', i', a', g', e⟩
    · rw [e] at h; cases h
    · rw [e] at h; cases h
    · rw [e] at h
      injection h with h
      subst h
      exact .inr hL
theorem acked_ph (L : Li) (r : Nat) (wr : Bool) (d : Dt) (i a : List Nat) (g : Nat) : (L.acked r wr d i a g).1.q = L.q ∧ ((L.acked r wr d i a g).1.ph = .free r ∨ ∃ wr' d' i' a' g', (L.acked r wr d i a g).1.ph = .turn r wr' d' i' a' g') := by
  have hno : L.acked r wr d i a g = ({ L with ph := .turn r wr d i a g }, []) → (L.acked r wr d i a g).1.q = L.q ∧ ((L.acked r wr d i a g).1.ph = .free r ∨ ∃ wr' d' i' a' g', (L.acked r wr d i a g).1.ph = .turn r wr' d' i' a' g') := fun e => by
    rw [e]; exact ⟨rfl, .inr ⟨wr, d, i, a, g, rfl⟩⟩
  cases d with
  | data own keep n x => exact hno rfl
  | fwd o n => exact hno rfl
  | came own keep n x =>
    by_cases e : n ≤ g
    · have e2 : L.acked r wr (.came own keep n x) i a g = (L.done r wr own keep x, [.free r]) := if_pos e
      rw [e2]; exact ⟨rfl, .inl rfl⟩
    · exact hno (if_neg e)
theorem del_waits {L : Li} {c : Nat} (m : Mg) (hm : m ∈ L.msgs c) (k : Nat) (h : (L.del c m).1.waits k) : L.waits k := by
  cases m with
  | get n wr =>
    obtain ⟨hn, hq⟩ := mem_get hm
    have hne : L.q n ≠ .no := by rw [hq]; exact fun e => by cases e
    by_cases hi : L.ph = .idle
    · cases wr with
      | true =>
        have e : L.del c (.get n true) = L.write c n := by unfold Li.del; rw [hi]; simp
        rw [e] at h
        exact waits_take h rfl rfl hne
      | false =>
        have e : L.del c (.get n false) = if L.own = 0 ∧ offs c n L.sh = [] then L.lone n else L.read n := by unfold Li.del; rw [hi]; simp
        rw [e] at h
        by_cases hl : L.own = 0 ∧ offs c n L.sh = []
        · rw [if_pos hl] at h; exact waits_take h rfl rfl hne
        · rw [if_neg hl] at h; exact waits_take h rfl rfl hne
    · rw [busy_ne hi] at h; exact waits_ask h rfl rfl hne
  | put n x =>
    obtain ⟨hn, hq⟩ := mem_put hm
    have hne : L.q n ≠ .no := by rw [hq]; exact fun e => by cases e
    by_cases hi : L.ph = .idle
    · have e : L.del c (.put n x) = ({ L with q := upd L.q n .putAck, own := if L.own = n + 1 then 0 else L.own, home := if L.own = n + 1 then x else L.home }, [.putAck n]) := by unfold Li.del; rw [hi]
      rw [e] at h
      exact waits_ask h rfl rfl hne
    · rw [busy_put hi] at h; exact waits_ask h rfl rfl hne
  | free r =>
    have hp := mem_free hm
    rcases h with h | ⟨wr, d, i, a, g, h⟩
    · exact .inl h
    · cases h
  | nack n =>
    obtain ⟨hn, hq⟩ := mem_nack hm
    have hne : L.q n ≠ .no := by rcases hq with hq | hq | hq <;> (rw [hq]; exact fun e => by cases e)
    have hG : ∀ wr, L.q n = .nackG wr → L.waits k := fun wr hq => by
      have e : L.del c (.nack n) = ({ L with q := upd L.q n (.get wr) }, [.get n wr]) := by simp only [Li.del, hq]
      rw [e] at h
      exact waits_ask h rfl rfl hne
    rcases hq with hq | hq | hq
    · exact hG false hq
    · exact hG true hq
    · by_cases h2 : L.s n < 2
      · have e : L.del c (.nack n) = ({ L with q := upd L.q n .no }, []) := by simp only [Li.del, hq]; rw [if_pos h2]
        rw [e] at h; exact waits_ask h rfl rfl hne
      · have e : L.del c (.nack n) = ({ L with q := upd L.q n (.put (L.v n)) }, [.put n (L.v n)]) := by simp only [Li.del, hq]; rw [if_neg h2]
        rw [e] at h; exact waits_ask h rfl rfl hne
  | putAck n =>
    obtain ⟨hn, hq⟩ := mem_putAck hm
    exact waits_ask h rfl rfl (by rw [hq]; exact fun e => by cases e)
  | data r own keep m x =>
    obtain ⟨wr, i, a, g, hp⟩ := mem_data hm
    have e : L.del c (.data r own keep m x) = L.acked r wr (.came own keep m x) i a g := by unfold Li.del; rw [hp]
    rw [e] at h
    obtain ⟨k1, k2⟩ := acked_ph L r wr (.came own keep m x) i a g
    exact waits_turn h k1 ⟨_, _, _, _, _, hp⟩ (by rcases k2 with e | e; exact .inl e; exact .inr (.inr e))
  | fwd o r wr m =>
    obtain ⟨i, a, g, hp⟩ := mem_fwd hm
    have e : L.del c (.fwd o r wr m) = ({ L with s := upd L.s o (if wr then 0 else 4), ph := .turn r wr (.data wr false m (L.v o)) i a g }, [.data r wr false m (L.v o)]) := by unfold Li.del; rw [hp]
    rw [e] at h
    exact waits_turn h rfl ⟨_, _, _, _, _, hp⟩ (.inr (.inr ⟨_, _, _, _, _, rfl⟩))
  | inv n r =>
    obtain ⟨wr, d, i, a, g, hp, hn⟩ := mem_inv hm
    have e : L.del c (.inv n r) = ({ L with s := if L.s n = 1 then upd L.s n 0 else L.s, ph := .turn r wr d (i.erase n) (n :: a) g }, [.ack r]) := by unfold Li.del; rw [hp]
    rw [e] at h
    exact waits_turn h rfl ⟨_, _, _, _, _, hp⟩ (.inr (.inr ⟨_, _, _, _, _, rfl⟩))
  | ack r =>
    obtain ⟨wr, d, i, a, g, hp, ha⟩ := mem_ack hm
    have e : L.del c (.ack r) = L.acked r wr d i a.tail (g + 1) := by unfold Li.del; rw [hp]
    rw [e] at h
    obtain ⟨k1, k2⟩ := acked_ph L r wr d i a.tail (g + 1)
    exact waits_turn h k1 ⟨_, _, _, _, _, hp⟩ (by rcases k2 with e | e; exact .inl e; exact .inr (.inr e))
/-- A message comes: what always holds stays. -/
theorem OkS.del {c l : Nat} {Y : Sy} (h : OkS c l Y) (hc : c ≤ 4) (k : Nat) (m : Mg) (M1 M2 : List (Nat × Mg)) (hM : Y.M = M1 ++ (k, m) :: M2) : OkS c l (Y.del c k m M1 M2) ∧ Del c (Y.li k) m ((Y.li k).del c m).1 ((Y.li k).del c m).2 := by
  have hk : k < l := h.lines (k, m) (by rw [hM]; simp)
  have hp := h.perm k hk
  have hm : m ∈ (Y.li k).msgs c := hp.mem_iff.1 (onLine_mem.2 (by rw [hM]; simp))
  have hd := del_ok (h.ok k hk) (h.set k hk) (h.fits k hk) hc m hm
  refine ⟨⟨fun j hj => ?_, fun j hj => ?_, fun j hj => ?_, fun j hj => ?_, fun x hx => ?_, fun n i j hi hj h1 h2 => ?_⟩, hd⟩
  · show Ok (upd Y.li k _ j)
    by_cases e : j = k
    · subst e; rw [upd_same]; exact hd.goes.ok
    · rw [upd_ne _ _ e]; exact h.ok j hj
  · show (upd Y.li k _ j).set
    by_cases e : j = k
    · subst e; rw [upd_same]; exact hd.set
    · rw [upd_ne _ _ e]; exact h.set j hj
  · show (upd Y.li k _ j).fits c
    by_cases e : j = k
    · subst e; rw [upd_same]; exact hd.fits
    · rw [upd_ne _ _ e]; exact h.fits j hj
  · show (onLine j (M1 ++ M2 ++ _)).Perm ((upd Y.li k _ j).msgs c)
    rw [onLine_app, onLine_app]
    by_cases e : j = k
    · subst e
      rw [upd_same, onLine_same]
      rw [hM, onLine_app, onLine_cons_same] at hp
      exact hd.goes.all hp
    · rw [upd_ne _ _ e, onLine_other (fun e2 => e e2.symm), List.append_nil]
      have := h.perm j hj
      rw [hM, onLine_app, onLine_cons_other (fun e2 => e e2.symm)] at this
      exact this
  · rcases List.mem_append.1 hx with hx | hx
    · refine h.lines x ?_
      rw [hM]
      rcases List.mem_append.1 hx with hx | hx
      · exact List.mem_append.2 (.inl hx)
      · exact List.mem_append.2 (.inr (List.mem_cons_of_mem _ hx))
    · obtain ⟨y, _, rfl⟩ := List.mem_map.1 hx
      exact hk
  · have hw : ∀ j, ((Y.del c k m M1 M2).li j).waits n → (Y.li j).waits n := fun j hj => by
      have hj : (upd Y.li k ((Y.li k).del c m).1 j).waits n := hj
      by_cases e : j = k
      · subst e; rw [upd_same] at hj; exact del_waits m hm n hj
      · rw [upd_ne _ _ e] at hj; exact hj
    exact h.one n i j hi hj (hw i h1) (hw j h2)
end Go.Proofs.YtmeomdfmljanhaaGreat.Pr
/- Layer 10's lines together: what a core does of its own; plain values, no program in sight. -/
namespace Go.Proofs.YtmeomdfmljanhaaGreat.Pr
set_option linter.unusedVariables false

/-- Something turns in line k, and new messages go. -/
theorem OkS.act {c l : Nat} {Y : Sy} (h : OkS c l Y) (k n : Nat) (hk : k < l) (L' : Li) (new : List Mg) (hok : Ok L') (hset : L'.set) (hfits : L'.fits c) (hperm : (L'.msgs c).Perm ((Y.li k).msgs c ++ new))
    (hw : ∀ i, L'.waits i → (Y.li k).waits i ∨ (i = n ∧ ∀ j, j < l → ¬ (Y.li j).waits n)) : OkS c l ⟨upd Y.li k L', Y.M ++ new.map fun m => (k, m)⟩ where
  ok := fun j hj => by
    show Ok (upd Y.li k L' j)
    by_cases e : j = k
    · subst e; rw [upd_same]; exact hok
    · rw [upd_ne _ _ e]; exact h.ok j hj
  set := fun j hj => by
    show (upd Y.li k L' j).set
    by_cases e : j = k
    · subst e; rw [upd_same]; exact hset
    · rw [upd_ne _ _ e]; exact h.set j hj
  fits := fun j hj => by
    show (upd Y.li k L' j).fits c
    by_cases e : j = k
    · subst e; rw [upd_same]; exact hfits
    · rw [upd_ne _ _ e]; exact h.fits j hj
  perm := fun j hj => by
    show (onLine j (Y.M ++ _)).Perm ((upd Y.li k L' j).msgs c)
    rw [onLine_app]
    by_cases e : j = k
    · subst e
      rw [upd_same, onLine_same]
      exact ((h.perm j hj).append_right new).trans hperm.symm
    · rw [upd_ne _ _ e, onLine_other (fun e2 => e e2.symm), List.append_nil]
      exact h.perm j hj
  lines := fun x hx => by
    rcases List.mem_append.1 hx with hx | hx
    · exact h.lines x hx
    · obtain ⟨y, _, rfl⟩ := List.mem_map.1 hx
      exact hk
  one := fun i j1 j2 h1 h2 w1 w2 => by
    have v1 : (upd Y.li k L' j1).waits i := w1
    have v2 : (upd Y.li k L' j2).waits i := w2
    clear w1 w2
    by_cases e1 : j1 = k
    · by_cases e2 : j2 = k
      · rw [e1, e2]
      · subst e1
        rw [upd_same] at v1
        rw [upd_ne _ _ e2] at v2
        rcases hw i v1 with c1 | ⟨c1, c2⟩
        · exact h.one i j1 j2 h1 h2 c1 v2
        · subst c1; exact absurd v2 (c2 j2 h2)
    · rw [upd_ne _ _ e1] at v1
      by_cases e2 : j2 = k
      · subst e2
        rw [upd_same] at v2
        rcases hw i v2 with c1 | ⟨c1, c2⟩
        · exact h.one i j1 j2 h1 h2 v1 c1
        · subst c1; exact absurd v1 (c2 j1 h1)
      · rw [upd_ne _ _ e2] at v2
        exact h.one i j1 j2 h1 h2 v1 v2
theorem ask_perm (L : Li) (c n : Nat) (hn : n < c) (y : Rq) (hq : L.q n = .no) : (({ L with q := upd L.q n y } : Li).msgs c).Perm (L.msgs c ++ y.msgs n) := by
  obtain ⟨R, h1, _, h3⟩ := msgs_ask L c n hn .no y hq (L.msgs c) (List.Perm.refl _)
  have h1 : (L.msgs c).Perm R := h1
  exact h3.trans (List.perm_append_comm.trans (h1.symm.append_right _))
theorem no_waits {L : Li} {n : Nat} (h : ¬ L.waits n) : L.q n = .no ∧ ∀ wr d i a g, L.ph ≠ .turn n wr d i a g := by
  refine ⟨Classical.byContradiction fun e => h (.inl e), fun wr d i a g e => h (.inr ⟨_, _, _, _, _, e⟩)⟩
/-- A core that waits for nothing asks for a line. -/
theorem OkS.want {c l : Nat} {Y : Sy} (h : OkS c l Y) (k n : Nat) (wr : Bool) (hk : k < l) (hn : n < c) (hw : ∀ j, j < l → ¬ (Y.li j).waits n) (hs : if wr then (Y.li k).s n ≠ 2 ∧ (Y.li k).s n ≠ 3 else (Y.li k).s n = 0) :
    OkS c l ⟨upd Y.li k { Y.li k with q := upd (Y.li k).q n (.get wr) }, Y.M ++ [(k, .get n wr)]⟩ := by
  obtain ⟨hq, ht⟩ := no_waits (hw k hk)
  refine h.act k n hk { Y.li k with q := upd (Y.li k).q n (.get wr) } [.get n wr] ?_ (set_of (h.set k hk) rfl) ⟨fits_ask (h.fits k hk) hn _, (h.fits k hk).sh⟩ (ask_perm _ c n hn _ hq) (fun i hi => ?_)
  · refine (h.ok k hk).ask n (.get wr) (by rw [hq]; exact fun e => by cases e) (fun e => by cases e) ht (fun e => ?_) (fun e => ?_) (fun y e => by cases e) (fun e => by cases e)
    · cases wr with
      | false => exact hs
      | true => rcases e with e | e <;> cases e
    · cases wr with
      | true => exact hs
      | false => rcases e with e | e <;> cases e
  · by_cases e : i = n
    · exact .inr ⟨e, hw⟩
    · rcases hi with hi | hi
      · have hi : upd (Y.li k).q n (.get wr) i ≠ .no := hi
        rw [upd_ne _ _ e] at hi; exact .inl (.inl hi)
      · exact .inl (.inr hi)
/-- A core that waits for nothing gives back a line that it owns. -/
theorem OkS.evict {c l : Nat} {Y : Sy} (h : OkS c l Y) (k n : Nat) (hk : k < l) (hn : n < c) (hw : ∀ j, j < l → ¬ (Y.li j).waits n) (hs : 2 ≤ (Y.li k).s n) :
    OkS c l ⟨upd Y.li k { Y.li k with q := upd (Y.li k).q n (.put ((Y.li k).v n)) }, Y.M ++ [(k, .put n ((Y.li k).v n))]⟩ := by
  obtain ⟨hq, ht⟩ := no_waits (hw k hk)
  have ho := h.ok k hk
  have htop : (Y.li k).top = some n := by
    rcases ho.high n hs with e | e | e
    · exact e
    · rw [hq] at e; cases e
    · obtain ⟨⟨_, _, _, _, _, _, e | e⟩, _⟩ := e <;> exact absurd e (ht _ _ _ _ _)
  have hsh : (Y.li k).sh n = false := by
    cases e : (Y.li k).sh n with
    | false => rfl
    | true =>
      exfalso
      have h1 := (ho.apart n e).1
      cases hp : (Y.li k).ph with
      | idle => exact h1 ((Li.top_own (fun r wr d i a g e => by rw [hp] at e; cases e) n).1 htop)
      | free r => exact h1 ((Li.top_own (fun r wr d i a g e => by rw [hp] at e; cases e) n).1 htop)
      | turn r wr d i a g =>
        cases wr with
        | true => rw [(ho.turnW r d i a g hp).2.1 n] at e; cases e
        | false =>
          have h2 := htop
          unfold Li.top at h2
          rw [hp] at h2
          simp only at h2
          by_cases h3 : (Y.li k).own = 0 ∨ (Y.li k).own = r + 1
          · rw [if_pos h3] at h2; cases h2
          · rw [if_neg h3] at h2
            injection h2 with h2
            exact h1 (by omega)
  refine h.act k n hk { Y.li k with q := upd (Y.li k).q n (.put ((Y.li k).v n)) } [.put n ((Y.li k).v n)] ?_ (set_of (h.set k hk) rfl) ⟨fits_ask (h.fits k hk) hn _, (h.fits k hk).sh⟩ (ask_perm _ c n hn _ hq) (fun i hi => ?_)
  · exact ho.ask n (.put ((Y.li k).v n)) (by rw [hq]; exact fun e => by cases e) (fun e => by cases e) ht (fun e => by rcases e with e | e <;> cases e) (fun e => by rcases e with e | e <;> cases e) (fun y e => by injection e) (fun _ => ⟨hsh, by omega⟩)
  · by_cases e : i = n
    · exact .inr ⟨e, hw⟩
    · rcases hi with hi | hi
      · have hi : upd (Y.li k).q n (.put ((Y.li k).v n)) i ≠ .no := hi
        rw [upd_ne _ _ e] at hi; exact .inl (.inl hi)
      · exact .inl (.inr hi)
/-- A core that waits for nothing gives back a line that it shares. -/
theorem OkS.leave {c l : Nat} {Y : Sy} (h : OkS c l Y) (k n : Nat) (hk : k < l) (hs : (Y.li k).s n = 1) : OkS c l ⟨upd Y.li k { Y.li k with s := upd (Y.li k).s n 0 }, Y.M⟩ := by
  have := h.act k n hk { Y.li k with s := upd (Y.li k).s n 0 } [] ((h.ok k hk).drop n hs) (set_of (h.set k hk) rfl) ⟨(h.fits k hk).q, (h.fits k hk).sh⟩ (by rw [List.append_nil]; exact List.Perm.refl _) (fun i hi => .inl hi)
  simpa using this
/-- A core sets a word. -/
theorem OkS.setWord {c l : Nat} {Y : Sy} (h : OkS c l Y) (k n w : Nat) (hk : k < l) (hs : (Y.li k).s n = 2 ∨ (Y.li k).s n = 3) (hw : ¬ (Y.li k).waits n) : OkS c l ⟨upd Y.li k { Y.li k with s := upd (Y.li k).s n 3, v := upd (Y.li k).v n w, last := w }, Y.M⟩ := by
  obtain ⟨hq, ht⟩ := no_waits hw
  have := h.act k n hk { Y.li k with s := upd (Y.li k).s n 3, v := upd (Y.li k).v n w, last := w } [] ((h.ok k hk).set n w hs hq ht) (set_of (h.set k hk) rfl) ⟨(h.fits k hk).q, (h.fits k hk).sh⟩ (by rw [List.append_nil]; exact List.Perm.refl _) (fun i hi => .inl hi)
  simpa using this
/-- New lines. -/
theorem OkS.new (c l : Nat) : OkS c l ⟨fun _ => ⟨fun _ => 0, fun _ => 0, fun _ => .no, 0, fun _ => false, 0, 0, .idle⟩, []⟩ where
  ok := fun _ _ => Ok.new
  set := fun _ _ r wr own keep m x i a g e => by cases e
  fits := fun _ _ => ⟨fun _ _ => rfl, fun _ _ => rfl⟩
  perm := fun k _ => by
    have : asks (fun _ => Rq.no) c = [] := by
      unfold asks
      exact List.flatMap_eq_nil_iff.2 fun n _ => rfl
    unfold Li.msgs
    rw [this]
    exact List.Perm.refl _
  lines := fun x hx => by cases hx
  one := fun n j k _ _ h _ => by
    rcases h with h | ⟨_, _, _, _, _, h⟩
    · exact absurd rfl h
    · cases h
end Go.Proofs.YtmeomdfmljanhaaGreat.Pr
