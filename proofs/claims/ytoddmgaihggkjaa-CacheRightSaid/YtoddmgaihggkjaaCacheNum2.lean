/- Plain numbers for layer 8: what is known of a cache by what was put, used and dropped; no program is run here; no condition. -/
import Derived.Test.YtoddmgaihggkjaaCacheNum
namespace Go.Proofs.Ytoddmgaihggkjaa
set_option linter.unusedVariables false
open Go.RowKit

def upd {α : Type} (f : Nat → α) (k : Nat) (v : α) : Nat → α := fun j => if j = k then v else f j
theorem upd_same {α : Type} (f : Nat → α) (k : Nat) (v : α) : upd f k v k = v := if_pos rfl
theorem upd_other {α : Type} (f : Nat → α) (k : Nat) (v : α) (j : Nat) (h : j ≠ k) : upd f k v j = f j := if_neg h
/-- What is known of the lines of one set. -/
structure MdS (l : List Ln) (s n i : Nat) (th : Nat → Bool) (va la : Nat → Nat) : Prop where
  lt : ∀ x ∈ l, 0 ≤ x.addr ∧ x.addr < 256 ∧ x.addr % (n : Int) = (s : Int)
  mem : ∀ k, k < 256 → k % n = s → (th k = true ↔ ∃ x ∈ l, x.addr = (k : Int))
  val : ∀ x ∈ l, x.val = va x.addr.toNat
  tim : ∀ x ∈ l, la x.addr.toNat ≤ i
  ord : ∀ x ∈ l, ∀ y ∈ l, (x.used < y.used ↔ la x.addr.toNat < la y.addr.toNat)
/-- What is known of a cache: which addresses are there, what was put last, and when each was used. -/
structure Md (C : Ch) (n m i : Nat) (th : Nat → Bool) (va la : Nat → Nat) : Prop where
  rt : Rt C
  sn : C.sets = (n : Int)
  wm : C.ways = (m : Int)
  ck : C.clock ≤ (i : Int)
  st : ∀ s, s < n → MdS (C.lines.getD s []) s n i th va la
theorem Md.n1 {C : Ch} {n m i : Nat} {th : Nat → Bool} {va la : Nat → Nat} (h : Md C n m i th va la) : 1 ≤ n := by have := h.rt.n1; have := h.sn; omega
theorem Md.len {C : Ch} {n m i : Nat} {th : Nat → Bool} {va la : Nat → Nat} (h : Md C n m i th va la) : C.lines.length = n := by have := h.rt.len; have := h.sn; omega
theorem Md.no {C : Ch} {n m i : Nat} {th : Nat → Bool} {va la : Nat → Nat} (h : Md C n m i th va la) (a : Nat) : setNo C a = a % n := by
  unfold setNo; rw [h.sn, ← Int.natCast_emod, Int.toNat_natCast]
theorem Md.set {C : Ch} {n m i : Nat} {th : Nat → Bool} {va la : Nat → Nat} (h : Md C n m i th va la) (a : Nat) : MdS (setC C a) (a % n) n i th va la := by
  have := h.st (a % n) (Nat.mod_lt _ h.n1)
  unfold setC; rw [h.no a]; exact this
theorem MdS.other {l : List Ln} {s n i i' : Nat} {th th' : Nat → Bool} {va va' la la' : Nat → Nat} (h : MdS l s n i th va la) (hi : i ≤ i') (ht : ∀ k, k % n = s → th' k = th k) (hv : ∀ k, k % n = s → va' k = va k) (hl : ∀ k, k % n = s → la' k = la k) : MdS l s n i' th' va' la' := by
  have hm : ∀ x ∈ l, x.addr.toNat % n = s := fun x hx => by
    obtain ⟨h0, _, h2⟩ := h.lt x hx
    obtain ⟨a, ha⟩ := Int.eq_ofNat_of_zero_le h0
    rw [ha] at h2 ⊢
    rw [Int.toNat_natCast]
    rw [← Int.natCast_emod] at h2; exact_mod_cast h2
  refine ⟨h.lt, fun k hk e => by rw [ht k e]; exact h.mem k hk e, fun x hx => by rw [hv _ (hm x hx)]; exact h.val x hx, fun x hx => by rw [hl _ (hm x hx)]; exact Nat.le_trans (h.tim x hx) hi, fun x hx y hy => by rw [hl _ (hm x hx), hl _ (hm y hy)]; exact h.ord x hx y hy⟩
/-- A set becomes another one. -/
theorem Md.step {C : Ch} {n m i : Nat} {th th' : Nat → Bool} {va va' la la' : Nat → Nat} (h : Md C n m i th va la) (a : Nat) (k : Int) (l : List Ln) (hr : Rt (withC C a k l)) (hk : k ≤ ((i + 1 : Nat) : Int))
    (ht : ∀ j, j % n ≠ a % n → th' j = th j) (hv : ∀ j, j % n ≠ a % n → va' j = va j) (hl : ∀ j, j % n ≠ a % n → la' j = la j) (hs : MdS l (a % n) n (i + 1) th' va' la') : Md (withC C a k l) n m (i + 1) th' va' la' := by
  refine ⟨hr, h.sn, h.wm, hk, fun s hsn => ?_⟩
  show MdS ((C.lines.set (setNo C a) l).getD s []) s n (i + 1) th' va' la'
  rw [h.no a, getD_set _ _ _ _ _ (by rw [h.len]; exact Nat.mod_lt _ h.n1)]
  by_cases e : s = a % n
  · rw [if_pos e]; rw [e]; exact hs
  · rw [if_neg e]
    exact (h.st s hsn).other (by omega) (fun j hj => ht j (by omega)) (fun j hj => hv j (by omega)) (fun j hj => hl j (by omega))
theorem Md.stay {C : Ch} {n m i : Nat} {th : Nat → Bool} {va la : Nat → Nat} (h : Md C n m i th va la) : Md C n m (i + 1) th va la :=
  ⟨h.rt, h.sn, h.wm, by have := h.ck; omega, fun s hs => (h.st s hs).other (by omega) (fun _ _ => rfl) (fun _ _ => rfl) (fun _ _ => rfl)⟩
theorem Md.at_ {C : Ch} {n m i : Nat} {th : Nat → Bool} {va la : Nat → Nat} (h : Md C n m i th va la) (a : Nat) (ha : a < 256) : th a = true ↔ 0 ≤ atC C a := by
  rw [(h.set a).mem a ha rfl]
  constructor
  · rintro ⟨x, hx, e⟩; exact atC_pos hx e
  · intro e; exact ⟨_, atC_mem e, atC_addr e⟩
theorem Md.can {C : Ch} {n m i : Nat} {th : Nat → Bool} {va la : Nat → Nat} (h : Md C n m i th va la) (a : Nat) (hi : i < 1000) : canC C a = true := by
  rw [canC_iff]
  refine ⟨h.rt, by omega, ?_⟩
  have := h.ck
  unfold clockTop; omega
theorem Md.may {C : Ch} {n m i : Nat} {th : Nat → Bool} {va la : Nat → Nat} (h : Md C n m i th va la) (a : Nat) : mayC C a = true := by
  rw [mayC_iff]; exact ⟨h.rt, by omega⟩
theorem Md.has {C : Ch} {n m i : Nat} {th : Nat → Bool} {va la : Nat → Nat} (h : Md C n m i th va la) (a : Nat) (ha : a < 256) : hasC C a = th a := by
  unfold hasC; rw [h.may a, Bool.true_and]
  have := h.at_ a ha
  cases e : th a with
  | true => exact decide_eq_true (this.1 e)
  | false => exact decide_eq_false (fun e2 => by rw [this.2 e2] at e; cases e)
theorem Md.look {C : Ch} {n m i : Nat} {th : Nat → Bool} {va la : Nat → Nat} (h : Md C n m i th va la) (a : Nat) (ha : a < 256) (e : th a = true) : (lookC C a).val = va a := by
  have h0 := (h.at_ a ha).1 e
  unfold lookC
  rw [h.has a ha, e, if_pos rfl]
  have := (h.set a).val _ (atC_mem h0)
  rw [atC_addr h0] at this
  rwa [Int.toNat_natCast] at this
theorem Md.new {n m : Nat} (hn : 1 ≤ n) (hn8 : n ≤ 8) (hm : 1 ≤ m) (hm8 : m ≤ 8) (va la : Nat → Nat) : Md (newC n m) n m 0 (fun _ => false) va la ∧ newE n m = 0 := by
  have hy : mayS (n : Int) (m : Int) = true := by unfold mayS; exact decide_eq_true ⟨by omega, by omega, by omega, by omega⟩
  have hr := new_right hy
  have e0 : ∀ s : Nat, (List.replicate n ([] : List Ln)).getD s [] = [] := fun s => by
    rw [List.getD_eq_getElem?_getD, List.getElem?_replicate]; split <;> rfl
  have e1 : newC n m = ⟨n, m, 0, List.replicate n []⟩ := by unfold newC; rw [if_pos hy, Int.toNat_natCast]
  refine ⟨⟨hr, by rw [e1], by rw [e1], by rw [e1]; exact Int.le_refl _, fun s _ => ?_⟩, by unfold newE; rw [if_pos hy]⟩
  rw [e1]
  show MdS ((List.replicate n ([] : List Ln)).getD s []) s n 0 (fun _ => false) va la
  rw [e0]
  exact ⟨fun x hx => (by cases hx), fun k _ _ => ⟨fun e => (by cases e), fun ⟨x, hx, _⟩ => (by cases hx)⟩, fun x hx => (by cases hx), fun x hx => (by cases hx), fun x hx => (by cases hx)⟩

/-- A line is put or used: the list's other lines were there. -/
theorem MdS.put {l l' : List Ln} {n i a : Nat} {th th' : Nat → Bool} {va la : Nat → Nat} {v : Nat} {k : Int} (h : MdS l (a % n) n i th va la) (ha : a < 256) (x0 : Ln) (hx0 : x0.addr = (a : Int)) (hv0 : x0.val = v) (hu0 : x0.used = k + 1)
    (hk : ∀ x ∈ l, x.used ≤ k) (h1 : x0 ∈ l') (h2 : ∀ x ∈ l', x = x0 ∨ (x ∈ l ∧ x.addr ≠ (a : Int)))
    (h3 : ∀ j, j < 256 → j % n = a % n → j ≠ a → (th' j = true ↔ ∃ x ∈ l', x.addr = (j : Int))) (h4 : th' a = true) :
    MdS l' (a % n) n (i + 1) th' (upd va a v) (upd la a (i + 1)) := by
  have hne : ∀ x ∈ l, x.addr ≠ (a : Int) → x.addr.toNat ≠ a := fun x hx e e2 => by
    have := (h.lt x hx).1; omega
  have ea : (x0.addr).toNat = a := by rw [hx0, Int.toNat_natCast]
  refine ⟨fun x hx => ?_, fun j hj e => ?_, fun x hx => ?_, fun x hx => ?_, fun x hx y hy => ?_⟩
  · rcases h2 x hx with rfl | ⟨hx, _⟩
    · rw [hx0]; exact ⟨by omega, by omega, (Int.natCast_emod a n).symm⟩
    · exact h.lt x hx
  · by_cases e2 : j = a
    · subst e2
      exact ⟨fun _ => ⟨x0, h1, hx0⟩, fun _ => h4⟩
    · exact h3 j hj e e2
  · rcases h2 x hx with rfl | ⟨hx, e⟩
    · rw [ea, upd_same]; exact hv0
    · rw [upd_other _ _ _ _ (hne x hx e)]; exact h.val x hx
  · rcases h2 x hx with rfl | ⟨hx, e⟩
    · rw [ea, upd_same]; exact Nat.le_refl _
    · rw [upd_other _ _ _ _ (hne x hx e)]; exact Nat.le_succ_of_le (h.tim x hx)
  · rcases h2 x hx with rfl | ⟨hx, e⟩
    · rcases h2 y hy with rfl | ⟨hy, e'⟩
      · exact ⟨fun e => absurd e (Int.lt_irrefl _), fun e => absurd e (Nat.lt_irrefl _)⟩
      · rw [ea, upd_same, upd_other _ _ _ _ (hne y hy e')]
        have h5 := hk y hy
        have h6 := h.tim y hy
        constructor <;> intro <;> omega
    · rcases h2 y hy with rfl | ⟨hy, e'⟩
      · rw [ea, upd_same, upd_other _ _ _ _ (hne x hx e)]
        have h5 := hk x hx
        have h6 := h.tim x hx
        constructor <;> intro <;> omega
      · rw [upd_other _ _ _ _ (hne x hx e), upd_other _ _ _ _ (hne y hy e')]; exact h.ord x hx y hy
theorem mem_set_iff {l : List Ln} {k : Nat} (hk : k < l.length) (x y : Ln) (h : y ∈ l.set k x) : y = x ∨ ∃ j, j < l.length ∧ j ≠ k ∧ l.getD j zL = y := by
  obtain ⟨j, hj, e⟩ := mem_idx _ zL y h
  rw [List.length_set] at hj
  rw [getD_set _ _ _ _ _ hk] at e
  by_cases h1 : j = k
  · rw [if_pos h1] at e; exact .inl e.symm
  · rw [if_neg h1] at e; exact .inr ⟨j, hj, h1, e⟩
theorem set_mem {l : List Ln} {k j : Nat} (hk : k < l.length) (hj : j < l.length) (hne : j ≠ k) (x : Ln) : l.getD j zL ∈ l.set k x := by
  have := mem_getD (l.set k x) zL j (by rw [List.length_set]; exact hj)
  rwa [getD_set _ _ _ _ _ hk, if_neg hne] at this
/-- What becomes of a set of which a line that is there is put or used. -/
theorem Md.re {C : Ch} {n m i : Nat} {th : Nat → Bool} {va la : Nat → Nat} (h : Md C n m i th va la) (a : Nat) (ha : a < 256) (hat : 0 ≤ atC C a) (hi : i < 1000) (s v : Nat) (x0 : Ln) (hx0 : x0.addr = (a : Int)) (hv0 : x0.val = v) (hu0 : x0.used = C.clock + 1) (h1 : 1 ≤ x0.state) (h4 : x0.state ≤ 4) :
    Md (withC C a (C.clock + 1) ((setC C a).set (atC C a).toNat x0)) n m (i + 1) (upd th a true) (upd va a v) (upd la a (i + 1)) := by
  have hck := h.ck
  have hlt := atC_lt hat
  have hap := h.rt.apart a
  refine h.step a _ _ (put_set h.rt hat (by unfold clockTop; omega) x0 hx0 h1 h4 hu0 (by omega)) (by omega) (fun j hj => upd_other _ _ _ _ (by rintro rfl; exact hj rfl)) (fun j hj => upd_other _ _ _ _ (by rintro rfl; exact hj rfl)) (fun j hj => upd_other _ _ _ _ (by rintro rfl; exact hj rfl)) ?_
  refine (h.set a).put ha x0 hx0 hv0 hu0 (fun x hx => (h.rt.line a x hx).uk) ?_ (fun y hy => ?_) (fun j hj e hne => ?_) (upd_same _ _ _)
  · have := mem_getD ((setC C a).set (atC C a).toNat x0) zL (atC C a).toNat (by rw [List.length_set]; exact hlt)
    rwa [getD_set _ _ _ _ _ hlt, if_pos rfl] at this
  · rcases mem_set_iff hlt x0 y hy with e | ⟨j, hj, hne, e⟩
    · exact .inl e
    · refine .inr ⟨by rw [← e]; exact mem_getD _ _ _ hj, fun e2 => ?_⟩
      have := (apart_getD hap j _ hj hlt hne).1
      have e3 := atC_addr hat
      unfold lineAt at e3
      rw [e3, e] at this
      exact this e2
  · rw [upd_other _ _ _ _ hne, (h.set a).mem j hj e]
    constructor
    · rintro ⟨x, hx, ex⟩
      obtain ⟨t, ht, et⟩ := mem_idx _ zL x hx
      have hta : t ≠ (atC C a).toNat := by
        rintro rfl
        have e3 := atC_addr hat
        unfold lineAt at e3
        rw [et, ex] at e3
        exact hne (by exact_mod_cast e3)
      exact ⟨x, by rw [← et]; exact set_mem hlt ht hta x0, ex⟩
    · rintro ⟨x, hx, ex⟩
      rcases mem_set_iff hlt x0 x hx with e2 | ⟨t, ht, _, e2⟩
      · rw [e2, hx0] at ex; exact absurd (by exact_mod_cast ex.symm) hne
      · exact ⟨x, by rw [← e2]; exact mem_getD _ _ _ ht, ex⟩
/-- What becomes of a set in which a line is new; of the rest, some of the lines stay. -/
theorem Md.more {C : Ch} {n m i : Nat} {th th' : Nat → Bool} {va la : Nat → Nat} (h : Md C n m i th va la) (a : Nat) (ha : a < 256) (hat : ¬ 0 ≤ atC C a) (hi : i < 1000) (l : List Ln) (hl : ∀ x ∈ l, x ∈ setC C a) (hp : l.Pairwise Two) (hn : (l.length : Int) < C.ways)
    (s : Int) (v : Nat) (h1 : 1 ≤ s) (h4 : s ≤ 4) (ht : ∀ j, j % n ≠ a % n → th' j = th j) (hm : ∀ j, j < 256 → j % n = a % n → j ≠ a → (th' j = true ↔ ∃ x ∈ l, x.addr = (j : Int))) (ht' : th' a = true) :
    Md (withC C a (C.clock + 1) (l ++ [⟨a, s, v, C.clock + 1⟩])) n m (i + 1) th' (upd va a v) (upd la a (i + 1)) := by
  have hck := h.ck
  refine h.step a _ _ (put_more h.rt l hl hp hn hat (by unfold clockTop; omega) _ rfl h1 h4 rfl (by omega)) (by omega) ht (fun j hj => upd_other _ _ _ _ (by rintro rfl; exact hj rfl)) (fun j hj => upd_other _ _ _ _ (by rintro rfl; exact hj rfl)) ?_
  refine (h.set a).put ha ⟨a, s, v, C.clock + 1⟩ rfl rfl rfl (fun x hx => (h.rt.line a x hx).uk) (List.mem_append.2 (.inr (List.mem_singleton.2 rfl))) (fun y hy => ?_) (fun j hj e hne => ?_) ht'
  · rcases List.mem_append.1 hy with hy | hy
    · exact .inr ⟨hl y hy, atC_neg.1 hat y (hl y hy)⟩
    · exact .inl (List.mem_singleton.1 hy)
  · rw [hm j hj e hne]
    constructor
    · rintro ⟨x, hx, ex⟩; exact ⟨x, List.mem_append.2 (.inl hx), ex⟩
    · rintro ⟨x, hx, ex⟩
      rcases List.mem_append.1 hx with hx | hx
      · exact ⟨x, hx, ex⟩
      · obtain rfl := List.mem_singleton.1 hx
        have e9 : (a : Int) = (j : Int) := ex
        exact absurd (by omega) hne
theorem okP_of {C : Ch} {a s : Int} (h : canC C a = true) (h1 : 1 ≤ s) (h4 : s ≤ 4) : okP C a s = true := by
  unfold okP; rw [h, Bool.true_and]; exact decide_eq_true ⟨h1, h4⟩
/-- What is put where there is a line of that address, or where there is room: nothing goes. -/
theorem Md.put {C : Ch} {n m i : Nat} {th : Nat → Bool} {va la : Nat → Nat} (h : Md C n m i th va la) (a : Nat) (ha : a < 256) (hi : i < 1000) (s : Int) (v : Nat) (h1 : 1 ≤ s) (h4 : s ≤ 4) (hr : th a = true ∨ (setC C a).length ≠ m) :
    putE C a s = 0 ∧ putO C a s = zL ∧ Md (putC C a s v) n m (i + 1) (upd th a true) (upd va a v) (upd la a (i + 1)) := by
  have hok := okP_of (h.can a hi) h1 h4
  have hw := h.rt.len_le a
  have hwm := h.wm
  refine ⟨by unfold putE; rw [if_pos hok], ?_, ?_⟩
  · unfold putO
    rw [hok, Bool.true_and, if_neg]
    intro e
    rw [Bool.and_eq_true, decide_eq_true_eq] at e
    have hf := e.2
    unfold fullC at hf
    have hf := of_decide_eq_true hf
    rcases hr with hr | hr
    · have := (h.at_ a ha).1 hr; omega
    · exact hr (by omega)
  · unfold putC
    rw [if_pos hok]
    unfold putL
    by_cases hat : 0 ≤ atC C a
    · rw [if_pos hat]
      exact h.re a ha hat hi 0 v _ rfl rfl rfl h1 h4
    · rw [if_neg hat]
      have hno : th a ≠ true := fun e => hat ((h.at_ a ha).1 e)
      have hlen : (setC C a).length ≠ m := hr.resolve_left hno
      have hf : fullC C a = false := by unfold fullC; exact decide_eq_false (fun e => hlen (by omega))
      rw [hf, if_neg (by decide)]
      exact h.more a ha hat hi _ (fun x hx => hx) (h.rt.apart a) (by omega) s v h1 h4 (fun j hj => upd_other _ _ _ _ (by rintro rfl; exact hj rfl)) (fun j hj e hne => by rw [upd_other _ _ _ _ hne]; exact (h.set a).mem j hj e) (upd_same _ _ _)
/-- What is put where there is none of that address, and no room: the line that wasn't used longest goes. -/
theorem Md.push {C : Ch} {n m i : Nat} {th : Nat → Bool} {va la : Nat → Nat} (h : Md C n m i th va la) (a : Nat) (ha : a < 256) (hi : i < 1000) (s : Int) (v : Nat) (h1 : 1 ≤ s) (h4 : s ≤ 4) (hno : th a = false) (hfull : (setC C a).length = m) :
    putE C a s = 0 ∧ ∃ k, k < 256 ∧ k % n = a % n ∧ k ≠ a ∧ th k = true ∧ (putO C a s).addr = (k : Int) ∧ 1 ≤ (putO C a s).state ∧ (putO C a s).val = va k ∧ (∀ o, o < 256 → o % n = a % n → th o = true → ¬ la o < la k) ∧
      Md (putC C a s v) n m (i + 1) (upd (upd th k false) a true) (upd va a v) (upd la a (i + 1)) := by
  have hok := okP_of (h.can a hi) h1 h4
  have hw := h.rt.len_le a
  have hwm := h.wm
  have hm1 := h.rt.m1
  have hat : ¬ 0 ≤ atC C a := fun e => by rw [(h.at_ a ha).2 e] at hno; cases hno
  have hf : fullC C a = true := by unfold fullC; exact decide_eq_true (by omega)
  have hlt := outN_lt (l := setC C a) (by omega)
  have hO : putO C a s = (setC C a).getD (outN (setC C a)) zL := by
    unfold putO
    rw [hok, hf, Bool.true_and, Bool.and_true, if_pos (decide_eq_true (by omega))]
  obtain ⟨z, hz⟩ : ∃ z, z = (setC C a).getD (outN (setC C a)) zL := ⟨_, rfl⟩
  rw [hO, ← hz]
  have hzm : z ∈ setC C a := by rw [hz]; exact mem_getD _ _ _ hlt
  obtain ⟨hz0, hz1, hz2⟩ := (h.set a).lt z hzm
  obtain ⟨k, hk⟩ := Int.eq_ofNat_of_zero_le hz0
  have hkm : k % n = a % n := by rw [hk, ← Int.natCast_emod] at hz2; exact_mod_cast hz2
  have hka : k ≠ a := fun e => atC_neg.1 hat z hzm (by rw [hk, e])
  have htk : th k = true := ((h.set a).mem k (by omega) hkm).2 ⟨z, hzm, hk⟩
  have hval := (h.set a).val z hzm
  rw [hk, Int.toNat_natCast] at hval
  refine ⟨by unfold putE; rw [if_pos hok], k, by omega, hkm, hka, htk, hk, (h.rt.line a z hzm).s1, hval, fun o ho hom hto hlo => ?_, ?_⟩
  · obtain ⟨y, hy, ey⟩ := ((h.set a).mem o ho hom).1 hto
    have h5 := outN_le (setC C a) y hy
    rw [← hz] at h5
    have h6 := ((h.set a).ord y hy z hzm).2 (by rw [ey, hk, Int.toNat_natCast, Int.toNat_natCast]; exact hlo)
    omega
  · unfold putC
    rw [if_pos hok]
    unfold putL
    rw [if_neg hat, hf, if_pos rfl]
    have hap := h.rt.apart a
    refine h.more a ha hat hi _ (fun x hx => List.mem_of_mem_eraseIdx hx) (hap.sublist (List.eraseIdx_sublist _ _)) (by rw [List.length_eraseIdx_of_lt hlt]; omega) s v h1 h4 (fun j hj => ?_) (fun j hj e hne => ?_) (upd_same _ _ _)
    · rw [upd_other _ _ _ _ (by rintro rfl; exact hj rfl), upd_other _ _ _ _ (by rintro rfl; exact hj hkm)]
    · rw [upd_other _ _ _ _ hne]
      by_cases hjk : j = k
      · rw [hjk, upd_same]
        refine ⟨fun e => (by cases e), fun ⟨x, hx, ex⟩ => ?_⟩
        exfalso
        obtain ⟨t, ht, hne2, et⟩ := List.mem_eraseIdx_iff_getElem.1 hx |>.imp fun t h => h
        have := (apart_getD hap t _ ht hlt hne2).1
        rw [← hz, hk] at this
        apply this
        have e5 : (setC C a).getD t zL = x := by rw [List.getD_eq_getElem?_getD, List.getElem?_eq_getElem ht]; exact et
        rw [e5]; exact ex
      · rw [upd_other _ _ _ _ hjk, (h.set a).mem j hj e]
        constructor
        · rintro ⟨x, hx, ex⟩
          refine ⟨x, ?_, ex⟩
          obtain ⟨t, ht, et⟩ := List.getElem_of_mem hx
          refine List.mem_eraseIdx_iff_getElem.2 ⟨t, ht, fun e3 => hjk ?_, et⟩
          have : x = z := by rw [hz, ← et, ← e3, List.getD_eq_getElem?_getD, List.getElem?_eq_getElem ht]; rfl
          rw [this, hk] at ex
          exact_mod_cast ex.symm
        · rintro ⟨x, hx, ex⟩; exact ⟨x, List.mem_of_mem_eraseIdx hx, ex⟩
theorem Md.use {C : Ch} {n m i : Nat} {th : Nat → Bool} {va la : Nat → Nat} (h : Md C n m i th va la) (a : Nat) (ha : a < 256) (hi : i < 1000) :
    (th a = true → useE C a = 0 ∧ Md (useC C a) n m (i + 1) th va (upd la a (i + 1))) ∧ (th a = false → useE C a = 7 ∧ useC C a = C) := by
  have hc := h.can a hi
  refine ⟨fun e => ?_, fun e => ?_⟩
  · have hat := (h.at_ a ha).1 e
    refine ⟨by unfold useE; rw [if_pos hc, if_pos hat], ?_⟩
    have hx := atC_mem hat
    have hl := h.rt.line a _ hx
    have := h.re a ha hat hi 0 (lineAt C a).val (usedL (lineAt C a) (C.clock + 1)) (atC_addr hat) rfl rfl hl.s1 hl.s4
    have e1 : upd th a true = th := by funext j; unfold upd; split <;> simp_all
    have e2 : upd va a (lineAt C a).val = va := by
      funext j; unfold upd
      split
      · next e => have := (h.set a).val _ hx; rw [atC_addr hat, Int.toNat_natCast] at this; rw [e, this]
      · rfl
    rw [e1, e2] at this
    unfold useC
    rw [hc, Bool.true_and, if_pos (decide_eq_true hat)]
    exact this
  · have hat : ¬ 0 ≤ atC C a := fun e2 => by rw [(h.at_ a ha).2 e2] at e; cases e
    refine ⟨by unfold useE; rw [if_pos hc, if_neg hat], ?_⟩
    unfold useC
    rw [hc, Bool.true_and, if_neg (by rw [decide_eq_true_eq]; exact hat)]
theorem Md.drop {C : Ch} {n m i : Nat} {th : Nat → Bool} {va la : Nat → Nat} (h : Md C n m i th va la) (a : Nat) (ha : a < 256) :
    dropE C a = (if th a then 0 else 7) ∧ Md (dropC C a) n m (i + 1) (upd th a false) va la := by
  have hmay := h.may a
  have hiff := h.at_ a ha
  cases e : th a with
  | true =>
    have hat := hiff.1 e
    have hlt := atC_lt hat
    have hap := h.rt.apart a
    have hck := h.ck
    have hz : (setC C a).getD (atC C a).toNat zL = lineAt C a := rfl
    refine ⟨by unfold dropE; rw [if_pos hmay, if_pos hat]; rfl, ?_⟩
    have hd : dropC C a = withC C a C.clock ((setC C a).eraseIdx (atC C a).toNat) := by unfold dropC hasC; rw [hmay, Bool.true_and, if_pos (decide_eq_true hat)]
    have hr := drop_right h.rt a
    rw [hd] at hr ⊢
    refine h.step a _ _ hr (by omega) (fun j hj => upd_other _ _ _ _ (by rintro rfl; exact hj rfl)) (fun _ _ => rfl) (fun _ _ => rfl) ?_
    have hs := h.set a
    have hsub : ∀ x ∈ (setC C a).eraseIdx (atC C a).toNat, x ∈ setC C a := fun x hx => List.mem_of_mem_eraseIdx hx
    refine ⟨fun x hx => hs.lt x (hsub x hx), fun j hj ej => ?_, fun x hx => hs.val x (hsub x hx), fun x hx => Nat.le_succ_of_le (hs.tim x (hsub x hx)), fun x hx y hy => hs.ord x (hsub x hx) y (hsub y hy)⟩
    by_cases hja : j = a
    · rw [hja, upd_same]
      refine ⟨fun e => (by cases e), fun ⟨x, hx, ex⟩ => ?_⟩
      exfalso
      obtain ⟨t, ht, hne2, et⟩ := List.mem_eraseIdx_iff_getElem.1 hx |>.imp fun t h => h
      have := (apart_getD hap t _ ht hlt hne2).1
      rw [hz, atC_addr hat] at this
      apply this
      have e5 : (setC C a).getD t zL = x := by rw [List.getD_eq_getElem?_getD, List.getElem?_eq_getElem ht]; exact et
      rw [e5]; exact ex
    · rw [upd_other _ _ _ _ hja, hs.mem j hj ej]
      constructor
      · rintro ⟨x, hx, ex⟩
        refine ⟨x, ?_, ex⟩
        obtain ⟨t, ht, et⟩ := List.getElem_of_mem hx
        refine List.mem_eraseIdx_iff_getElem.2 ⟨t, ht, fun e3 => hja ?_, et⟩
        have : x = lineAt C a := by rw [← hz, ← et, ← e3, List.getD_eq_getElem?_getD, List.getElem?_eq_getElem ht]; rfl
        rw [this, atC_addr hat] at ex
        exact_mod_cast ex.symm
      · rintro ⟨x, hx, ex⟩; exact ⟨x, hsub x hx, ex⟩
  | false =>
    have hat : ¬ 0 ≤ atC C a := fun e2 => by rw [hiff.2 e2] at e; cases e
    refine ⟨by unfold dropE; rw [if_pos hmay, if_neg hat]; rfl, ?_⟩
    have hd : dropC C a = C := by unfold dropC hasC; rw [hmay, Bool.true_and, if_neg (by rw [decide_eq_true_eq]; exact hat)]
    have e1 : upd th a false = th := by funext j; unfold upd; split <;> simp_all
    rw [hd, e1]
    exact h.stay

/-- How many of the first t places of a set are there. -/
def cntK (th : Nat → Bool) (n r t : Nat) : Nat := ((List.range t).filter fun j => th (r + j * n)).length
theorem cntK_zero (th : Nat → Bool) (n r : Nat) : cntK th n r 0 = 0 := rfl
theorem cntK_succ (th : Nat → Bool) (n r t : Nat) : cntK th n r (t + 1) = if th (r + t * n) then cntK th n r t + 1 else cntK th n r t := by
  unfold cntK
  rw [List.range_succ, List.filter_append, List.length_append]
  cases e : th (r + t * n) with
  | true => simp [e]
  | false => simp [e]
theorem cntK_le (th : Nat → Bool) (n r t : Nat) : cntK th n r t ≤ t := by
  unfold cntK
  have := List.length_filter_le (fun j => th (r + j * n)) (List.range t)
  rwa [List.length_range] at this
theorem nodup_map {α β : Type} {f : α → β} {l : List α} (h : l.Pairwise fun x y => f x ≠ f y) : (l.map f).Nodup := by
  rw [List.nodup_iff_pairwise_ne, List.pairwise_map]; exact h
theorem addr_ne {l : List Ln} (h : l.Pairwise Two) (h0 : ∀ x ∈ l, 0 ≤ x.addr) : (l.map fun x => x.addr.toNat).Nodup := by
  refine nodup_map ?_
  refine List.Pairwise.imp_of_mem ?_ h
  intro x y hx hy h1 e
  have := h0 x hx
  have := h0 y hy
  exact h1.1 (by omega)
theorem Md.count {C : Ch} {n m i : Nat} {th : Nat → Bool} {va la : Nat → Nat} (h : Md C n m i th va la) (a t : Nat) (h1 : ∀ j, j < t → a % n + j * n < 256) (h2 : 256 ≤ a % n + t * n) : cntK th n (a % n) t = (setC C a).length := by
  have hn := h.n1
  have hs := h.set a
  have e1 : cntK th n (a % n) t = (((List.range t).filter fun j => th (a % n + j * n)).map fun j => a % n + j * n).length := by rw [List.length_map]; rfl
  have e2 : (setC C a).length = ((setC C a).map fun x => x.addr.toNat).length := by rw [List.length_map]
  rw [e1, e2]
  apply List.Perm.length_eq
  rw [List.perm_ext_iff_of_nodup]
  · intro k
    simp only [List.mem_map, List.mem_filter, List.mem_range]
    constructor
    · rintro ⟨j, ⟨hj, ht⟩, rfl⟩
      have hlt := h1 j hj
      obtain ⟨x, hx, ex⟩ := (hs.mem (a % n + j * n) hlt (by rw [Nat.add_mul_mod_self_right, Nat.mod_mod])).1 ht
      exact ⟨x, hx, by rw [ex, Int.toNat_natCast]⟩
    · rintro ⟨x, hx, rfl⟩
      obtain ⟨h3, h4, h5⟩ := hs.lt x hx
      obtain ⟨k, hk⟩ := Int.eq_ofNat_of_zero_le h3
      rw [hk, Int.toNat_natCast]
      have hkm : k % n = a % n := by rw [hk, ← Int.natCast_emod] at h5; exact_mod_cast h5
      have hdm := Nat.mod_add_div k n
      rw [Nat.mul_comm n] at hdm
      refine ⟨k / n, ⟨?_, ?_⟩, by omega⟩
      · refine Nat.lt_of_not_le fun hle => ?_
        have := Nat.mul_le_mul_right n hle
        omega
      · have : a % n + k / n * n = k := by omega
        rw [this]
        exact (hs.mem k (by omega) hkm).2 ⟨x, hx, hk⟩
  · refine nodup_map ?_
    refine List.Pairwise.imp (R := fun x y : Nat => x ≠ y) (S := fun x y : Nat => a % n + x * n ≠ a % n + y * n) ?_ ((List.nodup_iff_pairwise_ne.1 List.nodup_range).filter _)
    intro x y hxy e
    exact hxy (Nat.eq_of_mul_eq_mul_right (by omega) (Nat.add_left_cancel e))
  · exact addr_ne (h.rt.apart a) (fun x hx => (hs.lt x hx).1)
def cntA (th : Nat → Bool) (t : Nat) : Nat := ((List.range t).filter th).length
theorem cntA_zero (th : Nat → Bool) : cntA th 0 = 0 := rfl
theorem cntA_succ (th : Nat → Bool) (t : Nat) : cntA th (t + 1) = if th t then cntA th t + 1 else cntA th t := by
  unfold cntA
  rw [List.range_succ, List.filter_append, List.length_append]
  cases e : th t with
  | true => simp [e]
  | false => simp [e]
theorem cntA_le (th : Nat → Bool) (t : Nat) : cntA th t ≤ t := by
  unfold cntA
  have := List.length_filter_le th (List.range t)
  rwa [List.length_range] at this
theorem mem_flat {L : List (List Ln)} {x : Ln} : x ∈ L.flatten ↔ ∃ s, s < L.length ∧ x ∈ L.getD s [] := by
  rw [List.mem_flatten]
  constructor
  · rintro ⟨l, hl, hx⟩
    obtain ⟨s, hs, rfl⟩ := mem_idx L [] l hl
    exact ⟨s, hs, hx⟩
  · rintro ⟨s, hs, hx⟩
    exact ⟨_, mem_getD L [] s hs, hx⟩
theorem Md.all {C : Ch} {n m i : Nat} {th : Nat → Bool} {va la : Nat → Nat} (h : Md C n m i th va la) : (allC C).length = cntA th 256 := by
  unfold allC
  rw [if_pos h.rt.b, sortA_len]
  have e2 : C.lines.flatten.length = (C.lines.flatten.map fun x => x.addr.toNat).length := by rw [List.length_map]
  rw [e2]
  unfold cntA
  have hm : ∀ x ∈ C.lines.flatten, ∃ k : Nat, x.addr = (k : Int) ∧ k < 256 ∧ x ∈ C.lines.getD (k % n) [] := fun x hx => by
    obtain ⟨s, hs, hx⟩ := mem_flat.1 hx
    rw [h.len] at hs
    obtain ⟨h1, h2, h3⟩ := (h.st s hs).lt x hx
    obtain ⟨k, hk⟩ := Int.eq_ofNat_of_zero_le h1
    have hkm : k % n = s := by rw [hk, ← Int.natCast_emod] at h3; exact_mod_cast h3
    exact ⟨k, hk, by omega, by rw [hkm]; exact hx⟩
  apply List.Perm.length_eq
  rw [List.perm_ext_iff_of_nodup]
  · intro k
    simp only [List.mem_map, List.mem_filter, List.mem_range]
    constructor
    · rintro ⟨x, hx, rfl⟩
      obtain ⟨k, hk, hlt, hx⟩ := hm x hx
      rw [hk, Int.toNat_natCast]
      exact ⟨hlt, ((h.st (k % n) (Nat.mod_lt _ h.n1)).mem k hlt rfl).2 ⟨x, hx, hk⟩⟩
    · rintro ⟨hlt, ht⟩
      obtain ⟨x, hx, ex⟩ := ((h.st (k % n) (Nat.mod_lt _ h.n1)).mem k hlt rfl).1 ht
      exact ⟨x, mem_flat.2 ⟨k % n, by rw [h.len]; exact Nat.mod_lt _ h.n1, hx⟩, by rw [ex, Int.toNat_natCast]⟩
  · exact addr_ne h.rt.ap (fun x hx => by obtain ⟨k, hk, _⟩ := hm x hx; omega)
  · exact (List.nodup_iff_pairwise_ne.2 ((List.nodup_iff_pairwise_ne.1 List.nodup_range).filter _))
end Go.Proofs.Ytoddmgaihggkjaa
