/- What is put, in plain numbers; what withRoom answers in whatever case; no condition. -/
import Derived.Test.YtoddmgaihggkjaaCacheY
namespace Go.Proofs.Ytoddmgaihggkjaa
set_option linter.unusedVariables false
open Go.ChangeShapes Go.WideShapes Go.ChangeAt Go.RowKit Go.Maps Go.Shelf

theorem okP_iff {C : Ch} {a s : Int} : okP C a s = true ↔ mayC C a = true ∧ C.clock ≠ clockTop ∧ stB s = true := by
  unfold okP
  rw [Bool.and_eq_true, canC_iff, mayC_iff, decide_eq_true_eq, stB_iff]
  exact ⟨fun ⟨⟨h1, h2, h3⟩, h4⟩ => ⟨⟨h1, h2⟩, by omega, h4⟩, fun ⟨⟨h1, h2⟩, h3, h4⟩ => ⟨⟨h1, h2, by have := h1.kt; omega⟩, h4⟩⟩
theorem put_bad {C : Ch} {a s : Int} {v : Nat} (h : okP C a s = false) : putC C a s v = C ∧ putO C a s = zL ∧ putE C a s = 1 := by
  unfold putC putO putE
  rw [h]
  exact ⟨rfl, rfl, rfl⟩
theorem drop_one {C : Ch} {a : Int} : dropE C a = 1 ↔ mayC C a = false := by
  unfold dropE
  cases mayC C a with
  | false => exact ⟨fun _ => rfl, fun _ => rfl⟩
  | true =>
    rw [if_pos rfl]
    by_cases h : 0 ≤ atC C a
    · rw [if_pos h]; exact ⟨fun e => by omega, fun e => by cases e⟩
    · rw [if_neg h]; exact ⟨fun e => by omega, fun e => by cases e⟩
theorem put_old {C : Ch} {a s : Int} {v : Nat} (h : okP C a s = true) (hh : hasC C a = true) : putC C a s v = withC C a (C.clock + 1) ((setC C a).set (atC C a).toNat ⟨a, s, v, C.clock + 1⟩) ∧ putO C a s = zL ∧ putE C a s = 0 := by
  have ha := (has_iff.1 hh).2
  unfold putC putO putE putL
  rw [h, if_pos ha, decide_eq_false (by omega : ¬ atC C a < 0)]
  exact ⟨rfl, rfl, rfl⟩
def roomL (l : List Ln) (m : Int) : List Ln := if (l.length : Int) < m then l else l.eraseIdx (outN l)
def roomO (l : List Ln) (m : Int) : Ln := if (l.length : Int) < m then zL else l.getD (outN l) zL
theorem put_new {C : Ch} {a s : Int} {v : Nat} (h : okP C a s = true) (hh : hasC C a = false) : putC C a s v = withC C a (C.clock + 1) (roomL (setC C a) C.ways ++ [⟨a, s, v, C.clock + 1⟩]) ∧ putO C a s = roomO (setC C a) C.ways ∧ putE C a s = 0 := by
  have hm := (okP_iff.1 h).1
  have hr := (mayC_iff.1 hm).1
  have ha : ¬ 0 ≤ atC C a := fun e => by unfold hasC at hh; rw [hm, decide_eq_true e] at hh; cases hh
  have hl := hr.len_le a
  unfold putC putO putE putL roomL roomO fullC
  rw [h, if_neg ha, decide_eq_true (by omega : atC C a < 0)]
  by_cases e : ((setC C a).length : Int) = C.ways
  · have e1 : ¬ ((setC C a).length : Int) < C.ways := by omega
    rw [decide_eq_true e, if_neg e1, if_neg e1]; exact ⟨rfl, rfl, rfl⟩
  · have e1 : ((setC C a).length : Int) < C.ways := by omega
    rw [decide_eq_false e, if_pos e1, if_pos e1]; exact ⟨rfl, rfl, rfl⟩
theorem room_len {l : List Ln} {m : Int} (hl : l.length ≤ 100) : (roomL l m).length ≤ 100 := by
  unfold roomL
  split
  · exact hl
  · have := List.length_eraseIdx_le l (outN l); omega

theorem room_len2 {l : List Ln} {m : Int} (hl : (l.length : Int) ≤ m) (h8 : m ≤ 8) (h1 : 1 ≤ m) : (roomL l m).length + 1 ≤ 100 := by
  unfold roomL
  split
  · omega
  · have hol := outN_lt (l := l) (by omega)
    rw [List.length_eraseIdx_of_lt hol]; omega
theorem room_any (base : Nat) (q : Option Addr) (x cr : Nat) (l : List Ln) (m : Int) (w : World) (h : w.ownsRow base 30 4 (.slice q x cr) x (lnC l)) (hx : l.length = x) (hm : x ≤ 100) (h1 : 1 ≤ m) (hp : l.Pairwise Two) (hwf : i64L l) :
    Calls Try.prog 36 #[.slice q x cr, .int .i64 m] w fun e w' => e = .returned (.tuple #[.slice q (roomL l m).length cr, .agg #[.int .i64 (roomO l m).addr, .int .i64 (roomO l m).state, .int .u32 (roomO l m).val, .int .i64 (roomO l m).used]]) ∧
      w'.ownsRow base 30 4 (.slice q (roomL l m).length cr) (roomL l m).length (lnC (roomL l m)) ∧ w.grownBy w' (Value.slice q x cr).ownBlock := by
  unfold roomL roomO
  rw [hx]
  by_cases e : (x : Int) < m
  · rw [if_pos e, if_pos e, hx]
    exact (room_less q x cr m w e).mono fun _ _ ⟨h2, h3⟩ => ⟨h2, own_below h h3, grown_below h3⟩
  · rw [if_neg e, if_neg e]
    obtain ⟨gr, rfl, -, -, -, -⟩ := own_go h (by omega)
    have hol := outN_lt (l := l) (by omega)
    rw [List.length_eraseIdx_of_lt hol, hx]
    exact room_full base gr x cr l m w h hx hm (by omega) (by omega) hp hwf
theorem wf_of {C : Ch} (h : Rt C) (a : Int) : i64L (setC C a) := fun x hx => by
  have hl := h.line a x hx
  have h1 := hl.u1
  have h2 := hl.uk
  have h3 := h.kt
  unfold clockTop at h3
  exact WalkArith.wf_i64 (by omega)
theorem outP_of {S : Nat → Prop} {w w' : World} {p : Option Addr} {n c : Nat} {ys : List Value} {C : Ch} {x : Ln} {E : Int} (h : OwnC w.heap.size w' p n c ys C) (hS : ∀ R, S R → R < w.heap.size) (hb : Below w.heap.size w w') :
    OutP S w w' (.returned (.tuple #[.agg #[.int .i64 C.sets, .int .i64 C.ways, .int .i64 C.clock, .slice p n c], .agg #[.int .i64 x.addr, .int .i64 x.state, .int .u32 x.val, .int .i64 x.used], .int .i64 E])) C x E :=
  ⟨_, rfl, h.co hS, hb⟩
/-- Two blocks of the call's own are laid. -/
theorem res8_own {base s t : Nat} {w : World} {p : Option Addr} {n c : Nat} {ys : List Value} {C : Ch} (h : OwnC base w p n c ys C) (hs : s < base) (ht : t < base) (u0 u1 u2 u3 v0 v1 v2 v3 : Value) :
    OwnC base ((((((((w.setCell ⟨s, 0, none⟩ u0).setCell ⟨s, 1, none⟩ u1).setCell ⟨s, 2, none⟩ u2).setCell ⟨s, 3, none⟩ u3).setCell ⟨t, 0, none⟩ v0).setCell ⟨t, 1, none⟩ v1).setCell ⟨t, 2, none⟩ v2).setCell ⟨t, 3, none⟩ v3) p n c ys C :=
  res4_own (res4_own h hs u0 u1 u2 u3) ht v0 v1 v2 v3
theorem res8_below {s0 s t : Nat} {w0 w : World} (h : Below s0 w0 w) (hs : s0 ≤ s) (ht : s0 ≤ t) (u0 u1 u2 u3 v0 v1 v2 v3 : Value) :
    Below s0 w0 ((((((((w.setCell ⟨s, 0, none⟩ u0).setCell ⟨s, 1, none⟩ u1).setCell ⟨s, 2, none⟩ u2).setCell ⟨s, 3, none⟩ u3).setCell ⟨t, 0, none⟩ v0).setCell ⟨t, 1, none⟩ v1).setCell ⟨t, 2, none⟩ v2).setCell ⟨t, 3, none⟩ v3) :=
  set4_below (set4_below h hs u0 u1 u2 u3) ht v0 v1 v2 v3
theorem grown_set {w W : World} {row : Option Nat} (h : w.grownBy W row) {R : Nat} (hR : w.heap.size ≤ R) (j : Nat) (u : Value) : w.grownBy (W.setCell ⟨R, j, none⟩ u) row :=
  ⟨h.os, h.tape, h.output, by simpa using h.size, fun k hk hr => (heap_setCell_other W ⟨R, j, none⟩ k u (fun e => absurd hk (by rw [e]; exact Nat.not_lt.2 hR))).trans (h.block k hk hr)⟩
theorem grown_set4 {w W : World} {row : Option Nat} (h : w.grownBy W row) {R : Nat} (hR : w.heap.size ≤ R) (u0 u1 u2 u3 : Value) : w.grownBy ((((W.setCell ⟨R, 0, none⟩ u0).setCell ⟨R, 1, none⟩ u1).setCell ⟨R, 2, none⟩ u2).setCell ⟨R, 3, none⟩ u3) row :=
  grown_set (grown_set (grown_set (grown_set h hR 0 u0) hR 1 u1) hR 2 u2) hR 3 u3
theorem own_off4 {w : World} {base : Nat} {e : TypeId} {size : Nat} {v : Value} {n : Nat} {xs : List Value} (h : w.ownsRow base e size v n xs) {R : Nat} (hR : ∀ g, v.ownBlock = some g → g ≠ R) (u0 u1 u2 u3 : Value) :
    ((((w.setCell ⟨R, 0, none⟩ u0).setCell ⟨R, 1, none⟩ u1).setCell ⟨R, 2, none⟩ u2).setCell ⟨R, 3, none⟩ u3).ownsRow base e size v n xs := own_off (own_off (own_off (own_off h hR 0 u0) hR 1 u1) hR 2 u2) hR 3 u3
/-- What withRoom has left: the set, and the line that went in a variable of its own. -/
def Gone (base : Nat) (w5 wd : World) (b : Nat) (q : Option Addr) (cr : Nat) (l : List Ln) (X : Ln) (row : Option Nat) : Prop :=
  w5.heap.size ≤ b ∧ Blk wd b #[.int .i64 X.addr, .int .i64 X.state, .int .u32 X.val, .int .i64 X.used] ∧ wd.ownsRow base 30 4 (.slice q l.length cr) l.length (lnC l) ∧ w5.grownBy wd row
theorem Gone.first {base : Nat} {w5 w6 : World} {q : Option Addr} {cr : Nat} {l : List Ln} {X : Ln} {row : Option Nat} (h : w6.ownsRow base 30 4 (.slice q l.length cr) l.length (lnC l)) (hg : w5.grownBy w6 row) :
    Gone base w5 (w6.alloc (.cells #[.int .i64 X.addr, .int .i64 X.state, .int .u32 X.val, .int .i64 X.used] 30)) w6.heap.size q cr l X row :=
  ⟨hg.size, Blk.new _ _ _, own_below h ((Below.refl _ _).alloc (Nat.le_refl _) _), grown_trans hg (World.grownBy_alloc _ _ _)⟩
theorem Gone.later {base : Nat} {w5 w6 : World} {q : Option Addr} {cr : Nat} {l : List Ln} {X : Ln} {row : Option Nat} {a0 a1 a2 a3 : Value} (h : w6.ownsRow base 30 4 (.slice q l.length cr) l.length (lnC l)) (hg : w5.grownBy w6 row) (hk : Blk w6 w5.heap.size #[a0, a1, a2, a3]) (hq : ∀ g, (Value.slice q l.length cr).ownBlock = some g → g < w5.heap.size) :
    Gone base w5 ((((w6.setCell ⟨w5.heap.size, 0, none⟩ (.int .i64 X.addr)).setCell ⟨w5.heap.size, 1, none⟩ (.int .i64 X.state)).setCell ⟨w5.heap.size, 2, none⟩ (.int .u32 X.val)).setCell ⟨w5.heap.size, 3, none⟩ (.int .i64 X.used)) w5.heap.size q cr l X row :=
  ⟨Nat.le_refl _, set4_same hk _ _ _ _, own_off4 h (fun g e => Nat.ne_of_lt (hq g e)) _ _ _ _, grown_set4 hg (Nat.le_refl _) _ _ _ _⟩
end Go.Proofs.Ytoddmgaihggkjaa
