/- Laid together, in this order: DirecA, DirecB, DirecC, DirecD, DirecE, DirecF, PgV, PgW, PgX. -/
import Derived.Test.YtmeomdfmljanhaaGreatZg
import Derived.Test.YtmeomdfmljanhaaGreatRows
import Derived.WalkSpells
import Derived.Outline
import Derived.Laws.CopyOwn
import Derived.Deep.WholeRow
import Derived.OwnWalk
import Derived.BigGuardPart
import Derived.Deep.RegionLaw
import Derived.Lib.SliceRun
import Derived.Deep.CutBlock
import Derived.Deep.DeepCutAuto
set_option linter.unusedSimpArgs false
set_option linter.unusedVariables false
/- What is known of a line, in memory, and in which blocks it doesn't lie; no condition but that it reads. -/
namespace Go.Proofs.YtmeomdfmljanhaaGreat.Di
set_option linter.unusedVariables false
open Go.ChangeShapes Go.WideShapes Go.ChangeAt Go.RowKit

theorem own_base {w : World} {b b' : Nat} {e : TypeId} {size : Nat} {v : Value} {n : Nat} {xs : List Value} (h : w.ownsRow b e size v n xs) (hb : b' ≤ b) : w.ownsRow b' e size v n xs := by
  obtain ⟨h1, h2 | ⟨g, cap, cur, e1, e2, e3⟩⟩ := h
  · exact ⟨h1, .inl h2⟩
  · exact ⟨h1, .inr ⟨g, cap, cur, e1, by omega, e3⟩⟩
theorem own_below {w w' : World} {base : Nat} {e : TypeId} {size : Nat} {v : Value} {n : Nat} {xs : List Value} (h : w.ownsRow base e size v n xs) (hb : Below w.heap.size w w') : w'.ownsRow base e size v n xs := by
  obtain ⟨h1, h2 | ⟨g', c', cur, e1, e2, e3, e4⟩⟩ := h
  · exact ⟨h1, .inl h2⟩
  · exact ⟨h1, .inr ⟨g', c', cur, e1, e2, by rw [hb.block g' (Array.getElem?_eq_some_iff.1 e3).1]; exact e3, e4⟩⟩
theorem own_cap {w : World} {base : Nat} {e : TypeId} {size : Nat} {v : Value} {n : Nat} {xs : List Value} (h : w.ownsRow base e size v n xs) : ∃ p cap, v = .slice p n cap ∧ n ≤ cap := by
  obtain ⟨h1, ⟨h2, h3⟩ | ⟨g', c', cur, e1, e2, e3, e4, _⟩⟩ := h
  · subst h3; exact ⟨_, _, h2, Nat.le_refl _⟩
  · exact ⟨_, _, e1, e4⟩
theorem own_go {w : World} {base : Nat} {e : TypeId} {size : Nat} {p : Option Addr} {n c : Nat} {xs : List Value} (h : w.ownsRow base e size (.slice p n c) n xs) (h0 : 0 < n) : ∃ g, p = some ⟨g, 0, none⟩ ∧ n ≤ c ∧ c ≤ maxLen ∧ base ≤ g ∧ g < w.heap.size := by
  obtain ⟨h1, ⟨_, h2⟩ | ⟨g, cap, cur, e1, e2, e3, e4, e5, _⟩⟩ := h
  · omega
  · injection e1 with e1 e6 e7
    subst e7
    exact ⟨g, e1, e4, e5, e2, (Array.getElem?_eq_some_iff.1 e3).1⟩
theorem own_off {w : World} {base : Nat} {e : TypeId} {size : Nat} {v : Value} {n : Nat} {xs : List Value} (h : w.ownsRow base e size v n xs) {R : Nat} (hR : ∀ g, v.ownBlock = some g → g ≠ R) (j : Nat) (u : Value) : (w.setCell ⟨R, j, none⟩ u).ownsRow base e size v n xs := by
  refine h.kept (row := some R) ⟨rfl, rfl, rfl, by simp, fun k _ hk => heap_setCell_other w ⟨R, j, none⟩ k u (fun e => hk (by simp [e]))⟩ ?_
  cases hv : v.ownBlock with
  | none => exact .inl rfl
  | some b => exact .inr (fun e2 => by injection e2 with e2; exact hR b hv e2)
theorem info4 : (Tryz.prog.info? 4).map (fun i => (i.zero, i.size, i.bytes)) = some (some (.bool false), 1, 1) := by kernel_rfl
theorem info3 : (Tryz.prog.info? 3).map (fun i => (i.zero, i.size, i.bytes)) = some (some (.int .i64 0), 1, 8) := by kernel_rfl

def boC (l : List Bool) : List Value := l.map .bool
theorem boC_len (l : List Bool) : (boC l).length = l.length := List.length_map _
theorem boC_one (l : List Bool) : ∀ u ∈ boC l, u.oneCell' = true := by
  intro u hu
  obtain ⟨x, _, rfl⟩ := List.mem_map.1 hu
  rfl
theorem boC_at (l : List Bool) (k : Nat) (hk : k < l.length) : (boC l)[k]? = some (.bool (l.getD k false)) := by
  unfold boC
  rw [List.getElem?_map, List.getD_eq_getElem?_getD, List.getElem?_eq_getElem hk]
  rfl
theorem boC_set (l : List Bool) (k : Nat) (b : Bool) : (boC l).set k (.bool b) = boC (l.set k b) := by
  unfold boC; rw [List.map_set]
theorem boC_rep (n : Nat) : List.replicate n (Value.bool false) = boC (List.replicate n false) := by
  unfold boC; rw [List.map_replicate]
def inC (l : List Nat) : List Value := l.map fun (n : Nat) => .int .i64 (n : Int)
theorem inC_len (l : List Nat) : (inC l).length = l.length := List.length_map _
theorem inC_app (l m : List Nat) : inC (l ++ m) = inC l ++ inC m := by unfold inC; exact List.map_append
theorem inC_at (l : List Nat) (k : Nat) (hk : k < l.length) : (inC l)[k]? = some (.int .i64 (l.getD k 0 : Nat)) := by
  unfold inC
  rw [List.getElem?_map, List.getD_eq_getElem?_getD, List.getElem?_eq_getElem hk]
  rfl
theorem sl_set {w : World} {p : Option Addr} {n : Nat} {cs : List Value} (h : Sl w p n cs) {R : Nat} (ho : 0 < n → ∀ a, p = some a → a.block ≠ R) (j : Nat) (u : Value) : Sl (w.setCell ⟨R, j, none⟩ u) p n cs := fun h0 => by
  obtain ⟨b, off, h1, h2, h3⟩ := h h0
  have hne := ho h0 _ h2
  exact ⟨b, off, by simpa using h1, h2, fun k hk => (World.cell?_setCell_other _ _ _ _ (by intro e; injection e with e1; exact hne e1.symm)).trans (h3 k hk)⟩
theorem blk_sl {w : World} {B n : Nat} {l : List Value} (h : Blk w B l.toArray) : Sl w (some ⟨B, 0, none⟩) n l := fun _ => ⟨B, 0, h.lt, rfl, fun j hj => by rw [Nat.zero_add, h.c j]; simp⟩
/-- The block R isn't the one behind p. -/
def Off (R : Nat) (p : Option Addr) (n : Nat) : Prop := 0 < n → ∀ a, p = some a → a.block ≠ R
/-- What is known of a line, in memory. -/
structure Ec (w : World) (p : Option Addr) (n c : Nat) (E : En) : Prop where
  len : E.share.length = n
  sl : Sl w p n (boC E.share)
  cn : n ≤ c
  n100 : n ≤ 100
theorem Ec.below {w w' : World} {p : Option Addr} {n c : Nat} {E : En} (h : Ec w p n c E) (hb : Below w.heap.size w w') : Ec w' p n c E := ⟨h.len, h.sl.below hb, h.cn, h.n100⟩
theorem Ec.off {w : World} {p : Option Addr} {n c : Nat} {E : En} (h : Ec w p n c E) {R : Nat} (hR : w.heap.size ≤ R) : Off R p n := fun h0 a e => by
  obtain ⟨b, off, h1, h2, _⟩ := h.sl h0
  rw [h2] at e
  injection e with e
  subst e
  show b ≠ R
  omega
theorem Ec.set {w : World} {p : Option Addr} {n c : Nat} {E : En} (h : Ec w p n c E) {R : Nat} (ho : Off R p n) (j : Nat) (u : Value) : Ec (w.setCell ⟨R, j, none⟩ u) p n c E := ⟨h.len, sl_set h.sl ho j u, h.cn, h.n100⟩
theorem Ec.at_ {w : World} {p : Option Addr} {n c : Nat} {E : En} (h : Ec w p n c E) (k : Nat) (hk : k < n) : ∃ b off, p = some ⟨b, off, none⟩ ∧ b < w.heap.size ∧ w.cell? ⟨b, off + k, none⟩ = some (.bool (E.share.getD k false)) := by
  obtain ⟨b, off, h1, h2, h3⟩ := h.sl (by omega)
  exact ⟨b, off, h2, h1, by rw [h3 k (by rw [boC_len, h.len]; exact hk), boC_at _ k (by rw [h.len]; exact hk)]⟩
theorem Ec.own {base : Nat} {w : World} {p : Option Addr} {n c : Nat} {E : En} (h : w.ownsRow base 4 1 (.slice p n c) n (boC E.share)) (hm : n ≤ 100) : Ec w p n c E := by
  obtain ⟨p', c', e, hs⟩ := Sl.own h
  injection e with e1 e2 e3
  subst e1 e3
  obtain ⟨p', c', e, hc⟩ := own_cap h
  injection e with e1 e2 e3
  subst e3
  exact ⟨by have := h.1; rw [boC_len, Nat.mul_one] at this; exact this, hs, hc, hm⟩
theorem own_offR {base : Nat} {w : World} {p : Option Addr} {n c : Nat} {xs : List Value} {e : TypeId} {z : Nat} (h : w.ownsRow base e z (.slice p n c) n xs) {R : Nat} (hR : R < base) : Off R p n := fun h0 a ha => by
  subst ha
  have := (h.lt a.block rfl).1
  omega
/-- A value that reads as what is known of a line, and lies in none of the blocks S. -/
def Eo (S : Nat → Prop) (w : World) (v : Value) (E : En) : Prop := ∃ p n c, v = .agg #[.int .i64 E.owner, .slice p n c] ∧ Ec w p n c E ∧ ∀ R, S R → Off R p n
theorem Eo.below {S : Nat → Prop} {w w' : World} {v : Value} {E : En} (h : Eo S w v E) (hb : Below w.heap.size w w') : Eo S w' v E := by
  obtain ⟨p, n, c, e, h1, h2⟩ := h
  exact ⟨p, n, c, e, h1.below hb, h2⟩
theorem Eo.set {S : Nat → Prop} {w : World} {v : Value} {E : En} (h : Eo S w v E) {R : Nat} (hR : S R) (j : Nat) (u : Value) : Eo S (w.setCell ⟨R, j, none⟩ u) v E := by
  obtain ⟨p, n, c, e, h1, h2⟩ := h
  exact ⟨p, n, c, e, h1.set (h2 R hR) j u, h2⟩
theorem Eo.later {S S' : Nat → Prop} {w : World} {v : Value} {E : En} (h : Eo S w v E) (hs : ∀ R, S' R → S R ∨ w.heap.size ≤ R) : Eo S' w v E := by
  obtain ⟨p, n, c, e, h1, h2⟩ := h
  exact ⟨p, n, c, e, h1, fun R hR => (hs R hR).elim (h2 R) h1.off⟩
theorem Eo.set2 {S : Nat → Prop} {w : World} {v : Value} {E : En} (h : Eo S w v E) {R : Nat} (hR : S R) (u0 u1 : Value) : Eo S ((w.setCell ⟨R, 0, none⟩ u0).setCell ⟨R, 1, none⟩ u1) v E := (h.set hR 0 u0).set hR 1 u1
theorem set2_below {s R : Nat} {w0 w : World} (h : Below s w0 w) (hR : s ≤ R) (u0 u1 : Value) : Below s w0 ((w.setCell ⟨R, 0, none⟩ u0).setCell ⟨R, 1, none⟩ u1) :=
  (h.setCell (p := ⟨R, 0, none⟩) hR _).setCell (p := ⟨R, 1, none⟩) hR _
theorem set2_other {w : World} {B R : Nat} {cs : Array Value} (h : Blk w B cs) (hne : R ≠ B) (u0 u1 : Value) : Blk ((w.setCell ⟨R, 0, none⟩ u0).setCell ⟨R, 1, none⟩ u1) B cs := (h.other u0 hne).other u1 hne
theorem set2_same {w : World} {R : Nat} {a0 a1 : Value} (h : Blk w R #[a0, a1]) (u0 u1 : Value) : Blk ((w.setCell ⟨R, 0, none⟩ u0).setCell ⟨R, 1, none⟩ u1) R #[u0, u1] := (h.set (n := 0) u0 (by simp)).set (n := 1) u1 (by simp)
/-- What is known, and a number. -/
def Out2 (S : Nat → Prop) (w w' : World) (e : Ending) (E : En) (X : Int) : Prop := ∃ v, e = .returned (.tuple #[v, .int .i64 X]) ∧ Eo S w' v E ∧ Below w.heap.size w w'
/-- What is known, and two numbers. -/
def Out3 (S : Nat → Prop) (w w' : World) (e : Ending) (E : En) (F X : Int) : Prop := ∃ v, e = .returned (.tuple #[v, .int .i64 F, .int .i64 X]) ∧ Eo S w' v E ∧ Below w.heap.size w w'
/-- What is known, a number, a list of numbers, and a number. -/
def Out4 (S : Nat → Prop) (w w' : World) (e : Ending) (E : En) (F : Int) (T : List Nat) (X : Int) : Prop := ∃ v q d, e = .returned (.tuple #[v, .int .i64 F, .slice q T.length d, .int .i64 X]) ∧ Eo S w' v E ∧ Sl w' q T.length (inC T) ∧ (∀ R, S R → Off R q T.length) ∧ T.length ≤ 100 ∧ Below w.heap.size w w'
/-- A variable in block b that holds what is known of a line, which lies in none of the blocks S. -/
def Var (S : Nat → Prop) (w : World) (b : Nat) (E : En) : Prop := ∃ p n c, Blk w b #[.int .i64 E.owner, .slice p n c] ∧ Ec w p n c E ∧ ∀ R, S R → Off R p n
theorem Var.below {S : Nat → Prop} {w w' : World} {b : Nat} {E : En} (h : Var S w b E) (hb : Below w.heap.size w w') : Var S w' b E := by
  obtain ⟨p, n, c, h1, h2, h3⟩ := h
  exact ⟨p, n, c, h1.below hb, h2.below hb, h3⟩
theorem Var.lt {S : Nat → Prop} {w : World} {b : Nat} {E : En} (h : Var S w b E) : b < w.heap.size := by
  obtain ⟨p, n, c, h1, _⟩ := h
  exact h1.lt
theorem Var.eo {S : Nat → Prop} {w : World} {b : Nat} {E : En} (h : Var S w b E) : ∃ p n c, Blk w b #[.int .i64 E.owner, .slice p n c] ∧ Eo S w (.agg #[.int .i64 E.owner, .slice p n c]) E ∧ Ec w p n c E := by
  obtain ⟨p, n, c, h1, h2, h3⟩ := h
  exact ⟨p, n, c, h1, ⟨p, n, c, rfl, h2, h3⟩, h2⟩
theorem Var.later {S S' : Nat → Prop} {w : World} {b : Nat} {E : En} (h : Var S w b E) (hs : ∀ R, S' R → S R ∨ w.heap.size ≤ R) : Var S' w b E := by
  obtain ⟨p, n, c, h1, h2, h3⟩ := h
  exact ⟨p, n, c, h1, h2, fun R hR => (hs R hR).elim (h3 R) h2.off⟩
theorem Var.set2 {S : Nat → Prop} {w : World} {b : Nat} {E : En} (h : Var S w b E) {R : Nat} (hR : S R) (hne : R ≠ b) (u0 u1 : Value) : Var S ((w.setCell ⟨R, 0, none⟩ u0).setCell ⟨R, 1, none⟩ u1) b E := by
  obtain ⟨p, n, c, h1, h2, h3⟩ := h
  exact ⟨p, n, c, set2_other h1 hne _ _, (h2.set (h3 R hR) 0 u0).set (h3 R hR) 1 u1, h3⟩
theorem Var.new {S : Nat → Prop} {w : World} {E : En} {u0 u1 : Value} (h : Eo S w (.agg #[u0, u1]) E) : Var S (w.alloc (.cells #[u0, u1] 65)) w.heap.size E := by
  obtain ⟨p, n, c, e, h2, h3⟩ := h
  injection e with e
  simp at e
  obtain ⟨rfl, rfl⟩ := e
  exact ⟨p, n, c, Blk.new _ _ _, h2.below ((Below.refl _ _).alloc (Nat.le_refl _) _), h3⟩
theorem Var.put {S : Nat → Prop} {w : World} {b : Nat} {E : En} {u0 u1 a0 a1 : Value} (hk : Blk w b #[a0, a1]) (h : Eo S w (.agg #[u0, u1]) E) (hS : S b) : Var S ((w.setCell ⟨b, 0, none⟩ u0).setCell ⟨b, 1, none⟩ u1) b E := by
  have h4 := h.set2 hS u0 u1
  have hk4 := set2_same hk u0 u1
  obtain ⟨p, n, c, e, h2, h3⟩ := h4
  injection e with e
  simp at e
  obtain ⟨rfl, rfl⟩ := e
  exact ⟨p, n, c, hk4, h2, h3⟩
end Go.Proofs.YtmeomdfmljanhaaGreat.Di
/- The program's may-be, copy, others; no condition but that what is known reads. -/
namespace Go.Proofs.YtmeomdfmljanhaaGreat.Di
set_option linter.unusedVariables false
open Go.ChangeShapes Go.WideShapes Go.ChangeAt Go.RowKit

set_option maxHeartbeats 1000000 in
theorem mayBe_any (n : Int) (w : World) : Calls Tryz.prog 94 #[.int .i64 n] w fun e w' => e = .returned (.bool (mayN n)) ∧ w' = w := by
  go_enter Tryz.func94, Tryz.ntmps94
  by_cases h1 : 1 ≤ n
  · have d1 : decide (1 ≤ n) = true := decide_eq_true h1
    have hr : mayN n = decide (n ≤ 4) := by unfold mayN; rw [d1, Bool.true_and]
    rw [hr]
    clear hr h1
    go_wp2_with fail
    go_ret
    exact ⟨rfl, rfl⟩
  · have d1 : decide (1 ≤ n) = false := decide_eq_false h1
    have hr : mayN n = false := by unfold mayN; rw [d1, Bool.false_and]
    rw [hr]
    clear hr h1
    go_wp2_with fail
    go_ret
    exact ⟨rfl, rfl⟩

theorem mayE_not {E : En} {m : Int} (h : ¬ ((1 ≤ m ∧ m ≤ 4) ∧ (E.share.length : Int) = m ∧ 0 ≤ E.owner ∧ E.owner ≤ m)) : mayE E m = false :=
  no_of fun e => h (by obtain ⟨h1, h2, h3, h4, _⟩ := mayE_iff.1 e; exact ⟨h1, h2, h3, h4⟩)
theorem mayE_own {E : En} {m : Int} (h : (1 ≤ m ∧ m ≤ 4) ∧ (E.share.length : Int) = m ∧ 0 ≤ E.owner ∧ E.owner ≤ m) : mayE E m = ownB E := by
  cases ho : ownB E with
  | true => exact mayE_iff.2 ⟨h.1, h.2.1, h.2.2.1, h.2.2.2, ho⟩
  | false => exact no_of fun e => by obtain ⟨_, _, _, _, h5⟩ := mayE_iff.1 e; rw [ho] at h5; cases h5

set_option maxHeartbeats 4000000 in
theorem may_any (S : Nat → Prop) (v : Value) (E : En) (m : Int) (w : World) (h : Eo S w v E) : Calls Tryz.prog 91 #[v, .int .i64 m] w fun e w' => e = .returned (.bool (mayE E m)) ∧ Below w.heap.size w w' := by
  have HM := Lib.hid (fun W => mayBe_any m W)
  obtain ⟨p, n, c, rfl, hc, -⟩ := h
  have HC := Lib.hid hc
  have hn100 := hc.n100
  have HNO : Hid (¬ ((1 ≤ m ∧ m ≤ 4) ∧ (n : Int) = m ∧ 0 ≤ E.owner ∧ E.owner ≤ m) → mayE E m = false) := Lib.hid (fun hh => mayE_not (by rw [hc.len]; exact hh))
  have HYES : Hid ((1 ≤ m ∧ m ≤ 4) ∧ (n : Int) = m ∧ 0 ≤ E.owner ∧ E.owner ≤ m → mayE E m = ownB E) := Lib.hid (fun hh => mayE_own (by rw [hc.len]; exact hh))
  have HOW : Hid (ownB E = (decide (E.owner = 0) || !(E.share.getD (E.owner - 1).toNat false))) := Lib.hid rfl
  obtain ⟨r, hr⟩ : ∃ r, r = mayE E m := ⟨_, rfl⟩
  rw [← hr] at HNO HYES ⊢
  obtain ⟨O, hO⟩ : ∃ O, O = E.owner := ⟨_, rfl⟩
  rw [← hO] at HNO HYES HOW ⊢
  clear hr hO hc
  obtain ⟨w0, hw0⟩ : ∃ w0, w0 = w.alloc (.cells #[.int .i64 O, .slice p n c] 65) := ⟨_, rfl⟩
  have HB0 : Hid (Below w.heap.size w w0) := Lib.hid (by rw [hw0]; exact (Below.refl _ _).alloc (Nat.le_refl _) _)
  have HA0 : Hid (Blk w0 w.heap.size #[.int .i64 O, .slice p n c]) := Lib.hid (by rw [hw0]; exact Blk.new _ _ _)
  have HW0 := Lib.hid hw0
  clear hw0
  go_enter Tryz.func91, Tryz.ntmps91
  have kA := HA0.out.c
  go_upto_region 1 with fail
  rw [← HW0.out]
  clear HW0
  by_cases hm : mayN m = true
  · rw [hm] at HM
    have hm4 := mayN_iff.1 hm
    by_cases h2 : (n : Int) = m
    · have d2 : ((n : Int) != m) = false := by simp [h2]
      by_cases h3 : O < 0
      · have d3 : decide (O < 0) = true := decide_eq_true h3
        have e := HNO.out (by omega)
        subst e
        clear HNO HYES HOW hm h3 h2 hm4
        go_wp2_with fail
        refine (HM.out _).mono ?_
        rintro e w' ⟨rfl, rfl⟩
        go_wp2_with fail
        go_ret
        exact ⟨rfl, HB0.out⟩
      · have d3 : decide (O < 0) = false := decide_eq_false h3
        by_cases h4 : m < O
        · have d4 : decide (m < O) = true := decide_eq_true h4
          have e := HNO.out (by omega)
          subst e
          clear HNO HYES HOW hm h3 h2 hm4 h4
          go_wp2_with fail
          refine (HM.out _).mono ?_
          rintro e w' ⟨rfl, rfl⟩
          go_wp2_with fail
          go_ret
          exact ⟨rfl, HB0.out⟩
        · have d4 : decide (m < O) = false := decide_eq_false h4
          have e := HYES.out (by omega)
          rw [HOW.out] at e
          by_cases h5 : O = 0
          · have d5 : (O == 0) = true := by simp [h5]
            have d6 : decide (O = 0) = true := decide_eq_true h5
            rw [d6, Bool.true_or] at e
            subst e
            clear HNO HYES HOW hm h3 h2 hm4 h4 h5 d6
            go_wp2_with fail
            refine (HM.out _).mono ?_
            rintro e w' ⟨rfl, rfl⟩
            go_wp2_with fail
            go_ret
            exact ⟨rfl, HB0.out⟩
          · have d5 : (O == 0) = false := by simp [h5]
            have d6 : decide (O = 0) = false := decide_eq_false h5
            rw [d6, Bool.false_or] at e
            obtain ⟨j, hj⟩ : ∃ j : Nat, j = (O - 1).toNat := ⟨_, rfl⟩
            rw [← hj] at e
            have hjn : j < n := by omega
            have hjI : (j : Int) < (n : Int) := by omega
            have hj0 : (0 : Int) ≤ (j : Int) := by omega
            have hsub : wrap64 (O - 1) = (j : Int) := by unfold wrap64; omega
            obtain ⟨b, off, rfl, hb, hcell⟩ := HC.out.at_ j hjn
            have hcw := (HB0.out.cell (p := ⟨b, off + j, none⟩) hb).trans hcell
            obtain ⟨x, hx⟩ : ∃ x, x = E.share.getD j false := ⟨_, rfl⟩
            rw [← hx] at e hcw
            subst e
            clear HNO HYES HOW hm h3 h2 hm4 h4 h5 d6 hcell hb hx hj HC
            go_wp2_with fail
            refine (HM.out _).mono ?_
            rintro e w' ⟨rfl, rfl⟩
            go_wp2_with fail
            go_ret
            exact ⟨rfl, HB0.out⟩
    · have d2 : ((n : Int) != m) = true := by simp [h2]
      have e := HNO.out (fun hh => h2 hh.2.1)
      subst e
      clear HNO HYES HOW hm h2 hm4
      go_wp2_with fail
      refine (HM.out _).mono ?_
      rintro e w' ⟨rfl, rfl⟩
      go_wp2_with fail
      go_ret
      exact ⟨rfl, HB0.out⟩
  · have hm2 := no_of hm
    rw [hm2] at HM
    have e := HNO.out (fun hh => hm (mayN_iff.2 hh.1))
    subst e
    clear HNO HYES HOW hm hm2
    go_wp2_with fail
    refine (HM.out _).mono ?_
    rintro e w' ⟨rfl, rfl⟩
    go_wp2_with fail
    go_ret
    exact ⟨rfl, HB0.out⟩
end Go.Proofs.YtmeomdfmljanhaaGreat.Di
/- The program's asks, copy, list of others, is there a true one; no condition but that what is known reads. -/
namespace Go.Proofs.YtmeomdfmljanhaaGreat.Di
set_option linter.unusedVariables false
open Go.ChangeShapes Go.WideShapes Go.ChangeAt Go.RowKit

theorem ask_no {E : En} {k : Int} (h : ¬ (mayE E (E.share.length : Int) = true ∧ 0 ≤ k ∧ k < (E.share.length : Int))) : askX E k = 1 := by
  unfold askX
  rw [if_neg (fun e => h (hasE_iff.1 e))]
theorem ask_yes {E : En} {k : Int} (h : mayE E (E.share.length : Int) = true ∧ 0 ≤ k ∧ k < (E.share.length : Int)) : askX E k = 0 := by
  unfold askX
  rw [if_pos (hasE_iff.2 h)]

set_option maxHeartbeats 4000000 in
theorem asks_any (S : Nat → Prop) (v : Value) (E : En) (k : Int) (w : World) (h : Eo S w v E) : Calls Tryz.prog 149 #[v, .int .i64 k] w fun e w' => e = .returned (.int .i64 (askX E k)) ∧ Below w.heap.size w w' := by
  have HM := Lib.hid (fun W hW => may_any S v E (E.share.length : Int) W (h.below (w := w) (w' := W) hW))
  obtain ⟨p, n, c, rfl, hc, -⟩ := h
  have HNO : Hid (¬ (mayE E (E.share.length : Int) = true ∧ 0 ≤ k ∧ k < (n : Int)) → askX E k = 1) := Lib.hid (fun hh => ask_no (by rw [hc.len] at hh ⊢; exact hh))
  have HYES : Hid (mayE E (E.share.length : Int) = true ∧ 0 ≤ k ∧ k < (n : Int) → askX E k = 0) := Lib.hid (fun hh => ask_yes (by rw [hc.len] at hh ⊢; exact hh))
  rw [hc.len] at HM HNO HYES
  obtain ⟨r, hr⟩ : ∃ r, r = askX E k := ⟨_, rfl⟩
  rw [← hr] at HNO HYES ⊢
  obtain ⟨O, hO⟩ : ∃ O, O = E.owner := ⟨_, rfl⟩
  rw [← hO] at HM ⊢
  obtain ⟨m, hm⟩ : ∃ m, m = mayE E (n : Int) := ⟨_, rfl⟩
  rw [← hm] at HM HNO HYES
  clear hr hO hc hm
  obtain ⟨w0, hw0⟩ : ∃ w0, w0 = w.alloc (.cells #[.int .i64 O, .slice p n c] 65) := ⟨_, rfl⟩
  have HB0 : Hid (Below w.heap.size w w0) := Lib.hid (by rw [hw0]; exact (Below.refl _ _).alloc (Nat.le_refl _) _)
  have HA0 : Hid (Blk w0 w.heap.size #[.int .i64 O, .slice p n c]) := Lib.hid (by rw [hw0]; exact Blk.new _ _ _)
  have HW0 := Lib.hid hw0
  have HQ := Lib.hid (HM.out w0 HB0.out)
  clear hw0 HM
  go_enter Tryz.func149, Tryz.ntmps149
  have kA := HA0.out.c
  go_upto_region 1 with fail
  rw [← HW0.out]
  clear HW0
  cases m with
  | false =>
    have e := HNO.out (fun hh => by cases hh.1)
    subst e
    clear HNO HYES
    go_wp2_with fail
    refine HQ.out.mono ?_
    rintro e w1 ⟨rfl, hb1⟩
    have HB1 : Hid (Below w.heap.size w w1) := Lib.hid (HB0.out.trans (hb1.mono HB0.out.size))
    clear hb1 kA HA0 HQ HB0
    go_wp2_with fail
    go_ret
    exact ⟨rfl, HB1.out⟩
  | true =>
    by_cases h1 : k < 0
    · have d1 : decide (k < 0) = true := decide_eq_true h1
      have e := HNO.out (by omega)
      subst e
      clear HNO HYES h1
      go_wp2_with fail
      refine HQ.out.mono ?_
      rintro e w1 ⟨rfl, hb1⟩
      have HB1 : Hid (Below w.heap.size w w1) := Lib.hid (HB0.out.trans (hb1.mono HB0.out.size))
      clear hb1 kA HA0 HQ HB0
      go_wp2_with fail
      go_ret
      exact ⟨rfl, HB1.out⟩
    · have d1 : decide (k < 0) = false := decide_eq_false h1
      by_cases h2 : (n : Int) ≤ k
      · have d2 : decide ((n : Int) ≤ k) = true := decide_eq_true h2
        have e := HNO.out (by omega)
        subst e
        clear HNO HYES h1 h2
        go_wp2_with fail
        refine HQ.out.mono ?_
        rintro e w1 ⟨rfl, hb1⟩
        have HB1 : Hid (Below w.heap.size w w1) := Lib.hid (HB0.out.trans (hb1.mono HB0.out.size))
        have HA1 := Lib.hid (HA0.out.below hb1)
        clear hb1 kA HA0 HQ HB0
        have kA := HA1.out.c
        go_wp2_with fail
        go_ret
        exact ⟨rfl, HB1.out⟩
      · have d2 : decide ((n : Int) ≤ k) = false := decide_eq_false h2
        have e := HYES.out ⟨rfl, by omega, by omega⟩
        subst e
        clear HNO HYES h1 h2
        go_wp2_with fail
        refine HQ.out.mono ?_
        rintro e w1 ⟨rfl, hb1⟩
        have HB1 : Hid (Below w.heap.size w w1) := Lib.hid (HB0.out.trans (hb1.mono HB0.out.size))
        have HA1 := Lib.hid (HA0.out.below hb1)
        clear hb1 kA HA0 HQ HB0
        have kA := HA1.out.c
        go_wp2_with fail
        go_ret
        exact ⟨rfl, HB1.out⟩

set_option maxHeartbeats 2000000 in
theorem clone_any (p : Option Addr) (n c : Nat) (l : List Bool) (w : World) (hl : l.length = n) (hs : Sl w p n (boC l)) (hm : n ≤ 100) (hcn : n ≤ c) :
    Calls Tryz.prog 69 #[.slice p n c] w fun e w' => ∃ r, e = .returned r ∧ w'.ownsRow w.heap.size 4 1 r n (boC l) ∧ Below w.heap.size w w' := by
  obtain ⟨i0, hi, hz0, hz1, hz2⟩ := info_parts info4
  have HI := Lib.hid (And.intro hi (And.intro hz0 (And.intro hz1 hz2)))
  have HS := Lib.hid hs
  have HL := Lib.hid hl
  clear hs hl hi hz0 hz1 hz2
  have hq : ∀ W, (binOp .eql 63 (.slice p n c) (.slice none 0 0)).run Tryz.prog W = .ok (.bool p.isNone) W := fun W => Lib.run_eql_slice_nil W _ 4 _ _ _ _ _ Tryz.underlying63
  cases p with
  | none =>
    have h0 : n = 0 := by
      rcases Nat.eq_zero_or_pos n with h0 | h0
      · exact h0
      · obtain ⟨b, off, _, h2, _⟩ := HS.out h0
        cases h2
    subst h0
    have hl : l = [] := List.eq_nil_of_length_eq_zero HL.out
    subst hl
    clear HS HL hcn HI
    simp only [Option.isNone_none, Option.isNone_some] at hq
    go_enter Tryz.func69, Tryz.ntmps69
    go_wp2
    go_ret
    exact ⟨_, rfl, World.ownsRow_nil _ _ _ _, Below.refl _ _⟩
  | some a =>
    simp only [Option.isNone_none, Option.isNone_some] at hq
    go_enter Tryz.func69, Tryz.ntmps69
    go_wp2_with (first | (at_builtin; refine wpList_append_sl rfl _ _ 63 rfl w.heap.size 4 i0 _ 1 1 Tryz.underlying63 HI.out.1 HI.out.2.1 HI.out.2.2.1 HI.out.2.2.2 rfl (by decide) _ 0 [] rfl (fresh_made (Nat.le_refl _)) (some a) n c (boC l) rfl (by rw [boC_len, HL.out, Nat.mul_one]) (HS.out.below ((Below.refl _ _).alloc (Nat.le_refl _) _)) (boC_one _) (by unfold maxLen; omega) (by omega) (by simp) ?_))
    intro v' w' g1 g2 g3
    have HG : Hid (w'.ownsRow w.heap.size 4 1 v' n (boC l)) := Lib.hid (by simpa using g1)
    have HB : Hid (Below w.heap.size w w') := Lib.hid (((Below.refl w.heap.size w).alloc (Nat.le_refl _) _).grown g2 (by simp) (fun k hk => by simp [Value.ownBlock] at hk; omega))
    clear g1 g2 g3
    go_wp2
    go_ret
    exact ⟨_, rfl, HG.out, HB.out⟩

set_option maxHeartbeats 2000000 in
theorem index_any (p : Option Addr) (n c : Nat) (l : List Bool) (w : World) (hl : l.length = n) (hs : Sl w p n (boC l)) (hm : n ≤ 100) :
    Calls Tryz.prog 155 #[.slice p n c, .bool true] w fun e w' => ∃ r : Int, e = .returned (.int .i64 r) ∧ decide (0 ≤ r) = l.contains true ∧ Below w.heap.size w w' := by
  have HYES : Hid (∀ k : Nat, k < n → l.getD k false = true → decide (0 ≤ (k : Int)) = l.contains true) := Lib.hid (fun k hk hg => by
    have hkl : k < l.length := by omega
    rw [List.getD_eq_getElem?_getD, List.getElem?_eq_getElem hkl] at hg
    have := List.getElem_mem hkl
    rw [show l[k] = true from hg] at this
    rw [List.contains_iff_mem.2 this]
    exact decide_eq_true (by omega))
  have HNO : Hid ((∀ j, j < n → l.getD j false = false) → decide (0 ≤ (-1 : Int)) = l.contains true) := Lib.hid (fun hh => by
    cases hc : l.contains true with
    | false => rfl
    | true =>
      obtain ⟨i, hi, hg⟩ := List.mem_iff_getElem.1 (List.contains_iff_mem.1 hc)
      have := hh i (by omega)
      rw [List.getD_eq_getElem?_getD, List.getElem?_eq_getElem hi] at this
      rw [show l[i] = false from this] at hg
      cases hg)
  have HAT : Hid (∀ k, k < n → ∃ b off, p = some ⟨b, off, none⟩ ∧ b < w.heap.size ∧ w.cell? ⟨b, off + k, none⟩ = some (.bool (l.getD k false))) := Lib.hid (fun k hk => by
    obtain ⟨b, off, h1, h2, h3⟩ := hs (by omega)
    exact ⟨b, off, h2, h1, by rw [h3 k (by rw [boC_len, hl]; exact hk), boC_at _ k (by rw [hl]; exact hk)]⟩)
  obtain ⟨t, ht⟩ : ∃ t, t = l.contains true := ⟨_, rfl⟩
  rw [← ht] at HYES HNO ⊢
  clear ht hs hl
  go_enter Tryz.func155, Tryz.ntmps155
  go_wp2_with fail
  go_loopw [8] (fun i wr => ∃ k : Nat, k ≤ n ∧ i = .int .i64 k ∧ Hid (∀ j, j < k → l.getD j false = false) ∧ Below w.heap.size w wr) (fun i _ => n - (intOf i).toNat)
  case atStart => exact ⟨0, Nat.zero_le _, rfl, Lib.hid (fun j hj => absurd hj (Nat.not_lt_zero _)), Below.refl _ _⟩
  case round =>
    obtain ⟨k, hk, rfl, HALL, hb⟩ := hrel
    have HB := Lib.hid hb
    clear hb
    by_cases hlt : k < n
    · obtain ⟨b, off, rfl, hbl, hcell⟩ := HAT.out k hlt
      have hcw := (HB.out.cell (p := ⟨b, off + k, none⟩) hbl).trans hcell
      have hkI : (k : Int) < (n : Int) := by omega
      obtain ⟨x, hx⟩ : ∃ x, x = l.getD k false := ⟨_, rfl⟩
      rw [← hx] at hcw
      have HX := Lib.hid hx
      clear hcell hbl hx
      cases x with
      | true =>
        have e := HYES.out k hlt HX.out.symm
        go_wp2_with fail
        go_ret
        exact ⟨_, rfl, e, HB.out⟩
      | false =>
        go_wp2_with fail
        go_roundw
        case rel => exact ⟨k + 1, by omega, by go_num, Lib.hid (fun j hj => by
          by_cases e : j = k
          · rw [e]; exact HX.out.symm
          · exact HALL.out j (by omega)), HB.out⟩
        case measure => simp [intOf]; omega
    · have hkn : k = n := by omega
      subst hkn
      have e := HNO.out HALL.out
      go_wp2_with fail
      go_ret
      exact ⟨_, rfl, e, HB.out⟩

set_option maxHeartbeats 1000000 in
theorem contains_any (p : Option Addr) (n c : Nat) (l : List Bool) (w : World) (hl : l.length = n) (hs : Sl w p n (boC l)) (hm : n ≤ 100) :
    Calls Tryz.prog 154 #[.slice p n c, .bool true] w fun e w' => e = .returned (.bool (l.contains true)) ∧ Below w.heap.size w w' := by
  have hq := index_any p n c l w hl hs hm
  obtain ⟨t, ht⟩ : ∃ t, t = l.contains true := ⟨_, rfl⟩
  rw [← ht] at hq ⊢
  clear ht hs hl
  go_enter Tryz.func154, Tryz.ntmps154
  go_wp2_with fail
  refine hq.mono ?_
  rintro e w1 ⟨r, rfl, hr, hb⟩
  clear hq
  go_wp2_with fail
  go_ret
  exact ⟨rfl, hb⟩
end Go.Proofs.YtmeomdfmljanhaaGreat.Di
/- The program's copy and list of others, in memory of one's own; no condition but that what is known reads. -/
namespace Go.Proofs.YtmeomdfmljanhaaGreat.Di
set_option linter.unusedVariables false
open Go.ChangeShapes Go.WideShapes Go.ChangeAt Go.RowKit

set_option maxHeartbeats 4000000 in
theorem copied_any (p : Option Addr) (n c : Nat) (E : En) (w : World) (h : Ec w p n c E) :
    Calls Tryz.prog 148 #[.agg #[.int .i64 E.owner, .slice p n c]] w fun e w' => ∃ p' c', e = .returned (.agg #[.int .i64 E.owner, .slice p' n c']) ∧ w'.ownsRow (w.heap.size + 2) 4 1 (.slice p' n c') n (boC E.share) ∧ Below w.heap.size w w' := by
  have HC := Lib.hid h
  have HCL := Lib.hid (fun W hW => clone_any p n c E.share W h.len (h.sl.below (w := w) (w' := W) hW) h.n100 h.cn)
  obtain ⟨O, hO⟩ : ∃ O, O = E.owner := ⟨_, rfl⟩
  rw [← hO]
  obtain ⟨L, hL⟩ : ∃ L, L = E.share := ⟨_, rfl⟩
  rw [← hL] at HCL ⊢
  clear hO hL h HC
  obtain ⟨w0, hw0⟩ : ∃ w0, w0 = (w.alloc (.cells #[.int .i64 O, .slice p n c] 65)).alloc (.cells #[.int .i64 0, .slice none 0 0] 65) := ⟨_, rfl⟩
  have HB0 : Hid (Below w.heap.size w w0) := Lib.hid (by rw [hw0]; exact ((Below.refl _ _).alloc (Nat.le_refl _) _).alloc (by simp) _)
  have HA0 : Hid (Blk w0 w.heap.size #[.int .i64 O, .slice p n c]) := Lib.hid (by rw [hw0]; exact (Blk.new _ _ _).alloc _)
  have HT0 : Hid (Blk w0 (w.heap.size + 1) #[.int .i64 0, .slice none 0 0]) := Lib.hid (by
    have := Blk.new (w.alloc (.cells #[.int .i64 O, .slice p n c] 65)) #[.int .i64 0, .slice none 0 0] 65
    rw [World.size_alloc] at this
    rw [hw0]; exact this)
  have HSZ : Hid (w0.heap.size = w.heap.size + 2) := Lib.hid (by rw [hw0, World.size_alloc, World.size_alloc])
  have HW0 := Lib.hid hw0
  clear hw0
  have HS : Hid (∀ V, Below w0.heap.size w0 V → ∀ t, V.cell? ⟨w.heap.size, t, none⟩ = (#[.int .i64 O, .slice p n c] : Array Value)[t]?) := Lib.hid (fun V hV => (HA0.out.below hV).c)
  go_enter Tryz.func148, Tryz.ntmps148
  go_upto_region 1 with fail
  rw [← HW0.out]
  clear HW0
  refine region_plan (fun V : World => ∀ t, V.cell? ⟨w.heap.size, t, none⟩ = (#[.int .i64 O, .slice p n c] : Array Value)[t]?) 5 [(0, true), (1, true), (2, true), (3, true), (4, false)] (by kernel_rfl) (by kernel_rfl) (HS.out _ (Below.refl _ _).drew) ?_
  iterate 4
    refine plan_read (v := ?_) rfl (by rfl) ?_ ?_
    rotate_left
    · intro w' hS
      try dsimp only at hS
      go_simp
      try with_reducible rfl
    try simp only [Act.put, List.setIfInBounds_toArray, List.set_cons_zero, List.set_cons_succ, List.getElem_toArray, List.getElem_cons_zero, List.getElem_cons_succ]
  refine plan_call (F := 69) (args := ?_) rfl (by rfl) ?_ ?_
  rotate_left
  · go_simp
    rfl
  refine (HCL.out w0.drew HB0.out.drew).mono ?_
  rintro e w1 ⟨r, rfl, hr, hb⟩
  have HB1 : Hid (Below w0.heap.size w0 w1) := Lib.hid ((Below.refl _ _).drew.trans hb)
  have HR : Hid (w1.ownsRow (w.heap.size + 2) 4 1 r n (boC L)) := Lib.hid (own_base hr (by show w.heap.size + 2 ≤ w0.heap.size; rw [HSZ.out]; exact Nat.le_refl _))
  clear hr hb
  refine ⟨_, rfl, HS.out _ HB1.out, ?_⟩
  try simp only [Act.put, List.setIfInBounds_toArray, List.set_cons_zero, List.set_cons_succ, List.getElem_toArray, List.getElem_cons_zero, List.getElem_cons_succ]
  refine plan_nil ?_
  simp only [List.drop_succ_cons, List.drop_zero]
  obtain ⟨p', c', rfl, -⟩ := own_cap HR.out
  have HT1 := Lib.hid (HT0.out.below HB1.out)
  have HBW : Hid (Below w.heap.size w w1) := Lib.hid (HB0.out.trans (HB1.out.mono HB0.out.size))
  clear HS HT0 HB0 HB1 HA0 HCL HSZ
  have cT := HT1.out.c
  have fT := HT1.out.f
  have lT := HT1.out.lt
  go_wp2_with fail
  exact bodyPost_ret (v := .agg #[.int .i64 O, .slice p' n c']) (by simp [results, Tryz.results148, go_sem, *]) rfl ⟨_, _, rfl, own_off (own_off HR.out (fun g e => by have := (HR.out.lt g e).1; omega) _ _) (fun g e => by have := (HR.out.lt g e).1; omega) _ _, set2_below HBW.out (by omega) _ _⟩

set_option maxHeartbeats 4000000 in
theorem others_any (p : Option Addr) (n c : Nat) (E : En) (k : Int) (w : World) (h : Ec w p n c E) :
    Calls Tryz.prog 153 #[.agg #[.int .i64 E.owner, .slice p n c], .int .i64 k] w fun e w' => ∃ q d, e = .returned (.slice q (othE E k).length d) ∧ w'.ownsRow (w.heap.size + 1) 3 1 (.slice q (othE E k).length d) (othE E k).length (inC (othE E k)) ∧ Below w.heap.size w w' := by
  have hn := h.n100
  have HC := Lib.hid h
  have hof : othE E k = oth E.share k n := by unfold othE; rw [h.len]
  rw [hof]
  obtain ⟨O, hO⟩ : ∃ O, O = E.owner := ⟨_, rfl⟩
  rw [← hO]
  obtain ⟨i0, hi, hz0, hz1, hz2⟩ := info_parts info3
  have HI := Lib.hid (And.intro hi (And.intro hz0 (And.intro hz1 hz2)))
  obtain ⟨L, hL⟩ : ∃ L, L = E.share := ⟨_, rfl⟩
  have HAT : Hid (∀ j, j < n → ∃ b off, p = some ⟨b, off, none⟩ ∧ b < w.heap.size ∧ w.cell? ⟨b, off + j, none⟩ = some (.bool (L.getD j false))) := Lib.hid (fun j hj => by rw [hL]; exact HC.out.at_ j hj)
  rw [← hL]
  clear h hO hof hi hz0 hz1 hz2 hL HC
  have HB0 : Hid (Below w.heap.size w (w.alloc (.cells #[.int .i64 O, .slice p n c] 65))) := Lib.hid ((Below.refl _ _).alloc (Nat.le_refl _) _)
  have HSZ : Hid ((w.alloc (.cells #[.int .i64 O, .slice p n c] 65)).heap.size = w.heap.size + 1) := Lib.hid (World.size_alloc _ _)
  go_enter Tryz.func153, Tryz.ntmps153
  go_wp2_with fail
  go_loopw [5, 11] (fun v i wr => ∃ j : Nat, j ≤ n ∧ i = .int .i64 j ∧ (∃ q d, v = .slice q (oth L k j).length d ∧ wr.ownsRow (w.heap.size + 1) 3 1 v (oth L k j).length (inC (oth L k j))) ∧ Below w.heap.size w wr ∧ w.heap.size + 1 ≤ wr.heap.size) (fun _ i _ => n - (intOf i).toNat)
  case atStart => exact ⟨0, Nat.zero_le _, rfl, ⟨none, 0, rfl, World.ownsRow_nil _ _ _ _⟩, HB0.out, Nat.le_of_eq HSZ.out.symm⟩
  case round =>
    obtain ⟨j, hj, rfl, ⟨q, d, rfl, ho⟩, hb, hsz⟩ := hrel
    have HO := Lib.hid ho
    have HB := Lib.hid hb
    have HGE := Lib.hid hsz
    clear ho hb hsz HB0 HSZ
    by_cases hlt : j < n
    · obtain ⟨b, off, rfl, hbl, hcell⟩ := HAT.out j hlt
      have hcw := (HB.out.cell (p := ⟨b, off + j, none⟩) hbl).trans hcell
      have hjI : (j : Int) < (n : Int) := by omega
      have HOS := Lib.hid (oth_succ L k j)
      have hlen := oth_le L k j
      obtain ⟨x, hx⟩ : ∃ x, x = L.getD j false := ⟨_, rfl⟩
      have HBI : Hid (othB L k j = (x && decide ((j : Int) ≠ k))) := Lib.hid (by rw [hx]; rfl)
      rw [← hx] at hcw
      clear hcell hbl hx
      obtain ⟨T, hT⟩ : ∃ T, T = oth L k j := ⟨_, rfl⟩
      rw [← hT] at HOS HO hlen ⊢
      clear hT
      cases x with
      | false =>
        have HE : Hid (oth L k (j + 1) = T) := Lib.hid (by rw [HOS.out, HBI.out]; simp)
        go_wp2_with fail
        go_roundw
        case rel => exact ⟨j + 1, by omega, by go_num, ⟨q, d, by rw [HE.out], by rw [HE.out]; exact HO.out⟩, HB.out, HGE.out⟩
        case measure => simp [intOf]; omega
      | true =>
        by_cases hk : (j : Int) = k
        · have d1 : ((j : Int) != k) = false := by simp [hk]
          have HE : Hid (oth L k (j + 1) = T) := Lib.hid (by rw [HOS.out, HBI.out]; simp [hk])
          clear hk
          go_wp2_with fail
          go_roundw
          case rel => exact ⟨j + 1, by omega, by go_num, ⟨q, d, by rw [HE.out], by rw [HE.out]; exact HO.out⟩, HB.out, HGE.out⟩
          case measure => simp [intOf]; omega
        · have d1 : ((j : Int) != k) = true := by simp [hk]
          have HE : Hid (oth L k (j + 1) = T ++ [j]) := Lib.hid (by rw [HOS.out, HBI.out]; simp [hk])
          clear hk
          have HBA : Hid (Below wr.heap.size wr (wr.alloc (.cells #[.int .i64 (j : Int)] 3))) := Lib.hid ((Below.refl _ _).alloc (Nat.le_refl _) _)
          have HNW : Hid (Blk (wr.alloc (.cells #[.int .i64 (j : Int)] 3)) wr.heap.size [Value.int .i64 (j : Int)].toArray) := Lib.hid (Blk.new _ _ _)
          have HO2 := Lib.hid (own_below HO.out HBA.out)
          have HBW : Hid (Below w.heap.size w (wr.alloc (.cells #[.int .i64 (j : Int)] 3))) := Lib.hid (HB.out.alloc HB.out.size _)
          go_wp2_with (first | (at_builtin; refine wpList_append_sl rfl _ _ 27 rfl (w.heap.size + 1) 3 i0 (.int .i64 0) 1 8 Tryz.underlying27 HI.out.1 HI.out.2.1 HI.out.2.2.1 HI.out.2.2.2 rfl (by decide) _ T.length (inC T) rfl HO2.out (some ⟨wr.heap.size, 0, none⟩) 1 1 [.int .i64 (j : Int)] rfl rfl (blk_sl HNW.out) (by intro u hu; rw [List.mem_singleton.1 hu]; rfl) (by unfold maxLen; omega) (by omega) (Nat.le_trans HGE.out HBA.out.size) ?_))
          intro v' w' g1 g2 g3
          obtain ⟨q', d', rfl, -⟩ := own_cap g1
          have HO3 : Hid (w'.ownsRow (w.heap.size + 1) 3 1 (.slice q' (T.length + 1) d') (T.length + 1) (inC T ++ [.int .i64 (j : Int)])) := Lib.hid g1
          have HB3 : Hid (Below w.heap.size w w') := Lib.hid (HBW.out.grown g2 HBW.out.size (fun g e => by have := (HO2.out.lt g e).1; omega))
          have HG3 : Hid (w.heap.size + 1 ≤ w'.heap.size) := Lib.hid (Nat.le_trans HGE.out (Nat.le_trans HBA.out.size g2.size))
          have HL1 : Hid ((oth L k (j + 1)).length = T.length + 1) := Lib.hid (by rw [HE.out, List.length_append]; rfl)
          have HL2 : Hid (inC (oth L k (j + 1)) = inC T ++ [.int .i64 (j : Int)]) := Lib.hid (by rw [HE.out, inC_app]; rfl)
          clear g1 g2 g3 HBA HNW HO2 HBW hcw
          go_wp2_with fail
          go_roundw
          case rel => exact ⟨j + 1, by omega, by go_num, ⟨q', d', by rw [HL1.out], by rw [HL1.out, HL2.out]; exact HO3.out⟩, HB3.out, HG3.out⟩
          case measure => simp [intOf]; omega
    · have hjn : j = n := by omega
      subst hjn
      go_wp2_with fail
      go_ret
      exact ⟨_, _, rfl, HO.out, HB.out⟩
end Go.Proofs.YtmeomdfmljanhaaGreat.Di
/- The program's New, Read, Write, Back, Alone; no condition but that what is known reads. -/
namespace Go.Proofs.YtmeomdfmljanhaaGreat.Di
set_option linter.unusedVariables false
open Go.ChangeShapes Go.WideShapes Go.ChangeAt Go.RowKit

theorem read_lone {E : En} {k : Int} (h : hasE E k = true) (h0 : E.owner = 0) (hm : (othE E k).length = 0) : readC E k = ⟨k + 1, E.share.set k.toNat false⟩ ∧ readF E k = 0 ∧ askX E k = 0 := by
  have hl : loneE E k = true := loneE_iff.2 ⟨h0, hm⟩
  obtain ⟨_, hk0, hkl⟩ := hasE_iff.1 h
  have e : E.share.set k.toNat false = List.replicate E.share.length false := lone_set (k := k.toNat) (by omega) (by unfold othE at hm; rw [show ((k.toNat : Nat) : Int) = k by omega]; exact hm)
  rw [e]
  unfold readC readF askX
  rw [if_pos h, if_pos h, if_pos h, if_pos hl]
  exact ⟨rfl, h0, rfl⟩
theorem read_share {E : En} {k : Int} (h : hasE E k = true) (hl : ¬ (E.owner = 0 ∧ (othE E k).length = 0)) (hne : E.owner ≠ k + 1) : readC E k = ⟨E.owner, E.share.set k.toNat true⟩ ∧ readF E k = E.owner ∧ askX E k = 0 := by
  have hl : ¬ loneE E k = true := fun e => hl (loneE_iff.1 e)
  unfold readC readF askX
  rw [if_pos h, if_pos h, if_pos h, if_neg hl, if_neg hne]
  exact ⟨rfl, rfl, rfl⟩
theorem read_own {E : En} {k : Int} (h : hasE E k = true) (he : E.owner = k + 1) : readC E k = ⟨E.owner, E.share⟩ ∧ readF E k = E.owner ∧ askX E k = 0 := by
  have hl : ¬ loneE E k = true := fun e => by have := (loneE_iff.1 e).1; have := (hasE_iff.1 h).2.1; omega
  unfold readC readF askX
  rw [if_pos h, if_pos h, if_pos h, if_neg hl, if_pos he]
  exact ⟨rfl, rfl, rfl⟩
theorem read_no {E : En} {k : Int} (h : ¬ hasE E k = true) : readC E k = ⟨E.owner, E.share⟩ ∧ readF E k = 0 ∧ askX E k = 1 := by
  obtain ⟨h1, h2, h3, _⟩ := has_no h
  exact ⟨h1, h2, h3⟩
theorem write_yes {E : En} {k : Int} (h : hasE E k = true) : writeC E k = ⟨k + 1, List.replicate E.share.length false⟩ ∧ readF E k = E.owner ∧ askX E k = 0 ∧ writeT E k = othE E k := by
  obtain ⟨h1, h2, h3, h4⟩ := has_yes h
  exact ⟨h3, h1, h2, h4⟩
theorem write_no {E : En} {k : Int} (h : ¬ hasE E k = true) : writeC E k = ⟨E.owner, E.share⟩ ∧ readF E k = 0 ∧ askX E k = 1 ∧ writeT E k = [] := by
  obtain ⟨_, h2, h3, h4, h5, _⟩ := has_no h
  exact ⟨h4, h2, h3, h5⟩
theorem back_no {E : En} {k : Int} (h : ¬ hasE E k = true) : backC E k = ⟨E.owner, E.share⟩ ∧ backX E k = 1 ∧ askX E k = 1 := by
  obtain ⟨_, _, h3, _, _, h6, h7⟩ := has_no h
  exact ⟨h6, h7, h3⟩
theorem back_not {E : En} {k : Int} (h : hasE E k = true) (hne : E.owner ≠ k + 1) : backC E k = ⟨E.owner, E.share⟩ ∧ backX E k = 7 ∧ askX E k = 0 := by
  unfold backC backX askX
  rw [if_pos h, if_pos h, if_pos h, if_neg hne, if_neg hne]
  exact ⟨rfl, rfl, rfl⟩
theorem back_yes {E : En} {k : Int} (h : hasE E k = true) (he : E.owner = k + 1) : backC E k = ⟨0, E.share⟩ ∧ backX E k = 0 ∧ askX E k = 0 := by
  unfold backC backX askX
  rw [if_pos h, if_pos h, if_pos h, if_pos he, if_pos he]
  exact ⟨rfl, rfl, rfl⟩
theorem has_nat {E : En} {k : Int} {n : Nat} (h : hasE E k = true) (hn : E.share.length = n) : ∃ kk : Nat, k = (kk : Int) ∧ kk < n := by
  obtain ⟨_, h0, h1⟩ := hasE_iff.1 h
  exact ⟨k.toNat, by omega, by omega⟩

set_option maxHeartbeats 2000000 in
set_option maxRecDepth 100000 in
theorem read_any (S : Nat → Prop) (v : Value) (E : En) (k : Int) (w : World) (h : Eo S w v E) (hS : ∀ R, S R → R < w.heap.size) : Calls Tryz.prog 146 #[v, .int .i64 k] w fun e w' => Out3 S w w' e (readC E k) (readF E k) (askX E k) := by
  have HASK := Lib.hid (fun W hW => asks_any S v E k W (h.below (w := w) (w' := W) hW))
  obtain ⟨p, n, c, rfl, hc, -⟩ := h
  have hn := hc.n100
  have HLEN := Lib.hid hc.len
  have HSS := Lib.hid hS
  have HCP := Lib.hid (fun W hW => copied_any p n c E W (hc.below (w := w) (w' := W) hW))
  have HOT := Lib.hid (fun W hW => others_any p n c E k W (hc.below (w := w) (w' := W) hW))
  have HFIN : Hid (∀ w' p' c' O' L' F X, w'.ownsRow (w.heap.size + 2) 4 1 (.slice p' n c') n (boC L') → Below w.heap.size w w' → readC E k = ⟨O', L'⟩ ∧ readF E k = F ∧ askX E k = X →
      Out3 S w w' (.returned (.tuple #[.agg #[.int .i64 O', .slice p' n c'], .int .i64 F, .int .i64 X])) (readC E k) (readF E k) (askX E k)) := Lib.hid (fun w' p' c' O' L' F X ho hb e => by
    rw [e.1, e.2.1, e.2.2]
    exact ⟨_, rfl, ⟨_, _, _, rfl, Ec.own (E := ⟨O', L'⟩) ho hn, fun R hR => own_offR ho (by have := hS R hR; omega)⟩, hb⟩)
  obtain ⟨O, hO⟩ : ∃ O, O = E.owner := ⟨_, rfl⟩
  obtain ⟨L, hL⟩ : ∃ L, L = E.share := ⟨_, rfl⟩
  have HEO : Hid (E.owner = O ∧ E.share = L) := Lib.hid ⟨hO.symm, hL.symm⟩
  rw [← hO] at HCP HOT HASK ⊢
  rw [← hL] at HCP HLEN
  clear hO hL hc hS
  obtain ⟨w0, hw0⟩ : ∃ w0, w0 = (w.alloc (.cells #[.int .i64 O, .slice p n c] 65)).alloc (.cells #[.int .i64 0, .slice none 0 0] 65) := ⟨_, rfl⟩
  have HB0 : Hid (Below w.heap.size w w0) := Lib.hid (by rw [hw0]; exact ((Below.refl _ _).alloc (Nat.le_refl _) _).alloc (by simp) _)
  have HA0 : Hid (Blk w0 w.heap.size #[.int .i64 O, .slice p n c]) := Lib.hid (by rw [hw0]; exact (Blk.new _ _ _).alloc _)
  have HT0 : Hid (Blk w0 (w.heap.size + 1) #[.int .i64 0, .slice none 0 0]) := Lib.hid (by
    have := Blk.new (w.alloc (.cells #[.int .i64 O, .slice p n c] 65)) #[.int .i64 0, .slice none 0 0] 65
    rw [World.size_alloc] at this
    rw [hw0]; exact this)
  have HSZ : Hid (w0.heap.size = w.heap.size + 2) := Lib.hid (by rw [hw0, World.size_alloc, World.size_alloc])
  have HW0 := Lib.hid hw0
  clear hw0
  go_enter Tryz.func146, Tryz.ntmps146
  have kA := HA0.out.c
  go_upto_region 1 with fail
  rw [← HW0.out]
  clear HW0
  go_wp2_with fail
  refine (HCP.out w0 HB0.out).mono ?_
  rintro e w1 ⟨p1, c1, rfl, ho, hb⟩
  have HO1 : Hid (w1.ownsRow (w.heap.size + 2) 4 1 (.slice p1 n c1) n (boC L)) := Lib.hid (own_base ho (by rw [HSZ.out]; omega))
  have HA1 := Lib.hid (HA0.out.below hb)
  have HT1 := Lib.hid (HT0.out.below hb)
  have HB1 : Hid (Below w.heap.size w w1) := Lib.hid (HB0.out.trans (hb.mono HB0.out.size))
  have HGE : Hid (w.heap.size + 2 ≤ w1.heap.size) := Lib.hid (by rw [← HSZ.out]; exact hb.size)
  clear ho hb kA HA0 HT0 HB0 HSZ HCP
  go_upto_region 2 with fail
  obtain ⟨bo, hbo⟩ : ∃ b, b = w1.heap.size := ⟨_, rfl⟩
  obtain ⟨w2, hw2⟩ : ∃ z, z = w1.alloc (.cells #[.int .i64 O, .slice p1 n c1] 65) := ⟨_, rfl⟩
  have HBA : Hid (Below w1.heap.size w1 w2) := Lib.hid (by rw [hw2]; exact (Below.refl _ _).alloc (Nat.le_refl _) _)
  have HK2 : Hid (Blk w2 bo #[.int .i64 O, .slice p1 n c1]) := Lib.hid (by rw [hw2, hbo]; exact Blk.new _ _ _)
  have HA2 := Lib.hid (HA1.out.below HBA.out)
  have HT2 := Lib.hid (HT1.out.below HBA.out)
  have HO2 := Lib.hid (own_below HO1.out HBA.out)
  have HB2 : Hid (Below w.heap.size w w2) := Lib.hid (HB1.out.trans (HBA.out.mono HB1.out.size))
  have HNE : Hid (∀ g, (Value.slice p1 n c1).ownBlock = some g → g ≠ bo) := Lib.hid (fun g e => by have := (HO1.out.lt g e).2; omega)
  rw [← hbo] at HGE
  rw [← hw2, ← hbo]
  clear hw2 hbo HA1 HT1 HO1 HB1 HBA
  by_cases hh : hasE E k = true
  · obtain ⟨kk, rfl, hkn⟩ := has_nat (n := n) hh (by rw [HEO.out.2]; exact HLEN.out)
    have HH := Lib.hid hh
    have hx : askX E (kk : Int) = 0 := (has_yes hh).2.1
    obtain ⟨g, hg, -, -, hg2, -⟩ := own_go HO2.out (by omega)
    subst hg
    have HGG : Hid (w.heap.size + 2 ≤ g) := Lib.hid hg2
    clear hh hg2
    have hq := HASK.out w2 HB2.out
    rw [hx] at hq
    have kA := HA2.out.c
    go_wp2_with fail
    refine hq.mono ?_
    rintro e w3 ⟨rfl, hb⟩
    have HK3 := Lib.hid (HK2.out.below hb)
    have HA3 := Lib.hid (HA2.out.below hb)
    have HT3 := Lib.hid (HT2.out.below hb)
    have HO3 := Lib.hid (own_below HO2.out hb)
    have HB3 : Hid (Below w.heap.size w w3) := Lib.hid (HB2.out.trans (hb.mono HB2.out.size))
    clear hb hq kA HK2 HA2 HT2 HO2 HB2 HASK
    clear hx
    have HGB : Hid (g ≠ bo) := Lib.hid (HNE.out g rfl)
    have hkI : (kk : Int) < (n : Int) := by omega
    have hk1 : wrap64 ((kk : Int) + 1) = (kk : Int) + 1 := by unfold wrap64; omega
    have HST : Hid (∀ V O' b, Blk V bo #[.int .i64 O', .slice (some ⟨g, 0, none⟩) n c1] → V.ownsRow (w.heap.size + 2) 4 1 (.slice (some ⟨g, 0, none⟩) n c1) n (boC L) → Blk (V.setCell ⟨g, kk, none⟩ (.bool b)) bo #[.int .i64 O', .slice (some ⟨g, 0, none⟩) n c1] ∧ (V.setCell ⟨g, kk, none⟩ (.bool b)).ownsRow (w.heap.size + 2) 4 1 (.slice (some ⟨g, 0, none⟩) n c1) n (boC (L.set kk b)) ∧ ∃ u, V.cell? ⟨g, kk, none⟩ = some u) := Lib.hid (fun V O' b hk ho => by
      refine ⟨hk.other _ HGB.out, ?_, ⟨_, (ho.cellAt kk (by omega)).trans (List.getElem?_eq_getElem (by rw [boC_len, HLEN.out]; exact hkn))⟩⟩
      rw [← boC_set]
      exact (ho.stored kk (.bool b)).1)
    have kA := HA3.out.c
    by_cases h0 : O = 0
    · have d0 : (O == 0) = true := by simp [h0]
      have HH0 := Lib.hid h0
      clear h0
      have hot := HOT.out w3 HB3.out
      obtain ⟨m, hm⟩ : ∃ m, m = (othE E (kk : Int)).length := ⟨_, rfl⟩
      rw [← hm] at hot
      go_wp2_with fail
      refine hot.mono ?_
      rintro e w4 ⟨q, d, rfl, -, hb⟩
      have HK4 := Lib.hid (HK3.out.below hb)
      have HA4 := Lib.hid (HA3.out.below hb)
      have HT4 := Lib.hid (HT3.out.below hb)
      have HO4 := Lib.hid (own_below HO3.out hb)
      have HB4 : Hid (Below w.heap.size w w4) := Lib.hid (HB3.out.trans (hb.mono HB3.out.size))
      clear hb hot HK3 HA3 HT3 HO3 HB3 HOT kA
      have kA := HA4.out.c
      by_cases hm0 : m = 0
      · have d1 : ((m : Int) == 0) = true := by simp [hm0]
        have HM0 := Lib.hid hm0
        have HRL : Hid (readC E (kk : Int) = ⟨(kk : Int) + 1, L.set kk false⟩ ∧ readF E (kk : Int) = O ∧ askX E (kk : Int) = 0) := Lib.hid (by
          obtain ⟨e1, e2, e3⟩ := read_lone HH.out (HEO.out.1.trans HH0.out) (by rw [← hm]; exact hm0)
          exact ⟨by rw [e1, HEO.out.2]; rfl, by rw [e2, HH0.out], e3⟩)
        clear hm0
        have kK := HK4.out.c
        have fK := HK4.out.f
        have lK := HK4.out.lt
        obtain ⟨wp, hwp⟩ : ∃ z, z = w4.setCell ⟨bo, 0, none⟩ (.int .i64 ((kk : Int) + 1)) := ⟨_, rfl⟩
        have HK6 : Hid (Blk wp bo #[.int .i64 ((kk : Int) + 1), .slice (some ⟨g, 0, none⟩) n c1]) := Lib.hid (by rw [hwp]; exact HK4.out.set (n := 0) _ (by simp))
        have HA6 : Hid (Blk wp w.heap.size #[.int .i64 O, .slice p n c]) := Lib.hid (by rw [hwp]; exact HA4.out.other _ (by have := HGE.out; omega))
        have HT6 : Hid (Blk wp (w.heap.size + 1) #[.int .i64 0, .slice none 0 0]) := Lib.hid (by rw [hwp]; exact HT4.out.other _ (by have := HGE.out; omega))
        have HO6 : Hid (wp.ownsRow (w.heap.size + 2) 4 1 (.slice (some ⟨g, 0, none⟩) n c1) n (boC L)) := Lib.hid (by rw [hwp]; exact own_off HO4.out (fun b e => by injection e with e; have e2 : g = b := e; have := HGB.out; omega) _ _)
        have HB6 : Hid (Below w.heap.size w wp) := Lib.hid (by rw [hwp]; exact HB4.out.setCell (p := ⟨bo, 0, none⟩) (by show w.heap.size ≤ bo; have := HGE.out; omega) _)
        obtain ⟨h4, h5, u, hu⟩ := HST.out wp _ false HK6.out HO6.out
        have hfz := HO6.out.frozenAt kk
        obtain ⟨w5, hw5⟩ : ∃ z, z = wp.setCell ⟨g, kk, none⟩ (.bool false) := ⟨_, rfl⟩
        rw [← hw5] at h4 h5
        have HK5 := Lib.hid h4
        have HO5 := Lib.hid h5
        have HA5 : Hid (Blk w5 w.heap.size #[.int .i64 O, .slice p n c]) := Lib.hid (by rw [hw5]; exact HA6.out.other _ (by have := HGG.out; omega))
        have HT5 : Hid (Blk w5 (w.heap.size + 1) #[.int .i64 0, .slice none 0 0]) := Lib.hid (by rw [hw5]; exact HT6.out.other _ (by have := HGG.out; omega))
        have HB5 : Hid (Below w.heap.size w w5) := Lib.hid (by rw [hw5]; exact HB6.out.setCell (p := ⟨g, kk, none⟩) (by show w.heap.size ≤ g; have := HGG.out; omega) _)
        have HW5 := Lib.hid hw5
        have HWP := Lib.hid hwp
        rw [hwp] at hu hfz
        clear h4 h5 HST hw5 hwp HK6 HA6 HT6 HO6 HB6 HA4 HT4 HB4 HO4
        go_upto_region 9 with fail
        rw [← HWP.out, ← HW5.out]
        clear HW5 HWP hu hfz kK fK lK HK4 kA
        have HS9 : Hid (∀ W, Below w5.heap.size w5 W → (∀ t, W.cell? ⟨bo, t, none⟩ = (#[.int .i64 ((kk : Int) + 1), .slice (some ⟨g, 0, none⟩) n c1] : Array Value)[t]?) ∧ ∀ t, W.cell? ⟨w.heap.size, t, none⟩ = (#[.int .i64 O, .slice p n c] : Array Value)[t]?) := Lib.hid (fun W hW => ⟨(HK5.out.below hW).c, (HA5.out.below hW).c⟩)
        go_upto_region 9 with fail
        refine region_plan (fun W : World => (∀ t, W.cell? ⟨bo, t, none⟩ = (#[.int .i64 ((kk : Int) + 1), .slice (some ⟨g, 0, none⟩) n c1] : Array Value)[t]?) ∧ ∀ t, W.cell? ⟨w.heap.size, t, none⟩ = (#[.int .i64 O, .slice p n c] : Array Value)[t]?) 4 [(0, true), (1, true), (2, true), (3, false)] (by kernel_rfl) (by kernel_rfl) (HS9.out _ (Below.refl _ _).drew) ?_
        iterate 3
          refine plan_read (v := ?_) rfl (by rfl) ?_ ?_
          rotate_left
          · intro w' hS
            try dsimp only at hS
            obtain ⟨hS1, hS2⟩ := hS
            go_simp
            try with_reducible rfl
          try simp only [Act.put, List.setIfInBounds_toArray, List.set_cons_zero, List.set_cons_succ, List.getElem_toArray, List.getElem_cons_zero, List.getElem_cons_succ]
        have HT9 := Lib.hid (HT5.out.below (Below.refl w5.heap.size w5).drew)
        have HB9 : Hid (Below w.heap.size w w5.drew) := Lib.hid HB5.out.drew
        have HO9 := Lib.hid (own_below HO5.out (Below.refl w5.heap.size w5).drew)
        have HK9 := Lib.hid (HK5.out.below (Below.refl w5.heap.size w5).drew)
        have HA9 := Lib.hid (HA5.out.below (Below.refl w5.heap.size w5).drew)
        obtain ⟨w9, hw9⟩ : ∃ z, z = w5.drew := ⟨_, rfl⟩
        rw [← hw9] at HT9 HB9 HO9 HK9 HA9 ⊢
        clear hw9 HS9 HK5 HA5 HT5 HB5 HO5
        obtain ⟨wx, hwx⟩ : ∃ z, z = (w9.setCell ⟨w.heap.size + 1, 0, none⟩ (.int .i64 ((kk : Int) + 1))).setCell ⟨w.heap.size + 1, 1, none⟩ (.slice (some ⟨g, 0, none⟩) n c1) := ⟨_, rfl⟩
        have HSX : Hid ((∀ t, wx.cell? ⟨bo, t, none⟩ = (#[.int .i64 ((kk : Int) + 1), .slice (some ⟨g, 0, none⟩) n c1] : Array Value)[t]?) ∧ ∀ t, wx.cell? ⟨w.heap.size, t, none⟩ = (#[.int .i64 O, .slice p n c] : Array Value)[t]?) := Lib.hid (by rw [hwx]; exact ⟨(set2_other HK9.out (by have := HGE.out; omega) _ _).c, (set2_other HA9.out (by omega) _ _).c⟩)
        have HTX : Hid (Blk wx (w.heap.size + 1) #[.int .i64 ((kk : Int) + 1), .slice (some ⟨g, 0, none⟩) n c1]) := Lib.hid (by rw [hwx]; exact set2_same HT9.out _ _)
        have HBX : Hid (Below w.heap.size w wx) := Lib.hid (by rw [hwx]; exact set2_below HB9.out (by omega) _ _)
        have HOX : Hid (wx.ownsRow (w.heap.size + 2) 4 1 (.slice (some ⟨g, 0, none⟩) n c1) n (boC (L.set kk false))) := Lib.hid (by rw [hwx]; exact own_off (own_off HO9.out (fun b e => by injection e with e; have e2 : g = b := e; have := HGG.out; omega) _ _) (fun b e => by injection e with e; have e2 : g = b := e; have := HGG.out; omega) _ _)
        have HWX := Lib.hid hwx
        clear hwx HK9 HA9 HO9 HB9
        have cT := HT9.out.c
        have fT := HT9.out.f
        have lT := HT9.out.lt
        refine plan_store (w1 := wx) rfl (by rfl) (by go_simp; rw [HWX.out]) HSX.out ?_
        try simp only [Act.put, List.setIfInBounds_toArray, List.set_cons_zero, List.set_cons_succ, List.getElem_toArray, List.getElem_cons_zero, List.getElem_cons_succ]
        refine plan_nil ?_
        simp only [List.drop_succ_cons, List.drop_zero]
        clear cT fT lT HWX HT9 HSX
        have cT := HTX.out.c
        go_wp2_with fail
        exact bodyPost_ret (v := .tuple #[.agg #[.int .i64 ((kk : Int) + 1), .slice (some ⟨g, 0, none⟩) n c1], .int .i64 O, .int .i64 0]) (by simp [results, Tryz.results146, go_sem, *]) rfl (HFIN.out _ _ _ _ _ _ _ HOX.out HBX.out (HRL.out))
      · have d1 : ((m : Int) == 0) = false := by simp [hm0]
        have d2 : (O != ((kk : Int) + 1)) = true := by simp [HH0.out]; omega
        have HRL : Hid (readC E (kk : Int) = ⟨O, L.set kk true⟩ ∧ readF E (kk : Int) = O ∧ askX E (kk : Int) = 0) := Lib.hid (by
          obtain ⟨e1, e2, e3⟩ := read_share HH.out (fun hh => hm0 (by rw [hm]; exact hh.2)) (by rw [HEO.out.1, HH0.out]; omega)
          exact ⟨by rw [e1, HEO.out.1, HEO.out.2]; rfl, by rw [e2, HEO.out.1], e3⟩)
        clear hm0 hm
        obtain ⟨h4, h5, u, hu⟩ := HST.out w4 (O) true HK4.out HO4.out
        have hfz := HO4.out.frozenAt kk
        have kK := HK4.out.c
        obtain ⟨w5, hw5⟩ : ∃ z, z = w4.setCell ⟨g, kk, none⟩ (.bool true) := ⟨_, rfl⟩
        rw [← hw5] at h4 h5
        have HK5 := Lib.hid h4
        have HO5 := Lib.hid h5
        have HA5 : Hid (Blk w5 w.heap.size #[.int .i64 O, .slice p n c]) := Lib.hid (by rw [hw5]; exact HA4.out.other _ (by have := HGG.out; omega))
        have HT5 : Hid (Blk w5 (w.heap.size + 1) #[.int .i64 0, .slice none 0 0]) := Lib.hid (by rw [hw5]; exact HT4.out.other _ (by have := HGG.out; omega))
        have HB5 : Hid (Below w.heap.size w w5) := Lib.hid (by rw [hw5]; exact HB4.out.setCell (p := ⟨g, kk, none⟩) (by show w.heap.size ≤ g; have := HGG.out; omega) _)
        clear h4 h5 HA4 HT4 HB4 HO4 HST
        go_upto_region 9 with fail
        rw [← hw5]
        clear hw5 hu hfz kK HK4
        have HS9 : Hid (∀ W, Below w5.heap.size w5 W → (∀ t, W.cell? ⟨bo, t, none⟩ = (#[.int .i64 O, .slice (some ⟨g, 0, none⟩) n c1] : Array Value)[t]?) ∧ ∀ t, W.cell? ⟨w.heap.size, t, none⟩ = (#[.int .i64 O, .slice p n c] : Array Value)[t]?) := Lib.hid (fun W hW => ⟨(HK5.out.below hW).c, (HA5.out.below hW).c⟩)
        go_upto_region 9 with fail
        refine region_plan (fun W : World => (∀ t, W.cell? ⟨bo, t, none⟩ = (#[.int .i64 O, .slice (some ⟨g, 0, none⟩) n c1] : Array Value)[t]?) ∧ ∀ t, W.cell? ⟨w.heap.size, t, none⟩ = (#[.int .i64 O, .slice p n c] : Array Value)[t]?) 4 [(0, true), (1, true), (2, true), (3, false)] (by kernel_rfl) (by kernel_rfl) (HS9.out _ (Below.refl _ _).drew) ?_
        iterate 3
          refine plan_read (v := ?_) rfl (by rfl) ?_ ?_
          rotate_left
          · intro w' hS
            try dsimp only at hS
            obtain ⟨hS1, hS2⟩ := hS
            go_simp
            try with_reducible rfl
          try simp only [Act.put, List.setIfInBounds_toArray, List.set_cons_zero, List.set_cons_succ, List.getElem_toArray, List.getElem_cons_zero, List.getElem_cons_succ]
        have HT9 := Lib.hid (HT5.out.below (Below.refl w5.heap.size w5).drew)
        have HB9 : Hid (Below w.heap.size w w5.drew) := Lib.hid HB5.out.drew
        have HO9 := Lib.hid (own_below HO5.out (Below.refl w5.heap.size w5).drew)
        have HK9 := Lib.hid (HK5.out.below (Below.refl w5.heap.size w5).drew)
        have HA9 := Lib.hid (HA5.out.below (Below.refl w5.heap.size w5).drew)
        obtain ⟨w9, hw9⟩ : ∃ z, z = w5.drew := ⟨_, rfl⟩
        rw [← hw9] at HT9 HB9 HO9 HK9 HA9 ⊢
        clear hw9 HS9 HK5 HA5 HT5 HB5 HO5
        obtain ⟨wx, hwx⟩ : ∃ z, z = (w9.setCell ⟨w.heap.size + 1, 0, none⟩ (.int .i64 O)).setCell ⟨w.heap.size + 1, 1, none⟩ (.slice (some ⟨g, 0, none⟩) n c1) := ⟨_, rfl⟩
        have HSX : Hid ((∀ t, wx.cell? ⟨bo, t, none⟩ = (#[.int .i64 O, .slice (some ⟨g, 0, none⟩) n c1] : Array Value)[t]?) ∧ ∀ t, wx.cell? ⟨w.heap.size, t, none⟩ = (#[.int .i64 O, .slice p n c] : Array Value)[t]?) := Lib.hid (by rw [hwx]; exact ⟨(set2_other HK9.out (by have := HGE.out; omega) _ _).c, (set2_other HA9.out (by omega) _ _).c⟩)
        have HTX : Hid (Blk wx (w.heap.size + 1) #[.int .i64 O, .slice (some ⟨g, 0, none⟩) n c1]) := Lib.hid (by rw [hwx]; exact set2_same HT9.out _ _)
        have HBX : Hid (Below w.heap.size w wx) := Lib.hid (by rw [hwx]; exact set2_below HB9.out (by omega) _ _)
        have HOX : Hid (wx.ownsRow (w.heap.size + 2) 4 1 (.slice (some ⟨g, 0, none⟩) n c1) n (boC (L.set kk true))) := Lib.hid (by rw [hwx]; exact own_off (own_off HO9.out (fun b e => by injection e with e; have e2 : g = b := e; have := HGG.out; omega) _ _) (fun b e => by injection e with e; have e2 : g = b := e; have := HGG.out; omega) _ _)
        have HWX := Lib.hid hwx
        clear hwx HK9 HA9 HO9 HB9
        have cT := HT9.out.c
        have fT := HT9.out.f
        have lT := HT9.out.lt
        refine plan_store (w1 := wx) rfl (by rfl) (by go_simp; rw [HWX.out]) HSX.out ?_
        try simp only [Act.put, List.setIfInBounds_toArray, List.set_cons_zero, List.set_cons_succ, List.getElem_toArray, List.getElem_cons_zero, List.getElem_cons_succ]
        refine plan_nil ?_
        simp only [List.drop_succ_cons, List.drop_zero]
        clear cT fT lT HWX HT9 HSX
        have cT := HTX.out.c
        go_wp2_with fail
        exact bodyPost_ret (v := .tuple #[.agg #[.int .i64 O, .slice (some ⟨g, 0, none⟩) n c1], .int .i64 O, .int .i64 0]) (by simp [results, Tryz.results146, go_sem, *]) rfl (HFIN.out _ _ _ _ _ _ _ HOX.out HBX.out (HRL.out))
    · have d0 : (O == 0) = false := by simp [h0]
      clear HOT
      by_cases ho : O = (kk : Int) + 1
      · have d2 : (O != ((kk : Int) + 1)) = false := by simp [ho]
        have HRL : Hid (readC E (kk : Int) = ⟨O, L⟩ ∧ readF E (kk : Int) = O ∧ askX E (kk : Int) = 0) := Lib.hid (by
          obtain ⟨e1, e2, e3⟩ := read_own HH.out (HEO.out.1.trans ho)
          exact ⟨by rw [e1, HEO.out.1, HEO.out.2], by rw [e2, HEO.out.1], e3⟩)
        clear ho h0 HST
        have HS9 : Hid (∀ W, Below w3.heap.size w3 W → (∀ t, W.cell? ⟨bo, t, none⟩ = (#[.int .i64 O, .slice (some ⟨g, 0, none⟩) n c1] : Array Value)[t]?) ∧ ∀ t, W.cell? ⟨w.heap.size, t, none⟩ = (#[.int .i64 O, .slice p n c] : Array Value)[t]?) := Lib.hid (fun W hW => ⟨(HK3.out.below hW).c, (HA3.out.below hW).c⟩)
        go_upto_region 9 with fail
        refine region_plan (fun W : World => (∀ t, W.cell? ⟨bo, t, none⟩ = (#[.int .i64 O, .slice (some ⟨g, 0, none⟩) n c1] : Array Value)[t]?) ∧ ∀ t, W.cell? ⟨w.heap.size, t, none⟩ = (#[.int .i64 O, .slice p n c] : Array Value)[t]?) 4 [(0, true), (1, true), (2, true), (3, false)] (by kernel_rfl) (by kernel_rfl) (HS9.out _ (Below.refl _ _).drew) ?_
        iterate 3
          refine plan_read (v := ?_) rfl (by rfl) ?_ ?_
          rotate_left
          · intro w' hS
            try dsimp only at hS
            obtain ⟨hS1, hS2⟩ := hS
            go_simp
            try with_reducible rfl
          try simp only [Act.put, List.setIfInBounds_toArray, List.set_cons_zero, List.set_cons_succ, List.getElem_toArray, List.getElem_cons_zero, List.getElem_cons_succ]
        have HT9 := Lib.hid (HT3.out.below (Below.refl w3.heap.size w3).drew)
        have HB9 : Hid (Below w.heap.size w w3.drew) := Lib.hid HB3.out.drew
        have HO9 := Lib.hid (own_below HO3.out (Below.refl w3.heap.size w3).drew)
        have HK9 := Lib.hid (HK3.out.below (Below.refl w3.heap.size w3).drew)
        have HA9 := Lib.hid (HA3.out.below (Below.refl w3.heap.size w3).drew)
        obtain ⟨w9, hw9⟩ : ∃ z, z = w3.drew := ⟨_, rfl⟩
        rw [← hw9] at HT9 HB9 HO9 HK9 HA9 ⊢
        clear hw9 HS9 HK3 HA3 HT3 HB3 HO3
        obtain ⟨wx, hwx⟩ : ∃ z, z = (w9.setCell ⟨w.heap.size + 1, 0, none⟩ (.int .i64 O)).setCell ⟨w.heap.size + 1, 1, none⟩ (.slice (some ⟨g, 0, none⟩) n c1) := ⟨_, rfl⟩
        have HSX : Hid ((∀ t, wx.cell? ⟨bo, t, none⟩ = (#[.int .i64 O, .slice (some ⟨g, 0, none⟩) n c1] : Array Value)[t]?) ∧ ∀ t, wx.cell? ⟨w.heap.size, t, none⟩ = (#[.int .i64 O, .slice p n c] : Array Value)[t]?) := Lib.hid (by rw [hwx]; exact ⟨(set2_other HK9.out (by have := HGE.out; omega) _ _).c, (set2_other HA9.out (by omega) _ _).c⟩)
        have HTX : Hid (Blk wx (w.heap.size + 1) #[.int .i64 O, .slice (some ⟨g, 0, none⟩) n c1]) := Lib.hid (by rw [hwx]; exact set2_same HT9.out _ _)
        have HBX : Hid (Below w.heap.size w wx) := Lib.hid (by rw [hwx]; exact set2_below HB9.out (by omega) _ _)
        have HOX : Hid (wx.ownsRow (w.heap.size + 2) 4 1 (.slice (some ⟨g, 0, none⟩) n c1) n (boC L)) := Lib.hid (by rw [hwx]; exact own_off (own_off HO9.out (fun b e => by injection e with e; have e2 : g = b := e; have := HGG.out; omega) _ _) (fun b e => by injection e with e; have e2 : g = b := e; have := HGG.out; omega) _ _)
        have HWX := Lib.hid hwx
        clear hwx HK9 HA9 HO9 HB9
        have cT := HT9.out.c
        have fT := HT9.out.f
        have lT := HT9.out.lt
        refine plan_store (w1 := wx) rfl (by rfl) (by go_simp; rw [HWX.out]) HSX.out ?_
        try simp only [Act.put, List.setIfInBounds_toArray, List.set_cons_zero, List.set_cons_succ, List.getElem_toArray, List.getElem_cons_zero, List.getElem_cons_succ]
        refine plan_nil ?_
        simp only [List.drop_succ_cons, List.drop_zero]
        clear cT fT lT HWX HT9 HSX
        have cT := HTX.out.c
        go_wp2_with fail
        exact bodyPost_ret (v := .tuple #[.agg #[.int .i64 O, .slice (some ⟨g, 0, none⟩) n c1], .int .i64 O, .int .i64 0]) (by simp [results, Tryz.results146, go_sem, *]) rfl (HFIN.out _ _ _ _ _ _ _ HOX.out HBX.out (HRL.out))
      · have d2 : (O != ((kk : Int) + 1)) = true := by simp [ho]
        have HRL : Hid (readC E (kk : Int) = ⟨O, L.set kk true⟩ ∧ readF E (kk : Int) = O ∧ askX E (kk : Int) = 0) := Lib.hid (by
          obtain ⟨e1, e2, e3⟩ := read_share HH.out (fun hh => h0 (HEO.out.1.symm.trans hh.1)) (by rw [HEO.out.1]; exact ho)
          exact ⟨by rw [e1, HEO.out.1, HEO.out.2]; rfl, by rw [e2, HEO.out.1], e3⟩)
        clear h0 ho
        obtain ⟨h4, h5, u, hu⟩ := HST.out w3 (O) true HK3.out HO3.out
        have hfz := HO3.out.frozenAt kk
        have kK := HK3.out.c
        obtain ⟨w5, hw5⟩ : ∃ z, z = w3.setCell ⟨g, kk, none⟩ (.bool true) := ⟨_, rfl⟩
        rw [← hw5] at h4 h5
        have HK5 := Lib.hid h4
        have HO5 := Lib.hid h5
        have HA5 : Hid (Blk w5 w.heap.size #[.int .i64 O, .slice p n c]) := Lib.hid (by rw [hw5]; exact HA3.out.other _ (by have := HGG.out; omega))
        have HT5 : Hid (Blk w5 (w.heap.size + 1) #[.int .i64 0, .slice none 0 0]) := Lib.hid (by rw [hw5]; exact HT3.out.other _ (by have := HGG.out; omega))
        have HB5 : Hid (Below w.heap.size w w5) := Lib.hid (by rw [hw5]; exact HB3.out.setCell (p := ⟨g, kk, none⟩) (by show w.heap.size ≤ g; have := HGG.out; omega) _)
        clear h4 h5 HA3 HT3 HB3 HO3 HST
        go_upto_region 9 with fail
        rw [← hw5]
        clear hw5 hu hfz kK HK3
        have HS9 : Hid (∀ W, Below w5.heap.size w5 W → (∀ t, W.cell? ⟨bo, t, none⟩ = (#[.int .i64 O, .slice (some ⟨g, 0, none⟩) n c1] : Array Value)[t]?) ∧ ∀ t, W.cell? ⟨w.heap.size, t, none⟩ = (#[.int .i64 O, .slice p n c] : Array Value)[t]?) := Lib.hid (fun W hW => ⟨(HK5.out.below hW).c, (HA5.out.below hW).c⟩)
        go_upto_region 9 with fail
        refine region_plan (fun W : World => (∀ t, W.cell? ⟨bo, t, none⟩ = (#[.int .i64 O, .slice (some ⟨g, 0, none⟩) n c1] : Array Value)[t]?) ∧ ∀ t, W.cell? ⟨w.heap.size, t, none⟩ = (#[.int .i64 O, .slice p n c] : Array Value)[t]?) 4 [(0, true), (1, true), (2, true), (3, false)] (by kernel_rfl) (by kernel_rfl) (HS9.out _ (Below.refl _ _).drew) ?_
        iterate 3
          refine plan_read (v := ?_) rfl (by rfl) ?_ ?_
          rotate_left
          · intro w' hS
            try dsimp only at hS
            obtain ⟨hS1, hS2⟩ := hS
            go_simp
            try with_reducible rfl
          try simp only [Act.put, List.setIfInBounds_toArray, List.set_cons_zero, List.set_cons_succ, List.getElem_toArray, List.getElem_cons_zero, List.getElem_cons_succ]
        have HT9 := Lib.hid (HT5.out.below (Below.refl w5.heap.size w5).drew)
        have HB9 : Hid (Below w.heap.size w w5.drew) := Lib.hid HB5.out.drew
        have HO9 := Lib.hid (own_below HO5.out (Below.refl w5.heap.size w5).drew)
        have HK9 := Lib.hid (HK5.out.below (Below.refl w5.heap.size w5).drew)
        have HA9 := Lib.hid (HA5.out.below (Below.refl w5.heap.size w5).drew)
        obtain ⟨w9, hw9⟩ : ∃ z, z = w5.drew := ⟨_, rfl⟩
        rw [← hw9] at HT9 HB9 HO9 HK9 HA9 ⊢
        clear hw9 HS9 HK5 HA5 HT5 HB5 HO5
        obtain ⟨wx, hwx⟩ : ∃ z, z = (w9.setCell ⟨w.heap.size + 1, 0, none⟩ (.int .i64 O)).setCell ⟨w.heap.size + 1, 1, none⟩ (.slice (some ⟨g, 0, none⟩) n c1) := ⟨_, rfl⟩
        have HSX : Hid ((∀ t, wx.cell? ⟨bo, t, none⟩ = (#[.int .i64 O, .slice (some ⟨g, 0, none⟩) n c1] : Array Value)[t]?) ∧ ∀ t, wx.cell? ⟨w.heap.size, t, none⟩ = (#[.int .i64 O, .slice p n c] : Array Value)[t]?) := Lib.hid (by rw [hwx]; exact ⟨(set2_other HK9.out (by have := HGE.out; omega) _ _).c, (set2_other HA9.out (by omega) _ _).c⟩)
        have HTX : Hid (Blk wx (w.heap.size + 1) #[.int .i64 O, .slice (some ⟨g, 0, none⟩) n c1]) := Lib.hid (by rw [hwx]; exact set2_same HT9.out _ _)
        have HBX : Hid (Below w.heap.size w wx) := Lib.hid (by rw [hwx]; exact set2_below HB9.out (by omega) _ _)
        have HOX : Hid (wx.ownsRow (w.heap.size + 2) 4 1 (.slice (some ⟨g, 0, none⟩) n c1) n (boC (L.set kk true))) := Lib.hid (by rw [hwx]; exact own_off (own_off HO9.out (fun b e => by injection e with e; have e2 : g = b := e; have := HGG.out; omega) _ _) (fun b e => by injection e with e; have e2 : g = b := e; have := HGG.out; omega) _ _)
        have HWX := Lib.hid hwx
        clear hwx HK9 HA9 HO9 HB9
        have cT := HT9.out.c
        have fT := HT9.out.f
        have lT := HT9.out.lt
        refine plan_store (w1 := wx) rfl (by rfl) (by go_simp; rw [HWX.out]) HSX.out ?_
        try simp only [Act.put, List.setIfInBounds_toArray, List.set_cons_zero, List.set_cons_succ, List.getElem_toArray, List.getElem_cons_zero, List.getElem_cons_succ]
        refine plan_nil ?_
        simp only [List.drop_succ_cons, List.drop_zero]
        clear cT fT lT HWX HT9 HSX
        have cT := HTX.out.c
        go_wp2_with fail
        exact bodyPost_ret (v := .tuple #[.agg #[.int .i64 O, .slice (some ⟨g, 0, none⟩) n c1], .int .i64 O, .int .i64 0]) (by simp [results, Tryz.results146, go_sem, *]) rfl (HFIN.out _ _ _ _ _ _ _ HOX.out HBX.out (HRL.out))
  · have hx : askX E k = 1 := (has_no hh).2.2.1
    have HH := Lib.hid hh
    clear hh
    have hq := HASK.out w2 HB2.out
    rw [hx] at hq
    have kA := HA2.out.c
    go_wp2_with fail
    refine hq.mono ?_
    rintro e w3 ⟨rfl, hb⟩
    have HK3 := Lib.hid (HK2.out.below hb)
    have HA3 := Lib.hid (HA2.out.below hb)
    have HT3 := Lib.hid (HT2.out.below hb)
    have HO3 := Lib.hid (own_below HO2.out hb)
    have HB3 : Hid (Below w.heap.size w w3) := Lib.hid (HB2.out.trans (hb.mono HB2.out.size))
    clear hb hq kA HK2 HA2 HT2 HO2 HB2 HASK
    clear hx HOT
    have kK := HK3.out.c
    have cT := HT3.out.c
    have fT := HT3.out.f
    have lT := HT3.out.lt
    go_wp2_with fail
    exact bodyPost_ret (v := .tuple #[.agg #[.int .i64 O, .slice p1 n c1], .int .i64 0, .int .i64 1]) (by simp [results, Tryz.results146, go_sem, *]) rfl (HFIN.out _ _ _ _ L _ _ (own_off (own_off HO3.out (fun g e => by have := (HO3.out.lt g e).1; omega) _ _) (fun g e => by have := (HO3.out.lt g e).1; omega) _ _) (set2_below HB3.out (by omega) _ _) (by
      obtain ⟨e1, e2, e3⟩ := read_no HH.out
      exact ⟨by rw [e1, HEO.out.1, HEO.out.2], e2, e3⟩))
end Go.Proofs.YtmeomdfmljanhaaGreat.Di
/- The program's Write, Back, New, Alone; no condition but that what is known reads. -/
namespace Go.Proofs.YtmeomdfmljanhaaGreat.Di
set_option linter.unusedVariables false
open Go.ChangeShapes Go.WideShapes Go.ChangeAt Go.RowKit

def setL : List Value → Nat → List Value → List Value
  | xs, _, [] => xs
  | xs, o, v :: vs => setL (xs.set o v) (o + 1) vs
theorem grown_trans {w w1 w2 : World} {row : Option Nat} (h : w.grownBy w1 row) (h2 : w1.grownBy w2 row) : w.grownBy w2 row :=
  ⟨h2.os.trans h.os, h2.tape.trans h.tape, h2.output.trans h.output, Nat.le_trans h.size h2.size, fun k hk hr => (h2.block k (Nat.lt_of_lt_of_le hk h.size) hr).trans (h.block k hk hr)⟩
theorem own_cells {w : World} {base : Nat} {g n cap : Nat} {xs : List Value} (vs : List Value) (o : Nat) (h : w.ownsRow base 4 1 (.slice (some ⟨g, 0, none⟩) n cap) n xs) :
    (w.setCells g o vs).ownsRow base 4 1 (.slice (some ⟨g, 0, none⟩) n cap) n (setL xs o vs) ∧ w.grownBy (w.setCells g o vs) (some g) := by
  induction vs generalizing w o xs with
  | nil => exact ⟨h, rfl, rfl, rfl, Nat.le_refl _, fun _ _ _ => rfl⟩
  | cons v vs ih =>
    have hs := h.stored o v
    have h2 := ih (o + 1) hs.1
    exact ⟨h2.1, grown_trans hs.2 h2.2⟩
theorem setL_rep (u : Value) (k : Nat) : ∀ (xs : List Value) (o : Nat), o + k = xs.length → (∀ j, j < o → xs[j]? = some u) → setL xs o (List.replicate k u) = List.replicate (o + k) u := by
  induction k with
  | zero =>
    intro xs o hl hj
    refine List.ext_getElem? (fun j => ?_)
    show xs[j]? = _
    by_cases h : j < o
    · rw [hj j h, List.getElem?_replicate, if_pos (by omega)]
    · rw [List.getElem?_eq_none (by omega), List.getElem?_replicate, if_neg (by omega)]
  | succ k ih =>
    intro xs o hl hj
    have := ih (xs.set o u) (o + 1) (by rw [List.length_set]; omega) (fun j hjo => by
      rw [List.getElem?_set]
      by_cases e : o = j
      · subst e; simp; omega
      · rw [if_neg e]; exact hj j (by omega))
    rw [show o + 1 + k = o + (k + 1) by omega] at this
    exact this
theorem own_clear {w : World} {base : Nat} {g n cap : Nat} {l : List Bool} (h : w.ownsRow base 4 1 (.slice (some ⟨g, 0, none⟩) n cap) n (boC l)) :
    (w.setCells g 0 (List.replicate n (.bool false))).ownsRow base 4 1 (.slice (some ⟨g, 0, none⟩) n cap) n (boC (List.replicate n false)) ∧ w.grownBy (w.setCells g 0 (List.replicate n (.bool false))) (some g) := by
  have hl : (boC l).length = n := by have := h.1; rw [Nat.mul_one] at this; exact this
  have hs := own_cells (List.replicate n (.bool false)) 0 h
  rw [setL_rep _ n (boC l) 0 (by omega) (fun j hj => absurd hj (Nat.not_lt_zero _)), Nat.zero_add, boC_rep] at hs
  rw [boC_rep]
  exact hs
theorem zero4 : ∀ w, (zeroValue 4).run Tryz.prog w = .ok (.bool false) w := by
  obtain ⟨i0, hi, hz0, hz1, hz2⟩ := info_parts info4
  intro w
  simp [zeroValue, typeInfo, hi, hz0]

set_option maxHeartbeats 2000000 in
set_option maxRecDepth 100000 in
theorem write_any (S : Nat → Prop) (v : Value) (E : En) (k : Int) (w : World) (h : Eo S w v E) (hS : ∀ R, S R → R < w.heap.size) : Calls Tryz.prog 145 #[v, .int .i64 k] w fun e w' => Out4 S w w' e (writeC E k) (readF E k) (writeT E k) (askX E k) := by
  have HASK := Lib.hid (fun W hW => asks_any S v E k W (h.below (w := w) (w' := W) hW))
  obtain ⟨p, n, c, rfl, hc, -⟩ := h
  have hn := hc.n100
  have HLEN := Lib.hid hc.len
  have HSS := Lib.hid hS
  have HCP := Lib.hid (fun W hW => copied_any p n c E W (hc.below (w := w) (w' := W) hW))
  have HOT := Lib.hid (fun W hW => others_any p n c E k W (hc.below (w := w) (w' := W) hW))
  have HFIN : Hid (∀ w' p' c' O' L' q d F T X, w'.ownsRow (w.heap.size + 2) 4 1 (.slice p' n c') n (boC L') → Below w.heap.size w w' → w'.ownsRow w.heap.size 3 1 (.slice q T.length d) T.length (inC T) → T.length ≤ 100 → writeC E k = ⟨O', L'⟩ ∧ readF E k = F ∧ askX E k = X ∧ writeT E k = T →
      Out4 S w w' (.returned (.tuple #[.agg #[.int .i64 O', .slice p' n c'], .int .i64 F, .slice q T.length d, .int .i64 X])) (writeC E k) (readF E k) (writeT E k) (askX E k)) := Lib.hid (fun w' p' c' O' L' q d F T X ho hb hq ht e => by
    rw [e.1, e.2.1, e.2.2.1, e.2.2.2]
    obtain ⟨q', d', e', hs⟩ := Sl.own hq
    injection e' with e1 e2 e3
    subst e1
    exact ⟨_, _, _, rfl, ⟨_, _, _, rfl, Ec.own (E := ⟨O', L'⟩) ho hn, fun R hR => own_offR ho (by have := hS R hR; omega)⟩, hs, fun R hR => own_offR hq (hS R hR), ht, hb⟩)
  obtain ⟨O, hO⟩ : ∃ O, O = E.owner := ⟨_, rfl⟩
  obtain ⟨L, hL⟩ : ∃ L, L = E.share := ⟨_, rfl⟩
  have HEO : Hid (E.owner = O ∧ E.share = L) := Lib.hid ⟨hO.symm, hL.symm⟩
  rw [← hO] at HCP HOT HASK ⊢
  rw [← hL] at HCP HLEN
  clear hO hL hc hS
  obtain ⟨w0, hw0⟩ : ∃ w0, w0 = (w.alloc (.cells #[.int .i64 O, .slice p n c] 65)).alloc (.cells #[.int .i64 0, .slice none 0 0] 65) := ⟨_, rfl⟩
  have HB0 : Hid (Below w.heap.size w w0) := Lib.hid (by rw [hw0]; exact ((Below.refl _ _).alloc (Nat.le_refl _) _).alloc (by simp) _)
  have HA0 : Hid (Blk w0 w.heap.size #[.int .i64 O, .slice p n c]) := Lib.hid (by rw [hw0]; exact (Blk.new _ _ _).alloc _)
  have HT0 : Hid (Blk w0 (w.heap.size + 1) #[.int .i64 0, .slice none 0 0]) := Lib.hid (by
    have := Blk.new (w.alloc (.cells #[.int .i64 O, .slice p n c] 65)) #[.int .i64 0, .slice none 0 0] 65
    rw [World.size_alloc] at this
    rw [hw0]; exact this)
  have HSZ : Hid (w0.heap.size = w.heap.size + 2) := Lib.hid (by rw [hw0, World.size_alloc, World.size_alloc])
  have HW0 := Lib.hid hw0
  clear hw0
  go_enter Tryz.func145, Tryz.ntmps145
  have kA := HA0.out.c
  go_upto_region 1 with fail
  rw [← HW0.out]
  clear HW0
  go_wp2_with fail
  refine (HCP.out w0 HB0.out).mono ?_
  rintro e w1 ⟨p1, c1, rfl, ho, hb⟩
  have HO1 : Hid (w1.ownsRow (w.heap.size + 2) 4 1 (.slice p1 n c1) n (boC L)) := Lib.hid (own_base ho (by rw [HSZ.out]; omega))
  have HA1 := Lib.hid (HA0.out.below hb)
  have HT1 := Lib.hid (HT0.out.below hb)
  have HB1 : Hid (Below w.heap.size w w1) := Lib.hid (HB0.out.trans (hb.mono HB0.out.size))
  have HGE : Hid (w.heap.size + 2 ≤ w1.heap.size) := Lib.hid (by rw [← HSZ.out]; exact hb.size)
  clear ho hb kA HA0 HT0 HB0 HSZ HCP
  go_upto_region 2 with fail
  obtain ⟨bo, hbo⟩ : ∃ b, b = w1.heap.size := ⟨_, rfl⟩
  obtain ⟨w2, hw2⟩ : ∃ z, z = w1.alloc (.cells #[.int .i64 O, .slice p1 n c1] 65) := ⟨_, rfl⟩
  have HBA : Hid (Below w1.heap.size w1 w2) := Lib.hid (by rw [hw2]; exact (Below.refl _ _).alloc (Nat.le_refl _) _)
  have HK2 : Hid (Blk w2 bo #[.int .i64 O, .slice p1 n c1]) := Lib.hid (by rw [hw2, hbo]; exact Blk.new _ _ _)
  have HA2 := Lib.hid (HA1.out.below HBA.out)
  have HT2 := Lib.hid (HT1.out.below HBA.out)
  have HO2 := Lib.hid (own_below HO1.out HBA.out)
  have HB2 : Hid (Below w.heap.size w w2) := Lib.hid (HB1.out.trans (HBA.out.mono HB1.out.size))
  have HNE : Hid (∀ g, (Value.slice p1 n c1).ownBlock = some g → g ≠ bo) := Lib.hid (fun g e => by have := (HO1.out.lt g e).2; omega)
  rw [← hbo] at HGE
  rw [← hw2, ← hbo]
  clear hw2 hbo HA1 HT1 HO1 HB1 HBA
  by_cases hh : hasE E k = true
  · obtain ⟨kk, rfl, hkn⟩ := has_nat (n := n) hh (by rw [HEO.out.2]; exact HLEN.out)
    have hx : askX E (kk : Int) = 0 := (has_yes hh).2.1
    have HRL : Hid (writeC E (kk : Int) = ⟨(kk : Int) + 1, List.replicate n false⟩ ∧ readF E (kk : Int) = O ∧ askX E (kk : Int) = 0 ∧ writeT E (kk : Int) = othE E (kk : Int)) := Lib.hid (by
      obtain ⟨e1, e2, e3, e4⟩ := write_yes hh
      exact ⟨by rw [e1, HEO.out.2, HLEN.out], by rw [e2, HEO.out.1], e3, e4⟩)
    have HTL : Hid ((othE E (kk : Int)).length ≤ 100) := Lib.hid (by
      have := oth_le E.share (kk : Int) E.share.length
      unfold othE
      rw [HEO.out.2, HLEN.out] at this ⊢
      omega)
    obtain ⟨g, hg, -, -, hg2, -⟩ := own_go HO2.out (by omega)
    subst hg
    have HGG : Hid (w.heap.size + 2 ≤ g) := Lib.hid hg2
    clear hh hg2
    have hq := HASK.out w2 HB2.out
    rw [hx] at hq
    have kA := HA2.out.c
    go_wp2_with fail
    refine hq.mono ?_
    rintro e w3 ⟨rfl, hb⟩
    have HK3 := Lib.hid (HK2.out.below hb)
    have HA3 := Lib.hid (HA2.out.below hb)
    have HT3 := Lib.hid (HT2.out.below hb)
    have HO3 := Lib.hid (own_below HO2.out hb)
    have HB3 : Hid (Below w.heap.size w w3) := Lib.hid (HB2.out.trans (hb.mono HB2.out.size))
    clear hb hq kA HK2 HA2 HT2 HO2 HB2 HASK
    clear hx
    have HGB : Hid (g ≠ bo) := Lib.hid (HNE.out g rfl)
    have hkI : (kk : Int) < (n : Int) := by omega
    have hk1 : wrap64 ((kk : Int) + 1) = (kk : Int) + 1 := by unfold wrap64; omega
    obtain ⟨T, hT⟩ : ∃ T, T = othE E (kk : Int) := ⟨_, rfl⟩
    rw [← hT] at HRL HTL HOT
    clear hT
    have kK := HK3.out.c
    have fK := HK3.out.f
    have lK := HK3.out.lt
    go_upto_region 6 with fail
    obtain ⟨w4, hw4⟩ : ∃ z, z = w3.setCell ⟨bo, 0, none⟩ (.int .i64 ((kk : Int) + 1)) := ⟨_, rfl⟩
    have HK4 : Hid (Blk w4 bo #[.int .i64 ((kk : Int) + 1), .slice (some ⟨g, 0, none⟩) n c1]) := Lib.hid (by rw [hw4]; exact HK3.out.set (n := 0) _ (by simp))
    have HA4 : Hid (Blk w4 w.heap.size #[.int .i64 O, .slice p n c]) := Lib.hid (by rw [hw4]; exact HA3.out.other _ (by have := HGE.out; omega))
    have HT4 : Hid (Blk w4 (w.heap.size + 1) #[.int .i64 0, .slice none 0 0]) := Lib.hid (by rw [hw4]; exact HT3.out.other _ (by have := HGE.out; omega))
    have HO4 : Hid (w4.ownsRow (w.heap.size + 2) 4 1 (.slice (some ⟨g, 0, none⟩) n c1) n (boC L)) := Lib.hid (by rw [hw4]; exact own_off HO3.out (fun b e => by injection e with e; have e2 : g = b := e; have := HGB.out; omega) _ _)
    have HB4 : Hid (Below w.heap.size w w4) := Lib.hid (by rw [hw4]; exact HB3.out.setCell (p := ⟨bo, 0, none⟩) (by show w.heap.size ≤ bo; have := HGE.out; omega) _)
    rw [← hw4]
    clear hw4 kK fK lK HK3 HA3 HT3 HO3 HB3
    have kK := HK4.out.c
    have hcl : ∀ ty, (Builtin.clear_ #[63] ty #[.slice (some ⟨g, 0, none⟩) n c1]).run Tryz.prog w4 = .ok (.tuple #[]) (w4.setCells g 0 (List.replicate n (.bool false))) :=
      fun ty => Lib.run_clear_slice w4 _ _ ty _ Tryz.underlying63 zero4 rfl rfl g 0 n c1 (by omega) (fun t ht => by rw [Nat.zero_add, HO4.out.cellAt t (by omega), boC_at L t (by rw [HLEN.out]; exact ht)]; rfl) (fun t _ => by rw [Nat.zero_add]; exact HO4.out.frozenAt t)
    obtain ⟨hc1, hc2⟩ := own_clear HO4.out
    go_upto_region 7 with fail
    obtain ⟨w5, hw5⟩ : ∃ z, z = w4.setCells g 0 (List.replicate n (.bool false)) := ⟨_, rfl⟩
    rw [← hw5] at hc1 hc2 ⊢
    have HO5 := Lib.hid hc1
    have HK5 := Lib.hid (HK4.out.grown hc2 (fun e => by injection e with e; exact HGB.out e))
    have HA5 := Lib.hid (HA4.out.grown hc2 (fun e => by injection e with e; have := HGG.out; omega))
    have HT5 := Lib.hid (HT4.out.grown hc2 (fun e => by injection e with e; have := HGG.out; omega))
    have HB5 : Hid (Below w.heap.size w w5) := Lib.hid (HB4.out.grown hc2 HB4.out.size (fun b e => by injection e with e; have := HGG.out; omega))
    clear hc1 hc2 hw5 hcl kK HK4 HA4 HT4 HO4 HB4
    have HS7 : Hid (∀ W, Below w5.heap.size w5 W → (∀ t, W.cell? ⟨bo, t, none⟩ = (#[.int .i64 ((kk : Int) + 1), .slice (some ⟨g, 0, none⟩) n c1] : Array Value)[t]?) ∧ ∀ t, W.cell? ⟨w.heap.size, t, none⟩ = (#[.int .i64 O, .slice p n c] : Array Value)[t]?) := Lib.hid (fun W hW => ⟨(HK5.out.below hW).c, (HA5.out.below hW).c⟩)
    refine region_plan (fun W : World => (∀ t, W.cell? ⟨bo, t, none⟩ = (#[.int .i64 ((kk : Int) + 1), .slice (some ⟨g, 0, none⟩) n c1] : Array Value)[t]?) ∧ ∀ t, W.cell? ⟨w.heap.size, t, none⟩ = (#[.int .i64 O, .slice p n c] : Array Value)[t]?) 7 [(0, true), (1, true), (2, true), (3, true), (4, true), (5, false), (6, false)] (by kernel_rfl) (by kernel_rfl) (HS7.out _ (Below.refl _ _).drew) ?_
    iterate 5
      refine plan_read (v := ?_) rfl (by rfl) ?_ ?_
      rotate_left
      · intro w' hS
        try dsimp only at hS
        obtain ⟨hS1, hS2⟩ := hS
        go_simp
        try with_reducible rfl
      try simp only [Act.put, List.setIfInBounds_toArray, List.set_cons_zero, List.set_cons_succ, List.getElem_toArray, List.getElem_cons_zero, List.getElem_cons_succ]
    refine plan_call (F := 153) (args := ?_) rfl (by rfl) ?_ ?_
    rotate_left
    · go_simp
      rfl
    refine (HOT.out w5.drew HB5.out.drew).mono ?_
    rintro e w6 ⟨q, d, rfl, hq, hb⟩
    have HB56 : Hid (Below w5.heap.size w5 w6) := Lib.hid ((Below.refl _ _).drew.trans hb)
    have HQ6 : Hid (w6.ownsRow (w.heap.size + 2) 3 1 (.slice q T.length d) T.length (inC T)) := Lib.hid (own_base hq (by show w.heap.size + 2 ≤ w5.heap.size + 1; have := HT5.out.lt; omega))
    clear hq hb
    refine ⟨_, rfl, HS7.out _ HB56.out, ?_⟩
    try simp only [Act.put, List.setIfInBounds_toArray, List.set_cons_zero, List.set_cons_succ, List.getElem_toArray, List.getElem_cons_zero, List.getElem_cons_succ]
    have HK6 := Lib.hid (HK5.out.below HB56.out)
    have HA6 := Lib.hid (HA5.out.below HB56.out)
    have HT6 := Lib.hid (HT5.out.below HB56.out)
    have HO6 := Lib.hid (own_below HO5.out HB56.out)
    have HB6 : Hid (Below w.heap.size w w6) := Lib.hid (HB5.out.trans (HB56.out.mono HB5.out.size))
    clear HS7 HK5 HA5 HT5 HO5 HB5 HB56
    obtain ⟨wx, hwx⟩ : ∃ z, z = (w6.setCell ⟨w.heap.size + 1, 0, none⟩ (.int .i64 ((kk : Int) + 1))).setCell ⟨w.heap.size + 1, 1, none⟩ (.slice (some ⟨g, 0, none⟩) n c1) := ⟨_, rfl⟩
    have HSX : Hid ((∀ t, wx.cell? ⟨bo, t, none⟩ = (#[.int .i64 ((kk : Int) + 1), .slice (some ⟨g, 0, none⟩) n c1] : Array Value)[t]?) ∧ ∀ t, wx.cell? ⟨w.heap.size, t, none⟩ = (#[.int .i64 O, .slice p n c] : Array Value)[t]?) := Lib.hid (by rw [hwx]; exact ⟨(set2_other HK6.out (by have := HGE.out; omega) _ _).c, (set2_other HA6.out (by omega) _ _).c⟩)
    have HTX : Hid (Blk wx (w.heap.size + 1) #[.int .i64 ((kk : Int) + 1), .slice (some ⟨g, 0, none⟩) n c1]) := Lib.hid (by rw [hwx]; exact set2_same HT6.out _ _)
    have HBX : Hid (Below w.heap.size w wx) := Lib.hid (by rw [hwx]; exact set2_below HB6.out (by omega) _ _)
    have HOX : Hid (wx.ownsRow (w.heap.size + 2) 4 1 (.slice (some ⟨g, 0, none⟩) n c1) n (boC (List.replicate n false))) := Lib.hid (by rw [hwx]; exact own_off (own_off HO6.out (fun b e => by injection e with e; have e2 : g = b := e; have := HGG.out; omega) _ _) (fun b e => by injection e with e; have e2 : g = b := e; have := HGG.out; omega) _ _)
    have HQX : Hid (wx.ownsRow (w.heap.size + 2) 3 1 (.slice q T.length d) T.length (inC T)) := Lib.hid (by rw [hwx]; exact own_off (own_off HQ6.out (fun b e => by have := (HQ6.out.lt b e).1; omega) _ _) (fun b e => by have := (HQ6.out.lt b e).1; omega) _ _)
    have HWX := Lib.hid hwx
    clear hwx HK6 HA6 HO6 HB6 HQ6
    have cT := HT6.out.c
    have fT := HT6.out.f
    have lT := HT6.out.lt
    refine plan_store (w1 := wx) rfl (by rfl) (by go_simp; rw [HWX.out]) HSX.out ?_
    try simp only [Act.put, List.setIfInBounds_toArray, List.set_cons_zero, List.set_cons_succ, List.getElem_toArray, List.getElem_cons_zero, List.getElem_cons_succ]
    refine plan_nil ?_
    simp only [List.drop_succ_cons, List.drop_zero]
    clear cT fT lT HWX HT6 HSX
    have cT := HTX.out.c
    go_wp2_with fail
    exact bodyPost_ret (v := .tuple #[.agg #[.int .i64 ((kk : Int) + 1), .slice (some ⟨g, 0, none⟩) n c1], .int .i64 O, .slice q T.length d, .int .i64 0]) (by simp [results, Tryz.results145, go_sem, *]) rfl (HFIN.out _ _ _ _ _ _ _ _ T _ HOX.out HBX.out (own_base HQX.out (by omega)) HTL.out HRL.out)
  · have hx : askX E k = 1 := (has_no hh).2.2.1
    have HH := Lib.hid hh
    clear hh
    have hq := HASK.out w2 HB2.out
    rw [hx] at hq
    have kA := HA2.out.c
    go_wp2_with fail
    refine hq.mono ?_
    rintro e w3 ⟨rfl, hb⟩
    have HK3 := Lib.hid (HK2.out.below hb)
    have HA3 := Lib.hid (HA2.out.below hb)
    have HT3 := Lib.hid (HT2.out.below hb)
    have HO3 := Lib.hid (own_below HO2.out hb)
    have HB3 : Hid (Below w.heap.size w w3) := Lib.hid (HB2.out.trans (hb.mono HB2.out.size))
    clear hb hq kA HK2 HA2 HT2 HO2 HB2 HASK
    clear hx HOT
    have kK := HK3.out.c
    have cT := HT3.out.c
    have fT := HT3.out.f
    have lT := HT3.out.lt
    go_wp2_with fail
    exact bodyPost_ret (v := .tuple #[.agg #[.int .i64 O, .slice p1 n c1], .int .i64 0, .slice none 0 0, .int .i64 1]) (by simp [results, Tryz.results145, go_sem, *]) rfl (HFIN.out _ _ _ _ L _ _ _ [] _ (own_off (own_off HO3.out (fun g e => by have := (HO3.out.lt g e).1; omega) _ _) (fun g e => by have := (HO3.out.lt g e).1; omega) _ _) (set2_below HB3.out (by omega) _ _) (World.ownsRow_nil _ _ _ _) (Nat.zero_le _) (by
      obtain ⟨e1, e2, e3, e4⟩ := write_no HH.out
      exact ⟨by rw [e1, HEO.out.1, HEO.out.2], e2, e3, e4⟩))

set_option maxHeartbeats 2000000 in
set_option maxRecDepth 100000 in
theorem back_any (S : Nat → Prop) (v : Value) (E : En) (k : Int) (w : World) (h : Eo S w v E) (hS : ∀ R, S R → R < w.heap.size) : Calls Tryz.prog 134 #[v, .int .i64 k] w fun e w' => Out2 S w w' e (backC E k) (backX E k) := by
  have HASK := Lib.hid (fun W hW => asks_any S v E k W (h.below (w := w) (w' := W) hW))
  obtain ⟨p, n, c, rfl, hc, -⟩ := h
  have hn := hc.n100
  have HLEN := Lib.hid hc.len
  have HSS := Lib.hid hS
  have HCP := Lib.hid (fun W hW => copied_any p n c E W (hc.below (w := w) (w' := W) hW))
  have HOT := Lib.hid (fun W hW => others_any p n c E k W (hc.below (w := w) (w' := W) hW))
  clear HOT
  have HFIN : Hid (∀ w' p' c' O' L' X, w'.ownsRow (w.heap.size + 2) 4 1 (.slice p' n c') n (boC L') → Below w.heap.size w w' → backC E k = ⟨O', L'⟩ ∧ backX E k = X →
      Out2 S w w' (.returned (.tuple #[.agg #[.int .i64 O', .slice p' n c'], .int .i64 X])) (backC E k) (backX E k)) := Lib.hid (fun w' p' c' O' L' X ho hb e => by
    rw [e.1, e.2]
    exact ⟨_, rfl, ⟨_, _, _, rfl, Ec.own (E := ⟨O', L'⟩) ho hn, fun R hR => own_offR ho (by have := hS R hR; omega)⟩, hb⟩)
  obtain ⟨O, hO⟩ : ∃ O, O = E.owner := ⟨_, rfl⟩
  obtain ⟨L, hL⟩ : ∃ L, L = E.share := ⟨_, rfl⟩
  have HEO : Hid (E.owner = O ∧ E.share = L) := Lib.hid ⟨hO.symm, hL.symm⟩
  rw [← hO] at HCP HASK ⊢
  rw [← hL] at HCP HLEN
  clear hO hL hc hS
  obtain ⟨w0, hw0⟩ : ∃ w0, w0 = (w.alloc (.cells #[.int .i64 O, .slice p n c] 65)).alloc (.cells #[.int .i64 0, .slice none 0 0] 65) := ⟨_, rfl⟩
  have HB0 : Hid (Below w.heap.size w w0) := Lib.hid (by rw [hw0]; exact ((Below.refl _ _).alloc (Nat.le_refl _) _).alloc (by simp) _)
  have HA0 : Hid (Blk w0 w.heap.size #[.int .i64 O, .slice p n c]) := Lib.hid (by rw [hw0]; exact (Blk.new _ _ _).alloc _)
  have HT0 : Hid (Blk w0 (w.heap.size + 1) #[.int .i64 0, .slice none 0 0]) := Lib.hid (by
    have := Blk.new (w.alloc (.cells #[.int .i64 O, .slice p n c] 65)) #[.int .i64 0, .slice none 0 0] 65
    rw [World.size_alloc] at this
    rw [hw0]; exact this)
  have HSZ : Hid (w0.heap.size = w.heap.size + 2) := Lib.hid (by rw [hw0, World.size_alloc, World.size_alloc])
  have HW0 := Lib.hid hw0
  clear hw0
  go_enter Tryz.func134, Tryz.ntmps134
  have kA := HA0.out.c
  go_upto_region 1 with fail
  rw [← HW0.out]
  clear HW0
  go_wp2_with fail
  refine (HCP.out w0 HB0.out).mono ?_
  rintro e w1 ⟨p1, c1, rfl, ho, hb⟩
  have HO1 : Hid (w1.ownsRow (w.heap.size + 2) 4 1 (.slice p1 n c1) n (boC L)) := Lib.hid (own_base ho (by rw [HSZ.out]; omega))
  have HA1 := Lib.hid (HA0.out.below hb)
  have HT1 := Lib.hid (HT0.out.below hb)
  have HB1 : Hid (Below w.heap.size w w1) := Lib.hid (HB0.out.trans (hb.mono HB0.out.size))
  have HGE : Hid (w.heap.size + 2 ≤ w1.heap.size) := Lib.hid (by rw [← HSZ.out]; exact hb.size)
  clear ho hb kA HA0 HT0 HB0 HSZ HCP
  go_upto_region 2 with fail
  obtain ⟨bo, hbo⟩ : ∃ b, b = w1.heap.size := ⟨_, rfl⟩
  obtain ⟨w2, hw2⟩ : ∃ z, z = w1.alloc (.cells #[.int .i64 O, .slice p1 n c1] 65) := ⟨_, rfl⟩
  have HBA : Hid (Below w1.heap.size w1 w2) := Lib.hid (by rw [hw2]; exact (Below.refl _ _).alloc (Nat.le_refl _) _)
  have HK2 : Hid (Blk w2 bo #[.int .i64 O, .slice p1 n c1]) := Lib.hid (by rw [hw2, hbo]; exact Blk.new _ _ _)
  have HA2 := Lib.hid (HA1.out.below HBA.out)
  have HT2 := Lib.hid (HT1.out.below HBA.out)
  have HO2 := Lib.hid (own_below HO1.out HBA.out)
  have HB2 : Hid (Below w.heap.size w w2) := Lib.hid (HB1.out.trans (HBA.out.mono HB1.out.size))
  have HNE : Hid (∀ g, (Value.slice p1 n c1).ownBlock = some g → g ≠ bo) := Lib.hid (fun g e => by have := (HO1.out.lt g e).2; omega)
  rw [← hbo] at HGE
  rw [← hw2, ← hbo]
  clear hw2 hbo HA1 HT1 HO1 HB1 HBA
  by_cases hh : hasE E k = true
  · obtain ⟨kk, rfl, hkn⟩ := has_nat (n := n) hh (by rw [HEO.out.2]; exact HLEN.out)
    have hx : askX E (kk : Int) = 0 := (has_yes hh).2.1
    have HH := Lib.hid hh
    clear hh
    have hq := HASK.out w2 HB2.out
    rw [hx] at hq
    have kA := HA2.out.c
    go_wp2_with fail
    refine hq.mono ?_
    rintro e w3 ⟨rfl, hb⟩
    have HK3 := Lib.hid (HK2.out.below hb)
    have HA3 := Lib.hid (HA2.out.below hb)
    have HT3 := Lib.hid (HT2.out.below hb)
    have HO3 := Lib.hid (own_below HO2.out hb)
    have HB3 : Hid (Below w.heap.size w w3) := Lib.hid (HB2.out.trans (hb.mono HB2.out.size))
    clear hb hq kA HK2 HA2 HT2 HO2 HB2 HASK
    clear hx
    have hk1 : wrap64 ((kk : Int) + 1) = (kk : Int) + 1 := by unfold wrap64; omega
    have kA := HA3.out.c
    have kK := HK3.out.c
    have cT := HT3.out.c
    have fT := HT3.out.f
    have lT := HT3.out.lt
    by_cases ho : O = (kk : Int) + 1
    · have d2 : (O != ((kk : Int) + 1)) = false := by simp [ho]
      have HRL : Hid (backC E (kk : Int) = ⟨0, L⟩ ∧ backX E (kk : Int) = 0) := Lib.hid (by
        obtain ⟨e1, e2, _⟩ := back_yes HH.out (HEO.out.1.trans ho)
        exact ⟨by rw [e1, HEO.out.2], e2⟩)
      clear ho
      have fK := HK3.out.f
      have lK := HK3.out.lt
      go_upto_region 8 with fail
      obtain ⟨w4, hw4⟩ : ∃ z, z = w3.setCell ⟨bo, 0, none⟩ (.int .i64 0) := ⟨_, rfl⟩
      have HK4 : Hid (Blk w4 bo #[.int .i64 0, .slice p1 n c1]) := Lib.hid (by rw [hw4]; exact HK3.out.set (n := 0) _ (by simp))
      have HT4 : Hid (Blk w4 (w.heap.size + 1) #[.int .i64 0, .slice none 0 0]) := Lib.hid (by rw [hw4]; exact HT3.out.other _ (by have := HGE.out; omega))
      have HO4 : Hid (w4.ownsRow (w.heap.size + 2) 4 1 (.slice p1 n c1) n (boC L)) := Lib.hid (by rw [hw4]; exact own_off HO3.out (fun b e => HNE.out b e) _ _)
      have HB4 : Hid (Below w.heap.size w w4) := Lib.hid (by rw [hw4]; exact HB3.out.setCell (p := ⟨bo, 0, none⟩) (by show w.heap.size ≤ bo; have := HGE.out; omega) _)
      rw [← hw4]
      clear hw4 kK fK lK kA cT fT lT HK3 HA3 HT3 HO3 HB3
      have kK := HK4.out.c
      have cT := HT4.out.c
      have fT := HT4.out.f
      have lT := HT4.out.lt
      go_wp2_with fail
      exact bodyPost_ret (v := .tuple #[.agg #[.int .i64 0, .slice p1 n c1], .int .i64 0]) (by simp [results, Tryz.results134, go_sem, *]) rfl (HFIN.out _ _ _ _ L _ (own_off (own_off HO4.out (fun g e => by have := (HO4.out.lt g e).1; omega) _ _) (fun g e => by have := (HO4.out.lt g e).1; omega) _ _) (set2_below HB4.out (by omega) _ _) (HRL.out))
    · have d2 : (O != ((kk : Int) + 1)) = true := by simp [ho]
      have HRL : Hid (backC E (kk : Int) = ⟨O, L⟩ ∧ backX E (kk : Int) = 7) := Lib.hid (by
        obtain ⟨e1, e2, _⟩ := back_not HH.out (by rw [HEO.out.1]; exact ho)
        exact ⟨by rw [e1, HEO.out.1, HEO.out.2], e2⟩)
      clear ho
      go_wp2_with fail
      exact bodyPost_ret (v := .tuple #[.agg #[.int .i64 O, .slice p1 n c1], .int .i64 7]) (by simp [results, Tryz.results134, go_sem, *]) rfl (HFIN.out _ _ _ _ L _ (own_off (own_off HO3.out (fun g e => by have := (HO3.out.lt g e).1; omega) _ _) (fun g e => by have := (HO3.out.lt g e).1; omega) _ _) (set2_below HB3.out (by omega) _ _) (HRL.out))
  · have hx : askX E k = 1 := (has_no hh).2.2.1
    have HH := Lib.hid hh
    clear hh
    have hq := HASK.out w2 HB2.out
    rw [hx] at hq
    have kA := HA2.out.c
    go_wp2_with fail
    refine hq.mono ?_
    rintro e w3 ⟨rfl, hb⟩
    have HK3 := Lib.hid (HK2.out.below hb)
    have HA3 := Lib.hid (HA2.out.below hb)
    have HT3 := Lib.hid (HT2.out.below hb)
    have HO3 := Lib.hid (own_below HO2.out hb)
    have HB3 : Hid (Below w.heap.size w w3) := Lib.hid (HB2.out.trans (hb.mono HB2.out.size))
    clear hb hq kA HK2 HA2 HT2 HO2 HB2 HASK
    clear hx
    have kK := HK3.out.c
    have cT := HT3.out.c
    have fT := HT3.out.f
    have lT := HT3.out.lt
    go_wp2_with fail
    exact bodyPost_ret (v := .tuple #[.agg #[.int .i64 O, .slice p1 n c1], .int .i64 1]) (by simp [results, Tryz.results134, go_sem, *]) rfl (HFIN.out _ _ _ _ L _ (own_off (own_off HO3.out (fun g e => by have := (HO3.out.lt g e).1; omega) _ _) (fun g e => by have := (HO3.out.lt g e).1; omega) _ _) (set2_below HB3.out (by omega) _ _) (by
      obtain ⟨e1, e2, _⟩ := back_no HH.out
      exact ⟨by rw [e1, HEO.out.1, HEO.out.2], e2⟩))

set_option maxHeartbeats 2000000 in
theorem new_any (n : Int) (w : World) : Calls Tryz.prog 60 #[.int .i64 n] w fun e w' => Out2 (fun R => R < w.heap.size) w w' e (newC n) (newX n) := by
  have HM := Lib.hid (fun W => mayBe_any n W)
  obtain ⟨b, hb⟩ : ∃ b, b = mayN n := ⟨_, rfl⟩
  have HC : Hid (newC n = if b = true then ⟨0, List.replicate n.toNat false⟩ else ⟨0, []⟩) := Lib.hid (by rw [hb]; rfl)
  have HE : Hid (newX n = if b = true then 0 else 1) := Lib.hid (by rw [hb]; rfl)
  rw [← hb] at HM
  have HN : Hid (b = true → 1 ≤ n ∧ n ≤ 4) := Lib.hid (fun e => by rw [hb] at e; exact mayN_iff.1 e)
  obtain ⟨C, hC⟩ : ∃ C, C = newC n := ⟨_, rfl⟩
  obtain ⟨E, hE⟩ : ∃ E, E = newX n := ⟨_, rfl⟩
  rw [← hC] at HC ⊢
  rw [← hE] at HE ⊢
  clear hC hE hb
  obtain ⟨i0, hi, hz0, hz1, hz2⟩ := info_parts info4
  have HI := Lib.hid (And.intro hi (And.intro hz0 (And.intro hz1 hz2)))
  clear hi hz0 hz1 hz2
  have HB0 : Hid (Below w.heap.size w (w.alloc (.cells #[.int .i64 0, .slice none 0 0] 65))) := Lib.hid ((Below.refl _ _).alloc (Nat.le_refl _) _)
  have HK0 : Hid (Blk (w.alloc (.cells #[.int .i64 0, .slice none 0 0] 65)) w.heap.size #[.int .i64 0, .slice none 0 0]) := Lib.hid (Blk.new _ _ _)
  go_enter Tryz.func60, Tryz.ntmps60
  go_wp2_with fail
  refine (HM.out _).mono ?_
  rintro e w' ⟨rfl, rfl⟩
  cases b with
  | false =>
    have hC : C = ⟨0, []⟩ := HC.out
    have hE : E = 1 := HE.out
    subst hC hE
    clear HC HE HN HI HM
    go_wp2_with fail
    exact bodyPost_ret (v := .tuple #[.agg #[.int .i64 0, .slice none 0 0], .int .i64 1]) (by simp [results, Tryz.results60, go_sem]) rfl ⟨_, rfl, ⟨none, 0, 0, rfl, ⟨rfl, Sl.empty _ _ _, Nat.le_refl _, by decide⟩, fun R _ h => absurd h (by decide)⟩, HB0.out⟩
  | true =>
    obtain ⟨h1, h4⟩ := HN.out rfl
    obtain ⟨N, rfl⟩ := Int.eq_ofNat_of_zero_le (show 0 ≤ n by omega)
    have hC : C = ⟨0, List.replicate N false⟩ := HC.out
    have hE : E = 0 := HE.out
    subst hC hE
    have hN4 : N ≤ 4 := by omega
    have hN1 : 1 ≤ N := by omega
    clear HC HE HN HM h1 h4
    obtain ⟨w0, hw0⟩ : ∃ w0, w0 = w.alloc (.cells #[.int .i64 0, .slice none 0 0] 65) := ⟨_, rfl⟩
    have HSZ : Hid (w0.heap.size = w.heap.size + 1) := Lib.hid (by rw [hw0]; exact World.size_alloc _ _)
    rw [← hw0] at HB0 HK0 ⊢
    clear hw0
    go_wp2_with (first | (refine wpList_make_full _ rfl _ _ 63 rfl w0.heap.size 4 i0 (.bool false) 1 Tryz.underlying63 HI.out.1 HI.out.2.1 HI.out.2.2.1 .i64 .i64 N N N rfl rfl rfl rfl (by rw [HI.out.2.2.2]; omega) (by unfold maxLen; omega) (Nat.le_refl _) ?_))
    intro w1 g1 g2
    have e1 : (madeCells #[Value.bool false] N).toList = List.replicate N (.bool false) := toList_madeCells_one _ _
    have HO : Hid (w1.ownsRow w0.heap.size 4 1 (.slice (some ⟨w0.heap.size, 0, none⟩) N N) N (boC (List.replicate N false))) := Lib.hid (by rw [← boC_rep, ← e1]; exact g1)
    have HB1 : Hid (Below w0.heap.size w0 w1) := Lib.hid ((Below.refl _ _).grown g2 (Nat.le_refl _) (fun k hk => by cases hk))
    have HK1 := Lib.hid (HK0.out.below HB1.out)
    have HBW : Hid (Below w.heap.size w w1) := Lib.hid (HB0.out.trans (HB1.out.mono HB0.out.size))
    obtain ⟨g, hg⟩ : ∃ g, g = w0.heap.size := ⟨_, rfl⟩
    have HG : Hid (g = w.heap.size + 1) := Lib.hid (by rw [hg]; exact HSZ.out)
    rw [← hg] at HO ⊢
    clear g1 g2 e1 hg HB1 HK0 HSZ HB0
    have cK := HK1.out.c
    have fK := HK1.out.f
    have lK := HK1.out.lt
    go_wp2_with fail
    refine bodyPost_ret (v := .tuple #[.agg #[.int .i64 0, .slice (some ⟨g, 0, none⟩) N N], .int .i64 0]) (by simp [results, Tryz.results60, go_sem, *]) rfl ⟨_, rfl, ⟨some ⟨g, 0, none⟩, N, N, rfl, ?_, fun R (hR : R < w.heap.size) _ a e => ?_⟩, ?_⟩
    · exact Ec.own (E := ⟨0, List.replicate N false⟩) (own_off (own_off HO.out (fun b e => by injection e with e; have e2 : g = b := e; have := HG.out; omega) _ _) (fun b e => by injection e with e; have e2 : g = b := e; have := HG.out; omega) _ _) (by omega)
    · injection e with e
      subst e
      show g ≠ R
      have := HG.out
      omega
    · exact set2_below HBW.out (Nat.le_refl _) _ _

set_option maxHeartbeats 2000000 in
theorem alone_any (S : Nat → Prop) (v : Value) (E : En) (w : World) (h : Eo S w v E) : Calls Tryz.prog 147 #[v] w fun e w' => e = .returned (.bool (aloneE E)) ∧ Below w.heap.size w w' := by
  have HM := Lib.hid (fun W hW => may_any S v E (E.share.length : Int) W (h.below (w := w) (w' := W) hW))
  obtain ⟨p, n, c, rfl, hc, -⟩ := h
  have HCO := Lib.hid (fun W hW => contains_any p n c E.share W hc.len (hc.sl.below (w := w) (w' := W) hW) hc.n100)
  have HR : Hid (aloneE E = (mayE E (n : Int) && (decide (0 < E.owner) && !(E.share.contains true)))) := Lib.hid (by unfold aloneE; rw [hc.len])
  rw [hc.len] at HM
  obtain ⟨r, hr⟩ : ∃ r, r = aloneE E := ⟨_, rfl⟩
  rw [← hr] at HR ⊢
  obtain ⟨O, hO⟩ : ∃ O, O = E.owner := ⟨_, rfl⟩
  rw [← hO] at HM HR ⊢
  obtain ⟨m, hm⟩ : ∃ m, m = mayE E (n : Int) := ⟨_, rfl⟩
  rw [← hm] at HM HR
  obtain ⟨t, ht⟩ : ∃ t, t = E.share.contains true := ⟨_, rfl⟩
  rw [← ht] at HCO HR
  clear hr hO hc hm ht
  obtain ⟨w0, hw0⟩ : ∃ w0, w0 = w.alloc (.cells #[.int .i64 O, .slice p n c] 65) := ⟨_, rfl⟩
  have HB0 : Hid (Below w.heap.size w w0) := Lib.hid (by rw [hw0]; exact (Below.refl _ _).alloc (Nat.le_refl _) _)
  have HA0 : Hid (Blk w0 w.heap.size #[.int .i64 O, .slice p n c]) := Lib.hid (by rw [hw0]; exact Blk.new _ _ _)
  have HW0 := Lib.hid hw0
  have HQ := Lib.hid (HM.out w0 HB0.out)
  clear hw0 HM
  go_enter Tryz.func147, Tryz.ntmps147
  have kA := HA0.out.c
  go_upto_region 1 with fail
  rw [← HW0.out]
  clear HW0
  cases m with
  | false =>
    have e : r = false := HR.out
    subst e
    clear HR
    go_wp2_with fail
    refine HQ.out.mono ?_
    rintro e w1 ⟨rfl, hb1⟩
    have HB1 : Hid (Below w.heap.size w w1) := Lib.hid (HB0.out.trans (hb1.mono HB0.out.size))
    clear hb1 kA HA0 HQ HB0
    go_wp2_with fail
    go_ret
    exact ⟨rfl, HB1.out⟩
  | true =>
    by_cases h1 : 0 < O
    · have d1 : decide (0 < O) = true := decide_eq_true h1
      have e : r = !t := by rw [HR.out, d1]; rfl
      subst e
      clear HR h1
      go_wp2_with fail
      refine HQ.out.mono ?_
      rintro e w1 ⟨rfl, hb1⟩
      have HB1 : Hid (Below w.heap.size w w1) := Lib.hid (HB0.out.trans (hb1.mono HB0.out.size))
      have HA1 := Lib.hid (HA0.out.below hb1)
      clear hb1 kA HA0 HQ HB0
      have kA := HA1.out.c
      have hq := HCO.out w1 HB1.out
      go_wp2_with fail
      refine hq.mono ?_
      rintro e w2 ⟨rfl, hb2⟩
      have HB2 : Hid (Below w.heap.size w w2) := Lib.hid (HB1.out.trans (hb2.mono HB1.out.size))
      clear hb2 kA HA1 HB1 hq
      go_wp2_with fail
      go_ret
      exact ⟨rfl, HB2.out⟩
    · have d1 : decide (0 < O) = false := decide_eq_false h1
      have e : r = false := by rw [HR.out, d1]; rfl
      subst e
      clear HR h1
      go_wp2_with fail
      refine HQ.out.mono ?_
      rintro e w1 ⟨rfl, hb1⟩
      have HB1 : Hid (Below w.heap.size w w1) := Lib.hid (HB0.out.trans (hb1.mono HB0.out.size))
      have HA1 := Lib.hid (HA0.out.below hb1)
      clear hb1 kA HA0 HQ HB0
      have kA := HA1.out.c
      go_wp2_with fail
      go_ret
      exact ⟨rfl, HB1.out⟩
end Go.Proofs.YtmeomdfmljanhaaGreat.Di
/- What is known of a line, in a work, as layer 9 has it. -/
namespace Go.Proofs.YtmeomdfmljanhaaGreat.Pg
set_option linter.unusedVariables false
open Go.ChangeShapes Go.WideShapes Go.ChangeAt Go.RowKit

/-- What the directory knows of a line, as layer 9 has it. -/
def entE (F : Pr.Fs) (c k : Nat) : Di.En := ⟨(F.own k : Nat), (List.range c).map (F.sh k)⟩
theorem ent_len (F : Pr.Fs) (c k : Nat) : (entE F c k).share.length = c := by unfold entE; simp
theorem ent_get (F : Pr.Fs) (c k j : Nat) (hj : j < c) : (entE F c k).share.getD j false = F.sh k j := by
  unfold entE
  rw [List.getD_eq_getElem?_getD, List.getElem?_map, List.getElem?_range hj]
  rfl
theorem Wk.ent {w : World} {base B c l : Nat} {F : Pr.Fs} {L : List (List Nat)} {f : Value} {A : Tg → Pa} {p : Option Addr} {cp : Nat} {xs : List Value} (h : Wk w base B c l F L f A p cp xs) {k : Nat} (hk : k < l) :
    Di.Eo (Zs 8 c l A) w (.agg #[.int .i64 (F.own k : Nat), .slice (some ⟨(A (.sh k)).b, (A (.sh k)).o, none⟩) c (A (.sh k)).c]) (entE F c k) := by
  have hs : 0 < (Tg.sh k).sz 8 c l := by show 0 < if k < l then c else 0; rw [if_pos hk]; exact h.mem.c1
  have hc4 := h.mem.c4
  refine ⟨_, c, _, rfl, ⟨ent_len F c k, fun _ => ⟨(A (.sh k)).b, (A (.sh k)).o, h.mem.lt _ hs, rfl, fun j hj => ?_⟩, h.mem.cap _ hs, by omega⟩, fun R hR h0 a e => ?_⟩
  · rw [Di.boC_len, ent_len] at hj
    rw [Di.boC_at _ _ (by rw [ent_len]; exact hj), ent_get F c k j hj]
    exact h.mem.cell (.sh k) j (by show j < if k < l then c else 0; rw [if_pos hk]; exact hj)
  · injection e with e
    subst e
    intro e2
    obtain ⟨t, ht, h1, e3⟩ := hR
    have := h.mem.inj t (.sh k) ht h1 hs (e3.trans e2.symm)
    subst this
    cases ht
theorem eo_out {S : Nat → Prop} {w : World} {v : Value} {E : Di.En} {c : Nat} (h : Di.Eo S w v E) (hl : E.share.length = c) (hc : 1 ≤ c) : ∃ x : Pa, v = .agg #[.int .i64 E.owner, .slice (some ⟨x.b, x.o, none⟩) c x.c] ∧ x.b < w.heap.size ∧ c ≤ x.c ∧ (∀ j, j < c → w.cell? ⟨x.b, x.o + j, none⟩ = some (.bool (E.share.getD j false))) ∧ ∀ R, S R → R ≠ x.b := by
  obtain ⟨p, n, cc, e, h1, h2⟩ := h
  have hn : n = c := h1.len.symm.trans hl
  subst hn
  obtain ⟨b, off, hb, rfl, hc2⟩ := h1.sl (by omega)
  refine ⟨⟨b, off, cc⟩, e, hb, h1.cn, fun j hj => ?_, fun R hR e2 => h2 R hR (by omega) _ rfl e2.symm⟩
  rw [hc2 j (by rw [Di.boC_len, hl]; exact hj), Di.boC_at _ _ (by rw [hl]; exact hj)]
/-- What is known may be so. -/
theorem ent_may {F : Pr.Fs} {c k : Nat} (h1 : 1 ≤ c) (h4 : c ≤ 4) (ho : F.own k ≤ c) (hb : F.own k = 0 ∨ F.sh k (F.own k - 1) = false) : Di.mayE (entE F c k) c = true := by
  refine Di.mayE_iff.2 ⟨⟨by omega, by omega⟩, by rw [ent_len], by show (0 : Int) ≤ (F.own k : Nat); omega, by show ((F.own k : Nat) : Int) ≤ (c : Int); omega, Di.ownB_iff.2 ?_⟩
  rcases hb with h0 | h0
  · exact .inl (by show ((F.own k : Nat) : Int) = 0; omega)
  · by_cases e : F.own k = 0
    · exact .inl (by show ((F.own k : Nat) : Int) = 0; omega)
    · refine .inr ?_
      have : ((entE F c k).owner - 1).toNat = F.own k - 1 := by show (((F.own k : Nat) : Int) - 1).toNat = _; omega
      rw [this, ent_get F c k _ (by omega)]
      exact h0
theorem ent_has {F : Pr.Fs} {c k n : Nat} (h1 : 1 ≤ c) (h4 : c ≤ 4) (ho : F.own k ≤ c) (hb : F.own k = 0 ∨ F.sh k (F.own k - 1) = false) (hn : n < c) : Di.hasE (entE F c k) (n : Nat) = true :=
  Di.hasE_iff.2 ⟨by rw [ent_len]; exact ent_may h1 h4 ho hb, by omega, by rw [ent_len]; omega⟩
end Go.Proofs.YtmeomdfmljanhaaGreat.Pg
/- A word that is given back comes home. -/
namespace Go.Proofs.YtmeomdfmljanhaaGreat.Pg
set_option linter.unusedVariables false
open Go.ChangeShapes Go.WideShapes Go.ChangeAt Go.RowKit

def putF (F : Pr.Fs) (m : Pr.Fm) : Pr.Fs := if F.busy m.line = 0 then (if F.own m.line = m.frm then { F with own := Pr.upd F.own m.line 0, home := Pr.upd F.home m.line m.val } else F) else F
def putS (F : Pr.Fs) (m : Pr.Fm) (L : List (List Nat)) (frm : Int) : List (List Nat) := if F.busy m.line = 0 then sendP L ⟨9, frm, m.frm, m.line, 0, 0, false, 0, 0⟩ else sendP L ⟨10, frm, m.frm, m.line, 0, 0, false, 0, 0⟩
theorem gt_zero (x : Nat) : decide ((0 : Int) < (x : Int)) = !decide (x = 0) := by
  by_cases e : x = 0
  · subst e; rfl
  · rw [decide_eq_false e, decide_eq_true (by omega)]; rfl
theorem back_no {F : Pr.Fs} {c k n : Nat} (hh : Di.hasE (entE F c k) (n : Nat) = true) (ho : ¬ F.own k = n + 1) : Di.backC (entE F c k) (n : Nat) = ⟨(F.own k : Nat), (entE F c k).share⟩ ∧ Di.backX (entE F c k) (n : Nat) = 7 := by
  have : ¬ (entE F c k).owner = (n : Int) + 1 := by show ¬ ((F.own k : Nat) : Int) = (n : Int) + 1; omega
  unfold Di.backC Di.backX
  rw [if_pos hh, if_pos hh, if_neg this, if_neg this]
  exact ⟨rfl, rfl⟩
theorem back_yes {F : Pr.Fs} {c k n : Nat} (hh : Di.hasE (entE F c k) (n : Nat) = true) (ho : F.own k = n + 1) : Di.backC (entE F c k) (n : Nat) = ⟨0, (entE F c k).share⟩ ∧ Di.backX (entE F c k) (n : Nat) = 0 := by
  have : (entE F c k).owner = (n : Int) + 1 := by show ((F.own k : Nat) : Int) = (n : Int) + 1; omega
  unfold Di.backC Di.backX
  rw [if_pos hh, if_pos hh, if_pos this, if_pos this]
  exact ⟨rfl, rfl⟩
def ZE (A : Tg → Pa) (c l E2 : Nat) (R : Nat) : Prop := Zs 8 c l A R ∨ R = E2
/-- Behind the asking: a variable that holds what the directory knows then. -/
def BackO (F : Pr.Fs) (c k : Nat) (Z : Nat → Prop) (w2 w5 : World) (E2 : Nat) (xp : Pa) (O : Int) : Prop :=
  Below w2.heap.size w2 w5 ∧ w2.heap.size ≤ E2 ∧ Blk w5 E2 #[.int .i64 O, .slice (some ⟨xp.b, xp.o, none⟩) c xp.c] ∧ xp.b < w5.heap.size ∧ c ≤ xp.c ∧ (∀ j, j < c → w5.cell? ⟨xp.b, xp.o + j, none⟩ = some (.bool (F.sh k j))) ∧ ∀ R, Z R → R ≠ xp.b
set_option maxHeartbeats 8000000 in
set_option maxRecDepth 100000 in
theorem isPut_wk (base B c l : Nat) (F : Pr.Fs) (L : List (List Nat)) (m : Pr.Fm) (frm : Int) (w : World) (h : WkX w base B c l F L (sndV B frm m.line)) (hk : m.line < l) (hfr : 1 ≤ m.frm ∧ m.frm ≤ c) (hva : m.val < 4294967296) (hoc : F.own m.line ≤ c) (hob : F.own m.line = 0 ∨ F.sh m.line (F.own m.line - 1) = false) :
    Calls Tryz.prog 110 #[.pointer (some ⟨B, 0, none⟩), mV m] w fun e w' => DoneO base B c l (putF F m) (putS F m L frm) (sndV B frm m.line) w e w' := by
  obtain ⟨kd, fr, tt, k, fo, ac, ow, nu, va⟩ := m
  obtain ⟨A, p, cp, xs, h⟩ := h
  have hc4 := h.mem.c4
  have hl16 := h.mem.l16
  have hk : k < l := hk
  obtain ⟨E, hE⟩ : ∃ E, E = w.heap.size := ⟨_, rfl⟩
  obtain ⟨w1, hw1⟩ : ∃ w1, w1 = w.alloc (.cells (mA ⟨kd, fr, tt, k, fo, ac, ow, nu, va⟩) 70) := ⟨_, rfl⟩
  have hb1 : Below w.heap.size w w1 := by rw [hw1]; exact (Below.refl _ _).alloc (Nat.le_refl _) _
  have HM1 : Hid (Blk w1 E (mA ⟨kd, fr, tt, k, fo, ac, ow, nu, va⟩)) := Lib.hid (by rw [hw1, hE]; exact Blk.new _ _ _)
  have H1 := Lib.hid (h.below hb1)
  have HC1 := Lib.hid (h.cB hb1)
  have HLT : Hid (∀ t : Tg, 0 < t.sz 8 c l → (A t).b < E) := Lib.hid (by rw [hE]; exact h.mem.lt)
  have HBE : Hid (B < E) := Lib.hid (by rw [hE]; exact h.hi.2)
  have HW1 := Lib.hid hw1
  have HEE := Lib.hid hE
  clear h hw1 hb1 hE
  have hkI : (k : Int) < (l : Int) := by omega
  have hk0 : (0 : Int) ≤ (k : Int) := by omega
  have hfr : 1 ≤ fr ∧ fr ≤ c := hfr
  have hva : va < 4294967296 := hva
  have hoc : F.own k ≤ c := hoc
  have hob : F.own k = 0 ∨ F.sh k (F.own k - 1) = false := hob
  have hsub : wrap64 ((fr : Int) - 1) = (fr : Int) - 1 := by unfold wrap64; omega
  have hsub2 : IntKind.i64.wrap ((fr : Int) - 1) = (fr : Int) - 1 := by rw [IntKind.wrap_i64]; omega
  obtain ⟨FX, e1⟩ : ∃ FX, FX = putF F ⟨kd, fr, tt, k, fo, ac, ow, nu, va⟩ := ⟨_, rfl⟩
  obtain ⟨LX, e2⟩ : ∃ LX, LX = putS F ⟨kd, fr, tt, k, fo, ac, ow, nu, va⟩ L frm := ⟨_, rfl⟩
  rw [← e1, ← e2]
  unfold putF at e1
  unfold putS at e2
  dsimp only at e1 e2
  have kM := HM1.out.c
  have k5 := H1.out.c5
  have kb := H1.out.bu hk
  by_cases hb0 : F.busy k = 0
  · rw [if_pos hb0] at e1 e2
    rw [hb0] at kb
    by_cases ho : F.own k = fr
    · rw [if_pos ho] at e1
      have E1 := Lib.hid e1
      have EL := Lib.hid e2
      clear e1 e2
      go_enter Tryz.func110, Tryz.ntmps110
      go_upto_region 1 with fail
      rw [← HEE.out, ← HW1.out]
      refine region_plan (fun V : World => V = w1.drew) 9 [(0, true), (1, true), (2, true), (3, true), (4, true), (5, true), (6, true), (7, true), (8, true)] (by kernel_rfl) (by kernel_rfl) rfl ?_
      iterate 9
        refine plan_read (v := ?_) rfl (by rfl) ?_ ?_
        rotate_left
        · intro w' hS
          try dsimp only at hS
          go_simp
          try with_reducible rfl
        try simp only [Act.put, List.setIfInBounds_toArray, List.set_cons_zero, List.set_cons_succ, List.getElem_toArray, List.getElem_cons_zero, List.getElem_cons_succ]
      refine plan_nil ?_
      simp only [List.drop_succ_cons, List.drop_zero]
      have hX : Di.backC (entE F c k) ((fr : Int) - 1) = ⟨0, (entE F c k).share⟩ ∧ Di.backX (entE F c k) ((fr : Int) - 1) = 0 := by
        rw [show (fr : Int) - 1 = ((fr - 1 : Nat) : Int) by omega]
        exact back_yes (ent_has H1.out.mem.c1 hc4 hoc hob (by omega)) (by omega)
      have BE := Lib.hid hX
      have HO := Lib.hid ho
      clear hX ho
      obtain ⟨w2, hw2⟩ : ∃ w2, w2 = w1.drew := ⟨_, rfl⟩
      have H2 : Hid (Wk w2 base B c l F L (sndV B frm k) A p cp xs) := Lib.hid (by rw [hw2]; exact H1.out.below ((Below.refl _ _).drew))
      have HM2 : Hid (Blk w2 E (mA ⟨kd, fr, tt, k, fo, ac, ow, nu, va⟩)) := Lib.hid (by rw [hw2]; exact HM1.out.drew)
      have HC2 : Hid (Below base w w2) := Lib.hid (by rw [hw2]; exact HC1.out.drew)
      have HS3 : Hid (∀ V, Below w2.heap.size w2 V → (∀ j, V.cell? ⟨E, j, none⟩ = (mA ⟨kd, fr, tt, k, fo, ac, ow, nu, va⟩ : Array Value)[j]?) ∧ V.cell? ⟨B, 4, none⟩ = some (.slice (some ⟨(A .di).b, (A .di).o, none⟩) l (A .di).c) ∧ V.cell? ⟨(A .di).b, (A .di).o + k * 2, none⟩ = some (.int .i64 (F.own k : Nat)) ∧ V.cell? ⟨(A .di).b, (A .di).o + k * 2 + 1, none⟩ = some (.slice (some ⟨(A (.sh k)).b, (A (.sh k)).o, none⟩) c (A (.sh k)).c)) := Lib.hid (fun V hV => ⟨(HM2.out.below hV).c, (H2.out.below hV).c4, (H2.out.below hV).d0 hk, (H2.out.below hV).d1 hk⟩)
      have HEO : Hid (∀ V, Below w2.heap.size w2 V → Di.Eo (Zs 8 c l A) V (.agg #[.int .i64 (F.own k : Nat), .slice (some ⟨(A (.sh k)).b, (A (.sh k)).o, none⟩) c (A (.sh k)).c]) (entE F c k)) := Lib.hid (fun V hV => (H2.out.ent hk).below hV)
      have HOS : Hid (∀ V, Below w2.heap.size w2 V → ∀ R, Zs 8 c l A R → R < V.heap.size) := Lib.hid (fun V hV R hR => Nat.lt_of_lt_of_le (H2.out.off_old R hR) hV.size)
      have HW2 := Lib.hid hw2
      clear hw2
      go_upto_region 3 with fail
      rw [← HW2.out]
      clear kM k5 kb HW2
      refine region_planF (fun V : World => (∀ j, V.cell? ⟨E, j, none⟩ = (mA ⟨kd, fr, tt, k, fo, ac, ow, nu, va⟩ : Array Value)[j]?) ∧ V.cell? ⟨B, 4, none⟩ = some (.slice (some ⟨(A .di).b, (A .di).o, none⟩) l (A .di).c) ∧ V.cell? ⟨(A .di).b, (A .di).o + k * 2, none⟩ = some (.int .i64 (F.own k : Nat)) ∧ V.cell? ⟨(A .di).b, (A .di).o + k * 2 + 1, none⟩ = some (.slice (some ⟨(A (.sh k)).b, (A (.sh k)).o, none⟩) c (A (.sh k)).c)) (.read 0 (.read 1 (.read 2 (.read 3 (.read 4 (.read 5 (.read 6 (.read 7 (.read 8 (.read 9 (.read 10 (.read 11 (.two 12 16 (.read 13 (.read 14 (.read 15 (.one 16 (.one 17 (.one 18 .stop)))))) (.one 12 (.read 13 (.read 14 (.read 15 (.one 17 (.one 18 .stop))))))))))))))))))) (by kernel_rfl) (by kernel_rfl) (HS3.out _ ((Below.refl _ _).drew)) (planT_mono (K := fun a' V => ∃ E2 xp, a' = { tmps := #[.pointer (some ⟨B, 0, none⟩), mV ⟨kd, fr, tt, k, fo, ac, ow, nu, va⟩, undef, .pointer (some ⟨E, 0, none⟩), .pointer (some ⟨E2, 0, none⟩), .int .i64 0, .pointer (some ⟨B, 0, none⟩), .pointer (some ⟨B, 0, none⟩), .pointer (some ⟨B, 0, none⟩), .pointer (some ⟨B, 5, none⟩), .slice (some ⟨(A .bu).b, (A .bu).o, none⟩) l (A .bu).c, .pointer (some ⟨E, 3, none⟩), .int .i64 k, .pointer (some ⟨(A .bu).b, (A .bu).o + k, none⟩), .int .i64 0, .bool false, undef, undef, undef, undef, undef, undef, undef, undef, .tuple #[.agg #[.int .i64 0, .slice (some ⟨xp.b, xp.o, none⟩) c xp.c], .int .i64 0], .pointer (some ⟨B, 0, none⟩), .pointer (some ⟨B, 0, none⟩), .pointer (some ⟨B, 0, none⟩), .pointer (some ⟨B, 4, none⟩), .slice (some ⟨(A .di).b, (A .di).o, none⟩) l (A .di).c, .pointer (some ⟨E, 3, none⟩), .int .i64 k, .pointer (some ⟨(A .di).b, (A .di).o + k * 2, none⟩), .agg #[.int .i64 (F.own k : Nat), .slice (some ⟨(A (.sh k)).b, (A (.sh k)).o, none⟩) c (A (.sh k)).c], .pointer (some ⟨E, 1, none⟩), .int .i64 fr, .int .i64 ((fr : Int) - 1), .tuple #[.agg #[.int .i64 0, .slice (some ⟨xp.b, xp.o, none⟩) c xp.c], .int .i64 0], .agg #[.int .i64 0, .slice (some ⟨xp.b, xp.o, none⟩) c xp.c], .int .i64 0, undef, undef, undef, undef, undef, undef, undef, undef, undef, undef, undef, undef, undef, undef, undef, undef, undef, undef, undef, undef, undef, undef, undef, undef, undef, undef, undef, undef, undef], defers := [] } ∧ BackO F c k (Zs 8 c l A) w2 V E2 xp (0)) ?_ _ _ _ ?_)
      rotate_left
      · skip
        iterate 12
          refine planT_read (v := ?_) rfl (by rfl) ?_ ?_
          rotate_left
          · intro w' hS
            try dsimp only at hS
            go_simp
            try with_reducible rfl
          try simp only [Act.put, List.setIfInBounds_toArray, List.set_cons_zero, List.set_cons_succ, List.getElem_toArray, List.getElem_cons_zero, List.getElem_cons_succ]
        refine planT_two ?_ ?_
        · obtain ⟨V1, hV1⟩ : ∃ V1, V1 = w2.drew := ⟨_, rfl⟩
          have HBV : Hid (Below w2.heap.size w2 V1) := Lib.hid (by rw [hV1]; exact (Below.refl _ _).drew)
          rw [← hV1]
          clear hV1
          refine op_call (F := 134) (args := ?_) rfl (by rfl) ?_ ?_
          rotate_left
          · go_simp
            rfl
          refine (Di.back_any (Zs 8 c l A) (.agg #[.int .i64 (F.own k : Nat), .slice (some ⟨(A (.sh k)).b, (A (.sh k)).o, none⟩) c (A (.sh k)).c]) (entE F c k) ((fr : Int) - 1) V1 (HEO.out V1 HBV.out) (HOS.out V1 HBV.out)).mono ?_
          rintro e V2 ⟨ve, rfl, heo, hbe⟩
          rw [BE.out.1] at heo
          obtain ⟨xp, rfl, hxl, hxc, hxs, hxo⟩ := eo_out heo (ent_len F c k) H2.out.mem.c1
          have hxs : ∀ j, j < c → V2.cell? ⟨xp.b, xp.o + j, none⟩ = some (.bool (F.sh k j)) := fun j hj => by rw [hxs j hj]; exact congrArg (fun x => some (Value.bool x)) (ent_get F c k j hj)
          rw [BE.out.2]
          have HX := Lib.hid (And.intro hxl (And.intro hxc (And.intro hxs hxo)))
          clear heo hxl hxc hxs hxo
          have HBV2 := Lib.hid (HBV.out.trans (hbe.mono HBV.out.size))
          clear hbe
          refine ⟨_, rfl, HS3.out _ HBV2.out, ?_⟩
          try simp only [Act.put, List.setIfInBounds_toArray, List.set_cons_zero, List.set_cons_succ, List.getElem_toArray, List.getElem_cons_zero, List.getElem_cons_succ]
          iterate 3
            refine planT_read (v := ?_) rfl (by rfl) ?_ ?_
            rotate_left
            · intro w' hS
              try dsimp only at hS
              go_simp
              try with_reducible rfl
            try simp only [Act.put, List.setIfInBounds_toArray, List.set_cons_zero, List.set_cons_succ, List.getElem_toArray, List.getElem_cons_zero, List.getElem_cons_succ]
          refine planT_one ?_
          refine op_make (v := .pointer (some ⟨V2.heap.size, 0, none⟩)) (w1 := V2.alloc (.cells #[.int .i64 0, .slice none 0 0] 65)) rfl (by rfl) (by go_simp) ?_
          refine ⟨HS3.out _ (HBV2.out.alloc HBV2.out.size _), ?_⟩
          try simp only [Act.put, List.setIfInBounds_toArray, List.set_cons_zero, List.set_cons_succ, List.getElem_toArray, List.getElem_cons_zero, List.getElem_cons_succ]
          refine planT_one ?_
          obtain ⟨w5, hw5⟩ : ∃ w5, w5 = V2.alloc (.cells #[.int .i64 0, .slice (some ⟨xp.b, xp.o, none⟩) c xp.c] 65) := ⟨_, rfl⟩
          refine op_store (w1 := V2.alloc (.cells #[.int .i64 0, .slice (some ⟨xp.b, xp.o, none⟩) c xp.c] 65)) rfl (by rfl) ?_ ?_
          · go_simp
          have hb25 : Below V2.heap.size V2 w5 := by rw [hw5]; exact (Below.refl _ _).alloc (Nat.le_refl _) _
          have HBV5 : Hid (Below w2.heap.size w2 w5) := Lib.hid (HBV2.out.trans (hb25.mono HBV2.out.size))
          have HFIN : Hid (BackO F c k (Zs 8 c l A) w2 w5 V2.heap.size xp (0)) := Lib.hid ⟨HBV5.out, HBV2.out.size, by rw [hw5]; exact Blk.new _ _ _, Nat.lt_of_lt_of_le HX.out.1 hb25.size, HX.out.2.1, fun j hj => (hb25.cell (p := ⟨xp.b, xp.o + j, none⟩) HX.out.1).trans (HX.out.2.2.1 j hj), HX.out.2.2.2⟩
          rw [← hw5]
          clear hw5 hb25
          refine ⟨HS3.out _ HBV5.out, ?_⟩
          try simp only [Act.put, List.setIfInBounds_toArray, List.set_cons_zero, List.set_cons_succ, List.getElem_toArray, List.getElem_cons_zero, List.getElem_cons_succ]
          refine planT_one ?_
          refine op_keep (v := .int .i64 0) rfl (by rfl) ?_ ?_
          · go_simp
          refine ⟨HS3.out _ HBV5.out, ?_⟩
          try simp only [Act.put, List.setIfInBounds_toArray, List.set_cons_zero, List.set_cons_succ, List.getElem_toArray, List.getElem_cons_zero, List.getElem_cons_succ]
          refine planT_stop ?_
          exact ⟨V2.heap.size, xp, rfl, HFIN.out⟩
        · refine op_make (v := .pointer (some ⟨w2.heap.size, 0, none⟩)) (w1 := w2.drew.alloc (.cells #[.int .i64 0, .slice none 0 0] 65)) rfl (by rfl) (by go_simp) ?_
          obtain ⟨V1, hV1⟩ : ∃ V1, V1 = w2.drew.alloc (.cells #[.int .i64 0, .slice none 0 0] 65) := ⟨_, rfl⟩
          obtain ⟨E2, hE2⟩ : ∃ E2, E2 = w2.heap.size := ⟨_, rfl⟩
          have HE1 : Hid (Blk V1 E2 #[.int .i64 0, .slice none 0 0]) := Lib.hid (by rw [hV1, hE2]; exact Blk.new w2.drew _ _)
          have HBV : Hid (Below w2.heap.size w2 V1) := Lib.hid (by rw [hV1]; exact (Below.refl _ _).drew.alloc (Nat.le_refl _) _)
          rw [← hV1, ← hE2]
          have HEE2 := Lib.hid hE2
          clear hV1
          refine ⟨HS3.out _ HBV.out, ?_⟩
          try simp only [Act.put, List.setIfInBounds_toArray, List.set_cons_zero, List.set_cons_succ, List.getElem_toArray, List.getElem_cons_zero, List.getElem_cons_succ]
          have HEO2 : Di.Eo (ZE A c l E2) V1 (.agg #[.int .i64 (F.own k : Nat), .slice (some ⟨(A (.sh k)).b, (A (.sh k)).o, none⟩) c (A (.sh k)).c]) (entE F c k) := ((H2.out.ent hk).later (S' := ZE A c l E2) (fun R hR => hR.elim .inl (fun e => .inr (by rw [e, HEE2.out]; exact Nat.le_refl _)))).below HBV.out
          have HOS2 : ∀ R, ZE A c l E2 R → R < V1.heap.size := fun R hR => hR.elim (fun hR => HOS.out V1 HBV.out R hR) (fun e => by rw [e]; exact HE1.out.lt)
          refine planT_one ?_
          refine op_call (F := 134) (args := ?_) rfl (by rfl) ?_ ?_
          rotate_left
          · go_simp
            rfl
          refine (Di.back_any (ZE A c l E2) (.agg #[.int .i64 (F.own k : Nat), .slice (some ⟨(A (.sh k)).b, (A (.sh k)).o, none⟩) c (A (.sh k)).c]) (entE F c k) ((fr : Int) - 1) V1 (HEO2) (HOS2)).mono ?_
          rintro e V2 ⟨ve, rfl, heo, hbe⟩
          rw [BE.out.1] at heo
          obtain ⟨xp, rfl, hxl, hxc, hxs, hxo⟩ := eo_out heo (ent_len F c k) H2.out.mem.c1
          have hxs : ∀ j, j < c → V2.cell? ⟨xp.b, xp.o + j, none⟩ = some (.bool (F.sh k j)) := fun j hj => by rw [hxs j hj]; exact congrArg (fun x => some (Value.bool x)) (ent_get F c k j hj)
          rw [BE.out.2]
          have HX := Lib.hid (And.intro hxl (And.intro hxc (And.intro hxs hxo)))
          clear heo hxl hxc hxs hxo
          have HE3 := Lib.hid (HE1.out.below hbe)
          have HBV2 := Lib.hid (HBV.out.trans (hbe.mono HBV.out.size))
          clear hbe hE2
          refine ⟨_, rfl, HS3.out _ HBV2.out, ?_⟩
          try simp only [Act.put, List.setIfInBounds_toArray, List.set_cons_zero, List.set_cons_succ, List.getElem_toArray, List.getElem_cons_zero, List.getElem_cons_succ]
          have kE1 := HE3.out.c
          have fE1 := HE3.out.f
          iterate 3
            refine planT_read (v := ?_) rfl (by rfl) ?_ ?_
            rotate_left
            · intro w' hS
              try dsimp only at hS
              go_simp
              try with_reducible rfl
            try simp only [Act.put, List.setIfInBounds_toArray, List.set_cons_zero, List.set_cons_succ, List.getElem_toArray, List.getElem_cons_zero, List.getElem_cons_succ]
          refine planT_one ?_
          obtain ⟨w5, hw5⟩ : ∃ w5, w5 = (V2.setCell ⟨E2, 0, none⟩ (.int .i64 0)).setCell ⟨E2, 1, none⟩ (.slice (some ⟨xp.b, xp.o, none⟩) c xp.c) := ⟨_, rfl⟩
          refine op_store (w1 := (V2.setCell ⟨E2, 0, none⟩ (.int .i64 0)).setCell ⟨E2, 1, none⟩ (.slice (some ⟨xp.b, xp.o, none⟩) c xp.c)) rfl (by rfl) ?_ ?_
          · go_simp
          clear kE1 fE1
          have hge : w2.heap.size ≤ E2 := Nat.le_of_eq HEE2.out.symm
          have hxe : E2 ≠ xp.b := HX.out.2.2.2 E2 (.inr rfl)
          have HBV5 : Hid (Below w2.heap.size w2 w5) := Lib.hid (by rw [hw5]; exact (HBV2.out.setCell (p := ⟨E2, 0, none⟩) hge _).setCell (p := ⟨E2, 1, none⟩) hge _)
          have HFIN : Hid (BackO F c k (Zs 8 c l A) w2 w5 E2 xp (0)) := Lib.hid ⟨HBV5.out, hge, by rw [hw5]; exact (HE3.out.set (n := 0) _ (by simp)).set (n := 1) _ (by simp), by rw [hw5]; simpa using HX.out.1, HX.out.2.1, fun j hj => by
            rw [hw5, World.cell?_setCell_other _ _ _ _ (by intro e; injection e with e; exact hxe e), World.cell?_setCell_other _ _ _ _ (by intro e; injection e with e; exact hxe e)]
            exact HX.out.2.2.1 j hj, fun R hR => HX.out.2.2.2 R (.inl hR)⟩
          rw [← hw5]
          clear hw5
          refine ⟨HS3.out _ HBV5.out, ?_⟩
          try simp only [Act.put, List.setIfInBounds_toArray, List.set_cons_zero, List.set_cons_succ, List.getElem_toArray, List.getElem_cons_zero, List.getElem_cons_succ]
          refine planT_one ?_
          refine op_keep (v := .int .i64 0) rfl (by rfl) ?_ ?_
          · go_simp
          refine ⟨HS3.out _ HBV5.out, ?_⟩
          try simp only [Act.put, List.setIfInBounds_toArray, List.set_cons_zero, List.set_cons_succ, List.getElem_toArray, List.getElem_cons_zero, List.getElem_cons_succ]
          refine planT_stop ?_
          exact ⟨E2, xp, rfl, HFIN.out⟩
      · rintro a' w5 ⟨E2, xp, rfl, hbk⟩
        obtain ⟨hb5, hge, hE2, hxl, hxc, hxs, hxo⟩ := hbk
        have H5 := Lib.hid (H2.out.below hb5)
        have HM5 := Lib.hid (HM2.out.below hb5)
        have HC5 := Lib.hid (HC2.out.trans (hb5.mono (Nat.le_trans H2.out.hi.1 (Nat.le_of_lt H2.out.hi.2))))
        have HE2 := Lib.hid hE2
        have HXP := Lib.hid (And.intro hxl (And.intro hxc (And.intro hxs hxo)))
        have HGE := Lib.hid (Nat.le_trans H2.out.hi.1 (Nat.le_of_lt (Nat.lt_of_lt_of_le H2.out.hi.2 hge)))
        have HGE2 := Lib.hid hge
        clear hb5 hE2 hxl hxc hxs hxo hge
        refine NoPanic.normal ?_
        have kM := HM5.out.c
        have k3 := H5.out.c3
        have k4 := H5.out.c4
        have kE := HE2.out.c
        have kd0 := H5.out.d0 hk
        have kd1 := H5.out.d1 hk
        have kh := H5.out.ho hk
        have hz1 : 0 < Tg.sz 8 c l .di := by show 0 < l * 2; omega
        have hz2 : 0 < Tg.sz 8 c l .ho := by show 0 < l; omega
        have fd : ∀ j, w5.frozen? ⟨(A .di).b, j, none⟩ = false := H5.out.fz .di rfl hz1
        have fh : ∀ j, w5.frozen? ⟨(A .ho).b, j, none⟩ = false := H5.out.fz .ho rfl hz2
        have n1 : (A .di).b ≠ (A .ho).b := fun e => by have := H5.out.mem.inj .di .ho rfl hz1 hz2 e; cases this
        have n2 : (A .ho).b ≠ (A .di).b := fun e => n1 e.symm
        have nb1 : B ≠ (A .di).b := fun e => by have := H5.out.mem.inj .di .bx rfl hz1 (by show 0 < 8; omega) (by rw [H5.out.at_]; exact e.symm); cases this
        have nb2 : B ≠ (A .ho).b := fun e => by have := H5.out.mem.inj .ho .bx rfl hz2 (by show 0 < 8; omega) (by rw [H5.out.at_]; exact e.symm); cases this
        have ne1 : E ≠ (A .di).b := by have := HLT.out .di hz1; omega
        have ne2 : E ≠ (A .ho).b := by have := HLT.out .ho hz2; omega
        have nf1 : E2 ≠ (A .di).b := by have := H2.out.mem.lt .di hz1; have := HGE2.out; omega
        have nf2 : E2 ≠ (A .ho).b := by have := H2.out.mem.lt .ho hz2; have := HGE2.out; omega
        have HS5 : Hid (∀ V : World, (∀ b, b < w5.heap.size → b ≠ (A .di).b → b ≠ (A .ho).b → V.heap[b]? = w5.heap[b]?) → (∀ j, V.cell? ⟨E, j, none⟩ = (mA ⟨kd, fr, tt, k, fo, ac, ow, nu, va⟩ : Array Value)[j]?) ∧ (∀ j, V.cell? ⟨E2, j, none⟩ = (#[.int .i64 0, .slice (some ⟨xp.b, xp.o, none⟩) c xp.c] : Array Value)[j]?) ∧ V.cell? ⟨B, 4, none⟩ = some (.slice (some ⟨(A .di).b, (A .di).o, none⟩) l (A .di).c) ∧ V.cell? ⟨B, 3, none⟩ = some (.slice (some ⟨(A .ho).b, (A .ho).o, none⟩) l (A .ho).c)) := Lib.hid (fun V hV => ⟨fun j => (World.cell?_of_block (a := ⟨E, j, none⟩) (hV E HM5.out.lt ne1 ne2)).trans (HM5.out.c j), fun j => (World.cell?_of_block (a := ⟨E2, j, none⟩) (hV E2 HE2.out.lt nf1 nf2)).trans (HE2.out.c j), (World.cell?_of_block (a := ⟨B, 4, none⟩) (hV B H5.out.hi.2 nb1 nb2)).trans H5.out.c4, (World.cell?_of_block (a := ⟨B, 3, none⟩) (hV B H5.out.hi.2 nb1 nb2)).trans H5.out.c3⟩)
        go_upto_region 5 with fail
        clear kM k3 k4 kE
        refine region_planF (fun V : World => (∀ j, V.cell? ⟨E, j, none⟩ = (mA ⟨kd, fr, tt, k, fo, ac, ow, nu, va⟩ : Array Value)[j]?) ∧ (∀ j, V.cell? ⟨E2, j, none⟩ = (#[.int .i64 0, .slice (some ⟨xp.b, xp.o, none⟩) c xp.c] : Array Value)[j]?) ∧ V.cell? ⟨B, 4, none⟩ = some (.slice (some ⟨(A .di).b, (A .di).o, none⟩) l (A .di).c) ∧ V.cell? ⟨B, 3, none⟩ = some (.slice (some ⟨(A .ho).b, (A .ho).o, none⟩) l (A .ho).c)) (.read 0 (.read 1 (.read 2 (.read 3 (.read 4 (.read 5 (.read 6 (.read 7 (.read 8 (.read 9 (.read 10 (.read 11 (.read 12 (.read 13 (.read 14 (.read 15 (.read 16 (.one 17 (.one 18 (.one 19 (.one 20 .stop))))))))))))))))))))) (by kernel_rfl) (by kernel_rfl) (HS5.out _ (fun _ _ _ _ => rfl)) ?_
        iterate 17
          refine planT_read (v := ?_) rfl (by rfl) ?_ ?_
          rotate_left
          · intro w' hS
            try dsimp only at hS
            go_simp
            try with_reducible rfl
          try simp only [Act.put, List.setIfInBounds_toArray, List.set_cons_zero, List.set_cons_succ, List.getElem_toArray, List.getElem_cons_zero, List.getElem_cons_succ]
        refine planT_one ?_
        refine op_keep (v := .pointer (some ⟨(A .di).b, (A .di).o + k * 2, none⟩)) rfl (by rfl) ?_ ?_
        · go_simp
        refine ⟨HS5.out _ (fun _ _ _ _ => rfl), ?_⟩
        try simp only [Act.put, List.setIfInBounds_toArray, List.set_cons_zero, List.set_cons_succ, List.getElem_toArray, List.getElem_cons_zero, List.getElem_cons_succ]
        refine planT_one ?_
        refine op_store (w1 := ((w5.setCell ⟨(A .di).b, (A .di).o + k * 2, none⟩ (.int .i64 0)).setCell ⟨(A .di).b, (A .di).o + k * 2 + 1, none⟩ (.slice (some ⟨xp.b, xp.o, none⟩) c xp.c)).drew) rfl (by rfl) ?_ ?_
        · go_simp
        refine ⟨HS5.out _ (fun b hb h1 h2 => (heap_setCell_other _ ⟨(A .di).b, _, none⟩ b _ h1).trans (heap_setCell_other _ ⟨(A .di).b, _, none⟩ b _ h1)), ?_⟩
        try simp only [Act.put, List.setIfInBounds_toArray, List.set_cons_zero, List.set_cons_succ, List.getElem_toArray, List.getElem_cons_zero, List.getElem_cons_succ]
        refine planT_one ?_
        refine op_keep (v := .pointer (some ⟨(A .ho).b, (A .ho).o + k, none⟩)) rfl (by rfl) ?_ ?_
        · go_simp
        refine ⟨HS5.out _ (fun b hb h1 h2 => (heap_setCell_other _ ⟨(A .di).b, _, none⟩ b _ h1).trans (heap_setCell_other _ ⟨(A .di).b, _, none⟩ b _ h1)), ?_⟩
        try simp only [Act.put, List.setIfInBounds_toArray, List.set_cons_zero, List.set_cons_succ, List.getElem_toArray, List.getElem_cons_zero, List.getElem_cons_succ]
        refine planT_one ?_
        refine op_store (w1 := (((w5.setCell ⟨(A .di).b, (A .di).o + k * 2, none⟩ (.int .i64 0)).setCell ⟨(A .di).b, (A .di).o + k * 2 + 1, none⟩ (.slice (some ⟨xp.b, xp.o, none⟩) c xp.c)).setCell ⟨(A .ho).b, (A .ho).o + k, none⟩ (.int .u32 (va : Nat))).drew) rfl (by rfl) ?_ ?_
        · go_simp
        refine ⟨HS5.out _ (fun b hb h1 h2 => (heap_setCell_other _ ⟨(A .ho).b, _, none⟩ b _ h2).trans ((heap_setCell_other _ ⟨(A .di).b, _, none⟩ b _ h1).trans (heap_setCell_other _ ⟨(A .di).b, _, none⟩ b _ h1))), ?_⟩
        try simp only [Act.put, List.setIfInBounds_toArray, List.set_cons_zero, List.set_cons_succ, List.getElem_toArray, List.getElem_cons_zero, List.getElem_cons_succ]
        refine planT_stop ?_
        refine NoPanic.normal ?_
        obtain ⟨w8, hw8⟩ : ∃ w8, w8 = (((w5.setCell ⟨(A .di).b, (A .di).o + k * 2, none⟩ (.int .i64 0)).setCell ⟨(A .di).b, (A .di).o + k * 2 + 1, none⟩ (.slice (some ⟨xp.b, xp.o, none⟩) c xp.c)).setCell ⟨(A .ho).b, (A .ho).o + k, none⟩ (.int .u32 (va : Nat))).drew := ⟨_, rfl⟩
        have hxd : (A .di).b ≠ xp.b := HXP.out.2.2.2 _ ⟨.di, rfl, hz1, rfl⟩
        have h6 := ((H5.out.setO 0 hk).setD xp (F.sh k) hk (fun j hj => by rw [World.cell?_setCell_other _ _ _ _ (by intro e; injection e with e; exact hxd e)]; exact HXP.out.2.2.1 j hj) (by rw [size_set]; exact HXP.out.1) HXP.out.2.1 (fun t ht h0 => HXP.out.2.2.2 _ ⟨t, ht, h0, rfl⟩)).setH va hk
        rw [← Nat.add_assoc] at h6
        have H8 : Hid (Wk w8 base B c l FX L (sndV B frm k) (upA A (.sh k) xp) p cp xs) := Lib.hid (by
          rw [hw8, E1.out]
          have h7 := h6.below ((Below.refl _ _).drew)
          rw [upd_same { F with own := Pr.upd F.own k 0 } k] at h7
          exact h7)
        have HC8 : Hid (Below base w w8) := Lib.hid (by rw [hw8]; exact (((HC5.out.setCell (p := ⟨(A .di).b, _, none⟩) (H5.out.base .di rfl hz1) _).setCell (p := ⟨(A .di).b, _, none⟩) (H5.out.base .di rfl hz1) _).setCell (p := ⟨(A .ho).b, _, none⟩) (H5.out.base .ho rfl hz2) _).drew)
        have HM8 : Hid (Blk w8 E (mA ⟨kd, fr, tt, k, fo, ac, ow, nu, va⟩)) := Lib.hid (by rw [hw8]; exact (((HM5.out.other _ ne1.symm).other _ ne1.symm).other _ ne2.symm).drew)
        rw [← hw8]
        clear hw8 h6 kd0 kd1 kh fd fh
        go_upto_region 6 with fail
        have kM := HM8.out.c
        have k7 := H8.out.c7
        unfold sndV at k7
        refine region_plan (fun V : World => V = w8.drew) 7 [(0, true), (1, true), (2, true), (3, true), (4, true), (5, true), (6, true)] (by kernel_rfl) (by kernel_rfl) rfl ?_
        iterate 7
          refine plan_read (v := ?_) rfl (by rfl) ?_ ?_
          rotate_left
          · intro w' hS
            try dsimp only at hS
            go_simp
            try with_reducible rfl
          try simp only [Act.put, List.setIfInBounds_toArray, List.set_cons_zero, List.set_cons_succ, List.getElem_toArray, List.getElem_cons_zero, List.getElem_cons_succ]
        refine plan_nil ?_
        simp only [List.drop_succ_cons, List.drop_zero]
        go_wp2_with fail
        refine (send_wk base B c l FX L _ frm k 9 fr 0 0 false 0 0 w8.drew ⟨_, _, _, _, H8.out.below ((Below.refl _ _).drew)⟩ (by omega) (by omega)).mono ?_
        rintro e w9 ⟨rfl, h9, hb9⟩
        have H9 : Hid (WkX w9 base B c l FX LX (sndV B frm k)) := Lib.hid (by rw [EL.out]; exact h9)
        have HB9 := Lib.hid hb9
        clear h9 hb9 k7 kM
        go_wp2_with fail
        exact bodyPost_end (v := .tuple #[]) (by simp [results, Tryz.results110, go_sem, *]) rfl ⟨rfl, H9.out, HC8.out.drew.trans HB9.out⟩
    · rw [if_neg ho] at e1
      subst FX
      have EL := Lib.hid e2
      clear e2
      go_enter Tryz.func110, Tryz.ntmps110
      go_upto_region 1 with fail
      rw [← HEE.out, ← HW1.out]
      refine region_plan (fun V : World => V = w1.drew) 9 [(0, true), (1, true), (2, true), (3, true), (4, true), (5, true), (6, true), (7, true), (8, true)] (by kernel_rfl) (by kernel_rfl) rfl ?_
      iterate 9
        refine plan_read (v := ?_) rfl (by rfl) ?_ ?_
        rotate_left
        · intro w' hS
          try dsimp only at hS
          go_simp
          try with_reducible rfl
        try simp only [Act.put, List.setIfInBounds_toArray, List.set_cons_zero, List.set_cons_succ, List.getElem_toArray, List.getElem_cons_zero, List.getElem_cons_succ]
      refine plan_nil ?_
      simp only [List.drop_succ_cons, List.drop_zero]
      have hX : Di.backC (entE F c k) ((fr : Int) - 1) = ⟨(F.own k : Nat), (entE F c k).share⟩ ∧ Di.backX (entE F c k) ((fr : Int) - 1) = 7 := by
        rw [show (fr : Int) - 1 = ((fr - 1 : Nat) : Int) by omega]
        exact back_no (ent_has H1.out.mem.c1 hc4 hoc hob (by omega)) (by omega)
      have BE := Lib.hid hX
      have HO := Lib.hid ho
      clear hX ho
      obtain ⟨w2, hw2⟩ : ∃ w2, w2 = w1.drew := ⟨_, rfl⟩
      have H2 : Hid (Wk w2 base B c l F L (sndV B frm k) A p cp xs) := Lib.hid (by rw [hw2]; exact H1.out.below ((Below.refl _ _).drew))
      have HM2 : Hid (Blk w2 E (mA ⟨kd, fr, tt, k, fo, ac, ow, nu, va⟩)) := Lib.hid (by rw [hw2]; exact HM1.out.drew)
      have HC2 : Hid (Below base w w2) := Lib.hid (by rw [hw2]; exact HC1.out.drew)
      have HS3 : Hid (∀ V, Below w2.heap.size w2 V → (∀ j, V.cell? ⟨E, j, none⟩ = (mA ⟨kd, fr, tt, k, fo, ac, ow, nu, va⟩ : Array Value)[j]?) ∧ V.cell? ⟨B, 4, none⟩ = some (.slice (some ⟨(A .di).b, (A .di).o, none⟩) l (A .di).c) ∧ V.cell? ⟨(A .di).b, (A .di).o + k * 2, none⟩ = some (.int .i64 (F.own k : Nat)) ∧ V.cell? ⟨(A .di).b, (A .di).o + k * 2 + 1, none⟩ = some (.slice (some ⟨(A (.sh k)).b, (A (.sh k)).o, none⟩) c (A (.sh k)).c)) := Lib.hid (fun V hV => ⟨(HM2.out.below hV).c, (H2.out.below hV).c4, (H2.out.below hV).d0 hk, (H2.out.below hV).d1 hk⟩)
      have HEO : Hid (∀ V, Below w2.heap.size w2 V → Di.Eo (Zs 8 c l A) V (.agg #[.int .i64 (F.own k : Nat), .slice (some ⟨(A (.sh k)).b, (A (.sh k)).o, none⟩) c (A (.sh k)).c]) (entE F c k)) := Lib.hid (fun V hV => (H2.out.ent hk).below hV)
      have HOS : Hid (∀ V, Below w2.heap.size w2 V → ∀ R, Zs 8 c l A R → R < V.heap.size) := Lib.hid (fun V hV R hR => Nat.lt_of_lt_of_le (H2.out.off_old R hR) hV.size)
      have HW2 := Lib.hid hw2
      clear hw2
      go_upto_region 3 with fail
      rw [← HW2.out]
      clear kM k5 kb HW2
      refine region_planF (fun V : World => (∀ j, V.cell? ⟨E, j, none⟩ = (mA ⟨kd, fr, tt, k, fo, ac, ow, nu, va⟩ : Array Value)[j]?) ∧ V.cell? ⟨B, 4, none⟩ = some (.slice (some ⟨(A .di).b, (A .di).o, none⟩) l (A .di).c) ∧ V.cell? ⟨(A .di).b, (A .di).o + k * 2, none⟩ = some (.int .i64 (F.own k : Nat)) ∧ V.cell? ⟨(A .di).b, (A .di).o + k * 2 + 1, none⟩ = some (.slice (some ⟨(A (.sh k)).b, (A (.sh k)).o, none⟩) c (A (.sh k)).c)) (.read 0 (.read 1 (.read 2 (.read 3 (.read 4 (.read 5 (.read 6 (.read 7 (.read 8 (.read 9 (.read 10 (.read 11 (.two 12 16 (.read 13 (.read 14 (.read 15 (.one 16 (.one 17 (.one 18 .stop)))))) (.one 12 (.read 13 (.read 14 (.read 15 (.one 17 (.one 18 .stop))))))))))))))))))) (by kernel_rfl) (by kernel_rfl) (HS3.out _ ((Below.refl _ _).drew)) (planT_mono (K := fun a' V => ∃ E2 xp, a' = { tmps := #[.pointer (some ⟨B, 0, none⟩), mV ⟨kd, fr, tt, k, fo, ac, ow, nu, va⟩, undef, .pointer (some ⟨E, 0, none⟩), .pointer (some ⟨E2, 0, none⟩), .int .i64 7, .pointer (some ⟨B, 0, none⟩), .pointer (some ⟨B, 0, none⟩), .pointer (some ⟨B, 0, none⟩), .pointer (some ⟨B, 5, none⟩), .slice (some ⟨(A .bu).b, (A .bu).o, none⟩) l (A .bu).c, .pointer (some ⟨E, 3, none⟩), .int .i64 k, .pointer (some ⟨(A .bu).b, (A .bu).o + k, none⟩), .int .i64 0, .bool false, undef, undef, undef, undef, undef, undef, undef, undef, .tuple #[.agg #[.int .i64 (F.own k : Nat), .slice (some ⟨xp.b, xp.o, none⟩) c xp.c], .int .i64 7], .pointer (some ⟨B, 0, none⟩), .pointer (some ⟨B, 0, none⟩), .pointer (some ⟨B, 0, none⟩), .pointer (some ⟨B, 4, none⟩), .slice (some ⟨(A .di).b, (A .di).o, none⟩) l (A .di).c, .pointer (some ⟨E, 3, none⟩), .int .i64 k, .pointer (some ⟨(A .di).b, (A .di).o + k * 2, none⟩), .agg #[.int .i64 (F.own k : Nat), .slice (some ⟨(A (.sh k)).b, (A (.sh k)).o, none⟩) c (A (.sh k)).c], .pointer (some ⟨E, 1, none⟩), .int .i64 fr, .int .i64 ((fr : Int) - 1), .tuple #[.agg #[.int .i64 (F.own k : Nat), .slice (some ⟨xp.b, xp.o, none⟩) c xp.c], .int .i64 7], .agg #[.int .i64 (F.own k : Nat), .slice (some ⟨xp.b, xp.o, none⟩) c xp.c], .int .i64 7, undef, undef, undef, undef, undef, undef, undef, undef, undef, undef, undef, undef, undef, undef, undef, undef, undef, undef, undef, undef, undef, undef, undef, undef, undef, undef, undef, undef, undef], defers := [] } ∧ BackO F c k (Zs 8 c l A) w2 V E2 xp ((F.own k : Nat))) ?_ _ _ _ ?_)
      rotate_left
      · skip
        iterate 12
          refine planT_read (v := ?_) rfl (by rfl) ?_ ?_
          rotate_left
          · intro w' hS
            try dsimp only at hS
            go_simp
            try with_reducible rfl
          try simp only [Act.put, List.setIfInBounds_toArray, List.set_cons_zero, List.set_cons_succ, List.getElem_toArray, List.getElem_cons_zero, List.getElem_cons_succ]
        refine planT_two ?_ ?_
        · obtain ⟨V1, hV1⟩ : ∃ V1, V1 = w2.drew := ⟨_, rfl⟩
          have HBV : Hid (Below w2.heap.size w2 V1) := Lib.hid (by rw [hV1]; exact (Below.refl _ _).drew)
          rw [← hV1]
          clear hV1
          refine op_call (F := 134) (args := ?_) rfl (by rfl) ?_ ?_
          rotate_left
          · go_simp
            rfl
          refine (Di.back_any (Zs 8 c l A) (.agg #[.int .i64 (F.own k : Nat), .slice (some ⟨(A (.sh k)).b, (A (.sh k)).o, none⟩) c (A (.sh k)).c]) (entE F c k) ((fr : Int) - 1) V1 (HEO.out V1 HBV.out) (HOS.out V1 HBV.out)).mono ?_
          rintro e V2 ⟨ve, rfl, heo, hbe⟩
          rw [BE.out.1] at heo
          obtain ⟨xp, rfl, hxl, hxc, hxs, hxo⟩ := eo_out heo (ent_len F c k) H2.out.mem.c1
          have hxs : ∀ j, j < c → V2.cell? ⟨xp.b, xp.o + j, none⟩ = some (.bool (F.sh k j)) := fun j hj => by rw [hxs j hj]; exact congrArg (fun x => some (Value.bool x)) (ent_get F c k j hj)
          rw [BE.out.2]
          have HX := Lib.hid (And.intro hxl (And.intro hxc (And.intro hxs hxo)))
          clear heo hxl hxc hxs hxo
          have HBV2 := Lib.hid (HBV.out.trans (hbe.mono HBV.out.size))
          clear hbe
          refine ⟨_, rfl, HS3.out _ HBV2.out, ?_⟩
          try simp only [Act.put, List.setIfInBounds_toArray, List.set_cons_zero, List.set_cons_succ, List.getElem_toArray, List.getElem_cons_zero, List.getElem_cons_succ]
          iterate 3
            refine planT_read (v := ?_) rfl (by rfl) ?_ ?_
            rotate_left
            · intro w' hS
              try dsimp only at hS
              go_simp
              try with_reducible rfl
            try simp only [Act.put, List.setIfInBounds_toArray, List.set_cons_zero, List.set_cons_succ, List.getElem_toArray, List.getElem_cons_zero, List.getElem_cons_succ]
          refine planT_one ?_
          refine op_make (v := .pointer (some ⟨V2.heap.size, 0, none⟩)) (w1 := V2.alloc (.cells #[.int .i64 0, .slice none 0 0] 65)) rfl (by rfl) (by go_simp) ?_
          refine ⟨HS3.out _ (HBV2.out.alloc HBV2.out.size _), ?_⟩
          try simp only [Act.put, List.setIfInBounds_toArray, List.set_cons_zero, List.set_cons_succ, List.getElem_toArray, List.getElem_cons_zero, List.getElem_cons_succ]
          refine planT_one ?_
          obtain ⟨w5, hw5⟩ : ∃ w5, w5 = V2.alloc (.cells #[.int .i64 (F.own k : Nat), .slice (some ⟨xp.b, xp.o, none⟩) c xp.c] 65) := ⟨_, rfl⟩
          refine op_store (w1 := V2.alloc (.cells #[.int .i64 (F.own k : Nat), .slice (some ⟨xp.b, xp.o, none⟩) c xp.c] 65)) rfl (by rfl) ?_ ?_
          · go_simp
          have hb25 : Below V2.heap.size V2 w5 := by rw [hw5]; exact (Below.refl _ _).alloc (Nat.le_refl _) _
          have HBV5 : Hid (Below w2.heap.size w2 w5) := Lib.hid (HBV2.out.trans (hb25.mono HBV2.out.size))
          have HFIN : Hid (BackO F c k (Zs 8 c l A) w2 w5 V2.heap.size xp ((F.own k : Nat))) := Lib.hid ⟨HBV5.out, HBV2.out.size, by rw [hw5]; exact Blk.new _ _ _, Nat.lt_of_lt_of_le HX.out.1 hb25.size, HX.out.2.1, fun j hj => (hb25.cell (p := ⟨xp.b, xp.o + j, none⟩) HX.out.1).trans (HX.out.2.2.1 j hj), HX.out.2.2.2⟩
          rw [← hw5]
          clear hw5 hb25
          refine ⟨HS3.out _ HBV5.out, ?_⟩
          try simp only [Act.put, List.setIfInBounds_toArray, List.set_cons_zero, List.set_cons_succ, List.getElem_toArray, List.getElem_cons_zero, List.getElem_cons_succ]
          refine planT_one ?_
          refine op_keep (v := .int .i64 7) rfl (by rfl) ?_ ?_
          · go_simp
          refine ⟨HS3.out _ HBV5.out, ?_⟩
          try simp only [Act.put, List.setIfInBounds_toArray, List.set_cons_zero, List.set_cons_succ, List.getElem_toArray, List.getElem_cons_zero, List.getElem_cons_succ]
          refine planT_stop ?_
          exact ⟨V2.heap.size, xp, rfl, HFIN.out⟩
        · refine op_make (v := .pointer (some ⟨w2.heap.size, 0, none⟩)) (w1 := w2.drew.alloc (.cells #[.int .i64 0, .slice none 0 0] 65)) rfl (by rfl) (by go_simp) ?_
          obtain ⟨V1, hV1⟩ : ∃ V1, V1 = w2.drew.alloc (.cells #[.int .i64 0, .slice none 0 0] 65) := ⟨_, rfl⟩
          obtain ⟨E2, hE2⟩ : ∃ E2, E2 = w2.heap.size := ⟨_, rfl⟩
          have HE1 : Hid (Blk V1 E2 #[.int .i64 0, .slice none 0 0]) := Lib.hid (by rw [hV1, hE2]; exact Blk.new w2.drew _ _)
          have HBV : Hid (Below w2.heap.size w2 V1) := Lib.hid (by rw [hV1]; exact (Below.refl _ _).drew.alloc (Nat.le_refl _) _)
          rw [← hV1, ← hE2]
          have HEE2 := Lib.hid hE2
          clear hV1
          refine ⟨HS3.out _ HBV.out, ?_⟩
          try simp only [Act.put, List.setIfInBounds_toArray, List.set_cons_zero, List.set_cons_succ, List.getElem_toArray, List.getElem_cons_zero, List.getElem_cons_succ]
          have HEO2 : Di.Eo (ZE A c l E2) V1 (.agg #[.int .i64 (F.own k : Nat), .slice (some ⟨(A (.sh k)).b, (A (.sh k)).o, none⟩) c (A (.sh k)).c]) (entE F c k) := ((H2.out.ent hk).later (S' := ZE A c l E2) (fun R hR => hR.elim .inl (fun e => .inr (by rw [e, HEE2.out]; exact Nat.le_refl _)))).below HBV.out
          have HOS2 : ∀ R, ZE A c l E2 R → R < V1.heap.size := fun R hR => hR.elim (fun hR => HOS.out V1 HBV.out R hR) (fun e => by rw [e]; exact HE1.out.lt)
          refine planT_one ?_
          refine op_call (F := 134) (args := ?_) rfl (by rfl) ?_ ?_
          rotate_left
          · go_simp
            rfl
          refine (Di.back_any (ZE A c l E2) (.agg #[.int .i64 (F.own k : Nat), .slice (some ⟨(A (.sh k)).b, (A (.sh k)).o, none⟩) c (A (.sh k)).c]) (entE F c k) ((fr : Int) - 1) V1 (HEO2) (HOS2)).mono ?_
          rintro e V2 ⟨ve, rfl, heo, hbe⟩
          rw [BE.out.1] at heo
          obtain ⟨xp, rfl, hxl, hxc, hxs, hxo⟩ := eo_out heo (ent_len F c k) H2.out.mem.c1
          have hxs : ∀ j, j < c → V2.cell? ⟨xp.b, xp.o + j, none⟩ = some (.bool (F.sh k j)) := fun j hj => by rw [hxs j hj]; exact congrArg (fun x => some (Value.bool x)) (ent_get F c k j hj)
          rw [BE.out.2]
          have HX := Lib.hid (And.intro hxl (And.intro hxc (And.intro hxs hxo)))
          clear heo hxl hxc hxs hxo
          have HE3 := Lib.hid (HE1.out.below hbe)
          have HBV2 := Lib.hid (HBV.out.trans (hbe.mono HBV.out.size))
          clear hbe hE2
          refine ⟨_, rfl, HS3.out _ HBV2.out, ?_⟩
          try simp only [Act.put, List.setIfInBounds_toArray, List.set_cons_zero, List.set_cons_succ, List.getElem_toArray, List.getElem_cons_zero, List.getElem_cons_succ]
          have kE1 := HE3.out.c
          have fE1 := HE3.out.f
          iterate 3
            refine planT_read (v := ?_) rfl (by rfl) ?_ ?_
            rotate_left
            · intro w' hS
              try dsimp only at hS
              go_simp
              try with_reducible rfl
            try simp only [Act.put, List.setIfInBounds_toArray, List.set_cons_zero, List.set_cons_succ, List.getElem_toArray, List.getElem_cons_zero, List.getElem_cons_succ]
          refine planT_one ?_
          obtain ⟨w5, hw5⟩ : ∃ w5, w5 = (V2.setCell ⟨E2, 0, none⟩ (.int .i64 (F.own k : Nat))).setCell ⟨E2, 1, none⟩ (.slice (some ⟨xp.b, xp.o, none⟩) c xp.c) := ⟨_, rfl⟩
          refine op_store (w1 := (V2.setCell ⟨E2, 0, none⟩ (.int .i64 (F.own k : Nat))).setCell ⟨E2, 1, none⟩ (.slice (some ⟨xp.b, xp.o, none⟩) c xp.c)) rfl (by rfl) ?_ ?_
          · go_simp
          clear kE1 fE1
          have hge : w2.heap.size ≤ E2 := Nat.le_of_eq HEE2.out.symm
          have hxe : E2 ≠ xp.b := HX.out.2.2.2 E2 (.inr rfl)
          have HBV5 : Hid (Below w2.heap.size w2 w5) := Lib.hid (by rw [hw5]; exact (HBV2.out.setCell (p := ⟨E2, 0, none⟩) hge _).setCell (p := ⟨E2, 1, none⟩) hge _)
          have HFIN : Hid (BackO F c k (Zs 8 c l A) w2 w5 E2 xp ((F.own k : Nat))) := Lib.hid ⟨HBV5.out, hge, by rw [hw5]; exact (HE3.out.set (n := 0) _ (by simp)).set (n := 1) _ (by simp), by rw [hw5]; simpa using HX.out.1, HX.out.2.1, fun j hj => by
            rw [hw5, World.cell?_setCell_other _ _ _ _ (by intro e; injection e with e; exact hxe e), World.cell?_setCell_other _ _ _ _ (by intro e; injection e with e; exact hxe e)]
            exact HX.out.2.2.1 j hj, fun R hR => HX.out.2.2.2 R (.inl hR)⟩
          rw [← hw5]
          clear hw5
          refine ⟨HS3.out _ HBV5.out, ?_⟩
          try simp only [Act.put, List.setIfInBounds_toArray, List.set_cons_zero, List.set_cons_succ, List.getElem_toArray, List.getElem_cons_zero, List.getElem_cons_succ]
          refine planT_one ?_
          refine op_keep (v := .int .i64 7) rfl (by rfl) ?_ ?_
          · go_simp
          refine ⟨HS3.out _ HBV5.out, ?_⟩
          try simp only [Act.put, List.setIfInBounds_toArray, List.set_cons_zero, List.set_cons_succ, List.getElem_toArray, List.getElem_cons_zero, List.getElem_cons_succ]
          refine planT_stop ?_
          exact ⟨E2, xp, rfl, HFIN.out⟩
      · rintro a' w5 ⟨E2, xp, rfl, hbk⟩
        obtain ⟨hb5, hge, hE2, hxl, hxc, hxs, hxo⟩ := hbk
        have H5 := Lib.hid (H2.out.below hb5)
        have HM5 := Lib.hid (HM2.out.below hb5)
        have HC5 := Lib.hid (HC2.out.trans (hb5.mono (Nat.le_trans H2.out.hi.1 (Nat.le_of_lt H2.out.hi.2))))
        have HE2 := Lib.hid hE2
        have HXP := Lib.hid (And.intro hxl (And.intro hxc (And.intro hxs hxo)))
        have HGE := Lib.hid (Nat.le_trans H2.out.hi.1 (Nat.le_of_lt (Nat.lt_of_lt_of_le H2.out.hi.2 hge)))
        have HGE2 := Lib.hid hge
        clear hb5 hE2 hxl hxc hxs hxo hge
        refine NoPanic.normal ?_
        go_upto_region 6 with fail
        have kM := HM5.out.c
        have k7 := H5.out.c7
        unfold sndV at k7
        refine region_plan (fun V : World => V = w5.drew) 7 [(0, true), (1, true), (2, true), (3, true), (4, true), (5, true), (6, true)] (by kernel_rfl) (by kernel_rfl) rfl ?_
        iterate 7
          refine plan_read (v := ?_) rfl (by rfl) ?_ ?_
          rotate_left
          · intro w' hS
            try dsimp only at hS
            go_simp
            try with_reducible rfl
          try simp only [Act.put, List.setIfInBounds_toArray, List.set_cons_zero, List.set_cons_succ, List.getElem_toArray, List.getElem_cons_zero, List.getElem_cons_succ]
        refine plan_nil ?_
        simp only [List.drop_succ_cons, List.drop_zero]
        go_wp2_with fail
        refine (send_wk base B c l F L _ frm k 9 fr 0 0 false 0 0 w5.drew ⟨A, p, cp, xs, H5.out.below ((Below.refl _ _).drew)⟩ (by omega) (by omega)).mono ?_
        rintro e w9 ⟨rfl, h9, hb9⟩
        have H9 : Hid (WkX w9 base B c l F LX (sndV B frm k)) := Lib.hid (by rw [EL.out]; exact h9)
        have HB9 := Lib.hid hb9
        clear h9 hb9 k7 kM
        go_wp2_with fail
        exact bodyPost_end (v := .tuple #[]) (by simp [results, Tryz.results110, go_sem, *]) rfl ⟨rfl, H9.out, HC5.out.drew.trans HB9.out⟩
  · rw [if_neg hb0] at e1 e2
    subst FX
    have EL := Lib.hid e2
    have d0 : decide ((0 : Int) < (F.busy k : Int)) = true := by rw [gt_zero, decide_eq_false hb0]; rfl
    have d1 : decide (0 < F.busy k) = true := decide_eq_true (Nat.pos_of_ne_zero hb0)
    have d2 : 0 < F.busy k := Nat.pos_of_ne_zero hb0
    clear e2 hb0
    have k7 := H1.out.c7
    unfold sndV at k7
    go_enter Tryz.func110, Tryz.ntmps110
    go_upto_region 1 with fail
    rw [← HEE.out, ← HW1.out]
    refine region_plan (fun V : World => V = w1.drew) 9 [(0, true), (1, true), (2, true), (3, true), (4, true), (5, true), (6, true), (7, true), (8, true)] (by kernel_rfl) (by kernel_rfl) rfl ?_
    iterate 9
      refine plan_read (v := ?_) rfl (by rfl) ?_ ?_
      rotate_left
      · intro w' hS
        try dsimp only at hS
        go_simp
        try with_reducible rfl
      try simp only [Act.put, List.setIfInBounds_toArray, List.set_cons_zero, List.set_cons_succ, List.getElem_toArray, List.getElem_cons_zero, List.getElem_cons_succ]
    refine plan_nil ?_
    simp only [List.drop_succ_cons, List.drop_zero]
    go_upto_region 2 with fail
    refine region_plan (fun V : World => V = w1.drew.drew) 7 [(0, true), (1, true), (2, true), (3, true), (4, true), (5, true), (6, true)] (by kernel_rfl) (by kernel_rfl) rfl ?_
    iterate 7
      refine plan_read (v := ?_) rfl (by rfl) ?_ ?_
      rotate_left
      · intro w' hS
        try dsimp only at hS
        go_simp
        try with_reducible rfl
      try simp only [Act.put, List.setIfInBounds_toArray, List.set_cons_zero, List.set_cons_succ, List.getElem_toArray, List.getElem_cons_zero, List.getElem_cons_succ]
    refine plan_nil ?_
    simp only [List.drop_succ_cons, List.drop_zero]
    go_wp2_with fail
    refine (send_wk base B c l F L _ frm k 10 fr 0 0 false 0 0 w1.drew.drew ⟨A, p, cp, xs, H1.out.below ((Below.refl _ _).drew.drew)⟩ (by omega) (by omega)).mono ?_
    rintro e w9 ⟨rfl, h9, hb9⟩
    have H9 : Hid (WkX w9 base B c l F LX (sndV B frm k)) := Lib.hid (by rw [EL.out]; exact h9)
    have HB9 := Lib.hid hb9
    clear h9 hb9 k7 kM
    go_wp2_with fail
    exact bodyPost_ret (v := .tuple #[]) (by simp [results, Tryz.results110, go_sem, *]) rfl ⟨rfl, H9.out, HC1.out.drew.drew.trans HB9.out⟩
end Go.Proofs.YtmeomdfmljanhaaGreat.Pg
/- What home answers. -/
namespace Go.Proofs.YtmeomdfmljanhaaGreat.Pg
set_option linter.unusedVariables false
open Go.ChangeShapes Go.WideShapes Go.ChangeAt Go.RowKit

def ansB (F : Pr.Fs) (c : Nat) (m : Pr.Fm) : Bool := decide (F.own m.line = m.frm) && Di.aloneE (entE F c m.line)
def ansM (F : Pr.Fs) (c : Nat) (m : Pr.Fm) (src offs : Nat) : Pr.Fm :=
  if src = 0 then ⟨3, 0, m.frm, 0, 0, offs, ansB F c m, 0, F.home m.line⟩ else if src = m.frm then ⟨3, 0, m.frm, 0, 0, offs, ansB F c m, 1, 0⟩
  else if m.kind = 2 then ⟨7, 0, src, 0, m.frm, offs, false, 0, 0⟩ else ⟨6, 0, src, 0, m.frm, offs, false, 0, 0⟩
theorem op_skip {P : Program} {ops : Array Oper} {Q : Exit → Act → World → Prop} {i : Nat} {o : Oper} {K : Act → World → Prop} {a : Act} {w : World} (ho : ops[i]? = some o) (hw : Region.wanted o (yielded ops a.tmps) = false) (h : K (a.put o.dst undef) w) : wpOp P ops Q i K a w := by
  unfold wpOp
  simp only [ho, hw, Bool.false_eq_true, if_false]
  exact h
theorem planT_skip {P : Program} {ops : Array Oper} {Q : Exit → Act → World → Prop} {S : World → Prop} {i : Nat} {o : Oper} {K : Act → World → Prop} {p : PlanT} {a : Act} {w : World} (ho : ops[i]? = some o) (hw : Region.wanted o (yielded ops a.tmps) = false) (h : wpPlanT P ops Q S K p (a.put o.dst undef) w) : wpPlanT P ops Q S K (.read i p) a w :=
  ⟨o, undef, ho, .inr ⟨hw, rfl⟩, h⟩
def AnsO (w2 w5 : World) (E3 : Nat) (fr offs : Nat) (b : Bool) : Prop :=
  Below w2.heap.size w2 w5 ∧ w2.heap.size ≤ E3 ∧ Blk w5 E3 #[.int .i64 3, .int .i64 0, .int .i64 fr, .int .i64 0, .int .i64 0, .int .i64 offs, .bool b, .int .u32 0, .int .u32 0]
set_option maxHeartbeats 4000000 in
set_option maxRecDepth 100000 in
theorem answer_wk (base B c l : Nat) (F : Pr.Fs) (L : List (List Nat)) (f : Value) (m : Pr.Fm) (src offs : Nat) (w : World) (h : WkX w base B c l F L f) (hk : m.line < l) (hfr : 1 ≤ m.frm ∧ m.frm ≤ c) :
    Calls Tryz.prog 133 #[.pointer (some ⟨B, 0, none⟩), mV m, .int .i64 src, .int .i64 offs] w fun e w' => e = .returned (mV (ansM F c m src offs)) ∧ Below w.heap.size w w' := by
  obtain ⟨kd, fr, tt, k, fo, ac, ow, nu, va⟩ := m
  obtain ⟨A, p, cp, xs, h⟩ := h
  have hc4 := h.mem.c4
  have hl16 := h.mem.l16
  have hk : k < l := hk
  obtain ⟨E, hE⟩ : ∃ E, E = w.heap.size := ⟨_, rfl⟩
  obtain ⟨w1, hw1⟩ : ∃ w1, w1 = w.alloc (.cells (mA ⟨kd, fr, tt, k, fo, ac, ow, nu, va⟩) 70) := ⟨_, rfl⟩
  have hb1 : Below w.heap.size w w1 := by rw [hw1]; exact (Below.refl _ _).alloc (Nat.le_refl _) _
  have HM1 : Hid (Blk w1 E (mA ⟨kd, fr, tt, k, fo, ac, ow, nu, va⟩)) := Lib.hid (by rw [hw1, hE]; exact Blk.new _ _ _)
  have H1 := Lib.hid (h.below hb1)
  have HC1 := Lib.hid (h.cB hb1)
  have HLT : Hid (∀ t : Tg, 0 < t.sz 8 c l → (A t).b < E) := Lib.hid (by rw [hE]; exact h.mem.lt)
  have HBE : Hid (B < E) := Lib.hid (by rw [hE]; exact h.hi.2)
  have HW1 := Lib.hid hw1
  have HEE := Lib.hid hE
  clear h hw1 hb1 hE
  have hkI : (k : Int) < (l : Int) := by omega
  have hk0 : (0 : Int) ≤ (k : Int) := by omega
  obtain ⟨R, hR⟩ : ∃ R, R = w1.heap.size := ⟨_, rfl⟩
  obtain ⟨w2, hw2⟩ : ∃ w2, w2 = w1.alloc (.cells #[.int .i64 0, .int .i64 0, .int .i64 0, .int .i64 0, .int .i64 0, .int .i64 0, .bool false, .int .u32 0, .int .u32 0] 70) := ⟨_, rfl⟩
  have hb12 : Below w1.heap.size w1 w2 := by rw [hw2]; exact (Below.refl _ _).alloc (Nat.le_refl _) _
  have HR2 : Hid (Blk w2 R #[.int .i64 0, .int .i64 0, .int .i64 0, .int .i64 0, .int .i64 0, .int .i64 0, .bool false, .int .u32 0, .int .u32 0]) := Lib.hid (by rw [hw2, hR]; exact Blk.new _ _ _)
  have H2 := Lib.hid (H1.out.below hb12)
  have HM2 := Lib.hid (HM1.out.below hb12)
  have HB2 : Hid (Below w.heap.size w w2) := Lib.hid (by
    have h1 : Below w.heap.size w w1 := by rw [HW1.out]; exact (Below.refl _ _).alloc (Nat.le_refl _) _
    exact h1.trans (hb12.mono h1.size))
  have HRR : Hid (R = w.heap.size + 1) := Lib.hid (by rw [hR, HW1.out, World.size_alloc])
  have HW2 := Lib.hid hw2
  have HLT2 : Hid (∀ t : Tg, 0 < t.sz 8 c l → (A t).b < R) := Lib.hid (fun t h0 => by rw [hR]; exact H1.out.mem.lt t h0)
  have HER : Hid (E < R) := Lib.hid (by rw [hR]; exact HM1.out.lt)
  clear hR hw2 hb12
  have hfr : 1 ≤ fr ∧ fr ≤ c := hfr
  obtain ⟨AL, hAL⟩ : ∃ AL, AL = Di.aloneE (entE F c k) := ⟨_, rfl⟩
  have HAL := Lib.hid hAL
  obtain ⟨MX, e1⟩ : ∃ MX, MX = ansM F c ⟨kd, fr, tt, k, fo, ac, ow, nu, va⟩ src offs := ⟨_, rfl⟩
  rw [← e1]
  unfold ansM ansB at e1
  dsimp only at e1
  rw [← hAL] at e1
  clear hAL
  by_cases ho : F.own k = fr
  · have dq : ((F.own k : Int) == (fr : Int)) = true := by rw [eq_one]; exact decide_eq_true ho
    have dq2 : decide (F.own k = fr) = true := decide_eq_true ho
    rw [decide_eq_true ho, Bool.true_and] at e1
    have HO := Lib.hid ho
    have E1 := Lib.hid e1
    clear ho e1
    go_enter Tryz.func133, Tryz.ntmps133
    go_upto_region 1 with fail
    rw [← HRR.out, ← HEE.out, ← HW1.out, ← HW2.out]
    have HS1 : Hid (∀ V, Below w2.heap.size w2 V → (∀ j, V.cell? ⟨E, j, none⟩ = (mA ⟨kd, fr, tt, k, fo, ac, ow, nu, va⟩ : Array Value)[j]?) ∧ V.cell? ⟨B, 4, none⟩ = some (.slice (some ⟨(A .di).b, (A .di).o, none⟩) l (A .di).c) ∧ V.cell? ⟨(A .di).b, (A .di).o + k * 2, none⟩ = some (.int .i64 (F.own k : Nat)) ∧ V.cell? ⟨(A .di).b, (A .di).o + k * 2 + 1, none⟩ = some (.slice (some ⟨(A (.sh k)).b, (A (.sh k)).o, none⟩) c (A (.sh k)).c)) := Lib.hid (fun V hV => ⟨(HM2.out.below hV).c, (H2.out.below hV).c4, (H2.out.below hV).d0 hk, (H2.out.below hV).d1 hk⟩)
    refine region_planF (fun V : World => (∀ j, V.cell? ⟨E, j, none⟩ = (mA ⟨kd, fr, tt, k, fo, ac, ow, nu, va⟩ : Array Value)[j]?) ∧ V.cell? ⟨B, 4, none⟩ = some (.slice (some ⟨(A .di).b, (A .di).o, none⟩) l (A .di).c) ∧ V.cell? ⟨(A .di).b, (A .di).o + k * 2, none⟩ = some (.int .i64 (F.own k : Nat)) ∧ V.cell? ⟨(A .di).b, (A .di).o + k * 2 + 1, none⟩ = some (.slice (some ⟨(A (.sh k)).b, (A (.sh k)).o, none⟩) c (A (.sh k)).c)) (.read 0 (.read 1 (.read 2 (.read 3 (.read 4 (.read 5 (.read 6 (.read 7 (.read 8 (.one 9 (.one 10 .stop))))))))))) (by kernel_rfl) (by kernel_rfl) (HS1.out _ ((Below.refl _ _).drew)) ?_
    iterate 9
      refine planT_read (v := ?_) rfl (by rfl) ?_ ?_
      rotate_left
      · intro w' hS
        try dsimp only at hS
        go_simp
        try with_reducible rfl
      try simp only [Act.put, List.setIfInBounds_toArray, List.set_cons_zero, List.set_cons_succ, List.getElem_toArray, List.getElem_cons_zero, List.getElem_cons_succ]
    refine planT_one ?_
    refine op_make (v := .pointer (some ⟨w2.heap.size, 0, none⟩)) (w1 := w2.drew.alloc (.cells #[.int .i64 0, .slice none 0 0] 65)) rfl (by rfl) (by go_simp) ?_
    refine ⟨HS1.out _ ((Below.refl _ _).drew.alloc (Nat.le_refl _) _), ?_⟩
    try simp only [Act.put, List.setIfInBounds_toArray, List.set_cons_zero, List.set_cons_succ, List.getElem_toArray, List.getElem_cons_zero, List.getElem_cons_succ]
    refine planT_one ?_
    obtain ⟨w3, hw3⟩ : ∃ w3, w3 = w2.drew.alloc (.cells #[.int .i64 (F.own k : Nat), .slice (some ⟨(A (.sh k)).b, (A (.sh k)).o, none⟩) c (A (.sh k)).c] 65) := ⟨_, rfl⟩
    refine op_store (w1 := w2.drew.alloc (.cells #[.int .i64 (F.own k : Nat), .slice (some ⟨(A (.sh k)).b, (A (.sh k)).o, none⟩) c (A (.sh k)).c] 65)) rfl (by rfl) ?_ ?_
    · go_simp
    obtain ⟨E2, hE2⟩ : ∃ E2, E2 = w2.heap.size := ⟨_, rfl⟩
    have hb23 : Below w2.heap.size w2 w3 := by rw [hw3]; exact (Below.refl _ _).drew.alloc (Nat.le_refl _) _
    have HE2 : Hid (Blk w3 E2 #[.int .i64 (F.own k : Nat), .slice (some ⟨(A (.sh k)).b, (A (.sh k)).o, none⟩) c (A (.sh k)).c]) := Lib.hid (by rw [hw3, hE2]; exact Blk.new w2.drew _ _)
    have H3 := Lib.hid (H2.out.below hb23)
    have HM3 := Lib.hid (HM2.out.below hb23)
    have HR3 := Lib.hid (HR2.out.below hb23)
    have HB3 := Lib.hid (HB2.out.trans (hb23.mono HB2.out.size))
    rw [← hw3, ← hE2]
    have HEE2 := Lib.hid hE2
    have HRE2 : Hid (R < E2) := Lib.hid (by rw [hE2]; exact HR2.out.lt)
    clear hw3 hE2
    refine ⟨HS1.out _ hb23, ?_⟩
    clear hb23
    try simp only [Act.put, List.setIfInBounds_toArray, List.set_cons_zero, List.set_cons_succ, List.getElem_toArray, List.getElem_cons_zero, List.getElem_cons_succ]
    refine planT_stop ?_
    refine NoPanic.normal ?_
    have HS2 : Hid (∀ V, Below w3.heap.size w3 V → (∀ j, V.cell? ⟨E, j, none⟩ = (mA ⟨kd, fr, tt, k, fo, ac, ow, nu, va⟩ : Array Value)[j]?) ∧ (∀ j, V.cell? ⟨E2, j, none⟩ = (#[.int .i64 (F.own k : Nat), .slice (some ⟨(A (.sh k)).b, (A (.sh k)).o, none⟩) c (A (.sh k)).c] : Array Value)[j]?)) := Lib.hid (fun V hV => ⟨(HM3.out.below hV).c, (HE2.out.below hV).c⟩)
    have HEO : Hid (∀ V, Below w3.heap.size w3 V → Di.Eo (Zs 8 c l A) V (.agg #[.int .i64 (F.own k : Nat), .slice (some ⟨(A (.sh k)).b, (A (.sh k)).o, none⟩) c (A (.sh k)).c]) (entE F c k)) := Lib.hid (fun V hV => (H3.out.ent hk).below hV)
    go_upto_region 2 with fail
    refine region_planF (fun V : World => (∀ j, V.cell? ⟨E, j, none⟩ = (mA ⟨kd, fr, tt, k, fo, ac, ow, nu, va⟩ : Array Value)[j]?) ∧ (∀ j, V.cell? ⟨E2, j, none⟩ = (#[.int .i64 (F.own k : Nat), .slice (some ⟨(A (.sh k)).b, (A (.sh k)).o, none⟩) c (A (.sh k)).c] : Array Value)[j]?)) (.read 0 (.read 1 (.read 2 (.read 3 (.read 4 (.read 5 (.read 6 (.read 7 (.read 8 (.read 9 (.two 10 13 (.read 11 (.read 12 (.one 13 (.one 14 .stop)))) (.one 10 (.read 11 (.read 12 (.one 14 .stop))))))))))))))) (by kernel_rfl) (by kernel_rfl) (HS2.out _ ((Below.refl _ _).drew)) (planT_mono (K := fun a' V => ∃ E3, a' = { tmps := #[.pointer (some ⟨B, 0, none⟩), mV ⟨kd, fr, tt, k, fo, ac, ow, nu, va⟩, .int .i64 src, .int .i64 offs, undef, .pointer (some ⟨E, 0, none⟩), undef, undef, .pointer (some ⟨R, 0, none⟩), .pointer (some ⟨E2, 0, none⟩), .pointer (some ⟨E3, 0, none⟩), .pointer (some ⟨B, 0, none⟩), .pointer (some ⟨B, 0, none⟩), .pointer (some ⟨B, 0, none⟩), .pointer (some ⟨B, 4, none⟩), .slice (some ⟨(A .di).b, (A .di).o, none⟩) l (A .di).c, .pointer (some ⟨E, 3, none⟩), .int .i64 k, .pointer (some ⟨(A .di).b, (A .di).o + k * 2, none⟩), .agg #[.int .i64 (F.own k : Nat), .slice (some ⟨(A (.sh k)).b, (A (.sh k)).o, none⟩) c (A (.sh k)).c], .pointer (some ⟨E, 1, none⟩), .int .i64 fr, .int .i64 offs, .pointer (some ⟨E2, 0, none⟩), .int .i64 (F.own k : Nat), .pointer (some ⟨E, 1, none⟩), .int .i64 fr, .bool true, .bool true, .agg #[.int .i64 (F.own k : Nat), .slice (some ⟨(A (.sh k)).b, (A (.sh k)).o, none⟩) c (A (.sh k)).c], .bool AL, .bool AL, .agg #[.int .i64 3, .int .i64 0, .int .i64 fr, .int .i64 0, .int .i64 0, .int .i64 offs, .bool AL, .int .u32 0, .int .u32 0], undef, undef, undef, undef, undef, undef, undef, undef, undef, undef, undef, undef, undef, undef, undef, undef, undef, undef, undef, undef, undef, undef, undef, undef, undef, undef, undef, undef, undef, undef, undef, undef, undef, undef, undef], defers := [] } ∧ AnsO w3 V E3 fr offs AL) ?_ _ _ _ ?_)
    rotate_left
    · skip
      iterate 9
        refine planT_read (v := ?_) rfl (by rfl) ?_ ?_
        rotate_left
        · intro w' hS
          try dsimp only at hS
          go_simp
          try with_reducible rfl
        try simp only [Act.put, List.setIfInBounds_toArray, List.set_cons_zero, List.set_cons_succ, List.getElem_toArray, List.getElem_cons_zero, List.getElem_cons_succ]
      iterate 1
        refine planT_read (v := ?_) rfl (by rfl) ?_ ?_
        rotate_left
        · intro w' hS
          try dsimp only at hS
          go_simp
          try with_reducible rfl
        try simp only [Act.put, List.setIfInBounds_toArray, List.set_cons_zero, List.set_cons_succ, List.getElem_toArray, List.getElem_cons_zero, List.getElem_cons_succ]
      refine planT_two ?_ ?_
      · obtain ⟨VV, hVV⟩ : ∃ VV, VV = w3.drew := ⟨_, rfl⟩
        have HBV : Hid (Below w3.heap.size w3 VV) := Lib.hid (by rw [hVV]; exact (Below.refl _ _).drew)
        rw [← hVV]
        clear hVV
        refine op_call (F := 147) (args := ?_) rfl (by rfl) ?_ ?_
        rotate_left
        · go_simp
          rfl
        refine (Di.alone_any (Zs 8 c l A) (.agg #[.int .i64 (F.own k : Nat), .slice (some ⟨(A (.sh k)).b, (A (.sh k)).o, none⟩) c (A (.sh k)).c]) (entE F c k) VV (HEO.out VV HBV.out)).mono ?_
        rintro e V2 ⟨rfl, hbe⟩
        rw [← HAL.out]
        have HBV2 := Lib.hid (HBV.out.trans (hbe.mono HBV.out.size))
        clear hbe
        refine ⟨_, rfl, HS2.out _ HBV2.out, ?_⟩
        try simp only [Act.put, List.setIfInBounds_toArray, List.set_cons_zero, List.set_cons_succ, List.getElem_toArray, List.getElem_cons_zero, List.getElem_cons_succ]
        iterate 2
          refine planT_read (v := ?_) rfl (by rfl) ?_ ?_
          rotate_left
          · intro w' hS
            try dsimp only at hS
            go_simp
            try with_reducible rfl
          try simp only [Act.put, List.setIfInBounds_toArray, List.set_cons_zero, List.set_cons_succ, List.getElem_toArray, List.getElem_cons_zero, List.getElem_cons_succ]
        refine planT_one ?_
        refine op_make (v := .pointer (some ⟨V2.heap.size, 0, none⟩)) (w1 := V2.alloc (.cells #[.int .i64 0, .int .i64 0, .int .i64 0, .int .i64 0, .int .i64 0, .int .i64 0, .bool false, .int .u32 0, .int .u32 0] 70)) rfl (by rfl) (by go_simp) ?_
        refine ⟨HS2.out _ (HBV2.out.alloc HBV2.out.size _), ?_⟩
        try simp only [Act.put, List.setIfInBounds_toArray, List.set_cons_zero, List.set_cons_succ, List.getElem_toArray, List.getElem_cons_zero, List.getElem_cons_succ]
        refine planT_one ?_
        obtain ⟨w5, hw5⟩ : ∃ w5, w5 = V2.alloc (.cells #[.int .i64 3, .int .i64 0, .int .i64 fr, .int .i64 0, .int .i64 0, .int .i64 offs, .bool AL, .int .u32 0, .int .u32 0] 70) := ⟨_, rfl⟩
        refine op_store (w1 := V2.alloc (.cells #[.int .i64 3, .int .i64 0, .int .i64 fr, .int .i64 0, .int .i64 0, .int .i64 offs, .bool AL, .int .u32 0, .int .u32 0] 70)) rfl (by rfl) ?_ ?_
        · go_simp
        have HBV5 : Hid (Below w3.heap.size w3 w5) := Lib.hid (by rw [hw5]; exact HBV2.out.alloc HBV2.out.size _)
        have HFIN : Hid (AnsO w3 w5 V2.heap.size fr offs AL) := Lib.hid ⟨HBV5.out, HBV2.out.size, by rw [hw5]; exact Blk.new _ _ _⟩
        rw [← hw5]
        clear hw5
        refine ⟨HS2.out _ HBV5.out, ?_⟩
        try simp only [Act.put, List.setIfInBounds_toArray, List.set_cons_zero, List.set_cons_succ, List.getElem_toArray, List.getElem_cons_zero, List.getElem_cons_succ]
        refine planT_stop ?_
        exact ⟨V2.heap.size, rfl, HFIN.out⟩
      · refine op_make (v := .pointer (some ⟨w3.heap.size, 0, none⟩)) (w1 := w3.drew.alloc (.cells #[.int .i64 0, .int .i64 0, .int .i64 0, .int .i64 0, .int .i64 0, .int .i64 0, .bool false, .int .u32 0, .int .u32 0] 70)) rfl (by rfl) (by go_simp) ?_
        obtain ⟨VV, hVV⟩ : ∃ VV, VV = w3.drew.alloc (.cells #[.int .i64 0, .int .i64 0, .int .i64 0, .int .i64 0, .int .i64 0, .int .i64 0, .bool false, .int .u32 0, .int .u32 0] 70) := ⟨_, rfl⟩
        obtain ⟨E3, hE3⟩ : ∃ E3, E3 = w3.heap.size := ⟨_, rfl⟩
        have HE1 : Hid (Blk VV E3 #[.int .i64 0, .int .i64 0, .int .i64 0, .int .i64 0, .int .i64 0, .int .i64 0, .bool false, .int .u32 0, .int .u32 0]) := Lib.hid (by rw [hVV, hE3]; exact Blk.new w3.drew _ _)
        have HBV : Hid (Below w3.heap.size w3 VV) := Lib.hid (by rw [hVV]; exact (Below.refl _ _).drew.alloc (Nat.le_refl _) _)
        rw [← hVV, ← hE3]
        have HEE3 := Lib.hid hE3
        clear hVV hE3
        refine ⟨HS2.out _ HBV.out, ?_⟩
        try simp only [Act.put, List.setIfInBounds_toArray, List.set_cons_zero, List.set_cons_succ, List.getElem_toArray, List.getElem_cons_zero, List.getElem_cons_succ]
        refine planT_one ?_
        refine op_call (F := 147) (args := ?_) rfl (by rfl) ?_ ?_
        rotate_left
        · go_simp
          rfl
        refine (Di.alone_any (Zs 8 c l A) (.agg #[.int .i64 (F.own k : Nat), .slice (some ⟨(A (.sh k)).b, (A (.sh k)).o, none⟩) c (A (.sh k)).c]) (entE F c k) VV (HEO.out VV HBV.out)).mono ?_
        rintro e V2 ⟨rfl, hbe⟩
        rw [← HAL.out]
        have HBV2 := Lib.hid (HBV.out.trans (hbe.mono HBV.out.size))
        have HE3 := Lib.hid (HE1.out.below hbe)
        clear hbe
        refine ⟨_, rfl, HS2.out _ HBV2.out, ?_⟩
        try simp only [Act.put, List.setIfInBounds_toArray, List.set_cons_zero, List.set_cons_succ, List.getElem_toArray, List.getElem_cons_zero, List.getElem_cons_succ]
        have kE1 := HE3.out.c
        have fE1 := HE3.out.f
        iterate 2
          refine planT_read (v := ?_) rfl (by rfl) ?_ ?_
          rotate_left
          · intro w' hS
            try dsimp only at hS
            go_simp
            try with_reducible rfl
          try simp only [Act.put, List.setIfInBounds_toArray, List.set_cons_zero, List.set_cons_succ, List.getElem_toArray, List.getElem_cons_zero, List.getElem_cons_succ]
        refine planT_one ?_
        obtain ⟨w5, hw5⟩ : ∃ w5, w5 = (((((((((V2.setCell ⟨E3, 0, none⟩ (.int .i64 3)).setCell ⟨E3, 1, none⟩ (.int .i64 0)).setCell ⟨E3, 2, none⟩ (.int .i64 fr)).setCell ⟨E3, 3, none⟩ (.int .i64 0)).setCell ⟨E3, 4, none⟩ (.int .i64 0)).setCell ⟨E3, 5, none⟩ (.int .i64 offs)).setCell ⟨E3, 6, none⟩ (.bool AL)).setCell ⟨E3, 7, none⟩ (.int .u32 0)).setCell ⟨E3, 8, none⟩ (.int .u32 0)) := ⟨_, rfl⟩
        refine op_store (w1 := (((((((((V2.setCell ⟨E3, 0, none⟩ (.int .i64 3)).setCell ⟨E3, 1, none⟩ (.int .i64 0)).setCell ⟨E3, 2, none⟩ (.int .i64 fr)).setCell ⟨E3, 3, none⟩ (.int .i64 0)).setCell ⟨E3, 4, none⟩ (.int .i64 0)).setCell ⟨E3, 5, none⟩ (.int .i64 offs)).setCell ⟨E3, 6, none⟩ (.bool AL)).setCell ⟨E3, 7, none⟩ (.int .u32 0)).setCell ⟨E3, 8, none⟩ (.int .u32 0))) rfl (by rfl) ?_ ?_
        · go_simp
        clear kE1 fE1
        have hge : w3.heap.size ≤ E3 := Nat.le_of_eq HEE3.out.symm
        have HBV5 : Hid (Below w3.heap.size w3 w5) := Lib.hid (by rw [hw5]; exact (((((((((HBV2.out.setCell (p := ⟨E3, 0, none⟩) hge _).setCell (p := ⟨E3, 1, none⟩) hge _).setCell (p := ⟨E3, 2, none⟩) hge _).setCell (p := ⟨E3, 3, none⟩) hge _).setCell (p := ⟨E3, 4, none⟩) hge _).setCell (p := ⟨E3, 5, none⟩) hge _).setCell (p := ⟨E3, 6, none⟩) hge _).setCell (p := ⟨E3, 7, none⟩) hge _).setCell (p := ⟨E3, 8, none⟩) hge _))
        have HFIN : Hid (AnsO w3 w5 E3 fr offs AL) := Lib.hid ⟨HBV5.out, hge, by rw [hw5]; exact (((((((((HE3.out.set (n := 0) _ (by simp)).set (n := 1) _ (by simp)).set (n := 2) _ (by simp)).set (n := 3) _ (by simp)).set (n := 4) _ (by simp)).set (n := 5) _ (by simp)).set (n := 6) _ (by simp)).set (n := 7) _ (by simp)).set (n := 8) _ (by simp))⟩
        rw [← hw5]
        clear hw5
        refine ⟨HS2.out _ HBV5.out, ?_⟩
        try simp only [Act.put, List.setIfInBounds_toArray, List.set_cons_zero, List.set_cons_succ, List.getElem_toArray, List.getElem_cons_zero, List.getElem_cons_succ]
        refine planT_stop ?_
        exact ⟨E3, rfl, HFIN.out⟩
    · rintro a' w5 ⟨E3, rfl, hb5, hge, hE3⟩
      have H5 := Lib.hid (H3.out.below hb5)
      have HM5 := Lib.hid (HM3.out.below hb5)
      have HR5 := Lib.hid (HR3.out.below hb5)
      have HB5 := Lib.hid (HB3.out.trans (hb5.mono HB3.out.size))
      have HE3 := Lib.hid hE3
      have nR : R ≠ E3 := by have := HR3.out.lt; omega
      have nR' : E3 ≠ R := fun e => nR e.symm
      have nE : E ≠ E3 := by have := HM3.out.lt; omega
      have nE' : E3 ≠ E := fun e => nE e.symm
      have nER : E ≠ R := by have := HER.out; omega
      have nER' : R ≠ E := fun e => nER e.symm
      have gR : w.heap.size ≤ R := by have := HRR.out; omega
      have gE3 : w.heap.size ≤ E3 := Nat.le_trans HB3.out.size hge
      have HGE := Lib.hid hge
      clear hb5 hge hE3
      refine NoPanic.normal ?_
      have kM := HM5.out.c
      have kR := HR5.out.c
      have fR := HR5.out.f
      have kE := HE3.out.c
      have fE := HE3.out.f
      have E1' := E1.out
      by_cases hs : src = 0
      · rw [if_pos hs] at E1'
        have hs0 : ((src : Int) == 0) = true := eq_num src 0 hs
        have HE1 := Lib.hid E1'
        have HS := Lib.hid hs
        clear E1' hs
        have k3 := H5.out.c3
        have kh := H5.out.ho hk
        have n3 : (A .ho).b ≠ E3 := by
          have h1 := H3.out.mem.lt .ho (by show 0 < l; omega)
          have := HGE.out
          omega
        go_upto_region 4 with fail
        refine region_plan (fun V : World => V = w5.drew) 10 [(0, true), (1, true), (2, true), (3, true), (4, true), (5, true), (6, true), (7, true), (8, true), (9, true)] (by kernel_rfl) (by kernel_rfl) rfl ?_
        iterate 10
          refine plan_read (v := ?_) rfl (by rfl) ?_ ?_
          rotate_left
          · intro w' hS
            try dsimp only at hS
            go_simp
            try with_reducible rfl
          try simp only [Act.put, List.setIfInBounds_toArray, List.set_cons_zero, List.set_cons_succ, List.getElem_toArray, List.getElem_cons_zero, List.getElem_cons_succ]
        refine plan_nil ?_
        simp only [List.drop_succ_cons, List.drop_zero]
        go_wp2_with fail
        exact bodyPost_ret (v := mV ⟨3, 0, fr, 0, 0, offs, AL, 0, F.home k⟩) (by simp [results, Tryz.results133, go_sem, *]) rfl ⟨by rw [HE1.out], (((((((((((HB5.out.setCell (p := ⟨E3, _, none⟩) gE3 _).setCell (p := ⟨R, _, none⟩) gR _).setCell (p := ⟨R, _, none⟩) gR _).setCell (p := ⟨R, _, none⟩) gR _).setCell (p := ⟨R, _, none⟩) gR _).setCell (p := ⟨R, _, none⟩) gR _).setCell (p := ⟨R, _, none⟩) gR _).setCell (p := ⟨R, _, none⟩) gR _).setCell (p := ⟨R, _, none⟩) gR _).setCell (p := ⟨R, _, none⟩) gR _)).drew⟩
      rw [if_neg hs] at E1'
      have hs0 : ((src : Int) == 0) = false := ne_num src 0 hs
      clear hs
      by_cases hs : src = fr
      · rw [if_pos hs] at E1'
        have hs1 : ((src : Int) == (fr : Int)) = true := by rw [eq_one]; exact decide_eq_true hs
        have HE1 := Lib.hid E1'
        have HS := Lib.hid hs
        clear E1' hs
        go_wp2_with fail
        exact bodyPost_ret (v := mV ⟨3, 0, fr, 0, 0, offs, AL, 1, 0⟩) (by simp [results, Tryz.results133, go_sem, *]) rfl ⟨by rw [HE1.out], ((((((((((HB5.out.setCell (p := ⟨E3, _, none⟩) gE3 _).setCell (p := ⟨R, _, none⟩) gR _).setCell (p := ⟨R, _, none⟩) gR _).setCell (p := ⟨R, _, none⟩) gR _).setCell (p := ⟨R, _, none⟩) gR _).setCell (p := ⟨R, _, none⟩) gR _).setCell (p := ⟨R, _, none⟩) gR _).setCell (p := ⟨R, _, none⟩) gR _).setCell (p := ⟨R, _, none⟩) gR _).setCell (p := ⟨R, _, none⟩) gR _)⟩
      rw [if_neg hs] at E1'
      have hs1 : ((src : Int) == (fr : Int)) = false := by rw [eq_one]; exact decide_eq_false hs
      clear hs
      by_cases hs : kd = 2
      · rw [if_pos hs] at E1'
        have hs2 : ((kd : Int) == 2) = true := eq_num kd 2 hs
        have HE1 := Lib.hid E1'
        have HS := Lib.hid hs
        clear E1' hs
        go_wp2_with fail
        exact bodyPost_ret (v := mV ⟨7, 0, src, 0, fr, offs, false, 0, 0⟩) (by simp [results, Tryz.results133, go_sem, *]) rfl ⟨by rw [HE1.out], (((((((((HB5.out.setCell (p := ⟨R, _, none⟩) gR _).setCell (p := ⟨R, _, none⟩) gR _).setCell (p := ⟨R, _, none⟩) gR _).setCell (p := ⟨R, _, none⟩) gR _).setCell (p := ⟨R, _, none⟩) gR _).setCell (p := ⟨R, _, none⟩) gR _).setCell (p := ⟨R, _, none⟩) gR _).setCell (p := ⟨R, _, none⟩) gR _).setCell (p := ⟨R, _, none⟩) gR _)⟩
      · rw [if_neg hs] at E1'
        have hs2 : ((kd : Int) == 2) = false := ne_num kd 2 hs
        have HE1 := Lib.hid E1'
        clear E1' hs
        go_wp2_with fail
        exact bodyPost_ret (v := mV ⟨6, 0, src, 0, fr, offs, false, 0, 0⟩) (by simp [results, Tryz.results133, go_sem, *]) rfl ⟨by rw [HE1.out], (((((((((HB5.out.setCell (p := ⟨R, _, none⟩) gR _).setCell (p := ⟨R, _, none⟩) gR _).setCell (p := ⟨R, _, none⟩) gR _).setCell (p := ⟨R, _, none⟩) gR _).setCell (p := ⟨R, _, none⟩) gR _).setCell (p := ⟨R, _, none⟩) gR _).setCell (p := ⟨R, _, none⟩) gR _).setCell (p := ⟨R, _, none⟩) gR _).setCell (p := ⟨R, _, none⟩) gR _)⟩
  · have dq : ((F.own k : Int) == (fr : Int)) = false := by rw [eq_one]; exact decide_eq_false ho
    have dq2 : decide (F.own k = fr) = false := decide_eq_false ho
    rw [decide_eq_false ho, Bool.false_and] at e1
    have HO := Lib.hid ho
    have E1 := Lib.hid e1
    clear ho e1
    go_enter Tryz.func133, Tryz.ntmps133
    go_upto_region 1 with fail
    rw [← HRR.out, ← HEE.out, ← HW1.out, ← HW2.out]
    have HS1 : Hid (∀ V, Below w2.heap.size w2 V → (∀ j, V.cell? ⟨E, j, none⟩ = (mA ⟨kd, fr, tt, k, fo, ac, ow, nu, va⟩ : Array Value)[j]?) ∧ V.cell? ⟨B, 4, none⟩ = some (.slice (some ⟨(A .di).b, (A .di).o, none⟩) l (A .di).c) ∧ V.cell? ⟨(A .di).b, (A .di).o + k * 2, none⟩ = some (.int .i64 (F.own k : Nat)) ∧ V.cell? ⟨(A .di).b, (A .di).o + k * 2 + 1, none⟩ = some (.slice (some ⟨(A (.sh k)).b, (A (.sh k)).o, none⟩) c (A (.sh k)).c)) := Lib.hid (fun V hV => ⟨(HM2.out.below hV).c, (H2.out.below hV).c4, (H2.out.below hV).d0 hk, (H2.out.below hV).d1 hk⟩)
    refine region_planF (fun V : World => (∀ j, V.cell? ⟨E, j, none⟩ = (mA ⟨kd, fr, tt, k, fo, ac, ow, nu, va⟩ : Array Value)[j]?) ∧ V.cell? ⟨B, 4, none⟩ = some (.slice (some ⟨(A .di).b, (A .di).o, none⟩) l (A .di).c) ∧ V.cell? ⟨(A .di).b, (A .di).o + k * 2, none⟩ = some (.int .i64 (F.own k : Nat)) ∧ V.cell? ⟨(A .di).b, (A .di).o + k * 2 + 1, none⟩ = some (.slice (some ⟨(A (.sh k)).b, (A (.sh k)).o, none⟩) c (A (.sh k)).c)) (.read 0 (.read 1 (.read 2 (.read 3 (.read 4 (.read 5 (.read 6 (.read 7 (.read 8 (.one 9 (.one 10 .stop))))))))))) (by kernel_rfl) (by kernel_rfl) (HS1.out _ ((Below.refl _ _).drew)) ?_
    iterate 9
      refine planT_read (v := ?_) rfl (by rfl) ?_ ?_
      rotate_left
      · intro w' hS
        try dsimp only at hS
        go_simp
        try with_reducible rfl
      try simp only [Act.put, List.setIfInBounds_toArray, List.set_cons_zero, List.set_cons_succ, List.getElem_toArray, List.getElem_cons_zero, List.getElem_cons_succ]
    refine planT_one ?_
    refine op_make (v := .pointer (some ⟨w2.heap.size, 0, none⟩)) (w1 := w2.drew.alloc (.cells #[.int .i64 0, .slice none 0 0] 65)) rfl (by rfl) (by go_simp) ?_
    refine ⟨HS1.out _ ((Below.refl _ _).drew.alloc (Nat.le_refl _) _), ?_⟩
    try simp only [Act.put, List.setIfInBounds_toArray, List.set_cons_zero, List.set_cons_succ, List.getElem_toArray, List.getElem_cons_zero, List.getElem_cons_succ]
    refine planT_one ?_
    obtain ⟨w3, hw3⟩ : ∃ w3, w3 = w2.drew.alloc (.cells #[.int .i64 (F.own k : Nat), .slice (some ⟨(A (.sh k)).b, (A (.sh k)).o, none⟩) c (A (.sh k)).c] 65) := ⟨_, rfl⟩
    refine op_store (w1 := w2.drew.alloc (.cells #[.int .i64 (F.own k : Nat), .slice (some ⟨(A (.sh k)).b, (A (.sh k)).o, none⟩) c (A (.sh k)).c] 65)) rfl (by rfl) ?_ ?_
    · go_simp
    obtain ⟨E2, hE2⟩ : ∃ E2, E2 = w2.heap.size := ⟨_, rfl⟩
    have hb23 : Below w2.heap.size w2 w3 := by rw [hw3]; exact (Below.refl _ _).drew.alloc (Nat.le_refl _) _
    have HE2 : Hid (Blk w3 E2 #[.int .i64 (F.own k : Nat), .slice (some ⟨(A (.sh k)).b, (A (.sh k)).o, none⟩) c (A (.sh k)).c]) := Lib.hid (by rw [hw3, hE2]; exact Blk.new w2.drew _ _)
    have H3 := Lib.hid (H2.out.below hb23)
    have HM3 := Lib.hid (HM2.out.below hb23)
    have HR3 := Lib.hid (HR2.out.below hb23)
    have HB3 := Lib.hid (HB2.out.trans (hb23.mono HB2.out.size))
    rw [← hw3, ← hE2]
    have HEE2 := Lib.hid hE2
    have HRE2 : Hid (R < E2) := Lib.hid (by rw [hE2]; exact HR2.out.lt)
    clear hw3 hE2
    refine ⟨HS1.out _ hb23, ?_⟩
    clear hb23
    try simp only [Act.put, List.setIfInBounds_toArray, List.set_cons_zero, List.set_cons_succ, List.getElem_toArray, List.getElem_cons_zero, List.getElem_cons_succ]
    refine planT_stop ?_
    refine NoPanic.normal ?_
    have HS2 : Hid (∀ V, Below w3.heap.size w3 V → (∀ j, V.cell? ⟨E, j, none⟩ = (mA ⟨kd, fr, tt, k, fo, ac, ow, nu, va⟩ : Array Value)[j]?) ∧ (∀ j, V.cell? ⟨E2, j, none⟩ = (#[.int .i64 (F.own k : Nat), .slice (some ⟨(A (.sh k)).b, (A (.sh k)).o, none⟩) c (A (.sh k)).c] : Array Value)[j]?)) := Lib.hid (fun V hV => ⟨(HM3.out.below hV).c, (HE2.out.below hV).c⟩)
    have HEO : Hid (∀ V, Below w3.heap.size w3 V → Di.Eo (Zs 8 c l A) V (.agg #[.int .i64 (F.own k : Nat), .slice (some ⟨(A (.sh k)).b, (A (.sh k)).o, none⟩) c (A (.sh k)).c]) (entE F c k)) := Lib.hid (fun V hV => (H3.out.ent hk).below hV)
    go_upto_region 2 with fail
    refine region_planF (fun V : World => (∀ j, V.cell? ⟨E, j, none⟩ = (mA ⟨kd, fr, tt, k, fo, ac, ow, nu, va⟩ : Array Value)[j]?) ∧ (∀ j, V.cell? ⟨E2, j, none⟩ = (#[.int .i64 (F.own k : Nat), .slice (some ⟨(A (.sh k)).b, (A (.sh k)).o, none⟩) c (A (.sh k)).c] : Array Value)[j]?)) (.read 0 (.read 1 (.read 2 (.read 3 (.read 4 (.read 5 (.read 6 (.read 7 (.read 8 (.read 9 (.two 10 13 (.read 11 (.read 12 (.one 13 (.one 14 .stop)))) (.one 10 (.read 11 (.read 12 (.one 14 .stop))))))))))))))) (by kernel_rfl) (by kernel_rfl) (HS2.out _ ((Below.refl _ _).drew)) (planT_mono (K := fun a' V => ∃ E3, a' = { tmps := #[.pointer (some ⟨B, 0, none⟩), mV ⟨kd, fr, tt, k, fo, ac, ow, nu, va⟩, .int .i64 src, .int .i64 offs, undef, .pointer (some ⟨E, 0, none⟩), undef, undef, .pointer (some ⟨R, 0, none⟩), .pointer (some ⟨E2, 0, none⟩), .pointer (some ⟨E3, 0, none⟩), .pointer (some ⟨B, 0, none⟩), .pointer (some ⟨B, 0, none⟩), .pointer (some ⟨B, 0, none⟩), .pointer (some ⟨B, 4, none⟩), .slice (some ⟨(A .di).b, (A .di).o, none⟩) l (A .di).c, .pointer (some ⟨E, 3, none⟩), .int .i64 k, .pointer (some ⟨(A .di).b, (A .di).o + k * 2, none⟩), .agg #[.int .i64 (F.own k : Nat), .slice (some ⟨(A (.sh k)).b, (A (.sh k)).o, none⟩) c (A (.sh k)).c], .pointer (some ⟨E, 1, none⟩), .int .i64 fr, .int .i64 offs, .pointer (some ⟨E2, 0, none⟩), .int .i64 (F.own k : Nat), .pointer (some ⟨E, 1, none⟩), .int .i64 fr, .bool false, .bool false, undef, undef, .bool false, .agg #[.int .i64 3, .int .i64 0, .int .i64 fr, .int .i64 0, .int .i64 0, .int .i64 offs, .bool false, .int .u32 0, .int .u32 0], undef, undef, undef, undef, undef, undef, undef, undef, undef, undef, undef, undef, undef, undef, undef, undef, undef, undef, undef, undef, undef, undef, undef, undef, undef, undef, undef, undef, undef, undef, undef, undef, undef, undef, undef], defers := [] } ∧ AnsO w3 V E3 fr offs false) ?_ _ _ _ ?_)
    rotate_left
    · skip
      iterate 9
        refine planT_read (v := ?_) rfl (by rfl) ?_ ?_
        rotate_left
        · intro w' hS
          try dsimp only at hS
          go_simp
          try with_reducible rfl
        try simp only [Act.put, List.setIfInBounds_toArray, List.set_cons_zero, List.set_cons_succ, List.getElem_toArray, List.getElem_cons_zero, List.getElem_cons_succ]
      refine planT_skip rfl (by rfl) ?_
      try simp only [Act.put, List.setIfInBounds_toArray, List.set_cons_zero, List.set_cons_succ, List.getElem_toArray, List.getElem_cons_zero, List.getElem_cons_succ]
      refine planT_two ?_ ?_
      · obtain ⟨VV, hVV⟩ : ∃ VV, VV = w3.drew := ⟨_, rfl⟩
        have HBV : Hid (Below w3.heap.size w3 VV) := Lib.hid (by rw [hVV]; exact (Below.refl _ _).drew)
        rw [← hVV]
        clear hVV
        refine op_skip rfl (by rfl) ?_
        obtain ⟨V2, hV2⟩ : ∃ V2, V2 = VV := ⟨_, rfl⟩
        have HBV2 : Hid (Below w3.heap.size w3 V2) := Lib.hid (by rw [hV2]; exact HBV.out)
        have hbe : Below VV.heap.size VV V2 := by rw [hV2]; exact Below.refl _ _
        rw [← hV2]
        clear hbe hV2
        refine ⟨HS2.out _ HBV2.out, ?_⟩
        try simp only [Act.put, List.setIfInBounds_toArray, List.set_cons_zero, List.set_cons_succ, List.getElem_toArray, List.getElem_cons_zero, List.getElem_cons_succ]
        iterate 2
          refine planT_read (v := ?_) rfl (by rfl) ?_ ?_
          rotate_left
          · intro w' hS
            try dsimp only at hS
            go_simp
            try with_reducible rfl
          try simp only [Act.put, List.setIfInBounds_toArray, List.set_cons_zero, List.set_cons_succ, List.getElem_toArray, List.getElem_cons_zero, List.getElem_cons_succ]
        refine planT_one ?_
        refine op_make (v := .pointer (some ⟨V2.heap.size, 0, none⟩)) (w1 := V2.alloc (.cells #[.int .i64 0, .int .i64 0, .int .i64 0, .int .i64 0, .int .i64 0, .int .i64 0, .bool false, .int .u32 0, .int .u32 0] 70)) rfl (by rfl) (by go_simp) ?_
        refine ⟨HS2.out _ (HBV2.out.alloc HBV2.out.size _), ?_⟩
        try simp only [Act.put, List.setIfInBounds_toArray, List.set_cons_zero, List.set_cons_succ, List.getElem_toArray, List.getElem_cons_zero, List.getElem_cons_succ]
        refine planT_one ?_
        obtain ⟨w5, hw5⟩ : ∃ w5, w5 = V2.alloc (.cells #[.int .i64 3, .int .i64 0, .int .i64 fr, .int .i64 0, .int .i64 0, .int .i64 offs, .bool false, .int .u32 0, .int .u32 0] 70) := ⟨_, rfl⟩
        refine op_store (w1 := V2.alloc (.cells #[.int .i64 3, .int .i64 0, .int .i64 fr, .int .i64 0, .int .i64 0, .int .i64 offs, .bool false, .int .u32 0, .int .u32 0] 70)) rfl (by rfl) ?_ ?_
        · go_simp
        have HBV5 : Hid (Below w3.heap.size w3 w5) := Lib.hid (by rw [hw5]; exact HBV2.out.alloc HBV2.out.size _)
        have HFIN : Hid (AnsO w3 w5 V2.heap.size fr offs false) := Lib.hid ⟨HBV5.out, HBV2.out.size, by rw [hw5]; exact Blk.new _ _ _⟩
        rw [← hw5]
        clear hw5
        refine ⟨HS2.out _ HBV5.out, ?_⟩
        try simp only [Act.put, List.setIfInBounds_toArray, List.set_cons_zero, List.set_cons_succ, List.getElem_toArray, List.getElem_cons_zero, List.getElem_cons_succ]
        refine planT_stop ?_
        exact ⟨V2.heap.size, rfl, HFIN.out⟩
      · refine op_make (v := .pointer (some ⟨w3.heap.size, 0, none⟩)) (w1 := w3.drew.alloc (.cells #[.int .i64 0, .int .i64 0, .int .i64 0, .int .i64 0, .int .i64 0, .int .i64 0, .bool false, .int .u32 0, .int .u32 0] 70)) rfl (by rfl) (by go_simp) ?_
        obtain ⟨VV, hVV⟩ : ∃ VV, VV = w3.drew.alloc (.cells #[.int .i64 0, .int .i64 0, .int .i64 0, .int .i64 0, .int .i64 0, .int .i64 0, .bool false, .int .u32 0, .int .u32 0] 70) := ⟨_, rfl⟩
        obtain ⟨E3, hE3⟩ : ∃ E3, E3 = w3.heap.size := ⟨_, rfl⟩
        have HE1 : Hid (Blk VV E3 #[.int .i64 0, .int .i64 0, .int .i64 0, .int .i64 0, .int .i64 0, .int .i64 0, .bool false, .int .u32 0, .int .u32 0]) := Lib.hid (by rw [hVV, hE3]; exact Blk.new w3.drew _ _)
        have HBV : Hid (Below w3.heap.size w3 VV) := Lib.hid (by rw [hVV]; exact (Below.refl _ _).drew.alloc (Nat.le_refl _) _)
        rw [← hVV, ← hE3]
        have HEE3 := Lib.hid hE3
        clear hVV hE3
        refine ⟨HS2.out _ HBV.out, ?_⟩
        try simp only [Act.put, List.setIfInBounds_toArray, List.set_cons_zero, List.set_cons_succ, List.getElem_toArray, List.getElem_cons_zero, List.getElem_cons_succ]
        refine planT_one ?_
        refine op_skip rfl (by rfl) ?_
        obtain ⟨V2, hV2⟩ : ∃ V2, V2 = VV := ⟨_, rfl⟩
        have HBV2 : Hid (Below w3.heap.size w3 V2) := Lib.hid (by rw [hV2]; exact HBV.out)
        have hbe : Below VV.heap.size VV V2 := by rw [hV2]; exact Below.refl _ _
        have HE3 := Lib.hid (HE1.out.below hbe)
        rw [← hV2]
        clear hbe hV2
        refine ⟨HS2.out _ HBV2.out, ?_⟩
        try simp only [Act.put, List.setIfInBounds_toArray, List.set_cons_zero, List.set_cons_succ, List.getElem_toArray, List.getElem_cons_zero, List.getElem_cons_succ]
        have kE1 := HE3.out.c
        have fE1 := HE3.out.f
        iterate 2
          refine planT_read (v := ?_) rfl (by rfl) ?_ ?_
          rotate_left
          · intro w' hS
            try dsimp only at hS
            go_simp
            try with_reducible rfl
          try simp only [Act.put, List.setIfInBounds_toArray, List.set_cons_zero, List.set_cons_succ, List.getElem_toArray, List.getElem_cons_zero, List.getElem_cons_succ]
        refine planT_one ?_
        obtain ⟨w5, hw5⟩ : ∃ w5, w5 = (((((((((V2.setCell ⟨E3, 0, none⟩ (.int .i64 3)).setCell ⟨E3, 1, none⟩ (.int .i64 0)).setCell ⟨E3, 2, none⟩ (.int .i64 fr)).setCell ⟨E3, 3, none⟩ (.int .i64 0)).setCell ⟨E3, 4, none⟩ (.int .i64 0)).setCell ⟨E3, 5, none⟩ (.int .i64 offs)).setCell ⟨E3, 6, none⟩ (.bool false)).setCell ⟨E3, 7, none⟩ (.int .u32 0)).setCell ⟨E3, 8, none⟩ (.int .u32 0)) := ⟨_, rfl⟩
        refine op_store (w1 := (((((((((V2.setCell ⟨E3, 0, none⟩ (.int .i64 3)).setCell ⟨E3, 1, none⟩ (.int .i64 0)).setCell ⟨E3, 2, none⟩ (.int .i64 fr)).setCell ⟨E3, 3, none⟩ (.int .i64 0)).setCell ⟨E3, 4, none⟩ (.int .i64 0)).setCell ⟨E3, 5, none⟩ (.int .i64 offs)).setCell ⟨E3, 6, none⟩ (.bool false)).setCell ⟨E3, 7, none⟩ (.int .u32 0)).setCell ⟨E3, 8, none⟩ (.int .u32 0))) rfl (by rfl) ?_ ?_
        · go_simp
        clear kE1 fE1
        have hge : w3.heap.size ≤ E3 := Nat.le_of_eq HEE3.out.symm
        have HBV5 : Hid (Below w3.heap.size w3 w5) := Lib.hid (by rw [hw5]; exact (((((((((HBV2.out.setCell (p := ⟨E3, 0, none⟩) hge _).setCell (p := ⟨E3, 1, none⟩) hge _).setCell (p := ⟨E3, 2, none⟩) hge _).setCell (p := ⟨E3, 3, none⟩) hge _).setCell (p := ⟨E3, 4, none⟩) hge _).setCell (p := ⟨E3, 5, none⟩) hge _).setCell (p := ⟨E3, 6, none⟩) hge _).setCell (p := ⟨E3, 7, none⟩) hge _).setCell (p := ⟨E3, 8, none⟩) hge _))
        have HFIN : Hid (AnsO w3 w5 E3 fr offs false) := Lib.hid ⟨HBV5.out, hge, by rw [hw5]; exact (((((((((HE3.out.set (n := 0) _ (by simp)).set (n := 1) _ (by simp)).set (n := 2) _ (by simp)).set (n := 3) _ (by simp)).set (n := 4) _ (by simp)).set (n := 5) _ (by simp)).set (n := 6) _ (by simp)).set (n := 7) _ (by simp)).set (n := 8) _ (by simp))⟩
        rw [← hw5]
        clear hw5
        refine ⟨HS2.out _ HBV5.out, ?_⟩
        try simp only [Act.put, List.setIfInBounds_toArray, List.set_cons_zero, List.set_cons_succ, List.getElem_toArray, List.getElem_cons_zero, List.getElem_cons_succ]
        refine planT_stop ?_
        exact ⟨E3, rfl, HFIN.out⟩
    · rintro a' w5 ⟨E3, rfl, hb5, hge, hE3⟩
      have H5 := Lib.hid (H3.out.below hb5)
      have HM5 := Lib.hid (HM3.out.below hb5)
      have HR5 := Lib.hid (HR3.out.below hb5)
      have HB5 := Lib.hid (HB3.out.trans (hb5.mono HB3.out.size))
      have HE3 := Lib.hid hE3
      have nR : R ≠ E3 := by have := HR3.out.lt; omega
      have nR' : E3 ≠ R := fun e => nR e.symm
      have nE : E ≠ E3 := by have := HM3.out.lt; omega
      have nE' : E3 ≠ E := fun e => nE e.symm
      have nER : E ≠ R := by have := HER.out; omega
      have nER' : R ≠ E := fun e => nER e.symm
      have gR : w.heap.size ≤ R := by have := HRR.out; omega
      have gE3 : w.heap.size ≤ E3 := Nat.le_trans HB3.out.size hge
      have HGE := Lib.hid hge
      clear hb5 hge hE3
      refine NoPanic.normal ?_
      have kM := HM5.out.c
      have kR := HR5.out.c
      have fR := HR5.out.f
      have kE := HE3.out.c
      have fE := HE3.out.f
      have E1' := E1.out
      by_cases hs : src = 0
      · rw [if_pos hs] at E1'
        have hs0 : ((src : Int) == 0) = true := eq_num src 0 hs
        have HE1 := Lib.hid E1'
        have HS := Lib.hid hs
        clear E1' hs
        have k3 := H5.out.c3
        have kh := H5.out.ho hk
        have n3 : (A .ho).b ≠ E3 := by
          have h1 := H3.out.mem.lt .ho (by show 0 < l; omega)
          have := HGE.out
          omega
        go_upto_region 4 with fail
        refine region_plan (fun V : World => V = w5.drew) 10 [(0, true), (1, true), (2, true), (3, true), (4, true), (5, true), (6, true), (7, true), (8, true), (9, true)] (by kernel_rfl) (by kernel_rfl) rfl ?_
        iterate 10
          refine plan_read (v := ?_) rfl (by rfl) ?_ ?_
          rotate_left
          · intro w' hS
            try dsimp only at hS
            go_simp
            try with_reducible rfl
          try simp only [Act.put, List.setIfInBounds_toArray, List.set_cons_zero, List.set_cons_succ, List.getElem_toArray, List.getElem_cons_zero, List.getElem_cons_succ]
        refine plan_nil ?_
        simp only [List.drop_succ_cons, List.drop_zero]
        go_wp2_with fail
        exact bodyPost_ret (v := mV ⟨3, 0, fr, 0, 0, offs, false, 0, F.home k⟩) (by simp [results, Tryz.results133, go_sem, *]) rfl ⟨by rw [HE1.out], (((((((((((HB5.out.setCell (p := ⟨E3, _, none⟩) gE3 _).setCell (p := ⟨R, _, none⟩) gR _).setCell (p := ⟨R, _, none⟩) gR _).setCell (p := ⟨R, _, none⟩) gR _).setCell (p := ⟨R, _, none⟩) gR _).setCell (p := ⟨R, _, none⟩) gR _).setCell (p := ⟨R, _, none⟩) gR _).setCell (p := ⟨R, _, none⟩) gR _).setCell (p := ⟨R, _, none⟩) gR _).setCell (p := ⟨R, _, none⟩) gR _)).drew⟩
      rw [if_neg hs] at E1'
      have hs0 : ((src : Int) == 0) = false := ne_num src 0 hs
      clear hs
      by_cases hs : src = fr
      · rw [if_pos hs] at E1'
        have hs1 : ((src : Int) == (fr : Int)) = true := by rw [eq_one]; exact decide_eq_true hs
        have HE1 := Lib.hid E1'
        have HS := Lib.hid hs
        clear E1' hs
        go_wp2_with fail
        exact bodyPost_ret (v := mV ⟨3, 0, fr, 0, 0, offs, false, 1, 0⟩) (by simp [results, Tryz.results133, go_sem, *]) rfl ⟨by rw [HE1.out], ((((((((((HB5.out.setCell (p := ⟨E3, _, none⟩) gE3 _).setCell (p := ⟨R, _, none⟩) gR _).setCell (p := ⟨R, _, none⟩) gR _).setCell (p := ⟨R, _, none⟩) gR _).setCell (p := ⟨R, _, none⟩) gR _).setCell (p := ⟨R, _, none⟩) gR _).setCell (p := ⟨R, _, none⟩) gR _).setCell (p := ⟨R, _, none⟩) gR _).setCell (p := ⟨R, _, none⟩) gR _).setCell (p := ⟨R, _, none⟩) gR _)⟩
      rw [if_neg hs] at E1'
      have hs1 : ((src : Int) == (fr : Int)) = false := by rw [eq_one]; exact decide_eq_false hs
      clear hs
      by_cases hs : kd = 2
      · rw [if_pos hs] at E1'
        have hs2 : ((kd : Int) == 2) = true := eq_num kd 2 hs
        have HE1 := Lib.hid E1'
        have HS := Lib.hid hs
        clear E1' hs
        go_wp2_with fail
        exact bodyPost_ret (v := mV ⟨7, 0, src, 0, fr, offs, false, 0, 0⟩) (by simp [results, Tryz.results133, go_sem, *]) rfl ⟨by rw [HE1.out], (((((((((HB5.out.setCell (p := ⟨R, _, none⟩) gR _).setCell (p := ⟨R, _, none⟩) gR _).setCell (p := ⟨R, _, none⟩) gR _).setCell (p := ⟨R, _, none⟩) gR _).setCell (p := ⟨R, _, none⟩) gR _).setCell (p := ⟨R, _, none⟩) gR _).setCell (p := ⟨R, _, none⟩) gR _).setCell (p := ⟨R, _, none⟩) gR _).setCell (p := ⟨R, _, none⟩) gR _)⟩
      · rw [if_neg hs] at E1'
        have hs2 : ((kd : Int) == 2) = false := ne_num kd 2 hs
        have HE1 := Lib.hid E1'
        clear E1' hs
        go_wp2_with fail
        exact bodyPost_ret (v := mV ⟨6, 0, src, 0, fr, offs, false, 0, 0⟩) (by simp [results, Tryz.results133, go_sem, *]) rfl ⟨by rw [HE1.out], (((((((((HB5.out.setCell (p := ⟨R, _, none⟩) gR _).setCell (p := ⟨R, _, none⟩) gR _).setCell (p := ⟨R, _, none⟩) gR _).setCell (p := ⟨R, _, none⟩) gR _).setCell (p := ⟨R, _, none⟩) gR _).setCell (p := ⟨R, _, none⟩) gR _).setCell (p := ⟨R, _, none⟩) gR _).setCell (p := ⟨R, _, none⟩) gR _).setCell (p := ⟨R, _, none⟩) gR _)⟩
end Go.Proofs.YtmeomdfmljanhaaGreat.Pg
