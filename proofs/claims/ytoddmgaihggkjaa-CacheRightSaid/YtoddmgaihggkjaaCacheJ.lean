/- A cache copied: in memory of one's own; no condition but that it reads. -/
import Derived.Test.YtoddmgaihggkjaaCacheI
namespace Go.Proofs.Ytoddmgaihggkjaa
set_option linter.unusedVariables false
open Go.ChangeShapes Go.WideShapes Go.ChangeAt Go.RowKit

theorem clone_lines (v : Value) (l : List Ln) (w : World) (h : Lv w v l) (hm : l.length ≤ 10000) :
    Calls Try.prog 46 #[v] w fun e w' => ∃ r, e = .returned r ∧ Lw w.heap.size w' r l ∧ Below w.heap.size w w' := by
  obtain ⟨p, c, rfl, hc, hby⟩ := h
  obtain ⟨i0, hi, hz0, hz1, hz2⟩ := info_parts info30
  have HI := Lib.hid (And.intro hi (And.intro hz0 (And.intro hz1 hz2)))
  have HS : Hid (Sl w p l.length (lnC l)) := Lib.hid hby.sl
  clear hby hi hz0 hz1 hz2
  have hq : ∀ W, (binOp .eql 28 (.slice p l.length c) (.slice none 0 0)).run Try.prog W = .ok (.bool p.isNone) W := fun W => Lib.run_eql_slice_nil W _ 30 _ _ _ _ _ Try.underlying28
  unfold Lw
  obtain ⟨n, hn⟩ : ∃ n, n = l.length := ⟨_, rfl⟩
  rw [← hn] at HS hm hc hq ⊢
  have HN := Lib.hid hn
  clear hn
  cases p with
  | none =>
    have h0 : n = 0 := by
      rcases Nat.eq_zero_or_pos n with h0 | h0
      · exact h0
      · obtain ⟨b, off, _, h2, _⟩ := HS.out h0
        cases h2
    subst h0
    have hl : l = [] := List.eq_nil_of_length_eq_zero HN.out.symm
    subst hl
    clear HS HN hc HI
    simp only [Option.isNone_none, Option.isNone_some] at hq
    go_enter Try.func46, Try.ntmps46
    go_wp2
    go_ret
    exact ⟨_, rfl, World.ownsRow_nil _ _ _ _, Below.refl _ _⟩
  | some a =>
    simp only [Option.isNone_none, Option.isNone_some] at hq
    go_enter Try.func46, Try.ntmps46
    go_wp2_with (first | (at_builtin; refine wpList_append_sl rfl _ _ 28 rfl w.heap.size 30 i0 _ 4 32 Try.underlying28 HI.out.1 HI.out.2.1 HI.out.2.2.1 HI.out.2.2.2 rfl (by decide) _ 0 [] rfl (fresh_made (Nat.le_refl _)) (some a) n c (lnC l) rfl (by rw [lnC_len, HN.out]) (HS.out.below ((Below.refl _ _).alloc (Nat.le_refl _) _)) (lnC_one _) (by unfold maxLen; omega) (by omega) (by simp) ?_))
    intro v' w' g1 g2 g3
    have HG : Hid (w'.ownsRow w.heap.size 30 4 v' n (lnC l)) := Lib.hid (by simpa using g1)
    have HB : Hid (Below w.heap.size w w') := Lib.hid (((Below.refl w.heap.size w).alloc (Nat.le_refl _) _).grown g2 (by simp) (fun k hk => by simp [Value.ownBlock] at hk; omega))
    clear g1 g2 g3
    go_wp2
    go_ret
    exact ⟨_, rfl, HG.out, HB.out⟩

theorem clone_rows (p : Option Addr) (n c : Nat) (xs : List Value) (C : Ch) (w : World) (h : Cc w p n c xs C) :
    Calls Try.prog 45 #[.slice p n c] w fun e w' => ∃ r, e = .returned r ∧ w'.ownsRow w.heap.size 28 1 r n xs ∧ Below w.heap.size w w' := by
  obtain ⟨i0, hi, hz0, hz1, hz2⟩ := info_parts info28
  have HI := Lib.hid (And.intro hi (And.intro hz0 (And.intro hz1 hz2)))
  have hm : n ≤ 100 := h.n100
  have HS : Hid (Sl w p n xs) := Lib.hid h.sl
  have HN : Hid (xs.length = n) := Lib.hid h.len
  have H1 := Lib.hid h.one
  have hq : ∀ W, (binOp .eql 22 (.slice p n c) (.slice none 0 0)).run Try.prog W = .ok (.bool p.isNone) W := fun W => Lib.run_eql_slice_nil W _ 28 _ _ _ _ _ Try.underlying22
  clear hi hz0 hz1 hz2 h
  cases p with
  | none =>
    have h0 : n = 0 := by
      rcases Nat.eq_zero_or_pos n with h0 | h0
      · exact h0
      · obtain ⟨b, off, _, h2, _⟩ := HS.out h0
        cases h2
    subst h0
    have hl : xs = [] := List.eq_nil_of_length_eq_zero HN.out
    subst hl
    clear HS HN HI H1
    simp only [Option.isNone_none, Option.isNone_some] at hq
    go_enter Try.func45, Try.ntmps45
    go_wp2
    go_ret
    exact ⟨_, rfl, World.ownsRow_nil _ _ _ _, Below.refl _ _⟩
  | some a =>
    simp only [Option.isNone_none, Option.isNone_some] at hq
    go_enter Try.func45, Try.ntmps45
    go_wp2_with (first | (at_builtin; refine wpList_append_sl rfl _ _ 22 rfl w.heap.size 28 i0 (.slice none 0 0) 1 24 Try.underlying22 HI.out.1 HI.out.2.1 HI.out.2.2.1 HI.out.2.2.2 rfl (by decide) _ 0 [] rfl (fresh_made (Nat.le_refl _)) (some a) n c xs rfl (by rw [HN.out, Nat.mul_one]) (HS.out.below ((Below.refl _ _).alloc (Nat.le_refl _) _)) H1.out (by unfold maxLen; omega) (by omega) (by simp) ?_))
    intro v' w' g1 g2 g3
    have HG : Hid (w'.ownsRow w.heap.size 28 1 v' n xs) := Lib.hid (by simpa using g1)
    have HB : Hid (Below w.heap.size w w') := Lib.hid (((Below.refl w.heap.size w).alloc (Nat.le_refl _) _).grown g2 (by simp) (fun k hk => by simp [Value.ownBlock] at hk; omega))
    clear g1 g2 g3
    go_wp2
    go_ret
    exact ⟨_, rfl, HG.out, HB.out⟩

/-- Rows in memory of one's own, of which the first k are copied. -/
structure OwnK (base : Nat) (w : World) (v : Value) (xs ys : List Value) (L : List (List Ln)) (k : Nat) : Prop where
  row : w.ownsRow base 28 1 v L.length ys
  fr : ∀ j, j < k → w.ownsRow base 30 4 (ys.getD j vz) (L.getD j []).length (lnC (L.getD j []))
  sep : ∀ j, j < k → ∀ g, (ys.getD j vz).ownBlock = some g → v.ownBlock ≠ some g
  two : ∀ i j, i < k → j < k → i ≠ j → ∀ g, (ys.getD i vz).ownBlock = some g → (ys.getD j vz).ownBlock ≠ some g
  rest : ∀ j, k ≤ j → ys.getD j vz = xs.getD j vz
theorem OwnK.below {base : Nat} {w w' : World} {v : Value} {xs ys : List Value} {L : List (List Ln)} {k : Nat} (h : OwnK base w v xs ys L k) (hb : Below w.heap.size w w') : OwnK base w' v xs ys L k :=
  ⟨own_below h.row hb, fun j hj => own_below (h.fr j hj) hb, h.sep, h.two, h.rest⟩
theorem OwnK.begin {base : Nat} {w : World} {v : Value} {xs : List Value} {L : List (List Ln)} (h : w.ownsRow base 28 1 v L.length xs) : OwnK base w v xs xs L 0 :=
  ⟨h, fun j hj => absurd hj (Nat.not_lt_zero _), fun j hj => absurd hj (Nat.not_lt_zero _), fun i j hi => absurd hi (Nat.not_lt_zero _), fun j _ => rfl⟩
theorem OwnK.step {base g c k : Nat} {w w2 : World} {xs ys : List Value} {L : List (List Ln)} {r : Value} (h : OwnK base w (.slice (some ⟨g, 0, none⟩) L.length c) xs ys L k) (hk : k < L.length) (hbase : base ≤ w.heap.size) (hb : Below w.heap.size w w2)
    (hr : w2.ownsRow w.heap.size 30 4 r (L.getD k []).length (lnC (L.getD k []))) : OwnK base (w2.setCell ⟨g, k, none⟩ r) (.slice (some ⟨g, 0, none⟩) L.length c) xs (ys.set k r) L (k + 1) := by
  have h2 := h.below hb
  have hlen : ys.length = L.length := by rw [h.row.1, Nat.mul_one]
  have hgrow := (h2.row.stored k r).2
  have hgl : g < w.heap.size := (h.row.lt g rfl).2
  have hrg : ∀ b, r.ownBlock = some b → w.heap.size ≤ b := fun b hb => (hr.lt b hb).1
  have gD : ∀ j, (ys.set k r).getD j vz = if j = k then r else ys.getD j vz := fun j => getD_set ys vz r k j (by omega)
  refine ⟨(h2.row.stored k r).1, fun j hj => ?_, fun j hj b hb => ?_, fun i j hi hj hij b hb => ?_, fun j hj => ?_⟩
  · rw [gD]
    by_cases e : j = k
    · subst e
      rw [if_pos rfl]
      refine (own_base hr hbase).kept hgrow ?_
      cases hv : r.ownBlock with
      | none => exact .inl rfl
      | some b => exact .inr (fun e => by injection e with e; have := hrg b hv; omega)
    · rw [if_neg e]
      refine (h2.fr j (by omega)).kept hgrow ?_
      cases hv : (ys.getD j vz).ownBlock with
      | none => exact .inl rfl
      | some b => exact .inr (fun e2 => h.sep j (by omega) b hv (by rw [e2]; rfl))
  · rw [gD] at hb
    by_cases e : j = k
    · subst e
      rw [if_pos rfl] at hb
      have := hrg b hb
      intro e2
      injection e2 with e2
      simp at e2
      omega
    · rw [if_neg e] at hb
      exact h.sep j (by omega) b hb
  · rw [gD] at hb ⊢
    by_cases e : i = k
    · subst e
      rw [if_pos rfl] at hb
      rw [if_neg (fun e => hij e.symm)]
      intro e2
      have h1 := hrg b hb
      have h3 := ((h.fr j (by omega)).lt b e2).2
      omega
    · rw [if_neg e] at hb
      by_cases e' : j = k
      · subst e'
        rw [if_pos rfl]
        intro e2
        have h1 := hrg b e2
        have h3 := ((h.fr i (by omega)).lt b hb).2
        omega
      · rw [if_neg e']
        exact h.two i j (by omega) (by omega) hij b hb
  · rw [gD, if_neg (by omega)]
    exact h.rest j (by omega)
/-- Rows in memory of one's own. -/
def Own (base : Nat) (w : World) (v : Value) (ys : List Value) (L : List (List Ln)) : Prop := OwnK base w v ys ys L L.length
theorem OwnK.done {base : Nat} {w : World} {v : Value} {xs ys : List Value} {L : List (List Ln)} (h : OwnK base w v xs ys L L.length) : Own base w v ys L := ⟨h.row, h.fr, h.sep, h.two, fun _ _ => rfl⟩
theorem Own.below {base : Nat} {w w' : World} {v : Value} {ys : List Value} {L : List (List Ln)} (h : Own base w v ys L) (hb : Below w.heap.size w w') : Own base w' v ys L := OwnK.below h hb
theorem Own.mono {base base' : Nat} {w : World} {v : Value} {ys : List Value} {L : List (List Ln)} (h : Own base w v ys L) (hb : base' ≤ base) : Own base' w v ys L :=
  ⟨own_base h.row hb, fun j hj => own_base (h.fr j hj) hb, h.sep, h.two, h.rest⟩
/-- What lies elsewhere is written. -/
theorem Own.off {base : Nat} {w : World} {v : Value} {ys : List Value} {L : List (List Ln)} (h : Own base w v ys L) {R : Nat} (hv : ∀ g, v.ownBlock = some g → g ≠ R) (hr : ∀ k, k < L.length → ∀ g, (ys.getD k vz).ownBlock = some g → g ≠ R) (j : Nat) (u : Value) : Own base (w.setCell ⟨R, j, none⟩ u) v ys L :=
  ⟨own_off h.row hv j u, fun i hi => own_off (h.fr i hi) (hr i hi) j u, h.sep, h.two, h.rest⟩
theorem Own.ge {base : Nat} {w : World} {v : Value} {ys : List Value} {L : List (List Ln)} (h : Own base w v ys L) : (∀ g, v.ownBlock = some g → base ≤ g) ∧ ∀ k, k < L.length → ∀ g, (ys.getD k vz).ownBlock = some g → base ≤ g :=
  ⟨fun g e => (h.row.lt g e).1, fun k hk g e => ((h.fr k hk).lt g e).1⟩
theorem Own.setOff {base : Nat} {w : World} {v : Value} {ys : List Value} {L : List (List Ln)} (h : Own base w v ys L) {R : Nat} (hR : R < base) (j : Nat) (u : Value) : Own base (w.setCell ⟨R, j, none⟩ u) v ys L :=
  h.off (fun g e => by have := h.ge.1 g e; omega) (fun k hk g e => by have := h.ge.2 k hk g e; omega) j u

/-- A cache in memory of one's own. -/
structure OwnC (base : Nat) (w : World) (p : Option Addr) (n c : Nat) (ys : List Value) (C : Ch) : Prop where
  zn : C.lines.length = n
  own : Own base w (.slice p n c) ys C.lines
  n100 : n ≤ 100
  l100 : ∀ k, (C.lines.getD k []).length ≤ 100
theorem OwnC.below {base : Nat} {w w' : World} {p : Option Addr} {n c : Nat} {ys : List Value} {C : Ch} (h : OwnC base w p n c ys C) (hb : Below w.heap.size w w') : OwnC base w' p n c ys C := ⟨h.zn, h.own.below hb, h.n100, h.l100⟩
theorem OwnC.mono {base base' : Nat} {w : World} {p : Option Addr} {n c : Nat} {ys : List Value} {C : Ch} (h : OwnC base w p n c ys C) (hb : base' ≤ base) : OwnC base' w p n c ys C := ⟨h.zn, h.own.mono hb, h.n100, h.l100⟩
theorem OwnC.setOff {base : Nat} {w : World} {p : Option Addr} {n c : Nat} {ys : List Value} {C : Ch} (h : OwnC base w p n c ys C) {R : Nat} (hR : R < base) (j : Nat) (u : Value) : OwnC base (w.setCell ⟨R, j, none⟩ u) p n c ys C := ⟨h.zn, h.own.setOff hR j u, h.n100, h.l100⟩
theorem OwnC.cc {base : Nat} {w : World} {p : Option Addr} {n c : Nat} {ys : List Value} {C : Ch} (h : OwnC base w p n c ys C) : Cc w p n c ys C := by
  obtain ⟨q, d, e, hd⟩ := own_cap h.own.row
  injection e with e1 e2 e3
  subst e3
  obtain ⟨q', d', e, hs⟩ := Sl.own h.own.row
  injection e with e4 e5 e6
  subst e4
  rw [h.zn] at hs hd
  exact ⟨h.zn, by rw [h.own.row.1, h.zn, Nat.mul_one], hs, fun k hk => Lw.lv (base := base) (h.own.fr k (by rw [h.zn]; exact hk)), hd, h.n100, h.l100⟩
theorem OwnC.off {base : Nat} {w : World} {p : Option Addr} {n c : Nat} {ys : List Value} {C : Ch} (h : OwnC base w p n c ys C) {R : Nat} (hR : R < base) : Off R p ys C.lines := by
  refine ⟨fun h0 a e => ?_, fun k hk h0 g e => ?_⟩
  · subst e
    have := (h.own.row.lt a.block (by rfl)).1
    omega
  · have := ((h.own.fr k hk).lt g e).1
    omega
theorem OwnC.co {base : Nat} {w : World} {p : Option Addr} {n c : Nat} {ys : List Value} {C : Ch} (h : OwnC base w p n c ys C) {S : Nat → Prop} (hS : ∀ R, S R → R < base) : Co S w (.agg #[.int .i64 C.sets, .int .i64 C.ways, .int .i64 C.clock, .slice p n c]) C :=
  ⟨p, n, c, ys, rfl, h.cc, fun R hR => h.off (hS R hR)⟩

set_option maxHeartbeats 4000000 in
theorem copied_any (p : Option Addr) (n c : Nat) (xs : List Value) (C : Ch) (w : World) (h : Cc w p n c xs C) :
    Calls Try.prog 32 #[.agg #[.int .i64 C.sets, .int .i64 C.ways, .int .i64 C.clock, .slice p n c]] w fun e w' => ∃ p' c' ys, e = .returned (.agg #[.int .i64 C.sets, .int .i64 C.ways, .int .i64 C.clock, .slice p' n c']) ∧ OwnC w.heap.size w' p' n c' ys C ∧ Below w.heap.size w w' := by
  have hm := h.n100
  have HH := Lib.hid h
  have HZ := Lib.hid h.zn
  obtain ⟨L, hL⟩ : ∃ L, L = C.lines := ⟨_, rfl⟩
  rw [← hL] at HZ
  have HL := Lib.hid hL
  obtain ⟨A, W, K, hA, hW, hK⟩ : ∃ A W K, A = C.sets ∧ W = C.ways ∧ K = C.clock := ⟨_, _, _, rfl, rfl, rfl⟩
  rw [← hA, ← hW, ← hK]
  clear h hL hA hW hK
  obtain ⟨w0, hw0⟩ : ∃ w0, w0 = ((w.alloc (.cells #[.int .i64 A, .int .i64 W, .int .i64 K, .slice p n c] 24)).alloc (.cells #[.int .i64 0, .int .i64 0, .int .i64 0, .slice none 0 0] 24)).alloc (.cells #[.int .i64 A, .int .i64 W, .int .i64 K, .slice p n c] 24) := ⟨_, rfl⟩
  have HS0 : Hid (w0.heap.size = w.heap.size + 1 + 1 + 1) := Lib.hid (by rw [hw0]; simp)
  have HB0 : Hid (Below w.heap.size w w0) := Lib.hid (by rw [hw0]; exact (((Below.refl _ _).alloc (Nat.le_refl _) _).alloc (by simp) _).alloc (by simp; omega) _)
  have HA0 : Hid (Blk w0 w.heap.size #[.int .i64 A, .int .i64 W, .int .i64 K, .slice p n c]) := Lib.hid (by rw [hw0]; exact ((Blk.new _ _ _).alloc _).alloc _)
  have HR0 : Hid (Blk w0 (w.heap.size + 1) #[.int .i64 0, .int .i64 0, .int .i64 0, .slice none 0 0]) := Lib.hid (by
    have := Blk.new (w.alloc (.cells #[.int .i64 A, .int .i64 W, .int .i64 K, .slice p n c] 24)) #[.int .i64 0, .int .i64 0, .int .i64 0, .slice none 0 0] 24
    rw [World.size_alloc] at this
    rw [hw0]; exact this.alloc _)
  have HO0 : Hid (Blk w0 (w.heap.size + 1 + 1) #[.int .i64 A, .int .i64 W, .int .i64 K, .slice p n c]) := Lib.hid (by
    have := Blk.new ((w.alloc (.cells #[.int .i64 A, .int .i64 W, .int .i64 K, .slice p n c] 24)).alloc (.cells #[.int .i64 0, .int .i64 0, .int .i64 0, .slice none 0 0] 24)) #[.int .i64 A, .int .i64 W, .int .i64 K, .slice p n c] 24
    rw [World.size_alloc, World.size_alloc] at this
    rw [hw0]; exact this)
  have HW0 := Lib.hid hw0
  clear hw0
  go_enter Try.func32, Try.ntmps32
  go_wp2_with fail
  rw [← HW0.out]
  refine (clone_rows p n c xs C w0 (HH.out.below HB0.out)).mono ?_
  rintro e w1 ⟨v, rfl, ho, hb⟩
  obtain ⟨q, cap, rfl, hcap⟩ := own_cap ho
  have HB1 : Hid (Below w.heap.size w w1) := Lib.hid (HB0.out.trans (hb.mono HB0.out.size))
  have HR1 := Lib.hid (HR0.out.below hb)
  have HO1 := Lib.hid (HO0.out.below hb)
  have HG : Hid (∀ g, q = some ⟨g, 0, none⟩ → w.heap.size + 3 ≤ g) := Lib.hid (by
    intro g e
    subst e
    have := (ho.lt g rfl).1
    have := HS0.out
    omega)
  have HRW : Hid (w1.ownsRow (w.heap.size + 3) 28 1 (.slice q n cap) n xs) := Lib.hid (own_base ho (by rw [HS0.out]; exact Nat.le_refl _))
  clear hb ho HA0 HR0 HO0 HB0 HW0
  have kO := HO1.out.c
  have fO := HO1.out.f
  have lO := HO1.out.lt
  have HQ := HO1
  obtain ⟨w2, hw2⟩ : ∃ w2, w2 = w1.setCell ⟨w.heap.size + 1 + 1, 3, none⟩ (.slice q n cap) := ⟨_, rfl⟩
  have HO2 : Hid (Blk w2 (w.heap.size + 1 + 1) #[.int .i64 A, .int .i64 W, .int .i64 K, .slice q n cap]) := Lib.hid (by
    rw [hw2]; exact (HO1.out.set (n := 3) (.slice q n cap) (by simp)))
  have HR2 : Hid (Blk w2 (w.heap.size + 1) #[.int .i64 0, .int .i64 0, .int .i64 0, .slice none 0 0]) := Lib.hid (by rw [hw2]; exact HR1.out.other _ (by omega))
  have HB2 : Hid (Below w.heap.size w w2) := Lib.hid (by rw [hw2]; exact HB1.out.setCell (p := ⟨w.heap.size + 1 + 1, 3, none⟩) (by show w.heap.size ≤ w.heap.size + 1 + 1; omega) _)
  have HK2 : Hid (OwnK (w.heap.size + 3) w2 (.slice q L.length cap) xs xs L 0) := Lib.hid (OwnK.begin (by
    rw [HZ.out, hw2]
    exact own_off HRW.out (fun g e => by have := (HRW.out.lt g e).1; omega) _ _))
  have HW2 := Lib.hid hw2
  clear hw2 HRW HQ HS0
  go_upto_region 3 with fail
  rw [← HW2.out]
  clear HW2 kO fO lO HO1 HR1 HB1
  have kO := HO2.out.c
  go_wp2_with fail
  go_loopw [14] (fun i wr => ∃ k : Nat, k ≤ n ∧ i = .int .i64 k ∧ (∃ ys, OwnK (w.heap.size + 3) wr (.slice q L.length cap) xs ys L k) ∧ Blk wr (w.heap.size + 1) #[.int .i64 0, .int .i64 0, .int .i64 0, .slice none 0 0] ∧ Blk wr (w.heap.size + 1 + 1) #[.int .i64 A, .int .i64 W, .int .i64 K, .slice q n cap] ∧ Below w.heap.size w wr) (fun i _ => n - (intOf i).toNat)
  case atStart => exact ⟨0, Nat.zero_le _, rfl, ⟨_, HK2.out⟩, HR2.out, HO2.out, HB2.out⟩
  case round =>
    obtain ⟨k, hk, rfl, ⟨ys, ho⟩, hr, ha, hb⟩ := hrel
    clear HB2 HR2 HK2 HO2 kO
    have HRR := Lib.hid hr
    have HAA := Lib.hid ha
    have HB := Lib.hid hb
    clear hr hb ha
    by_cases hlt : k < n
    · have hlt' : k < L.length := by rw [HZ.out]; exact hlt
      obtain ⟨g, rfl, hnc, hcm, hbg, hgl⟩ := own_go ho.row (by rw [HZ.out]; omega)
      have hfs : Lv wr (xs.getD k vz) (L.getD k []) := by rw [HL.out]; exact (HH.out.rs k hlt).below HB.out
      have hl : (L.getD k []).length ≤ 100 := by rw [HL.out]; exact HH.out.l100 k
      obtain ⟨l, hle⟩ : ∃ l, l = L.getD k [] := ⟨_, rfl⟩
      rw [← hle] at hfs hl
      have HFS := Lib.hid hfs
      have HLE := Lib.hid hle
      obtain ⟨pk, ck, hv, _, _⟩ := hfs
      have hck : wr.cell? ⟨g, k, none⟩ = some (.slice pk l.length ck) := by
        rw [ho.row.cellAt k (by omega), ← hv, ← ho.rest k (Nat.le_refl _), List.getD_eq_getElem?_getD, List.getElem?_eq_getElem (by rw [ho.row.1]; omega)]
        rfl
      have HO := Lib.hid ho
      have HV := Lib.hid hv
      have HBG : Hid (w.heap.size + 3 ≤ g) := Lib.hid (HG.out g rfl)
      clear ho hv hbg hgl hnc hcm hle
      go_upto_region 6 with fail
      refine region_plan (fun w' : World => (∀ j, w'.cell? ⟨w.heap.size + 1 + 1, j, none⟩ = (#[.int .i64 A, .int .i64 W, .int .i64 K, .slice (some ⟨g, 0, none⟩) n cap] : Array Value)[j]?) ∧ Below wr.heap.size wr w') 5 [(0, true), (1, true), (2, true), (3, true), (4, false)] (by kernel_rfl) (by kernel_rfl) (sOf HAA ((Below.refl _ _).drew)) ?_
      iterate 4
        refine plan_read (v := ?_) rfl (by rfl) ?_ ?_
        rotate_left
        · intro w' hS
          try dsimp only at hS
          go_simp
          try with_reducible rfl
        try simp only [Act.put, List.setIfInBounds_toArray, List.set_cons_zero, List.set_cons_succ, List.getElem_toArray, List.getElem_cons_zero, List.getElem_cons_succ]
      refine plan_call (F := 46) (args := ?_) rfl (by rfl) ?_ ?_
      rotate_left
      · go_simp
        rfl
      refine (clone_lines _ l _ (by have h0 := HFS.out.below ((Below.refl wr.heap.size wr).drew); rw [HV.out] at h0; exact h0) (by omega)).mono ?_
      rintro e w2 ⟨r, rfl, hr2, hb2⟩
      have HB2 : Hid (Below wr.heap.size wr w2) := Lib.hid ((Below.refl _ _).drew.trans hb2)
      unfold Lw at hr2
      obtain ⟨q2, c2, rfl, hqc⟩ := own_cap hr2
      have HW2 : Hid (w2.ownsRow wr.heap.size 30 4 (.slice q2 l.length c2) l.length (lnC l)) := Lib.hid hr2
      clear hb2 hr2
      refine ⟨_, rfl, sOf HAA HB2.out, ?_⟩
      try simp only [Act.put, List.setIfInBounds_toArray, List.set_cons_zero, List.set_cons_succ, List.getElem_toArray, List.getElem_cons_zero, List.getElem_cons_succ]
      refine plan_nil ?_
      simp only [List.drop_succ_cons, List.drop_zero]
      have HO2 := Lib.hid (HO.out.step hlt' (by have := HAA.out.lt; omega) HB2.out (by rw [← HLE.out]; exact HW2.out))
      have hc2 : w2.cell? ⟨g, k, none⟩ = some (.slice pk l.length ck) := (HB2.out.cell (p := ⟨g, k, none⟩) (HO.out.row.lt g rfl).2).trans hck
      have hf2 : w2.frozen? ⟨g, k, none⟩ = false := (OwnK.below HO.out HB2.out).row.frozenAt k
      have HRR2 := Lib.hid ((HRR.out.below HB2.out).other (B' := g) (n := k) (.slice q2 l.length c2) (by have := HBG.out; omega))
      have HAA2 := Lib.hid ((HAA.out.below HB2.out).other (B' := g) (n := k) (.slice q2 l.length c2) (by have := HBG.out; omega))
      have HB3 := Lib.hid ((HB.out.trans (HB2.out.mono HB.out.size)).setCell (p := ⟨g, k, none⟩) (by show w.heap.size ≤ g; have := HBG.out; omega) (.slice q2 l.length c2))
      clear hck HB2
      go_wp2_with fail
      go_roundw
      case rel => exact ⟨k + 1, by omega, by go_num, ⟨_, HO2.out⟩, HRR2.out, HAA2.out, HB3.out⟩
      case measure => simp [intOf]; omega
    · have hkn : k = L.length := by rw [HZ.out]; omega
      have HO := Lib.hid (OwnK.done (hkn ▸ ho))
      have kO := HAA.out.c
      have kR := HRR.out.c
      have fR := HRR.out.f
      have lR := HRR.out.lt
      have HOC : Hid (OwnC (w.heap.size + 3) wr q n cap ys C) := Lib.hid (by
        have h0 := HO.out
        rw [HZ.out, HL.out] at h0
        exact ⟨by rw [← HL.out]; exact HZ.out, h0, hm, HH.out.l100⟩)
      clear ho hkn HO
      go_wp2_with fail
      refine bodyPost_ret (v := .agg #[.int .i64 A, .int .i64 W, .int .i64 K, .slice q n cap]) (by simp [results, Try.results32, go_sem, *]) rfl ⟨q, cap, ys, rfl, ?_, ?_⟩
      · exact ((((HOC.out.setOff (by omega) 0 _).setOff (by omega) 1 _).setOff (by omega) 2 _).setOff (by omega) 3 _).mono (by omega)
      · exact set4_below HB.out (by omega) _ _ _ _
end Go.Proofs.Ytoddmgaihggkjaa
