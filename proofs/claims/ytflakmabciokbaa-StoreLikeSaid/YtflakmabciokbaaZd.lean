/- Laid together, in this order: ParF, ParG, ParH, ParI, ParJ, ParK, ParL, ParM, ParN, ParO. -/
import Derived.Test.YtflakmabciokbaaZc
set_option linter.unusedSimpArgs false
set_option linter.unusedVariables false
/- slices.Clone of a row and of rows, and banks copied: in memory of one's own; no condition but that they read. -/
namespace Go.Proofs.Ytflakmabciokbaa
set_option linter.unusedVariables false
open Go.ChangeShapes Go.WideShapes Go.ChangeAt Go.RowKit

/-- A row in memory of one's own, as a value. -/
def Wv (base : Nat) (w : World) (v : Value) (l : List Nat) : Prop := w.ownsRow base 29 1 v l.length (u32C l)
theorem Wv.rs {base : Nat} {w : World} {v : Value} {l : List Nat} (h : Wv base w v l) (hb : ∀ x ∈ l, x < 4294967296) : Rs w v l := by
  obtain ⟨p, c, rfl, hc⟩ := own_cap h
  exact ⟨p, c, rfl, hc, nm_own h rfl hb⟩

theorem clone_words (v : Value) (l : List Nat) (w : World) (h : Rs w v l) (hm : l.length ≤ 100) :
    Calls Try.prog 79 #[v] w fun e w' => ∃ r, e = .returned r ∧ Wv w.heap.size w' r l ∧ Below w.heap.size w w' := by
  obtain ⟨p, c, rfl, hc, hby⟩ := h
  obtain ⟨i0, hi, hz0, hz1, hz2⟩ := info_parts info26
  have HI := Lib.hid (And.intro hi (And.intro hz0 (And.intro hz1 hz2)))
  have HS : Hid (Sl w p l.length (u32C l)) := Lib.hid hby.sl
  clear hby hi hz0 hz1 hz2
  have hq : ∀ W, (binOp .eql 23 (.slice p l.length c) (.slice none 0 0)).run Try.prog W = .ok (.bool p.isNone) W := fun W => Lib.run_eql_slice_nil W _ 29 _ _ _ _ _ Try.underlying23
  unfold Wv
  obtain ⟨n, hn⟩ : ∃ n, n = l.length := ⟨_, rfl⟩
  rw [← hn] at HS hm hc hq ⊢
  have HN := Lib.hid hn
  clear hn
  cases p with
  | none =>
    have h0 : n = 0 := by
      rcases Nat.eq_zero_or_pos n with h0 | h0
      · exact h0
      · obtain ⟨b, off, _, h2, _⟩ := HS.out h0
        cases h2
    subst h0
    have hl : l = [] := List.eq_nil_of_length_eq_zero HN.out.symm
    subst hl
    clear HS HN hc HI
    simp only [Option.isNone_none, Option.isNone_some] at hq
    go_enter Try.func79, Try.ntmps79
    go_wp2
    go_ret
    exact ⟨_, rfl, World.ownsRow_nil _ _ _ _, Below.refl _ _⟩
  | some a =>
    simp only [Option.isNone_none, Option.isNone_some] at hq
    go_enter Try.func79, Try.ntmps79
    go_wp2_with (first | (at_builtin; refine wpList_append_sl rfl _ _ 23 rfl w.heap.size 29 i0 (.int .u32 0) 1 4 Try.underlying23 HI.out.1 HI.out.2.1 HI.out.2.2.1 HI.out.2.2.2 rfl (by decide) _ 0 [] rfl (fresh_made (Nat.le_refl _)) (some a) n c (u32C l) rfl (by rw [u32C_len, HN.out, Nat.mul_one]) (HS.out.below ((Below.refl _ _).alloc (Nat.le_refl _) _)) (u32C_one _) (by unfold maxLen; omega) (by omega) (by simp) ?_))
    intro v' w' g1 g2 g3
    have HG : Hid (w'.ownsRow w.heap.size 29 1 v' n (u32C l)) := Lib.hid (by simpa using g1)
    have HB : Hid (Below w.heap.size w w') := Lib.hid (((Below.refl w.heap.size w).alloc (Nat.le_refl _) _).grown g2 (by simp) (fun k hk => by simp [Value.ownBlock] at hk; omega))
    clear g1 g2 g3
    go_wp2
    go_ret
    exact ⟨_, rfl, HG.out, HB.out⟩

theorem clone_rows (p : Option Addr) (n c : Nat) (xs : List Value) (L : List (List Nat)) (w : World) (hz : L.length = n) (h : Rw w p xs L) :
    Calls Try.prog 78 #[.slice p n c] w fun e w' => ∃ r, e = .returned r ∧ w'.ownsRow w.heap.size 23 1 r n xs ∧ Below w.heap.size w w' := by
  obtain ⟨i0, hi, hz0, hz1, hz2⟩ := info_parts info23
  have HI := Lib.hid (And.intro hi (And.intro hz0 (And.intro hz1 hz2)))
  have hm : n ≤ 100 := by rw [← hz]; exact h.n100
  have HS : Hid (Sl w p n xs) := by rw [← hz]; exact h.sl
  have HN : Hid (xs.length = n) := by rw [← hz]; exact h.len
  have H1 := Lib.hid h.one
  have hq : ∀ W, (binOp .eql 22 (.slice p n c) (.slice none 0 0)).run Try.prog W = .ok (.bool p.isNone) W := fun W => Lib.run_eql_slice_nil W _ 23 _ _ _ _ _ Try.underlying22
  clear hi hz0 hz1 hz2 hz h
  cases p with
  | none =>
    have h0 : n = 0 := by
      rcases Nat.eq_zero_or_pos n with h0 | h0
      · exact h0
      · obtain ⟨b, off, _, h2, _⟩ := HS.out h0
        cases h2
    subst h0
    have hl : xs = [] := List.eq_nil_of_length_eq_zero HN.out
    subst hl
    clear HS HN HI H1
    simp only [Option.isNone_none, Option.isNone_some] at hq
    go_enter Try.func78, Try.ntmps78
    go_wp2
    go_ret
    exact ⟨_, rfl, World.ownsRow_nil _ _ _ _, Below.refl _ _⟩
  | some a =>
    simp only [Option.isNone_none, Option.isNone_some] at hq
    go_enter Try.func78, Try.ntmps78
    go_wp2_with (first | (at_builtin; refine wpList_append_sl rfl _ _ 22 rfl w.heap.size 23 i0 (.slice none 0 0) 1 24 Try.underlying22 HI.out.1 HI.out.2.1 HI.out.2.2.1 HI.out.2.2.2 rfl (by decide) _ 0 [] rfl (fresh_made (Nat.le_refl _)) (some a) n c xs rfl (by rw [HN.out, Nat.mul_one]) (HS.out.below ((Below.refl _ _).alloc (Nat.le_refl _) _)) H1.out (by unfold maxLen; omega) (by omega) (by simp) ?_))
    intro v' w' g1 g2 g3
    have HG : Hid (w'.ownsRow w.heap.size 23 1 v' n xs) := Lib.hid (by simpa using g1)
    have HB : Hid (Below w.heap.size w w') := Lib.hid (((Below.refl w.heap.size w).alloc (Nat.le_refl _) _).grown g2 (by simp) (fun k hk => by simp [Value.ownBlock] at hk; omega))
    clear g1 g2 g3
    go_wp2
    go_ret
    exact ⟨_, rfl, HG.out, HB.out⟩

/-- Rows in memory of one's own, of which the first k are copied. -/
structure OwnK (base : Nat) (w : World) (v : Value) (xs ys : List Value) (L : List (List Nat)) (k : Nat) : Prop where
  row : w.ownsRow base 23 1 v L.length ys
  fr : ∀ j, j < k → w.ownsRow base 29 1 (ys.getD j vz) (L.getD j []).length (u32C (L.getD j []))
  sep : ∀ j, j < k → ∀ g, (ys.getD j vz).ownBlock = some g → v.ownBlock ≠ some g
  two : ∀ i j, i < k → j < k → i ≠ j → ∀ g, (ys.getD i vz).ownBlock = some g → (ys.getD j vz).ownBlock ≠ some g
  rest : ∀ j, k ≤ j → ys.getD j vz = xs.getD j vz
theorem OwnK.below {base : Nat} {w w' : World} {v : Value} {xs ys : List Value} {L : List (List Nat)} {k : Nat} (h : OwnK base w v xs ys L k) (hb : Below w.heap.size w w') : OwnK base w' v xs ys L k :=
  ⟨own_below h.row hb, fun j hj => own_below (h.fr j hj) hb, h.sep, h.two, h.rest⟩
theorem OwnK.begin {base : Nat} {w : World} {v : Value} {xs : List Value} {L : List (List Nat)} (h : w.ownsRow base 23 1 v L.length xs) : OwnK base w v xs xs L 0 :=
  ⟨h, fun j hj => absurd hj (Nat.not_lt_zero _), fun j hj => absurd hj (Nat.not_lt_zero _), fun i j hi => absurd hi (Nat.not_lt_zero _), fun j _ => rfl⟩
theorem OwnK.step {base g c k : Nat} {w w2 : World} {xs ys : List Value} {L : List (List Nat)} {r : Value} (h : OwnK base w (.slice (some ⟨g, 0, none⟩) L.length c) xs ys L k) (hk : k < L.length) (hbase : base ≤ w.heap.size) (hb : Below w.heap.size w w2)
    (hr : w2.ownsRow w.heap.size 29 1 r (L.getD k []).length (u32C (L.getD k []))) : OwnK base (w2.setCell ⟨g, k, none⟩ r) (.slice (some ⟨g, 0, none⟩) L.length c) xs (ys.set k r) L (k + 1) := by
  have h2 := h.below hb
  have hlen : ys.length = L.length := by rw [h.row.1, Nat.mul_one]
  have hgrow := (h2.row.stored k r).2
  have hgl : g < w.heap.size := (h.row.lt g rfl).2
  have hrg : ∀ b, r.ownBlock = some b → w.heap.size ≤ b := fun b hb => (hr.lt b hb).1
  have gD : ∀ j, (ys.set k r).getD j vz = if j = k then r else ys.getD j vz := fun j => getD_set ys vz r k j (by omega)
  refine ⟨(h2.row.stored k r).1, fun j hj => ?_, fun j hj b hb => ?_, fun i j hi hj hij b hb => ?_, fun j hj => ?_⟩
  · rw [gD]
    by_cases e : j = k
    · subst e
      rw [if_pos rfl]
      refine (own_base hr hbase).kept hgrow ?_
      cases hv : r.ownBlock with
      | none => exact .inl rfl
      | some b => exact .inr (fun e => by injection e with e; have := hrg b hv; omega)
    · rw [if_neg e]
      refine (h2.fr j (by omega)).kept hgrow ?_
      cases hv : (ys.getD j vz).ownBlock with
      | none => exact .inl rfl
      | some b => exact .inr (fun e2 => h.sep j (by omega) b hv (by rw [e2]; rfl))
  · rw [gD] at hb
    by_cases e : j = k
    · subst e
      rw [if_pos rfl] at hb
      have := hrg b hb
      intro e2
      injection e2 with e2
      simp at e2
      omega
    · rw [if_neg e] at hb
      exact h.sep j (by omega) b hb
  · rw [gD] at hb ⊢
    by_cases e : i = k
    · subst e
      rw [if_pos rfl] at hb
      rw [if_neg (fun e => hij e.symm)]
      intro e2
      have h1 := hrg b hb
      have h3 := ((h.fr j (by omega)).lt b e2).2
      omega
    · rw [if_neg e] at hb
      by_cases e' : j = k
      · subst e'
        rw [if_pos rfl]
        intro e2
        have h1 := hrg b e2
        have h3 := ((h.fr i (by omega)).lt b hb).2
        omega
      · rw [if_neg e']
        exact h.two i j (by omega) (by omega) hij b hb
  · rw [gD, if_neg (by omega)]
    exact h.rest j (by omega)
/-- Rows in memory of one's own. -/
def Own (base : Nat) (w : World) (v : Value) (ys : List Value) (L : List (List Nat)) : Prop := OwnK base w v ys ys L L.length
theorem OwnK.done {base : Nat} {w : World} {v : Value} {xs ys : List Value} {L : List (List Nat)} (h : OwnK base w v xs ys L L.length) : Own base w v ys L := ⟨h.row, h.fr, h.sep, h.two, fun _ _ => rfl⟩
theorem Own.below {base : Nat} {w w' : World} {v : Value} {ys : List Value} {L : List (List Nat)} (h : Own base w v ys L) (hb : Below w.heap.size w w') : Own base w' v ys L := OwnK.below h hb
theorem Own.mono {base base' : Nat} {w : World} {v : Value} {ys : List Value} {L : List (List Nat)} (h : Own base w v ys L) (hb : base' ≤ base) : Own base' w v ys L :=
  ⟨own_base h.row hb, fun j hj => own_base (h.fr j hj) hb, h.sep, h.two, h.rest⟩
theorem Own.rw_ {base : Nat} {w : World} {v : Value} {ys : List Value} {L : List (List Nat)} (h : Own base w v ys L) (hn : L.length ≤ 100) (hl : ∀ l ∈ L, l.length ≤ 100) (hb : ∀ l ∈ L, ∀ x ∈ l, x < 4294967296) : ∃ p c, v = .slice p L.length c ∧ L.length ≤ c ∧ Rw w p ys L := by
  obtain ⟨p, c, rfl, hs⟩ := Sl.own h.row
  obtain ⟨p', c', e, hc⟩ := own_cap h.row
  injection e with _ _ e
  subst e
  exact ⟨p, c, rfl, hc, by rw [h.row.1, Nat.mul_one], hs, fun k hk => Wv.rs (h.fr k hk) (hb _ (mem_getD L [] k hk)), hn, hl⟩
/-- What lies elsewhere is written. -/
theorem Own.off {base : Nat} {w : World} {v : Value} {ys : List Value} {L : List (List Nat)} (h : Own base w v ys L) {R : Nat} (hv : ∀ g, v.ownBlock = some g → g ≠ R) (hr : ∀ k, k < L.length → ∀ g, (ys.getD k vz).ownBlock = some g → g ≠ R) (j : Nat) (u : Value) : Own base (w.setCell ⟨R, j, none⟩ u) v ys L :=
  ⟨own_off h.row hv j u, fun i hi => own_off (h.fr i hi) (hr i hi) j u, h.sep, h.two, h.rest⟩
theorem Own.ge {base : Nat} {w : World} {v : Value} {ys : List Value} {L : List (List Nat)} (h : Own base w v ys L) : (∀ g, v.ownBlock = some g → base ≤ g) ∧ ∀ k, k < L.length → ∀ g, (ys.getD k vz).ownBlock = some g → base ≤ g :=
  ⟨fun g e => (h.row.lt g e).1, fun k hk g e => ((h.fr k hk).lt g e).1⟩
theorem Own.setOff {base : Nat} {w : World} {v : Value} {ys : List Value} {L : List (List Nat)} (h : Own base w v ys L) {R : Nat} (hR : R < base) (j : Nat) (u : Value) : Own base (w.setCell ⟨R, j, none⟩ u) v ys L :=
  h.off (fun g e => by have := h.ge.1 g e; omega) (fun k hk g e => by have := h.ge.2 k hk g e; omega) j u
end Go.Proofs.Ytflakmabciokbaa
/- Banks copied: in memory of one's own; no condition but that they read. -/
namespace Go.Proofs.Ytflakmabciokbaa
set_option linter.unusedVariables false
open Go.ChangeShapes Go.WideShapes Go.ChangeAt Go.RowKit

/-- Banks in memory of one's own. -/
structure OwnB (base : Nat) (w : World) (p : Option Addr) (n c : Nat) (ys : List Value) (pp : Option Addr) (m cc : Nat) (B : Bk) : Prop where
  zn : B.rows.length = n
  own : Own base w (.slice p n c) ys B.rows
  zm : B.par.length = m
  par : w.ownsRow base 29 1 (.slice pp m cc) m (u32C B.par)
  plt : ∀ x ∈ B.par, x < 4294967296
  rlt : ∀ l ∈ B.rows, ∀ x ∈ l, x < 4294967296
  n100 : n ≤ 100
  l100 : ∀ l ∈ B.rows, l.length ≤ 100
  m100 : m ≤ 100
  sep1 : ∀ g, (Value.slice pp m cc).ownBlock = some g → (Value.slice p n c).ownBlock ≠ some g
  sep2 : ∀ k, k < n → ∀ g, (Value.slice pp m cc).ownBlock = some g → (ys.getD k vz).ownBlock ≠ some g
theorem OwnB.below {base : Nat} {w w' : World} {p : Option Addr} {n c : Nat} {ys : List Value} {pp : Option Addr} {m cc : Nat} {B : Bk} (h : OwnB base w p n c ys pp m cc B) (hb : Below w.heap.size w w') : OwnB base w' p n c ys pp m cc B :=
  ⟨h.zn, h.own.below hb, h.zm, own_below h.par hb, h.plt, h.rlt, h.n100, h.l100, h.m100, h.sep1, h.sep2⟩
theorem OwnB.mono {base base' : Nat} {w : World} {p : Option Addr} {n c : Nat} {ys : List Value} {pp : Option Addr} {m cc : Nat} {B : Bk} (h : OwnB base w p n c ys pp m cc B) (hb : base' ≤ base) : OwnB base' w p n c ys pp m cc B :=
  ⟨h.zn, h.own.mono hb, h.zm, own_base h.par hb, h.plt, h.rlt, h.n100, h.l100, h.m100, h.sep1, h.sep2⟩
theorem OwnB.setOff {base : Nat} {w : World} {p : Option Addr} {n c : Nat} {ys : List Value} {pp : Option Addr} {m cc : Nat} {B : Bk} (h : OwnB base w p n c ys pp m cc B) {R : Nat} (hR : R < base) (j : Nat) (u : Value) : OwnB base (w.setCell ⟨R, j, none⟩ u) p n c ys pp m cc B :=
  ⟨h.zn, h.own.setOff hR j u, h.zm, own_off h.par (fun g e => by have := (h.par.lt g e).1; omega) j u, h.plt, h.rlt, h.n100, h.l100, h.m100, h.sep1, h.sep2⟩
theorem OwnB.bn {base : Nat} {w : World} {p : Option Addr} {n c : Nat} {ys : List Value} {pp : Option Addr} {m cc : Nat} {B : Bk} (h : OwnB base w p n c ys pp m cc B) : Bn w p n c ys pp m cc B := by
  obtain ⟨p', c', e, hc, hr⟩ := h.own.rw_ (by rw [h.zn]; exact h.n100) h.l100 h.rlt
  injection e with e1 e2 e3
  subst e1 e3
  obtain ⟨q, d, e, hd⟩ := own_cap h.par
  injection e with e4 e5 e6
  subst e6
  exact ⟨h.zn, hr, by rw [← h.zn]; exact hc, h.zm, nm_own h.par h.zm h.plt, hd, h.m100⟩

set_option maxHeartbeats 4000000 in
theorem copied_any (p : Option Addr) (n c : Nat) (xs : List Value) (pp : Option Addr) (m cc : Nat) (B : Bk) (w : World) (h : Bn w p n c xs pp m cc B) :
    Calls Try.prog 89 #[.agg #[.slice p n c, .slice pp m cc, .int .i64 B.lost]] w fun e w' => ∃ p' c' ys pp' cc', e = .returned (.agg #[.slice p' n c', .slice pp' m cc', .int .i64 B.lost]) ∧ OwnB w.heap.size w' p' n c' ys pp' m cc' B ∧ Below w.heap.size w w' := by
  have hm := h.n100
  have HH := Lib.hid h
  have HZ := Lib.hid h.zn
  have HP := Lib.hid h.rw_
  obtain ⟨L, hL⟩ : ∃ L, L = B.rows := ⟨_, rfl⟩
  rw [← hL] at HZ HP
  obtain ⟨z, hz⟩ : ∃ z, z = B.lost := ⟨_, rfl⟩
  rw [← hz]
  have HL := Lib.hid hL
  clear h hL hz
  go_enter Try.func89, Try.ntmps89
  go_wp2_with fail
  refine (clone_rows p n c xs L _ HZ.out (HP.out.below (((Below.refl _ _).alloc (Nat.le_refl _) _).alloc (by simp) _))).mono ?_
  rintro e w1 ⟨v, rfl, ho, hb⟩
  obtain ⟨q, cap, rfl, hcap⟩ := own_cap ho
  have HB1 : Hid (Below w.heap.size w w1) := Lib.hid ((((Below.refl _ _).alloc (Nat.le_refl _) _).alloc (by simp) _).trans (hb.mono (by simp; omega)))
  have HR : Hid (Blk w1 (w.heap.size + 1) #[.slice none 0 0, .slice none 0 0, .int .i64 0]) := Lib.hid (by
    have := Blk.track1 hb
    simpa using this)
  have HA : Hid (Blk w1 w.heap.size #[.slice p n c, .slice pp m cc, .int .i64 z]) := Lib.hid (Blk.track2 hb)
  have HO : Hid (OwnK (w.heap.size + 2) w1 (.slice q L.length cap) xs xs L 0) := Lib.hid (OwnK.begin (by rw [HZ.out]; exact own_base ho (by simp)))
  have HG : Hid (∀ g, q = some ⟨g, 0, none⟩ → w.heap.size + 2 ≤ g) := Lib.hid (by
    intro g e
    subst e
    have := (ho.lt g rfl).1
    simpa using this)
  clear hb ho
  go_wp2_with fail
  go_loopw [11] (fun i wr => ∃ k : Nat, k ≤ n ∧ i = .int .i64 k ∧ (∃ ys, OwnK (w.heap.size + 2) wr (.slice q L.length cap) xs ys L k) ∧ Blk wr (w.heap.size + 1) #[.slice none 0 0, .slice none 0 0, .int .i64 0] ∧ Blk wr w.heap.size #[.slice p n c, .slice pp m cc, .int .i64 z] ∧ Below w.heap.size w wr) (fun i _ => n - (intOf i).toNat)
  case atStart => exact ⟨0, Nat.zero_le _, rfl, ⟨_, HO.out⟩, HR.out, HA.out, HB1.out⟩
  case round =>
    obtain ⟨k, hk, rfl, ⟨ys, ho⟩, hr, ha, hb⟩ := hrel
    clear HB1 HR HO HA
    have HRR := Lib.hid hr
    have HAA := Lib.hid ha
    have HB := Lib.hid hb
    clear hr hb ha
    by_cases hlt : k < n
    · have hlt' : k < L.length := by rw [HZ.out]; exact hlt
      obtain ⟨g, rfl, hnc, hcm, hbg, hgl⟩ := own_go ho.row (by rw [HZ.out]; omega)
      have hfs : Rs wr (xs.getD k vz) (L.getD k []) := (HP.out.rs k hlt').below HB.out
      have hl := HP.out.l100 _ (mem_getD L [] k hlt')
      obtain ⟨l, hle⟩ : ∃ l, l = L.getD k [] := ⟨_, rfl⟩
      rw [← hle] at hfs hl
      have HFS := Lib.hid hfs
      have HLE := Lib.hid hle
      obtain ⟨pk, ck, hv, _, _⟩ := hfs
      have hck : wr.cell? ⟨g, k, none⟩ = some (.slice pk l.length ck) := by
        rw [ho.row.cellAt k (by omega), ← hv, ← ho.rest k (Nat.le_refl _), List.getD_eq_getElem?_getD, List.getElem?_eq_getElem (by rw [ho.row.1]; omega)]
        rfl
      have HO := Lib.hid ho
      have HV := Lib.hid hv
      have HBG : Hid (w.heap.size + 2 ≤ g) := Lib.hid (HG.out g rfl)
      clear ho hv hbg hgl hnc hcm hle
      go_wp2_with fail
      refine (clone_words _ l _ (by rw [← HV.out]; exact HFS.out) hl).mono ?_
      rintro e w2 ⟨r, rfl, hr2, hb2⟩
      have HO2 := Lib.hid (HO.out.step hlt' HRR.out.lt hb2 (by rw [← HLE.out]; exact hr2))
      obtain ⟨q2, c2, rfl, _⟩ := own_cap hr2
      have hc2 : w2.cell? ⟨g, k, none⟩ = some (.slice pk l.length ck) := (hb2.cell (p := ⟨g, k, none⟩) (HO.out.row.lt g rfl).2).trans hck
      have hf2 : w2.frozen? ⟨g, k, none⟩ = false := (OwnK.below HO.out hb2).row.frozenAt k
      have HRR2 := Lib.hid ((HRR.out.below hb2).other (B' := g) (n := k) (.slice q2 l.length c2) (by have := HBG.out; omega))
      have HAA2 := Lib.hid ((HAA.out.below hb2).other (B' := g) (n := k) (.slice q2 l.length c2) (by have := HBG.out; omega))
      have HB2 := Lib.hid ((HB.out.trans (hb2.mono HB.out.size)).setCell (p := ⟨g, k, none⟩) (by show w.heap.size ≤ g; have := HBG.out; omega) (.slice q2 l.length c2))
      clear hb2 hr2 hck
      go_wp2_with fail
      go_roundw
      case rel => exact ⟨k + 1, by omega, by go_num, ⟨_, HO2.out⟩, HRR2.out, HAA2.out, HB2.out⟩
      case measure => simp [intOf]; omega
    · have hkn : k = L.length := by rw [HZ.out]; omega
      have HO := Lib.hid (OwnK.done (hkn ▸ ho))
      clear ho hkn
      go_upto_region 7 with fail
      have HNR := Lib.hid (HH.out.nm.below HB.out)
      have hmm := HH.out.m100
      have hcmm := HH.out.cm
      refine region_plan (fun w' : World => (∀ j, w'.cell? ⟨w.heap.size, j, none⟩ = (#[.slice p n c, .slice pp m cc, .int .i64 z] : Array Value)[j]?) ∧ Below wr.heap.size wr w') 6 [(0, true), (1, true), (2, true), (4, true), (5, true), (3, false)] (by kernel_rfl) (by kernel_rfl) (sOf HAA ((Below.refl _ _).drew)) ?_
      iterate 5
        refine plan_read (v := ?_) rfl (by rfl) ?_ ?_
        rotate_left
        · intro w' hS
          try dsimp only at hS
          go_simp
          try with_reducible rfl
        try simp only [Act.put, List.setIfInBounds_toArray, List.set_cons_zero, List.set_cons_succ, List.getElem_toArray, List.getElem_cons_zero, List.getElem_cons_succ]
      refine plan_call (F := 79) (args := ?_) rfl (by rfl) ?_ ?_
      rotate_left
      · go_simp
        rfl
      refine (clone_words _ B.par _ ⟨pp, cc, by rw [HH.out.zm], by rw [HH.out.zm]; exact hcmm, HNR.out.below (Below.refl _ _).drew⟩ (by rw [HH.out.zm]; exact hmm)).mono ?_
      rintro e w2 ⟨r, rfl, hr2, hb2⟩
      have HB2 : Hid (Below wr.heap.size wr w2) := Lib.hid ((Below.refl _ _).drew.trans hb2)
      unfold Wv at hr2
      rw [HH.out.zm] at hr2
      obtain ⟨q2, c2, rfl, hqc⟩ := own_cap hr2
      have HW2 : Hid (w2.ownsRow wr.heap.size 29 1 (.slice q2 m c2) m (u32C B.par)) := Lib.hid hr2
      clear hb2 hr2
      refine ⟨_, rfl, sOf HAA HB2.out, ?_⟩
      try simp only [Act.put, List.setIfInBounds_toArray, List.set_cons_zero, List.set_cons_succ, List.getElem_toArray, List.getElem_cons_zero, List.getElem_cons_succ]
      refine plan_nil ?_
      simp only [List.drop_succ_cons, List.drop_zero]
      have HOB : Hid (OwnB (w.heap.size + 2) w2 q n cap ys q2 m c2 B) := Lib.hid (by
        have hw := HW2.out
        have hnew : ∀ g, (Value.slice q2 m c2).ownBlock = some g → wr.heap.size ≤ g := fun g e => (hw.lt g e).1
        have ho := HO.out.below HB2.out
        have hor := HO.out.row
        rw [HZ.out] at ho hor
        refine ⟨HH.out.zn, by rw [← HL.out]; exact ho, HH.out.zm, own_base hw (by have := HRR.out.lt; omega), HNR.out.lt, HH.out.rw_.lt, hm, HH.out.rw_.l100, hmm, fun g e1 e2 => ?_, fun k hk g e1 e2 => ?_⟩
        · have := hnew g e1
          have := (hor.lt g e2).2
          omega
        · have := hnew g e1
          have := ((HO.out.fr k (by rw [HZ.out]; exact hk)).lt g e2).2
          omega)
      have HR2 := Lib.hid (HRR.out.below HB2.out)
      have cR := HR2.out.c
      have fR := HR2.out.f
      have lR := HR2.out.lt
      go_wp2_with fail
      refine bodyPost_ret (v := .agg #[.slice q n cap, .slice q2 m c2, .int .i64 z]) (by simp [results, Try.results89, go_sem, *]) rfl ⟨q, cap, ys, q2, c2, rfl, ?_, ?_⟩
      · exact (((HOB.out.setOff (by omega) 0 _).setOff (by omega) 1 _).setOff (by omega) 2 _).mono (by omega)
      · have hbb := HB.out.trans (HB2.out.mono HB.out.size)
        exact ((hbb.setCell (p := ⟨w.heap.size + 1, 0, none⟩) (by show w.heap.size ≤ w.heap.size + 1; omega) _).setCell (p := ⟨w.heap.size + 1, 1, none⟩) (by show w.heap.size ≤ w.heap.size + 1; omega) _).setCell (p := ⟨w.heap.size + 1, 2, none⟩) (by show w.heap.size ≤ w.heap.size + 1; omega) _
end Go.Proofs.Ytflakmabciokbaa
/- Banks in memory of one's own, of which a word, a row or Par is written; what write does; no condition but that they read. -/
namespace Go.Proofs.Ytflakmabciokbaa
set_option linter.unusedVariables false
open Go.ChangeShapes Go.WideShapes Go.ChangeAt Go.RowKit

theorem ne_block {v : Value} {g : Nat} (h : ∀ b, v.ownBlock = some b → b ≠ g) : v.ownBlock = none ∨ v.ownBlock ≠ some g := by
  cases hv : v.ownBlock with
  | none => exact .inl rfl
  | some b => exact .inr (fun e => h b hv (by injection e))
section
variable {base : Nat} {w w' : World} {p : Option Addr} {n c : Nat} {ys : List Value} {pp : Option Addr} {m cc : Nat} {B : Bk}
/-- The row j is written anew in its place. -/
theorem OwnB.writeRow (h : OwnB base w p n c ys pp m cc B) {j gr x cr : Nat} {l' : List Nat} (hj : j < n) (hv : ys.getD j vz = .slice (some ⟨gr, 0, none⟩) x cr) (hg : w.grownBy w' (some gr))
    (hr : w'.ownsRow base 29 1 (.slice (some ⟨gr, 0, none⟩) x cr) x (u32C l')) (hl : l'.length = x) (hx : x ≤ 100) (hlt : ∀ y ∈ l', y < 4294967296) : OwnB base w' p n c ys pp m cc ⟨B.rows.set j l', B.par, B.lost⟩ := by
  have hjl : j < B.rows.length := by rw [h.zn]; exact hj
  have hb : (ys.getD j vz).ownBlock = some gr := by rw [hv]; rfl
  have hsep := h.own.sep j hjl gr hb
  have hD : ∀ i, (B.rows.set j l').getD i [] = if i = j then l' else B.rows.getD i [] := fun i => getD_set B.rows [] l' j i hjl
  refine ⟨by rw [List.length_set]; exact h.zn, ⟨?_, fun i hi => ?_, fun i hi => ?_, fun i i' hi hi' => ?_, fun _ _ => rfl⟩, h.zm, ?_, h.plt, ?_, h.n100, ?_, h.m100, h.sep1, h.sep2⟩
  · rw [List.length_set]; exact h.own.row.kept hg (.inr hsep)
  · rw [List.length_set] at hi
    rw [hD]
    by_cases e : i = j
    · subst e
      rw [if_pos rfl, hv, hl]
      exact hr
    · rw [if_neg e]
      exact (h.own.fr i hi).kept hg (.inr (fun e2 => h.own.two i j hi hjl e gr e2 hb))
  · rw [List.length_set] at hi; exact h.own.sep i hi
  · rw [List.length_set] at hi hi'; exact h.own.two i i' hi hi'
  · exact h.par.kept hg (.inr (fun e => h.sep2 j hj gr e hb))
  · intro l hl2
    rcases List.mem_or_eq_of_mem_set hl2 with h1 | h1
    · exact h.rlt l h1
    · rw [h1]; exact hlt
  · intro l hl2
    rcases List.mem_or_eq_of_mem_set hl2 with h1 | h1
    · exact h.l100 l h1
    · rw [h1, hl]; exact hx
/-- Par is written anew in its place. -/
theorem OwnB.writePar (h : OwnB base w p n c ys pp m cc B) {gp : Nat} {l' : List Nat} (hv : pp = some ⟨gp, 0, none⟩) (hg : w.grownBy w' (some gp))
    (hr : w'.ownsRow base 29 1 (.slice pp m cc) m (u32C l')) (hl : l'.length = m) (hlt : ∀ y ∈ l', y < 4294967296) : OwnB base w' p n c ys pp m cc ⟨B.rows, l', B.lost⟩ := by
  have hb : (Value.slice pp m cc).ownBlock = some gp := by rw [hv]; rfl
  refine ⟨h.zn, ⟨h.own.row.kept hg (.inr (h.sep1 gp hb)), fun i hi => (h.own.fr i hi).kept hg (.inr (h.sep2 i (by rw [← h.zn]; exact hi) gp hb)), h.own.sep, h.own.two, fun _ _ => rfl⟩, hl, hr, hlt, h.rlt, h.n100, h.l100, h.m100, h.sep1, h.sep2⟩
theorem OwnB.lost (h : OwnB base w p n c ys pp m cc B) (z : Int) : OwnB base w p n c ys pp m cc ⟨B.rows, B.par, z⟩ :=
  ⟨h.zn, h.own, h.zm, h.par, h.plt, h.rlt, h.n100, h.l100, h.m100, h.sep1, h.sep2⟩
/-- Where the rows lie, and one of them. -/
theorem OwnB.rowAt (h : OwnB base w p n c ys pp m cc B) {j : Nat} (hj : j < n) (hx : 0 < (B.rows.getD j []).length) : ∃ g gr cr, p = some ⟨g, 0, none⟩ ∧ ys.getD j vz = .slice (some ⟨gr, 0, none⟩) (B.rows.getD j []).length cr ∧ base ≤ g ∧ g < w.heap.size ∧ base ≤ gr ∧ gr < w.heap.size ∧ (B.rows.getD j []).length ≤ cr ∧ n ≤ c ∧
    w.cell? ⟨g, j, none⟩ = some (.slice (some ⟨gr, 0, none⟩) (B.rows.getD j []).length cr) ∧ w.frozen? ⟨g, j, none⟩ = false ∧ (∀ a, a < (B.rows.getD j []).length → w.cell? ⟨gr, a, none⟩ = some (.int .u32 ((B.rows.getD j []).getD a 0 : Nat))) ∧ (∀ a, w.frozen? ⟨gr, a, none⟩ = false) := by
  have hjl : j < B.rows.length := by rw [h.zn]; exact hj
  have hrow := h.own.row
  rw [h.zn] at hrow
  obtain ⟨g, rfl, h1, h2, h3, h4⟩ := own_go hrow (by omega)
  have hfr := h.own.fr j hjl
  obtain ⟨q, cr, e⟩ := own_sl hfr
  rw [e] at hfr
  obtain ⟨gr, rfl, h5, h6, h7, h8⟩ := own_go hfr hx
  refine ⟨g, gr, cr, rfl, e, h3, h4, h7, h8, h5, h1, ?_, hrow.frozenAt j, fun a ha => ?_, hfr.frozenAt⟩
  · rw [hrow.cellAt j (by omega), ← e, List.getD_eq_getElem?_getD, List.getElem?_eq_getElem (by rw [hrow.1]; omega)]
    rfl
  · rw [hfr.cellAt a (by omega), u32C_at _ a ha]
theorem OwnB.parAt (h : OwnB base w p n c ys pp m cc B) (h0 : 0 < m) : ∃ gp, pp = some ⟨gp, 0, none⟩ ∧ base ≤ gp ∧ gp < w.heap.size ∧ m ≤ cc ∧ (∀ a, a < m → w.cell? ⟨gp, a, none⟩ = some (.int .u32 (B.par.getD a 0 : Nat))) ∧ (∀ a, w.frozen? ⟨gp, a, none⟩ = false) := by
  have hp := h.par
  obtain ⟨gp, rfl, h1, h2, h3, h4⟩ := own_go hp h0
  exact ⟨gp, rfl, h3, h4, h1, fun a ha => by rw [hp.cellAt a (by omega), u32C_at _ a (by rw [h.zm]; exact ha)], hp.frozenAt⟩
theorem set_lt {l : List Nat} (h : ∀ y ∈ l, y < 4294967296) (a x : Nat) (hx : x < 4294967296) : ∀ y ∈ l.set a x, y < 4294967296 := by
  intro y hy
  rcases List.mem_or_eq_of_mem_set hy with h1 | h1
  · exact h y h1
  · rw [h1]; exact hx
theorem OwnB.putPar {gp : Nat} (h : OwnB base w p n c ys (some ⟨gp, 0, none⟩) m cc B) (a x : Nat) (hx : x < 4294967296) : OwnB base (w.setCell ⟨gp, a, none⟩ (.int .u32 (x : Int))) p n c ys (some ⟨gp, 0, none⟩) m cc ⟨B.rows, B.par.set a x, B.lost⟩ := by
  have hs := h.par.stored a (.int .u32 (x : Int))
  rw [u32C_set] at hs
  exact h.writePar rfl hs.2 hs.1 (by rw [List.length_set]; exact h.zm) (set_lt h.plt a x hx)
theorem OwnB.putWord (h : OwnB base w p n c ys pp m cc B) {j gr x cr : Nat} (hj : j < n) (hv : ys.getD j vz = .slice (some ⟨gr, 0, none⟩) x cr) (hl : (B.rows.getD j []).length = x) (a y : Nat) (hy : y < 4294967296) :
    OwnB base (w.setCell ⟨gr, a, none⟩ (.int .u32 (y : Int))) p n c ys pp m cc ⟨B.rows.set j ((B.rows.getD j []).set a y), B.par, B.lost⟩ := by
  have hjl : j < B.rows.length := by rw [h.zn]; exact hj
  have hfr := h.own.fr j hjl
  rw [hv, hl] at hfr
  have hs := hfr.stored a (.int .u32 (y : Int))
  rw [u32C_set] at hs
  have hmem := mem_getD B.rows [] j hjl
  exact h.writeRow hj hv hs.2 hs.1 (by rw [List.length_set]; exact hl) (by rw [← hl]; exact h.l100 _ hmem) (set_lt (h.rlt _ hmem) a y hy)
end
theorem below_two {w w' : World} {o : Obj} (hb : Below (w.alloc o).heap.size (w.alloc o) w') : Below w.heap.size w w' := ((Below.refl _ _).alloc (Nat.le_refl _) _).trans (hb.mono (by simp))
/-- The result's three cells are written. -/
theorem res3_own {s : Nat} {w : World} {p : Option Addr} {n c : Nat} {ys : List Value} {pp : Option Addr} {m cc : Nat} {B : Bk} (h : OwnB (s + 2) w p n c ys pp m cc B) (u0 u1 u2 : Value) :
    OwnB s (((w.setCell ⟨s + 1, 0, none⟩ u0).setCell ⟨s + 1, 1, none⟩ u1).setCell ⟨s + 1, 2, none⟩ u2) p n c ys pp m cc B := (((h.setOff (by omega) 0 _).setOff (by omega) 1 _).setOff (by omega) 2 _).mono (by omega)
theorem res3_below {s : Nat} {w0 w : World} (h : Below s w0 w) (u0 u1 u2 : Value) : Below s w0 (((w.setCell ⟨s + 1, 0, none⟩ u0).setCell ⟨s + 1, 1, none⟩ u1).setCell ⟨s + 1, 2, none⟩ u2) :=
  ((h.setCell (p := ⟨s + 1, 0, none⟩) (by show s ≤ s + 1; omega) _).setCell (p := ⟨s + 1, 1, none⟩) (by show s ≤ s + 1; omega) _).setCell (p := ⟨s + 1, 2, none⟩) (by show s ≤ s + 1; omega) _
end Go.Proofs.Ytflakmabciokbaa
/- What Write answers; no condition but that the banks read. -/
namespace Go.Proofs.Ytflakmabciokbaa
set_option linter.unusedVariables false
open Go.ChangeShapes Go.WideShapes Go.ChangeAt Go.RowKit

/-- Banks that are handed back: in memory of one's own, beside a number. -/
def Back (w w' : World) (e : Ending) (n m : Nat) (B : Bk) (E : Int) : Prop := ∃ p c ys pp cc, e = .returned (.tuple #[.agg #[.slice p n c, .slice pp m cc, .int .i64 B.lost], .int .i64 E]) ∧ OwnB w.heap.size w' p n c ys pp m cc B ∧ Below w.heap.size w w'

set_option maxHeartbeats 4000000 in
theorem write_any (p : Option Addr) (n c : Nat) (xs : List Value) (pp : Option Addr) (m cc : Nat) (B : Bk) (k a : Int) (v : Nat) (w : World) (h : Bn w p n c xs pp m cc B) (hv : v < 4294967296) :
    Calls Try.prog 82 #[.agg #[.slice p n c, .slice pp m cc, .int .i64 B.lost], .int .i64 k, .int .i64 a, .int .u32 v] w fun e w' => Back w w' e n m (writeB B k a v) (writeE B k a) := by
  have hcp := fun w' hb => copied_any p n c xs pp m cc B w' (h.below hb)
  obtain ⟨z, hz⟩ : ∃ z, z = B.lost := ⟨_, rfl⟩
  obtain ⟨r, hr⟩ : ∃ r, r = hasW B k a := ⟨_, rfl⟩
  rw [← hz] at hcp ⊢
  have HCP := Lib.hid hcp
  have HZ := Lib.hid hz
  have HR := Lib.hid hr
  have HH := Lib.hid h
  obtain ⟨B', hB'⟩ : ∃ B', B' = writeB B k a v := ⟨_, rfl⟩
  obtain ⟨E, hE⟩ : ∃ E, E = writeE B k a := ⟨_, rfl⟩
  rw [← hB', ← hE]
  have HB' := Lib.hid hB'
  have HE := Lib.hid hE
  clear h hcp hz hr hB' hE
  go_enter Try.func82, Try.ntmps82
  go_wp2_with fail
  have HBA : Hid (Below w.heap.size w ((w.alloc (.cells #[.slice p n c, .slice pp m cc, .int .i64 z] 25)).alloc (.cells #[.slice none 0 0, .slice none 0 0, .int .i64 0] 25))) := Lib.hid (((Below.refl _ _).alloc (Nat.le_refl _) _).alloc (by simp) _)
  refine (HCP.out _ HBA.out).mono ?_
  rintro e w1 ⟨q, d, ys, qq, dd, rfl, ho, hb1⟩
  have HB1 : Hid (Below w.heap.size w w1) := Lib.hid (HBA.out.trans (hb1.mono HBA.out.size))
  have HRES : Hid (Blk w1 (w.heap.size + 1) #[.slice none 0 0, .slice none 0 0, .int .i64 0]) := Lib.hid (by simpa using Blk.track1 hb1)
  have HO : Hid (OwnB (w.heap.size + 2) w1 q n d ys qq m dd B) := Lib.hid (by simpa using ho)
  clear hb1 ho HBA HCP
  go_wp2_with fail
  have HKO : Hid (Blk (w1.alloc (.cells #[.slice q n d, .slice qq m dd, .int .i64 z] 25)) w1.heap.size #[.slice q n d, .slice qq m dd, .int .i64 z]) := Lib.hid (Blk.new _ _ _)
  have HOA := Lib.hid (HO.out.below ((Below.refl _ _).alloc (Nat.le_refl _) (.cells #[.slice q n d, .slice qq m dd, .int .i64 z] 25)))
  have HRA := Lib.hid (HRES.out.alloc (.cells #[.slice q n d, .slice qq m dd, .int .i64 z] 25))
  have HBA : Hid (Below w.heap.size w (w1.alloc (.cells #[.slice q n d, .slice qq m dd, .int .i64 z] 25))) := Lib.hid (HB1.out.alloc HB1.out.size _)
  have HNE : Hid (w.heap.size + 2 ≤ w1.heap.size) := Lib.hid (by have := HRES.out.lt; omega)
  have HOL : Hid (∀ j, j < n → ∀ g, (ys.getD j vz).ownBlock = some g → g < w1.heap.size) := Lib.hid (fun j hj g e => ((HO.out.own.fr j (by rw [HO.out.zn]; exact hj)).lt g e).2)
  have HOQ : Hid (∀ g, (Value.slice qq m dd).ownBlock = some g → g < w1.heap.size) := Lib.hid (fun g e => (HO.out.par.lt g e).2)
  obtain ⟨O, hO⟩ : ∃ O, O = w1.heap.size := ⟨_, rfl⟩
  obtain ⟨w2, hw2⟩ : ∃ w2, w2 = w1.alloc (.cells #[.slice q n d, .slice qq m dd, .int .i64 z] 25) := ⟨_, rfl⟩
  rw [← hw2] at HKO HOA HRA HBA ⊢
  rw [← hO] at HKO HNE HOL HOQ ⊢
  clear hO hw2 HO HRES HB1
  have hhw := hasword_any q n d ys qq m dd B k a w2 HOA.out.bn
  rw [← HR.out, ← HZ.out] at hhw
  refine hhw.mono ?_
  clear hhw
  rintro e w3 ⟨rfl, hb3⟩
  have HK3 := Lib.hid (HKO.out.below hb3)
  have HO3 := Lib.hid (HOA.out.below hb3)
  have HR3 := Lib.hid (HRA.out.below hb3)
  have HB3 : Hid (Below w.heap.size w w3) := Lib.hid (HBA.out.trans (hb3.mono HBA.out.size))
  clear hb3 HKO HOA HRA HBA
  have cK := HK3.out.c
  have cR := HR3.out.c
  have fR := HR3.out.f
  have lR := HR3.out.lt
  cases r with
  | false =>
    have hB : B' = B := by rw [HB'.out]; unfold writeB; rw [← HR.out]; rfl
    have hE : E = 1 := by rw [HE.out]; unfold writeE; rw [← HR.out]; rfl
    subst hB hE
    go_wp2_with fail
    refine bodyPost_ret (v := .tuple #[.agg #[.slice q n d, .slice qq m dd, .int .i64 z], .int .i64 1]) (by simp [results, Try.results82, go_sem, *]) rfl ⟨q, d, ys, qq, dd, by rw [HZ.out], res3_own HO3.out _ _ _, res3_below HB3.out _ _ _⟩
  | true =>
    by_cases hz0 : z = 0
    · have hw := hasW_inv HR.out.symm
      obtain ⟨hright, hk0, hk1, ha0, ha1⟩ := hw
      have hri := right_inv hright
      rw [HH.out.zn] at hk1
      rw [HH.out.zm] at ha1
      have hall : allB B.rows m = true := by rw [← HH.out.zm]; exact hri.2.2.2.2.1
      obtain ⟨j, rfl⟩ := Int.eq_ofNat_of_zero_le hk0
      obtain ⟨i, rfl⟩ := Int.eq_ofNat_of_zero_le ha0
      have hj : j < n := by omega
      have hi : i < m := by omega
      have hB : B' = putB B j i v := by rw [HB'.out]; unfold writeB; rw [← HR.out, if_pos rfl, if_pos (by rw [← HZ.out]; exact hz0)]
      have hE : E = 0 := by rw [HE.out]; unfold writeE; rw [← HR.out, if_pos rfl, if_pos (by rw [← HZ.out]; exact hz0)]
      subst hE
      have hm := HH.out.m100
      have hn := HH.out.n100
      have hlj : (B.rows.getD j []).length = m := all_at hall j (by rw [HH.out.zn]; exact hj)
      obtain ⟨g, gr, cr, rfl, hyj, hg0, hg1, hgr0, hgr1, hcr, hnd, hcg, hfg, hcw, hfw⟩ := HO3.out.rowAt hj (by rw [hlj]; omega)
      rw [hlj] at hyj hcr hcg hcw
      obtain ⟨gp, rfl, hgp0, hgp1, hmd, hcp, hfp⟩ := HO3.out.parAt (by omega)
      have HBP := Lib.hid hB
      have HYJ := Lib.hid hyj
      have HLJ := Lib.hid hlj
      obtain ⟨x, hx⟩ : ∃ x, x = (B.rows.getD j []).getD i 0 := ⟨_, rfl⟩
      obtain ⟨y, hy⟩ : ∃ y, y = B.par.getD i 0 := ⟨_, rfl⟩
      have c1 := hcw i hi
      have c2 := hcp i hi
      rw [← hx] at c1
      rw [← hy] at c2
      have hx32 : x < 4294967296 := by rw [hx]; exact HH.out.rw_.word_lt j i
      have hy32 : y < 4294967296 := by rw [hy]; exact HH.out.nm.getD_lt i
      have hb1 : bits .xor .u32 (x : Int) (v : Int) = ((x ^^^ v : Nat) : Int) := u32_xor_nat x v (by omega) (by omega)
      have hxv := xor_lt x v hx32 hv
      have hb2 : bits .xor .u32 (y : Int) ((x ^^^ v : Nat) : Int) = ((y ^^^ (x ^^^ v) : Nat) : Int) := u32_xor_nat y (x ^^^ v) (by omega) (by omega)
      have hyxv := xor_lt y (x ^^^ v) hy32 hxv
      have hz0' : (z != 0) = false := by simp; exact hz0
      have hjI : (0 : Int) ≤ (j : Int) := by omega
      have hjI2 : (j : Int) < (n : Int) := by omega
      have hiI : (0 : Int) ≤ (i : Int) := by omega
      have hiI2 : (i : Int) < (m : Int) := by omega
      have HX := Lib.hid hx
      have HY := Lib.hid hy
      have HGP := Lib.hid hgp0
      have HGR := Lib.hid hgr0
      have HGG := Lib.hid hg0
      have HPR : Hid (gp ≠ gr) := Lib.hid (fun e => HO3.out.sep2 j hj gp rfl (by rw [HYJ.out]; show some gr = some gp; rw [e]))
      have HPG : Hid (gp ≠ g) := Lib.hid (fun e => HO3.out.sep1 gp rfl (by show some g = some gp; rw [e]))
      have HOP : Hid (gp ≠ O) := Lib.hid (fun e => Nat.lt_irrefl _ (e ▸ HOQ.out gp rfl))
      have HOR : Hid (gr ≠ O) := Lib.hid (fun e => Nat.lt_irrefl _ (e ▸ HOL.out j hj gr (by rw [HYJ.out]; rfl)))
      have HRG : Hid (gr ≠ g) := Lib.hid (fun e => HO3.out.own.sep j (by rw [HH.out.zn]; exact hj) gr (by rw [HYJ.out]; rfl) (by show some g = some gr; rw [e]))
      clear hright hri hall hk0 hk1 ha0 ha1 hB hyj hlj hx hy hz0 hgp0 hgr0 hg0 hg1 hgr1 hgp1 hcw hcp
      go_upto_region 6 with fail
      obtain ⟨w6, hw6⟩ : ∃ w6, w6 = w3.drew := ⟨_, rfl⟩
      have kc1 : w6.cell? ⟨gr, i, none⟩ = some (.int .u32 (x : Int)) := by rw [hw6]; exact c1
      have kc2 : w6.cell? ⟨gp, i, none⟩ = some (.int .u32 (y : Int)) := by rw [hw6]; exact c2
      have kcg : w6.cell? ⟨g, j, none⟩ = some (.slice (some ⟨gr, 0, none⟩) m cr) := by rw [hw6]; exact hcg
      have kfp : w6.frozen? ⟨gp, i, none⟩ = false := by rw [hw6]; exact hfp i
      have HK6 : Hid (Blk w6 O #[.slice (some ⟨g, 0, none⟩) n d, .slice (some ⟨gp, 0, none⟩) m dd, .int .i64 z]) := Lib.hid (by rw [hw6]; exact HK3.out.drew)
      have HO6 : Hid (OwnB (w.heap.size + 2) w6 (some ⟨g, 0, none⟩) n d ys (some ⟨gp, 0, none⟩) m dd B) := Lib.hid (by rw [hw6]; exact HO3.out.below (Below.refl _ _).drew)
      have HR6 : Hid (Blk w6 (w.heap.size + 1) #[.slice none 0 0, .slice none 0 0, .int .i64 0]) := Lib.hid (by rw [hw6]; exact HR3.out.drew)
      have HB6 : Hid (Below w.heap.size w w6) := Lib.hid (by rw [hw6]; exact HB3.out.drew)
      refine region_plan (fun w' : World => w' = w6) 17 [(0, true), (1, true), (2, true), (3, true), (4, true), (5, true), (6, true), (7, true), (8, true), (9, true), (10, true), (11, true), (12, true), (13, true), (14, true), (15, true), (16, true)] (by kernel_rfl) (by kernel_rfl) hw6.symm ?_
      rw [← hw6]
      clear hw6 cK cR fR lR c1 c2 hcg hfg hfp hfw HK3 HO3 HR3 HB3
      have k6 := HK6.out.c
      iterate 17
        refine plan_read (v := ?_) rfl (by rfl) ?_ ?_
        rotate_left
        · intro w' hS
          try dsimp only at hS
          subst hS
          go_simp
          try with_reducible rfl
        try simp only [Act.put, List.setIfInBounds_toArray, List.set_cons_zero, List.set_cons_succ, List.getElem_toArray, List.getElem_cons_zero, List.getElem_cons_succ]
      refine plan_nil ?_
      simp only [List.drop_succ_cons, List.drop_zero]
      go_upto_region 7 with fail
      obtain ⟨w7, hw7⟩ : ∃ w7, w7 = w6.setCell ⟨gp, i, none⟩ (.int .u32 ((y ^^^ (x ^^^ v) : Nat) : Int)) := ⟨_, rfl⟩
      have HO7 : Hid (OwnB (w.heap.size + 2) w7 (some ⟨g, 0, none⟩) n d ys (some ⟨gp, 0, none⟩) m dd ⟨B.rows, B.par.set i (y ^^^ (x ^^^ v)), B.lost⟩) := Lib.hid (by rw [hw7]; exact HO6.out.putPar i _ hyxv)
      have HK7 : Hid (Blk w7 O #[.slice (some ⟨g, 0, none⟩) n d, .slice (some ⟨gp, 0, none⟩) m dd, .int .i64 z]) := Lib.hid (by rw [hw7]; exact HK6.out.other _ (fun e => HOP.out e))
      have HR7 : Hid (Blk w7 (w.heap.size + 1) #[.slice none 0 0, .slice none 0 0, .int .i64 0]) := Lib.hid (by rw [hw7]; exact HR6.out.other _ (by have := HGP.out; omega))
      have HB7 : Hid (Below w.heap.size w w7) := Lib.hid (by rw [hw7]; exact HB6.out.setCell (p := ⟨gp, i, none⟩) (by show w.heap.size ≤ gp; have := HGP.out; omega) _)
      obtain ⟨g', gr', cr', he, hyj', _, _, _, _, _, _, hcg7, _, hcw7, hfw7⟩ := HO7.out.rowAt (j := j) hj (by show 0 < (B.rows.getD j []).length; rw [HLJ.out]; omega)
      injection he with he
      injection he with he
      subst he
      rw [HYJ.out] at hyj'
      injection hyj' with e1 e2 e3
      injection e1 with e1
      injection e1 with e1
      subst e1 e3
      have hcg8 : w7.cell? ⟨g, j, none⟩ = some (.slice (some ⟨gr, 0, none⟩) m cr) := by
        rw [← HLJ.out]; exact hcg7
      have hfw8 := hfw7 i
      have hcw8 := hcw7 i (by show i < (B.rows.getD j []).length; rw [HLJ.out]; exact hi)
      rw [← hw7]
      clear hw7 kc1 kc2 kcg kfp k6 HK6 HO6 HR6 HB6 hcg7 hcw7 hfw7 e2
      have k7 := HK7.out.c
      go_upto_region 8 with fail
      obtain ⟨w8, hw8⟩ : ∃ w8, w8 = w7.setCell ⟨gr, i, none⟩ (.int .u32 (v : Int)) := ⟨_, rfl⟩
      have HO8 : Hid (OwnB (w.heap.size + 2) w8 (some ⟨g, 0, none⟩) n d ys (some ⟨gp, 0, none⟩) m dd B') := Lib.hid (by
        have hh := HO7.out.putWord hj HYJ.out HLJ.out i v hv
        have e : B' = ⟨B.rows.set j ((B.rows.getD j []).set i v), B.par.set i (y ^^^ (x ^^^ v)), B.lost⟩ := by
          rw [HBP.out]
          unfold putB wordB
          simp only [Int.toNat_natCast]
          rw [← HX.out, ← HY.out]
        rw [e, hw8]
        exact hh)
      have HK8 : Hid (Blk w8 O #[.slice (some ⟨g, 0, none⟩) n d, .slice (some ⟨gp, 0, none⟩) m dd, .int .i64 z]) := Lib.hid (by rw [hw8]; exact HK7.out.other _ (fun e => HOR.out e))
      have HR8 : Hid (Blk w8 (w.heap.size + 1) #[.slice none 0 0, .slice none 0 0, .int .i64 0]) := Lib.hid (by rw [hw8]; exact HR7.out.other _ (by have := HGR.out; omega))
      have HB8 : Hid (Below w.heap.size w w8) := Lib.hid (by rw [hw8]; exact HB7.out.setCell (p := ⟨gr, i, none⟩) (by show w.heap.size ≤ gr; have := HGR.out; omega) _)
      have HLB : Hid (B'.lost = z) := Lib.hid (by rw [HBP.out]; unfold putB; exact HZ.out.symm)
      rw [← hw8]
      clear hw8 k7 HK7 HO7 HR7 HB7 hcg8 hcw8 hfw8
      have k8 := HK8.out.c
      have cR := HR8.out.c
      have fR := HR8.out.f
      have lR := HR8.out.lt
      go_wp2_with fail
      refine bodyPost_ret (v := .tuple #[.agg #[.slice (some ⟨g, 0, none⟩) n d, .slice (some ⟨gp, 0, none⟩) m dd, .int .i64 z], .int .i64 0]) (by simp [results, Try.results82, go_sem, *]) rfl ⟨_, d, ys, _, dd, by rw [HLB.out], res3_own HO8.out _ _ _, res3_below HB8.out _ _ _⟩
    · have hz0' : (z != 0) = true := by simpa using hz0
      have hB : B' = B := by rw [HB'.out]; unfold writeB; rw [← HR.out, if_pos rfl, if_neg (by rw [← HZ.out]; exact hz0)]
      have hE : E = 8 := by rw [HE.out]; unfold writeE; rw [← HR.out, if_pos rfl, if_neg (by rw [← HZ.out]; exact hz0)]
      subst hB hE
      clear hz0
      go_wp2_with fail
      refine bodyPost_ret (v := .tuple #[.agg #[.slice q n d, .slice qq m dd, .int .i64 z], .int .i64 8]) (by simp [results, Try.results82, go_sem, *]) rfl ⟨q, d, ys, qq, dd, by rw [HZ.out], res3_own HO3.out _ _ _, res3_below HB3.out _ _ _⟩
end Go.Proofs.Ytflakmabciokbaa
/- What Lose answers; no condition but that the banks read. -/
namespace Go.Proofs.Ytflakmabciokbaa
set_option linter.unusedVariables false
open Go.ChangeShapes Go.WideShapes Go.ChangeAt Go.RowKit

def setL (xs : List Value) : Nat → List Value → List Value
  | _, [] => xs
  | o, v :: vs => setL (xs.set o v) (o + 1) vs
def setN (l : List Nat) : Nat → Nat → List Nat
  | _, 0 => l
  | o, k + 1 => setN (l.set o 0) (o + 1) k
theorem setN_len (l : List Nat) (o k : Nat) : (setN l o k).length = l.length := by
  induction k generalizing l o with
  | zero => rfl
  | succ k ih => show (setN (l.set o 0) (o + 1) k).length = _; rw [ih, List.length_set]
theorem setN_at (l : List Nat) (o k j : Nat) (h : o + k ≤ l.length) : (setN l o k).getD j 0 = if o ≤ j ∧ j < o + k then 0 else l.getD j 0 := by
  induction k generalizing l o with
  | zero => rw [if_neg (by omega)]; rfl
  | succ k ih =>
    show (setN (l.set o 0) (o + 1) k).getD j 0 = _
    rw [ih _ _ (by rw [List.length_set]; omega), getD_set l 0 0 o j (by omega)]
    by_cases h1 : o + 1 ≤ j ∧ j < o + 1 + k
    · rw [if_pos h1, if_pos (by omega)]
    · rw [if_neg h1]
      by_cases h2 : j = o
      · rw [if_pos h2, if_pos (by omega)]
      · rw [if_neg h2, if_neg (by omega)]
theorem setL_u32 (l : List Nat) (o k : Nat) : setL (u32C l) o (List.replicate k (.int .u32 0)) = u32C (setN l o k) := by
  induction k generalizing l o with
  | zero => rfl
  | succ k ih =>
    show setL ((u32C l).set o (.int .u32 ((0 : Nat) : Int))) (o + 1) (List.replicate k (.int .u32 0)) = _
    rw [u32C_set, ih]; rfl
theorem setN_all (l : List Nat) (m : Nat) (h : l.length = m) : setN l 0 m = List.replicate m 0 := by
  refine ext_getD (by rw [setN_len, List.length_replicate, h]) fun k hk => ?_
  rw [setN_len] at hk
  rw [setN_at _ _ _ _ (by omega), if_pos (by omega), getD_rep0]
theorem grown_trans {w w1 w2 : World} {row : Option Nat} (h : w.grownBy w1 row) (h2 : w1.grownBy w2 row) : w.grownBy w2 row :=
  ⟨h2.os.trans h.os, h2.tape.trans h.tape, h2.output.trans h.output, Nat.le_trans h.size h2.size, fun k hk hr => (h2.block k (Nat.lt_of_lt_of_le hk h.size) hr).trans (h.block k hk hr)⟩
theorem own_cells {w : World} {base : Nat} {g n cap : Nat} {xs : List Value} (vs : List Value) (o : Nat) (h : w.ownsRow base 29 1 (.slice (some ⟨g, 0, none⟩) n cap) n xs) :
    (w.setCells g o vs).ownsRow base 29 1 (.slice (some ⟨g, 0, none⟩) n cap) n (setL xs o vs) ∧ w.grownBy (w.setCells g o vs) (some g) := by
  induction vs generalizing w o xs with
  | nil => exact ⟨h, rfl, rfl, rfl, Nat.le_refl _, fun _ _ _ => rfl⟩
  | cons v vs ih =>
    have hs := h.stored o v
    have h2 := ih (o + 1) hs.1
    exact ⟨h2.1, grown_trans hs.2 h2.2⟩
theorem OwnB.zeroRow {base : Nat} {w : World} {p : Option Addr} {n c : Nat} {ys : List Value} {pp : Option Addr} {m cc : Nat} {B : Bk} (h : OwnB base w p n c ys pp m cc B) {j gr x cr : Nat} (hj : j < n) (hv : ys.getD j vz = .slice (some ⟨gr, 0, none⟩) x cr) (hl : (B.rows.getD j []).length = x) :
    OwnB base (w.setCells gr 0 (List.replicate x (.int .u32 0))) p n c ys pp m cc ⟨B.rows.set j (List.replicate x 0), B.par, B.lost⟩ ∧ w.grownBy (w.setCells gr 0 (List.replicate x (.int .u32 0))) (some gr) := by
  have hjl : j < B.rows.length := by rw [h.zn]; exact hj
  have hfr := h.own.fr j hjl
  rw [hv, hl] at hfr
  have hs := own_cells (List.replicate x (.int .u32 0)) 0 hfr
  rw [setL_u32, setN_all _ _ hl] at hs
  exact ⟨h.writeRow hj hv hs.2 hs.1 (by simp) (by rw [← hl]; exact h.l100 _ (mem_getD B.rows [] j hjl)) (rep_lt x), hs.2⟩
/-- All of them lie ahead of a block. -/
structure Under (O : Nat) (p : Option Addr) (n c : Nat) (ys : List Value) (pp : Option Addr) (m cc : Nat) : Prop where
  head : ∀ g, (Value.slice p n c).ownBlock = some g → g < O
  rows : ∀ j, j < n → ∀ g, (ys.getD j vz).ownBlock = some g → g < O
  par : ∀ g, (Value.slice pp m cc).ownBlock = some g → g < O
theorem OwnB.under {base : Nat} {w : World} {p : Option Addr} {n c : Nat} {ys : List Value} {pp : Option Addr} {m cc : Nat} {B : Bk} (h : OwnB base w p n c ys pp m cc B) : Under w.heap.size p n c ys pp m cc :=
  ⟨fun g e => (h.own.row.lt g e).2, fun j hj g e => ((h.own.fr j (by rw [h.zn]; exact hj)).lt g e).2, fun g e => (h.par.lt g e).2⟩
theorem OwnB.setOver {base : Nat} {w : World} {p : Option Addr} {n c : Nat} {ys : List Value} {pp : Option Addr} {m cc : Nat} {B : Bk} (h : OwnB base w p n c ys pp m cc B) {O : Nat} (hu : Under O p n c ys pp m cc) (j : Nat) (u : Value) : OwnB base (w.setCell ⟨O, j, none⟩ u) p n c ys pp m cc B :=
  ⟨h.zn, h.own.off (fun g e => by have := hu.head g e; omega) (fun k hk g e => by have := hu.rows k (by rw [← h.zn]; exact hk) g e; omega) j u, h.zm, own_off h.par (fun g e => by have := hu.par g e; omega) j u, h.plt, h.rlt, h.n100, h.l100, h.m100, h.sep1, h.sep2⟩
theorem zero26 : ∀ w, (zeroValue 29).run Try.prog w = .ok (.int .u32 0) w := by
  obtain ⟨i0, hi, hz0, hz1, hz2⟩ := info_parts info26
  intro w
  simp [zeroValue, typeInfo, hi, hz0]

set_option maxHeartbeats 4000000 in
theorem lose_any (p : Option Addr) (n c : Nat) (xs : List Value) (pp : Option Addr) (m cc : Nat) (B : Bk) (k : Int) (w : World) (h : Bn w p n c xs pp m cc B) :
    Calls Try.prog 64 #[.agg #[.slice p n c, .slice pp m cc, .int .i64 B.lost], .int .i64 k] w fun e w' => Back w w' e n m (loseB B k) (loseE B k) := by
  have hcp := fun w' hb => copied_any p n c xs pp m cc B w' (h.below hb)
  obtain ⟨z, hz⟩ : ∃ z, z = B.lost := ⟨_, rfl⟩
  obtain ⟨r, hr⟩ : ∃ r, r = hasB B k := ⟨_, rfl⟩
  rw [← hz] at hcp ⊢
  have HCP := Lib.hid hcp
  have HZ := Lib.hid hz
  have HR := Lib.hid hr
  have HH := Lib.hid h
  obtain ⟨B', hB'⟩ : ∃ B', B' = loseB B k := ⟨_, rfl⟩
  obtain ⟨E, hE⟩ : ∃ E, E = loseE B k := ⟨_, rfl⟩
  rw [← hB', ← hE]
  have HB' := Lib.hid hB'
  have HE := Lib.hid hE
  clear h hcp hz hr hB' hE
  go_enter Try.func64, Try.ntmps64
  go_wp2_with fail
  have HBA : Hid (Below w.heap.size w ((w.alloc (.cells #[.slice p n c, .slice pp m cc, .int .i64 z] 25)).alloc (.cells #[.slice none 0 0, .slice none 0 0, .int .i64 0] 25))) := Lib.hid (((Below.refl _ _).alloc (Nat.le_refl _) _).alloc (by simp) _)
  refine (HCP.out _ HBA.out).mono ?_
  rintro e w1 ⟨q, d, ys, qq, dd, rfl, ho, hb1⟩
  have HB1 : Hid (Below w.heap.size w w1) := Lib.hid (HBA.out.trans (hb1.mono HBA.out.size))
  have HRES : Hid (Blk w1 (w.heap.size + 1) #[.slice none 0 0, .slice none 0 0, .int .i64 0]) := Lib.hid (by simpa using Blk.track1 hb1)
  have HO : Hid (OwnB (w.heap.size + 2) w1 q n d ys qq m dd B) := Lib.hid (by simpa using ho)
  clear hb1 ho HBA HCP
  go_wp2_with fail
  have HKO : Hid (Blk (w1.alloc (.cells #[.slice q n d, .slice qq m dd, .int .i64 z] 25)) w1.heap.size #[.slice q n d, .slice qq m dd, .int .i64 z]) := Lib.hid (Blk.new _ _ _)
  have HOA := Lib.hid (HO.out.below ((Below.refl _ _).alloc (Nat.le_refl _) (.cells #[.slice q n d, .slice qq m dd, .int .i64 z] 25)))
  have HRA := Lib.hid (HRES.out.alloc (.cells #[.slice q n d, .slice qq m dd, .int .i64 z] 25))
  have HBA : Hid (Below w.heap.size w (w1.alloc (.cells #[.slice q n d, .slice qq m dd, .int .i64 z] 25))) := Lib.hid (HB1.out.alloc HB1.out.size _)
  have HNE : Hid (w.heap.size + 2 ≤ w1.heap.size) := Lib.hid (by have := HRES.out.lt; omega)
  have HUN : Hid (Under w1.heap.size q n d ys qq m dd) := Lib.hid HO.out.under
  have HOL : Hid (∀ j, j < n → ∀ g, (ys.getD j vz).ownBlock = some g → g < w1.heap.size) := Lib.hid (fun j hj g e => ((HO.out.own.fr j (by rw [HO.out.zn]; exact hj)).lt g e).2)
  obtain ⟨O, hO⟩ : ∃ O, O = w1.heap.size := ⟨_, rfl⟩
  obtain ⟨w2, hw2⟩ : ∃ w2, w2 = w1.alloc (.cells #[.slice q n d, .slice qq m dd, .int .i64 z] 25) := ⟨_, rfl⟩
  rw [← hw2] at HKO HOA HRA HBA ⊢
  rw [← hO] at HKO HNE HOL HUN ⊢
  clear hO hw2 HO HRES HB1
  have hhw := hasbank_any q n d ys qq m dd B k w2 HOA.out.bn
  rw [← HR.out, ← HZ.out] at hhw
  refine hhw.mono ?_
  clear hhw
  rintro e w3 ⟨rfl, hb3⟩
  have HK3 := Lib.hid (HKO.out.below hb3)
  have HO3 := Lib.hid (HOA.out.below hb3)
  have HR3 := Lib.hid (HRA.out.below hb3)
  have HB3 : Hid (Below w.heap.size w w3) := Lib.hid (HBA.out.trans (hb3.mono HBA.out.size))
  clear hb3 HKO HOA HRA HBA
  have cK := HK3.out.c
  have cR := HR3.out.c
  have fR := HR3.out.f
  have lR := HR3.out.lt
  cases r with
  | false =>
    have hB : B' = B := by rw [HB'.out]; unfold loseB; rw [← HR.out]; rfl
    have hE : E = 1 := by rw [HE.out]; unfold loseE; rw [← HR.out]; rfl
    subst hB hE
    go_wp2_with fail
    refine bodyPost_ret (v := .tuple #[.agg #[.slice q n d, .slice qq m dd, .int .i64 z], .int .i64 1]) (by simp [results, Try.results64, go_sem, *]) rfl ⟨q, d, ys, qq, dd, by rw [HZ.out], res3_own HO3.out _ _ _, res3_below HB3.out _ _ _⟩
  | true =>
    by_cases hz0 : z = 0
    · have hw := hasB_inv HR.out.symm
      obtain ⟨hright, hk0, hk1⟩ := hw
      have hri := right_inv hright
      rw [HH.out.zn] at hk1
      have hall : allB B.rows m = true := by rw [← HH.out.zm]; exact hri.2.2.2.2.1
      have hm1 : 1 ≤ m := by rw [← HH.out.zm]; exact hri.2.2.1
      obtain ⟨j, rfl⟩ := Int.eq_ofNat_of_zero_le hk0
      have hj : j < n := by omega
      have hB : B' = ⟨B.rows.set j (List.replicate m 0), B.par, (j : Int) + 1⟩ := by rw [HB'.out]; unfold loseB; rw [← HR.out, if_pos rfl, if_pos (by rw [← HZ.out]; exact hz0), HH.out.zm]; simp only [Int.toNat_natCast]
      have hE : E = 0 := by rw [HE.out]; unfold loseE; rw [← HR.out, if_pos rfl, if_pos (by rw [← HZ.out]; exact hz0)]
      subst hE
      have hm := HH.out.m100
      have hn := HH.out.n100
      have hlj : (B.rows.getD j []).length = m := all_at hall j (by rw [HH.out.zn]; exact hj)
      obtain ⟨g, gr, cr, rfl, hyj, hg0, hg1, hgr0, hgr1, hcr, hnd, hcg, hfg, hcw, hfw⟩ := HO3.out.rowAt hj (by rw [hlj]; omega)
      rw [hlj] at hyj hcr hcg hcw
      have HBP := Lib.hid hB
      have HYJ := Lib.hid hyj
      have HLJ := Lib.hid hlj
      have hz0' : (z != 0) = false := by simp; exact hz0
      have hjI : (0 : Int) ≤ (j : Int) := by omega
      have hjI2 : (j : Int) < (n : Int) := by omega
      have HGR := Lib.hid hgr0
      have HOR : Hid (gr ≠ O) := Lib.hid (fun e => Nat.lt_irrefl _ (e ▸ HOL.out j hj gr (by rw [HYJ.out]; rfl)))
      have hcl : ∀ ty, (Builtin.clear_ #[23] ty #[.slice (some ⟨gr, 0, none⟩) m cr]).run Try.prog w3 = .ok (.tuple #[]) (w3.setCells gr 0 (List.replicate m (.int .u32 0))) :=
        fun ty => Lib.run_clear_slice w3 _ _ ty _ Try.underlying23 zero26 rfl rfl gr 0 m cr (by omega) (fun t ht => by rw [Nat.zero_add, hcw t ht]; rfl) (fun t _ => by rw [Nat.zero_add]; exact hfw t)
      have hzr := HO3.out.zeroRow hj HYJ.out HLJ.out
      clear hright hri hall hk0 hk1 hB hyj hlj hz0 hgr0 hg0 hg1 hgr1 hcw hfw
      have wj : IntKind.i64.wrap ((j : Int) + 1) = (j : Int) + 1 := by rw [IntKind.wrap_i64]; omega
      go_upto_region 7 with fail
      obtain ⟨w7, hw7⟩ : ∃ w7, w7 = w3.setCells gr 0 (List.replicate m (.int .u32 0)) := ⟨_, rfl⟩
      rw [← hw7] at hzr ⊢
      have HO7 := Lib.hid hzr.1
      have HK7 : Hid (Blk w7 O #[.slice (some ⟨g, 0, none⟩) n d, .slice qq m dd, .int .i64 z]) := Lib.hid (HK3.out.grown hzr.2 (fun e => HOR.out (by injection e)))
      have HR7 : Hid (Blk w7 (w.heap.size + 1) #[.slice none 0 0, .slice none 0 0, .int .i64 0]) := Lib.hid (HR3.out.grown hzr.2 (fun e => by injection e with e; have := HGR.out; omega))
      have HB7 : Hid (Below w.heap.size w w7) := Lib.hid (HB3.out.grown hzr.2 HB3.out.size (fun k e => by injection e with e; have := HGR.out; omega))
      clear hzr hw7 hcl cK cR fR lR hcg hfg HK3 HO3 HR3 HB3
      have cK := HK7.out.c
      have fK := HK7.out.f
      have lK := HK7.out.lt
      go_upto_region 8 with fail
      obtain ⟨w8, hw8⟩ : ∃ w8, w8 = w7.setCell ⟨O, 2, none⟩ (.int .i64 ((j : Int) + 1)) := ⟨_, rfl⟩
      have HO8 : Hid (OwnB (w.heap.size + 2) w8 (some ⟨g, 0, none⟩) n d ys qq m dd B') := Lib.hid (by
        rw [hw8, HBP.out]
        exact (HO7.out.setOver HUN.out 2 _).lost _)
      have HK8 : Hid (Blk w8 O #[.slice (some ⟨g, 0, none⟩) n d, .slice qq m dd, .int .i64 ((j : Int) + 1)]) := Lib.hid (by rw [hw8]; exact HK7.out.set (n := 2) _ (by simp))
      have HR8 : Hid (Blk w8 (w.heap.size + 1) #[.slice none 0 0, .slice none 0 0, .int .i64 0]) := Lib.hid (by rw [hw8]; exact HR7.out.other _ (by have := HNE.out; omega))
      have HB8 : Hid (Below w.heap.size w w8) := Lib.hid (by rw [hw8]; exact HB7.out.setCell (p := ⟨O, 2, none⟩) (by show w.heap.size ≤ O; have := HNE.out; omega) _)
      have HLB : Hid (B'.lost = (j : Int) + 1) := Lib.hid (by rw [HBP.out])
      rw [← hw8]
      clear hw8 cK fK lK HK7 HO7 HR7 HB7
      have k8 := HK8.out.c
      have cR := HR8.out.c
      have fR := HR8.out.f
      have lR := HR8.out.lt
      go_wp2_with fail
      refine bodyPost_ret (v := .tuple #[.agg #[.slice (some ⟨g, 0, none⟩) n d, .slice qq m dd, .int .i64 ((j : Int) + 1)], .int .i64 0]) (by simp [results, Try.results64, go_sem, *]) rfl ⟨_, d, ys, _, dd, by rw [HLB.out], res3_own HO8.out _ _ _, res3_below HB8.out _ _ _⟩
    · have hz0' : (z != 0) = true := by simpa using hz0
      have hB : B' = B := by rw [HB'.out]; unfold loseB; rw [← HR.out, if_pos rfl, if_neg (by rw [← HZ.out]; exact hz0)]
      have hE : E = 8 := by rw [HE.out]; unfold loseE; rw [← HR.out, if_pos rfl, if_neg (by rw [← HZ.out]; exact hz0)]
      subst hB hE
      clear hz0
      go_wp2_with fail
      refine bodyPost_ret (v := .tuple #[.agg #[.slice q n d, .slice qq m dd, .int .i64 z], .int .i64 8]) (by simp [results, Try.results64, go_sem, *]) rfl ⟨q, d, ys, qq, dd, by rw [HZ.out], res3_own HO3.out _ _ _, res3_below HB3.out _ _ _⟩
end Go.Proofs.Ytflakmabciokbaa
/- What Rebuild answers; no condition but that the banks read. -/
namespace Go.Proofs.Ytflakmabciokbaa
set_option linter.unusedVariables false
open Go.ChangeShapes Go.WideShapes Go.ChangeAt Go.RowKit

theorem getD_nil {α : Type} (L : List α) (d : α) (k : Nat) (h : L.length ≤ k) : L.getD k d = d := by
  rw [List.getD_eq_getElem?_getD, List.getElem?_eq_none h]; rfl
/-- Another row in memory of one's own takes the place j. -/
theorem OwnB.putRow {base s : Nat} {w : World} {p : Option Addr} {n c : Nat} {ys : List Value} {pp : Option Addr} {m cc : Nat} {B : Bk} (h : OwnB base w p n c ys pp m cc B) (hu : Under s p n c ys pp m cc) {j g : Nat} {r : Value} {l' : List Nat} (hj : j < n) (hp : p = some ⟨g, 0, none⟩) (hs : base ≤ s)
    (hr : w.ownsRow s 29 1 r l'.length (u32C l')) (hx : l'.length ≤ 100) (hlt : ∀ y ∈ l', y < 4294967296) : OwnB base (w.setCell ⟨g, j, none⟩ r) p n c (ys.set j r) pp m cc ⟨B.rows.set j l', B.par, B.lost⟩ := by
  subst hp
  have hjl : j < B.rows.length := by rw [h.zn]; exact hj
  have hys : ys.length = n := by rw [h.own.row.1, Nat.mul_one, h.zn]
  have hrow := h.own.row
  rw [h.zn] at hrow
  have hst := hrow.stored j r
  have hgg := hu.head g rfl
  have hrn : ∀ b, r.ownBlock = some b → s ≤ b := fun b e => (hr.lt b e).1
  have hD : ∀ i, (B.rows.set j l').getD i [] = if i = j then l' else B.rows.getD i [] := fun i => getD_set B.rows [] l' j i hjl
  have hY : ∀ i, (ys.set j r).getD i vz = if i = j then r else ys.getD i vz := fun i => getD_set ys vz r j i (by omega)
  refine ⟨by rw [List.length_set]; exact h.zn, ⟨?_, fun i hi => ?_, fun i hi => ?_, fun i i' hi hi' hne => ?_, fun _ _ => rfl⟩, h.zm, ?_, h.plt, ?_, h.n100, ?_, h.m100, h.sep1, fun k hk b e => ?_⟩
  · rw [List.length_set, h.zn]; exact hst.1
  · rw [List.length_set] at hi
    rw [hD, hY]
    by_cases e : i = j
    · rw [if_pos e, if_pos e]
      exact (own_base hr hs).kept hst.2 (ne_block (fun b eb => by have := hrn b eb; omega))
    · rw [if_neg e, if_neg e]
      exact (h.own.fr i hi).kept hst.2 (ne_block (fun b eb e2 => h.own.sep i hi b eb (by subst e2; rfl)))
  · rw [List.length_set] at hi
    rw [hY]
    by_cases e : i = j
    · rw [if_pos e]
      intro b eb e2
      have := hrn b eb
      have := hu.head b e2
      omega
    · rw [if_neg e]; exact h.own.sep i hi
  · rw [List.length_set] at hi hi'
    rw [hY, hY]
    by_cases e : i = j
    · rw [if_pos e, if_neg (fun e2 => hne (e.trans e2.symm))]
      intro b eb e2
      have := hrn b eb
      have := hu.rows i' (by rw [← h.zn]; exact hi') b e2
      omega
    · rw [if_neg e]
      by_cases e' : i' = j
      · rw [if_pos e']
        intro b eb e2
        have := hrn b e2
        have := hu.rows i (by rw [← h.zn]; exact hi) b eb
        omega
      · rw [if_neg e']
        exact h.own.two i i' hi hi' hne
  · exact h.par.kept hst.2 (ne_block (fun b eb e2 => h.sep1 b eb (by subst e2; rfl)))
  · intro l hl2
    rcases List.mem_or_eq_of_mem_set hl2 with h1 | h1
    · exact h.rlt l h1
    · rw [h1]; exact hlt
  · intro l hl2
    rcases List.mem_or_eq_of_mem_set hl2 with h1 | h1
    · exact h.l100 l h1
    · rw [h1]; exact hx
  · rw [hY]
    by_cases ek : k = j
    · rw [if_pos ek]
      intro e2
      have := hrn b e2
      have := hu.par b e
      omega
    · rw [if_neg ek]; exact h.sep2 k hk b e
/-- Par and what all rows are together, together. -/
theorem tog_two (P R : List Nat) (m : Nat) (h : R.length = m) (h2 : P.length = m) : togL [P, R] m = (List.range m).map fun a => P.getD a 0 ^^^ R.getD a 0 := by
  unfold togL
  refine List.map_congr_left fun a ha => ?_
  have ha' : a < m := List.mem_range.1 ha
  unfold colX colK
  show (if ((1 : Nat) : Int) = -1 then _ else colK [P, R] a (-1) 1 ^^^ _) = _
  rw [if_neg (by decide)]
  show colK [P, R] a (-1) 1 ^^^ R.getD a 0 = _
  unfold colK
  rw [if_neg (by decide)]
  show (0 ^^^ P.getD a 0) ^^^ R.getD a 0 = _
  rw [Nat.zero_xor]
theorem back_tog (B : Bk) : togL [B.par, togL B.rows B.par.length] B.par.length = backL B := by
  rw [tog_two _ _ _ (togL_len _ _) rfl]
  unfold backL
  refine List.map_congr_left fun a ha => ?_
  rw [togL_at _ _ _ (List.mem_range.1 ha)]
theorem back_len (B : Bk) : (backL B).length = B.par.length := by unfold backL; simp

set_option maxHeartbeats 4000000 in
theorem rebuild_any (p : Option Addr) (n c : Nat) (xs : List Value) (pp : Option Addr) (m cc : Nat) (B : Bk) (w : World) (h : Bn w p n c xs pp m cc B) :
    Calls Try.prog 65 #[.agg #[.slice p n c, .slice pp m cc, .int .i64 B.lost]] w fun e w' => Back w w' e n m (rebuildB B) (rebuildE B) := by
  have hcp := fun w' hb => copied_any p n c xs pp m cc B w' (h.below hb)
  obtain ⟨z, hz⟩ : ∃ z, z = B.lost := ⟨_, rfl⟩
  obtain ⟨r, hr⟩ : ∃ r, r = rightB B := ⟨_, rfl⟩
  rw [← hz] at hcp ⊢
  have HCP := Lib.hid hcp
  have HZ := Lib.hid hz
  have HR := Lib.hid hr
  have HH := Lib.hid h
  obtain ⟨B', hB'⟩ : ∃ B', B' = rebuildB B := ⟨_, rfl⟩
  obtain ⟨E, hE⟩ : ∃ E, E = rebuildE B := ⟨_, rfl⟩
  rw [← hB', ← hE]
  have HB' := Lib.hid hB'
  have HE := Lib.hid hE
  clear h hcp hz hr hB' hE
  go_enter Try.func65, Try.ntmps65
  go_wp2_with fail
  have HBA : Hid (Below w.heap.size w ((w.alloc (.cells #[.slice p n c, .slice pp m cc, .int .i64 z] 25)).alloc (.cells #[.slice none 0 0, .slice none 0 0, .int .i64 0] 25))) := Lib.hid (((Below.refl _ _).alloc (Nat.le_refl _) _).alloc (by simp) _)
  refine (HCP.out _ HBA.out).mono ?_
  rintro e w1 ⟨q, d, ys, qq, dd, rfl, ho, hb1⟩
  have HB1 : Hid (Below w.heap.size w w1) := Lib.hid (HBA.out.trans (hb1.mono HBA.out.size))
  have HRES : Hid (Blk w1 (w.heap.size + 1) #[.slice none 0 0, .slice none 0 0, .int .i64 0]) := Lib.hid (by simpa using Blk.track1 hb1)
  have HO : Hid (OwnB (w.heap.size + 2) w1 q n d ys qq m dd B) := Lib.hid (by simpa using ho)
  clear hb1 ho HBA HCP
  go_wp2_with fail
  have HKO : Hid (Blk (w1.alloc (.cells #[.slice q n d, .slice qq m dd, .int .i64 z] 25)) w1.heap.size #[.slice q n d, .slice qq m dd, .int .i64 z]) := Lib.hid (Blk.new _ _ _)
  have HOA := Lib.hid (HO.out.below ((Below.refl _ _).alloc (Nat.le_refl _) (.cells #[.slice q n d, .slice qq m dd, .int .i64 z] 25)))
  have HRA := Lib.hid (HRES.out.alloc (.cells #[.slice q n d, .slice qq m dd, .int .i64 z] 25))
  have HBA : Hid (Below w.heap.size w (w1.alloc (.cells #[.slice q n d, .slice qq m dd, .int .i64 z] 25))) := Lib.hid (HB1.out.alloc HB1.out.size _)
  have HNE : Hid (w.heap.size + 2 ≤ w1.heap.size) := Lib.hid (by have := HRES.out.lt; omega)
  have HUN : Hid (Under w1.heap.size q n d ys qq m dd) := Lib.hid HO.out.under
  have HOL : Hid (∀ j, j < n → ∀ g, (ys.getD j vz).ownBlock = some g → g < w1.heap.size) := Lib.hid (fun j hj g e => ((HO.out.own.fr j (by rw [HO.out.zn]; exact hj)).lt g e).2)
  obtain ⟨O, hO⟩ : ∃ O, O = w1.heap.size := ⟨_, rfl⟩
  obtain ⟨w2, hw2⟩ : ∃ w2, w2 = w1.alloc (.cells #[.slice q n d, .slice qq m dd, .int .i64 z] 25) := ⟨_, rfl⟩
  rw [← hw2] at HKO HOA HRA HBA ⊢
  rw [← hO] at HKO HNE HOL HUN ⊢
  clear hO hw2 HO HRES HB1
  have hhw := right_any q n d ys qq m dd B w2 HOA.out.bn
  rw [← HR.out, ← HZ.out] at hhw
  refine hhw.mono ?_
  clear hhw
  rintro e w3 ⟨rfl, hb3⟩
  have HK3 := Lib.hid (HKO.out.below hb3)
  have HO3 := Lib.hid (HOA.out.below hb3)
  have HR3 := Lib.hid (HRA.out.below hb3)
  have HB3 : Hid (Below w.heap.size w w3) := Lib.hid (HBA.out.trans (hb3.mono HBA.out.size))
  clear hb3 HKO HOA HRA HBA
  have cK := HK3.out.c
  have cR := HR3.out.c
  have fR := HR3.out.f
  have lR := HR3.out.lt
  cases r with
  | false =>
    have hB : B' = B := by rw [HB'.out]; unfold rebuildB; rw [← HR.out]; rfl
    have hE : E = 1 := by rw [HE.out]; unfold rebuildE; rw [← HR.out]; rfl
    subst hB hE
    go_wp2_with fail
    refine bodyPost_ret (v := .tuple #[.agg #[.slice q n d, .slice qq m dd, .int .i64 z], .int .i64 1]) (by simp [results, Try.results65, go_sem, *]) rfl ⟨q, d, ys, qq, dd, by rw [HZ.out], res3_own HO3.out _ _ _, res3_below HB3.out _ _ _⟩
  | true =>
    by_cases hz0 : z = 0
    · have hz0' : (z == 0) = true := by simpa using hz0
      have hB : B' = B := by rw [HB'.out]; unfold rebuildB; rw [← HR.out, if_pos rfl, if_pos (by rw [← HZ.out]; exact hz0)]
      have hE : E = 8 := by rw [HE.out]; unfold rebuildE; rw [← HR.out, if_pos rfl, if_pos (by rw [← HZ.out]; exact hz0)]
      subst hB hE
      clear hz0
      go_wp2_with fail
      refine bodyPost_ret (v := .tuple #[.agg #[.slice q n d, .slice qq m dd, .int .i64 z], .int .i64 8]) (by simp [results, Try.results65, go_sem, *]) rfl ⟨q, d, ys, qq, dd, by rw [HZ.out], res3_own HO3.out _ _ _, res3_below HB3.out _ _ _⟩
    · have hri := right_inv HR.out.symm
      rw [HH.out.zn, HH.out.zm, ← HZ.out] at hri
      obtain ⟨k, hk⟩ : ∃ k : Nat, z = (k : Int) + 1 := ⟨(z - 1).toNat, by omega⟩
      subst hk
      have hkn : k < n := by omega
      have hall := hri.2.2.2.2.1
      have hm1 : 1 ≤ m := hri.2.2.1
      have hB : B' = ⟨B.rows.set k (backL B), B.par, 0⟩ := by
        rw [HB'.out]; unfold rebuildB
        rw [← HR.out, if_pos rfl, if_neg (by rw [← HZ.out]; omega), ← HZ.out]
        congr 2
        omega
      have hE : E = 0 := by rw [HE.out]; unfold rebuildE; rw [← HR.out, if_pos rfl, if_neg (by rw [← HZ.out]; omega)]
      subst hE
      have hm := HH.out.m100
      have hn := HH.out.n100
      have hz0' : ((k : Int) + 1 == 0) = false := by simp; omega
      have e4 : (k : Int) + 1 - 1 = (k : Int) := by omega
      have wk : IntKind.i64.wrap (k : Int) = (k : Int) := by rw [IntKind.wrap_i64]; omega
      have hkI : (0 : Int) ≤ (k : Int) := by omega
      have hkI2 : (k : Int) < (n : Int) := by omega
      have HBP := Lib.hid hB
      have HALL := Lib.hid hall
      have hlk : (B.rows.getD k []).length = m := all_at hall k (by rw [HH.out.zn]; exact hkn)
      have HLK := Lib.hid hlk
      obtain ⟨g, gr, cr, rfl, hyj, hg0, hg1, _, _, _, hnd, _⟩ := HO3.out.rowAt hkn (by rw [hlk]; omega)
      have HG0 := Lib.hid hg0
      have HGO : Hid (g < O) := Lib.hid (HUN.out.head g rfl)
      clear hri hall hB hz0 hyj hg0 hg1 hlk
      go_upto_region 6 with fail
      go_wp2_with fail
      refine (together_any (some ⟨g, 0, none⟩) n d m ys B.rows w3 HO3.out.zn HO3.out.bn.rw_ hm HALL.out).mono ?_
      rintro e w4 ⟨go, rfl, hwd, hb4⟩
      have HBB : Hid (Below w3.heap.size w3 w4) := Lib.hid hb4
      have HK4 := Lib.hid (HK3.out.below hb4)
      have HO4 := Lib.hid (HO3.out.below hb4)
      have HR4 := Lib.hid (HR3.out.below hb4)
      have HB4 : Hid (Below w.heap.size w w4) := Lib.hid (HB3.out.trans (hb4.mono HB3.out.size))
      have HWD := Lib.hid hwd
      clear hb4 hwd HK3 HO3 HR3 HB3 cK cR fR lR
      go_upto_region 7 with fail
      have HNE4 : Hid (O < w4.heap.size) := Lib.hid HK4.out.lt
      obtain ⟨w5, hw5⟩ : ∃ w5, w5 = w4.drew.alloc (.cells #[.slice qq m dd, .slice (some ⟨go, 0, none⟩) m m] 23) := ⟨_, rfl⟩
      have HB5 : Hid (Below w4.heap.size w4 w5) := Lib.hid (by rw [hw5]; exact (Below.refl _ _).drew.alloc (Nat.le_refl _) _)
      have HN5 : Hid (Blk w5 w4.heap.size #[.slice qq m dd, .slice (some ⟨go, 0, none⟩) m m]) := Lib.hid (by rw [hw5]; exact Blk.new w4.drew _ _)
      have HP5 := Lib.hid ((HO4.out.below HB5.out).bn)
      have HW5 := Lib.hid (HWD.out.below HB5.out)
      have HRW5 : Hid (Rw w5 (some ⟨w4.heap.size, 0, none⟩) [.slice qq m dd, .slice (some ⟨go, 0, none⟩) m m] [B.par, togL B.rows m]) := Lib.hid ⟨rfl, fun _ => ⟨_, 0, HN5.out.lt, rfl, fun j hj => by rw [Nat.zero_add, HN5.out.c]; simp⟩, fun j hj => by
        have : j = 0 ∨ j = 1 := by simp at hj; omega
        rcases this with rfl | rfl
        · exact ⟨qq, dd, by show Value.slice qq m dd = .slice qq B.par.length dd; rw [HH.out.zm], by show B.par.length ≤ dd; rw [HH.out.zm]; exact HP5.out.cm, HP5.out.nm⟩
        · exact ⟨some ⟨go, 0, none⟩, m, by show Value.slice _ m m = .slice _ (togL B.rows m).length m; rw [togL_len], by show (togL B.rows m).length ≤ m; rw [togL_len]; exact Nat.le_refl _, HW5.out.nm⟩, by simp, fun l hl => by
        rcases List.mem_cons.1 hl with rfl | hl
        · rw [HH.out.zm]; exact hm
        · rw [List.mem_singleton.1 hl, togL_len]; exact hm⟩
      have HALL5 : Hid (allB [B.par, togL B.rows m] m = true) := Lib.hid (by unfold allB; simp [HH.out.zm, togL_len])
      refine region_plan (fun w' : World => (∀ j, w'.cell? ⟨O, j, none⟩ = (#[.slice (some ⟨g, 0, none⟩) n d, .slice qq m dd, .int .i64 ((k : Int) + 1)] : Array Value)[j]?) ∧ Below w4.heap.size w4 w') 14 [(0, true), (1, true), (2, true), (3, true), (4, true), (5, true), (6, true), (7, true), (9, true), (10, true), (11, true), (8, false), (12, false), (13, true)] (by kernel_rfl) (by kernel_rfl) (sOf HK4 ((Below.refl _ _).drew)) ?_
      iterate 11
        refine plan_read (v := ?_) rfl (by rfl) ?_ ?_
        rotate_left
        · intro w' hS
          try dsimp only at hS
          go_simp
          try with_reducible rfl
        try simp only [Act.put, List.setIfInBounds_toArray, List.set_cons_zero, List.set_cons_succ, List.getElem_toArray, List.getElem_cons_zero, List.getElem_cons_succ]
      refine plan_make (v := .slice (some ⟨w4.heap.size, 0, none⟩) 2 2) (w1 := w5) rfl (by rfl) (by rw [hw5]; go_simp) (sOf HK4 HB5.out) ?_
      try simp only [Act.put, List.setIfInBounds_toArray, List.set_cons_zero, List.set_cons_succ, List.getElem_toArray, List.getElem_cons_zero, List.getElem_cons_succ]
      refine plan_call (F := 91) (args := ?_) rfl (by rfl) ?_ ?_
      rotate_left
      · go_simp
        rfl
      refine (together_any (some ⟨w4.heap.size, 0, none⟩) 2 2 m _ [B.par, togL B.rows m] w5 rfl HRW5.out hm HALL5.out).mono ?_
      rintro e w6 ⟨g9, rfl, hwd, hb6⟩
      have HB6 : Hid (Below w4.heap.size w4 w6) := Lib.hid (HB5.out.trans (hb6.mono HB5.out.size))
      have HW6 := Lib.hid hwd
      clear hwd hb6
      refine ⟨_, rfl, sOf HK4 HB6.out, ?_⟩
      try simp only [Act.put, List.setIfInBounds_toArray, List.set_cons_zero, List.set_cons_succ, List.getElem_toArray, List.getElem_cons_zero, List.getElem_cons_succ]
      iterate 1
        refine plan_read (v := ?_) rfl (by rfl) ?_ ?_
        rotate_left
        · intro w' hS
          try dsimp only at hS
          go_simp
          try with_reducible rfl
        try simp only [Act.put, List.setIfInBounds_toArray, List.set_cons_zero, List.set_cons_succ, List.getElem_toArray, List.getElem_cons_zero, List.getElem_cons_succ]
      refine plan_nil ?_
      simp only [List.drop_succ_cons, List.drop_zero]
      have HO6 := Lib.hid (HO4.out.below HB6.out)
      have HK6 := Lib.hid (HK4.out.below HB6.out)
      have HR6 := Lib.hid (HR4.out.below HB6.out)
      have HBW : Hid (Below w.heap.size w w6) := Lib.hid (HB4.out.trans (HB6.out.mono HB4.out.size))
      have hcg6 : ∃ u, w6.cell? ⟨g, k, none⟩ = some u := by
        obtain ⟨g', gr', cr', he, _, _, _, _, _, _, _, hcg7, _⟩ := HO6.out.rowAt hkn (by rw [HLK.out]; omega)
        injection he with he
        injection he with he
        subst he
        exact ⟨_, hcg7⟩
      obtain ⟨u6, hu6⟩ := hcg6
      have hf6 : w6.frozen? ⟨g, k, none⟩ = false := by
        obtain ⟨g', gr', cr', he, _, _, _, _, _, _, _, _, hf7, _⟩ := HO6.out.rowAt hkn (by rw [HLK.out]; omega)
        injection he with he
        injection he with he
        subst he
        exact hf7
      go_upto_region 8 with fail
      obtain ⟨w7, hw7⟩ : ∃ w7, w7 = w6.setCell ⟨g, k, none⟩ (.slice (some ⟨g9, 0, none⟩) m m) := ⟨_, rfl⟩
      have HO7 : Hid (OwnB (w.heap.size + 2) w7 (some ⟨g, 0, none⟩) n d (ys.set k (.slice (some ⟨g9, 0, none⟩) m m)) qq m dd ⟨B.rows.set k (backL B), B.par, B.lost⟩) := Lib.hid (by
        have hr := HW6.out.row
        have hl := HW6.out.len
        have hlt := HW6.out.lt
        have ht : togL [B.par, togL B.rows m] m = backL B := by rw [← HH.out.zm]; exact back_tog B
        rw [ht] at hr hl hlt
        rw [hw7]
        refine HO6.out.putRow HUN.out hkn rfl HNE.out ?_ (by rw [hl]; exact hm) hlt
        rw [hl]
        exact own_base hr (by have := HNE4.out; have := HB5.out.size; omega))
      have HU7 : Hid (Under (w6.heap.size) (some ⟨g, 0, none⟩) n d (ys.set k (.slice (some ⟨g9, 0, none⟩) m m)) qq m dd) := Lib.hid (by
        have := HO7.out.under
        rw [hw7, size_set] at this
        exact this)
      have HK7 : Hid (Blk w7 O #[.slice (some ⟨g, 0, none⟩) n d, .slice qq m dd, .int .i64 ((k : Int) + 1)]) := Lib.hid (by rw [hw7]; exact HK6.out.other _ (by have := HGO.out; omega))
      have HR7 : Hid (Blk w7 (w.heap.size + 1) #[.slice none 0 0, .slice none 0 0, .int .i64 0]) := Lib.hid (by rw [hw7]; exact HR6.out.other _ (by have := HG0.out; omega))
      have HB7 : Hid (Below w.heap.size w w7) := Lib.hid (by rw [hw7]; exact HBW.out.setCell (p := ⟨g, k, none⟩) (by show w.heap.size ≤ g; have := HG0.out; omega) _)
      have HG9 : Hid (O < g9) := Lib.hid (by have := HW6.out.ge.1; have := HB5.out.size; have := HNE4.out; omega)
      rw [← hw7]
      clear hw7 hu6 hf6 HO6 HK6 HR6 HBW HW6
      have cK := HK7.out.c
      have fK := HK7.out.f
      have lK := HK7.out.lt
      go_upto_region 9 with fail
      obtain ⟨w8, hw8⟩ : ∃ w8, w8 = w7.setCell ⟨O, 2, none⟩ (.int .i64 0) := ⟨_, rfl⟩
      have HO8 : Hid (OwnB (w.heap.size + 2) w8 (some ⟨g, 0, none⟩) n d (ys.set k (.slice (some ⟨g9, 0, none⟩) m m)) qq m dd B') := Lib.hid (by
        rw [hw8, HBP.out]
        have hh := HO7.out
        refine (OwnB.lost (B := ⟨B.rows.set k (backL B), B.par, B.lost⟩) ?_ 0)
        refine ⟨hh.zn, hh.own.off (fun b e => ?_) (fun i hi b e => ?_) 2 _, hh.zm, own_off hh.par (fun b e => ?_) 2 _, hh.plt, hh.rlt, hh.n100, hh.l100, hh.m100, hh.sep1, hh.sep2⟩
        · have := HUN.out.head b e; omega
        · rw [getD_set ys vz _ k i (by have := HO4.out.own.row.1; rw [Nat.mul_one, HO4.out.zn] at this; omega)] at e
          by_cases h1 : i = k
          · rw [if_pos h1] at e
            have e' : some g9 = some b := e
            injection e' with e'
            have := HG9.out
            omega
          · rw [if_neg h1] at e
            have hin : i < n := by have := hh.zn; omega
            have := HUN.out.rows i hin b e
            omega
        · have := HUN.out.par b e; omega)
      have HK8 : Hid (Blk w8 O #[.slice (some ⟨g, 0, none⟩) n d, .slice qq m dd, .int .i64 0]) := Lib.hid (by rw [hw8]; exact HK7.out.set (n := 2) _ (by simp))
      have HR8 : Hid (Blk w8 (w.heap.size + 1) #[.slice none 0 0, .slice none 0 0, .int .i64 0]) := Lib.hid (by rw [hw8]; exact HR7.out.other _ (by have := HNE.out; omega))
      have HB8 : Hid (Below w.heap.size w w8) := Lib.hid (by rw [hw8]; exact HB7.out.setCell (p := ⟨O, 2, none⟩) (by show w.heap.size ≤ O; have := HNE.out; omega) _)
      have HLB : Hid (B'.lost = 0) := Lib.hid (by rw [HBP.out])
      rw [← hw8]
      clear hw8 cK fK lK HK7 HO7 HR7 HB7
      have k8 := HK8.out.c
      have cR := HR8.out.c
      have fR := HR8.out.f
      have lR := HR8.out.lt
      go_wp2_with fail
      refine bodyPost_ret (v := .tuple #[.agg #[.slice (some ⟨g, 0, none⟩) n d, .slice qq m dd, .int .i64 0], .int .i64 0]) (by simp [results, Try.results65, go_sem, *]) rfl ⟨_, d, _, _, dd, by rw [HLB.out], res3_own HO8.out _ _ _, res3_below HB8.out _ _ _⟩
end Go.Proofs.Ytflakmabciokbaa
/- What New answers; no condition. -/
namespace Go.Proofs.Ytflakmabciokbaa
set_option linter.unusedVariables false
open Go.ChangeShapes Go.WideShapes Go.ChangeAt Go.RowKit

/-- Banks that are handed out: in memory of one's own, beside a number. -/
def Out (w w' : World) (e : Ending) (B : Bk) (E : Int) : Prop := ∃ p n c ys pp m cc, e = .returned (.tuple #[.agg #[.slice p n c, .slice pp m cc, .int .i64 B.lost], .int .i64 E]) ∧ OwnB w.heap.size w' p n c ys pp m cc B ∧ Below w.heap.size w w'
theorem Back.out {w w' : World} {e : Ending} {n m : Nat} {B : Bk} {E : Int} (h : Back w w' e n m B E) : Out w w' e B E := by
  obtain ⟨p, c, ys, pp, cc, h1, h2, h3⟩ := h
  exact ⟨p, n, c, ys, pp, m, cc, h1, h2, h3⟩
theorem OwnB.none (base : Nat) (w : World) (z : Int) : OwnB base w none 0 0 [] none 0 0 ⟨[], [], z⟩ :=
  ⟨rfl, ⟨World.ownsRow_nil _ _ _ _, fun _ h => absurd h (Nat.not_lt_zero _), fun _ h => absurd h (Nat.not_lt_zero _), fun _ _ h => absurd h (Nat.not_lt_zero _), fun _ _ => rfl⟩, rfl, World.ownsRow_nil _ _ _ _, fun _ h => (by cases h), fun _ h => (by cases h), by decide, fun _ h => (by cases h), by decide, fun _ h => (by cases h), fun _ h => absurd h (Nat.not_lt_zero _)⟩

set_option maxHeartbeats 4000000 in
theorem new_any (n m : Int) (w : World) : Calls Try.prog 53 #[.int .i64 n, .int .i64 m] w fun e w' => Out w w' e (newB n m) (newE n m) := by
  obtain ⟨r, hr⟩ : ∃ r, r = mayN n m := ⟨_, rfl⟩
  have hmay := may_any n m
  rw [← hr] at hmay
  have HM := Lib.hid hmay
  have HR := Lib.hid hr
  clear hmay hr
  cases r with
  | false =>
    have hB : newB n m = ⟨[], [], 0⟩ := by unfold newB; rw [← HR.out]; rfl
    have hE : newE n m = 1 := by unfold newE; rw [← HR.out]; rfl
    rw [hB, hE]
    clear hB hE
    go_enter Try.func53, Try.ntmps53
    go_wp2_with (first | (go_at_call 87; refine (HM.out _).mono ?_; rintro e w' ⟨rfl, rfl⟩))
    refine bodyPost_ret (v := .tuple #[.agg #[.slice none 0 0, .slice none 0 0, .int .i64 0], .int .i64 1]) (by simp [results, Try.results53, go_sem, *]) rfl ⟨none, 0, 0, [], none, 0, 0, rfl, OwnB.none _ _ _, ?_⟩
    exact (Below.refl _ _).alloc (Nat.le_refl _) _
  | true =>
    have hin := may_inv HR.out.symm
    have hB : newB n m = ⟨List.replicate n.toNat (List.replicate m.toNat 0), List.replicate m.toNat 0, 0⟩ := by unfold newB; rw [← HR.out]; rfl
    have hE : newE n m = 0 := by unfold newE; rw [← HR.out]; rfl
    rw [hB, hE]
    clear hB hE
    obtain ⟨N, rfl⟩ := Int.eq_ofNat_of_zero_le (show 0 ≤ n by omega)
    obtain ⟨M, rfl⟩ := Int.eq_ofNat_of_zero_le (show 0 ≤ m by omega)
    simp only [Int.toNat_natCast]
    have hN1 : 1 ≤ N := by omega
    have hN8 : N ≤ 8 := by omega
    have hM1 : 1 ≤ M := by omega
    have hM64 : M ≤ 64 := by omega
    clear hin
    obtain ⟨i6, hi6, hz60, hz61, hz62⟩ := info_parts info26
    have HI6 := Lib.hid (And.intro hi6 (And.intro hz60 (And.intro hz61 hz62)))
    obtain ⟨i3, hi3, hz30, hz31, hz32⟩ := info_parts info23
    have HI3 := Lib.hid (And.intro hi3 (And.intro hz30 (And.intro hz31 hz32)))
    clear hi6 hz60 hz61 hz62 hi3 hz30 hz31 hz32
    obtain ⟨L, hL⟩ : ∃ L, L = List.replicate N (List.replicate M 0) := ⟨_, rfl⟩
    rw [← hL]
    have HL := Lib.hid hL
    have HLL : Hid (L.length = N) := Lib.hid (by rw [hL, List.length_replicate])
    have HLD : Hid (∀ k, k < N → L.getD k [] = List.replicate M 0) := Lib.hid (fun k hk => by rw [hL]; exact getD_rep _ _ _ _ hk)
    clear hL
    go_enter Try.func53, Try.ntmps53
    go_upto_region 3 with (first | (go_at_call 87; refine (HM.out _).mono ?_; rintro e w' ⟨rfl, rfl⟩))
    have HK0 : Hid (Blk (w.alloc (.cells #[.slice none 0 0, .slice none 0 0, .int .i64 0] 25)) w.heap.size #[.slice none 0 0, .slice none 0 0, .int .i64 0]) := Lib.hid (Blk.new _ _ _)
    have HB0 : Hid (Below w.heap.size w (w.alloc (.cells #[.slice none 0 0, .slice none 0 0, .int .i64 0] 25))) := Lib.hid ((Below.refl _ _).alloc (Nat.le_refl _) _)
    obtain ⟨w0, hw0⟩ : ∃ w0, w0 = w.alloc (.cells #[.slice none 0 0, .slice none 0 0, .int .i64 0] 25) := ⟨_, rfl⟩
    have HSZ : Hid (w0.heap.size = w.heap.size + 1) := Lib.hid (by rw [hw0]; exact World.size_alloc _ _)
    rw [← hw0] at HK0 HB0 ⊢
    clear hw0
    go_upto_region 4 with (first | (refine wpList_make_full _ rfl _ _ 22 rfl (w.heap.size + 1) 23 i3 (.slice none 0 0) 1 Try.underlying22 HI3.out.1 HI3.out.2.1 HI3.out.2.2.1 .i64 .i64 N N N rfl rfl rfl rfl (by rw [HI3.out.2.2.2]; omega) (by unfold maxLen; omega) (Nat.le_of_eq HSZ.out.symm) ?_))
    intro w1 g1 g2
    have hm1 : (madeCells #[Value.slice none 0 0] N).toList = List.replicate N (.slice none 0 0) := toList_madeCells_one _ _
    rw [hm1] at g1
    have HB1 : Hid (Below w0.heap.size w0 w1) := Lib.hid ((Below.refl _ _).grown g2 (Nat.le_refl _) (fun k hk => by cases hk))
    have HK1 := Lib.hid (HK0.out.below HB1.out)
    obtain ⟨g, hg⟩ : ∃ g, g = w0.heap.size := ⟨_, rfl⟩
    rw [← hg] at g1
    have HO1 : Hid (OwnK (w.heap.size + 1) w1 (.slice (some ⟨g, 0, none⟩) L.length N) (List.replicate N (.slice none 0 0)) (List.replicate N (.slice none 0 0)) L 0) := Lib.hid (OwnK.begin (by rw [HLL.out]; exact g1))
    have HBW : Hid (Below w.heap.size w w1) := Lib.hid (HB0.out.trans (HB1.out.mono HB0.out.size))
    have HG : Hid (g = w.heap.size + 1) := Lib.hid (by rw [hg, HSZ.out])
    rw [← hg]
    clear g1 g2 hm1 hg HB0 HB1 HK0 HSZ
    go_wp2_with fail
    go_loopw [17] (fun s wr => ∃ k : Nat, k ≤ N ∧ s = .int .i64 k ∧ (∃ ys, OwnK (w.heap.size + 1) wr (.slice (some ⟨g, 0, none⟩) L.length N) (List.replicate N (.slice none 0 0)) ys L k) ∧ Blk wr w.heap.size #[.slice none 0 0, .slice none 0 0, .int .i64 0] ∧ Below w.heap.size w wr) (fun s _ => N - (intOf s).toNat)
    case atStart => exact ⟨0, Nat.zero_le _, rfl, ⟨_, HO1.out⟩, HK1.out, HBW.out⟩
    case round =>
      obtain ⟨k, hk, rfl, ⟨ys, ho⟩, hkr, hb⟩ := hrel
      clear HO1 HK1 HBW
      have HO := Lib.hid ho
      have HK := Lib.hid hkr
      have HB := Lib.hid hb
      clear ho hkr hb
      have hgs : g < wr.heap.size := (HO.out.row.lt g rfl).2
      have HGS := Lib.hid hgs
      clear hgs
      by_cases hlt : k < N
      · have hltI : decide ((k : Int) < N) = true := decide_eq_true (by omega)
        go_wp2_with (first | (refine wpList_make_full _ rfl _ _ 23 rfl wr.heap.size 29 i6 (.int .u32 0) 1 Try.underlying23 HI6.out.1 HI6.out.2.1 HI6.out.2.2.1 .i64 .i64 M M M rfl rfl rfl rfl (by rw [HI6.out.2.2.2]; omega) (by unfold maxLen; omega) (Nat.le_refl _) ?_))
        intro w2 g1 g2
        have HB2 : Hid (Below wr.heap.size wr w2) := Lib.hid ((Below.refl _ _).grown g2 (Nat.le_refl _) (fun k hk => by cases hk))
        have HW2 := Lib.hid (Wd.made g1)
        have HO2 := Lib.hid (HO.out.step (r := .slice (some ⟨wr.heap.size, 0, none⟩) M M) (by rw [HLL.out]; exact hlt) (by have := HGS.out; have := HG.out; omega) HB2.out (by rw [HLD.out k hlt, List.length_replicate]; exact HW2.out.row))
        have HOB := Lib.hid (HO.out.below HB2.out)
        have hcg : ∃ u, w2.cell? ⟨g, k, none⟩ = some u := by
          have hr := HOB.out.row
          exact ⟨_, by rw [hr.cellAt k (by rw [HLL.out]; omega)]; exact List.getElem?_eq_getElem (by rw [hr.1, HLL.out]; omega)⟩
        obtain ⟨u2, hu2⟩ := hcg
        have hf2 : w2.frozen? ⟨g, k, none⟩ = false := HOB.out.row.frozenAt k
        have HK2 := Lib.hid ((HK.out.below HB2.out).other (B' := g) (n := k) (.slice (some ⟨wr.heap.size, 0, none⟩) M M) (by have := HG.out; omega))
        have HBB := Lib.hid ((HB.out.trans (HB2.out.mono HB.out.size)).setCell (p := ⟨g, k, none⟩) (by show w.heap.size ≤ g; have := HG.out; omega) (.slice (some ⟨wr.heap.size, 0, none⟩) M M))
        clear g1 g2
        go_wp2_with fail
        go_roundw
        case rel => exact ⟨k + 1, by omega, by go_num, ⟨_, HO2.out⟩, HK2.out, HBB.out⟩
        case measure => simp [intOf]; omega
      · have hltI : decide ((k : Int) < N) = false := decide_eq_false (by omega)
        have hkn : k = L.length := by rw [HLL.out]; omega
        have HOD := Lib.hid (OwnK.done (hkn ▸ HO.out))
        clear hkn
        go_wp2_with (first | (refine wpList_make_full _ rfl _ _ 23 rfl wr.heap.size 29 i6 (.int .u32 0) 1 Try.underlying23 HI6.out.1 HI6.out.2.1 HI6.out.2.2.1 .i64 .i64 M M M rfl rfl rfl rfl (by rw [HI6.out.2.2.2]; omega) (by unfold maxLen; omega) (Nat.le_refl _) ?_))
        intro w2 g1 g2
        have HB2 : Hid (Below wr.heap.size wr w2) := Lib.hid ((Below.refl _ _).grown g2 (Nat.le_refl _) (fun k hk => by cases hk))
        have HW2 := Lib.hid (Wd.made g1)
        have HOF : Hid (OwnB (w.heap.size + 1) w2 (some ⟨g, 0, none⟩) N N ys (some ⟨wr.heap.size, 0, none⟩) M M ⟨L, List.replicate M 0, 0⟩) := Lib.hid (by
          have hod := HOD.out.below HB2.out
          rw [HLL.out] at hod
          refine ⟨HLL.out, hod, by simp, own_base HW2.out.row (by have := HGS.out; have := HG.out; omega), rep_lt M, fun l hl => ?_, by omega, fun l hl => ?_, by omega, fun b e1 e2 => ?_, fun i hi b e1 e2 => ?_⟩
          · rw [HL.out] at hl; rw [(List.mem_replicate.1 hl).2]; exact rep_lt M
          · rw [HL.out] at hl; rw [(List.mem_replicate.1 hl).2, List.length_replicate]; omega
          · have h1 : some wr.heap.size = some b := e1
            have h2 : some g = some b := e2
            injection h1 with h1
            injection h2 with h2
            have := HGS.out
            omega
          · have h1 : some wr.heap.size = some b := e1
            injection h1 with h1
            have := ((HO.out.fr i (by rw [HLL.out] at *; omega)).lt b e2).2
            omega)
        have HK2 := Lib.hid (HK.out.below HB2.out)
        have HBB : Hid (Below w.heap.size w w2) := Lib.hid (HB.out.trans (HB2.out.mono HB.out.size))
        have cR := HK2.out.c
        have fR := HK2.out.f
        have lR := HK2.out.lt
        clear g1 g2
        go_wp2_with fail
        refine bodyPost_ret (v := .tuple #[.agg #[.slice (some ⟨g, 0, none⟩) N N, .slice (some ⟨wr.heap.size, 0, none⟩) M M, .int .i64 0], .int .i64 0]) (by simp [results, Try.results53, go_sem, *]) rfl ⟨_, N, N, ys, _, M, M, rfl, ?_, ?_⟩
        · exact (((HOF.out.setOff (by omega) 0 _).setOff (by omega) 1 _).setOff (by omega) 2 _).mono (by omega)
        · exact ((HBB.out.setCell (p := ⟨w.heap.size, 0, none⟩) (Nat.le_refl _) _).setCell (p := ⟨w.heap.size, 1, none⟩) (Nat.le_refl _) _).setCell (p := ⟨w.heap.size, 2, none⟩) (Nat.le_refl _) _
end Go.Proofs.Ytflakmabciokbaa
/- What the document's own column is, and its Right, has and Read; no condition but that the banks read. -/
namespace Go.Proofs.Ytflakmabciokbaa
set_option linter.unusedVariables false
open Go.ChangeShapes Go.WideShapes Go.ChangeAt Go.RowKit

set_option maxHeartbeats 1000000 in
theorem column_any (p : Option Addr) (n c m a : Nat) (but : Int) (xs : List Value) (L : List (List Nat)) (w : World) (hz : L.length = n) (h : Rw w p xs L) (hall : allB L m = true) (ha : a < m) :
    Calls Try.prog 68 #[.slice p n c, .int .i64 a, .int .i64 but] w fun e w' => e = .returned (.int .u32 (colX L a but : Nat)) ∧ w = w' := by
  have HZ := Lib.hid hz
  have HP := Lib.hid h
  have HA := Lib.hid hall
  have hn : n ≤ 100 := by rw [← hz]; exact h.n100
  obtain ⟨r, hr⟩ : ∃ r, r = colX L a but := ⟨_, rfl⟩
  rw [← hr]
  have HR := Lib.hid hr
  clear h hz hall hr
  go_enter Try.func68, Try.ntmps68
  go_wp2
  go_loop [7, 8] (fun s i => ∃ k : Nat, k ≤ n ∧ i = .int .i64 k ∧ ∃ v : Nat, s = .int .u32 v ∧ Hid (v = colK L a but k)) (fun _ i => n - (intOf i).toNat)
  case atStart => exact ⟨0, Nat.zero_le _, rfl, 0, rfl, Lib.hid rfl⟩
  case round =>
    obtain ⟨k, hk, rfl, v, rfl, hv⟩ := hrel
    by_cases hlt : k < n
    · have hltI : decide ((k : Int) < n) = true := decide_eq_true (by omega)
      have hltk : k < L.length := by rw [HZ.out]; exact hlt
      by_cases hb : (k : Int) = but
      · have e0 : ((k : Int) != but) = false := by simp; exact hb
        have HV : Hid (v = colK L a but (k + 1)) := Lib.hid (by
          rw [hv.out]
          conv => rhs; unfold colK
          rw [if_pos hb])
        clear hb hv
        go_wp2
        go_round
        case rel => exact ⟨k + 1, by omega, by go_num, v, rfl, HV⟩
        case measure => simp [intOf]; omega
      · have e0 : ((k : Int) != but) = true := by simp; exact hb
        obtain ⟨b, off, q, x, c2, rfl, hrow⟩ := HP.out.rowAt k hltk
        have hck := hrow.cell
        have hxm : x = m := by rw [← hrow.len]; exact all_at HA.out k hltk
        subst hxm
        obtain ⟨b2, off2, hb2l, hq, hcr⟩ := hrow.nm.cellAt a (by rw [hrow.len]; exact ha)
        subst hq
        have hr32 := hrow.nm.getD_lt a
        have hv32 : v < 4294967296 := by rw [hv.out]; exact colK_lt L a but HP.out.lt k (by omega)
        obtain ⟨y, hy⟩ : ∃ y, y = (L.getD k []).getD a 0 := ⟨_, rfl⟩
        rw [← hy] at hcr hr32
        have hxor : bits .xor .u32 (v : Int) (y : Int) = ((v ^^^ y : Nat) : Int) := u32_xor_nat v y (by omega) (by omega)
        have HV : Hid (v ^^^ y = colK L a but (k + 1)) := Lib.hid (by
          rw [hv.out, hy]
          conv => rhs; unfold colK
          rw [if_neg hb])
        clear hb hv hy hb2l hrow
        go_wp2
        go_round
        case rel => exact ⟨k + 1, by omega, by go_num, v ^^^ y, rfl, HV⟩
        case measure => simp [intOf]; omega
    · have hltI : decide ((k : Int) < n) = false := decide_eq_false (by omega)
      have hkn : k = n := by omega
      have he : v = r := by rw [hv.out, HR.out, hkn]; unfold colX; rw [HZ.out]
      subst he
      clear hv hkn
      go_wp2
      go_ret
      exact ⟨rfl, rfl⟩
end Go.Proofs.Ytflakmabciokbaa
/- What the document's own Right is; no condition but that the banks read. -/
namespace Go.Proofs.Ytflakmabciokbaa
set_option linter.unusedVariables false
open Go.ChangeShapes Go.WideShapes Go.ChangeAt Go.RowKit

theorem right_eq {B : Bk} {n m : Nat} (hn : B.rows.length = n) (hm : B.par.length = m) : rightB B = (decide (1 ≤ n ∧ n ≤ 8 ∧ 1 ≤ m ∧ m ≤ 64 ∧ 0 ≤ B.lost ∧ B.lost ≤ n) && (allB B.rows m && fineB B)) := by
  unfold rightB sizedB mayN
  rw [hn, hm]
  by_cases h1 : 1 ≤ n ∧ n ≤ 8 ∧ 1 ≤ m ∧ m ≤ 64
  · rw [decide_eq_true (show (1 ≤ (n : Int) ∧ (n : Int) ≤ 8 ∧ 1 ≤ (m : Int) ∧ (m : Int) ≤ 64) by omega), Bool.true_and]
    by_cases h2 : 0 ≤ B.lost ∧ B.lost ≤ n
    · rw [decide_eq_true h2, decide_eq_true (show 1 ≤ n ∧ n ≤ 8 ∧ 1 ≤ m ∧ m ≤ 64 ∧ 0 ≤ B.lost ∧ B.lost ≤ n by omega), Bool.true_and, Bool.true_and]
    · rw [decide_eq_false h2, decide_eq_false (show ¬ (1 ≤ n ∧ n ≤ 8 ∧ 1 ≤ m ∧ m ≤ 64 ∧ 0 ≤ B.lost ∧ B.lost ≤ n) by omega), Bool.false_and, Bool.false_and, Bool.and_false]
  · rw [decide_eq_false (show ¬ (1 ≤ (n : Int) ∧ (n : Int) ≤ 8 ∧ 1 ≤ (m : Int) ∧ (m : Int) ≤ 64) by omega), decide_eq_false (show ¬ (1 ≤ n ∧ n ≤ 8 ∧ 1 ≤ m ∧ m ≤ 64 ∧ 0 ≤ B.lost ∧ B.lost ≤ n) by omega), Bool.false_and, Bool.false_and, Bool.false_and]
theorem right_no {B : Bk} {n m : Nat} (hn : B.rows.length = n) (hm : B.par.length = m) (h : ¬ (1 ≤ n ∧ n ≤ 8 ∧ 1 ≤ m ∧ m ≤ 64 ∧ 0 ≤ B.lost ∧ B.lost ≤ n)) : rightB B = false := by
  rw [right_eq hn hm, decide_eq_false h, Bool.false_and]
/-- Whether a column is fine. -/
def colOk (B : Bk) (a : Nat) : Prop := if B.lost = 0 then colX B.rows a (-1) = B.par.getD a 0 else (B.rows.getD (B.lost - 1).toNat []).getD a 0 = 0
theorem fine_of {B : Bk} {m : Nat} (hm : B.par.length = m) (hall : allB B.rows m = true) (hl : 0 ≤ B.lost ∧ B.lost ≤ B.rows.length) (h : ∀ a, a < m → colOk B a) : fineB B = true := by
  unfold fineB
  by_cases h0 : B.lost = 0
  · rw [if_pos h0, decide_eq_true_eq]
    refine ext_getD (by rw [togL_len]) fun a ha => ?_
    rw [hm] at ha ⊢
    have := h a ha
    unfold colOk at this
    rw [if_pos h0] at this
    rw [togL_at _ _ _ ha, this]
  · rw [if_neg h0]
    refine zero_of fun a ha => ?_
    rw [all_at hall _ (by omega)] at ha
    have := h a ha
    unfold colOk at this
    rwa [if_neg h0] at this
theorem fine_no {B : Bk} {m a : Nat} (hm : B.par.length = m) (ha : a < m) (h : ¬ colOk B a) : fineB B = false := by
  cases hf : fineB B with
  | false => rfl
  | true =>
    exfalso
    apply h
    unfold colOk
    unfold fineB at hf
    by_cases h0 : B.lost = 0
    · rw [if_pos h0] at hf ⊢
      rw [decide_eq_true_eq, hm] at hf
      conv => rhs; rw [hf]
      rw [togL_at _ _ _ ha]
    · rw [if_neg h0] at hf ⊢
      exact zero_inv hf a

set_option maxHeartbeats 4000000 in
theorem rright_any (p : Option Addr) (n c : Nat) (xs : List Value) (pp : Option Addr) (m cc : Nat) (B : Bk) (w : World) (h : Bn w p n c xs pp m cc B) :
    Calls Try.prog 57 #[.agg #[.slice p n c, .slice pp m cc, .int .i64 B.lost]] w fun e w' => e = .returned (.bool (rightB B)) ∧ Below w.heap.size w w' := by
  have hm := h.m100
  have hn := h.n100
  have HH := Lib.hid h
  obtain ⟨r, hr⟩ : ∃ r, r = rightB B := ⟨_, rfl⟩
  obtain ⟨z, hz⟩ : ∃ z, z = B.lost := ⟨_, rfl⟩
  rw [← hr, ← hz]
  have HR := Lib.hid hr
  have HZ := Lib.hid hz
  have HNO : Hid (¬ (1 ≤ n ∧ n ≤ 8 ∧ 1 ≤ m ∧ m ≤ 64 ∧ 0 ≤ z ∧ z ≤ n) → r = false) := Lib.hid (fun hh => by rw [hr]; exact right_no h.zn h.zm (by rw [← hz]; exact hh))
  have HB0 : Hid (Below w.heap.size w (w.alloc (.cells #[.slice p n c, .slice pp m cc, .int .i64 z] 25))) := Lib.hid ((Below.refl _ _).alloc (Nat.le_refl _) _)
  have HK0 : Hid (Blk (w.alloc (.cells #[.slice p n c, .slice pp m cc, .int .i64 z] 25)) w.heap.size #[.slice p n c, .slice pp m cc, .int .i64 z]) := Lib.hid (Blk.new _ _ _)
  clear h hr hz
  go_enter Try.func57, Try.ntmps57
  by_cases h1 : n = 0
  · subst h1
    have hf := HNO.out (by omega)
    subst hf
    go_wp2_with fail
    go_ret
    exact ⟨rfl, HB0.out⟩
  have d1 : ((n : Int) == 0) = false := by simp; exact h1
  by_cases h2 : 8 < n
  · have hf := HNO.out (by omega)
    subst hf
    have d2 : decide ((8 : Int) < (n : Int)) = true := decide_eq_true (by omega)
    clear h1 h2
    go_wp2_with fail
    go_ret
    exact ⟨rfl, HB0.out⟩
  have d2 : decide ((8 : Int) < (n : Int)) = false := decide_eq_false (by omega)
  by_cases h3 : m = 0
  · subst h3
    have hf := HNO.out (by omega)
    subst hf
    clear h1 h2
    go_wp2_with fail
    go_ret
    exact ⟨rfl, HB0.out⟩
  have d3 : ((m : Int) == 0) = false := by simp; exact h3
  by_cases h4 : 64 < m
  · have hf := HNO.out (by omega)
    subst hf
    have d4 : decide ((64 : Int) < (m : Int)) = true := decide_eq_true (by omega)
    clear h1 h2 h3 h4
    go_wp2_with fail
    go_ret
    exact ⟨rfl, HB0.out⟩
  have d4 : decide ((64 : Int) < (m : Int)) = false := decide_eq_false (by omega)
  by_cases h5 : z < 0
  · have hf := HNO.out (by omega)
    subst hf
    have d5 : decide (z < 0) = true := decide_eq_true (by omega)
    clear h1 h2 h3 h4 h5
    go_wp2_with fail
    go_ret
    exact ⟨rfl, HB0.out⟩
  have d5 : decide (z < 0) = false := decide_eq_false (by omega)
  by_cases h6 : (n : Int) < z
  · have hf := HNO.out (by omega)
    subst hf
    have d6 : decide ((n : Int) < z) = true := decide_eq_true (by omega)
    clear h1 h2 h3 h4 h5 h6
    go_wp2_with fail
    go_ret
    exact ⟨rfl, HB0.out⟩
  have d6 : decide ((n : Int) < z) = false := decide_eq_false (by omega)
  have HR2 : Hid (r = (allB B.rows m && fineB B)) := Lib.hid (by rw [HR.out, right_eq HH.out.zn HH.out.zm, decide_eq_true (by rw [← HZ.out]; omega), Bool.true_and])
  have HZN : Hid (0 ≤ z ∧ z ≤ n) := Lib.hid (by omega)
  clear HNO h1 h2 h3 h4 h5 h6
  go_wp2_with fail
  clear d1 d2 d3 d4 d5 d6
  obtain ⟨W, hW⟩ : ∃ W, W = w.alloc (.cells #[.slice p n c, .slice pp m cc, .int .i64 z] 25) := ⟨_, rfl⟩
  rw [← hW] at HB0 HK0 ⊢
  clear hW
  go_loopw [3] (fun i wr => ∃ k : Nat, k ≤ n ∧ i = .int .i64 k ∧ Hid (∀ j, j < k → (B.rows.getD j []).length = m) ∧ Below W.heap.size W wr) (fun i _ => n - (intOf i).toNat)
  case atStart => exact ⟨0, Nat.zero_le _, rfl, Lib.hid (fun j hj => absurd hj (Nat.not_lt_zero _)), Below.refl _ _⟩
  case round =>
    obtain ⟨k, hk, rfl, hi, hb⟩ := hrel
    have HB := Lib.hid hb
    have HKK := Lib.hid (HK0.out.below hb)
    clear hb
    have cK := HKK.out.c
    by_cases hlt : k < n
    · have hltI : decide ((k : Int) < n) = true := decide_eq_true (by omega)
      have hltk : k < B.rows.length := by rw [HH.out.zn]; exact hlt
      obtain ⟨b, off, q, x, c2, hp, hrow⟩ := (HH.out.rw_.below HB0.out).rowAt k hltk
      have hck := (hrow.below HB.out).cell
      have HXL := Lib.hid hrow.len
      subst hp
      clear hrow hltk
      by_cases hx : x = m
      · have e1 : ((x : Int) != (m : Int)) = false := by simp; omega
        have HI : Hid (∀ j, j < k + 1 → (B.rows.getD j []).length = m) := Lib.hid (fun j hj => by
          by_cases e : j = k
          · subst e; rw [HXL.out, hx]
          · exact hi.out j (by omega))
        have HX := Lib.hid hx
        clear hx hi
        go_wp2_with fail
        go_quiet (fail)
        go_wp2
        go_roundw
        case rel => exact ⟨k + 1, by omega, by go_num, HI, below_drewN HB.out _⟩
        case measure => simp [intOf]; omega
      · have e1 : ((x : Int) != (m : Int)) = true := by simp; omega
        have hf : r = false := by
          rw [HR2.out]
          cases ha : allB B.rows m with
          | false => rfl
          | true => exact absurd (HXL.out.symm.trans (all_at ha k (by rw [HH.out.zn]; exact hlt))) hx
        subst hf
        clear hx hi
        go_wp2_with fail
        go_quiet (fail)
        go_wp2
        go_ret
        exact ⟨rfl, HB0.out.trans ((below_drewN HB.out _).mono HB0.out.size)⟩
    · have hltI : decide ((k : Int) < n) = false := decide_eq_false (by omega)
      have hall : allB B.rows m = true := all_of (fun j hj => hi.out j (by rw [HH.out.zn] at hj; omega))
      have HALL := Lib.hid hall
      have HR3 : Hid (r = fineB B) := Lib.hid (by rw [HR2.out, hall, Bool.true_and])
      clear hall hi
      go_wp2_with fail
      obtain ⟨V, hV⟩ : ∃ V, V = wr := ⟨_, rfl⟩
      rw [← hV] at HB HKK ⊢
      have HBV : Hid (Below w.heap.size w V) := Lib.hid (HB0.out.trans (HB.out.mono HB0.out.size))
      have HHV := Lib.hid (HH.out.below HBV.out)
      clear hV cK HB
      go_loopw [4] (fun i wr => ∃ a : Nat, a ≤ m ∧ i = .int .i64 a ∧ Hid (∀ j, j < a → colOk B j) ∧ Below V.heap.size V wr) (fun i _ => m - (intOf i).toNat)
      case atStart => exact ⟨0, Nat.zero_le _, rfl, Lib.hid (fun j hj => absurd hj (Nat.not_lt_zero _)), Below.refl _ _⟩
      case round =>
        obtain ⟨a, ha, rfl, hi, hb⟩ := hrel
        have HB := Lib.hid hb
        have cK := (HKK.out.below hb).c
        clear hb
        by_cases hal : a < m
        · have halI : decide ((a : Int) < m) = true := decide_eq_true (by omega)
          by_cases hz0 : z = 0
          · have e0 : (z == 0) = true := by simpa using hz0
            subst hz0
            obtain ⟨b2, off2, hb2, hq, hc2⟩ := HHV.out.nm.cellAt a (by rw [HH.out.zm]; exact hal)
            subst hq
            have hcp := (HB.out.cell (p := ⟨b2, off2 + a, none⟩) hb2).trans hc2
            have hcol : ∀ i, Calls Try.prog 68 #[.slice p n c, .int .i64 a, .int .i64 (-1)] (wr.drewN i) fun e w' => e = .returned (.int .u32 (colX B.rows a (-1) : Nat)) ∧ w' = wr.drewN i := fun i =>
              (column_any p n c m a (-1) xs B.rows _ HH.out.zn ((HHV.out.below HB.out).rw_.below (below_drewN (Below.refl _ _) i)) HALL.out hal).mono fun e w' h => ⟨h.1, h.2.symm⟩
            obtain ⟨x, hx⟩ : ∃ x, x = colX B.rows a (-1) := ⟨_, rfl⟩
            obtain ⟨y, hy⟩ : ∃ y, y = B.par.getD a 0 := ⟨_, rfl⟩
            rw [← hx] at hcol
            rw [← hy] at hcp
            have HCOL := Lib.hid hcol
            have HX := Lib.hid hx
            have HY := Lib.hid hy
            clear hcol hb2 hc2 hx hy
            by_cases hxy : x = y
            · have e1 : ((x : Int) != (y : Int)) = false := by simp; omega
              have HI : Hid (∀ j, j < a + 1 → colOk B j) := Lib.hid (fun j hj => by
                by_cases e : j = a
                · subst e
                  unfold colOk
                  rw [if_pos HZ.out.symm, ← HX.out, ← HY.out]
                  exact hxy
                · exact hi.out j (by omega))
              clear hxy hi
              go_wp2_with fail
              go_quiet ((go_at_call 68; exact Calls.quiet_of_same (HCOL.out _)))
              go_wp2
              go_roundw
              case rel => exact ⟨a + 1, by omega, by go_num, HI, below_drewN HB.out _⟩
              case measure => simp [intOf]; omega
            · have e1 : ((x : Int) != (y : Int)) = true := by simp; omega
              have hf : r = false := by
                rw [HR3.out]
                refine fine_no HH.out.zm hal (fun h => hxy ?_)
                unfold colOk at h
                rw [if_pos HZ.out.symm, ← HX.out, ← HY.out] at h
                exact h
              subst hf
              clear hxy hi
              go_wp2_with fail
              go_quiet ((go_at_call 68; exact Calls.quiet_of_same (HCOL.out _)))
              go_wp2
              go_ret
              exact ⟨rfl, HBV.out.trans ((below_drewN HB.out _).mono HBV.out.size)⟩
          · have e0 : (z == 0) = false := by simpa using hz0
            have hzn := HZN.out
            obtain ⟨k1, hk1⟩ : ∃ k1 : Nat, z = (k1 : Int) + 1 := ⟨(z - 1).toNat, by omega⟩
            subst hk1
            have hkn : k1 < n := by omega
            have e2 : decide ((0 : Int) < (k1 : Int) + 1) = true := decide_eq_true (by omega)
            have e4 : (k1 : Int) + 1 - 1 = (k1 : Int) := by omega
            have wk : IntKind.i64.wrap (k1 : Int) = (k1 : Int) := by rw [IntKind.wrap_i64]; omega
            have hkI : (0 : Int) ≤ (k1 : Int) := by omega
            have hkI2 : (k1 : Int) < (n : Int) := by omega
            obtain ⟨b, off, q, x, c2, hp, hrow⟩ := (HHV.out.below HB.out).rw_.rowAt k1 (by rw [HH.out.zn]; exact hkn)
            subst hp
            have hck := hrow.cell
            have hxm : x = m := by rw [← hrow.len]; exact all_at HALL.out k1 (by rw [HH.out.zn]; exact hkn)
            subst hxm
            obtain ⟨b2, off2, hb2, hq, hc2⟩ := hrow.nm.cellAt a (by rw [hrow.len]; exact hal)
            subst hq
            obtain ⟨y, hy⟩ : ∃ y, y = (B.rows.getD k1 []).getD a 0 := ⟨_, rfl⟩
            rw [← hy] at hc2
            have HY := Lib.hid hy
            have HCO : Hid (colOk B a ↔ y = 0) := Lib.hid (by
              unfold colOk
              rw [← HZ.out, if_neg hz0, hy, show ((k1 : Int) + 1 - 1).toNat = k1 by omega])
            clear hrow hb2 hy hzn hz0
            by_cases hy0 : y = 0
            · have HI : Hid (∀ j, j < a + 1 → colOk B j) := Lib.hid (fun j hj => by
                by_cases e : j = a
                · subst e; exact HCO.out.2 hy0
                · exact hi.out j (by omega))
              have e1 : ((y : Int) != 0) = false := by simp; omega
              clear hy0 hi
              go_wp2_with fail
              go_quiet (fail)
              go_wp2
              go_roundw
              case rel => exact ⟨a + 1, by omega, by go_num, HI, below_drewN HB.out _⟩
              case measure => simp [intOf]; omega
            · have e1 : ((y : Int) != 0) = true := by simp; omega
              have hf : r = false := by
                rw [HR3.out]
                exact fine_no HH.out.zm hal (fun h => hy0 (HCO.out.1 h))
              subst hf
              clear hy0 hi
              go_wp2_with fail
              go_quiet (fail)
              go_wp2
              go_ret
              exact ⟨rfl, HBV.out.trans ((below_drewN HB.out _).mono HBV.out.size)⟩
        · have halI : decide ((a : Int) < m) = false := decide_eq_false (by omega)
          have hf : r = true := by
            rw [HR3.out]
            exact fine_of HH.out.zm HALL.out (by rw [← HZ.out, HH.out.zn]; exact HZN.out) (fun j hj => hi.out j (by omega))
          subst hf
          clear hi
          go_wp2_with fail
          go_ret
          exact ⟨rfl, HBV.out.trans (HB.out.mono HBV.out.size)⟩
end Go.Proofs.Ytflakmabciokbaa
/- The document's own has, Read and with; no condition but that the banks read. -/
namespace Go.Proofs.Ytflakmabciokbaa
set_option linter.unusedVariables false
open Go.ChangeShapes Go.WideShapes Go.ChangeAt Go.RowKit

set_option maxHeartbeats 1000000 in
theorem rhas_any (p : Option Addr) (n c : Nat) (xs : List Value) (pp : Option Addr) (m cc : Nat) (B : Bk) (k : Int) (w : World) (h : Bn w p n c xs pp m cc B) :
    Calls Try.prog 66 #[.agg #[.slice p n c, .slice pp m cc, .int .i64 B.lost], .int .i64 k] w fun e w' => e = .returned (.bool (hasB B k)) ∧ Below w.heap.size w w' := by
  have hm := h.m100
  have hn := h.n100
  have hri := fun w' hb => rright_any p n c xs pp m cc B w' (h.below hb)
  obtain ⟨r, hr⟩ : ∃ r, r = rightB B := ⟨_, rfl⟩
  obtain ⟨z, hz⟩ : ∃ z, z = B.lost := ⟨_, rfl⟩
  obtain ⟨y, hy⟩ : ∃ y, y = hasB B k := ⟨_, rfl⟩
  have hy2 : y = (r && decide (0 ≤ k ∧ k < n)) := by rw [hy, hr]; unfold hasB; rw [h.zn]
  rw [← hr, ← hz] at hri
  rw [← hz, ← hy]
  have HRI := Lib.hid hri
  have HY := Lib.hid hy2
  clear h hr hz hy hy2 hri
  go_enter Try.func66, Try.ntmps66
  go_wp2_with fail
  have HB0 : Hid (Below w.heap.size w (w.alloc (.cells #[.slice p n c, .slice pp m cc, .int .i64 z] 25))) := Lib.hid ((Below.refl _ _).alloc (Nat.le_refl _) _)
  refine (HRI.out _ HB0.out).mono ?_
  rintro e w1 ⟨rfl, hb1⟩
  have kc := (Blk.track1 hb1).c
  have HB1 : Hid (Below w.heap.size w w1) := Lib.hid (HB0.out.trans (hb1.mono HB0.out.size))
  clear hb1 HB0 HRI
  cases r with
  | false =>
    go_wp2_with fail
    go_ret
    exact ⟨by rw [HY.out]; rfl, HB1.out⟩
  | true =>
    by_cases h0 : 0 ≤ k
    · have e0 : decide (0 ≤ k) = true := decide_eq_true h0
      by_cases h1 : k < (n : Int)
      · have e1 : decide (k < (n : Int)) = true := decide_eq_true h1
        have hf : y = true := by rw [HY.out, decide_eq_true ⟨h0, h1⟩]; rfl
        subst hf
        clear h0 h1
        go_wp2_with fail
        go_ret
        exact ⟨rfl, HB1.out⟩
      · have e1 : decide (k < (n : Int)) = false := decide_eq_false h1
        have hf : y = false := by rw [HY.out, decide_eq_false (by omega)]; rfl
        subst hf
        clear h0 h1
        go_wp2_with fail
        go_ret
        exact ⟨rfl, HB1.out⟩
    · have e0 : decide (0 ≤ k) = false := decide_eq_false h0
      have hf : y = false := by rw [HY.out, decide_eq_false (by omega)]; rfl
      subst hf
      clear h0
      go_wp2_with fail
      go_ret
      exact ⟨rfl, HB1.out⟩

theorem Rw.put {w w1 : World} {base : Nat} {p : Option Addr} {xs : List Value} {L : List (List Nat)} (h : Rw w p xs L) {g n c k : Nat} {r : Value} {l : List Nat} (ho : w1.ownsRow base 23 1 (.slice (some ⟨g, 0, none⟩) n c) n xs) (hz : L.length = n) (hbase : w.heap.size ≤ base) (hb : Below w.heap.size w w1)
    (hr : Rs w r l) (hl : l.length ≤ 100) (hk : k < n) : Rw (w1.setCell ⟨g, k, none⟩ r) (some ⟨g, 0, none⟩) (xs.set k r) (L.set k l) := by
  have hs := (ho.stored k r).1
  have hg := (ho.lt g rfl).1
  have hb2 : Below w.heap.size w (w1.setCell ⟨g, k, none⟩ r) := hb.setCell (p := ⟨g, k, none⟩) (by show w.heap.size ≤ g; omega) _
  have hY : ∀ i, (xs.set k r).getD i vz = if i = k then r else xs.getD i vz := fun i => getD_set xs vz r k i (by rw [h.len, hz]; exact hk)
  have hD : ∀ i, (L.set k l).getD i [] = if i = k then l else L.getD i [] := fun i => getD_set L [] l k i (by rw [hz]; exact hk)
  refine ⟨by rw [List.length_set, List.length_set]; exact h.len, ?_, fun i hi => ?_, by rw [List.length_set]; exact h.n100, fun l2 hl2 => ?_⟩
  · obtain ⟨q, d, e, hsl⟩ := Sl.own hs
    injection e with e1 e2 e3
    subst e1
    rw [List.length_set, hz]
    exact hsl
  · rw [hY, hD]
    by_cases e : i = k
    · rw [if_pos e, if_pos e]; exact hr.below hb2
    · rw [if_neg e, if_neg e]; exact (h.rs i (by rwa [List.length_set] at hi)).below hb2
  · rcases List.mem_or_eq_of_mem_set hl2 with h1 | h1
    · exact h.l100 l2 h1
    · rw [h1]; exact hl

set_option maxHeartbeats 2000000 in
theorem with_any (p : Option Addr) (n c : Nat) (xs : List Value) (pp : Option Addr) (m cc : Nat) (B : Bk) (k : Nat) (q : Option Addr) (x d : Nat) (l : List Nat) (w : World) (h : Bn w p n c xs pp m cc B) (hk : k < n) (hr : Rs w (.slice q x d) l) (hx : x ≤ 100) :
    Calls Try.prog 67 #[.agg #[.slice p n c, .slice pp m cc, .int .i64 B.lost], .int .i64 k, .slice q x d] w fun e w' => ∃ g c', e = .returned (.agg #[.slice (some ⟨g, 0, none⟩) n c', .slice pp m cc, .int .i64 B.lost]) ∧ Bn w' (some ⟨g, 0, none⟩) n c' (xs.set k (.slice q x d)) pp m cc ⟨B.rows.set k l, B.par, B.lost⟩ ∧ Below w.heap.size w w' ∧ w.heap.size ≤ g := by
  obtain ⟨i0, hi, hz0, hz1, hz2⟩ := info_parts info23
  have HI := Lib.hid (And.intro hi (And.intro hz0 (And.intro hz1 hz2)))
  have hm := h.m100
  have hn := h.n100
  have HH := Lib.hid h
  have HRR := Lib.hid hr
  obtain ⟨z, hz⟩ : ∃ z, z = B.lost := ⟨_, rfl⟩
  rw [← hz]
  have HZ := Lib.hid hz
  have HBA : Hid (Below w.heap.size w ((w.alloc (.cells #[.slice p n c, .slice pp m cc, .int .i64 z] 25)).alloc (.cells #[.slice none 0 0, .slice none 0 0, .int .i64 0] 25))) := Lib.hid (((Below.refl _ _).alloc (Nat.le_refl _) _).alloc (by simp) _)
  have HK0 : Hid (Blk ((w.alloc (.cells #[.slice p n c, .slice pp m cc, .int .i64 z] 25)).alloc (.cells #[.slice none 0 0, .slice none 0 0, .int .i64 0] 25)) w.heap.size #[.slice p n c, .slice pp m cc, .int .i64 z]) := Lib.hid ((Blk.new _ _ _).alloc _)
  have HR0 : Hid (Blk ((w.alloc (.cells #[.slice p n c, .slice pp m cc, .int .i64 z] 25)).alloc (.cells #[.slice none 0 0, .slice none 0 0, .int .i64 0] 25)) (w.heap.size + 1) #[.slice none 0 0, .slice none 0 0, .int .i64 0]) := Lib.hid (by
    have := Blk.new (w.alloc (.cells #[.slice p n c, .slice pp m cc, .int .i64 z] 25)) #[.slice none 0 0, .slice none 0 0, .int .i64 0] 25
    rwa [size_new] at this)
  obtain ⟨b, off, q0, x0, c0, rfl, hrow⟩ := h.rw_.rowAt k (by rw [h.zn]; exact hk)
  have HXL : Hid (xs.length = n) := Lib.hid (by rw [h.rw_.len, h.zn])
  have hkI : (0 : Int) ≤ (k : Int) := by omega
  have hkI2 : (k : Int) < (n : Int) := by omega
  clear h hi hz0 hz1 hz2 hr hz hrow
  go_enter Try.func67, Try.ntmps67
  go_upto_region 1 with fail
  obtain ⟨w0, hw0⟩ : ∃ w0, w0 = (w.alloc (.cells #[.slice (some ⟨b, off, none⟩) n c, .slice pp m cc, .int .i64 z] 25)).alloc (.cells #[.slice none 0 0, .slice none 0 0, .int .i64 0] 25) := ⟨_, rfl⟩
  have HSZ : Hid (w0.heap.size = w.heap.size + 2) := Lib.hid (by rw [hw0, size_new, size_new])
  rw [← hw0] at HBA HK0 HR0 ⊢
  clear hw0
  have HHW := Lib.hid (HH.out.below HBA.out)
  have k0 := (HK0.out.alloc (.cells #[] 23)).c
  have HS : Hid (Sl (w0.alloc (.cells #[] 23)) (some ⟨b, off, none⟩) n xs) := Lib.hid (by
    have := HHW.out.rw_.sl.below ((Below.refl _ _).alloc (Nat.le_refl _) (.cells #[] 23))
    rwa [HH.out.zn] at this)
  go_wp2_with (first | (at_builtin; refine wpList_append_sl rfl _ _ 22 rfl w0.heap.size 23 i0 (.slice none 0 0) 1 24 Try.underlying22 HI.out.1 HI.out.2.1 HI.out.2.2.1 HI.out.2.2.2 rfl (by decide) _ 0 [] rfl (fresh_made (Nat.le_refl _)) (some ⟨b, off, none⟩) n c xs rfl (by rw [HXL.out, Nat.mul_one]) HS.out HH.out.rw_.one (by unfold maxLen; omega) (by omega) (by simp) ?_))
  intro v' w1 g1 g2 g3
  have g1' : w1.ownsRow w0.heap.size 23 1 v' n xs := by simpa using g1
  have HB1 : Hid (Below w0.heap.size w0 w1) := Lib.hid (((Below.refl w0.heap.size w0).alloc (Nat.le_refl _) _).grown g2 (by simp) (fun k hk => by simp [Value.ownBlock] at hk; omega))
  obtain ⟨p1, c1, rfl, hc1⟩ := own_cap g1'
  obtain ⟨g, rfl, _, _, hg0, hg1⟩ := own_go g1' (by omega)
  have HO1 := Lib.hid g1'
  have HK1 := Lib.hid (HK0.out.below HB1.out)
  have HR1 := Lib.hid (HR0.out.below HB1.out)
  have HBW : Hid (Below w.heap.size w w1) := Lib.hid (HBA.out.trans (HB1.out.mono HBA.out.size))
  have HG : Hid (w.heap.size + 2 ≤ g) := Lib.hid (by have := HSZ.out; omega)
  have hcg : ∃ u, w1.cell? ⟨g, k, none⟩ = some u := ⟨_, by rw [HO1.out.cellAt k (by omega)]; exact List.getElem?_eq_getElem (by rw [HXL.out]; exact hk)⟩
  obtain ⟨u1, hu1⟩ := hcg
  have hf1 : w1.frozen? ⟨g, k, none⟩ = false := HO1.out.frozenAt k
  clear g1 g1' g2 g3 hg0 hg1 k0
  go_upto_region 3 with fail
  obtain ⟨w2, hw2⟩ : ∃ w2, w2 = w1.setCell ⟨g, k, none⟩ (.slice q x d) := ⟨_, rfl⟩
  have HRW : Hid (Rw w2 (some ⟨g, 0, none⟩) (xs.set k (.slice q x d)) (B.rows.set k l)) := Lib.hid (by
    rw [hw2]
    obtain ⟨q', d', e, h1, h2⟩ := HRR.out
    have hlx : l.length = x := by injection e with _ e _; exact e.symm
    exact HH.out.rw_.put (base := w0.heap.size) HO1.out HH.out.zn (by have := HSZ.out; omega) HBW.out HRR.out (by omega) hk)
  have HK2 : Hid (Blk w2 w.heap.size #[.slice (some ⟨b, off, none⟩) n c, .slice pp m cc, .int .i64 z]) := Lib.hid (by rw [hw2]; exact HK1.out.other _ (by have := HG.out; omega))
  have HR2 : Hid (Blk w2 (w.heap.size + 1) #[.slice none 0 0, .slice none 0 0, .int .i64 0]) := Lib.hid (by rw [hw2]; exact HR1.out.other _ (by have := HG.out; omega))
  have HB2 : Hid (Below w.heap.size w w2) := Lib.hid (by rw [hw2]; exact HBW.out.setCell (p := ⟨g, k, none⟩) (by show w.heap.size ≤ g; have := HG.out; omega) _)
  have HCC : Hid (n ≤ c1) := Lib.hid hc1
  rw [← hw2]
  clear hw2 hu1 hf1 HO1 HK1 HR1 HBW hc1
  have cK := HK2.out.c
  have fK := HK2.out.f
  have lK := HK2.out.lt
  go_upto_region 4 with fail
  obtain ⟨w3, hw3⟩ : ∃ w3, w3 = w2.setCell ⟨w.heap.size, 0, none⟩ (.slice (some ⟨g, 0, none⟩) n c1) := ⟨_, rfl⟩
  have HK3 : Hid (Blk w3 w.heap.size #[.slice (some ⟨g, 0, none⟩) n c1, .slice pp m cc, .int .i64 z]) := Lib.hid (by rw [hw3]; exact HK2.out.set (n := 0) _ (by simp))
  have HR3 : Hid (Blk w3 (w.heap.size + 1) #[.slice none 0 0, .slice none 0 0, .int .i64 0]) := Lib.hid (by rw [hw3]; exact HR2.out.other _ (by omega))
  have HB3 : Hid (Below w.heap.size w w3) := Lib.hid (by rw [hw3]; exact HB2.out.setCell (p := ⟨w.heap.size, 0, none⟩) (Nat.le_refl _) _)
  have HX3 : Hid (∀ j, w3.cell? ⟨g, j, none⟩ = w2.cell? ⟨g, j, none⟩) := Lib.hid (fun j => by rw [hw3]; exact World.cell?_setCell_other _ _ _ _ (by intro e; injection e with e1; have := HG.out; omega))
  have HZ3 : Hid (w3.heap.size = w2.heap.size) := Lib.hid (by rw [hw3, size_set])
  rw [← hw3]
  clear hw3 cK fK lK HK2 HR2
  have cK := HK3.out.c
  have cR := HR3.out.c
  have fR := HR3.out.f
  have lR := HR3.out.lt
  go_wp2_with fail
  have HBF : Hid (Below w.heap.size w (((w3.setCell ⟨w.heap.size + 1, 0, none⟩ (.slice (some ⟨g, 0, none⟩) n c1)).setCell ⟨w.heap.size + 1, 1, none⟩ (.slice pp m cc)).setCell ⟨w.heap.size + 1, 2, none⟩ (.int .i64 z))) := Lib.hid (res3_below HB3.out _ _ _)
  have HXF : Hid (∀ j, (((w3.setCell ⟨w.heap.size + 1, 0, none⟩ (.slice (some ⟨g, 0, none⟩) n c1)).setCell ⟨w.heap.size + 1, 1, none⟩ (.slice pp m cc)).setCell ⟨w.heap.size + 1, 2, none⟩ (.int .i64 z)).cell? ⟨g, j, none⟩ = w2.cell? ⟨g, j, none⟩) := Lib.hid (fun j => by
    rw [World.cell?_setCell_other _ _ _ _ (by intro e; injection e with e1; have := HG.out; omega), World.cell?_setCell_other _ _ _ _ (by intro e; injection e with e1; have := HG.out; omega), World.cell?_setCell_other _ _ _ _ (by intro e; injection e with e1; have := HG.out; omega)]
    exact HX3.out j)
  refine bodyPost_ret (v := .agg #[.slice (some ⟨g, 0, none⟩) n c1, .slice pp m cc, .int .i64 z]) (by simp [results, Try.results67, go_sem, *]) rfl ⟨g, c1, rfl, ?_, HBF.out, by have := HG.out; omega⟩
  refine ⟨by rw [List.length_set]; exact HH.out.zn, ⟨HRW.out.len, fun h0 => ?_, fun i hi => ?_, HRW.out.n100, HRW.out.l100⟩, HCC.out, HH.out.zm, HH.out.nm.below HBF.out, HH.out.cm, hm⟩
  · obtain ⟨b2, o2, h1, h2, h3⟩ := HRW.out.sl h0
    injection h2 with h2
    injection h2 with h2 h4
    subst h2 h4
    exact ⟨_, _, by simp [HZ3.out]; exact h1, rfl, fun j hj => by rw [HXF.out]; exact h3 j hj⟩
  · rw [List.length_set] at hi
    rw [getD_set xs vz _ k i (by rw [HXL.out]; exact hk), getD_set B.rows [] _ k i (by rw [HH.out.zn]; exact hk)]
    by_cases e : i = k
    · rw [if_pos e, if_pos e]; exact HRR.out.below HBF.out
    · rw [if_neg e, if_neg e]; exact (HH.out.rw_.rs i hi).below HBF.out
end Go.Proofs.Ytflakmabciokbaa
