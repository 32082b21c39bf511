/- The program's asks, copy, list of others, is there a true one; no condition but that what is known reads. -/
import Derived.Test.YthkpoiaakggimaaDirecB
namespace Go.Proofs.Ythkpoiaakggimaa
set_option linter.unusedVariables false
open Go.ChangeShapes Go.WideShapes Go.ChangeAt Go.RowKit

theorem ask_no {E : En} {k : Int} (h : ¬ (mayE E (E.share.length : Int) = true ∧ 0 ≤ k ∧ k < (E.share.length : Int))) : askX E k = 1 := by
  unfold askX
  rw [if_neg (fun e => h (hasE_iff.1 e))]
theorem ask_yes {E : En} {k : Int} (h : mayE E (E.share.length : Int) = true ∧ 0 ≤ k ∧ k < (E.share.length : Int)) : askX E k = 0 := by
  unfold askX
  rw [if_pos (hasE_iff.2 h)]

set_option maxHeartbeats 4000000 in
theorem asks_any (S : Nat → Prop) (v : Value) (E : En) (k : Int) (w : World) (h : Eo S w v E) : Calls Try.prog 22 #[v, .int .i64 k] w fun e w' => e = .returned (.int .i64 (askX E k)) ∧ Below w.heap.size w w' := by
  have HM := Lib.hid (fun W hW => may_any S v E (E.share.length : Int) W (h.below (w := w) (w' := W) hW))
  obtain ⟨p, n, c, rfl, hc, -⟩ := h
  have HNO : Hid (¬ (mayE E (E.share.length : Int) = true ∧ 0 ≤ k ∧ k < (n : Int)) → askX E k = 1) := Lib.hid (fun hh => ask_no (by rw [hc.len] at hh ⊢; exact hh))
  have HYES : Hid (mayE E (E.share.length : Int) = true ∧ 0 ≤ k ∧ k < (n : Int) → askX E k = 0) := Lib.hid (fun hh => ask_yes (by rw [hc.len] at hh ⊢; exact hh))
  rw [hc.len] at HM HNO HYES
  obtain ⟨r, hr⟩ : ∃ r, r = askX E k := ⟨_, rfl⟩
  rw [← hr] at HNO HYES ⊢
  obtain ⟨O, hO⟩ : ∃ O, O = E.owner := ⟨_, rfl⟩
  rw [← hO] at HM ⊢
  obtain ⟨m, hm⟩ : ∃ m, m = mayE E (n : Int) := ⟨_, rfl⟩
  rw [← hm] at HM HNO HYES
  clear hr hO hc hm
  obtain ⟨w0, hw0⟩ : ∃ w0, w0 = w.alloc (.cells #[.int .i64 O, .slice p n c] 24) := ⟨_, rfl⟩
  have HB0 : Hid (Below w.heap.size w w0) := Lib.hid (by rw [hw0]; exact (Below.refl _ _).alloc (Nat.le_refl _) _)
  have HA0 : Hid (Blk w0 w.heap.size #[.int .i64 O, .slice p n c]) := Lib.hid (by rw [hw0]; exact Blk.new _ _ _)
  have HW0 := Lib.hid hw0
  have HQ := Lib.hid (HM.out w0 HB0.out)
  clear hw0 HM
  go_enter Try.func22, Try.ntmps22
  have kA := HA0.out.c
  go_upto_region 1 with fail
  rw [← HW0.out]
  clear HW0
  cases m with
  | false =>
    have e := HNO.out (fun hh => by cases hh.1)
    subst e
    clear HNO HYES
    go_wp2_with fail
    refine HQ.out.mono ?_
    rintro e w1 ⟨rfl, hb1⟩
    have HB1 : Hid (Below w.heap.size w w1) := Lib.hid (HB0.out.trans (hb1.mono HB0.out.size))
    clear hb1 kA HA0 HQ HB0
    go_wp2_with fail
    go_ret
    exact ⟨rfl, HB1.out⟩
  | true =>
    by_cases h1 : k < 0
    · have d1 : decide (k < 0) = true := decide_eq_true h1
      have e := HNO.out (by omega)
      subst e
      clear HNO HYES h1
      go_wp2_with fail
      refine HQ.out.mono ?_
      rintro e w1 ⟨rfl, hb1⟩
      have HB1 : Hid (Below w.heap.size w w1) := Lib.hid (HB0.out.trans (hb1.mono HB0.out.size))
      clear hb1 kA HA0 HQ HB0
      go_wp2_with fail
      go_ret
      exact ⟨rfl, HB1.out⟩
    · have d1 : decide (k < 0) = false := decide_eq_false h1
      by_cases h2 : (n : Int) ≤ k
      · have d2 : decide ((n : Int) ≤ k) = true := decide_eq_true h2
        have e := HNO.out (by omega)
        subst e
        clear HNO HYES h1 h2
        go_wp2_with fail
        refine HQ.out.mono ?_
        rintro e w1 ⟨rfl, hb1⟩
        have HB1 : Hid (Below w.heap.size w w1) := Lib.hid (HB0.out.trans (hb1.mono HB0.out.size))
        have HA1 := Lib.hid (HA0.out.below hb1)
        clear hb1 kA HA0 HQ HB0
        have kA := HA1.out.c
        go_wp2_with fail
        go_ret
        exact ⟨rfl, HB1.out⟩
      · have d2 : decide ((n : Int) ≤ k) = false := decide_eq_false h2
        have e := HYES.out ⟨rfl, by omega, by omega⟩
        subst e
        clear HNO HYES h1 h2
        go_wp2_with fail
        refine HQ.out.mono ?_
        rintro e w1 ⟨rfl, hb1⟩
        have HB1 : Hid (Below w.heap.size w w1) := Lib.hid (HB0.out.trans (hb1.mono HB0.out.size))
        have HA1 := Lib.hid (HA0.out.below hb1)
        clear hb1 kA HA0 HQ HB0
        have kA := HA1.out.c
        go_wp2_with fail
        go_ret
        exact ⟨rfl, HB1.out⟩

set_option maxHeartbeats 2000000 in
theorem clone_any (p : Option Addr) (n c : Nat) (l : List Bool) (w : World) (hl : l.length = n) (hs : Sl w p n (boC l)) (hm : n ≤ 100) (hcn : n ≤ c) :
    Calls Try.prog 28 #[.slice p n c] w fun e w' => ∃ r, e = .returned r ∧ w'.ownsRow w.heap.size 4 1 r n (boC l) ∧ Below w.heap.size w w' := by
  obtain ⟨i0, hi, hz0, hz1, hz2⟩ := info_parts info4
  have HI := Lib.hid (And.intro hi (And.intro hz0 (And.intro hz1 hz2)))
  have HS := Lib.hid hs
  have HL := Lib.hid hl
  clear hs hl hi hz0 hz1 hz2
  have hq : ∀ W, (binOp .eql 22 (.slice p n c) (.slice none 0 0)).run Try.prog W = .ok (.bool p.isNone) W := fun W => Lib.run_eql_slice_nil W _ 4 _ _ _ _ _ Try.underlying22
  cases p with
  | none =>
    have h0 : n = 0 := by
      rcases Nat.eq_zero_or_pos n with h0 | h0
      · exact h0
      · obtain ⟨b, off, _, h2, _⟩ := HS.out h0
        cases h2
    subst h0
    have hl : l = [] := List.eq_nil_of_length_eq_zero HL.out
    subst hl
    clear HS HL hcn HI
    simp only [Option.isNone_none, Option.isNone_some] at hq
    go_enter Try.func28, Try.ntmps28
    go_wp2
    go_ret
    exact ⟨_, rfl, World.ownsRow_nil _ _ _ _, Below.refl _ _⟩
  | some a =>
    simp only [Option.isNone_none, Option.isNone_some] at hq
    go_enter Try.func28, Try.ntmps28
    go_wp2_with (first | (at_builtin; refine wpList_append_sl rfl _ _ 22 rfl w.heap.size 4 i0 _ 1 1 Try.underlying22 HI.out.1 HI.out.2.1 HI.out.2.2.1 HI.out.2.2.2 rfl (by decide) _ 0 [] rfl (fresh_made (Nat.le_refl _)) (some a) n c (boC l) rfl (by rw [boC_len, HL.out, Nat.mul_one]) (HS.out.below ((Below.refl _ _).alloc (Nat.le_refl _) _)) (boC_one _) (by unfold maxLen; omega) (by omega) (by simp) ?_))
    intro v' w' g1 g2 g3
    have HG : Hid (w'.ownsRow w.heap.size 4 1 v' n (boC l)) := Lib.hid (by simpa using g1)
    have HB : Hid (Below w.heap.size w w') := Lib.hid (((Below.refl w.heap.size w).alloc (Nat.le_refl _) _).grown g2 (by simp) (fun k hk => by simp [Value.ownBlock] at hk; omega))
    clear g1 g2 g3
    go_wp2
    go_ret
    exact ⟨_, rfl, HG.out, HB.out⟩

set_option maxHeartbeats 2000000 in
theorem index_any (p : Option Addr) (n c : Nat) (l : List Bool) (w : World) (hl : l.length = n) (hs : Sl w p n (boC l)) (hm : n ≤ 100) :
    Calls Try.prog 29 #[.slice p n c, .bool true] w fun e w' => ∃ r : Int, e = .returned (.int .i64 r) ∧ decide (0 ≤ r) = l.contains true ∧ Below w.heap.size w w' := by
  have HYES : Hid (∀ k : Nat, k < n → l.getD k false = true → decide (0 ≤ (k : Int)) = l.contains true) := Lib.hid (fun k hk hg => by
    have hkl : k < l.length := by omega
    rw [List.getD_eq_getElem?_getD, List.getElem?_eq_getElem hkl] at hg
    have := List.getElem_mem hkl
    rw [show l[k] = true from hg] at this
    rw [List.contains_iff_mem.2 this]
    exact decide_eq_true (by omega))
  have HNO : Hid ((∀ j, j < n → l.getD j false = false) → decide (0 ≤ (-1 : Int)) = l.contains true) := Lib.hid (fun hh => by
    cases hc : l.contains true with
    | false => rfl
    | true =>
      obtain ⟨i, hi, hg⟩ := List.mem_iff_getElem.1 (List.contains_iff_mem.1 hc)
      have := hh i (by omega)
      rw [List.getD_eq_getElem?_getD, List.getElem?_eq_getElem hi] at this
      rw [show l[i] = false from this] at hg
      cases hg)
  have HAT : Hid (∀ k, k < n → ∃ b off, p = some ⟨b, off, none⟩ ∧ b < w.heap.size ∧ w.cell? ⟨b, off + k, none⟩ = some (.bool (l.getD k false))) := Lib.hid (fun k hk => by
    obtain ⟨b, off, h1, h2, h3⟩ := hs (by omega)
    exact ⟨b, off, h2, h1, by rw [h3 k (by rw [boC_len, hl]; exact hk), boC_at _ k (by rw [hl]; exact hk)]⟩)
  obtain ⟨t, ht⟩ : ∃ t, t = l.contains true := ⟨_, rfl⟩
  rw [← ht] at HYES HNO ⊢
  clear ht hs hl
  go_enter Try.func29, Try.ntmps29
  go_wp2_with fail
  go_loopw [8] (fun i wr => ∃ k : Nat, k ≤ n ∧ i = .int .i64 k ∧ Hid (∀ j, j < k → l.getD j false = false) ∧ Below w.heap.size w wr) (fun i _ => n - (intOf i).toNat)
  case atStart => exact ⟨0, Nat.zero_le _, rfl, Lib.hid (fun j hj => absurd hj (Nat.not_lt_zero _)), Below.refl _ _⟩
  case round =>
    obtain ⟨k, hk, rfl, HALL, hb⟩ := hrel
    have HB := Lib.hid hb
    clear hb
    by_cases hlt : k < n
    · obtain ⟨b, off, rfl, hbl, hcell⟩ := HAT.out k hlt
      have hcw := (HB.out.cell (p := ⟨b, off + k, none⟩) hbl).trans hcell
      have hkI : (k : Int) < (n : Int) := by omega
      obtain ⟨x, hx⟩ : ∃ x, x = l.getD k false := ⟨_, rfl⟩
      rw [← hx] at hcw
      have HX := Lib.hid hx
      clear hcell hbl hx
      cases x with
      | true =>
        have e := HYES.out k hlt HX.out.symm
        go_wp2_with fail
        go_ret
        exact ⟨_, rfl, e, HB.out⟩
      | false =>
        go_wp2_with fail
        go_roundw
        case rel => exact ⟨k + 1, by omega, by go_num, Lib.hid (fun j hj => by
          by_cases e : j = k
          · rw [e]; exact HX.out.symm
          · exact HALL.out j (by omega)), HB.out⟩
        case measure => simp [intOf]; omega
    · have hkn : k = n := by omega
      subst hkn
      have e := HNO.out HALL.out
      go_wp2_with fail
      go_ret
      exact ⟨_, rfl, e, HB.out⟩

set_option maxHeartbeats 1000000 in
theorem contains_any (p : Option Addr) (n c : Nat) (l : List Bool) (w : World) (hl : l.length = n) (hs : Sl w p n (boC l)) (hm : n ≤ 100) :
    Calls Try.prog 27 #[.slice p n c, .bool true] w fun e w' => e = .returned (.bool (l.contains true)) ∧ Below w.heap.size w w' := by
  have hq := index_any p n c l w hl hs hm
  obtain ⟨t, ht⟩ : ∃ t, t = l.contains true := ⟨_, rfl⟩
  rw [← ht] at hq ⊢
  clear ht hs hl
  go_enter Try.func27, Try.ntmps27
  go_wp2_with fail
  refine hq.mono ?_
  rintro e w1 ⟨r, rfl, hr, hb⟩
  clear hq
  go_wp2_with fail
  go_ret
  exact ⟨rfl, hb⟩
end Go.Proofs.Ythkpoiaakggimaa
