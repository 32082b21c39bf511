/- The document's own: may it be, others, has, set, are two the same; no condition but that what is known reads. -/
import Derived.Test.YthkpoiaakggimaaDirecG
namespace Go.Proofs.Ythkpoiaakggimaa
set_option linter.unusedVariables false
open Go.ChangeShapes Go.WideShapes Go.ChangeAt Go.RowKit

theorem mayE_hit {E : En} {m : Int} {j : Nat} (hs : E.share.getD j false = true) (ho : E.owner = (j : Int) + 1) : mayE E m = false :=
  no_of fun e => by
    obtain ⟨_, _, _, _, h5⟩ := mayE_iff.1 e
    rcases ownB_iff.1 h5 with h | h
    · omega
    · rw [ho, show ((j : Int) + 1 - 1).toNat = j by omega, hs] at h
      cases h
theorem mayE_miss {E : En} {m : Int} (h : (1 ≤ m ∧ m ≤ 4) ∧ (E.share.length : Int) = m ∧ 0 ≤ E.owner ∧ E.owner ≤ m) (hh : ∀ j : Nat, (j : Int) < m → ¬ (E.share.getD j false = true ∧ E.owner = (j : Int) + 1)) : mayE E m = true := by
  rw [mayE_own h]
  by_cases h0 : E.owner = 0
  · exact ownB_iff.2 (.inl h0)
  · refine ownB_iff.2 (.inr ?_)
    cases hg : E.share.getD (E.owner - 1).toNat false with
    | false => rfl
    | true => exact absurd ⟨hg, by omega⟩ (hh (E.owner - 1).toNat (by omega))

set_option maxHeartbeats 4000000 in
theorem rmay_any (S : Nat → Prop) (v : Value) (E : En) (m : Int) (w : World) (h : Eo S w v E) : Calls Try.prog 17 #[v, .int .i64 m] w fun e w' => e = .returned (.bool (mayE E m)) ∧ Below w.heap.size w w' := by
  obtain ⟨p, n, c, rfl, hc, -⟩ := h
  have HC := Lib.hid hc
  have hn100 := hc.n100
  have HNO : Hid (¬ ((1 ≤ m ∧ m ≤ 4) ∧ (n : Int) = m ∧ 0 ≤ E.owner ∧ E.owner ≤ m) → mayE E m = false) := Lib.hid (fun hh => mayE_not (by rw [hc.len]; exact hh))
  have HHIT : Hid (∀ j : Nat, E.share.getD j false = true → E.owner = (j : Int) + 1 → mayE E m = false) := Lib.hid (fun j h1 h2 => mayE_hit h1 h2)
  have HMISS : Hid ((1 ≤ m ∧ m ≤ 4) ∧ (n : Int) = m ∧ 0 ≤ E.owner ∧ E.owner ≤ m → (∀ j : Nat, (j : Int) < m → ¬ (E.share.getD j false = true ∧ E.owner = (j : Int) + 1)) → mayE E m = true) := Lib.hid (fun h1 h2 => mayE_miss (by rw [hc.len]; exact h1) h2)
  obtain ⟨r, hr⟩ : ∃ r, r = mayE E m := ⟨_, rfl⟩
  rw [← hr] at HNO HHIT HMISS ⊢
  obtain ⟨O, hO⟩ : ∃ O, O = E.owner := ⟨_, rfl⟩
  rw [← hO] at HNO HHIT HMISS ⊢
  clear hr hO hc
  obtain ⟨w0, hw0⟩ : ∃ w0, w0 = w.alloc (.cells #[.int .i64 O, .slice p n c] 24) := ⟨_, rfl⟩
  have HB0 : Hid (Below w.heap.size w w0) := Lib.hid (by rw [hw0]; exact (Below.refl _ _).alloc (Nat.le_refl _) _)
  have HA0 : Hid (Blk w0 w.heap.size #[.int .i64 O, .slice p n c]) := Lib.hid (by rw [hw0]; exact Blk.new _ _ _)
  have HW0 := Lib.hid hw0
  clear hw0
  go_enter Try.func17, Try.ntmps17
  have kA := HA0.out.c
  go_upto_region 1 with fail
  rw [← HW0.out]
  clear HW0
  by_cases h1 : m < 1
  · have d1 : decide (m < 1) = true := decide_eq_true h1
    have e := HNO.out (by omega)
    subst e
    clear HNO HHIT HMISS h1
    go_wp2_with fail
    go_ret
    exact ⟨rfl, HB0.out⟩
  have d1 : decide (m < 1) = false := decide_eq_false h1
  by_cases h2 : 4 < m
  · have d2 : decide (4 < m) = true := decide_eq_true h2
    have e := HNO.out (by omega)
    subst e
    clear HNO HHIT HMISS h1 h2
    go_wp2_with fail
    go_ret
    exact ⟨rfl, HB0.out⟩
  have d2 : decide (4 < m) = false := decide_eq_false h2
  by_cases h3 : (n : Int) = m
  rotate_left
  · have d3 : ((n : Int) != m) = true := by simpa using h3
    have e := HNO.out (fun hh => h3 hh.2.1)
    subst e
    clear HNO HHIT HMISS h1 h2 h3
    go_wp2_with fail
    go_ret
    exact ⟨rfl, HB0.out⟩
  subst h3
  by_cases h4 : O < 0
  · have d4 : decide (O < 0) = true := decide_eq_true h4
    have e := HNO.out (by omega)
    subst e
    clear HNO HHIT HMISS h1 h2 h4
    go_wp2_with fail
    go_ret
    exact ⟨rfl, HB0.out⟩
  have d4 : decide (O < 0) = false := decide_eq_false h4
  by_cases h5 : (n : Int) < O
  · have d5 : decide ((n : Int) < O) = true := decide_eq_true h5
    have e := HNO.out (by omega)
    subst e
    clear HNO HHIT HMISS h1 h2 h4 h5
    go_wp2_with fail
    go_ret
    exact ⟨rfl, HB0.out⟩
  have d5 : decide ((n : Int) < O) = false := decide_eq_false h5
  have HMISS2 := Lib.hid (HMISS.out (by omega))
  clear HNO HMISS h1 h2 h4 h5
  go_wp2_with fail
  go_loopw [5] (fun i wr => ∃ k : Nat, k ≤ n ∧ i = .int .i64 k ∧ Hid (∀ j : Nat, j < k → ¬ (E.share.getD j false = true ∧ O = (j : Int) + 1)) ∧ w0 = wr) (fun i _ => n - (intOf i).toNat)
  case atStart => exact ⟨0, Nat.zero_le _, rfl, Lib.hid (fun j hj => absurd hj (Nat.not_lt_zero _)), rfl⟩
  case round =>
    obtain ⟨k, hk, rfl, HALL, hw⟩ := hrel
    subst hw
    by_cases hlt : k < n
    · have hkI : (k : Int) < (n : Int) := by omega
      obtain ⟨b, off, rfl, hb, hcell⟩ := HC.out.at_ k hlt
      have hcw := (HB0.out.cell (p := ⟨b, off + k, none⟩) hb).trans hcell
      obtain ⟨x, hx⟩ : ∃ x, x = E.share.getD k false := ⟨_, rfl⟩
      rw [← hx] at hcw
      have HX := Lib.hid hx
      clear hcell hb hx
      cases x with
      | false =>
        go_wp2_with fail
        go_roundw
        case rel => exact ⟨k + 1, by omega, by go_num, Lib.hid (fun j hj => by
          by_cases e : j = k
          · rw [e, ← HX.out]; exact fun h => by cases h.1
          · exact HALL.out j (by omega)), trivial⟩
        case measure => simp [intOf]; omega
      | true =>
        have hw1 : wrap64 ((k : Int) + 1) = (k : Int) + 1 := by unfold wrap64; omega
        by_cases ho : O = (k : Int) + 1
        · have d6 : (O == (k : Int) + 1) = true := by simp [ho]
          have e := HHIT.out k HX.out.symm ho
          subst e
          clear ho HHIT HMISS2
          go_wp2_with fail
          go_ret
          exact ⟨rfl, HB0.out⟩
        · have d6 : (O == (k : Int) + 1) = false := by simpa using ho
          have HNO := Lib.hid ho
          clear ho
          go_wp2_with fail
          go_roundw
          case rel => exact ⟨k + 1, by omega, by go_num, Lib.hid (fun j hj => by
            by_cases e : j = k
            · rw [e]; exact fun h => HNO.out h.2
            · exact HALL.out j (by omega)), trivial⟩
          case measure => simp [intOf]; omega
    · obtain rfl : k = n := by omega
      have e := HMISS2.out (fun j hj => HALL.out j (by omega))
      subst e
      clear HMISS2 HHIT HALL
      go_wp2_with fail
      go_ret
      exact ⟨rfl, HB0.out⟩

set_option maxHeartbeats 4000000 in
theorem has_any (S : Nat → Prop) (v : Value) (E : En) (k : Int) (w : World) (h : Eo S w v E) : Calls Try.prog 24 #[v, .int .i64 k] w fun e w' => e = .returned (.bool (hasE E k)) ∧ Below w.heap.size w w' := by
  have HM := Lib.hid (fun W hW => rmay_any S v E (E.share.length : Int) W (h.below (w := w) (w' := W) hW))
  obtain ⟨p, n, c, rfl, hc, -⟩ := h
  have HR : Hid (hasE E k = (mayE E (n : Int) && (decide (0 ≤ k) && decide (k < (n : Int))))) := Lib.hid (by unfold hasE; rw [hc.len])
  rw [hc.len] at HM
  obtain ⟨r, hr⟩ : ∃ r, r = hasE E k := ⟨_, rfl⟩
  rw [← hr] at HR ⊢
  obtain ⟨O, hO⟩ : ∃ O, O = E.owner := ⟨_, rfl⟩
  rw [← hO] at HM ⊢
  obtain ⟨m, hm⟩ : ∃ m, m = mayE E (n : Int) := ⟨_, rfl⟩
  rw [← hm] at HM HR
  clear hr hO hc hm
  obtain ⟨w0, hw0⟩ : ∃ w0, w0 = w.alloc (.cells #[.int .i64 O, .slice p n c] 24) := ⟨_, rfl⟩
  have HB0 : Hid (Below w.heap.size w w0) := Lib.hid (by rw [hw0]; exact (Below.refl _ _).alloc (Nat.le_refl _) _)
  have HA0 : Hid (Blk w0 w.heap.size #[.int .i64 O, .slice p n c]) := Lib.hid (by rw [hw0]; exact Blk.new _ _ _)
  have HW0 := Lib.hid hw0
  have HQ := Lib.hid (HM.out w0 HB0.out)
  clear hw0 HM
  go_enter Try.func24, Try.ntmps24
  have kA := HA0.out.c
  go_upto_region 1 with fail
  rw [← HW0.out]
  clear HW0
  cases m with
  | false =>
    have e : r = false := HR.out
    subst e
    clear HR
    go_wp2_with fail
    refine HQ.out.mono ?_
    rintro e w1 ⟨rfl, hb1⟩
    have HB1 : Hid (Below w.heap.size w w1) := Lib.hid (HB0.out.trans (hb1.mono HB0.out.size))
    clear hb1 kA HA0 HQ HB0
    go_wp2_with fail
    go_ret
    exact ⟨rfl, HB1.out⟩
  | true =>
    by_cases h1 : 0 ≤ k
    · have d1 : decide (0 ≤ k) = true := decide_eq_true h1
      obtain ⟨kk, rfl⟩ := Int.eq_ofNat_of_zero_le h1
      have e : r = decide ((kk : Int) < (n : Int)) := by rw [HR.out, d1]; rfl
      obtain ⟨t, ht⟩ : ∃ t, t = decide ((kk : Int) < (n : Int)) := ⟨_, rfl⟩
      have htN : decide (kk < n) = t := by rw [ht]; exact decide_eq_decide.2 (by omega)
      rw [← ht] at e
      have ht2 := ht.symm
      subst e
      clear HR h1 ht
      go_wp2_with fail
      refine HQ.out.mono ?_
      rintro e w1 ⟨rfl, hb1⟩
      have HB1 : Hid (Below w.heap.size w w1) := Lib.hid (HB0.out.trans (hb1.mono HB0.out.size))
      have HA1 := Lib.hid (HA0.out.below hb1)
      clear hb1 kA HA0 HQ HB0
      have kA := HA1.out.c
      go_wp2_with fail
      go_ret
      exact ⟨rfl, HB1.out⟩
    · have d1 : decide (0 ≤ k) = false := decide_eq_false h1
      have e : r = false := by rw [HR.out, d1]; rfl
      subst e
      clear HR h1
      go_wp2_with fail
      refine HQ.out.mono ?_
      rintro e w1 ⟨rfl, hb1⟩
      have HB1 : Hid (Below w.heap.size w w1) := Lib.hid (HB0.out.trans (hb1.mono HB0.out.size))
      clear hb1 kA HA0 HQ HB0
      go_wp2_with fail
      go_ret
      exact ⟨rfl, HB1.out⟩
end Go.Proofs.Ythkpoiaakggimaa
