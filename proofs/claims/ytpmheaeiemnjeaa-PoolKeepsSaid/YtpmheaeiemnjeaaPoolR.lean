/- What the document's own Right, check, Short, add and Same answer; no condition but that the pools read. -/
import Derived.Test.YtpmheaeiemnjeaaPoolC
namespace Go.Proofs.Ytpmheaeiemnjeaa
set_option linter.unusedVariables false
open Go.ChangeShapes Go.WideShapes Go.ChangeAt Go.RowKit

/-- What the document's own functions answer: it reads as this pool, and lies where the argument lies, or in new memory. -/
structure ROut (w w' : World) (p : Option Addr) (xs : List Value) (L : List (List Nat)) (p' : Option Addr) (xs' : List Value) (L' : List (List Nat)) : Prop where
  pl : Pl w' p' xs' L'
  off : ∀ Z : Nat → Prop, (∀ b, Z b → b < w.heap.size) → Off Z p xs L → Off Z p' xs' L'
  below : Below w.heap.size w w'

set_option maxHeartbeats 1000000 in
theorem rright_any (p : Option Addr) (n c : Nat) (xs : List Value) (L : List (List Nat)) (w : World) (hz : L.length = n) (h : Pl w p xs L) :
    Calls Try.prog 19 #[.agg #[.slice p n c]] w fun e w' => e = .returned (.bool (rightP L)) ∧ Below w.heap.size w w' := by
  have HZ := Lib.hid hz
  have HB := Lib.hid h
  have hm : n ≤ 100 := by rw [← hz]; exact h.n100
  obtain ⟨r, hr⟩ : ∃ r, r = rightP L := ⟨_, rfl⟩
  rw [← hr]
  have HR := Lib.hid hr
  clear h hz hr
  go_enter Try.func19, Try.ntmps19
  go_wp2
  go_loop [3] (fun i => ∃ k : Nat, k ≤ n ∧ i = .int .i64 k ∧ Hid (∀ j, j < k → j ≤ 63 ∧ (L.getD j []).length = 19)) (fun i => n - (intOf i).toNat)
  case atStart => exact ⟨0, Nat.zero_le _, rfl, Lib.hid (fun j hj => absurd hj (Nat.not_lt_zero _))⟩
  case round =>
    obtain ⟨k, hk, rfl, hi⟩ := hrel
    by_cases hlt : k < n
    · by_cases h63 : 63 < k
      · have hf : r = false := by
          rw [HR.out]
          cases hh : rightP L with
          | false => rfl
          | true => have := (right_inv hh).1; have := HZ.out; omega
        subst hf
        have e0 : decide ((63 : Int) < (k : Int)) = true := decide_eq_true (by omega)
        clear hi h63
        go_wp2
        go_ret
        exact ⟨rfl, (Below.refl _ _).alloc (Nat.le_refl _) _⟩
      · obtain ⟨b, off, hb, rfl, hcell⟩ := HB.out.at_ (by rw [HZ.out]; omega)
        have hck := hcell k (by rw [HZ.out]; exact hlt)
        obtain ⟨q, c2, hv, hc2, hby⟩ := HB.out.fs k (by rw [HZ.out]; exact hlt)
        have hl := HB.out.l100 _ (mem_getD L [] k (by rw [HZ.out]; exact hlt))
        have hmem := mem_getD L [] k (by rw [HZ.out]; exact hlt)
        rw [hv] at hck
        obtain ⟨x, hx⟩ : ∃ x, x = L.getD k [] := ⟨_, rfl⟩
        rw [← hx] at hck hl hmem
        obtain ⟨xl, hxl⟩ : ∃ xl, xl = x.length := ⟨_, rfl⟩
        rw [← hxl] at hck hl
        have e0 : decide ((63 : Int) < (k : Int)) = false := decide_eq_false (by omega)
        have HX := Lib.hid hx
        have HXL := Lib.hid hxl
        have HM := Lib.hid hmem
        have hck1 : (w.alloc (.cells #[.slice (some ⟨b, off, none⟩) n c] 24)).cell? ⟨b, off + k, none⟩ = some (.slice q xl c2) := (((Below.refl w.heap.size w).alloc (Nat.le_refl _) _).cell (p := ⟨b, off + k, none⟩) hb).trans hck
        clear hcell hv hby hc2 hx hxl hmem hck
        by_cases h19 : xl = 19
        · subst h19
          have HI : Hid (∀ j, j < k + 1 → j ≤ 63 ∧ (L.getD j []).length = 19) := Lib.hid (fun j hj => by
            by_cases e : j = k
            · subst e; exact ⟨by omega, by rw [← HX.out, ← HXL.out]⟩
            · exact hi.out j (by omega))
          clear hi h63
          go_wp2
          go_round
          case rel => exact ⟨k + 1, by omega, by go_num, HI⟩
          case measure => simp [intOf]; omega
        · have hf : r = false := by
            rw [HR.out]
            cases hh : rightP L with
            | false => rfl
            | true => have := (right_inv hh).2 x HM.out; have := HXL.out; omega
          subst hf
          have e1 : ((xl : Int) != 19) = true := by simp; omega
          clear hi h63 h19
          go_wp2
          go_ret
          exact ⟨rfl, (Below.refl _ _).alloc (Nat.le_refl _) _⟩
    · have hf : r = true := by
        rw [HR.out]
        have hkn : k = n := by omega
        refine right_of ?_ (fun l hl => ?_)
        · rcases Nat.eq_zero_or_pos n with h0 | h0
          · have := HZ.out; omega
          · have := (hi.out (n - 1) (by omega)).1
            have := HZ.out
            omega
        · obtain ⟨j, hj, rfl⟩ := List.getElem_of_mem hl
          have := (hi.out j (by have := HZ.out; omega)).2
          rwa [List.getD_eq_getElem?_getD, List.getElem?_eq_getElem hj] at this
      subst hf
      clear hi
      go_wp2
      go_ret
      exact ⟨rfl, (Below.refl _ _).alloc (Nat.le_refl _) _⟩
theorem rcheck_any (p : Option Addr) (n c : Nat) (xs : List Value) (L : List (List Nat)) (k : Int) (w : World) (hz : L.length = n) (h : Pl w p xs L) :
    Calls Try.prog 29 #[.agg #[.slice p n c], .int .i64 k] w fun e w' => e = .returned (.int .i64 (checkP L k)) ∧ Below w.heap.size w w' := by
  have hm : n ≤ 100 := by rw [← hz]; exact h.n100
  have HC := Lib.hid (fun w' hb => rright_any p n c xs L w' hz (h.below hb))
  unfold checkP
  rw [hz]
  obtain ⟨b, hb⟩ : ∃ b, b = rightP L := ⟨_, rfl⟩
  rw [← hb] at HC ⊢
  clear hb h hz
  cases b with
  | false =>
    rw [if_neg (by decide)]
    go_enter Try.func29, Try.ntmps29
    go_wp2_with fail
    refine (HC.out _ ((Below.refl _ _).alloc (Nat.le_refl _) _)).mono ?_
    rintro e w' ⟨rfl, hb⟩
    have HB : Hid (Below w.heap.size w w') := ((Below.refl _ _).alloc (Nat.le_refl _) _).trans (hb.mono (by simp))
    clear hb
    go_wp2
    go_ret
    exact ⟨rfl, HB.out⟩
  | true =>
    rw [if_pos rfl]
    by_cases h0 : k < 0
    · rw [if_pos (.inl h0)]
      go_enter Try.func29, Try.ntmps29
      go_wp2_with fail
      refine (HC.out _ ((Below.refl _ _).alloc (Nat.le_refl _) _)).mono ?_
      rintro e w' ⟨rfl, hb⟩
      have HB : Hid (Below w.heap.size w w') := ((Below.refl _ _).alloc (Nat.le_refl _) _).trans (hb.mono (by simp))
      have hk := (Blk.track1 hb).c
      clear hb
      go_wp2
      go_ret
      exact ⟨rfl, HB.out⟩
    · by_cases h1 : (n : Int) ≤ k
      · rw [if_pos (.inr h1)]
        have e0 : decide (k < 0) = false := decide_eq_false h0
        have e1 : decide ((n : Int) ≤ k) = true := decide_eq_true h1
        clear h0 h1
        go_enter Try.func29, Try.ntmps29
        go_wp2_with fail
        refine (HC.out _ ((Below.refl _ _).alloc (Nat.le_refl _) _)).mono ?_
        rintro e w' ⟨rfl, hb⟩
        have HB : Hid (Below w.heap.size w w') := ((Below.refl _ _).alloc (Nat.le_refl _) _).trans (hb.mono (by simp))
        have hk := (Blk.track1 hb).c
        clear hb
        go_wp2
        go_ret
        exact ⟨rfl, HB.out⟩
      · rw [if_neg (by omega)]
        have e0 : decide (k < 0) = false := decide_eq_false h0
        have e1 : decide ((n : Int) ≤ k) = false := decide_eq_false h1
        clear h0 h1
        go_enter Try.func29, Try.ntmps29
        go_wp2_with fail
        refine (HC.out _ ((Below.refl _ _).alloc (Nat.le_refl _) _)).mono ?_
        rintro e w' ⟨rfl, hb⟩
        have HB : Hid (Below w.heap.size w w') := ((Below.refl _ _).alloc (Nat.le_refl _) _).trans (hb.mono (by simp))
        have hk := (Blk.track1 hb).c
        clear hb
        go_wp2
        go_ret
        exact ⟨rfl, HB.out⟩

def shortP (L : List (List Nat)) : Bool := decide (L.length ≤ 80) && L.all (fun l => decide (l.length ≤ 100))
theorem short_inv {L : List (List Nat)} (h : shortP L = true) : L.length ≤ 80 ∧ ∀ l ∈ L, l.length ≤ 100 := by
  unfold shortP at h
  rw [Bool.and_eq_true, decide_eq_true_eq, List.all_eq_true] at h
  exact ⟨h.1, fun l hl => by simpa using h.2 l hl⟩
/-- A pool of any size that reads as these frames. -/
structure PlX (w : World) (p : Option Addr) (xs : List Value) (L : List (List Nat)) : Prop where
  len : xs.length = L.length
  sl : Sl w p L.length xs
  fs : ∀ k, k < L.length → Fs w (xs.getD k vz) (L.getD k [])
  nm : L.length ≤ maxLen
  lm : ∀ l ∈ L, l.length ≤ maxLen
theorem PlX.pl {w : World} {p : Option Addr} {xs : List Value} {L : List (List Nat)} (h : PlX w p xs L) (hs : shortP L = true) : Pl w p xs L :=
  ⟨h.len, h.sl, h.fs, by have := (short_inv hs).1; omega, (short_inv hs).2⟩
theorem PlX.below {w w' : World} {p : Option Addr} {xs : List Value} {L : List (List Nat)} (h : PlX w p xs L) (hb : Below w.heap.size w w') : PlX w' p xs L :=
  ⟨h.len, h.sl.below hb, fun k hk => (h.fs k hk).below hb, h.nm, h.lm⟩
theorem PlX.at_ {w : World} {p : Option Addr} {xs : List Value} {L : List (List Nat)} (h : PlX w p xs L) (h0 : 0 < L.length) : ∃ b off, b < w.heap.size ∧ p = some ⟨b, off, none⟩ ∧ ∀ k, k < L.length → w.cell? ⟨b, off + k, none⟩ = some (xs.getD k vz) := by
  obtain ⟨b, off, h1, h2, h3⟩ := h.sl h0
  refine ⟨b, off, h1, h2, fun k hk => ?_⟩
  rw [h3 k (by rw [h.len]; exact hk), List.getD_eq_getElem?_getD, List.getElem?_eq_getElem (by rw [h.len]; exact hk)]
  rfl

set_option maxHeartbeats 1000000 in
theorem short_any (p : Option Addr) (n c : Nat) (xs : List Value) (L : List (List Nat)) (w : World) (hz : L.length = n) (h : PlX w p xs L) :
    Calls Try.prog 7 #[.agg #[.slice p n c]] w fun e w' => e = .returned (.bool (shortP L)) ∧ Below w.heap.size w w' := by
  have HZ := Lib.hid hz
  have HB := Lib.hid h
  have hm : n ≤ maxLen := by rw [← hz]; exact h.nm
  unfold maxLen at hm
  obtain ⟨r, hr⟩ : ∃ r, r = shortP L := ⟨_, rfl⟩
  rw [← hr]
  have HR := Lib.hid hr
  clear h hz hr
  by_cases h80 : 80 < n
  · have hf : r = false := by
      rw [HR.out]; unfold shortP; rw [decide_eq_false (by have := HZ.out; omega), Bool.false_and]
    subst hf
    have e0 : decide ((80 : Int) < (n : Int)) = true := decide_eq_true (by omega)
    clear h80
    go_enter Try.func7, Try.ntmps7
    go_wp2
    go_ret
    exact ⟨rfl, (Below.refl _ _).alloc (Nat.le_refl _) _⟩
  have e0 : decide ((80 : Int) < (n : Int)) = false := decide_eq_false (by omega)
  go_enter Try.func7, Try.ntmps7
  go_wp2
  go_loop [3] (fun i => ∃ k : Nat, k ≤ n ∧ i = .int .i64 k ∧ Hid (∀ j, j < k → (L.getD j []).length ≤ 100)) (fun i => n - (intOf i).toNat)
  case atStart => exact ⟨0, Nat.zero_le _, rfl, Lib.hid (fun j hj => absurd hj (Nat.not_lt_zero _))⟩
  case round =>
    obtain ⟨k, hk, rfl, hi⟩ := hrel
    by_cases hlt : k < n
    · obtain ⟨b, off, hb, rfl, hcell⟩ := HB.out.at_ (by rw [HZ.out]; omega)
      have hck := hcell k (by rw [HZ.out]; exact hlt)
      obtain ⟨q, c2, hv, hc2, hby⟩ := HB.out.fs k (by rw [HZ.out]; exact hlt)
      have hl := HB.out.lm _ (mem_getD L [] k (by rw [HZ.out]; exact hlt))
      have hmem := mem_getD L [] k (by rw [HZ.out]; exact hlt)
      rw [hv] at hck
      obtain ⟨x, hx⟩ : ∃ x, x = L.getD k [] := ⟨_, rfl⟩
      rw [← hx] at hck hl hmem
      obtain ⟨xl, hxl⟩ : ∃ xl, xl = x.length := ⟨_, rfl⟩
      rw [← hxl] at hck hl
      unfold maxLen at hl
      have HX := Lib.hid hx
      have HXL := Lib.hid hxl
      have HM := Lib.hid hmem
      have hck1 : (w.alloc (.cells #[.slice (some ⟨b, off, none⟩) n c] 24)).cell? ⟨b, off + k, none⟩ = some (.slice q xl c2) := (((Below.refl w.heap.size w).alloc (Nat.le_refl _) _).cell (p := ⟨b, off + k, none⟩) hb).trans hck
      clear hcell hv hby hc2 hx hxl hmem hck
      by_cases h100 : 100 < xl
      · have hf : r = false := by
          rw [HR.out]
          cases hh : shortP L with
          | false => rfl
          | true => have := (short_inv hh).2 x HM.out; have := HXL.out; omega
        subst hf
        have e1 : decide ((100 : Int) < (xl : Int)) = true := decide_eq_true (by omega)
        clear hi h100
        go_wp2
        go_ret
        exact ⟨rfl, (Below.refl _ _).alloc (Nat.le_refl _) _⟩
      · have HI : Hid (∀ j, j < k + 1 → (L.getD j []).length ≤ 100) := Lib.hid (fun j hj => by
          by_cases e : j = k
          · subst e; rw [← HX.out, ← HXL.out]; omega
          · exact hi.out j (by omega))
        have e1 : decide ((100 : Int) < (xl : Int)) = false := decide_eq_false (by omega)
        clear hi h100
        go_wp2
        go_round
        case rel => exact ⟨k + 1, by omega, by go_num, HI⟩
        case measure => simp [intOf]; omega
    · have hf : r = true := by
        rw [HR.out]
        unfold shortP
        rw [Bool.and_eq_true, decide_eq_true_eq, List.all_eq_true]
        refine ⟨by have := HZ.out; omega, fun l hl => ?_⟩
        obtain ⟨j, hj, rfl⟩ := List.getElem_of_mem hl
        have := hi.out j (by have := HZ.out; omega)
        rw [List.getD_eq_getElem?_getD, List.getElem?_eq_getElem hj] at this
        exact decide_eq_true this
      subst hf
      clear hi
      go_wp2
      go_ret
      exact ⟨rfl, (Below.refl _ _).alloc (Nat.le_refl _) _⟩

set_option maxHeartbeats 2000000 in
theorem radd_any (p : Option Addr) (n c : Nat) (xs : List Value) (L : List (List Nat)) (f : Value) (l : List Nat) (w : World) (hz : L.length = n) (h : Pl w p xs L) (hf : Fs w f l) (hl : l.length ≤ 100) :
    Calls Try.prog 27 #[.agg #[.slice p n c], f] w fun e w' => ∃ p' c' xs', e = .returned (.tuple #[.agg #[.slice p' (addP L l).length c'], .int .i64 (addE L)]) ∧ Pl w' p' xs' (addP L l) ∧
      (∀ Z : Nat → Prop, (∀ b, Z b → b < w.heap.size) → Off Z p xs L → (0 < l.length → ∀ g, f.ownBlock = some g → ¬ Z g) → Off Z p' xs' (addP L l)) ∧ Below w.heap.size w w' := by
  have hm : n ≤ 100 := by rw [← hz]; exact h.n100
  obtain ⟨i0, hi, hz0, hz1, hz2⟩ := info_parts info30
  have HI := Lib.hid (And.intro hi (And.intro hz0 (And.intro hz1 hz2)))
  have HP := Lib.hid h
  have HZ := Lib.hid hz
  have HF := Lib.hid hf
  obtain ⟨pf, cf, rfl, hcf, _⟩ := hf
  unfold addP addE
  rw [hz]
  clear h hi hz0 hz1 hz2 hz hcf
  by_cases h64 : 64 ≤ n
  · rw [if_pos h64, if_pos h64, HZ.out]
    have e0 : decide ((64 : Int) ≤ (n : Int)) = true := decide_eq_true (by omega)
    clear h64
    go_enter Try.func27, Try.ntmps27
    go_wp2_with fail
    have hb : Below w.heap.size w ((w.alloc (.cells #[.slice p n c] 24)).alloc (.cells #[.slice p n c] 24)) := (((Below.refl _ _).alloc (Nat.le_refl _) _).alloc (by simp) _)
    exact bodyPost_ret (v := .tuple #[.agg #[.slice p n c], .int .i64 6]) (by simp [results, Try.results27, go_sem, *]) rfl ⟨p, c, xs, rfl, HP.out.below hb, fun Z hZ ho _ => ho, hb⟩
  · rw [if_neg h64, if_neg h64]
    have e0 : decide ((64 : Int) ≤ (n : Int)) = false := decide_eq_false (by omega)
    have hn : n < 64 := by omega
    have hB2 : Below w.heap.size w (((w.alloc (.cells #[.slice p n c] 24)).alloc (.cells #[.slice none 0 0] 24)).alloc (.cells #[] 30)) := (((Below.refl _ _).alloc (Nat.le_refl _) _).alloc (by simp) _).alloc (by simp; omega) _
    have HS : Hid (Sl (((w.alloc (.cells #[.slice p n c] 24)).alloc (.cells #[.slice none 0 0] 24)).alloc (.cells #[] 30)) p n xs) := Lib.hid (by
      have := HP.out.sl.below hB2
      rwa [HZ.out] at this)
    have HB2 := Lib.hid hB2
    have HFM : Hid ((((w.alloc (.cells #[.slice p n c] 24)).alloc (.cells #[.slice none 0 0] 24)).alloc (.cells #[] 30)).ownsRow (w.heap.size + 2) 30 1 (.slice (some ⟨w.heap.size + 1 + 1, 0, none⟩) 0 0) 0 []) := Lib.hid (by
      have := fresh_made (w := (w.alloc (.cells #[.slice p n c] 24)).alloc (.cells #[.slice none 0 0] 24)) (e := 30) (size := 1) (base := w.heap.size + 2) (by simp)
      simpa using this)
    have HXL : Hid (xs.length = n) := Lib.hid (by rw [HP.out.len, HZ.out])
    have H1 := Lib.hid HP.out.one
    clear h64 hB2
    go_enter Try.func27, Try.ntmps27
    go_wp2_with (first | (at_builtin; refine wpList_append_sl rfl _ _ 22 rfl (w.heap.size + 2) 30 i0 (.slice none 0 0) 1 24 Try.underlying22 HI.out.1 HI.out.2.1 HI.out.2.2.1 HI.out.2.2.2 rfl (by decide) _ 0 [] rfl HFM.out p n c xs rfl (by rw [HXL.out, Nat.mul_one]) HS.out H1.out (by unfold maxLen; omega) (by omega) (by simp) ?_))
    intro v3 w3 g1 g2 g3
    have HO3 : Hid (w3.ownsRow (w.heap.size + 2) 30 1 v3 n xs) := Lib.hid (by simpa using g1)
    have HB3 : Hid (Below w.heap.size w w3) := Lib.hid (HB2.out.grown g2 (by simp; omega) (fun k hk => by simp [Value.ownBlock] at hk; omega))
    have HR3 : Hid (Blk w3 (w.heap.size + 1) #[.slice none 0 0]) := Lib.hid (by
      have h0 : Blk ((w.alloc (.cells #[.slice p n c] 24)).alloc (.cells #[.slice none 0 0] 24)) (w.heap.size + 1) #[.slice none 0 0] := by
        have := Blk.new (w.alloc (.cells #[.slice p n c] 24)) #[.slice none 0 0] 24
        simpa using this
      exact (h0.alloc _).grown g2 (by simp [Value.ownBlock]))
    have HS3 : Hid (w.heap.size + 2 ≤ w3.heap.size) := Lib.hid (by have := HR3.out.lt; omega)
    obtain ⟨p3, c3, rfl, hc3⟩ := own_cap HO3.out
    clear g1 g2 g3 hc3
    have HOW : Hid ((w3.alloc (.cells #[.slice pf l.length cf] 30)).ownsRow (w.heap.size + 2) 30 1 (.slice p3 n c3) n xs) := Lib.hid (HO3.out.alloc _)
    go_wp2_with (first | (at_builtin; refine wpList_append_sl rfl _ _ 22 rfl (w.heap.size + 2) 30 i0 (.slice none 0 0) 1 24 Try.underlying22 HI.out.1 HI.out.2.1 HI.out.2.2.1 HI.out.2.2.2 rfl (by decide) _ _ _ rfl HOW.out (some ⟨w3.heap.size, 0, none⟩) 1 1 [.slice pf l.length cf] rfl rfl (blk_sl (Blk.new _ _ _)) (by intro u hu; rw [List.mem_singleton.1 hu]; rfl) (by unfold maxLen; omega) (by omega) (by simp; have := HS3.out; omega) ?_))
    intro v4 w4 g1 g2 g3
    obtain ⟨p4, c4, rfl, hc4⟩ := own_cap g1
    have HO4 := Lib.hid g1
    have HR4 : Hid (Blk w4 (w.heap.size + 1) #[.slice none 0 0]) := Lib.hid ((HR3.out.alloc _).grown g2 (fun e => by have := (HOW.out.lt _ e).1; omega))
    have HB4 : Hid (Below w.heap.size w w4) := Lib.hid ((HB3.out.alloc HB3.out.size _).grown g2 (by simp; have := HB3.out.size; omega) (fun k hk => by have := (HOW.out.lt _ hk).1; omega))
    clear g1 g2 g3 hc4
    have kR := HR4.out.c
    have fR := HR4.out.f
    have lR := HR4.out.lt
    go_wp2_with fail
    have hbf : Below w.heap.size w (w4.setCell ⟨w.heap.size + 1, 0, none⟩ (.slice p4 (n + 1) c4)) := HB4.out.setCell (p := ⟨w.heap.size + 1, 0, none⟩) (by show w.heap.size ≤ w.heap.size + 1; omega) _
    have hrow := own_off HO4.out (R := w.heap.size + 1) (by omega) 0 (.slice p4 (n + 1) c4)
    have hlen : (L ++ [l]).length = n + 1 := by rw [List.length_append, HZ.out]; rfl
    refine bodyPost_ret (v := .tuple #[.agg #[.slice p4 (n + 1) c4], .int .i64 0]) ?_ ?_ ?_
    · simp [results, Try.results27, go_sem, *]
    · rfl
    refine ⟨p4, c4, xs ++ [.slice pf l.length cf], by rw [hlen], ⟨by simp [HP.out.len], ?_, fun k hk => ?_, by rw [hlen]; omega, fun l' hm => ?_⟩, fun Z hZ ho hoff => ⟨fun _ a e hb => ?_, fun k hk h0 g e hb => ?_⟩, hbf⟩
    · rw [hlen]
      obtain ⟨q, cq, e, hs⟩ := Sl.own hrow
      injection e with e _ _
      rw [e]
      rw [← e] at hs ⊢
      exact hs
    · rw [hlen] at hk
      rw [getD_append1, getD_append1, HXL.out, HZ.out]
      by_cases hkl : k < n
      · rw [if_pos hkl, if_pos hkl]
        exact (HP.out.fs k (by rw [HZ.out]; exact hkl)).below hbf
      · rw [if_neg hkl, if_neg hkl, if_pos (by omega), if_pos (by omega)]
        exact HF.out.below hbf
    · rcases List.mem_append.1 hm with hm | hm
      · exact HP.out.l100 l' hm
      · rw [List.mem_singleton.1 hm]; exact hl
    · subst e
      have h1 := (HO4.out.lt a.block rfl).1
      have h2 := hZ _ hb
      omega
    · rw [hlen] at hk
      rw [getD_append1, HXL.out] at e
      rw [getD_append1, HZ.out] at h0
      by_cases hkl : k < n
      · rw [if_pos hkl] at e h0
        exact ho.2 k (by rw [HZ.out]; exact hkl) h0 g e hb
      · rw [if_neg hkl, if_pos (by omega)] at e h0
        exact hoff h0 g e hb
end Go.Proofs.Ytpmheaeiemnjeaa
