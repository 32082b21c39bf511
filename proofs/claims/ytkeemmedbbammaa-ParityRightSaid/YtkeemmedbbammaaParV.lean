/- Banks of any size, and the document's own Short; no condition but that the banks read. -/
import Derived.Test.YtkeemmedbbammaaParU
namespace Go.Proofs.Ytkeemmedbbammaa
set_option linter.unusedVariables false
open Go.ChangeShapes Go.WideShapes Go.ChangeAt Go.RowKit

def shortB (B : Bk) : Bool := decide (B.rows.length ≤ 10 ∧ B.par.length ≤ 80) && B.rows.all fun r => decide (r.length ≤ 80)
theorem short_inv {B : Bk} (h : shortB B = true) : B.rows.length ≤ 10 ∧ B.par.length ≤ 80 ∧ ∀ r ∈ B.rows, r.length ≤ 80 := by
  unfold shortB at h
  rw [Bool.and_eq_true, decide_eq_true_eq, List.all_eq_true] at h
  exact ⟨h.1.1, h.1.2, fun r hr => by simpa using h.2 r hr⟩
theorem short_of {B : Bk} (h1 : B.rows.length ≤ 10) (h2 : B.par.length ≤ 80) (h3 : ∀ k, k < B.rows.length → (B.rows.getD k []).length ≤ 80) : shortB B = true := by
  unfold shortB
  rw [Bool.and_eq_true, decide_eq_true_eq, List.all_eq_true]
  refine ⟨⟨h1, h2⟩, fun r hr => ?_⟩
  obtain ⟨k, hk, rfl⟩ := List.getElem_of_mem hr
  have := h3 k hk
  rw [List.getD_eq_getElem?_getD, List.getElem?_eq_getElem hk] at this
  simpa using this
theorem short_no1 {B : Bk} (h : ¬ (B.rows.length ≤ 10 ∧ B.par.length ≤ 80)) : shortB B = false := by unfold shortB; rw [decide_eq_false h, Bool.false_and]
/-- Banks in memory, of any size. -/
structure BnX (w : World) (p : Option Addr) (n c : Nat) (xs : List Value) (pp : Option Addr) (m cc : Nat) (B : Bk) : Prop where
  zn : B.rows.length = n
  len : xs.length = n
  sl : Sl w p n xs
  rs : ∀ k, k < n → Rs w (xs.getD k vz) (B.rows.getD k [])
  cn : n ≤ c
  nx : n ≤ maxLen
  zm : B.par.length = m
  nm : Nm w pp B.par
  cm : m ≤ cc
  mx : m ≤ maxLen
  lx : ∀ r ∈ B.rows, r.length ≤ maxLen
theorem BnX.below {w w' : World} {p : Option Addr} {n c : Nat} {xs : List Value} {pp : Option Addr} {m cc : Nat} {B : Bk} (h : BnX w p n c xs pp m cc B) (hb : Below w.heap.size w w') : BnX w' p n c xs pp m cc B :=
  ⟨h.zn, h.len, h.sl.below hb, fun k hk => (h.rs k hk).below hb, h.cn, h.nx, h.zm, h.nm.below hb, h.cm, h.mx, h.lx⟩
theorem BnX.bn {w : World} {p : Option Addr} {n c : Nat} {xs : List Value} {pp : Option Addr} {m cc : Nat} {B : Bk} (h : BnX w p n c xs pp m cc B) (hs : shortB B = true) : Bn w p n c xs pp m cc B := by
  obtain ⟨h1, h2, h3⟩ := short_inv hs
  exact ⟨h.zn, ⟨by rw [h.len, h.zn], by rw [h.zn]; exact h.sl, fun k hk => h.rs k (by rw [← h.zn]; exact hk), by omega, fun l hl => by have := h3 l hl; omega⟩, h.cn, h.zm, h.nm, h.cm, by have := h.zm; omega⟩

set_option maxHeartbeats 2000000 in
theorem short_any (p : Option Addr) (n c : Nat) (xs : List Value) (pp : Option Addr) (m cc : Nat) (B : Bk) (w : World) (h : BnX w p n c xs pp m cc B) :
    Calls Try.prog 7 #[.agg #[.slice p n c, .slice pp m cc, .int .i64 B.lost]] w fun e w' => e = .returned (.bool (shortB B)) ∧ Below w.heap.size w w' := by
  have hn := h.nx
  have hm := h.mx
  unfold maxLen at hn hm
  have HH := Lib.hid h
  obtain ⟨r, hr⟩ : ∃ r, r = shortB B := ⟨_, rfl⟩
  obtain ⟨z, hz⟩ : ∃ z, z = B.lost := ⟨_, rfl⟩
  rw [← hr, ← hz]
  have HR := Lib.hid hr
  have HNO : Hid (¬ (n ≤ 10 ∧ m ≤ 80) → r = false) := Lib.hid (fun hh => by rw [hr]; exact short_no1 (by rw [h.zn, h.zm]; exact hh))
  have HB0 : Hid (Below w.heap.size w (w.alloc (.cells #[.slice p n c, .slice pp m cc, .int .i64 z] 25))) := Lib.hid ((Below.refl _ _).alloc (Nat.le_refl _) _)
  have HK0 : Hid (Blk (w.alloc (.cells #[.slice p n c, .slice pp m cc, .int .i64 z] 25)) w.heap.size #[.slice p n c, .slice pp m cc, .int .i64 z]) := Lib.hid (Blk.new _ _ _)
  clear h hr hz
  go_enter Try.func7, Try.ntmps7
  by_cases h1 : 10 < n
  · have hf := HNO.out (by omega)
    subst hf
    have d1 : decide ((10 : Int) < (n : Int)) = true := decide_eq_true (by omega)
    clear h1
    go_wp2_with fail
    go_ret
    exact ⟨rfl, HB0.out⟩
  have d1 : decide ((10 : Int) < (n : Int)) = false := decide_eq_false (by omega)
  by_cases h2 : 80 < m
  · have hf := HNO.out (by omega)
    subst hf
    have d2 : decide ((80 : Int) < (m : Int)) = true := decide_eq_true (by omega)
    clear h1 h2
    go_wp2_with fail
    go_ret
    exact ⟨rfl, HB0.out⟩
  have d2 : decide ((80 : Int) < (m : Int)) = false := decide_eq_false (by omega)
  have HN : Hid (n ≤ 10 ∧ m ≤ 80) := Lib.hid (by omega)
  have hn10 : n ≤ 10 := by omega
  clear h1 h2 HNO
  go_wp2_with fail
  clear d1 d2
  obtain ⟨W, hW⟩ : ∃ W, W = w.alloc (.cells #[.slice p n c, .slice pp m cc, .int .i64 z] 25) := ⟨_, rfl⟩
  rw [← hW] at HB0 HK0 ⊢
  clear hW
  have HHW := Lib.hid (HH.out.below HB0.out)
  have kW := HK0.out.c
  go_loopw [3] (fun i wr => ∃ k : Nat, k ≤ n ∧ i = .int .i64 k ∧ Hid (∀ j, j < k → (B.rows.getD j []).length ≤ 80) ∧ W = wr) (fun i _ => n - (intOf i).toNat)
  case atStart => exact ⟨0, Nat.zero_le _, rfl, Lib.hid (fun j hj => absurd hj (Nat.not_lt_zero _)), rfl⟩
  case round =>
    obtain ⟨k, hk, rfl, hi, rfl⟩ := hrel
    by_cases hlt : k < n
    · have hltI : decide ((k : Int) < n) = true := decide_eq_true (by omega)
      obtain ⟨b, off, hb, hp, hcell⟩ := HHW.out.sl (by omega)
      subst hp
      have hck := hcell k (by rw [HH.out.len]; exact hlt)
      obtain ⟨q, c2, hv, hc2, hnm⟩ := HHW.out.rs k hlt
      have hlx := HH.out.lx _ (mem_getD B.rows [] k (by rw [HH.out.zn]; exact hlt))
      unfold maxLen at hlx
      obtain ⟨x, hx⟩ : ∃ x, x = (B.rows.getD k []).length := ⟨_, rfl⟩
      rw [← hx] at hv hlx
      have hck2 : W.cell? ⟨b, off + k, none⟩ = some (.slice q x c2) := by
        rw [hck, ← hv, List.getD_eq_getElem?_getD, List.getElem?_eq_getElem (by rw [HH.out.len]; exact hlt)]
        rfl
      have HX := Lib.hid hx
      clear hck hcell hv hc2 hnm hx hb
      by_cases hx80 : 80 < x
      · have e1 : decide ((80 : Int) < (x : Int)) = true := decide_eq_true (by omega)
        have hf : r = false := by
          rw [HR.out]
          cases hs : shortB B with
          | false => rfl
          | true => have := (short_inv hs).2.2 _ (mem_getD B.rows [] k (by rw [HH.out.zn]; exact hlt)); have := HX.out; omega
        subst hf
        clear hx80 hi
        go_wp2_with fail
        go_ret
        exact ⟨rfl, HB0.out⟩
      · have e1 : decide ((80 : Int) < (x : Int)) = false := decide_eq_false (by omega)
        have HI : Hid (∀ j, j < k + 1 → (B.rows.getD j []).length ≤ 80) := Lib.hid (fun j hj => by
          by_cases e : j = k
          · subst e; have := HX.out; omega
          · exact hi.out j (by omega))
        clear hx80 hi
        go_wp2_with fail
        go_roundw
        case rel => exact ⟨k + 1, by omega, by go_num, HI, trivial⟩
        case measure => simp [intOf]; omega
    · have hltI : decide ((k : Int) < n) = false := decide_eq_false (by omega)
      have hf : r = true := by
        rw [HR.out]
        exact short_of (by rw [HH.out.zn]; exact HN.out.1) (by rw [HH.out.zm]; exact HN.out.2) (fun j hj => hi.out j (by rw [HH.out.zn] at hj; omega))
      subst hf
      clear hi
      go_wp2_with fail
      go_ret
      exact ⟨rfl, HB0.out⟩
end Go.Proofs.Ytkeemmedbbammaa
