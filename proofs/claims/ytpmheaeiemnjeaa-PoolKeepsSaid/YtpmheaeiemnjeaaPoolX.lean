/- Plain numbers for PoolKeeps: frames of messages that may be, with what was turned of each; how many bits that is; rows of what was turned in memory; no program is run here. -/
import Derived.Test.YtpmheaeiemnjeaaPoolN
import Derived.Test.YtpmheaeiemnjeaaPoolG
import Derived.Test.YtpmheaeiemnjeaaPoolH
namespace Go.Proofs.Ytpmheaeiemnjeaa
set_option linter.unusedVariables false
open Go.ChangeShapes Go.WideShapes Go.ChangeAt Go.RowKit

def zer : List Nat := List.replicate 19 0
structure Zed (z : List Nat) : Prop where
  len : z.length = 19
  lt : ∀ x ∈ z, x < 256
theorem Zed.zer : Zed zer := ⟨rfl, by decide⟩
theorem Zed.turn {z : List Nat} (h : Zed z) (i : Nat) : Zed (turnL z i) := ⟨by rw [turn_len]; exact h.len, turn_lt z i h.lt⟩
theorem Zed.at_lt {z : List Nat} (h : Zed z) (k : Nat) : z.getD k 0 < 256 := by
  rw [List.getD_eq_getElem?_getD]
  by_cases hk : k < z.length
  · rw [List.getElem?_eq_getElem hk]; exact h.lt _ (List.getElem_mem hk)
  · rw [List.getElem?_eq_none (by omega)]; decide
def mixL (m : Msg) (z : List Nat) : List Nat := List.zipWith (· ^^^ ·) (outL m) z
theorem mix_len {m : Msg} {z : List Nat} (h : mayM m = true) (hz : Zed z) : (mixL m z).length = 19 := by
  unfold mixL
  rw [List.length_zipWith, outL_len h, hz.len]
  rfl
theorem mix_zero {m : Msg} (h : mayM m = true) : mixL m zer = outL m := by
  have hl := outL_len h
  unfold mixL zer
  apply List.ext_getElem
  · rw [List.length_zipWith, hl, List.length_replicate]; rfl
  · intro k h1 h2
    rw [List.getElem_zipWith, List.getElem_replicate, Nat.xor_zero]
theorem mix_turn {m : Msg} {z : List Nat} (h : mayM m = true) (hz : Zed z) (i : Nat) (hi : i < 152) : turnL (mixL m z) i = mixL m (turnL z i) := by
  have hl := outL_len h
  have hzl := hz.len
  have h8 : i / 8 < 19 := by omega
  unfold turnL mixL
  apply List.ext_getElem
  · simp
  · intro k h1 h2
    simp only [List.length_set, List.length_zipWith] at h1
    simp only [List.getElem_set, List.getElem_zipWith, List.getD_eq_getElem?_getD, List.getElem?_zipWith]
    by_cases e : i / 8 = k
    · subst e
      have e1 : (outL m)[i / 8]? = some (outL m)[i / 8] := List.getElem?_eq_getElem _
      have e2 : z[i / 8]? = some z[i / 8] := List.getElem?_eq_getElem _
      simp only [e1, e2, if_true, Option.getD_some, Nat.xor_assoc]
    · rw [if_neg e, if_neg e]
def mixS (M : List Msg) (Z : List (List Nat)) : List (List Nat) := List.zipWith mixL M Z
structure Kept2 (M : List Msg) (Z : List (List Nat)) : Prop where
  len : Z.length = M.length
  good : ∀ m ∈ M, Good m
  zed : ∀ z ∈ Z, Zed z
  few : M.length ≤ 64
theorem Kept2.nil : Kept2 [] [] := ⟨rfl, fun _ h => (by cases h), fun _ h => (by cases h), by decide⟩
section
variable {M : List Msg} {Z : List (List Nat)}
theorem Kept2.mlen (h : Kept2 M Z) : (mixS M Z).length = M.length := by unfold mixS; rw [List.length_zipWith, h.len, Nat.min_self]
theorem Kept2.getD (h : Kept2 M Z) (k : Nat) (hk : k < M.length) : (mixS M Z).getD k [] = mixL (M.getD k m0) (Z.getD k []) := by
  have hz : k < Z.length := by rw [h.len]; exact hk
  unfold mixS
  rw [List.getD_eq_getElem?_getD, List.getElem?_zipWith, List.getElem?_eq_getElem hk, List.getElem?_eq_getElem hz, List.getD_eq_getElem?_getD, List.getElem?_eq_getElem hk, List.getD_eq_getElem?_getD, List.getElem?_eq_getElem hz]
  rfl
theorem Kept2.gm (h : Kept2 M Z) (k : Nat) (hk : k < M.length) : Good (M.getD k m0) := h.good _ (mem_getD M m0 k hk)
theorem Kept2.gz (h : Kept2 M Z) (k : Nat) (hk : k < M.length) : Zed (Z.getD k []) := h.zed _ (mem_getD Z [] k (by rw [h.len]; exact hk))
theorem Kept2.right (h : Kept2 M Z) : rightP (mixS M Z) = true := right_of (by rw [h.mlen]; exact h.few) (fun l hl => by
  obtain ⟨k, hk, rfl⟩ := List.getElem_of_mem hl
  rw [h.mlen] at hk
  have e := h.getD k hk
  rw [List.getD_eq_getElem?_getD, List.getElem?_eq_getElem (by rw [h.mlen]; exact hk)] at e
  simp only [Option.getD_some] at e
  rw [e]
  exact mix_len (h.gm k hk).may (h.gz k hk))
theorem Kept2.snoc (h : Kept2 M Z) {m : Msg} {z : List Nat} (hm : Good m) (hz : Zed z) (hl : M.length < 64) : Kept2 (M ++ [m]) (Z ++ [z]) :=
  ⟨by rw [List.length_append, List.length_append, h.len]; rfl, fun x hx => by
    rcases List.mem_append.1 hx with hx | hx
    · exact h.good x hx
    · rw [List.mem_singleton.1 hx]; exact hm, fun x hx => by
    rcases List.mem_append.1 hx with hx | hx
    · exact h.zed x hx
    · rw [List.mem_singleton.1 hx]; exact hz, by rw [List.length_append]; show M.length + 1 ≤ 64; omega⟩
theorem Kept2.snoc_mix (h : Kept2 M Z) (m : Msg) (z : List Nat) : mixS (M ++ [m]) (Z ++ [z]) = mixS M Z ++ [mixL m z] := by
  unfold mixS
  rw [List.zipWith_append (by rw [h.len])]
  rfl
theorem Kept2.cut (h : Kept2 M Z) (k : Nat) (hk : k < M.length) : Kept2 (M.eraseIdx k) (Z.eraseIdx k) :=
  ⟨by rw [List.length_eraseIdx, List.length_eraseIdx, h.len], fun x hx => h.good x (List.mem_of_mem_eraseIdx hx), fun x hx => h.zed x (List.mem_of_mem_eraseIdx hx), Nat.le_trans (by rw [List.length_eraseIdx]; split <;> omega) h.few⟩
theorem zip_erase {α β γ : Type} (f : α → β → γ) (A : List α) (B : List β) (k : Nat) (hl : B.length = A.length) : (List.zipWith f A B).eraseIdx k = List.zipWith f (A.eraseIdx k) (B.eraseIdx k) := by
  induction A generalizing B k with
  | nil => cases B with
    | nil => rfl
    | cons b r => simp at hl
  | cons a r ih =>
    cases B with
    | nil => simp at hl
    | cons b s =>
      cases k with
      | zero => rfl
      | succ k => simp only [List.zipWith_cons_cons, List.eraseIdx_cons_succ]; rw [ih s k (by simpa using hl)]
theorem Kept2.cut_mix (h : Kept2 M Z) (k : Nat) : (mixS M Z).eraseIdx k = mixS (M.eraseIdx k) (Z.eraseIdx k) := zip_erase mixL M Z k h.len
theorem zip_set {α β γ : Type} (f : α → β → γ) (A : List α) (B : List β) (k : Nat) (d : α) (v : β) (hl : B.length = A.length) : (List.zipWith f A B).set k (f (A.getD k d) v) = List.zipWith f A (B.set k v) := by
  induction A generalizing B k with
  | nil => cases B with
    | nil => rfl
    | cons b r => simp at hl
  | cons a r ih =>
    cases B with
    | nil => simp at hl
    | cons b s =>
      cases k with
      | zero => rfl
      | succ k => simp only [List.zipWith_cons_cons, List.set_cons_succ, List.getD_cons_succ]; rw [ih s k (by simpa using hl)]
theorem Kept2.put (h : Kept2 M Z) (k : Nat) {z : List Nat} (hz : Zed z) : Kept2 M (Z.set k z) :=
  ⟨by rw [List.length_set, h.len], h.good, fun x hx => by
    rcases mem_set hx with hx | rfl
    · exact h.zed x hx
    · exact hz, h.few⟩
theorem Kept2.put_mix (h : Kept2 M Z) (k i : Nat) (hk : k < M.length) (hi : i < 152) : (mixS M Z).set k (turnL ((mixS M Z).getD k []) i) = mixS M (Z.set k (turnL (Z.getD k []) i)) := by
  rw [h.getD k hk, mix_turn (h.gm k hk).may (h.gz k hk) i hi]
  exact zip_set mixL M Z k m0 _ h.len
end

/-- How many of the low w bits of x are set. -/
def bitsN (x : Nat) : Nat → Nat
  | 0 => 0
  | w + 1 => bitsN x w + if x / 2 ^ w % 2 = 1 then 1 else 0
/-- How many bits of the first k bytes of z are set. -/
def bitsZ (z : List Nat) : Nat → Nat
  | 0 => 0
  | k + 1 => bitsZ z k + bitsN (z.getD k 0) 8
theorem bitsN_le (x w : Nat) : bitsN x w ≤ w := by
  induction w with
  | zero => exact Nat.le_refl _
  | succ w ih => unfold bitsN; split <;> omega
theorem bitsZ_le (z : List Nat) (k : Nat) : bitsZ z k ≤ 8 * k := by
  induction k with
  | zero => exact Nat.le_refl _
  | succ k ih => unfold bitsZ; have := bitsN_le (z.getD k 0) 8; omega
theorem bitsN_zero : ∀ x, x < 256 → bitsN x 8 = 0 → x = 0 := by decide +kernel
theorem bitsN_one : ∀ x, x < 256 → bitsN x 8 = 1 → ∃ b, b < 8 ∧ x = 2 ^ b := by decide +kernel
theorem bitsZ_zero {z : List Nat} (h : Zed z) (k : Nat) (h0 : bitsZ z k = 0) : ∀ j, j < k → z.getD j 0 = 0 := by
  induction k with
  | zero => intro j hj; exact absurd hj (Nat.not_lt_zero _)
  | succ k ih =>
    unfold bitsZ at h0
    intro j hj
    by_cases e : j = k
    · subst e; exact bitsN_zero _ (h.at_lt j) (by omega)
    · exact ih (by omega) j (by omega)
theorem bitsZ_one {z : List Nat} (h : Zed z) (k : Nat) (h0 : bitsZ z k = 1) : ∃ j b, j < k ∧ b < 8 ∧ z.getD j 0 = 2 ^ b ∧ ∀ i, i < k → i ≠ j → z.getD i 0 = 0 := by
  induction k with
  | zero => cases h0
  | succ k ih =>
    unfold bitsZ at h0
    by_cases e : bitsZ z k = 0
    · obtain ⟨b, hb, hx⟩ := bitsN_one _ (h.at_lt k) (by omega)
      exact ⟨k, b, Nat.lt_succ_self _, hb, hx, fun i hi hne => bitsZ_zero h k e i (by omega)⟩
    · obtain ⟨j, b, hj, hb, hx, hr⟩ := ih (by omega)
      refine ⟨j, b, by omega, hb, hx, fun i hi hne => ?_⟩
      by_cases e2 : i = k
      · subst e2; exact bitsN_zero _ (h.at_lt i) (by omega)
      · exact hr i (by omega) hne
theorem zer_getD (k : Nat) : zer.getD k 0 = 0 := by
  unfold zer
  rw [List.getD_eq_getElem?_getD, List.getElem?_replicate]
  split <;> rfl
theorem zed_ext {z y : List Nat} (hz : Zed z) (hy : Zed y) (h : ∀ k, k < 19 → z.getD k 0 = y.getD k 0) : z = y := by
  apply List.ext_getElem
  · rw [hz.len, hy.len]
  · intro k h1 h2
    have := h k (by rw [← hz.len]; exact h1)
    rw [List.getD_eq_getElem?_getD, List.getD_eq_getElem?_getD, List.getElem?_eq_getElem h1, List.getElem?_eq_getElem h2] at this
    exact this
theorem bits_none {z : List Nat} (h : Zed z) (h0 : bitsZ z 19 = 0) : z = zer := zed_ext h Zed.zer (fun k hk => by rw [bitsZ_zero h 19 h0 k hk, zer_getD])
theorem bits_one {z : List Nat} (h : Zed z) (h0 : bitsZ z 19 = 1) : ∃ i, i < 152 ∧ z = turnL zer i := by
  obtain ⟨j, b, hj, hb, hx, hr⟩ := bitsZ_one h 19 h0
  refine ⟨8 * j + b, by omega, zed_ext h (Zed.zer.turn _) (fun k hk => ?_)⟩
  have e1 : (8 * j + b) / 8 = j := by omega
  have e2 : (8 * j + b) % 8 = b := by omega
  unfold turnL
  rw [e1, e2, getD_set zer 0 _ j k (by show j < 19; exact hj)]
  by_cases e : k = j
  · subst e; rw [if_pos rfl, hx, zer_getD, Nat.zero_xor]
  · rw [if_neg e, hr k hk e, zer_getD]

section
variable {M : List Msg} {Z : List (List Nat)}
theorem keep_send_ok (h : Kept2 M Z) {m : Msg} (hm : Good m) (hl : M.length < 64) : sendP (mixS M Z) m = mixS (M ++ [m]) (Z ++ [zer]) ∧ sendE (mixS M Z) m = 0 := by
  unfold sendP sendE addP addE
  rw [h.right, hm.may, h.mlen, if_neg (show ¬ 64 ≤ M.length by omega), if_neg (show ¬ 64 ≤ M.length by omega), h.snoc_mix, mix_zero hm.may]
  exact ⟨rfl, rfl⟩
theorem keep_send_no (h : Kept2 M Z) {m : Msg} (hm : mayM m = false ∨ M.length = 64) : sendP (mixS M Z) m = mixS M Z ∧ (sendE (mixS M Z) m = 1 ∨ sendE (mixS M Z) m = 6) := by
  unfold sendP sendE addP addE
  rw [h.right, h.mlen]
  cases hc : mayM m with
  | false => exact ⟨rfl, .inl rfl⟩
  | true =>
    rcases hm with hm | hm
    · rw [hm] at hc; cases hc
    · rw [if_pos (show 64 ≤ M.length by omega), if_pos (show 64 ≤ M.length by omega)]
      exact ⟨rfl, .inr rfl⟩
theorem keep_check (h : Kept2 M Z) {k : Nat} (hk : k < M.length) : checkP (mixS M Z) (k : Int) = 0 := check_ok h.right (by omega) (by rw [h.mlen]; omega)
theorem keep_none (h : Kept2 M Z) {k : Int} (h0 : M.length = 0) : checkP (mixS M Z) k = 7 := check_none h.right (by rw [h.mlen]; omega)
theorem keep_at (h : Kept2 M Z) {k : Nat} (hk : k < M.length) : atP (mixS M Z) (k : Int) = mixL (M.getD k m0) (Z.getD k []) := by
  unfold atP
  rw [Int.toNat_natCast]
  exact h.getD k hk
theorem keep_drop (h : Kept2 M Z) {k : Nat} (hk : k < M.length) : dropP (mixS M Z) (k : Int) = mixS (M.eraseIdx k) (Z.eraseIdx k) := by
  unfold dropP
  rw [keep_check h hk, if_pos rfl, Int.toNat_natCast, h.cut_mix]
theorem keep_take0 (h : Kept2 M Z) {k : Nat} (hk : k < M.length) (hb : bitsZ (Z.getD k []) 19 = 0) : takeM (mixS M Z) (k : Int) = M.getD k m0 ∧ takeE (mixS M Z) (k : Int) = 0 := by
  unfold takeM takeE
  rw [keep_check h hk, if_pos rfl, if_pos rfl, keep_at h hk, bits_none (h.gz k hk) hb, mix_zero (h.gm k hk).may]
  exact ⟨(h.gm k hk).read.2, (h.gm k hk).read.1⟩
theorem keep_take1 (h : Kept2 M Z) {k : Nat} (hk : k < M.length) (hb : bitsZ (Z.getD k []) 19 = 1) : takeE (mixS M Z) (k : Int) = 5 := by
  obtain ⟨i, hi, e⟩ := bits_one (h.gz k hk) hb
  unfold takeE
  rw [keep_check h hk, if_pos rfl, keep_at h hk, e, ← mix_turn (h.gm k hk).may Zed.zer i hi, mix_zero (h.gm k hk).may]
  exact (h.gm k hk).turn i hi
theorem keep_twice (h : Kept2 M Z) {k : Nat} (hk : k < M.length) (hl : M.length < 64) : twiceP (mixS M Z) (k : Int) = mixS (M ++ [M.getD k m0]) (Z ++ [Z.getD k []]) ∧ twiceE (mixS M Z) (k : Int) = 0 := by
  unfold twiceP twiceE addP addE
  rw [keep_check h hk, if_pos rfl, if_pos rfl, h.mlen, if_neg (show ¬ 64 ≤ M.length by omega), if_neg (show ¬ 64 ≤ M.length by omega), keep_at h hk, h.snoc_mix]
  exact ⟨rfl, rfl⟩
theorem keep_twice_full (h : Kept2 M Z) {k : Nat} (hk : k < M.length) (hl : M.length = 64) : twiceP (mixS M Z) (k : Int) = mixS M Z ∧ twiceE (mixS M Z) (k : Int) = 6 := by
  unfold twiceP twiceE addP addE
  rw [keep_check h hk, if_pos rfl, if_pos rfl, h.mlen, if_pos (show 64 ≤ M.length by omega), if_pos (show 64 ≤ M.length by omega)]
  exact ⟨rfl, rfl⟩
theorem keep_spoil (h : Kept2 M Z) {k i : Nat} (hk : k < M.length) (hi : i < 152) : spoilP (mixS M Z) (k : Int) (i : Int) = mixS M (Z.set k (turnL (Z.getD k []) i)) ∧ spoilE (mixS M Z) (k : Int) (i : Int) = 0 := by
  have hbit : bitB (i : Int) = false := by unfold bitB; rw [decide_eq_false]; omega
  unfold spoilP spoilE
  rw [keep_check h hk, if_pos rfl, if_pos rfl, hbit, if_neg (by decide), if_neg (by decide), Int.toNat_natCast, Int.toNat_natCast]
  refine ⟨?_, rfl⟩
  have e : atP (mixS M Z) (k : Int) = (mixS M Z).getD k [] := by unfold atP; rw [Int.toNat_natCast]
  rw [e]
  exact h.put_mix k i hk hi
end

/-- The cells of what was turned, 19 each. -/
def rowsZ (Z : List (List Nat)) : List Value := Z.flatMap u8C
theorem rowsZ_app (Z : List (List Nat)) (z : List Nat) : rowsZ (Z ++ [z]) = rowsZ Z ++ u8C z := by unfold rowsZ; rw [List.flatMap_append]; simp
theorem rowsZ_one (Z : List (List Nat)) : ∀ u ∈ rowsZ Z, u.oneCell' = true := fun u hu => by
  obtain ⟨z, _, h⟩ := List.mem_flatMap.1 hu
  exact u8C_one z u h
theorem rowsZ_len {Z : List (List Nat)} (h : ∀ z ∈ Z, Zed z) : (rowsZ Z).length = Z.length * 19 := by
  induction Z with
  | nil => rfl
  | cons x r ih =>
    have ih' := ih (fun z hz => h z (List.mem_cons_of_mem _ hz))
    unfold rowsZ at ih' ⊢
    rw [List.flatMap_cons, List.length_append, ih', List.length_cons, u8C_len, (h x List.mem_cons_self).len]
    omega
theorem rowsZ_split {Z : List (List Nat)} (h : ∀ z ∈ Z, Zed z) (k : Nat) (hk : k < Z.length) : rowsZ Z = rowsZ (Z.take k) ++ (u8C (Z.getD k []) ++ rowsZ (Z.drop (k + 1))) := by
  have e : Z = Z.take k ++ (Z.getD k [] :: Z.drop (k + 1)) := by rw [← drop_getD Z [] k hk, List.take_append_drop]
  conv => lhs; rw [e]
  unfold rowsZ
  rw [List.flatMap_append, List.flatMap_cons]
theorem rowsZ_at {Z : List (List Nat)} (h : ∀ z ∈ Z, Zed z) (k j : Nat) (hk : k < Z.length) (hj : j < 19) : (rowsZ Z)[k * 19 + j]? = some (.int .u8 ((Z.getD k []).getD j 0 : Nat)) := by
  have hl : (rowsZ (Z.take k)).length = k * 19 := by
    rw [rowsZ_len (fun z hz => h z (List.mem_of_mem_take hz)), List.length_take, Nat.min_eq_left (by omega)]
  have hz := h _ (mem_getD Z [] k hk)
  rw [rowsZ_split h k hk, List.getElem?_append_right (by omega), hl, show k * 19 + j - k * 19 = j by omega, List.getElem?_append_left (by rw [u8C_len, hz.len]; exact hj)]
  exact u8C_at _ j (by rw [hz.len]; exact hj)
theorem rowsZ_set {Z : List (List Nat)} (h : ∀ z ∈ Z, Zed z) (k j x : Nat) (hk : k < Z.length) (hj : j < 19) : (rowsZ Z).set (k * 19 + j) (.int .u8 (x : Nat)) = rowsZ (Z.set k ((Z.getD k []).set j x)) := by
  have hl : (rowsZ (Z.take k)).length = k * 19 := by
    rw [rowsZ_len (fun z hz => h z (List.mem_of_mem_take hz)), List.length_take, Nat.min_eq_left (by omega)]
  have hz := h _ (mem_getD Z [] k hk)
  have e : Z.set k ((Z.getD k []).set j x) = Z.take k ++ ((Z.getD k []).set j x :: Z.drop (k + 1)) := by rw [List.set_eq_take_append_cons_drop, if_pos hk]
  rw [rowsZ_split h k hk, List.set_append_right _ _ (by omega), hl, show k * 19 + j - k * 19 = j by omega, List.set_append_left _ _ (by rw [u8C_len, hz.len]; exact hj), e]
  unfold rowsZ u8C
  rw [List.flatMap_append, List.flatMap_cons, List.map_set]
theorem rowsM_split (M : List Msg) (k : Nat) (hk : k < M.length) : rowsM M = rowsM (M.take k) ++ ((M.getD k m0).row.toList ++ rowsM (M.drop (k + 1))) := by
  have e : M = M.take k ++ (M.getD k m0 :: M.drop (k + 1)) := by rw [← drop_getD M m0 k hk, List.take_append_drop]
  conv => lhs; rw [e]
  unfold rowsM
  rw [List.flatMap_append, List.flatMap_cons]
theorem erase_split {α : Type} (A : List α) (k : Nat) : A.eraseIdx k = A.take k ++ A.drop (k + 1) := List.eraseIdx_eq_take_drop_succ ..
theorem rowsM_cut (M : List Msg) (k : Nat) : rowsM (M.eraseIdx k) = rowsM (M.take k) ++ rowsM (M.drop (k + 1)) := by rw [erase_split]; unfold rowsM; rw [List.flatMap_append]
theorem rowsZ_cut (Z : List (List Nat)) (k : Nat) : rowsZ (Z.eraseIdx k) = rowsZ (Z.take k) ++ rowsZ (Z.drop (k + 1)) := by rw [erase_split]; unfold rowsZ; rw [List.flatMap_append]
end Go.Proofs.Ytpmheaeiemnjeaa
