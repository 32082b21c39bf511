/- Plain numbers for layer 5: the sum of bytes, what it is under exclusive or, frames and what is read of them; no program is run here; no condition but the numbers' bounds. -/
import Derived.Test.YtpmheaeiemnjeaaRefNum
namespace Go.Proofs.Ytpmheaeiemnjeaa
set_option linter.unusedVariables false
open Go.RowKit

/-- One of the eight steps of a sum for each byte. -/
def hv (n : Nat) : Nat := if n % 2 = 1 then n / 2 ^^^ 3988292384 else n / 2
def hvs : Nat → Nat → Nat
  | 0, n => n
  | k + 1, n => hv (hvs k n)
def bstep (n x : Nat) : Nat := hvs 8 (n ^^^ x)
def crc (n : Nat) (l : List Nat) : Nat := l.foldl bstep n
def sumN (l : List Nat) : Nat := 4294967295 - crc 4294967295 l

theorem xor_lt (a b : Nat) (ha : a < 4294967296) (hb : b < 4294967296) : a ^^^ b < 4294967296 := Nat.xor_lt_two_pow (n := 32) ha hb
theorem hv_lt (n : Nat) (h : n < 4294967296) : hv n < 4294967296 := by
  unfold hv; split
  · exact xor_lt _ _ (by omega) (by omega)
  · omega
theorem hvs_lt (k n : Nat) (h : n < 4294967296) : hvs k n < 4294967296 := by
  induction k with
  | zero => exact h
  | succ k ih => exact hv_lt _ ih
theorem bstep_lt (n x : Nat) (h : n < 4294967296) (hx : x < 256) : bstep n x < 4294967296 := hvs_lt _ _ (xor_lt _ _ h (by omega))
theorem crc_lt (l : List Nat) (n : Nat) (h : n < 4294967296) (hl : ∀ x ∈ l, x < 256) : crc n l < 4294967296 := by
  induction l generalizing n with
  | nil => exact h
  | cons x l ih => exact ih (bstep n x) (bstep_lt n x h (hl x (by simp))) (fun y hy => hl y (by simp [hy]))
theorem crc_snoc (n : Nat) (l : List Nat) (x : Nat) : crc n (l ++ [x]) = bstep (crc n l) x := by unfold crc; rw [List.foldl_append]; rfl
theorem sumN_lt (l : List Nat) : sumN l < 4294967296 := by unfold sumN; omega

theorem xor_half (a b : Nat) : (a ^^^ b) / 2 = a / 2 ^^^ b / 2 := by
  have h := Nat.shiftRight_xor_distrib (a := a) (b := b) (i := 1)
  simpa [Nat.shiftRight_succ] using h
theorem xor_odd (a b : Nat) : (a ^^^ b) % 2 = (a + b) % 2 := by
  have h : (a ^^^ b).testBit 0 = Bool.xor (a.testBit 0) (b.testBit 0) := Nat.testBit_xor ..
  simp only [Nat.testBit_zero] at h
  have hx : (a ^^^ b) % 2 = 0 ∨ (a ^^^ b) % 2 = 1 := by omega
  have ha : a % 2 = 0 ∨ a % 2 = 1 := by omega
  have hb : b % 2 = 0 ∨ b % 2 = 1 := by omega
  rw [Nat.add_mod]
  rcases hx with hx | hx <;> rcases ha with ha | ha <;> rcases hb with hb | hb <;> rw [hx, ha, hb] at h ⊢ <;> first | rfl | exact absurd h (by decide)
theorem hv_xor (a b : Nat) : hv (a ^^^ b) = hv a ^^^ hv b := by
  unfold hv
  rw [xor_half, xor_odd]
  have ha : a % 2 = 0 ∨ a % 2 = 1 := by omega
  have hb : b % 2 = 0 ∨ b % 2 = 1 := by omega
  rcases ha with ha | ha <;> rcases hb with hb | hb
  · rw [if_neg (by omega), if_neg (by omega), if_neg (by omega)]
  · rw [if_pos (by omega), if_neg (by omega), if_pos (by omega), Nat.xor_assoc]
  · rw [if_pos (by omega), if_pos (by omega), if_neg (by omega), Nat.xor_assoc, Nat.xor_assoc, Nat.xor_comm 3988292384]
  · rw [if_neg (by omega), if_pos (by omega), if_pos (by omega), Nat.xor_assoc, ← Nat.xor_assoc 3988292384, Nat.xor_comm 3988292384 (b / 2), Nat.xor_assoc, Nat.xor_self, Nat.xor_zero]
theorem hvs_xor (k a b : Nat) : hvs k (a ^^^ b) = hvs k a ^^^ hvs k b := by
  induction k with
  | zero => rfl
  | succ k ih => show hv (hvs k (a ^^^ b)) = hv (hvs k a) ^^^ hv (hvs k b); rw [ih, hv_xor]
theorem xor4 (a b c d : Nat) : (a ^^^ b) ^^^ (c ^^^ d) = (a ^^^ c) ^^^ (b ^^^ d) := by
  rw [Nat.xor_assoc, Nat.xor_assoc, ← Nat.xor_assoc b, Nat.xor_comm b c, Nat.xor_assoc c]
theorem crc_zip (l1 l2 : List Nat) (h : l1.length = l2.length) (a b : Nat) : crc (a ^^^ b) (List.zipWith (· ^^^ ·) l1 l2) = crc a l1 ^^^ crc b l2 := by
  induction l1 generalizing l2 a b with
  | nil =>
    cases l2 with
    | nil => rfl
    | cons y l2 => cases h
  | cons x l1 ih =>
    cases l2 with
    | nil => cases h
    | cons y l2 =>
      have h' : l1.length = l2.length := by simpa using h
      show crc (bstep (a ^^^ b) (x ^^^ y)) (List.zipWith (· ^^^ ·) l1 l2) = crc (bstep a x) l1 ^^^ crc (bstep b y) l2
      rw [show bstep (a ^^^ b) (x ^^^ y) = bstep a x ^^^ bstep b y by unfold bstep; rw [xor4, hvs_xor], ih l2 h']

/-- The number of the first four bytes. -/
def ofN (l : List Nat) : Nat := ((l.getD 0 0 * 256 + l.getD 1 0) * 256 + l.getD 2 0) * 256 + l.getD 3 0
theorem mul_xor (a b c d : Nat) (hb : b < 256) (hd : d < 256) : (a * 256 + b) ^^^ (c * 256 + d) = (a ^^^ c) * 256 + (b ^^^ d) := by
  have hx : b ^^^ d < 2 ^ 8 := Nat.xor_lt_two_pow (n := 8) hb hd
  rw [show a * 256 + b = 2 ^ 8 * a + b by omega, show c * 256 + d = 2 ^ 8 * c + d by omega, show (a ^^^ c) * 256 + (b ^^^ d) = 2 ^ 8 * (a ^^^ c) + (b ^^^ d) by omega]
  apply Nat.eq_of_testBit_eq
  intro j
  rw [Nat.testBit_xor, Nat.testBit_two_pow_mul_add _ hb, Nat.testBit_two_pow_mul_add _ hd, Nat.testBit_two_pow_mul_add _ hx]
  split <;> simp [Nat.testBit_xor]
theorem getD_zip (l1 l2 : List Nat) (h : l1.length = l2.length) (k : Nat) : (List.zipWith (· ^^^ ·) l1 l2).getD k 0 = l1.getD k 0 ^^^ l2.getD k 0 := by
  simp only [List.getD_eq_getElem?_getD, List.getElem?_zipWith]
  by_cases hk : k < l1.length
  · rw [List.getElem?_eq_getElem hk, List.getElem?_eq_getElem (by omega)]; rfl
  · rw [List.getElem?_eq_none (by omega), List.getElem?_eq_none (by omega)]; rfl
theorem getD_lt (l : List Nat) (h : ∀ x ∈ l, x < 256) (k : Nat) : l.getD k 0 < 256 := by
  rw [List.getD_eq_getElem?_getD]
  by_cases hk : k < l.length
  · rw [List.getElem?_eq_getElem hk]; exact h _ (List.getElem_mem hk)
  · rw [List.getElem?_eq_none (by omega)]; decide
theorem ofN_zip (l1 l2 : List Nat) (h : l1.length = l2.length) (h1 : ∀ x ∈ l1, x < 256) (h2 : ∀ x ∈ l2, x < 256) : ofN (List.zipWith (· ^^^ ·) l1 l2) = ofN l1 ^^^ ofN l2 := by
  unfold ofN
  rw [getD_zip l1 l2 h, getD_zip l1 l2 h, getD_zip l1 l2 h, getD_zip l1 l2 h]
  have a0 := getD_lt l1 h1
  have b0 := getD_lt l2 h2
  rw [mul_xor _ _ _ _ (a0 3) (b0 3), mul_xor _ _ _ _ (a0 2) (b0 2), mul_xor _ _ _ _ (a0 1) (b0 1)]

/-- A frame's sum fits. -/
def fitsB (l : List Nat) : Bool := decide (ofN (l.drop 15) = sumN (l.take 15))
def syn (l : List Nat) : Nat := ofN (l.drop 15) ^^^ crc 0 (l.take 15)
theorem syn_zip (l1 l2 : List Nat) (h : l1.length = l2.length) (h1 : ∀ x ∈ l1, x < 256) (h2 : ∀ x ∈ l2, x < 256) : syn (List.zipWith (· ^^^ ·) l1 l2) = syn l1 ^^^ syn l2 := by
  unfold syn
  rw [List.drop_zipWith, List.take_zipWith, ofN_zip _ _ (by simp [h]) (fun x hx => h1 x (List.mem_of_mem_drop hx)) (fun x hx => h2 x (List.mem_of_mem_drop hx)),
    ← xor4]
  congr 1
  exact crc_zip _ _ (by simp [h]) 0 0
theorem top_sub (n : Nat) (h : n < 4294967296) : 4294967295 - n = 4294967295 ^^^ n := by
  apply Nat.eq_of_testBit_eq
  intro j
  rw [Nat.testBit_xor, show 4294967295 - n = 2 ^ 32 - (n + 1) by omega, Nat.testBit_two_pow_sub_succ (by simpa using h), show (4294967295 : Nat) = 2 ^ 32 - 1 by rfl, Nat.testBit_two_pow_sub_one]
  by_cases hj : j < 32
  · simp [hj]
  · have : n.testBit j = false := Nat.testBit_lt_two_pow (Nat.lt_of_lt_of_le h (Nat.pow_le_pow_right (n := 2) (i := 32) (by decide) (by omega)))
    simp [hj, this]
theorem zip_zero (l : List Nat) (k : Nat) (h : l.length = k) : List.zipWith (· ^^^ ·) (List.replicate k 0) l = l := by
  induction l generalizing k with
  | nil => subst h; rfl
  | cons x l ih =>
    subst h
    simp only [List.length_cons, List.replicate_succ, List.zipWith_cons_cons, Nat.zero_xor]
    rw [ih _ rfl]
theorem crc_top (l : List Nat) (k : Nat) (h : l.length = k) : crc 4294967295 l = crc 4294967295 (List.replicate k 0) ^^^ crc 0 l := by
  have h1 := crc_zip (List.replicate k 0) l (by simp [h]) 4294967295 0
  rw [zip_zero l k h] at h1
  exact h1
theorem fits_syn (l : List Nat) (h : l.length = 19) (hb : ∀ x ∈ l, x < 256) : fitsB l = decide (syn l = 4294967295 ^^^ crc 4294967295 (List.replicate 15 0)) := by
  unfold fitsB syn sumN
  have ht : (l.take 15).length = 15 := by simp [h]
  rw [top_sub _ (crc_lt _ _ (by omega) (fun x hx => hb x (List.mem_of_mem_take hx))), crc_top _ 15 ht]
  congr 1
  apply propext
  rw [← Nat.xor_assoc]
  constructor
  · intro e; rw [e, Nat.xor_assoc, Nat.xor_self, Nat.xor_zero]
  · intro e; rw [← e, Nat.xor_assoc, Nat.xor_self, Nat.xor_zero]

/-- One bit of nineteen bytes. -/
def bitL (i : Nat) : List Nat := (List.replicate 19 0).set (i / 8) (2 ^ (i % 8))
/-- l with its bit i turned. -/
def turnL (l : List Nat) (i : Nat) : List Nat := l.set (i / 8) (l.getD (i / 8) 0 ^^^ 2 ^ (i % 8))
theorem turn_zip (l : List Nat) (i : Nat) (h : l.length = 19) : turnL l i = List.zipWith (· ^^^ ·) l (bitL i) := by
  unfold turnL bitL
  apply List.ext_getElem
  · simp [h]
  · intro k h1 h2
    simp only [List.length_set] at h1
    rw [List.getElem_zipWith, List.getElem_set]
    by_cases e : i / 8 = k
    · rw [if_pos e]; subst e; rw [List.getD_eq_getElem?_getD, List.getElem?_eq_getElem h1, List.getElem_set_self]; rfl
    · rw [if_neg e, List.getElem_set_ne e, List.getElem_replicate, Nat.xor_zero]
theorem bitL_len (i : Nat) : (bitL i).length = 19 := by simp [bitL]
theorem pow_lt (i : Nat) : 2 ^ (i % 8) < 256 := by
  have h : i % 8 ≤ 7 := by omega
  exact Nat.lt_of_le_of_lt (Nat.pow_le_pow_right (n := 2) (by decide) h) (by decide)
theorem bitL_lt (i : Nat) : ∀ x ∈ bitL i, x < 256 := by
  intro x hx
  rcases List.mem_or_eq_of_mem_set hx with h | h
  · rw [(List.mem_replicate.1 h).2]; decide
  · rw [h]; exact pow_lt i
theorem turn_len (l : List Nat) (i : Nat) : (turnL l i).length = l.length := by simp [turnL]
theorem turn_lt (l : List Nat) (i : Nat) (h : ∀ x ∈ l, x < 256) : ∀ x ∈ turnL l i, x < 256 := by
  intro x hx
  rcases List.mem_or_eq_of_mem_set hx with h1 | h1
  · exact h x h1
  · rw [h1]; exact Nat.xor_lt_two_pow (n := 8) (getD_lt l h _) (pow_lt i)
theorem syn_turn (l : List Nat) (i : Nat) (h : l.length = 19) (hb : ∀ x ∈ l, x < 256) : syn (turnL l i) = syn l ^^^ syn (bitL i) := by
  rw [turn_zip l i h, syn_zip l _ (by rw [h, bitL_len]) hb (bitL_lt i)]

def syns : List Nat := (List.range 152).map fun i => syn (bitL i)
def distinct : List Nat → Bool
  | [] => true
  | x :: l => l.all (fun y => !(Nat.beq x y)) && distinct l
theorem distinct_at (l : List Nat) (h : distinct l = true) (i k : Nat) (x : Nat) (hi : l[i]? = some x) (hk : l[k]? = some x) : i = k := by
  induction l generalizing i k with
  | nil => simp at hi
  | cons y l ih =>
    simp only [distinct, Bool.and_eq_true, List.all_eq_true] at h
    cases i with
    | zero =>
      cases k with
      | zero => rfl
      | succ k =>
        simp only [List.getElem?_cons_zero, Option.some.injEq] at hi
        simp only [List.getElem?_cons_succ] at hk
        have := h.1 x (List.mem_of_getElem? hk)
        subst hi
        simp at this
    | succ i =>
      cases k with
      | zero =>
        simp only [List.getElem?_cons_zero, Option.some.injEq] at hk
        simp only [List.getElem?_cons_succ] at hi
        have := h.1 x (List.mem_of_getElem? hi)
        subst hk
        simp at this
      | succ k =>
        simp only [List.getElem?_cons_succ] at hi hk
        rw [ih h.2 i k hi hk]
theorem syns_distinct : distinct (0 :: syns) = true := by decide +kernel
theorem syns_at (i : Nat) (h : i < 152) : (0 :: syns)[i + 1]? = some (syn (bitL i)) := by
  unfold syns
  simp [h]
theorem syn_ne (i : Nat) (h : i < 152) : syn (bitL i) ≠ 0 := fun e => by
  have := distinct_at _ syns_distinct (i + 1) 0 0 (by rw [syns_at i h, e]) rfl
  omega
theorem syn_two (i k : Nat) (hi : i < 152) (hk : k < 152) (h : i ≠ k) : syn (bitL i) ≠ syn (bitL k) := fun e => by
  have := distinct_at _ syns_distinct (i + 1) (k + 1) _ (by rw [syns_at i hi, e]) (syns_at k hk)
  omega
theorem xor_eq_self (a b : Nat) (h : a ^^^ b = a) : b = 0 := by
  have : a ^^^ (a ^^^ b) = a ^^^ a := by rw [h]
  rw [← Nat.xor_assoc, Nat.xor_self, Nat.zero_xor] at this
  exact this
/-- A frame of which one bit, or two, were turned doesn't fit. -/
theorem turn_one (l : List Nat) (i : Nat) (h : l.length = 19) (hb : ∀ x ∈ l, x < 256) (hf : fitsB l = true) (hi : i < 152) : fitsB (turnL l i) = false := by
  rw [fits_syn l h hb, decide_eq_true_eq] at hf
  rw [fits_syn _ (by rw [turn_len, h]) (turn_lt l i hb), syn_turn l i h hb, decide_eq_false_iff_not, ← hf]
  exact fun e => syn_ne i hi (xor_eq_self _ _ e)
theorem turn_two (l : List Nat) (i k : Nat) (h : l.length = 19) (hb : ∀ x ∈ l, x < 256) (hf : fitsB l = true) (hi : i < 152) (hk : k < 152) (hne : i ≠ k) : fitsB (turnL (turnL l i) k) = false := by
  rw [fits_syn l h hb, decide_eq_true_eq] at hf
  rw [fits_syn _ (by rw [turn_len, turn_len, h]) (turn_lt _ k (turn_lt l i hb)), syn_turn _ k (by rw [turn_len, h]) (turn_lt l i hb), syn_turn l i h hb, decide_eq_false_iff_not, ← hf]
  intro e
  rw [Nat.xor_assoc] at e
  have h0 := xor_eq_self _ _ e
  refine syn_two i k hi hk hne ?_
  have : (syn (bitL i) ^^^ syn (bitL k)) ^^^ syn (bitL k) = 0 ^^^ syn (bitL k) := by rw [h0]
  rw [Nat.xor_assoc, Nat.xor_self, Nat.xor_zero, Nat.zero_xor] at this
  exact this
end Go.Proofs.Ytpmheaeiemnjeaa
