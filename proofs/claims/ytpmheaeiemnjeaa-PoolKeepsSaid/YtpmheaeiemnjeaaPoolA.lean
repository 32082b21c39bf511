/- What package pool asks of a pool: whether it is right, what room it has, whether there is such a frame; pools in memory, as they read; no condition but that they read and are of 100 frames of 100 bytes at most. -/
import Derived.Test.YtpmheaeiemnjeaaPoolNum
namespace Go.Proofs.Ytpmheaeiemnjeaa
set_option linter.unusedVariables false
open Go.ChangeShapes Go.WideShapes Go.ChangeAt Go.RowKit

def vz : Value := .bool false
/-- A value that reads as a frame. -/
def Fs (w : World) (v : Value) (l : List Nat) : Prop := ∃ p c, v = .slice p l.length c ∧ l.length ≤ c ∧ Byts w p l
theorem Fs.below {w w' : World} {v : Value} {l : List Nat} (h : Fs w v l) (hb : Below w.heap.size w w') : Fs w' v l := by
  obtain ⟨p, c, e, hc, h⟩ := h
  exact ⟨p, c, e, hc, h.below hb⟩
theorem Fs.one {w : World} {v : Value} {l : List Nat} (h : Fs w v l) : v.oneCell' = true := by
  obtain ⟨p, c, rfl, _⟩ := h
  rfl
/-- A pool that reads as these frames. -/
structure Pl (w : World) (p : Option Addr) (xs : List Value) (L : List (List Nat)) : Prop where
  len : xs.length = L.length
  sl : Sl w p L.length xs
  fs : ∀ k, k < L.length → Fs w (xs.getD k vz) (L.getD k [])
  n100 : L.length ≤ 100
  l100 : ∀ l ∈ L, l.length ≤ 100
theorem Pl.below {w w' : World} {p : Option Addr} {xs : List Value} {L : List (List Nat)} (h : Pl w p xs L) (hb : Below w.heap.size w w') : Pl w' p xs L :=
  ⟨h.len, h.sl.below hb, fun k hk => (h.fs k hk).below hb, h.n100, h.l100⟩
theorem Pl.one {w : World} {p : Option Addr} {xs : List Value} {L : List (List Nat)} (h : Pl w p xs L) : ∀ u ∈ xs, u.oneCell' = true := by
  intro u hu
  obtain ⟨k, hk, rfl⟩ := List.getElem_of_mem hu
  have := (h.fs k (by rw [← h.len]; exact hk)).one
  rwa [List.getD_eq_getElem?_getD, List.getElem?_eq_getElem hk] at this
/-- One of its cells. -/
theorem Pl.at_ {w : World} {p : Option Addr} {xs : List Value} {L : List (List Nat)} (h : Pl w p xs L) (h0 : 0 < L.length) : ∃ b off, b < w.heap.size ∧ p = some ⟨b, off, none⟩ ∧ ∀ k, k < L.length → w.cell? ⟨b, off + k, none⟩ = some (xs.getD k vz) := by
  obtain ⟨b, off, h1, h2, h3⟩ := h.sl h0
  refine ⟨b, off, h1, h2, fun k hk => ?_⟩
  rw [h3 k (by rw [h.len]; exact hk), List.getD_eq_getElem?_getD, List.getElem?_eq_getElem (by rw [h.len]; exact hk)]
  rfl
theorem Pl.nil (w : World) (p : Option Addr) : Pl w p [] [] := ⟨rfl, Sl.empty _ _ _, fun k hk => absurd hk (Nat.not_lt_zero _), by decide, fun l hl => by cases hl⟩

theorem wrong_any (p : Option Addr) (len c : Nat) (w : World) (hm : len ≤ 100) : Calls Try.prog 35 #[.slice p len c] w fun e w' => e = .returned (.bool (!decide (len = 19))) ∧ w = w' := by
  by_cases h : len = 19
  · subst h
    go_enter Try.func35, Try.ntmps35
    go_wp2
    go_ret
    exact ⟨rfl, rfl⟩
  · rw [decide_eq_false h]
    have h2 : ((len : Int) != 19) = true := by simp; omega
    clear h
    go_enter Try.func35, Try.ntmps35
    go_wp2
    go_ret
    exact ⟨rfl, rfl⟩

set_option maxHeartbeats 1000000 in
theorem indexp_any (p : Option Addr) (n c : Nat) (xs : List Value) (L : List (List Nat)) (w : World) (hz : L.length = n) (h : Pl w p xs L) :
    Calls Try.prog 47 #[.slice p n c, .func (.func 35) #[] #[]] w fun e w' => e = .returned (.int .i64 (idxP L 0)) ∧ w = w' := by
  have HZ := Lib.hid hz
  have HB := Lib.hid h
  have hm : n ≤ 100 := by rw [← hz]; exact h.n100
  obtain ⟨r, hr⟩ : ∃ r, r = idxP L 0 := ⟨_, rfl⟩
  rw [← hr]
  have HR := Lib.hid hr
  clear h hz hr
  go_enter Try.func47, Try.ntmps47
  go_wp2
  go_loop [8] (fun i => ∃ k : Nat, k ≤ n ∧ i = .int .i64 k ∧ Hid (r = idxP (L.drop k) k)) (fun i => n - (intOf i).toNat)
  case atStart => exact ⟨0, Nat.zero_le _, rfl, by rw [List.drop_zero]; exact HR⟩
  case round =>
    obtain ⟨k, hk, rfl, hi⟩ := hrel
    by_cases hlt : k < n
    · obtain ⟨b, off, hb, rfl, hcell⟩ := HB.out.at_ (by rw [HZ.out]; omega)
      have hck := hcell k (by rw [HZ.out]; exact hlt)
      have hl := HB.out.l100 _ (mem_getD L [] k (by rw [HZ.out]; exact hlt))
      obtain ⟨q, c2, hv, hc2, hby⟩ := HB.out.fs k (by rw [HZ.out]; exact hlt)
      have hd := drop_getD L [] k (by rw [HZ.out]; exact hlt)
      rw [hd] at hi
      rw [hv] at hck
      obtain ⟨x, hx⟩ : ∃ x, x = L.getD k [] := ⟨_, rfl⟩
      rw [← hx] at hi hck hl
      clear hd hx hv hby hcell hc2 hb
      by_cases hf : x.length = 19
      · have HI : Hid (r = idxP (L.drop (k + 1)) (k + 1)) := Lib.hid (by
          have he := hi.out
          unfold idxP at he
          rw [if_pos hf] at he
          rw [he])
        have HF := Lib.hid hf
        clear hf hi
        go_wp2_with (first | (go_at_call 35; refine (wrong_any _ _ _ _ hl).mono ?_; rintro e w' ⟨rfl, rfl⟩; rw [decide_eq_true HF.out, Bool.not_true]))
        go_round
        case rel => exact ⟨k + 1, by omega, by go_num, HI⟩
        case measure => simp [intOf]; omega
      · have he := hi.out
        unfold idxP at he
        rw [if_neg hf] at he
        have HF := Lib.hid hf
        subst he
        clear hf hi HR
        go_wp2_with (first | (go_at_call 35; refine (wrong_any _ _ _ _ hl).mono ?_; rintro e w' ⟨rfl, rfl⟩; rw [decide_eq_false HF.out, Bool.not_false]))
        go_ret
        exact ⟨rfl, rfl⟩
    · have hd : L.drop k = [] := List.drop_eq_nil_of_le (by rw [HZ.out]; omega)
      rw [hd] at hi
      have he : r = -1 := hi.out
      subst he
      clear hi hd HR
      go_wp2
      go_ret
      exact ⟨rfl, rfl⟩
theorem containsp_any (p : Option Addr) (n c : Nat) (xs : List Value) (L : List (List Nat)) (w : World) (hz : L.length = n) (h : Pl w p xs L) :
    Calls Try.prog 34 #[.slice p n c, .func (.func 35) #[] #[]] w fun e w' => e = .returned (.bool (!(L.all fun l => decide (l.length = 19)))) ∧ w = w' := by
  have hi := indexp_any p n c xs L w hz h
  have he := idxP_any L 0
  obtain ⟨r, hr⟩ : ∃ r, r = idxP L 0 := ⟨_, rfl⟩
  rw [← hr] at hi he
  rw [← he]
  have HI := Lib.hid hi
  clear hi he hr h hz
  go_enter Try.func34, Try.ntmps34
  go_wp2_with (first | (go_at_call 47; refine HI.out.mono ?_; rintro e w' ⟨rfl, rfl⟩))
  go_ret
  exact ⟨rfl, rfl⟩
theorem pright_any (p : Option Addr) (n c : Nat) (xs : List Value) (L : List (List Nat)) (w : World) (hz : L.length = n) (h : Pl w p xs L) :
    Calls Try.prog 20 #[.agg #[.slice p n c]] w fun e w' => e = .returned (.bool (rightP L)) ∧ Below w.heap.size w w' := by
  have hm : n ≤ 100 := by rw [← hz]; exact h.n100
  have HC := Lib.hid (fun w' hb => containsp_any p n c xs L w' hz (h.below hb))
  by_cases h64 : (n : Int) ≤ 64
  · have e : rightP L = (L.all fun l => decide (l.length = 19)) := by unfold rightP; rw [decide_eq_true (by omega), Bool.true_and]
    rw [e]
    obtain ⟨b, hb⟩ : ∃ b, b = (L.all fun l => decide (l.length = 19)) := ⟨_, rfl⟩
    rw [← hb] at HC ⊢
    clear e hb h hz
    go_enter Try.func20, Try.ntmps20
    go_wp2_with fail
    refine (HC.out _ ((Below.refl _ _).alloc (Nat.le_refl _) _)).mono ?_
    rintro e w' ⟨rfl, rfl⟩
    go_wp2
    go_ret
    exact ⟨rfl, (Below.refl _ _).alloc (Nat.le_refl _) _⟩
  · have e : rightP L = false := by unfold rightP; rw [decide_eq_false (by omega), Bool.false_and]
    rw [e]
    clear e h hz HC
    go_enter Try.func20, Try.ntmps20
    go_wp2_with fail
    go_ret
    exact ⟨rfl, (Below.refl _ _).alloc (Nat.le_refl _) _⟩
theorem room_any (p : Option Addr) (n c : Nat) (xs : List Value) (L : List (List Nat)) (w : World) (hz : L.length = n) (h : Pl w p xs L) :
    Calls Try.prog 21 #[.agg #[.slice p n c]] w fun e w' => e = .returned (.int .i64 (roomP L)) ∧ Below w.heap.size w w' := by
  have hm : n ≤ 100 := by rw [← hz]; exact h.n100
  have HC := Lib.hid (fun w' hb => pright_any p n c xs L w' hz (h.below hb))
  unfold roomP
  rw [hz]
  obtain ⟨b, hb⟩ : ∃ b, b = rightP L := ⟨_, rfl⟩
  rw [← hb] at HC ⊢
  clear hb h hz
  cases b with
  | false =>
    rw [if_neg (by decide)]
    go_enter Try.func21, Try.ntmps21
    go_wp2_with fail
    refine (HC.out _ ((Below.refl _ _).alloc (Nat.le_refl _) _)).mono ?_
    rintro e w' ⟨rfl, hb⟩
    have HB : Hid (Below w.heap.size w w') := ((Below.refl _ _).alloc (Nat.le_refl _) _).trans (hb.mono (by simp))
    clear hb
    go_wp2
    go_ret
    exact ⟨rfl, HB.out⟩
  | true =>
    rw [if_pos rfl]
    go_enter Try.func21, Try.ntmps21
    go_wp2_with fail
    refine (HC.out _ ((Below.refl _ _).alloc (Nat.le_refl _) _)).mono ?_
    rintro e w' ⟨rfl, hb⟩
    have HB : Hid (Below w.heap.size w w') := ((Below.refl _ _).alloc (Nat.le_refl _) _).trans (hb.mono (by simp))
    have hk := (Blk.track1 hb).c
    clear hb
    go_wp2
    go_ret
    exact ⟨by first | rfl | (go_num; done), HB.out⟩
theorem find_any (p : Option Addr) (n c : Nat) (xs : List Value) (L : List (List Nat)) (k : Int) (w : World) (hz : L.length = n) (h : Pl w p xs L) :
    Calls Try.prog 31 #[.agg #[.slice p n c], .int .i64 k] w fun e w' => e = .returned (.int .i64 (checkP L k)) ∧ Below w.heap.size w w' := by
  have hm : n ≤ 100 := by rw [← hz]; exact h.n100
  have HC := Lib.hid (fun w' hb => pright_any p n c xs L w' hz (h.below hb))
  unfold checkP
  rw [hz]
  obtain ⟨b, hb⟩ : ∃ b, b = rightP L := ⟨_, rfl⟩
  rw [← hb] at HC ⊢
  clear hb h hz
  cases b with
  | false =>
    rw [if_neg (by decide)]
    go_enter Try.func31, Try.ntmps31
    go_wp2_with fail
    refine (HC.out _ ((Below.refl _ _).alloc (Nat.le_refl _) _)).mono ?_
    rintro e w' ⟨rfl, hb⟩
    have HB : Hid (Below w.heap.size w w') := ((Below.refl _ _).alloc (Nat.le_refl _) _).trans (hb.mono (by simp))
    clear hb
    go_wp2
    go_ret
    exact ⟨rfl, HB.out⟩
  | true =>
    rw [if_pos rfl]
    by_cases h0 : k < 0
    · rw [if_pos (.inl h0)]
      go_enter Try.func31, Try.ntmps31
      go_wp2_with fail
      refine (HC.out _ ((Below.refl _ _).alloc (Nat.le_refl _) _)).mono ?_
      rintro e w' ⟨rfl, hb⟩
      have HB : Hid (Below w.heap.size w w') := ((Below.refl _ _).alloc (Nat.le_refl _) _).trans (hb.mono (by simp))
      have hk := (Blk.track1 hb).c
      clear hb
      go_wp2
      go_ret
      exact ⟨rfl, HB.out⟩
    · by_cases h1 : (n : Int) ≤ k
      · rw [if_pos (.inr h1)]
        go_enter Try.func31, Try.ntmps31
        go_wp2_with fail
        refine (HC.out _ ((Below.refl _ _).alloc (Nat.le_refl _) _)).mono ?_
        rintro e w' ⟨rfl, hb⟩
        have HB : Hid (Below w.heap.size w w') := ((Below.refl _ _).alloc (Nat.le_refl _) _).trans (hb.mono (by simp))
        have hk := (Blk.track1 hb).c
        clear hb
        go_wp2
        go_ret
        exact ⟨rfl, HB.out⟩
      · rw [if_neg (by omega)]
        have e0 : decide (k < 0) = false := decide_eq_false h0
        have e1 : decide ((n : Int) ≤ k) = false := decide_eq_false h1
        clear h0 h1
        go_enter Try.func31, Try.ntmps31
        go_wp2_with fail
        refine (HC.out _ ((Below.refl _ _).alloc (Nat.le_refl _) _)).mono ?_
        rintro e w' ⟨rfl, hb⟩
        have HB : Hid (Below w.heap.size w w') := ((Below.refl _ _).alloc (Nat.le_refl _) _).trans (hb.mono (by simp))
        have hk := (Blk.track1 hb).c
        clear hb
        go_wp2
        go_ret
        exact ⟨rfl, HB.out⟩
end Go.Proofs.Ytpmheaeiemnjeaa
