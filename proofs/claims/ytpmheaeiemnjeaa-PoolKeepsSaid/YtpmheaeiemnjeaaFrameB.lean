/- Whether a message may be: frame.May and the document's May; no condition but that the numbers fit. -/
import Derived.Test.YtpmheaeiemnjeaaFrameA
import Derived.Test.YtpmheaeiemnjeaaBlk
namespace Go.Proofs.Ytpmheaeiemnjeaa
set_option linter.unusedVariables false
open Go.ChangeShapes Go.WideShapes Go.ChangeAt Go.RowKit

/-- A message. -/
structure Msg where
  k : Int
  f : Int
  t : Int
  l : Int
  o : Int
  a : Int
  own : Bool
  n : Nat
  v : Nat
def Msg.row (m : Msg) : Array Value := #[.int .i64 m.k, .int .i64 m.f, .int .i64 m.t, .int .i64 m.l, .int .i64 m.o, .int .i64 m.a, .bool m.own, .int .u32 m.n, .int .u32 m.v]
def byteB (n : Int) : Bool := decide (0 ≤ n ∧ n ≤ 255)
def mayM (m : Msg) : Bool := decide (1 ≤ m.k ∧ m.k ≤ 11) && (byteB m.f && (byteB m.t && (byteB m.l && (byteB m.o && byteB m.a))))

def farB (n : Int) : Bool := decide (n < 0) || decide (255 < n)
theorem far_any (n : Int) (w : World) : Calls Try.prog 49 #[.int .i64 n] w fun e w' => e = .returned (.bool (farB n)) ∧ w = w' := by
  by_cases h : n < 0
  · have e : farB n = true := by unfold farB; rw [decide_eq_true h]; rfl
    rw [e]; clear e
    go_enter Try.func49, Try.ntmps49
    go_wp2
    go_ret
    exact ⟨rfl, rfl⟩
  · by_cases h2 : 255 < n
    · have e : farB n = true := by unfold farB; rw [decide_eq_true h2, Bool.or_true]
      rw [e]; clear e
      go_enter Try.func49, Try.ntmps49
      go_wp2
      go_ret
      exact ⟨rfl, rfl⟩
    · have e : farB n = false := by unfold farB; rw [decide_eq_false h2, decide_eq_false h]; rfl
      rw [e]; clear e
      go_enter Try.func49, Try.ntmps49
      go_wp2
      go_ret
      exact ⟨rfl, rfl⟩
/-- The place of the first that is far. -/
def idxF : List Int → Nat → Int
  | [], _ => -1
  | x :: r, k => if farB x then (k : Int) else idxF r (k + 1)
theorem idx_any (l : List Int) (k : Nat) : decide (0 ≤ idxF l k) = l.any farB := by
  induction l generalizing k with
  | nil => rfl
  | cons x r ih =>
    unfold idxF
    rw [List.any_cons]
    cases hx : farB x with
    | true => simp
    | false => simp only [Bool.false_eq_true, if_false, Bool.false_or]; exact ih (k + 1)
theorem drop_cons (l : List Int) (k : Nat) (h : k < l.length) : l.drop k = l.getD k 0 :: l.drop (k + 1) := by
  rw [List.drop_eq_getElem_cons h, List.getD_eq_getElem?_getD, List.getElem?_eq_getElem h]; rfl

set_option maxHeartbeats 1000000 in
theorem index_any (B len : Nat) (l : List Int) (w : World) (hz : l.length = len) (hm : len ≤ 1000) (h : ∀ k, k < len → w.cell? ⟨B, k, none⟩ = some (.int .i64 (l.getD k 0))) :
    Calls Try.prog 52 #[.slice (some ⟨B, 0, none⟩) len len, .func (.func 49) #[] #[]] w fun e w' => e = .returned (.int .i64 (idxF l 0)) ∧ w = w' := by
  have HZ := Lib.hid hz
  have HB := Lib.hid h
  obtain ⟨r, hr⟩ : ∃ r, r = idxF l 0 := ⟨_, rfl⟩
  rw [← hr]
  have HR := Lib.hid hr
  clear h hz hr
  go_enter Try.func52, Try.ntmps52
  go_wp2
  go_loop [8] (fun i => ∃ k : Nat, k ≤ len ∧ i = .int .i64 k ∧ Hid (r = idxF (l.drop k) k)) (fun i => len - (intOf i).toNat)
  case atStart => exact ⟨0, Nat.zero_le _, rfl, by rw [List.drop_zero]; exact HR⟩
  case round =>
    obtain ⟨k, hk, rfl, hi⟩ := hrel
    by_cases hlt : k < len
    · have hck := HB.out k hlt
      have hd := drop_cons l k (by rw [HZ.out]; exact hlt)
      rw [hd] at hi
      obtain ⟨x, hx⟩ : ∃ x, x = l.getD k 0 := ⟨_, rfl⟩
      rw [← hx] at hi hck
      clear hd hx
      cases hf : farB x with
      | true =>
        have he := hi.out
        unfold idxF at he
        rw [if_pos hf] at he
        have HF := Lib.hid hf
        subst he
        clear hf hi HR
        go_wp2_with (first | (go_at_call 49; refine (far_any _ _).mono ?_; rintro e w' ⟨rfl, rfl⟩; rw [HF.out]))
        go_ret
        exact ⟨rfl, rfl⟩
      | false =>
        have HI : Hid (r = idxF (l.drop (k + 1)) (k + 1)) := Lib.hid (by
          have he := hi.out
          unfold idxF at he
          rw [if_neg (by rw [hf]; decide)] at he
          rw [he])
        have HF := Lib.hid hf
        clear hf hi
        go_wp2_with (first | (go_at_call 49; refine (far_any _ _).mono ?_; rintro e w' ⟨rfl, rfl⟩; rw [HF.out]))
        go_round
        case rel => exact ⟨k + 1, by omega, by go_num, HI⟩
        case measure => simp [intOf]; omega
    · have hd : l.drop k = [] := List.drop_eq_nil_of_le (by rw [HZ.out]; omega)
      rw [hd] at hi
      have he : r = -1 := hi.out
      subst he
      clear hi hd HR
      go_wp2
      go_ret
      exact ⟨rfl, rfl⟩
theorem contains_any (B len : Nat) (l : List Int) (w : World) (hz : l.length = len) (hm : len ≤ 1000) (h : ∀ k, k < len → w.cell? ⟨B, k, none⟩ = some (.int .i64 (l.getD k 0))) :
    Calls Try.prog 48 #[.slice (some ⟨B, 0, none⟩) len len, .func (.func 49) #[] #[]] w fun e w' => e = .returned (.bool (l.any farB)) ∧ w = w' := by
  have hi := index_any B len l w hz hm h
  have he := idx_any l 0
  obtain ⟨r, hr⟩ : ∃ r, r = idxF l 0 := ⟨_, rfl⟩
  rw [← hr] at hi he
  rw [← he]
  have HI := Lib.hid hi
  clear hi he hr h hz hm
  go_enter Try.func48, Try.ntmps48
  go_wp2_with (first | (go_at_call 52; refine HI.out.mono ?_; rintro e w' ⟨rfl, rfl⟩))
  go_ret
  exact ⟨rfl, rfl⟩

set_option maxHeartbeats 1000000 in
theorem may_any (m : Msg) (w : World) : Calls Try.prog 37 #[.agg m.row] w fun e w' => e = .returned (.bool (mayM m)) ∧ Below w.heap.size w w' := by
  obtain ⟨k, f, t, l, o, a, own, n, v⟩ := m
  unfold Msg.row mayM
  simp only
  by_cases h1 : k < 1
  · have e : decide (1 ≤ k ∧ k ≤ 11) = false := decide_eq_false (by omega)
    rw [e, Bool.false_and]; clear e
    go_enter Try.func37, Try.ntmps37
    go_wp2
    go_ret
    exact ⟨rfl, (Below.refl _ _).alloc (Nat.le_refl _) _⟩
  · by_cases h2 : 11 < k
    · have e : decide (1 ≤ k ∧ k ≤ 11) = false := decide_eq_false (by omega)
      rw [e, Bool.false_and]; clear e
      go_enter Try.func37, Try.ntmps37
      go_wp2
      go_ret
      exact ⟨rfl, (Below.refl _ _).alloc (Nat.le_refl _) _⟩
    · have e : decide (1 ≤ k ∧ k ≤ 11) = true := decide_eq_true (by omega)
      rw [e, Bool.true_and]; clear e
      have hfar : ∀ n : Int, byteB n = !farB n := fun n => by
        unfold byteB farB
        by_cases h0 : n < 0
        · rw [decide_eq_true h0, decide_eq_false (show ¬ (0 ≤ n ∧ n ≤ 255) by omega)]; rfl
        · by_cases h3 : 255 < n
          · rw [decide_eq_true h3, Bool.or_true, decide_eq_false (show ¬ (0 ≤ n ∧ n ≤ 255) by omega)]; rfl
          · rw [decide_eq_false h3, decide_eq_false h0, decide_eq_true (show 0 ≤ n ∧ n ≤ 255 by omega)]; rfl
      have hany : (byteB f && (byteB t && (byteB l && (byteB o && byteB a)))) = !([f, t, l, o, a].any farB) := by
        rw [hfar, hfar, hfar, hfar, hfar]; simp [Bool.not_or]
      rw [hany]
      obtain ⟨r, hr⟩ : ∃ r, r = [f, t, l, o, a].any farB := ⟨_, rfl⟩
      rw [← hr]
      have HR := Lib.hid hr
      clear hr hany hfar
      go_enter Try.func37, Try.ntmps37
      go_wp2_with fail
      refine (contains_any _ 5 [f, t, l, o, a] _ rfl (by decide) ?_).mono ?_
      · intro k hk
        have : k = 0 ∨ k = 1 ∨ k = 2 ∨ k = 3 ∨ k = 4 := by omega
        rcases this with rfl | rfl | rfl | rfl | rfl <;> simp [World.cell?_alloc_new]
      rintro e w' ⟨rfl, rfl⟩
      rw [← HR.out]
      go_wp2
      go_ret
      exact ⟨rfl, ((Below.refl _ _).alloc (Nat.le_refl _) _).alloc (by simp) _⟩
end Go.Proofs.Ytpmheaeiemnjeaa
