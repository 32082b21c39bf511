/- The walk of CoreAnswers, whole: for every program that lies in memory, every core whose numbers fit, any answers and count of words. -/
import Derived.Test.YtdebkncjmbhneaaAnswersAt
import Derived.Test.YtdebkncjmbhneaaAnswersAf
import Derived.Test.YtdebkncjmbhneaaAnswersBt
import Derived.Test.YtdebkncjmbhneaaAnswersBf
namespace Go.Proofs.Ytdebkncjmbhneaa.coreAnswers
set_option linter.unusedVariables false
open Go.ChangeShapes Go.WideShapes Go.ChangeAt Go.RowKit

theorem walk (p : Option Addr) (cap : Nat) (l : List I5) (c : Cor) (a b n : Int) (w : World) (hp : Prg w p l) (hf : c.Fits) (n0 : 0 ≤ n) (n1 : n ≤ 255) :
    Calls Try.prog 5 #[.slice p l.length cap, .agg c.row, .int .u32 a, .int .u32 b, .int .u8 n] w fun e w' => e = .returned (.bool true) ∧ Below w.heap.size w w' := by
  obtain ⟨r, pc, h⟩ := c
  by_cases hlen : 80 < l.length
  · exact walk_long p _ cap r pc h a b n w hlen
  have hlen' : l.length ≤ 80 := by omega
  cases hr : coreB l ⟨r, pc, h⟩ with
  | false => exact walk_wrong p _ cap l r pc h a b n w hlen' rfl hr hp
  | true =>
    obtain ⟨k, q, v, o, hw⟩ : ∃ k q v o, wantOf l ⟨r, pc, h⟩ (n % 64 + 1) = ⟨k, q, v, o⟩ := ⟨_, _, _, _, rfl⟩
    have hkk : (wantOf l ⟨r, pc, h⟩ (n % 64 + 1)).kind = k := by rw [hw]
    by_cases hk : k = 1 ∨ k = 3
    · obtain ⟨_, A, px, hA, hd⟩ := done_read (l := l) (c := ⟨r, pc, h⟩) (n := n % 64 + 1) (by rw [hkk]; exact hk)
      have hxy : ∀ j, (if j = A then a else r j) ≠ (if j = A then b else r j) → (if j = A then a else r j) = a ∧ (if j = A then b else r j) = b := fun j hj => by
        by_cases e : j = A
        · rw [if_pos e, if_pos e]; exact ⟨rfl, rfl⟩
        · rw [if_neg e, if_neg e] at hj; exact absurd rfl hj
      by_cases hab : a = b
      · have e : (a != b) = false := by simpa using hab
        by_cases h1 : k = 1
        · exact walk_read1f p _ cap l r pc h a b n (fun j => if j = A then a else r j) px false (fun j => if j = A then b else r j) px false w hlen' rfl hr hp n0 n1 hf (hd a) (hd b) k q v o hw (by simpa using h1) e (by simp) rfl hxy
        · exact walk_read3f p _ cap l r pc h a b n (fun j => if j = A then a else r j) px false (fun j => if j = A then b else r j) px false w hlen' rfl hr hp n0 n1 hf (hd a) (hd b) k q v o hw (by simpa using h1) (by simp; omega) e (by simp) rfl hxy
      · have e : (a != b) = true := by simpa using hab
        have hE : eqC ⟨fun j => if j = A then a else r j, px, false⟩ ⟨fun j => if j = A then b else r j, px, false⟩ = false := eqC_false A hA (by simpa using hab)
        by_cases h1 : k = 1
        · exact walk_read1t p _ cap l r pc h a b n (fun j => if j = A then a else r j) px false (fun j => if j = A then b else r j) px false w hlen' rfl hr hp n0 n1 hf (hd a) (hd b) k q v o hw (by simpa using h1) e hE (by simp) rfl hxy
        · exact walk_read3t p _ cap l r pc h a b n (fun j => if j = A then a else r j) px false (fun j => if j = A then b else r j) px false w hlen' rfl hr hp n0 n1 hf (hd a) (hd b) k q v o hw (by simpa using h1) (by simp; omega) e hE (by simp) rfl hxy
    · have hs := done_plain_same (l := l) (c := ⟨r, pc, h⟩) (n := n % 64 + 1) a b (by rw [hkk]; omega) (by rw [hkk]; omega)
      obtain ⟨x, px, hx, hd⟩ : ∃ x px hx, doneOf l ⟨r, pc, h⟩ a = ⟨x, px, hx⟩ := ⟨_, _, _, rfl⟩
      exact walk_plain p _ cap l r pc h a b n x px hx x px hx w hlen' rfl hr hp n0 n1 hf hd (hs ▸ hd) k q v o hw (by simp; omega) (by simp; omega) (eqC_refl _)
end Go.Proofs.Ytdebkncjmbhneaa.coreAnswers
