/- What is true of what a core wants and becomes: plain facts on numbers, no program in sight. -/
import Derived.Test.YtdebkncjmbhneaaCoreNum
namespace Go.Proofs.Ytdebkncjmbhneaa
set_option linter.unusedVariables false

theorem kind_read {x : I5} {c : Cor} {n : Int} : ((wantX x c n).kind = 1 ↔ x.op = 9) ∧ ((wantX x c n).kind = 3 ↔ x.op = 11) := by
  unfold wantX
  by_cases h9 : x.op = 9
  · rw [if_pos h9]; exact ⟨⟨fun _ => h9, fun _ => rfl⟩, ⟨fun h => by simp at h, fun h => by omega⟩⟩
  by_cases h10 : x.op = 10
  · rw [if_neg h9, if_pos h10]; simp only; omega
  by_cases h11 : x.op = 11
  · rw [if_neg h9, if_neg h10, if_pos h11]; exact ⟨⟨fun h => by simp at h, fun h => by omega⟩, ⟨fun _ => h11, fun _ => rfl⟩⟩
  by_cases h15 : x.op = 15
  · rw [if_neg h9, if_neg h10, if_neg h11, if_pos h15]; simp only; omega
  by_cases h16 : x.op = 16
  · rw [if_neg h9, if_neg h10, if_neg h11, if_neg h15, if_pos h16]; simp only; omega
  rw [if_neg h9, if_neg h10, if_neg h11, if_neg h15, if_neg h16]; simp only; omega

/-- Where a core doesn't read, what it is answered doesn't count. -/
theorem done_plain_same {l : List I5} {c : Cor} {n : Int} (a b : Int) (h1 : (wantOf l c n).kind ≠ 1) (h3 : (wantOf l c n).kind ≠ 3) : doneOf l c a = doneOf l c b := by
  unfold doneOf wantOf at *
  cases hb : (c.h || !coreB l c) with
  | true => rfl
  | false =>
    rw [hb] at h1 h3
    rw [if_neg (by decide)] at h1 h3
    rw [if_neg (by decide), if_neg (by decide)]
    have k1 : (insAt l c).op ≠ 9 := fun h => h1 (kind_read.1.2 h)
    have k3 : (insAt l c).op ≠ 11 := fun h => h3 (kind_read.2.2 h)
    unfold doneX madeV
    rw [if_neg (c := (insAt l c).op = 9 ∨ (insAt l c).op = 11) (by omega), if_neg (c := (insAt l c).op = 9 ∨ (insAt l c).op = 11) (by omega)]

/-- Where it reads, one register becomes what it is answered; all else is as if it were answered anything. -/
theorem done_read {l : List I5} {c : Cor} {n : Int} (h : (wantOf l c n).kind = 1 ∨ (wantOf l c n).kind = 3) :
    c.h = false ∧ ∃ (A : Nat) (p : Int), A < 8 ∧ ∀ a, doneOf l c a = ⟨fun i => if i = A then a else c.r i, p, false⟩ := by
  unfold wantOf at h
  cases hb : (c.h || !coreB l c) with
  | true => rw [hb, if_pos rfl] at h; simp only at h; omega
  | false =>
    rw [hb, if_neg (by decide)] at h
    simp only [Bool.or_eq_false_iff, Bool.not_eq_false'] at hb
    have ho : (insAt l c).op = 9 ∨ (insAt l c).op = 11 := by
      rcases h with h | h
      · exact Or.inl (kind_read.1.1 h)
      · exact Or.inr (kind_read.2.1 h)
    have hm := may_regs (core_ins hb.2)
    refine ⟨hb.1, (insAt l c).a.toNat, nextX (insAt l c) c, by omega, fun a => ?_⟩
    have ok : madeOk (insAt l c) = true := decide_eq_true (by omega)
    have e : doneOf l c a = doneX (insAt l c) c a := by unfold doneOf; rw [hb.1, hb.2]; rfl
    rw [e]
    unfold doneX madeV
    rw [if_neg (by omega), ok, if_pos rfl, if_neg (by omega), if_pos ho]
    unfold Cor.go Cor.set
    rw [hb.1]
end Go.Proofs.Ytdebkncjmbhneaa
