/- FrameTells: the walk of the statement's function. -/
import Derived.Test.YtpmheaeiemnjeaaFrameK
namespace Go.Proofs.Ytpmheaeiemnjeaa
set_option linter.unusedVariables false
open Go.ChangeShapes Go.WideShapes Go.ChangeAt Go.RowKit

/-- What Put leaves. -/
def Puts (base : Nat) (m : Msg) (w' : World) (r : Value) (er : Int) : Prop :=
  (mayM m = false ∧ r = .slice none 0 0 ∧ er = 1) ∨
  (mayM m = true ∧ er = 0 ∧ ∃ k f t l o a : Nat, ∃ (own : Bool) (n v : Nat), m = ⟨k, f, t, l, o, a, own, n, v⟩ ∧ Fit k f t l o a own n v ∧ ∃ g cap, r = .slice (some ⟨g, 0, none⟩) 19 cap ∧ Frm base w' g cap (frameL k f t l o a own n v))
theorem put_any (m : Msg) (w : World) (hn : m.n < 4294967296) (hv : m.v < 4294967296) :
    Calls Try.prog 24 #[.agg m.row] w fun e w' => ∃ r er, e = .returned (.tuple #[r, .int .i64 er]) ∧ Puts w.heap.size m w' r er ∧ Below w.heap.size w w' := by
  cases h : mayM m with
  | false => exact (put_no m w h).mono fun e w' ⟨h1, h2⟩ => ⟨_, _, h1, .inl ⟨h, rfl, rfl⟩, h2⟩
  | true =>
    obtain ⟨k, f, t, l, o, a, own, n, v, rfl, hf⟩ := may_fit h hn hv
    refine (put_fit k f t l o a own n v w hf).mono fun e w' => ?_
    rintro ⟨g, cap, rfl, h1, h2⟩
    exact ⟨_, _, rfl, .inr ⟨h, rfl, k, f, t, l, o, a, own, n, v, rfl, hf, g, cap, rfl, h1⟩, h2⟩
theorem Frm.set {base : Nat} {w : World} {g cap : Nat} {l : List Nat} (h : Frm base w g cap l) (K x : Nat) : Frm base (w.setCell ⟨g, K, none⟩ (.int .u8 (x : Int))) g cap (l.set K x) := by
  have hs := (h.1.stored K (.int .u8 (x : Int))).1
  have e : (u8C l).set K (.int .u8 (x : Int)) = u8C (l.set K x) := by unfold u8C; rw [List.map_set]
  rw [e] at hs
  exact ⟨hs, h.2.1, h.2.2.1, by rw [size_set]; exact h.2.2.2⟩
theorem Frm.at_ {base : Nat} {w : World} {g cap : Nat} {l : List Nat} (h : Frm base w g cap l) (hl : l.length = 19) (K : Nat) (hK : K < 19) : w.cell? ⟨g, K, none⟩ = some (.int .u8 (l.getD K 0 : Nat)) := by
  rw [h.1.cellAt K (by omega), u8C_at l K (by omega)]
theorem turn_set (l : List Nat) (K b : Nat) (hb : b < 8) : l.set K (l.getD K 0 ^^^ 2 ^ b) = turnL l (8 * K + b) := by
  unfold turnL
  rw [show (8 * K + b) / 8 = K by omega, show (8 * K + b) % 8 = b by omega]
theorem xor_u8 (x y : Nat) (hx : x < 256) (hy : y < 256) : bits .xor .u8 (x : Int) (y : Int) = ((x ^^^ y : Nat) : Int) := u8_xor_nat x y hx hy

end Go.Proofs.Ytpmheaeiemnjeaa
