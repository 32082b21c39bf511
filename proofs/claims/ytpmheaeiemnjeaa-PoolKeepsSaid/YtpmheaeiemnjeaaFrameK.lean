/- The fixed answers that each statement of layer 5 begins with; what Put and Read answer, for any message and bytes; no condition but that the numbers fit. -/
import Derived.Test.YtpmheaeiemnjeaaFrameJ
namespace Go.Proofs.Ytpmheaeiemnjeaa
set_option linter.unusedVariables false
open Go.ChangeShapes Go.WideShapes Go.ChangeAt Go.RowKit

theorem may_fit {m : Msg} (h : mayM m = true) (hn : m.n < 4294967296) (hv : m.v < 4294967296) : ∃ k f t l o a : Nat, ∃ (own : Bool) (n v : Nat), m = ⟨k, f, t, l, o, a, own, n, v⟩ ∧ Fit k f t l o a own n v := by
  have h0 := h
  unfold mayM byteB at h
  simp only [Bool.and_eq_true, decide_eq_true_eq] at h
  obtain ⟨⟨k0, k1⟩, ⟨f0, f1⟩, ⟨t0, t1⟩, ⟨l0, l1⟩, ⟨o0, o1⟩, a0, a1⟩ := h
  obtain ⟨k, f, t, l, o, a, own, n, v⟩ := m
  simp only at k0 k1 f0 f1 t0 t1 l0 l1 o0 o1 a0 a1 hn hv
  obtain ⟨k, rfl⟩ := Int.eq_ofNat_of_zero_le (show 0 ≤ k by omega)
  obtain ⟨f, rfl⟩ := Int.eq_ofNat_of_zero_le f0
  obtain ⟨t, rfl⟩ := Int.eq_ofNat_of_zero_le t0
  obtain ⟨l, rfl⟩ := Int.eq_ofNat_of_zero_le l0
  obtain ⟨o, rfl⟩ := Int.eq_ofNat_of_zero_le o0
  obtain ⟨a, rfl⟩ := Int.eq_ofNat_of_zero_le a0
  exact ⟨k, f, t, l, o, a, own, n, v, rfl, h0, by omega, by omega, by omega, by omega, by omega, by omega, hn, hv⟩
theorem own_form {w : World} {base n : Nat} {v : Value} {xs : List Value} (h : w.ownsRow base 5 1 v n xs) (h0 : 0 < n) : ∃ g cap, v = .slice (some ⟨g, 0, none⟩) n cap ∧ n ≤ cap ∧ base ≤ g ∧ g < w.heap.size := by
  obtain ⟨h1, ⟨_, h2⟩ | ⟨g, cap, cur, e1, e2, e3, e4, _⟩⟩ := h
  · omega
  · exact ⟨g, cap, e1, e4, e2, (Array.getElem?_eq_some_iff.1 e3).1⟩

/-- A frame in memory of one's own, as it is handed about. -/
def Frm (base : Nat) (w : World) (g cap : Nat) (l : List Nat) : Prop := w.ownsRow base 5 1 (.slice (some ⟨g, 0, none⟩) 19 cap) 19 (u8C l) ∧ 19 ≤ cap ∧ base ≤ g ∧ g < w.heap.size
theorem Frm.byts {base : Nat} {w : World} {g cap : Nat} {l : List Nat} (h : Frm base w g cap l) (hl : l.length = 19) (hb : ∀ x ∈ l, x < 256) : Byts w (some ⟨g, 0, none⟩) l := byts_own h.1 hl hb
theorem Frm.below {base : Nat} {w w' : World} {g cap : Nat} {l : List Nat} (h : Frm base w g cap l) (hb : Below w.heap.size w w') : Frm base w' g cap l := by
  refine ⟨?_, h.2.1, h.2.2.1, Nat.lt_of_lt_of_le h.2.2.2 hb.size⟩
  obtain ⟨h1, h2 | ⟨g', c', cur, e1, e2, e3, e4⟩⟩ := h.1
  · exact ⟨h1, .inl h2⟩
  · exact ⟨h1, .inr ⟨g', c', cur, e1, e2, by rw [hb.block g' (Array.getElem?_eq_some_iff.1 e3).1]; exact e3, e4⟩⟩
theorem put_fit (k f t l o a : Nat) (own : Bool) (n v : Nat) (w : World) (h : Fit k f t l o a own n v) :
    Calls Try.prog 24 #[.agg (Msg.row ⟨k, f, t, l, o, a, own, n, v⟩)] w fun e w' => ∃ g cap, e = .returned (.tuple #[.slice (some ⟨g, 0, none⟩) 19 cap, .int .i64 0]) ∧ Frm w.heap.size w' g cap (frameL k f t l o a own n v) ∧ Below w.heap.size w w' := by
  refine (put_yes k f t l o a own n v w h.may h.hk h.hf h.ht h.hl h.ho h.ha h.hn h.hv).mono fun e w' => ?_
  rintro ⟨r, rfl, h1, h2⟩
  obtain ⟨g, cap, rfl, h3, h4, h5⟩ := own_form h1 (by decide)
  exact ⟨g, cap, rfl, ⟨h1, h3, h4, h5⟩, h2⟩
theorem read_fit (k f t l o a : Nat) (own : Bool) (n v base g cap : Nat) (w : World) (h : Fit k f t l o a own n v) (hf : Frm base w g cap (frameL k f t l o a own n v)) :
    Calls Try.prog 28 #[.slice (some ⟨g, 0, none⟩) 19 cap] w fun e w' => e = .returned (.tuple #[.agg (Msg.row ⟨k, f, t, l, o, a, own, n, v⟩), .int .i64 0]) ∧ Below w.heap.size w w' := by
  have hh := read_any (some ⟨g, 0, none⟩) 19 cap _ w frame_len (by unfold maxLen; omega) hf.2.1 (hf.byts frame_len (frame_lt h))
  rw [frame_readE h, frame_readM h] at hh
  exact hh

theorem fit0 : Fit 3 1 2 3 0 4 true 5 6 := ⟨by decide, by decide, by decide, by decide, by decide, by decide, by decide, by decide, by decide⟩
theorem sum_fixed : sumN [49, 50, 51, 52, 53, 54, 55, 56, 57] = 3421780262 := by decide +kernel

end Go.Proofs.Ytpmheaeiemnjeaa
