/- What isa.Right answers, for every program; it writes nothing that was there. -/
import Derived.Test.YtdebkncjmbhneaaIsaMay2
namespace Go.Proofs.Ytdebkncjmbhneaa
open Go.ChangeShapes Go.WideShapes Go.ChangeAt Go.RowKit

/-- The instruction x lies in the five cells from o on, and its number fits. -/
structure Lies (w : World) (b o : Nat) (x : I5) : Prop where
  c0 : w.cell? ⟨b, o, none⟩ = some (.int .i64 x.op)
  c1 : w.cell? ⟨b, o + 1, none⟩ = some (.int .i64 x.a)
  c2 : w.cell? ⟨b, o + 2, none⟩ = some (.int .i64 x.b)
  c3 : w.cell? ⟨b, o + 3, none⟩ = some (.int .i64 x.c)
  c4 : w.cell? ⟨b, o + 4, none⟩ = some (.int .u32 x.k)
  k0 : 0 ≤ x.k
  k1 : x.k ≤ 4294967295

theorem Lies.below {w w' : World} {B b o : Nat} {x : I5} (h : Lies w b o x) (hb : Below B w w') (hlt : b < B) : Lies w' b o x :=
  ⟨(hb.cell (p := ⟨b, o, none⟩) hlt).trans h.c0, (hb.cell (p := ⟨b, o + 1, none⟩) hlt).trans h.c1, (hb.cell (p := ⟨b, o + 2, none⟩) hlt).trans h.c2,
    (hb.cell (p := ⟨b, o + 3, none⟩) hlt).trans h.c3, (hb.cell (p := ⟨b, o + 4, none⟩) hlt).trans h.c4, h.k0, h.k1⟩

/-- The program l lies behind p: nothing is asked of p where there is none. -/
def Prg (w : World) (p : Option Addr) (l : List I5) : Prop :=
  0 < l.length → ∃ b off, b < w.heap.size ∧ p = some ⟨b, off, none⟩ ∧ ∀ i, i < l.length → Lies w b (off + i * 5) (at5 l i)

theorem Prg.below {w w' : World} {p : Option Addr} {l : List I5} (h : Prg w p l) (hb : Below w.heap.size w w') : Prg w' p l := fun h0 => by
  obtain ⟨b, off, h1, h2, h3⟩ := h h0
  exact ⟨b, off, Nat.lt_of_lt_of_le h1 hb.size, h2, fun i hi => (h3 i hi).below hb h1⟩

theorem right_few_any (p : Option Addr) (len cap : Nat) (w : World) (h : len < 1 ∨ 64 < len) :
    Calls Try.prog 13 #[.slice p len cap] w fun e w' => e = .returned (.bool false) ∧ Below w.heap.size w w' := by
  rcases h with h | h
  · have d1 : decide ((len : Int) < 1) = true := decide_eq_true (by omega)
    go_enter Try.func13, Try.ntmps13
    go_wp2
    go_ret
    exact ⟨rfl, Below.refl _ _⟩
  · have d1 : decide ((len : Int) < 1) = false := decide_eq_false (by omega)
    have d2 : decide (64 < (len : Int)) = true := decide_eq_true (by omega)
    go_enter Try.func13, Try.ntmps13
    go_wp2
    go_ret
    exact ⟨rfl, Below.refl _ _⟩

set_option maxHeartbeats 400000 in
theorem right_end_any (b off len cap : Nat) (x : I5) (w : World) (h1 : 1 ≤ len) (h2 : len ≤ 64) (hx : Lies w b (off + (len - 1) * 5) x) (he : endB x = false) :
    Calls Try.prog 13 #[.slice (some ⟨b, off, none⟩) len cap] w fun e w' => e = .returned (.bool false) ∧ Below w.heap.size w w' := by
  obtain ⟨op, a, bb, c, k⟩ := x
  obtain ⟨c0, c1, c2, c3, c4, _, _⟩ := hx
  have d1 : decide ((len : Int) < 1) = false := decide_eq_false (by omega)
  have d2 : decide (64 < (len : Int)) = false := decide_eq_false (by omega)
  have HE : Hid (decide (op = 16 ∨ op = 13) = false) := he
  clear he
  go_enter Try.func13, Try.ntmps13
  go_wp2_with fail
  refine (ends_any _ _ _ _ _ _).mono ?_
  rintro e w' ⟨rfl, hb⟩
  rw [HE.out]
  have HB := Lib.hid hb
  clear hb
  go_wp2
  go_ret
  exact ⟨rfl, HB.out⟩

set_option maxHeartbeats 800000 in
theorem right_loop_any (b off len cap : Nat) (l : List I5) (w : World) (hl : l.length = len) (h1 : 1 ≤ len) (h2 : len ≤ 64) (hlt : b < w.heap.size) (hx : ∀ i, i < len → Lies w b (off + i * 5) (at5 l i)) (he : endB (at5 l (len - 1)) = true) :
    Calls Try.prog 13 #[.slice (some ⟨b, off, none⟩) len cap] w fun e w' => e = .returned (.bool (rightB l)) ∧ Below w.heap.size w w' := by
  have HL := Lib.hid hl
  have HX := Lib.hid hx
  have HE := Lib.hid he
  have hlast := hx (len - 1) (by omega)
  clear hx hl he
  obtain ⟨op, a, bb, c, k, hat⟩ : ∃ op a bb c k, at5 l (len - 1) = ⟨op, a, bb, c, k⟩ := ⟨_, _, _, _, _, rfl⟩
  rw [hat] at hlast
  have he' : decide (op = 16 ∨ op = 13) = true := by have h := HE.out; rw [hat] at h; exact h
  have HE' := Lib.hid he'
  clear he' hat
  obtain ⟨c0, c1, c2, c3, c4, _, _⟩ := hlast
  have d1 : decide ((len : Int) < 1) = false := decide_eq_false (by omega)
  have d2 : decide (64 < (len : Int)) = false := decide_eq_false (by omega)
  go_enter Try.func13, Try.ntmps13
  go_wp2_with fail
  refine (ends_any _ _ _ _ _ _).mono ?_
  rintro e w1 ⟨rfl, hb⟩
  rw [HE'.out]
  have HB := Lib.hid hb
  clear hb c0 c1 c2 c3 c4
  go_wp2_with fail
  go_loopw [25] (fun i wr => ∃ k : Nat, k ≤ len ∧ i = .int .i64 k ∧ (∀ j, j < k → mayB (at5 l j) len = true) ∧ Below w.heap.size w wr) (fun i _ => len - (intOf i).toNat)
  case atStart => exact ⟨0, Nat.zero_le _, rfl, fun j hj => absurd hj (by omega), HB.out⟩
  case round =>
    obtain ⟨i, hi, rfl, hall, hbel⟩ := hrel
    have HA := Lib.hid hall
    have HBE := Lib.hid hbel
    clear hall hbel
    by_cases hlt' : i < len
    · have hl5 := ((HX.out) i hlt').below HBE.out hlt
      obtain ⟨op, a, bb, c, k, hat⟩ : ∃ op a bb c k, at5 l i = ⟨op, a, bb, c, k⟩ := ⟨_, _, _, _, _, rfl⟩
      rw [hat] at hl5
      have HAT := Lib.hid hat
      clear hat
      obtain ⟨c0, c1, c2, c3, c4, g0, g1⟩ := hl5
      go_wp2_with fail
      refine (may_any ⟨op, a, bb, c, k⟩ _ _ g0 g1).mono ?_
      rintro e w2 ⟨rfl, hb2⟩
      rw [← HAT.out]
      have HB2 := Lib.hid hb2
      clear hb2 c0 c1 c2 c3 c4
      cases hm : mayB (at5 l i) len with
      | true =>
        have HM := Lib.hid hm
        go_wp2
        go_roundw
        case rel =>
          refine ⟨i + 1, by omega, by go_num, fun j hj => ?_, (HBE.out.alloc HBE.out.size _).trans (HB2.out.mono (by have := HBE.out.size; simp; omega))⟩
          by_cases hji : j = i
          · rw [hji]; exact HM.out
          · exact HA.out j (by omega)
        case measure => simp [intOf]; omega
      | false =>
        have HM := Lib.hid hm
        go_wp2
        go_ret
        refine ⟨?_, (HBE.out.alloc HBE.out.size _).trans (HB2.out.mono (by have := HBE.out.size; simp; omega))⟩
        rw [right_not (l := l) (i := i) (by rw [HL.out]; exact hlt') (by rw [HL.out]; exact HM.out)]
        rfl
    · go_wp2
      go_ret
      refine ⟨?_, HBE.out⟩
      rw [right_yes (l := l) (by rw [HL.out]; exact h1) (by rw [HL.out]; exact h2) (by rw [HL.out]; exact HE.out) (fun j hj => by rw [HL.out] at hj ⊢; exact HA.out j (by omega))]
      rfl

theorem right_any (p : Option Addr) (cap : Nat) (l : List I5) (w : World) (h : Prg w p l) :
    Calls Try.prog 13 #[.slice p l.length cap] w fun e w' => e = .returned (.bool (rightB l)) ∧ Below w.heap.size w w' := by
  by_cases h0 : l.length < 1 ∨ 64 < l.length
  · rw [right_few h0]
    exact right_few_any p _ cap w h0
  · obtain ⟨b, off, hlt, rfl, hx⟩ := h (by omega)
    cases he : endB (at5 l (l.length - 1)) with
    | false =>
      rw [right_end he]
      exact right_end_any b off _ cap _ w (by omega) (by omega) (hx (l.length - 1) (by omega)) he
    | true => exact right_loop_any b off _ cap l w rfl (by omega) (by omega) hlt hx he
end Go.Proofs.Ytdebkncjmbhneaa
