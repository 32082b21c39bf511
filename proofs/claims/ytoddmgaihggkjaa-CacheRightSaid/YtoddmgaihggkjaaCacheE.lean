/- Whether a set may be, by the program; no condition but that the cache reads, has that set, and that many sets. -/
import Derived.Test.YtoddmgaihggkjaaCacheD
import Derived.Deep.CutBlock
import Derived.Deep.DeepCutAuto
namespace Go.Proofs.Ytoddmgaihggkjaa
set_option linter.unusedVariables false
open Go.ChangeShapes Go.WideShapes Go.ChangeAt Go.RowKit

/-- What is asked of one line of a set. -/
def lnP (C : Ch) (s : Nat) (l : List Ln) (j : Nat) : Bool :=
  lnB C.clock (l.getD j zL).addr (l.getD j zL).state (l.getD j zL).used && (decide ((l.getD j zL).addr % C.sets = (s : Int)) && decide (idxA (l.getD j zL).addr l 0 = (j : Int)))
def setP (C : Ch) (s : Nat) : Bool := decide (((C.lines.getD s []).length : Int) ≤ C.ways) && (List.range (C.lines.getD s []).length).all (lnP C s (C.lines.getD s []))
theorem setP_many {C : Ch} {s : Nat} (h : ¬ ((C.lines.getD s []).length : Int) ≤ C.ways) : setP C s = false := by
  unfold setP; rw [decide_eq_false h]; rfl
theorem setP_bad {C : Ch} {s k : Nat} (hk : k < (C.lines.getD s []).length) (h : lnP C s (C.lines.getD s []) k = false) : setP C s = false := by
  unfold setP
  rw [Bool.and_eq_false_iff]
  exact .inr (List.all_eq_false.2 ⟨k, List.mem_range.2 hk, by rw [h]; decide⟩)
theorem setP_ok {C : Ch} {s : Nat} (h : ((C.lines.getD s []).length : Int) ≤ C.ways) (ha : ∀ j, j < (C.lines.getD s []).length → lnP C s (C.lines.getD s []) j = true) : setP C s = true := by
  unfold setP
  rw [Bool.and_eq_true]
  exact ⟨decide_eq_true h, List.all_eq_true.2 fun j hj => ha j (List.mem_range.1 hj)⟩
theorem lnB_nonneg {k a s u : Int} (h : lnB k a s u = true) : 0 ≤ a := by
  unfold lnB at h
  rw [Bool.and_eq_true] at h
  exact of_decide_eq_true h.1

set_option maxHeartbeats 4000000 in
set_option maxRecDepth 100000 in
theorem rightSet_any (p : Option Addr) (n c : Nat) (xs : List Value) (C : Ch) (s : Nat) (r : Bool) (w : World) (h : Cc w p n c xs C) (hs : s < n) (h1 : 1 ≤ C.sets) (hr : setP C s = r) :
    Calls Try.prog 38 #[.agg #[.int .i64 C.sets, .int .i64 C.ways, .int .i64 C.clock, .slice p n c], .int .i64 (s : Int)] w fun e w' => e = .returned (.bool r) ∧ Below w.heap.size w w' := by
  have hn := h.n100
  obtain ⟨S, W, K, L⟩ := C
  dsimp only at h1 ⊢
  obtain ⟨b, off, q, x, c2, rfl, hat⟩ := h.setAt s hs
  dsimp only at hat
  obtain ⟨l, hl⟩ : ∃ l, l = L.getD s [] := ⟨_, rfl⟩
  rw [← hl] at hat
  have HMANY : Hid (¬ (x : Int) ≤ W → r = false) := Lib.hid (fun hh => by rw [← hr]; exact setP_many (by rw [← hl, hat.len]; exact hh))
  have HBAD : Hid (∀ k, k < x → lnP ⟨S, W, K, L⟩ s l k = false → r = false) := Lib.hid (fun k hk hh => by rw [← hr]; exact setP_bad (k := k) (by rw [← hl, hat.len]; exact hk) (by rw [← hl]; exact hh))
  have HOK : Hid ((x : Int) ≤ W → (∀ j, j < x → lnP ⟨S, W, K, L⟩ s l j = true) → r = true) := Lib.hid (fun h0 hh => by rw [← hr]; exact setP_ok (by rw [← hl, hat.len]; exact h0) (fun j hj => by rw [← hl] at hj ⊢; exact hh j (by rw [← hat.len]; exact hj)))
  have HLP : Hid (∀ k, lnP ⟨S, W, K, L⟩ s l k = (lnB K (l.getD k zL).addr (l.getD k zL).state (l.getD k zL).used && (decide ((l.getD k zL).addr % S = (s : Int)) && decide (idxA (l.getD k zL).addr l 0 = (k : Int))))) := Lib.hid (fun k => rfl)
  obtain ⟨lt, cell, len, lm, cap, x100⟩ := hat
  have HA : Hid (Blk (w.alloc (.cells #[.int .i64 S, .int .i64 W, .int .i64 K, .slice (some ⟨b, off, none⟩) n c] 24)) w.heap.size #[.int .i64 S, .int .i64 W, .int .i64 K, .slice (some ⟨b, off, none⟩) n c]) := Lib.hid (Blk.new _ _ _)
  have HB0 : Hid (Below w.heap.size w (w.alloc (.cells #[.int .i64 S, .int .i64 W, .int .i64 K, .slice (some ⟨b, off, none⟩) n c] 24))) := Lib.hid ((Below.refl _ _).alloc (Nat.le_refl _) _)
  have HLM := Lib.hid lm
  have HLEN := Lib.hid len
  obtain ⟨g, hg⟩ : ∃ g, lnP ⟨S, W, K, L⟩ s l = g := ⟨_, rfl⟩
  rw [hg] at HBAD HOK HLP
  clear hl hr h lm len hg
  clear L
  have hS0 : S ≠ 0 := by omega
  have hsI : (s : Int) < (n : Int) := by omega
  go_enter Try.func38, Try.ntmps38
  by_cases hm : (x : Int) ≤ W
  · have hm' : decide (W < (x : Int)) = false := decide_eq_false (by omega)
    go_wp2_with fail
    go_loopw [20] (fun i wr => ∃ k : Nat, k ≤ x ∧ i = .int .i64 k ∧ (∀ j, j < k → g j = true) ∧ Blk wr w.heap.size #[.int .i64 S, .int .i64 W, .int .i64 K, .slice (some ⟨b, off, none⟩) n c] ∧ Below w.heap.size w wr) (fun i _ => x - (intOf i).toNat)
    case atStart => exact ⟨0, Nat.zero_le _, rfl, fun j hj => absurd hj (Nat.not_lt_zero _), HA.out, HB0.out⟩
    case round =>
      obtain ⟨k, hk, rfl, hall, ha, hb⟩ := hrel
      have HALL := Lib.hid hall
      have HAA := Lib.hid ha
      have HB := Lib.hid hb
      clear hall ha hb HA HB0 cell
      by_cases hlt : k < x
      · obtain ⟨b2, off2, rfl, hline⟩ := HLM.out.at_ k (by rw [HLEN.out]; exact hlt)
        obtain ⟨l0, c0, c1, c2', c3⟩ := hline.below HB.out
        have HG : Hid (g k = (lnB K (l.getD k zL).addr (l.getD k zL).state (l.getD k zL).used && (decide ((l.getD k zL).addr % S = (s : Int)) && decide (idxA (l.getD k zL).addr l 0 = (k : Int))))) := Lib.hid (HLP.out k)
        have HPL : Hid (∀ W2, Below wr.heap.size wr W2 → ∀ a, Calls Try.prog 40 #[.slice (some ⟨b2, off2, none⟩) x c2, .int .i64 a] W2 fun e w' => e = .returned (.int .i64 (idxA a l 0)) ∧ Below W2.heap.size W2 w') := Lib.hid (fun W2 hb2 a => place_any _ l a W2 ⟨_, _, by rw [HLEN.out], by rw [HLEN.out]; exact cap, (HLM.out.below HB.out).below hb2⟩ (by rw [HLEN.out]; omega))
        obtain ⟨y, hy⟩ : ∃ y, y = l.getD k zL := ⟨_, rfl⟩
        rw [← hy] at c0 c1 c2' c3 HG
        obtain ⟨ya, ys, yv, yu⟩ := y
        dsimp only at c0 c1 c2' c3 HG
        clear hy hline
        have kA := HAA.out.c
        have kL := HAA.out.lt
        have HT : Hid (Below wr.heap.size wr (wr.alloc (.cells #[.int .i64 ya, .int .i64 ys, .int .u32 yv, .int .i64 yu] 30))) := Lib.hid ((Below.refl _ _).alloc (Nat.le_refl _) _)
        have HTB : Hid (Blk (wr.alloc (.cells #[.int .i64 ya, .int .i64 ys, .int .u32 yv, .int .i64 yu] 30)) wr.heap.size #[.int .i64 ya, .int .i64 ys, .int .u32 yv, .int .i64 yu]) := Lib.hid (Blk.new _ _ _)
        obtain ⟨b1, d1⟩ : ∃ b, lnB K ya ys yu = b := ⟨_, rfl⟩
        obtain ⟨b2', d2⟩ : ∃ b, decide (ya % S = (s : Int)) = b := ⟨_, rfl⟩
        obtain ⟨b3, d3⟩ : ∃ b, decide (idxA ya l 0 = (k : Int)) = b := ⟨_, rfl⟩
        rw [d1, d2, d3] at HG
        have D1 := Lib.hid d1
        clear d1
        go_upto_region 7 with fail
        have HA1 := Lib.hid (HAA.out.below HT.out)
        have HB1 : Hid (Below w.heap.size w (wr.alloc (.cells #[.int .i64 ya, .int .i64 ys, .int .u32 yv, .int .i64 yu] 30))) := Lib.hid (HB.out.alloc HB.out.size _)
        obtain ⟨w1, hw1⟩ : ∃ w1, w1 = wr.alloc (.cells #[.int .i64 ya, .int .i64 ys, .int .u32 yv, .int .i64 yu] 30) := ⟨_, rfl⟩
        rw [← hw1] at HT HTB HA1 HB1 ⊢
        obtain ⟨T, hT⟩ : ∃ T, T = wr.heap.size := ⟨_, rfl⟩
        rw [← hT] at HTB ⊢
        clear hT hw1 kA kL c0 c1 c2' c3 l0
        have kA := HA1.out.c
        have kT := HTB.out.c
        go_wp2_with fail
        refine (rightLine_any ya ys yu K yv _ w1 D1.out).mono ?_
        rintro e w2 ⟨rfl, hb2⟩
        have HA2 := Lib.hid (HA1.out.below hb2)
        have HT2 := Lib.hid (HTB.out.below hb2)
        have HBR : Hid (Below wr.heap.size wr w2) := Lib.hid (HT.out.trans (hb2.mono HT.out.size))
        have HB2 : Hid (Below w.heap.size w w2) := Lib.hid (HB1.out.trans (hb2.mono HB1.out.size))
        clear hb2 kA kT HA1 HB1 HTB HT
        have kA := HA2.out.c
        have kT := HT2.out.c
        cases b1 with
        | false =>
          go_wp2_with fail
          go_ret
          exact ⟨by rw [HBAD.out k hlt (by rw [HG.out]; rfl)]; rfl, HB2.out⟩
        | true =>
          have ha0 := lnB_nonneg D1.out
          have htm : ya.tmod S = ya % S := Int.tmod_eq_emod_of_nonneg ha0
          cases b2' with
          | false =>
            have d2' : (ya % S != (s : Int)) = true := by simpa using of_decide_eq_false d2
            go_wp2_with fail
            go_ret
            exact ⟨by rw [HBAD.out k hlt (by rw [HG.out]; rfl)]; rfl, HB2.out⟩
          | true =>
            have d2' : (ya % S != (s : Int)) = false := by simpa using of_decide_eq_true d2
            go_wp2_with fail
            refine (HPL.out w2 HBR.out ya).mono ?_
            rintro e w3 ⟨rfl, hb3⟩
            have HA3 := Lib.hid (HA2.out.below hb3)
            have HB3 : Hid (Below w.heap.size w w3) := Lib.hid (HB2.out.trans (hb3.mono HB2.out.size))
            clear hb3 kA kT
            cases b3 with
            | false =>
              have d3' : (idxA ya l 0 != (k : Int)) = true := by simpa using of_decide_eq_false d3
              go_wp2_with fail
              go_ret
              exact ⟨by rw [HBAD.out k hlt (by rw [HG.out]; rfl)]; rfl, HB3.out⟩
            | true =>
              have d3' : (idxA ya l 0 != (k : Int)) = false := by simpa using of_decide_eq_true d3
              go_wp2_with fail
              go_roundw
              case rel => exact ⟨k + 1, by omega, by go_num, fun j hj => by
                by_cases e : j = k
                · rw [e, HG.out]; rfl
                · exact HALL.out j (by omega), HA3.out, HB3.out⟩
              case measure => simp [intOf]; omega
      · have : k = x := by omega
        subst this
        go_wp2_with fail
        go_ret
        exact ⟨by rw [HOK.out hm HALL.out]; rfl, HB.out⟩
  · have hm' : decide (W < (x : Int)) = true := decide_eq_true (by omega)
    go_wp2_with fail
    go_ret
    exact ⟨by rw [HMANY.out hm]; rfl, HB0.out⟩
end Go.Proofs.Ytoddmgaihggkjaa
