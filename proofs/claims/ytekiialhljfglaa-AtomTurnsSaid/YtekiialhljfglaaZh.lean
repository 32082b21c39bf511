/- Laid together, in this order: AtomRefB, PlanT. -/
import Derived.Test.YtekiialhljfglaaZg
import Derived.Maps.AppendAt
/- What the reference's New and Right of layer 4 answer; they write nothing that was there. -/
namespace Go.Proofs.Ytekiialhljfglaa
set_option linter.unusedVariables false
open Go.ChangeShapes Go.WideShapes Go.ChangeAt Go.RowKit

set_option maxHeartbeats 1000000 in
theorem newR_no (p : Option Addr) (np cap : Nat) (words : Int) (P : List (List I5)) (w : World) (hl : P.length = np) (h6 : P.length ≤ 6) (hp : Prgs w p P) (h : (1 ≤ words ∧ words ≤ 64 ∧ allB P = true) → False) :
    Calls Try.prog 15 #[.slice p np cap, .int .i64 words] w fun e w' => e = .returned (.tuple #[.agg #[.slice none 0 0, .slice none 0 0, .slice none 0 0], .int .i64 1]) ∧ Below w.heap.size w w' := by
  have HL := Lib.hid hl
  have HP := Lib.hid hp
  have H6 := Lib.hid h6
  have H := Lib.hid h
  clear hl hp h6 h
  have b0 : Hid (Below w.heap.size w (w.alloc (.cells #[.slice none 0 0, .slice none 0 0, .slice none 0 0] 27))) := (Below.refl _ _).alloc (Nat.le_refl _) _
  cases ha : allB P with
  | false =>
    have HA := Lib.hid ha
    clear ha
    go_enter Try.func15, Try.ntmps15
    go_wp2_with fail
    have hal := allR_any p cap P _ H6.out (HP.out.below b0.out)
    rw [HL.out, HA.out] at hal
    refine hal.mono ?_
    clear hal
    rintro e w2 ⟨rfl, hb2⟩
    have b2 : Hid (Below w.heap.size w w2) := b0.out.trans (hb2.mono b0.out.size)
    have K2 : Hid (Blk w2 w.heap.size #[.slice none 0 0, .slice none 0 0, .slice none 0 0]) := Blk.track1 hb2
    clear hb2
    have c := K2.out.c
    have f := K2.out.f
    have lt := K2.out.lt
    go_wp2
    refine bodyPost_ret (v := .tuple #[.agg #[.slice none 0 0, .slice none 0 0, .slice none 0 0], .int .i64 1]) (by simp [results, Try.results15, go_sem, *]) rfl ⟨rfl, ?_⟩
    exact below_set3 b2.out (Nat.le_refl _) _ _ _
  | true =>
    by_cases h1 : words < 1
    · have d1 : decide (words < 1) = true := decide_eq_true h1
      have HA := Lib.hid ha
      clear ha
      go_enter Try.func15, Try.ntmps15
      go_wp2_with fail
      have hal := allR_any p cap P _ H6.out (HP.out.below b0.out)
      rw [HL.out, HA.out] at hal
      refine hal.mono ?_
      clear hal
      rintro e w2 ⟨rfl, hb2⟩
      have b2 : Hid (Below w.heap.size w w2) := b0.out.trans (hb2.mono b0.out.size)
      have K2 : Hid (Blk w2 w.heap.size #[.slice none 0 0, .slice none 0 0, .slice none 0 0]) := Blk.track1 hb2
      clear hb2
      have c := K2.out.c
      have f := K2.out.f
      have lt := K2.out.lt
      go_wp2
      refine bodyPost_ret (v := .tuple #[.agg #[.slice none 0 0, .slice none 0 0, .slice none 0 0], .int .i64 1]) (by simp [results, Try.results15, go_sem, *]) rfl ⟨rfl, ?_⟩
      exact below_set3 b2.out (Nat.le_refl _) _ _ _
    · have d1 : decide (words < 1) = false := decide_eq_false h1
      have d2 : decide (64 < words) = true := decide_eq_true (by
        rcases Int.lt_or_le 64 words with h2 | h2
        · exact h2
        · exact (H.out ⟨by omega, h2, ha⟩).elim)
      have HA := Lib.hid ha
      clear ha
      go_enter Try.func15, Try.ntmps15
      go_wp2_with fail
      have hal := allR_any p cap P _ H6.out (HP.out.below b0.out)
      rw [HL.out, HA.out] at hal
      refine hal.mono ?_
      clear hal
      rintro e w2 ⟨rfl, hb2⟩
      have b2 : Hid (Below w.heap.size w w2) := b0.out.trans (hb2.mono b0.out.size)
      have K2 : Hid (Blk w2 w.heap.size #[.slice none 0 0, .slice none 0 0, .slice none 0 0]) := Blk.track1 hb2
      clear hb2
      have c := K2.out.c
      have f := K2.out.f
      have lt := K2.out.lt
      go_wp2
      refine bodyPost_ret (v := .tuple #[.agg #[.slice none 0 0, .slice none 0 0, .slice none 0 0], .int .i64 1]) (by simp [results, Try.results15, go_sem, *]) rfl ⟨rfl, ?_⟩
      exact below_set3 b2.out (Nat.le_refl _) _ _ _

set_option maxHeartbeats 1000000 in
theorem newR_yes (p : Option Addr) (np cap words : Nat) (P : List (List I5)) (w : World) (hl : P.length = np) (hp : Prgs w p P) (h1 : 1 ≤ words) (h2 : words ≤ 64) (h3 : allB P = true) (h4 : np ≤ 4) :
    Calls Try.prog 15 #[.slice p np cap, .int .i64 words] w fun e w' => ∃ vm vc vo, e = .returned (.tuple #[.agg #[vm, vc, vo], .int .i64 0]) ∧ OwnM w' w.heap.size vm vc vo (newA np words) ∧ Below w.heap.size w w' := by
  have HL := Lib.hid hl
  have HP := Lib.hid hp
  have H3 := Lib.hid h3
  clear hl hp h3
  have b0 : Hid (Below w.heap.size w (w.alloc (.cells #[.slice none 0 0, .slice none 0 0, .slice none 0 0] 27))) := (Below.refl _ _).alloc (Nat.le_refl _) _
  have d1 : decide ((words : Int) < 1) = false := decide_eq_false (by omega)
  have d2 : decide (64 < (words : Int)) = false := decide_eq_false (by omega)
  go_enter Try.func15, Try.ntmps15
  go_wp2_with fail
  have hal := allR_any p cap P _ (by rw [HL.out]; omega) (HP.out.below b0.out)
  rw [HL.out, H3.out] at hal
  refine hal.mono ?_
  clear hal
  rintro e w2 ⟨rfl, hb2⟩
  have b2 : Hid (Below w.heap.size w w2) := b0.out.trans (hb2.mono b0.out.size)
  have K2 : Hid (Blk w2 w.heap.size #[.slice none 0 0, .slice none 0 0, .slice none 0 0]) := Blk.track1 hb2
  clear hb2
  have c := K2.out.c
  have f := K2.out.f
  have lt := K2.out.lt
  have mk1 := make23 words h2
  have mk2 := make24 np (by omega)
  obtain ⟨A, hA⟩ : ∃ A, A = madeCells (Value.int .u32 0).cells (words * 1) := ⟨_, rfl⟩
  obtain ⟨B, hB⟩ : ∃ B, B = madeCells (Value.agg zcor.row).cells (np * 10) := ⟨_, rfl⟩
  rw [← hA] at mk1
  rw [← hB] at mk2
  have HA := Lib.hid hA
  have HB := Lib.hid hB
  clear hA hB
  go_wp2_with fail
  go_region
  all_goals (try go_wp2)
  · refine bodyPost_ret (v := .tuple #[.agg #[.slice (some ⟨w2.heap.size, 0, none⟩) words words, .slice (some ⟨w2.heap.size + 1, 0, none⟩) np np, .slice none 0 0], .int .i64 0]) (by simp [results, Try.results15, go_sem, *]) rfl ⟨_, _, _, rfl, ?_, ?_⟩
    · rw [HA.out, HB.out]
      exact new_own1 (by simp) b2.out.size h2 (by omega)
    · exact ((((((b2.out.setCell (Nat.le_refl _) _).setCell (Nat.le_refl _) _).setCell (Nat.le_refl _) _).alloc (by simp; exact b2.out.size) _).alloc (by simp; have := b2.out.size; omega) _)).drew
  · refine bodyPost_ret (v := .tuple #[.agg #[.slice (some ⟨w2.heap.size + 1, 0, none⟩) words words, .slice (some ⟨w2.heap.size, 0, none⟩) np np, .slice none 0 0], .int .i64 0]) (by simp [results, Try.results15, go_sem, *]) rfl ⟨_, _, _, rfl, ?_, ?_⟩
    · rw [HA.out, HB.out]
      exact new_own2 (by simp) b2.out.size h2 (by omega)
    · exact ((((((b2.out.setCell (Nat.le_refl _) _).setCell (Nat.le_refl _) _).setCell (Nat.le_refl _) _).alloc (by simp; exact b2.out.size) _).alloc (by simp; have := b2.out.size; omega) _)).drew

/-- What is tested ahead of the cores. -/
theorem rightR_head_no (p pm pc po : Option Addr) (np cap lm cm len cc lo co : Nat) (P : List (List I5)) (w : World) (hl : P.length = np) (h6 : P.length ≤ 6) (hp : Prgs w p P) (h : (1 ≤ lm ∧ lm ≤ 64 ∧ len = np ∧ allB P = true) → False) :
    Calls Try.prog 18 #[.slice p np cap, .agg #[.slice pm lm cm, .slice pc len cc, .slice po lo co]] w fun e w' => e = .returned (.bool false) ∧ Below w.heap.size w w' := by
  have HL := Lib.hid hl
  have HP := Lib.hid hp
  have H6 := Lib.hid h6
  have H := Lib.hid h
  clear hl hp h6 h
  have b0 : Hid (Below w.heap.size w (w.alloc (.cells #[.slice pm lm cm, .slice pc len cc, .slice po lo co] 27))) := (Below.refl _ _).alloc (Nat.le_refl _) _
  obtain ⟨t, ht⟩ : ∃ t, t = allB P := ⟨_, rfl⟩
  have HT := Lib.hid ht
  go_enter Try.func18, Try.ntmps18
  go_wp2_with fail
  have hal := allR_any p cap P _ H6.out (HP.out.below b0.out)
  rw [HL.out, ← HT.out] at hal
  refine hal.mono ?_
  clear hal
  rintro e w2 ⟨rfl, hb2⟩
  have b2 : Hid (Below w.heap.size w w2) := b0.out.trans (hb2.mono b0.out.size)
  have K2 : Hid (Blk w2 w.heap.size #[.slice pm lm cm, .slice pc len cc, .slice po lo co]) := Blk.track1 hb2
  clear hb2 ht
  have c := K2.out.c
  cases t with
  | false =>
    go_wp2
    go_ret
    exact ⟨rfl, b2.out⟩
  | true =>
    by_cases h1 : lm = 0
    · have e1 : ((lm : Int) == 0) = true := by simp; omega
      clear h1
      go_wp2
      go_ret
      exact ⟨rfl, b2.out⟩
    · have e1 : ((lm : Int) == 0) = false := by simp; omega
      by_cases h2 : 64 < lm
      · have d2 : decide (64 < (lm : Int)) = true := decide_eq_true (by omega)
        clear h1 h2
        go_wp2
        go_ret
        exact ⟨rfl, b2.out⟩
      · have d2 : decide (64 < (lm : Int)) = false := decide_eq_false (by omega)
        have e2 : ((len : Int) != (np : Int)) = true := by
          by_cases hh : len = np
          · exact (H.out ⟨by omega, by omega, hh, HT.out.symm⟩).elim
          · simp; omega
        clear h1 h2
        go_wp2
        go_ret
        exact ⟨rfl, b2.out⟩

theorem kright (q : Option Addr) (m qc : Nat) (l : List I5) (c : Cor) (W1 W : World) (i B b off b' off' : Nat) (bs : Array Value) (hm : Hid (l.length = m)) (HP : Hid (Prg W1 q l))
    (h1 : Hid (W1.cell? ⟨b, off + i, none⟩ = some (.slice q m qc))) (h2 : Hid (Blk W1 B bs)) (h3 : Hid (W1.cell? ⟨b', off' + i * 10, none⟩ = some (.int .u32 (c.r 0)) ∧ W1.cell? ⟨b', off' + i * 10 + 1, none⟩ = some (.int .u32 (c.r 1)) ∧ W1.cell? ⟨b', off' + i * 10 + 2, none⟩ = some (.int .u32 (c.r 2)) ∧ W1.cell? ⟨b', off' + i * 10 + 3, none⟩ = some (.int .u32 (c.r 3)) ∧ W1.cell? ⟨b', off' + i * 10 + 4, none⟩ = some (.int .u32 (c.r 4)) ∧ W1.cell? ⟨b', off' + i * 10 + 5, none⟩ = some (.int .u32 (c.r 5)) ∧ W1.cell? ⟨b', off' + i * 10 + 6, none⟩ = some (.int .u32 (c.r 6)) ∧ W1.cell? ⟨b', off' + i * 10 + 7, none⟩ = some (.int .u32 (c.r 7)) ∧ W1.cell? ⟨b', off' + i * 10 + 8, none⟩ = some (.int .i64 c.pc) ∧ W1.cell? ⟨b', off' + i * 10 + 9, none⟩ = some (.bool c.h))) (l1 : Hid (b < W1.heap.size)) (l3 : Hid (b' < W1.heap.size)) (hb : Below W1.heap.size W1 W) :
    Calls Try.prog 32 #[.slice q m qc, .agg #[.int .u32 (c.r 0), .int .u32 (c.r 1), .int .u32 (c.r 2), .int .u32 (c.r 3), .int .u32 (c.r 4), .int .u32 (c.r 5), .int .u32 (c.r 6), .int .u32 (c.r 7), .int .i64 c.pc, .bool c.h]] W fun e w' => e = .returned (.bool (coreB l c)) ∧ (w'.cell? ⟨b, off + i, none⟩ = some (.slice q m qc) ∧ (∀ j, w'.cell? ⟨B, j, none⟩ = bs[j]?) ∧ (w'.cell? ⟨b', off' + i * 10, none⟩ = some (.int .u32 (c.r 0)) ∧ w'.cell? ⟨b', off' + i * 10 + 1, none⟩ = some (.int .u32 (c.r 1)) ∧ w'.cell? ⟨b', off' + i * 10 + 2, none⟩ = some (.int .u32 (c.r 2)) ∧ w'.cell? ⟨b', off' + i * 10 + 3, none⟩ = some (.int .u32 (c.r 3)) ∧ w'.cell? ⟨b', off' + i * 10 + 4, none⟩ = some (.int .u32 (c.r 4)) ∧ w'.cell? ⟨b', off' + i * 10 + 5, none⟩ = some (.int .u32 (c.r 5)) ∧ w'.cell? ⟨b', off' + i * 10 + 6, none⟩ = some (.int .u32 (c.r 6)) ∧ w'.cell? ⟨b', off' + i * 10 + 7, none⟩ = some (.int .u32 (c.r 7)) ∧ w'.cell? ⟨b', off' + i * 10 + 8, none⟩ = some (.int .i64 c.pc) ∧ w'.cell? ⟨b', off' + i * 10 + 9, none⟩ = some (.bool c.h))) ∧ Below W1.heap.size W1 w' := by
  have hh := coreRightR_any q qc l c W (HP.out.below hb)
  rw [hm.out] at hh
  refine hh.mono fun e w' he => ?_
  have hb := hb.trans (he.2.mono hb.size)
  exact ⟨he.1, ⟨(hb.cell (p := ⟨b, off + i, none⟩) l1.out).trans h1.out, (h2.out.below hb).c, ⟨(hb.cell (p := ⟨b', off' + i * 10, none⟩) l3.out).trans h3.out.1, (hb.cell (p := ⟨b', off' + i * 10 + 1, none⟩) l3.out).trans h3.out.2.1, (hb.cell (p := ⟨b', off' + i * 10 + 2, none⟩) l3.out).trans h3.out.2.2.1, (hb.cell (p := ⟨b', off' + i * 10 + 3, none⟩) l3.out).trans h3.out.2.2.2.1, (hb.cell (p := ⟨b', off' + i * 10 + 4, none⟩) l3.out).trans h3.out.2.2.2.2.1, (hb.cell (p := ⟨b', off' + i * 10 + 5, none⟩) l3.out).trans h3.out.2.2.2.2.2.1, (hb.cell (p := ⟨b', off' + i * 10 + 6, none⟩) l3.out).trans h3.out.2.2.2.2.2.2.1, (hb.cell (p := ⟨b', off' + i * 10 + 7, none⟩) l3.out).trans h3.out.2.2.2.2.2.2.2.1, (hb.cell (p := ⟨b', off' + i * 10 + 8, none⟩) l3.out).trans h3.out.2.2.2.2.2.2.2.2.1, (hb.cell (p := ⟨b', off' + i * 10 + 9, none⟩) l3.out).trans h3.out.2.2.2.2.2.2.2.2.2⟩⟩, hb⟩

set_option maxHeartbeats 2000000 in
theorem rightR_main (b off : Nat) (pm pc po : Option Addr) (cap lm cm len cc lo co : Nat) (P : List (List I5)) (l : List Cor) (w : World) (hl : P.length = len) (hp : Prgs w (some ⟨b, off, none⟩) P) (hlc : l.length = len) (hc : Sl w pc len (coresC l)) (h1 : 1 ≤ lm) (h2 : lm ≤ 64) (h3 : allB P = true) (h4 : len ≤ 4)
    (hlt0 : b < w.heap.size) (hx : ∀ i, i < len → ∃ q cap, w.cell? ⟨b, off + i, none⟩ = some (.slice q (atP P i).length cap) ∧ Prg w q (atP P i)) :
    Calls Try.prog 18 #[.slice (some ⟨b, off, none⟩) len cap, .agg #[.slice pm lm cm, .slice pc len cc, .slice po lo co]] w fun e w' => e = .returned (.bool (coresB P l len)) ∧ Below w.heap.size w w' := by
  have HL := Lib.hid hl
  have HP := Lib.hid hp
  have HLC := Lib.hid hlc
  have HC := Lib.hid hc
  have H3 := Lib.hid h3
  have HX := Lib.hid hx
  have HLT := Lib.hid hlt0
  clear hl hp hlc hc h3 hx hlt0
  have e1 : ((lm : Int) == 0) = false := by simp; omega
  have d2 : decide (64 < (lm : Int)) = false := decide_eq_false (by omega)
  have e2 : ((len : Int) != (len : Int)) = false := by simp
  have b0 : Hid (Below w.heap.size w (w.alloc (.cells #[.slice pm lm cm, .slice pc len cc, .slice po lo co] 27))) := (Below.refl _ _).alloc (Nat.le_refl _) _
  go_enter Try.func18, Try.ntmps18
  go_wp2_with fail
  have hal := allR_any (some ⟨b, off, none⟩) cap P _ (by rw [HL.out]; omega) (HP.out.below b0.out)
  rw [HL.out, H3.out] at hal
  refine hal.mono ?_
  clear hal
  rintro e w2 ⟨rfl, hb2⟩
  have b2 : Hid (Below w.heap.size w w2) := b0.out.trans (hb2.mono b0.out.size)
  have K2 : Hid (Blk w2 w.heap.size #[.slice pm lm cm, .slice pc len cc, .slice po lo co]) := Blk.track1 hb2
  clear hb2 b0
  have c := K2.out.c
  go_wp2_with fail
  clear c
  go_loopw [5] (fun i wr => ∃ k : Nat, k ≤ len ∧ i = .int .i64 k ∧ (∀ j, j < k → coreB (atP P j) (coreAt l j) = true) ∧ Blk wr w.heap.size #[.slice pm lm cm, .slice pc len cc, .slice po lo co] ∧ Below w.heap.size w wr) (fun i _ => len - (intOf i).toNat)
  case atStart => exact ⟨0, Nat.zero_le _, rfl, fun j hj => absurd hj (by omega), K2.out, b2.out⟩
  case round =>
    obtain ⟨i, hi, rfl, hall, hblk, hbel⟩ := hrel
    clear K2 b2
    have HA := Lib.hid hall
    have HK := Lib.hid hblk
    have HBE := Lib.hid hbel
    clear hall hblk hbel
    by_cases hlt : i < len
    · obtain ⟨q, qc, hcell, hprg⟩ := HX.out i hlt
      have hcp := (HBE.out.cell (p := ⟨b, off + i, none⟩) HLT.out).trans hcell
      have HPQ := Lib.hid (hprg.below HBE.out)
      obtain ⟨b', off', hb1, rfl, hb3⟩ := HC.out.below HBE.out (by omega)
      obtain ⟨c, hc⟩ : ∃ c, c = coreAt l i := ⟨_, rfl⟩
      have K : ∀ j, j < 10 → (coresC l)[i * 10 + j]? = c.row[j]? := fun j hj => by rw [hc]; exact coresC_at l i j (by rw [HLC.out]; exact hlt) hj
      have L : ∀ j, j < 10 → i * 10 + j < (coresC l).length := fun j hj => by rw [coresC_len, HLC.out]; omega
      have HC8 : Hid (wr.cell? ⟨b', off' + i * 10, none⟩ = some (.int .u32 (c.r 0)) ∧ wr.cell? ⟨b', off' + i * 10 + 1, none⟩ = some (.int .u32 (c.r 1)) ∧ wr.cell? ⟨b', off' + i * 10 + 2, none⟩ = some (.int .u32 (c.r 2)) ∧ wr.cell? ⟨b', off' + i * 10 + 3, none⟩ = some (.int .u32 (c.r 3)) ∧ wr.cell? ⟨b', off' + i * 10 + 4, none⟩ = some (.int .u32 (c.r 4)) ∧ wr.cell? ⟨b', off' + i * 10 + 5, none⟩ = some (.int .u32 (c.r 5)) ∧ wr.cell? ⟨b', off' + i * 10 + 6, none⟩ = some (.int .u32 (c.r 6)) ∧ wr.cell? ⟨b', off' + i * 10 + 7, none⟩ = some (.int .u32 (c.r 7)) ∧ wr.cell? ⟨b', off' + i * 10 + 8, none⟩ = some (.int .i64 c.pc) ∧ wr.cell? ⟨b', off' + i * 10 + 9, none⟩ = some (.bool c.h)) := ⟨(hb3 (i * 10 + 0) (L 0 (by omega))).trans (K 0 (by omega)), (hb3 (i * 10 + 1) (L 1 (by omega))).trans (K 1 (by omega)), (hb3 (i * 10 + 2) (L 2 (by omega))).trans (K 2 (by omega)), (hb3 (i * 10 + 3) (L 3 (by omega))).trans (K 3 (by omega)), (hb3 (i * 10 + 4) (L 4 (by omega))).trans (K 4 (by omega)), (hb3 (i * 10 + 5) (L 5 (by omega))).trans (K 5 (by omega)), (hb3 (i * 10 + 6) (L 6 (by omega))).trans (K 6 (by omega)), (hb3 (i * 10 + 7) (L 7 (by omega))).trans (K 7 (by omega)), (hb3 (i * 10 + 8) (L 8 (by omega))).trans (K 8 (by omega)), (hb3 (i * 10 + 9) (L 9 (by omega))).trans (K 9 (by omega))⟩
      have HCE := Lib.hid hc
      obtain ⟨n, hn⟩ : ∃ n, (atP P i).length = n := ⟨_, rfl⟩
      rw [hn] at hcp
      have HCP := Lib.hid hcp
      have HN := Lib.hid hn
      have HB1 := Lib.hid hb1
      have HLT2 : Hid (b < wr.heap.size) := Nat.lt_of_lt_of_le HLT.out HBE.out.size
      have i0 : (0 : Int) ≤ (i : Int) := by omega
      have i1 : (i : Int) < (len : Int) := by omega
      clear K L hb3 hb1 hc hcell hprg hn hcp
      go_wp2_with fail
      refine region_plan (fun w' : World => w'.cell? ⟨b, off + i, none⟩ = some (.slice q n qc) ∧ (∀ j, w'.cell? ⟨w.heap.size, j, none⟩ = (#[.slice pm lm cm, .slice (some ⟨b', off', none⟩) len cc, .slice po lo co] : Array Value)[j]?) ∧ (w'.cell? ⟨b', off' + i * 10, none⟩ = some (.int .u32 (c.r 0)) ∧ w'.cell? ⟨b', off' + i * 10 + 1, none⟩ = some (.int .u32 (c.r 1)) ∧ w'.cell? ⟨b', off' + i * 10 + 2, none⟩ = some (.int .u32 (c.r 2)) ∧ w'.cell? ⟨b', off' + i * 10 + 3, none⟩ = some (.int .u32 (c.r 3)) ∧ w'.cell? ⟨b', off' + i * 10 + 4, none⟩ = some (.int .u32 (c.r 4)) ∧ w'.cell? ⟨b', off' + i * 10 + 5, none⟩ = some (.int .u32 (c.r 5)) ∧ w'.cell? ⟨b', off' + i * 10 + 6, none⟩ = some (.int .u32 (c.r 6)) ∧ w'.cell? ⟨b', off' + i * 10 + 7, none⟩ = some (.int .u32 (c.r 7)) ∧ w'.cell? ⟨b', off' + i * 10 + 8, none⟩ = some (.int .i64 c.pc) ∧ w'.cell? ⟨b', off' + i * 10 + 9, none⟩ = some (.bool c.h))) 10 [(0, true), (1, true), (2, true), (3, true), (4, true), (5, true), (6, true), (7, true), (8, true), (9, false)] (by kernel_rfl) (by kernel_rfl) ⟨HCP.out, HK.out.c, HC8.out⟩ ?_
      iterate 9
        refine plan_read (v := ?_) rfl (by rfl) ?_ ?_
        rotate_left
        · intro w' hS
          try dsimp only at hS
          go_simp
          try with_reducible rfl
        try simp only [Act.put, List.setIfInBounds_toArray, List.set_cons_zero, List.set_cons_succ]
      refine plan_call (F := 32) (args := ?_) rfl (by rfl) ?_ ?_
      rotate_left
      · go_simp
        rfl
      refine (kright q n qc (atP P i) c wr wr.drew i w.heap.size b off b' off' _ HN HPQ HCP HK HC8 HLT2 HB1 (Below.refl _ _).drew).mono ?_
      rintro e w3 ⟨rfl, hS3, hb3⟩
      refine ⟨_, rfl, hS3, ?_⟩
      refine plan_nil ?_
      try simp only [Act.put, List.setIfInBounds_toArray, List.set_cons_zero, List.set_cons_succ]
      simp only [List.drop_succ_cons, List.drop_zero]
      have B3 := Lib.hid (HBE.out.trans (hb3.mono HBE.out.size))
      have K3 := Lib.hid (HK.out.below hb3)
      clear hb3 hS3
      cases hm : coreB (atP P i) c with
      | true =>
        have HM := Lib.hid hm
        clear hm
        go_wp2
        go_roundw
        case rel =>
          refine ⟨i + 1, by omega, by go_num, fun j hj => ?_, K3.out, B3.out⟩
          by_cases hji : j = i
          · rw [hji, ← HCE.out]; exact HM.out
          · exact HA.out j (by omega)
        case measure => simp [intOf]; omega
      | false =>
        have HM := Lib.hid hm
        clear hm
        go_wp2
        go_ret
        refine ⟨?_, B3.out⟩
        rw [coresB_no hlt (by rw [← HCE.out]; exact HM.out)]
        rfl
    · go_wp2
      go_ret
      refine ⟨?_, HBE.out⟩
      rw [coresB_yes (fun j hj => HA.out j (by omega))]
      rfl

theorem rightR4_any (p : Option Addr) (cap : Nat) (P : List (List I5)) (v : Value) (a : Atm) (w : World) (h6 : P.length ≤ 6) (hp : Prgs w p P) (hv : Mach w v a) :
    Calls Try.prog 18 #[.slice p P.length cap, v] w fun e w' => e = .returned (.bool (rightA P a)) ∧ Below w.heap.size w w' := by
  obtain ⟨pm, cm, pc, cc, po, co, rfl, h2, h3, h4⟩ := hv
  by_cases h : 1 ≤ a.mem.length ∧ a.mem.length ≤ 64 ∧ a.cores.length = P.length ∧ allB P = true
  · obtain ⟨g1, g2, g3, g4⟩ := h
    have e : rightA P a = coresB P a.cores a.cores.length := by
      unfold rightA
      rw [decide_eq_true g1, decide_eq_true g2, decide_eq_true g3, g4, g3]; rfl
    rw [e]
    have hlen := all_len g4
    obtain ⟨b, off, hlt, rfl, hx⟩ := hp (by omega)
    rw [← g3] at hx ⊢
    exact rightR_main b off pm pc po cap _ cm _ cc _ co P a.cores w g3.symm hp rfl h3 g1 g2 g4 (by omega) hlt hx
  · have e : rightA P a = false := by
      cases hr : rightA P a with
      | false => rfl
      | true =>
        unfold rightA at hr
        simp only [Bool.and_eq_true, decide_eq_true_eq] at hr
        exact (h ⟨hr.1.1, hr.1.2, hr.2.1, hr.2.2.1⟩).elim
    rw [e]
    exact rightR_head_no p pm pc po _ cap _ cm _ cc _ co P w rfl h6 hp h
end Go.Proofs.Ytekiialhljfglaa
/- A region that draws its order, of which a plan with branches is given; and an append to a row of one's own of a list that is nil. No program in sight. -/
namespace Go.Proofs.Ytekiialhljfglaa
set_option linter.unusedVariables false

inductive PlanT where
  | stop
  | read (i : Nat) (p : PlanT)
  | one (i : Nat) (p : PlanT)
  | two (i j : Nat) (p q : PlanT)

section
variable {P : Program} {ops : Array Oper} {md : Region.Mode} {Q : Exit → Act → World → Prop} {S : World → Prop}

def planTB (md : Region.Mode) (ops : Array Oper) (g n : Nat) : Nat → PlanT → Array Bool → Bool
  | 0, .stop, listed => Region.seqB md ops g n listed
  | d + 1, .read i p, listed => (Region.ready md ops listed).contains i && Region.free md ops listed i && decide (i < n) && planTB md ops g n d p (listed.setIfInBounds i true)
  | d + 1, .one i p, listed => decide (Region.ready md ops listed = [i]) && decide (i < n) && planTB md ops g n d p (listed.setIfInBounds i true)
  | d + 1, .two i j p q, listed => decide (Region.ready md ops listed = [i, j]) && (decide (i < n) && decide (j < n)) && (planTB md ops g n d p (listed.setIfInBounds i true) && planTB md ops g n d q (listed.setIfInBounds j true))
  | _, _, _ => false
def planTOk (ops : Array Oper) (n : Nat) (plan : PlanT) : Bool :=
  Region.noSelect ops && decide (n < ops.size) && Region.sinkB .any ops n && Region.chainB .any ops n && planTB .any ops (ops.size - n) n n plan (Array.replicate ops.size false)

def wpPlanT (P : Program) (ops : Array Oper) (Q : Exit → Act → World → Prop) (S : World → Prop) (K : Act → World → Prop) : PlanT → Act → World → Prop
  | .stop, a, w => K a w
  | .read i p, a, w => ∃ o v, ops[i]? = some o ∧ YieldsIf P ops S o v a ∧ wpPlanT P ops Q S K p (a.put o.dst v) w
  | .one i p, a, w => wpOp P ops Q i (fun a' w' => S w' ∧ wpPlanT P ops Q S K p a' w') a w
  | .two i j p q, a, w => wpOp P ops Q i (fun a' w' => S w' ∧ wpPlanT P ops Q S K p a' w') a w ∧ wpOp P ops Q j (fun a' w' => S w' ∧ wpPlanT P ops Q S K q a' w') a w

theorem anyHL_planT {n g : Nat} {K : Act → World → Prop} (hsel : Region.noSelect ops = true) (hs : Region.sinkB md ops n = true) (hc : Region.chainB md ops n = true) (hn : n < ops.size) (hQ : ∀ d v c a w, Q (.panic c) (a.put d v) w → Q (.panic c) a w) :
    ∀ (d : Nat) (l : PlanT) (listed : Array Bool) (a : Act) (w : World), HeadInv md ops n listed → planTB md ops g n d l listed = true → S w → wpPlanT P ops Q S K l a w →
      anyHL P md ops Q S n (fun listed' a' w' => Region.seqB md ops g n listed' = true ∧ K a' w') d listed a w
  | 0, .stop, listed, a, w, _, hB, _, h => ⟨hB, h⟩
  | d + 1, .read i p, listed, a, w, inv, hB, hS, h => by
    simp only [planTB, Bool.and_eq_true, decide_eq_true_eq] at hB
    obtain ⟨⟨⟨hr, hf⟩, hin⟩, hB'⟩ := hB
    obtain ⟨o, v, ho, hy, hK⟩ := h
    have hr' : i ∈ Region.ready md ops listed := by simpa using hr
    exact anyHL_first ho (Region.noSelect_spec hsel) hs hc hn hin (fun c a w => hQ _ _ c a w) (fun listed' a' w' hL => seqB_ready hL.1) d listed a w inv (Region.free_spec ho hf) hr' hy hS
      (anyHL_planT hsel hs hc hn hQ d p _ _ w (inv.set hr' hin) hB' hS hK)
  | d + 1, .one i p, listed, a, w, inv, hB, hS, h => by
    simp only [planTB, Bool.and_eq_true, decide_eq_true_eq] at hB
    obtain ⟨⟨hr, hin⟩, hB'⟩ := hB
    have hr' : i ∈ Region.ready md ops listed := by rw [hr]; exact List.mem_singleton.2 rfl
    refine ⟨by rw [hr]; simp, fun j hj => ?_⟩
    rw [hr] at hj
    have hji : j = i := by simpa using hj
    subst hji
    exact ⟨hin, wpOp_mono (fun a' w' h' => ⟨h'.1, anyHL_planT hsel hs hc hn hQ d p _ a' w' (inv.set hr' hin) hB' h'.1 h'.2⟩) h⟩
  | d + 1, .two i j p q, listed, a, w, inv, hB, hS, h => by
    simp only [planTB, Bool.and_eq_true, decide_eq_true_eq] at hB
    obtain ⟨⟨hr, hin, hjn⟩, hB1, hB2⟩ := hB
    have hr1 : i ∈ Region.ready md ops listed := by rw [hr]; simp
    have hr2 : j ∈ Region.ready md ops listed := by rw [hr]; simp
    refine ⟨by rw [hr]; simp, fun k hk => ?_⟩
    rw [hr] at hk
    have hki : k = i ∨ k = j := by simpa using hk
    rcases hki with rfl | rfl
    · exact ⟨hin, wpOp_mono (fun a' w' h' => ⟨h'.1, anyHL_planT hsel hs hc hn hQ d p _ a' w' (inv.set hr1 hin) hB1 h'.1 h'.2⟩) h.1⟩
    · exact ⟨hjn, wpOp_mono (fun a' w' h' => ⟨h'.1, anyHL_planT hsel hs hc hn hQ d q _ a' w' (inv.set hr2 hjn) hB2 h'.1 h'.2⟩) h.2⟩
  | 0, .read _ _, _, _, _, _, hB, _, _ => by simp [planTB] at hB
  | 0, .one _ _, _, _, _, _, hB, _, _ => by simp [planTB] at hB
  | 0, .two _ _ _ _, _, _, _, _, hB, _, _ => by simp [planTB] at hB
  | _ + 1, .stop, _, _, _, _, hB, _, _ => by simp [planTB] at hB

/-- A region by its plan. -/
theorem region_planT {id : Nat} {a : Act} {w : World} {l : List Oper} (S : World → Prop) (n : Nat) (plan : PlanT) (hm : P.follows .mixedOrders = true) (hB : planTOk l.toArray n plan = true) (hS : S w.drew)
    (h : wpPlanT P l.toArray (NoPanic Q) S (fun a' w' => wpList P l.toArray Q (l.drop n) a' w') plan a w.drew) : (Code.region id l.toArray true).wp P Q a w := by
  simp only [planTOk, Bool.and_eq_true, decide_eq_true_eq] at hB
  obtain ⟨⟨⟨⟨hsel, hn⟩, hs⟩, hc⟩, hplan⟩ := hB
  have hn' : n < l.length := by simpa using hn
  have hdl : (l.drop n).length = l.toArray.size - n := by simp
  have inv0 : HeadInv .any l.toArray n (Array.replicate l.toArray.size false) :=
    ⟨by simp, fun j oj _ hl => (by rw [getD_replicate_false] at hl; cases hl), fun t _ ht => getD_in (by simpa using ht) (getD_replicate_false _ _)⟩
  have H := anyHL_planT (P := P) (Q := NoPanic Q) (S := S) hsel hs hc hn (fun _ _ _ _ _ h => h) n plan _ a w.drew inv0 hplan hS h
  refine wp_region_any hm ?_
  have := any_of_headH (Q := Q) (g := l.toArray.size - n) (fun listed a' w' hL => by
    have := wpAny_of_seq (md := .any) (Q' := Q) (l.drop n) n listed a' w' (fun j => by simp [List.getElem?_drop]) (by rw [hdl]; exact hL.1) hL.2
    rwa [hdl] at this) _ _ _ _ H
  rw [show n + (l.toArray.size - n) = l.toArray.size by omega] at this
  exact this

variable {K : Act → World → Prop} {i j : Nat} {p q : PlanT} {a : Act} {w : World} {o : Oper}
theorem planT_read {v : Value} (ho : ops[i]? = some o) (hw : Region.wanted o (yielded ops a.tmps) = true) (hy : ∀ w, S w → (execOp a.eval o).run P w = .ok (.value v) w) (h : wpPlanT P ops Q S K p (a.put o.dst v) w) : wpPlanT P ops Q S K (.read i p) a w :=
  ⟨o, v, ho, .inl ⟨hw, hy⟩, h⟩
theorem op_call {K : Act → World → Prop} {F : FuncId} {args : Array Value} (ho : ops[i]? = some o) (hw : Region.wanted o (yielded ops a.tmps) = true) (hr : (execOp a.eval o).run P w = .ok (.enter F args) w)
    (h : Calls P F args w fun e w' => ∃ u, e = .returned u ∧ K (a.put o.dst u) w') : wpOp P ops Q i K a w := by
  unfold wpOp
  simp only [ho, hw, if_true, Oper.wp, hr, Oper.upon]
  left
  refine Calls.mono h fun e w' he => ?_
  obtain ⟨u, rfl, hK⟩ := he
  exact hK
/-- An operation that makes something new and yields a value. -/
theorem op_make {K : Act → World → Prop} {v : Value} {w1 : World} (ho : ops[i]? = some o) (hw : Region.wanted o (yielded ops a.tmps) = true) (hr : (execOp a.eval o).run P w = .ok (.value v) w1) (h : K (a.put o.dst v) w1) : wpOp P ops Q i K a w := by
  unfold wpOp
  simp only [ho, hw, if_true, Oper.wp, hr, Oper.upon]
  exact .inl h
theorem op_wp {K : Act → World → Prop} (ho : ops[i]? = some o) (hw : Region.wanted o (yielded ops a.tmps) = true) (h : o.wp P a w K Q) : wpOp P ops Q i K a w := by
  unfold wpOp
  simp only [ho, hw, if_true]
  exact .inl h
theorem planT_one (h : wpOp P ops Q i (fun a' w' => S w' ∧ wpPlanT P ops Q S K p a' w') a w) : wpPlanT P ops Q S K (.one i p) a w := h
theorem planT_two (h1 : wpOp P ops Q i (fun a' w' => S w' ∧ wpPlanT P ops Q S K p a' w') a w) (h2 : wpOp P ops Q j (fun a' w' => S w' ∧ wpPlanT P ops Q S K q a' w') a w) : wpPlanT P ops Q S K (.two i j p q) a w := ⟨h1, h2⟩
theorem planT_stop (h : K a w) : wpPlanT P ops Q S K .stop a w := h
end

section
variable {P : Program} {w : World}
theorem run_append_nil (base : Nat) (t ty e : TypeId) (i : TypeInfo) (size c : Nat) (ht : P.underlying t = some (.slice e)) (hi : P.info? e = some i)
    (v : Value) (n : Nat) (xs : List Value) (hown : w.ownsRow base e size v n xs) :
    (Builtin.append_ #[t, t] ty #[v, .slice none 0 c]).run P w = .ok v w := by
  rcases hown.2 with ⟨rfl, rfl⟩ | ⟨g, cap, cur, rfl, _, _, hnc, _⟩
  · simp [Builtin.append_, run_underlying ht, sizeOf, typeInfo, hi, Builtin.lenOf, Builtin.firstCells]
  · simp [Builtin.append_, run_underlying ht, sizeOf, typeInfo, hi, Builtin.lenOf, Builtin.firstCells, hnc, storeCells]
theorem wp_append_nil {o : Oper} {a : Act} {K : Act → World → Prop} {Q : Exit → Act → World → Prop} (s x : Operand) (t : TypeId)
    (ho : o.op = .call { callee := .builtin .append, args := #[s, x], argTypes := #[t, t] })
    (base : Nat) (e : TypeId) (i : TypeInfo) (size c : Nat) (ht : P.underlying t = some (.slice e)) (hi : P.info? e = some i)
    (v : Value) (n : Nat) (xs : List Value) (hs : a.eval s = v) (hown : w.ownsRow base e size v n xs) (hx : a.eval x = .slice none 0 c)
    (h : K (a.put o.dst v) w) : o.wp P a w K Q := by
  have hrun := run_append_nil (P := P) (w := w) base t o.type e i size c ht hi v n xs hown
  unfold Oper.wp
  simp [execOp, ho, resolve, invoke, builtin, hs, hx, hrun, Result.andThen]
  exact h
theorem wpList_append_nil {ops : Array Oper} {rest : List Oper} {o : Oper} {a : Act} {Q : Exit → Act → World → Prop} (hgd : o.guard = none) (s x : Operand) (t : TypeId)
    (ho : o.op = .call { callee := .builtin .append, args := #[s, x], argTypes := #[t, t] })
    (base : Nat) (e : TypeId) (i : TypeInfo) (size c : Nat) (ht : P.underlying t = some (.slice e)) (hi : P.info? e = some i)
    (v : Value) (n : Nat) (xs : List Value) (hs : a.eval s = v) (hown : w.ownsRow base e size v n xs) (hx : a.eval x = .slice none 0 c)
    (h : wpList P ops Q rest (a.put o.dst v) w) : wpList P ops Q (o :: rest) a w :=
  wpList_plain hgd fun K hK => wp_append_nil s x t ho base e i size c ht hi v n xs hs hown hx (hK _ _ h)
theorem wp_append_own_at {o : Oper} {a : Act} {K : Act → World → Prop} {Q : Exit → Act → World → Prop} (s x : Operand) (t : TypeId)
    (ho : o.op = .call { callee := .builtin .append, args := #[s, x], argTypes := #[t, t] })
    (base : Nat) (e : TypeId) (i : TypeInfo) (z : Value) (size bytes : Nat) (ht : P.underlying t = some (.slice e)) (hi : P.info? e = some i) (hz : i.zero = some z)
    (hsize : i.size = size) (hby : i.bytes = bytes) (hzs : z.cells.size = size) (hsz : 0 < size)
    (v : Value) (n : Nat) (xs : List Value) (hs : a.eval s = v) (hown : w.ownsRow base e size v n xs)
    (ad : Addr) (m c : Nat) (news : List Value) (hx : a.eval x = .slice (some ad) m c) (hl : news.length = m * size) (hnews : ∀ j u, news[j]? = some u → w.cell? (ad.add j) = some u) (h1 : ∀ u ∈ news, u.oneCell' = true)
    (h63 : n + m ≤ maxLen) (hbytes : (n + m) * bytes ≤ 140737488355328) (hbase : base ≤ w.heap.size)
    (h : ∀ v' w', w'.ownsRow base e size v' (n + m) (xs ++ news) → w.grownBy w' v.ownBlock → (v' = .slice none 0 0 ↔ v = .slice none 0 0 ∧ m = 0) → (v'.ownBlock = v.ownBlock ∨ v'.ownBlock = some w.heap.size) → K (a.put o.dst v') w') : o.wp P a w K Q := by
  obtain ⟨v', w', hr, h2, h3, h4, h5⟩ := run_append_own_at (P := P) w base t o.type e i z size bytes ht hi hz hsize hby hzs hsz v n xs hown ad m c news hl hnews h1 h63 hbytes hbase
  unfold Oper.wp execOp
  simp only [ho, resolve, invoke, builtin, Sem.run_bind, Sem.run_pure, Result.andThen_ok, List.map_toArray, List.map_cons, List.map_nil, hs, hx, hr]
  exact h v' w' h2 h3 h4 h5
end
end Go.Proofs.Ytekiialhljfglaa
