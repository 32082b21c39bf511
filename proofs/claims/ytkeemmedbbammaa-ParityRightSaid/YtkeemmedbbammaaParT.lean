/- The document's own New; rows that are laid one by one in memory of one's own; no condition. -/
import Derived.Test.YtkeemmedbbammaaParS
namespace Go.Proofs.Ytkeemmedbbammaa
set_option linter.unusedVariables false
open Go.ChangeShapes Go.WideShapes Go.ChangeAt Go.RowKit

theorem Nm.grown {w w' : World} {p : Option Addr} {l : List Nat} {row : Option Nat} (h : Nm w p l) (hg : w.grownBy w' row) (hne : ∀ a, p = some a → row ≠ some a.block) : Nm w' p l :=
  ⟨h.lt, fun h0 => by
    obtain ⟨b, off, h1, h2, h3⟩ := h.c h0
    refine ⟨b, off, Nat.lt_of_lt_of_le h1 hg.size, h2, fun k hk => ?_⟩
    rw [World.cell?_of_block (hg.block b h1 (fun e => hne _ h2 e.symm))]
    exact h3 k hk⟩
theorem rs_grown {w w' : World} {v : Value} {l : List Nat} {row : Option Nat} (h : Rs w v l) (hg : w.grownBy w' row) (hne : ∀ g, v.ownBlock = some g → row ≠ some g) : Rs w' v l := by
  obtain ⟨p, c, rfl, hc, hn⟩ := h
  exact ⟨p, c, rfl, hc, hn.grown hg (fun a e => hne a.block (by rw [e]; rfl))⟩
theorem Wd.grown {base : Nat} {w w' : World} {g m c : Nat} {l : List Nat} {row : Option Nat} (h : Wd base w g m c l) (hg : w.grownBy w' row) (hne : row ≠ some g) : Wd base w' g m c l :=
  ⟨h.row.kept hg (.inr (fun e => hne e.symm)), h.len, h.lt⟩
/-- Rows that are laid one by one in memory of one's own. -/
structure OwnG (base : Nat) (w : World) (v : Value) (ys : List Value) (L : List (List Nat)) : Prop where
  row : w.ownsRow base 23 1 v L.length ys
  rs : ∀ k, k < L.length → Rs w (ys.getD k vz) (L.getD k [])
  bl : ∀ k, k < L.length → ∀ g, (ys.getD k vz).ownBlock = some g → base ≤ g ∧ g < w.heap.size ∧ v.ownBlock ≠ some g
theorem OwnG.rw_ {base : Nat} {w : World} {v : Value} {ys : List Value} {L : List (List Nat)} (h : OwnG base w v ys L) (hn : L.length ≤ 100) (hl : ∀ l ∈ L, l.length ≤ 100) : ∃ p c, v = .slice p L.length c ∧ L.length ≤ c ∧ Rw w p ys L := by
  obtain ⟨p, c, rfl, hs⟩ := Sl.own h.row
  obtain ⟨p', c', e, hc⟩ := own_cap h.row
  injection e with _ _ e
  subst e
  exact ⟨p, c, rfl, hc, by rw [h.row.1, Nat.mul_one], hs, h.rs, hn, hl⟩
theorem OwnG.step {base : Nat} {w w6 w7 : World} {v v7 r : Value} {ys : List Value} {L : List (List Nat)} {l : List Nat} (h : OwnG base w v ys L) (hbase : base ≤ w.heap.size) (hb : Below w.heap.size w w6) (hr : w6.ownsRow w.heap.size 26 1 r l.length (u32C l)) (hl : ∀ x ∈ l, x < 4294967296)
    (g1 : w7.ownsRow base 23 1 v7 (L.length + 1) (ys ++ [r])) (g2 : w6.grownBy w7 v.ownBlock) (g3 : v7.ownBlock = v.ownBlock ∨ v7.ownBlock = some w6.heap.size) : OwnG base w7 v7 (ys ++ [r]) (L ++ [l]) := by
  have hys : ys.length = L.length := by rw [h.row.1, Nat.mul_one]
  have hv : ∀ g, v.ownBlock = some g → g < w.heap.size := fun g e => (h.row.lt g e).2
  refine ⟨by rw [List.length_append]; exact g1, fun k hk => ?_, fun k hk g e => ?_⟩
  · rw [List.length_append] at hk
    simp at hk
    rw [getD_append1, getD_append1, hys]
    by_cases hkl : k < L.length
    · rw [if_pos hkl, if_pos hkl]
      exact rs_grown ((h.rs k hkl).below hb) g2 (fun g e => (h.bl k hkl g e).2.2)
    · rw [if_neg hkl, if_neg hkl, if_pos (by omega), if_pos (by omega)]
      exact rs_grown (Wv.rs hr hl) g2 (fun g e e2 => by have h1 := (hr.lt g e).1; have h2 := hv g e2; omega)
  · rw [List.length_append] at hk
    simp at hk
    rw [getD_append1, hys] at e
    by_cases hkl : k < L.length
    · rw [if_pos hkl] at e
      obtain ⟨h1, h2, h3⟩ := h.bl k hkl g e
      refine ⟨h1, Nat.lt_of_lt_of_le h2 (Nat.le_trans hb.size g2.size), fun e2 => ?_⟩
      rcases g3 with g3 | g3
      · rw [g3] at e2; exact h3 e2
      · rw [g3] at e2; injection e2 with e2; have := hb.size; omega
    · rw [if_neg hkl, if_pos (by omega)] at e
      have h1 := hr.lt g e
      refine ⟨by omega, Nat.lt_of_lt_of_le h1.2 g2.size, fun e2 => ?_⟩
      rcases g3 with g3 | g3
      · rw [g3] at e2; have := hv g e2; omega
      · rw [g3] at e2; injection e2 with e2; omega
theorem OwnG.below {base : Nat} {w w' : World} {v : Value} {ys : List Value} {L : List (List Nat)} (h : OwnG base w v ys L) (hb : Below w.heap.size w w') : OwnG base w' v ys L :=
  ⟨own_below h.row hb, fun k hk => (h.rs k hk).below hb, fun k hk g e => by obtain ⟨h1, h2, h3⟩ := h.bl k hk g e; exact ⟨h1, Nat.lt_of_lt_of_le h2 hb.size, h3⟩⟩
theorem OwnG.off {base : Nat} {w : World} {v : Value} {ys : List Value} {L : List (List Nat)} (h : OwnG base w v ys L) {R : Nat} (hR : R < base) (j : Nat) (u : Value) : OwnG base (w.setCell ⟨R, j, none⟩ u) v ys L := by
  refine ⟨own_off h.row (fun g e => by have := (h.row.lt g e).1; omega) j u, fun k hk => ?_, fun k hk g e => ?_⟩
  · have hg : w.grownBy (w.setCell ⟨R, j, none⟩ u) (some R) := ⟨rfl, rfl, rfl, by simp, fun k _ hk => heap_setCell_other w ⟨R, j, none⟩ k u (fun e => hk (by simp [e]))⟩
    exact rs_grown (h.rs k hk) hg (fun g e e2 => by injection e2 with e2; have := (h.bl k hk g e).1; omega)
  · obtain ⟨h1, h2, h3⟩ := h.bl k hk g e
    exact ⟨h1, by simpa using h2, h3⟩
theorem OwnG.none (base : Nat) (w : World) : OwnG base w (.slice none 0 0) [] [] := ⟨World.ownsRow_nil _ _ _ _, fun k hk => absurd hk (Nat.not_lt_zero _), fun k hk => absurd hk (Nat.not_lt_zero _)⟩

set_option maxHeartbeats 8000000 in
theorem rnew_any (n m : Int) (w : World) : Calls Try.prog 18 #[.int .i64 n, .int .i64 m] w fun e w' => ROut w w' (fun _ => True) e (newB n m) (newE n m) := by
  obtain ⟨B, hB⟩ : ∃ B, B = newB n m := ⟨_, rfl⟩
  obtain ⟨E, hE⟩ : ∃ E, E = newE n m := ⟨_, rfl⟩
  rw [← hB, ← hE]
  have HNO : Hid (¬ (1 ≤ n ∧ n ≤ 8 ∧ 1 ≤ m ∧ m ≤ 64) → B = ⟨[], [], 0⟩ ∧ E = 1) := Lib.hid (fun hh => by
    have e : mayN n m = false := by unfold mayN; exact decide_eq_false hh
    rw [hB, hE]; unfold newB newE; rw [e]; exact ⟨rfl, rfl⟩)
  have HYES : Hid (1 ≤ n ∧ n ≤ 8 ∧ 1 ≤ m ∧ m ≤ 64 → B = ⟨List.replicate n.toNat (List.replicate m.toNat 0), List.replicate m.toNat 0, 0⟩ ∧ E = 0) := Lib.hid (fun hh => by
    have e : mayN n m = true := by unfold mayN; exact decide_eq_true hh
    rw [hB, hE]; unfold newB newE; rw [e]; exact ⟨rfl, rfl⟩)
  clear hB hE
  have HBN : Hid (Bn (w.alloc (.cells #[.slice none 0 0, .slice none 0 0, .int .i64 0] 25)) none 0 0 [] none 0 0 ⟨[], [], 0⟩) := Lib.hid ⟨rfl, Rw.nil _ _, Nat.le_refl _, rfl, ⟨fun _ h => (by cases h), fun h => absurd h (by decide)⟩, Nat.le_refl _, by decide⟩
  have HB0 : Hid (Below w.heap.size w (w.alloc (.cells #[.slice none 0 0, .slice none 0 0, .int .i64 0] 25))) := Lib.hid ((Below.refl _ _).alloc (Nat.le_refl _) _)
  go_enter Try.func18, Try.ntmps18
  by_cases h1 : n < 1
  · have d1 : decide (n < 1) = true := decide_eq_true h1
    obtain ⟨hB, hE⟩ := HNO.out (by omega)
    subst hB hE
    clear h1
    go_wp2_with fail
    exact bodyPost_ret (v := .tuple #[.agg #[.slice none 0 0, .slice none 0 0, .int .i64 0], .int .i64 1]) (by simp [results, Try.results18, go_sem, *]) rfl ⟨none, 0, 0, [], none, 0, 0, rfl, HBN.out, HB0.out, fun R _ _ => ⟨fun h => absurd h (by decide), fun k h => absurd h (Nat.not_lt_zero _), fun h => absurd h (by decide)⟩⟩
  have d1 : decide (n < 1) = false := decide_eq_false h1
  by_cases h2 : 8 < n
  · have d2 : decide (8 < n) = true := decide_eq_true h2
    obtain ⟨hB, hE⟩ := HNO.out (by omega)
    subst hB hE
    clear h1 h2
    go_wp2_with fail
    exact bodyPost_ret (v := .tuple #[.agg #[.slice none 0 0, .slice none 0 0, .int .i64 0], .int .i64 1]) (by simp [results, Try.results18, go_sem, *]) rfl ⟨none, 0, 0, [], none, 0, 0, rfl, HBN.out, HB0.out, fun R _ _ => ⟨fun h => absurd h (by decide), fun k h => absurd h (Nat.not_lt_zero _), fun h => absurd h (by decide)⟩⟩
  have d2 : decide (8 < n) = false := decide_eq_false h2
  by_cases h3 : m < 1
  · have d3 : decide (m < 1) = true := decide_eq_true h3
    obtain ⟨hB, hE⟩ := HNO.out (by omega)
    subst hB hE
    clear h1 h2 h3
    go_wp2_with fail
    exact bodyPost_ret (v := .tuple #[.agg #[.slice none 0 0, .slice none 0 0, .int .i64 0], .int .i64 1]) (by simp [results, Try.results18, go_sem, *]) rfl ⟨none, 0, 0, [], none, 0, 0, rfl, HBN.out, HB0.out, fun R _ _ => ⟨fun h => absurd h (by decide), fun k h => absurd h (Nat.not_lt_zero _), fun h => absurd h (by decide)⟩⟩
  have d3 : decide (m < 1) = false := decide_eq_false h3
  by_cases h4 : 64 < m
  · have d4 : decide (64 < m) = true := decide_eq_true h4
    obtain ⟨hB, hE⟩ := HNO.out (by omega)
    subst hB hE
    clear h1 h2 h3 h4
    go_wp2_with fail
    exact bodyPost_ret (v := .tuple #[.agg #[.slice none 0 0, .slice none 0 0, .int .i64 0], .int .i64 1]) (by simp [results, Try.results18, go_sem, *]) rfl ⟨none, 0, 0, [], none, 0, 0, rfl, HBN.out, HB0.out, fun R _ _ => ⟨fun h => absurd h (by decide), fun k h => absurd h (Nat.not_lt_zero _), fun h => absurd h (by decide)⟩⟩
  have d4 : decide (64 < m) = false := decide_eq_false h4
  obtain ⟨hB, hE⟩ := HYES.out (by omega)
  subst hE
  obtain ⟨N, rfl⟩ := Int.eq_ofNat_of_zero_le (show 0 ≤ n by omega)
  obtain ⟨M, rfl⟩ := Int.eq_ofNat_of_zero_le (show 0 ≤ m by omega)
  simp only [Int.toNat_natCast] at hB
  have hN1 : 1 ≤ N := by omega
  have hN8 : N ≤ 8 := by omega
  have hM1 : 1 ≤ M := by omega
  have hM64 : M ≤ 64 := by omega
  have HBE := Lib.hid hB
  obtain ⟨i6, hi6, hz60, hz61, hz62⟩ := info_parts info26
  have HI6 := Lib.hid (And.intro hi6 (And.intro hz60 (And.intro hz61 hz62)))
  obtain ⟨i3, hi3, hz30, hz31, hz32⟩ := info_parts info23
  have HI3 := Lib.hid (And.intro hi3 (And.intro hz30 (And.intro hz31 hz32)))
  have HK0 : Hid (Blk (w.alloc (.cells #[.slice none 0 0, .slice none 0 0, .int .i64 0] 25)) w.heap.size #[.slice none 0 0, .slice none 0 0, .int .i64 0]) := Lib.hid (Blk.new _ _ _)
  clear hi6 hz60 hz61 hz62 hi3 hz30 hz31 hz32 HNO HYES HBN h1 h2 h3 h4 hB
  go_upto_region 3 with fail
  obtain ⟨w0, hw0⟩ : ∃ w0, w0 = w.alloc (.cells #[.slice none 0 0, .slice none 0 0, .int .i64 0] 25) := ⟨_, rfl⟩
  have HSZ : Hid (w0.heap.size = w.heap.size + 1) := Lib.hid (by rw [hw0]; exact World.size_alloc _ _)
  rw [← hw0] at HK0 HB0 ⊢
  clear hw0 d1 d2 d3 d4
  go_upto_region 4 with (first | (refine wpList_make_full _ rfl _ _ 23 rfl w0.heap.size 26 i6 (.int .u32 0) 1 Try.underlying23 HI6.out.1 HI6.out.2.1 HI6.out.2.2.1 .i64 .i64 M M M rfl rfl rfl rfl (by rw [HI6.out.2.2.2]; omega) (by unfold maxLen; omega) (Nat.le_refl _) ?_))
  intro w1 g1 g2
  have HW1 := Lib.hid (Wd.made g1)
  have HB1 : Hid (Below w0.heap.size w0 w1) := Lib.hid ((Below.refl _ _).grown g2 (Nat.le_refl _) (fun k hk => by cases hk))
  have HK1 := Lib.hid (HK0.out.below HB1.out)
  have HBW : Hid (Below w.heap.size w w1) := Lib.hid (HB0.out.trans (HB1.out.mono HB0.out.size))
  have HGE : Hid (w.heap.size + 1 ≤ w0.heap.size) := Lib.hid (Nat.le_of_eq HSZ.out.symm)
  obtain ⟨gp, hgp⟩ : ∃ g, g = w0.heap.size := ⟨_, rfl⟩
  rw [← hgp] at HW1 HGE ⊢
  clear g1 g2 hgp HB0 HB1 HK0 HSZ
  go_upto_region 4 with fail
  have HKB2 : Hid (Blk (w1.alloc (.cells #[.slice none 0 0, .slice (some ⟨gp, 0, none⟩) M M, .int .i64 0] 25)) w1.heap.size #[.slice none 0 0, .slice (some ⟨gp, 0, none⟩) M M, .int .i64 0]) := Lib.hid (Blk.new _ _ _)
  have HBA : Hid (Below w1.heap.size w1 (w1.alloc (.cells #[.slice none 0 0, .slice (some ⟨gp, 0, none⟩) M M, .int .i64 0] 25))) := Lib.hid ((Below.refl _ _).alloc (Nat.le_refl _) _)
  have HKR2 := Lib.hid (HK1.out.below HBA.out)
  have HW2 := Lib.hid (HW1.out.below HBA.out)
  have HB2 : Hid (Below w.heap.size w (w1.alloc (.cells #[.slice none 0 0, .slice (some ⟨gp, 0, none⟩) M M, .int .i64 0] 25))) := Lib.hid (HBW.out.trans (HBA.out.mono HBW.out.size))
  have HGB : Hid (gp < w1.heap.size) := Lib.hid HW1.out.ge.2
  have HS2 : Hid ((w1.alloc (.cells #[.slice none 0 0, .slice (some ⟨gp, 0, none⟩) M M, .int .i64 0] 25)).heap.size = w1.heap.size + 1) := Lib.hid (World.size_alloc _ _)
  obtain ⟨w2, hw2⟩ : ∃ w2, w2 = w1.alloc (.cells #[.slice none 0 0, .slice (some ⟨gp, 0, none⟩) M M, .int .i64 0] 25) := ⟨_, rfl⟩
  obtain ⟨bb, hbb⟩ : ∃ b, b = w1.heap.size := ⟨_, rfl⟩
  have HWB : Hid (w.heap.size < bb) := Lib.hid (by rw [hbb]; exact HK1.out.lt)
  rw [← hw2] at HKB2 HKR2 HW2 HB2 HS2 ⊢
  rw [← hbb] at HKB2 HGB HS2 ⊢
  clear hw2 hbb HW1 HK1 HBW HBA
  go_wp2_with fail
  go_loopw [7] (fun s wr => ∃ k : Nat, k ≤ N ∧ s = .int .i64 k ∧ (∃ v ys, OwnG (bb + 1) wr v ys (List.replicate k (List.replicate M 0)) ∧ Blk wr bb #[v, .slice (some ⟨gp, 0, none⟩) M M, .int .i64 0]) ∧ Wd 0 wr gp M M (List.replicate M 0) ∧ Blk wr w.heap.size #[.slice none 0 0, .slice none 0 0, .int .i64 0] ∧ Below w.heap.size w wr) (fun s _ => N - (intOf s).toNat)
  case atStart => exact ⟨0, Nat.zero_le _, rfl, ⟨_, _, OwnG.none _ _, HKB2.out⟩, HW2.out.mono (Nat.zero_le _), HKR2.out, HB2.out⟩
  case round =>
    obtain ⟨k, hk, rfl, ⟨v, ys, ho, hkb⟩, hwd, hkr, hb⟩ := hrel
    clear HKB2 HKR2 HW2 HB2
    have HO := Lib.hid ho
    have HKB := Lib.hid hkb
    have HWD := Lib.hid hwd
    have HKR := Lib.hid hkr
    have HB := Lib.hid hb
    have hrow := ho.row
    rw [List.length_replicate] at hrow
    obtain ⟨pv, cv, rfl, hcv⟩ := own_cap hrow
    have HROW := Lib.hid hrow
    clear ho hkb hwd hkr hb hrow hcv
    have kB := HKB.out.c
    by_cases hlt : k < N
    · have hltI : decide ((k : Int) < N) = true := decide_eq_true (by omega)
      go_upto_region 7 with fail
      obtain ⟨w5, hrun, g1, g2⟩ := run_make_full (P := Try.prog) wr.drew wr.heap.size 23 26 i6 (.int .u32 0) 1 Try.underlying23 HI6.out.1 HI6.out.2.1 HI6.out.2.2.1 .i64 .i64 M (by rw [HI6.out.2.2.2]; omega) (by unfold maxLen; omega) (Nat.le_refl _)
      have hsz5 : wr.drew.heap.size = wr.heap.size := rfl
      rw [hsz5] at hrun g1
      have HW5 : Hid (Wd wr.heap.size w5 wr.heap.size M M (List.replicate M 0)) := Lib.hid (Wd.made (by rw [Nat.mul_one] at g1; exact g1))
      have HB5 : Hid (Below wr.heap.size wr w5) := Lib.hid ((Below.refl wr.heap.size wr).drew.grown g2 (Nat.le_refl _) (fun k hk => by cases hk))
      clear g1 g2 hsz5
      refine region_plan (fun w' : World => (∀ j, w'.cell? ⟨bb, j, none⟩ = (#[.slice pv k cv, .slice (some ⟨gp, 0, none⟩) M M, .int .i64 0] : Array Value)[j]?) ∧ Below wr.heap.size wr w') 5 [(0, true), (1, true), (2, true), (3, false), (4, false)] (by kernel_rfl) (by kernel_rfl) (sOf HKB ((Below.refl _ _).drew)) ?_
      iterate 3
        refine plan_read (v := ?_) rfl (by rfl) ?_ ?_
        rotate_left
        · intro w' hS
          try dsimp only at hS
          go_simp
          try with_reducible rfl
        try simp only [Act.put, List.setIfInBounds_toArray, List.set_cons_zero, List.set_cons_succ, List.getElem_toArray, List.getElem_cons_zero, List.getElem_cons_succ]
      refine plan_make (v := .slice (some ⟨wr.heap.size, 0, none⟩) M M) (w1 := w5) rfl (by rfl) (by go_simp) (sOf HKB HB5.out) ?_
      try simp only [Act.put, List.setIfInBounds_toArray, List.set_cons_zero, List.set_cons_succ, List.getElem_toArray, List.getElem_cons_zero, List.getElem_cons_succ]
      have HB6 : Hid (Below wr.heap.size wr (w5.alloc (.cells #[.slice (some ⟨wr.heap.size, 0, none⟩) M M] 23))) := Lib.hid (HB5.out.alloc HB5.out.size _)
      refine plan_make (v := .slice (some ⟨w5.heap.size, 0, none⟩) 1 1) (w1 := w5.alloc (.cells #[.slice (some ⟨wr.heap.size, 0, none⟩) M M] 23)) rfl (by rfl) (by go_simp) (sOf HKB HB6.out) ?_
      try simp only [Act.put, List.setIfInBounds_toArray, List.set_cons_zero, List.set_cons_succ, List.getElem_toArray, List.getElem_cons_zero, List.getElem_cons_succ]
      refine plan_nil ?_
      simp only [List.drop_succ_cons, List.drop_zero]
      have HNW : Hid (Blk (w5.alloc (.cells #[.slice (some ⟨wr.heap.size, 0, none⟩) M M] 23)) w5.heap.size [Value.slice (some ⟨wr.heap.size, 0, none⟩) M M].toArray) := Lib.hid (Blk.new _ _ _)
      have HW6 := Lib.hid (HW5.out.below ((Below.refl w5.heap.size w5).alloc (Nat.le_refl _) (.cells #[.slice (some ⟨wr.heap.size, 0, none⟩) M M] 23)))
      obtain ⟨w6, hw6⟩ : ∃ w6, w6 = w5.alloc (.cells #[.slice (some ⟨wr.heap.size, 0, none⟩) M M] 23) := ⟨_, rfl⟩
      rw [← hw6] at HB6 HNW HW6 ⊢
      have HROW6 := Lib.hid (own_below HROW.out HB6.out)
      have HKB6 := Lib.hid (HKB.out.below HB6.out)
      have HKR6 := Lib.hid (HKR.out.below HB6.out)
      have HWD6 := Lib.hid (HWD.out.below HB6.out)
      have HBW6 : Hid (Below w.heap.size w w6) := Lib.hid (HB.out.trans (HB6.out.mono HB.out.size))
      have HBL : Hid (bb + 1 ≤ wr.heap.size) := Lib.hid HKB.out.lt
      clear hw6 hrun HKB HKR HWD HB kB HB5
      go_wp2_with (first | (at_builtin; refine wpList_append_sl rfl _ _ 22 rfl (bb + 1) 23 i3 (.slice none 0 0) 1 24 Try.underlying22 HI3.out.1 HI3.out.2.1 HI3.out.2.2.1 HI3.out.2.2.2 rfl (by decide) _ k ys rfl HROW6.out (some ⟨w5.heap.size, 0, none⟩) 1 1 [.slice (some ⟨wr.heap.size, 0, none⟩) M M] rfl rfl (blk_sl HNW.out) (by intro u hu; rw [List.mem_singleton.1 hu]; rfl) (by unfold maxLen; omega) (by omega) (Nat.le_trans HBL.out HB6.out.size) ?_))
      intro v7 w7 g1 g2 g3
      have hob : ∀ g, (Value.slice pv k cv).ownBlock = some g → bb + 1 ≤ g := fun g e => (HROW6.out.lt g e).1
      have HO7 : Hid (OwnG (bb + 1) w7 v7 (ys ++ [.slice (some ⟨wr.heap.size, 0, none⟩) M M]) (List.replicate (k + 1) (List.replicate M 0))) := Lib.hid (by
        rw [List.replicate_succ']
        exact HO.out.step HBL.out HB6.out (by rw [List.length_replicate]; exact HW6.out.row) (rep_lt M) (by rw [List.length_replicate]; exact g1) g2 g3)
      have HKB7 := Lib.hid (HKB6.out.grown g2 (fun e => by have := hob _ e; omega))
      have HKR7 := Lib.hid (HKR6.out.grown g2 (fun e => by have := hob _ e; have := HWB.out; omega))
      have HWD7 := Lib.hid (HWD6.out.grown g2 (fun e => by have := hob _ e; have := HGB.out; omega))
      have HB7 : Hid (Below w.heap.size w w7) := Lib.hid (HBW6.out.grown g2 HBW6.out.size (fun g e => by have := hob g e; have := HWB.out; omega))
      obtain ⟨p7, c7, rfl, _⟩ := own_cap g1
      clear g1 g2 g3 hob
      have kB := HKB7.out.c
      have fB := HKB7.out.f
      have lB := HKB7.out.lt
      go_wp2_with fail
      have HO8 := Lib.hid (HO7.out.off (R := bb) (by omega) 0 (.slice p7 (k + 1) c7))
      have HKB8 := Lib.hid (HKB7.out.set (n := 0) (.slice p7 (k + 1) c7) (by simp))
      have HKR8 := Lib.hid (HKR7.out.other (B' := bb) (n := 0) (.slice p7 (k + 1) c7) (by have := HWB.out; omega))
      have HWD8 := Lib.hid (HWD7.out.off (R := bb) (by have := HGB.out; omega) 0 (.slice p7 (k + 1) c7))
      have HB8 := Lib.hid (HB7.out.setCell (p := ⟨bb, 0, none⟩) (by show w.heap.size ≤ bb; have := HWB.out; omega) (.slice p7 (k + 1) c7))
      go_roundw
      case rel => exact ⟨k + 1, by omega, by go_num, ⟨_, _, HO8.out, HKB8.out⟩, HWD8.out, HKR8.out, HB8.out⟩
      case measure => simp [intOf]; omega
    · have hltI : decide ((k : Int) < N) = false := decide_eq_false (by omega)
      have hkn : k = N := by omega
      subst hkn
      obtain ⟨pz, cz, e1, hcz, hrw⟩ := HO.out.rw_ (by rw [List.length_replicate]; omega) (fun l hl => by rw [(List.mem_replicate.1 hl).2, List.length_replicate]; omega)
      rw [List.length_replicate] at e1 hcz
      injection e1 with e1 e2 e3
      subst e1 e3
      have HBN : Hid (Bn wr pv k cv ys (some ⟨gp, 0, none⟩) M M ⟨List.replicate k (List.replicate M 0), List.replicate M 0, 0⟩) := Lib.hid ⟨by simp, hrw, hcz, by simp, HWD.out.nm, Nat.le_refl _, by omega⟩
      have HOF : Hid (∀ R, R ≤ w.heap.size → Off R pv ys (List.replicate k (List.replicate M 0)) (some ⟨gp, 0, none⟩) (List.replicate M 0)) := Lib.hid fun R hR => ⟨fun h0 a e => by
          subst e
          have := (HROW.out.lt a.block rfl).1
          have := HWB.out
          omega, fun i hi h0 g e => by
          have := (HO.out.bl i hi g e).1
          have := HWB.out
          omega, fun h0 a e => by
          injection e with e
          subst e
          show gp ≠ R
          have := HGE.out
          omega⟩
      clear hrw hcz e2
      have cR := HKR.out.c
      have fR := HKR.out.f
      have lR := HKR.out.lt
      go_wp2_with fail
      refine bodyPost_ret (v := .tuple #[.agg #[.slice pv k cv, .slice (some ⟨gp, 0, none⟩) M M, .int .i64 0], .int .i64 0]) (by simp [results, Try.results18, go_sem, *]) rfl ⟨pv, k, cv, ys, some ⟨gp, 0, none⟩, M, M, by rw [HBE.out], ?_, set3_below HB.out (Nat.le_refl _) _ _ _, ?_⟩
      all_goals rw [HBE.out]
      rotate_left
      · exact fun R hR _ => HOF.out R (by omega)
      exact HBN.out.set3 (HOF.out _ (Nat.le_refl _)) _ _ _
end Go.Proofs.Ytkeemmedbbammaa
