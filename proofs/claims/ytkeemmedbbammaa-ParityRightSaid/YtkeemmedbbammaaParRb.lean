/- ParityRight: the walk of the statement's function. -/
import Derived.Test.YtkeemmedbbammaaParOpen
import Derived.Test.YtkeemmedbbammaaParW
import Derived.Deep.CutBlock
import Derived.Deep.DeepCutAuto
namespace Go.Proofs.Ytkeemmedbbammaa
set_option linter.unusedVariables false
open Go.ChangeShapes Go.WideShapes Go.ChangeAt Go.RowKit

theorem own_grown {w w' : World} {base : Nat} {e : TypeId} {size : Nat} {v : Value} {n : Nat} {xs : List Value} {row : Option Nat} (h : w.ownsRow base e size v n xs) (hg : w.grownBy w' row) (hne : ∀ b, v.ownBlock = some b → row ≠ some b) : w'.ownsRow base e size v n xs := by
  refine h.kept hg ?_
  cases hv : v.ownBlock with
  | none => exact .inl rfl
  | some b => exact .inr (fun e => hne b hv e.symm)
set_option maxHeartbeats 32000000 in
set_option maxRecDepth 100000 in
theorem pright_main (p : Option Addr) (n c : Nat) (xs : List Value) (pp : Option Addr) (m cc : Nat) (B : Bk) (bank at_ : Int) (v : Nat) (banks words : Int) (w : World) (h : BnX w p n c xs pp m cc B) (hv : v < 4294967296) :
    Calls Try.prog 3 #[.agg #[.slice p n c, .slice pp m cc, .int .i64 B.lost], .int .i64 bank, .int .i64 at_, .int .u32 v, .int .i64 banks, .int .i64 words] w fun e w' => e = .returned (.bool true) ∧ Below w.heap.size w w' := by
  have HX := Lib.hid h
  have hnx := h.nx
  have hmx := h.mx
  unfold maxLen at hnx hmx
  obtain ⟨z, hz⟩ : ∃ z, z = B.lost := ⟨_, rfl⟩
  rw [← hz]
  have HZ := Lib.hid hz
  have HV := Lib.hid hv
  obtain ⟨i6, hi6, hz60, hz61, hz62⟩ := info_parts info26
  have HI6 := Lib.hid (And.intro hi6 (And.intro hz60 (And.intro hz61 hz62)))
  obtain ⟨i3, hi3, hz30, hz31, hz32⟩ := info_parts info23
  have HI3 := Lib.hid (And.intro hi3 (And.intro hz30 (And.intro hz31 hz32)))
  clear hi6 hz60 hz61 hz62 hi3 hz30 hz31 hz32 h hz hv
  go_enter Try.func3, Try.ntmps3
  go_wp2_with fail
  refine (awake_any _).mono ?_
  rintro e w1 ⟨rfl, hb1⟩
  have HK1 := Lib.hid (Blk.track1 hb1)
  have HB1 : Hid (Below w.heap.size w w1) := Lib.hid (((Below.refl _ _).alloc (Nat.le_refl _) _).trans (hb1.mono (by simp)))
  clear hb1
  have kA := HK1.out.c
  go_upto_region 3 with fail
  go_wp2_with fail
  have hsh := short_any p n c xs pp m cc B w1 (HX.out.below HB1.out)
  obtain ⟨sb, hsb⟩ : ∃ sb, sb = shortB B := ⟨_, rfl⟩
  rw [← hsb, ← HZ.out] at hsh
  have HSB := Lib.hid hsb
  refine hsh.mono ?_
  clear hsh hsb
  rintro e w2 ⟨rfl, hb2⟩
  have HB2 : Hid (Below w.heap.size w w2) := Lib.hid (HB1.out.trans (hb2.mono HB1.out.size))
  have HK2 := Lib.hid (HK1.out.below hb2)
  clear hb2 HB1 HK1 kA
  cases sb with
  | false =>
    go_wp2_with fail
    go_ret
    exact ⟨rfl, HB2.out⟩
  | true =>
  have HH := Lib.hid (HX.out.bn HSB.out.symm)
  have hn100 := HH.out.n100
  have hm100 := HH.out.m100
  have HSZ2 : Hid (w.heap.size < w2.heap.size) := Lib.hid HK2.out.lt
  clear hnx hmx HX HSB
  have kA := HK2.out.c
  go_upto_region 6 with fail
  have HA2 : Hid (Below w2.heap.size w2 (w2.alloc (.cells #[.slice p n c, .slice pp m cc, .int .i64 z] 25))) := Lib.hid ((Below.refl _ _).alloc (Nat.le_refl _) _)
  have HM3 : Hid (Blk (w2.alloc (.cells #[.slice p n c, .slice pp m cc, .int .i64 z] 25)) w2.heap.size #[.slice p n c, .slice pp m cc, .int .i64 z]) := Lib.hid (Blk.new _ _ _)
  obtain ⟨bm, hbm⟩ : ∃ b, b = w2.heap.size := ⟨_, rfl⟩
  obtain ⟨w3, hw3⟩ : ∃ w3, w3 = w2.alloc (.cells #[.slice p n c, .slice pp m cc, .int .i64 z] 25) := ⟨_, rfl⟩
  rw [← hw3] at HA2 HM3 ⊢
  have HK3 := Lib.hid (HK2.out.below HA2.out)
  have HB3 : Hid (Below w.heap.size w w3) := Lib.hid (HB2.out.trans (HA2.out.mono HB2.out.size))
  rw [← hbm] at HM3 HSZ2 ⊢
  clear hw3 hbm HK2 HB2 HA2 kA
  have HH3 := Lib.hid (HH.out.below HB3.out)
  have HA3 : Hid (Below w3.heap.size w3 (w3.alloc (.cells #[] 26))) := Lib.hid ((Below.refl _ _).alloc (Nat.le_refl _) _)
  have HS3 : Hid (Sl (w3.alloc (.cells #[] 26)) pp m (u32C B.par)) := Lib.hid (by have := (HH3.out.below HA3.out).nm.sl; rwa [HH.out.zm] at this)
  have kA := (HK3.out.alloc (.cells #[] 26)).c
  have hpl : B.par.length = m := HH.out.zm
  have HPL := Lib.hid hpl
  clear hpl
  go_wp2_with (first | (at_builtin; refine wpList_append_sl rfl _ _ 23 rfl w3.heap.size 26 i6 (.int .u32 0) 1 4 Try.underlying23 HI6.out.1 HI6.out.2.1 HI6.out.2.2.1 HI6.out.2.2.2 rfl (by decide) _ 0 [] rfl (fresh_made (Nat.le_refl _)) pp m cc (u32C B.par) rfl (by rw [u32C_len, HPL.out, Nat.mul_one]) HS3.out (u32C_one _) (by unfold maxLen; omega) (by omega) (by simp) ?_))
  intro v' w4 g1 g2 g3
  have g1' : w4.ownsRow w3.heap.size 26 1 v' m (u32C B.par) := by simpa using g1
  have HB4 : Hid (Below w3.heap.size w3 w4) := Lib.hid (((Below.refl w3.heap.size w3).alloc (Nat.le_refl _) _).grown g2 (by simp) (fun k hk => by simp [Value.ownBlock] at hk; omega))
  obtain ⟨q, c1, rfl, hc1⟩ := own_cap g1'
  have HQ4 := Lib.hid g1'
  have HQC := Lib.hid hc1
  have HQB : Hid (∀ b, (Value.slice q m c1).ownBlock = some b → bm < b ∧ b < w4.heap.size) := Lib.hid (fun b e => by
    have := g1'.lt b e
    have := HM3.out.lt
    omega)
  have HK4 := Lib.hid (HK3.out.below HB4.out)
  have HM4 := Lib.hid (HM3.out.below HB4.out)
  have HBW4 : Hid (Below w.heap.size w w4) := Lib.hid (HB3.out.trans (HB4.out.mono HB3.out.size))
  clear g1 g1' g2 g3 hc1 HK3 HM3 HB3 HH3 HA3 HS3 HB4 kA
  have kM := HM4.out.c
  have fM := HM4.out.f
  have lM := HM4.out.lt
  go_upto_region 8 with fail
  obtain ⟨w5, hw5⟩ : ∃ w5, w5 = (w4.setCell ⟨bm, 1, none⟩ (.slice q m c1)).setCell ⟨bm, 0, none⟩ (.slice none 0 0) := ⟨_, rfl⟩
  have hoff : ∀ b, (Value.slice q m c1).ownBlock = some b → b ≠ bm := fun b e => by have := HQB.out b e; omega
  have HQ5 : Hid (w5.ownsRow 0 26 1 (.slice q m c1) m (u32C B.par)) := Lib.hid (by rw [hw5]; exact own_off (own_off (own_base HQ4.out (Nat.zero_le _)) hoff _ _) hoff _ _)
  have HM5 : Hid (Blk w5 bm #[.slice none 0 0, .slice q m c1, .int .i64 z]) := Lib.hid (by rw [hw5]; exact (HM4.out.set (n := 1) _ (by simp)).set (n := 0) _ (by simp))
  have HK5 : Hid (Blk w5 w.heap.size #[.slice p n c, .slice pp m cc, .int .i64 z]) := Lib.hid (by rw [hw5]; exact (HK4.out.other _ (by have := HSZ2.out; omega)).other _ (by have := HSZ2.out; omega))
  have HB5 : Hid (Below w.heap.size w w5) := Lib.hid (by rw [hw5]; exact (HBW4.out.setCell (p := ⟨bm, 1, none⟩) (by show w.heap.size ≤ bm; have := HSZ2.out; omega) _).setCell (p := ⟨bm, 0, none⟩) (by show w.heap.size ≤ bm; have := HSZ2.out; omega) _)
  have HS5 : Hid (w5.heap.size = w4.heap.size) := Lib.hid (by rw [hw5, size_set, size_set])
  rw [← HS5.out] at HQB
  rw [← hw5]
  clear hw5 hoff kM fM lM HQ4 HM4 HK4 HBW4 HS5
  have HBM : Hid (bm < w5.heap.size) := Lib.hid HM5.out.lt
  go_wp2_with fail
  go_loopw [14] (fun s wr => ∃ j : Nat, j ≤ n ∧ s = .int .i64 j ∧ (∃ v ys, OwnG w5.heap.size wr v ys (B.rows.take j) ∧ Blk wr bm #[v, .slice q m c1, .int .i64 z]) ∧ wr.ownsRow 0 26 1 (.slice q m c1) m (u32C B.par) ∧ Blk wr w.heap.size #[.slice p n c, .slice pp m cc, .int .i64 z] ∧ w5.heap.size ≤ wr.heap.size ∧ Below w.heap.size w wr) (fun s _ => n - (intOf s).toNat)
  case atStart => exact ⟨0, Nat.zero_le _, rfl, ⟨_, _, by rw [List.take_zero]; exact OwnG.none _ _, HM5.out⟩, HQ5.out, HK5.out, Nat.le_refl _, HB5.out⟩
  case round =>
    obtain ⟨j, hj, rfl, ⟨v0, ys, ho, hm⟩, hq, hk, hls, hb⟩ := hrel
    have HLS := Lib.hid hls
    clear HM5 HQ5 HK5 HB5
    have HO := Lib.hid ho
    have HM := Lib.hid hm
    have HQ := Lib.hid hq
    have HK := Lib.hid hk
    have HB := Lib.hid hb
    have htl : (B.rows.take j).length = j := by rw [List.length_take, HH.out.zn]; omega
    have hrow := ho.row
    rw [htl] at hrow
    obtain ⟨pv, cv, rfl, hcv⟩ := own_cap hrow
    have HROW := Lib.hid hrow
    have HTL := Lib.hid htl
    clear ho hm hq hk hb hrow hcv htl hls
    have kA := HK.out.c
    have kM := HM.out.c
    by_cases hlt : j < n
    · have hltI : decide ((j : Int) < n) = true := decide_eq_true (by omega)
      have hjl : j < B.rows.length := by rw [HH.out.zn]; exact hlt
      obtain ⟨b, off, q2, x, c2, hp, hrow⟩ := HH.out.rw_.rowAt j hjl
      subst hp
      have htk := take_getD B.rows [] j hjl
      obtain ⟨l, hl⟩ : ∃ l, l = B.rows.getD j [] := ⟨_, rfl⟩
      rw [← hl] at hrow htk
      have HR := Lib.hid hrow
      have HTK := Lib.hid htk
      have hx100 := hrow.x100
      have hjI : (0 : Int) ≤ (j : Int) := by omega
      have hjI2 : (j : Int) < (n : Int) := by omega
      clear hrow htk hl hjl
      have HS0 : Hid (∀ W, Below wr.heap.size wr W → ((∀ j, W.cell? ⟨bm, j, none⟩ = (#[.slice pv j cv, .slice q m c1, .int .i64 z] : Array Value)[j]?) → False) → True) := Lib.hid (fun _ _ _ => trivial)
      clear HS0
      have HS0 : Hid (∀ W, Below wr.heap.size wr W → ((∀ t, W.cell? ⟨bm, t, none⟩ = (#[.slice pv j cv, .slice q m c1, .int .i64 z] : Array Value)[t]?) ∧ (∀ t, W.cell? ⟨w.heap.size, t, none⟩ = (#[.slice (some ⟨b, off, none⟩) n c, .slice pp m cc, .int .i64 z] : Array Value)[t]?) ∧ W.cell? ⟨b, off + j, none⟩ = some (.slice q2 x c2)) ∧ Below wr.heap.size wr W) := Lib.hid (fun W hb => ⟨⟨(HM.out.below hb).c, (HK.out.below hb).c, ((HR.out.below HB.out).below hb).cell⟩, hb⟩)
      go_upto_region 11 with fail
      refine region_plan (fun W : World => ((∀ t, W.cell? ⟨bm, t, none⟩ = (#[.slice pv j cv, .slice q m c1, .int .i64 z] : Array Value)[t]?) ∧ (∀ t, W.cell? ⟨w.heap.size, t, none⟩ = (#[.slice (some ⟨b, off, none⟩) n c, .slice pp m cc, .int .i64 z] : Array Value)[t]?) ∧ W.cell? ⟨b, off + j, none⟩ = some (.slice q2 x c2)) ∧ Below wr.heap.size wr W) 10 [(0, true), (1, true), (3, true), (4, true), (5, true), (6, true), (7, true), (2, false), (8, false), (9, false)] (by kernel_rfl) (by kernel_rfl) (HS0.out _ (Below.refl _ _).drew) ?_
      iterate 7
        refine plan_read (v := ?_) rfl (by rfl) ?_ ?_
        rotate_left
        · intro w' hS
          try dsimp only at hS
          obtain ⟨⟨hS1, hS2, hS4⟩, hS3⟩ := hS
          go_simp
          try with_reducible rfl
        try simp only [Act.put, List.setIfInBounds_toArray, List.set_cons_zero, List.set_cons_succ, List.getElem_toArray, List.getElem_cons_zero, List.getElem_cons_succ]
      have HBA : Hid (Below wr.heap.size wr (wr.drew.alloc (.cells #[] 26))) := Lib.hid ((Below.refl _ _).drew.alloc (Nat.le_refl _) _)
      have HFM : Hid ((wr.drew.alloc (.cells #[] 26)).ownsRow wr.heap.size 26 1 (.slice (some ⟨wr.heap.size, 0, none⟩) 0 0) 0 []) := Lib.hid (fresh_made (w := wr.drew) (Nat.le_refl _))
      have HS1 : Hid (Sl (wr.drew.alloc (.cells #[] 26)) q2 x (u32C l)) := Lib.hid (by have := (((HR.out.below HB.out).below HBA.out).nm).sl; rwa [HR.out.len] at this)
      have HLX : Hid (l.length = x) := Lib.hid HR.out.len
      refine plan_make (v := .slice (some ⟨wr.heap.size, 0, none⟩) 0 0) (w1 := wr.drew.alloc (.cells #[] 26)) rfl (by rfl) (by go_simp) (HS0.out _ HBA.out) ?_
      try simp only [Act.put, List.setIfInBounds_toArray, List.set_cons_zero, List.set_cons_succ, List.getElem_toArray, List.getElem_cons_zero, List.getElem_cons_succ]
      show wpOp _ _ _ 8 _ _ _
      refine op_wp rfl (by rfl) ?_
      try simp only [List.getElem_toArray, List.getElem_cons_zero, List.getElem_cons_succ]
      refine (wp_append_sl _ _ 23 rfl wr.heap.size 26 i6 (.int .u32 0) 1 4 Try.underlying23 HI6.out.1 HI6.out.2.1 HI6.out.2.2.1 HI6.out.2.2.2 rfl (by decide) _ 0 [] rfl HFM.out q2 x c2 (u32C l) rfl (by rw [u32C_len, HLX.out, Nat.mul_one]) HS1.out (u32C_one _) (by unfold maxLen; omega) (by omega) HBA.out.size ?_)
      intro v5 w6 g1 g2 g3
      have hrr : w6.ownsRow wr.heap.size 26 1 v5 x (u32C l) := by simpa using g1
      have HB6 : Hid (Below wr.heap.size wr w6) := Lib.hid (HBA.out.grown g2 HBA.out.size (fun k hk => by injection hk with hk; exact Nat.le_of_eq hk))
      obtain ⟨p5, c5, rfl, _⟩ := own_cap hrr
      have HRR := Lib.hid hrr
      clear g1 g2 g3 hrr HBA HFM HS1
      refine ⟨HS0.out _ HB6.out, ?_⟩
      try simp only [Act.put, List.setIfInBounds_toArray, List.set_cons_zero, List.set_cons_succ, List.getElem_toArray, List.getElem_cons_zero, List.getElem_cons_succ]
      have HB7 : Hid (Below wr.heap.size wr (w6.alloc (.cells #[.slice p5 x c5] 23))) := Lib.hid (HB6.out.alloc HB6.out.size _)
      refine plan_make (v := .slice (some ⟨w6.heap.size, 0, none⟩) 1 1) (w1 := w6.alloc (.cells #[.slice p5 x c5] 23)) rfl (by rfl) (by go_simp) (HS0.out _ HB7.out) ?_
      try simp only [Act.put, List.setIfInBounds_toArray, List.set_cons_zero, List.set_cons_succ, List.getElem_toArray, List.getElem_cons_zero, List.getElem_cons_succ]
      refine plan_nil ?_
      simp only [List.drop_succ_cons, List.drop_zero]
      have HNW : Hid (Blk (w6.alloc (.cells #[.slice p5 x c5] 23)) w6.heap.size [Value.slice p5 x c5].toArray) := Lib.hid (Blk.new _ _ _)
      have HRR7 := Lib.hid (own_below HRR.out ((Below.refl w6.heap.size w6).alloc (Nat.le_refl _) (.cells #[.slice p5 x c5] 23)))
      obtain ⟨w7, hw7⟩ : ∃ w7, w7 = w6.alloc (.cells #[.slice p5 x c5] 23) := ⟨_, rfl⟩
      rw [← hw7] at HB7 HNW HRR7 ⊢
      have HROW7 := Lib.hid (own_below HROW.out HB7.out)
      have HM7 := Lib.hid (HM.out.below HB7.out)
      have HK7 := Lib.hid (HK.out.below HB7.out)
      have HQ7 := Lib.hid (own_below HQ.out HB7.out)
      have HBW7 : Hid (Below w.heap.size w w7) := Lib.hid (HB.out.trans (HB7.out.mono HB.out.size))
      have HBL : Hid (w5.heap.size ≤ wr.heap.size) := HLS
      clear hw7 HM HK HQ HB HB6 HRR kA kM HS0
      go_wp2_with (first | (at_builtin; refine wpList_append_sl rfl _ _ 22 rfl w5.heap.size 23 i3 (.slice none 0 0) 1 24 Try.underlying22 HI3.out.1 HI3.out.2.1 HI3.out.2.2.1 HI3.out.2.2.2 rfl (by decide) _ j ys rfl HROW7.out (some ⟨w6.heap.size, 0, none⟩) 1 1 [.slice p5 x c5] rfl rfl (blk_sl HNW.out) (by intro u hu; rw [List.mem_singleton.1 hu]; rfl) (by unfold maxLen; omega) (by omega) (Nat.le_trans HBL.out HB7.out.size) ?_))
      intro v8 w8 g1 g2 g3
      have hob : ∀ g, (Value.slice pv j cv).ownBlock = some g → w5.heap.size ≤ g := fun g e => (HROW7.out.lt g e).1
      have HO8 : Hid (OwnG w5.heap.size w8 v8 (ys ++ [.slice p5 x c5]) (B.rows.take (j + 1))) := Lib.hid (by
        rw [HTK.out]
        exact HO.out.step HBL.out HB7.out (by rw [HLX.out]; exact HRR7.out) HR.out.nm.lt (by rw [HTL.out]; exact g1) g2 g3)
      have HM8 := Lib.hid (HM7.out.grown g2 (fun e => by have := hob _ e; have := HBM.out; omega))
      have HK8 := Lib.hid (HK7.out.grown g2 (fun e => by have := hob _ e; have := HBM.out; have := HSZ2.out; omega))
      have HQ8 := Lib.hid (own_grown HQ7.out g2 (fun b e e2 => by have := hob _ e2; have := HQB.out b e; omega))
      have HB8 : Hid (Below w.heap.size w w8) := Lib.hid (HBW7.out.grown g2 HBW7.out.size (fun g e => by have := hob g e; have := HBM.out; have := HSZ2.out; omega))
      have HL8 : Hid (w5.heap.size ≤ w8.heap.size) := Lib.hid (Nat.le_trans HBL.out (Nat.le_trans HB7.out.size g2.size))
      obtain ⟨p8, c8, rfl, _⟩ := own_cap g1
      clear g1 g2 g3 hob HROW7 HM7 HK7 HQ7 HBW7
      have kM := HM8.out.c
      have fM := HM8.out.f
      have lM := HM8.out.lt
      go_upto_region 10 with fail
      obtain ⟨w9, hw9⟩ : ∃ w9, w9 = w8.setCell ⟨bm, 0, none⟩ (.slice p8 (j + 1) c8) := ⟨_, rfl⟩
      have HO9 : Hid (OwnG w5.heap.size w9 (.slice p8 (j + 1) c8) (ys ++ [.slice p5 x c5]) (B.rows.take (j + 1))) := Lib.hid (by rw [hw9]; exact HO8.out.off HBM.out 0 _)
      have HM9 : Hid (Blk w9 bm #[.slice p8 (j + 1) c8, .slice q m c1, .int .i64 z]) := Lib.hid (by rw [hw9]; exact HM8.out.set (n := 0) _ (by simp))
      have HQ9 : Hid (w9.ownsRow 0 26 1 (.slice q m c1) m (u32C B.par)) := Lib.hid (by rw [hw9]; exact own_off HQ8.out (fun b e => by have := HQB.out b e; omega) _ _)
      have HK9 : Hid (Blk w9 w.heap.size #[.slice (some ⟨b, off, none⟩) n c, .slice pp m cc, .int .i64 z]) := Lib.hid (by rw [hw9]; exact HK8.out.other _ (by have := HSZ2.out; omega))
      have HB9 : Hid (Below w.heap.size w w9) := Lib.hid (by rw [hw9]; exact HB8.out.setCell (p := ⟨bm, 0, none⟩) (by show w.heap.size ≤ bm; have := HSZ2.out; omega) _)
      have HL9 : Hid (w5.heap.size ≤ w9.heap.size) := Lib.hid (by rw [hw9, size_set]; exact HL8.out)
      rw [← hw9]
      clear hw9 kM fM lM HO8 HM8 HQ8 HK8 HB8 HL8
      go_wp2_with fail
      go_roundw
      case rel => exact ⟨j + 1, by omega, by go_num, ⟨_, _, HO9.out, HM9.out⟩, HQ9.out, HK9.out, HL9.out, HB9.out⟩
      case measure => simp [intOf]; omega
    · have hltI : decide ((j : Int) < n) = false := decide_eq_false (by omega)
      have hjn : j = n := by omega
      subst hjn
      have hLt : B.rows.take j = B.rows := List.take_of_length_le (by rw [HH.out.zn]; omega)
      rw [hLt] at HO
      obtain ⟨pz, cz, e1, hcz, hrw⟩ := HO.out.rw_ HH.out.rw_.n100 HH.out.rw_.l100
      rw [HH.out.zn] at e1 hcz
      injection e1 with e1 e2 e3
      clear e2
      subst e1 e3
      have hnm := nm_own HQ.out HH.out.zm HH.out.nm.lt
      have HMI : Hid (Bn wr pv j cv ys q m c1 B) := Lib.hid ⟨HH.out.zn, hrw, hcz, HH.out.zm, hnm, HQC.out, hm100⟩
      have HBI := Lib.hid (HH.out.below HB.out)
      have HLM : Hid (bm < wr.heap.size) := Lib.hid HM.out.lt
      clear hrw hcz hnm hLt HTL HROW HO HQ HQB HQC HLS HH HI6 HI3 kA kM hj hlt HSZ2 HBM
      obtain ⟨w10, hw10⟩ : ∃ W, W = wr := ⟨_, rfl⟩
      rw [← hw10] at HM HK HMI HBI HB HLM ⊢
      clear hw10
      have HLW : Hid (w.heap.size < w10.heap.size) := Lib.hid HK.out.lt
      have HM10 := HM
      have HK10 := HK
      have HMI10 := HMI
      have HBI10 := HBI
      have HB10 := HB
      clear HM HK HMI HBI HB
      have kM := HM10.out.c
      have kA := HK10.out.c
      have h12 := read_any pv j cv ys q m c1 B bank at_ w10 HMI10.out
      rw [← HZ.out] at h12
      obtain ⟨rn, hrn⟩ : ∃ x, x = readN B bank at_ := ⟨_, rfl⟩
      obtain ⟨re, hre⟩ : ∃ x, x = readE B bank at_ := ⟨_, rfl⟩
      rw [← hrn, ← hre] at h12
      have HRN := Lib.hid hrn
      have HRE := Lib.hid hre
      clear hrn hre
      go_upto_region 12 with fail
      go_wp2_with fail
      refine h12.mono ?_
      clear h12
      rintro e w11 ⟨rfl, hb⟩
      clear kM kA
      have HM11 := Lib.hid (HM10.out.below hb)
      have HK11 := Lib.hid (HK10.out.below hb)
      have HMI11 := Lib.hid (HMI10.out.below hb)
      have HBI11 := Lib.hid (HBI10.out.below hb)
      have HB11 : Hid (Below w.heap.size w w11) := Lib.hid (HB10.out.trans (Below.mono hb HB10.out.size))
      clear HM10 HK10 HMI10 HBI10 HB10
      clear hb
      have kK := HK11.out.c
      have h13 := rread_any p j c xs pp m cc B bank at_ w11 HBI11.out
      rw [← HZ.out, ← HRN.out, ← HRE.out] at h13
      go_upto_region 13 with fail
      go_wp2_with fail
      refine h13.mono ?_
      clear h13
      rintro e w12 ⟨rfl, hb⟩
      clear kK
      have HM12 := Lib.hid (HM11.out.below hb)
      have HK12 := Lib.hid (HK11.out.below hb)
      have HMI12 := Lib.hid (HMI11.out.below hb)
      have HBI12 := Lib.hid (HBI11.out.below hb)
      have HB12 : Hid (Below w.heap.size w w12) := Lib.hid (HB11.out.trans (Below.mono hb HB11.out.size))
      clear HM11 HK11 HMI11 HBI11 HB11
      clear hb HRN HRE
      have e1 : ((rn : Int) != (rn : Int)) = false := by simp
      have e2 : (re != re) = false := by simp
      have kM := HM12.out.c
      have h16 := write_any pv j cv ys q m c1 B bank at_ v w12 HMI12.out HV.out
      rw [← HZ.out] at h16
      go_upto_region 16 with fail
      go_wp2_with fail
      refine h16.mono ?_
      clear h16 e1 e2 kM
      rintro e w13 ⟨pc, cc2, yc, qc, dc, rfl, ho, hb⟩
      have HC13 := Lib.hid ho.bn
      have HM13 := Lib.hid (HM12.out.below hb)
      have HK13 := Lib.hid (HK12.out.below hb)
      have HMI13 := Lib.hid (HMI12.out.below hb)
      have HBI13 := Lib.hid (HBI12.out.below hb)
      have HB13 : Hid (Below w.heap.size w w13) := Lib.hid (HB12.out.trans (Below.mono hb HB12.out.size))
      clear HM12 HK12 HMI12 HBI12 HB12
      clear ho hb
      go_upto_region 17 with fail
      have HA13 : Hid (Below w13.heap.size w13 (w13.alloc (.cells #[.slice pc j cc2, .slice qc m dc, .int .i64 (writeB B bank at_ v).lost] 25))) := Lib.hid ((Below.refl _ _).alloc (Nat.le_refl _) _)
      have HKC14 : Hid (Blk (w13.alloc (.cells #[.slice pc j cc2, .slice qc m dc, .int .i64 (writeB B bank at_ v).lost] 25)) w13.heap.size #[.slice pc j cc2, .slice qc m dc, .int .i64 (writeB B bank at_ v).lost]) := Lib.hid (Blk.new _ _ _)
      have HLWC : Hid (w.heap.size < w13.heap.size) := Lib.hid HK13.out.lt
      have HLMC : Hid (bm < w13.heap.size) := Lib.hid HM13.out.lt
      have HFMC : Hid (Off w13.heap.size pv ys B.rows q B.par) := Lib.hid (HMI13.out.off (Nat.le_refl _))
      have HFBC : Hid (Off w13.heap.size p xs B.rows pp B.par) := Lib.hid (HBI13.out.off (Nat.le_refl _))
      obtain ⟨bc, hbc⟩ : ∃ b, b = w13.heap.size := ⟨_, rfl⟩
      obtain ⟨w14, hw14⟩ : ∃ W, W = w13.alloc (.cells #[.slice pc j cc2, .slice qc m dc, .int .i64 (writeB B bank at_ v).lost] 25) := ⟨_, rfl⟩
      rw [← hw14] at HA13 HKC14 ⊢
      have HC14 := Lib.hid (HC13.out.below HA13.out)
      have HM14 := Lib.hid (HM13.out.below HA13.out)
      have HK14 := Lib.hid (HK13.out.below HA13.out)
      have HMI14 := Lib.hid (HMI13.out.below HA13.out)
      have HBI14 := Lib.hid (HBI13.out.below HA13.out)
      have HB14 : Hid (Below w.heap.size w w14) := Lib.hid (HB13.out.trans (Below.mono HA13.out HB13.out.size))
      clear HM13 HK13 HMI13 HBI13 HB13
      rw [← hbc] at HKC14 HLWC HLMC HFMC HFBC ⊢
      clear hw14 hbc HC13 HA13
      have kK := HK14.out.c
      have h17 := rwrite_any p j c xs pp m cc B bank at_ v w14 HBI14.out HV.out
      rw [← HZ.out] at h17
      go_wp2_with fail
      refine h17.mono ?_
      clear h17 kK
      rintro e w15 ⟨pd, nd, cd, yd, qd, md, dd, rfl, hd, hb, _⟩
      have HD15 := Lib.hid hd
      have HC15 := Lib.hid (HC14.out.below hb)
      have HKC15 := Lib.hid (HKC14.out.below hb)
      have HM15 := Lib.hid (HM14.out.below hb)
      have HK15 := Lib.hid (HK14.out.below hb)
      have HMI15 := Lib.hid (HMI14.out.below hb)
      have HBI15 := Lib.hid (HBI14.out.below hb)
      have HB15 : Hid (Below w.heap.size w w15) := Lib.hid (HB14.out.trans (Below.mono hb HB14.out.size))
      clear HM14 HK14 HMI14 HBI14 HB14
      clear hd hb HC14 HKC14
      go_upto_region 18 with fail
      have HA15 : Hid (Below w15.heap.size w15 (w15.alloc (.cells #[.slice pd nd cd, .slice qd md dd, .int .i64 (writeB B bank at_ v).lost] 25))) := Lib.hid ((Below.refl _ _).alloc (Nat.le_refl _) _)
      have HKD16 : Hid (Blk (w15.alloc (.cells #[.slice pd nd cd, .slice qd md dd, .int .i64 (writeB B bank at_ v).lost] 25)) w15.heap.size #[.slice pd nd cd, .slice qd md dd, .int .i64 (writeB B bank at_ v).lost]) := Lib.hid (Blk.new _ _ _)
      have HLWD : Hid (w.heap.size < w15.heap.size) := Lib.hid HK15.out.lt
      have HLMD : Hid (bm < w15.heap.size) := Lib.hid HM15.out.lt
      have HLCD : Hid (bc < w15.heap.size) := Lib.hid HKC15.out.lt
      have HFMD : Hid (Off w15.heap.size pv ys B.rows q B.par) := Lib.hid (HMI15.out.off (Nat.le_refl _))
      have HFBD : Hid (Off w15.heap.size p xs B.rows pp B.par) := Lib.hid (HBI15.out.off (Nat.le_refl _))
      obtain ⟨bd, hbd⟩ : ∃ b, b = w15.heap.size := ⟨_, rfl⟩
      obtain ⟨w16, hw16⟩ : ∃ W, W = w15.alloc (.cells #[.slice pd nd cd, .slice qd md dd, .int .i64 (writeB B bank at_ v).lost] 25) := ⟨_, rfl⟩
      rw [← hw16] at HA15 HKD16 ⊢
      have HC16 := Lib.hid (HC15.out.below HA15.out)
      have HD16 := Lib.hid (HD15.out.below HA15.out)
      have HKC16 := Lib.hid (HKC15.out.below HA15.out)
      have HM16 := Lib.hid (HM15.out.below HA15.out)
      have HK16 := Lib.hid (HK15.out.below HA15.out)
      have HMI16 := Lib.hid (HMI15.out.below HA15.out)
      have HBI16 := Lib.hid (HBI15.out.below HA15.out)
      have HB16 : Hid (Below w.heap.size w w16) := Lib.hid (HB15.out.trans (Below.mono HA15.out HB15.out.size))
      clear HM15 HK15 HMI15 HBI15 HB15
      rw [← hbd] at HKD16 HLWD HLMD HLCD HFMD HFBD ⊢
      clear hw16 hbd HC15 HD15 HKC15 HA15
      have kC := HKC16.out.c
      have kD := HKD16.out.c
      have h18 := same_any pc j cc2 yc qc m dc pd nd cd yd qd md dd (writeB B bank at_ v) w16 HC16.out HD16.out
      obtain ⟨ew, hew⟩ : ∃ x, x = writeE B bank at_ := ⟨_, rfl⟩
      rw [← hew]
      have e2 : (ew != ew) = false := by simp
      clear hew
      go_wp2_with fail
      refine h18.mono ?_
      clear h18 kC kD
      rintro e w17 ⟨rfl, hb⟩
      have HKC17 := Lib.hid (HKC16.out.below hb)
      have HKD17 := Lib.hid (HKD16.out.below hb)
      have HM17 := Lib.hid (HM16.out.below hb)
      have HK17 := Lib.hid (HK16.out.below hb)
      have HMI17 := Lib.hid (HMI16.out.below hb)
      have HBI17 := Lib.hid (HBI16.out.below hb)
      have HB17 : Hid (Below w.heap.size w w17) := Lib.hid (HB16.out.trans (Below.mono hb HB16.out.size))
      clear HM16 HK16 HMI16 HBI16 HB16
      clear hb HC16 HD16 HKC16 HKD16
      have kM := HM17.out.c
      have h20 := lose_any pv j cv ys q m c1 B bank w17 HMI17.out
      try rw [← HZ.out] at h20
      go_upto_region 20 with fail
      go_wp2_with fail
      refine h20.mono ?_
      clear h20 e2 kM
      rintro e w18 ⟨pk, ck, yk, qk, dk, rfl, ho, hb⟩
      have HC18 := Lib.hid ho.bn
      have HFC18 : Hid (Off bc pk yk (loseB B bank).rows qk (loseB B bank).par) := Lib.hid (ho.off HKC17.out.lt)
      have HFCD0 : Hid (Off bd pk yk (loseB B bank).rows qk (loseB B bank).par) := Lib.hid (ho.off HKD17.out.lt)
      have HKC18 := Lib.hid (HKC17.out.below hb)
      have HKD18 := Lib.hid (HKD17.out.below hb)
      have HM18 := Lib.hid (HM17.out.below hb)
      have HK18 := Lib.hid (HK17.out.below hb)
      have HMI18 := Lib.hid (HMI17.out.below hb)
      have HBI18 := Lib.hid (HBI17.out.below hb)
      have HB18 : Hid (Below w.heap.size w w18) := Lib.hid (HB17.out.trans (Below.mono hb HB17.out.size))
      clear HM17 HK17 HMI17 HBI17 HB17
      clear ho hb HKC17 HKD17
      have kC := HKC18.out.c
      have fC := HKC18.out.f
      have lC := HKC18.out.lt
      go_upto_region 21 with fail
      obtain ⟨w19, hw19⟩ : ∃ W, W = ((w18.setCell ⟨bc, 0, none⟩ (.slice pk j ck)).setCell ⟨bc, 1, none⟩ (.slice qk m dk)).setCell ⟨bc, 2, none⟩ (.int .i64 (loseB B bank).lost) := ⟨_, rfl⟩
      have HC19 := Lib.hid (HC18.out.set3 HFC18.out (.slice pk j ck) (.slice qk m dk) (.int .i64 (loseB B bank).lost))
      have HKC19 := Lib.hid (set3_same HKC18.out (.slice pk j ck) (.slice qk m dk) (.int .i64 (loseB B bank).lost))
      have HKD19 := Lib.hid (set3_other HKD18.out (R := bc) (by have := HLCD.out; omega) (.slice pk j ck) (.slice qk m dk) (.int .i64 (loseB B bank).lost))
      have HM19 := Lib.hid (set3_other HM18.out (R := bc) (by have := HLMC.out; omega) (.slice pk j ck) (.slice qk m dk) (.int .i64 (loseB B bank).lost))
      have HK19 := Lib.hid (set3_other HK18.out (R := bc) (by have := HLWC.out; omega) (.slice pk j ck) (.slice qk m dk) (.int .i64 (loseB B bank).lost))
      have HMI19 := Lib.hid (HMI18.out.set3 HFMC.out (.slice pk j ck) (.slice qk m dk) (.int .i64 (loseB B bank).lost))
      have HBI19 := Lib.hid (HBI18.out.set3 HFBC.out (.slice pk j ck) (.slice qk m dk) (.int .i64 (loseB B bank).lost))
      have HB19 := Lib.hid (set3_below HB18.out (R := bc) (by have := HLWC.out; omega) (.slice pk j ck) (.slice qk m dk) (.int .i64 (loseB B bank).lost))
      rw [← hw19] at HC19 HKC19 HKD19 HM19 HK19 HMI19 HBI19 HB19 ⊢
      clear hw19 kC fC lC HC18 HFC18 HKC18 HKD18 HM18 HK18 HMI18 HBI18 HB18
      have kK := HK19.out.c
      have g20 := rlose_any p j c xs pp m cc B bank w19 HBI19.out
      try rw [← HZ.out] at g20
      go_wp2_with fail
      refine g20.mono ?_
      clear g20 kK
      rintro e w20 ⟨pl, nl, cl, yl, ql, ml, dl, rfl, hd, hb, hoff⟩
      have HD20 := Lib.hid hd
      have HFD20 : Hid (Off bd pl yl (loseB B bank).rows ql (loseB B bank).par) := Lib.hid (hoff bd HKD19.out.lt HFBD.out)
      have HC20 := Lib.hid (HC19.out.below hb)
      have HFCD : Hid (Off bd pk yk (loseB B bank).rows qk (loseB B bank).par) := Lib.hid (HFCD0.out)
      have HKC20 := Lib.hid (HKC19.out.below hb)
      have HKD20 := Lib.hid (HKD19.out.below hb)
      have HM20 := Lib.hid (HM19.out.below hb)
      have HK20 := Lib.hid (HK19.out.below hb)
      have HMI20 := Lib.hid (HMI19.out.below hb)
      have HBI20 := Lib.hid (HBI19.out.below hb)
      have HB20 : Hid (Below w.heap.size w w20) := Lib.hid (HB19.out.trans (Below.mono hb HB19.out.size))
      clear HM19 HK19 HMI19 HBI19 HB19
      clear hd hb hoff HC19 HKC19 HKD19 HFCD0
      have kD := HKD20.out.c
      have fD := HKD20.out.f
      have lD := HKD20.out.lt
      go_upto_region 22 with fail
      obtain ⟨w21, hw21⟩ : ∃ W, W = ((w20.setCell ⟨bd, 0, none⟩ (.slice pl nl cl)).setCell ⟨bd, 1, none⟩ (.slice ql ml dl)).setCell ⟨bd, 2, none⟩ (.int .i64 (loseB B bank).lost) := ⟨_, rfl⟩
      have HD21 := Lib.hid (HD20.out.set3 HFD20.out (.slice pl nl cl) (.slice ql ml dl) (.int .i64 (loseB B bank).lost))
      have HC21 := Lib.hid (HC20.out.set3 HFCD.out (.slice pl nl cl) (.slice ql ml dl) (.int .i64 (loseB B bank).lost))
      have HKD21 := Lib.hid (set3_same HKD20.out (.slice pl nl cl) (.slice ql ml dl) (.int .i64 (loseB B bank).lost))
      have HKC21 := Lib.hid (set3_other HKC20.out (R := bd) (by have := HLCD.out; omega) (.slice pl nl cl) (.slice ql ml dl) (.int .i64 (loseB B bank).lost))
      have HM21 := Lib.hid (set3_other HM20.out (R := bd) (by have := HLMD.out; omega) (.slice pl nl cl) (.slice ql ml dl) (.int .i64 (loseB B bank).lost))
      have HK21 := Lib.hid (set3_other HK20.out (R := bd) (by have := HLWD.out; omega) (.slice pl nl cl) (.slice ql ml dl) (.int .i64 (loseB B bank).lost))
      have HMI21 := Lib.hid (HMI20.out.set3 HFMD.out (.slice pl nl cl) (.slice ql ml dl) (.int .i64 (loseB B bank).lost))
      have HBI21 := Lib.hid (HBI20.out.set3 HFBD.out (.slice pl nl cl) (.slice ql ml dl) (.int .i64 (loseB B bank).lost))
      have HB21 := Lib.hid (set3_below HB20.out (R := bd) (by have := HLWD.out; omega) (.slice pl nl cl) (.slice ql ml dl) (.int .i64 (loseB B bank).lost))
      rw [← hw21] at HD21 HC21 HKC21 HKD21 HM21 HK21 HMI21 HBI21 HB21 ⊢
      clear hw21 kD fD lD HD20 HFD20 HC20 HFCD HKC20 HKD20 HM20 HK20 HMI20 HBI20 HB20
      have kC := HKC21.out.c
      have kD := HKD21.out.c
      have s20 := same_any pk j ck yk qk m dk pl nl cl yl ql ml dl (loseB B bank) w21 HC21.out HD21.out
      obtain ⟨ew, hew⟩ : ∃ x, x = loseE B bank := ⟨_, rfl⟩
      rw [← hew]
      have e2 : (ew != ew) = false := by simp
      clear hew
      go_wp2_with fail
      refine s20.mono ?_
      clear s20 kC kD
      rintro e w22 ⟨rfl, hb⟩
      have HKC22 := Lib.hid (HKC21.out.below hb)
      have HKD22 := Lib.hid (HKD21.out.below hb)
      have HM22 := Lib.hid (HM21.out.below hb)
      have HK22 := Lib.hid (HK21.out.below hb)
      have HMI22 := Lib.hid (HMI21.out.below hb)
      have HBI22 := Lib.hid (HBI21.out.below hb)
      have HB22 : Hid (Below w.heap.size w w22) := Lib.hid (HB21.out.trans (Below.mono hb HB21.out.size))
      clear HM21 HK21 HMI21 HBI21 HB21
      clear hb HC21 HD21 HKC21 HKD21
      have kM := HM22.out.c
      have h24 := rebuild_any pv j cv ys q m c1 B w22 HMI22.out
      try rw [← HZ.out] at h24
      go_upto_region 24 with fail
      go_wp2_with fail
      refine h24.mono ?_
      clear h24 e2 kM
      rintro e w23 ⟨pk, ck, yk, qk, dk, rfl, ho, hb⟩
      have HC23 := Lib.hid ho.bn
      have HFC23 : Hid (Off bc pk yk (rebuildB B).rows qk (rebuildB B).par) := Lib.hid (ho.off HKC22.out.lt)
      have HFCD0 : Hid (Off bd pk yk (rebuildB B).rows qk (rebuildB B).par) := Lib.hid (ho.off HKD22.out.lt)
      have HKC23 := Lib.hid (HKC22.out.below hb)
      have HKD23 := Lib.hid (HKD22.out.below hb)
      have HM23 := Lib.hid (HM22.out.below hb)
      have HK23 := Lib.hid (HK22.out.below hb)
      have HMI23 := Lib.hid (HMI22.out.below hb)
      have HBI23 := Lib.hid (HBI22.out.below hb)
      have HB23 : Hid (Below w.heap.size w w23) := Lib.hid (HB22.out.trans (Below.mono hb HB22.out.size))
      clear HM22 HK22 HMI22 HBI22 HB22
      clear ho hb HKC22 HKD22
      have kC := HKC23.out.c
      have fC := HKC23.out.f
      have lC := HKC23.out.lt
      go_upto_region 25 with fail
      obtain ⟨w24, hw24⟩ : ∃ W, W = ((w23.setCell ⟨bc, 0, none⟩ (.slice pk j ck)).setCell ⟨bc, 1, none⟩ (.slice qk m dk)).setCell ⟨bc, 2, none⟩ (.int .i64 (rebuildB B).lost) := ⟨_, rfl⟩
      have HC24 := Lib.hid (HC23.out.set3 HFC23.out (.slice pk j ck) (.slice qk m dk) (.int .i64 (rebuildB B).lost))
      have HKC24 := Lib.hid (set3_same HKC23.out (.slice pk j ck) (.slice qk m dk) (.int .i64 (rebuildB B).lost))
      have HKD24 := Lib.hid (set3_other HKD23.out (R := bc) (by have := HLCD.out; omega) (.slice pk j ck) (.slice qk m dk) (.int .i64 (rebuildB B).lost))
      have HM24 := Lib.hid (set3_other HM23.out (R := bc) (by have := HLMC.out; omega) (.slice pk j ck) (.slice qk m dk) (.int .i64 (rebuildB B).lost))
      have HK24 := Lib.hid (set3_other HK23.out (R := bc) (by have := HLWC.out; omega) (.slice pk j ck) (.slice qk m dk) (.int .i64 (rebuildB B).lost))
      have HMI24 := Lib.hid (HMI23.out.set3 HFMC.out (.slice pk j ck) (.slice qk m dk) (.int .i64 (rebuildB B).lost))
      have HBI24 := Lib.hid (HBI23.out.set3 HFBC.out (.slice pk j ck) (.slice qk m dk) (.int .i64 (rebuildB B).lost))
      have HB24 := Lib.hid (set3_below HB23.out (R := bc) (by have := HLWC.out; omega) (.slice pk j ck) (.slice qk m dk) (.int .i64 (rebuildB B).lost))
      rw [← hw24] at HC24 HKC24 HKD24 HM24 HK24 HMI24 HBI24 HB24 ⊢
      clear hw24 kC fC lC HC23 HFC23 HKC23 HKD23 HM23 HK23 HMI23 HBI23 HB23
      have kK := HK24.out.c
      have g24 := rrebuild_any p j c xs pp m cc B w24 HBI24.out
      try rw [← HZ.out] at g24
      go_wp2_with fail
      refine g24.mono ?_
      clear g24 kK
      rintro e w25 ⟨pl, nl, cl, yl, ql, ml, dl, rfl, hd, hb, hoff⟩
      have HD25 := Lib.hid hd
      have HFD25 : Hid (Off bd pl yl (rebuildB B).rows ql (rebuildB B).par) := Lib.hid (hoff bd HKD24.out.lt HFBD.out)
      have HC25 := Lib.hid (HC24.out.below hb)
      have HFCD : Hid (Off bd pk yk (rebuildB B).rows qk (rebuildB B).par) := Lib.hid (HFCD0.out)
      have HKC25 := Lib.hid (HKC24.out.below hb)
      have HKD25 := Lib.hid (HKD24.out.below hb)
      have HM25 := Lib.hid (HM24.out.below hb)
      have HK25 := Lib.hid (HK24.out.below hb)
      have HMI25 := Lib.hid (HMI24.out.below hb)
      have HBI25 := Lib.hid (HBI24.out.below hb)
      have HB25 : Hid (Below w.heap.size w w25) := Lib.hid (HB24.out.trans (Below.mono hb HB24.out.size))
      clear HM24 HK24 HMI24 HBI24 HB24
      clear hd hb hoff HC24 HKC24 HKD24 HFCD0
      have kD := HKD25.out.c
      have fD := HKD25.out.f
      have lD := HKD25.out.lt
      go_upto_region 26 with fail
      obtain ⟨w26, hw26⟩ : ∃ W, W = ((w25.setCell ⟨bd, 0, none⟩ (.slice pl nl cl)).setCell ⟨bd, 1, none⟩ (.slice ql ml dl)).setCell ⟨bd, 2, none⟩ (.int .i64 (rebuildB B).lost) := ⟨_, rfl⟩
      have HD26 := Lib.hid (HD25.out.set3 HFD25.out (.slice pl nl cl) (.slice ql ml dl) (.int .i64 (rebuildB B).lost))
      have HC26 := Lib.hid (HC25.out.set3 HFCD.out (.slice pl nl cl) (.slice ql ml dl) (.int .i64 (rebuildB B).lost))
      have HKD26 := Lib.hid (set3_same HKD25.out (.slice pl nl cl) (.slice ql ml dl) (.int .i64 (rebuildB B).lost))
      have HKC26 := Lib.hid (set3_other HKC25.out (R := bd) (by have := HLCD.out; omega) (.slice pl nl cl) (.slice ql ml dl) (.int .i64 (rebuildB B).lost))
      have HM26 := Lib.hid (set3_other HM25.out (R := bd) (by have := HLMD.out; omega) (.slice pl nl cl) (.slice ql ml dl) (.int .i64 (rebuildB B).lost))
      have HK26 := Lib.hid (set3_other HK25.out (R := bd) (by have := HLWD.out; omega) (.slice pl nl cl) (.slice ql ml dl) (.int .i64 (rebuildB B).lost))
      have HMI26 := Lib.hid (HMI25.out.set3 HFMD.out (.slice pl nl cl) (.slice ql ml dl) (.int .i64 (rebuildB B).lost))
      have HBI26 := Lib.hid (HBI25.out.set3 HFBD.out (.slice pl nl cl) (.slice ql ml dl) (.int .i64 (rebuildB B).lost))
      have HB26 := Lib.hid (set3_below HB25.out (R := bd) (by have := HLWD.out; omega) (.slice pl nl cl) (.slice ql ml dl) (.int .i64 (rebuildB B).lost))
      rw [← hw26] at HD26 HC26 HKC26 HKD26 HM26 HK26 HMI26 HBI26 HB26 ⊢
      clear hw26 kD fD lD HD25 HFD25 HC25 HFCD HKC25 HKD25 HM25 HK25 HMI25 HBI25 HB25
      have kC := HKC26.out.c
      have kD := HKD26.out.c
      have s24 := same_any pk j ck yk qk m dk pl nl cl yl ql ml dl (rebuildB B) w26 HC26.out HD26.out
      obtain ⟨ew, hew⟩ : ∃ x, x = rebuildE B := ⟨_, rfl⟩
      rw [← hew]
      have e2 : (ew != ew) = false := by simp
      clear hew
      go_wp2_with fail
      refine s24.mono ?_
      clear s24 kC kD
      rintro e w27 ⟨rfl, hb⟩
      have HKC27 := Lib.hid (HKC26.out.below hb)
      have HKD27 := Lib.hid (HKD26.out.below hb)
      have HM27 := Lib.hid (HM26.out.below hb)
      have HK27 := Lib.hid (HK26.out.below hb)
      have HMI27 := Lib.hid (HMI26.out.below hb)
      have HBI27 := Lib.hid (HBI26.out.below hb)
      have HB27 : Hid (Below w.heap.size w w27) := Lib.hid (HB26.out.trans (Below.mono hb HB26.out.size))
      clear HM26 HK26 HMI26 HBI26 HB26
      clear hb HC26 HD26 HKC26 HKD26
      have kM := HM27.out.c
      have h28 := new_any banks words w27
      try rw [← HZ.out] at h28
      go_upto_region 28 with fail
      go_wp2_with fail
      refine h28.mono ?_
      clear h28 e2 kM
      rintro e w28 ⟨pk, nk, ck, yk, qk, mk, dk, rfl, ho, hb⟩
      have HC28 := Lib.hid ho.bn
      have HFC28 : Hid (Off bc pk yk (newB banks words).rows qk (newB banks words).par) := Lib.hid (ho.off HKC27.out.lt)
      have HFCD0 : Hid (Off bd pk yk (newB banks words).rows qk (newB banks words).par) := Lib.hid (ho.off HKD27.out.lt)
      have HKC28 := Lib.hid (HKC27.out.below hb)
      have HKD28 := Lib.hid (HKD27.out.below hb)
      have HM28 := Lib.hid (HM27.out.below hb)
      have HK28 := Lib.hid (HK27.out.below hb)
      have HMI28 := Lib.hid (HMI27.out.below hb)
      have HBI28 := Lib.hid (HBI27.out.below hb)
      have HB28 : Hid (Below w.heap.size w w28) := Lib.hid (HB27.out.trans (Below.mono hb HB27.out.size))
      clear HM27 HK27 HMI27 HBI27 HB27
      clear ho hb HKC27 HKD27
      have kC := HKC28.out.c
      have fC := HKC28.out.f
      have lC := HKC28.out.lt
      go_upto_region 29 with fail
      obtain ⟨w29, hw29⟩ : ∃ W, W = ((w28.setCell ⟨bc, 0, none⟩ (.slice pk nk ck)).setCell ⟨bc, 1, none⟩ (.slice qk mk dk)).setCell ⟨bc, 2, none⟩ (.int .i64 (newB banks words).lost) := ⟨_, rfl⟩
      have HC29 := Lib.hid (HC28.out.set3 HFC28.out (.slice pk nk ck) (.slice qk mk dk) (.int .i64 (newB banks words).lost))
      have HKC29 := Lib.hid (set3_same HKC28.out (.slice pk nk ck) (.slice qk mk dk) (.int .i64 (newB banks words).lost))
      have HKD29 := Lib.hid (set3_other HKD28.out (R := bc) (by have := HLCD.out; omega) (.slice pk nk ck) (.slice qk mk dk) (.int .i64 (newB banks words).lost))
      have HM29 := Lib.hid (set3_other HM28.out (R := bc) (by have := HLMC.out; omega) (.slice pk nk ck) (.slice qk mk dk) (.int .i64 (newB banks words).lost))
      have HK29 := Lib.hid (set3_other HK28.out (R := bc) (by have := HLWC.out; omega) (.slice pk nk ck) (.slice qk mk dk) (.int .i64 (newB banks words).lost))
      have HMI29 := Lib.hid (HMI28.out.set3 HFMC.out (.slice pk nk ck) (.slice qk mk dk) (.int .i64 (newB banks words).lost))
      have HBI29 := Lib.hid (HBI28.out.set3 HFBC.out (.slice pk nk ck) (.slice qk mk dk) (.int .i64 (newB banks words).lost))
      have HB29 := Lib.hid (set3_below HB28.out (R := bc) (by have := HLWC.out; omega) (.slice pk nk ck) (.slice qk mk dk) (.int .i64 (newB banks words).lost))
      rw [← hw29] at HC29 HKC29 HKD29 HM29 HK29 HMI29 HBI29 HB29 ⊢
      clear hw29 kC fC lC HC28 HFC28 HKC28 HKD28 HM28 HK28 HMI28 HBI28 HB28
      have kK := HK29.out.c
      have g28 := rnew_any banks words w29
      try rw [← HZ.out] at g28
      go_wp2_with fail
      refine g28.mono ?_
      clear g28 kK
      rintro e w30 ⟨pl, nl, cl, yl, ql, ml, dl, rfl, hd, hb, hoff⟩
      have HD30 := Lib.hid hd
      have HFD30 : Hid (Off bd pl yl (newB banks words).rows ql (newB banks words).par) := Lib.hid (hoff bd HKD29.out.lt trivial)
      have HC30 := Lib.hid (HC29.out.below hb)
      have HFCD : Hid (Off bd pk yk (newB banks words).rows qk (newB banks words).par) := Lib.hid (HFCD0.out)
      have HKC30 := Lib.hid (HKC29.out.below hb)
      have HKD30 := Lib.hid (HKD29.out.below hb)
      have HM30 := Lib.hid (HM29.out.below hb)
      have HK30 := Lib.hid (HK29.out.below hb)
      have HMI30 := Lib.hid (HMI29.out.below hb)
      have HBI30 := Lib.hid (HBI29.out.below hb)
      have HB30 : Hid (Below w.heap.size w w30) := Lib.hid (HB29.out.trans (Below.mono hb HB29.out.size))
      clear HM29 HK29 HMI29 HBI29 HB29
      clear hd hb hoff HC29 HKC29 HKD29 HFCD0
      have kD := HKD30.out.c
      have fD := HKD30.out.f
      have lD := HKD30.out.lt
      go_upto_region 30 with fail
      obtain ⟨w31, hw31⟩ : ∃ W, W = ((w30.setCell ⟨bd, 0, none⟩ (.slice pl nl cl)).setCell ⟨bd, 1, none⟩ (.slice ql ml dl)).setCell ⟨bd, 2, none⟩ (.int .i64 (newB banks words).lost) := ⟨_, rfl⟩
      have HD31 := Lib.hid (HD30.out.set3 HFD30.out (.slice pl nl cl) (.slice ql ml dl) (.int .i64 (newB banks words).lost))
      have HC31 := Lib.hid (HC30.out.set3 HFCD.out (.slice pl nl cl) (.slice ql ml dl) (.int .i64 (newB banks words).lost))
      have HKD31 := Lib.hid (set3_same HKD30.out (.slice pl nl cl) (.slice ql ml dl) (.int .i64 (newB banks words).lost))
      have HKC31 := Lib.hid (set3_other HKC30.out (R := bd) (by have := HLCD.out; omega) (.slice pl nl cl) (.slice ql ml dl) (.int .i64 (newB banks words).lost))
      have HM31 := Lib.hid (set3_other HM30.out (R := bd) (by have := HLMD.out; omega) (.slice pl nl cl) (.slice ql ml dl) (.int .i64 (newB banks words).lost))
      have HK31 := Lib.hid (set3_other HK30.out (R := bd) (by have := HLWD.out; omega) (.slice pl nl cl) (.slice ql ml dl) (.int .i64 (newB banks words).lost))
      have HMI31 := Lib.hid (HMI30.out.set3 HFMD.out (.slice pl nl cl) (.slice ql ml dl) (.int .i64 (newB banks words).lost))
      have HBI31 := Lib.hid (HBI30.out.set3 HFBD.out (.slice pl nl cl) (.slice ql ml dl) (.int .i64 (newB banks words).lost))
      have HB31 := Lib.hid (set3_below HB30.out (R := bd) (by have := HLWD.out; omega) (.slice pl nl cl) (.slice ql ml dl) (.int .i64 (newB banks words).lost))
      rw [← hw31] at HD31 HC31 HKC31 HKD31 HM31 HK31 HMI31 HBI31 HB31 ⊢
      clear hw31 kD fD lD HD30 HFD30 HC30 HFCD HKC30 HKD30 HM30 HK30 HMI30 HBI30 HB30
      obtain ⟨en, hen⟩ : ∃ x, x = newE banks words := ⟨_, rfl⟩
      rw [← hen]
      have e2 : (en == en) = true := by simp
      clear hen
      obtain ⟨rb, hrb⟩ : ∃ x, x = rightB B := ⟨_, rfl⟩
      have hRM := fun W hb => right_any pv j cv ys q m c1 B W (HMI31.out.below hb)
      have hRB := fun W hb => rright_any p j c xs pp m cc B W (HBI31.out.below hb)
      have hSM := fun W hb => same_any pv j cv ys q m c1 p j c xs pp m cc B W (HMI31.out.below hb) (HBI31.out.below hb)
      rw [← HZ.out, ← hrb] at hRM hRB
      rw [← HZ.out] at hSM
      have HRM := Lib.hid hRM
      have HRB := Lib.hid hRB
      have HSM := Lib.hid hSM
      have HSC := Lib.hid (fun W hb => same_any pk nk ck yk qk mk dk pl nl cl yl ql ml dl (newB banks words) W (HC31.out.below hb) (HD31.out.below hb))
      have e3 : (rb == rb) = true := by simp
      have HS0 : Hid (∀ W, Below w31.heap.size w31 W → ((∀ t, W.cell? ⟨bc, t, none⟩ = (#[.slice pk nk ck, .slice qk mk dk, .int .i64 (newB banks words).lost] : Array Value)[t]?) ∧ (∀ t, W.cell? ⟨bd, t, none⟩ = (#[.slice pl nl cl, .slice ql ml dl, .int .i64 (newB banks words).lost] : Array Value)[t]?) ∧ (∀ t, W.cell? ⟨bm, t, none⟩ = (#[.slice pv j cv, .slice q m c1, .int .i64 z] : Array Value)[t]?) ∧ (∀ t, W.cell? ⟨w.heap.size, t, none⟩ = (#[.slice p j c, .slice pp m cc, .int .i64 z] : Array Value)[t]?)) ∧ Below w31.heap.size w31 W) := Lib.hid (fun W hb => ⟨⟨(HKC31.out.below hb).c, (HKD31.out.below hb).c, (HM31.out.below hb).c, (HK31.out.below hb).c⟩, hb⟩)
      clear hrb hRM hRB hSM
      go_upto_region 30 with fail
      refine region_plan (fun W : World => ((∀ t, W.cell? ⟨bc, t, none⟩ = (#[.slice pk nk ck, .slice qk mk dk, .int .i64 (newB banks words).lost] : Array Value)[t]?) ∧ (∀ t, W.cell? ⟨bd, t, none⟩ = (#[.slice pl nl cl, .slice ql ml dl, .int .i64 (newB banks words).lost] : Array Value)[t]?) ∧ (∀ t, W.cell? ⟨bm, t, none⟩ = (#[.slice pv j cv, .slice q m c1, .int .i64 z] : Array Value)[t]?) ∧ (∀ t, W.cell? ⟨w.heap.size, t, none⟩ = (#[.slice p j c, .slice pp m cc, .int .i64 z] : Array Value)[t]?)) ∧ Below w31.heap.size w31 W) 20 [(0, true), (1, true), (2, false), (3, true), (4, true), (5, true), (6, true), (7, true), (8, true), (9, true), (11, true), (10, false), (12, false), (13, true), (14, true), (15, true), (16, true), (17, true), (18, false), (19, true)] (by kernel_rfl) (by kernel_rfl) (HS0.out _ (Below.refl _ _).drew) ?_
      iterate 2
        refine plan_read (v := ?_) rfl (by rfl) ?_ ?_
        rotate_left
        · intro w' hS
          try dsimp only at hS
          go_simp
          try with_reducible rfl
        try simp only [Act.put, List.setIfInBounds_toArray, List.set_cons_zero, List.set_cons_succ, List.getElem_toArray, List.getElem_cons_zero, List.getElem_cons_succ]
      refine plan_call (F := 12) (args := ?_) rfl (by rfl) ?_ ?_
      rotate_left
      · go_simp
        rfl
      refine (HSC.out w31.drew (Below.refl _ _).drew).mono ?_
      rintro e w32 ⟨rfl, hb⟩
      have HB32 : Hid (Below w31.heap.size w31 w32) := Lib.hid ((Below.refl _ _).drew.trans hb)
      clear hb
      refine ⟨_, rfl, HS0.out _ HB32.out, ?_⟩
      try simp only [Act.put, List.setIfInBounds_toArray, List.set_cons_zero, List.set_cons_succ, List.getElem_toArray, List.getElem_cons_zero, List.getElem_cons_succ]
      iterate 8
        refine plan_read (v := ?_) rfl (by rfl) ?_ ?_
        rotate_left
        · intro w' hS
          try dsimp only at hS
          go_simp
          try with_reducible rfl
        try simp only [Act.put, List.setIfInBounds_toArray, List.set_cons_zero, List.set_cons_succ, List.getElem_toArray, List.getElem_cons_zero, List.getElem_cons_succ]
      refine plan_call (F := 19) (args := ?_) rfl (by rfl) ?_ ?_
      rotate_left
      · go_simp
        rfl
      refine (HRM.out w32 HB32.out).mono ?_
      rintro e w33 ⟨rfl, hb⟩
      have HB33 : Hid (Below w31.heap.size w31 w33) := Lib.hid (HB32.out.trans (hb.mono HB32.out.size))
      clear hb
      refine ⟨_, rfl, HS0.out _ HB33.out, ?_⟩
      try simp only [Act.put, List.setIfInBounds_toArray, List.set_cons_zero, List.set_cons_succ, List.getElem_toArray, List.getElem_cons_zero, List.getElem_cons_succ]
      refine plan_call (F := 20) (args := ?_) rfl (by rfl) ?_ ?_
      rotate_left
      · go_simp
        rfl
      refine (HRB.out w33 HB33.out).mono ?_
      rintro e w34 ⟨rfl, hb⟩
      have HB34 : Hid (Below w31.heap.size w31 w34) := Lib.hid (HB33.out.trans (hb.mono HB33.out.size))
      clear hb
      refine ⟨_, rfl, HS0.out _ HB34.out, ?_⟩
      try simp only [Act.put, List.setIfInBounds_toArray, List.set_cons_zero, List.set_cons_succ, List.getElem_toArray, List.getElem_cons_zero, List.getElem_cons_succ]
      iterate 5
        refine plan_read (v := ?_) rfl (by rfl) ?_ ?_
        rotate_left
        · intro w' hS
          try dsimp only at hS
          go_simp
          try with_reducible rfl
        try simp only [Act.put, List.setIfInBounds_toArray, List.set_cons_zero, List.set_cons_succ, List.getElem_toArray, List.getElem_cons_zero, List.getElem_cons_succ]
      refine plan_call (F := 12) (args := ?_) rfl (by rfl) ?_ ?_
      rotate_left
      · go_simp
        rfl
      refine (HSM.out w34 HB34.out).mono ?_
      rintro e w35 ⟨rfl, hb⟩
      have HB35 : Hid (Below w31.heap.size w31 w35) := Lib.hid (HB34.out.trans (hb.mono HB34.out.size))
      clear hb
      refine ⟨_, rfl, HS0.out _ HB35.out, ?_⟩
      try simp only [Act.put, List.setIfInBounds_toArray, List.set_cons_zero, List.set_cons_succ, List.getElem_toArray, List.getElem_cons_zero, List.getElem_cons_succ]
      iterate 1
        refine plan_read (v := ?_) rfl (by rfl) ?_ ?_
        rotate_left
        · intro w' hS
          try dsimp only at hS
          go_simp
          try with_reducible rfl
        try simp only [Act.put, List.setIfInBounds_toArray, List.set_cons_zero, List.set_cons_succ, List.getElem_toArray, List.getElem_cons_zero, List.getElem_cons_succ]
      refine plan_nil ?_
      simp only [List.drop_succ_cons, List.drop_zero]
      go_wp2_with fail
      go_ret
      exact ⟨rfl, HB31.out.trans (HB35.out.mono HB31.out.size)⟩
end Go.Proofs.Ytkeemmedbbammaa
