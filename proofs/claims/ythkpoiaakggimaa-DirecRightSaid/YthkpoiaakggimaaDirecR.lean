/- DirecRight: the walk of the statement's function; no condition but that what is known reads. -/
import Derived.Test.YthkpoiaakggimaaDirecRd
import Derived.Test.YthkpoiaakggimaaDirecF
namespace Go.Proofs.Ythkpoiaakggimaa
set_option linter.unusedVariables false
open Go.ChangeShapes Go.WideShapes Go.ChangeAt Go.RowKit

theorem Var.lt2 {S : Nat → Prop} {w : World} {b : Nat} {E : En} (h : Var S w b E) : b < w.heap.size := h.lt
theorem Sl.set2 {w : World} {p : Option Addr} {n : Nat} {cs : List Value} (h : Sl w p n cs) {R : Nat} (ho : Off R p n) (u0 u1 : Value) : Sl ((w.setCell ⟨R, 0, none⟩ u0).setCell ⟨R, 1, none⟩ u1) p n cs := (h.set ho 0 u0).set ho 1 u1

set_option maxHeartbeats 60000000 in
set_option maxRecDepth 100000 in
theorem right_main (p : Option Addr) (n c : Nat) (E : En) (a1 a2 : Int) (w : World) (hl : E.share.length = n) (hcn : n ≤ c) (hm : n ≤ maxLen) (hs : Sl w p n (boC E.share)) :
    Calls Try.prog 3 #[.agg #[.int .i64 E.owner, .slice p n c], .int .i64 a1, .int .i64 a2] w fun e w' => e = .returned (.bool true) ∧ Below w.heap.size w w' := by
  have HL := Lib.hid hl
  have HSL := Lib.hid hs
  have HCN := Lib.hid hcn
  unfold maxLen at hm
  clear hl hs hcn
  obtain ⟨w0, hw0⟩ : ∃ w0, w0 = w.alloc (.cells #[.int .i64 E.owner, .slice p n c] 24) := ⟨_, rfl⟩
  have HB0 : Hid (Below w.heap.size w w0) := Lib.hid (by rw [hw0]; exact (Below.refl _ _).alloc (Nat.le_refl _) _)
  have HA0 : Hid (Blk w0 w.heap.size #[.int .i64 E.owner, .slice p n c]) := Lib.hid (by rw [hw0]; exact Blk.new _ _ _)
  have HW0 := Lib.hid hw0
  clear hw0
  go_enter Try.func3, Try.ntmps3
  go_upto_region 1 with fail
  rw [← HW0.out]
  clear HW0
  go_wp2_with fail
  refine (awake_any _).mono ?_
  rintro e w1 ⟨rfl, hb1⟩
  have HA1 := Lib.hid (HA0.out.below hb1)
  have HB1 : Hid (Below w.heap.size w w1) := Lib.hid (HB0.out.trans (hb1.mono HB0.out.size))
  clear hb1 HA0 HB0
  have kA := HA1.out.c
  by_cases hn20 : 20 < n
  · have d1 : decide (20 < (n : Int)) = true := decide_eq_true (by omega)
    have d1N : decide (20 < n) = true := decide_eq_true hn20
    clear HL HSL HCN
    go_wp2_with fail
    go_ret
    exact ⟨rfl, HB1.out⟩
  have d1 : decide (20 < (n : Int)) = false := decide_eq_false (by omega)
  have d1N : decide (20 < n) = false := decide_eq_false hn20
  go_upto_region 5 with fail
  clear d1 d1N kA
  have hn2 : n ≤ 20 := by omega
  have HEC : Hid (Ec w1 p n c E) := Lib.hid ⟨HL.out, HSL.out.below HB1.out, HCN.out, by omega⟩
  clear HSL HCN hn20 hm
  obtain ⟨i0, hi, hz0, hz1, hz2⟩ := info_parts info4
  have HI := Lib.hid (And.intro hi (And.intro hz0 (And.intro hz1 hz2)))
  clear hi hz0 hz1 hz2
  obtain ⟨O, hO⟩ : ∃ O, O = E.owner := ⟨_, rfl⟩
  obtain ⟨Ls, hLs⟩ : ∃ z, z = E.share := ⟨_, rfl⟩
  have HEO : Hid (E.owner = O ∧ E.share = Ls) := Lib.hid ⟨hO.symm, hLs.symm⟩
  have HSL : Hid (Sl w1 p n (boC Ls)) := Lib.hid (by rw [hLs]; exact HEC.out.sl)
  have HLL : Hid (Ls.length = n) := Lib.hid (by rw [hLs]; exact HL.out)
  rw [← hO] at HA1 ⊢
  clear hO hLs
  have HS5 : Hid (∀ W, Below w1.heap.size w1 W → ∀ t, W.cell? ⟨w.heap.size, t, none⟩ = (#[.int .i64 O, .slice p n c] : Array Value)[t]?) := Lib.hid (fun W hW => (HA1.out.below hW).c)
  go_cut [7] (fun s7 wd => ∃ bm q d, s7 = .pointer (some ⟨bm, 0, none⟩) ∧ Blk wd bm #[.int .i64 O, .slice q n d] ∧ wd.ownsRow w1.heap.size 4 1 (.slice q n d) n (boC Ls) ∧ w1.heap.size ≤ bm ∧ Below w1.heap.size w1 wd)
  case first =>
    refine region_planT (fun W : World => ∀ t, W.cell? ⟨w.heap.size, t, none⟩ = (#[.int .i64 O, .slice p n c] : Array Value)[t]?) 8 (.read 0 (.read 1 (.read 3 (.read 4 (.two 2 7 (.two 5 7 (.read 6 (.one 7 .stop)) (.one 5 (.read 6 .stop))) (.one 2 (.one 5 (.read 6 .stop)))))))) (by kernel_rfl) (by kernel_rfl) (HS5.out _ (Below.refl _ _).drew) ?_
    iterate 4
      refine planT_read (v := ?_) rfl (by rfl) ?_ ?_
      rotate_left
      · intro w' hS
        try dsimp only at hS
        go_simp
        try with_reducible rfl
      try simp only [Act.put, List.setIfInBounds_toArray, List.set_cons_zero, List.set_cons_succ, List.getElem_toArray, List.getElem_cons_zero, List.getElem_cons_succ]
    have HB0 : Hid (Below w1.heap.size w1 w1.drew) := Lib.hid (Below.refl _ _).drew
    obtain ⟨x0, hx0⟩ : ∃ z, z = w1.drew := ⟨_, rfl⟩
    have HX0 : Hid (x0.heap.size = w1.heap.size) := Lib.hid (by rw [hx0]; rfl)
    rw [← hx0] at HB0 ⊢
    clear hx0
    refine planT_two ?_ ?_
    · skip
      obtain ⟨gs, hgs⟩ : ∃ z, z = x0.heap.size := ⟨_, rfl⟩
      obtain ⟨x2, hx2⟩ : ∃ z, z = x0.alloc (.cells #[] 4) := ⟨_, rfl⟩
      have HN2 : Hid (Below x0.heap.size x0 x2) := Lib.hid (by rw [hx2]; exact (Below.refl _ _).alloc (Nat.le_refl _) _)
      have HF2 : Hid (x2.ownsRow w1.heap.size 4 1 (.slice (some ⟨gs, 0, none⟩) 0 0) 0 []) := Lib.hid (by rw [hx2, hgs]; exact fresh_made HB0.out.size)
      have HB2 : Hid (Below w1.heap.size w1 x2) := Lib.hid (HB0.out.trans (HN2.out.mono HB0.out.size))
      have HGS2 : Hid (gs = x0.heap.size) := Lib.hid hgs
      refine op_make (v := .slice (some ⟨gs, 0, none⟩) 0 0) (w1 := x2) rfl (by rfl) (by go_simp) ⟨HS5.out _ HB2.out, ?_⟩
      clear hx2 hgs
      try simp only [Act.put, List.setIfInBounds_toArray, List.set_cons_zero, List.set_cons_succ, List.getElem_toArray, List.getElem_cons_zero, List.getElem_cons_succ]
      refine planT_two ?_ ?_
      · skip
        refine op_wp rfl (by rfl) ?_
        try simp only [List.getElem_toArray, List.getElem_cons_zero, List.getElem_cons_succ]
        refine (wp_append_sl _ _ 22 rfl w1.heap.size 4 i0 _ 1 1 Try.underlying22 HI.out.1 HI.out.2.1 HI.out.2.2.1 HI.out.2.2.2 rfl (by decide) _ 0 [] rfl HF2.out p n c (boC Ls) rfl (by rw [boC_len, HLL.out, Nat.mul_one]) (HSL.out.below HB2.out) (boC_one _) (by unfold maxLen; omega) (by omega) HB2.out.size ?_)
        intro v5 x25 g1 g2 g3
        have hrr : x25.ownsRow w1.heap.size 4 1 v5 n (boC Ls) := by simpa using g1
        obtain ⟨q, d, rfl, -⟩ := own_cap hrr
        have HR25 := Lib.hid hrr
        have HB25 : Hid (Below w1.heap.size w1 x25) := Lib.hid (HB2.out.grown g2 HB2.out.size (fun k hk => (HF2.out.lt k hk).1))
        have HG3 : Hid (∀ g, (Value.slice q n d).ownBlock = some g → g = gs ∨ g = x2.heap.size) := Lib.hid (fun g e => by
          rcases g3 with g3 | g3
          · rw [g3] at e; injection e with e; exact .inl e.symm
          · rw [g3] at e; injection e with e; exact .inr e.symm)
        have HG2 := Lib.hid g2
        clear g1 g2 g3 hrr
        refine ⟨HS5.out _ HB25.out, ?_⟩
        try simp only [Act.put, List.setIfInBounds_toArray, List.set_cons_zero, List.set_cons_succ, List.getElem_toArray, List.getElem_cons_zero, List.getElem_cons_succ]
        iterate 1
          refine planT_read (v := ?_) rfl (by rfl) ?_ ?_
          rotate_left
          · intro w' hS
            try dsimp only at hS
            go_simp
            try with_reducible rfl
          try simp only [Act.put, List.setIfInBounds_toArray, List.set_cons_zero, List.set_cons_succ, List.getElem_toArray, List.getElem_cons_zero, List.getElem_cons_succ]
        refine planT_one ?_
        obtain ⟨bm, hbm⟩ : ∃ z, z = x25.heap.size := ⟨_, rfl⟩
        obtain ⟨x257, hx257⟩ : ∃ z, z = x25.alloc (.cells #[.int .i64 0, .slice none 0 0] 24) := ⟨_, rfl⟩
        have HN257 : Hid (Below x25.heap.size x25 x257) := Lib.hid (by rw [hx257]; exact (Below.refl _ _).alloc (Nat.le_refl _) _)
        have HZ257 : Hid (Blk x257 bm #[.int .i64 0, .slice none 0 0]) := Lib.hid (by rw [hx257, hbm]; exact Blk.new _ _ _)
        have HB257 : Hid (Below w1.heap.size w1 x257) := Lib.hid (HB25.out.trans (HN257.out.mono HB25.out.size))
        have HBM : Hid (w1.heap.size ≤ bm) := Lib.hid (by rw [hbm]; exact HB25.out.size)
        have HBE : Hid (bm = x25.heap.size) := Lib.hid hbm
        refine op_make (v := .pointer (some ⟨bm, 0, none⟩)) (w1 := x257) rfl (by rfl) (by go_simp) ⟨HS5.out _ HB257.out, ?_⟩
        clear hx257 hbm
        try simp only [Act.put, List.setIfInBounds_toArray, List.set_cons_zero, List.set_cons_succ, List.getElem_toArray, List.getElem_cons_zero, List.getElem_cons_succ]
        have HR257 := Lib.hid (own_below HR25.out HN257.out)
        have HNE : Hid (∀ g, (Value.slice q n d).ownBlock = some g → g ≠ bm) := Lib.hid (fun g e => by have h1 := (HR25.out.lt g e).2; have h2 := HBE.out; omega)
        refine planT_stop ?_
        simp only [List.drop_succ_cons, List.drop_zero]
        clear HS5 HSL
        have cT := HZ257.out.c
        have fT := HZ257.out.f
        have lT := HZ257.out.lt
        go_wp2_with fail
        go_meet
        case rel => exact ⟨bm, q, d, rfl, set2_same HZ257.out _ _, own_off (own_off HR257.out HNE.out _ _) HNE.out _ _, HBM.out, set2_below HB257.out HBM.out _ _⟩
      · skip
        obtain ⟨bm, hbm⟩ : ∃ z, z = x2.heap.size := ⟨_, rfl⟩
        obtain ⟨x27, hx27⟩ : ∃ z, z = x2.alloc (.cells #[.int .i64 0, .slice none 0 0] 24) := ⟨_, rfl⟩
        have HN27 : Hid (Below x2.heap.size x2 x27) := Lib.hid (by rw [hx27]; exact (Below.refl _ _).alloc (Nat.le_refl _) _)
        have HZ27 : Hid (Blk x27 bm #[.int .i64 0, .slice none 0 0]) := Lib.hid (by rw [hx27, hbm]; exact Blk.new _ _ _)
        have HB27 : Hid (Below w1.heap.size w1 x27) := Lib.hid (HB2.out.trans (HN27.out.mono HB2.out.size))
        have HBM : Hid (w1.heap.size ≤ bm) := Lib.hid (by rw [hbm]; exact HB2.out.size)
        have HBE : Hid (bm = x2.heap.size) := Lib.hid hbm
        refine op_make (v := .pointer (some ⟨bm, 0, none⟩)) (w1 := x27) rfl (by rfl) (by go_simp) ⟨HS5.out _ HB27.out, ?_⟩
        clear hx27 hbm
        try simp only [Act.put, List.setIfInBounds_toArray, List.set_cons_zero, List.set_cons_succ, List.getElem_toArray, List.getElem_cons_zero, List.getElem_cons_succ]
        have HF27 := Lib.hid (own_below HF2.out HN27.out)
        have HGB : Hid (gs ≠ bm ∧ gs < bm) := Lib.hid (by have h1 := (HF2.out.lt gs rfl).2; have h2 := HBE.out; omega)
        refine planT_one ?_
        refine op_wp rfl (by rfl) ?_
        try simp only [List.getElem_toArray, List.getElem_cons_zero, List.getElem_cons_succ]
        refine (wp_append_sl _ _ 22 rfl w1.heap.size 4 i0 _ 1 1 Try.underlying22 HI.out.1 HI.out.2.1 HI.out.2.2.1 HI.out.2.2.2 rfl (by decide) _ 0 [] rfl HF27.out p n c (boC Ls) rfl (by rw [boC_len, HLL.out, Nat.mul_one]) (HSL.out.below HB27.out) (boC_one _) (by unfold maxLen; omega) (by omega) HB27.out.size ?_)
        intro v5 x275 g1 g2 g3
        have hrr : x275.ownsRow w1.heap.size 4 1 v5 n (boC Ls) := by simpa using g1
        obtain ⟨q, d, rfl, -⟩ := own_cap hrr
        have HR275 := Lib.hid hrr
        have HB275 : Hid (Below w1.heap.size w1 x275) := Lib.hid (HB27.out.grown g2 HB27.out.size (fun k hk => (HF27.out.lt k hk).1))
        have HG3 : Hid (∀ g, (Value.slice q n d).ownBlock = some g → g = gs ∨ g = x27.heap.size) := Lib.hid (fun g e => by
          rcases g3 with g3 | g3
          · rw [g3] at e; injection e with e; exact .inl e.symm
          · rw [g3] at e; injection e with e; exact .inr e.symm)
        have HG2 := Lib.hid g2
        clear g1 g2 g3 hrr
        refine ⟨HS5.out _ HB275.out, ?_⟩
        try simp only [Act.put, List.setIfInBounds_toArray, List.set_cons_zero, List.set_cons_succ, List.getElem_toArray, List.getElem_cons_zero, List.getElem_cons_succ]
        have HNE : Hid (∀ g, (Value.slice q n d).ownBlock = some g → g ≠ bm) := Lib.hid (fun g e => by have h1 := HG3.out g e; have h2 := HGB.out; have h3 := HZ27.out.lt; omega)
        have HZ275 := Lib.hid (HZ27.out.grown HG2.out (fun e => by injection e with e; have e2 : gs = bm := e; have := HGB.out; omega))
        iterate 1
          refine planT_read (v := ?_) rfl (by rfl) ?_ ?_
          rotate_left
          · intro w' hS
            try dsimp only at hS
            go_simp
            try with_reducible rfl
          try simp only [Act.put, List.setIfInBounds_toArray, List.set_cons_zero, List.set_cons_succ, List.getElem_toArray, List.getElem_cons_zero, List.getElem_cons_succ]
        refine planT_stop ?_
        simp only [List.drop_succ_cons, List.drop_zero]
        clear HS5 HSL
        have cT := HZ275.out.c
        have fT := HZ275.out.f
        have lT := HZ275.out.lt
        go_wp2_with fail
        go_meet
        case rel => exact ⟨bm, q, d, rfl, set2_same HZ275.out _ _, own_off (own_off HR275.out HNE.out _ _) HNE.out _ _, HBM.out, set2_below HB275.out HBM.out _ _⟩
    · skip
      obtain ⟨bm, hbm⟩ : ∃ z, z = x0.heap.size := ⟨_, rfl⟩
      obtain ⟨x7, hx7⟩ : ∃ z, z = x0.alloc (.cells #[.int .i64 0, .slice none 0 0] 24) := ⟨_, rfl⟩
      have HN7 : Hid (Below x0.heap.size x0 x7) := Lib.hid (by rw [hx7]; exact (Below.refl _ _).alloc (Nat.le_refl _) _)
      have HZ7 : Hid (Blk x7 bm #[.int .i64 0, .slice none 0 0]) := Lib.hid (by rw [hx7, hbm]; exact Blk.new _ _ _)
      have HB7 : Hid (Below w1.heap.size w1 x7) := Lib.hid (HB0.out.trans (HN7.out.mono HB0.out.size))
      have HBM : Hid (w1.heap.size ≤ bm) := Lib.hid (by rw [hbm]; exact HB0.out.size)
      have HBE : Hid (bm = x0.heap.size) := Lib.hid hbm
      refine op_make (v := .pointer (some ⟨bm, 0, none⟩)) (w1 := x7) rfl (by rfl) (by go_simp) ⟨HS5.out _ HB7.out, ?_⟩
      clear hx7 hbm
      try simp only [Act.put, List.setIfInBounds_toArray, List.set_cons_zero, List.set_cons_succ, List.getElem_toArray, List.getElem_cons_zero, List.getElem_cons_succ]
      refine planT_one ?_
      obtain ⟨gs, hgs⟩ : ∃ z, z = x7.heap.size := ⟨_, rfl⟩
      obtain ⟨x72, hx72⟩ : ∃ z, z = x7.alloc (.cells #[] 4) := ⟨_, rfl⟩
      have HN72 : Hid (Below x7.heap.size x7 x72) := Lib.hid (by rw [hx72]; exact (Below.refl _ _).alloc (Nat.le_refl _) _)
      have HF72 : Hid (x72.ownsRow w1.heap.size 4 1 (.slice (some ⟨gs, 0, none⟩) 0 0) 0 []) := Lib.hid (by rw [hx72, hgs]; exact fresh_made HB7.out.size)
      have HB72 : Hid (Below w1.heap.size w1 x72) := Lib.hid (HB7.out.trans (HN72.out.mono HB7.out.size))
      have HGS72 : Hid (gs = x7.heap.size) := Lib.hid hgs
      refine op_make (v := .slice (some ⟨gs, 0, none⟩) 0 0) (w1 := x72) rfl (by rfl) (by go_simp) ⟨HS5.out _ HB72.out, ?_⟩
      clear hx72 hgs
      try simp only [Act.put, List.setIfInBounds_toArray, List.set_cons_zero, List.set_cons_succ, List.getElem_toArray, List.getElem_cons_zero, List.getElem_cons_succ]
      have HZ72 := Lib.hid (HZ7.out.below HN72.out)
      have HGB : Hid (gs ≠ bm ∧ bm < gs) := Lib.hid (by have h1 := HZ7.out.lt; have h2 := HGS72.out; omega)
      refine planT_one ?_
      refine op_wp rfl (by rfl) ?_
      try simp only [List.getElem_toArray, List.getElem_cons_zero, List.getElem_cons_succ]
      refine (wp_append_sl _ _ 22 rfl w1.heap.size 4 i0 _ 1 1 Try.underlying22 HI.out.1 HI.out.2.1 HI.out.2.2.1 HI.out.2.2.2 rfl (by decide) _ 0 [] rfl HF72.out p n c (boC Ls) rfl (by rw [boC_len, HLL.out, Nat.mul_one]) (HSL.out.below HB72.out) (boC_one _) (by unfold maxLen; omega) (by omega) HB72.out.size ?_)
      intro v5 x725 g1 g2 g3
      have hrr : x725.ownsRow w1.heap.size 4 1 v5 n (boC Ls) := by simpa using g1
      obtain ⟨q, d, rfl, -⟩ := own_cap hrr
      have HR725 := Lib.hid hrr
      have HB725 : Hid (Below w1.heap.size w1 x725) := Lib.hid (HB72.out.grown g2 HB72.out.size (fun k hk => (HF72.out.lt k hk).1))
      have HG3 : Hid (∀ g, (Value.slice q n d).ownBlock = some g → g = gs ∨ g = x72.heap.size) := Lib.hid (fun g e => by
        rcases g3 with g3 | g3
        · rw [g3] at e; injection e with e; exact .inl e.symm
        · rw [g3] at e; injection e with e; exact .inr e.symm)
      have HG2 := Lib.hid g2
      clear g1 g2 g3 hrr
      refine ⟨HS5.out _ HB725.out, ?_⟩
      try simp only [Act.put, List.setIfInBounds_toArray, List.set_cons_zero, List.set_cons_succ, List.getElem_toArray, List.getElem_cons_zero, List.getElem_cons_succ]
      have HNE : Hid (∀ g, (Value.slice q n d).ownBlock = some g → g ≠ bm) := Lib.hid (fun g e => by have h1 := HG3.out g e; have h2 := HGB.out; have h3 := HZ72.out.lt; omega)
      have HZ725 := Lib.hid (HZ72.out.grown HG2.out (fun e => by injection e with e; have e2 : gs = bm := e; have h1 := HGB.out; omega))
      iterate 1
        refine planT_read (v := ?_) rfl (by rfl) ?_ ?_
        rotate_left
        · intro w' hS
          try dsimp only at hS
          go_simp
          try with_reducible rfl
        try simp only [Act.put, List.setIfInBounds_toArray, List.set_cons_zero, List.set_cons_succ, List.getElem_toArray, List.getElem_cons_zero, List.getElem_cons_succ]
      refine planT_stop ?_
      simp only [List.drop_succ_cons, List.drop_zero]
      clear HS5 HSL
      have cT := HZ725.out.c
      have fT := HZ725.out.f
      have lT := HZ725.out.lt
      go_wp2_with fail
      go_meet
      case rel => exact ⟨bm, q, d, rfl, set2_same HZ725.out _ _, own_off (own_off HR725.out HNE.out _ _) HNE.out _ _, HBM.out, set2_below HB725.out HBM.out _ _⟩
  case rest =>
    obtain ⟨bm, q0, d0, rfl, hbk, hor, hbm, hbb⟩ := hcut
    obtain ⟨w5, hw5⟩ : ∃ z, z = wc := ⟨_, rfl⟩
    rw [← hw5] at hbk hor hbb ⊢
    clear hw5
    obtain ⟨m, hm⟩ : ∃ m, m = w5.heap.size := ⟨_, rfl⟩
    have hec := HEC.out.below hbb
    have hmc : Ec w5 q0 n d0 E := Ec.own (by rw [HEO.out.2]; exact hor) (by omega)
    have HVC5 : Hid (Var (fun R => m ≤ R) w5 w.heap.size E) := Lib.hid ⟨p, n, c, by rw [HEO.out.1]; exact HA1.out.below hbb, hec, fun R hR => hec.off (by rw [← hm]; exact hR)⟩
    have HVM5 : Hid (Var (fun R => m ≤ R) w5 bm E) := Lib.hid ⟨q0, n, d0, by rw [HEO.out.1]; exact hbk, hmc, fun R hR => hmc.off (by rw [← hm]; exact hR)⟩
    have HMB : Hid (bm < m) := Lib.hid (by rw [hm]; exact hbk.lt)
    have HLT : Hid (w.heap.size < bm) := Lib.hid (by have := HA1.out.lt; omega)
    have HMS5 : Hid (m ≤ w5.heap.size) := Lib.hid (Nat.le_of_eq hm)
    have HB5 : Hid (Below w.heap.size w w5) := Lib.hid (HB1.out.trans (hbb.mono HB1.out.size))
    have HLN : Hid (E.share.length = n ∧ n ≤ 20) := Lib.hid ⟨HL.out, hn2⟩
    clear hec hmc hm hbk hor hbm hbb HEC HA1 HB1 HI HEO HSL HLL HS5 HL
    obtain ⟨UC, hUC⟩ : ∃ z, z = readC E a1 := ⟨_, rfl⟩
    have HEUC := Lib.hid hUC
    clear hUC
    obtain ⟨UF, hUF⟩ : ∃ z, z = readF E a1 := ⟨_, rfl⟩
    have HEUF := Lib.hid hUF
    clear hUF
    obtain ⟨UX, hUX⟩ : ∃ z, z = askX E a1 := ⟨_, rfl⟩
    have HEUX := Lib.hid hUX
    clear hUX
    obtain ⟨pu, nu, cu, hku, hcou, -⟩ := HVM5.out.eo
    have ku := hku.c
    have hqu := read_any (fun R => m ≤ R ∧ R < w5.heap.size) _ E a1 w5 (hcou.weak (fun R hR => hR.1)) (fun R hR => hR.2)
    rw [← HEUC.out, ← HEUF.out, ← HEUX.out] at hqu
    have HQu := Lib.hid hqu
    clear hqu hku hcou
    go_upto_region 6 with fail
    go_wp2_with fail
    refine HQu.out.mono ?_
    rintro e w6 ⟨vu, rfl, ho, hb⟩
    clear HQu ku
    obtain ⟨qu, lu, du, rfl, hcq, hof⟩ := ho
    have HO6 : Hid (Eo (fun R => m ≤ R ∧ R < w5.heap.size) w6 (.agg #[.int .i64 UC.owner, .slice qu lu du]) UC) := Lib.hid ⟨_, _, _, rfl, hcq, fun R hR => hof R hR⟩
    clear hcq hof
    have HMS6 : Hid (m ≤ w6.heap.size) := Lib.hid (Nat.le_trans HMS5.out hb.size)
    clear HMS5
    have HVC6 := Lib.hid (HVC5.out.below hb)
    have HVM6 := Lib.hid (HVM5.out.below hb)
    have HB6 : Hid (Below w.heap.size w w6) := Lib.hid (HB5.out.trans (Below.mono hb HB5.out.size))
    clear HVC5 HVM5 HB5
    clear hb
    go_upto_region 7 with fail
    obtain ⟨ba, hba⟩ : ∃ z, z = w6.heap.size := ⟨_, rfl⟩
    obtain ⟨w7, hw7⟩ : ∃ z, z = w6.alloc (.cells #[.int .i64 UC.owner, .slice qu lu du] 24) := ⟨_, rfl⟩
    have HN7 : Hid (Below w6.heap.size w6 w7) := Lib.hid (by rw [hw7]; exact (Below.refl _ _).alloc (Nat.le_refl _) _)
    have HVA7 : Hid (Var (fun R => m ≤ R ∧ R < w5.heap.size) w7 ba UC) := Lib.hid (by rw [hw7, hba]; exact Var.new HO6.out)
    have HMba : Hid (m ≤ ba) := Lib.hid (by rw [hba]; exact HMS6.out)
    rw [← hw7, ← hba]
    clear hw7 hba HO6
    have HVC7 := Lib.hid (HVC6.out.below HN7.out)
    have HVM7 := Lib.hid (HVM6.out.below HN7.out)
    have HB7 : Hid (Below w.heap.size w w7) := Lib.hid (HB6.out.trans (Below.mono HN7.out HB6.out.size))
    clear HVC6 HVM6 HB6
    have HMS7 : Hid (m ≤ w7.heap.size) := Lib.hid (Nat.le_trans HMS6.out HN7.out.size)
    clear HMS6 HN7
    obtain ⟨pv, nv, cv, hkv, hcov, -⟩ := HVC7.out.eo
    have kv := hkv.c
    have hqv := rread_any (fun R => m ≤ R ∧ R < w7.heap.size) _ E a1 w7 (hcov.weak (fun R hR => hR.1)) (fun R hR => hR.2)
    rw [← HEUC.out, ← HEUF.out, ← HEUX.out] at hqv
    have HQv := Lib.hid hqv
    clear hqv hkv hcov
    go_upto_region 7 with fail
    go_wp2_with fail
    refine HQv.out.mono ?_
    rintro e w8 ⟨vv, rfl, ho, hb⟩
    clear HQv kv
    obtain ⟨qv, lv, dv, rfl, hcq, hof⟩ := ho
    have HO8 : Hid (Eo (fun R => m ≤ R ∧ R < w7.heap.size) w8 (.agg #[.int .i64 UC.owner, .slice qv lv dv]) UC) := Lib.hid ⟨_, _, _, rfl, hcq, fun R hR => hof R hR⟩
    clear hcq hof
    have HMS8 : Hid (m ≤ w8.heap.size) := Lib.hid (Nat.le_trans HMS7.out hb.size)
    clear HMS7
    have HVC8 := Lib.hid (HVC7.out.below hb)
    have HVM8 := Lib.hid (HVM7.out.below hb)
    have HVA8 := Lib.hid (HVA7.out.below hb)
    have HB8 : Hid (Below w.heap.size w w8) := Lib.hid (HB7.out.trans (Below.mono hb HB7.out.size))
    clear HVC7 HVM7 HVA7 HB7
    clear hb
    go_upto_region 8 with fail
    obtain ⟨bb, hbb⟩ : ∃ z, z = w8.heap.size := ⟨_, rfl⟩
    obtain ⟨w9, hw9⟩ : ∃ z, z = w8.alloc (.cells #[.int .i64 UC.owner, .slice qv lv dv] 24) := ⟨_, rfl⟩
    have HN9 : Hid (Below w8.heap.size w8 w9) := Lib.hid (by rw [hw9]; exact (Below.refl _ _).alloc (Nat.le_refl _) _)
    have HVB9 : Hid (Var (fun R => m ≤ R ∧ R < w7.heap.size) w9 bb UC) := Lib.hid (by rw [hw9, hbb]; exact Var.new HO8.out)
    have HMbb : Hid (m ≤ bb) := Lib.hid (by rw [hbb]; exact HMS8.out)
    have Hbabb : Hid (ba < bb) := Lib.hid (by rw [hbb]; exact HVA8.out.lt2)
    rw [← hw9, ← hbb]
    clear hw9 hbb HO8
    have HVC9 := Lib.hid (HVC8.out.below HN9.out)
    have HVM9 := Lib.hid (HVM8.out.below HN9.out)
    have HVA9 := Lib.hid (HVA8.out.below HN9.out)
    have HB9 : Hid (Below w.heap.size w w9) := Lib.hid (HB8.out.trans (Below.mono HN9.out HB8.out.size))
    clear HVC8 HVM8 HVA8 HB8
    have HMS9 : Hid (m ≤ w9.heap.size) := Lib.hid (Nat.le_trans HMS8.out HN9.out.size)
    clear HMS8 HN9
    have HORD : Hid (m ≤ ba ∧ ba < bb ∧ bm < m ∧ w.heap.size < bm) := Lib.hid ⟨HMba.out, Hbabb.out, HMB.out, HLT.out⟩
    obtain ⟨paa, naa, caa, hkaa, -, hcaa⟩ := HVA9.out.eo
    obtain ⟨pba, nba, cba, hkba, -, hcba⟩ := HVB9.out.eo
    have eNa : naa = nba := by rw [← hcaa.len, ← hcba.len]
    subst eNa
    have hqa := same_any paa pba naa caa cba UC w9 hcaa hcba
    have HQa := Lib.hid hqa
    have kaa := hkaa.c
    have kba := hkba.c
    have eE0 : (UF != UF) = false := by simp
    have eE1 : (UX != UX) = false := by simp
    have HKA9 := Lib.hid hkaa
    have HKB9 := Lib.hid hkba
    clear hqa hkaa hkba hcaa hcba HVA9 HVB9
    go_upto_region 8 with fail
    go_wp2_with fail
    refine HQa.out.mono ?_
    rintro e w10 ⟨rfl, hb⟩
    clear HQa kaa kba
    have HMS10 : Hid (m ≤ w10.heap.size) := Lib.hid (Nat.le_trans HMS9.out hb.size)
    clear HMS9
    have HVC10 := Lib.hid (HVC9.out.below hb)
    have HVM10 := Lib.hid (HVM9.out.below hb)
    have HKA10 := Lib.hid (HKA9.out.below hb)
    have HKB10 := Lib.hid (HKB9.out.below hb)
    have HB10 : Hid (Below w.heap.size w w10) := Lib.hid (HB9.out.trans (Below.mono hb HB9.out.size))
    clear HVC9 HVM9 HKA9 HKB9 HB9
    clear hb
    go_upto_region 10 with fail
    clear eE0 eE1
    obtain ⟨WC, hWC⟩ : ∃ z, z = writeC E a1 := ⟨_, rfl⟩
    have HEWC := Lib.hid hWC
    clear hWC
    obtain ⟨WT, hWT⟩ : ∃ z, z = writeT E a1 := ⟨_, rfl⟩
    have HEWT := Lib.hid hWT
    clear hWT
    have HLTba10 : Hid (ba < w10.heap.size) := Lib.hid (by have := HKB10.out.lt; have := HORD.out; omega)
    have HLTbb10 : Hid (bb < w10.heap.size) := Lib.hid (by have := HKB10.out.lt; have := HORD.out; omega)
    obtain ⟨pw, nw, cw, hkw, hcow, -⟩ := HVM10.out.eo
    have kw := hkw.c
    have hqw := write_any (fun R => m ≤ R ∧ R < w10.heap.size) _ E a1 w10 (hcow.weak (fun R hR => hR.1)) (fun R hR => hR.2)
    rw [← HEWC.out, ← HEUF.out, ← HEUX.out, ← HEWT.out] at hqw
    have HQw := Lib.hid hqw
    clear hkw hcow hqw
    go_upto_region 10 with fail
    go_wp2_with fail
    refine HQw.out.mono ?_
    rintro e w11 ⟨vw, tw, ew, rfl, ho, hsq, hfq, hwl, hb⟩
    clear HQw kw
    obtain ⟨qw, lw, dw, rfl, hcq, hof⟩ := ho
    have HO11 : Hid (Eo (fun R => m ≤ R ∧ R < w10.heap.size) w11 (.agg #[.int .i64 WC.owner, .slice qw lw dw]) WC) := Lib.hid ⟨_, _, _, rfl, hcq, hof⟩
    have HSQw11 := Lib.hid hsq
    have HFQw : Hid (∀ R, m ≤ R ∧ R < w10.heap.size → Off R tw WT.length) := Lib.hid hfq
    have HWL : Hid (WT.length ≤ 100) := Lib.hid hwl
    clear hcq hof hsq hfq hwl
    have HMS11 : Hid (m ≤ w11.heap.size) := Lib.hid (Nat.le_trans HMS10.out hb.size)
    clear HMS10
    have HVC11 := Lib.hid (HVC10.out.below hb)
    have HVM11 := Lib.hid (HVM10.out.below hb)
    have HKA11 := Lib.hid (HKA10.out.below hb)
    have HKB11 := Lib.hid (HKB10.out.below hb)
    have HB11 : Hid (Below w.heap.size w w11) := Lib.hid (HB10.out.trans (Below.mono hb HB10.out.size))
    clear HVC10 HVM10 HKA10 HKB10 HB10
    clear hb
    have kk := HKA11.out.c
    have kf := HKA11.out.f
    have kl := HKA11.out.lt
    go_upto_region 11 with fail
    obtain ⟨w12, hw12⟩ : ∃ z, z = ((w11.setCell ⟨ba, 0, none⟩ (.int .i64 WC.owner)).setCell ⟨ba, 1, none⟩ (.slice qw lw dw)) := ⟨_, rfl⟩
    have HVA12 : Hid (Var (fun R => m ≤ R ∧ R < w10.heap.size) w12 ba WC) := Lib.hid (by rw [hw12]; exact Var.put HKA11.out HO11.out ⟨HMba.out, HLTba10.out⟩)
    have HVC12 : Hid (Var (fun R => m ≤ R) w12 w.heap.size E) := Lib.hid (by rw [hw12]; exact HVC11.out.set2 HMba.out (by have := HMba.out; have := HMB.out; have := HLT.out; omega) _ _)
    have HVM12 : Hid (Var (fun R => m ≤ R) w12 bm E) := Lib.hid (by rw [hw12]; exact HVM11.out.set2 HMba.out (by have := HMba.out; have := HMB.out; have := HLT.out; omega) _ _)
    have HKB12 := Lib.hid (set2_other HKB11.out (R := ba) (by have := HORD.out; omega) (.int .i64 WC.owner) (.slice qw lw dw))
    rw [← hw12] at HKB12
    have HSQw12 := Lib.hid (Sl.set2 HSQw11.out (HFQw.out ba ⟨HMba.out, HLTba10.out⟩) (.int .i64 WC.owner) (.slice qw lw dw))
    rw [← hw12] at HSQw12
    have HB12 : Hid (Below w.heap.size w w12) := Lib.hid (by rw [hw12]; exact set2_below HB11.out (by have := HMba.out; have := HMB.out; have := HLT.out; omega) _ _)
    have HMS12 : Hid (m ≤ w12.heap.size) := Lib.hid (by rw [hw12, size_set, size_set]; exact HMS11.out)
    rw [← hw12]
    clear hw12 HO11 kk kf kl HB11 HMS11 HVC11 HVM11 HKA11 HKB11 HSQw11
    have HLTba12 : Hid (ba < w12.heap.size) := Lib.hid (by have := HKB12.out.lt; have := HORD.out; omega)
    have HLTbb12 : Hid (bb < w12.heap.size) := Lib.hid (by have := HKB12.out.lt; have := HORD.out; omega)
    obtain ⟨px, nx, cx, hkx, hcox, -⟩ := HVC12.out.eo
    have kx := hkx.c
    have hqx := rwrite_any (fun R => m ≤ R ∧ R < w12.heap.size) _ E a1 w12 (hcox.weak (fun R hR => hR.1)) (fun R hR => hR.2)
    rw [← HEWC.out, ← HEUF.out, ← HEUX.out, ← HEWT.out] at hqx
    have HQx := Lib.hid hqx
    clear hkx hcox hqx
    go_upto_region 11 with fail
    go_wp2_with fail
    refine HQx.out.mono ?_
    rintro e w13 ⟨vx, tx, ex, rfl, ho, hsq, hfq, hwl, hb⟩
    clear HQx kx
    obtain ⟨qx, lx, dx, rfl, hcq, hof⟩ := ho
    have HO13 : Hid (Eo (fun R => m ≤ R ∧ R < w12.heap.size) w13 (.agg #[.int .i64 WC.owner, .slice qx lx dx]) WC) := Lib.hid ⟨_, _, _, rfl, hcq, hof⟩
    have HSQx13 := Lib.hid hsq
    have HFQx : Hid (∀ R, m ≤ R ∧ R < w12.heap.size → Off R tx WT.length) := Lib.hid hfq
    have HWL : Hid (WT.length ≤ 100) := Lib.hid hwl
    clear hcq hof hsq hfq hwl
    have HMS13 : Hid (m ≤ w13.heap.size) := Lib.hid (Nat.le_trans HMS12.out hb.size)
    clear HMS12
    have HVC13 := Lib.hid (HVC12.out.below hb)
    have HVM13 := Lib.hid (HVM12.out.below hb)
    have HKB13 := Lib.hid (HKB12.out.below hb)
    have HSQw13 := Lib.hid (HSQw12.out.below hb)
    have HVA13 := Lib.hid (HVA12.out.below hb)
    have HB13 : Hid (Below w.heap.size w w13) := Lib.hid (HB12.out.trans (Below.mono hb HB12.out.size))
    clear HVC12 HVM12 HKB12 HSQw12 HVA12 HB12
    clear hb
    have kk := HKB13.out.c
    have kf := HKB13.out.f
    have kl := HKB13.out.lt
    go_upto_region 12 with fail
    obtain ⟨w14, hw14⟩ : ∃ z, z = ((w13.setCell ⟨bb, 0, none⟩ (.int .i64 WC.owner)).setCell ⟨bb, 1, none⟩ (.slice qx lx dx)) := ⟨_, rfl⟩
    have HVB14 : Hid (Var (fun R => m ≤ R ∧ R < w12.heap.size) w14 bb WC) := Lib.hid (by rw [hw14]; exact Var.put HKB13.out HO13.out ⟨HMbb.out, HLTbb12.out⟩)
    have HVC14 : Hid (Var (fun R => m ≤ R) w14 w.heap.size E) := Lib.hid (by rw [hw14]; exact HVC13.out.set2 HMbb.out (by have := HMbb.out; have := HMB.out; have := HLT.out; omega) _ _)
    have HVM14 : Hid (Var (fun R => m ≤ R) w14 bm E) := Lib.hid (by rw [hw14]; exact HVM13.out.set2 HMbb.out (by have := HMbb.out; have := HMB.out; have := HLT.out; omega) _ _)
    have HSQw14 := Lib.hid (Sl.set2 HSQw13.out (HFQw.out bb ⟨HMbb.out, HLTbb10.out⟩) (.int .i64 WC.owner) (.slice qx lx dx))
    rw [← hw14] at HSQw14
    have HVA14 := Lib.hid (Var.set2 HVA13.out (R := bb) ⟨HMbb.out, HLTbb10.out⟩ (by have := HORD.out; omega) (.int .i64 WC.owner) (.slice qx lx dx))
    rw [← hw14] at HVA14
    have HSQx14 := Lib.hid (Sl.set2 HSQx13.out (HFQx.out bb ⟨HMbb.out, HLTbb12.out⟩) (.int .i64 WC.owner) (.slice qx lx dx))
    rw [← hw14] at HSQx14
    have HB14 : Hid (Below w.heap.size w w14) := Lib.hid (by rw [hw14]; exact set2_below HB13.out (by have := HMbb.out; have := HMB.out; have := HLT.out; omega) _ _)
    have HMS14 : Hid (m ≤ w14.heap.size) := Lib.hid (by rw [hw14, size_set, size_set]; exact HMS13.out)
    rw [← hw14]
    clear hw14 HO13 kk kf kl HB13 HMS13 HVC13 HVM13 HKB13 HSQw13 HVA13 HSQx13
    obtain ⟨pab, nab, cab, hkab, -, hcab⟩ := HVA14.out.eo
    obtain ⟨pbb, nbb, cbb, hkbb, -, hcbb⟩ := HVB14.out.eo
    have eNb : nab = nbb := by rw [← hcab.len, ← hcbb.len]
    subst eNb
    have HQb := Lib.hid (same_any pab pbb nab cab cbb WC w14 hcab hcbb)
    have kab := hkab.c
    have kbb := hkbb.c
    have HKA14 := Lib.hid hkab
    have HKB14 := Lib.hid hkbb
    clear hkab hkbb hcab hcbb HVA14 HVB14
    have eE0 : (UF != UF) = false := by simp
    have eE1 : (UX != UX) = false := by simp
    go_upto_region 12 with fail
    go_wp2_with fail
    refine HQb.out.mono ?_
    rintro e w15 ⟨rfl, hb⟩
    clear HQb kab kbb
    have HMS15 : Hid (m ≤ w15.heap.size) := Lib.hid (Nat.le_trans HMS14.out hb.size)
    clear HMS14
    have HVC15 := Lib.hid (HVC14.out.below hb)
    have HVM15 := Lib.hid (HVM14.out.below hb)
    have HSQw15 := Lib.hid (HSQw14.out.below hb)
    have HSQx15 := Lib.hid (HSQx14.out.below hb)
    have HKA15 := Lib.hid (HKA14.out.below hb)
    have HKB15 := Lib.hid (HKB14.out.below hb)
    have HB15 : Hid (Below w.heap.size w w15) := Lib.hid (HB14.out.trans (Below.mono hb HB14.out.size))
    clear HVC14 HVM14 HSQw14 HSQx14 HKA14 HKB14 HB14
    clear hb
    have HQc := Lib.hid (ints_any tw tx ew ex WT w15 HSQw15.out HSQx15.out HWL.out)
    go_wp2_with fail
    refine HQc.out.mono ?_
    rintro e w16 ⟨rfl, hb⟩
    clear HQc HFQw HFQx HWL HSQw15 HSQx15
    have HMS16 : Hid (m ≤ w16.heap.size) := Lib.hid (Nat.le_trans HMS15.out hb.size)
    clear HMS15
    have HVC16 := Lib.hid (HVC15.out.below hb)
    have HVM16 := Lib.hid (HVM15.out.below hb)
    have HKA16 := Lib.hid (HKA15.out.below hb)
    have HKB16 := Lib.hid (HKB15.out.below hb)
    have HB16 : Hid (Below w.heap.size w w16) := Lib.hid (HB15.out.trans (Below.mono hb HB15.out.size))
    clear HVC15 HVM15 HKA15 HKB15 HB15
    clear hb
    go_upto_region 14 with fail
    clear eE0 eE1
    obtain ⟨BC, hBC⟩ : ∃ z, z = backC E a1 := ⟨_, rfl⟩
    have HEBC := Lib.hid hBC
    clear hBC
    obtain ⟨BX, hBX⟩ : ∃ z, z = backX E a1 := ⟨_, rfl⟩
    have HEBX := Lib.hid hBX
    clear hBX
    have HLTba16 : Hid (ba < w16.heap.size) := Lib.hid (by have := HKB16.out.lt; have := HORD.out; omega)
    have HLTbb16 : Hid (bb < w16.heap.size) := Lib.hid (by have := HKB16.out.lt; have := HORD.out; omega)
    obtain ⟨py, ny, cy, hky, hcoy, -⟩ := HVM16.out.eo
    have ky := hky.c
    have hqy := back_any (fun R => m ≤ R ∧ R < w16.heap.size) _ E a1 w16 (hcoy.weak (fun R hR => hR.1)) (fun R hR => hR.2)
    rw [← HEBC.out, ← HEBX.out] at hqy
    have HQy := Lib.hid hqy
    clear hqy hky hcoy
    go_upto_region 14 with fail
    go_wp2_with fail
    refine HQy.out.mono ?_
    rintro e w17 ⟨vy, rfl, ho, hb⟩
    clear HQy ky
    obtain ⟨qy, ly, dy, rfl, hcq, hof⟩ := ho
    have HO17 : Hid (Eo (fun R => m ≤ R ∧ R < w16.heap.size) w17 (.agg #[.int .i64 BC.owner, .slice qy ly dy]) BC) := Lib.hid ⟨_, _, _, rfl, hcq, fun R hR => hof R hR⟩
    clear hcq hof
    have HMS17 : Hid (m ≤ w17.heap.size) := Lib.hid (Nat.le_trans HMS16.out hb.size)
    clear HMS16
    have HVC17 := Lib.hid (HVC16.out.below hb)
    have HVM17 := Lib.hid (HVM16.out.below hb)
    have HKA17 := Lib.hid (HKA16.out.below hb)
    have HKB17 := Lib.hid (HKB16.out.below hb)
    have HB17 : Hid (Below w.heap.size w w17) := Lib.hid (HB16.out.trans (Below.mono hb HB16.out.size))
    clear HVC16 HVM16 HKA16 HKB16 HB16
    clear hb
    have kk := HKA17.out.c
    have kf := HKA17.out.f
    have kl := HKA17.out.lt
    go_upto_region 15 with fail
    obtain ⟨w18, hw18⟩ : ∃ z, z = ((w17.setCell ⟨ba, 0, none⟩ (.int .i64 BC.owner)).setCell ⟨ba, 1, none⟩ (.slice qy ly dy)) := ⟨_, rfl⟩
    have HVA18 : Hid (Var (fun R => m ≤ R ∧ R < w16.heap.size) w18 ba BC) := Lib.hid (by rw [hw18]; exact Var.put HKA17.out HO17.out ⟨HMba.out, HLTba16.out⟩)
    have HVC18 : Hid (Var (fun R => m ≤ R) w18 w.heap.size E) := Lib.hid (by rw [hw18]; exact HVC17.out.set2 HMba.out (by have := HMba.out; have := HMB.out; have := HLT.out; omega) _ _)
    have HVM18 : Hid (Var (fun R => m ≤ R) w18 bm E) := Lib.hid (by rw [hw18]; exact HVM17.out.set2 HMba.out (by have := HMba.out; have := HMB.out; have := HLT.out; omega) _ _)
    have HKB18 := Lib.hid (set2_other HKB17.out (R := ba) (by have := HORD.out; omega) (.int .i64 BC.owner) (.slice qy ly dy))
    rw [← hw18] at HKB18
    have HB18 : Hid (Below w.heap.size w w18) := Lib.hid (by rw [hw18]; exact set2_below HB17.out (by have := HMba.out; have := HMB.out; have := HLT.out; omega) _ _)
    have HMS18 : Hid (m ≤ w18.heap.size) := Lib.hid (by rw [hw18, size_set, size_set]; exact HMS17.out)
    rw [← hw18]
    clear hw18 HO17 kk kf kl HB17 HMS17 HVC17 HVM17 HKA17 HKB17
    have HLTba18 : Hid (ba < w18.heap.size) := Lib.hid (by have := HKB18.out.lt; have := HORD.out; omega)
    have HLTbb18 : Hid (bb < w18.heap.size) := Lib.hid (by have := HKB18.out.lt; have := HORD.out; omega)
    obtain ⟨pz, nz, cz, hkz, hcoz, -⟩ := HVC18.out.eo
    have kz := hkz.c
    have hqz := rback_any (fun R => m ≤ R ∧ R < w18.heap.size) _ E a1 w18 (hcoz.weak (fun R hR => hR.1))
    rw [← HEBC.out, ← HEBX.out] at hqz
    have HQz := Lib.hid hqz
    clear hqz hkz hcoz
    go_upto_region 15 with fail
    go_wp2_with fail
    refine HQz.out.mono ?_
    rintro e w19 ⟨vz, rfl, ho, hb⟩
    clear HQz kz
    obtain ⟨qz, lz, dz, rfl, hcq, hof⟩ := ho
    have HO19 : Hid (Eo (fun R => m ≤ R ∧ R < w18.heap.size) w19 (.agg #[.int .i64 BC.owner, .slice qz lz dz]) BC) := Lib.hid ⟨_, _, _, rfl, hcq, fun R hR => hof R hR⟩
    clear hcq hof
    have HMS19 : Hid (m ≤ w19.heap.size) := Lib.hid (Nat.le_trans HMS18.out hb.size)
    clear HMS18
    have HVC19 := Lib.hid (HVC18.out.below hb)
    have HVM19 := Lib.hid (HVM18.out.below hb)
    have HKB19 := Lib.hid (HKB18.out.below hb)
    have HVA19 := Lib.hid (HVA18.out.below hb)
    have HB19 : Hid (Below w.heap.size w w19) := Lib.hid (HB18.out.trans (Below.mono hb HB18.out.size))
    clear HVC18 HVM18 HKB18 HVA18 HB18
    clear hb
    have kk := HKB19.out.c
    have kf := HKB19.out.f
    have kl := HKB19.out.lt
    go_upto_region 16 with fail
    obtain ⟨w20, hw20⟩ : ∃ z, z = ((w19.setCell ⟨bb, 0, none⟩ (.int .i64 BC.owner)).setCell ⟨bb, 1, none⟩ (.slice qz lz dz)) := ⟨_, rfl⟩
    have HVB20 : Hid (Var (fun R => m ≤ R ∧ R < w18.heap.size) w20 bb BC) := Lib.hid (by rw [hw20]; exact Var.put HKB19.out HO19.out ⟨HMbb.out, HLTbb18.out⟩)
    have HVC20 : Hid (Var (fun R => m ≤ R) w20 w.heap.size E) := Lib.hid (by rw [hw20]; exact HVC19.out.set2 HMbb.out (by have := HMbb.out; have := HMB.out; have := HLT.out; omega) _ _)
    have HVM20 : Hid (Var (fun R => m ≤ R) w20 bm E) := Lib.hid (by rw [hw20]; exact HVM19.out.set2 HMbb.out (by have := HMbb.out; have := HMB.out; have := HLT.out; omega) _ _)
    have HVA20 := Lib.hid (Var.set2 HVA19.out (R := bb) ⟨HMbb.out, HLTbb16.out⟩ (by have := HORD.out; omega) (.int .i64 BC.owner) (.slice qz lz dz))
    rw [← hw20] at HVA20
    have HB20 : Hid (Below w.heap.size w w20) := Lib.hid (by rw [hw20]; exact set2_below HB19.out (by have := HMbb.out; have := HMB.out; have := HLT.out; omega) _ _)
    have HMS20 : Hid (m ≤ w20.heap.size) := Lib.hid (by rw [hw20, size_set, size_set]; exact HMS19.out)
    rw [← hw20]
    clear hw20 HO19 kk kf kl HB19 HMS19 HVC19 HVM19 HKB19 HVA19
    obtain ⟨NC, hNC⟩ : ∃ z, z = newC a2 := ⟨_, rfl⟩
    have HENC := Lib.hid hNC
    clear hNC
    obtain ⟨NX, hNX⟩ : ∃ z, z = newX a2 := ⟨_, rfl⟩
    have HENX := Lib.hid hNX
    clear hNX
    have hqi := new_any a2 w20
    rw [← HENC.out, ← HENX.out] at hqi
    have HQi := Lib.hid hqi
    clear hqi
    go_upto_region 16 with fail
    go_wp2_with fail
    refine HQi.out.mono ?_
    rintro e w21 ⟨vi, rfl, ho, hb⟩
    clear HQi
    obtain ⟨qi, li, di, rfl, hcq, hof⟩ := ho
    have HO21 : Hid (Eo (fun R => m ≤ R ∧ R < w20.heap.size) w21 (.agg #[.int .i64 NC.owner, .slice qi li di]) NC) := Lib.hid ⟨_, _, _, rfl, hcq, fun R hR => hof R hR.2⟩
    clear hcq hof
    have HMS21 : Hid (m ≤ w21.heap.size) := Lib.hid (Nat.le_trans HMS20.out hb.size)
    clear HMS20
    have HVC21 := Lib.hid (HVC20.out.below hb)
    have HVM21 := Lib.hid (HVM20.out.below hb)
    have HVA21 := Lib.hid (HVA20.out.below hb)
    have HVB21 := Lib.hid (HVB20.out.below hb)
    have HB21 : Hid (Below w.heap.size w w21) := Lib.hid (HB20.out.trans (Below.mono hb HB20.out.size))
    clear HVC20 HVM20 HVA20 HVB20 HB20
    clear hb
    go_upto_region 17 with fail
    obtain ⟨bc, hbc⟩ : ∃ z, z = w21.heap.size := ⟨_, rfl⟩
    obtain ⟨w22, hw22⟩ : ∃ z, z = w21.alloc (.cells #[.int .i64 NC.owner, .slice qi li di] 24) := ⟨_, rfl⟩
    have HN22 : Hid (Below w21.heap.size w21 w22) := Lib.hid (by rw [hw22]; exact (Below.refl _ _).alloc (Nat.le_refl _) _)
    have HVD22 : Hid (Var (fun R => m ≤ R ∧ R < w20.heap.size) w22 bc NC) := Lib.hid (by rw [hw22, hbc]; exact Var.new HO21.out)
    have HMbc : Hid (m ≤ bc) := Lib.hid (by rw [hbc]; exact HMS21.out)
    have Hbabc : Hid (ba < bc) := Lib.hid (by rw [hbc]; exact HVA21.out.lt2)
    have Hbbbc : Hid (bb < bc) := Lib.hid (by rw [hbc]; exact HVB21.out.lt2)
    rw [← hw22, ← hbc]
    clear hw22 hbc HO21
    have HVC22 := Lib.hid (HVC21.out.below HN22.out)
    have HVM22 := Lib.hid (HVM21.out.below HN22.out)
    have HVA22 := Lib.hid (HVA21.out.below HN22.out)
    have HVB22 := Lib.hid (HVB21.out.below HN22.out)
    have HB22 : Hid (Below w.heap.size w w22) := Lib.hid (HB21.out.trans (Below.mono HN22.out HB21.out.size))
    clear HVC21 HVM21 HVA21 HVB21 HB21
    have HMS22 : Hid (m ≤ w22.heap.size) := Lib.hid (Nat.le_trans HMS21.out HN22.out.size)
    clear HMS21 HN22
    have hqj := rnew_any a2 w22
    rw [← HENC.out, ← HENX.out] at hqj
    have HQj := Lib.hid hqj
    clear hqj
    go_upto_region 17 with fail
    go_wp2_with fail
    refine HQj.out.mono ?_
    rintro e w23 ⟨vj, rfl, ho, hb⟩
    clear HQj
    obtain ⟨qj, lj, dj, rfl, hcq, hof⟩ := ho
    have HO23 : Hid (Eo (fun R => m ≤ R ∧ R < w22.heap.size) w23 (.agg #[.int .i64 NC.owner, .slice qj lj dj]) NC) := Lib.hid ⟨_, _, _, rfl, hcq, fun R hR => hof R hR.2⟩
    clear hcq hof
    have HMS23 : Hid (m ≤ w23.heap.size) := Lib.hid (Nat.le_trans HMS22.out hb.size)
    clear HMS22
    have HVC23 := Lib.hid (HVC22.out.below hb)
    have HVM23 := Lib.hid (HVM22.out.below hb)
    have HVA23 := Lib.hid (HVA22.out.below hb)
    have HVB23 := Lib.hid (HVB22.out.below hb)
    have HVD23 := Lib.hid (HVD22.out.below hb)
    have HB23 : Hid (Below w.heap.size w w23) := Lib.hid (HB22.out.trans (Below.mono hb HB22.out.size))
    clear HVC22 HVM22 HVA22 HVB22 HVD22 HB22
    clear hb
    go_upto_region 18 with fail
    obtain ⟨bd, hbd⟩ : ∃ z, z = w23.heap.size := ⟨_, rfl⟩
    obtain ⟨w24, hw24⟩ : ∃ z, z = w23.alloc (.cells #[.int .i64 NC.owner, .slice qj lj dj] 24) := ⟨_, rfl⟩
    have HN24 : Hid (Below w23.heap.size w23 w24) := Lib.hid (by rw [hw24]; exact (Below.refl _ _).alloc (Nat.le_refl _) _)
    have HVE24 : Hid (Var (fun R => m ≤ R ∧ R < w22.heap.size) w24 bd NC) := Lib.hid (by rw [hw24, hbd]; exact Var.new HO23.out)
    have HMbd : Hid (m ≤ bd) := Lib.hid (by rw [hbd]; exact HMS23.out)
    have Hbabd : Hid (ba < bd) := Lib.hid (by rw [hbd]; exact HVA23.out.lt2)
    have Hbbbd : Hid (bb < bd) := Lib.hid (by rw [hbd]; exact HVB23.out.lt2)
    have Hbcbd : Hid (bc < bd) := Lib.hid (by rw [hbd]; exact HVD23.out.lt2)
    rw [← hw24, ← hbd]
    clear hw24 hbd HO23
    have HVC24 := Lib.hid (HVC23.out.below HN24.out)
    have HVM24 := Lib.hid (HVM23.out.below HN24.out)
    have HVA24 := Lib.hid (HVA23.out.below HN24.out)
    have HVB24 := Lib.hid (HVB23.out.below HN24.out)
    have HVD24 := Lib.hid (HVD23.out.below HN24.out)
    have HB24 : Hid (Below w.heap.size w w24) := Lib.hid (HB23.out.trans (Below.mono HN24.out HB23.out.size))
    clear HVC23 HVM23 HVA23 HVB23 HVD23 HB23
    have HMS24 : Hid (m ≤ w24.heap.size) := Lib.hid (Nat.le_trans HMS23.out HN24.out.size)
    clear HMS23 HN24
    obtain ⟨al, hal⟩ : ∃ z, z = aloneE E := ⟨_, rfl⟩
    have HALO := Lib.hid hal
    clear hal
    obtain ⟨pt, nt, ct, hkt, hcot, hct⟩ := HVC24.out.eo
    have HKT := Lib.hid hkt
    have ent : n = nt := by rw [← HLN.out.1, hct.len]
    subst ent
    have HRM := Lib.hid (fun W (hW : Below w24.heap.size w24 W) => rmay_any (fun R => m ≤ R) _ E (n : Int) W (hcot.below hW))
    have HRO := Lib.hid (fun W (hW : Below w24.heap.size w24 W) => rothers_any pt n ct E (-1) W (hct.below hW))
    clear hkt hcot hct
    have HAE : Hid (al = (mayE E (n : Int) && (decide (0 < E.owner) && decide ((othE E (-1)).length = 0)))) := Lib.hid (by
      rw [HALO.out]
      unfold aloneE othE
      rw [contains_oth, Bool.not_not, HLN.out.1])
    obtain ⟨mb, hmb⟩ : ∃ z, z = mayE E (n : Int) := ⟨_, rfl⟩
    rw [← hmb] at HRM HAE
    obtain ⟨om, hom⟩ : ∃ z, z = (othE E (-1)).length := ⟨_, rfl⟩
    rw [← hom] at HRO HAE
    obtain ⟨O, hO⟩ : ∃ z, z = E.owner := ⟨_, rfl⟩
    rw [← hO] at HRM HRO HAE HKT
    have HOE := Lib.hid hO
    clear hmb hom hO
    go_upto_region 18 with fail
    go_cut [20] (fun s20 wd => s20 = .bool al ∧ Below w24.heap.size w24 wd)
    case first =>
      have kt := HKT.out.c
      have hq := HRM.out w24 (Below.refl _ _)
      cases mb with
      | false =>
        have e : al = false := HAE.out
        subst e
        clear HALO
        go_wp2_with fail
        refine hq.mono ?_
        rintro e w25 ⟨rfl, hb⟩
        have HB25 := Lib.hid hb
        clear hb hq kt
        go_wp2_with fail
        go_meet
        case rel => exact ⟨rfl, HB25.out⟩
      | true =>
        by_cases h0 : 0 < O
        · have d0 : decide (0 < O) = true := decide_eq_true h0
          have e : al = decide (om = 0) := by rw [HAE.out, d0]; rfl
          have em : ((om : Int) == 0) = al := by
            rw [e]
            by_cases h : om = 0
            · subst h; rfl
            · rw [decide_eq_false h]; simp; exact h
          clear h0 HAE e
          go_wp2_with fail
          refine hq.mono ?_
          rintro e w25 ⟨rfl, hb⟩
          have HB25 := Lib.hid hb
          have HK25 := Lib.hid (HKT.out.below hb)
          clear hb hq kt
          have kt := HK25.out.c
          have hq := HRO.out w25 HB25.out
          go_wp2_with fail
          refine hq.mono ?_
          rintro e w26 ⟨q, d, rfl, -, hb⟩
          have HB26 : Hid (Below w24.heap.size w24 w26) := Lib.hid (HB25.out.trans (hb.mono HB25.out.size))
          clear hb hq kt
          go_wp2_with fail
          go_meet
          case rel => exact ⟨rfl, HB26.out⟩
        · have d0 : decide (0 < O) = false := decide_eq_false h0
          have e : al = false := by rw [HAE.out, d0]; rfl
          subst e
          clear h0 HAE HALO
          go_wp2_with fail
          refine hq.mono ?_
          rintro e w25 ⟨rfl, hb⟩
          have HB25 := Lib.hid hb
          have HK25 := Lib.hid (HKT.out.below hb)
          clear hb hq kt
          have kt := HK25.out.c
          go_wp2_with fail
          go_meet
          case rel => exact ⟨rfl, HB25.out⟩
    case rest =>
      obtain ⟨rfl, hb⟩ := hcut
      obtain ⟨w25, hw25⟩ : ∃ z, z = wc := ⟨_, rfl⟩
      rw [← hw25] at hb ⊢
      clear hw25 HRM HRO HKT HAE
      have HMS25 : Hid (m ≤ w25.heap.size) := Lib.hid (Nat.le_trans HMS24.out hb.size)
      clear HMS24
      have HVC25 := Lib.hid (HVC24.out.below hb)
      have HVM25 := Lib.hid (HVM24.out.below hb)
      have HVA25 := Lib.hid (HVA24.out.below hb)
      have HVB25 := Lib.hid (HVB24.out.below hb)
      have HVD25 := Lib.hid (HVD24.out.below hb)
      have HVE25 := Lib.hid (HVE24.out.below hb)
      have HB25 : Hid (Below w.heap.size w w25) := Lib.hid (HB24.out.trans (Below.mono hb HB24.out.size))
      clear HVC24 HVM24 HVA24 HVB24 HVD24 HVE24 HB24
      clear hb
      obtain ⟨pA, nA, cA, hkA, hcoA, hcA⟩ := HVA25.out.eo
      have HKA := Lib.hid hkA
      obtain ⟨pB, nB, cB, hkB, hcoB, hcB⟩ := HVB25.out.eo
      have HKB := Lib.hid hkB
      obtain ⟨pD, nD, cD, hkD, hcoD, hcD⟩ := HVD25.out.eo
      have HKD := Lib.hid hkD
      obtain ⟨pE, nE, cE, hkE, hcoE, hcE⟩ := HVE25.out.eo
      have HKE := Lib.hid hkE
      obtain ⟨pM, nM, cM, hkM, hcoM, hcM⟩ := HVM25.out.eo
      have HKM := Lib.hid hkM
      obtain ⟨pC, nC, cC, hkC, hcoC, hcC⟩ := HVC25.out.eo
      have HKC := Lib.hid hkC
      have eAB : nA = nB := by rw [← hcA.len, ← hcB.len]
      subst eAB
      have eDE : nD = nE := by rw [← hcD.len, ← hcE.len]
      subst eDE
      have eMC : nM = nC := by rw [← hcM.len, ← hcC.len]
      subst eMC
      have HSA := Lib.hid (fun W (hW : Below w25.heap.size w25 W) => same_any pA pB nA cA cB BC W (hcA.below hW) (hcB.below hW))
      have HSD := Lib.hid (fun W (hW : Below w25.heap.size w25 W) => same_any pD pE nD cD cE NC W (hcD.below hW) (hcE.below hW))
      have HSM := Lib.hid (fun W (hW : Below w25.heap.size w25 W) => same_any pM pC nM cM cC E W (hcM.below hW) (hcC.below hW))
      have HMM := Lib.hid (fun W (hW : Below w25.heap.size w25 W) => may_any _ _ E a2 W (hcoM.below hW))
      have HMC := Lib.hid (fun W (hW : Below w25.heap.size w25 W) => rmay_any _ _ E a2 W (hcoC.below hW))
      have HAL := Lib.hid (fun W (hW : Below w25.heap.size w25 W) => alone_any _ _ E W (hcoM.below hW))
      obtain ⟨r, hr⟩ : ∃ z, z = mayE E a2 := ⟨_, rfl⟩
      rw [← hr] at HMM HMC
      rw [← HALO.out] at HAL
      clear hr hkA hkB hkD hkE hkM hkC hcoA hcoB hcoD hcoE hcoM hcoC hcA hcB hcD hcE hcM hcC
      have eE : (BX == BX) = true := by simp
      have eN : (NX == NX) = true := by simp
      have eR : (r == r) = true := by cases r <;> rfl
      have eL : (al == al) = true := by cases al <;> rfl
      clear HVA25 HVB25 HVD25 HVE25 HVM25 HVC25
      have HS : Hid (∀ W, Below w25.heap.size w25 W → (∀ t, W.cell? ⟨ba, t, none⟩ = (#[.int .i64 BC.owner, .slice pA nA cA] : Array Value)[t]?) ∧ (∀ t, W.cell? ⟨bb, t, none⟩ = (#[.int .i64 BC.owner, .slice pB nA cB] : Array Value)[t]?) ∧ (∀ t, W.cell? ⟨bc, t, none⟩ = (#[.int .i64 NC.owner, .slice pD nD cD] : Array Value)[t]?) ∧ (∀ t, W.cell? ⟨bd, t, none⟩ = (#[.int .i64 NC.owner, .slice pE nD cE] : Array Value)[t]?) ∧ (∀ t, W.cell? ⟨bm, t, none⟩ = (#[.int .i64 E.owner, .slice pM nM cM] : Array Value)[t]?) ∧ (∀ t, W.cell? ⟨w.heap.size, t, none⟩ = (#[.int .i64 E.owner, .slice pC nM cC] : Array Value)[t]?)) := Lib.hid (fun W hW => ⟨(HKA.out.below hW).c, (HKB.out.below hW).c, (HKD.out.below hW).c, (HKE.out.below hW).c, (HKM.out.below hW).c, (HKC.out.below hW).c⟩)
      go_upto_region 19 with fail
      refine region_plan (fun W : World => (∀ t, W.cell? ⟨ba, t, none⟩ = (#[.int .i64 BC.owner, .slice pA nA cA] : Array Value)[t]?) ∧ (∀ t, W.cell? ⟨bb, t, none⟩ = (#[.int .i64 BC.owner, .slice pB nA cB] : Array Value)[t]?) ∧ (∀ t, W.cell? ⟨bc, t, none⟩ = (#[.int .i64 NC.owner, .slice pD nD cD] : Array Value)[t]?) ∧ (∀ t, W.cell? ⟨bd, t, none⟩ = (#[.int .i64 NC.owner, .slice pE nD cE] : Array Value)[t]?) ∧ (∀ t, W.cell? ⟨bm, t, none⟩ = (#[.int .i64 E.owner, .slice pM nM cM] : Array Value)[t]?) ∧ (∀ t, W.cell? ⟨w.heap.size, t, none⟩ = (#[.int .i64 E.owner, .slice pC nM cC] : Array Value)[t]?)) 36 [(0, true), (1, true), (2, false), (3, true), (4, true), (5, true), (6, true), (7, true), (8, true), (9, true), (10, true), (11, false), (12, true), (13, true), (14, true), (15, true), (16, true), (17, true), (18, true), (19, true), (20, true), (22, true), (23, true), (21, false), (24, false), (25, true), (26, true), (27, true), (28, true), (30, true), (29, false), (31, true), (32, true), (33, true), (34, true), (35, true)] (by kernel_rfl) (by kernel_rfl) (HS.out _ (Below.refl _ _).drew) ?_
      iterate 2
        refine plan_read (v := ?_) rfl (by rfl) ?_ ?_
        rotate_left
        · intro w' hS
          try dsimp only at hS
          obtain ⟨hS1, hS2, hS3, hS4, hS5, hS6⟩ := hS
          go_simp
          try with_reducible rfl
        try simp only [Act.put, List.setIfInBounds_toArray, List.set_cons_zero, List.set_cons_succ, List.getElem_toArray, List.getElem_cons_zero, List.getElem_cons_succ, eE, eN, eR, eL]
      refine plan_call (F := 9) (args := ?_) rfl (by rfl) ?_ ?_
      rotate_left
      · go_simp
        rfl
      refine (HSA.out w25.drew (Below.refl _ _).drew).mono ?_
      rintro e y1 ⟨rfl, hb⟩
      have HN1 : Hid (Below w25.heap.size w25 y1) := Lib.hid ((Below.refl _ _).drew.trans hb)
      clear hb
      refine ⟨_, rfl, HS.out _ HN1.out, ?_⟩
      try simp only [Act.put, List.setIfInBounds_toArray, List.set_cons_zero, List.set_cons_succ, List.getElem_toArray, List.getElem_cons_zero, List.getElem_cons_succ]
      iterate 8
        refine plan_read (v := ?_) rfl (by rfl) ?_ ?_
        rotate_left
        · intro w' hS
          try dsimp only at hS
          obtain ⟨hS1, hS2, hS3, hS4, hS5, hS6⟩ := hS
          go_simp
          try with_reducible rfl
        try simp only [Act.put, List.setIfInBounds_toArray, List.set_cons_zero, List.set_cons_succ, List.getElem_toArray, List.getElem_cons_zero, List.getElem_cons_succ, eE, eN, eR, eL]
      refine plan_call (F := 9) (args := ?_) rfl (by rfl) ?_ ?_
      rotate_left
      · go_simp
        rfl
      refine (HSD.out y1 HN1.out).mono ?_
      rintro e y2 ⟨rfl, hb⟩
      have HN2 : Hid (Below w25.heap.size w25 y2) := Lib.hid (HN1.out.trans (hb.mono HN1.out.size))
      clear hb
      refine ⟨_, rfl, HS.out _ HN2.out, ?_⟩
      try simp only [Act.put, List.setIfInBounds_toArray, List.set_cons_zero, List.set_cons_succ, List.getElem_toArray, List.getElem_cons_zero, List.getElem_cons_succ]
      iterate 11
        refine plan_read (v := ?_) rfl (by rfl) ?_ ?_
        rotate_left
        · intro w' hS
          try dsimp only at hS
          obtain ⟨hS1, hS2, hS3, hS4, hS5, hS6⟩ := hS
          go_simp
          try with_reducible rfl
        try simp only [Act.put, List.setIfInBounds_toArray, List.set_cons_zero, List.set_cons_succ, List.getElem_toArray, List.getElem_cons_zero, List.getElem_cons_succ, eE, eN, eR, eL]
      refine plan_call (F := 19) (args := ?_) rfl (by rfl) ?_ ?_
      rotate_left
      · go_simp
        rfl
      refine (HMM.out y2 HN2.out).mono ?_
      rintro e y3 ⟨rfl, hb⟩
      have HN3 : Hid (Below w25.heap.size w25 y3) := Lib.hid (HN2.out.trans (hb.mono HN2.out.size))
      clear hb
      refine ⟨_, rfl, HS.out _ HN3.out, ?_⟩
      try simp only [Act.put, List.setIfInBounds_toArray, List.set_cons_zero, List.set_cons_succ, List.getElem_toArray, List.getElem_cons_zero, List.getElem_cons_succ]
      refine plan_call (F := 17) (args := ?_) rfl (by rfl) ?_ ?_
      rotate_left
      · go_simp
        rfl
      refine (HMC.out y3 HN3.out).mono ?_
      rintro e y4 ⟨rfl, hb⟩
      have HN4 : Hid (Below w25.heap.size w25 y4) := Lib.hid (HN3.out.trans (hb.mono HN3.out.size))
      clear hb
      refine ⟨_, rfl, HS.out _ HN4.out, ?_⟩
      try simp only [Act.put, List.setIfInBounds_toArray, List.set_cons_zero, List.set_cons_succ, List.getElem_toArray, List.getElem_cons_zero, List.getElem_cons_succ]
      iterate 5
        refine plan_read (v := ?_) rfl (by rfl) ?_ ?_
        rotate_left
        · intro w' hS
          try dsimp only at hS
          obtain ⟨hS1, hS2, hS3, hS4, hS5, hS6⟩ := hS
          go_simp
          try with_reducible rfl
        try simp only [Act.put, List.setIfInBounds_toArray, List.set_cons_zero, List.set_cons_succ, List.getElem_toArray, List.getElem_cons_zero, List.getElem_cons_succ, eE, eN, eR, eL]
      refine plan_call (F := 20) (args := ?_) rfl (by rfl) ?_ ?_
      rotate_left
      · go_simp
        rfl
      refine (HAL.out y4 HN4.out).mono ?_
      rintro e y5 ⟨rfl, hb⟩
      have HN5 : Hid (Below w25.heap.size w25 y5) := Lib.hid (HN4.out.trans (hb.mono HN4.out.size))
      clear hb
      refine ⟨_, rfl, HS.out _ HN5.out, ?_⟩
      try simp only [Act.put, List.setIfInBounds_toArray, List.set_cons_zero, List.set_cons_succ, List.getElem_toArray, List.getElem_cons_zero, List.getElem_cons_succ]
      iterate 5
        refine plan_read (v := ?_) rfl (by rfl) ?_ ?_
        rotate_left
        · intro w' hS
          try dsimp only at hS
          obtain ⟨hS1, hS2, hS3, hS4, hS5, hS6⟩ := hS
          go_simp
          try with_reducible rfl
        try simp only [Act.put, List.setIfInBounds_toArray, List.set_cons_zero, List.set_cons_succ, List.getElem_toArray, List.getElem_cons_zero, List.getElem_cons_succ, eE, eN, eR, eL]
      refine plan_nil ?_
      simp only [List.drop_succ_cons, List.drop_zero]
      have hq := HSM.out y5 HN5.out
      go_wp2_with fail
      refine hq.mono ?_
      rintro e y6 ⟨rfl, hb⟩
      have HB26 : Hid (Below w.heap.size w y6) := Lib.hid (HB25.out.trans ((HN5.out.trans (hb.mono HN5.out.size)).mono HB25.out.size))
      clear hb hq
      go_wp2_with fail
      go_ret
      exact ⟨rfl, HB26.out⟩
end Go.Proofs.Ythkpoiaakggimaa
