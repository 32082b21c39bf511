/- What Rebuild answers; no condition but that the banks read. -/
import Derived.Test.YtkeemmedbbammaaParJ
namespace Go.Proofs.Ytkeemmedbbammaa
set_option linter.unusedVariables false
open Go.ChangeShapes Go.WideShapes Go.ChangeAt Go.RowKit

theorem getD_nil {α : Type} (L : List α) (d : α) (k : Nat) (h : L.length ≤ k) : L.getD k d = d := by
  rw [List.getD_eq_getElem?_getD, List.getElem?_eq_none h]; rfl
/-- Another row in memory of one's own takes the place j. -/
theorem OwnB.putRow {base s : Nat} {w : World} {p : Option Addr} {n c : Nat} {ys : List Value} {pp : Option Addr} {m cc : Nat} {B : Bk} (h : OwnB base w p n c ys pp m cc B) (hu : Under s p n c ys pp m cc) {j g : Nat} {r : Value} {l' : List Nat} (hj : j < n) (hp : p = some ⟨g, 0, none⟩) (hs : base ≤ s)
    (hr : w.ownsRow s 26 1 r l'.length (u32C l')) (hx : l'.length ≤ 100) (hlt : ∀ y ∈ l', y < 4294967296) : OwnB base (w.setCell ⟨g, j, none⟩ r) p n c (ys.set j r) pp m cc ⟨B.rows.set j l', B.par, B.lost⟩ := by
  subst hp
  have hjl : j < B.rows.length := by rw [h.zn]; exact hj
  have hys : ys.length = n := by rw [h.own.row.1, Nat.mul_one, h.zn]
  have hrow := h.own.row
  rw [h.zn] at hrow
  have hst := hrow.stored j r
  have hgg := hu.head g rfl
  have hrn : ∀ b, r.ownBlock = some b → s ≤ b := fun b e => (hr.lt b e).1
  have hD : ∀ i, (B.rows.set j l').getD i [] = if i = j then l' else B.rows.getD i [] := fun i => getD_set B.rows [] l' j i hjl
  have hY : ∀ i, (ys.set j r).getD i vz = if i = j then r else ys.getD i vz := fun i => getD_set ys vz r j i (by omega)
  refine ⟨by rw [List.length_set]; exact h.zn, ⟨?_, fun i hi => ?_, fun i hi => ?_, fun i i' hi hi' hne => ?_, fun _ _ => rfl⟩, h.zm, ?_, h.plt, ?_, h.n100, ?_, h.m100, h.sep1, fun k hk b e => ?_⟩
  · rw [List.length_set, h.zn]; exact hst.1
  · rw [List.length_set] at hi
    rw [hD, hY]
    by_cases e : i = j
    · rw [if_pos e, if_pos e]
      exact (own_base hr hs).kept hst.2 (ne_block (fun b eb => by have := hrn b eb; omega))
    · rw [if_neg e, if_neg e]
      exact (h.own.fr i hi).kept hst.2 (ne_block (fun b eb e2 => h.own.sep i hi b eb (by subst e2; rfl)))
  · rw [List.length_set] at hi
    rw [hY]
    by_cases e : i = j
    · rw [if_pos e]
      intro b eb e2
      have := hrn b eb
      have := hu.head b e2
      omega
    · rw [if_neg e]; exact h.own.sep i hi
  · rw [List.length_set] at hi hi'
    rw [hY, hY]
    by_cases e : i = j
    · rw [if_pos e, if_neg (fun e2 => hne (e.trans e2.symm))]
      intro b eb e2
      have := hrn b eb
      have := hu.rows i' (by rw [← h.zn]; exact hi') b e2
      omega
    · rw [if_neg e]
      by_cases e' : i' = j
      · rw [if_pos e']
        intro b eb e2
        have := hrn b e2
        have := hu.rows i (by rw [← h.zn]; exact hi) b eb
        omega
      · rw [if_neg e']
        exact h.own.two i i' hi hi' hne
  · exact h.par.kept hst.2 (ne_block (fun b eb e2 => h.sep1 b eb (by subst e2; rfl)))
  · intro l hl2
    rcases List.mem_or_eq_of_mem_set hl2 with h1 | h1
    · exact h.rlt l h1
    · rw [h1]; exact hlt
  · intro l hl2
    rcases List.mem_or_eq_of_mem_set hl2 with h1 | h1
    · exact h.l100 l h1
    · rw [h1]; exact hx
  · rw [hY]
    by_cases ek : k = j
    · rw [if_pos ek]
      intro e2
      have := hrn b e2
      have := hu.par b e
      omega
    · rw [if_neg ek]; exact h.sep2 k hk b e
/-- Par and what all rows are together, together. -/
theorem tog_two (P R : List Nat) (m : Nat) (h : R.length = m) (h2 : P.length = m) : togL [P, R] m = (List.range m).map fun a => P.getD a 0 ^^^ R.getD a 0 := by
  unfold togL
  refine List.map_congr_left fun a ha => ?_
  have ha' : a < m := List.mem_range.1 ha
  unfold colX colK
  show (if ((1 : Nat) : Int) = -1 then _ else colK [P, R] a (-1) 1 ^^^ _) = _
  rw [if_neg (by decide)]
  show colK [P, R] a (-1) 1 ^^^ R.getD a 0 = _
  unfold colK
  rw [if_neg (by decide)]
  show (0 ^^^ P.getD a 0) ^^^ R.getD a 0 = _
  rw [Nat.zero_xor]
theorem back_tog (B : Bk) : togL [B.par, togL B.rows B.par.length] B.par.length = backL B := by
  rw [tog_two _ _ _ (togL_len _ _) rfl]
  unfold backL
  refine List.map_congr_left fun a ha => ?_
  rw [togL_at _ _ _ (List.mem_range.1 ha)]
theorem back_len (B : Bk) : (backL B).length = B.par.length := by unfold backL; simp

set_option maxHeartbeats 4000000 in
theorem rebuild_any (p : Option Addr) (n c : Nat) (xs : List Value) (pp : Option Addr) (m cc : Nat) (B : Bk) (w : World) (h : Bn w p n c xs pp m cc B) :
    Calls Try.prog 15 #[.agg #[.slice p n c, .slice pp m cc, .int .i64 B.lost]] w fun e w' => Back w w' e n m (rebuildB B) (rebuildE B) := by
  have hcp := fun w' hb => copied_any p n c xs pp m cc B w' (h.below hb)
  obtain ⟨z, hz⟩ : ∃ z, z = B.lost := ⟨_, rfl⟩
  obtain ⟨r, hr⟩ : ∃ r, r = rightB B := ⟨_, rfl⟩
  rw [← hz] at hcp ⊢
  have HCP := Lib.hid hcp
  have HZ := Lib.hid hz
  have HR := Lib.hid hr
  have HH := Lib.hid h
  obtain ⟨B', hB'⟩ : ∃ B', B' = rebuildB B := ⟨_, rfl⟩
  obtain ⟨E, hE⟩ : ∃ E, E = rebuildE B := ⟨_, rfl⟩
  rw [← hB', ← hE]
  have HB' := Lib.hid hB'
  have HE := Lib.hid hE
  clear h hcp hz hr hB' hE
  go_enter Try.func15, Try.ntmps15
  go_wp2_with fail
  have HBA : Hid (Below w.heap.size w ((w.alloc (.cells #[.slice p n c, .slice pp m cc, .int .i64 z] 25)).alloc (.cells #[.slice none 0 0, .slice none 0 0, .int .i64 0] 25))) := Lib.hid (((Below.refl _ _).alloc (Nat.le_refl _) _).alloc (by simp) _)
  refine (HCP.out _ HBA.out).mono ?_
  rintro e w1 ⟨q, d, ys, qq, dd, rfl, ho, hb1⟩
  have HB1 : Hid (Below w.heap.size w w1) := Lib.hid (HBA.out.trans (hb1.mono HBA.out.size))
  have HRES : Hid (Blk w1 (w.heap.size + 1) #[.slice none 0 0, .slice none 0 0, .int .i64 0]) := Lib.hid (by simpa using Blk.track1 hb1)
  have HO : Hid (OwnB (w.heap.size + 2) w1 q n d ys qq m dd B) := Lib.hid (by simpa using ho)
  clear hb1 ho HBA HCP
  go_wp2_with fail
  have HKO : Hid (Blk (w1.alloc (.cells #[.slice q n d, .slice qq m dd, .int .i64 z] 25)) w1.heap.size #[.slice q n d, .slice qq m dd, .int .i64 z]) := Lib.hid (Blk.new _ _ _)
  have HOA := Lib.hid (HO.out.below ((Below.refl _ _).alloc (Nat.le_refl _) (.cells #[.slice q n d, .slice qq m dd, .int .i64 z] 25)))
  have HRA := Lib.hid (HRES.out.alloc (.cells #[.slice q n d, .slice qq m dd, .int .i64 z] 25))
  have HBA : Hid (Below w.heap.size w (w1.alloc (.cells #[.slice q n d, .slice qq m dd, .int .i64 z] 25))) := Lib.hid (HB1.out.alloc HB1.out.size _)
  have HNE : Hid (w.heap.size + 2 ≤ w1.heap.size) := Lib.hid (by have := HRES.out.lt; omega)
  have HUN : Hid (Under w1.heap.size q n d ys qq m dd) := Lib.hid HO.out.under
  have HOL : Hid (∀ j, j < n → ∀ g, (ys.getD j vz).ownBlock = some g → g < w1.heap.size) := Lib.hid (fun j hj g e => ((HO.out.own.fr j (by rw [HO.out.zn]; exact hj)).lt g e).2)
  obtain ⟨O, hO⟩ : ∃ O, O = w1.heap.size := ⟨_, rfl⟩
  obtain ⟨w2, hw2⟩ : ∃ w2, w2 = w1.alloc (.cells #[.slice q n d, .slice qq m dd, .int .i64 z] 25) := ⟨_, rfl⟩
  rw [← hw2] at HKO HOA HRA HBA ⊢
  rw [← hO] at HKO HNE HOL HUN ⊢
  clear hO hw2 HO HRES HB1
  have hhw := right_any q n d ys qq m dd B w2 HOA.out.bn
  rw [← HR.out, ← HZ.out] at hhw
  refine hhw.mono ?_
  clear hhw
  rintro e w3 ⟨rfl, hb3⟩
  have HK3 := Lib.hid (HKO.out.below hb3)
  have HO3 := Lib.hid (HOA.out.below hb3)
  have HR3 := Lib.hid (HRA.out.below hb3)
  have HB3 : Hid (Below w.heap.size w w3) := Lib.hid (HBA.out.trans (hb3.mono HBA.out.size))
  clear hb3 HKO HOA HRA HBA
  have cK := HK3.out.c
  have cR := HR3.out.c
  have fR := HR3.out.f
  have lR := HR3.out.lt
  cases r with
  | false =>
    have hB : B' = B := by rw [HB'.out]; unfold rebuildB; rw [← HR.out]; rfl
    have hE : E = 1 := by rw [HE.out]; unfold rebuildE; rw [← HR.out]; rfl
    subst hB hE
    go_wp2_with fail
    refine bodyPost_ret (v := .tuple #[.agg #[.slice q n d, .slice qq m dd, .int .i64 z], .int .i64 1]) (by simp [results, Try.results15, go_sem, *]) rfl ⟨q, d, ys, qq, dd, by rw [HZ.out], res3_own HO3.out _ _ _, res3_below HB3.out _ _ _⟩
  | true =>
    by_cases hz0 : z = 0
    · have hz0' : (z == 0) = true := by simpa using hz0
      have hB : B' = B := by rw [HB'.out]; unfold rebuildB; rw [← HR.out, if_pos rfl, if_pos (by rw [← HZ.out]; exact hz0)]
      have hE : E = 8 := by rw [HE.out]; unfold rebuildE; rw [← HR.out, if_pos rfl, if_pos (by rw [← HZ.out]; exact hz0)]
      subst hB hE
      clear hz0
      go_wp2_with fail
      refine bodyPost_ret (v := .tuple #[.agg #[.slice q n d, .slice qq m dd, .int .i64 z], .int .i64 8]) (by simp [results, Try.results15, go_sem, *]) rfl ⟨q, d, ys, qq, dd, by rw [HZ.out], res3_own HO3.out _ _ _, res3_below HB3.out _ _ _⟩
    · have hri := right_inv HR.out.symm
      rw [HH.out.zn, HH.out.zm, ← HZ.out] at hri
      obtain ⟨k, hk⟩ : ∃ k : Nat, z = (k : Int) + 1 := ⟨(z - 1).toNat, by omega⟩
      subst hk
      have hkn : k < n := by omega
      have hall := hri.2.2.2.2.1
      have hm1 : 1 ≤ m := hri.2.2.1
      have hB : B' = ⟨B.rows.set k (backL B), B.par, 0⟩ := by
        rw [HB'.out]; unfold rebuildB
        rw [← HR.out, if_pos rfl, if_neg (by rw [← HZ.out]; omega), ← HZ.out]
        congr 2
        omega
      have hE : E = 0 := by rw [HE.out]; unfold rebuildE; rw [← HR.out, if_pos rfl, if_neg (by rw [← HZ.out]; omega)]
      subst hE
      have hm := HH.out.m100
      have hn := HH.out.n100
      have hz0' : ((k : Int) + 1 == 0) = false := by simp; omega
      have e4 : (k : Int) + 1 - 1 = (k : Int) := by omega
      have wk : IntKind.i64.wrap (k : Int) = (k : Int) := by rw [IntKind.wrap_i64]; omega
      have hkI : (0 : Int) ≤ (k : Int) := by omega
      have hkI2 : (k : Int) < (n : Int) := by omega
      have HBP := Lib.hid hB
      have HALL := Lib.hid hall
      have hlk : (B.rows.getD k []).length = m := all_at hall k (by rw [HH.out.zn]; exact hkn)
      have HLK := Lib.hid hlk
      obtain ⟨g, gr, cr, rfl, hyj, hg0, hg1, _, _, _, hnd, _⟩ := HO3.out.rowAt hkn (by rw [hlk]; omega)
      have HG0 := Lib.hid hg0
      have HGO : Hid (g < O) := Lib.hid (HUN.out.head g rfl)
      clear hri hall hB hz0 hyj hg0 hg1 hlk
      go_upto_region 6 with fail
      go_wp2_with fail
      refine (together_any (some ⟨g, 0, none⟩) n d m ys B.rows w3 HO3.out.zn HO3.out.bn.rw_ hm HALL.out).mono ?_
      rintro e w4 ⟨go, rfl, hwd, hb4⟩
      have HBB : Hid (Below w3.heap.size w3 w4) := Lib.hid hb4
      have HK4 := Lib.hid (HK3.out.below hb4)
      have HO4 := Lib.hid (HO3.out.below hb4)
      have HR4 := Lib.hid (HR3.out.below hb4)
      have HB4 : Hid (Below w.heap.size w w4) := Lib.hid (HB3.out.trans (hb4.mono HB3.out.size))
      have HWD := Lib.hid hwd
      clear hb4 hwd HK3 HO3 HR3 HB3 cK cR fR lR
      go_upto_region 7 with fail
      have HNE4 : Hid (O < w4.heap.size) := Lib.hid HK4.out.lt
      obtain ⟨w5, hw5⟩ : ∃ w5, w5 = w4.drew.alloc (.cells #[.slice qq m dd, .slice (some ⟨go, 0, none⟩) m m] 23) := ⟨_, rfl⟩
      have HB5 : Hid (Below w4.heap.size w4 w5) := Lib.hid (by rw [hw5]; exact (Below.refl _ _).drew.alloc (Nat.le_refl _) _)
      have HN5 : Hid (Blk w5 w4.heap.size #[.slice qq m dd, .slice (some ⟨go, 0, none⟩) m m]) := Lib.hid (by rw [hw5]; exact Blk.new w4.drew _ _)
      have HP5 := Lib.hid ((HO4.out.below HB5.out).bn)
      have HW5 := Lib.hid (HWD.out.below HB5.out)
      have HRW5 : Hid (Rw w5 (some ⟨w4.heap.size, 0, none⟩) [.slice qq m dd, .slice (some ⟨go, 0, none⟩) m m] [B.par, togL B.rows m]) := Lib.hid ⟨rfl, fun _ => ⟨_, 0, HN5.out.lt, rfl, fun j hj => by rw [Nat.zero_add, HN5.out.c]; simp⟩, fun j hj => by
        have : j = 0 ∨ j = 1 := by simp at hj; omega
        rcases this with rfl | rfl
        · exact ⟨qq, dd, by show Value.slice qq m dd = .slice qq B.par.length dd; rw [HH.out.zm], by show B.par.length ≤ dd; rw [HH.out.zm]; exact HP5.out.cm, HP5.out.nm⟩
        · exact ⟨some ⟨go, 0, none⟩, m, by show Value.slice _ m m = .slice _ (togL B.rows m).length m; rw [togL_len], by show (togL B.rows m).length ≤ m; rw [togL_len]; exact Nat.le_refl _, HW5.out.nm⟩, by simp, fun l hl => by
        rcases List.mem_cons.1 hl with rfl | hl
        · rw [HH.out.zm]; exact hm
        · rw [List.mem_singleton.1 hl, togL_len]; exact hm⟩
      have HALL5 : Hid (allB [B.par, togL B.rows m] m = true) := Lib.hid (by unfold allB; simp [HH.out.zm, togL_len])
      refine region_plan (fun w' : World => (∀ j, w'.cell? ⟨O, j, none⟩ = (#[.slice (some ⟨g, 0, none⟩) n d, .slice qq m dd, .int .i64 ((k : Int) + 1)] : Array Value)[j]?) ∧ Below w4.heap.size w4 w') 14 [(0, true), (1, true), (2, true), (3, true), (4, true), (5, true), (6, true), (7, true), (9, true), (10, true), (11, true), (8, false), (12, false), (13, true)] (by kernel_rfl) (by kernel_rfl) (sOf HK4 ((Below.refl _ _).drew)) ?_
      iterate 11
        refine plan_read (v := ?_) rfl (by rfl) ?_ ?_
        rotate_left
        · intro w' hS
          try dsimp only at hS
          go_simp
          try with_reducible rfl
        try simp only [Act.put, List.setIfInBounds_toArray, List.set_cons_zero, List.set_cons_succ, List.getElem_toArray, List.getElem_cons_zero, List.getElem_cons_succ]
      refine plan_make (v := .slice (some ⟨w4.heap.size, 0, none⟩) 2 2) (w1 := w5) rfl (by rfl) (by rw [hw5]; go_simp) (sOf HK4 HB5.out) ?_
      try simp only [Act.put, List.setIfInBounds_toArray, List.set_cons_zero, List.set_cons_succ, List.getElem_toArray, List.getElem_cons_zero, List.getElem_cons_succ]
      refine plan_call (F := 27) (args := ?_) rfl (by rfl) ?_ ?_
      rotate_left
      · go_simp
        rfl
      refine (together_any (some ⟨w4.heap.size, 0, none⟩) 2 2 m _ [B.par, togL B.rows m] w5 rfl HRW5.out hm HALL5.out).mono ?_
      rintro e w6 ⟨g9, rfl, hwd, hb6⟩
      have HB6 : Hid (Below w4.heap.size w4 w6) := Lib.hid (HB5.out.trans (hb6.mono HB5.out.size))
      have HW6 := Lib.hid hwd
      clear hwd hb6
      refine ⟨_, rfl, sOf HK4 HB6.out, ?_⟩
      try simp only [Act.put, List.setIfInBounds_toArray, List.set_cons_zero, List.set_cons_succ, List.getElem_toArray, List.getElem_cons_zero, List.getElem_cons_succ]
      iterate 1
        refine plan_read (v := ?_) rfl (by rfl) ?_ ?_
        rotate_left
        · intro w' hS
          try dsimp only at hS
          go_simp
          try with_reducible rfl
        try simp only [Act.put, List.setIfInBounds_toArray, List.set_cons_zero, List.set_cons_succ, List.getElem_toArray, List.getElem_cons_zero, List.getElem_cons_succ]
      refine plan_nil ?_
      simp only [List.drop_succ_cons, List.drop_zero]
      have HO6 := Lib.hid (HO4.out.below HB6.out)
      have HK6 := Lib.hid (HK4.out.below HB6.out)
      have HR6 := Lib.hid (HR4.out.below HB6.out)
      have HBW : Hid (Below w.heap.size w w6) := Lib.hid (HB4.out.trans (HB6.out.mono HB4.out.size))
      have hcg6 : ∃ u, w6.cell? ⟨g, k, none⟩ = some u := by
        obtain ⟨g', gr', cr', he, _, _, _, _, _, _, _, hcg7, _⟩ := HO6.out.rowAt hkn (by rw [HLK.out]; omega)
        injection he with he
        injection he with he
        subst he
        exact ⟨_, hcg7⟩
      obtain ⟨u6, hu6⟩ := hcg6
      have hf6 : w6.frozen? ⟨g, k, none⟩ = false := by
        obtain ⟨g', gr', cr', he, _, _, _, _, _, _, _, _, hf7, _⟩ := HO6.out.rowAt hkn (by rw [HLK.out]; omega)
        injection he with he
        injection he with he
        subst he
        exact hf7
      go_upto_region 8 with fail
      obtain ⟨w7, hw7⟩ : ∃ w7, w7 = w6.setCell ⟨g, k, none⟩ (.slice (some ⟨g9, 0, none⟩) m m) := ⟨_, rfl⟩
      have HO7 : Hid (OwnB (w.heap.size + 2) w7 (some ⟨g, 0, none⟩) n d (ys.set k (.slice (some ⟨g9, 0, none⟩) m m)) qq m dd ⟨B.rows.set k (backL B), B.par, B.lost⟩) := Lib.hid (by
        have hr := HW6.out.row
        have hl := HW6.out.len
        have hlt := HW6.out.lt
        have ht : togL [B.par, togL B.rows m] m = backL B := by rw [← HH.out.zm]; exact back_tog B
        rw [ht] at hr hl hlt
        rw [hw7]
        refine HO6.out.putRow HUN.out hkn rfl HNE.out ?_ (by rw [hl]; exact hm) hlt
        rw [hl]
        exact own_base hr (by have := HNE4.out; have := HB5.out.size; omega))
      have HU7 : Hid (Under (w6.heap.size) (some ⟨g, 0, none⟩) n d (ys.set k (.slice (some ⟨g9, 0, none⟩) m m)) qq m dd) := Lib.hid (by
        have := HO7.out.under
        rw [hw7, size_set] at this
        exact this)
      have HK7 : Hid (Blk w7 O #[.slice (some ⟨g, 0, none⟩) n d, .slice qq m dd, .int .i64 ((k : Int) + 1)]) := Lib.hid (by rw [hw7]; exact HK6.out.other _ (by have := HGO.out; omega))
      have HR7 : Hid (Blk w7 (w.heap.size + 1) #[.slice none 0 0, .slice none 0 0, .int .i64 0]) := Lib.hid (by rw [hw7]; exact HR6.out.other _ (by have := HG0.out; omega))
      have HB7 : Hid (Below w.heap.size w w7) := Lib.hid (by rw [hw7]; exact HBW.out.setCell (p := ⟨g, k, none⟩) (by show w.heap.size ≤ g; have := HG0.out; omega) _)
      have HG9 : Hid (O < g9) := Lib.hid (by have := HW6.out.ge.1; have := HB5.out.size; have := HNE4.out; omega)
      rw [← hw7]
      clear hw7 hu6 hf6 HO6 HK6 HR6 HBW HW6
      have cK := HK7.out.c
      have fK := HK7.out.f
      have lK := HK7.out.lt
      go_upto_region 9 with fail
      obtain ⟨w8, hw8⟩ : ∃ w8, w8 = w7.setCell ⟨O, 2, none⟩ (.int .i64 0) := ⟨_, rfl⟩
      have HO8 : Hid (OwnB (w.heap.size + 2) w8 (some ⟨g, 0, none⟩) n d (ys.set k (.slice (some ⟨g9, 0, none⟩) m m)) qq m dd B') := Lib.hid (by
        rw [hw8, HBP.out]
        have hh := HO7.out
        refine (OwnB.lost (B := ⟨B.rows.set k (backL B), B.par, B.lost⟩) ?_ 0)
        refine ⟨hh.zn, hh.own.off (fun b e => ?_) (fun i hi b e => ?_) 2 _, hh.zm, own_off hh.par (fun b e => ?_) 2 _, hh.plt, hh.rlt, hh.n100, hh.l100, hh.m100, hh.sep1, hh.sep2⟩
        · have := HUN.out.head b e; omega
        · rw [getD_set ys vz _ k i (by have := HO4.out.own.row.1; rw [Nat.mul_one, HO4.out.zn] at this; omega)] at e
          by_cases h1 : i = k
          · rw [if_pos h1] at e
            have e' : some g9 = some b := e
            injection e' with e'
            have := HG9.out
            omega
          · rw [if_neg h1] at e
            have hin : i < n := by have := hh.zn; omega
            have := HUN.out.rows i hin b e
            omega
        · have := HUN.out.par b e; omega)
      have HK8 : Hid (Blk w8 O #[.slice (some ⟨g, 0, none⟩) n d, .slice qq m dd, .int .i64 0]) := Lib.hid (by rw [hw8]; exact HK7.out.set (n := 2) _ (by simp))
      have HR8 : Hid (Blk w8 (w.heap.size + 1) #[.slice none 0 0, .slice none 0 0, .int .i64 0]) := Lib.hid (by rw [hw8]; exact HR7.out.other _ (by have := HNE.out; omega))
      have HB8 : Hid (Below w.heap.size w w8) := Lib.hid (by rw [hw8]; exact HB7.out.setCell (p := ⟨O, 2, none⟩) (by show w.heap.size ≤ O; have := HNE.out; omega) _)
      have HLB : Hid (B'.lost = 0) := Lib.hid (by rw [HBP.out])
      rw [← hw8]
      clear hw8 cK fK lK HK7 HO7 HR7 HB7
      have k8 := HK8.out.c
      have cR := HR8.out.c
      have fR := HR8.out.f
      have lR := HR8.out.lt
      go_wp2_with fail
      refine bodyPost_ret (v := .tuple #[.agg #[.slice (some ⟨g, 0, none⟩) n d, .slice qq m dd, .int .i64 0], .int .i64 0]) (by simp [results, Try.results15, go_sem, *]) rfl ⟨_, d, _, _, dd, by rw [HLB.out], res3_own HO8.out _ _ _, res3_below HB8.out _ _ _⟩
end Go.Proofs.Ytkeemmedbbammaa
