/- A line is dropped; no condition but that the cache reads. -/
import Derived.Test.YtoddmgaihggkjaaCacheU
import Derived.IntWalk
namespace Go.Proofs.Ytoddmgaihggkjaa
set_option linter.unusedVariables false
open Go.ChangeShapes Go.WideShapes Go.ChangeAt Go.RowKit

set_option maxHeartbeats 8000000 in
set_option maxRecDepth 100000 in
theorem drop_any (S : Nat → Prop) (v : Value) (C : Ch) (a : Int) (w : World) (h : Co S w v C) (hS : ∀ R, S R → R < w.heap.size) : Calls Try.prog 16 #[v, .int .i64 a] w fun e w' => OutC S w w' e (dropC C a) (dropE C a) := by
  obtain ⟨p, n, c, xs, rfl, hc, -⟩ := h
  have hn := hc.n100
  have HCP := Lib.hid (fun w' hb => copied_any p n c xs C w' (hc.below (w' := w') hb))
  obtain ⟨C', hC'⟩ : ∃ x, x = dropC C a := ⟨_, rfl⟩
  obtain ⟨E, hE⟩ : ∃ x, x = dropE C a := ⟨_, rfl⟩
  rw [← hC', ← hE]
  have HERR : Hid (hasC C a = false → C' = C ∧ E = dropE C a) := Lib.hid (fun e2 => ⟨by rw [hC']; unfold dropC; rw [e2]; rfl, hE⟩)
  have HOK : Hid (hasC C a = true → C' = withC C a C.clock ((setC C a).eraseIdx (atC C a).toNat) ∧ E = 0) := Lib.hid (fun e2 => ⟨by rw [hC']; unfold dropC; rw [e2]; rfl, by rw [hE]; exact (look_has e2).2.2.1⟩)
  clear hC' hE hc
  have HSS := Lib.hid hS
  clear hS
  go_enter Try.func16, Try.ntmps16
  go_wp2_with fail
  have HBA : Hid (Below w.heap.size w ((w.alloc (.cells #[.int .i64 C.sets, .int .i64 C.ways, .int .i64 C.clock, .slice p n c] 24)).alloc (.cells #[.int .i64 0, .int .i64 0, .int .i64 0, .slice none 0 0] 24))) := Lib.hid (((Below.refl _ _).alloc (Nat.le_refl _) _).alloc (by simp) _)
  refine (HCP.out _ HBA.out).mono ?_
  rintro e w1 ⟨q, d, ys, rfl, ho, hb1⟩
  have HB1 : Hid (Below w.heap.size w w1) := Lib.hid (HBA.out.trans (hb1.mono HBA.out.size))
  have HRES : Hid (Blk w1 (w.heap.size + 1) #[.int .i64 0, .int .i64 0, .int .i64 0, .slice none 0 0]) := Lib.hid (by simpa using Blk.track1 hb1)
  have HO : Hid (OwnC (w.heap.size + 2) w1 q n d ys C) := Lib.hid (by simpa using ho)
  clear hb1 ho HBA HCP
  obtain ⟨O, hO⟩ : ∃ O, O = w1.heap.size := ⟨_, rfl⟩
  obtain ⟨w2, hw2⟩ : ∃ w2, w2 = w1.alloc (.cells #[.int .i64 C.sets, .int .i64 C.ways, .int .i64 C.clock, .slice q n d] 24) := ⟨_, rfl⟩
  have HKO : Hid (Blk w2 O #[.int .i64 C.sets, .int .i64 C.ways, .int .i64 C.clock, .slice q n d]) := Lib.hid (by rw [hw2, hO]; exact Blk.new _ _ _)
  have HA1 : Hid (Below w1.heap.size w1 w2) := Lib.hid (by rw [hw2]; exact (Below.refl _ _).alloc (Nat.le_refl _) _)
  have HO2 := Lib.hid (HO.out.below HA1.out)
  have HR2 := Lib.hid (HRES.out.below HA1.out)
  have HB2 : Hid (Below w.heap.size w w2) := Lib.hid (HB1.out.trans (HA1.out.mono HB1.out.size))
  have HNE : Hid (w.heap.size + 2 ≤ O) := Lib.hid (by have := HRES.out.lt; omega)
  have HOL : Hid ((∀ g, (Value.slice q n d).ownBlock = some g → g ≠ O) ∧ ∀ k, k < n → ∀ g, (ys.getD k vz).ownBlock = some g → g ≠ O) := Lib.hid (by
    obtain ⟨h1, h2⟩ := HO.out.lt
    exact ⟨fun g e => by have := h1 g e; omega, fun k hk g e => by have := h2 k hk g e; omega⟩)
  have HW2 := Lib.hid hw2
  have HOE := Lib.hid hO
  clear hO hw2 HO HRES HB1 HA1
  go_wp2_with fail
  rw [← HW2.out, ← HOE.out]
  clear HW2 HOE
  refine (find_any (fun _ => False) _ C a w2 (HO2.out.co (fun R hR => hR.elim))).mono ?_
  rintro e w3 ⟨rfl, hb3⟩
  have HK3 := Lib.hid (HKO.out.below hb3)
  have HO3 := Lib.hid (HO2.out.below hb3)
  have HR3 := Lib.hid (HR2.out.below hb3)
  have HB3 : Hid (Below w.heap.size w w3) := Lib.hid (HB2.out.trans (hb3.mono HB2.out.size))
  clear hb3 HKO HO2 HR2 HB2
  have cK := HK3.out.c
  have cR := HR3.out.c
  have fR := HR3.out.f
  have lR := HR3.out.lt
  cases hh : hasC C a with
  | false =>
    obtain ⟨e1, e2⟩ := HERR.out hh
    have hne := (drop_no hh).1
    have hd : (dropE C a == 0) = false := by simpa using hne
    subst e1
    rw [← e2] at hd ⊢
    clear HERR HOK hne e2 hh
    generalize findS C' a = f1
    generalize findA C' a = f2
    go_wp2_with fail
    refine bodyPost_ret (v := .tuple #[.agg #[.int .i64 C'.sets, .int .i64 C'.ways, .int .i64 C'.clock, .slice q n d], .int .i64 E]) (by simp [results, Try.results16, go_sem, *]) rfl (outC_of ((res4_own HO3.out (by omega) _ _ _ _).mono (by omega)) HSS.out (set4_below HB3.out (by omega) _ _ _ _))
  | true =>
    obtain ⟨e1, e2⟩ := HOK.out hh
    obtain ⟨f1, f2, f3, f4⟩ := look_has hh
    obtain ⟨⟨hrt, ha⟩, hat0⟩ := has_iff.1 hh
    obtain ⟨j, hj, hjl, hl⟩ := atC_lt2 hat0
    have hkn : setNo C a < n := by have := hrt.set_lt a; have := HO3.out.zn; omega
    obtain ⟨g, q2, cr, rfl, hyj, hg0, hg1, hcr, hnd, hcg, hfg, hfr⟩ := HO3.out.rowAt hkn
    rw [setC_eq] at hyj hcr hcg hfr
    obtain ⟨gr, rfl, -, -, hgr0, hgr1⟩ := own_go hfr (by omega)
    rw [f1, f2, f3, hj]
    rw [hj] at e1
    have HE1 := Lib.hid e1
    obtain ⟨l, hle⟩ : ∃ l, l = setC C a := ⟨_, rfl⟩
    obtain ⟨k, hke⟩ : ∃ k, k = setNo C a := ⟨_, rfl⟩
    rw [← hle] at hyj hcr hcg hfr hjl HE1
    rw [← hke] at hyj hcg hkn hfg ⊢
    have hx100 : l.length ≤ 100 := by rw [hle]; exact HO3.out.l100 _
    have HFR := Lib.hid hfr
    have HYJ := Lib.hid hyj
    have HLE := Lib.hid hle
    have HKE := Lib.hid hke
    obtain ⟨x, hx⟩ : ∃ x, x = l.length := ⟨_, rfl⟩
    rw [← hx] at HFR HYJ hcr hcg hjl hx100
    have HX := Lib.hid hx
    have HG0 := Lib.hid hg0
    have HGR0 := Lib.hid hgr0
    subst e2
    clear hx hle hke hyj hfr e1 f1 f2 f3 f4 hrt ha hat0 hj hl hh HERR HOK hg0 hgr0
    obtain ⟨A, W, K, hA, hW, hK⟩ : ∃ A W K, A = C.sets ∧ W = C.ways ∧ K = C.clock := ⟨_, _, _, rfl, rfl, rfl⟩
    rw [← hA, ← hW, ← hK] at HK3 cK ⊢
    rw [← hK] at HE1
    have HA := Lib.hid hA
    have HWW := Lib.hid hW
    have HKK := Lib.hid hK
    clear hA hW hK
    have lK := HK3.out.lt
    have fK := HK3.out.f
    have HK4 := HK3
    have HGO : Hid (gr ≠ O ∧ g ≠ O ∧ gr ≠ g) := Lib.hid ⟨HOL.out.2 k hkn gr (by rw [HYJ.out]; rfl), HOL.out.1 g rfl, fun e => HO3.out.own.sep k (by rw [HO3.out.zn]; exact hkn) gr (by rw [HYJ.out]; rfl) (by rw [e]; rfl)⟩
    have hkI : (k : Int) < (n : Int) := by omega
    have HDEL : Hid (∀ W, W.ownsRow (w.heap.size + 2) 30 4 (.slice (some ⟨gr, 0, none⟩) x cr) x (lnC l) → Calls Try.prog 34 #[.slice (some ⟨gr, 0, none⟩) x cr, .int .i64 (j : Int), .int .i64 ((j : Int) + 1)] W fun e w' => e = .returned (.slice (some ⟨gr, 0, none⟩) (x - 1) cr) ∧ w'.ownsRow (w.heap.size + 2) 30 4 (.slice (some ⟨gr, 0, none⟩) (x - 1) cr) (x - 1) (lnC (l.eraseIdx j)) ∧ W.grownBy w' (some gr)) := Lib.hid (fun W h => by
      have h1 := delete_at (w.heap.size + 2) gr x cr j (j + 1) (x - 1) l W h HX.out.symm rfl (by omega) (by omega) (by omega)
      have e : ((j + 1 : Nat) : Int) = (j : Int) + 1 := by omega
      rw [e] at h1
      exact h1)
    clear HK4
    have hj0 : (0 : Int) ≤ (j : Int) + 1 := by omega
    have hj1 : IntKind.i64.wrap ((j : Int) + 1) = (j : Int) + 1 := IntWalk.i64_in _ (by omega)
    go_upto_region 4 with fail
    have HS0 : Hid ((∀ j, w3.drew.cell? ⟨O, j, none⟩ = (#[.int .i64 A, .int .i64 W, .int .i64 K, .slice (some ⟨g, 0, none⟩) n d] : Array Value)[j]?) ∧ w3.drew.cell? ⟨g, k, none⟩ = some (.slice (some ⟨gr, 0, none⟩) x cr)) := Lib.hid ⟨HK3.out.drew.c, hcg⟩
    refine region_plan (fun w' : World => (∀ j, w'.cell? ⟨O, j, none⟩ = (#[.int .i64 A, .int .i64 W, .int .i64 K, .slice (some ⟨g, 0, none⟩) n d] : Array Value)[j]?) ∧ w'.cell? ⟨g, k, none⟩ = some (.slice (some ⟨gr, 0, none⟩) x cr)) 12 [(0, true), (1, true), (2, true), (3, true), (4, true), (5, true), (6, true), (7, true), (8, true), (9, true), (10, true), (11, false)] (by kernel_rfl) (by kernel_rfl) HS0.out ?_
    iterate 11
      refine plan_read (v := ?_) rfl (by rfl) ?_ ?_
      rotate_left
      · intro w' hS
        try dsimp only at hS
        go_simp
        try with_reducible rfl
      try simp only [Act.put, List.setIfInBounds_toArray, List.set_cons_zero, List.set_cons_succ, List.getElem_toArray, List.getElem_cons_zero, List.getElem_cons_succ]
    refine plan_call (F := 34) (args := ?_) rfl (by rfl) ?_ ?_
    rotate_left
    · go_simp
      rfl
    refine (HDEL.out w3.drew HFR.out).mono ?_
    rintro e w5 ⟨rfl, ho5, hg5⟩
    have HO5 := Lib.hid ho5
    have HG5 := Lib.hid hg5
    clear ho5 hg5
    refine ⟨_, rfl, ⟨fun i => ?_, ?_⟩, ?_⟩
    · exact ((HK3.out.drew).grown HG5.out (fun e => HGO.out.1 (by injection e))).c i
    · rw [World.cell?_of_block (HG5.out.block g hg1 (fun e => HGO.out.2.2 (by injection e with e; exact e.symm)))]; exact hcg
    try simp only [Act.put, List.setIfInBounds_toArray, List.set_cons_zero, List.set_cons_succ, List.getElem_toArray, List.getElem_cons_zero, List.getElem_cons_succ]
    refine plan_nil ?_
    simp only [List.drop_succ_cons, List.drop_zero]
    have HGW : Hid (w3.grownBy w5 (some gr)) := Lib.hid ⟨HG5.out.os, HG5.out.tape, HG5.out.output, HG5.out.size, HG5.out.block⟩
    have HK5 := Lib.hid (HK3.out.grown HGW.out (fun e => HGO.out.1 (by injection e)))
    have HR5 := Lib.hid (HR3.out.grown HGW.out (fun e => by injection e with e; have := HGR0.out; omega))
    have HB5 : Hid (Below w.heap.size w w5) := Lib.hid (HB3.out.grown HGW.out HB3.out.size (fun b e => by injection e with e; have := HGR0.out; omega))
    have hc5 : w5.cell? ⟨g, k, none⟩ = some (.slice (some ⟨gr, 0, none⟩) x cr) := by
      rw [World.cell?_of_block (HGW.out.block g hg1 (fun e => HGO.out.2.2 (by injection e with e; exact e.symm)))]; exact hcg
    have hf5 : w5.frozen? ⟨g, k, none⟩ = false := by
      rw [World.frozen?_of_block (HGW.out.block g hg1 (fun e => HGO.out.2.2 (by injection e with e; exact e.symm)))]; exact hfg
    have HO6 : Hid (OwnC (w.heap.size + 2) (w5.setCell ⟨g, k, none⟩ (.slice (some ⟨gr, 0, none⟩) (x - 1) cr)) (some ⟨g, 0, none⟩) n d (ys.set k (.slice (some ⟨gr, 0, none⟩) (x - 1) cr)) C') := Lib.hid (by
      rw [HE1.out]
      unfold withC
      rw [← HKE.out]
      simp only [Int.toNat_natCast]
      have hel : (l.eraseIdx j).length = x - 1 := by rw [List.length_eraseIdx_of_lt (by rw [← HX.out]; exact hjl), ← HX.out]
      refine HO3.out.putRow hkn HGW.out (.inr (by rw [HYJ.out]; rfl)) (by rw [hel]; exact HO5.out) (fun b e => .inl (by rw [HYJ.out]; exact e)) (by rw [hel]; omega) _ _ _)
    have HCE : Hid (C'.sets = A ∧ C'.ways = W ∧ C'.clock = K) := Lib.hid (by rw [HE1.out, HA.out, HWW.out]; exact ⟨rfl, rfl, rfl⟩)
    have hk5 : k < d := by omega
    clear HK3 HO3 HR3 HB3 cK lK fK cR fR lR hcg hfg hj1 hj0 HS0 HDEL HFR HO5 HG5
    have cK := HK5.out.c
    have lK := HK5.out.lt
    go_upto_region 5 with fail
    obtain ⟨w6, hw6⟩ : ∃ w6, w6 = w5.setCell ⟨g, k, none⟩ (.slice (some ⟨gr, 0, none⟩) (x - 1) cr) := ⟨_, rfl⟩
    have HK6 : Hid (Blk w6 O #[.int .i64 A, .int .i64 W, .int .i64 K, .slice (some ⟨g, 0, none⟩) n d]) := Lib.hid (by rw [hw6]; exact HK5.out.other _ HGO.out.2.1)
    have HR6 : Hid (Blk w6 (w.heap.size + 1) #[.int .i64 0, .int .i64 0, .int .i64 0, .slice none 0 0]) := Lib.hid (by rw [hw6]; exact HR5.out.other _ (by have := HG0.out; omega))
    have HB6 : Hid (Below w.heap.size w w6) := Lib.hid (by rw [hw6]; exact HB5.out.setCell (p := ⟨g, k, none⟩) (by show w.heap.size ≤ g; have := HG0.out; omega) _)
    rw [← hw6] at HO6 ⊢
    clear hw6 cK lK hc5 hf5 HK5 HR5 HB5
    have cK := HK6.out.c
    have cR := HR6.out.c
    have fR := HR6.out.f
    have lR := HR6.out.lt
    go_wp2_with fail
    have hOUT := outC_of (E := 0) ((res4_own HO6.out (s := w.heap.size + 1) (by omega) (.int .i64 A) (.int .i64 W) (.int .i64 K) (.slice (some ⟨g, 0, none⟩) n d)).mono (by omega)) HSS.out (set4_below HB6.out (by omega) _ _ _ _)
    rw [HCE.out.1, HCE.out.2.1, HCE.out.2.2] at hOUT
    have HOUT := Lib.hid hOUT
    clear hOUT
    exact bodyPost_ret (v := .tuple #[.agg #[.int .i64 A, .int .i64 W, .int .i64 K, .slice (some ⟨g, 0, none⟩) n d], .int .i64 0]) (by simp [results, Try.results16, go_sem, *]) rfl HOUT.out
end Go.Proofs.Ytoddmgaihggkjaa
