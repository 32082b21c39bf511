/- What pool.Spoil answers: no condition but that the pool reads. -/
import Derived.Test.YtpmheaeiemnjeaaPoolD
namespace Go.Proofs.Ytpmheaeiemnjeaa
set_option linter.unusedVariables false
open Go.ChangeShapes Go.WideShapes Go.ChangeAt Go.RowKit


theorem own_spoil {base : Nat} {w : World} {v : Value} {ys : List Value} {L : List (List Nat)} (h : Own base w v ys L) {i : Nat} (hi : i < L.length) {g c : Nat} (hq : ys.getD i vz = .slice (some ⟨g, 0, none⟩) (L.getD i []).length c) (K x : Nat) :
    Own base (w.setCell ⟨g, K, none⟩ (.int .u8 (x : Int))) v ys (L.set i ((L.getD i []).set K x)) := by
  have h0 := h.fr i hi
  rw [hq] at h0
  have hs := h0.stored K (.int .u8 (x : Int))
  have e : (u8C (L.getD i [])).set K (.int .u8 (x : Int)) = u8C ((L.getD i []).set K x) := by unfold u8C; rw [List.map_set]
  have hob : (ys.getD i vz).ownBlock = some g := by rw [hq]; rfl
  have gD : ∀ j, (L.set i ((L.getD i []).set K x)).getD j [] = if j = i then (L.getD i []).set K x else L.getD j [] := fun j => getD_set L [] _ i j hi
  have hv : ∀ b, v.ownBlock = some b → b ≠ g := fun b e2 e3 => h.sep i hi g hob (by rw [e2, e3])
  have kept : ∀ {e : TypeId} {u : Value} {n : Nat} {xs : List Value}, w.ownsRow base e 1 u n xs → (u.ownBlock ≠ some g) → (w.setCell ⟨g, K, none⟩ (.int .u8 (x : Int))).ownsRow base e 1 u n xs := fun h2 hne => h2.kept hs.2 (.inr hne)
  refine ⟨?_, fun j hj => ?_, fun j hj => ?_, fun a b ha hb => ?_, fun _ _ => rfl⟩
  · rw [List.length_set]
    exact kept h.row (fun e2 => hv g e2 rfl)
  · rw [List.length_set] at hj
    rw [gD]
    by_cases e3 : j = i
    · subst e3
      rw [if_pos rfl, List.length_set, ← e, hq]
      exact hs.1
    · rw [if_neg e3]
      exact kept (h.fr j hj) (fun e2 => h.two j i hj hi e3 g e2 hob)
  · rw [List.length_set] at hj
    exact h.sep j hj
  · rw [List.length_set] at ha hb
    exact h.two a b ha hb
theorem mem_set {α : Type} {L : List α} {i : Nat} {x y : α} (h : y ∈ L.set i x) : y ∈ L ∨ y = x := List.mem_or_eq_of_mem_set h

set_option maxHeartbeats 8000000 in
theorem spoil_any (p : Option Addr) (n c : Nat) (xs : List Value) (L : List (List Nat)) (k bit : Int) (w : World) (hz : L.length = n) (h : Pl w p xs L) :
    Calls Try.prog 17 #[.agg #[.slice p n c], .int .i64 k, .int .i64 bit] w fun e w' => ∃ p' c' xs', e = .returned (.tuple #[.agg #[.slice p' (spoilP L k bit).length c'], .int .i64 (spoilE L k bit)]) ∧ Out w w' p' xs' (spoilP L k bit) := by
  have HC := Lib.hid (fun w' hb => copied_any p n c xs L w' hz (h.below hb))
  have hn := h.n100
  have HL := Lib.hid h.l100
  have HB := Lib.hid h.lt
  have HN := Lib.hid hn
  obtain ⟨ck, hck⟩ : ∃ ck, ck = checkP L k := ⟨_, rfl⟩
  have HCK := Lib.hid hck
  obtain ⟨D, hD⟩ : ∃ D, D = spoilP L k bit := ⟨_, rfl⟩
  obtain ⟨er, her⟩ : ∃ er, er = spoilE L k bit := ⟨_, rfl⟩
  rw [← hD, ← her]
  have HD := Lib.hid hD
  have HER := Lib.hid her
  clear h hz hn hD her hck
  go_enter Try.func17, Try.ntmps17
  go_wp2_with fail
  refine (HC.out _ (((Below.refl _ _).alloc (Nat.le_refl _) _).alloc (by simp) _)).mono ?_
  rintro e w1 ⟨v, ys, rfl, ho, hb1⟩
  have HBX : Hid (Below w.heap.size w w1) := Lib.hid ((((Below.refl _ _).alloc (Nat.le_refl _) _).alloc (by simp) _).trans (hb1.mono (by simp; omega)))
  have HKR := Lib.hid (Blk.track1 hb1)
  have HO := Lib.hid ho
  obtain ⟨p1, c1, rfl, hpl⟩ := ho.pl HN.out HL.out HB.out
  rw [World.size_alloc] at HKR
  have HOO : Hid (Own (w.heap.size + 2) w1 (.slice p1 L.length c1) ys L) := Lib.hid (by simpa using HO.out)
  have HP1 := Lib.hid hpl
  obtain ⟨n1, hn1⟩ : ∃ n1, n1 = L.length := ⟨_, rfl⟩
  rw [← hn1] at HOO ⊢
  have HN1 := Lib.hid hn1
  clear HO ho hpl hb1 hn1 HC
  have hl1 := HKR.out.lt
  have kR := HKR.out.c
  have fR := HKR.out.f
  go_wp2_with fail
  have hfind := find_any p1 n1 c1 ys L k (w1.alloc (.cells #[.slice p1 n1 c1] 24)) HN1.out.symm (HP1.out.below ((Below.refl _ _).alloc (Nat.le_refl _) _))
  rw [← HCK.out] at hfind
  refine hfind.mono ?_
  clear hfind
  rintro e w2 ⟨rfl, hb2⟩
  have HKS := Lib.hid (Blk.track1 hb2)
  have HB12 : Hid (Below w1.heap.size w1 w2) := Lib.hid (((Below.refl _ _).alloc (Nat.le_refl _) _).trans (hb2.mono (by simp)))
  have HKR2 := Lib.hid (HKR.out.below HB12.out)
  have HB2 : Hid (Below w.heap.size w w2) := Lib.hid (HBX.out.trans (HB12.out.mono HBX.out.size))
  have HO2 := Lib.hid (HOO.out.below HB12.out)
  have HP2 := Lib.hid (HP1.out.below HB12.out)
  have HOFF : Hid (Off (fun b => b < w.heap.size + 2 ∨ w1.heap.size ≤ b) p1 ys L) := Lib.hid (Own.off (c := c1) (by rw [HN1.out] at HOO; exact HOO.out))
  have kS := HKS.out.c
  have fS := HKS.out.f
  have lS := HKS.out.lt
  have HSZ : Hid (w.heap.size + 1 < w1.heap.size) := Lib.hid hl1
  clear hb2 kR fR hl1 HP1 HOO HKR HBX
  by_cases hk : ck = 0
  · subst hk
    have hk : checkP L k = 0 := HCK.out.symm
    obtain ⟨hr, h0, h1⟩ := check_inv hk
    obtain ⟨hr64, hr19⟩ := right_inv hr
    obtain ⟨i, rfl⟩ := Int.eq_ofNat_of_zero_le h0
    have hi : i < L.length := by omega
    have hdp : D = if bitB bit then L else L.set i (turnL (L.getD i []) bit.toNat) := by rw [HD.out]; unfold spoilP; rw [if_pos hk]; rfl
    have hee : er = if bitB bit then 1 else 0 := by rw [HER.out]; unfold spoilE; rw [if_pos hk]
    have HI := Lib.hid hi
    have HDP := Lib.hid hdp
    have HEE := Lib.hid hee
    have HR19 := Lib.hid hr19
    clear hr hr64 h0 h1 hk hdp hee hr19
    by_cases hb0 : bit < 0
    · have hbb : bitB bit = true := decide_eq_true (.inl hb0)
      have hdp : D = L := by rw [HDP.out, hbb]; rfl
      have hee : er = 1 := by rw [HEE.out, hbb]; rfl
      subst hdp hee
      have e0 : decide (bit < 0) = true := decide_eq_true hb0
      have kR := HKR2.out.c
      have fR := HKR2.out.f
      have lR := HKR2.out.lt
      clear hb0 hbb hi
      go_wp2_with fail
      exact bodyPost_ret (v := .tuple #[.agg #[.slice p1 n1 c1], .int .i64 1]) (by simp [results, Try.results17, go_sem, *]) rfl ⟨p1, c1, ys, by rw [HN1.out], HP2.out.set (HOFF.out.sub (fun b e => .inl (by omega))) 0 _, HOFF.out.sub (fun b e => .inl (by omega)), HB2.out.setCell (p := ⟨w.heap.size + 1, 0, none⟩) (by show w.heap.size ≤ w.heap.size + 1; omega) _⟩
    · by_cases hb1 : 152 ≤ bit
      · have hbb : bitB bit = true := decide_eq_true (.inr hb1)
        have hdp : D = L := by rw [HDP.out, hbb]; rfl
        have hee : er = 1 := by rw [HEE.out, hbb]; rfl
        subst hdp hee
        have e0 : decide (bit < 0) = false := decide_eq_false hb0
        have e1 : decide (152 ≤ bit) = true := decide_eq_true hb1
        have kR := HKR2.out.c
        have fR := HKR2.out.f
        have lR := HKR2.out.lt
        clear hb0 hb1 hbb hi
        go_wp2_with fail
        exact bodyPost_ret (v := .tuple #[.agg #[.slice p1 n1 c1], .int .i64 1]) (by simp [results, Try.results17, go_sem, *]) rfl ⟨p1, c1, ys, by rw [HN1.out], HP2.out.set (HOFF.out.sub (fun b e => .inl (by omega))) 0 _, HOFF.out.sub (fun b e => .inl (by omega)), HB2.out.setCell (p := ⟨w.heap.size + 1, 0, none⟩) (by show w.heap.size ≤ w.heap.size + 1; omega) _⟩
      · obtain ⟨B, rfl⟩ := Int.eq_ofNat_of_zero_le (show 0 ≤ bit by omega)
        have hbb : bitB (B : Int) = false := decide_eq_false (by omega)
        have hdp : D = L.set i (turnL (L.getD i []) B) := by rw [HDP.out, hbb]; rfl
        have hee : er = 0 := by rw [HEE.out, hbb]; rfl
        obtain ⟨K, hK⟩ : ∃ K, K = B / 8 := ⟨_, rfl⟩
        obtain ⟨b, hb⟩ : ∃ b, b = B % 8 := ⟨_, rfl⟩
        have eD : (B : Int) / 8 = (K : Int) := by omega
        have eB : (B : Int) % 8 = (b : Int) := by omega
        have eT : (B : Int).tmod 8 = (b : Int) := by rw [Int.tmod_eq_emod_of_nonneg (by omega)]; exact eB
        have eT2 : (B : Int).tdiv 8 = (K : Int) := by rw [Int.tdiv_eq_ediv_of_nonneg (by omega)]; exact eD
        have hK19 : K < 19 := by omega
        have eW : IntKind.i64.wrap (K : Int) = (K : Int) := wrap_i64 (by omega)
        have hb8 : b < 8 := by omega
        obtain ⟨l, hl⟩ : ∃ l, l = L.getD i [] := ⟨_, rfl⟩
        have hl19 : l.length = 19 := by rw [hl]; exact HR19.out _ (mem_getD L [] i hi)
        have hlt : ∀ x ∈ l, x < 256 := by rw [hl]; exact HB.out _ (mem_getD L [] i hi)
        obtain ⟨q, cq, hq, hcq⟩ := own_cap (HO2.out.fr i hi)
        have hfr := HO2.out.fr i hi
        rw [hq, ← hl, hl19] at hfr
        obtain ⟨gf, rfl, _, _, hbf, hgf⟩ := own_go hfr (by omega)
        have hrow2 := HO2.out.row
        rw [← HN1.out] at hrow2
        obtain ⟨g, rfl, hnc, hcm, hbg, hgl⟩ := own_go hrow2 (by have := HN1.out; omega)
        have hcell : w2.cell? ⟨g, i, none⟩ = some (.slice (some ⟨gf, 0, none⟩) 19 cq) := by
          have hlen : ys.length = L.length := by rw [HO2.out.row.1, Nat.mul_one]
          rw [hrow2.cellAt i (by have := HN1.out; omega), ← hl19, hl, ← hq, List.getD_eq_getElem?_getD, List.getElem?_eq_getElem (by omega)]
          rfl
        obtain ⟨x, hx⟩ : ∃ x, x = l.getD K 0 := ⟨_, rfl⟩
        have hx256 : x < 256 := by rw [hx]; exact getD_lt l hlt K
        have cX : w2.cell? ⟨gf, K, none⟩ = some (.int .u8 (x : Int)) := by
          rw [hfr.cellAt K (by omega), u8C_at l K (by omega), hx]
        have fX : w2.frozen? ⟨gf, K, none⟩ = false := hfr.frozenAt K
        have hset : turnL (L.getD i []) B = (L.getD i []).set K (x ^^^ 2 ^ b) := by
          rw [← hl]
          unfold turnL
          rw [← hK, ← hb, hx]
        have hi' : (i : Int) < (n1 : Int) := by have := HN1.out; omega
        have HSP : Hid (Own (w.heap.size + 2) (w2.drew.setCell ⟨gf, K, none⟩ (.int .u8 ((x ^^^ 2 ^ b : Nat) : Int))) (.slice (some ⟨g, 0, none⟩) L.length c1) ys D) := Lib.hid (by
          rw [hdp, hset]
          have h0 : Own (w.heap.size + 2) w2.drew (.slice (some ⟨g, 0, none⟩) L.length c1) ys L := by have := HO2.out.below (Below.refl _ _).drew; rw [HN1.out] at this; exact this
          exact own_spoil h0 hi (by rw [hq]) K _)
        have HDL : Hid (D.length = L.length) := Lib.hid (by rw [hdp, List.length_set])
        have HD19 : Hid (∀ l ∈ D, l.length = 19) := Lib.hid (by
          intro l' hm
          rw [hdp] at hm
          rcases mem_set hm with hm | rfl
          · exact HR19.out _ hm
          · rw [turn_len, ← hl, hl19])
        have HD256 : Hid (∀ l ∈ D, ∀ x ∈ l, x < 256) := Lib.hid (by
          intro l' hm
          rw [hdp] at hm
          rcases mem_set hm with hm | rfl
          · exact HB.out _ hm
          · exact turn_lt _ _ (by rw [← hl]; exact hlt))
        have e0 : decide ((B : Int) < 0) = false := decide_eq_false hb0
        have e1 : decide ((152 : Int) ≤ (B : Int)) = false := decide_eq_false hb1
        have hgfS : Hid (gf < w1.heap.size) := Lib.hid (by
          have h1 := HOFF.out.2 i hi (by rw [← hl, hl19]; omega) gf (by rw [hq]; rfl)
          omega)
        have hgfR : Hid (w.heap.size + 2 ≤ gf) := Lib.hid hbf
        subst hee
        have HFR := Lib.hid hfr
        clear hl19 hlt hq hcq hfr hrow2 hset hx hdp hbb hb0 hb1 hi hK hb hbg hbf hnc hcm hl
        go_upto_region 7 with fail
        go_cut [] (fun wd => wd = w2.drew.setCell ⟨gf, K, none⟩ (.int .u8 ((x ^^^ 2 ^ b : Nat) : Int)))
        case first =>
          have j0 : (0 : Int) ≤ (K : Int) := by omega
          have j1 : (K : Int) < 19 := by omega
          have i0 : (0 : Int) ≤ (i : Int) := by omega
          have hbb : b = 0 ∨ b = 1 ∨ b = 2 ∨ b = 3 ∨ b = 4 ∨ b = 5 ∨ b = 6 ∨ b = 7 := by omega
          have kS0 := kS 0
          clear hb8 hK19
          rcases hbb with rfl | rfl | rfl | rfl | rfl | rfl | rfl | rfl
          · have ex : bits .xor .u8 (x : Int) 1 = ((x ^^^ 2 ^ 0 : Nat) : Int) := xor_u8 x 1 hx256 (by omega)
            refine region_plan (fun w' : World => w' = w2.drew) 14 [(0, true), (1, true), (2, true), (3, true), (4, true), (5, true), (6, true), (7, true), (8, true), (9, true), (10, true), (11, true), (12, true), (13, true)] (by kernel_rfl) (by kernel_rfl) rfl ?_
            iterate 14
              refine plan_read (v := ?_) rfl (by rfl) ?_ ?_
              rotate_left
              · intro w' hS
                try dsimp only at hS
                subst hS
                go_simp
                try with_reducible rfl
              try simp only [Act.put, List.setIfInBounds_toArray, List.set_cons_zero, List.set_cons_succ, List.getElem_toArray, List.getElem_cons_zero, List.getElem_cons_succ]
            refine plan_nil ?_
            simp only [List.drop_succ_cons, List.drop_zero]
            go_wp2_with fail
            go_meet
            case rel => rw [ex]; rfl
          · have ex : bits .xor .u8 (x : Int) 2 = ((x ^^^ 2 ^ 1 : Nat) : Int) := xor_u8 x 2 hx256 (by omega)
            refine region_plan (fun w' : World => w' = w2.drew) 14 [(0, true), (1, true), (2, true), (3, true), (4, true), (5, true), (6, true), (7, true), (8, true), (9, true), (10, true), (11, true), (12, true), (13, true)] (by kernel_rfl) (by kernel_rfl) rfl ?_
            iterate 14
              refine plan_read (v := ?_) rfl (by rfl) ?_ ?_
              rotate_left
              · intro w' hS
                try dsimp only at hS
                subst hS
                go_simp
                try with_reducible rfl
              try simp only [Act.put, List.setIfInBounds_toArray, List.set_cons_zero, List.set_cons_succ, List.getElem_toArray, List.getElem_cons_zero, List.getElem_cons_succ]
            refine plan_nil ?_
            simp only [List.drop_succ_cons, List.drop_zero]
            go_wp2_with fail
            go_meet
            case rel => rw [ex]; rfl
          · have ex : bits .xor .u8 (x : Int) 4 = ((x ^^^ 2 ^ 2 : Nat) : Int) := xor_u8 x 4 hx256 (by omega)
            refine region_plan (fun w' : World => w' = w2.drew) 14 [(0, true), (1, true), (2, true), (3, true), (4, true), (5, true), (6, true), (7, true), (8, true), (9, true), (10, true), (11, true), (12, true), (13, true)] (by kernel_rfl) (by kernel_rfl) rfl ?_
            iterate 14
              refine plan_read (v := ?_) rfl (by rfl) ?_ ?_
              rotate_left
              · intro w' hS
                try dsimp only at hS
                subst hS
                go_simp
                try with_reducible rfl
              try simp only [Act.put, List.setIfInBounds_toArray, List.set_cons_zero, List.set_cons_succ, List.getElem_toArray, List.getElem_cons_zero, List.getElem_cons_succ]
            refine plan_nil ?_
            simp only [List.drop_succ_cons, List.drop_zero]
            go_wp2_with fail
            go_meet
            case rel => rw [ex]; rfl
          · have ex : bits .xor .u8 (x : Int) 8 = ((x ^^^ 2 ^ 3 : Nat) : Int) := xor_u8 x 8 hx256 (by omega)
            refine region_plan (fun w' : World => w' = w2.drew) 14 [(0, true), (1, true), (2, true), (3, true), (4, true), (5, true), (6, true), (7, true), (8, true), (9, true), (10, true), (11, true), (12, true), (13, true)] (by kernel_rfl) (by kernel_rfl) rfl ?_
            iterate 14
              refine plan_read (v := ?_) rfl (by rfl) ?_ ?_
              rotate_left
              · intro w' hS
                try dsimp only at hS
                subst hS
                go_simp
                try with_reducible rfl
              try simp only [Act.put, List.setIfInBounds_toArray, List.set_cons_zero, List.set_cons_succ, List.getElem_toArray, List.getElem_cons_zero, List.getElem_cons_succ]
            refine plan_nil ?_
            simp only [List.drop_succ_cons, List.drop_zero]
            go_wp2_with fail
            go_meet
            case rel => rw [ex]; rfl
          · have ex : bits .xor .u8 (x : Int) 16 = ((x ^^^ 2 ^ 4 : Nat) : Int) := xor_u8 x 16 hx256 (by omega)
            refine region_plan (fun w' : World => w' = w2.drew) 14 [(0, true), (1, true), (2, true), (3, true), (4, true), (5, true), (6, true), (7, true), (8, true), (9, true), (10, true), (11, true), (12, true), (13, true)] (by kernel_rfl) (by kernel_rfl) rfl ?_
            iterate 14
              refine plan_read (v := ?_) rfl (by rfl) ?_ ?_
              rotate_left
              · intro w' hS
                try dsimp only at hS
                subst hS
                go_simp
                try with_reducible rfl
              try simp only [Act.put, List.setIfInBounds_toArray, List.set_cons_zero, List.set_cons_succ, List.getElem_toArray, List.getElem_cons_zero, List.getElem_cons_succ]
            refine plan_nil ?_
            simp only [List.drop_succ_cons, List.drop_zero]
            go_wp2_with fail
            go_meet
            case rel => rw [ex]; rfl
          · have ex : bits .xor .u8 (x : Int) 32 = ((x ^^^ 2 ^ 5 : Nat) : Int) := xor_u8 x 32 hx256 (by omega)
            refine region_plan (fun w' : World => w' = w2.drew) 14 [(0, true), (1, true), (2, true), (3, true), (4, true), (5, true), (6, true), (7, true), (8, true), (9, true), (10, true), (11, true), (12, true), (13, true)] (by kernel_rfl) (by kernel_rfl) rfl ?_
            iterate 14
              refine plan_read (v := ?_) rfl (by rfl) ?_ ?_
              rotate_left
              · intro w' hS
                try dsimp only at hS
                subst hS
                go_simp
                try with_reducible rfl
              try simp only [Act.put, List.setIfInBounds_toArray, List.set_cons_zero, List.set_cons_succ, List.getElem_toArray, List.getElem_cons_zero, List.getElem_cons_succ]
            refine plan_nil ?_
            simp only [List.drop_succ_cons, List.drop_zero]
            go_wp2_with fail
            go_meet
            case rel => rw [ex]; rfl
          · have ex : bits .xor .u8 (x : Int) 64 = ((x ^^^ 2 ^ 6 : Nat) : Int) := xor_u8 x 64 hx256 (by omega)
            refine region_plan (fun w' : World => w' = w2.drew) 14 [(0, true), (1, true), (2, true), (3, true), (4, true), (5, true), (6, true), (7, true), (8, true), (9, true), (10, true), (11, true), (12, true), (13, true)] (by kernel_rfl) (by kernel_rfl) rfl ?_
            iterate 14
              refine plan_read (v := ?_) rfl (by rfl) ?_ ?_
              rotate_left
              · intro w' hS
                try dsimp only at hS
                subst hS
                go_simp
                try with_reducible rfl
              try simp only [Act.put, List.setIfInBounds_toArray, List.set_cons_zero, List.set_cons_succ, List.getElem_toArray, List.getElem_cons_zero, List.getElem_cons_succ]
            refine plan_nil ?_
            simp only [List.drop_succ_cons, List.drop_zero]
            go_wp2_with fail
            go_meet
            case rel => rw [ex]; rfl
          · have ex : bits .xor .u8 (x : Int) 128 = ((x ^^^ 2 ^ 7 : Nat) : Int) := xor_u8 x 128 hx256 (by omega)
            refine region_plan (fun w' : World => w' = w2.drew) 14 [(0, true), (1, true), (2, true), (3, true), (4, true), (5, true), (6, true), (7, true), (8, true), (9, true), (10, true), (11, true), (12, true), (13, true)] (by kernel_rfl) (by kernel_rfl) rfl ?_
            iterate 14
              refine plan_read (v := ?_) rfl (by rfl) ?_ ?_
              rotate_left
              · intro w' hS
                try dsimp only at hS
                subst hS
                go_simp
                try with_reducible rfl
              try simp only [Act.put, List.setIfInBounds_toArray, List.set_cons_zero, List.set_cons_succ, List.getElem_toArray, List.getElem_cons_zero, List.getElem_cons_succ]
            refine plan_nil ?_
            simp only [List.drop_succ_cons, List.drop_zero]
            go_wp2_with fail
            go_meet
            case rel => rw [ex]; rfl
        case rest =>
          obtain ⟨W5, hW5⟩ : ∃ W5, W5 = wc := ⟨_, rfl⟩
          subst hW5
          rw [← hcut] at HSP
          have HP5 := HSP.out.pl (by have := HDL.out; have := HN.out; omega) (fun l' hm => by rw [HD19.out l' hm]; omega) HD256.out
          obtain ⟨p5, c5, e5, hp5⟩ := HP5
          injection e5 with e5 _ e6
          subst e5 e6
          have HPP := Lib.hid hp5
          have HOFF5 : Hid (Off (fun b => b < w.heap.size + 2) (some ⟨g, 0, none⟩) ys D) := Lib.hid ((Own.off (c := c1) (by have := HSP.out; rw [← HDL.out] at this; exact this)).sub (fun b e => .inl e))
          have HKS5 : Hid (Blk W5 w1.heap.size #[.slice (some ⟨g, 0, none⟩) n1 c1]) := Lib.hid (by rw [hcut]; exact HKS.out.drew.other _ (by have := hgfS.out; omega))
          have HKR5 : Hid (Blk W5 (w.heap.size + 1) #[.slice none 0 0]) := Lib.hid (by rw [hcut]; exact HKR2.out.drew.other _ (by have := hgfR.out; omega))
          have HB5 : Hid (Below w.heap.size w W5) := Lib.hid (by rw [hcut]; exact HB2.out.drew.setCell (p := ⟨gf, K, none⟩) (by show w.heap.size ≤ gf; have := hgfR.out; omega) _)
          clear hp5 hcut kS fS lS cX fX hcell
          have kS := HKS5.out.c
          have kR := HKR5.out.c
          have fR := HKR5.out.f
          have lR := HKR5.out.lt
          go_wp2_with fail
          exact bodyPost_ret (v := .tuple #[.agg #[.slice (some ⟨g, 0, none⟩) n1 c1], .int .i64 0]) (by simp [results, Try.results17, go_sem, *]) rfl ⟨some ⟨g, 0, none⟩, c1, ys, by rw [HDL.out, HN1.out], HPP.out.set (HOFF5.out.sub (fun b e => by omega)) 0 _, HOFF5.out.sub (fun b e => by omega), HB5.out.setCell (p := ⟨w.heap.size + 1, 0, none⟩) (by show w.heap.size ≤ w.heap.size + 1; omega) _⟩
  · have hdp : D = L := by rw [HD.out]; unfold spoilP; rw [if_neg (by rw [← HCK.out]; exact hk)]
    have hee : er = ck := by rw [HER.out, HCK.out]; unfold spoilE; rw [if_neg (by rw [← HCK.out]; exact hk)]
    subst hdp hee
    have e0 : (er != 0) = true := by simpa using hk
    clear hk
    have kR := HKR2.out.c
    have fR := HKR2.out.f
    have lR := HKR2.out.lt
    go_wp2_with fail
    exact bodyPost_ret (v := .tuple #[.agg #[.slice p1 n1 c1], .int .i64 er]) (by simp [results, Try.results17, go_sem, *]) rfl ⟨p1, c1, ys, by rw [HN1.out], HP2.out.set (HOFF.out.sub (fun b e => .inl (by omega))) 0 _, HOFF.out.sub (fun b e => .inl (by omega)), HB2.out.setCell (p := ⟨w.heap.size + 1, 0, none⟩) (by show w.heap.size ≤ w.heap.size + 1; omega) _⟩
end Go.Proofs.Ytpmheaeiemnjeaa
