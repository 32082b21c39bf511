/- UndoOnce: the walk of the statement's function; no condition but that the arguments read. -/
import Derived.Test.YtbgllkjhgjoodaaUnS
namespace Go.Proofs.Ytbgllkjhgjoodaa
set_option linter.unusedVariables false
set_option linter.unusedSimpArgs false
open Go.ChangeShapes Go.WideShapes Go.ChangeAt Go.RowKit

theorem On.pt {m n : Lg} {ext : List Un} {seen : List Bool} (h : On m n ext seen) {j : Nat} (h1 : m.list.length ≤ j) (h2 : j < n.list.length) : ∃ a : Nat, n.list.getD j zU = ⟨m.span, (a : Int), m.mem.getD a 0⟩ ∧ a < m.mem.length ∧ seen.getD a false = true := by
  have hj : j - m.list.length < ext.length := by have := h2; rw [h.ls, List.length_append] at this; omega
  have e : n.list.getD j zU = ext[j - m.list.length] := by rw [List.getD_eq_getElem?_getD, h.ls, List.getElem?_append_right h1, List.getElem?_eq_getElem hj]; rfl
  obtain ⟨q1, a, q2, q3, q4, q5⟩ := h.ex _ (List.getElem_mem hj)
  refine ⟨a, ?_, q3, q4⟩
  rw [e]
  generalize ext[j - m.list.length] = u at q1 q2 q5
  obtain ⟨x, y, z⟩ := u
  dsimp only at q1 q2 q5
  rw [q1, q2, q5]

set_option maxHeartbeats 16000000 in
set_option maxRecDepth 100000 in
theorem once_main (p : Option Addr) (m c : Nat) (q : Option Addr) (n d : Nat) (L : Lg) (p1 : Option Addr) (len1 cap1 : Nat) (B : List Nat) (p2 : Option Addr) (len2 cap2 : Nat) (T : List Int) (w : World) (hL : LcX w p m c q n d L) (hz1 : B.length = len1) (h1 : Nb w p1 B) (hx1 : len1 ≤ maxLen) (hz2 : T.length = len2) (h2 : Sl w p2 len2 (wdC T)) (hx2 : len2 ≤ maxLen) :
    Calls Try.prog 5 #[.agg #[.slice p m c, .int .i64 L.span, .slice q n d], .slice p1 len1 cap1, .slice p2 len2 cap2] w fun e w' => e = .returned (.bool true) ∧ Below w.heap.size w w' := by
  have HL := Lib.hid hL
  have HN1 := Lib.hid h1
  have HN2 := Lib.hid h2
  have HZ1 := Lib.hid hz1
  have HZ2 := Lib.hid hz2
  have hm63 := hL.m63
  have hn63 := hL.n63
  unfold maxLen at hx1 hx2 hm63 hn63
  obtain ⟨s0, hs0⟩ : ∃ s, s = L.span := ⟨_, rfl⟩
  have HSS := Lib.hid hs0
  rw [← hs0]
  clear hL h1 h2 hz1 hz2 hs0
  go_enter Try.func5, Try.ntmps5
  go_wp2_with fail
  refine (awake_any _).mono ?_
  rintro e w1 ⟨rfl, hb1⟩
  have HB1 : Hid (Below w.heap.size w w1) := Lib.hid (((Below.refl _ _).alloc (Nat.le_refl _) (.cells #[.slice p m c, .int .i64 s0, .slice q n d] 25)).trans (hb1.mono (by rw [size_new]; omega)))
  have HK1 : Hid (Blk w1 w.heap.size #[.slice p m c, .int .i64 s0, .slice q n d]) := Lib.hid ((Blk.new w _ 25).below hb1)
  clear hb1
  have kK := HK1.out.c
  go_upto_region 3 with fail
  by_cases g1 : 80 < m
  · have e1 : decide ((80 : Int) < (m : Int)) = true := decide_eq_true (by omega)
    go_wp2_with fail
    go_ret
    exact ⟨rfl, HB1.out⟩
  have e1 : decide ((80 : Int) < (m : Int)) = false := decide_eq_false (by omega)
  by_cases g2 : 300 < n
  · have e2 : decide ((300 : Int) < (n : Int)) = true := decide_eq_true (by omega)
    go_wp2_with fail
    go_ret
    exact ⟨rfl, HB1.out⟩
  have e2 : decide ((300 : Int) < (n : Int)) = false := decide_eq_false (by omega)
  by_cases g3 : 150 < len1
  · have e3 : decide ((150 : Int) < (len1 : Int)) = true := decide_eq_true (by omega)
    go_wp2_with fail
    go_ret
    exact ⟨rfl, HB1.out⟩
  have e3 : decide ((150 : Int) < (len1 : Int)) = false := decide_eq_false (by omega)
  by_cases g4 : len2 = 0
  · have e4 : ((len2 : Int) == 0) = true := by rw [g4]; rfl
    clear g4
    go_wp2_with fail
    go_ret
    exact ⟨rfl, HB1.out⟩
  have g5 : 0 < len2 := by omega
  have e4 : ((len2 : Int) == 0) = false := by rw [beq_eq_false_iff_ne]; omega
  have hC : Lc w1 p m c q n d L := (HL.out.lc (by omega) (by omega)).below HB1.out
  have hq := next_any (T := fun _ => False) (fun _ => False) (.agg #[.slice p m c, .int .i64 s0, .slice q n d]) L w1 ⟨p, m, c, q, n, d, by rw [HSS.out], hC, fun _ h => h.elim⟩ (fun _ h => h.elim)
  obtain ⟨E, hE⟩ : ∃ z, z = nextE L := ⟨_, rfl⟩
  obtain ⟨M, hM⟩ : ∃ z, z = nextL L := ⟨_, rfl⟩
  rw [← hE, ← hM] at hq
  have HON : Hid (E = 0 → 64 ≤ roomL M → On M M [] (List.replicate M.mem.length false)) := Lib.hid (by rw [hE, hM]; exact On.new)
  have HQ := Lib.hid hq
  clear hE hM hq hC g4
  go_upto_region 5 with fail
  go_wp2_with fail
  refine HQ.out.mono ?_
  clear HQ kK
  rintro e w2 ⟨vv, rfl, hlo, hb⟩
  have HB2 : Hid (Below w.heap.size w w2) := Lib.hid (HB1.out.trans (hb.mono HB1.out.size))
  obtain ⟨pm, k, cm, qm, nm, dm, rfl, hcc, hoff⟩ := hlo
  obtain ⟨s, hs⟩ : ∃ z, z = M.span := ⟨_, rfl⟩
  have HMS : Hid (s = M.span) := Lib.hid hs
  have HML : Hid (M.mem.length = k) := Lib.hid hcc.ml
  have HLL : Hid (M.list.length = nm) := Lib.hid hcc.ll
  have hk10 := hcc.m10
  have hn10 := hcc.n10
  have HC2 : Hid (Lo (fun _ => False) w2 (.agg #[.slice pm k cm, .int .i64 s, .slice qm nm dm]) M) := Lib.hid ⟨pm, k, cm, qm, nm, dm, by rw [hs], hcc, hoff⟩
  rw [← hs]
  clear hs hoff hb hcc HB1 HK1 e1 e2 e3 e4
  go_upto_region 6 with fail
  obtain ⟨bm, hbm⟩ : ∃ z, z = w2.heap.size := ⟨_, rfl⟩
  obtain ⟨w3, hw3⟩ : ∃ z, z = w2.alloc (.cells #[.slice pm k cm, .int .i64 s, .slice qm nm dm] 25) := ⟨_, rfl⟩
  have HK3 : Hid (Blk w3 bm #[.slice pm k cm, .int .i64 s, .slice qm nm dm]) := Lib.hid (by rw [hw3, hbm]; exact Blk.new _ _ _)
  have HB3 : Hid (Below w.heap.size w w3) := Lib.hid (by rw [hw3]; exact HB2.out.alloc HB2.out.size _)
  have HL3 : Hid (Lo (fun _ => False) w3 (.agg #[.slice pm k cm, .int .i64 s, .slice qm nm dm]) M) := Lib.hid (by rw [hw3]; exact HC2.out.below ((Below.refl _ _).alloc (Nat.le_refl _) _))
  rw [← hw3, ← hbm]
  clear hw3 hbm HC2 HB2
  have kK := HK3.out.c
  by_cases hE0 : E = 0
  rotate_left
  · have e5 : (E != 0) = true := by rw [bne_iff_ne]; exact hE0
    go_wp2_with fail
    go_ret
    exact ⟨rfl, HB3.out⟩
  subst hE0
  have hq := room_any _ _ M w3 HL3.out
  obtain ⟨r, hr⟩ : ∃ z, z = roomL M := ⟨_, rfl⟩
  rw [← hr] at hq HON
  have HQ := Lib.hid hq
  clear hr hq
  go_wp2_with fail
  refine HQ.out.mono ?_
  clear HQ kK
  rintro e w4 ⟨rfl, hb⟩
  have HK4 := Lib.hid (HK3.out.below hb)
  have HL4 := Lib.hid (HL3.out.below hb)
  have HB4 : Hid (Below w.heap.size w w4) := Lib.hid (HB3.out.trans (hb.mono HB3.out.size))
  clear hb HK3 HL3 HB3
  by_cases hr64 : r < 64
  · have e6 : decide (r < 64) = true := decide_eq_true hr64
    go_wp2_with fail
    go_ret
    exact ⟨rfl, HB4.out⟩
  have e6 : decide (r < 64) = false := decide_eq_false hr64
  have HO : Hid (On M M [] (List.replicate k false)) := Lib.hid (by have h := HON.out (by trivial) (by omega); rwa [HML.out] at h)
  have hk1 : 1 ≤ k := by have := HO.out.rm.m1; have := HML.out; omega
  have hk64 : k ≤ 64 := by have := HO.out.rm.m64; have := HML.out; omega
  have HS0 : Hid (∀ W, Below w4.heap.size w4 W → (∀ j, W.cell? ⟨bm, j, none⟩ = (#[.slice pm k cm, .int .i64 s, .slice qm nm dm] : Array Value)[j]?) ∧ Below w4.heap.size w4 W) := Lib.hid (fun W hb => ⟨(HK4.out.below hb).c, hb⟩)
  clear HON
  go_upto_region 8 with fail
  clear e6 hr64
  go_cut [9, 10] (fun s9 s10 wd => ∃ bn bs, s9 = .pointer (some ⟨bn, 0, none⟩) ∧ s10 = .slice (some ⟨bs, 0, none⟩) k k ∧ UO w wd bm bn bs pm k cm s qm nm dm M M (List.replicate k false))
  case first =>
    refine region_planT (fun W : World => (∀ j, W.cell? ⟨bm, j, none⟩ = (#[.slice pm k cm, .int .i64 s, .slice qm nm dm] : Array Value)[j]?) ∧ Below w4.heap.size w4 W) 7 (.read 0 (.read 1 (.read 2 (.read 3 (.two 4 5 (.one 5 (.one 6 .stop)) (.two 4 6 (.one 6 .stop) (.one 4 .stop))))))) (by kernel_rfl) (by kernel_rfl) (HS0.out _ (Below.refl _ _).drew) ?_
    iterate 4
      refine planT_read (v := ?_) rfl (by rfl) ?_ ?_
      rotate_left
      · intro w' hS
        try dsimp only at hS
        obtain ⟨hS1, hS2⟩ := hS
        go_simp
        try with_reducible rfl
      try simp only [Act.put, List.setIfInBounds_toArray, List.set_cons_zero, List.set_cons_succ, List.getElem_toArray, List.getElem_cons_zero, List.getElem_cons_succ]
    refine planT_two ?_ ?_
    · obtain ⟨wA, hwA⟩ : ∃ z, z = w4.drew.alloc (.cells (bl (List.replicate k false)).toArray 4) := ⟨_, rfl⟩
      have HBA : Hid (Below w4.heap.size w4 wA) := Lib.hid (by rw [hwA]; exact (Below.refl _ _).drew.alloc (Nat.le_refl _) _)
      have HSA : Hid (Blk wA w4.heap.size (bl (List.replicate k false)).toArray) := Lib.hid (by rw [hwA]; exact Blk.new w4.drew _ _)
      have HZA : Hid (wA.heap.size = w4.heap.size + 1) := Lib.hid (by rw [hwA, size_new]; rfl)
      refine op_make (v := .slice (some ⟨w4.heap.size, 0, none⟩) k k) (w1 := wA) rfl (by rfl) (by rw [hwA]; exact mk_op k (by omega) w4.drew rfl rfl rfl) ⟨HS0.out _ HBA.out, ?_⟩
      try simp only [Act.put, List.setIfInBounds_toArray, List.set_cons_zero, List.set_cons_succ, List.getElem_toArray, List.getElem_cons_zero, List.getElem_cons_succ]
      clear hwA
      refine planT_one ?_
      refine op_make (v := .pointer (some ⟨wA.heap.size, 0, none⟩)) (w1 := wA.alloc (.cells #[.slice none 0 0, .int .i64 0, .slice none 0 0] 25)) rfl (by rfl) (by go_simp) ⟨HS0.out _ (HBA.out.alloc HBA.out.size _), ?_⟩
      try simp only [Act.put, List.setIfInBounds_toArray, List.set_cons_zero, List.set_cons_succ, List.getElem_toArray, List.getElem_cons_zero, List.getElem_cons_succ]
      refine planT_one ?_
      refine op_store (w1 := wA.alloc (.cells #[.slice pm k cm, .int .i64 s, .slice qm nm dm] 25)) rfl (by rfl) (by go_simp) ⟨HS0.out _ (HBA.out.alloc HBA.out.size _), ?_⟩
      try simp only [Act.put, List.setIfInBounds_toArray, List.set_cons_zero, List.set_cons_succ, List.getElem_toArray, List.getElem_cons_zero, List.getElem_cons_succ]
      refine planT_stop ?_
      simp only [List.drop_succ_cons, List.drop_zero]
      have HU : Hid (UO w (wA.alloc (.cells #[.slice pm k cm, .int .i64 s, .slice qm nm dm] 25)) bm wA.heap.size w4.heap.size pm k cm s qm nm dm M M (List.replicate k false)) := Lib.hid (UO.make HK4.out HL4.out HB4.out (HBA.out.alloc HBA.out.size _) (Blk.new _ _ _) (HSA.out.alloc _) HBA.out.size (Nat.le_refl _) (by have := HZA.out; omega))
      go_wp2_with fail
      go_meet
      case rel => exact ⟨_, _, rfl, rfl, HU.out⟩
    · obtain ⟨wA, hwA⟩ : ∃ z, z = w4.drew.alloc (.cells #[.slice none 0 0, .int .i64 0, .slice none 0 0] 25) := ⟨_, rfl⟩
      have HWA := Lib.hid hwA
      have HBA : Hid (Below w4.heap.size w4 wA) := Lib.hid (by rw [hwA]; exact (Below.refl _ _).drew.alloc (Nat.le_refl _) _)
      have HNA : Hid (Blk wA w4.heap.size #[.slice none 0 0, .int .i64 0, .slice none 0 0]) := Lib.hid (by rw [hwA]; exact Blk.new w4.drew _ _)
      have HZA : Hid (wA.heap.size = w4.heap.size + 1) := Lib.hid (by rw [hwA, size_new]; rfl)
      refine op_make (v := .pointer (some ⟨w4.heap.size, 0, none⟩)) (w1 := wA) rfl (by rfl) (by rw [hwA]; go_simp) ⟨HS0.out _ HBA.out, ?_⟩
      try simp only [Act.put, List.setIfInBounds_toArray, List.set_cons_zero, List.set_cons_succ, List.getElem_toArray, List.getElem_cons_zero, List.getElem_cons_succ]
      clear hwA
      refine planT_two ?_ ?_
      · obtain ⟨wB, hwB⟩ : ∃ z, z = wA.alloc (.cells (bl (List.replicate k false)).toArray 4) := ⟨_, rfl⟩
        have HBB : Hid (Below w4.heap.size w4 wB) := Lib.hid (by rw [hwB]; exact HBA.out.alloc HBA.out.size _)
        have HSB : Hid (Blk wB wA.heap.size (bl (List.replicate k false)).toArray) := Lib.hid (by rw [hwB]; exact Blk.new wA _ _)
        have HNB : Hid (Blk wB w4.heap.size #[.slice none 0 0, .int .i64 0, .slice none 0 0]) := Lib.hid (by rw [hwB]; exact HNA.out.alloc _)
        refine op_make (v := .slice (some ⟨wA.heap.size, 0, none⟩) k k) (w1 := wB) rfl (by rfl) (by rw [hwB]; exact mk_op k (by omega) wA rfl rfl rfl) ⟨HS0.out _ HBB.out, ?_⟩
        try simp only [Act.put, List.setIfInBounds_toArray, List.set_cons_zero, List.set_cons_succ, List.getElem_toArray, List.getElem_cons_zero, List.getElem_cons_succ]
        clear hwB
        refine planT_one ?_
        have cZ := HNB.out.c
        have fZ := HNB.out.f
        have lZ := HNB.out.lt
        refine op_store (w1 := ((wB.setCell ⟨w4.heap.size, 0, none⟩ (.slice pm k cm)).setCell ⟨w4.heap.size, 1, none⟩ (.int .i64 s)).setCell ⟨w4.heap.size, 2, none⟩ (.slice qm nm dm)) rfl (by rfl) (by go_simp) ⟨HS0.out _ (set3_below HBB.out (Nat.le_refl _) _ _ _), ?_⟩
        try simp only [Act.put, List.setIfInBounds_toArray, List.set_cons_zero, List.set_cons_succ, List.getElem_toArray, List.getElem_cons_zero, List.getElem_cons_succ]
        refine planT_stop ?_
        simp only [List.drop_succ_cons, List.drop_zero]
        clear cZ fZ lZ
        have HU : Hid (UO w (((wB.setCell ⟨w4.heap.size, 0, none⟩ (.slice pm k cm)).setCell ⟨w4.heap.size, 1, none⟩ (.int .i64 s)).setCell ⟨w4.heap.size, 2, none⟩ (.slice qm nm dm)) bm w4.heap.size wA.heap.size pm k cm s qm nm dm M M (List.replicate k false)) := Lib.hid (UO.make HK4.out HL4.out HB4.out (set3_below HBB.out (Nat.le_refl _) _ _ _) (set3_same HNB.out _ _ _) (set3_other HSB.out (by have := HZA.out; omega) _ _ _) (Nat.le_refl _) HBA.out.size (by have := HZA.out; omega))
        go_wp2_with fail
        go_meet
        case rel => exact ⟨_, _, rfl, rfl, HU.out⟩
      · obtain ⟨wC, hwC⟩ : ∃ z, z = w4.drew.alloc (.cells #[.slice pm k cm, .int .i64 s, .slice qm nm dm] 25) := ⟨_, rfl⟩
        have HBC : Hid (Below w4.heap.size w4 wC) := Lib.hid (by rw [hwC]; exact (Below.refl _ _).drew.alloc (Nat.le_refl _) _)
        have HNC : Hid (Blk wC w4.heap.size #[.slice pm k cm, .int .i64 s, .slice qm nm dm]) := Lib.hid (by rw [hwC]; exact Blk.new w4.drew _ _)
        have HZC : Hid (wC.heap.size = w4.heap.size + 1) := Lib.hid (by rw [hwC, size_new]; rfl)
        refine op_store (w1 := wC) rfl (by rfl) (by rw [hwC, HWA.out]; go_simp) ⟨HS0.out _ HBC.out, ?_⟩
        try simp only [Act.put, List.setIfInBounds_toArray, List.set_cons_zero, List.set_cons_succ, List.getElem_toArray, List.getElem_cons_zero, List.getElem_cons_succ]
        clear hwC
        refine planT_one ?_
        refine op_make (v := .slice (some ⟨wC.heap.size, 0, none⟩) k k) (w1 := wC.alloc (.cells (bl (List.replicate k false)).toArray 4)) rfl (by rfl) (mk_op k (by omega) wC rfl rfl rfl) ⟨HS0.out _ (HBC.out.alloc HBC.out.size _), ?_⟩
        try simp only [Act.put, List.setIfInBounds_toArray, List.set_cons_zero, List.set_cons_succ, List.getElem_toArray, List.getElem_cons_zero, List.getElem_cons_succ]
        refine planT_stop ?_
        simp only [List.drop_succ_cons, List.drop_zero]
        have HU : Hid (UO w (wC.alloc (.cells (bl (List.replicate k false)).toArray 4)) bm w4.heap.size wC.heap.size pm k cm s qm nm dm M M (List.replicate k false)) := Lib.hid (UO.make HK4.out HL4.out HB4.out (HBC.out.alloc HBC.out.size _) (HNC.out.alloc _) (Blk.new _ _ _) (Nat.le_refl _) HBC.out.size (by have := HZC.out; omega))
        go_wp2_with fail
        go_meet
        case rel => exact ⟨_, _, rfl, rfl, HU.out⟩
  case rest =>
    obtain ⟨bn, bs, rfl, rfl, hu⟩ := hcut
    have HU := Lib.hid hu
    clear hu HK4 HL4 HB4 HS0
    go_wp2_with fail
    go_loopw [11, 12] (fun s11 s12 wr => ∃ (i many : Nat) (N : Lg) (ext : List Un) (seen : List Bool), i ≤ len1 ∧ s11 = .int .i64 many ∧ s12 = .int .i64 i ∧ ext.length = many ∧ many ≤ 64 ∧ On M N ext seen ∧ UO w wr bm bn bs pm k cm s qm nm dm M N seen) (fun _ s12 _ => len1 - (intOf s12).toNat)
    case atStart => exact ⟨0, 0, M, [], _, Nat.zero_le _, rfl, rfl, rfl, by omega, HO.out, HU.out⟩
    case round =>
      clear HO HU
      obtain ⟨i, many, N, ext, seen, hi, rfl, rfl, hmany, hm64, hon, hu⟩ := hrel
      have HON := Lib.hid hon
      have HU := Lib.hid hu
      have HMANY := Lib.hid hmany
      clear hon hu hmany
      by_cases hlt : i < len1
      · as_aux_lemma =>
          have hltI : decide ((i : Int) < (len1 : Int)) = true := decide_eq_true (by omega)
          obtain ⟨gb, ob, hgb, rfl, hcb⟩ := HN1.out.at_ (by rw [HZ1.out]; omega)
          obtain ⟨x, hx⟩ : ∃ z, z = B.getD i 0 := ⟨_, rfl⟩
          have hx256 : x < 256 := by
            rw [hx, List.getD_eq_getElem?_getD, List.getElem?_eq_getElem (by rw [HZ1.out]; exact hlt)]
            exact HN1.out.lt _ (List.getElem_mem _)
          have hcx := hcb i (by rw [HZ1.out]; exact hlt)
          rw [← hx] at hcx
          obtain ⟨a, ha⟩ : ∃ z, z = x % k := ⟨_, rfl⟩
          have hta : ((x : Int)).tmod (k : Int) = (a : Int) := by rw [Int.tmod_eq_emod_of_nonneg (by omega), ha]; exact (Int.natCast_emod x k).symm
          have hk0 : ¬ k = 0 := by omega
          have hak : a < k := by rw [ha]; exact Nat.mod_lt _ (by omega)
          have hwx : IntKind.i64.wrap (x : Int) = (x : Int) := by rw [IntKind.wrap_i64]; omega
          have hiI : (0 : Int) ≤ (i : Int) := by omega
          have hiI2 : (i : Int) < (len1 : Int) := by omega
          clear hx ha hcb
          go_upto_region 13 with fail
          obtain ⟨w8, hw8⟩ : ∃ z, z = wr.drew := ⟨_, rfl⟩
          have HU8 : Hid (UO w w8 bm bn bs pm k cm s qm nm dm M N seen) := Lib.hid (by rw [hw8]; exact HU.out.below (Below.refl _ _).drew)
          have cB : w8.cell? ⟨gb, ob + i, none⟩ = some (.int .u8 (x : Int)) := (HU8.out.hb.cell (p := ⟨gb, ob + i, none⟩) hgb).trans hcx
          have kM := HU8.out.hm.c
          clear HU hcx hgb
          refine region_plan (fun w' : World => w' = w8) 9 [(0, true), (1, true), (2, true), (3, true), (4, true), (5, true), (6, true), (7, true), (8, true)] (by kernel_rfl) (by kernel_rfl) hw8.symm ?_
          rw [← hw8]
          clear hw8
          iterate 8
            refine plan_read (v := ?_) rfl (by rfl) ?_ ?_
            rotate_left
            · intro w' hS
              try dsimp only at hS
              subst hS
              go_simp
              try with_reducible rfl
            try simp only [Act.put, List.setIfInBounds_toArray, List.set_cons_zero, List.set_cons_succ, List.getElem_toArray, List.getElem_cons_zero, List.getElem_cons_succ]
          refine plan_read (v := .int .i64 (a : Int)) rfl (by rfl) (by intro w' hS; go_simp) ?_
          try simp only [Act.put, List.setIfInBounds_toArray, List.set_cons_zero, List.set_cons_succ, List.getElem_toArray, List.getElem_cons_zero, List.getElem_cons_succ]
          refine plan_nil ?_
          simp only [List.drop_succ_cons, List.drop_zero]
          clear hta hwx cB kM hiI hiI2 hx256
          obtain ⟨y, hy⟩ : ∃ z, z = i % len2 := ⟨_, rfl⟩
          have hty : ((i : Int)).tmod (len2 : Int) = (y : Int) := by rw [Int.tmod_eq_emod_of_nonneg (by omega), hy]; exact (Int.natCast_emod i len2).symm
          have hl0 : ¬ len2 = 0 := by omega
          have hyl : y < len2 := by rw [hy]; exact Nat.mod_lt _ (by omega)
          have hyI : (0 : Int) ≤ (y : Int) := by omega
          have hyI2 : (y : Int) < (len2 : Int) := by omega
          clear hy
          obtain ⟨gv, ov, rfl, hgv, hcv⟩ := wd_at (w := w) (p := p2) (l := T) (by rw [HZ2.out]; exact HN2.out) y (by rw [HZ2.out]; exact hyl)
          obtain ⟨v, hv⟩ : ∃ z, z = T.getD y 0 := ⟨_, rfl⟩
          rw [← hv] at hcv
          clear hv
          go_upto_region 14 with fail
          obtain ⟨pn, kn, cn, qn, nn, dn, hkn, hlon, hlcn⟩ := HU8.out.vn.lo
          obtain rfl : k = kn := (HML.out.symm.trans HON.out.ml.symm).trans hlcn.ml
          rw [show N.span = s from HON.out.sp.trans HMS.out.symm] at hkn hlon
          have HKN := Lib.hid hkn
          have HLO := Lib.hid hlon
          obtain ⟨N2, hN2⟩ : ∃ z, z = writeL N (a : Int) v := ⟨_, rfl⟩
          have HAG : Hid (seen.getD a false = true → On M N2 ext seen) := Lib.hid (fun e => by rw [hN2]; exact (HON.out.again (by rw [HML.out]; exact hak) e v).2)
          have HFI : Hid (seen.getD a false = false → On M N2 (ext ++ [⟨M.span, a, M.mem.getD a 0⟩]) (seen.set a true) ∧ ext.length < k) := Lib.hid (fun e => by rw [hN2]; exact ⟨(HON.out.first (by rw [HML.out]; exact hak) e v).2, by have := HON.out.less (by rw [HML.out]; exact hak) e; rwa [HML.out] at this⟩)
          have hE0 : writeE N (a : Int) = 0 := by
            cases e : seen.getD a false
            · exact (HON.out.first (by rw [HML.out]; exact hak) e v).1
            · exact (HON.out.again (by rw [HML.out]; exact hak) e v).1
          have HN2L : Hid (N2.mem.length = k) := Lib.hid (by
            cases e : seen.getD a false
            · exact (HFI.out e).1.ml.trans HML.out
            · exact (HAG.out e).ml.trans HML.out)
          have HSL : Hid (seen.length = k) := Lib.hid (HON.out.sl.trans HML.out)
          have HW : Hid (∀ (S : Nat → Prop) W, Below w8.heap.size w8 W → (∀ R, S R → R < W.heap.size) → Calls Try.prog 7 #[.agg #[.slice pn k cn, .int .i64 s, .slice qn nn dn], .int .i64 (a : Int), .int .u32 v] W fun e w' => OutL S W w' e N2 0) := Lib.hid (fun S W hW hS => by
            have hq := write_any S _ N (a : Int) v W (HLO.out.below hW) hS
            rw [hE0, ← hN2] at hq
            exact hq)
          have HS0 : Hid (∀ W, Below w8.heap.size w8 W → ((∀ j, W.cell? ⟨bn, j, none⟩ = (#[.slice pn k cn, .int .i64 s, .slice qn nn dn] : Array Value)[j]?) ∧ W.cell? ⟨gv, ov + y, none⟩ = some (.int .u32 v)) ∧ Below w8.heap.size w8 W) := Lib.hid (fun W hb => ⟨⟨(HKN.out.below hb).c, ((HU8.out.hb.trans (hb.mono HU8.out.hb.size)).cell (p := ⟨gv, ov + y, none⟩) hgv).trans hcv⟩, hb⟩)
          have HLT : Hid (∀ R, (fun R => R = bn ∨ R = bs) R → R < w8.heap.size) := Lib.hid HU8.out.lt
          clear hkn hlon hlcn hN2 hE0 hgv hcv HON
          go_cut [14, 15] (fun s14 s15 wd => ∃ b2 p c q nn d, s14 = .pointer (some ⟨b2, 0, none⟩) ∧ s15 = .int .i64 0 ∧ FreshS (fun R => R = bn ∨ R = bs) w8 wd b2 p k c N2.span q nn d N2)
          case first =>
            refine region_planT (fun W : World => ((∀ j, W.cell? ⟨bn, j, none⟩ = (#[.slice pn k cn, .int .i64 s, .slice qn nn dn] : Array Value)[j]?) ∧ W.cell? ⟨gv, ov + y, none⟩ = some (.int .u32 v)) ∧ Below w8.heap.size w8 W) 15 (.read 0 (.read 1 (.read 2 (.read 3 (.read 4 (.read 5 (.read 6 (.read 7 (.read 8 (.two 9 13 (.read 10 (.read 11 (.read 12 (.one 13 (.one 14 .stop))))) (.one 9 (.read 10 (.read 11 (.read 12 (.one 14 .stop))))))))))))))) (by kernel_rfl) (by kernel_rfl) (HS0.out _ (Below.refl _ _).drew) ?_
            iterate 6
              refine planT_read (v := ?_) rfl (by rfl) ?_ ?_
              rotate_left
              · intro w' hS
                try dsimp only at hS
                obtain ⟨⟨hS1, hS2⟩, hS3⟩ := hS
                go_simp
                try with_reducible rfl
              try simp only [Act.put, List.setIfInBounds_toArray, List.set_cons_zero, List.set_cons_succ, List.getElem_toArray, List.getElem_cons_zero, List.getElem_cons_succ]
            refine planT_read (v := .int .i64 (y : Int)) rfl (by rfl) (by intro w' hS; go_simp) ?_
            try simp only [Act.put, List.setIfInBounds_toArray, List.set_cons_zero, List.set_cons_succ, List.getElem_toArray, List.getElem_cons_zero, List.getElem_cons_succ]
            iterate 2
              refine planT_read (v := ?_) rfl (by rfl) ?_ ?_
              rotate_left
              · intro w' hS
                try dsimp only at hS
                obtain ⟨⟨hS1, hS2⟩, hS3⟩ := hS
                go_simp
                try with_reducible rfl
              try simp only [Act.put, List.setIfInBounds_toArray, List.set_cons_zero, List.set_cons_succ, List.getElem_toArray, List.getElem_cons_zero, List.getElem_cons_succ]
            refine planT_two ?_ ?_
            · have hcall := HW.out (fun R => R = bn ∨ R = bs) w8.drew ((Below.refl _ _).drew) HLT.out
              refine op_call (F := 7) (args := ?_) rfl (by rfl) ?_ ?_
              rotate_left
              · go_simp
                rfl
              refine (hcall).mono ?_
              rintro e w6 ⟨vv, rfl, hlo, hb⟩
              have HB6 : Hid (Below w8.heap.size w8 w6) := Lib.hid ((Below.refl _ _).drew.trans hb)
              obtain ⟨p6, m6, c6, q6, n6, d6, rfl, hcc, hoff⟩ := hlo
              obtain rfl : k = m6 := HN2L.out.symm.trans hcc.ml
              refine ⟨_, rfl, HS0.out _ HB6.out, ?_⟩
              try simp only [Act.put, List.setIfInBounds_toArray, List.set_cons_zero, List.set_cons_succ, List.getElem_toArray, List.getElem_cons_zero, List.getElem_cons_succ]
              iterate 3
                refine planT_read (v := ?_) rfl (by rfl) ?_ ?_
                rotate_left
                · intro w' hS
                  try dsimp only at hS
                  go_simp
                  try with_reducible rfl
                try simp only [Act.put, List.setIfInBounds_toArray, List.set_cons_zero, List.set_cons_succ, List.getElem_toArray, List.getElem_cons_zero, List.getElem_cons_succ]
              refine planT_one ?_
              refine op_make (v := .pointer (some ⟨w6.heap.size, 0, none⟩)) (w1 := w6.alloc (.cells #[.slice none 0 0, .int .i64 0, .slice none 0 0] 25)) rfl (by rfl) (by go_simp) ⟨HS0.out _ (HB6.out.alloc HB6.out.size _), ?_⟩
              try simp only [Act.put, List.setIfInBounds_toArray, List.set_cons_zero, List.set_cons_succ, List.getElem_toArray, List.getElem_cons_zero, List.getElem_cons_succ]
              refine planT_one ?_
              refine op_store (w1 := w6.alloc (.cells #[.slice p6 k c6, .int .i64 N2.span, .slice q6 n6 d6] 25)) rfl (by rfl) (by go_simp) ⟨HS0.out _ (HB6.out.alloc HB6.out.size _), ?_⟩
              try simp only [Act.put, List.setIfInBounds_toArray, List.set_cons_zero, List.set_cons_succ, List.getElem_toArray, List.getElem_cons_zero, List.getElem_cons_succ]
              refine planT_stop ?_
              simp only [List.drop_succ_cons, List.drop_zero]
              have HFR : Hid (FreshS (fun R => R = bn ∨ R = bs) w8 (w6.alloc (.cells #[.slice p6 k c6, .int .i64 N2.span, .slice q6 n6 d6] 25)) w6.heap.size p6 k c6 N2.span q6 n6 d6 N2) := Lib.hid (FreshS.drew (FreshS.first ⟨_, _, _, _, _, _, rfl, hcc, hoff⟩ hb))
              clear hcc hoff hb
              go_wp2_with fail
              go_meet
              case rel => exact ⟨_, _, _, _, _, _, rfl, rfl, HFR.out⟩
            · have HA5 : Hid (Below w8.heap.size w8 (w8.drew.alloc (.cells #[.slice none 0 0, .int .i64 0, .slice none 0 0] 25))) := Lib.hid ((Below.refl _ _).drew.alloc (Nat.le_refl _) _)
              refine op_make (v := .pointer (some ⟨w8.heap.size, 0, none⟩)) (w1 := w8.drew.alloc (.cells #[.slice none 0 0, .int .i64 0, .slice none 0 0] 25)) rfl (by rfl) (by go_simp) ⟨HS0.out _ HA5.out, ?_⟩
              try simp only [Act.put, List.setIfInBounds_toArray, List.set_cons_zero, List.set_cons_succ, List.getElem_toArray, List.getElem_cons_zero, List.getElem_cons_succ]
              refine planT_one ?_
              have hcall := HW.out (fun R => R < (w8.drew.alloc (.cells #[.slice none 0 0, .int .i64 0, .slice none 0 0] 25)).heap.size) _ HA5.out (fun R hR => hR)
              refine op_call (F := 7) (args := ?_) rfl (by rfl) ?_ ?_
              rotate_left
              · go_simp
                rfl
              refine (hcall).mono ?_
              rintro e w6 ⟨vv, rfl, hlo, hb⟩
              have HB6 : Hid (Below w8.heap.size w8 w6) := Lib.hid (HA5.out.trans (hb.mono HA5.out.size))
              obtain ⟨p6, m6, c6, q6, n6, d6, rfl, hcc, hoff⟩ := hlo
              obtain rfl : k = m6 := HN2L.out.symm.trans hcc.ml
              refine ⟨_, rfl, HS0.out _ HB6.out, ?_⟩
              try simp only [Act.put, List.setIfInBounds_toArray, List.set_cons_zero, List.set_cons_succ, List.getElem_toArray, List.getElem_cons_zero, List.getElem_cons_succ]
              iterate 3
                refine planT_read (v := ?_) rfl (by rfl) ?_ ?_
                rotate_left
                · intro w' hS
                  try dsimp only at hS
                  go_simp
                  try with_reducible rfl
                try simp only [Act.put, List.setIfInBounds_toArray, List.set_cons_zero, List.set_cons_succ, List.getElem_toArray, List.getElem_cons_zero, List.getElem_cons_succ]
              refine planT_one ?_
              have HZ6 : Hid (Blk w6 w8.heap.size #[.slice none 0 0, .int .i64 0, .slice none 0 0]) := Lib.hid ((Blk.new w8.drew #[.slice none 0 0, .int .i64 0, .slice none 0 0] 25).below hb)
              have HFR : Hid (FreshS (fun R => R = bn ∨ R = bs) w8 (((w6.setCell ⟨w8.heap.size, 0, none⟩ (.slice p6 k c6)).setCell ⟨w8.heap.size, 1, none⟩ (.int .i64 N2.span)).setCell ⟨w8.heap.size, 2, none⟩ (.slice q6 n6 d6)) w8.heap.size p6 k c6 N2.span q6 n6 d6 N2) := Lib.hid (FreshS.drew (FreshS.later rfl ⟨_, _, _, _, _, _, rfl, hcc, hoff⟩ hb HLT.out))
              clear hcc hoff hb
              have cZ := HZ6.out.c
              have fZ := HZ6.out.f
              have lZ := HZ6.out.lt
              refine op_store (w1 := ((w6.setCell ⟨w8.heap.size, 0, none⟩ (.slice p6 k c6)).setCell ⟨w8.heap.size, 1, none⟩ (.int .i64 N2.span)).setCell ⟨w8.heap.size, 2, none⟩ (.slice q6 n6 d6)) rfl (by rfl) (by go_simp) ⟨HS0.out _ (set3_below HB6.out (Nat.le_refl _) _ _ _), ?_⟩
              try simp only [Act.put, List.setIfInBounds_toArray, List.set_cons_zero, List.set_cons_succ, List.getElem_toArray, List.getElem_cons_zero, List.getElem_cons_succ]
              refine planT_stop ?_
              simp only [List.drop_succ_cons, List.drop_zero]
              clear cZ fZ lZ
              go_wp2_with fail
              go_meet
              case rel => exact ⟨_, _, _, _, _, _, rfl, rfl, HFR.out⟩
          case rest =>
            obtain ⟨b2, p6, c6, q6, n6, d6, rfl, rfl, hge, hkc, hlc, hbel⟩ := hcut
            have HU9 := Lib.hid (HU8.out.below hbel)
            have HKN9 := Lib.hid (HKN.out.below hbel)
            have HK9 := Lib.hid hkc
            have HL9 := Lib.hid hlc
            have hsa := HU9.out.hs.c a
            rw [bl_at seen a (by rw [HSL.out]; exact hak)] at hsa
            have hb2s : bs ≠ b2 := by have := HLT.out bs (.inr rfl); omega
            have fS := HU9.out.hs.f a
            have lS := HU9.out.hs.lt
            have haI : (0 : Int) ≤ (a : Int) := by omega
            have haI2 : (a : Int) < (k : Int) := by omega
            clear hge hkc hlc hbel HU8 HKN HS0 HW HLO HLT hty hyI hyI2
            obtain ⟨sb, hsb⟩ : ∃ z, z = seen.getD a false := ⟨_, rfl⟩
            rw [← hsb] at hsa HAG HFI
            clear hsb
            cases sb with
            | true =>
              have hon := HAG.out rfl
              have HON2 := Lib.hid hon
              clear hon HAG HFI
              have kX := HK9.out.c
              have kB := HKN9.out.c
              have fB := HKN9.out.f
              have lB := HKN9.out.lt
              go_upto_region 12 with fail
              have HUA := Lib.hid (HU9.out.put HL9.out)
              obtain ⟨wz, hwz⟩ : ∃ z, z = ((wc.setCell ⟨bn, 0, none⟩ (.slice p6 k c6)).setCell ⟨bn, 1, none⟩ (.int .i64 N2.span)).setCell ⟨bn, 2, none⟩ (.slice q6 n6 d6) := ⟨_, rfl⟩
              rw [← hwz] at HUA ⊢
              clear hwz kX kB fB lB fS lS hsa HU9 HK9 HL9 HKN9
              go_wp2_with fail
              go_roundw
              case rel => exact ⟨i + 1, many, N2, ext, seen, by omega, rfl, by go_num, HMANY.out, by omega, HON2.out, HUA.out⟩
              case measure => simp [intOf]; omega
            | false =>
              obtain ⟨hon, hex⟩ := HFI.out rfl
              have HON2 := Lib.hid hon
              have hmk : many < k := by have := HMANY.out; omega
              clear hon hex HAG HFI
              go_upto_region 19 with fail
              have HUM := Lib.hid (HU9.out.mark (a := a) (by rw [HSL.out]; exact hak))
              have HKM := Lib.hid (HK9.out.other (n := a) (.bool true) hb2s)
              have HLM := Lib.hid (HL9.out.set (R := bs) (.inr rfl) a (.bool true))
              have HKNM := Lib.hid (HKN9.out.other (n := a) (B' := bs) (.bool true) (fun e => HU9.out.ns e.symm))
              obtain ⟨wm, hwm⟩ : ∃ z, z = wc.setCell ⟨bs, a, none⟩ (.bool true) := ⟨_, rfl⟩
              rw [← hwm] at HUM HKM HLM HKNM ⊢
              clear hwm HU9 HK9 HL9 HKN9 fS lS hsa
              have kX := HKM.out.c
              have kB := HKNM.out.c
              have fB := HKNM.out.f
              have lB := HKNM.out.lt
              go_upto_region 12 with fail
              have HUA := Lib.hid (HUM.out.put HLM.out)
              obtain ⟨wz, hwz⟩ : ∃ z, z = ((wm.setCell ⟨bn, 0, none⟩ (.slice p6 k c6)).setCell ⟨bn, 1, none⟩ (.int .i64 N2.span)).setCell ⟨bn, 2, none⟩ (.slice q6 n6 d6) := ⟨_, rfl⟩
              rw [← hwz] at HUA ⊢
              clear hwz kX kB fB lB HUM HKM HLM HKNM
              go_wp2_with fail
              go_roundw
              case rel => exact ⟨i + 1, many + 1, N2, _, _, by omega, by go_num, by go_num, by rw [List.length_append, HMANY.out]; rfl, by omega, HON2.out, HUA.out⟩
              case measure => simp [intOf]; omega
      · as_aux_lemma =>
          obtain ⟨wu, rfl⟩ : ∃ z, z = wr := ⟨_, rfl⟩
          have hltI : decide ((i : Int) < (len1 : Int)) = false := decide_eq_false (by omega)
          obtain ⟨pn, kn, cn, qn, nn, dn, hkn, hlon, hlcn⟩ := HU.out.vn.lo
          obtain rfl : k = kn := (HML.out.symm.trans HON.out.ml.symm).trans hlcn.ml
          rw [show N.span = s from HON.out.sp.trans HMS.out.symm] at hkn hlon
          have HKN := Lib.hid hkn
          have HLO := Lib.hid hlon
          have HLC := Lib.hid hlcn
          have hnn : nn = nm + many := by
            have h1 := hlcn.ll
            have h2 := congrArg List.length HON.out.ls
            rw [List.length_append, HLL.out, HMANY.out, h1] at h2
            exact h2
          have f1 : IntKind.i64.wrap ((nm : Int) + (many : Int)) = (nn : Int) := by rw [IntKind.wrap_i64]; omega
          have f2 : wrap64 ((nm : Int) + (many : Int)) = (nn : Int) := by unfold wrap64; omega
          have e7 : ((nn : Int) != (nn : Int)) = false := by simp
          have hnmn : nm ≤ nn := by omega
          have hnnb : nn ≤ 10000 := hlcn.n10
          have kM := HU.out.hm.c
          have kN := HKN.out.c
          clear hkn hlon hlcn hnn
          go_upto_region 24 with fail
          clear f1 f2 e7 kM kN hltI
          go_wp2_with fail
          go_loopw [16] (fun s16 WV => ∃ j : Nat, nm ≤ j ∧ j ≤ nn ∧ s16 = .int .i64 j ∧ Below wu.heap.size wu WV) (fun s16 _ => nn - (intOf s16).toNat)
          case atStart => exact ⟨nm, Nat.le_refl _, hnmn, rfl, Below.refl _ _⟩
          case round =>
            obtain ⟨j, hj1, hj2, rfl, hb⟩ := hrel
            have HB := Lib.hid hb
            have HKV := Lib.hid (HKN.out.below hb)
            have HUV := Lib.hid (HU.out.below hb)
            have HLV := Lib.hid (HLO.out.below hb)
            have HCV := Lib.hid (HLC.out.below hb)
            clear hb
            have kN := HKV.out.c
            by_cases hjn : j < nn
            · have hjI : decide ((j : Int) < (nn : Int)) = true := decide_eq_true (by omega)
              obtain ⟨a, hu, hal, hsn⟩ := HON.out.pt (j := j) (by rw [HLL.out]; exact hj1) (by rw [HLC.out.ll]; exact hjn)
              obtain ⟨gu, ou, rfl, hat⟩ := HCV.out.unAt j hjn
              rw [hu] at hat
              rw [HML.out] at hal
              obtain ⟨pm', m', cm', qm', nm', dm', ev, hmc, _⟩ := HUV.out.lm
              injection ev with ev
              simp at ev
              obtain ⟨⟨rfl, rfl, rfl⟩, _, _⟩ := ev
              obtain ⟨gm, om, rfl, hgm, hcm⟩ := hmc.wdAt a hal
              obtain ⟨v, hv⟩ : ∃ z, z = M.mem.getD a 0 := ⟨_, rfl⟩
              rw [← hv] at hat hcm
              rw [← HMS.out] at hat
              have hsa := HUV.out.hs.c a
              rw [bl_at seen a (by rw [HON.out.sl, HML.out]; exact hal), hsn] at hsa
              have c0 := hat.c0
              have c1 := hat.c1
              have c2 := hat.c2
              dsimp only at c0 c1 c2
              have hjI1 : (0 : Int) ≤ (j : Int) := by omega
              have hjI2 : (j : Int) < (nn : Int) := by omega
              have haI1 : (0 : Int) ≤ (a : Int) := by omega
              have haI2 : (a : Int) < (k : Int) := by omega
              have eS : (s != s) = false := by simp
              have eV : (v != v) = false := by simp
              have kM := HUV.out.hm.c
              clear hu hv hat hmc hsn
              go_upto_region 26 with fail
              obtain ⟨w8, hw8⟩ : ∃ z, z = wr.drew := ⟨_, rfl⟩
              have HB8 : Hid (Below wr.heap.size wr w8) := Lib.hid (by rw [hw8]; exact (Below.refl _ _).drew)
              have hz : w8.heap = wr.heap := by rw [hw8]; rfl
              have cc : ∀ p, w8.cell? p = wr.cell? p := fun p => by rw [hw8]; rfl
              refine region_plan (fun w' : World => w' = w8) 39 [(0, true), (1, true), (2, true), (3, true), (4, true), (5, true), (6, true), (7, true), (8, true), (9, true), (10, true), (11, true), (12, true), (13, true), (14, true), (15, true), (16, true), (17, true), (18, true), (19, true), (20, true), (21, true), (22, true), (23, true), (24, true), (25, true), (26, true), (27, true), (28, true), (29, true), (30, true), (31, true), (32, true), (33, true), (34, true), (35, true), (36, true), (37, true), (38, true)] (by kernel_rfl) (by kernel_rfl) hw8.symm ?_
              rw [← hw8]
              clear hw8 hz
              iterate 39
                refine plan_read (v := ?_) rfl (by rfl) ?_ ?_
                rotate_left
                · intro w' hS
                  try dsimp only at hS
                  subst hS
                  go_simp
                  try with_reducible rfl
                try simp only [Act.put, List.setIfInBounds_toArray, List.set_cons_zero, List.set_cons_succ, List.getElem_toArray, List.getElem_cons_zero, List.getElem_cons_succ]
              refine plan_nil ?_
              simp only [List.drop_succ_cons, List.drop_zero]
              go_wp2_with fail
              go_roundw
              case rel => exact ⟨j + 1, by omega, by omega, by go_num, HB.out.trans (HB8.out.mono HB.out.size)⟩
              case measure => simp [intOf]; omega
            · have hjI : decide ((j : Int) < (nn : Int)) = false := decide_eq_false (by omega)
              have kM := HUV.out.hm.c
              have hq := back_any (fun _ => False) _ N s wr HLV.out (fun _ h => h.elim)
              have hbk := HON.out.back
              rw [← HMS.out] at hbk
              rw [hbk.1, hbk.2] at hq
              have HQ := Lib.hid hq
              clear hq hbk
              go_upto_region 28 with fail
              go_wp2_with fail
              refine HQ.out.mono ?_
              clear HQ kM kN
              rintro e w9 ⟨vv, rfl, hlo, hb9⟩
              have HUX := Lib.hid (HUV.out.below hb9)
              obtain ⟨p9, k9, c9, q9, n9, d9, rfl, hcc, hoff⟩ := hlo
              rw [← HMS.out]
              have HL9 : Hid (Lo (fun _ => False) w9 (.agg #[.slice p9 k9 c9, .int .i64 s, .slice q9 n9 d9]) M) := Lib.hid ⟨p9, k9, c9, q9, n9, d9, by rw [HMS.out], hcc, hoff⟩
              clear hcc hoff hb9 HUV
              go_upto_region 29 with fail
              obtain ⟨wx, hwx⟩ : ∃ z, z = w9.alloc (.cells #[.slice p9 k9 c9, .int .i64 s, .slice q9 n9 d9] 25) := ⟨_, rfl⟩
              have HBX : Hid (Below w9.heap.size w9 wx) := Lib.hid (by rw [hwx]; exact (Below.refl _ _).alloc (Nat.le_refl _) _)
              have HKX : Hid (Blk wx w9.heap.size #[.slice p9 k9 c9, .int .i64 s, .slice q9 n9 d9]) := Lib.hid (by rw [hwx]; exact Blk.new _ _ _)
              have HUY := Lib.hid (HUX.out.below HBX.out)
              have HLY := Lib.hid (HL9.out.below HBX.out)
              rw [← hwx]
              clear hwx HUX HL9 HBX
              have kX := HKX.out.c
              have kM := HUY.out.hm.c
              have hq := same_any _ _ _ _ M wx HLY.out HUY.out.lm
              have HQ := Lib.hid hq
              clear hq
              go_wp2_with fail
              refine HQ.out.mono ?_
              clear HQ kX kM
              rintro e wy ⟨rfl, hb⟩
              have HBY : Hid (Below w.heap.size w wy) := Lib.hid (HUY.out.hb.trans (hb.mono HUY.out.hb.size))
              clear hb
              go_wp2_with fail
              go_ret
              exact ⟨rfl, HBY.out⟩

end Go.Proofs.Ytbgllkjhgjoodaa
