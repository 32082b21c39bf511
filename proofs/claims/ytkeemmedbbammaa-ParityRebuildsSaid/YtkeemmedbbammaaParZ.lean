/- ParityRebuilds: the walk of the statement's function. -/
import Derived.Test.YtkeemmedbbammaaParZa
import Derived.Deep.CutBlock
import Derived.Deep.DeepCutAuto
namespace Go.Proofs.Ytkeemmedbbammaa
set_option linter.unusedVariables false
open Go.ChangeShapes Go.WideShapes Go.ChangeAt Go.RowKit

set_option maxHeartbeats 32000000 in
set_option maxRecDepth 100000 in
theorem rebuilds_main (A C D : Nat) (s0 : Option Addr) (len cap : Nat) (ps : List Pt) (w : World) (hA : A < 256) (hC : C < 256) (hD : D < 256) (hl : ps.length = len) (hmx : len ≤ maxLen) (hf : ∀ y ∈ ps, y.Fits) (hels : Els w s0 3 len (fun k => (ps.getD k pt0).row)) :
    Calls Try.prog 4 #[.int .u8 A, .int .u8 C, .slice s0 len cap, .int .u8 D] w fun e w' => e = .returned (.bool true) ∧ Below w.heap.size w w' := by
  unfold maxLen at hmx
  have HL := Lib.hid hl
  have HF := Lib.hid hf
  have HE := Lib.hid hels
  clear hl hf hels
  obtain ⟨i6, hi6, hz60, hz61, hz62⟩ := info_parts info26
  have HI6 := Lib.hid (And.intro hi6 (And.intro hz60 (And.intro hz61 hz62)))
  obtain ⟨i3, hi3, hz30, hz31, hz32⟩ := info_parts info23
  have HI3 := Lib.hid (And.intro hi3 (And.intro hz30 (And.intro hz31 hz32)))
  clear hi6 hz60 hz61 hz62 hi3 hz30 hz31 hz32
  go_enter Try.func4, Try.ntmps4
  go_wp2_with fail
  refine (awake_any _).mono ?_
  rintro e w1 ⟨rfl, hb1⟩
  have HB1 := Lib.hid hb1
  clear hb1
  go_upto_region 4 with fail
  obtain ⟨n, hn⟩ : ∃ n : Nat, n = A % 8 + 1 := ⟨_, rfl⟩
  obtain ⟨m, hm⟩ : ∃ m : Nat, m = C % 16 + 1 := ⟨_, rfl⟩
  have en : (A : Int) % 8 + 1 = (n : Int) := by omega
  have em : (C : Int) % 16 + 1 = (m : Int) := by omega
  rw [en, em]
  have hn1 : 1 ≤ n := by omega
  have hn8 : n ≤ 8 := by omega
  have hm1 : 1 ≤ m := by omega
  have hm16 : m ≤ 16 := by omega
  clear hn hm en em
  obtain ⟨hgood, hE, hzero⟩ := new_good (n := n) (m := m) ⟨hn1, hn8, hm1, by omega⟩
  have hnew := new_any (n : Int) (m : Int) w1
  rw [hE] at hnew
  obtain ⟨B, hB⟩ : ∃ B, B = newB (n : Int) (m : Int) := ⟨_, rfl⟩
  have hrows : newB (n : Int) (m : Int) = ⟨List.replicate n (List.replicate m 0), List.replicate m 0, 0⟩ := by
    have e : mayN (n : Int) (m : Int) = true := by unfold mayN; exact decide_eq_true (by omega)
    unfold newB; rw [e, if_pos rfl]; simp only [Int.toNat_natCast]
  rw [← hB] at hgood hnew hrows
  have HG := Lib.hid hgood
  have HRW : Hid (B.rows = List.replicate n (List.replicate m 0)) := Lib.hid (by rw [hrows])
  clear hB hE hgood hzero hrows
  go_wp2_with fail
  refine hnew.mono ?_
  clear hnew
  rintro e w2 ⟨p, n', c, xs, pp, m', cc, rfl, ho, hb⟩
  have hnn : n' = n := by rw [← ho.zn]; exact HG.out.zn
  have hmm : m' = m := by rw [← ho.zm]; exact HG.out.zm
  subst hnn hmm
  have HO2 := Lib.hid ho.bn
  have HB2 : Hid (Below w.heap.size w w2) := Lib.hid (HB1.out.trans (hb.mono HB1.out.size))
  clear ho hb HB1
  go_upto_region 7 with fail
  have HA2 : Hid (Below w2.heap.size w2 (w2.alloc (.cells #[.slice p n' c, .slice pp m' cc, .int .i64 B.lost] 25))) := Lib.hid ((Below.refl _ _).alloc (Nat.le_refl _) _)
  have HKB : Hid (Blk (w2.alloc (.cells #[.slice p n' c, .slice pp m' cc, .int .i64 B.lost] 25)) w2.heap.size #[.slice p n' c, .slice pp m' cc, .int .i64 B.lost]) := Lib.hid (Blk.new _ _ _)
  have HO3 := Lib.hid (HO2.out.below HA2.out)
  have HB3 : Hid (Below w.heap.size w (w2.alloc (.cells #[.slice p n' c, .slice pp m' cc, .int .i64 B.lost] 25))) := Lib.hid (HB2.out.trans (HA2.out.mono HB2.out.size))
  have HGE : Hid (w.heap.size ≤ w2.heap.size) := Lib.hid HB2.out.size
  obtain ⟨b1, hb1⟩ : ∃ b, b = w2.heap.size := ⟨_, rfl⟩
  obtain ⟨w3, hw3⟩ : ∃ w3, w3 = w2.alloc (.cells #[.slice p n' c, .slice pp m' cc, .int .i64 B.lost] 25) := ⟨_, rfl⟩
  have HS3 : Hid (w3.heap.size = b1 + 1) := Lib.hid (by rw [hw3, hb1, size_new])
  rw [← hw3] at HKB HO3 HB3 ⊢
  rw [← hb1] at HKB HGE ⊢
  clear hw3 hb1 HO2 HB2 HA2
  obtain ⟨L, hL⟩ : ∃ L, L = B.rows := ⟨_, rfl⟩
  have HLL : Hid (L.length = n') := Lib.hid (by rw [hL]; exact HG.out.zn)
  have HLD : Hid (∀ k, k < n' → L.getD k [] = List.replicate m' 0) := Lib.hid (fun k hk => by rw [hL, HRW.out]; exact getD_rep _ _ _ _ hk)
  have HLE := Lib.hid hL
  clear hL
  go_upto_region 8 with (first | (refine wpList_make_full _ rfl _ _ 22 rfl (b1 + 1) 23 i3 (.slice none 0 0) 1 Try.underlying22 HI3.out.1 HI3.out.2.1 HI3.out.2.2.1 .i64 .i64 n' n' n' rfl rfl rfl rfl (by rw [HI3.out.2.2.2]; omega) (by unfold maxLen; omega) (Nat.le_of_eq HS3.out.symm) ?_))
  intro w4 g1 g2
  have hmc : (madeCells #[Value.slice none 0 0] n').toList = List.replicate n' (.slice none 0 0) := toList_madeCells_one _ _
  rw [hmc] at g1
  have HB4 : Hid (Below w3.heap.size w3 w4) := Lib.hid ((Below.refl _ _).grown g2 (Nat.le_refl _) (fun k hk => by cases hk))
  obtain ⟨g, hg⟩ : ∃ g, g = w3.heap.size := ⟨_, rfl⟩
  rw [← hg] at g1 ⊢
  have HM4 : Hid (OwnK (b1 + 1) w4 (.slice (some ⟨g, 0, none⟩) L.length n') (List.replicate n' (.slice none 0 0)) (List.replicate n' (.slice none 0 0)) L 0) := Lib.hid (OwnK.begin (by rw [HLL.out]; exact g1))
  have HG0 : Hid (g = b1 + 1) := Lib.hid (by rw [hg, HS3.out])
  have HKB4 := Lib.hid (HKB.out.below HB4.out)
  have HO4 := Lib.hid (HO3.out.below HB4.out)
  have HBW4 : Hid (Below w.heap.size w w4) := Lib.hid (HB3.out.trans (HB4.out.mono HB3.out.size))
  have HFG : Hid (Off g p xs B.rows pp B.par) := Lib.hid (HO3.out.off (Nat.le_of_eq hg.symm))
  clear g1 g2 hmc hg HS3 HKB HO3 HB3 HB4
  go_wp2_with fail
  go_loopw [14] (fun s wr => ∃ k : Nat, k ≤ n' ∧ s = .int .i64 k ∧ (∃ ys, OwnK (b1 + 1) wr (.slice (some ⟨g, 0, none⟩) L.length n') (List.replicate n' (.slice none 0 0)) ys L k) ∧ Blk wr b1 #[.slice p n' c, .slice pp m' cc, .int .i64 B.lost] ∧ Bn wr p n' c xs pp m' cc B ∧ Below w.heap.size w wr) (fun s _ => n' - (intOf s).toNat)
  case atStart => exact ⟨0, Nat.zero_le _, rfl, ⟨_, HM4.out⟩, HKB4.out, HO4.out, HBW4.out⟩
  case round =>
    obtain ⟨k, hk, rfl, ⟨ys, ho⟩, hkb, hbn, hb⟩ := hrel
    clear HM4 HKB4 HO4 HBW4
    have HM := Lib.hid ho
    have HKB := Lib.hid hkb
    have HO := Lib.hid hbn
    have HB := Lib.hid hb
    clear ho hkb hbn hb
    have HGS : Hid (g < wr.heap.size) := Lib.hid (HM.out.row.lt g rfl).2
    by_cases hlt : k < n'
    · have hltI : decide ((k : Int) < n') = true := decide_eq_true (by omega)
      go_wp2_with (first | (refine wpList_make_full _ rfl _ _ 23 rfl wr.heap.size 26 i6 (.int .u32 0) 1 Try.underlying23 HI6.out.1 HI6.out.2.1 HI6.out.2.2.1 .i64 .i64 m' m' m' rfl rfl rfl rfl (by rw [HI6.out.2.2.2]; omega) (by unfold maxLen; omega) (Nat.le_refl _) ?_))
      intro w5 g1 g2
      have HB5 : Hid (Below wr.heap.size wr w5) := Lib.hid ((Below.refl _ _).grown g2 (Nat.le_refl _) (fun k hk => by cases hk))
      have HW5 := Lib.hid (Wd.made g1)
      have HM5 := Lib.hid (HM.out.step (r := .slice (some ⟨wr.heap.size, 0, none⟩) m' m') (by rw [HLL.out]; exact hlt) (by have := HGS.out; have := HG0.out; omega) HB5.out (by rw [HLD.out k hlt, List.length_replicate]; exact HW5.out.row))
      have HMB := Lib.hid (HM.out.below HB5.out)
      have hcg : ∃ u, w5.cell? ⟨g, k, none⟩ = some u := by
        have hr := HMB.out.row
        exact ⟨_, by rw [hr.cellAt k (by rw [HLL.out]; omega)]; exact List.getElem?_eq_getElem (by rw [hr.1, HLL.out]; omega)⟩
      obtain ⟨u5, hu5⟩ := hcg
      have hf5 : w5.frozen? ⟨g, k, none⟩ = false := HMB.out.row.frozenAt k
      have HKB5 := Lib.hid ((HKB.out.below HB5.out).other (B' := g) (n := k) (.slice (some ⟨wr.heap.size, 0, none⟩) m' m') (by have := HG0.out; omega))
      have HO5 := Lib.hid ((HO.out.below HB5.out).set HFG.out k (.slice (some ⟨wr.heap.size, 0, none⟩) m' m'))
      have HBB := Lib.hid ((HB.out.trans (HB5.out.mono HB.out.size)).setCell (p := ⟨g, k, none⟩) (by show w.heap.size ≤ g; have := HG0.out; have := HGE.out; omega) (.slice (some ⟨wr.heap.size, 0, none⟩) m' m'))
      clear g1 g2
      go_wp2_with fail
      go_roundw
      case rel => exact ⟨k + 1, by omega, by go_num, ⟨_, HM5.out⟩, HKB5.out, HO5.out, HBB.out⟩
      case measure => simp [intOf]; omega
    · have hltI : decide ((k : Int) < n') = false := decide_eq_false (by omega)
      have hkn : k = L.length := by rw [HLL.out]; omega
      have hown := OwnK.done (hkn ▸ HM.out)
      rw [HLL.out, HLE.out] at hown
      have HMD : Hid (∃ ys, Md (b1 + 1) wr g n' ys B.rows) := Lib.hid ⟨ys, Md.of hown HG.out.zn (by omega) HO.out.rw_.l100 HO.out.rw_.lt⟩
      clear hown hkn HM HLL HLD HLE HFG
      go_wp2_with fail
      obtain ⟨ys1, hmd1⟩ := HMD.out
      have HMD1 := Lib.hid hmd1
      clear hmd1 HMD
      obtain ⟨W2, hW2⟩ : ∃ W, W = wr := ⟨_, rfl⟩
      rw [← hW2] at HKB HO HB HMD1 HGS ⊢
      clear hW2 HGS HRW
      go_loopw [15] (fun s wr => ∃ j : Nat, j ≤ len ∧ s = .int .i64 j ∧ ∃ B p c xs pp cc ys, Good B n' m' ∧ Blk wr b1 #[.slice p n' c, .slice pp m' cc, .int .i64 B.lost] ∧ Bn wr p n' c xs pp m' cc B ∧ Md (b1 + 1) wr g n' ys B.rows ∧ Below w.heap.size w wr) (fun s _ => len - (intOf s).toNat)
      case atStart => exact ⟨0, Nat.zero_le _, rfl, B, p, c, xs, pp, cc, ys1, HG.out, HKB.out, HO.out, HMD1.out, HB.out⟩
      case round =>
        clear HKB HO HB HMD1 HG hlt hltI hk
        obtain ⟨j, hj, rfl, B, p, c, xs, pp, cc, ys, hgood, hkb, hbn, hmd, hb⟩ := hrel
        have HG := Lib.hid hgood
        have HKB := Lib.hid hkb
        have HO := Lib.hid hbn
        have HMD := Lib.hid hmd
        have HB := Lib.hid hb
        clear hgood hkb hbn hmd hb
        go_upto_region 13 with fail
        go_cut [72] (fun s72 wd => s72 = .bool (decide (j < len ∧ j < 150)) ∧ wr = wd)
        case first =>
          by_cases h1 : j < len
          · have h1I : decide ((j : Int) < len) = true := decide_eq_true (by omega)
            by_cases h2 : j < 150
            · have h2I : decide ((j : Int) < 150) = true := decide_eq_true (by omega)
              have HGO : Hid (decide (j < len ∧ j < 150) = true) := Lib.hid (decide_eq_true ⟨h1, h2⟩)
              go_wp2_with fail
              go_meet
              case rel => exact ⟨by rw [HGO.out], rfl⟩
            · have h2I : decide ((j : Int) < 150) = false := decide_eq_false (by omega)
              have HGO : Hid (decide (j < len ∧ j < 150) = false) := Lib.hid (decide_eq_false (by omega))
              go_wp2_with fail
              go_meet
              case rel => exact ⟨by rw [HGO.out], rfl⟩
          · have h1I : decide ((j : Int) < len) = false := decide_eq_false (by omega)
            have HGO : Hid (decide (j < len ∧ j < 150) = false) := Lib.hid (decide_eq_false (by omega))
            go_wp2_with fail
            go_meet
            case rel => exact ⟨by rw [HGO.out], rfl⟩
        case rest =>
          obtain ⟨rfl, rfl⟩ := hcut
          by_cases hgo : j < len ∧ j < 150
          · rw [decide_eq_true hgo]
            obtain ⟨hjl, hj150⟩ := hgo
            obtain ⟨b, off, hbl, hs0, hc⟩ := HE.out (by omega)
            subst hs0
            have hfit := HF.out (ps.getD j pt0) (mem_getD ps pt0 j (by rw [HL.out]; exact hjl))
            obtain ⟨⟨yb, ya, yw⟩, hyy⟩ : ∃ y, ps.getD j pt0 = y := ⟨_, rfl⟩
            have hc0 : wr.cell? ⟨b, off + j * 3 + 0, none⟩ = (ps.getD j pt0).row[0]? := (HB.out.cell (p := ⟨b, off + j * 3 + 0, none⟩) hbl).trans (hc j hjl 0 (by decide))
            have hc1 : wr.cell? ⟨b, off + j * 3 + 1, none⟩ = (ps.getD j pt0).row[1]? := (HB.out.cell (p := ⟨b, off + j * 3 + 1, none⟩) hbl).trans (hc j hjl 1 (by decide))
            have hc2 : wr.cell? ⟨b, off + j * 3 + 2, none⟩ = (ps.getD j pt0).row[2]? := (HB.out.cell (p := ⟨b, off + j * 3 + 2, none⟩) hbl).trans (hc j hjl 2 (by decide))
            rw [hyy] at hc0 hc1 hc2 hfit
            have hd0 : wr.cell? ⟨b, off + j * 3, none⟩ = some (.int .u8 (yb : Int)) := hc0
            have hd1 : wr.cell? ⟨b, off + j * 3 + 1, none⟩ = some (.int .u8 (ya : Int)) := hc1
            have hd2 : wr.cell? ⟨b, off + j * 3 + 2, none⟩ = some (.int .u32 (yw : Int)) := hc2
            have hyb : yb < 256 := hfit.1
            have hya : ya < 256 := hfit.2.1
            have hyw : yw < 4294967296 := hfit.2.2
            have HD2 := Lib.hid hd2
            have HBL : Hid (b < wr.heap.size) := Lib.hid (Nat.lt_of_lt_of_le hbl HB.out.size)
            have hn0 : (n' : Int) ≠ 0 := by omega
            have hm0 : (m' : Int) ≠ 0 := by omega
            have hjI : (0 : Int) ≤ (j : Int) := by omega
            have hjI2 : (j : Int) < (len : Int) := by omega
            clear hc hc0 hc1 hc2 hyy hfit hbl
            go_upto_region 15 with fail
            go_quiet (fail)
            go_upto_region 16 with fail
            obtain ⟨k, hk⟩ : ∃ k, k = yb % n' := ⟨_, rfl⟩
            obtain ⟨i, hi⟩ : ∃ i, i = ya % m' := ⟨_, rfl⟩
            have ek : (yb : Int) % (n' : Int) = (k : Int) := by rw [hk]; exact (Int.natCast_emod yb n').symm
            have ei : (ya : Int) % (m' : Int) = (i : Int) := by rw [hi]; exact (Int.natCast_emod ya m').symm
            rw [ek, ei]
            have hkn : k < n' := by rw [hk]; exact Nat.mod_lt _ hn1
            have him : i < m' := by rw [hi]; exact Nat.mod_lt _ hm1
            clear ek ei hk hi hd0 hd1 hd2 hn0 hm0
            have HBQ : Hid (Below wr.heap.size wr (wr.drewN nq)) := Lib.hid (below_drewN (Below.refl _ _) _)
            obtain ⟨w5, hw5⟩ : ∃ w5, w5 = wr.drewN nq := ⟨_, rfl⟩
            rw [← hw5] at HBQ ⊢
            have HKB5 := Lib.hid (HKB.out.below HBQ.out)
            have HO5 := Lib.hid (HO.out.below HBQ.out)
            have HMD5 := Lib.hid (OwnB.below HMD.out HBQ.out)
            have HB5 : Hid (Below w.heap.size w w5) := Lib.hid (HB.out.trans (HBQ.out.mono HB.out.size))
            have HD5 : Hid (w5.cell? ⟨b, off + j * 3 + 2, none⟩ = some (.int .u32 (yw : Int))) := Lib.hid ((HBQ.out.cell (p := ⟨b, off + j * 3 + 2, none⟩) HBL.out).trans HD2.out)
            have HBL5 : Hid (b < w5.heap.size) := Lib.hid (Nat.lt_of_lt_of_le HBL.out HBQ.out.size)
            clear hw5 HBQ HKB HO HMD HB HD2 HBL
            obtain ⟨B2, hB2⟩ : ∃ B2, B2 = put B k i yw := ⟨_, rfl⟩
            have HG2 : Hid (Good B2 n' m') := Lib.hid (by rw [hB2]; exact put_good HG.out yw hkn him)
            have HB2 := Lib.hid hB2
            clear hB2
            go_cut [18, 19] (fun s18 s19 wd => ∃ b2, s18 = .pointer (some ⟨b2, 0, none⟩) ∧ s19 = .int .i64 0 ∧ Fresh w5 wd b2 n' m' B2)
            case first =>
              have hw := fun W hb => write_any p n' c xs pp m' cc B k i yw W (HO5.out.below hb) hyw
              rw [(write_good HG.out yw hkn him).1, (write_good HG.out yw hkn him).2, ← HB2.out] at hw
              have HW := Lib.hid hw
              clear hw
              have hS0 : ∀ W, Below w5.heap.size w5 W → ((∀ j, W.cell? ⟨b1, j, none⟩ = (#[.slice p n' c, .slice pp m' cc, .int .i64 B.lost] : Array Value)[j]?) ∧ W.cell? ⟨b, off + j * 3 + 2, none⟩ = some (.int .u32 (yw : Int))) ∧ Below w5.heap.size w5 W := fun W hb => ⟨⟨(HKB5.out.below hb).c, (hb.cell (p := ⟨b, off + j * 3 + 2, none⟩) HBL5.out).trans HD5.out⟩, hb⟩
              have HS0 := Lib.hid hS0
              clear hS0
              refine region_planT (fun W : World => ((∀ j, W.cell? ⟨b1, j, none⟩ = (#[.slice p n' c, .slice pp m' cc, .int .i64 B.lost] : Array Value)[j]?) ∧ W.cell? ⟨b, off + j * 3 + 2, none⟩ = some (.int .u32 (yw : Int))) ∧ Below w5.heap.size w5 W) 14 (.read 0 (.read 1 (.read 2 (.read 3 (.read 4 (.read 5 (.read 6 (.read 7 (.two 8 12 (.read 9 (.read 10 (.read 11 (.one 12 (.one 13 .stop))))) (.one 8 (.read 9 (.read 10 (.read 11 (.one 13 .stop)))))))))))))) (by kernel_rfl) (by kernel_rfl) (HS0.out _ (Below.refl _ _).drew) ?_
              iterate 8
                refine planT_read (v := ?_) rfl (by rfl) ?_ ?_
                rotate_left
                · intro w' hS
                  try dsimp only at hS
                  obtain ⟨⟨hS1, hS2⟩, hS3⟩ := hS
                  go_simp
                  try with_reducible rfl
                try simp only [Act.put, List.setIfInBounds_toArray, List.set_cons_zero, List.set_cons_succ, List.getElem_toArray, List.getElem_cons_zero, List.getElem_cons_succ]
              refine planT_two ?_ ?_
              · skip
                have hcall := HW.out w5.drew ((Below.refl _ _).drew)
                refine op_call (F := 10) (args := ?_) rfl (by rfl) ?_ ?_
                rotate_left
                · go_simp
                  rfl
                refine (hcall).mono ?_
                rintro e w6 ⟨p6, c6, ys6, pp6, cc6, rfl, ho, hb⟩
                have HB6 : Hid (Below w5.heap.size w5 w6) := Lib.hid ((Below.refl _ _).drew.trans hb)
                refine ⟨_, rfl, HS0.out _ HB6.out, ?_⟩
                try simp only [Act.put, List.setIfInBounds_toArray, List.set_cons_zero, List.set_cons_succ, List.getElem_toArray, List.getElem_cons_zero, List.getElem_cons_succ]
                iterate 3
                  refine planT_read (v := ?_) rfl (by rfl) ?_ ?_
                  rotate_left
                  · intro w' hS
                    try dsimp only at hS
                    go_simp
                    try with_reducible rfl
                  try simp only [Act.put, List.setIfInBounds_toArray, List.set_cons_zero, List.set_cons_succ, List.getElem_toArray, List.getElem_cons_zero, List.getElem_cons_succ]
                refine planT_one ?_
                refine op_make (v := .pointer (some ⟨w6.heap.size, 0, none⟩)) (w1 := w6.alloc (.cells #[.slice none 0 0, .slice none 0 0, .int .i64 0] 25)) rfl (by rfl) (by go_simp) ⟨HS0.out _ (HB6.out.alloc HB6.out.size _), ?_⟩
                try simp only [Act.put, List.setIfInBounds_toArray, List.set_cons_zero, List.set_cons_succ, List.getElem_toArray, List.getElem_cons_zero, List.getElem_cons_succ]
                refine planT_one ?_
                refine op_store (w1 := w6.alloc (.cells #[.slice p6 n' c6, .slice pp6 m' cc6, .int .i64 B2.lost] 25)) rfl (by rfl) (by go_simp) ⟨HS0.out _ (HB6.out.alloc HB6.out.size _), ?_⟩
                try simp only [Act.put, List.setIfInBounds_toArray, List.set_cons_zero, List.set_cons_succ, List.getElem_toArray, List.getElem_cons_zero, List.getElem_cons_succ]
                refine planT_stop ?_
                simp only [List.drop_succ_cons, List.drop_zero]
                have HFR : Hid (Fresh w5 (w6.alloc (.cells #[.slice p6 n' c6, .slice pp6 m' cc6, .int .i64 B2.lost] 25)) w6.heap.size n' m' B2) := Lib.hid (Fresh.drew (Fresh.first ho hb))
                go_wp2_with fail
                go_meet
                case rel => exact ⟨_, rfl, rfl, HFR.out⟩
              · have HA5 : Hid (Below w5.heap.size w5 (w5.drew.alloc (.cells #[.slice none 0 0, .slice none 0 0, .int .i64 0] 25))) := Lib.hid ((Below.refl _ _).drew.alloc (Nat.le_refl _) _)
                refine op_make (v := .pointer (some ⟨w5.heap.size, 0, none⟩)) (w1 := w5.drew.alloc (.cells #[.slice none 0 0, .slice none 0 0, .int .i64 0] 25)) rfl (by rfl) (by go_simp) ⟨HS0.out _ HA5.out, ?_⟩
                try simp only [Act.put, List.setIfInBounds_toArray, List.set_cons_zero, List.set_cons_succ, List.getElem_toArray, List.getElem_cons_zero, List.getElem_cons_succ]
                refine planT_one ?_
                have hcall := HW.out _ HA5.out
                refine op_call (F := 10) (args := ?_) rfl (by rfl) ?_ ?_
                rotate_left
                · go_simp
                  rfl
                refine (hcall).mono ?_
                rintro e w6 ⟨p6, c6, ys6, pp6, cc6, rfl, ho, hb⟩
                have HB6 : Hid (Below w5.heap.size w5 w6) := Lib.hid (HA5.out.trans (hb.mono HA5.out.size))
                refine ⟨_, rfl, HS0.out _ HB6.out, ?_⟩
                try simp only [Act.put, List.setIfInBounds_toArray, List.set_cons_zero, List.set_cons_succ, List.getElem_toArray, List.getElem_cons_zero, List.getElem_cons_succ]
                iterate 3
                  refine planT_read (v := ?_) rfl (by rfl) ?_ ?_
                  rotate_left
                  · intro w' hS
                    try dsimp only at hS
                    go_simp
                    try with_reducible rfl
                  try simp only [Act.put, List.setIfInBounds_toArray, List.set_cons_zero, List.set_cons_succ, List.getElem_toArray, List.getElem_cons_zero, List.getElem_cons_succ]
                refine planT_one ?_
                have HZ6 : Hid (Blk w6 w5.heap.size #[.slice none 0 0, .slice none 0 0, .int .i64 0]) := Lib.hid ((Blk.new w5.drew #[.slice none 0 0, .slice none 0 0, .int .i64 0] 25).below hb)
                have HFR : Hid (Fresh w5 (((w6.setCell ⟨w5.heap.size, 0, none⟩ (.slice p6 n' c6)).setCell ⟨w5.heap.size, 1, none⟩ (.slice pp6 m' cc6)).setCell ⟨w5.heap.size, 2, none⟩ (.int .i64 B2.lost)) w5.heap.size n' m' B2) := Lib.hid (Fresh.drew (Fresh.later rfl ho hb))
                have cZ := HZ6.out.c
                have fZ := HZ6.out.f
                have lZ := HZ6.out.lt
                refine op_store (w1 := ((w6.setCell ⟨w5.heap.size, 0, none⟩ (.slice p6 n' c6)).setCell ⟨w5.heap.size, 1, none⟩ (.slice pp6 m' cc6)).setCell ⟨w5.heap.size, 2, none⟩ (.int .i64 B2.lost)) rfl (by rfl) (by go_simp) ⟨HS0.out _ (set3_below HB6.out (Nat.le_refl _) _ _ _), ?_⟩
                try simp only [Act.put, List.setIfInBounds_toArray, List.set_cons_zero, List.set_cons_succ, List.getElem_toArray, List.getElem_cons_zero, List.getElem_cons_succ]
                refine planT_stop ?_
                simp only [List.drop_succ_cons, List.drop_zero]
                clear cZ fZ lZ
                go_wp2_with fail
                go_meet
                case rel => exact ⟨_, rfl, rfl, HFR.out⟩
            case rest =>
              obtain ⟨b2, rfl, rfl, hfr⟩ := hcut
              obtain ⟨p6, c6, ys6, pp6, cc6, hge, hkc, hbc, hoff, hbel⟩ := hfr
              have HB6 := Lib.hid hbel
              have HOFF := Lib.hid hoff
              have HGE2 := Lib.hid hge
              have hlk := HG.out.all k hkn
              obtain ⟨g', gr, cr, he, hyj, _, _, hgr0, hgr1, hcr, _, hcg, _, hcw, hfw⟩ := OwnB.rowAt HMD5.out hkn (by show 0 < (B.rows.getD k []).length; rw [hlk]; omega)
              injection he with he
              injection he with he
              subst he
              have hyj' : ys.getD k vz = .slice (some ⟨gr, 0, none⟩) m' cr := by rw [← hlk]; exact hyj
              have hcg' : w5.cell? ⟨g, k, none⟩ = some (.slice (some ⟨gr, 0, none⟩) m' cr) := by rw [← hlk]; exact hcg
              have hcw' : ∃ u, w5.cell? ⟨gr, i, none⟩ = some u := ⟨_, hcw i (by show i < (B.rows.getD k []).length; rw [hlk]; exact him)⟩
              obtain ⟨u0, hu0⟩ := hcw'
              have hgl : g < w5.heap.size := (HMD5.out.under).head g rfl
              have HGL := Lib.hid hgl
              obtain ⟨w8, hw8⟩ : ∃ w8, w8 = wc.drew := ⟨_, rfl⟩
              have HB8 : Hid (Below w5.heap.size w5 w8) := Lib.hid (by rw [hw8]; exact HB6.out.drew)
              have kcg : w8.cell? ⟨g, k, none⟩ = some (.slice (some ⟨gr, 0, none⟩) m' cr) := (HB8.out.cell (p := ⟨g, k, none⟩) HGL.out).trans hcg'
              have kcw : w8.cell? ⟨gr, i, none⟩ = some u0 := (HB8.out.cell (p := ⟨gr, i, none⟩) hgr1).trans hu0
              have kfw : w8.frozen? ⟨gr, i, none⟩ = false := (HB8.out.frozen (p := ⟨gr, i, none⟩) hgr1).trans (hfw i)
              have kd : w8.cell? ⟨b, off + j * 3 + 2, none⟩ = some (.int .u32 (yw : Int)) := (HB8.out.cell (p := ⟨b, off + j * 3 + 2, none⟩) HBL5.out).trans HD5.out
              have HKC8 : Hid (Blk w8 b2 #[.slice p6 n' c6, .slice pp6 m' cc6, .int .i64 B2.lost]) := Lib.hid (by rw [hw8]; exact hkc.drew)
              have HC8 : Hid (Bn w8 p6 n' c6 ys6 pp6 m' cc6 B2) := Lib.hid (by rw [hw8]; exact hbc.below (Below.refl _ _).drew)
              have HKB8 := Lib.hid (HKB5.out.below HB8.out)
              have HMD8 := Lib.hid (OwnB.below HMD5.out HB8.out)
              have HBW8 : Hid (Below w.heap.size w w8) := Lib.hid (HB5.out.trans (HB8.out.mono HB5.out.size))
              have HGR0 := Lib.hid hgr0
              have HGR1 := Lib.hid hgr1
              have HYJ := Lib.hid hyj'
              have HLK := Lib.hid hlk
              have hkI : (0 : Int) ≤ (k : Int) := by omega
              have hkI2 : (k : Int) < (n' : Int) := by omega
              have hiI : (0 : Int) ≤ (i : Int) := by omega
              have hiI2 : (i : Int) < (m' : Int) := by omega
              clear hbel hoff hge hkc hbc hyj hyj' hcg hcg' hcw hfw hu0 hgl hgr0 hgr1 hlk HKB5 HO5 HMD5 HB5 HD5 HBL5 HB6
              go_upto_region 19 with fail
              refine region_plan (fun w' : World => w' = w8) 11 [(0, true), (1, true), (2, true), (3, true), (4, true), (5, true), (6, true), (7, true), (8, true), (9, true), (10, true)] (by kernel_rfl) (by kernel_rfl) hw8.symm ?_
              rw [← hw8]
              clear hw8
              iterate 11
                refine plan_read (v := ?_) rfl (by rfl) ?_ ?_
                rotate_left
                · intro w' hS
                  try dsimp only at hS
                  subst hS
                  go_simp
                  try with_reducible rfl
                try simp only [Act.put, List.setIfInBounds_toArray, List.set_cons_zero, List.set_cons_succ, List.getElem_toArray, List.getElem_cons_zero, List.getElem_cons_succ]
              refine plan_nil ?_
              simp only [List.drop_succ_cons, List.drop_zero]
              go_upto_region 20 with fail
              obtain ⟨w9, hw9⟩ : ∃ w9, w9 = w8.setCell ⟨gr, i, none⟩ (.int .u32 (yw : Int)) := ⟨_, rfl⟩
              have HMD9 : Hid (Md (b1 + 1) w9 g n' ys B2.rows) := Lib.hid (by
                have hh := OwnB.putWord HMD8.out hkn HYJ.out HLK.out i yw hyw
                rw [HB2.out, put_form, hw9]
                exact hh)
              have HC9 : Hid (Bn w9 p6 n' c6 ys6 pp6 m' cc6 B2) := Lib.hid (by rw [hw9]; exact HC8.out.set (HOFF.out gr HGR1.out) _ _)
              have HKC9 : Hid (Blk w9 b2 #[.slice p6 n' c6, .slice pp6 m' cc6, .int .i64 B2.lost]) := Lib.hid (by rw [hw9]; exact HKC8.out.other _ (by have := HGR1.out; have := HGE2.out; omega))
              have HKB9 : Hid (Blk w9 b1 #[.slice p n' c, .slice pp m' cc, .int .i64 B.lost]) := Lib.hid (by rw [hw9]; exact HKB8.out.other _ (by have := HGR0.out; omega))
              have HBW9 : Hid (Below w.heap.size w w9) := Lib.hid (by rw [hw9]; exact HBW8.out.setCell (p := ⟨gr, i, none⟩) (by show w.heap.size ≤ gr; have := HGR0.out; have := HGE.out; omega) _)
              have HOB1 : Hid (Off b1 p6 ys6 B2.rows pp6 B2.par) := Lib.hid (HOFF.out b1 (by have := HGL.out; have := HG0.out; omega))
              rw [← hw9]
              clear hw9 kcg kcw kfw kd HKC8 HC8 HKB8 HMD8 HBW8 HOFF
              have cC := HKC9.out.c
              have cB := HKB9.out.c
              have fB := HKB9.out.f
              have lB := HKB9.out.lt
              go_upto_region 14 with fail
              obtain ⟨w10, hw10⟩ : ∃ w10, w10 = ((w9.setCell ⟨b1, 0, none⟩ (.slice p6 n' c6)).setCell ⟨b1, 1, none⟩ (.slice pp6 m' cc6)).setCell ⟨b1, 2, none⟩ (.int .i64 B2.lost) := ⟨_, rfl⟩
              have HMDF : Hid (Md (b1 + 1) w10 g n' ys B2.rows) := Lib.hid (by rw [hw10]; exact ownB_off3 HMD9.out (by omega) _ _ _)
              have HCF : Hid (Bn w10 p6 n' c6 ys6 pp6 m' cc6 B2) := Lib.hid (by rw [hw10]; exact HC9.out.set3 HOB1.out _ _ _)
              have HKBF : Hid (Blk w10 b1 #[.slice p6 n' c6, .slice pp6 m' cc6, .int .i64 B2.lost]) := Lib.hid (by rw [hw10]; exact set3_same HKB9.out _ _ _)
              have HBWF : Hid (Below w.heap.size w w10) := Lib.hid (by rw [hw10]; exact set3_below HBW9.out HGE.out _ _ _)
              rw [← hw10]
              clear hw10 cC cB fB lB
              go_wp2_with fail
              go_roundw
              case rel => exact ⟨j + 1, by omega, by go_num, B2, p6, c6, ys6, pp6, cc6, ys, HG2.out, HKBF.out, HCF.out, HMDF.out, HBWF.out⟩
              case measure => simp [intOf]; omega
          · rw [decide_eq_false hgo]
            clear hgo
            obtain ⟨kl, hkl⟩ : ∃ k, k = D % n' := ⟨_, rfl⟩
            have ekl : (D : Int) % (n' : Int) = (kl : Int) := by rw [hkl]; exact (Int.natCast_emod D n').symm
            have hkn : kl < n' := by rw [hkl]; exact Nat.mod_lt _ hn1
            have hn0 : (n' : Int) ≠ 0 := by omega
            have cB := HKB.out.c
            go_upto_region 22 with fail
            try rw [ekl]
            have h22 := lose_any p n' c xs pp m' cc B (kl : Int) wr HO.out
            rw [(gone_form HG.out hkn).2] at h22
            obtain ⟨Cg, hCg⟩ : ∃ C, C = gone B kl := ⟨_, rfl⟩
            have hCg2 : loseB B (kl : Int) = Cg := by rw [hCg]; rfl
            rw [hCg2] at h22
            have HCG := Lib.hid hCg
            clear hCg hCg2 hkl
            go_wp2_with fail
            refine h22.mono ?_
            clear h22
            rintro e w6 ⟨p6, c6, ys6, pp6, cc6, rfl, ho, hb⟩
            have HC6 := Lib.hid ho.bn
            have HMD6 := Lib.hid (OwnB.below HMD.out hb)
            have HB6 : Hid (Below w.heap.size w w6) := Lib.hid (HB.out.trans (hb.mono HB.out.size))
            clear ho hb HKB HO HMD HB cB
            go_upto_region 23 with fail
            have HA6 : Hid (Below w6.heap.size w6 (w6.alloc (.cells #[.slice p6 n' c6, .slice pp6 m' cc6, .int .i64 Cg.lost] 25))) := Lib.hid ((Below.refl _ _).alloc (Nat.le_refl _) _)
            have HKC7 : Hid (Blk (w6.alloc (.cells #[.slice p6 n' c6, .slice pp6 m' cc6, .int .i64 Cg.lost] 25)) w6.heap.size #[.slice p6 n' c6, .slice pp6 m' cc6, .int .i64 Cg.lost]) := Lib.hid (Blk.new _ _ _)
            obtain ⟨bc, hbc⟩ : ∃ b, b = w6.heap.size := ⟨_, rfl⟩
            obtain ⟨w7, hw7⟩ : ∃ w7, w7 = w6.alloc (.cells #[.slice p6 n' c6, .slice pp6 m' cc6, .int .i64 Cg.lost] 25) := ⟨_, rfl⟩
            rw [← hw7] at HA6 HKC7 ⊢
            have HC7 := Lib.hid (HC6.out.below HA6.out)
            have HMD7 := Lib.hid (OwnB.below HMD6.out HA6.out)
            have HB7 : Hid (Below w.heap.size w w7) := Lib.hid (HB6.out.trans (HA6.out.mono HB6.out.size))
            rw [← hbc] at HKC7 ⊢
            clear hw7 hbc HC6 HMD6 HB6 HA6
            obtain ⟨k2, hk2⟩ : ∃ k2, k2 = (kl + 1) % n' := ⟨_, rfl⟩
            have ek2 : ((kl : Int) + 1) % (n' : Int) = (k2 : Int) := by rw [hk2]; exact (Int.natCast_emod (kl + 1) n').symm
            have hk2n : k2 < n' := by rw [hk2]; exact Nat.mod_lt _ hn1
            have wkl : IntKind.i64.wrap ((kl : Int) + 1) = (kl : Int) + 1 := by rw [IntKind.wrap_i64]; omega
            have HHL : Hid (hasW Cg (k2 : Int) (0 : Int) = true) := Lib.hid (by rw [HCG.out]; exact gone_hasW HG.out hkn hk2n (i := 0) (by omega))
            have HWE : Hid (writeE Cg (k2 : Int) 0 = 8) := Lib.hid (by rw [HCG.out]; exact gone_write HG.out hkn hk2n (i := 0) (by omega))
            have HLE2 : Hid (loseE Cg (kl : Int) = 8) := Lib.hid (by rw [HCG.out]; exact gone_lose HG.out hkn)
            have HBK : Hid (rebuildB Cg = B ∧ rebuildE Cg = 0) := Lib.hid (by rw [HCG.out]; exact gone_back HG.out hkn)
            have HRC : Hid (rightB Cg = true) := Lib.hid (by rw [HCG.out]; exact gone_right HG.out hkn)
            clear hk2
            go_cut [24] (fun s24 wd => s24 = .int .i64 8 ∧ Below w7.heap.size w7 wd)
            case first =>
              have hw : ∀ W, Below w7.heap.size w7 W → Calls Try.prog 10 #[.agg #[.slice p6 n' c6, .slice pp6 m' cc6, .int .i64 Cg.lost], .int .i64 k2, .int .i64 0, .int .u32 7] W fun e w' => Back W w' e n' m' (writeB Cg (k2 : Int) 0 7) 8 := fun W hb => by
                have := write_any p6 n' c6 ys6 pp6 m' cc6 Cg (k2 : Int) 0 7 W (HC7.out.below hb) (by decide)
                rw [HWE.out] at this
                exact this
              have HW := Lib.hid hw
              have HS0 : Hid (∀ W, Below w7.heap.size w7 W → (∀ j, W.cell? ⟨bc, j, none⟩ = (#[.slice p6 n' c6, .slice pp6 m' cc6, .int .i64 Cg.lost] : Array Value)[j]?) ∧ Below w7.heap.size w7 W) := Lib.hid (fun W hb => ⟨(HKC7.out.below hb).c, hb⟩)
              clear hw
              refine region_planT (fun W : World => (∀ j, W.cell? ⟨bc, j, none⟩ = (#[.slice p6 n' c6, .slice pp6 m' cc6, .int .i64 Cg.lost] : Array Value)[j]?) ∧ Below w7.heap.size w7 W) 11 (.read 0 (.read 1 (.read 2 (.read 3 (.read 4 (.two 5 9 (.read 6 (.read 7 (.read 8 (.one 9 (.one 10 .stop))))) (.one 5 (.read 6 (.read 7 (.read 8 (.one 10 .stop))))))))))) (by kernel_rfl) (by kernel_rfl) (HS0.out _ (Below.refl _ _).drew) ?_
              iterate 4
                refine planT_read (v := ?_) rfl (by rfl) ?_ ?_
                rotate_left
                · intro w' hS
                  try dsimp only at hS
                  go_simp
                  try with_reducible rfl
                try simp only [Act.put, List.setIfInBounds_toArray, List.set_cons_zero, List.set_cons_succ, List.getElem_toArray, List.getElem_cons_zero, List.getElem_cons_succ]
              have hnz : ¬ n' = 0 := by omega
              have ek3 : ((kl : Int) + 1).tmod (n' : Int) = (k2 : Int) := by rw [Int.tmod_eq_emod_of_nonneg (by omega)]; exact ek2
              refine planT_read (v := .int .i64 (k2 : Int)) rfl (by rfl) (fun w' hS => by go_simp) ?_
              try simp only [Act.put, List.setIfInBounds_toArray, List.set_cons_zero, List.set_cons_succ, List.getElem_toArray, List.getElem_cons_zero, List.getElem_cons_succ]
              refine planT_two ?_ ?_
              · have hcall := HW.out w7.drew ((Below.refl _ _).drew)
                refine op_call (F := 10) (args := ?_) rfl (by rfl) ?_ ?_
                rotate_left
                · go_simp
                  rfl
                refine (hcall).mono ?_
                rintro e w8 ⟨p8, c8, ys8, pp8, cc8, rfl, ho, hb⟩
                have HB8 : Hid (Below w7.heap.size w7 w8) := Lib.hid ((Below.refl _ _).drew.trans hb)
                refine ⟨_, rfl, HS0.out _ HB8.out, ?_⟩
                try simp only [Act.put, List.setIfInBounds_toArray, List.set_cons_zero, List.set_cons_succ, List.getElem_toArray, List.getElem_cons_zero, List.getElem_cons_succ]
                iterate 3
                  refine planT_read (v := ?_) rfl (by rfl) ?_ ?_
                  rotate_left
                  · intro w' hS
                    try dsimp only at hS
                    go_simp
                    try with_reducible rfl
                  try simp only [Act.put, List.setIfInBounds_toArray, List.set_cons_zero, List.set_cons_succ, List.getElem_toArray, List.getElem_cons_zero, List.getElem_cons_succ]
                refine planT_one ?_
                refine op_make (v := .pointer (some ⟨w8.heap.size, 0, none⟩)) (w1 := w8.alloc (.cells #[.slice none 0 0, .slice none 0 0, .int .i64 0] 25)) rfl (by rfl) (by go_simp) ⟨HS0.out _ (HB8.out.alloc HB8.out.size _), ?_⟩
                try simp only [Act.put, List.setIfInBounds_toArray, List.set_cons_zero, List.set_cons_succ, List.getElem_toArray, List.getElem_cons_zero, List.getElem_cons_succ]
                refine planT_one ?_
                refine op_store (w1 := w8.alloc (.cells #[.slice p8 n' c8, .slice pp8 m' cc8, .int .i64 (writeB Cg (k2 : Int) 0 7).lost] 25)) rfl (by rfl) (by go_simp) ⟨HS0.out _ (HB8.out.alloc HB8.out.size _), ?_⟩
                try simp only [Act.put, List.setIfInBounds_toArray, List.set_cons_zero, List.set_cons_succ, List.getElem_toArray, List.getElem_cons_zero, List.getElem_cons_succ]
                refine planT_stop ?_
                simp only [List.drop_succ_cons, List.drop_zero]
                have HBF : Hid (Below w7.heap.size w7 (w8.alloc (.cells #[.slice p8 n' c8, .slice pp8 m' cc8, .int .i64 (writeB Cg (k2 : Int) 0 7).lost] 25))) := Lib.hid (HB8.out.alloc HB8.out.size _)
                go_wp2_with fail
                go_meet
                case rel => exact ⟨rfl, HBF.out⟩
              · have HA7 : Hid (Below w7.heap.size w7 (w7.drew.alloc (.cells #[.slice none 0 0, .slice none 0 0, .int .i64 0] 25))) := Lib.hid ((Below.refl _ _).drew.alloc (Nat.le_refl _) _)
                refine op_make (v := .pointer (some ⟨w7.heap.size, 0, none⟩)) (w1 := w7.drew.alloc (.cells #[.slice none 0 0, .slice none 0 0, .int .i64 0] 25)) rfl (by rfl) (by go_simp) ⟨HS0.out _ HA7.out, ?_⟩
                try simp only [Act.put, List.setIfInBounds_toArray, List.set_cons_zero, List.set_cons_succ, List.getElem_toArray, List.getElem_cons_zero, List.getElem_cons_succ]
                refine planT_one ?_
                have hcall := HW.out _ HA7.out
                refine op_call (F := 10) (args := ?_) rfl (by rfl) ?_ ?_
                rotate_left
                · go_simp
                  rfl
                refine (hcall).mono ?_
                rintro e w8 ⟨p8, c8, ys8, pp8, cc8, rfl, ho, hb⟩
                have HB8 : Hid (Below w7.heap.size w7 w8) := Lib.hid (HA7.out.trans (hb.mono HA7.out.size))
                refine ⟨_, rfl, HS0.out _ HB8.out, ?_⟩
                try simp only [Act.put, List.setIfInBounds_toArray, List.set_cons_zero, List.set_cons_succ, List.getElem_toArray, List.getElem_cons_zero, List.getElem_cons_succ]
                iterate 3
                  refine planT_read (v := ?_) rfl (by rfl) ?_ ?_
                  rotate_left
                  · intro w' hS
                    try dsimp only at hS
                    go_simp
                    try with_reducible rfl
                  try simp only [Act.put, List.setIfInBounds_toArray, List.set_cons_zero, List.set_cons_succ, List.getElem_toArray, List.getElem_cons_zero, List.getElem_cons_succ]
                refine planT_one ?_
                have HZ8 : Hid (Blk w8 w7.heap.size #[.slice none 0 0, .slice none 0 0, .int .i64 0]) := Lib.hid ((Blk.new w7.drew #[.slice none 0 0, .slice none 0 0, .int .i64 0] 25).below hb)
                have cZ := HZ8.out.c
                have fZ := HZ8.out.f
                have lZ := HZ8.out.lt
                refine op_store (w1 := ((w8.setCell ⟨w7.heap.size, 0, none⟩ (.slice p8 n' c8)).setCell ⟨w7.heap.size, 1, none⟩ (.slice pp8 m' cc8)).setCell ⟨w7.heap.size, 2, none⟩ (.int .i64 (writeB Cg (k2 : Int) 0 7).lost)) rfl (by rfl) (by go_simp) ⟨HS0.out _ (set3_below HB8.out (Nat.le_refl _) _ _ _), ?_⟩
                try simp only [Act.put, List.setIfInBounds_toArray, List.set_cons_zero, List.set_cons_succ, List.getElem_toArray, List.getElem_cons_zero, List.getElem_cons_succ]
                refine planT_stop ?_
                simp only [List.drop_succ_cons, List.drop_zero]
                have HBF : Hid (Below w7.heap.size w7 (((w8.setCell ⟨w7.heap.size, 0, none⟩ (.slice p8 n' c8)).setCell ⟨w7.heap.size, 1, none⟩ (.slice pp8 m' cc8)).setCell ⟨w7.heap.size, 2, none⟩ (.int .i64 (writeB Cg (k2 : Int) 0 7).lost))) := Lib.hid (set3_below HB8.out (Nat.le_refl _) _ _ _)
                clear cZ fZ lZ
                go_wp2_with fail
                go_meet
                case rel => exact ⟨rfl, HBF.out⟩
            case rest =>
              obtain ⟨rfl, hbel⟩ := hcut
              have HC8 := Lib.hid (HC7.out.below hbel)
              have HKC8 := Lib.hid (HKC7.out.below hbel)
              have HMD8 := Lib.hid (OwnB.below HMD7.out hbel)
              have HB8 : Hid (Below w.heap.size w wc) := Lib.hid (HB7.out.trans (hbel.mono HB7.out.size))
              clear hbel HC7 HKC7 HMD7 HB7
              have kC := HKC8.out.c
              have h24 := lose_any p6 n' c6 ys6 pp6 m' cc6 Cg (kl : Int) wc HC8.out
              rw [HLE2.out] at h24
              go_upto_region 24 with fail
              go_wp2_with fail
              refine h24.mono ?_
              clear h24
              rintro e w9 ⟨p9, c9, ys9, pp9, cc9, rfl, ho, hb⟩
              have hb9 : Below wc.heap.size wc w9 := hb
              have HC9 := Lib.hid (HC8.out.below hb9)
              have HKC9 := Lib.hid (HKC8.out.below hb9)
              have HMD9 := Lib.hid (OwnB.below HMD8.out hb9)
              have HB9 : Hid (Below w.heap.size w w9) := Lib.hid (HB8.out.trans (hb9.mono HB8.out.size))
              clear ho hb hb9 HC8 HKC8 HMD8 HB8 kC
              go_upto_region 25 with fail
              have HA9 : Hid (Below w9.heap.size w9 (w9.alloc (.cells #[.slice p9 n' c9, .slice pp9 m' cc9, .int .i64 (loseB Cg (kl : Int)).lost] 25))) := Lib.hid ((Below.refl _ _).alloc (Nat.le_refl _) _)
              obtain ⟨w10, hw10⟩ : ∃ w10, w10 = w9.alloc (.cells #[.slice p9 n' c9, .slice pp9 m' cc9, .int .i64 (loseB Cg (kl : Int)).lost] 25) := ⟨_, rfl⟩
              rw [← hw10] at HA9 ⊢
              have HC10 := Lib.hid (HC9.out.below HA9.out)
              have HKC10 := Lib.hid (HKC9.out.below HA9.out)
              have HMD10 := Lib.hid (OwnB.below HMD9.out HA9.out)
              have HB10 : Hid (Below w.heap.size w w10) := Lib.hid (HB9.out.trans (HA9.out.mono HB9.out.size))
              clear hw10 HC9 HKC9 HMD9 HB9 HA9
              have kC := HKC10.out.c
              have h25 := rebuild_any p6 n' c6 ys6 pp6 m' cc6 Cg w10 HC10.out
              rw [HBK.out.1, HBK.out.2] at h25
              go_wp2_with fail
              refine h25.mono ?_
              clear h25
              rintro e w11 ⟨p11, c11, ys11, pp11, cc11, rfl, ho, hb⟩
              have HD11 := Lib.hid ho.bn
              have HC11 := Lib.hid (HC10.out.below hb)
              have HKC11 := Lib.hid (HKC10.out.below hb)
              have HMD11 := Lib.hid (OwnB.below HMD10.out hb)
              have HB11 : Hid (Below w.heap.size w w11) := Lib.hid (HB10.out.trans (hb.mono HB10.out.size))
              clear ho hb HC10 HKC10 HMD10 HB10 kC
              go_upto_region 26 with fail
              have HA11 : Hid (Below w11.heap.size w11 (w11.alloc (.cells #[.slice p11 n' c11, .slice pp11 m' cc11, .int .i64 B.lost] 25))) := Lib.hid ((Below.refl _ _).alloc (Nat.le_refl _) _)
              have HKD12 : Hid (Blk (w11.alloc (.cells #[.slice p11 n' c11, .slice pp11 m' cc11, .int .i64 B.lost] 25)) w11.heap.size #[.slice p11 n' c11, .slice pp11 m' cc11, .int .i64 B.lost]) := Lib.hid (Blk.new _ _ _)
              obtain ⟨bd, hbd⟩ : ∃ b, b = w11.heap.size := ⟨_, rfl⟩
              obtain ⟨w12, hw12⟩ : ∃ w12, w12 = w11.alloc (.cells #[.slice p11 n' c11, .slice pp11 m' cc11, .int .i64 B.lost] 25) := ⟨_, rfl⟩
              rw [← hw12] at HA11 HKD12 ⊢
              have HC12 := Lib.hid (HC11.out.below HA11.out)
              have HD12 := Lib.hid (HD11.out.below HA11.out)
              have HKC12 := Lib.hid (HKC11.out.below HA11.out)
              have HMD12 := Lib.hid (OwnB.below HMD11.out HA11.out)
              have HB12 : Hid (Below w.heap.size w w12) := Lib.hid (HB11.out.trans (HA11.out.mono HB11.out.size))
              rw [← hbd] at HKD12 ⊢
              clear hw12 hbd HC11 HD11 HKC11 HMD11 HB11 HA11
              have kC := HKC12.out.c
              have h26 := right_any p6 n' c6 ys6 pp6 m' cc6 Cg w12 HC12.out
              rw [HRC.out] at h26
              go_wp2_with fail
              refine h26.mono ?_
              clear h26
              rintro e w13 ⟨rfl, hb⟩
              have HC13 := Lib.hid (HC12.out.below hb)
              have HD13 := Lib.hid (HD12.out.below hb)
              have HKC13 := Lib.hid (HKC12.out.below hb)
              have HKD13 := Lib.hid (HKD12.out.below hb)
              have HMD13 := Lib.hid (OwnB.below HMD12.out hb)
              have HB13 : Hid (Below w.heap.size w w13) := Lib.hid (HB12.out.trans (hb.mono HB12.out.size))
              clear hb HC12 HD12 HKC12 HKD12 HMD12 HB12 kC
              have kD := HKD13.out.c
              have h27 := right_any p11 n' c11 ys11 pp11 m' cc11 B w13 HD13.out
              rw [HG.out.right] at h27
              go_wp2_with fail
              refine h27.mono ?_
              clear h27
              rintro e w14 ⟨rfl, hb⟩
              have HC14 := Lib.hid (HC13.out.below hb)
              have HD14 := Lib.hid (HD13.out.below hb)
              have HKC14 := Lib.hid (HKC13.out.below hb)
              have HKD14 := Lib.hid (HKD13.out.below hb)
              have HMD14 := Lib.hid (OwnB.below HMD13.out hb)
              have HB14 : Hid (Below w.heap.size w w14) := Lib.hid (HB13.out.trans (hb.mono HB13.out.size))
              clear hb HC13 HD13 HKC13 HKD13 HMD13 HB13 kD
              go_upto_region 28 with fail
              go_wp2_with fail
              go_loopw [29] (fun s wr => ∃ x : Nat, x ≤ n' ∧ s = .int .i64 x ∧ Below w14.heap.size w14 wr) (fun s _ => n' - (intOf s).toNat)
              case atStart => exact ⟨0, Nat.zero_le _, rfl, Below.refl _ _⟩
              case round =>
                obtain ⟨x, hx, rfl, hb⟩ := hrel
                have HBX := Lib.hid hb
                clear hb
                by_cases hxl : x < n'
                · have hxI : decide ((x : Int) < n') = true := decide_eq_true (by omega)
                  go_wp2_with fail
                  obtain ⟨WX, hWX⟩ : ∃ W, W = wr := ⟨_, rfl⟩
                  rw [← hWX] at HBX ⊢
                  clear hWX
                  go_loopw [30] (fun s wr => ∃ y : Nat, y ≤ m' ∧ s = .int .i64 y ∧ Below w14.heap.size w14 wr) (fun s _ => m' - (intOf s).toNat)
                  case atStart => exact ⟨0, Nat.zero_le _, rfl, HBX.out⟩
                  case round =>
                    obtain ⟨y, hy, rfl, hb⟩ := hrel
                    have HBY := Lib.hid hb
                    clear hb HBX
                    by_cases hyl : y < m'
                    · have hyI : decide ((y : Int) < m') = true := decide_eq_true (by omega)
                      have hxI0 : (0 : Int) ≤ (x : Int) := by omega
                      have hxI2 : (x : Int) < (n' : Int) := by omega
                      have hyI0 : (0 : Int) ≤ (y : Int) := by omega
                      have hyI2 : (y : Int) < (m' : Int) := by omega
                      have HKCY := Lib.hid (HKC14.out.below HBY.out)
                      have HKDY := Lib.hid (HKD14.out.below HBY.out)
                      have HCY := Lib.hid (HC14.out.below HBY.out)
                      have HDY := Lib.hid (HD14.out.below HBY.out)
                      have HMY := OwnB.below HMD14.out HBY.out
                      have hlk := HG.out.all x hxl
                      obtain ⟨g', gr, cr, he, hyj, _, hgl, _, hgr1, hcr, _, hcg, _, hcw, _⟩ := OwnB.rowAt HMY hxl (by show 0 < (B.rows.getD x []).length; rw [hlk]; omega)
                      injection he with he
                      injection he with he
                      subst he
                      have hcg' : wr.cell? ⟨g, x, none⟩ = some (.slice (some ⟨gr, 0, none⟩) m' cr) := by rw [← hlk]; exact hcg
                      have hcw' : wr.cell? ⟨gr, y, none⟩ = some (.int .u32 (wd B x y : Nat)) := hcw y (by show y < (B.rows.getD x []).length; rw [hlk]; exact hyl)
                      have hrc := read_any p6 n' c6 ys6 pp6 m' cc6 Cg (x : Int) (y : Int) wr HCY.out
                      have hgr := gone_read HG.out hkn hxl hyl
                      rw [← HCG.out] at hgr
                      rw [hgr.1, hgr.2] at hrc
                      have hrd := fun W hb => read_any p11 n' c11 ys11 pp11 m' cc11 B (x : Int) (y : Int) W (HDY.out.below hb)
                      have hgd := read_good HG.out hxl hyl
                      rw [hgd.1, hgd.2] at hrd
                      obtain ⟨u, hu⟩ : ∃ u, u = wd B x y := ⟨_, rfl⟩
                      rw [← hu] at hcw' hrc hrd
                      have HCG2 := Lib.hid hcg'
                      have HCW2 := Lib.hid hcw'
                      have HGL := Lib.hid hgl
                      have HGR1 := Lib.hid hgr1
                      have HRD := Lib.hid hrd
                      have huu : ((u : Int) != (u : Int)) = false := by simp
                      have kC := HKCY.out.c
                      clear HMY hlk hyj hgl hgr1 hcg hcw hcg' hcw' hgr hgd hrd hu
                      by_cases hxk : x = kl
                      · rw [if_pos hxk, if_pos hxk] at hrc
                        have e1 : ((x : Int) == (kl : Int)) = true := by simp; omega
                        have e2 : ((x : Int) != (kl : Int)) = false := by simp; omega
                        have HXK := Lib.hid hxk
                        clear hxk
                        go_wp2_with fail
                        refine hrc.mono ?_
                        clear hrc
                        rintro e w15 ⟨rfl, hb⟩
                        have HB15 := Lib.hid hb
                        have HKD15 := Lib.hid (HKDY.out.below hb)
                        clear hb kC
                        have kD := HKD15.out.c
                        go_upto_region 35 with fail
                        go_wp2_with fail
                        refine (HRD.out w15 HB15.out).mono ?_
                        rintro e w16 ⟨rfl, hb⟩
                        have HB16 : Hid (Below wr.heap.size wr w16) := Lib.hid (HB15.out.trans (hb.mono HB15.out.size))
                        have k1 := (HB16.out.cell (p := ⟨g, x, none⟩) HGL.out).trans HCG2.out
                        have k2 := (HB16.out.cell (p := ⟨gr, y, none⟩) HGR1.out).trans HCW2.out
                        have HBN : Hid (Below w14.heap.size w14 w16) := Lib.hid (HBY.out.trans (HB16.out.mono HBY.out.size))
                        clear hb kD
                        go_wp2_with fail
                        go_roundw
                        case rel => exact ⟨y + 1, by omega, by go_num, HBN.out⟩
                        case measure => simp [intOf]; omega
                      · rw [if_neg hxk, if_neg hxk] at hrc
                        have e1 : ((x : Int) == (kl : Int)) = false := by simp; omega
                        have e2 : ((x : Int) != (kl : Int)) = true := by simp; omega
                        have HXK := Lib.hid hxk
                        clear hxk
                        go_wp2_with fail
                        refine hrc.mono ?_
                        clear hrc
                        rintro e w15 ⟨rfl, hb⟩
                        have HB15 := Lib.hid hb
                        have HKD15 := Lib.hid (HKDY.out.below hb)
                        clear hb kC
                        have kD := HKD15.out.c
                        go_upto_region 35 with fail
                        go_wp2_with fail
                        refine (HRD.out w15 HB15.out).mono ?_
                        rintro e w16 ⟨rfl, hb⟩
                        have HB16 : Hid (Below wr.heap.size wr w16) := Lib.hid (HB15.out.trans (hb.mono HB15.out.size))
                        have k1 := (HB16.out.cell (p := ⟨g, x, none⟩) HGL.out).trans HCG2.out
                        have k2 := (HB16.out.cell (p := ⟨gr, y, none⟩) HGR1.out).trans HCW2.out
                        have HBN : Hid (Below w14.heap.size w14 w16) := Lib.hid (HBY.out.trans (HB16.out.mono HBY.out.size))
                        clear hb kD
                        go_wp2_with fail
                        go_roundw
                        case rel => exact ⟨y + 1, by omega, by go_num, HBN.out⟩
                        case measure => simp [intOf]; omega
                    · have hyI : decide ((y : Int) < m') = false := decide_eq_false (by omega)
                      go_wp2_with fail
                      go_roundw
                      case rel => exact ⟨x + 1, by omega, by go_num, HBY.out⟩
                      case measure => simp [intOf]; omega
                · have hxI : decide ((x : Int) < n') = false := decide_eq_false (by omega)
                  go_wp2_with fail
                  go_ret
                  exact ⟨rfl, HB14.out.trans (HBX.out.mono HB14.out.size)⟩
end Go.Proofs.Ytkeemmedbbammaa
