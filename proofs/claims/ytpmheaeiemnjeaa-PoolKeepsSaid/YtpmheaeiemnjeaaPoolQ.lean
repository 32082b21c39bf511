/- PoolOrder: the walk of the statement's function. -/
import Derived.Test.YtpmheaeiemnjeaaPoolN
import Derived.Test.YtpmheaeiemnjeaaPlan3
namespace Go.Proofs.Ytpmheaeiemnjeaa
set_option linter.unusedVariables false
open Go.ChangeShapes Go.WideShapes Go.ChangeAt Go.RowKit

theorem info27 : (Try.prog.info? 27).map (fun i => (i.zero, i.size, i.bytes)) = some (some (.agg #[.int .i64 0, .int .i64 0, .int .i64 0, .int .i64 0, .int .i64 0, .int .i64 0, .bool false, .int .u32 0, .int .u32 0]), 9, 64) := by kernel_rfl
section
variable {P : Program} {ops : Array Oper} {Q : Exit → Act → World → Prop} {S : World → Prop} {K : Act → World → Prop} {i j : Nat} {p q : Plan3} {a : Act} {w : World} {o : Oper}
theorem op_store {w1 : World} (ho : ops[i]? = some o) (hw : Region.wanted o (yielded ops a.tmps) = true) (hr : (execOp a.eval o).run P w = .ok .skip w1) (h : K (a.put o.dst undef) w1) : wpOp P ops Q i K a w := by
  unfold wpOp
  simp only [ho, hw, if_true, Oper.wp, hr, Oper.upon]
  exact .inl h
end

set_option maxHeartbeats 16000000 in
set_option maxRecDepth 100000 in
theorem order_main (p0 : Option Addr) (n c : Nat) (ms : List Msg) (w : World) (hz : ms.length = n) (hnm : n ≤ maxLen) (hm : ∀ m ∈ ms, m.n < 4294967296 ∧ m.v < 4294967296) (h : Els w p0 9 n (fun k => (ms.getD k m0).row)) :
    Calls Try.prog 5 #[.slice p0 n c] w fun e w' => e = .returned (.bool true) ∧ Below w.heap.size w w' := by
  have HE := Lib.hid h
  have HZ := Lib.hid hz
  have HM := Lib.hid hm
  unfold maxLen at hnm
  clear h hz hm
  go_enter Try.func5, Try.ntmps5
  go_wp2_with fail
  refine (awake_any _).mono ?_
  rintro e w1 ⟨rfl, hb1⟩
  have HB1 : Hid (Below w.heap.size w w1) := Lib.hid hb1
  clear hb1
  by_cases h60 : 60 < n
  · have d1 : decide (60 < (n : Int)) = true := decide_eq_true (by omega)
    go_wp2_with fail
    go_ret
    exact ⟨rfl, HB1.out⟩
  · have d1 : decide (60 < (n : Int)) = false := decide_eq_false (by omega)
    obtain ⟨i0, hi0, hz0, hz1, hz2⟩ := info_parts info27
    have HI0 := Lib.hid (And.intro hi0 (And.intro hz0 (And.intro hz1 hz2)))
    clear hi0 hz0 hz1 hz2 hnm
    go_wp2_with fail
    obtain ⟨W, hW⟩ : ∃ W, W = w1.alloc (.cells #[.slice none 0 0] 24) := ⟨_, rfl⟩
    have HBW : Hid (Below w.heap.size w W) := Lib.hid (by rw [hW]; exact HB1.out.alloc HB1.out.size _)
    have HKW : Hid (Blk W w1.heap.size #[.slice none 0 0]) := Lib.hid (by rw [hW]; exact Blk.new _ _ _)
    have HS1 : Hid (w.heap.size ≤ w1.heap.size) := Lib.hid HB1.out.size
    rw [← hW]
    clear hW HB1 d1
    go_loopw [4, 5] (fun s4 s5 wr => ∃ j : Nat, j ≤ n ∧ s5 = .int .i64 j ∧ (∃ p c xs, Blk wr w1.heap.size #[.slice p (selM ms j).length c] ∧ Pl wr p xs (outs (selM ms j))) ∧ wr.ownsRow (w1.heap.size + 1) 27 9 s4 (selM ms j).length (rowsM (selM ms j)) ∧ Below w.heap.size w wr) (fun _ s5 _ => n - (intOf s5).toNat)
    case atStart => exact ⟨0, Nat.zero_le _, rfl, ⟨none, 0, [], HKW.out, Pl.nil _ _⟩, World.ownsRow_nil _ _ _ _, HBW.out⟩
    case round =>
      obtain ⟨j, hj, rfl, ⟨p, cp, xs, hk, hp⟩, ho, hb⟩ := hrel
      clear HKW HBW
      obtain ⟨S, hS⟩ : ∃ S, S = selM ms j := ⟨_, rfl⟩
      rw [← hS] at hk hp ho
      have hsl : S.length ≤ j := by rw [hS]; exact selM_len ms j
      have HG : Hid (∀ m ∈ S, Good m) := Lib.hid (by rw [hS]; exact selM_good HM.out j)
      obtain ⟨pv, cv, rfl, hels⟩ := own_els ho
      obtain ⟨s, hs⟩ : ∃ s, s = S.length := ⟨_, rfl⟩
      rw [← hs] at hk ho hels hsl ⊢
      have HS := Lib.hid hS
      have HSL := Lib.hid hs
      have HK := Lib.hid hk
      have HP := Lib.hid hp
      have HO := Lib.hid ho
      have HEL := Lib.hid hels
      have HB := Lib.hid hb
      have hwl := HK.out.lt
      have HWL := Lib.hid hwl
      clear hk hp ho hels hb hS hs hwl
      by_cases hlt : j < n
      · have hjl : j < ms.length := by rw [HZ.out]; exact hlt
        have hgd := HM.out _ (getD_mem ms j hjl)
        obtain ⟨m, hm⟩ : ∃ m, m = ms.getD j m0 := ⟨_, rfl⟩
        rw [← hm] at hgd
        obtain ⟨b, off, hbl, rfl, hcell⟩ := HE.out (by omega)
        have hc9 := hcell j hlt
        dsimp only at hc9
        rw [← hm] at hc9
        obtain ⟨mk, mf, mt, ml, mo, ma, mown, mn, mv, hrow⟩ := msg_parts m
        rw [hrow] at hc9
        have HN9 : Hid (Nine w b (off + j * 9) (.int .i64 mk) (.int .i64 mf) (.int .i64 mt) (.int .i64 ml) (.int .i64 mo) (.int .i64 ma) (.bool mown) (.int .u32 mn) (.int .u32 mv)) := Lib.hid (Nine.of hc9)
        have HBL := Lib.hid hbl
        have hds := outs_send (S := S) (by have := HSL.out; omega) HG.out m
        have HSS : Hid (selM ms (j + 1) = if mayM m = true then S ++ [m] else S) := Lib.hid (by rw [selM_succ ms j hjl, ← hm, HS.out])
        have HROW := Lib.hid hrow
        obtain ⟨D, hD⟩ : ∃ D, D = sendP (outs S) m := ⟨_, rfl⟩
        obtain ⟨E, hE⟩ : ∃ E, E = sendE (outs S) m := ⟨_, rfl⟩
        obtain ⟨d, hd⟩ : ∃ d, d = D.length := ⟨_, rfl⟩
        have HD : Hid (D = outs (if mayM m = true then S ++ [m] else S)) := Lib.hid (by rw [hD]; exact hds.1)
        have HEE : Hid (E = if mayM m = true then 0 else 1) := Lib.hid (by rw [hE]; exact hds.2)
        have HDL := Lib.hid hd
        have HSEND : Hid (∀ W, Below wr.heap.size wr W → Calls Try.prog 8 #[.agg #[.slice p s cp], .agg #[.int .i64 mk, .int .i64 mf, .int .i64 mt, .int .i64 ml, .int .i64 mo, .int .i64 ma, .bool mown, .int .u32 mn, .int .u32 mv]] W fun e w' => ∃ p' c' xs', e = .returned (.tuple #[.agg #[.slice p' d c'], .int .i64 E]) ∧ Out W w' p' xs' D) := Lib.hid (fun W hb => by
          have := send_any p s cp xs (outs S) m W (by rw [outs_len, HSL.out]) (HP.out.below hb) hgd.1 hgd.2
          rw [hrow, ← hD, ← hE, ← hd] at this
          exact this)
        clear hD hE hd hds hrow hc9 hcell hbl hgd hm hjl
        have hjlt : (j : Int) < (n : Int) := by omega
        go_upto_region 10 with fail
        go_cut [6, 7] (fun s6 s7 wc => ∃ B q cq ys, s6 = .pointer (some ⟨B, 0, none⟩) ∧ s7 = .int .i64 E ∧ Blk wc B #[.slice q d cq] ∧ Pl wc q ys D ∧ Off (fun b => b < wr.heap.size) q ys D ∧ Below wr.heap.size wr wc ∧ wr.heap.size ≤ B)
        case first =>
          have HS0 : Hid (∀ W, Below wr.heap.size wr W → W.cell? ⟨w1.heap.size, 0, none⟩ = some (.slice p s cp) ∧ Nine W b (off + j * 9) (.int .i64 mk) (.int .i64 mf) (.int .i64 mt) (.int .i64 ml) (.int .i64 mo) (.int .i64 ma) (.bool mown) (.int .u32 mn) (.int .u32 mv)) := Lib.hid (fun W hb => ⟨(hb.cell (p := ⟨w1.heap.size, 0, none⟩) HWL.out).trans (HK.out.c 0), (HN9.out.below (HB.out.trans (hb.mono HB.out.size)) HBL.out)⟩)
          refine region_plan3 (fun w' : World => w'.cell? ⟨w1.heap.size, 0, none⟩ = some (.slice p s cp) ∧ Nine w' b (off + j * 9) (.int .i64 mk) (.int .i64 mf) (.int .i64 mt) (.int .i64 ml) (.int .i64 mo) (.int .i64 ma) (.bool mown) (.int .u32 mn) (.int .u32 mv)) 11 (.read 0 (.read 1 (.read 2 (.read 3 (.read 4 (.two 5 9 (.read 6 (.read 7 (.read 8 (.one 9 (.one 10 .stop))))) (.one 5 (.read 6 (.read 7 (.read 8 (.one 10 .stop))))))))))) (by kernel_rfl) (by kernel_rfl) (HS0.out _ (Below.refl _ _).drew) ?_
          iterate 5
            refine plan3_read (v := ?_) rfl (by rfl) ?_ ?_
            rotate_left
            · intro w' hS
              obtain ⟨s1, n0, n1, n2, n3, n4, n5, n6, n7, n8⟩ := hS
              go_simp
              try with_reducible rfl
            try simp only [Act.put, List.setIfInBounds_toArray, List.set_cons_zero, List.set_cons_succ, List.getElem_toArray, List.getElem_cons_zero, List.getElem_cons_succ]
          refine plan3_two ?_ ?_
          · refine op_call (F := 8) (args := ?_) rfl (by rfl) ?_ ?_
            rotate_left
            · go_simp
              rfl
            refine (HSEND.out _ (Below.refl _ _).drew).mono ?_
            rintro e w2 ⟨q, cq, ys, rfl, ho⟩
            have HQ := Lib.hid ho.pl
            have HQO : Hid (Off (fun b => b < wr.heap.size) q ys D) := Lib.hid ho.off
            have HB2 : Hid (Below wr.heap.size wr w2) := Lib.hid ((Below.refl _ _).drew.trans ho.below)
            clear ho
            refine ⟨_, rfl, HS0.out _ HB2.out, ?_⟩
            try simp only [Act.put, List.setIfInBounds_toArray, List.set_cons_zero, List.set_cons_succ, List.getElem_toArray, List.getElem_cons_zero, List.getElem_cons_succ]
            iterate 3
              refine plan3_read (v := ?_) rfl (by rfl) ?_ ?_
              rotate_left
              · intro w' hS
                obtain ⟨s1, n0, n1, n2, n3, n4, n5, n6, n7, n8⟩ := hS
                go_simp
                try with_reducible rfl
              try simp only [Act.put, List.setIfInBounds_toArray, List.set_cons_zero, List.set_cons_succ, List.getElem_toArray, List.getElem_cons_zero, List.getElem_cons_succ]
            refine plan3_one ?_
            refine op_make (v := .pointer (some ⟨w2.heap.size, 0, none⟩)) (w1 := w2.alloc (.cells #[.slice none 0 0] 24)) rfl (by rfl) ?_ ?_
            · go_simp
            refine ⟨HS0.out _ (HB2.out.alloc HB2.out.size _), ?_⟩
            try simp only [Act.put, List.setIfInBounds_toArray, List.set_cons_zero, List.set_cons_succ, List.getElem_toArray, List.getElem_cons_zero, List.getElem_cons_succ]
            have HN : Hid (Blk (w2.alloc (.cells #[.slice none 0 0] 24)) w2.heap.size #[.slice none 0 0]) := Lib.hid (Blk.new _ _ _)
            have HNX := Lib.hid (HN.out.set (n := 0) (.slice q d cq) (by simp))
            have HBX : Hid (Below wr.heap.size wr ((w2.alloc (.cells #[.slice none 0 0] 24)).setCell ⟨w2.heap.size, 0, none⟩ (.slice q d cq))) := Lib.hid ((HB2.out.alloc HB2.out.size _).setCell (p := ⟨w2.heap.size, 0, none⟩) HB2.out.size _)
            have HQX : Hid (Pl ((w2.alloc (.cells #[.slice none 0 0] 24)).setCell ⟨w2.heap.size, 0, none⟩ (.slice q d cq)) q ys D) := Lib.hid ((HQ.out.below ((Below.refl _ _).alloc (Nat.le_refl _) _)).set (HQ.out.off (fun b e => Nat.le_of_eq e.symm)) 0 _)
            have kN := HN.out.c
            have fN := HN.out.f
            have lN := HN.out.lt
            refine plan3_one ?_
            refine op_store (w1 := (w2.alloc (.cells #[.slice none 0 0] 24)).setCell ⟨w2.heap.size, 0, none⟩ (.slice q d cq)) rfl (by rfl) ?_ ?_
            · go_simp
            refine ⟨HS0.out _ HBX.out, ?_⟩
            try simp only [Act.put, List.setIfInBounds_toArray, List.set_cons_zero, List.set_cons_succ, List.getElem_toArray, List.getElem_cons_zero, List.getElem_cons_succ]
            refine plan3_stop ?_
            simp only [List.drop_succ_cons, List.drop_zero]
            go_wp2_with fail
            go_meet
            case rel => exact ⟨_, q, cq, ys, rfl, rfl, HNX.out, HQX.out, HQO.out, HBX.out, HB2.out.size⟩
          · refine op_make (v := .pointer (some ⟨wr.heap.size, 0, none⟩)) (w1 := wr.drew.alloc (.cells #[.slice none 0 0] 24)) rfl (by rfl) ?_ ?_
            · go_simp
            have HBA : Hid (Below wr.heap.size wr (wr.drew.alloc (.cells #[.slice none 0 0] 24))) := Lib.hid ((Below.refl _ _).drew.alloc (Nat.le_refl _) _)
            refine ⟨HS0.out _ HBA.out, ?_⟩
            try simp only [Act.put, List.setIfInBounds_toArray, List.set_cons_zero, List.set_cons_succ, List.getElem_toArray, List.getElem_cons_zero, List.getElem_cons_succ]
            have HN : Hid (Blk (wr.drew.alloc (.cells #[.slice none 0 0] 24)) wr.heap.size #[.slice none 0 0]) := Lib.hid (Blk.new wr.drew _ _)
            refine plan3_one ?_
            refine op_call (F := 8) (args := ?_) rfl (by rfl) ?_ ?_
            rotate_left
            · go_simp
              rfl
            refine (HSEND.out _ HBA.out).mono ?_
            rintro e w2 ⟨q, cq, ys, rfl, ho⟩
            have HQ := Lib.hid ho.pl
            have HQA : Hid (Off (fun b => b < wr.heap.size + 1) q ys D) := Lib.hid (by simpa using ho.off)
            have HB2 : Hid (Below wr.heap.size wr w2) := Lib.hid (HBA.out.trans (ho.below.mono HBA.out.size))
            have HN2 := Lib.hid (HN.out.below ho.below)
            clear ho
            refine ⟨_, rfl, HS0.out _ HB2.out, ?_⟩
            try simp only [Act.put, List.setIfInBounds_toArray, List.set_cons_zero, List.set_cons_succ, List.getElem_toArray, List.getElem_cons_zero, List.getElem_cons_succ]
            iterate 3
              refine plan3_read (v := ?_) rfl (by rfl) ?_ ?_
              rotate_left
              · intro w' hS
                obtain ⟨s1, n0, n1, n2, n3, n4, n5, n6, n7, n8⟩ := hS
                go_simp
                try with_reducible rfl
              try simp only [Act.put, List.setIfInBounds_toArray, List.set_cons_zero, List.set_cons_succ, List.getElem_toArray, List.getElem_cons_zero, List.getElem_cons_succ]
            have HNX := Lib.hid (HN2.out.set (n := 0) (.slice q d cq) (by simp))
            have HBX : Hid (Below wr.heap.size wr (w2.setCell ⟨wr.heap.size, 0, none⟩ (.slice q d cq))) := Lib.hid (HB2.out.setCell (p := ⟨wr.heap.size, 0, none⟩) (Nat.le_refl _) _)
            have HQX : Hid (Pl (w2.setCell ⟨wr.heap.size, 0, none⟩ (.slice q d cq)) q ys D) := Lib.hid (HQ.out.set (HQA.out.sub (fun b e => by omega)) 0 _)
            have HQO : Hid (Off (fun b => b < wr.heap.size) q ys D) := Lib.hid (HQA.out.sub (fun b e => by omega))
            have kN := HN2.out.c
            have fN := HN2.out.f
            have lN := HN2.out.lt
            refine plan3_one ?_
            refine op_store (w1 := w2.setCell ⟨wr.heap.size, 0, none⟩ (.slice q d cq)) rfl (by rfl) ?_ ?_
            · go_simp
            refine ⟨HS0.out _ HBX.out, ?_⟩
            try simp only [Act.put, List.setIfInBounds_toArray, List.set_cons_zero, List.set_cons_succ, List.getElem_toArray, List.getElem_cons_zero, List.getElem_cons_succ]
            refine plan3_stop ?_
            simp only [List.drop_succ_cons, List.drop_zero]
            go_wp2_with fail
            go_meet
            case rel => exact ⟨_, q, cq, ys, rfl, rfl, HNX.out, HQX.out, HQO.out, HBX.out, Nat.le_refl _⟩
        case rest =>
          obtain ⟨B, q, cq, ys, rfl, rfl, hkb, hq, hqo, hbc, hbb⟩ := hcut
          have HBB := Lib.hid hbb
          have HKB := Lib.hid hkb
          have HQ := Lib.hid hq
          have HQO := Lib.hid hqo
          have HBC := Lib.hid hbc
          have HK1 := Lib.hid (HK.out.below hbc)
          have HO1 := Lib.hid (own_below HO.out hbc)
          have HWB : Hid (Below w.heap.size w wc) := Lib.hid (HB.out.trans (hbc.mono HB.out.size))
          have HN1 : Hid (Nine wc b (off + j * 9) (.int .i64 mk) (.int .i64 mf) (.int .i64 mt) (.int .i64 ml) (.int .i64 mo) (.int .i64 ma) (.bool mown) (.int .u32 mn) (.int .u32 mv)) := Lib.hid (HN9.out.below HWB.out HBL.out)
          clear hkb hq hqo hbc hbb HK HEL HSEND HN9
          have hob : ∀ g, (Value.slice pv s cv).ownBlock = some g → w1.heap.size + 1 ≤ g ∧ g < wr.heap.size := fun g e => HO.out.lt g e
          have HOB := Lib.hid hob
          clear hob HO
          by_cases hmay : mayM m = true
          · have hE0 : E = 0 := by rw [HEE.out, if_pos hmay]
            have hDD : D = outs (S ++ [m]) := by rw [HD.out, if_pos hmay]
            have hd1 : d = s + 1 := by rw [HDL.out, hDD, outs_len, List.length_append, ← HSL.out]; rfl
            have hsel : selM ms (j + 1) = S ++ [m] := by rw [HSS.out, if_pos hmay]
            subst hE0 hd1
            have HDD := Lib.hid hDD
            have HSEL := Lib.hid hsel
            clear hDD hsel HSS HEE HD HDL
            obtain ⟨n0, n1, n2, n3, n4, n5, n6, n7, n8⟩ := HN1.out
            obtain ⟨WA, hWA⟩ : ∃ WA, WA = wc.alloc (.cells #[.int .i64 mk, .int .i64 mf, .int .i64 mt, .int .i64 ml, .int .i64 mo, .int .i64 ma, .bool mown, .int .u32 mn, .int .u32 mv] 27) := ⟨_, rfl⟩
            have HKA : Hid (Blk WA wc.heap.size #[.int .i64 mk, .int .i64 mf, .int .i64 mt, .int .i64 ml, .int .i64 mo, .int .i64 ma, .bool mown, .int .u32 mn, .int .u32 mv]) := Lib.hid (by rw [hWA]; exact Blk.new _ _ _)
            have HOA : Hid (WA.ownsRow (w1.heap.size + 1) 27 9 (.slice pv s cv) s (rowsM S)) := Lib.hid (by rw [hWA]; exact own_below HO1.out ((Below.refl _ _).alloc (Nat.le_refl _) _))
            have HQA : Hid (Pl WA q ys D) := Lib.hid (by rw [hWA]; exact HQ.out.below ((Below.refl _ _).alloc (Nat.le_refl _) _))
            have HKBA : Hid (Blk WA B #[.slice q (s + 1) cq]) := Lib.hid (by rw [hWA]; exact HKB.out.alloc _)
            have HK1A : Hid (Blk WA w1.heap.size #[.slice p s cp]) := Lib.hid (by rw [hWA]; exact HK1.out.alloc _)
            have HBA : Hid (Below wr.heap.size wr WA) := Lib.hid (by rw [hWA]; exact HBC.out.alloc HBC.out.size _)
            go_wp2_with (first | (at_builtin; rw [← hWA]; refine wpList_append_sl rfl _ _ 48 rfl (w1.heap.size + 1) 27 i0 (.agg #[.int .i64 0, .int .i64 0, .int .i64 0, .int .i64 0, .int .i64 0, .int .i64 0, .bool false, .int .u32 0, .int .u32 0]) 9 64 Try.underlying48 HI0.out.1 HI0.out.2.1 HI0.out.2.2.1 HI0.out.2.2.2 rfl (by decide) _ _ _ rfl HOA.out (some ⟨wc.heap.size, 0, none⟩) 1 1 [.int .i64 mk, .int .i64 mf, .int .i64 mt, .int .i64 ml, .int .i64 mo, .int .i64 ma, .bool mown, .int .u32 mn, .int .u32 mv] rfl rfl (blk_sl HKA.out) (by intro u hu; simp only [List.mem_cons, List.not_mem_nil, or_false] at hu; rcases hu with rfl | rfl | rfl | rfl | rfl | rfl | rfl | rfl | rfl <;> rfl) (by unfold maxLen; omega) (by omega) (by have := HWL.out; have := HBA.out.size; omega) ?_))
            intro v7 w7 g1 g2 g3
            try rw [← hWA] at g2
            try rw [← hWA] at g3
            clear hWA n0 n1 n2 n3 n4 n5 n6 n7 n8
            have HO7 : Hid (w7.ownsRow (w1.heap.size + 1) 27 9 v7 (s + 1) (rowsM (S ++ [m]))) := Lib.hid (by rw [rowsM_app, HROW.out]; exact g1)
            have HQ7 : Hid (Pl w7 q ys D) := Lib.hid (HQA.out.grown g2 (HQO.out.sub (fun b e => (HOB.out b e).2)))
            have HK7 : Hid (Blk w7 w1.heap.size #[.slice p s cp]) := Lib.hid (HK1A.out.grown g2 (fun e => by have := (HOB.out _ e).1; omega))
            have HBW7 : Hid (Below w.heap.size w w7) := Lib.hid ((HB.out.trans (HBA.out.mono HB.out.size)).grown g2 (Nat.le_trans HB.out.size HBA.out.size) (fun g e => by have := (HOB.out g e).1; have := HS1.out; omega))
            have HKB7 : Hid (Blk w7 B #[.slice q (s + 1) cq]) := Lib.hid (HKBA.out.grown g2 (fun e => by have := (HOB.out _ e).2; have := HBB.out; omega))
            clear g1 g2 g3 HKA HOA HQA HKBA HK1A
            have k6 := HKB7.out.c
            have k3 := HK7.out.c
            have f3 := HK7.out.f
            have l3 := HK7.out.lt
            go_wp2_with fail
            have hlen : (S ++ [m]).length = s + 1 := by rw [List.length_append, ← HSL.out]; rfl
            have HK8 := Lib.hid (HK7.out.set (n := 0) (.slice q (s + 1) cq) (by simp))
            have HO8 := Lib.hid (own_off HO7.out (Nat.lt_succ_self w1.heap.size) 0 (.slice q (s + 1) cq))
            have HQ8 := Lib.hid (HQ7.out.set (R := w1.heap.size) (HQO.out.sub (fun b e => by have := HWL.out; omega)) 0 (.slice q (s + 1) cq))
            have HB8 := Lib.hid (HBW7.out.setCell (p := ⟨w1.heap.size, 0, none⟩) (by show w.heap.size ≤ w1.heap.size; exact HS1.out) (.slice q (s + 1) cq))
            go_roundw
            case rel =>
              refine ⟨j + 1, by omega, by go_num, ?_⟩
              rw [HSEL.out, hlen]
              exact ⟨⟨q, cq, ys, HK8.out, by rw [← HDD.out]; exact HQ8.out⟩, HO8.out, HB8.out⟩
            case measure => simp [intOf]; omega
          · have hE0 : E = 1 := by rw [HEE.out, if_neg hmay]
            have hDD : D = outs S := by rw [HD.out, if_neg hmay]
            have hd1 : d = s := by rw [HDL.out, hDD, outs_len, ← HSL.out]
            have hsel : selM ms (j + 1) = S := by rw [HSS.out, if_neg hmay]
            subst hE0 hd1
            have HDD := Lib.hid hDD
            have HSEL := Lib.hid hsel
            clear hDD hsel HSS HEE HD HDL
            have k6 := HKB.out.c
            have k3 := HK1.out.c
            have f3 := HK1.out.f
            have l3 := HK1.out.lt
            go_wp2_with fail
            have HK8 := Lib.hid (HK1.out.set (n := 0) (.slice q d cq) (by simp))
            have HO8 := Lib.hid (own_off HO1.out (Nat.lt_succ_self w1.heap.size) 0 (.slice q d cq))
            have HQ8 := Lib.hid (HQ.out.set (R := w1.heap.size) (HQO.out.sub (fun b e => by have := HWL.out; omega)) 0 (.slice q d cq))
            have HB8 := Lib.hid (HWB.out.setCell (p := ⟨w1.heap.size, 0, none⟩) (by show w.heap.size ≤ w1.heap.size; exact HS1.out) (.slice q d cq))
            go_roundw
            case rel =>
              refine ⟨j + 1, by omega, by go_num, ?_⟩
              rw [HSEL.out, ← HSL.out]
              exact ⟨⟨q, cq, ys, HK8.out, by rw [← HDD.out]; exact HQ8.out⟩, HO8.out, HB8.out⟩
            case measure => simp [intOf]; omega
      · have hjn : j = n := by omega
        subst hjn
        clear hlt hj HE HZ
        have k3 := HK.out.c
        have hlw := HWL.out
        have q0 : World.cell? (World.drew (wr.alloc (.cells #[.slice none 0 0] 24))) ⟨w1.heap.size, 0, none⟩ = some (.slice p s cp) := ((by simp (config := { maxDischargeDepth := 60 }) only [bA, bS, bD, bR, Nat.le_refl, Nat.le_add_right] : Below wr.heap.size wr (World.drew (wr.alloc (.cells #[.slice none 0 0] 24)))).cell (p := ⟨w1.heap.size, 0, none⟩) hlw).trans (k3 0)
        have q1 : World.cell? (World.drew ((wr.alloc (.cells #[.slice none 0 0] 24)).alloc (.cells #[.slice none 0 0] 24))) ⟨w1.heap.size, 0, none⟩ = some (.slice p s cp) := ((by simp (config := { maxDischargeDepth := 60 }) only [bA, bS, bD, bR, Nat.le_refl, Nat.le_add_right] : Below wr.heap.size wr (World.drew ((wr.alloc (.cells #[.slice none 0 0] 24)).alloc (.cells #[.slice none 0 0] 24)))).cell (p := ⟨w1.heap.size, 0, none⟩) hlw).trans (k3 0)
        have q2 : World.cell? (World.drew ((wr.alloc (.cells #[.slice none 0 0] 24)).setCell ⟨wr.heap.size, 0, none⟩ (.slice p s cp))) ⟨w1.heap.size, 0, none⟩ = some (.slice p s cp) := ((by simp (config := { maxDischargeDepth := 60 }) only [bA, bS, bD, bR, Nat.le_refl, Nat.le_add_right] : Below wr.heap.size wr (World.drew ((wr.alloc (.cells #[.slice none 0 0] 24)).setCell ⟨wr.heap.size, 0, none⟩ (.slice p s cp)))).cell (p := ⟨w1.heap.size, 0, none⟩) hlw).trans (k3 0)
        have q3 : World.cell? (World.drew (((wr.alloc (.cells #[.slice none 0 0] 24)).alloc (.cells #[.slice none 0 0] 24)).setCell ⟨wr.heap.size, 0, none⟩ (.slice p s cp))) ⟨w1.heap.size, 0, none⟩ = some (.slice p s cp) := ((by simp (config := { maxDischargeDepth := 60 }) only [bA, bS, bD, bR, Nat.le_refl, Nat.le_add_right] : Below wr.heap.size wr (World.drew (((wr.alloc (.cells #[.slice none 0 0] 24)).alloc (.cells #[.slice none 0 0] 24)).setCell ⟨wr.heap.size, 0, none⟩ (.slice p s cp)))).cell (p := ⟨w1.heap.size, 0, none⟩) hlw).trans (k3 0)
        have q4 : World.cell? (World.drew (((wr.alloc (.cells #[.slice none 0 0] 24)).alloc (.cells #[.slice none 0 0] 24)).setCell ⟨(wr.heap.size + 1), 0, none⟩ (.slice p s cp))) ⟨w1.heap.size, 0, none⟩ = some (.slice p s cp) := ((by simp (config := { maxDischargeDepth := 60 }) only [bA, bS, bD, bR, Nat.le_refl, Nat.le_add_right] : Below wr.heap.size wr (World.drew (((wr.alloc (.cells #[.slice none 0 0] 24)).alloc (.cells #[.slice none 0 0] 24)).setCell ⟨(wr.heap.size + 1), 0, none⟩ (.slice p s cp)))).cell (p := ⟨w1.heap.size, 0, none⟩) hlw).trans (k3 0)
        have q5 : World.cell? (World.drew (((wr.alloc (.cells #[.slice none 0 0] 24)).setCell ⟨wr.heap.size, 0, none⟩ (.slice p s cp)).alloc (.cells #[.slice none 0 0] 24))) ⟨w1.heap.size, 0, none⟩ = some (.slice p s cp) := ((by simp (config := { maxDischargeDepth := 60 }) only [bA, bS, bD, bR, Nat.le_refl, Nat.le_add_right] : Below wr.heap.size wr (World.drew (((wr.alloc (.cells #[.slice none 0 0] 24)).setCell ⟨wr.heap.size, 0, none⟩ (.slice p s cp)).alloc (.cells #[.slice none 0 0] 24)))).cell (p := ⟨w1.heap.size, 0, none⟩) hlw).trans (k3 0)
        have HKX : Hid (Blk (World.drew ((wr.alloc (.cells #[.slice p s cp] 24)).alloc (.cells #[.slice p s cp] 24))) wr.heap.size #[.slice p s cp]) := Lib.hid ((Blk.new wr _ _).alloc _).drew
        have HKY : Hid (Blk (World.drew ((wr.alloc (.cells #[.slice p s cp] 24)).alloc (.cells #[.slice p s cp] 24))) (wr.heap.size + 1) #[.slice p s cp]) := Lib.hid (by
          have := Blk.new (wr.alloc (.cells #[.slice p s cp] 24)) #[.slice p s cp] 24
          rw [size_new] at this
          exact this.drew)
        have HBX : Hid (Below wr.heap.size wr (World.drew ((wr.alloc (.cells #[.slice p s cp] 24)).alloc (.cells #[.slice p s cp] 24)))) := Lib.hid (by simp (config := { maxDischargeDepth := 60 }) only [bA, bS, bD, bR, Nat.le_refl])
        go_upto_region 14 with fail
        go_cut [8, 9] (fun s8 s9 wc => ∃ X Y, s8 = .pointer (some ⟨X, 0, none⟩) ∧ s9 = .pointer (some ⟨Y, 0, none⟩) ∧ X ≠ Y ∧ wr.heap.size ≤ X ∧ wr.heap.size ≤ Y ∧ Blk wc X #[.slice p s cp] ∧ Blk wc Y #[.slice p s cp] ∧ Below wr.heap.size wr wc)
        case first =>
          go_region
          all_goals (try go_wp2_with fail)
          all_goals
            go_meet
            case rel => first | exact ⟨_, _, rfl, rfl, by omega, by omega, by omega, HKX.out, HKY.out, HBX.out⟩ | exact ⟨_, _, rfl, rfl, by omega, by omega, by omega, HKY.out, HKX.out, HBX.out⟩
        case rest =>
          obtain ⟨X, Y, rfl, rfl, hne, hxl, hyl, hkx, hky, hbc⟩ := hcut
          obtain ⟨WR, hWR⟩ : ∃ W, W = wr := ⟨_, rfl⟩
          subst hWR
          clear HKX HKY HBX k3 q0 q1 q2 q3 q4 q5
          have HNE := Lib.hid hne
          have HXL := Lib.hid hxl
          have HYL := Lib.hid hyl
          have HBC := Lib.hid hbc
          have HKX := Lib.hid hkx
          have HKY := Lib.hid hky
          have hs60 : s ≤ 60 := by omega
          clear hne hxl hyl hbc hkx hky
          go_wp2_with fail
          go_loopw [10] (fun s10 wr => ∃ i : Nat, i ≤ s ∧ s10 = .int .i64 i ∧ (∃ pa ca xa pb cb xb, Blk wr X #[.slice pa (s - i) ca] ∧ Blk wr Y #[.slice pb (s - i) cb] ∧ Pl wr pa xa (outs (S.drop i)) ∧ Pl wr pb xb (outs (S.take (s - i)))) ∧ Below WR.heap.size WR wr) (fun s10 _ => s - (intOf s10).toNat)
          case atStart =>
            refine ⟨0, Nat.zero_le _, rfl, ⟨p, cp, xs, p, cp, xs, HKX.out, HKY.out, HP.out.below HBC.out, ?_⟩, HBC.out⟩
            rw [List.take_of_length_le (by rw [← HSL.out]; omega)]
            exact HP.out.below HBC.out
          case round =>
            obtain ⟨i, hi, rfl, ⟨pa, ca, xa, pb, cb, xb, hka, hkb, hpa, hpb⟩, hb⟩ := hrel
            clear HKX HKY HBC
            have HKA := Lib.hid hka
            have HKB := Lib.hid hkb
            have HPA := Lib.hid hpa
            have HPB := Lib.hid hpb
            have HBL := Lib.hid hb
            clear hka hkb hpa hpb hb
            by_cases hlt : i < s
            · have hdl : (S.drop i).length = s - i := by rw [List.length_drop, ← HSL.out]
              have htl : (S.take (s - i)).length = s - i := by rw [List.length_take, ← HSL.out]; omega
              have hta := outs_take (S := S.drop i) (by omega) (fun m hm => HG.out m (List.mem_of_mem_drop hm)) 0 (by omega)
              have htb := outs_take (S := S.take (s - i)) (by omega) (fun m hm => HG.out m (List.mem_of_mem_take hm)) (s - 1 - i) (by omega)
              have ga : (S.drop i).getD 0 m0 = S.getD i m0 := by rw [List.getD_eq_getElem?_getD, List.getElem?_drop, List.getD_eq_getElem?_getD]; rfl
              have gb : (S.take (s - i)).getD (s - 1 - i) m0 = S.getD (s - 1 - i) m0 := by rw [List.getD_eq_getElem?_getD, List.getElem?_take, if_pos (by omega), List.getD_eq_getElem?_getD]
              have ea : (S.drop i).eraseIdx 0 = S.drop (i + 1) := by rw [drop_getD S m0 i (by rw [← HSL.out]; exact hlt)]; rfl
              have eb : (S.take (s - i)).eraseIdx (s - 1 - i) = S.take (s - (i + 1)) := by
                have e1 : s - i = (s - 1 - i) + 1 := by omega
                have e2 : s - (i + 1) = s - 1 - i := by omega
                rw [e1, e2]
                rw [take_erase_eq S m0 (s - 1 - i) (by rw [← HSL.out]; omega)]
                exact List.eraseIdx_of_length_le (by rw [List.length_take]; omega)
              rw [ga, ea] at hta
              rw [gb, eb] at htb
              obtain ⟨rak, raf, rat, ral, rao, raa, raown, ran, rav, hra⟩ := msg_parts (S.getD i m0)
              obtain ⟨rbk, rbf, rbt, rbl, rbo, rba, rbown, rbn, rbv, hrb⟩ := msg_parts (S.getD (s - 1 - i) m0)
              have HTA : Hid (∀ W, Below wr.heap.size wr W → Calls Try.prog 11 #[.agg #[.slice pa (s - i) ca], .int .i64 0] W fun e w' => ∃ p' c' xs', e = .returned (.tuple #[.agg #[.slice p' (s - (i + 1)) c'], .agg #[.int .i64 rak, .int .i64 raf, .int .i64 rat, .int .i64 ral, .int .i64 rao, .int .i64 raa, .bool raown, .int .u32 ran, .int .u32 rav], .int .i64 0]) ∧ Out W w' p' xs' (outs (S.drop (i + 1)))) := Lib.hid (fun W hb => by
                have h := take_any pa (s - i) ca xa (outs (S.drop i)) ((0 : Nat) : Int) W (by rw [outs_len, hdl]) (HPA.out.below hb)
                rw [hta.1, hta.2.1, hta.2.2, outs_len, List.length_drop, ← HSL.out, hra] at h
                exact h)
              have HTB : Hid (∀ W, Below wr.heap.size wr W → Calls Try.prog 11 #[.agg #[.slice pb (s - i) cb], .int .i64 ((s - 1 - i : Nat) : Int)] W fun e w' => ∃ p' c' xs', e = .returned (.tuple #[.agg #[.slice p' (s - (i + 1)) c'], .agg #[.int .i64 rbk, .int .i64 rbf, .int .i64 rbt, .int .i64 rbl, .int .i64 rbo, .int .i64 rba, .bool rbown, .int .u32 rbn, .int .u32 rbv], .int .i64 0]) ∧ Out W w' p' xs' (outs (S.take (s - (i + 1))))) := Lib.hid (fun W hb => by
                have h := take_any pb (s - i) cb xb (outs (S.take (s - i))) ((s - 1 - i : Nat) : Int) W (by rw [outs_len, htl]) (HPB.out.below hb)
                have h3 : (S.take (s - (i + 1))).length = s - (i + 1) := by rw [List.length_take, ← HSL.out]; omega
                rw [htb.1, htb.2.1, htb.2.2, outs_len, h3, hrb] at h
                exact h)
              have HRA := Lib.hid hra
              have HRB := Lib.hid hrb
              have HXW : Hid (X < wr.heap.size ∧ Y < wr.heap.size) := Lib.hid ⟨HKA.out.lt, HKB.out.lt⟩
              clear hta htb ga gb ea eb hra hrb hdl htl HPA HPB
              have kX := HKA.out.c
              go_wp2_with fail
              refine (HTA.out _ (Below.refl _ _)).mono ?_
              clear HTA kX
              rintro e v1 ⟨pc, cc, xc, rfl, ho⟩
              go_upto_region 19 with fail
              obtain ⟨V1, hV⟩ : ∃ v, v = (v1.alloc (.cells #[.slice pc (s - (i + 1)) cc] 24)).alloc (.cells #[.int .i64 rak, .int .i64 raf, .int .i64 rat, .int .i64 ral, .int .i64 rao, .int .i64 raa, .bool raown, .int .u32 ran, .int .u32 rav] 27) := ⟨_, rfl⟩
              have HV1 : Hid (Below v1.heap.size v1 V1) := Lib.hid (by rw [hV]; exact ((Below.refl _ _).alloc (Nat.le_refl _) _).alloc (by simp) _)
              have HBV1 : Hid (Below wr.heap.size wr V1) := Lib.hid (ho.below.trans (HV1.out.mono ho.below.size))
              have HPC : Hid (Pl V1 pc xc (outs (S.drop (i + 1)))) := Lib.hid (ho.pl.below HV1.out)
              have HOC : Hid (Off (fun b => b < wr.heap.size) pc xc (outs (S.drop (i + 1)))) := Lib.hid ho.off
              have HC1 : Hid (Blk V1 v1.heap.size #[.slice pc (s - (i + 1)) cc]) := Lib.hid (by rw [hV]; exact (Blk.new _ _ _).alloc _)
              have HM1 : Hid (Blk V1 (v1.heap.size + 1) #[.int .i64 rak, .int .i64 raf, .int .i64 rat, .int .i64 ral, .int .i64 rao, .int .i64 raa, .bool raown, .int .u32 ran, .int .u32 rav]) := Lib.hid (by
                rw [hV]
                have := Blk.new (v1.alloc (.cells #[.slice pc (s - (i + 1)) cc] 24)) #[.int .i64 rak, .int .i64 raf, .int .i64 rat, .int .i64 ral, .int .i64 rao, .int .i64 raa, .bool raown, .int .u32 ran, .int .u32 rav] 27
                rw [size_new] at this
                exact this)
              have HWV1 : Hid (wr.heap.size ≤ v1.heap.size) := Lib.hid ho.below.size
              have HKA1 := Lib.hid (HKA.out.below HBV1.out)
              have HKB1 := Lib.hid (HKB.out.below HBV1.out)
              rw [← hV]
              clear hV HV1 ho HKA HKB
              have kY := HKB1.out.c
              have e1 : ((s : Int) - 1 - (i : Int)) = ((s - 1 - i : Nat) : Int) := by omega
              go_wp2_with fail
              refine (HTB.out _ HBV1.out).mono ?_
              clear HTB kY e1
              rintro e v2 ⟨pd, cd, xd, rfl, ho⟩
              go_upto_region 20 with fail
              obtain ⟨V2, hV⟩ : ∃ v, v = (v2.alloc (.cells #[.slice pd (s - (i + 1)) cd] 24)).alloc (.cells #[.int .i64 rbk, .int .i64 rbf, .int .i64 rbt, .int .i64 rbl, .int .i64 rbo, .int .i64 rba, .bool rbown, .int .u32 rbn, .int .u32 rbv] 27) := ⟨_, rfl⟩
              have HV2 : Hid (Below v2.heap.size v2 V2) := Lib.hid (by rw [hV]; exact ((Below.refl _ _).alloc (Nat.le_refl _) _).alloc (by simp) _)
              have HB12 : Hid (Below V1.heap.size V1 V2) := Lib.hid (ho.below.trans (HV2.out.mono ho.below.size))
              have HBV2 : Hid (Below wr.heap.size wr V2) := Lib.hid (HBV1.out.trans (HB12.out.mono HBV1.out.size))
              have HPD : Hid (Pl V2 pd xd (outs (S.take (s - (i + 1))))) := Lib.hid (ho.pl.below HV2.out)
              have HOD : Hid (Off (fun b => b < wr.heap.size) pd xd (outs (S.take (s - (i + 1))))) := Lib.hid (ho.off.sub (fun b hb => Nat.lt_of_lt_of_le hb HBV1.out.size))
              have HD2 : Hid (Blk V2 v2.heap.size #[.slice pd (s - (i + 1)) cd]) := Lib.hid (by rw [hV]; exact (Blk.new _ _ _).alloc _)
              have HN2 : Hid (Blk V2 (v2.heap.size + 1) #[.int .i64 rbk, .int .i64 rbf, .int .i64 rbt, .int .i64 rbl, .int .i64 rbo, .int .i64 rba, .bool rbown, .int .u32 rbn, .int .u32 rbv]) := Lib.hid (by
                rw [hV]
                have := Blk.new (v2.alloc (.cells #[.slice pd (s - (i + 1)) cd] 24)) #[.int .i64 rbk, .int .i64 rbf, .int .i64 rbt, .int .i64 rbl, .int .i64 rbo, .int .i64 rba, .bool rbown, .int .u32 rbn, .int .u32 rbv] 27
                rw [size_new] at this
                exact this)
              have HWV2 : Hid (V1.heap.size ≤ v2.heap.size) := Lib.hid ho.below.size
              have HPC2 := Lib.hid (HPC.out.below HB12.out)
              have HC2 := Lib.hid (HC1.out.below HB12.out)
              have HM2 := Lib.hid (HM1.out.below HB12.out)
              have HKA2 := Lib.hid (HKA1.out.below HB12.out)
              have HKB2 := Lib.hid (HKB1.out.below HB12.out)
              have HLV : Hid (v1.heap.size < V1.heap.size) := Lib.hid HC1.out.lt
              rw [← hV]
              clear hV HV2 ho HPC HC1 HM1 HKA1 HKB1 HB12
              obtain ⟨b, off, hbl, e2, hcell⟩ := HEL.out (by omega)
              subst e2
              have hca := hcell i hlt
              have hcb := hcell (s - 1 - i) (by omega)
              dsimp only at hca hcb
              rw [HRA.out] at hca
              rw [HRB.out] at hcb
              have HBW2 : Hid (Below WR.heap.size WR V2) := Lib.hid (HBL.out.trans (HBV2.out.mono HBL.out.size))
              obtain ⟨n0, n1, n2, n3, n4, n5, n6, n7, n8⟩ := (Nine.of hca).below (HBW2.out.drew) hbl
              obtain ⟨l0, l1, l2, l3, l4, l5, l6, l7, l8⟩ := (Nine.of hcb).below (HBW2.out.drew) hbl
              clear hca hcb hcell
              have kM := HM2.out.drew.c
              have kN := HN2.out.drew.c
              have hTA : ∀ W, (binOp .neq 27 (.agg #[.int .i64 rak, .int .i64 raf, .int .i64 rat, .int .i64 ral, .int .i64 rao, .int .i64 raa, .bool raown, .int .u32 ran, .int .u32 rav]) (.agg #[.int .i64 rak, .int .i64 raf, .int .i64 rat, .int .i64 ral, .int .i64 rao, .int .i64 raa, .bool raown, .int .u32 ran, .int .u32 rav])).run Try.prog W = .ok (.bool false) W := fun W => by
                have := neq_msg W (S.getD i m0) (S.getD i m0)
                rw [eqM_refl, HRA.out] at this
                exact this
              have hTB : ∀ W, (binOp .neq 27 (.agg #[.int .i64 rbk, .int .i64 rbf, .int .i64 rbt, .int .i64 rbl, .int .i64 rbo, .int .i64 rba, .bool rbown, .int .u32 rbn, .int .u32 rbv]) (.agg #[.int .i64 rbk, .int .i64 rbf, .int .i64 rbt, .int .i64 rbl, .int .i64 rbo, .int .i64 rba, .bool rbown, .int .u32 rbn, .int .u32 rbv])).run Try.prog W = .ok (.bool false) W := fun W => by
                have := neq_msg W (S.getD (s - 1 - i) m0) (S.getD (s - 1 - i) m0)
                rw [eqM_refl, HRB.out] at this
                exact this
              have e1 : ((s : Int) - 1 - (i : Int)) = ((s - 1 - i : Nat) : Int) := by omega
              have hilt : (i : Int) < (s : Int) := by omega
              have h00 : ((0 : Int) != 0) = false := by decide
              have hw1 : IntKind.i64.wrap ((s : Int) - 1) = (s : Int) - 1 := by simp [IntKind.wrap, IntKind.bits, IntKind.signed]; omega
              have hw3 : IntKind.i64.wrap ((s - 1 - i : Nat) : Int) = ((s - 1 - i : Nat) : Int) := by simp [IntKind.wrap, IntKind.bits, IntKind.signed]; omega
              have hw2 : IntKind.i64.wrap ((s : Int) - 1 - (i : Int)) = ((s - 1 - i : Nat) : Int) := by rw [e1]; simp [IntKind.wrap, IntKind.bits, IntKind.signed]; omega
              have hjlt : ((s - 1 - i : Nat) : Int) < (s : Int) := by omega
              refine region_plan (fun w' : World => w' = V2.drew) 25 [(0, true), (1, true), (2, true), (3, true), (4, true), (5, true), (6, true), (7, true), (8, true), (9, true), (10, true), (11, true), (12, true), (13, true), (14, true), (15, true), (16, true), (17, true), (18, true), (19, true), (20, true), (21, true), (22, true), (23, true), (24, true)] (by kernel_rfl) (by kernel_rfl) rfl ?_
              iterate 25
                refine plan_read (v := ?_) rfl (by rfl) ?_ ?_
                rotate_left
                · intro w' hS
                  try dsimp only at hS
                  subst hS
                  go_simp
                  try with_reducible rfl
                try simp only [Act.put, List.setIfInBounds_toArray, List.set_cons_zero, List.set_cons_succ, List.getElem_toArray, List.getElem_cons_zero, List.getElem_cons_succ, h00]
              refine plan_nil ?_
              simp only [List.drop_succ_cons, List.drop_zero]
              clear n0 n1 n2 n3 n4 n5 n6 n7 n8 l0 l1 l2 l3 l4 l5 l6 l7 l8 hTA hTB kM kN hilt hjlt e1 h00 hw1 hw2 hw3
              have HKA3 := Lib.hid HKA2.out.drew
              have HKB3 := Lib.hid HKB2.out.drew
              have HC3 := Lib.hid HC2.out.drew
              have HD3 := Lib.hid HD2.out.drew
              have HPC3 := Lib.hid (HPC2.out.below (Below.refl _ _).drew)
              have HPD3 := Lib.hid (HPD.out.below (Below.refl _ _).drew)
              have HB3 := Lib.hid HBW2.out.drew
              obtain ⟨V3, hV⟩ : ∃ v, v = V2.drew := ⟨_, rfl⟩
              rw [← hV] at HKA3 HKB3 HC3 HD3 HPC3 HPD3 HB3 ⊢
              clear hV HM2 HN2 HKA2 HKB2 HC2 HD2 HPC2 HPD HBV2 HBW2 HBV1 HRA HRB hbl HEL HBL HK HO HP HB
              have hxy := HNE.out
              have hx1 : X ≠ v1.heap.size := by have := HXW.out; have := HWV1.out; omega
              have hx2 : X ≠ v2.heap.size := by have := HXW.out; have := HWV1.out; have := HLV.out; have := HWV2.out; omega
              have hy1 : Y ≠ v1.heap.size := by have := HXW.out; have := HWV1.out; omega
              have hy2 : Y ≠ v2.heap.size := by have := HXW.out; have := HWV1.out; have := HLV.out; have := HWV2.out; omega
              have cX := HKA3.out.c
              have fX := HKA3.out.f
              have lX := HKA3.out.lt
              have cY := HKB3.out.c
              have fY := HKB3.out.f
              have lY := HKB3.out.lt
              have cC := HC3.out.c
              have cD := HD3.out.c
              have cC1 := (HC3.out.other (B' := X) (n := 0) (.slice pc (s - (i + 1)) cc) hx1).c
              have cD1 := (HD3.out.other (B' := X) (n := 0) (.slice pc (s - (i + 1)) cc) hx2).c
              have cY1 := (HKB3.out.other (B' := X) (n := 0) (.slice pc (s - (i + 1)) cc) hxy).c
              have fY1 := (HKB3.out.other (B' := X) (n := 0) (.slice pc (s - (i + 1)) cc) hxy).f
              have cC2 := (HC3.out.other (B' := Y) (n := 0) (.slice pd (s - (i + 1)) cd) hy1).c
              have cD2 := (HD3.out.other (B' := Y) (n := 0) (.slice pd (s - (i + 1)) cd) hy2).c
              have cX2 := (HKA3.out.other (B' := Y) (n := 0) (.slice pd (s - (i + 1)) cd) hxy.symm).c
              have fX2 := (HKA3.out.other (B' := Y) (n := 0) (.slice pd (s - (i + 1)) cd) hxy.symm).f
              go_upto_region 22 with fail
              go_region
              all_goals (try go_wp2_with fail)
              all_goals
                go_roundw
                case rel => first | exact ⟨i + 1, by omega, by go_num, ⟨pc, cc, xc, pd, cd, xd, (((HKA3.out.set (n := 0) (.slice pc (s - (i + 1)) cc) (by simp)).other (B' := Y) (n := 0) (.slice pd (s - (i + 1)) cd) hxy.symm).drew), (((HKB3.out.other (B' := X) (n := 0) (.slice pc (s - (i + 1)) cc) hxy).set (n := 0) (.slice pd (s - (i + 1)) cd) (by simp)).drew), (((HPC3.out.set (R := X) (HOC.out.sub (fun b e => by have := HXW.out; omega)) 0 (.slice pc (s - (i + 1)) cc)).set (R := Y) (HOC.out.sub (fun b e => by have := HXW.out; omega)) 0 (.slice pd (s - (i + 1)) cd)).below (Below.refl _ _).drew), (((HPD3.out.set (R := X) (HOD.out.sub (fun b e => by have := HXW.out; omega)) 0 (.slice pc (s - (i + 1)) cc)).set (R := Y) (HOD.out.sub (fun b e => by have := HXW.out; omega)) 0 (.slice pd (s - (i + 1)) cd)).below (Below.refl _ _).drew)⟩, (((HB3.out.setCell (p := ⟨X, 0, none⟩) HXL.out (.slice pc (s - (i + 1)) cc)).setCell (p := ⟨Y, 0, none⟩) HYL.out (.slice pd (s - (i + 1)) cd)).drew)⟩ | exact ⟨i + 1, by omega, by go_num, ⟨pc, cc, xc, pd, cd, xd, (((HKA3.out.other (B' := Y) (n := 0) (.slice pd (s - (i + 1)) cd) hxy.symm).set (n := 0) (.slice pc (s - (i + 1)) cc) (by simp)).drew), (((HKB3.out.set (n := 0) (.slice pd (s - (i + 1)) cd) (by simp)).other (B' := X) (n := 0) (.slice pc (s - (i + 1)) cc) hxy).drew), (((HPC3.out.set (R := Y) (HOC.out.sub (fun b e => by have := HXW.out; omega)) 0 (.slice pd (s - (i + 1)) cd)).set (R := X) (HOC.out.sub (fun b e => by have := HXW.out; omega)) 0 (.slice pc (s - (i + 1)) cc)).below (Below.refl _ _).drew), (((HPD3.out.set (R := Y) (HOD.out.sub (fun b e => by have := HXW.out; omega)) 0 (.slice pd (s - (i + 1)) cd)).set (R := X) (HOD.out.sub (fun b e => by have := HXW.out; omega)) 0 (.slice pc (s - (i + 1)) cc)).below (Below.refl _ _).drew)⟩, (((HB3.out.setCell (p := ⟨Y, 0, none⟩) HYL.out (.slice pd (s - (i + 1)) cd)).setCell (p := ⟨X, 0, none⟩) HXL.out (.slice pc (s - (i + 1)) cc)).drew)⟩
                case measure => simp [intOf]; omega
            · have his : i = s := by omega
              subst his
              have hda : outs (S.drop i) = [] := by rw [List.drop_of_length_le (by rw [← HSL.out]; omega)]; rfl
              have hroom := room_any p i cp xs (outs S) wr (by rw [outs_len, HSL.out]) (HP.out.below HBL.out)
              have hr0 : roomP (outs S) = 64 - (i : Int) := by unfold roomP; rw [outs_right (by rw [← HSL.out]; omega) HG.out, if_pos rfl, outs_len, ← HSL.out]
              rw [hr0] at hroom
              have hRM : ((64 : Int) - (i : Int) == 64 - (i : Int)) = true := by simp
              have hkx := HKA.out
              have hky := HKB.out
              rw [Nat.sub_self] at hkx hky
              have kX := hkx.c
              have kY := hky.c
              have kT := (HK.out.below HBL.out).c
              clear hkx hky hda hr0
              go_wp2_with fail
              refine hroom.mono ?_
              rintro e v ⟨rfl, hb⟩
              have HBE : Hid (Below w.heap.size w v) := Lib.hid ((HB.out.trans (HBL.out.mono HB.out.size)).trans (hb.mono (Nat.le_trans HB.out.size HBL.out.size)))
              clear hb hroom
              go_wp2_with fail
              go_ret
              exact ⟨rfl, HBE.out⟩
end Go.Proofs.Ytpmheaeiemnjeaa
