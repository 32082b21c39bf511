/- The program's copy and list of others, in memory of one's own; no condition but that what is known reads. -/
import Derived.Test.YthkpoiaakggimaaDirecC
namespace Go.Proofs.Ythkpoiaakggimaa
set_option linter.unusedVariables false
open Go.ChangeShapes Go.WideShapes Go.ChangeAt Go.RowKit

set_option maxHeartbeats 4000000 in
theorem copied_any (p : Option Addr) (n c : Nat) (E : En) (w : World) (h : Ec w p n c E) :
    Calls Try.prog 21 #[.agg #[.int .i64 E.owner, .slice p n c]] w fun e w' => ∃ p' c', e = .returned (.agg #[.int .i64 E.owner, .slice p' n c']) ∧ w'.ownsRow (w.heap.size + 2) 4 1 (.slice p' n c') n (boC E.share) ∧ Below w.heap.size w w' := by
  have HC := Lib.hid h
  have HCL := Lib.hid (fun W hW => clone_any p n c E.share W h.len (h.sl.below (w := w) (w' := W) hW) h.n100 h.cn)
  obtain ⟨O, hO⟩ : ∃ O, O = E.owner := ⟨_, rfl⟩
  rw [← hO]
  obtain ⟨L, hL⟩ : ∃ L, L = E.share := ⟨_, rfl⟩
  rw [← hL] at HCL ⊢
  clear hO hL h HC
  obtain ⟨w0, hw0⟩ : ∃ w0, w0 = (w.alloc (.cells #[.int .i64 O, .slice p n c] 24)).alloc (.cells #[.int .i64 0, .slice none 0 0] 24) := ⟨_, rfl⟩
  have HB0 : Hid (Below w.heap.size w w0) := Lib.hid (by rw [hw0]; exact ((Below.refl _ _).alloc (Nat.le_refl _) _).alloc (by simp) _)
  have HA0 : Hid (Blk w0 w.heap.size #[.int .i64 O, .slice p n c]) := Lib.hid (by rw [hw0]; exact (Blk.new _ _ _).alloc _)
  have HT0 : Hid (Blk w0 (w.heap.size + 1) #[.int .i64 0, .slice none 0 0]) := Lib.hid (by
    have := Blk.new (w.alloc (.cells #[.int .i64 O, .slice p n c] 24)) #[.int .i64 0, .slice none 0 0] 24
    rw [World.size_alloc] at this
    rw [hw0]; exact this)
  have HSZ : Hid (w0.heap.size = w.heap.size + 2) := Lib.hid (by rw [hw0, World.size_alloc, World.size_alloc])
  have HW0 := Lib.hid hw0
  clear hw0
  have HS : Hid (∀ V, Below w0.heap.size w0 V → ∀ t, V.cell? ⟨w.heap.size, t, none⟩ = (#[.int .i64 O, .slice p n c] : Array Value)[t]?) := Lib.hid (fun V hV => (HA0.out.below hV).c)
  go_enter Try.func21, Try.ntmps21
  go_upto_region 1 with fail
  rw [← HW0.out]
  clear HW0
  refine region_plan (fun V : World => ∀ t, V.cell? ⟨w.heap.size, t, none⟩ = (#[.int .i64 O, .slice p n c] : Array Value)[t]?) 5 [(0, true), (1, true), (2, true), (3, true), (4, false)] (by kernel_rfl) (by kernel_rfl) (HS.out _ (Below.refl _ _).drew) ?_
  iterate 4
    refine plan_read (v := ?_) rfl (by rfl) ?_ ?_
    rotate_left
    · intro w' hS
      try dsimp only at hS
      go_simp
      try with_reducible rfl
    try simp only [Act.put, List.setIfInBounds_toArray, List.set_cons_zero, List.set_cons_succ, List.getElem_toArray, List.getElem_cons_zero, List.getElem_cons_succ]
  refine plan_call (F := 28) (args := ?_) rfl (by rfl) ?_ ?_
  rotate_left
  · go_simp
    rfl
  refine (HCL.out w0.drew HB0.out.drew).mono ?_
  rintro e w1 ⟨r, rfl, hr, hb⟩
  have HB1 : Hid (Below w0.heap.size w0 w1) := Lib.hid ((Below.refl _ _).drew.trans hb)
  have HR : Hid (w1.ownsRow (w.heap.size + 2) 4 1 r n (boC L)) := Lib.hid (own_base hr (by show w.heap.size + 2 ≤ w0.heap.size; rw [HSZ.out]; exact Nat.le_refl _))
  clear hr hb
  refine ⟨_, rfl, HS.out _ HB1.out, ?_⟩
  try simp only [Act.put, List.setIfInBounds_toArray, List.set_cons_zero, List.set_cons_succ, List.getElem_toArray, List.getElem_cons_zero, List.getElem_cons_succ]
  refine plan_nil ?_
  simp only [List.drop_succ_cons, List.drop_zero]
  obtain ⟨p', c', rfl, -⟩ := own_cap HR.out
  have HT1 := Lib.hid (HT0.out.below HB1.out)
  have HBW : Hid (Below w.heap.size w w1) := Lib.hid (HB0.out.trans (HB1.out.mono HB0.out.size))
  clear HS HT0 HB0 HB1 HA0 HCL HSZ
  have cT := HT1.out.c
  have fT := HT1.out.f
  have lT := HT1.out.lt
  go_wp2_with fail
  exact bodyPost_ret (v := .agg #[.int .i64 O, .slice p' n c']) (by simp [results, Try.results21, go_sem, *]) rfl ⟨_, _, rfl, own_off (own_off HR.out (fun g e => by have := (HR.out.lt g e).1; omega) _ _) (fun g e => by have := (HR.out.lt g e).1; omega) _ _, set2_below HBW.out (by omega) _ _⟩

set_option maxHeartbeats 4000000 in
theorem others_any (p : Option Addr) (n c : Nat) (E : En) (k : Int) (w : World) (h : Ec w p n c E) :
    Calls Try.prog 23 #[.agg #[.int .i64 E.owner, .slice p n c], .int .i64 k] w fun e w' => ∃ q d, e = .returned (.slice q (othE E k).length d) ∧ w'.ownsRow (w.heap.size + 1) 3 1 (.slice q (othE E k).length d) (othE E k).length (inC (othE E k)) ∧ Below w.heap.size w w' := by
  have hn := h.n100
  have HC := Lib.hid h
  have hof : othE E k = oth E.share k n := by unfold othE; rw [h.len]
  rw [hof]
  obtain ⟨O, hO⟩ : ∃ O, O = E.owner := ⟨_, rfl⟩
  rw [← hO]
  obtain ⟨i0, hi, hz0, hz1, hz2⟩ := info_parts info3
  have HI := Lib.hid (And.intro hi (And.intro hz0 (And.intro hz1 hz2)))
  obtain ⟨L, hL⟩ : ∃ L, L = E.share := ⟨_, rfl⟩
  have HAT : Hid (∀ j, j < n → ∃ b off, p = some ⟨b, off, none⟩ ∧ b < w.heap.size ∧ w.cell? ⟨b, off + j, none⟩ = some (.bool (L.getD j false))) := Lib.hid (fun j hj => by rw [hL]; exact HC.out.at_ j hj)
  rw [← hL]
  clear h hO hof hi hz0 hz1 hz2 hL HC
  have HB0 : Hid (Below w.heap.size w (w.alloc (.cells #[.int .i64 O, .slice p n c] 24))) := Lib.hid ((Below.refl _ _).alloc (Nat.le_refl _) _)
  have HSZ : Hid ((w.alloc (.cells #[.int .i64 O, .slice p n c] 24)).heap.size = w.heap.size + 1) := Lib.hid (World.size_alloc _ _)
  go_enter Try.func23, Try.ntmps23
  go_wp2_with fail
  go_loopw [5, 11] (fun v i wr => ∃ j : Nat, j ≤ n ∧ i = .int .i64 j ∧ (∃ q d, v = .slice q (oth L k j).length d ∧ wr.ownsRow (w.heap.size + 1) 3 1 v (oth L k j).length (inC (oth L k j))) ∧ Below w.heap.size w wr ∧ w.heap.size + 1 ≤ wr.heap.size) (fun _ i _ => n - (intOf i).toNat)
  case atStart => exact ⟨0, Nat.zero_le _, rfl, ⟨none, 0, rfl, World.ownsRow_nil _ _ _ _⟩, HB0.out, Nat.le_of_eq HSZ.out.symm⟩
  case round =>
    obtain ⟨j, hj, rfl, ⟨q, d, rfl, ho⟩, hb, hsz⟩ := hrel
    have HO := Lib.hid ho
    have HB := Lib.hid hb
    have HGE := Lib.hid hsz
    clear ho hb hsz HB0 HSZ
    by_cases hlt : j < n
    · obtain ⟨b, off, rfl, hbl, hcell⟩ := HAT.out j hlt
      have hcw := (HB.out.cell (p := ⟨b, off + j, none⟩) hbl).trans hcell
      have hjI : (j : Int) < (n : Int) := by omega
      have HOS := Lib.hid (oth_succ L k j)
      have hlen := oth_le L k j
      obtain ⟨x, hx⟩ : ∃ x, x = L.getD j false := ⟨_, rfl⟩
      have HBI : Hid (othB L k j = (x && decide ((j : Int) ≠ k))) := Lib.hid (by rw [hx]; rfl)
      rw [← hx] at hcw
      clear hcell hbl hx
      obtain ⟨T, hT⟩ : ∃ T, T = oth L k j := ⟨_, rfl⟩
      rw [← hT] at HOS HO hlen ⊢
      clear hT
      cases x with
      | false =>
        have HE : Hid (oth L k (j + 1) = T) := Lib.hid (by rw [HOS.out, HBI.out]; simp)
        go_wp2_with fail
        go_roundw
        case rel => exact ⟨j + 1, by omega, by go_num, ⟨q, d, by rw [HE.out], by rw [HE.out]; exact HO.out⟩, HB.out, HGE.out⟩
        case measure => simp [intOf]; omega
      | true =>
        by_cases hk : (j : Int) = k
        · have d1 : ((j : Int) != k) = false := by simp [hk]
          have HE : Hid (oth L k (j + 1) = T) := Lib.hid (by rw [HOS.out, HBI.out]; simp [hk])
          clear hk
          go_wp2_with fail
          go_roundw
          case rel => exact ⟨j + 1, by omega, by go_num, ⟨q, d, by rw [HE.out], by rw [HE.out]; exact HO.out⟩, HB.out, HGE.out⟩
          case measure => simp [intOf]; omega
        · have d1 : ((j : Int) != k) = true := by simp [hk]
          have HE : Hid (oth L k (j + 1) = T ++ [j]) := Lib.hid (by rw [HOS.out, HBI.out]; simp [hk])
          clear hk
          have HBA : Hid (Below wr.heap.size wr (wr.alloc (.cells #[.int .i64 (j : Int)] 3))) := Lib.hid ((Below.refl _ _).alloc (Nat.le_refl _) _)
          have HNW : Hid (Blk (wr.alloc (.cells #[.int .i64 (j : Int)] 3)) wr.heap.size [Value.int .i64 (j : Int)].toArray) := Lib.hid (Blk.new _ _ _)
          have HO2 := Lib.hid (own_below HO.out HBA.out)
          have HBW : Hid (Below w.heap.size w (wr.alloc (.cells #[.int .i64 (j : Int)] 3))) := Lib.hid (HB.out.alloc HB.out.size _)
          go_wp2_with (first | (at_builtin; refine wpList_append_sl rfl _ _ 32 rfl (w.heap.size + 1) 3 i0 (.int .i64 0) 1 8 Try.underlying32 HI.out.1 HI.out.2.1 HI.out.2.2.1 HI.out.2.2.2 rfl (by decide) _ T.length (inC T) rfl HO2.out (some ⟨wr.heap.size, 0, none⟩) 1 1 [.int .i64 (j : Int)] rfl rfl (blk_sl HNW.out) (by intro u hu; rw [List.mem_singleton.1 hu]; rfl) (by unfold maxLen; omega) (by omega) (Nat.le_trans HGE.out HBA.out.size) ?_))
          intro v' w' g1 g2 g3
          obtain ⟨q', d', rfl, -⟩ := own_cap g1
          have HO3 : Hid (w'.ownsRow (w.heap.size + 1) 3 1 (.slice q' (T.length + 1) d') (T.length + 1) (inC T ++ [.int .i64 (j : Int)])) := Lib.hid g1
          have HB3 : Hid (Below w.heap.size w w') := Lib.hid (HBW.out.grown g2 HBW.out.size (fun g e => by have := (HO2.out.lt g e).1; omega))
          have HG3 : Hid (w.heap.size + 1 ≤ w'.heap.size) := Lib.hid (Nat.le_trans HGE.out (Nat.le_trans HBA.out.size g2.size))
          have HL1 : Hid ((oth L k (j + 1)).length = T.length + 1) := Lib.hid (by rw [HE.out, List.length_append]; rfl)
          have HL2 : Hid (inC (oth L k (j + 1)) = inC T ++ [.int .i64 (j : Int)]) := Lib.hid (by rw [HE.out, inC_app]; rfl)
          clear g1 g2 g3 HBA HNW HO2 HBW hcw
          go_wp2_with fail
          go_roundw
          case rel => exact ⟨j + 1, by omega, by go_num, ⟨q', d', by rw [HL1.out], by rw [HL1.out, HL2.out]; exact HO3.out⟩, HB3.out, HG3.out⟩
          case measure => simp [intOf]; omega
    · have hjn : j = n := by omega
      subst hjn
      go_wp2_with fail
      go_ret
      exact ⟨_, _, rfl, HO.out, HB.out⟩
end Go.Proofs.Ythkpoiaakggimaa
