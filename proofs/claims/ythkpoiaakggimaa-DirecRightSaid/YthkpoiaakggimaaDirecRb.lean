/- The document's own: others, set, are two the same, New; no condition but that what is known reads. -/
import Derived.Test.YthkpoiaakggimaaDirecRa
namespace Go.Proofs.Ythkpoiaakggimaa
set_option linter.unusedVariables false
open Go.ChangeShapes Go.WideShapes Go.ChangeAt Go.RowKit

set_option maxHeartbeats 4000000 in
theorem rothers_any (p : Option Addr) (n c : Nat) (E : En) (k : Int) (w : World) (h : Ec w p n c E) :
    Calls Try.prog 18 #[.agg #[.int .i64 E.owner, .slice p n c], .int .i64 k] w fun e w' => ∃ q d, e = .returned (.slice q (othE E k).length d) ∧ w'.ownsRow (w.heap.size + 1) 3 1 (.slice q (othE E k).length d) (othE E k).length (inC (othE E k)) ∧ Below w.heap.size w w' := by
  have hn := h.n100
  have HC := Lib.hid h
  have hof : othE E k = oth E.share k n := by unfold othE; rw [h.len]
  rw [hof]
  obtain ⟨O, hO⟩ : ∃ O, O = E.owner := ⟨_, rfl⟩
  rw [← hO]
  obtain ⟨i0, hi, hz0, hz1, hz2⟩ := info_parts info3
  have HI := Lib.hid (And.intro hi (And.intro hz0 (And.intro hz1 hz2)))
  obtain ⟨L, hL⟩ : ∃ L, L = E.share := ⟨_, rfl⟩
  have HAT : Hid (∀ j, j < n → ∃ b off, p = some ⟨b, off, none⟩ ∧ b < w.heap.size ∧ w.cell? ⟨b, off + j, none⟩ = some (.bool (L.getD j false))) := Lib.hid (fun j hj => by rw [hL]; exact HC.out.at_ j hj)
  rw [← hL]
  clear h hO hof hi hz0 hz1 hz2 hL HC
  have HB0 : Hid (Below w.heap.size w (w.alloc (.cells #[.int .i64 O, .slice p n c] 24))) := Lib.hid ((Below.refl _ _).alloc (Nat.le_refl _) _)
  have HA0 : Hid (Blk (w.alloc (.cells #[.int .i64 O, .slice p n c] 24)) w.heap.size #[.int .i64 O, .slice p n c]) := Lib.hid (Blk.new _ _ _)
  have HSZ : Hid ((w.alloc (.cells #[.int .i64 O, .slice p n c] 24)).heap.size = w.heap.size + 1) := Lib.hid (World.size_alloc _ _)
  go_enter Try.func18, Try.ntmps18
  go_wp2_with fail
  go_loopw [5, 6] (fun v i wr => ∃ j : Nat, j ≤ n ∧ i = .int .i64 j ∧ (∃ q d, v = .slice q (oth L k j).length d ∧ wr.ownsRow (w.heap.size + 1) 3 1 v (oth L k j).length (inC (oth L k j))) ∧ Blk wr w.heap.size #[.int .i64 O, .slice p n c] ∧ Below w.heap.size w wr ∧ w.heap.size + 1 ≤ wr.heap.size) (fun _ i _ => n - (intOf i).toNat)
  case atStart => exact ⟨0, Nat.zero_le _, rfl, ⟨none, 0, rfl, World.ownsRow_nil _ _ _ _⟩, HA0.out, HB0.out, Nat.le_of_eq HSZ.out.symm⟩
  case round =>
    obtain ⟨j, hj, rfl, ⟨q, d, rfl, ho⟩, ha, hb, hsz⟩ := hrel
    have HO := Lib.hid ho
    have HA := Lib.hid ha
    have HB := Lib.hid hb
    have HGE := Lib.hid hsz
    clear ho hb hsz ha HA0 HB0 HSZ
    have kA := HA.out.c
    by_cases hlt : j < n
    · obtain ⟨b, off, rfl, hbl, hcell⟩ := HAT.out j hlt
      have hcw := (HB.out.cell (p := ⟨b, off + j, none⟩) hbl).trans hcell
      have hjI : (j : Int) < (n : Int) := by omega
      have HOS := Lib.hid (oth_succ L k j)
      have hlen := oth_le L k j
      obtain ⟨x, hx⟩ : ∃ x, x = L.getD j false := ⟨_, rfl⟩
      have HBI : Hid (othB L k j = (x && decide ((j : Int) ≠ k))) := Lib.hid (by rw [hx]; rfl)
      rw [← hx] at hcw
      clear hcell hbl hx
      obtain ⟨T, hT⟩ : ∃ T, T = oth L k j := ⟨_, rfl⟩
      rw [← hT] at HOS HO hlen ⊢
      clear hT
      cases x with
      | false =>
        have HE : Hid (oth L k (j + 1) = T) := Lib.hid (by rw [HOS.out, HBI.out]; simp)
        go_wp2_with fail
        go_roundw
        case rel => exact ⟨j + 1, by omega, by go_num, ⟨q, d, by rw [HE.out], by rw [HE.out]; exact HO.out⟩, HA.out, HB.out, HGE.out⟩
        case measure => simp [intOf]; omega
      | true =>
        by_cases hk : (j : Int) = k
        · have d1 : ((j : Int) != k) = false := by simp [hk]
          have HE : Hid (oth L k (j + 1) = T) := Lib.hid (by rw [HOS.out, HBI.out]; simp [hk])
          clear hk
          go_wp2_with fail
          go_roundw
          case rel => exact ⟨j + 1, by omega, by go_num, ⟨q, d, by rw [HE.out], by rw [HE.out]; exact HO.out⟩, HA.out, HB.out, HGE.out⟩
          case measure => simp [intOf]; omega
        · have d1 : ((j : Int) != k) = true := by simp [hk]
          have HE : Hid (oth L k (j + 1) = T ++ [j]) := Lib.hid (by rw [HOS.out, HBI.out]; simp [hk])
          clear hk
          have HBA : Hid (Below wr.heap.size wr (wr.alloc (.cells #[.int .i64 (j : Int)] 3))) := Lib.hid ((Below.refl _ _).alloc (Nat.le_refl _) _)
          have HNW : Hid (Blk (wr.alloc (.cells #[.int .i64 (j : Int)] 3)) wr.heap.size [Value.int .i64 (j : Int)].toArray) := Lib.hid (Blk.new _ _ _)
          have HO2 := Lib.hid (own_below HO.out HBA.out)
          have HA2 := Lib.hid (HA.out.below HBA.out)
          have HBW : Hid (Below w.heap.size w (wr.alloc (.cells #[.int .i64 (j : Int)] 3))) := Lib.hid (HB.out.alloc HB.out.size _)
          go_wp2_with (first | (at_builtin; refine wpList_append_sl rfl _ _ 32 rfl (w.heap.size + 1) 3 i0 (.int .i64 0) 1 8 Try.underlying32 HI.out.1 HI.out.2.1 HI.out.2.2.1 HI.out.2.2.2 rfl (by decide) _ T.length (inC T) rfl HO2.out (some ⟨wr.heap.size, 0, none⟩) 1 1 [.int .i64 (j : Int)] rfl rfl (blk_sl HNW.out) (by intro u hu; rw [List.mem_singleton.1 hu]; rfl) (by unfold maxLen; omega) (by omega) (Nat.le_trans HGE.out HBA.out.size) ?_))
          intro v' w' g1 g2 g3
          obtain ⟨q', d', rfl, -⟩ := own_cap g1
          have HO3 : Hid (w'.ownsRow (w.heap.size + 1) 3 1 (.slice q' (T.length + 1) d') (T.length + 1) (inC T ++ [.int .i64 (j : Int)])) := Lib.hid g1
          have HA3 := Lib.hid (HA2.out.grown g2 (fun e => by have := (HO2.out.lt _ e).1; omega))
          have HB3 : Hid (Below w.heap.size w w') := Lib.hid (HBW.out.grown g2 HBW.out.size (fun g e => by have := (HO2.out.lt g e).1; omega))
          have HG3 : Hid (w.heap.size + 1 ≤ w'.heap.size) := Lib.hid (Nat.le_trans HGE.out (Nat.le_trans HBA.out.size g2.size))
          have HL1 : Hid ((oth L k (j + 1)).length = T.length + 1) := Lib.hid (by rw [HE.out, List.length_append]; rfl)
          have HL2 : Hid (inC (oth L k (j + 1)) = inC T ++ [.int .i64 (j : Int)]) := Lib.hid (by rw [HE.out, inC_app]; rfl)
          clear g1 g2 g3 HBA HNW HO2 HBW hcw kA HA2
          go_wp2_with fail
          go_roundw
          case rel => exact ⟨j + 1, by omega, by go_num, ⟨q', d', by rw [HL1.out], by rw [HL1.out, HL2.out]; exact HO3.out⟩, HA3.out, HB3.out, HG3.out⟩
          case measure => simp [intOf]; omega
    · have hjn : j = n := by omega
      subst hjn
      go_wp2_with fail
      go_ret
      exact ⟨_, _, rfl, HO.out, HB.out⟩

set_option maxHeartbeats 2000000 in
theorem set_any (p : Option Addr) (n c k : Nat) (l : List Bool) (x : Bool) (w : World) (hl : l.length = n) (hs : Sl w p n (boC l)) (hk : k < n) (hm : n ≤ 100) :
    Calls Try.prog 25 #[.slice p n c, .int .i64 k, .bool x] w fun e w' => ∃ q d, e = .returned (.slice q n d) ∧ w'.ownsRow w.heap.size 4 1 (.slice q n d) n (boC (l.set k x)) ∧ Below w.heap.size w w' := by
  obtain ⟨i0, hi, hz0, hz1, hz2⟩ := info_parts info4
  have HI := Lib.hid (And.intro hi (And.intro hz0 (And.intro hz1 hz2)))
  have HS := Lib.hid hs
  have HL := Lib.hid hl
  clear hs hl hi hz0 hz1 hz2
  go_enter Try.func25, Try.ntmps25
  go_wp2_with (first | (at_builtin; refine wpList_append_sl rfl _ _ 22 rfl w.heap.size 4 i0 _ 1 1 Try.underlying22 HI.out.1 HI.out.2.1 HI.out.2.2.1 HI.out.2.2.2 rfl (by decide) _ 0 [] rfl (fresh_made (Nat.le_refl _)) p n c (boC l) rfl (by rw [boC_len, HL.out, Nat.mul_one]) (HS.out.below ((Below.refl _ _).alloc (Nat.le_refl _) _)) (boC_one _) (by unfold maxLen; omega) (by omega) (by simp) ?_))
  intro v' w' g1 g2 g3
  have hg : w'.ownsRow w.heap.size 4 1 v' n (boC l) := by simpa using g1
  obtain ⟨q, d, rfl, -⟩ := own_cap hg
  obtain ⟨g, hqg, -, -, hg0, -⟩ := own_go hg (by omega)
  subst hqg
  have HG := Lib.hid hg
  have HGG : Hid (w.heap.size ≤ g) := Lib.hid hg0
  have HB : Hid (Below w.heap.size w w') := Lib.hid (((Below.refl w.heap.size w).alloc (Nat.le_refl _) _).grown g2 (by simp) (fun k hk => by simp [Value.ownBlock] at hk; omega))
  clear g1 g2 g3 hg hg0
  have hkI : (k : Int) < (n : Int) := by omega
  obtain ⟨u, hu⟩ : ∃ u, w'.cell? ⟨g, k, none⟩ = some u := ⟨_, (HG.out.cellAt k (by omega)).trans (List.getElem?_eq_getElem (by rw [boC_len, HL.out]; exact hk))⟩
  have hfz := HG.out.frozenAt k
  have HO2 : Hid ((w'.setCell ⟨g, k, none⟩ (.bool x)).ownsRow w.heap.size 4 1 (.slice (some ⟨g, 0, none⟩) n d) n (boC (l.set k x))) := Lib.hid (by rw [← boC_set]; exact (HG.out.stored k (.bool x)).1)
  have HB2 : Hid (Below w.heap.size w (w'.setCell ⟨g, k, none⟩ (.bool x))) := Lib.hid (HB.out.setCell (p := ⟨g, k, none⟩) HGG.out _)
  go_wp2_with fail
  go_ret
  exact ⟨_, _, rfl, HO2.out, HB2.out⟩

set_option maxHeartbeats 4000000 in
theorem same_any (p q : Option Addr) (n c d : Nat) (E : En) (w : World) (h1 : Ec w p n c E) (h2 : Ec w q n d E) :
    Calls Try.prog 9 #[.agg #[.int .i64 E.owner, .slice p n c], .agg #[.int .i64 E.owner, .slice q n d]] w fun e w' => e = .returned (.bool true) ∧ Below w.heap.size w w' := by
  have hn := h1.n100
  have H1 := Lib.hid (fun k hk => h1.at_ k hk)
  have H2 := Lib.hid (fun k hk => h2.at_ k hk)
  obtain ⟨O, hO⟩ : ∃ O, O = E.owner := ⟨_, rfl⟩
  rw [← hO]
  clear h1 h2 hO
  obtain ⟨w0, hw0⟩ : ∃ w0, w0 = (w.alloc (.cells #[.int .i64 O, .slice p n c] 24)).alloc (.cells #[.int .i64 O, .slice q n d] 24) := ⟨_, rfl⟩
  have HB0 : Hid (Below w.heap.size w w0) := Lib.hid (by rw [hw0]; exact ((Below.refl _ _).alloc (Nat.le_refl _) _).alloc (by simp) _)
  have HA0 : Hid (Blk w0 w.heap.size #[.int .i64 O, .slice p n c]) := Lib.hid (by rw [hw0]; exact (Blk.new _ _ _).alloc _)
  have HC0 : Hid (Blk w0 (w.heap.size + 1) #[.int .i64 O, .slice q n d]) := Lib.hid (by
    have := Blk.new (w.alloc (.cells #[.int .i64 O, .slice p n c] 24)) #[.int .i64 O, .slice q n d] 24
    rw [World.size_alloc] at this
    rw [hw0]; exact this)
  have HW0 := Lib.hid hw0
  clear hw0
  have eA : (O != O) = false := by simp
  have eN : ((n : Int) != (n : Int)) = false := by simp
  go_enter Try.func9, Try.ntmps9
  go_upto_region 3 with fail
  rw [← HW0.out]
  clear HW0 eA eN
  go_wp2_with fail
  go_loopw [5] (fun i wr => ∃ k : Nat, k ≤ n ∧ i = .int .i64 k ∧ Blk wr w.heap.size #[.int .i64 O, .slice p n c] ∧ Blk wr (w.heap.size + 1) #[.int .i64 O, .slice q n d] ∧ Below w.heap.size w wr) (fun i _ => n - (intOf i).toNat)
  case atStart => exact ⟨0, Nat.zero_le _, rfl, HA0.out, HC0.out, HB0.out⟩
  case round =>
    obtain ⟨k, hk, rfl, ha, hc, hb⟩ := hrel
    have HAA := Lib.hid ha
    have HCC := Lib.hid hc
    have HB := Lib.hid hb
    clear ha hc hb HA0 HC0 HB0
    have kA := HAA.out.c
    have kC := HCC.out.c
    by_cases hlt : k < n
    · obtain ⟨b, off, rfl, hb1, hc1⟩ := H1.out k hlt
      obtain ⟨b2, off2, rfl, hb2, hc2⟩ := H2.out k hlt
      have hkI : (k : Int) < (n : Int) := by omega
      have c1 := (HB.out.cell (p := ⟨b, off + k, none⟩) hb1).trans hc1
      have c2 := (HB.out.cell (p := ⟨b2, off2 + k, none⟩) hb2).trans hc2
      obtain ⟨x, hx⟩ : ∃ x, x = E.share.getD k false := ⟨_, rfl⟩
      rw [← hx] at c1 c2
      have eX : (x != x) = false := by cases x <;> rfl
      clear hb1 hb2 hc1 hc2 hx
      go_upto_region 6 with fail
      go_quiet (fail)
      go_wp2_with fail
      go_roundw
      case rel => exact ⟨k + 1, by omega, by go_num, HAA.out.drewN _, HCC.out.drewN _, drewN_below HB.out _⟩
      case measure => simp [intOf]; omega
    · have hkn : k = n := by omega
      subst hkn
      go_wp2_with fail
      go_ret
      exact ⟨rfl, HB.out⟩

set_option maxHeartbeats 2000000 in
theorem rnew_any (n : Int) (w : World) : Calls Try.prog 16 #[.int .i64 n] w fun e w' => Out2 (fun R => R < w.heap.size) w w' e (newC n) (newX n) := by
  have HNO : Hid (¬ (1 ≤ n ∧ n ≤ 4) → newC n = ⟨0, []⟩ ∧ newX n = 1) := Lib.hid (fun hh => by
    have e : mayN n = false := no_of fun e => hh (mayN_iff.1 e)
    unfold newC newX; rw [e]; exact ⟨rfl, rfl⟩)
  have HYES : Hid (1 ≤ n ∧ n ≤ 4 → newC n = ⟨0, List.replicate n.toNat false⟩ ∧ newX n = 0) := Lib.hid (fun hh => by
    have e : mayN n = true := mayN_iff.2 hh
    unfold newC newX; rw [e]; exact ⟨rfl, rfl⟩)
  obtain ⟨C, hC⟩ : ∃ C, C = newC n := ⟨_, rfl⟩
  obtain ⟨E, hE⟩ : ∃ E, E = newX n := ⟨_, rfl⟩
  rw [← hC, ← hE] at HNO HYES ⊢
  clear hC hE
  obtain ⟨i0, hi, hz0, hz1, hz2⟩ := info_parts info4
  have HI := Lib.hid (And.intro hi (And.intro hz0 (And.intro hz1 hz2)))
  clear hi hz0 hz1 hz2
  have HB0 : Hid (Below w.heap.size w (w.alloc (.cells #[.int .i64 0, .slice none 0 0] 24))) := Lib.hid ((Below.refl _ _).alloc (Nat.le_refl _) _)
  have HK0 : Hid (Blk (w.alloc (.cells #[.int .i64 0, .slice none 0 0] 24)) w.heap.size #[.int .i64 0, .slice none 0 0]) := Lib.hid (Blk.new _ _ _)
  go_enter Try.func16, Try.ntmps16
  by_cases h1 : n < 1
  · have d1 : decide (n < 1) = true := decide_eq_true h1
    obtain ⟨hC, hE⟩ := HNO.out (by omega)
    subst hC hE
    clear HNO HYES HI h1
    go_wp2_with fail
    exact bodyPost_ret (v := .tuple #[.agg #[.int .i64 0, .slice none 0 0], .int .i64 1]) (by simp [results, Try.results16, go_sem]) rfl ⟨_, rfl, ⟨none, 0, 0, rfl, ⟨rfl, Sl.empty _ _ _, Nat.le_refl _, by decide⟩, fun R _ h => absurd h (by decide)⟩, HB0.out⟩
  have d1 : decide (n < 1) = false := decide_eq_false h1
  by_cases h4 : 4 < n
  · have d2 : decide (4 < n) = true := decide_eq_true h4
    obtain ⟨hC, hE⟩ := HNO.out (by omega)
    subst hC hE
    clear HNO HYES HI h1 h4
    go_wp2_with fail
    exact bodyPost_ret (v := .tuple #[.agg #[.int .i64 0, .slice none 0 0], .int .i64 1]) (by simp [results, Try.results16, go_sem]) rfl ⟨_, rfl, ⟨none, 0, 0, rfl, ⟨rfl, Sl.empty _ _ _, Nat.le_refl _, by decide⟩, fun R _ h => absurd h (by decide)⟩, HB0.out⟩
  have d2 : decide (4 < n) = false := decide_eq_false h4
  obtain ⟨hC, hE⟩ := HYES.out (by omega)
  obtain ⟨N, rfl⟩ := Int.eq_ofNat_of_zero_le (show 0 ≤ n by omega)
  simp only [Int.toNat_natCast] at hC
  subst hC hE
  have hN4 : N ≤ 4 := by omega
  have hN1 : 1 ≤ N := by omega
  clear HNO HYES h1 h4
  obtain ⟨w0, hw0⟩ : ∃ w0, w0 = w.alloc (.cells #[.int .i64 0, .slice none 0 0] 24) := ⟨_, rfl⟩
  have HSZ : Hid (w0.heap.size = w.heap.size + 1) := Lib.hid (by rw [hw0]; exact World.size_alloc _ _)
  have HW0 := Lib.hid hw0
  rw [← hw0] at HB0 HK0
  clear hw0
  go_upto_region 3 with fail
  rw [← HW0.out]
  clear HW0 d1 d2
  go_wp2_with (first | (refine wpList_make_full _ rfl _ _ 22 rfl w0.heap.size 4 i0 (.bool false) 1 Try.underlying22 HI.out.1 HI.out.2.1 HI.out.2.2.1 .i64 .i64 N N N rfl rfl rfl rfl (by rw [HI.out.2.2.2]; omega) (by unfold maxLen; omega) (Nat.le_refl _) ?_))
  intro w1 g1 g2
  have e1 : (madeCells #[Value.bool false] N).toList = List.replicate N (.bool false) := toList_madeCells_one _ _
  have HO : Hid (w1.ownsRow w0.heap.size 4 1 (.slice (some ⟨w0.heap.size, 0, none⟩) N N) N (boC (List.replicate N false))) := Lib.hid (by rw [← boC_rep, ← e1]; exact g1)
  have HB1 : Hid (Below w0.heap.size w0 w1) := Lib.hid ((Below.refl _ _).grown g2 (Nat.le_refl _) (fun k hk => by cases hk))
  have HK1 := Lib.hid (HK0.out.below HB1.out)
  have HBW : Hid (Below w.heap.size w w1) := Lib.hid (HB0.out.trans (HB1.out.mono HB0.out.size))
  obtain ⟨g, hg⟩ : ∃ g, g = w0.heap.size := ⟨_, rfl⟩
  have HG : Hid (g = w.heap.size + 1) := Lib.hid (by rw [hg]; exact HSZ.out)
  rw [← hg] at HO ⊢
  clear g1 g2 e1 hg HB1 HK0 HSZ HB0
  have cK := HK1.out.c
  have fK := HK1.out.f
  have lK := HK1.out.lt
  go_wp2_with fail
  refine bodyPost_ret (v := .tuple #[.agg #[.int .i64 0, .slice (some ⟨g, 0, none⟩) N N], .int .i64 0]) (by simp [results, Try.results16, go_sem, *]) rfl ⟨_, rfl, ⟨some ⟨g, 0, none⟩, N, N, rfl, ?_, fun R (hR : R < w.heap.size) _ a e => ?_⟩, ?_⟩
  · exact Ec.own (E := ⟨0, List.replicate N false⟩) (own_off (own_off HO.out (fun b e => by injection e with e; have e2 : g = b := e; have := HG.out; omega) _ _) (fun b e => by injection e with e; have e2 : g = b := e; have := HG.out; omega) _ _) (by omega)
  · injection e with e
    subst e
    show g ≠ R
    have := HG.out
    omega
  · exact set2_below HBW.out (Nat.le_refl _) _ _
end Go.Proofs.Ythkpoiaakggimaa
