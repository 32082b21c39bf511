/- FrameTwo: the walk of the statement's function. -/
import Derived.Test.YtiejglbdkcnkmaaFrameT
import Derived.Lib.Bytes
namespace Go.Proofs.Ytiejglbdkcnkmaa
set_option linter.unusedVariables false
open Go.ChangeShapes Go.WideShapes Go.ChangeAt Go.RowKit

theorem frame_inj {k f t l o a : Nat} {own : Bool} {n v : Nat} {k2 f2 t2 l2 o2 a2 : Nat} {own2 : Bool} {n2 v2 : Nat} (h : Fit k f t l o a own n v) (h2 : Fit k2 f2 t2 l2 o2 a2 own2 n2 v2) (e : frameL k f t l o a own n v = frameL k2 f2 t2 l2 o2 a2 own2 n2 v2) :
    (⟨k, f, t, l, o, a, own, n, v⟩ : Msg) = ⟨k2, f2, t2, l2, o2, a2, own2, n2, v2⟩ := by rw [← frame_msg h, ← frame_msg h2, e]
theorem strN_list (l : List Nat) : (strN l).toList = l.map fun x => UInt8.ofNat x := by
  unfold strN
  rw [Lib.strOfNums_toList]
  unfold Lib.bytesOf
  rw [List.map_map]
  rfl
theorem strN_ne {l m : List Nat} (hl : ∀ x ∈ l, x < 256) (hm : ∀ x ∈ m, x < 256) (h : l ≠ m) : ((strN l).toList == (strN m).toList) = false := by
  rw [beq_eq_false_iff_ne, strN_list, strN_list]
  intro e
  have q : ∀ l : List Nat, (∀ x ∈ l, x < 256) → (l.map fun x => UInt8.ofNat x).map (fun u => u.toNat) = l := fun l hl => by
    rw [List.map_map]
    refine (List.map_congr_left (g := id) fun x hx => ?_).trans (List.map_id l)
    have := hl x hx
    simp only [Function.comp, id]
    rw [UInt8.toNat_ofNat']
    exact Nat.mod_eq_of_lt this
  exact h (by rw [← q l hl, ← q m hm, e])

set_option maxHeartbeats 4000000 in
set_option maxRecDepth 100000 in
theorem two_main (m m2 : Msg) (A B : Nat) (w : World) (hn : m.n < 4294967296) (hv : m.v < 4294967296) (hn2 : m2.n < 4294967296) (hv2 : m2.v < 4294967296) (hA : A < 256) (hB : B < 256) :
    Calls Try.prog 5 #[.agg m.row, .agg m2.row, .int .u8 (A : Int), .int .u8 (B : Int)] w fun e w' => e = .returned (.bool true) ∧ Below w.heap.size w w' := by
  have HP : Hid (∀ W, Calls Try.prog 7 #[.agg m.row] W fun e w' => ∃ r er, e = .returned (.tuple #[r, .int .i64 er]) ∧ Puts W.heap.size m w' r er ∧ Below W.heap.size W w') := Lib.hid (fun W => put_any m W hn hv)
  have HP2 : Hid (∀ W, Calls Try.prog 7 #[.agg m2.row] W fun e w' => ∃ r er, e = .returned (.tuple #[r, .int .i64 er]) ∧ Puts W.heap.size m2 w' r er ∧ Below W.heap.size W w') := Lib.hid (fun W => put_any m2 W hn2 hv2)
  have HM := Lib.hid (fun W => may_any m W)
  have HM2 := Lib.hid (fun W => may_any m2 W)
  obtain ⟨k, f, t, l, o, a, own, n, v, hmm⟩ : ∃ k f t l o a own n v, m = ⟨k, f, t, l, o, a, own, n, v⟩ := ⟨_, _, _, _, _, _, _, _, _, rfl⟩
  obtain ⟨k2, f2, t2, l2, o2, a2, own2, n2, v2, hmm2⟩ : ∃ k f t l o a own n v, m2 = ⟨k, f, t, l, o, a, own, n, v⟩ := ⟨_, _, _, _, _, _, _, _, _, rfl⟩
  have HMM := Lib.hid hmm
  have HMM2 := Lib.hid hmm2
  have hrow : m.row = #[.int .i64 k, .int .i64 f, .int .i64 t, .int .i64 l, .int .i64 o, .int .i64 a, .bool own, .int .u32 n, .int .u32 v] := by rw [hmm]; rfl
  have hrow2 : m2.row = #[.int .i64 k2, .int .i64 f2, .int .i64 t2, .int .i64 l2, .int .i64 o2, .int .i64 a2, .bool own2, .int .u32 n2, .int .u32 v2] := by rw [hmm2]; rfl
  rw [hrow] at HP HM
  rw [hrow2] at HP2 HM2
  rw [hrow, hrow2]
  clear hrow hrow2 hmm hmm2 hn hv hn2 hv2
  go_enter Try.func5, Try.ntmps5
  go_wp2_with fail
  refine (awake_any _).mono ?_
  rintro e w1 ⟨rfl, hb1⟩
  have HB1 : Hid (Below w.heap.size w w1) := Lib.hid ((((Below.refl _ _).alloc (Nat.le_refl _) _).alloc (by simp) _).trans (hb1.mono (by simp; omega)))
  have HK1 : Hid (Blk w1 w.heap.size #[.int .i64 k, .int .i64 f, .int .i64 t, .int .i64 l, .int .i64 o, .int .i64 a, .bool own, .int .u32 n, .int .u32 v]) := Lib.hid (Blk.track2 hb1)
  have HL1 : Hid (Blk w1 (w.heap.size + 1) #[.int .i64 k2, .int .i64 f2, .int .i64 t2, .int .i64 l2, .int .i64 o2, .int .i64 a2, .bool own2, .int .u32 n2, .int .u32 v2]) := Lib.hid (by
    have := (Blk.new (w.alloc (.cells #[.int .i64 k, .int .i64 f, .int .i64 t, .int .i64 l, .int .i64 o, .int .i64 a, .bool own, .int .u32 n, .int .u32 v] 24)) #[.int .i64 k2, .int .i64 f2, .int .i64 t2, .int .i64 l2, .int .i64 o2, .int .i64 a2, .bool own2, .int .u32 n2, .int .u32 v2] 24).below hb1
    rwa [World.size_alloc] at this)
  clear hb1
  have cB := HK1.out.c
  have lB := HK1.out.lt
  have cC := HL1.out.c
  have lC := HL1.out.lt
  go_wp2_with fail
  refine (HP.out _).mono ?_
  rintro e w2 ⟨r, er, rfl, hp, hb2⟩
  have HB2 : Hid (Below w.heap.size w w2) := Lib.hid (HB1.out.trans (hb2.mono HB1.out.size))
  have HK2 := Lib.hid (HK1.out.below hb2)
  have HL2 := Lib.hid (HL1.out.below hb2)
  have HPP := Lib.hid hp
  have HS2 := Lib.hid hb2.size
  clear hp hb2 cB lB cC lC HP
  have cB := HK2.out.c
  have lB := HK2.out.lt
  have cC := HL2.out.c
  have lC := HL2.out.lt
  go_wp2_with fail
  refine (HP2.out _).mono ?_
  rintro e w3 ⟨r2, er2, rfl, hp, hb3⟩
  have HB3 : Hid (Below w.heap.size w w3) := Lib.hid (HB2.out.trans (hb3.mono HB2.out.size))
  have HK3 := Lib.hid (HK2.out.below hb3)
  have HL3 := Lib.hid (HL2.out.below hb3)
  have HQQ := Lib.hid hp
  have HB23 := Lib.hid hb3
  clear hp hb3 cB lB cC lC HP2
  have cB := HK3.out.c
  have lB := HK3.out.lt
  have cC := HL3.out.c
  have lC := HL3.out.lt
  rcases HPP.out with ⟨hmay, rfl, rfl⟩ | ⟨hmay, rfl, K, F, T, L, O, A', OW, NN, V, hmm, hfit, g, cg, rfl, hfrm⟩
  · rw [hmay] at HM
    clear hmay HPP HQQ
    go_wp2_with fail
    refine (HM.out _).mono ?_
    rintro e w4 ⟨rfl, hb4⟩
    have HB4 : Hid (Below w.heap.size w w4) := Lib.hid (HB3.out.trans (hb4.mono HB3.out.size))
    clear hb4 cB lB cC lC
    go_wp2
    go_ret
    exact ⟨rfl, HB4.out⟩
  · rcases HQQ.out with ⟨hmay2, rfl, rfl⟩ | ⟨hmay2, rfl, K2, F2, T2, L2, O2, A2, OW2, NN2, V2, hmm2, hfit2, g2, cg2, rfl, hfrm2⟩
    · rw [hmay] at HM
      rw [hmay2] at HM2
      clear hmay hmay2 HPP HQQ hmm hfit hfrm
      go_wp2_with fail
      refine (HM.out _).mono ?_
      rintro e w4 ⟨rfl, hb4⟩
      have HB4 : Hid (Below w.heap.size w w4) := Lib.hid (HB3.out.trans (hb4.mono HB3.out.size))
      have HL4 := Lib.hid (HL3.out.below hb4)
      clear hb4 cB lB cC lC
      have cC := HL4.out.c
      have lC := HL4.out.lt
      go_wp2_with fail
      refine (HM2.out _).mono ?_
      rintro e w5 ⟨rfl, hb5⟩
      have HB5 : Hid (Below w.heap.size w w5) := Lib.hid (HB4.out.trans (hb5.mono HB4.out.size))
      clear hb5 cC lC
      go_wp2
      go_ret
      exact ⟨rfl, HB5.out⟩
    · have hq := HMM.out.symm.trans hmm
      injection hq with e1 e2 e3 e4 e5 e6 e7 e8 e9
      subst e1 e2 e3 e4 e5 e6 e7 e8 e9
      have hq := HMM2.out.symm.trans hmm2
      injection hq with e1 e2 e3 e4 e5 e6 e7 e8 e9
      subst e1 e2 e3 e4 e5 e6 e7 e8 e9
      have HF := Lib.hid hfit
      have HF2 := Lib.hid hfit2
      have HFR : Hid (Frm w1.heap.size w3 g cg (frameL K F T L O A' own n v)) := Lib.hid (hfrm.below HB23.out)
      have HFR2 : Hid (Frm w2.heap.size w3 g2 cg2 (frameL K2 F2 T2 L2 O2 A2 own2 n2 v2)) := Lib.hid hfrm2
      have HGE : Hid (w.heap.size < g) := Lib.hid (Nat.lt_of_lt_of_le HK1.out.lt hfrm.2.2.1)
      clear hmay hmay2 hmm hmm2 hfit hfit2 hfrm hfrm2 HPP HQQ HM HM2 HMM HMM2 cB lB cC lC
      go_upto_region 7 with fail
      obtain ⟨q, hq⟩ : ∃ q, q = eqM ⟨K, F, T, L, O, A', own, n, v⟩ ⟨K2, F2, T2, L2, O2, A2, own2, n2, v2⟩ := ⟨_, rfl⟩
      have hqs : ((strN (frameL K F T L O A' own n v)).toList == (strN (frameL K2 F2 T2 L2 O2 A2 own2 n2 v2)).toList) = q := by
        rw [hq]
        cases he : eqM ⟨K, F, T, L, O, A', own, n, v⟩ ⟨K2, F2, T2, L2, O2, A2, own2, n2, v2⟩ with
        | true =>
          have hm := eqM_of he
          have : (frameL K F T L O A' own n v) = (frameL K2 F2 T2 L2 O2 A2 own2 n2 v2) := by
            injection hm with e1 e2 e3 e4 e5 e6 e7 e8 e9
            have e1' := Int.ofNat.inj e1
            have e2' := Int.ofNat.inj e2
            have e3' := Int.ofNat.inj e3
            have e4' := Int.ofNat.inj e4
            have e5' := Int.ofNat.inj e5
            have e6' := Int.ofNat.inj e6
            rw [e1', e2', e3', e4', e5', e6', e7, e8, e9]
          rw [this]
          exact beq_self_eq_true _
        | false =>
          refine strN_ne (frame_lt HF.out) (frame_lt HF2.out) (fun e => ?_)
          have := frame_inj HF.out HF2.out e
          rw [this, eqM_refl] at he
          cases he
      have heq : ∀ W, (binOp .eql 24 (.agg #[.int .i64 K, .int .i64 F, .int .i64 T, .int .i64 L, .int .i64 O, .int .i64 A', .bool own, .int .u32 n, .int .u32 v]) (.agg #[.int .i64 K2, .int .i64 F2, .int .i64 T2, .int .i64 L2, .int .i64 O2, .int .i64 A2, .bool own2, .int .u32 n2, .int .u32 v2])).run Try.prog W = .ok (.bool q) W := fun W => by
        have := eq_msg W ⟨K, F, T, L, O, A', own, n, v⟩ ⟨K2, F2, T2, L2, O2, A2, own2, n2, v2⟩
        rw [← hq] at this
        exact this
      obtain ⟨S1, hS1⟩ : ∃ S, S = strN (frameL K F T L O A' own n v) := ⟨_, rfl⟩
      obtain ⟨S2, hS2⟩ : ∃ S, S = strN (frameL K2 F2 T2 L2 O2 A2 own2 n2 v2) := ⟨_, rfl⟩
      have cv1 : (convert 25 9 (.slice (some ⟨g, 0, none⟩) 19 cg)).run Try.prog w3.drew = .ok (.string S1) w3.drew := by rw [hS1]; exact conv_byts (HFR.out.byts frame_len (frame_lt HF.out)).drew frame_len
      have cv2 : (convert 25 9 (.slice (some ⟨g2, 0, none⟩) 19 cg2)).run Try.prog w3.drew = .ok (.string S2) w3.drew := by rw [hS2]; exact conv_byts (HFR2.out.byts frame_len (frame_lt HF2.out)).drew frame_len
      rw [← hS1, ← hS2] at hqs
      have cB := HK3.out.drew.c
      have cC := HL3.out.drew.c
      clear hq hS1 hS2
      go_cut [51] (fun s51 wd => s51 = .bool false ∧ wd = w3.drew)
      case first =>
        refine region_plan (fun w' : World => w' = w3.drew) 8 [(0, true), (1, true), (2, true), (3, true), (4, true), (5, true), (6, true), (7, true)] (by kernel_rfl) (by kernel_rfl) rfl ?_
        iterate 8
          refine plan_read (v := ?_) rfl (by rfl) ?_ ?_
          rotate_left
          · intro w' hS
            try dsimp only at hS
            subst hS
            go_simp
            try with_reducible rfl
          try simp only [Act.put, List.setIfInBounds_toArray, List.set_cons_zero, List.set_cons_succ, List.getElem_toArray, List.getElem_cons_zero, List.getElem_cons_succ]
        refine plan_nil ?_
        simp only [List.drop_succ_cons, List.drop_zero]
        go_wp2_with fail
        go_meet
        case rel => exact ⟨by simp, rfl⟩
      case rest =>
        obtain ⟨rfl, rfl⟩ := hcut
        clear cB cC cv1 cv2 heq hqs HFR2 HK3 HL3 HK2 HL2 HB23 HB2 HS2 HL1 HB1
        obtain ⟨w4, hw4⟩ : ∃ w4, w4 = w3.drew := ⟨_, rfl⟩
        have HFR4 : Hid (Frm w1.heap.size w4 g cg (frameL K F T L O A' own n v)) := Lib.hid (by rw [hw4]; exact HFR.out.below (Below.refl _ _).drew)
        have HB4 : Hid (Below w.heap.size w w4) := Lib.hid (by rw [hw4]; exact HB3.out.drew)
        rw [← hw4]
        clear hw4 HFR HB3
        obtain ⟨I, hI⟩ : ∃ I, I = A % 152 := ⟨_, rfl⟩
        obtain ⟨J, hJ⟩ : ∃ J, J = B % 152 := ⟨_, rfl⟩
        have eI : (A : Int) % 152 = (I : Int) := by rw [hI]; omega
        have eJ : (B : Int) % 152 = (J : Int) := by rw [hJ]; omega
        have hI2 : I < 152 := by rw [hI]; omega
        have hJ2 : J < 152 := by rw [hJ]; omega
        clear hI hJ
        go_upto_region 10 with fail
        rw [eI, eJ]
        clear eI eJ
        by_cases hij : I = J
        · subst hij
          go_wp2
          go_ret
          exact ⟨rfl, HB4.out⟩
        · have hne : ((I : Int) == (J : Int)) = false := by simp; omega
          go_upto_region 12 with fail
          obtain ⟨D, hD⟩ : ∃ D, D = I / 8 := ⟨_, rfl⟩
          obtain ⟨b, hb⟩ : ∃ b, b = I % 8 := ⟨_, rfl⟩
          obtain ⟨D2, hD2⟩ : ∃ D, D = J / 8 := ⟨_, rfl⟩
          obtain ⟨b2, hb2⟩ : ∃ b, b = J % 8 := ⟨_, rfl⟩
          have eD : (I : Int) / 8 = (D : Int) := by omega
          have eb : (I : Int) % 8 = (b : Int) := by omega
          have eD2 : (J : Int) / 8 = (D2 : Int) := by omega
          have eb2 : (J : Int) % 8 = (b2 : Int) := by omega
          have hD3 : D < 19 := by omega
          have hb3 : b < 8 := by omega
          have hD4 : D2 < 19 := by omega
          have hb4 : b2 < 8 := by omega
          have qI : 8 * D + b = I := by omega
          have qJ : 8 * D2 + b2 = J := by omega
          have HQ := Lib.hid (And.intro qI (And.intro qJ (And.intro hI2 (And.intro hJ2 (And.intro hij (And.intro hb3 (And.intro hb4 (And.intro hD3 hD4))))))))
          have i0 : (0 : Int) ≤ (I : Int) := by omega
          have i1 : (0 : Int) ≤ (J : Int) := by omega
          clear hD hb hD2 hb2 qI qJ hI2 hJ2 hij hne
          have hx := getD_lt (frameL K F T L O A' own n v) (frame_lt HF.out) D
          obtain ⟨x, hxd⟩ : ∃ x, x = (frameL K F T L O A' own n v).getD D 0 := ⟨_, rfl⟩
          have HX1 := Lib.hid hxd
          have cJ : w4.cell? ⟨g, D, none⟩ = some (.int .u8 (x : Int)) := by rw [hxd]; exact HFR4.out.at_ frame_len D (by omega)
          have fJ : w4.frozen? ⟨g, D, none⟩ = false := HFR4.out.1.frozenAt D
          rw [← hxd] at hx
          clear hxd
          go_cut [] (fun wd => wd = w4.setCell ⟨g, D, none⟩ (.int .u8 ((x ^^^ 2 ^ b : Nat) : Int)))
          case first =>
            have j0 : (0 : Int) ≤ (D : Int) := by omega
            have j1 : (D : Int) < 19 := by omega
            have hbb : b = 0 ∨ b = 1 ∨ b = 2 ∨ b = 3 ∨ b = 4 ∨ b = 5 ∨ b = 6 ∨ b = 7 := by omega
            clear hb3 hb4 hD3 hD4 eD2 eb2
            rcases hbb with rfl | rfl | rfl | rfl | rfl | rfl | rfl | rfl
            · have ex : bits .xor .u8 (x : Int) 1 = ((x ^^^ 2 ^ 0 : Nat) : Int) := xor_u8 x 1 hx (by omega)
              go_wp2_with fail
              go_meet
              case rel => rfl
            · have ex : bits .xor .u8 (x : Int) 2 = ((x ^^^ 2 ^ 1 : Nat) : Int) := xor_u8 x 2 hx (by omega)
              go_wp2_with fail
              go_meet
              case rel => rfl
            · have ex : bits .xor .u8 (x : Int) 4 = ((x ^^^ 2 ^ 2 : Nat) : Int) := xor_u8 x 4 hx (by omega)
              go_wp2_with fail
              go_meet
              case rel => rfl
            · have ex : bits .xor .u8 (x : Int) 8 = ((x ^^^ 2 ^ 3 : Nat) : Int) := xor_u8 x 8 hx (by omega)
              go_wp2_with fail
              go_meet
              case rel => rfl
            · have ex : bits .xor .u8 (x : Int) 16 = ((x ^^^ 2 ^ 4 : Nat) : Int) := xor_u8 x 16 hx (by omega)
              go_wp2_with fail
              go_meet
              case rel => rfl
            · have ex : bits .xor .u8 (x : Int) 32 = ((x ^^^ 2 ^ 5 : Nat) : Int) := xor_u8 x 32 hx (by omega)
              go_wp2_with fail
              go_meet
              case rel => rfl
            · have ex : bits .xor .u8 (x : Int) 64 = ((x ^^^ 2 ^ 6 : Nat) : Int) := xor_u8 x 64 hx (by omega)
              go_wp2_with fail
              go_meet
              case rel => rfl
            · have ex : bits .xor .u8 (x : Int) 128 = ((x ^^^ 2 ^ 7 : Nat) : Int) := xor_u8 x 128 hx (by omega)
              go_wp2_with fail
              go_meet
              case rel => rfl
          case rest =>
            obtain ⟨w5, hw5⟩ : ∃ w5, w5 = wc := ⟨_, rfl⟩
            subst hw5
            have HFR5 : Hid (Frm w1.heap.size w5 g cg (turnL (frameL K F T L O A' own n v) I)) := Lib.hid (by
              rw [hcut, ← HQ.out.1, ← turn_set _ D b hb3, ← HX1.out]; exact HFR4.out.set D _)
            have HB5 : Hid (Below w.heap.size w w5) := Lib.hid (by rw [hcut]; exact HB4.out.setCell (Nat.le_of_lt HGE.out) _)
            clear hcut cJ fJ hx HX1 HFR4 HB4 eD eb
            go_upto_region 13 with fail
            have hx := getD_lt (turnL (frameL K F T L O A' own n v) I) (turn_lt _ _ (frame_lt HF.out)) D2
            obtain ⟨x2, hxd⟩ : ∃ x, x = (turnL (frameL K F T L O A' own n v) I).getD D2 0 := ⟨_, rfl⟩
            have HX2 := Lib.hid hxd
            have cJ : w5.cell? ⟨g, D2, none⟩ = some (.int .u8 (x2 : Int)) := by rw [hxd]; exact HFR5.out.at_ (by rw [turn_len]; rfl) D2 (by omega)
            have fJ : w5.frozen? ⟨g, D2, none⟩ = false := HFR5.out.1.frozenAt D2
            rw [← hxd] at hx
            clear hxd
            go_cut [] (fun wd => wd = w5.setCell ⟨g, D2, none⟩ (.int .u8 ((x2 ^^^ 2 ^ b2 : Nat) : Int)))
            case first =>
              have j0 : (0 : Int) ≤ (D2 : Int) := by omega
              have j1 : (D2 : Int) < 19 := by omega
              have hbb : b2 = 0 ∨ b2 = 1 ∨ b2 = 2 ∨ b2 = 3 ∨ b2 = 4 ∨ b2 = 5 ∨ b2 = 6 ∨ b2 = 7 := by omega
              clear hb3 hb4 hD3 hD4
              rcases hbb with rfl | rfl | rfl | rfl | rfl | rfl | rfl | rfl
              · have ex : bits .xor .u8 (x2 : Int) 1 = ((x2 ^^^ 2 ^ 0 : Nat) : Int) := xor_u8 x2 1 hx (by omega)
                go_wp2_with fail
                go_meet
                case rel => rfl
              · have ex : bits .xor .u8 (x2 : Int) 2 = ((x2 ^^^ 2 ^ 1 : Nat) : Int) := xor_u8 x2 2 hx (by omega)
                go_wp2_with fail
                go_meet
                case rel => rfl
              · have ex : bits .xor .u8 (x2 : Int) 4 = ((x2 ^^^ 2 ^ 2 : Nat) : Int) := xor_u8 x2 4 hx (by omega)
                go_wp2_with fail
                go_meet
                case rel => rfl
              · have ex : bits .xor .u8 (x2 : Int) 8 = ((x2 ^^^ 2 ^ 3 : Nat) : Int) := xor_u8 x2 8 hx (by omega)
                go_wp2_with fail
                go_meet
                case rel => rfl
              · have ex : bits .xor .u8 (x2 : Int) 16 = ((x2 ^^^ 2 ^ 4 : Nat) : Int) := xor_u8 x2 16 hx (by omega)
                go_wp2_with fail
                go_meet
                case rel => rfl
              · have ex : bits .xor .u8 (x2 : Int) 32 = ((x2 ^^^ 2 ^ 5 : Nat) : Int) := xor_u8 x2 32 hx (by omega)
                go_wp2_with fail
                go_meet
                case rel => rfl
              · have ex : bits .xor .u8 (x2 : Int) 64 = ((x2 ^^^ 2 ^ 6 : Nat) : Int) := xor_u8 x2 64 hx (by omega)
                go_wp2_with fail
                go_meet
                case rel => rfl
              · have ex : bits .xor .u8 (x2 : Int) 128 = ((x2 ^^^ 2 ^ 7 : Nat) : Int) := xor_u8 x2 128 hx (by omega)
                go_wp2_with fail
                go_meet
                case rel => rfl
            case rest =>
              obtain ⟨w6, hw6⟩ : ∃ w6, w6 = wc := ⟨_, rfl⟩
              subst hw6
              have HFR6 : Hid (Frm w1.heap.size w6 g cg (turnL (turnL (frameL K F T L O A' own n v) I) J)) := Lib.hid (by
                have e := turn_set (turnL (frameL K F T L O A' own n v) I) D2 b2 hb4
                rw [HQ.out.2.1] at e
                rw [hcut, ← e, ← HX2.out]; exact HFR5.out.set D2 _)
              have HB6 : Hid (Below w.heap.size w w6) := Lib.hid (by rw [hcut]; exact HB5.out.setCell (Nat.le_of_lt HGE.out) _)
              have h5 := turn2_read HF.out I J HQ.out.2.2.1 HQ.out.2.2.2.1 HQ.out.2.2.2.2.1
              have hr := read_any (some ⟨g, 0, none⟩) 19 cg _ w6 (by rw [turn_len, turn_len]; rfl) (by unfold maxLen; omega) HFR6.out.2.1 (HFR6.out.byts (by rw [turn_len, turn_len]; rfl) (turn_lt _ _ (turn_lt _ _ (frame_lt HF.out))))
              rw [h5, readM_no (by rw [h5]; decide), zero_row] at hr
              clear hcut cJ fJ hx HX2 HFR5 HB5 eD2 eb2 h5
              go_wp2_with fail
              refine hr.mono ?_
              clear hr
              rintro e w7 ⟨rfl, hb7⟩
              have HB7 : Hid (Below w.heap.size w w7) := Lib.hid (HB6.out.trans (hb7.mono HB6.out.size))
              clear hb7
              have q2 : ∀ W, (binOp .eql 24 (.agg #[.int .i64 0, .int .i64 0, .int .i64 0, .int .i64 0, .int .i64 0, .int .i64 0, .bool false, .int .u32 0, .int .u32 0]) (.agg #[.int .i64 0, .int .i64 0, .int .i64 0, .int .i64 0, .int .i64 0, .int .i64 0, .bool false, .int .u32 0, .int .u32 0])).run Try.prog W = .ok (.bool true) W := fun W => by
                have := eq_msg W zeroM zeroM
                rw [eqM_refl] at this
                exact this
              go_upto_region 15 with fail
              obtain ⟨W8, hW8⟩ : ∃ W8, W8 = w7.alloc (.cells #[.int .i64 0, .int .i64 0, .int .i64 0, .int .i64 0, .int .i64 0, .int .i64 0, .bool false, .int .u32 0, .int .u32 0] 24) := ⟨_, rfl⟩
              have HK8 : Hid (Blk W8 w7.heap.size #[.int .i64 0, .int .i64 0, .int .i64 0, .int .i64 0, .int .i64 0, .int .i64 0, .bool false, .int .u32 0, .int .u32 0]) := by rw [hW8]; exact Blk.new _ _ _
              have HB8 : Hid (Below w.heap.size w W8) := by rw [hW8]; exact belowAlloc HB7.out _
              rw [← hW8]
              clear hW8 HB7 HB6
              have cK := HK8.out.c
              go_wp2
              go_ret
              exact ⟨rfl, HB8.out⟩
end Go.Proofs.Ytiejglbdkcnkmaa
