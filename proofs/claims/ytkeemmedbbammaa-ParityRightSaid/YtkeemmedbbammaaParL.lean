/- What New answers; no condition. -/
import Derived.Test.YtkeemmedbbammaaParK
namespace Go.Proofs.Ytkeemmedbbammaa
set_option linter.unusedVariables false
open Go.ChangeShapes Go.WideShapes Go.ChangeAt Go.RowKit

/-- Banks that are handed out: in memory of one's own, beside a number. -/
def Out (w w' : World) (e : Ending) (B : Bk) (E : Int) : Prop := ∃ p n c ys pp m cc, e = .returned (.tuple #[.agg #[.slice p n c, .slice pp m cc, .int .i64 B.lost], .int .i64 E]) ∧ OwnB w.heap.size w' p n c ys pp m cc B ∧ Below w.heap.size w w'
theorem Back.out {w w' : World} {e : Ending} {n m : Nat} {B : Bk} {E : Int} (h : Back w w' e n m B E) : Out w w' e B E := by
  obtain ⟨p, c, ys, pp, cc, h1, h2, h3⟩ := h
  exact ⟨p, n, c, ys, pp, m, cc, h1, h2, h3⟩
theorem OwnB.none (base : Nat) (w : World) (z : Int) : OwnB base w none 0 0 [] none 0 0 ⟨[], [], z⟩ :=
  ⟨rfl, ⟨World.ownsRow_nil _ _ _ _, fun _ h => absurd h (Nat.not_lt_zero _), fun _ h => absurd h (Nat.not_lt_zero _), fun _ _ h => absurd h (Nat.not_lt_zero _), fun _ _ => rfl⟩, rfl, World.ownsRow_nil _ _ _ _, fun _ h => (by cases h), fun _ h => (by cases h), by decide, fun _ h => (by cases h), by decide, fun _ h => (by cases h), fun _ h => absurd h (Nat.not_lt_zero _)⟩

set_option maxHeartbeats 4000000 in
theorem new_any (n m : Int) (w : World) : Calls Try.prog 17 #[.int .i64 n, .int .i64 m] w fun e w' => Out w w' e (newB n m) (newE n m) := by
  obtain ⟨r, hr⟩ : ∃ r, r = mayN n m := ⟨_, rfl⟩
  have hmay := may_any n m
  rw [← hr] at hmay
  have HM := Lib.hid hmay
  have HR := Lib.hid hr
  clear hmay hr
  cases r with
  | false =>
    have hB : newB n m = ⟨[], [], 0⟩ := by unfold newB; rw [← HR.out]; rfl
    have hE : newE n m = 1 := by unfold newE; rw [← HR.out]; rfl
    rw [hB, hE]
    clear hB hE
    go_enter Try.func17, Try.ntmps17
    go_wp2_with (first | (go_at_call 28; refine (HM.out _).mono ?_; rintro e w' ⟨rfl, rfl⟩))
    refine bodyPost_ret (v := .tuple #[.agg #[.slice none 0 0, .slice none 0 0, .int .i64 0], .int .i64 1]) (by simp [results, Try.results17, go_sem, *]) rfl ⟨none, 0, 0, [], none, 0, 0, rfl, OwnB.none _ _ _, ?_⟩
    exact (Below.refl _ _).alloc (Nat.le_refl _) _
  | true =>
    have hin := may_inv HR.out.symm
    have hB : newB n m = ⟨List.replicate n.toNat (List.replicate m.toNat 0), List.replicate m.toNat 0, 0⟩ := by unfold newB; rw [← HR.out]; rfl
    have hE : newE n m = 0 := by unfold newE; rw [← HR.out]; rfl
    rw [hB, hE]
    clear hB hE
    obtain ⟨N, rfl⟩ := Int.eq_ofNat_of_zero_le (show 0 ≤ n by omega)
    obtain ⟨M, rfl⟩ := Int.eq_ofNat_of_zero_le (show 0 ≤ m by omega)
    simp only [Int.toNat_natCast]
    have hN1 : 1 ≤ N := by omega
    have hN8 : N ≤ 8 := by omega
    have hM1 : 1 ≤ M := by omega
    have hM64 : M ≤ 64 := by omega
    clear hin
    obtain ⟨i6, hi6, hz60, hz61, hz62⟩ := info_parts info26
    have HI6 := Lib.hid (And.intro hi6 (And.intro hz60 (And.intro hz61 hz62)))
    obtain ⟨i3, hi3, hz30, hz31, hz32⟩ := info_parts info23
    have HI3 := Lib.hid (And.intro hi3 (And.intro hz30 (And.intro hz31 hz32)))
    clear hi6 hz60 hz61 hz62 hi3 hz30 hz31 hz32
    obtain ⟨L, hL⟩ : ∃ L, L = List.replicate N (List.replicate M 0) := ⟨_, rfl⟩
    rw [← hL]
    have HL := Lib.hid hL
    have HLL : Hid (L.length = N) := Lib.hid (by rw [hL, List.length_replicate])
    have HLD : Hid (∀ k, k < N → L.getD k [] = List.replicate M 0) := Lib.hid (fun k hk => by rw [hL]; exact getD_rep _ _ _ _ hk)
    clear hL
    go_enter Try.func17, Try.ntmps17
    go_upto_region 3 with (first | (go_at_call 28; refine (HM.out _).mono ?_; rintro e w' ⟨rfl, rfl⟩))
    have HK0 : Hid (Blk (w.alloc (.cells #[.slice none 0 0, .slice none 0 0, .int .i64 0] 25)) w.heap.size #[.slice none 0 0, .slice none 0 0, .int .i64 0]) := Lib.hid (Blk.new _ _ _)
    have HB0 : Hid (Below w.heap.size w (w.alloc (.cells #[.slice none 0 0, .slice none 0 0, .int .i64 0] 25))) := Lib.hid ((Below.refl _ _).alloc (Nat.le_refl _) _)
    obtain ⟨w0, hw0⟩ : ∃ w0, w0 = w.alloc (.cells #[.slice none 0 0, .slice none 0 0, .int .i64 0] 25) := ⟨_, rfl⟩
    have HSZ : Hid (w0.heap.size = w.heap.size + 1) := Lib.hid (by rw [hw0]; exact World.size_alloc _ _)
    rw [← hw0] at HK0 HB0 ⊢
    clear hw0
    go_upto_region 4 with (first | (refine wpList_make_full _ rfl _ _ 22 rfl (w.heap.size + 1) 23 i3 (.slice none 0 0) 1 Try.underlying22 HI3.out.1 HI3.out.2.1 HI3.out.2.2.1 .i64 .i64 N N N rfl rfl rfl rfl (by rw [HI3.out.2.2.2]; omega) (by unfold maxLen; omega) (Nat.le_of_eq HSZ.out.symm) ?_))
    intro w1 g1 g2
    have hm1 : (madeCells #[Value.slice none 0 0] N).toList = List.replicate N (.slice none 0 0) := toList_madeCells_one _ _
    rw [hm1] at g1
    have HB1 : Hid (Below w0.heap.size w0 w1) := Lib.hid ((Below.refl _ _).grown g2 (Nat.le_refl _) (fun k hk => by cases hk))
    have HK1 := Lib.hid (HK0.out.below HB1.out)
    obtain ⟨g, hg⟩ : ∃ g, g = w0.heap.size := ⟨_, rfl⟩
    rw [← hg] at g1
    have HO1 : Hid (OwnK (w.heap.size + 1) w1 (.slice (some ⟨g, 0, none⟩) L.length N) (List.replicate N (.slice none 0 0)) (List.replicate N (.slice none 0 0)) L 0) := Lib.hid (OwnK.begin (by rw [HLL.out]; exact g1))
    have HBW : Hid (Below w.heap.size w w1) := Lib.hid (HB0.out.trans (HB1.out.mono HB0.out.size))
    have HG : Hid (g = w.heap.size + 1) := Lib.hid (by rw [hg, HSZ.out])
    rw [← hg]
    clear g1 g2 hm1 hg HB0 HB1 HK0 HSZ
    go_wp2_with fail
    go_loopw [17] (fun s wr => ∃ k : Nat, k ≤ N ∧ s = .int .i64 k ∧ (∃ ys, OwnK (w.heap.size + 1) wr (.slice (some ⟨g, 0, none⟩) L.length N) (List.replicate N (.slice none 0 0)) ys L k) ∧ Blk wr w.heap.size #[.slice none 0 0, .slice none 0 0, .int .i64 0] ∧ Below w.heap.size w wr) (fun s _ => N - (intOf s).toNat)
    case atStart => exact ⟨0, Nat.zero_le _, rfl, ⟨_, HO1.out⟩, HK1.out, HBW.out⟩
    case round =>
      obtain ⟨k, hk, rfl, ⟨ys, ho⟩, hkr, hb⟩ := hrel
      clear HO1 HK1 HBW
      have HO := Lib.hid ho
      have HK := Lib.hid hkr
      have HB := Lib.hid hb
      clear ho hkr hb
      have hgs : g < wr.heap.size := (HO.out.row.lt g rfl).2
      have HGS := Lib.hid hgs
      clear hgs
      by_cases hlt : k < N
      · have hltI : decide ((k : Int) < N) = true := decide_eq_true (by omega)
        go_wp2_with (first | (refine wpList_make_full _ rfl _ _ 23 rfl wr.heap.size 26 i6 (.int .u32 0) 1 Try.underlying23 HI6.out.1 HI6.out.2.1 HI6.out.2.2.1 .i64 .i64 M M M rfl rfl rfl rfl (by rw [HI6.out.2.2.2]; omega) (by unfold maxLen; omega) (Nat.le_refl _) ?_))
        intro w2 g1 g2
        have HB2 : Hid (Below wr.heap.size wr w2) := Lib.hid ((Below.refl _ _).grown g2 (Nat.le_refl _) (fun k hk => by cases hk))
        have HW2 := Lib.hid (Wd.made g1)
        have HO2 := Lib.hid (HO.out.step (r := .slice (some ⟨wr.heap.size, 0, none⟩) M M) (by rw [HLL.out]; exact hlt) (by have := HGS.out; have := HG.out; omega) HB2.out (by rw [HLD.out k hlt, List.length_replicate]; exact HW2.out.row))
        have HOB := Lib.hid (HO.out.below HB2.out)
        have hcg : ∃ u, w2.cell? ⟨g, k, none⟩ = some u := by
          have hr := HOB.out.row
          exact ⟨_, by rw [hr.cellAt k (by rw [HLL.out]; omega)]; exact List.getElem?_eq_getElem (by rw [hr.1, HLL.out]; omega)⟩
        obtain ⟨u2, hu2⟩ := hcg
        have hf2 : w2.frozen? ⟨g, k, none⟩ = false := HOB.out.row.frozenAt k
        have HK2 := Lib.hid ((HK.out.below HB2.out).other (B' := g) (n := k) (.slice (some ⟨wr.heap.size, 0, none⟩) M M) (by have := HG.out; omega))
        have HBB := Lib.hid ((HB.out.trans (HB2.out.mono HB.out.size)).setCell (p := ⟨g, k, none⟩) (by show w.heap.size ≤ g; have := HG.out; omega) (.slice (some ⟨wr.heap.size, 0, none⟩) M M))
        clear g1 g2
        go_wp2_with fail
        go_roundw
        case rel => exact ⟨k + 1, by omega, by go_num, ⟨_, HO2.out⟩, HK2.out, HBB.out⟩
        case measure => simp [intOf]; omega
      · have hltI : decide ((k : Int) < N) = false := decide_eq_false (by omega)
        have hkn : k = L.length := by rw [HLL.out]; omega
        have HOD := Lib.hid (OwnK.done (hkn ▸ HO.out))
        clear hkn
        go_wp2_with (first | (refine wpList_make_full _ rfl _ _ 23 rfl wr.heap.size 26 i6 (.int .u32 0) 1 Try.underlying23 HI6.out.1 HI6.out.2.1 HI6.out.2.2.1 .i64 .i64 M M M rfl rfl rfl rfl (by rw [HI6.out.2.2.2]; omega) (by unfold maxLen; omega) (Nat.le_refl _) ?_))
        intro w2 g1 g2
        have HB2 : Hid (Below wr.heap.size wr w2) := Lib.hid ((Below.refl _ _).grown g2 (Nat.le_refl _) (fun k hk => by cases hk))
        have HW2 := Lib.hid (Wd.made g1)
        have HOF : Hid (OwnB (w.heap.size + 1) w2 (some ⟨g, 0, none⟩) N N ys (some ⟨wr.heap.size, 0, none⟩) M M ⟨L, List.replicate M 0, 0⟩) := Lib.hid (by
          have hod := HOD.out.below HB2.out
          rw [HLL.out] at hod
          refine ⟨HLL.out, hod, by simp, own_base HW2.out.row (by have := HGS.out; have := HG.out; omega), rep_lt M, fun l hl => ?_, by omega, fun l hl => ?_, by omega, fun b e1 e2 => ?_, fun i hi b e1 e2 => ?_⟩
          · rw [HL.out] at hl; rw [(List.mem_replicate.1 hl).2]; exact rep_lt M
          · rw [HL.out] at hl; rw [(List.mem_replicate.1 hl).2, List.length_replicate]; omega
          · have h1 : some wr.heap.size = some b := e1
            have h2 : some g = some b := e2
            injection h1 with h1
            injection h2 with h2
            have := HGS.out
            omega
          · have h1 : some wr.heap.size = some b := e1
            injection h1 with h1
            have := ((HO.out.fr i (by rw [HLL.out] at *; omega)).lt b e2).2
            omega)
        have HK2 := Lib.hid (HK.out.below HB2.out)
        have HBB : Hid (Below w.heap.size w w2) := Lib.hid (HB.out.trans (HB2.out.mono HB.out.size))
        have cR := HK2.out.c
        have fR := HK2.out.f
        have lR := HK2.out.lt
        clear g1 g2
        go_wp2_with fail
        refine bodyPost_ret (v := .tuple #[.agg #[.slice (some ⟨g, 0, none⟩) N N, .slice (some ⟨wr.heap.size, 0, none⟩) M M, .int .i64 0], .int .i64 0]) (by simp [results, Try.results17, go_sem, *]) rfl ⟨_, N, N, ys, _, M, M, rfl, ?_, ?_⟩
        · exact (((HOF.out.setOff (by omega) 0 _).setOff (by omega) 1 _).setOff (by omega) 2 _).mono (by omega)
        · exact ((HBB.out.setCell (p := ⟨w.heap.size, 0, none⟩) (Nat.le_refl _) _).setCell (p := ⟨w.heap.size, 1, none⟩) (Nat.le_refl _) _).setCell (p := ⟨w.heap.size, 2, none⟩) (Nat.le_refl _) _
end Go.Proofs.Ytkeemmedbbammaa
