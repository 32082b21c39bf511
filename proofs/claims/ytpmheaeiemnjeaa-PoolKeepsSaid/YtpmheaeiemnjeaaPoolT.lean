/- What the document's own Drop answers; no condition but that the pool reads. -/
import Derived.Test.YtpmheaeiemnjeaaPoolR
namespace Go.Proofs.Ytpmheaeiemnjeaa
set_option linter.unusedVariables false
open Go.ChangeShapes Go.WideShapes Go.ChangeAt Go.RowKit

theorem take_succ' {α : Type} (L : List α) (d : α) (k : Nat) (h : k < L.length) : L.take (k + 1) = L.take k ++ [L.getD k d] := by
  rw [List.take_add_one, List.getD_eq_getElem?_getD, List.getElem?_eq_getElem h]
  rfl
theorem take_erase_ne {α : Type} (L : List α) (d : α) (k j : Nat) (h : k < L.length) (hne : k ≠ j) : (L.take (k + 1)).eraseIdx j = (L.take k).eraseIdx j ++ [L.getD k d] := by
  rw [take_succ' L d k h]
  have hl : (L.take k).length = k := by rw [List.length_take]; omega
  by_cases hj : j < k
  · rw [List.eraseIdx_append_of_lt_length (by omega)]
  · rw [List.eraseIdx_append_of_length_le (by omega), List.eraseIdx_of_length_le (l := L.take k) (by omega), List.eraseIdx_of_length_le (by simp; omega)]
theorem take_erase_eq {α : Type} (L : List α) (d : α) (k : Nat) (h : k < L.length) : (L.take (k + 1)).eraseIdx k = (L.take k).eraseIdx k := by
  rw [take_succ' L d k h]
  have hl : (L.take k).length = k := by rw [List.length_take]; omega
  rw [List.eraseIdx_append_of_length_le (by omega), hl, Nat.sub_self, List.eraseIdx_of_length_le (l := L.take k) (by omega)]
  simp

set_option maxHeartbeats 8000000 in
theorem rdrop_any (p : Option Addr) (n c : Nat) (xs : List Value) (L : List (List Nat)) (k : Int) (w : World) (hz : L.length = n) (h : Pl w p xs L) :
    Calls Try.prog 14 #[.agg #[.slice p n c], .int .i64 k] w fun e w' => ∃ p' c' xs', e = .returned (.tuple #[.agg #[.slice p' (dropP L k).length c'], .int .i64 (checkP L k)]) ∧ ROut w w' p xs L p' xs' (dropP L k) := by
  have hm : n ≤ 100 := by rw [← hz]; exact h.n100
  have HC := Lib.hid (fun w' hb => rcheck_any p n c xs L k w' hz (h.below hb))
  have HPL := Lib.hid h
  have HZ := Lib.hid hz
  obtain ⟨D, hD⟩ : ∃ D, D = dropP L k := ⟨_, rfl⟩
  obtain ⟨er, her⟩ : ∃ er, er = checkP L k := ⟨_, rfl⟩
  rw [← hD, ← her]
  rw [← her] at HC
  have HD := Lib.hid hD
  have HER := Lib.hid her
  clear h hz hD her
  go_enter Try.func14, Try.ntmps14
  go_wp2_with fail
  refine (HC.out _ (((Below.refl _ _).alloc (Nat.le_refl _) _).alloc (by simp) _)).mono ?_
  rintro e w1 ⟨rfl, hb1⟩
  have HB1 : Hid (Below w.heap.size w w1) := Lib.hid ((((Below.refl _ _).alloc (Nat.le_refl _) _).alloc (by simp) _).trans (hb1.mono (by simp; omega)))
  have HR1 := Lib.hid (Blk.track1 hb1)
  have HK1 := Lib.hid (Blk.track2 hb1)
  simp only [World.size_alloc] at HR1
  clear hb1 HC
  by_cases hk : er = 0
  · subst hk
    have hk : checkP L k = 0 := HER.out.symm
    obtain ⟨hr, h0, h1⟩ := check_inv hk
    obtain ⟨i, rfl⟩ := Int.eq_ofNat_of_zero_le h0
    have hi : i < L.length := by omega
    have hdp : D = L.eraseIdx i := by rw [HD.out]; unfold dropP; rw [if_pos hk, Int.toNat_natCast]
    have HDP := Lib.hid hdp
    have HI := Lib.hid hi
    have HR19 := Lib.hid (right_inv hr).2
    obtain ⟨i0, hi0, hz0, hz1, hz2⟩ := info_parts info30
    have HI0 := Lib.hid (And.intro hi0 (And.intro hz0 (And.intro hz1 hz2)))
    have HXL : Hid (xs.length = n) := Lib.hid (by rw [HPL.out.len, HZ.out])
    have H1 := Lib.hid HPL.out.one
    clear hr h0 h1 hk hdp hi hi0 hz0 hz1 hz2
    go_wp2_with fail
    obtain ⟨W, hW⟩ : ∃ W, W = w1.alloc (.cells #[.slice none 0 0] 24) := ⟨_, rfl⟩
    have HBW : Hid (Below w.heap.size w W) := Lib.hid (by rw [hW]; exact HB1.out.alloc HB1.out.size _)
    have HKB : Hid (Blk W w.heap.size #[.slice p n c]) := Lib.hid (by rw [hW]; exact HK1.out.alloc _)
    have HKR : Hid (Blk W (w.heap.size + 1) #[.slice none 0 0]) := Lib.hid (by rw [hW]; exact HR1.out.alloc _)
    have HKQ : Hid (Blk W w1.heap.size #[.slice none 0 0]) := Lib.hid (by rw [hW]; exact Blk.new _ _ _)
    have HSZ : Hid (w.heap.size + 1 < w1.heap.size) := Lib.hid HR1.out.lt
    rw [← hW]
    clear hW HR1 HK1
    go_loopw [8] (fun s wr => ∃ j : Nat, j ≤ n ∧ s = .int .i64 j ∧ (∃ v, wr.ownsRow (w1.heap.size + 1) 30 1 v ((L.take j).eraseIdx i).length ((xs.take j).eraseIdx i) ∧ Blk wr w1.heap.size #[v]) ∧ Blk wr w.heap.size #[.slice p n c] ∧ Blk wr (w.heap.size + 1) #[.slice none 0 0] ∧ Below w.heap.size w wr) (fun s _ => n - (intOf s).toNat)
    case atStart => exact ⟨0, Nat.zero_le _, rfl, ⟨.slice none 0 0, World.ownsRow_nil _ _ _ _, HKQ.out⟩, HKB.out, HKR.out, HBW.out⟩
    case round =>
      obtain ⟨j, hj, rfl, ⟨v, ho, hq⟩, hkb, hkr, hb⟩ := hrel
      clear HKB HKR HKQ HBW
      have HO := Lib.hid ho
      have HKQ := Lib.hid hq
      have HKB := Lib.hid hkb
      have HKR := Lib.hid hkr
      have HB := Lib.hid hb
      obtain ⟨pv, cv, rfl, _⟩ := own_cap ho
      obtain ⟨m, hmm⟩ : ∃ m, m = ((L.take j).eraseIdx i).length := ⟨_, rfl⟩
      have HM := Lib.hid hmm
      rw [← hmm] at HO HKQ
      have hml : m ≤ 100 := by
        rw [hmm]
        have h1 := List.length_eraseIdx_le (l := L.take j) (i := i)
        rw [List.length_take] at h1
        omega
      clear ho hq hkb hkr hb hmm
      have kB := HKB.out.c
      by_cases hlt : j < n
      · by_cases hji : j = i
        · subst hji
          have e1 : (L.take (j + 1)).eraseIdx j = (L.take j).eraseIdx j := take_erase_eq L [] j HI.out
          have e2 : (xs.take (j + 1)).eraseIdx j = (xs.take j).eraseIdx j := take_erase_eq xs vz j (by rw [HXL.out]; exact hlt)
          have HGO : Hid (∃ v, wr.ownsRow (w1.heap.size + 1) 30 1 v ((L.take (j + 1)).eraseIdx j).length ((xs.take (j + 1)).eraseIdx j) ∧ Blk wr w1.heap.size #[v]) := Lib.hid ⟨_, by rw [e1, e2, ← HM.out]; exact HO.out, HKQ.out⟩
          clear e1 e2
          go_wp2_with fail
          go_roundw
          case rel => exact ⟨j + 1, by omega, by go_num, HGO.out, HKB.out, HKR.out, HB.out⟩
          case measure => simp [intOf]; omega
        · have hneb : ((j : Int) != (i : Int)) = true := by simp; omega
          have hjl : j < L.length := by rw [HZ.out]; exact hlt
          have e1 := take_erase_ne L [] j i hjl hji
          have e2 := take_erase_ne xs vz j i (by rw [HXL.out]; exact hlt) hji
          obtain ⟨b, off, hbl, rfl, hcell⟩ := HPL.out.at_ (by omega)
          have hck := hcell j hjl
          obtain ⟨q, c2, hv, hc2, hby⟩ := HPL.out.fs j hjl
          rw [hv] at hck e2
          have hl19 := HR19.out _ (mem_getD L [] j hjl)
          rw [hl19] at hck e2
          have hckr := (HB.out.cell (p := ⟨b, off + j, none⟩) hbl).trans hck
          have HCK := Lib.hid hckr
          have HE1 := Lib.hid e1
          have HE2 := Lib.hid e2
          have kQ := HKQ.out.c
          have hjlt : (j : Int) < (n : Int) := by omega
          clear e1 e2 hv hc2 hby hl19 hcell hck hckr hjl
          go_upto_region 9 with fail
          refine region_plan (fun w' : World => w'.cell? ⟨w1.heap.size, 0, none⟩ = some (.slice pv m cv) ∧ w'.cell? ⟨w.heap.size, 0, none⟩ = some (.slice (some ⟨b, off, none⟩) n c) ∧ w'.cell? ⟨b, off + j, none⟩ = some (.slice q 19 c2)) 8 [(0, true), (1, true), (2, true), (3, true), (4, true), (5, true), (6, true), (7, false)] (by kernel_rfl) (by kernel_rfl) ⟨kQ 0, kB 0, HCK.out⟩ ?_
          iterate 7
            refine plan_read (v := ?_) rfl (by rfl) ?_ ?_
            rotate_left
            · intro w' hS
              try dsimp only at hS
              obtain ⟨s1, s2, s3⟩ := hS
              go_simp
              try with_reducible rfl
            try simp only [Act.put, List.setIfInBounds_toArray, List.set_cons_zero, List.set_cons_succ, List.getElem_toArray, List.getElem_cons_zero, List.getElem_cons_succ]
          refine plan_make (v := .slice (some ⟨wr.heap.size, 0, none⟩) 1 1) (w1 := wr.drew.alloc (.cells #[.slice q 19 c2] 30)) rfl (by rfl) ?_ ?_ ?_
          · go_simp
          · exact ⟨(HKQ.out.drew.alloc _).c 0, (HKB.out.drew.alloc _).c 0, ((HB.out.drew.alloc (by have := HB.out.size; exact this) _).cell (p := ⟨b, off + j, none⟩) hbl).trans (by have := HCK.out; exact (HB.out.cell (p := ⟨b, off + j, none⟩) hbl).symm.trans this)⟩
          try simp only [Act.put, List.setIfInBounds_toArray, List.set_cons_zero, List.set_cons_succ, List.getElem_toArray, List.getElem_cons_zero, List.getElem_cons_succ]
          refine plan_nil ?_
          simp only [List.drop_succ_cons, List.drop_zero]
          have HOW : Hid ((wr.drew.alloc (.cells #[.slice q 19 c2] 30)).ownsRow (w1.heap.size + 1) 30 1 (.slice pv m cv) m ((xs.take j).eraseIdx i)) := Lib.hid (HO.out.drew.alloc _)
          have HQ2 := Lib.hid (HKQ.out.drew.alloc (.cells #[.slice q 19 c2] 30))
          have HB2 := Lib.hid (HKB.out.drew.alloc (.cells #[.slice q 19 c2] 30))
          have HR2 := Lib.hid (HKR.out.drew.alloc (.cells #[.slice q 19 c2] 30))
          have HBB : Hid (Below w.heap.size w (wr.drew.alloc (.cells #[.slice q 19 c2] 30))) := Lib.hid (HB.out.drew.alloc HB.out.size _)
          have HNW : Hid (Blk (wr.drew.alloc (.cells #[.slice q 19 c2] 30)) wr.heap.size #[.slice q 19 c2]) := Lib.hid (Blk.new wr.drew _ _)
          have HWS : Hid (w1.heap.size + 1 ≤ wr.heap.size) := Lib.hid HKQ.out.lt
          obtain ⟨w6, hw6⟩ : ∃ w6, w6 = wr.drew.alloc (.cells #[.slice q 19 c2] 30) := ⟨_, rfl⟩
          have HS6 : Hid (w6.heap.size = wr.heap.size + 1) := Lib.hid (by rw [hw6]; simp)
          rw [← hw6] at HOW HQ2 HB2 HR2 HBB HNW ⊢
          clear hw6 kB kQ
          go_wp2_with (first | (at_builtin; refine wpList_append_sl rfl _ _ 22 rfl (w1.heap.size + 1) 30 i0 (.slice none 0 0) 1 24 Try.underlying22 HI0.out.1 HI0.out.2.1 HI0.out.2.2.1 HI0.out.2.2.2 rfl (by decide) _ _ _ rfl HOW.out (some ⟨wr.heap.size, 0, none⟩) 1 1 [.slice q 19 c2] rfl rfl (blk_sl HNW.out) (by intro u hu; rw [List.mem_singleton.1 hu]; rfl) (by unfold maxLen; omega) (by omega) (by have := HWS.out; have := HS6.out; omega) ?_))
          intro v7 w7 g1 g2 g3
          have HO7 : Hid (w7.ownsRow (w1.heap.size + 1) 30 1 v7 ((L.take (j + 1)).eraseIdx i).length ((xs.take (j + 1)).eraseIdx i)) := Lib.hid (by
            rw [HE1.out, HE2.out, List.length_append, ← HM.out]
            exact g1)
          have hob : ∀ g, (Value.slice pv m cv).ownBlock = some g → w1.heap.size + 1 ≤ g := fun g e => (HOW.out.lt g e).1
          have HQ7 := Lib.hid (HQ2.out.grown g2 (fun e => by have := hob _ e; omega))
          have HB7 := Lib.hid (HB2.out.grown g2 (fun e => by have := hob _ e; have := HSZ.out; omega))
          have HR7 := Lib.hid (HR2.out.grown g2 (fun e => by have := hob _ e; have := HSZ.out; omega))
          have HBB7 : Hid (Below w.heap.size w w7) := Lib.hid (HBB.out.grown g2 HBB.out.size (fun g e => by have := hob g e; have := HSZ.out; omega))
          obtain ⟨p7, c7, rfl, _⟩ := own_cap g1
          clear g1 g2 g3 hob
          have kQ := HQ7.out.c
          have fQ := HQ7.out.f
          have lQ := HQ7.out.lt
          go_wp2_with fail
          have HO8 := Lib.hid (own_off HO7.out (R := w1.heap.size) (by omega) 0 (.slice p7 (m + 1) c7))
          have HQ8 := Lib.hid (HQ7.out.set (n := 0) (.slice p7 (m + 1) c7) (by simp))
          have HB8 := Lib.hid (HB7.out.other (B' := w1.heap.size) (n := 0) (.slice p7 (m + 1) c7) (by have := HSZ.out; omega))
          have HR8 := Lib.hid (HR7.out.other (B' := w1.heap.size) (n := 0) (.slice p7 (m + 1) c7) (by have := HSZ.out; omega))
          have HBB8 := Lib.hid (HBB7.out.setCell (p := ⟨w1.heap.size, 0, none⟩) (by show w.heap.size ≤ w1.heap.size; have := HSZ.out; omega) (.slice p7 (m + 1) c7))
          go_roundw
          case rel => exact ⟨j + 1, by omega, by go_num, ⟨_, HO8.out, HQ8.out⟩, HB8.out, HR8.out, HBB8.out⟩
          case measure => simp [intOf]; omega
      · have hjn : j = n := by omega
        have hLt : L.take j = L := List.take_of_length_le (by rw [HZ.out]; omega)
        have hXt : xs.take j = xs := List.take_of_length_le (by rw [HXL.out]; omega)
        have hmD : m = D.length := by rw [HM.out, hLt, HDP.out]
        have HOD : Hid (wr.ownsRow (w1.heap.size + 1) 30 1 (.slice pv D.length cv) D.length (xs.eraseIdx i)) := Lib.hid (by
          have := HO.out
          rw [hXt, hmD] at this
          exact this)
        subst hmD
        have kQ := HKQ.out.c
        have kR := HKR.out.c
        have fR := HKR.out.f
        have lR := HKR.out.lt
        clear hLt hXt
        go_wp2_with fail
        have hbf := HB.out.setCell (p := ⟨w.heap.size + 1, 0, none⟩) (by show w.heap.size ≤ w.heap.size + 1; omega) (.slice pv D.length cv)
        have hrow := own_off HOD.out (R := w.heap.size + 1) (by have := HSZ.out; omega) 0 (.slice pv D.length cv)
        have hDl : D.length = L.length - 1 := by rw [HDP.out, List.length_eraseIdx, if_pos HI.out]
        have hxe : (xs.eraseIdx i).length = D.length := by rw [hDl, List.length_eraseIdx, if_pos (by rw [HXL.out, ← HZ.out]; exact HI.out), HXL.out, HZ.out]
        refine bodyPost_ret (v := .tuple #[.agg #[.slice pv D.length cv], .int .i64 0]) ?_ ?_ ?_
        · simp [results, Try.results14, go_sem, *]
        · rfl
        refine ⟨pv, cv, xs.eraseIdx i, rfl, ⟨⟨hxe, ?_, fun t ht => ?_, by have := HPL.out.n100; omega, fun l hl => ?_⟩, fun Z hZ ho => ⟨fun _ a e hb => ?_, fun t ht h0 g e hb => ?_⟩, hbf⟩⟩
        · obtain ⟨q, cq, e, hs⟩ := Sl.own hrow
          injection e with e _ _
          rw [← e] at hs
          exact hs
        · have key : ∀ t', t' < L.length → Fs (wr.setCell ⟨w.heap.size + 1, 0, none⟩ (.slice pv D.length cv)) (xs.getD t' vz) (L.getD t' []) := fun t' ht' => (HPL.out.fs t' ht').below hbf
          have e : D.getD t [] = if t < i then L.getD t [] else L.getD (t + 1) [] := by rw [HDP.out, getD_erase]
          rw [e, getD_erase]
          split
          · exact key t (by omega)
          · exact key (t + 1) (by omega)
        · rw [HDP.out] at hl
          exact HPL.out.l100 l (List.mem_of_mem_eraseIdx hl)
        · subst e
          have h1 := (HOD.out.lt a.block rfl).1
          have h2 := hZ _ hb
          have := HSZ.out
          omega
        · rw [getD_erase] at e
          rw [HDP.out, getD_erase] at h0
          by_cases hti : t < i
          · rw [if_pos hti] at e h0
            exact ho.2 t (by omega) h0 g e hb
          · rw [if_neg hti] at e h0
            exact ho.2 (t + 1) (by omega) h0 g e hb
  · have hdp : D = L := by rw [HD.out]; unfold dropP; rw [if_neg (by rw [← HER.out]; exact hk)]
    subst hdp
    have e0 : (er != 0) = true := by simpa using hk
    clear hk
    have kB := HK1.out.c
    have kR := HR1.out.c
    have fR := HR1.out.f
    have lR := HR1.out.lt
    go_wp2_with fail
    have hbf := HB1.out.setCell (p := ⟨w.heap.size + 1, 0, none⟩) (by show w.heap.size ≤ w.heap.size + 1; omega) (.slice p n c)
    exact bodyPost_ret (v := .tuple #[.agg #[.slice p n c], .int .i64 er]) (by simp [results, Try.results14, go_sem, *]) rfl ⟨p, c, xs, by rw [HZ.out], HPL.out.below hbf, fun Z hZ ho => ho, hbf⟩
end Go.Proofs.Ytpmheaeiemnjeaa
