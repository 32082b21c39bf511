/- What the document's own Send and Same answer; no condition but that the pools read, and that the message's numbers fit. -/
import Derived.Test.YtpmheaeiemnjeaaPoolR
namespace Go.Proofs.Ytpmheaeiemnjeaa
set_option linter.unusedVariables false
open Go.ChangeShapes Go.WideShapes Go.ChangeAt Go.RowKit

theorem rput_own (m : Msg) (w : World) (hn : m.n < 4294967296) (hv : m.v < 4294967296) :
    Calls Try.prog 26 #[.agg m.row] w fun e w' => ∃ r, e = .returned (.tuple #[r, .int .i64 (outE m)]) ∧ Fs w' r (outL m) ∧ (∀ g, r.ownBlock = some g → w.heap.size ≤ g) ∧ Below w.heap.size w w' := by
  unfold outL outE
  cases h : mayM m with
  | false => exact (rput_no m w h).mono fun e w' ⟨h1, h2⟩ => ⟨.slice none 0 0, h1, ⟨none, 0, rfl, Nat.le_refl _, byts_nil w'⟩, (fun g e => by cases e), h2⟩
  | true =>
    obtain ⟨k, f, t, l, o, a, own, n, v, rfl, hf⟩ := may_fit h hn hv
    have hc : Calls Try.prog 26 #[.agg (Msg.row ⟨k, f, t, l, o, a, own, n, v⟩)] w fun e w' => ∃ r, e = .returned (.tuple #[r, .int .i64 0]) ∧ w'.ownsRow w.heap.size 5 1 r 19 (u8C (frameL k f t l o a own n v)) ∧ Below w.heap.size w w' := by
      cases own
      · exact rput_f k f t l o a n v w hf.may hf.hk hf.hf hf.ht hf.hl hf.ho hf.ha hf.hn hf.hv
      · exact rput_t k f t l o a n v w hf.may hf.hk hf.hf hf.ht hf.hl hf.ho hf.ha hf.hn hf.hv
    refine hc.mono fun e w' => ?_
    rintro ⟨r, rfl, h1, h2⟩
    exact ⟨r, rfl, own_fs h1 (frame_lt hf), fun g e => (h1.lt g e).1, h2⟩

set_option maxHeartbeats 4000000 in
theorem rsend_any (p : Option Addr) (n c : Nat) (xs : List Value) (L : List (List Nat)) (m : Msg) (w : World) (hz : L.length = n) (h : Pl w p xs L) (hmn : m.n < 4294967296) (hmv : m.v < 4294967296) :
    Calls Try.prog 9 #[.agg #[.slice p n c], .agg m.row] w fun e w' => ∃ p' c' xs', e = .returned (.tuple #[.agg #[.slice p' (sendP L m).length c'], .int .i64 (sendE L m)]) ∧ ROut w w' p xs L p' xs' (sendP L m) := by
  have HP := Lib.hid (fun W => rput_own m W hmn hmv)
  have HPL := Lib.hid h
  have HZ := Lib.hid hz
  obtain ⟨D, hD⟩ : ∃ D, D = sendP L m := ⟨_, rfl⟩
  obtain ⟨er, her⟩ : ∃ er, er = sendE L m := ⟨_, rfl⟩
  obtain ⟨oe, hoe⟩ : ∃ oe, oe = outE m := ⟨_, rfl⟩
  rw [← hD, ← her]
  rw [← hoe] at HP
  have HD := Lib.hid hD
  have HER := Lib.hid her
  have HOE := Lib.hid hoe
  obtain ⟨mk, mf, mt, ml, mo, ma, own, mn, mv, hmm⟩ : ∃ k f t l o a own n v, m = ⟨k, f, t, l, o, a, own, n, v⟩ := ⟨_, _, _, _, _, _, _, _, _, rfl⟩
  have hrow : m.row = #[.int .i64 mk, .int .i64 mf, .int .i64 mt, .int .i64 ml, .int .i64 mo, .int .i64 ma, .bool own, .int .u32 mn, .int .u32 mv] := by rw [hmm]; rfl
  rw [hrow] at HP ⊢
  clear h hz hD her hoe hrow hmm hmn hmv
  go_enter Try.func9, Try.ntmps9
  go_wp2_with fail
  refine (HP.out _).mono ?_
  rintro e w1 ⟨f, rfl, hf, hfo, hb1⟩
  have HB1 : Hid (Below w.heap.size w w1) := Lib.hid (((((Below.refl _ _).alloc (Nat.le_refl _) _).alloc (by simp) _).alloc (by simp; omega) _).trans (hb1.mono (by simp; omega)))
  have HR1 := Lib.hid (Blk.track1 hb1)
  simp only [World.size_alloc] at HR1
  have HK1 : Hid (Blk w1 w.heap.size #[.slice p n c]) := Lib.hid ((((Blk.new w #[.slice p n c] 24).alloc _).alloc _).below hb1)
  have HF := Lib.hid hf
  have HFO : Hid (∀ g, f.ownBlock = some g → w.heap.size + 3 ≤ g) := Lib.hid (fun g e => by have := hfo g e; simp at this; omega)
  have hright := rright_any p n c xs L w1 HZ.out (HPL.out.below HB1.out)
  obtain ⟨rb, hrb⟩ : ∃ rb, rb = rightP L := ⟨_, rfl⟩
  rw [← hrb] at hright
  have HRB := Lib.hid hrb
  have HRT := Lib.hid hright
  obtain ⟨pf, cf, rfl, _⟩ := hf
  clear hfo hb1 hright hrb HP
  have kK := HK1.out.c
  go_wp2_with fail
  refine HRT.out.mono ?_
  rintro e w2 ⟨rfl, hb2⟩
  have HB2 : Hid (Below w.heap.size w w2) := Lib.hid (HB1.out.trans (hb2.mono HB1.out.size))
  have HR2 := Lib.hid (HR1.out.below hb2)
  have HK2 := Lib.hid (HK1.out.below hb2)
  have HF2 := Lib.hid (HF.out.below hb2)
  clear kK hb2 HRT HR1 HK1 HF
  have kK := HK2.out.c
  have kR := HR2.out.c
  have fR := HR2.out.f
  have lR := HR2.out.lt
  have HBE := Lib.hid (HB2.out.setCell (p := ⟨w.heap.size + 1 + 1, 0, none⟩) (by show w.heap.size ≤ w.heap.size + 1 + 1; omega) (.slice p n c))
  cases rb with
  | false =>
    have hdp : D = L := by rw [HD.out]; unfold sendP; rw [← HRB.out]; rfl
    have hee : er = 1 := by rw [HER.out]; unfold sendE; rw [← HRB.out]; rfl
    subst hdp hee
    go_wp2_with fail
    exact bodyPost_ret (v := .tuple #[.agg #[.slice p n c], .int .i64 1]) (by simp [results, Try.results9, go_sem, *]) rfl ⟨p, c, xs, by rw [HZ.out], HPL.out.below HBE.out, fun Z hZ ho => ho, HBE.out⟩
  | true =>
    cases hmay : mayM m with
    | false =>
      have hdp : D = L := by rw [HD.out]; unfold sendP; rw [← HRB.out, hmay]; rfl
      have hee : er = 1 := by rw [HER.out]; unfold sendE; rw [← HRB.out, hmay]; rfl
      have hoo : oe = 1 := by rw [HOE.out]; unfold outE; rw [hmay]; rfl
      subst hdp hee hoo
      clear hmay
      go_wp2_with fail
      exact bodyPost_ret (v := .tuple #[.agg #[.slice p n c], .int .i64 1]) (by simp [results, Try.results9, go_sem, *]) rfl ⟨p, c, xs, by rw [HZ.out], HPL.out.below HBE.out, fun Z hZ ho => ho, HBE.out⟩
    | true =>
      have hdp : D = addP L (outL m) := by rw [HD.out]; unfold sendP; rw [← HRB.out, hmay]; rfl
      have hee : er = addE L := by rw [HER.out]; unfold sendE; rw [← HRB.out, hmay]; rfl
      have hoo : oe = 0 := by rw [HOE.out]; unfold outE; rw [hmay]; rfl
      have hadd := radd_any p n c xs L _ (outL m) w2 HZ.out (HPL.out.below HB2.out) HF2.out (by rw [outL_len hmay]; omega)
      rw [← hdp, ← hee] at hadd
      have HADD := Lib.hid hadd
      subst hoo
      clear hadd hdp hee hmay HBE kR fR lR
      go_wp2_with fail
      refine HADD.out.mono ?_
      rintro e w4 ⟨p4, c4, zs, rfl, hp4, hoff4, hb4⟩
      have HR4 := Lib.hid (HR2.out.below hb4)
      have HP4 := Lib.hid hp4
      have HO4 := Lib.hid hoff4
      have HSZ2 : Hid (w.heap.size + 1 + 1 < w2.heap.size) := Lib.hid HR2.out.lt
      have HB4 : Hid (Below w.heap.size w w4) := Lib.hid (HB2.out.trans (hb4.mono HB2.out.size))
      obtain ⟨d, hd⟩ : ∃ d, d = D.length := ⟨_, rfl⟩
      rw [← hd]
      have HDL := Lib.hid hd
      clear kK hp4 hoff4 hb4 hd
      have kR := HR4.out.c
      have fR := HR4.out.f
      have lR := HR4.out.lt
      have HOO : Hid (∀ Z : Nat → Prop, (∀ b, Z b → b < w.heap.size ∨ b = w.heap.size + 1 + 1) → Off Z p xs L → Off Z p4 zs D) := Lib.hid (fun Z hZ ho => HO4.out Z (fun b hb => by have h1 := HSZ2.out; rcases hZ b hb with h | h <;> omega) ho (fun h0 g e hb => by
        have h1 := HFO.out g e
        rcases hZ g hb with h | h <;> omega))
      go_wp2_with fail
      exact bodyPost_ret (v := .tuple #[.agg #[.slice p4 d c4], .int .i64 er]) (by simp [results, Try.results9, go_sem, *]) rfl ⟨p4, c4, zs, by rw [HDL.out], HP4.out.set (HOO.out _ (fun b e => .inr e) (HPL.out.off (fun b e => by omega))) 0 _, fun Z hZ ho => HOO.out Z (fun b hb => .inl (hZ b hb)) ho, HB4.out.setCell (p := ⟨w.heap.size + 1 + 1, 0, none⟩) (by show w.heap.size ≤ w.heap.size + 1 + 1; omega) _⟩

set_option maxHeartbeats 4000000 in
theorem same_any (p : Option Addr) (n c : Nat) (xs : List Value) (p' : Option Addr) (n' c' : Nat) (xs' : List Value) (L : List (List Nat)) (w : World) (hz : L.length = n) (hz' : L.length = n') (h : Pl w p xs L) (h' : Pl w p' xs' L) :
    Calls Try.prog 10 #[.agg #[.slice p n c], .agg #[.slice p' n' c']] w fun e w' => e = .returned (.bool true) ∧ Below w.heap.size w w' := by
  have hm : n ≤ 100 := by rw [← hz]; exact h.n100
  have hnn : n' = n := by rw [← hz, hz']
  subst hnn
  have HP := Lib.hid h
  have HP' := Lib.hid h'
  have HZ := Lib.hid hz
  clear h h' hz hz'
  go_enter Try.func10, Try.ntmps10
  go_wp2
  obtain ⟨W, hW⟩ : ∃ W, W = (w.alloc (.cells #[.slice p n' c] 24)).alloc (.cells #[.slice p' n' c'] 24) := ⟨_, rfl⟩
  have HBW : Hid (Below w.heap.size w W) := Lib.hid (by rw [hW]; exact ((Below.refl _ _).alloc (Nat.le_refl _) _).alloc (by simp) _)
  have HK1 : Hid (Blk W w.heap.size #[.slice p n' c]) := Lib.hid (by rw [hW]; exact (Blk.new _ _ _).alloc _)
  have HK2 : Hid (Blk W (w.heap.size + 1) #[.slice p' n' c']) := Lib.hid (by rw [hW]; have := Blk.new (w.alloc (.cells #[.slice p n' c] 24)) #[.slice p' n' c'] 24; simpa using this)
  have HPW := Lib.hid (HP.out.below HBW.out)
  have HPW' := Lib.hid (HP'.out.below HBW.out)
  rw [← hW]
  clear hW HP HP'
  go_loopw [5] (fun i wr => ∃ k : Nat, k ≤ n' ∧ i = .int .i64 k ∧ Below W.heap.size W wr) (fun i _ => n' - (intOf i).toNat)
  case atStart => exact ⟨0, Nat.zero_le _, rfl, Below.refl _ _⟩
  case round =>
    obtain ⟨k, hk, rfl, hb⟩ := hrel
    have HB := Lib.hid hb
    have cK1 := (HK1.out.below hb).c
    have cK2 := (HK2.out.below hb).c
    clear hb
    by_cases hlt : k < n'
    · obtain ⟨b, off, hbl, rfl, hcell⟩ := HPW.out.at_ (by rw [HZ.out]; omega)
      have hck := hcell k (by rw [HZ.out]; exact hlt)
      obtain ⟨q, c2, hv, hc2, hby⟩ := HPW.out.fs k (by rw [HZ.out]; exact hlt)
      obtain ⟨b', off', hbl', rfl, hcell'⟩ := HPW'.out.at_ (by rw [HZ.out]; omega)
      have hck' := hcell' k (by rw [HZ.out]; exact hlt)
      obtain ⟨q', c2', hv', hc2', hby'⟩ := HPW'.out.fs k (by rw [HZ.out]; exact hlt)
      rw [hv] at hck
      rw [hv'] at hck'
      obtain ⟨x, hx⟩ : ∃ x, x = L.getD k [] := ⟨_, rfl⟩
      rw [← hx] at hck hck' hby hby'
      obtain ⟨xl, hxl⟩ : ∃ xl, xl = x.length := ⟨_, rfl⟩
      rw [← hxl] at hck hck'
      obtain ⟨SA, hSA⟩ : ∃ S, S = strN x := ⟨_, rfl⟩
      have cA : (wr.drew).cell? ⟨b, off + k, none⟩ = some (.slice q xl c2) := (HB.out.cell (p := ⟨b, off + k, none⟩) hbl).trans hck
      have cB : (wr.drew).cell? ⟨b', off' + k, none⟩ = some (.slice q' xl c2') := (HB.out.cell (p := ⟨b', off' + k, none⟩) hbl').trans hck'
      have hcv : (convert 30 9 (.slice q xl c2)).run Try.prog wr.drew = .ok (.string SA) wr.drew := by
        rw [hSA]; exact conv_byts ((hby.below HB.out).below (Below.refl _ _).drew) hxl.symm
      have hcv' : (convert 30 9 (.slice q' xl c2')).run Try.prog wr.drew = .ok (.string SA) wr.drew := by
        rw [hSA]; exact conv_byts ((hby'.below HB.out).below (Below.refl _ _).drew) hxl.symm
      have d1 : wr.drew.cell? ⟨w.heap.size, 0, none⟩ = some (.slice (some ⟨b, off, none⟩) n' c) := cK1 0
      have d2 : wr.drew.cell? ⟨w.heap.size + 1, 0, none⟩ = some (.slice (some ⟨b', off', none⟩) n' c') := cK2 0
      have hbe : (SA.toList != SA.toList) = false := by simp
      clear hcell hcell' hv hv' hc2 hc2' hby hby' hx hxl hSA hck hck' hbl hbl'
      go_upto_region 6 with fail
      obtain ⟨w6, hw6⟩ : ∃ w6, w6 = wr.drew := ⟨_, rfl⟩
      have HB6 : Hid (Below W.heap.size W w6) := Lib.hid (by rw [hw6]; exact HB.out.drew)
      refine region_plan (fun w' : World => w' = w6) 12 [(0, true), (1, true), (2, true), (3, true), (4, true), (5, true), (6, true), (7, true), (8, true), (9, true), (10, true), (11, true)] (by kernel_rfl) (by kernel_rfl) hw6.symm ?_
      rw [← hw6] at cA cB hcv hcv' d1 d2 ⊢
      clear hw6 cK1 cK2
      iterate 12
        refine plan_read (v := ?_) rfl (by rfl) ?_ ?_
        rotate_left
        · intro w' hS
          try dsimp only at hS
          subst hS
          go_simp
          try with_reducible rfl
        try simp only [Act.put, List.setIfInBounds_toArray, List.set_cons_zero, List.set_cons_succ, List.getElem_toArray, List.getElem_cons_zero, List.getElem_cons_succ]
      refine plan_nil ?_
      simp only [List.drop_succ_cons, List.drop_zero]
      go_wp2_with fail
      go_roundw
      case rel => exact ⟨k + 1, by omega, by go_num, HB6.out⟩
      case measure => simp [intOf]; omega
    · go_wp2
      go_ret
      exact ⟨rfl, HBW.out.trans (HB.out.mono HBW.out.size)⟩
end Go.Proofs.Ytpmheaeiemnjeaa
