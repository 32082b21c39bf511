/- All lines by rising addresses, by the program; no condition but that the cache reads. -/
import Derived.Test.YtoddmgaihggkjaaCacheS
import Derived.Shelf.SlSortCmp.WholeK
import Derived.Shelf.SlSortCmp.NoneTotal
import Derived.Shelf.SlicesG.Cmp
import Derived.Lib.OwnBridge
import Derived.Lib.AppendIntMem
namespace Go.Proofs.Ytoddmgaihggkjaa
set_option linter.unusedVariables false
open Go.ChangeShapes Go.WideShapes Go.ChangeAt Go.RowKit Go.Shelf

def Try.l27_ren : Go.Shelf.Ren := ⟨fun | 6 => 27 | 15 => 43 | 14 => 42 | 28 => 61 | 29 => 62 | 20 => 53 | 21 => 54 | 22 => 55 | 23 => 56 | 24 => 57 | 25 => 58 | 26 => 59 | 27 => 60 | 46 => 65 | 47 => 66 | 48 => 67 | 49 => 68 | 50 => 69 | 57 => 70 | n => n, fun | 22 => 28 | 24 => 30 | 25 => 63 | 3 => 3 | 39 => 78 | 0 => 0 | 53 => 25 | 55 => 100 | 4 => 4 | 46 => 92 | 45 => 91 | 50 => 96 | 5 => 5 | 9 => 9 | 66 => 102 | 70 => 106 | 76 => 108 | 77 => 109 | n => n, fun | n => n⟩
theorem Try.l27 : Go.Proofs.SlLaysF0.n6 Try.prog Try.l27_ren := {
  mixed := by kernel_rfl
  f6 := ⟨Try.f27.name, by decide, Try.func27.trans (congrArg some (by kernel_rfl))⟩
  f14 := ⟨Try.f42.name, by decide, Try.func42.trans (congrArg some (by kernel_rfl))⟩
  f15 := Try.func43.trans (congrArg some (by kernel_rfl))
  f20 := ⟨Try.f53.name, by decide, Try.func53.trans (congrArg some (by kernel_rfl))⟩
  f21 := ⟨Try.f54.name, by decide, Try.func54.trans (congrArg some (by kernel_rfl))⟩
  f22 := ⟨Try.f55.name, by decide, Try.func55.trans (congrArg some (by kernel_rfl))⟩
  f23 := ⟨Try.f56.name, by decide, Try.func56.trans (congrArg some (by kernel_rfl))⟩
  f24 := ⟨Try.f57.name, by decide, Try.func57.trans (congrArg some (by kernel_rfl))⟩
  f25 := ⟨Try.f58.name, by decide, Try.func58.trans (congrArg some (by kernel_rfl))⟩
  f26 := ⟨Try.f59.name, by decide, Try.func59.trans (congrArg some (by kernel_rfl))⟩
  f27 := ⟨Try.f60.name, by decide, Try.func60.trans (congrArg some (by kernel_rfl))⟩
  f28 := Try.func61.trans (congrArg some (by kernel_rfl))
  f29 := Try.func62.trans (congrArg some (by kernel_rfl))
  f46 := ⟨Try.f65.name, by decide, Try.func65.trans (congrArg some (by kernel_rfl))⟩
  f47 := Try.func66.trans (congrArg some (by kernel_rfl))
  f48 := Try.func67.trans (congrArg some (by kernel_rfl))
  f49 := ⟨Try.f68.name, by decide, Try.func68.trans (congrArg some (by kernel_rfl))⟩
  f50 := ⟨Try.f69.name, by decide, Try.func69.trans (congrArg some (by kernel_rfl))⟩
  f57 := ⟨Try.f70.name, by decide, Try.func70.trans (congrArg some (by kernel_rfl))⟩
  t0 := Try.underlying0
  a0 := Try.isAgg0
  z0 := Try.sizeOf0
  v0 := Try.zeroValue0
  t3 := Try.underlying3
  a3 := Try.isAgg3
  z3 := Try.sizeOf3
  v3 := Try.zeroValue3
  t4 := Try.underlying4
  a4 := Try.isAgg4
  z4 := Try.sizeOf4
  v4 := Try.zeroValue4
  t5 := Try.underlying5
  a5 := Try.isAgg5
  z5 := Try.sizeOf5
  v5 := Try.zeroValue5
  t9 := Try.underlying9
  a9 := Try.isAgg9
  z9 := Try.sizeOf9
  v9 := Try.zeroValue9
  t22 := Try.underlying28
  a22 := Try.isAgg28
  z22 := Try.sizeOf28
  v22 := Try.zeroValue28
  t25 := Try.underlying63
  a25 := Try.isAgg63
  z25 := Try.sizeOf63
  v25 := Try.zeroValue63
  t39 := Try.underlying78
  a39 := Try.isAgg78
  z39 := Try.sizeOf78
  v39 := Try.zeroValue78
  t45 := Try.underlying91
  a45 := Try.isAgg91
  z45 := Try.sizeOf91
  v45 := Try.zeroValue91
  t46 := Try.underlying92
  a46 := Try.isAgg92
  z46 := Try.sizeOf92
  v46 := Try.zeroValue92
  t50 := Try.underlying96
  a50 := Try.isAgg96
  z50 := Try.sizeOf96
  v50 := Try.zeroValue96
  t53 := Try.underlying25
  a53 := Try.isAgg25
  z53 := Try.sizeOf25
  v53 := Try.zeroValue25
  t55 := Try.underlying100
  a55 := Try.isAgg100
  z55 := Try.sizeOf100
  v55 := Try.zeroValue100
  t66 := Try.underlying102
  a66 := Try.isAgg102
  z66 := Try.sizeOf102
  v66 := Try.zeroValue102
  t70 := Try.underlying106
  a70 := Try.isAgg106
  z70 := Try.sizeOf106
  v70 := Try.zeroValue106
  t76 := Try.underlying108
  a76 := Try.isAgg108
  z76 := Try.sizeOf108
  v76 := Try.zeroValue108
  t77 := Try.underlying109
  a77 := Try.isAgg109
  z77 := Try.sizeOf109
  v77 := Try.zeroValue109 }
def Try.l29_ren : Go.Shelf.Ren := ⟨fun | 5 => 29 | 7 => 44 | n => n, fun | 22 => 3 | 3 => 3 | 4 => 4 | n => n, fun | n => n⟩
theorem Try.l29 : Go.Proofs.SlLaysC2.n5 Try.prog Try.l29_ren := {
  mixed := by kernel_rfl
  f5 := ⟨Try.f29.name, by decide, Try.func29.trans (congrArg some (by kernel_rfl))⟩
  f7 := ⟨Try.f44.name, by decide, Try.func44.trans (congrArg some (by kernel_rfl))⟩
  t3 := Try.underlying3
  a3 := Try.isAgg3
  z3 := Try.sizeOf3
  v3 := Try.zeroValue3
  t4 := Try.underlying4
  a4 := Try.isAgg4
  z4 := Try.sizeOf4
  v4 := Try.zeroValue4
  t22 := Try.underlying3
  a22 := Try.isAgg3
  z22 := Try.sizeOf3
  v22 := Try.zeroValue3 }

theorem insL_perm (x : Ln) (l : List Ln) : (insL x l).Perm (x :: l) := by
  induction l with
  | nil => exact .refl _
  | cons y l ih =>
    unfold insL
    split
    · exact .refl _
    · exact (ih.cons y).trans (.swap x y l)
theorem sortA_perm (l : List Ln) : (sortA l).Perm l := by
  induction l with
  | nil => exact .refl _
  | cons x l ih => unfold sortA; exact (insL_perm x _).trans (ih.cons x)
theorem insL_sorted (x : Ln) (l : List Ln) (h : l.Pairwise fun a b => a.addr ≤ b.addr) : (insL x l).Pairwise fun a b => a.addr ≤ b.addr := by
  induction l with
  | nil => exact List.pairwise_singleton _ _
  | cons y l ih =>
    unfold insL
    rw [List.pairwise_cons] at h
    split
    · next e =>
      rw [List.pairwise_cons, List.pairwise_cons]
      exact ⟨fun z hz => by
        cases hz with
        | head => exact e
        | tail _ hz => exact Int.le_trans e (h.1 z hz), h⟩
    · next e =>
      rw [List.pairwise_cons]
      refine ⟨fun z hz => ?_, ih h.2⟩
      rcases List.mem_cons.1 ((insL_perm x l).mem_iff.1 hz) with rfl | hz
      · omega
      · exact h.1 z hz
theorem sortA_sorted (l : List Ln) : (sortA l).Pairwise fun a b => a.addr ≤ b.addr := by
  induction l with
  | nil => exact List.Pairwise.nil
  | cons x l ih => unfold sortA; exact insL_sorted x _ ih
theorem sort_one {F D : List Ln} (ha : F.Pairwise Two) (hp : D.Perm F) (hs : D.Pairwise fun a b => a.addr ≤ b.addr) : D = sortA F := by
  refine List.Perm.eq_of_pairwise (le := fun a b => a.addr ≤ b.addr) (fun a b h1 h2 h3 h4 => ?_) hs (sortA_sorted F) (hp.trans (sortA_perm F).symm)
  obtain ⟨i, hi, rfl⟩ := mem_idx F zL a (hp.mem_iff.1 h1)
  obtain ⟨j, hj, rfl⟩ := mem_idx F zL b ((sortA_perm F).mem_iff.1 h2)
  by_cases e : i = j
  · rw [e]
  · exact absurd (Int.le_antisymm h3 h4) (apart_getD ha i j hi hj e).1
def cfL (x y : Ln) : Int := Lib.compareInt x.addr y.addr
theorem lt_cf (x y : Ln) : ltOf cfL x y = decide (x.addr < y.addr) := by
  unfold ltOf cfL Lib.compareInt
  by_cases h1 : x.addr < y.addr
  · simp [h1]
  · by_cases h2 : y.addr < x.addr <;> simp [h1, h2]
theorem swoL : Sort.SWO (ltOf cfL) where
  irrefl x := by rw [lt_cf]; simp
  trans x y z h1 h2 := by rw [lt_cf] at *; simp at *; omega
  ntrans x y z h1 h2 := by rw [lt_cf] at *; simp at *; omega
set_option maxHeartbeats 1000000 in
theorem closure28 (x y : Ln) (W : World) : Calls Try.prog 28 #[.agg #[.int .i64 x.addr, .int .i64 x.state, .int .u32 x.val, .int .i64 x.used], .agg #[.int .i64 y.addr, .int .i64 y.state, .int .u32 y.val, .int .i64 y.used]] W fun e w' => e = .returned (.int .i64 (cfL x y)) ∧ ∃ q os', w' = Sort.grow (W.drewN q) os' := by
  have hcon := fun W' => AnyG.cmp_Compare_int Try.l29 x.addr y.addr W'
  change ∀ W', Calls Try.prog 29 _ _ _ at hcon
  unfold cfL
  generalize Lib.compareInt x.addr y.addr = r at hcon ⊢
  go_enter Try.func28, Try.ntmps28
  go_wp2_with (go_at_call 29; refine (hcon _).mono ?_; rintro e w' ⟨rfl, rfl⟩)
  go_ret
  exact ⟨rfl, 0, _, by rw [Sort.alloc_eq_grow, Sort.alloc_eq_grow, Sort.grow_grow]; rfl⟩
theorem lay28 (blk off size : Nat) (w : World) : CmpLays Try.prog 28 #[] (fun x : Ln => (lnR x).toList) 4 cfL blk off size w := fun _ _ _ _ x y => closure28 x y _

theorem lnR_get (y : Ln) (i : Nat) (hi : i < 4) : (lnR y)[i]? = some ((lnR y).toList[i]!) := by
  have h4 : i = 0 ∨ i = 1 ∨ i = 2 ∨ i = 3 := by omega
  rcases h4 with h | h | h | h <;> (rw [h]; rfl)
theorem holds_own {base g n cap : Nat} {F : List Ln} {w : World} (h : w.ownsRow base 30 4 (.slice (some ⟨g, 0, none⟩) n cap) n (lnC F)) (hn : F.length = n) : Sort.HoldsK (fun x : Ln => (lnR x).toList) 4 w g 0 F.toArray := fun t ht => by
  rw [Sort.size_flatK] at ht
  have ht' : t < F.length * 4 := by simpa using ht
  refine ⟨?_, h.frozenAt _⟩
  rw [Nat.zero_add, h.cellAt t (by omega), lnC_get F t ht', Sort.get_flatK _ _ _ t ht]
  have e1 : F.toArray[t / 4]! = F.getD (t / 4) zL := by rw [List.getElem!_toArray]; exact get_zL _ _
  rw [e1]
  exact lnR_get _ _ (Nat.mod_lt _ (by decide))
theorem lm_holds {g : Nat} {d : Array Ln} {w : World} (h : Sort.HoldsK (fun x : Ln => (lnR x).toList) 4 w g 0 d) (hg : g < w.heap.size) : Lm w (some ⟨g, 0, none⟩) d.toList := fun h0 => by
  refine ⟨g, 0, hg, rfl, fun k hk j hj => ?_⟩
  have h1 := (h.cell (i := k) (c := j) (by simpa using hk) hj).1
  rw [Nat.zero_add] at h1 ⊢
  rw [h1]
  have e1 : d[k]! = d.toList.getD k zL := by
    rw [getElem!_pos d k (by simpa using hk)]
    exact get_getD d.toList zL k hk
  rw [e1]
  exact (lnR_get _ _ hj).symm
set_option maxHeartbeats 1000000 in
theorem sort_any (base : Nat) (v : Value) (F : List Ln) (w : World) (h : Lw base w v F) (ha : F.Pairwise Two) (hm : F.length ≤ 10000) (hb : base ≤ w.heap.size) :
    Calls Try.prog 27 #[v, .func (.func 28) #[] #[]] w fun e w' => e = .returned (.tuple #[]) ∧ Lv w' v (sortA F) ∧ Below base w w' := by
  obtain ⟨p, c, rfl, hc⟩ := own_cap h
  by_cases h0 : 0 < F.length
  · obtain ⟨g, rfl, -, -, hg0, hg1⟩ := own_go h h0
    have eg : ∀ args w, (callFunc 28 args).run Try.prog w = .ok (.enter 28 args) w := enters_of Try.func28 (by kernel_rfl) rfl
    have hH := holds_own h rfl
    have hcon := AnyQ.slices_SortFunc Try.l27 4 Try.isAgg30 Try.sizeOf30 (fun x : Ln => (lnR x).toList) (fun _ => rfl) (fun x u hu => by simp [lnR] at hu; rcases hu with rfl | rfl | rfl | rfl <;> rfl) cfL swoL 28 #[] g 0 c F.toArray w eg (lay28 g 0 F.toArray.size w) hH hg1 (by simp; omega)
    refine hcon.mono ?_
    rintro e w' ⟨rfl, d', n, os, hp, hs, rfl⟩
    have hsz : d'.size = F.length := by rw [hp.1]; simp
    have hperm : d'.toList.Perm F := by
      have h1 := hp.2.2
      have e1 : d'.extract 0 F.toArray.size = d' := by
        have : F.toArray.size = d'.size := by rw [hsz]; simp
        rw [this, Array.extract_size]
      have e2 : F.toArray.extract 0 F.toArray.size = F.toArray := Array.extract_size
      rw [e1, e2] at h1
      exact h1
    have hsort : d'.toList.Pairwise fun a b => a.addr ≤ b.addr := by
      rw [List.pairwise_iff_getElem]
      intro i j hi hj hij
      have h1 := hs i j (Nat.zero_le _) hij (by simp only [List.size_toArray]; rw [← hsz]; simpa using hj)
      rw [lt_cf] at h1
      have h2 := of_decide_eq_false h1
      have g1 : d'[i]! = d'.toList[i] := by rw [getElem!_pos d' i (by simpa using hi)]; rfl
      have g2 : d'[j]! = d'.toList[j] := by rw [getElem!_pos d' j (by simpa using hj)]; rfl
      rw [g1, g2] at h2
      omega
    have hone := sort_one ha hperm hsort
    refine ⟨rfl, ⟨some ⟨g, 0, none⟩, c, by rw [sortA_len], by rw [sortA_len]; exact hc, ?_⟩, ?_⟩
    · rw [← hone]
      exact lm_holds (holdsK_sortWorldK_c _ _ _ _ _ F.toArray d' n os hH hg1 (by rw [hsz]; simp)) (lt_sortWorldK _ _ _ _ _ _ _ _ hg1)
    · have h1 : Below base w (Sort.putRowK (fun x : Ln => (lnR x).toList) 4 (Sort.ahead w n) g 0 d') := Lib.below_putRow (Below.refl _ _) hg0
      have h2 := Lib.below_grow base (Sort.putRowK (fun x : Ln => (lnR x).toList) 4 (Sort.ahead w n) g 0 d') (Nat.le_trans hb h1.size) 0 os
      exact h1.trans h2
  · have e0 : F = [] := List.eq_nil_of_length_eq_zero (by omega)
    subst e0
    exact (AnyF.slices_SortFunc_none { Try.l27 with } p c _ w).mono fun _ _ ⟨h1, h2⟩ => ⟨h1, h2 ▸ ⟨p, c, rfl, Nat.zero_le _, fun h => absurd h (by decide)⟩, h2 ▸ Below.refl _ _⟩

set_option maxHeartbeats 4000000 in
theorem all_any (S : Nat → Prop) (v : Value) (C : Ch) (w : World) (h : Co S w v C) : Calls Try.prog 11 #[v] w fun e w' => ∃ p c, e = .returned (.slice p (allC C).length c) ∧ (allC C).length ≤ c ∧ (allC C).length ≤ 10000 ∧ Lm w' p (allC C) ∧ Below w.heap.size w w' := by
  have HR := Lib.hid (fun W hW => right_any S v C W (h.below (w := w) (w' := W) hW))
  obtain ⟨p, n, c, xs, rfl, hc, -⟩ := h
  have HCC := Lib.hid (fun W hW => concat_any p n c xs C W (hc.below (w := w) (w' := W) hW))
  have HFL : Hid (C.lines.flatten.length ≤ 10000) := Lib.hid (by
    have h1 := hc.zn
    have h2 := hc.n100
    have := tot_le C.lines n (by omega) (by omega) hc.l100
    rw [← h1, List.take_length] at this
    omega)
  obtain ⟨F, hF⟩ : ∃ F, F = C.lines.flatten := ⟨_, rfl⟩
  rw [← hF] at HCC HFL
  have HF := Lib.hid hF
  clear hF
  obtain ⟨r, hr⟩ : ∃ x, x = rightC C := ⟨_, rfl⟩
  obtain ⟨L, hL⟩ : ∃ x, x = allC C := ⟨_, rfl⟩
  rw [← hr] at HR
  rw [← hL]
  have HRR := Lib.hid hr
  have HL := Lib.hid hL
  have HB0 : Hid (Below w.heap.size w (w.alloc (.cells #[.int .i64 C.sets, .int .i64 C.ways, .int .i64 C.clock, .slice p n c] 24))) := Lib.hid ((Below.refl _ _).alloc (Nat.le_refl _) _)
  have HA0 : Hid (Blk (w.alloc (.cells #[.int .i64 C.sets, .int .i64 C.ways, .int .i64 C.clock, .slice p n c] 24)) w.heap.size #[.int .i64 C.sets, .int .i64 C.ways, .int .i64 C.clock, .slice p n c]) := Lib.hid (Blk.new _ _ _)
  clear hr hL hc
  go_enter Try.func11, Try.ntmps11
  go_wp2_with fail
  refine (HR.out _ HB0.out).mono ?_
  rintro e w1 ⟨rfl, hb1⟩
  have HA1 := Lib.hid (HA0.out.below hb1)
  have HB1 : Hid (Below w.heap.size w w1) := Lib.hid (HB0.out.trans (hb1.mono HB0.out.size))
  clear hb1 HA0 HB0 HR
  cases r with
  | false =>
    have e0 : L = [] := by rw [HL.out]; unfold allC; rw [← HRR.out]; rfl
    subst e0
    go_wp2_with fail
    go_ret
    exact ⟨none, 0, rfl, Nat.le_refl _, Nat.zero_le _, fun h => absurd h (by decide), HB1.out⟩
  | true =>
    have e0 : L = sortA F := by rw [HF.out, HL.out]; unfold allC; rw [← HRR.out]; rfl
    have HE0 := Lib.hid e0
    have kA := HA1.out.c
    clear e0
    go_wp2_with fail
    refine (HCC.out _ HB1.out).mono ?_
    rintro e w2 ⟨v, rfl, hv, hb2⟩
    have HV := Lib.hid hv
    have HB2 : Hid (Below w.heap.size w w2) := Lib.hid (HB1.out.trans (hb2.mono HB1.out.size))
    have HSO := Lib.hid (sort_any _ v _ w2 hv (by rw [HF.out]; exact (right_rt HRR.out.symm).ap) HFL.out hb2.size)
    have HB12 := Lib.hid hb2
    obtain ⟨q, cq, hve, -⟩ := own_cap hv
    rw [hve] at HSO ⊢
    clear hb2 hv kA hve HV
    go_wp2_with fail
    refine HSO.out.mono ?_
    rintro e w3 ⟨rfl, hlv, hb3⟩
    obtain ⟨q', c', e', hc', hlm⟩ := hlv
    injection e' with e1 e2 e3
    have HEND : Hid (L.length = F.length ∧ L.length ≤ cq ∧ L.length ≤ 10000 ∧ Lm w3 q L ∧ Below w.heap.size w w3) := Lib.hid (by
      have hl : L.length = F.length := by rw [HE0.out, sortA_len]
      refine ⟨hl, ?_, by rw [hl]; exact HFL.out, ?_, ?_⟩
      · rw [HE0.out, e3]; exact hc'
      · rw [HE0.out, e1]; exact hlm
      · exact HB2.out.trans (hb3.mono HB1.out.size))
    clear e1 e2 e3 hc' hlm hb3
    go_wp2_with fail
    go_ret
    exact ⟨q, cq, by rw [HEND.out.1]; rfl, HEND.out.2.1, HEND.out.2.2.1, HEND.out.2.2.2.1, HEND.out.2.2.2.2⟩
end Go.Proofs.Ytoddmgaihggkjaa
