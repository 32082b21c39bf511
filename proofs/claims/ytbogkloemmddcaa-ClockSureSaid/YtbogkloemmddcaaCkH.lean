/- Which mark is sure, by the program; no condition but that the clock is right, and the time may be. -/
import Derived.Test.YtbogkloemmddcaaCkG
namespace Go.Proofs.Ytbogkloemmddcaa
set_option linter.unusedVariables false
open Go.ChangeShapes Go.WideShapes Go.ChangeAt Go.RowKit Go.Maps
attribute [local go_sem] Oper.semAt_some

theorem blk_cells {W : World} {B : Nat} {cs : Array Value} (h : Blk W B cs) (h0 : 0 < cs.size) : ∃ o : Obj, W.heap[B]? = some o ∧ o.isCells = true :=
  cells_of_cell (a := ⟨B, 0, none⟩) ((h.c 0).trans (Array.getElem?_eq_getElem h0))
theorem dk_grown {W W' : World} {D : Nat} {row : Option Nat} (hK : W.heap[D]? = some (.deferred (some []))) (hg : W.grownBy W' row) (hr : ∀ g, row = some g → ∃ o : Obj, W.heap[g]? = some o ∧ o.isCells = true) : W'.heap[D]? = some (.deferred (some [])) := by
  refine (hg.block D (Array.getElem?_eq_some_iff.1 hK).1 (fun e => ?_)).trans hK
  obtain ⟨o, h1, h2⟩ := hr D e.symm
  rw [hK] at h1; injection h1 with h1; subst h1; cases h2
theorem dk_set {W : World} {D B j : Nat} {v : Value} {cs : Array Value} (hK : W.heap[D]? = some (.deferred (some []))) (hB : Blk W B cs) (h0 : 0 < cs.size) : (W.setCell ⟨B, j, none⟩ v).heap[D]? = some (.deferred (some [])) := by
  obtain ⟨o, h1, h2⟩ := blk_cells hB h0
  refine (heap_setCell_other W ⟨B, j, none⟩ D v (fun e => ?_)).trans hK
  rw [e] at hK
  rw [hK] at h1; injection h1 with h1; subst h1; cases h2
theorem retM_mark {F : Fence} {n : Nat} {P : Program} {fn : Func} {R : Ending → World → Prop} {a : Act} {w : World} {v : Value} {D : Nat} {args : Array Value} (hd : a.defers = [{ target := .collected D, args := args }]) (hK : w.heap[D]? = some (.deferred (some [])))
    (hr : (results fn a.tmps).run P (w.putObj D (.deferred none)) = .ok v (w.putObj D (.deferred none))) (hR : R (.returned v) (w.putObj D (.deferred none))) : bodyPostM F n P fn R .ret a w := by
  show LeavesInM F n P fn a.tmps R a.defers .returning w
  rw [hd]
  exact ⟨by simp, .inl ⟨_, _, rfl, run_takeDeferred hK, v, hr, hR⟩⟩

/-- What is laid ahead of the loop. -/
structure SuS (w W : World) (p : Option Addr) (n c : Nat) (wt now r : Int) : Prop where
  hk : Blk W w.heap.size #[.slice p n c, .int .i64 wt]
  ht : Blk W (w.heap.size + 1) #[.int .i64 now]
  hr : Blk W (w.heap.size + 2) #[.int .i64 r]
  hb : Below w.heap.size w W
theorem SuS.below {w W W' : World} {p : Option Addr} {n c : Nat} {wt now r : Int} (h : SuS w W p n c wt now r) (hb : Below W.heap.size W W') : SuS w W' p n c wt now r := ⟨h.hk.below hb, h.ht.below hb, h.hr.below hb, h.hb.trans (hb.mono h.hb.size)⟩
theorem SuS.set {w W : World} {p : Option Addr} {n c : Nat} {wt now r : Int} (h : SuS w W p n c wt now r) (s : Int) : SuS w (W.setCell ⟨w.heap.size + 2, 0, none⟩ (.int .i64 s)) p n c wt now s :=
  ⟨h.hk.other _ (by omega), h.ht.other _ (by omega), h.hr.set (n := 0) _ (by simp), h.hb.setCell (p := ⟨w.heap.size + 2, 0, none⟩) (by show w.heap.size ≤ w.heap.size + 2; omega) _⟩
theorem SuS.grown {w W W' : World} {p : Option Addr} {n c : Nat} {wt now r : Int} (h : SuS w W p n c wt now r) {row : Option Nat} (hg : W.grownBy W' row) {B : Nat} (hB : w.heap.size + 3 ≤ B) (hr : ∀ g, row = some g → B ≤ g) : SuS w W' p n c wt now r :=
  ⟨h.hk.grown hg (fun e => by have := hr _ e; omega), h.ht.grown hg (fun e => by have := hr _ e; omega), h.hr.grown hg (fun e => by have := hr _ e; omega), h.hb.grown hg h.hb.size (fun g e => by have := hr g e; omega)⟩
theorem SuS.fin {w W : World} {p : Option Addr} {n c : Nat} {wt now r : Int} (h : SuS w W p n c wt now r) {D : Nat} (hD : w.heap.size + 3 ≤ D) (o : Obj) : SuS w (W.putObj D o) p n c wt now r :=
  h.grown (grownBy_putObj' W D o) (B := D) hD (fun g e => by injection e with e; omega)
def Not (xs : List Mv) (wt now : Int) (j : Fin xs.length) : Prop := now - (xs.getD (xs.length - 1 - j.val) zV).when < wt
theorem snoc_fin {N k : Nat} (hk : k < N) {pre' : List (Fin N)} {x : Fin N} (h : (List.finRange N).take (k + 1) = pre' ++ [x]) : pre' = (List.finRange N).take k ∧ x.val = k := by
  rw [take_fin hk] at h
  obtain ⟨h1, h2⟩ := List.append_inj' h rfl
  injection h2 with h2
  exact ⟨h1.symm, by rw [← h2]⟩
theorem mem_take_fin {N k : Nat} (hk : k ≤ N) (j : Fin N) (hj : j.val < k) : j ∈ (List.finRange N).take k := by
  rw [List.mem_iff_getElem]
  exact ⟨j.val, by rw [List.length_take, List.length_finRange]; omega, by rw [List.getElem_take, List.getElem_finRange]; rfl⟩
theorem sure_stop {xs : List Mv} {wt now : Int} {k : Nat} (hk : k < xs.length) (h1 : ¬ Not xs wt now ⟨k, hk⟩) (h2 : ∀ j ∈ (List.finRange xs.length).take k, Not xs wt now j) : sureN (mksOf xs) wt now xs.length = xs.length - 1 - k := by
  refine sureN_eq (by omega) (.inr ?_) (fun j hj hjl => ?_)
  · rw [mksOf_at]
    have : ¬ (now - (xs.getD (xs.length - 1 - k) zV).when < wt) := h1
    show now - (xs.getD (xs.length - 1 - k) zV).when ≥ wt
    omega
  · have h3 := h2 ⟨xs.length - 1 - j, by omega⟩ (mem_take_fin (by omega) _ (by show xs.length - 1 - j < k; omega))
    rw [mksOf_at]
    unfold Not at h3
    dsimp only at h3
    rw [show xs.length - 1 - (xs.length - 1 - j) = j by omega] at h3
    exact h3
theorem sure_none {xs : List Mv} {wt now : Int} (h0 : 0 < xs.length) (h2 : ∀ j ∈ List.finRange xs.length, Not xs wt now j) : sureN (mksOf xs) wt now xs.length = 0 := by
  refine sureN_eq h0 (.inl rfl) (fun j hj hjl => ?_)
  have h3 := h2 ⟨xs.length - 1 - j, by omega⟩ (List.mem_finRange _)
  rw [mksOf_at]
  unfold Not at h3
  dsimp only at h3
  rw [show xs.length - 1 - (xs.length - 1 - j) = j by omega] at h3
  exact h3

set_option maxHeartbeats 4000000 in
set_option maxRecDepth 100000 in
theorem surest_at (p : Option Addr) (n c : Nat) (xs : List Mv) (wt now : Int) (w : World) (hc : Kc w p n c xs) (h1 : 1 ≤ n) (hn0 : 0 ≤ now) (hnt : now ≤ 1099511627776) (hw : ∀ k, k < n → 0 ≤ (xs.getD k zV).when ∧ (xs.getD k zV).when ≤ 1099511627776) :
    Calls Try.prog 21 #[.agg #[.slice p n c, .int .i64 wt], .int .i64 now] w fun e w' => e = .returned (.int .i64 (sureN (mksOf xs) wt now n : Nat)) ∧ Below w.heap.size w w' := by
  have hn := hc.nb
  have HXL : Hid (xs.length = n) := Lib.hid hc.xl
  have HSL : Hid (Sl w p n (mvC xs)) := Lib.hid hc.sl
  have HWW := Lib.hid hw
  have HPB : Hid (∀ X, p = some X → 0 < n → X.block < w.heap.size) := Lib.hid (fun X e h0 => by
    obtain ⟨b, off, h2, h3, _⟩ := hc.sl h0
    rw [h3] at e; injection e with e; subst e; exact h2)
  clear hc hw
  obtain ⟨w0, hw0⟩ : ∃ w0, w0 = ((w.alloc (.cells #[.slice p n c, .int .i64 wt] 26)).alloc (.cells #[.int .i64 now] 3)).alloc (.cells #[.int .i64 0] 3) := ⟨_, rfl⟩
  have HS0 : Hid (SuS w w0 p n c wt now 0) := Lib.hid (by
    have k1 := Blk.new w #[.slice p n c, .int .i64 wt] 26
    have k2 := Blk.new (w.alloc (.cells #[.slice p n c, .int .i64 wt] 26)) #[.int .i64 now] 3
    have k3 := Blk.new ((w.alloc (.cells #[.slice p n c, .int .i64 wt] 26)).alloc (.cells #[.int .i64 now] 3)) #[.int .i64 0] 3
    simp only [World.size_alloc] at k2 k3
    rw [hw0]
    exact ⟨(k1.alloc _).alloc _, k2.alloc _, k3, (((Below.refl _ _).alloc (Nat.le_refl _) _).alloc (by simp) _).alloc (by simp; omega) _⟩)
  have HSZ : Hid (w0.heap.size = w.heap.size + 3) := Lib.hid (by rw [hw0, World.size_alloc, World.size_alloc, World.size_alloc])
  have HW0 := Lib.hid hw0
  clear hw0
  refine (callsIn_wide (n := 5)).1 ?_
  refine callsIn_of_wp_marks Try.func21 rfl trivial ?_ rfl
  simp only [Try.ntmps21, List.size_toArray, List.length_cons, List.length_nil, Nat.reduceAdd, Nat.reduceSub, Array.replicate_succ, Array.replicate_zero, List.push_toArray, List.append_toArray, List.nil_append, List.cons_append]
  refine wpIn_wide.2 ?_
  have kA := HS0.out.hk.c
  go_upto_region 1 with fail
  rw [← HW0.out]
  clear HW0
  go_wp2_with fail
  refine (backward_any p n c w0).mono ?_
  rintro e w5 ⟨rfl, hw5⟩
  obtain ⟨Bs, hBs⟩ : ∃ z, z = w0.heap.size := ⟨_, rfl⟩
  rw [← hBs]
  have HB5 : Hid (Below w0.heap.size w0 w5) := Lib.hid (by rw [hw5]; exact (Below.refl _ _).alloc (Nat.le_refl _) _)
  have HK5 : Hid (Blk w5 Bs #[.slice p n c]) := Lib.hid (by rw [hw5, hBs]; exact Blk.new _ _ _)
  have HBS : Hid (Bs = w.heap.size + 3 ∧ w5.heap.size = Bs + 1) := Lib.hid (by rw [hw5, hBs, HSZ.out]; exact ⟨rfl, by simp [HSZ.out]⟩)
  have HS5 := Lib.hid (HS0.out.below HB5.out)
  clear hw5 hBs kA
  go_wp2_with fail
  obtain ⟨ls, hls⟩ : ∃ z, z = xs := ⟨_, rfl⟩
  rw [← hls] at HXL HSL HWW
  have HGO : Hid (sureN (mksOf xs) wt now n = sureN (mksOf ls) wt now ls.length) := Lib.hid (by rw [HXL.out, hls])
  have HBSL : Hid (Bs < w5.heap.size) := Lib.hid (by have := HBS.out.2; omega)
  have HPB5 : Hid (0 < n → ∀ X, p = some X → X.block < w5.heap.size) := Lib.hid (fun h0 X e => by have := HPB.out X e h0; have := HBS.out; omega)
  have hpn : 0 < n := h1
  clear hls
  refine (wpIn_wide (n := 5)).1 ?_
  refine wpIn_rangeFunc_ownH rfl (by decide) (gf := 26) (lb := #[.pointer (some ⟨Bs, 0, none⟩)]) rfl trivial (enters_of Try.func26 (by kernel_rfl) rfl)
      (backward_stops Fence.wide 4 trivial rfl (by decide) Bs p c ls (by rw [HXL.out]; exact hn) w5 HBSL.out (by rw [HXL.out]; exact HK5.out.c 0) (by rw [HXL.out]; exact HSL.out.below (HS5.out.hb))) KpB.trans ?hKb (Below.refl _ _) (fun _ => rfl)
      (fun pre W => (SuS w W p n c wt now 0 ∧ w5.heap.size ≤ W.heap.size) ∧ ∀ j ∈ pre, Not ls wt now j) (fun cd pre W => ∃ pre' x r, (SuS w W p n c wt now r ∧ w5.heap.size ≤ W.heap.size) ∧ cd = .ret ∧ r = ((ls.length - 1 - x.val : Nat) : Int) ∧ pre = pre' ++ [x] ∧ ¬ Not ls wt now x ∧ ∀ j ∈ pre', Not ls wt now j)
      ?hI ?hIx ⟨⟨HS5.out, Nat.le_refl _⟩, fun j hj => (by cases hj)⟩
      (fun x a' W => ∃ Bx, w5.heap.size ≤ Bx ∧ Blk W Bx (mvR (ls.getD (ls.length - 1 - x.val) zV)) ∧ a' = { tmps := #[Value.agg #[Value.slice p n c, Value.int IntKind.i64 wt], Value.int IntKind.i64 now, Value.pointer (some { block := w.heap.size, off := 0 }), Value.pointer (some { block := w.heap.size + 1, off := 0 }), Value.pointer (some { block := w.heap.size + 1 + 1, off := 0 }), Value.int IntKind.i64 ((ls.length - 1 - x.val : Nat) : Int), Value.pointer (some { block := Bx, off := 0 }), Value.pointer (some { block := w.heap.size, off := 0 }), Value.slice p n c, Value.func (Fn.func 26) #[] #[Value.pointer (some { block := Bs, off := 0 })], Value.int IntKind.i64 ((ls.length - 1 - x.val : Nat) : Int), Value.agg (mvR (ls.getD (ls.length - 1 - x.val) zV)), undef, undef, undef, undef, undef, undef, undef, undef], defers := [] }) ?hAx ?assign ?body ?done ?stop
  case hKb =>
    intro W y o o' hy _ _ _
    exact ⟨by simp, World.putObj_heap_other (by have := HBSL.out; omega), fun X e => World.putObj_heap_other (by have := HPB5.out hpn X e; omega)⟩
  case hI =>
    intro pre W W' row h hg hr
    have hsz := h.1.2
    have hb := HBS.out
    exact ⟨⟨h.1.1.grown hg (B := w5.heap.size) (by omega) (fun g e => (hr g e).1), Nat.le_trans h.1.2 hg.size⟩, h.2⟩
  case hIx =>
    intro cd pre W W' row h hg hr
    have hb := HBS.out
    obtain ⟨pre', x, r, h1, h2⟩ := h
    exact ⟨pre', x, r, ⟨h1.1.grown hg (B := w5.heap.size) (by omega) (fun g e => (hr g e).1), Nat.le_trans h1.2 hg.size⟩, h2⟩
  case hAx =>
    intro x a' _ W W' row h hg hr
    obtain ⟨Bx, hBx, hk, he⟩ := h
    obtain ⟨o, h1, h2⟩ := blk_cells hk (by unfold mvR; simp)
    refine ⟨Bx, hBx, hk.grown hg (fun e => ?_), he⟩
    obtain ⟨_, o', h3, h4⟩ := hr Bx e
    rw [h1] at h3; injection h3 with h3; subst h3; rw [h2] at h4; cases h4
  case assign =>
    rintro y pre x W K ⟨⟨hi, hsz⟩, hnot⟩ hK
    have HI := Lib.hid hi
    have HZ := Lib.hid hsz
    have HN := Lib.hid hnot
    have HKK := Lib.hid hK
    clear hi hK hnot
    unfold encB
    obtain ⟨u, hu⟩ : ∃ u, u = ls.getD (ls.length - 1 - x.val) zV := ⟨_, rfl⟩
    rw [← hu] at HKK ⊢
    obtain ⟨us, ut, uq, um, uc, ucs⟩ := u
    unfold mvR at HKK ⊢
    dsimp only at HKK ⊢
    obtain ⟨z, hz⟩ : ∃ z : Int, z = ((ls.length - 1 - x.val : Nat) : Int) := ⟨_, rfl⟩
    rw [← hz] at HKK ⊢
    clear hz hu
    gi_wp2
    refine HKK.out _ _ ((KeepsOthers.alloc _ _).from _) (KpB.of_below (M := W.heap.size) ((Below.refl _ W).alloc (Nat.le_refl _) _) (by have := HZ.out; have := HBSL.out; omega) (fun X e => by have := HPB5.out hpn X e; have := HZ.out; omega)) ⟨⟨HI.out.below ((Below.refl _ W).alloc (Nat.le_refl _) _), by have := HZ.out; simp; omega⟩, HN.out⟩ ⟨W.heap.size, HZ.out, Blk.new _ _ _, rfl⟩
  case body =>
    rintro y pre x a' W hyl hyr ⟨⟨hI, hsz⟩, hnot⟩ ⟨Bx, hBx, hX, rfl⟩ hpre
    have HZ := Lib.hid hsz
    have HN := Lib.hid hnot
    have HI := Lib.hid hI
    have HX := Lib.hid hX
    have hx := x.isLt
    have HWN := Lib.hid (HWW.out (ls.length - 1 - x.val) (by rw [← HXL.out]; omega))
    have HNX : Hid (Not ls wt now x ↔ now - (ls.getD (ls.length - 1 - x.val) zV).when < wt) := Lib.hid Iff.rfl
    obtain ⟨u, hu⟩ : ∃ u, u = ls.getD (ls.length - 1 - x.val) zV := ⟨_, rfl⟩
    rw [← hu] at HX HWN HNX ⊢
    obtain ⟨us, ut, uq, um, uc, ucs⟩ := u
    dsimp only at HWN HNX
    obtain ⟨z, hz⟩ : ∃ z : Int, z = ((ls.length - 1 - x.val : Nat) : Int) := ⟨_, rfl⟩
    rw [← hz]
    have HZZ := Lib.hid hz
    have f1 : IntKind.i64.wrap (now - ut) = now - ut := by rw [IntKind.wrap_i64]; have := HWN.out; omega
    have f2 : wrap64 (now - ut) = now - ut := by have := HWN.out; unfold wrap64; omega
    have kK := HI.out.hk.c
    have kT := HI.out.ht.c
    have kR := HI.out.hr.c
    have fR := HI.out.hr.f
    have lR := HI.out.hr.lt
    have kX := HX.out.c
    unfold mvR at kX ⊢
    dsimp only at kX ⊢
    clear hz hu hI hX hsz hnot hyl hyr hpre hBx
    by_cases hs : wt ≤ now - ut
    · have d1 : decide (wt ≤ now - ut) = true := decide_eq_true hs
      have HNO : Hid (¬ Not ls wt now x) := Lib.hid (fun e => by have := HNX.out.1 e; omega)
      clear hs
      gi_wp2
      exact ⟨(KeepsOthers.setCell _ _ _).from _, ⟨pre, x, z, ⟨HI.out.set z, by have := HZ.out; simpa using this⟩, rfl, HZZ.out, rfl, HNO.out, HN.out⟩⟩
    · have d1 : decide (wt ≤ now - ut) = false := decide_eq_false hs
      have HNO : Hid (Not ls wt now x) := Lib.hid (HNX.out.2 (by omega))
      clear hs
      gi_wp2
      exact ⟨KeepsFrom.refl _ _, KpB.refl _ _ _, ⟨HI.out, HZ.out⟩, fun j hj => by
        rcases List.mem_append.1 hj with hj | hj
        · exact HN.out j hj
        · rw [List.mem_singleton.1 hj]; exact HNO.out⟩
  case done =>
    rintro D ys W hD rfl ⟨⟨hI, hsz⟩, hnot⟩ hK
    have HI := Lib.hid hI
    have HK := Lib.hid hK
    have HDL := Lib.hid hD
    have HE : Hid (sureN (mksOf xs) wt now n = 0) := Lib.hid (by rw [HGO.out]; exact sure_none (by rw [HXL.out]; exact hpn) hnot)
    clear hI hsz hK hD hnot
    have kR := HI.out.hr.c
    have fR := HI.out.hr.f
    have lR := HI.out.hr.lt
    go_wp2_with fail
    have HS9 := Lib.hid (HI.out.set 0)
    have HD9 := Lib.hid (dk_set (j := 0) (v := .int .i64 0) HK.out HI.out.hr (by simp))
    have HF := Lib.hid (HS9.out.fin (D := D) (by have := HDL.out; have := HBS.out; omega) (.deferred none))
    have hc := HF.out.hr.c
    refine retM_mark (D := D) (v := .int .i64 0) rfl HD9.out ?_ ?_
    · simp [results, Try.results21, go_sem, hc]
    · rw [HE.out]
      exact ⟨rfl, HF.out.hb⟩
  case stop =>
    rintro D cd pre W hD ⟨k, hk, hp⟩ h hK
    obtain ⟨pre', x, r, ⟨hI, hsz⟩, rfl, hr, hp2, hx, hall⟩ := h
    · have hsn := snoc_fin hk (hp.symm.trans hp2)
      obtain ⟨rfl, hxk⟩ := hsn
      have HE : Hid (r = (sureN (mksOf xs) wt now n : Nat)) := Lib.hid (by
        have e : x = ⟨k, hk⟩ := Fin.ext hxk
        subst e
        rw [HGO.out, sure_stop hk hx hall, hr])
      have HI := Lib.hid hI
      have HK := Lib.hid hK
      have HDL := Lib.hid hD
      clear hI hsz hK hD hr hp hp2 hx hall
      refine wpIn_ret ?_
      have HF := Lib.hid (HI.out.fin (D := D) (by have := HDL.out; have := HBS.out; omega) (.deferred none))
      have hc := HF.out.hr.c
      refine retM_mark (D := D) (v := .int .i64 r) rfl HK.out ?_ ?_
      · simp [results, Try.results21, go_sem, hc]
      · rw [← HE.out]
        exact ⟨rfl, HF.out.hb⟩
end Go.Proofs.Ytbogkloemmddcaa
