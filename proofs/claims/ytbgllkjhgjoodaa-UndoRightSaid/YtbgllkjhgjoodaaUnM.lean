/- A log gone back to an interval, by the program; no condition but that the log reads. -/
import Derived.Test.YtbgllkjhgjoodaaUnL
namespace Go.Proofs.Ytbgllkjhgjoodaa
set_option linter.unusedVariables false
open Go.ChangeShapes Go.WideShapes Go.ChangeAt Go.RowKit Go.Maps
attribute [local go_sem] Oper.semAt_some

def stepB (ls : List Un) (M : List Int) (j : Fin ls.length) : List Int := setM M (ls.getD (ls.length - 1 - j.val) zU).at_ (ls.getD (ls.length - 1 - j.val) zU).val
def memB (ls : List Un) (pre : List (Fin ls.length)) (M : List Int) : List Int := pre.foldl (stepB ls) M
theorem memB_snoc (ls : List Un) (pre : List (Fin ls.length)) (x : Fin ls.length) (M : List Int) : memB ls (pre ++ [x]) M = setM (memB ls pre M) (ls.getD (ls.length - 1 - x.val) zU).at_ (ls.getD (ls.length - 1 - x.val) zU).val := by
  unfold memB; rw [List.foldl_append]; rfl
theorem memB_all (ls : List Un) (M : List Int) : memB ls (List.finRange ls.length) M = undoM ls M := by
  have e : (List.finRange ls.length).map (fun j => ls.getD (ls.length - 1 - j.val) zU) = ls.reverse := by
    apply List.ext_getElem
    · simp
    · intro i h1 h2
      simp at h1
      rw [List.getElem_map, List.getElem_reverse, List.getElem_finRange, get_getD ls zU]
      rfl
  have e2 : memB ls (List.finRange ls.length) M = ((List.finRange ls.length).map (fun j => ls.getD (ls.length - 1 - j.val) zU)).foldl (fun M u => setM M u.at_ u.val) M := by
    unfold memB
    rw [List.foldl_map]
    rfl
  rw [e2, e, List.foldl_reverse]
  rfl
theorem len_memB (ls : List Un) (pre : List (Fin ls.length)) (M : List Int) : (memB ls pre M).length = M.length := by
  unfold memB
  induction pre generalizing M with
  | nil => rfl
  | cons x pre ih => rw [List.foldl_cons, ih]; unfold stepB; rw [len_setM]

theorem blk_cells {W : World} {B : Nat} {cs : Array Value} (h : Blk W B cs) (h0 : 0 < cs.size) : ∃ o : Obj, W.heap[B]? = some o ∧ o.isCells = true :=
  cells_of_cell (a := ⟨B, 0, none⟩) ((h.c 0).trans (Array.getElem?_eq_getElem h0))
theorem own_cells {W : World} {base : Nat} {e : TypeId} {z n : Nat} {v : Value} {xs : List Value} (h : W.ownsRow base e z v n xs) {g : Nat} (hv : v.ownBlock = some g) : ∃ o : Obj, W.heap[g]? = some o ∧ o.isCells = true := by
  obtain ⟨h1, ⟨h2, _⟩ | ⟨g', cap, cur, e1, e2, e3, _⟩⟩ := h
  · subst h2; cases hv
  · subst e1; injection hv with hv; subst hv; exact ⟨_, e3, rfl⟩
/-- What is said of a copy abides what is no cells. -/
theorem St.own {w : World} {bo : Nat} {p q : Option Addr} {m c n d : Nat} {s : Int} {l : List Un} {α : Type} (f : α → List Int) {B : Nat} (hB : w.heap.size ≤ B) : OwnFrom B (fun x W => St w W bo p m c s q n d (f x) l) := by
  intro x W W' row h hg hr
  have hne : ∀ g o, W.heap[g]? = some o → o.isCells = true → row ≠ some g := fun g o h1 h2 e => by
    obtain ⟨_, o', h3, h4⟩ := hr g e
    rw [h1] at h3; injection h3 with h3; subst h3; rw [h2] at h4; cases h4
  obtain ⟨o1, a1, b1⟩ := blk_cells h.ht (by simp)
  obtain ⟨o2, a2, b2⟩ := blk_cells h.hk (by simp)
  refine ⟨h.ht.grown hg (hne _ _ a1 b1), h.hk.grown hg (hne _ _ a2 b2), ⟨h.ho.mo.kept hg ?_, h.ho.lo.kept hg ?_, h.ho.sep, h.ho.m10, h.ho.n10⟩, h.hb.grown hg h.hb.size (fun g e => Nat.le_trans hB (hr g e).1), h.ge, h.np, h.nq⟩
  · cases hv : (Value.slice p m c).ownBlock with
    | none => exact .inl rfl
    | some g => obtain ⟨o, a3, b3⟩ := own_cells h.ho.mo hv; exact .inr (fun e => hne g o a3 b3 e.symm)
  · cases hv : (Value.slice q n d).ownBlock with
    | none => exact .inl rfl
    | some g => obtain ⟨o, a3, b3⟩ := own_cells h.ho.lo hv; exact .inr (fun e => hne g o a3 b3 e.symm)
theorem size51 (W : World) : (sizeOf (Try.prog.elem 23)).run Try.prog W = .ok 3 W := by
  obtain ⟨i0, hi, _, hz1, _⟩ := info_parts info51
  have e : Try.prog.elem 23 = 51 := by kernel_rfl
  rw [e]
  simp [sizeOf, typeInfo, hi, hz1]
theorem cut_lo (q : Option Addr) (n d k : Nat) (hk : k ≤ n) (hd : n ≤ d) : ∃ a, (∀ W, (Instr.slice 23 (.slice q n d) (some (.int .i64 (k : Int))) none none).run Try.prog W = .ok (.slice a (n - k) (d - k)) W) ∧ (k < n → ∀ b, q = some ⟨b, 0, none⟩ → a = some ⟨b, k * 3, none⟩) ∧ (∀ X, a = some X → ∃ Y, q = some Y ∧ Y.block = X.block) := by
  have he : Try.prog.underlying 23 = some (.slice (Try.prog.elem 23)) := by kernel_rfl
  refine ⟨if d = k then q else q.map (fun A => A.add (k * 3)), fun W => ?_, fun h b e => ?_, fun X e => ?_⟩
  · rw [run_slice_l W 23 _ n d he .i64 k (by omega) (by omega), size51]
    simp [Result.andThen, sliced]
  · rw [if_neg (by omega), e]
    show some (Addr.add ⟨b, 0, none⟩ (k * 3)) = _
    unfold Addr.add
    by_cases h2 : k * 3 = 0
    · rw [h2]; rfl
    · simp [h2]
  · by_cases h1 : d = k
    · rw [if_pos h1] at e; exact ⟨X, e, rfl⟩
    · rw [if_neg h1] at e
      cases q with
      | none => cases e
      | some Y =>
        injection e with e
        subst e
        refine ⟨Y, rfl, ?_⟩
        unfold Addr.add
        dsimp only
        split <;> rfl
theorem cut_sl {W : World} {base : Nat} {q a : Option Addr} {n d k : Nat} {l : List Un} (h : W.ownsRow base 51 3 (.slice q n d) n (unC l)) (hl : l.length = n) (ha : k < n → ∀ b, q = some ⟨b, 0, none⟩ → a = some ⟨b, k * 3, none⟩) : Sl W a (n - k) (unC (l.drop k)) := fun h0 => by
  obtain ⟨b, rfl, -, -, -, hb⟩ := own_go h (by omega)
  refine ⟨b, k * 3, hb, ha (by omega) b rfl, fun j hj => ?_⟩
  rw [unC_len, List.length_drop] at hj
  rw [h.cellAt (k * 3 + j) (by omega), unC_drop, List.getElem?_drop]
theorem St.outM {S : Nat → Prop} {w W : World} {bo : Nat} {p q : Option Addr} {m c n d : Nat} {s : Int} {M : List Int} {l : List Un} (h : St w W bo p m c s q n d M l) (hS : ∀ R, S R → R < w.heap.size) (X : Int) {L : Lg} {E : Int} (hL : L = ⟨M, s, l⟩) (hE : E = X) {D : Nat} (hD : w.heap.size ≤ D) (hK : W.heap[D]? = some (.deferred (some []))) (Y : World)
    (hY : Y = (((W.setCell ⟨w.heap.size + 1, 0, none⟩ (.slice p m c)).setCell ⟨w.heap.size + 1, 1, none⟩ (.int .i64 s)).setCell ⟨w.heap.size + 1, 2, none⟩ (.slice q n d)).putObj D (.deferred none)) :
    OutL S w Y (.returned (.tuple #[.agg #[.slice p m c, .int .i64 s, .slice q n d], .int .i64 X])) L E ∧ Blk Y (w.heap.size + 1) #[.slice p m c, .int .i64 s, .slice q n d] := by
  subst hL hE
  have hne : ∀ g o, W.heap[g]? = some o → o.isCells = true → some D ≠ some g := fun g o h1 h2 e => by
    injection e with e
    rw [← e, hK] at h1
    injection h1 with h1
    subst h1
    cases h2
  obtain ⟨V, hV⟩ : ∃ V, V = (((W.setCell ⟨w.heap.size + 1, 0, none⟩ (.slice p m c)).setCell ⟨w.heap.size + 1, 1, none⟩ (.int .i64 s)).setCell ⟨w.heap.size + 1, 2, none⟩ (.slice q n d)) := ⟨_, rfl⟩
  have ho : OwnL (w.heap.size + 2) V p m c q n d ⟨M, s, l⟩ := by rw [hV]; exact h.ho.setOff3 (by omega) _ _ _
  have hb : Below w.heap.size w V := by rw [hV]; exact set3_below h.hb (by omega) _ _ _
  have ht : Blk V (w.heap.size + 1) #[.slice p m c, .int .i64 s, .slice q n d] := by rw [hV]; exact set3_same h.ht _ _ _
  rw [← hV] at hY
  have hg : V.grownBy Y (some D) := by rw [hY]; exact grownBy_putObj' V D _
  obtain ⟨o1, a1, b1⟩ := blk_cells h.ht (by simp)
  have hT : some D ≠ some (w.heap.size + 1) := hne _ _ a1 b1
  refine ⟨⟨_, rfl, OwnL.out (base := w.heap.size + 2) ⟨ho.mo.kept hg ?_, ho.lo.kept hg ?_, ho.sep, ho.m10, ho.n10⟩ (fun R hR => by have := hS R hR; omega), hb.grown hg hb.size (fun g e => by injection e with e; omega)⟩, ht.grown hg hT⟩
  · cases hv : (Value.slice p m c).ownBlock with
    | none => exact .inl rfl
    | some g => obtain ⟨o, a3, b3⟩ := own_cells h.ho.mo hv; exact .inr (fun e => hne g o a3 b3 e.symm)
  · cases hv : (Value.slice q n d).ownBlock with
    | none => exact .inl rfl
    | some g => obtain ⟨o, a3, b3⟩ := own_cells h.ho.lo hv; exact .inr (fun e => hne g o a3 b3 e.symm)
theorem dk_grown {W W' : World} {D : Nat} {row : Option Nat} (hK : W.heap[D]? = some (.deferred (some []))) (hg : W.grownBy W' row) (hr : ∀ g, row = some g → ∃ o : Obj, W.heap[g]? = some o ∧ o.isCells = true) : W'.heap[D]? = some (.deferred (some [])) := by
  refine (hg.block D (Array.getElem?_eq_some_iff.1 hK).1 (fun e => ?_)).trans hK
  obtain ⟨o, h1, h2⟩ := hr D e.symm
  rw [hK] at h1; injection h1 with h1; subst h1; cases h2
theorem dk_set {W : World} {D B j : Nat} {v : Value} {cs : Array Value} (hK : W.heap[D]? = some (.deferred (some []))) (hB : Blk W B cs) (h0 : 0 < cs.size) : (W.setCell ⟨B, j, none⟩ v).heap[D]? = some (.deferred (some [])) := by
  obtain ⟨o, h1, h2⟩ := blk_cells hB h0
  refine (heap_setCell_other W ⟨B, j, none⟩ D v (fun e => ?_)).trans hK
  rw [e] at hK
  rw [hK] at h1; injection h1 with h1; subst h1; cases h2
theorem retM_nil {F : Fence} {n : Nat} {P : Program} {fn : Func} {R : Ending → World → Prop} {a : Act} {w : World} {v : Value} (hr : (results fn a.tmps).run P w = .ok v w) (hd : a.defers = []) (hR : R (.returned v) w) : bodyPostM F n P fn R .ret a w := by
  show LeavesInM F n P fn a.tmps R a.defers .returning w
  rw [hd]
  exact ⟨v, hr, hR⟩
theorem retM_mark {F : Fence} {n : Nat} {P : Program} {fn : Func} {R : Ending → World → Prop} {a : Act} {w : World} {v : Value} {D : Nat} {args : Array Value} (hd : a.defers = [{ target := .collected D, args := args }]) (hK : w.heap[D]? = some (.deferred (some [])))
    (hr : (results fn a.tmps).run P (w.putObj D (.deferred none)) = .ok v (w.putObj D (.deferred none))) (hR : R (.returned v) (w.putObj D (.deferred none))) : bodyPostM F n P fn R .ret a w := by
  show LeavesInM F n P fn a.tmps R a.defers .returning w
  rw [hd]
  exact ⟨by simp, .inl ⟨_, _, rfl, run_takeDeferred hK, v, hr, hR⟩⟩

set_option maxHeartbeats 4000000 in
set_option maxRecDepth 100000 in
theorem back_any {T : Nat → Prop} (S : Nat → Prop) (v : Value) (L : Lg) (t : Int) (w : World) (h : Lo T w v L) (hS : ∀ R, S R → R < w.heap.size) : Calls Try.prog 10 #[v, .int .i64 t] w fun e w' => OutL S w w' e (backL L t) (backE L t) := by
  obtain ⟨M, s, l⟩ := L
  obtain ⟨p0, m, c0, q0, n, d0, rfl, hc, -⟩ := h
  have hm := hc.m10
  have hn := hc.n10
  have HML : Hid (M.length = m) := Lib.hid hc.ml
  have HLL : Hid (l.length = n) := Lib.hid hc.ll
  have HSS := Lib.hid hS
  have HCP : Hid (∀ W, Below w.heap.size w W → Calls Try.prog 21 #[.agg #[.slice p0 m c0, .int .i64 s, .slice q0 n d0]] W fun e w' => ∃ p' c' q' d', e = .returned (.agg #[.slice p' m c', .int .i64 s, .slice q' n d']) ∧ OwnL (W.heap.size + 2) w' p' m c' q' n d' ⟨M, s, l⟩ ∧ Below W.heap.size W w') := Lib.hid (fun W hW => copied_any p0 q0 m c0 n d0 ⟨M, s, l⟩ W (hc.below hW))
  have HNO : Hid (okB ⟨M, s, l⟩ t = false → backL ⟨M, s, l⟩ t = ⟨M, s, l⟩ ∧ backE ⟨M, s, l⟩ t = 1) := Lib.hid (fun e => by unfold backL backE; rw [e]; exact ⟨rfl, rfl⟩)
  have HRT : Hid (okB ⟨M, s, l⟩ t = true → Rt ⟨M, s, l⟩) := Lib.hid (fun e => by rw [okB_eq, Bool.and_eq_true] at e; exact right_iff.1 e.1)
  have HYES : Hid (okB ⟨M, s, l⟩ t = true → backL ⟨M, s, l⟩ t = ⟨undoM (l.drop (cutU l t)) M, t, l.take (cutU l t)⟩ ∧ backE ⟨M, s, l⟩ t = 0) := Lib.hid (fun e => by
    have hr : Rt ⟨M, s, l⟩ := by rw [okB_eq, Bool.and_eq_true] at e; exact right_iff.1 e.1
    obtain ⟨e1, e2⟩ := cut_split hr.sort t
    dsimp only at e1 e2
    unfold backL backE; rw [e]; exact ⟨by rw [← e1, ← e2]; rfl, rfl⟩)
  dsimp only
  clear hc hS
  obtain ⟨w0, hw0⟩ : ∃ w0, w0 = (w.alloc (.cells #[.slice p0 m c0, .int .i64 s, .slice q0 n d0] 25)).alloc (.cells #[.slice none 0 0, .int .i64 0, .slice none 0 0] 25) := ⟨_, rfl⟩
  have HB0 : Hid (Below w.heap.size w w0) := Lib.hid (by rw [hw0]; exact ((Below.refl _ _).alloc (Nat.le_refl _) _).alloc (by simp) _)
  have HA0 : Hid (Blk w0 w.heap.size #[.slice p0 m c0, .int .i64 s, .slice q0 n d0]) := Lib.hid (by rw [hw0]; exact (Blk.new _ _ _).alloc _)
  have HT0 : Hid (Blk w0 (w.heap.size + 1) #[.slice none 0 0, .int .i64 0, .slice none 0 0]) := Lib.hid (by
    have := Blk.new (w.alloc (.cells #[.slice p0 m c0, .int .i64 s, .slice q0 n d0] 25)) #[.slice none 0 0, .int .i64 0, .slice none 0 0] 25
    rw [World.size_alloc] at this
    rw [hw0]; exact this)
  have HSZ : Hid (w0.heap.size = w.heap.size + 2) := Lib.hid (by rw [hw0, World.size_alloc, World.size_alloc])
  have HW0 := Lib.hid hw0
  clear hw0
  refine (callsIn_wide (n := 5)).1 ?_
  refine callsIn_of_wp_marks Try.func10 rfl trivial ?_ rfl
  simp only [Try.ntmps10, List.size_toArray, List.length_cons, List.length_nil, Nat.reduceAdd, Nat.reduceSub, Array.replicate_succ, Array.replicate_zero, List.push_toArray, List.append_toArray, List.nil_append, List.cons_append]
  refine wpIn_wide.2 ?_
  have kA := HA0.out.c
  go_upto_region 1 with fail
  rw [← HW0.out]
  clear HW0
  go_wp2_with fail
  refine (HCP.out w0 HB0.out).mono ?_
  rintro e w1 ⟨p, c, q, d, rfl, ho, hb⟩
  have HO1 : Hid (OwnL (w.heap.size + 2) w1 p m c q n d ⟨M, s, l⟩) := Lib.hid (ho.mono (by rw [HSZ.out]; omega))
  have HT1 := Lib.hid (HT0.out.below hb)
  have HB1 : Hid (Below w.heap.size w w1) := Lib.hid (HB0.out.trans (hb.mono HB0.out.size))
  have HGE : Hid (w.heap.size + 2 ≤ w1.heap.size) := Lib.hid (by rw [← HSZ.out]; exact hb.size)
  clear ho hb kA HA0 HT0 HB0 HSZ HCP
  go_upto_region 2 with fail
  have HST : Hid (St w (w1.alloc (.cells #[.slice p m c, .int .i64 s, .slice q n d] 25)) w1.heap.size p m c s q n d M l) := Lib.hid (St.make HO1.out HB1.out HT1.out HGE.out)
  obtain ⟨bo, hbo⟩ : ∃ b, b = w1.heap.size := ⟨_, rfl⟩
  obtain ⟨w2, hw2⟩ : ∃ z, z = w1.alloc (.cells #[.slice p m c, .int .i64 s, .slice q n d] 25) := ⟨_, rfl⟩
  rw [← hw2, ← hbo] at HST ⊢
  clear hw2 hbo HO1 HT1 HB1 HGE
  have HQ := Lib.hid (hadSpan_any _ _ _ t w2 HST.out.lo)
  obtain ⟨r, hr⟩ : ∃ r, r = okB ⟨M, s, l⟩ t := ⟨_, rfl⟩
  rw [← hr] at HQ HRT HNO HYES
  clear hr
  have kK := HST.out.hk.c
  go_wp2_with fail
  refine HQ.out.mono ?_
  rintro e w3 ⟨rfl, hb⟩
  have HS3 := Lib.hid (HST.out.below hb)
  clear hb kK HST HQ
  cases r with
  | false =>
    have HN := Lib.hid (HNO.out (by first | rfl | trivial))
    clear HNO HYES HRT
    have kK := HS3.out.hk.c
    have fK := HS3.out.hk.f
    have lK := HS3.out.hk.lt
    have kT := HS3.out.ht.c
    have fT := HS3.out.ht.f
    have lT := HS3.out.ht.lt
    go_wp2_with fail
    exact retM_nil (v := .tuple #[.agg #[.slice p m c, .int .i64 s, .slice q n d], .int .i64 1]) (by simp [results, Try.results10, go_sem, *]) rfl (HS3.out.out HSS.out 1 HN.out.1 HN.out.2)
  | true =>
    have HN := Lib.hid (HYES.out (by first | rfl | trivial))
    have HR := Lib.hid (HRT.out (by first | rfl | trivial))
    have HBE : Hid (∀ W, Below w3.heap.size w3 W → Calls Try.prog 26 #[.slice q n d, .int .i64 t] W fun e w' => e = .returned (.int .i64 (cutU l t : Nat)) ∧ Below W.heap.size W w') := Lib.hid (fun W hW => below_any q n d l t W HLL.out (HS3.out.ho.lc.ls.below hW) hn HR.out.sort)
    have HCL : Hid (cutU l t ≤ n) := Lib.hid (by rw [← HLL.out]; exact cut_le l t)
    obtain ⟨k, hk⟩ : ∃ k, k = cutU l t := ⟨_, rfl⟩
    rw [← hk] at HN HBE HCL
    have hkn := HCL.out
    have hnd := HS3.out.ho.lc.nd
    have hkd : k ≤ d := by omega
    clear hk HNO HYES HRT
    have hm1 : 0 < m := by rw [← HML.out]; exact HR.out.m1
    obtain ⟨g, rfl, -, -, -, -⟩ := own_go HS3.out.ho.mo hm1
    have kK := HS3.out.hk.c
    go_upto_region 4 with fail
    go_wp2_with fail
    refine (HBE.out w3 (Below.refl _ _)).mono ?_
    rintro e w4 ⟨rfl, hb⟩
    have HS4 := Lib.hid (HS3.out.below hb)
    clear hb kK HS3 HBE
    have kK := HS4.out.hk.c
    obtain ⟨a, hsl, ha1, ha2⟩ := cut_lo q n d k hkn hnd
    have HSL := Lib.hid (cut_sl HS4.out.ho.lo HLL.out ha1)
    have HA2 := Lib.hid ha2
    have HKN := Lib.hid hkn
    have HND := Lib.hid hnd
    clear ha1 ha2 hkn hnd hkd
    go_upto_region 5 with fail
    go_wp2_with fail
    refine (backward_any a (n - k) (d - k) w4).mono ?_
    rintro e w5 ⟨rfl, hw5⟩
    obtain ⟨Bs, hBs⟩ : ∃ z, z = w4.heap.size := ⟨_, rfl⟩
    rw [← hBs]
    have HB5 : Hid (Below w4.heap.size w4 w5) := Lib.hid (by rw [hw5]; exact (Below.refl _ _).alloc (Nat.le_refl _) _)
    have HK5 : Hid (Blk w5 Bs #[.slice a (n - k) (d - k)]) := Lib.hid (by rw [hw5, hBs]; exact Blk.new _ _ _)
    have HBS : Hid (Bs = w4.heap.size ∧ w5.heap.size = Bs + 1) := Lib.hid (by rw [hw5, hBs]; exact ⟨rfl, by simp⟩)
    have HS5 := Lib.hid (HS4.out.below HB5.out)
    have HB5' := HB5
    clear hw5 hBs kK hsl
    go_wp2_with fail
    obtain ⟨ls, hls⟩ : ∃ z, z = l.drop k := ⟨_, rfl⟩
    have HLN : Hid (ls.length = n - k) := Lib.hid (by rw [hls, List.length_drop, HLL.out])
    rw [← hls] at HSL
    have HLS := Lib.hid hls
    have HFIT : Hid (∀ x : Fin ls.length, ∃ i : Nat, (ls.getD (ls.length - 1 - x.val) zU).at_ = (i : Int) ∧ i < m) := Lib.hid (fun x => by
      have hx := x.isLt
      have hmem : ls.getD (ls.length - 1 - x.val) zU ∈ l := by
        have h1 := mem_getD ls zU (ls.length - 1 - x.val) (by omega)
        have h2 : ∀ u ∈ ls, u ∈ l := fun u hu => by rw [hls] at hu; exact List.mem_of_mem_drop hu
        exact h2 _ h1
      have hf := HR.out.fit _ hmem
      unfold FitU at hf
      have hml := HML.out
      dsimp only at hf
      exact ⟨(ls.getD (ls.length - 1 - x.val) zU).at_.toNat, by omega, by omega⟩)
    have HAB : Hid (∀ X, a = some X → X.block < w5.heap.size ∧ X.block ≠ g) := Lib.hid (fun X e => by
      obtain ⟨Y, hY, e2⟩ := HA2.out X e
      have hob : (Value.slice q n d).ownBlock = some X.block := by rw [hY, ← e2]; rfl
      exact ⟨(HS5.out.ho.lo.lt _ hob).2, fun e3 => HS5.out.ho.sep g rfl (by rw [hob, e3])⟩)
    have HGB : Hid (g ≠ Bs ∧ g < w5.heap.size) := Lib.hid ⟨by have := (HS4.out.ho.mo.lt g rfl).2; have := HBS.out.1; omega, (HS5.out.ho.mo.lt g rfl).2⟩
    have HML' : Hid (∀ pre, (memB ls pre M).length = m) := Lib.hid (fun pre => by rw [len_memB, HML.out])
    have HBSL : Hid (Bs < w5.heap.size) := Lib.hid (by have := HBS.out.2; omega)
    have HBOL : Hid (bo < w5.heap.size) := Lib.hid HS5.out.hk.lt
    have HWB : Hid (w.heap.size ≤ w5.heap.size) := Lib.hid HS5.out.hb.size
    clear hls HA2 HBS HS4 HB5
    refine (wpIn_wide (n := 5)).1 ?_
    refine wpIn_rangeFunc_ownH rfl (by decide) (gf := 37) (lb := #[.pointer (some ⟨Bs, 0, none⟩)]) rfl trivial (enters_of Try.func37 (by kernel_rfl) rfl)
      (backward_stops Fence.wide 4 trivial rfl (by decide) Bs a (d - k) ls (by rw [HLN.out]; omega) w5 HBSL.out (by rw [HLN.out]; exact HK5.out.c 0) (by rw [HLN.out]; exact HSL.out.below (HB5'.out))) KpB.trans ?hKb (Below.refl _ _) (fun _ => rfl)
      (fun pre W => St w W bo (some ⟨g, 0, none⟩) m c s q n d (memB ls pre M) l ∧ w5.heap.size ≤ W.heap.size) (fun _ _ _ => False) (OwnFrom.and (St.own _ HWB.out) (fun _ _ _ _ h hg _ => Nat.le_trans h hg.size)) (fun _ _ _ _ _ hs _ _ => hs) ⟨HS5.out, Nat.le_refl _⟩
      (fun x a' W => ∃ Bx, w5.heap.size ≤ Bx ∧ Blk W Bx (unR (ls.getD (ls.length - 1 - x.val) zU)) ∧ a' = { tmps := #[Value.agg #[Value.slice p0 m c0, Value.int IntKind.i64 s, Value.slice q0 n d0], Value.int IntKind.i64 t, Value.pointer (some { block := w.heap.size, off := 0 }), undef, Value.pointer (some { block := w.heap.size + 1, off := 0 }), Value.int IntKind.i64 0, Value.pointer (some { block := bo, off := 0 }), Value.int IntKind.i64 (k : Int), undef, Value.pointer (some { block := Bx, off := 0 }), Value.agg #[Value.slice p0 m c0, Value.int IntKind.i64 s, Value.slice q0 n d0], Value.agg #[Value.slice (some { block := g, off := 0 }) m c, Value.int IntKind.i64 s, Value.slice q n d], Value.agg #[Value.slice (some { block := g, off := 0 }) m c, Value.int IntKind.i64 s, Value.slice q n d], Value.int IntKind.i64 t, Value.bool true, Value.bool false, undef, Value.pointer (some { block := bo, off := 2 }), Value.slice q n d, Value.int IntKind.i64 t, Value.int IntKind.i64 (k : Int), Value.pointer (some { block := bo, off := 2 }), Value.slice q n d, Value.int IntKind.i64 (k : Int), Value.slice a (n - k) (d - k), Value.func (Fn.func 37) #[] #[Value.pointer (some { block := Bs, off := 0 })], Value.int IntKind.i64 ((ls.length - 1 - x.val : Nat) : Int), Value.agg (unR (ls.getD (ls.length - 1 - x.val) zU)), undef, undef, undef, undef, undef, undef, undef, undef, undef, undef, undef, undef, undef, undef, undef, undef, undef, undef], defers := [] }) ?hAx ?assign ?body ?done ?stop
    case hKb =>
      intro W y o o' hy _ _ _
      exact ⟨by simp, World.putObj_heap_other (by have := HBSL.out; omega), fun X e => World.putObj_heap_other (by have := (HAB.out X e).1; omega)⟩
    case hAx =>
      intro x a' _ W W' row h hg hr
      obtain ⟨Bx, hBx, hk, he⟩ := h
      obtain ⟨o, h1, h2⟩ := blk_cells hk (by unfold unR; simp)
      refine ⟨Bx, hBx, hk.grown hg (fun e => ?_), he⟩
      obtain ⟨_, o', h3, h4⟩ := hr Bx e
      rw [h1] at h3; injection h3 with h3; subst h3; rw [h2] at h4; cases h4
    case assign =>
      rintro y pre x W K ⟨hi, hsz⟩ hK
      have HI := Lib.hid hi
      have HZ := Lib.hid hsz
      have HKK := Lib.hid hK
      clear hi hK
      unfold encB
      obtain ⟨u, hu⟩ : ∃ u, u = ls.getD (ls.length - 1 - x.val) zU := ⟨_, rfl⟩
      rw [← hu] at HKK ⊢
      obtain ⟨us, ua, uv⟩ := u
      unfold unR at HKK ⊢
      dsimp only at HKK ⊢
      obtain ⟨z, hz⟩ : ∃ z : Int, z = ((ls.length - 1 - x.val : Nat) : Int) := ⟨_, rfl⟩
      rw [← hz] at HKK ⊢
      clear hz hu
      gi_wp2
      refine HKK.out _ _ ((KeepsOthers.alloc _ _).from _) (KpB.of_below (M := W.heap.size) ((Below.refl _ W).alloc (Nat.le_refl _) _) (by have := HZ.out; have := HBSL.out; omega) (fun X e => by have := (HAB.out X e).1; have := HZ.out; omega)) ⟨HI.out.below ((Below.refl _ W).alloc (Nat.le_refl _) _), by have := HZ.out; simp; omega⟩ ⟨W.heap.size, HZ.out, Blk.new _ _ _, rfl⟩
    case body =>
      rintro y pre x a' W hyl hyr ⟨hI, hsz⟩ ⟨Bx, hBx, hX, rfl⟩ hpre
      have HZ := Lib.hid hsz
      clear hsz
      have HI := Lib.hid hI
      obtain ⟨i, hi, him⟩ := HFIT.out x
      have HX := Lib.hid hX
      have HSN := Lib.hid (memB_snoc ls pre x M)
      obtain ⟨u, hu⟩ : ∃ u, u = ls.getD (ls.length - 1 - x.val) zU := ⟨_, rfl⟩
      rw [← hu] at hi HX HSN ⊢
      obtain ⟨us, ua, uv⟩ := u
      dsimp only at hi HSN
      subst hi
      obtain ⟨z, hz⟩ : ∃ z : Int, z = ((ls.length - 1 - x.val : Nat) : Int) := ⟨_, rfl⟩
      rw [← hz]
      have HE : Hid (memB ls (pre ++ [x]) M = (memB ls pre M).set i uv) := Lib.hid (by rw [HSN.out]; unfold setM; rw [Int.toNat_natCast])
      have cM : W.cell? ⟨g, i, none⟩ = some (.int .u32 ((memB ls pre M).getD i 0)) := by rw [HI.out.ho.mo.cellAt i (by omega), wdC_at _ i (by rw [HML'.out]; exact him)]
      have fM : W.frozen? ⟨g, i, none⟩ = false := HI.out.ho.mo.frozenAt i
      have kK := HI.out.hk.c
      have kX := HX.out.c
      have hiI : (i : Int) < (m : Int) := by omega
      unfold unR at kX ⊢
      dsimp only at kX ⊢
      have HIM := Lib.hid him
      clear hz hu hI hX HSN hyl hyr hpre hBx him
      gi_wp2
      refine ⟨(KeepsOthers.setCell _ _ _).from _, ⟨by simp, heap_setCell_other W ⟨g, i, none⟩ Bs _ (fun e => HGB.out.1 e.symm), fun X e => heap_setCell_other W ⟨g, i, none⟩ X.block _ (fun e2 => (HAB.out X e).2 e2)⟩, ?_⟩
      have hm := HI.out.mem i uv
      rw [← HE.out] at hm
      exact ⟨hm, by have := HZ.out; simpa using this⟩
    case done =>
      rintro D ys W hD rfl ⟨hI, hsz⟩ hK
      rw [memB_all] at hI
      have HI := Lib.hid hI
      have HZ := Lib.hid hsz
      have HK := Lib.hid hK
      have HDL := Lib.hid hD
      clear hI hsz hK hD
      have kK := HI.out.hk.c
      go_upto_region 8 with fail
      go_wp2_with fail
      have e0 : l.take k ++ l.drop n = l.take k := by rw [List.drop_of_length_le (by rw [HLL.out]; exact Nat.le_refl _), List.append_nil]
      have HD := Lib.hid (delete_any (w.heap.size + 2) n d k n q l W HI.out.ho.lo HLL.out HKN.out (Nat.le_refl _) hn)
      have HLE : Hid ((l.take k ++ l.drop n).length ≤ 10000) := Lib.hid (by rw [e0, List.length_take]; have := HKN.out; omega)
      rw [e0] at HD HLE
      obtain ⟨x, hx⟩ : ∃ x, x = (l.take k).length := ⟨_, rfl⟩
      rw [← hx] at HD HLE
      clear e0 hx kK
      refine HD.out.mono ?_
      rintro e w6 ⟨rfl, ho, hg⟩
      have HS6 := Lib.hid (HI.out.list HLE.out ho hg (.inl (by cases q <;> rfl)))
      have HK6 := Lib.hid (HI.out.hk.grown hg (fun e => HI.out.nq bo e rfl))
      have HD6 := Lib.hid (dk_grown HK.out hg (fun g' e => own_cells HI.out.ho.lo e))
      have HD7 := Lib.hid (dk_set (j := 2) (v := .slice q x d) HD6.out HK6.out (by simp))
      clear ho hg HD HI HK HD6
      have kK := HK6.out.c
      have fK := HK6.out.f
      have lK := HK6.out.lt
      go_upto_region 9 with fail
      obtain ⟨w7, hw7⟩ : ∃ z, z = w6.setCell ⟨bo, 2, none⟩ (.slice q x d) := ⟨_, rfl⟩
      rw [← hw7] at HS6 HD7 ⊢
      clear hw7 kK fK lK HK6
      have HS8 := Lib.hid (HS6.out.span t)
      have HD8 := Lib.hid (dk_set (j := 1) (v := .int .i64 t) HD7.out HS6.out.hk (by simp))
      have kK := HS6.out.hk.c
      have fK := HS6.out.hk.f
      have lK := HS6.out.hk.lt
      go_upto_region 10 with fail
      obtain ⟨w8, hw8⟩ : ∃ z, z = w7.setCell ⟨bo, 1, none⟩ (.int .i64 t) := ⟨_, rfl⟩
      rw [← hw8] at HS8 HD8 ⊢
      clear hw8 kK fK lK HS6 HD7
      have kK := HS8.out.hk.c
      have fK := HS8.out.hk.f
      have lK := HS8.out.hk.lt
      have kT := HS8.out.ht.c
      have fT := HS8.out.ht.f
      have lT := HS8.out.ht.lt
      go_wp2_with fail
      obtain ⟨Y, hY⟩ : ∃ Y, Y = (((w8.setCell ⟨w.heap.size + 1, 0, none⟩ (.slice (some ⟨g, 0, none⟩) m c)).setCell ⟨w.heap.size + 1, 1, none⟩ (.int .i64 t)).setCell ⟨w.heap.size + 1, 2, none⟩ (.slice q x d)).putObj D (.deferred none) := ⟨_, rfl⟩
      obtain ⟨hout, hblk⟩ := HS8.out.outM HSS.out 0 (HN.out.1.trans (by rw [HLS.out])) HN.out.2 (D := D) (by have := HWB.out; have := HDL.out; omega) HD8.out Y hY
      have hc := hblk.c
      have HOUT := Lib.hid hout
      clear hout
      refine retM_mark (D := D) (v := .tuple #[.agg #[.slice (some ⟨g, 0, none⟩) m c, .int .i64 t, .slice q x d], .int .i64 0]) rfl ?_ ?_ ?_
      · exact dk_set (dk_set (dk_set HD8.out HS8.out.ht (by simp)) (HS8.out.ht.set (n := 0) _ (by simp)) (by simp)) ((HS8.out.ht.set (n := 0) _ (by simp)).set (n := 1) _ (by simp)) (by simp)
      · rw [← hY]
        simp [results, Try.results10, go_sem, hc]
      · rw [← hY]
        exact HOUT.out
    case stop =>
      rintro D c pre W _ _ h _
      exact h.elim
end Go.Proofs.Ytbgllkjhgjoodaa
