/- Two lists laid one behind the other, and all that was told, by the program; no condition but that they read. -/
import Derived.Test.YteffmidpinlpjaaCmE
import Derived.Shelf.Spec.SlicesGrow
namespace Go.Proofs.Yteffmidpinlpjaa
set_option linter.unusedVariables false
set_option linter.unusedSimpArgs false
open Go.ChangeShapes Go.WideShapes Go.ChangeAt Go.RowKit Go.Shelf

def Try.lG_ren : Go.Shelf.Ren := ⟨fun | 4 => 34 | n => n, fun | 22 => 23 | 25 => 28 | 3 => 3 | 4 => 4 | 9 => 9 | 20 => 20 | 0 => 0 | n => n, fun | n => n⟩
theorem Try.lG : Go.Proofs.Lays8.n4 Try.prog Try.lG_ren := {
  mixed := by kernel_rfl
  f4 := ⟨Try.f34.name, by decide, Try.func34.trans (congrArg some (by kernel_rfl))⟩
  t0 := Try.underlying0
  a0 := Try.isAgg0
  z0 := Try.sizeOf0
  v0 := Try.zeroValue0
  t3 := Try.underlying3
  a3 := Try.isAgg3
  z3 := Try.sizeOf3
  v3 := Try.zeroValue3
  t4 := Try.underlying4
  a4 := Try.isAgg4
  z4 := Try.sizeOf4
  v4 := Try.zeroValue4
  t9 := Try.underlying9
  a9 := Try.isAgg9
  z9 := Try.sizeOf9
  v9 := Try.zeroValue9
  t20 := Try.underlying20
  a20 := Try.isAgg20
  z20 := Try.sizeOf20
  v20 := Try.zeroValue20
  t22 := Try.underlying23
  a22 := Try.isAgg23
  z22 := Try.sizeOf23
  v22 := Try.zeroValue23 }
theorem grow_any (n : Nat) (w : World) (h : n ≤ 20000) : Calls Try.prog 34 #[.slice none 0 0, .int .i64 (n : Int)] w fun e w' => ∃ p c, e = .returned (.slice p 0 c) ∧ w'.ownsRow w.heap.size 28 2 (.slice p 0 c) 0 [] ∧ Below w.heap.size w w' := by
  by_cases h0 : 0 < n
  · obtain ⟨i0, hi, hz0, hz1, hz2⟩ := info_parts infoT
    have hcon := Any8.slices_Grow_grow Try.lG i0 _ hi hz0 (by rw [hz1]; decide) none 0 0 n [] w (Nat.le_refl _) (by omega) (by rw [hz2]; omega) (by omega) (by simp) (fun _ => rfl) (fun a e => by cases e)
    have hG : grownCap w (0 + n) 0 28 ≤ maxLen := grownCap_le_maxLen w (0 + n) 0 28 (by unfold maxLen; omega)
    have hGn : 0 + n ≤ grownCap w (0 + n) 0 28 := grownCap_ge w _ _ _
    refine hcon.mono ?_
    rintro e w' ⟨rfl, rfl⟩
    refine ⟨_, _, rfl, ?_, (Below.refl _ _).drew.alloc (Nat.le_refl _) _⟩
    refine World.ownsRow_made w.drew _ _ (Nat.le_refl _) hG ?_
    have hGn' : 0 + n ≤ grownCap w (0 + n) 0 (Try.lG_ren.t 25) := hGn
    generalize grownCap w (0 + n) 0 (Try.lG_ren.t 25) = G at hGn' ⊢
    simp only [Array.size_append, size_zeroCells, Value.cells]
    show 0 + (0 + n - 0) * 2 + (G - (0 + n)) * 2 = G * 2
    omega
  · have e : n = 0 := by omega
    subst e
    exact (Any8.slices_Grow_room Try.lG none 0 0 0 w (by omega) (by omega) (by omega) (by omega)).mono fun _ _ ⟨he, hw⟩ => ⟨none, 0, he, World.ownsRow_nil _ _ _ _, hw ▸ Below.refl _ _⟩

set_option maxHeartbeats 4000000 in
set_option maxRecDepth 100000 in
theorem concat_any (b n c m d : Nat) (p q : Option Addr) (xs ys : List Td) (w : World) (hk : Blk w b #[.slice p n c, .slice q m d]) (hx : xs.length = n) (hy : ys.length = m) (hs : Sl w p n (tdC xs)) (ht : Sl w q m (tdC ys)) (hn : n ≤ 10000) (hm : m ≤ 10000) :
    Calls Try.prog 28 #[.slice (some ⟨b, 0, none⟩) 2 2] w fun e w' => ∃ q x d, x = (xs ++ ys).length ∧ e = .returned (.slice q x d) ∧ w'.ownsRow w.heap.size 28 2 (.slice q x d) x (tdC (xs ++ ys)) ∧ Below w.heap.size w w' := by
  have HK := Lib.hid hk
  have HS := Lib.hid hs
  have HT := Lib.hid ht
  have HX : Hid ((tdC xs).length = n * 2) := Lib.hid (by rw [tdC_len, hx])
  have HY : Hid ((tdC ys).length = m * 2) := Lib.hid (by rw [tdC_len, hy])
  have HE : Hid (n + m = (xs ++ ys).length ∧ tdC (xs ++ ys) = tdC xs ++ tdC ys) := Lib.hid ⟨by rw [List.length_append, hx, hy], tdC_app xs ys⟩
  obtain ⟨i0, hi, hz0, hz1, hz2⟩ := info_parts infoT
  have HI := Lib.hid (And.intro hi (And.intro hz0 (And.intro hz1 hz2)))
  clear hk hs ht hx hy hi hz0 hz1 hz2
  have f1 : IntKind.i64.wrap ((n : Int) + (m : Int)) = (n : Int) + (m : Int) := by rw [IntKind.wrap_i64]; omega
  have f2 : wrap64 ((n : Int) + (m : Int)) = (n : Int) + (m : Int) := by unfold wrap64; omega
  have f3 : ¬ (n : Int) < 0 := by omega
  have f4 : ¬ (n : Int) + (m : Int) < 0 := by omega
  have d3 : decide ((n : Int) < 0) = false := decide_eq_false f3
  have d4 : decide ((n : Int) + (m : Int) < 0) = false := decide_eq_false f4
  have f5 : IntKind.i64.wrap ((0 : Int) + (n : Int)) = (n : Int) := by rw [IntKind.wrap_i64]; omega
  have f6 : wrap64 ((0 : Int) + (n : Int)) = (n : Int) := by unfold wrap64; omega
  have f7 : IntKind.i64.wrap (n : Int) = (n : Int) := by rw [IntKind.wrap_i64]; omega
  have f8 : wrap64 (n : Int) = (n : Int) := by unfold wrap64; omega
  clear f3 f4
  have kB := HK.out.c
  go_enter Try.func28, Try.ntmps28
  go_wp2_with fail
  go_loop [3, 11] (fun t i => (i = .int .i64 0 ∧ t = .int .i64 0) ∨ (i = .int .i64 1 ∧ t = .int .i64 n) ∨ (i = .int .i64 2 ∧ t = .int .i64 ((n : Int) + (m : Int)))) (fun _ i => 2 - (intOf i).toNat)
  case atStart => exact .inl ⟨rfl, rfl⟩
  case round =>
    rcases hrel with ⟨rfl, rfl⟩ | ⟨rfl, rfl⟩ | ⟨rfl, rfl⟩
    · go_wp2_with fail
      go_round
      case rel => exact .inr (.inl ⟨by first | rfl | simp, by first | rfl | simp [f5, f6]⟩)
      case measure => simp [intOf]
    · go_wp2_with fail
      go_round
      case rel => exact .inr (.inr ⟨by first | rfl | simp, by first | rfl | simp [f1, f2]⟩)
      case measure => simp [intOf]
    · go_wp2_with fail
      have e1 : (n : Int) + (m : Int) = ((n + m : Nat) : Int) := by omega
      rw [e1]
      clear f1 f2 f5 f6 f7 f8 d3 d4
      refine (grow_any (n + m) w (by omega)).mono ?_
      rintro e w1 ⟨q1, c1, rfl, ho, hb⟩
      have HO := Lib.hid ho
      have HB := Lib.hid hb
      clear ho hb kB e1
      go_wp2_with fail
      go_loopw [6, 27] (fun v i wr => Below w.heap.size w wr ∧ ((i = .int .i64 0 ∧ ∃ q c, v = .slice q 0 c ∧ wr.ownsRow w.heap.size 28 2 v 0 []) ∨ (i = .int .i64 1 ∧ ∃ q c, v = .slice q n c ∧ wr.ownsRow w.heap.size 28 2 v n (tdC xs)) ∨ (i = .int .i64 2 ∧ ∃ q c, v = .slice q (n + m) c ∧ wr.ownsRow w.heap.size 28 2 v (n + m) (tdC xs ++ tdC ys)))) (fun _ i _ => 2 - (intOf i).toNat)
      case atStart => exact ⟨HB.out, .inl ⟨rfl, q1, c1, rfl, HO.out⟩⟩
      case round =>
        obtain ⟨hb, hrel⟩ := hrel
        clear HB HO
        have HB := Lib.hid hb
        clear hb
        have kB := (HK.out.below HB.out).c
        rcases hrel with ⟨rfl, q2, c2, rfl, ho⟩ | ⟨rfl, q2, c2, rfl, ho⟩ | ⟨rfl, q2, c2, rfl, ho⟩
        · have HO := Lib.hid ho
          clear ho
          go_wp2_with (first | (at_builtin; refine wpList_append_sl rfl _ _ 23 rfl w.heap.size 28 i0 _ 2 16 Try.underlying23 HI.out.1 HI.out.2.1 HI.out.2.2.1 HI.out.2.2.2 rfl (by decide) _ 0 [] rfl HO.out p n c (tdC xs) rfl HX.out (HS.out.below HB.out) (tdC_one _) (by unfold maxLen; omega) (by omega) HB.out.size ?_; intro v' w2 g1 g2 g3; rw [Nat.zero_add, List.nil_append] at g1; obtain ⟨q3, c3, rfl, -⟩ := own_cap g1; have HO2 := Lib.hid g1; have HB2 : Hid (Below w.heap.size w w2) := Lib.hid (HB.out.grown g2 HB.out.size (fun k hk => (HO.out.lt k hk).1)); clear g1 g2 g3 kB))
          go_roundw
          case rel => exact ⟨HB2.out, .inr (.inl ⟨by first | rfl | simp, q3, c3, rfl, HO2.out⟩)⟩
          case measure => simp [intOf]
        · have HO := Lib.hid ho
          clear ho
          go_wp2_with (first | (at_builtin; refine wpList_append_sl rfl _ _ 23 rfl w.heap.size 28 i0 _ 2 16 Try.underlying23 HI.out.1 HI.out.2.1 HI.out.2.2.1 HI.out.2.2.2 rfl (by decide) _ n (tdC xs) rfl HO.out q m d (tdC ys) rfl HY.out (HT.out.below HB.out) (tdC_one _) (by unfold maxLen; omega) (by omega) HB.out.size ?_; intro v' w2 g1 g2 g3; obtain ⟨q3, c3, rfl, -⟩ := own_cap g1; have HO2 := Lib.hid g1; have HB2 : Hid (Below w.heap.size w w2) := Lib.hid (HB.out.grown g2 HB.out.size (fun k hk => (HO.out.lt k hk).1)); clear g1 g2 g3 kB))
          go_roundw
          case rel => exact ⟨HB2.out, .inr (.inr ⟨by first | rfl | simp, q3, c3, rfl, HO2.out⟩)⟩
          case measure => simp [intOf]
        · have HO := Lib.hid ho
          clear ho
          go_wp2_with fail
          go_ret
          exact ⟨q2, n + m, c2, HE.out.1, rfl, by rw [HE.out.2]; exact HO.out, HB.out⟩

set_option maxHeartbeats 4000000 in
set_option maxRecDepth 100000 in
theorem all_any (S : Nat → Prop) (v : Value) (L : Gt) (w : World) (h : Lo S w v L) : Calls Try.prog 17 #[v] w fun e w' => ∃ q x d, x = (allG L).length ∧ e = .returned (.slice q x d) ∧ w'.ownsRow w.heap.size 28 2 (.slice q x d) x (tdC (allG L)) ∧ Below w.heap.size w w' := by
  obtain ⟨M, l⟩ := L
  obtain ⟨p, m, c, q, n, d, rfl, hc, -⟩ := h
  have HC := Lib.hid hc
  have HTO : Hid (∀ W, Below w.heap.size w W → Calls Try.prog 24 #[.slice p m c] W fun e w' => ∃ q d, e = .returned (.slice q m d) ∧ w'.ownsRow W.heap.size 28 2 (.slice q m d) m (tdC (M.map Hd.td)) ∧ Below W.heap.size W w') := Lib.hid (fun W hW => told_any p m c M W hc.ml (hc.ms.below hW) hc.m10)
  clear hc
  have HK0 : Hid (Blk (w.alloc (.cells #[.slice p m c, .slice q n d] 25)) w.heap.size #[.slice p m c, .slice q n d]) := Lib.hid (Blk.new _ _ _)
  have HB0 : Hid (Below w.heap.size w (w.alloc (.cells #[.slice p m c, .slice q n d] 25))) := Lib.hid ((Below.refl _ _).alloc (Nat.le_refl _) _)
  obtain ⟨w0, hw0⟩ : ∃ w0, w0 = w.alloc (.cells #[.slice p m c, .slice q n d] 25) := ⟨_, rfl⟩
  rw [← hw0] at HK0 HB0
  have HW0 := Lib.hid hw0
  clear hw0
  have HS : Hid (∀ V, Below w0.heap.size w0 V → ∀ t, V.cell? ⟨w.heap.size, t, none⟩ = (#[.slice p m c, .slice q n d] : Array Value)[t]?) := Lib.hid (fun V hV => (HK0.out.below hV).c)
  go_enter Try.func17, Try.ntmps17
  go_upto_region 1 with fail
  rw [← HW0.out]
  clear HW0
  refine region_plan (fun V : World => ∀ t, V.cell? ⟨w.heap.size, t, none⟩ = (#[.slice p m c, .slice q n d] : Array Value)[t]?) 7 [(0, true), (1, true), (2, true), (3, true), (4, false), (5, false), (6, false)] (by kernel_rfl) (by kernel_rfl) (HS.out _ (Below.refl _ _).drew) ?_
  iterate 4
    refine plan_read (v := ?_) rfl (by rfl) ?_ ?_
    rotate_left
    · intro w' hS
      try dsimp only at hS
      go_simp
      try with_reducible rfl
    try simp only [Act.put, List.setIfInBounds_toArray, List.set_cons_zero, List.set_cons_succ, List.getElem_toArray, List.getElem_cons_zero, List.getElem_cons_succ]
  refine plan_call (F := 24) (args := ?_) rfl (by rfl) ?_ ?_
  rotate_left
  · go_simp
    rfl
  refine (HTO.out w0.drew HB0.out.drew).mono ?_
  rintro e w1 ⟨qt, dt, rfl, ho, hb⟩
  have HB1 : Hid (Below w0.heap.size w0 w1) := Lib.hid ((Below.refl _ _).drew.trans hb)
  obtain ⟨qx, cx, ex, HSL⟩ := Sl.own ho
  injection ex with ex1 ex2 ex3
  subst ex1
  have HSLH := Lib.hid HSL
  clear hb ho HSL ex2 ex3
  refine ⟨_, rfl, HS.out _ HB1.out, ?_⟩
  try simp only [Act.put, List.setIfInBounds_toArray, List.set_cons_zero, List.set_cons_succ, List.getElem_toArray, List.getElem_cons_zero, List.getElem_cons_succ]
  obtain ⟨w2, hw2⟩ : ∃ z, z = w1.alloc (.cells #[.slice q n d, .slice qt m dt] 23) := ⟨_, rfl⟩
  have HB2 : Hid (Below w0.heap.size w0 w2) := Lib.hid (by rw [hw2]; exact HB1.out.alloc HB1.out.size _)
  have HK2 : Hid (Blk w2 w1.heap.size #[.slice q n d, .slice qt m dt]) := Lib.hid (by rw [hw2]; exact Blk.new _ _ _)
  have HB12 : Hid (Below w1.heap.size w1 w2) := Lib.hid (by rw [hw2]; exact (Below.refl _ _).alloc (Nat.le_refl _) _)
  refine plan_make (v := .slice (some ⟨w1.heap.size, 0, none⟩) 2 2) (w1 := w2) rfl (by rfl) (by rw [hw2]; go_simp) (HS.out _ HB2.out) ?_
  try simp only [Act.put, List.setIfInBounds_toArray, List.set_cons_zero, List.set_cons_succ, List.getElem_toArray, List.getElem_cons_zero, List.getElem_cons_succ]
  have HBW2 : Hid (Below w.heap.size w w2) := Lib.hid (HB0.out.trans (HB2.out.mono HB0.out.size))
  have HCO := Lib.hid (concat_any w1.heap.size n d m dt q qt l (M.map Hd.td) w2 HK2.out HC.out.ll (by rw [List.length_map, HC.out.ml]) (HC.out.ls.below HBW2.out) (HSLH.out.below HB12.out) HC.out.n10 HC.out.m10)
  refine plan_call (F := 28) (args := ?_) rfl (by rfl) ?_ ?_
  rotate_left
  · go_simp
    rfl
  refine (HCO.out).mono ?_
  rintro e w3 ⟨q3, x3, d3, hx, rfl, ho, hb⟩
  have HB3 : Hid (Below w0.heap.size w0 w3) := Lib.hid (HB2.out.trans (hb.mono HB2.out.size))
  have HX := Lib.hid hx
  have HO3 : Hid (w3.ownsRow w.heap.size 28 2 (.slice q3 x3 d3) x3 (tdC (l ++ M.map Hd.td))) := Lib.hid (own_base ho HBW2.out.size)
  clear hx ho hb
  refine ⟨_, rfl, HS.out _ HB3.out, ?_⟩
  try simp only [Act.put, List.setIfInBounds_toArray, List.set_cons_zero, List.set_cons_succ, List.getElem_toArray, List.getElem_cons_zero, List.getElem_cons_succ]
  refine plan_nil ?_
  simp only [List.drop_succ_cons, List.drop_zero]
  go_wp2_with fail
  go_ret
  exact ⟨q3, x3, d3, HX.out, rfl, HO3.out, HB0.out.trans (HB3.out.mono HB0.out.size)⟩
end Go.Proofs.Yteffmidpinlpjaa
