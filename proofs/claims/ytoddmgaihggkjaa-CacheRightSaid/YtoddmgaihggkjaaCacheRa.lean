/- The document's own answers: is a cache short, are lists the same, all lines, where an address stands; no condition but that the cache reads. -/
import Derived.Test.YtoddmgaihggkjaaCacheOpen
import Derived.Test.YtoddmgaihggkjaaCacheL0
namespace Go.Proofs.Ytoddmgaihggkjaa
set_option linter.unusedVariables false
open Go.ChangeShapes Go.WideShapes Go.ChangeAt Go.RowKit

theorem CcX.below {w w' : World} {p : Option Addr} {n c : Nat} {xs : List Value} {C : Ch} (h : CcX w p n c xs C) (hb : Below w.heap.size w w') : CcX w' p n c xs C :=
  ⟨h.zn, h.len, h.sl.below hb, fun k hk => (h.rs k hk).below hb, h.cn, h.n63, h.l63⟩
theorem CcX.cell {w : World} {p : Option Addr} {n c : Nat} {xs : List Value} {C : Ch} (h : CcX w p n c xs C) (k : Nat) (hk : k < n) : ∃ b off q c2, p = some ⟨b, off, none⟩ ∧ b < w.heap.size ∧ w.cell? ⟨b, off + k, none⟩ = some (.slice q (C.lines.getD k []).length c2) := by
  obtain ⟨b, off, h1, h2, h3⟩ := h.sl (by omega)
  obtain ⟨q, c2, hv, hc2, hn⟩ := h.rs k hk
  refine ⟨b, off, q, c2, h2, h1, ?_⟩
  rw [h3 k (by rw [h.len]; exact hk), ← hv, List.getD_eq_getElem?_getD, List.getElem?_eq_getElem (by rw [h.len]; exact hk)]
  rfl
def shortC (C : Ch) : Bool := decide (C.lines.length ≤ 10) && (List.range C.lines.length).all fun k => decide ((C.lines.getD k []).length ≤ 10)
theorem short_cc {w : World} {p : Option Addr} {n c : Nat} {xs : List Value} {C : Ch} (h : CcX w p n c xs C) (hs : shortC C = true) : Cc w p n c xs C ∧ n ≤ 10 ∧ ∀ k, (C.lines.getD k []).length ≤ 10 := by
  unfold shortC at hs
  rw [Bool.and_eq_true, List.all_eq_true] at hs
  have hn := of_decide_eq_true hs.1
  rw [h.zn] at hn hs
  have hl : ∀ k, (C.lines.getD k []).length ≤ 10 := fun k => by
    by_cases hk : k < n
    · exact of_decide_eq_true (hs.2 k (List.mem_range.2 hk))
    · rw [List.getD_eq_getElem?_getD, List.getElem?_eq_none (by rw [h.zn]; omega)]; exact Nat.zero_le _
  exact ⟨⟨h.zn, h.len, h.sl, h.rs, h.cn, by omega, fun k => by have := hl k; omega⟩, hn, hl⟩
set_option maxHeartbeats 2000000 in
theorem short_any (p : Option Addr) (n c : Nat) (xs : List Value) (C : Ch) (w : World) (h : CcX w p n c xs C) :
    Calls Try.prog 7 #[.agg #[.int .i64 C.sets, .int .i64 C.ways, .int .i64 C.clock, .slice p n c]] w fun e w' => e = .returned (.bool (shortC C)) ∧ Below w.heap.size w w' := by
  have HC := Lib.hid h
  have HR : Hid (shortC C = (decide (n ≤ 10) && (List.range n).all fun k => decide ((C.lines.getD k []).length ≤ 10))) := Lib.hid (by unfold shortC; rw [h.zn])
  obtain ⟨r, hr⟩ : ∃ r, r = shortC C := ⟨_, rfl⟩
  rw [← hr] at HR ⊢
  have hn63 := h.n63
  unfold maxLen at hn63
  clear h hr
  have HB0 : Hid (Below w.heap.size w (w.alloc (.cells #[.int .i64 C.sets, .int .i64 C.ways, .int .i64 C.clock, .slice p n c] 24))) := Lib.hid ((Below.refl _ _).alloc (Nat.le_refl _) _)
  have HA0 : Hid (Blk (w.alloc (.cells #[.int .i64 C.sets, .int .i64 C.ways, .int .i64 C.clock, .slice p n c] 24)) w.heap.size #[.int .i64 C.sets, .int .i64 C.ways, .int .i64 C.clock, .slice p n c]) := Lib.hid (Blk.new _ _ _)
  go_enter Try.func7, Try.ntmps7
  by_cases hn : n ≤ 10
  · have d1 : decide (10 < (n : Int)) = false := decide_eq_false (by omega)
    go_wp2_with fail
    go_loopw [3] (fun i wr => ∃ k : Nat, k ≤ n ∧ i = .int .i64 k ∧ (∀ j, j < k → (C.lines.getD j []).length ≤ 10) ∧ Blk wr w.heap.size #[.int .i64 C.sets, .int .i64 C.ways, .int .i64 C.clock, .slice p n c] ∧ Below w.heap.size w wr) (fun i _ => n - (intOf i).toNat)
    case atStart => exact ⟨0, Nat.zero_le _, rfl, fun j hj => absurd hj (Nat.not_lt_zero _), HA0.out, HB0.out⟩
    case round =>
      obtain ⟨k, hk, rfl, hall, ha, hb⟩ := hrel
      have HALL := Lib.hid hall
      have HAA := Lib.hid ha
      have HB := Lib.hid hb
      clear hall ha hb HA0 HB0 d1
      have kA := HAA.out.c
      by_cases hlt : k < n
      · obtain ⟨b, off, q, c2, rfl, hbl, hcell⟩ := HC.out.cell k hlt
        have hc2 := (HB.out.cell (p := ⟨b, off + k, none⟩) hbl).trans hcell
        have h63 := HC.out.l63 k
        unfold maxLen at h63
        obtain ⟨x, hx⟩ : ∃ x, x = (C.lines.getD k []).length := ⟨_, rfl⟩
        rw [← hx] at hc2 h63
        have HX := Lib.hid hx
        clear hcell hx
        by_cases hx10 : x ≤ 10
        · have d2 : decide (10 < (x : Int)) = false := decide_eq_false (by omega)
          go_wp2_with fail
          go_roundw
          case rel => exact ⟨k + 1, by omega, by go_num, fun j hj => by
            by_cases e : j = k
            · rw [e, ← HX.out]; exact hx10
            · exact HALL.out j (by omega), HAA.out, HB.out⟩
          case measure => simp [intOf]; omega
        · have d2 : decide (10 < (x : Int)) = true := decide_eq_true (by omega)
          go_wp2_with fail
          go_ret
          refine ⟨?_, HB.out⟩
          have : r = false := by
            rw [HR.out, Bool.and_eq_false_iff]
            exact .inr (List.all_eq_false.2 ⟨k, List.mem_range.2 hlt, by rw [← HX.out, decide_eq_false hx10]; decide⟩)
          rw [this]; rfl
      · have hkn : k = n := by omega
        subst hkn
        go_wp2_with fail
        go_ret
        refine ⟨?_, HB.out⟩
        have : r = true := by
          rw [HR.out, Bool.and_eq_true]
          exact ⟨decide_eq_true hn, List.all_eq_true.2 fun j hj => decide_eq_true (HALL.out j (List.mem_range.1 hj))⟩
        rw [this]; rfl
  · have d1 : decide (10 < (n : Int)) = true := decide_eq_true (by omega)
    go_wp2_with fail
    go_ret
    refine ⟨?_, HB0.out⟩
    have : r = false := by rw [HR.out, decide_eq_false hn]; rfl
    rw [this]; rfl

set_option maxHeartbeats 2000000 in
theorem flat_any (p : Option Addr) (n c : Nat) (xs : List Value) (C : Ch) (w : World) (h : Cc w p n c xs C) :
    Calls Try.prog 30 #[.agg #[.int .i64 C.sets, .int .i64 C.ways, .int .i64 C.clock, .slice p n c]] w fun e w' => ∃ v, e = .returned v ∧ Lw w.heap.size w' v C.lines.flatten ∧ Below w.heap.size w w' := by
  have hn := h.n100
  have hz := h.zn
  have HH := Lib.hid h
  obtain ⟨L, hL⟩ : ∃ L, L = C.lines := ⟨_, rfl⟩
  have HLE := Lib.hid hL
  have HZ : Hid (L.length = n) := Lib.hid (by rw [hL]; exact hz)
  have HST : Hid (∀ k, k < n → (L.take (k + 1)).flatten = (L.take k).flatten ++ L.getD k []) := Lib.hid (fun k hk => tot_step L k (by rw [HZ.out]; exact hk))
  have HTL : Hid (∀ k, k ≤ n → (L.take k).flatten.length ≤ 10000) := Lib.hid (fun k hk => by
    have := tot_le L k (by rw [HZ.out]; exact hk) (by rw [HZ.out]; exact hn) (fun j => by rw [HLE.out]; exact HH.out.l100 j)
    omega)
  rw [← hL]
  obtain ⟨i0, hi, hz0, hz1, hz2⟩ := info_parts info30
  have HI := Lib.hid (And.intro hi (And.intro hz0 (And.intro hz1 hz2)))
  clear h hL hz hi hz0 hz1 hz2
  obtain ⟨A, W, K, hA, hW, hK⟩ : ∃ A W K, A = C.sets ∧ W = C.ways ∧ K = C.clock := ⟨_, _, _, rfl, rfl, rfl⟩
  rw [← hA, ← hW, ← hK]
  clear hA hW hK
  have HB0 : Hid (Below w.heap.size w (w.alloc (.cells #[.int .i64 A, .int .i64 W, .int .i64 K, .slice p n c] 24))) := Lib.hid ((Below.refl _ _).alloc (Nat.le_refl _) _)
  have HA0 : Hid (Blk (w.alloc (.cells #[.int .i64 A, .int .i64 W, .int .i64 K, .slice p n c] 24)) w.heap.size #[.int .i64 A, .int .i64 W, .int .i64 K, .slice p n c]) := Lib.hid (Blk.new _ _ _)
  go_enter Try.func30, Try.ntmps30
  go_wp2_with fail
  go_loopw [3, 4] (fun v i wr => ∃ k : Nat, k ≤ n ∧ i = .int .i64 k ∧ (∃ q c, v = .slice q ((L.take k).flatten.length) c ∧ wr.ownsRow (w.heap.size + 1) 30 4 v ((L.take k).flatten.length) (lnC (L.take k).flatten)) ∧ Blk wr w.heap.size #[.int .i64 A, .int .i64 W, .int .i64 K, .slice p n c] ∧ Below w.heap.size w wr) (fun _ i _ => n - (intOf i).toNat)
  case atStart => exact ⟨0, Nat.zero_le _, rfl, ⟨none, 0, rfl, World.ownsRow_nil _ _ _ _⟩, HA0.out, HB0.out⟩
  case round =>
    obtain ⟨j, hj, rfl, ⟨q', c', rfl, ho⟩, ha, hb⟩ := hrel
    clear HA0 HB0
    have HO := Lib.hid ho
    have HAA := Lib.hid ha
    have HB := Lib.hid hb
    clear ho hb ha
    have kA := HAA.out.c
    by_cases hjl : j < n
    · have hT2 := HTL.out (j + 1) (by omega)
      obtain ⟨b, off, q2, x, cx, rfl, hat⟩ := HH.out.setAt j hjl
      obtain ⟨lt, cell, len, lm, cap, x100⟩ := hat.below HB.out
      have HX : Hid (L.getD j [] = C.lines.getD j []) := Lib.hid (by rw [HLE.out])
      obtain ⟨l, hl⟩ : ∃ l, l = C.lines.getD j [] := ⟨_, rfl⟩
      rw [← hl] at len lm HX
      have HSL : Hid (Sl wr q2 x (lnC l)) := Lib.hid (by rw [← len]; exact lm.sl)
      have HSF : Hid ((L.take (j + 1)).flatten = (L.take j).flatten ++ l) := Lib.hid (by rw [HST.out j hjl, HX.out])
      have HLL := Lib.hid len
      have hbd : (L.take j).flatten.length + x ≤ 10000 := by
        have := hT2
        rw [HSF.out, List.length_append, len] at this
        exact this
      clear len lm hl hT2 hat
      obtain ⟨F, hF⟩ : ∃ F, F = (L.take j).flatten := ⟨_, rfl⟩
      rw [← hF] at HSF HO hbd ⊢
      clear hF
      have hFl : F.length ≤ 10000 := by omega
      go_wp2_with (first
        | (at_builtin; refine wpList_append_sl rfl _ _ 28 rfl (w.heap.size + 1) 30 i0 _ 4 32 Try.underlying28 HI.out.1 HI.out.2.1 HI.out.2.2.1 HI.out.2.2.2 rfl (by decide) _ F.length (lnC F) rfl HO.out q2 x cx (lnC l) rfl (by rw [lnC_len, HLL.out]) HSL.out (lnC_one _) (by unfold maxLen; omega) (by omega) (by have := HAA.out.lt; omega) ?_))
      intro v' w' g1 g2 g3
      have HO2 : Hid (w'.ownsRow (w.heap.size + 1) 30 4 v' (L.take (j + 1)).flatten.length (lnC (L.take (j + 1)).flatten)) := Lib.hid (by
        rw [HSF.out, List.length_append, lnC_app, HLL.out]; exact g1)
      have HA2 := Lib.hid (HAA.out.grown g2 (fun e => by have := (HO.out.lt _ e).1; omega))
      have HB2 : Hid (Below w.heap.size w w') := Lib.hid (HB.out.grown g2 HB.out.size (fun b hb => by have := (HO.out.lt b hb).1; omega))
      obtain ⟨q3, c3, rfl⟩ := own_sl HO2.out
      clear g1 g2 g3 kA
      go_wp2_with fail
      go_roundw
      case rel => exact ⟨j + 1, by omega, by go_num, ⟨_, _, rfl, HO2.out⟩, HA2.out, HB2.out⟩
      case measure => simp [intOf]; omega
    · have hjn : j = n := by omega
      have hF : (L.take j).flatten = L.flatten := by rw [hjn, ← HZ.out, List.take_length]
      rw [hF] at HO ⊢
      clear hF hjn
      go_wp2_with fail
      go_ret
      exact ⟨_, rfl, own_base HO.out (by omega), HB.out⟩
end Go.Proofs.Ytoddmgaihggkjaa
