/- The document's own: all lines of a cache; no condition but that it reads. -/
import Derived.Test.YtoddmgaihggkjaaCacheRj
import Derived.Test.YtoddmgaihggkjaaCacheQ
import Derived.Test.YtoddmgaihggkjaaCacheNum3
namespace Go.Proofs.Ytoddmgaihggkjaa
set_option linter.unusedVariables false
open Go.ChangeShapes Go.WideShapes Go.ChangeAt Go.RowKit

/-- How far the list of all lines has come: what is out, what is left. -/
structure Go1 (F D R : List Ln) : Prop where
  pm : (D ++ R).Perm F
  so : D.Pairwise fun a b => a.addr ≤ b.addr
  le : ∀ x ∈ D, ∀ y ∈ R, x.addr ≤ y.addr
theorem Go1.step {F D R : List Ln} {i : Nat} (h : Go1 F D R) (hi : i < R.length) (hm : ∀ j, j < R.length → (R.getD i zL).addr ≤ (R.getD j zL).addr) : Go1 F (D ++ [R.getD i zL]) (R.eraseIdx i) := by
  have hp := perm_getD hi
  have hmem : ∀ y ∈ R.eraseIdx i, y ∈ R := fun y hy => hp.mem_iff.2 (List.mem_cons_of_mem _ hy)
  refine ⟨?_, ?_, fun x hx y hy => ?_⟩
  · rw [List.append_assoc]
    exact (hp.symm.append_left D).trans h.pm
  · rw [List.pairwise_append]
    refine ⟨h.so, List.pairwise_singleton _ _, fun x hx y hy => ?_⟩
    rw [List.mem_singleton] at hy
    rw [hy]
    exact h.le x hx _ (mem_getD _ _ _ hi)
  · rcases List.mem_append.1 hx with hx | hx
    · exact h.le x hx y (hmem y hy)
    · rw [List.mem_singleton] at hx
      obtain ⟨j, hj, rfl⟩ := mem_idx _ zL y (hmem y hy)
      rw [hx]
      exact hm j hj
theorem Go1.done {F D : List Ln} (h : Go1 F D []) (ha : F.Pairwise Two) : D = sortA F :=
  sort_one ha (by have := h.pm; rwa [List.append_nil] at this) h.so
theorem Go1.len {F D R : List Ln} (h : Go1 F D R) : D.length + R.length = F.length := by
  rw [← List.length_append]; exact h.pm.length_eq
theorem Lm.grown {w w' : World} {p : Option Addr} {l : List Ln} {row : Option Nat} (h : Lm w p l) (g : w.grownBy w' row) (hne : 0 < l.length → ∀ a, p = some a → row ≠ some a.block) : Lm w' p l := fun h0 => by
  obtain ⟨b, off, h1, h2, h3⟩ := h h0
  exact ⟨b, off, Nat.lt_of_lt_of_le h1 g.size, h2, fun k hk j hj => by rw [World.cell?_of_block (g.block b h1 (fun e => hne h0 _ h2 e.symm))]; exact h3 k hk j hj⟩
def slLen : Value → Nat
  | .slice _ n _ => n
  | _ => 0

set_option maxHeartbeats 4000000 in
set_option maxRecDepth 100000 in
theorem refall_any (S : Nat → Prop) (v : Value) (C : Ch) (w : World) (h : Co S w v C) : Calls Try.prog 12 #[v] w fun e w' => ∃ p c, e = .returned (.slice p (allC C).length c) ∧ (allC C).length ≤ c ∧ Lm w' p (allC C) ∧ Below w.heap.size w w' := by
  have HR := Lib.hid (fun W hW => refright_any S v C W (h.below (w := w) (w' := W) hW))
  obtain ⟨p, n, c, xs, rfl, hc, -⟩ := h
  have HCC := Lib.hid (fun W hW => flat_any p n c xs C W (hc.below (w := w) (w' := W) hW))
  have HFL : Hid (C.lines.flatten.length ≤ 10000) := Lib.hid (by
    have h1 := hc.zn
    have h2 := hc.n100
    have := tot_le C.lines n (by omega) (by omega) hc.l100
    rw [← h1, List.take_length] at this
    omega)
  obtain ⟨L, hL⟩ : ∃ x, x = allC C := ⟨_, rfl⟩
  rw [← hL]
  have HNO : Hid (rightC C = false → L = []) := Lib.hid (fun h => by rw [hL]; unfold allC; rw [h]; rfl)
  have HYES : Hid (rightC C = true → C.lines.flatten.Pairwise Two ∧ L = sortA C.lines.flatten) := Lib.hid (fun h => ⟨(right_rt h).ap, by rw [hL]; unfold allC; rw [h]; rfl⟩)
  obtain ⟨F, hF⟩ : ∃ F, F = C.lines.flatten := ⟨_, rfl⟩
  rw [← hF] at HCC HFL HYES
  obtain ⟨r, hr⟩ : ∃ x, x = rightC C := ⟨_, rfl⟩
  rw [← hr] at HR HNO HYES
  clear hF hL hr hc
  obtain ⟨A, W, K, hA, hW, hK⟩ : ∃ A W K, A = C.sets ∧ W = C.ways ∧ K = C.clock := ⟨_, _, _, rfl, rfl, rfl⟩
  rw [← hA, ← hW, ← hK] at HR HCC ⊢
  clear hA hW hK
  obtain ⟨w0, hw0⟩ : ∃ w0, w0 = w.alloc (.cells #[.int .i64 A, .int .i64 W, .int .i64 K, .slice p n c] 24) := ⟨_, rfl⟩
  have HB0 : Hid (Below w.heap.size w w0) := Lib.hid (by rw [hw0]; exact (Below.refl _ _).alloc (Nat.le_refl _) _)
  have HA0 : Hid (Blk w0 w.heap.size #[.int .i64 A, .int .i64 W, .int .i64 K, .slice p n c]) := Lib.hid (by rw [hw0]; exact Blk.new _ _ _)
  have HQ := Lib.hid (HR.out w0 HB0.out)
  have HW0 := Lib.hid hw0
  clear HR hw0
  go_enter Try.func12, Try.ntmps12
  have kA := HA0.out.c
  go_upto_region 1 with fail
  rw [← HW0.out]
  clear HW0
  go_wp2_with fail
  refine HQ.out.mono ?_
  rintro e w1 ⟨rfl, hb1⟩
  have HA1 := Lib.hid (HA0.out.below hb1)
  have HB1 : Hid (Below w.heap.size w w1) := Lib.hid (HB0.out.trans (hb1.mono HB0.out.size))
  clear hb1 HA0 HB0 HQ kA
  have kA := HA1.out.c
  cases r with
  | false =>
    have e1 := HNO.out rfl
    subst e1
    clear HNO HYES HCC HFL
    go_wp2_with fail
    go_ret
    exact ⟨none, 0, rfl, Nat.le_refl _, fun h => absurd h (by decide), HB1.out⟩
  | true =>
    obtain ⟨hap, hLL⟩ := HYES.out rfl
    have HAP := Lib.hid hap
    subst hLL
    clear HNO HYES hap
    have hQ := HCC.out w1 HB1.out
    have HQ := Lib.hid hQ
    clear hQ HCC
    go_wp2_with fail
    refine HQ.out.mono ?_
    rintro e w2 ⟨v, rfl, hv, hb2⟩
    obtain ⟨q, cq, rfl, hcq, hlq⟩ := hv.lv
    have HLQ := Lib.hid hlq
    have HCQ := Lib.hid hcq
    have HB2 : Hid (Below w.heap.size w w2) := Lib.hid (HB1.out.trans (hb2.mono HB1.out.size))
    have hs2 : w.heap.size + 1 ≤ w2.heap.size := by have := HA1.out.lt; have := hb2.size; omega
    have HSZ := Lib.hid hs2
    obtain ⟨i0, hi, hz0, hz1, hz2⟩ := info_parts info30
    have HI := Lib.hid (And.intro hi (And.intro hz0 (And.intro hz1 hz2)))
    clear hv hb2 hlq hcq kA HQ HA1 HB1 hs2 hi hz0 hz1 hz2
    go_wp2_with fail
    go_loopw [3, 4] (fun lv ov wr => ∃ D R, Go1 F D R ∧ (∃ q c, lv = .slice q R.length c ∧ R.length ≤ c ∧ Lm wr q R) ∧ (∃ q c, ov = .slice q D.length c ∧ wr.ownsRow (w.heap.size + 1) 30 4 ov D.length (lnC D)) ∧ (0 < R.length → ∀ q n c, lv = .slice q n c → ∀ a, q = some a → ov.ownBlock ≠ some a.block) ∧ Below w.heap.size w wr ∧ w.heap.size + 1 ≤ wr.heap.size) (fun lv _ _ => slLen lv)
    case atStart => exact ⟨[], F, ⟨List.Perm.refl _, List.Pairwise.nil, fun x hx => absurd hx List.not_mem_nil⟩, ⟨_, _, rfl, HCQ.out, HLQ.out⟩, ⟨none, 0, rfl, World.ownsRow_nil _ _ _ _⟩, fun _ _ _ _ _ a _ e => by simp [Value.ownBlock] at e, HB2.out, HSZ.out⟩
    case round =>
      obtain ⟨D, R, hgo, ⟨q1, c1, rfl, hc1, hl1⟩, ⟨q2, c2, rfl, ho⟩, hsep, hb, hsz⟩ := hrel
      clear HLQ HCQ HB2 HSZ
      have HGO := Lib.hid hgo
      have HL1 := Lib.hid hl1
      have HC1 := Lib.hid hc1
      have HO := Lib.hid ho
      have HSEP := Lib.hid (fun h0 => hsep h0 q1 _ c1 rfl)
      have HB := Lib.hid hb
      have HSZ := Lib.hid hsz
      have hlen := hgo.len
      have hfl := HFL.out
      clear hgo hl1 hc1 ho hb hsz hsep
      obtain ⟨x, hx⟩ : ∃ x, x = R.length := ⟨_, rfl⟩
      obtain ⟨m, hm⟩ : ∃ m, m = D.length := ⟨_, rfl⟩
      rw [← hx] at HC1 hlen ⊢
      rw [← hm] at HO hlen HSEP ⊢
      have HX := Lib.hid hx
      have HM := Lib.hid hm
      have hxm : x ≤ 10000 ∧ m + x ≤ 10000 := by omega
      clear hx hm hlen hfl
      by_cases h0 : 0 < x
      · have h0I : decide ((0 : Int) < (x : Int)) = true := decide_eq_true (by omega)
        obtain ⟨wo, hwo⟩ : ∃ z, z = wr := ⟨_, rfl⟩
        rw [← hwo] at HL1 HO HB HSZ ⊢
        clear hwo
        go_wp2_with fail
        go_loopw [5, 6] (fun s5 s6 WQ => ∃ t i : Nat, s5 = .int .i64 t ∧ s6 = .int .i64 i ∧ t < x ∧ i ≤ x ∧ (∀ j, j < i → (R.getD t zL).addr ≤ (R.getD j zL).addr) ∧ Below wo.heap.size wo WQ) (fun _ s6 _ => x - (intOf s6).toNat)
        case atStart => exact ⟨0, 1, rfl, rfl, h0, h0, fun j hj => by
          have : j = 0 := by omega
          rw [this]; exact Int.le_refl _, Below.refl _ _⟩
        case round =>
          obtain ⟨t, i, rfl, rfl, ht, hi, hle, hbv⟩ := hrel
          have HLE := Lib.hid hle
          have HBV := Lib.hid hbv
          clear hle hbv
          by_cases hix : i < x
          · have hiI : (i : Int) < (x : Int) := by omega
            have htI : (t : Int) < (x : Int) := by omega
            obtain ⟨b1, o1, rfl, h1⟩ := HL1.out.at_ i (by rw [← HX.out]; exact hix)
            obtain ⟨b2, o2, e2, h2⟩ := HL1.out.at_ t (by rw [← HX.out]; exact ht)
            injection e2 with e2
            injection e2 with e3 e4 _
            subst e3 e4
            obtain ⟨l0, k0, k1, k2, k3⟩ := h1.below HBV.out
            obtain ⟨_, d0, d1, d2, d3⟩ := h2.below HBV.out
            obtain ⟨y, hy⟩ : ∃ y, y = R.getD i zL := ⟨_, rfl⟩
            obtain ⟨z, hz⟩ : ∃ y, y = R.getD t zL := ⟨_, rfl⟩
            rw [← hy] at k0 k1 k2 k3
            rw [← hz] at d0 d1 d2 d3
            have HY := Lib.hid hy
            have HZ := Lib.hid hz
            clear hy hz h1 h2 h0I
            go_upto_region 10 with fail
            refine region_plan (fun V : World => V = wr.drew) 10 [(0, true), (1, true), (2, true), (3, true), (4, true), (5, true), (6, true), (7, true), (8, true), (9, true)] (by kernel_rfl) (by kernel_rfl) rfl ?_
            iterate 10
              refine plan_read (v := ?_) rfl (by rfl) ?_ ?_
              rotate_left
              · intro w' hS
                try dsimp only at hS
                go_simp
                try with_reducible rfl
              try simp only [Act.put, List.setIfInBounds_toArray, List.set_cons_zero, List.set_cons_succ, List.getElem_toArray, List.getElem_cons_zero, List.getElem_cons_succ]
            refine plan_nil ?_
            simp only [List.drop_succ_cons, List.drop_zero]
            by_cases hlt : y.addr < z.addr
            · have hq : decide (y.addr < z.addr) = true := decide_eq_true hlt
              have HLT := Lib.hid hlt
              clear hlt
              go_wp2_with fail
              go_roundw
              case rel => exact ⟨i, i + 1, rfl, by go_num, hix, by omega, fun j hj => by
                rw [← HY.out]
                by_cases e : j = i
                · rw [e, ← HY.out]; exact Int.le_refl _
                · have := HLE.out j (by omega)
                  rw [← HZ.out] at this
                  have := HLT.out
                  omega, drewN_below HBV.out 1⟩
              case measure => simp [intOf]; omega
            · have hq : decide (y.addr < z.addr) = false := decide_eq_false hlt
              have HLT := Lib.hid hlt
              clear hlt
              go_wp2_with fail
              go_roundw
              case rel => exact ⟨t, i + 1, rfl, by go_num, ht, by omega, fun j hj => by
                by_cases e : j = i
                · rw [e, ← HY.out, ← HZ.out]; have := HLT.out; omega
                · exact HLE.out j (by omega), drewN_below HBV.out 1⟩
              case measure => simp [intOf]; omega
          · have hie : i = x := by omega
            subst hie
            have htI : (t : Int) < (i : Int) := by omega
            have HST := Lib.hid (HGO.out.step (by rw [← HX.out]; exact ht) (fun j hj => HLE.out j (by rw [HX.out]; exact hj)))
            have HEX : Hid ((R.eraseIdx t).length < i ∧ (D ++ [R.getD t zL]).length = m + 1) := Lib.hid ⟨by
              have := List.length_eraseIdx_of_lt (l := R) (i := t) (by rw [← HX.out]; exact ht)
              rw [this, ← HX.out]; omega, by rw [List.length_append, ← HM.out]; rfl⟩
            obtain ⟨b1, o1, rfl, h1⟩ := HL1.out.at_ t (by rw [← HX.out]; exact ht)
            obtain ⟨l0, k0, k1, k2, k3⟩ := h1.below HBV.out
            have HTL : Hid (t < R.length) := Lib.hid (by rw [← HX.out]; exact ht)
            obtain ⟨⟨ya, ys, yv, yu⟩, hy⟩ : ∃ y, y = R.getD t zL := ⟨_, rfl⟩
            rw [← hy] at k0 k1 k2 k3 HST HEX
            dsimp only at k0 k1 k2 k3
            have HBR : Hid (Below w.heap.size w wr) := Lib.hid (HB.out.trans (HBV.out.mono HB.out.size))
            have HOV := Lib.hid (own_below HO.out HBV.out)
            have hsv : w.heap.size + 1 ≤ wr.heap.size := by have := HSZ.out; have := HBV.out.size; omega
            have HSL : Hid (Sl (wr.alloc (.cells #[.int .i64 ya, .int .i64 ys, .int .u32 (yv : Int), .int .i64 yu] 30)) (some ⟨wr.heap.size, 0, none⟩) 1 (lnC [⟨ya, ys, yv, yu⟩])) := Lib.hid (fun _ => ⟨wr.heap.size, 0, by simp, rfl, fun j hj => by
              have h1 := (Blk.new wr #[.int .i64 ya, .int .i64 ys, .int .u32 (yv : Int), .int .i64 yu] 30).c j
              rw [Nat.zero_add]
              exact h1.trans Array.getElem?_toList.symm⟩)
            clear h1 hy
            go_wp2_with (first | (at_builtin; refine wpList_append_sl rfl _ _ 28 rfl (w.heap.size + 1) 30 i0 _ 4 32 Try.underlying28 HI.out.1 HI.out.2.1 HI.out.2.2.1 HI.out.2.2.2 rfl (by decide) _ m (lnC D) rfl (own_below HOV.out ((Below.refl _ _).alloc (Nat.le_refl _) _)) (some ⟨wr.heap.size, 0, none⟩) 1 1 (lnC [⟨ya, ys, yv, yu⟩]) rfl rfl HSL.out (lnC_one _) (by unfold maxLen; omega) (by omega) (by simp; omega) ?_))
            intro v' w3 g1 g2 g3
            obtain ⟨q6, c6, rfl, -⟩ := own_cap g1
            have HO3 : Hid (w3.ownsRow (w.heap.size + 1) 30 4 (.slice q6 (m + 1) c6) (m + 1) (lnC (D ++ [⟨ya, ys, yv, yu⟩]))) := Lib.hid (by rw [lnC_app]; exact g1)
            have HB3 : Hid (Below w.heap.size w w3) := Lib.hid ((HBR.out.alloc HBR.out.size _).grown g2 (by simp; omega) (fun k hk => by have := (HOV.out.lt k hk).1; omega))
            have HL3 : Hid (Lm w3 (some ⟨b1, o1, none⟩) R) := Lib.hid (((HL1.out.below HBV.out).below ((Below.refl _ _).alloc (Nat.le_refl _) _)).grown g2 HSEP.out)
            have HWO : Hid (Calls Try.prog 31 #[.slice (some ⟨b1, o1, none⟩) i c1, .int .i64 (t : Int)] w3 fun e w' => ∃ v, e = .returned v ∧ Lw w3.heap.size w' v (R.eraseIdx t) ∧ Below w3.heap.size w3 w') := Lib.hid (by
              have := without_any b1 o1 c1 R t w3 HL3.out HTL.out (by rw [← HX.out]; exact HC1.out) (by rw [← HX.out]; omega)
              rw [← HX.out] at this
              exact this)
            have hs3 : w.heap.size + 1 ≤ w3.heap.size := by have := g2.size; simp at this; omega
            have HS3 := Lib.hid hs3
            clear g1 g2 g3 HL1 HSEP HO HB HSL HL3 HOV hs3 k0 k1 k2 k3 l0 HBR HBV hsv h0I
            go_wp2_with fail
            refine HWO.out.mono ?_
            rintro e w4 ⟨v7, rfl, hv7, hb4⟩
            have HLV := Lib.hid hv7.lv
            have HOW := Lib.hid hv7
            obtain ⟨q7, c7, rfl, hc7⟩ := own_cap hv7
            have HC7 := Lib.hid hc7
            have HL7 : Hid (Lm w4 q7 (R.eraseIdx t)) := Lib.hid (by
              obtain ⟨q', c', e, _, hl⟩ := HLV.out
              injection e with e1
              rw [e1]; exact hl)
            have HO4 := Lib.hid (own_below HO3.out hb4)
            have HB4 : Hid (Below w.heap.size w w4) := Lib.hid (HB3.out.trans (hb4.mono HB3.out.size))
            have HS4 : Hid (w.heap.size + 1 ≤ w4.heap.size) := Lib.hid (by have := HS3.out; have := hb4.size; omega)
            have HSP : Hid (0 < (R.eraseIdx t).length → ∀ a, q7 = some a → (Value.slice q6 (m + 1) c6).ownBlock ≠ some a.block) := Lib.hid (fun h0 a e e2 => by
              obtain ⟨g7, h7, -, -, h8, -⟩ := own_go HOW.out h0
              have h9 := (HO3.out.lt _ e2).2
              rw [e] at h7
              injection h7 with h7
              rw [h7] at h9
              have h10 : g7 < w3.heap.size := h9
              omega)
            clear hv7 hc7 hb4 HLV HOW HO3 HB3 HWO
            go_wp2_with fail
            go_roundw
            case rel => exact ⟨D ++ [⟨ya, ys, yv, yu⟩], R.eraseIdx t, HST.out, ⟨q7, c7, rfl, HC7.out, HL7.out⟩, ⟨q6, c6, by rw [HEX.out.2], by rw [HEX.out.2]; exact HO4.out⟩, fun h0 q n c e a e2 => by
              injection e with e
              subst e
              exact HSP.out h0 a e2, HB4.out, HS4.out⟩
            case measure => simp [slLen]; exact HEX.out.1
      · have hx0 : x = 0 := by omega
        subst hx0
        have hR : R = [] := List.eq_nil_of_length_eq_zero HX.out.symm
        subst hR
        have hD := HGO.out.done HAP.out
        have hOL := Lib.hid HO.out
        have h0I : decide ((0 : Int) < ((0 : Nat) : Int)) = false := by decide
        go_wp2_with fail
        go_ret
        obtain ⟨q5, c5, e5, hs5⟩ := Sl.own hOL.out
        injection e5 with e6 e7 e8
        obtain ⟨q7, c7, e9, hc9⟩ := own_cap hOL.out
        injection e9 with _ _ e10
        refine ⟨q2, c2, by rw [← hD, ← HM.out]; rfl, by rw [← hD, ← HM.out, e10]; exact hc9, ?_, HB.out⟩
        rw [← hD]
        exact Lm.of_sl (by rw [← HM.out, e6]; exact hs5)
end Go.Proofs.Ytoddmgaihggkjaa
