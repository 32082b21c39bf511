/- The document's own: whether a number is an interval, whether a gate is right, all that was told, and what is below; no condition but that they read. -/
import Derived.Test.YteffmidpinlpjaaCmK
import Derived.Test.YteffmidpinlpjaaCmJ
namespace Go.Proofs.Yteffmidpinlpjaa
set_option linter.unusedVariables false
set_option linter.unusedSimpArgs false
open Go.ChangeShapes Go.WideShapes Go.ChangeAt Go.RowKit

set_option maxHeartbeats 1000000 in
theorem rspan_any (n : Int) (w : World) : Calls Try.prog 22 #[.int .i64 n] w fun e w' => e = .returned (.bool (spanB n)) ∧ w = w' := by
  have HM : Hid (spanB n = (decide (0 ≤ n) && decide (n ≤ 1099511627776))) := Lib.hid rfl
  obtain ⟨r, hr⟩ : ∃ r, r = spanB n := ⟨_, rfl⟩
  rw [← hr] at HM ⊢
  clear hr
  obtain ⟨b1, d1⟩ : ∃ b, decide (0 ≤ n) = b := ⟨_, rfl⟩
  obtain ⟨b2, d2⟩ : ∃ b, decide (n ≤ 1099511627776) = b := ⟨_, rfl⟩
  cases b1 <;> cases b2
  all_goals
    go_enter Try.func22, Try.ntmps22
    go_wp2_with fail
    go_ret
    exact ⟨by rw [HM.out, d1, d2]; rfl, rfl⟩

theorem fit_step {l : List Hd} {k : Nat} (hk : k < l.length) : fitB (l.take k) (l.getD k zH) = (spanB (l.getD k zH).span && !(decide (0 < k) && decide ((l.getD k zH).span < (l.getD (k - 1) zH).span))) := by
  unfold fitB lateB lastH
  rw [List.length_take, Nat.min_eq_left (by omega)]
  cases k with
  | zero => rfl
  | succ k => rw [getD_take l zH (k + 1) (k + 1 - 1) (by omega)]

set_option maxHeartbeats 4000000 in
set_option maxRecDepth 100000 in
theorem rright_any (S : Nat → Prop) (v : Value) (L : Gt) (w : World) (h : Lo S w v L) : Calls Try.prog 15 #[v] w fun e w' => e = .returned (.bool (rightG L)) ∧ Below w.heap.size w w' := by
  obtain ⟨p, n, c, q, m, d, rfl, hc, -⟩ := h
  have hn := hc.m10
  have HM : Hid (rightG L = (decide (n ≤ 64) && allB L.held n)) := Lib.hid (by unfold rightG; rw [hc.ml])
  obtain ⟨l, hl⟩ : ∃ l, l = L.held := ⟨_, rfl⟩
  have hll : l.length = n := by rw [hl]; exact hc.ml
  have hsl : Sl w p n (hdC l) := by rw [hl]; exact hc.ms
  rw [← hl] at HM
  have HAT : Hid (∀ k, k < n → ∃ b off, p = some ⟨b, off, none⟩ ∧ HdAt w b off k (l.getD k zH)) := Lib.hid (fun k hk => hd_at hsl hll k hk)
  have HFS : Hid (∀ k, k < n → fitB (l.take k) (l.getD k zH) = (spanB (l.getD k zH).span && !(decide (0 < k) && decide ((l.getD k zH).span < (l.getD (k - 1) zH).span)))) := Lib.hid (fun k hk => fit_step (by omega))
  have HYES : Hid (n ≤ 64 → (∀ j, j < n → fitB (l.take j) (l.getD j zH) = true) → rightG L = true) := Lib.hid (fun h1 h => by rw [HM.out, decide_eq_true h1, allB_iff.2 h]; rfl)
  have HNO : Hid (∀ j, j < n → fitB (l.take j) (l.getD j zH) = false → rightG L = false) := Lib.hid (fun j hj h => by
    rw [HM.out]
    cases e : allB l n with
    | false => simp
    | true => rw [allB_iff.1 e j hj] at h; cases h)
  have HBIG : Hid (64 < n → rightG L = false) := Lib.hid (fun h => by rw [HM.out, decide_eq_false (show ¬ n ≤ 64 by omega)]; rfl)
  obtain ⟨r, hr⟩ : ∃ r, r = rightG L := ⟨_, rfl⟩
  rw [← hr] at HYES HNO HBIG ⊢
  clear hr hc hll hsl hl HM
  have HK0 : Hid (Blk (w.alloc (.cells #[.slice p n c, .slice q m d] 25)) w.heap.size #[.slice p n c, .slice q m d]) := Lib.hid (Blk.new _ _ _)
  have HB0 : Hid (Below w.heap.size w (w.alloc (.cells #[.slice p n c, .slice q m d] 25))) := Lib.hid ((Below.refl _ _).alloc (Nat.le_refl _) _)
  obtain ⟨w0, hw0⟩ : ∃ w0, w0 = w.alloc (.cells #[.slice p n c, .slice q m d] 25) := ⟨_, rfl⟩
  rw [← hw0] at HK0 HB0
  have HW0 := Lib.hid hw0
  clear hw0
  go_enter Try.func15, Try.ntmps15
  go_upto_region 1 with fail
  rw [← HW0.out]
  clear HW0
  go_wp2_with fail
  go_loopw [3] (fun s3 wr => ∃ k : Nat, k ≤ n ∧ k ≤ 64 ∧ s3 = .int .i64 k ∧ Hid (∀ j, j < k → fitB (l.take j) (l.getD j zH) = true) ∧ Below w0.heap.size w0 wr) (fun s3 _ => n - (intOf s3).toNat)
  case atStart => exact ⟨0, Nat.zero_le _, by omega, rfl, Lib.hid (fun j hj => absurd hj (Nat.not_lt_zero _)), Below.refl _ _⟩
  case round =>
    obtain ⟨k, hk, hk64, rfl, HALL, hb⟩ := hrel
    have HB := Lib.hid hb
    have HK := Lib.hid (HK0.out.below hb)
    have HBW : Hid (Below w.heap.size w wr) := Lib.hid (HB0.out.trans (hb.mono HB0.out.size))
    clear hb
    have kA := HK.out.c
    by_cases hlt : k < n
    · have hkI : decide ((k : Int) < (n : Int)) = true := decide_eq_true (by omega)
      by_cases h63 : 63 < k
      · have e1 : decide ((63 : Int) < (k : Int)) = true := decide_eq_true (by omega)
        have e1n : decide (63 < k) = true := decide_eq_true h63
        have HR := Lib.hid (HBIG.out (by omega))
        clear h63
        go_upto_region 4 with fail
        go_quiet (fail)
        go_wp2_with fail
        go_ret
        exact ⟨by rw [HR.out]; rfl, drewN_below HBW.out _⟩
      · have e1 : decide ((63 : Int) < (k : Int)) = false := decide_eq_false (by omega)
        have e1n : decide (63 < k) = false := decide_eq_false h63
        obtain ⟨b, off, rfl, hat⟩ := HAT.out k hlt
        obtain ⟨l0, c0, c1, c2⟩ := hat.below HBW.out
        have HFK := Lib.hid (HFS.out k hlt)
        have HNK := Lib.hid (HNO.out k hlt)
        have HPP : Hid (0 < k → wr.cell? ⟨b, off + (k - 1) * 3 + 2, none⟩ = some (.int .i64 (l.getD (k - 1) zH).span)) := Lib.hid (fun h0 => by
          obtain ⟨g2, o2, e, h2⟩ := HAT.out (k - 1) (by omega)
          injection e with e
          injection e with e1 e2
          subst e1 e2
          exact (h2.below HBW.out).c2)
        obtain ⟨ps, hps⟩ : ∃ z, z = (l.getD (k - 1) zH).span := ⟨_, rfl⟩
        rw [← hps] at HPP HFK
        have HFT : Hid (fitB (l.take k) (l.getD k zH) = true → ∀ j, j < k + 1 → fitB (l.take j) (l.getD j zH) = true) := Lib.hid (fun h j hj => by
          by_cases e : j = k
          · rw [e]; exact h
          · exact HALL.out j (by omega))
        obtain ⟨F, hF⟩ : ∃ z, z = fitB (l.take k) (l.getD k zH) := ⟨_, rfl⟩
        rw [← hF] at HFK HNK HFT
        obtain ⟨y, hy⟩ : ∃ y, y = l.getD k zH := ⟨_, rfl⟩
        rw [← hy] at c0 c1 c2 HFK
        obtain ⟨⟨yc, yv⟩, ys⟩ := y
        dsimp only at c0 c1 c2 HFK
        obtain ⟨g1, hg1⟩ : ∃ g, spanB ys = g := ⟨_, rfl⟩
        have HSP := Lib.hid (fun W => rspan_any ys W)
        rw [hg1] at HSP HFK
        have hkI1 : (0 : Int) ≤ (k : Int) := by omega
        have hkI2 : (k : Int) < (n : Int) := by omega
        have hk64' : k < 64 := by omega
        clear hat hg1 hy hF hps h63
        cases g1 with
        | false =>
          have HR := Lib.hid (HNK.out (by rw [HFK.out]; rfl))
          clear HFK HNK HFT HPP
          go_upto_region 4 with fail
          go_quiet (first | (go_at_call 22; exact Calls.quiet_of_same ((HSP.out _).mono fun e w2 ⟨a1, a2⟩ => ⟨a1, a2.symm⟩)))
          go_wp2_with fail
          go_ret
          exact ⟨by rw [HR.out]; rfl, drewN_below HBW.out _⟩
        | true =>
          by_cases h0 : 0 < k
          · have x1 : decide ((0 : Int) < (k : Int)) = true := decide_eq_true (by omega)
            have x1n : decide (0 < k) = true := decide_eq_true h0
            obtain ⟨j, hj⟩ : ∃ j, j = k - 1 := ⟨_, rfl⟩
            have f1 : IntKind.i64.wrap ((k : Int) - 1) = (j : Int) := by rw [IntKind.wrap_i64]; omega
            have f2 : wrap64 ((k : Int) - 1) = (j : Int) := by unfold wrap64; omega
            have hjI1 : (0 : Int) ≤ (j : Int) := by omega
            have hjI2 : (j : Int) < (n : Int) := by omega
            have cP : wr.cell? ⟨b, off + j * 3 + 2, none⟩ = some (.int .i64 ps) := by rw [hj]; exact HPP.out h0
            rw [x1n] at HFK
            clear hj HPP
            by_cases b5 : ys < ps
            · have x6 : decide (ys < ps) = true := decide_eq_true b5
              have HR := Lib.hid (HNK.out (by rw [HFK.out, x6]; rfl))
              clear b5 HFK HNK HFT
              go_upto_region 4 with fail
              go_quiet (first | (go_at_call 22; exact Calls.quiet_of_same ((HSP.out _).mono fun e w2 ⟨a1, a2⟩ => ⟨a1, a2.symm⟩)))
              go_wp2_with fail
              go_ret
              exact ⟨by rw [HR.out]; rfl, drewN_below HBW.out _⟩
            · have x6 : decide (ys < ps) = false := decide_eq_false b5
              have HR := Lib.hid (HFT.out (by rw [HFK.out, x6]; rfl))
              clear b5 HFK HNK HFT
              go_upto_region 4 with fail
              go_quiet (first | (go_at_call 22; exact Calls.quiet_of_same ((HSP.out _).mono fun e w2 ⟨a1, a2⟩ => ⟨a1, a2.symm⟩)))
              go_wp2_with fail
              go_roundw
              case rel => exact ⟨k + 1, by omega, by omega, by go_num, Lib.hid HR.out, drewN_below HB.out _⟩
              case measure => simp [intOf]; omega
          · have x1 : decide ((0 : Int) < (k : Int)) = false := decide_eq_false (by omega)
            have x1n : decide (0 < k) = false := decide_eq_false h0
            rw [x1n] at HFK
            have HR := Lib.hid (HFT.out (by rw [HFK.out]; rfl))
            clear h0 HFK HNK HFT HPP
            go_upto_region 4 with fail
            go_quiet (first | (go_at_call 22; exact Calls.quiet_of_same ((HSP.out _).mono fun e w2 ⟨a1, a2⟩ => ⟨a1, a2.symm⟩)))
            go_wp2_with fail
            go_roundw
            case rel => exact ⟨k + 1, by omega, by omega, by go_num, Lib.hid HR.out, drewN_below HB.out _⟩
            case measure => simp [intOf]; omega
    · have hkn : k = n := by omega
      have hkI : ¬ (k : Int) < (n : Int) := by omega
      have HR : Hid (r = true) := Lib.hid (HYES.out (by omega) (fun j hj => HALL.out j (by omega)))
      clear hkn
      go_wp2_with fail
      go_ret
      exact ⟨by rw [HR.out]; rfl, HBW.out⟩
end Go.Proofs.Yteffmidpinlpjaa
