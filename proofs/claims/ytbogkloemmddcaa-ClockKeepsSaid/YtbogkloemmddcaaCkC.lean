/- Whether a mark may come behind others, whether a clock is right, and may be asked, by the program; no condition but that they read. -/
import Derived.Test.YtbogkloemmddcaaCkB
namespace Go.Proofs.Ytbogkloemmddcaa
set_option linter.unusedVariables false
open Go.ChangeShapes Go.WideShapes Go.ChangeAt Go.RowKit

set_option maxHeartbeats 4000000 in
set_option maxRecDepth 100000 in
theorem fits_any (p : Option Addr) (n c : Nat) (xs : List Mv) (x : Mv) (w : World) (hl : xs.length = n) (hs : Sl w p n (mvC xs)) (hn : n ≤ 10000) (hm : x.cs.length = x.m) :
    Calls Try.prog 19 #[.slice p n c, .agg #[.int .i64 x.span, .int .i64 x.when, .slice x.q x.m x.c]] w fun e w' => e = .returned (.bool (fitB (mksOf xs) x.mk')) ∧ Below w.heap.size w w' := by
  obtain ⟨s, t, q, m, mc, cs⟩ := x
  have hm' : cs.length = m := hm
  have HM : Hid (fitB (mksOf xs) (Mv.mk' ⟨s, t, q, m, mc, cs⟩) = (timeB s && (timeB t && (decide (m ≤ 4) && (decide (n = 0) || (decide ((lastM (mksOf xs)).span < s) && decide ((lastM (mksOf xs)).when < t))))))) := Lib.hid (by
    unfold fitB behind Mv.mk'; rw [mksOf_len, hl, ← hm'])
  have HL : Hid (0 < n → ∃ b off, p = some ⟨b, off, none⟩ ∧ MkAt w b off (n - 1) (xs.getD (n - 1) zV) ∧ (lastM (mksOf xs)).span = (xs.getD (n - 1) zV).span ∧ (lastM (mksOf xs)).when = (xs.getD (n - 1) zV).when) := Lib.hid (fun h0 => by
    obtain ⟨b, off, h1, h2⟩ := mk_at hs hl (n - 1) (by omega)
    refine ⟨b, off, h1, h2, ?_⟩
    unfold lastM
    rw [mksOf_len, hl, mksOf_at]
    exact ⟨rfl, rfl⟩)
  obtain ⟨r, hr⟩ : ∃ r, r = fitB (mksOf xs) (Mv.mk' ⟨s, t, q, m, mc, cs⟩) := ⟨_, rfl⟩
  rw [← hr] at HM ⊢
  obtain ⟨B, hB⟩ : ∃ B, B = lastM (mksOf xs) := ⟨_, rfl⟩
  rw [← hB] at HM HL
  dsimp only
  clear hr hB hs hl hm hm'
  obtain ⟨b1, d1⟩ : ∃ b, timeB s = b := ⟨_, rfl⟩
  obtain ⟨b2, d2⟩ : ∃ b, timeB t = b := ⟨_, rfl⟩
  have D1 := Lib.hid d1
  have D2 := Lib.hid d2
  rw [d1, d2] at HM
  clear d1 d2
  have HK0 : Hid (Blk (w.alloc (.cells #[.int .i64 s, .int .i64 t, .slice q m mc] 32)) w.heap.size #[.int .i64 s, .int .i64 t, .slice q m mc]) := Lib.hid (Blk.new _ _ _)
  have HB0 : Hid (Below w.heap.size w (w.alloc (.cells #[.int .i64 s, .int .i64 t, .slice q m mc] 32))) := Lib.hid ((Below.refl _ _).alloc (Nat.le_refl _) _)
  obtain ⟨w0, hw0⟩ : ∃ w0, w0 = w.alloc (.cells #[.int .i64 s, .int .i64 t, .slice q m mc] 32) := ⟨_, rfl⟩
  rw [← hw0] at HK0 HB0
  have HW0 := Lib.hid hw0
  clear hw0
  go_enter Try.func19, Try.ntmps19
  have kA := HK0.out.c
  go_upto_region 1 with fail
  rw [← HW0.out]
  clear HW0
  go_wp2_with fail
  refine (mayBe_any s w0).mono ?_
  rw [D1.out]
  rintro e w' ⟨rfl, rfl⟩
  cases b1 with
  | false =>
    go_wp2_with fail
    go_ret
    exact ⟨by rw [HM.out]; rfl, HB0.out⟩
  | true =>
    go_wp2_with fail
    refine (mayBe_any t w0).mono ?_
    rw [D2.out]
    rintro e w' ⟨rfl, rfl⟩
    cases b2 with
    | false =>
      go_wp2_with fail
      go_ret
      exact ⟨by rw [HM.out]; rfl, HB0.out⟩
    | true =>
      by_cases hm4 : m ≤ 4
      · have d3 : decide ((4 : Int) < (m : Int)) = false := decide_eq_false (by omega)
        have d3n : decide (4 < m) = false := decide_eq_false (by omega)
        by_cases hn0 : n = 0
        · subst hn0
          go_wp2_with fail
          go_ret
          exact ⟨by rw [HM.out]; simp [hm4], HB0.out⟩
        · have d4 : ((n : Int) == 0) = false := by simp; omega
          obtain ⟨b, off, rfl, hat, e1, e2⟩ := HL.out (by omega)
          obtain ⟨l0, c0, c1, c2⟩ := hat.below (w' := w0) (HB0.out.mono (Nat.le_refl _))
          obtain ⟨y, hy⟩ : ∃ y, y = xs.getD (n - 1) zV := ⟨_, rfl⟩
          rw [← hy] at c0 c1 c2 e1 e2
          obtain ⟨ys, yt, yq, ym, yc, ycs⟩ := y
          dsimp only at c0 c1 c2 e1 e2
          rw [e1, e2] at HM
          obtain ⟨k, hk⟩ : ∃ k, n = k + 1 := ⟨n - 1, by omega⟩
          have hk1 : n - 1 = k := by omega
          rw [hk1] at c0 c1 c2
          have f1 : IntKind.i64.wrap ((n : Int) - 1) = (k : Int) := by rw [IntKind.wrap_i64]; omega
          have f2 : wrap64 ((n : Int) - 1) = (k : Int) := by unfold wrap64; omega
          have hkn : k < n := by omega
          have hkI : (k : Int) < (n : Int) := by omega
          have fK := HK0.out.f
          have lK := HK0.out.lt
          obtain ⟨g1, h1⟩ : ∃ g, decide (ys < s) = g := ⟨_, rfl⟩
          obtain ⟨g2, h2⟩ : ∃ g, decide (yt < t) = g := ⟨_, rfl⟩
          rw [h1, h2] at HM
          have HN0 := Lib.hid hn0
          clear hy hat e1 e2 hk hk1 HL hn0
          cases g1 <;> cases g2
          all_goals
            go_wp2_with fail
            go_ret
            exact ⟨by rw [HM.out, decide_eq_false HN0.out]; simp [hm4], (HB0.out.alloc HB0.out.size _)⟩
      · have d3 : decide ((4 : Int) < (m : Int)) = true := decide_eq_true (by omega)
        have d3n : decide (4 < m) = true := decide_eq_true (by omega)
        go_wp2_with fail
        go_ret
        exact ⟨by rw [HM.out]; simp [hm4], HB0.out⟩
end Go.Proofs.Ytbogkloemmddcaa
