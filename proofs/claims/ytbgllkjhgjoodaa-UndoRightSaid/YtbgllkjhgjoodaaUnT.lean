/- Whether a log is right, by the document's own; no condition but that it reads. -/
import Derived.Test.YtbgllkjhgjoodaaUnN
import Derived.BigQuiet
namespace Go.Proofs.Ytbgllkjhgjoodaa
set_option linter.unusedVariables false
set_option linter.unusedSimpArgs false
open Go.ChangeShapes Go.WideShapes Go.ChangeAt Go.RowKit

/-- Its first i are right. -/
structure Pre (L : Lg) (i : Nat) : Prop where
  fit : ∀ j, j < i → FitU L.mem.length L.span (L.list.getD j zU)
  srt : ∀ j, j + 1 < i → (L.list.getD j zU).span ≤ (L.list.getD (j + 1) zU).span
  ap : ∀ j, j < i → ∀ k, k < j → ApartU (L.list.getD k zU) (L.list.getD j zU)
theorem Pre.zero (L : Lg) : Pre L 0 := ⟨fun j h => absurd h (Nat.not_lt_zero _), fun j h => absurd h (Nat.not_lt_zero _), fun j h => absurd h (Nat.not_lt_zero _)⟩
theorem Pre.succ {L : Lg} {i : Nat} (h : Pre L i) (h1 : FitU L.mem.length L.span (L.list.getD i zU)) (h2 : 0 < i → (L.list.getD (i - 1) zU).span ≤ (L.list.getD i zU).span) (h3 : ∀ k, k < i → ApartU (L.list.getD k zU) (L.list.getD i zU)) : Pre L (i + 1) := by
  refine ⟨fun j hj => ?_, fun j hj => ?_, fun j hj => ?_⟩
  · by_cases e : j = i
    · subst e; exact h1
    · exact h.fit j (by omega)
  · by_cases e : j + 1 = i
    · subst e; exact h2 (by omega)
    · exact h.srt j (by omega)
  · by_cases e : j = i
    · subst e; exact h3
    · exact h.ap j (by omega)
theorem Pre.le {L : Lg} {i : Nat} (h : Pre L i) (a d : Nat) (hd : a + d < i) : (L.list.getD a zU).span ≤ (L.list.getD (a + d) zU).span := by
  induction d with
  | zero => exact Int.le_refl _
  | succ d ih => exact Int.le_trans (ih (by omega)) (h.srt (a + d) (by omega))
theorem Pre.rt {L : Lg} (h : Pre L L.list.length) (h1 : 1 ≤ L.mem.length) (h2 : L.mem.length ≤ 64) (h3 : 0 ≤ L.span) (h4 : L.span ≤ topS) (h5 : L.list.length ≤ 256) : Rt L := by
  refine ⟨h1, h2, h3, h4, h5, fun u hu => ?_, ?_, ?_⟩
  · obtain ⟨j, hj, rfl⟩ := List.getElem_of_mem hu
    rw [get_getD _ zU]
    exact h.fit j hj
  · rw [List.pairwise_iff_getElem]
    intro a b ha hb hab
    rw [get_getD _ zU, get_getD _ zU]
    have := h.le a (b - a) (by omega)
    rwa [show a + (b - a) = b by omega] at this
  · rw [List.pairwise_iff_getElem]
    intro a b ha hb hab
    rw [get_getD _ zU, get_getD _ zU]
    exact h.ap b hb a hab
theorem Rt.fitAt {L : Lg} (h : Rt L) {i : Nat} (hi : i < L.list.length) : FitU L.mem.length L.span (L.list.getD i zU) := h.fit _ (mem_getD _ _ _ hi)
theorem Rt.srtAt {L : Lg} (h : Rt L) {a b : Nat} (hab : a < b) (hb : b < L.list.length) : (L.list.getD a zU).span ≤ (L.list.getD b zU).span := by
  have := List.pairwise_iff_getElem.1 h.sort a b (by omega) hb hab
  rwa [get_getD _ zU, get_getD _ zU] at this
theorem Rt.apAt {L : Lg} (h : Rt L) {a b : Nat} (hab : a < b) (hb : b < L.list.length) : ApartU (L.list.getD a zU) (L.list.getD b zU) := by
  have := List.pairwise_iff_getElem.1 h.ap a b (by omega) hb hab
  rwa [get_getD _ zU, get_getD _ zU] at this

set_option maxHeartbeats 16000000 in
set_option maxRecDepth 100000 in
theorem rright_any (S : Nat → Prop) (v : Value) (L : Lg) (w : World) (h : Lo S w v L) : Calls Try.prog 16 #[v] w fun e w' => e = .returned (.bool (rightL L)) ∧ Below w.heap.size w w' := by
  obtain ⟨p, m, c, q, n, d, rfl, hc, -⟩ := h
  have HC := Lib.hid hc
  have hm := hc.m10
  have hn := hc.n10
  have HML : Hid (L.mem.length = m) := Lib.hid hc.ml
  have HLL : Hid (L.list.length = n) := Lib.hid hc.ll
  have HNO : Hid ((Rt L → False) → rightL L = false) := Lib.hid (fun h => by unfold rightL; exact decide_eq_false h)
  have HYES : Hid (Rt L → rightL L = true) := Lib.hid right_iff.2
  obtain ⟨r, hr⟩ : ∃ z, z = rightL L := ⟨_, rfl⟩
  obtain ⟨s, hs⟩ : ∃ z, z = L.span := ⟨_, rfl⟩
  have HS : Hid (L.span = s) := Lib.hid hs.symm
  rw [← hr] at HNO HYES ⊢
  rw [← hs]
  clear hr hs hc
  go_enter Try.func16, Try.ntmps16
  go_upto_region 1 with fail
  obtain ⟨w1, hw1⟩ : ∃ z, z = w.alloc (.cells #[.slice p m c, .int .i64 s, .slice q n d] 25) := ⟨_, rfl⟩
  have HB1 : Hid (Below w.heap.size w w1) := Lib.hid (by rw [hw1]; exact (Below.refl _ _).alloc (Nat.le_refl _) _)
  have HK1 : Hid (Blk w1 w.heap.size #[.slice p m c, .int .i64 s, .slice q n d]) := Lib.hid (by rw [hw1]; exact Blk.new _ _ _)
  rw [← hw1]
  clear hw1
  have kK := HK1.out.c
  by_cases g1 : m = 0
  · have e1 : ((m : Int) == 0) = true := by rw [beq_iff_eq]; omega
    have HR : Hid (r = false) := Lib.hid (HNO.out fun h => by have h1 := h.m1; have := HML.out; omega)
    go_wp2_with fail
    go_ret
    exact ⟨by rw [HR.out]; rfl, HB1.out⟩
  have e1 : ((m : Int) == 0) = false := by rw [beq_eq_false_iff_ne]; omega
  by_cases g2 : 64 < m
  · have e2 : decide ((64 : Int) < (m : Int)) = true := decide_eq_true (by omega)
    have HR : Hid (r = false) := Lib.hid (HNO.out fun h => by have h1 := h.m64; have := HML.out; omega)
    go_wp2_with fail
    go_ret
    exact ⟨by rw [HR.out]; rfl, HB1.out⟩
  have e2 : decide ((64 : Int) < (m : Int)) = false := decide_eq_false (by omega)
  by_cases g3 : s < 0
  · have e3 : decide (s < 0) = true := decide_eq_true (by omega)
    have HR : Hid (r = false) := Lib.hid (HNO.out fun h => by have h1 := h.s0; have := HS.out; omega)
    go_wp2_with fail
    go_ret
    exact ⟨by rw [HR.out]; rfl, HB1.out⟩
  have e3 : decide (s < 0) = false := decide_eq_false (by omega)
  by_cases g4 : 1099511627776 < s
  · have e4 : decide (1099511627776 < s) = true := decide_eq_true (by omega)
    have HR : Hid (r = false) := Lib.hid (HNO.out fun h => by have h1 := h.st; have := HS.out; unfold topS at h1; omega)
    go_wp2_with fail
    go_ret
    exact ⟨by rw [HR.out]; rfl, HB1.out⟩
  have e4 : decide (1099511627776 < s) = false := decide_eq_false (by omega)
  by_cases g5 : 256 < n
  · have e5 : decide ((256 : Int) < (n : Int)) = true := decide_eq_true (by omega)
    have HR : Hid (r = false) := Lib.hid (HNO.out fun h => by have h1 := h.n256; have := HLL.out; omega)
    go_wp2_with fail
    go_ret
    exact ⟨by rw [HR.out]; rfl, HB1.out⟩
  have e5 : decide ((256 : Int) < (n : Int)) = false := decide_eq_false (by omega)
  go_upto_region 4 with fail
  clear e1 e2 e3 e4 e5 kK
  go_wp2_with fail
  go_loopw [3] (fun s3 wr => ∃ i : Nat, i ≤ n ∧ s3 = .int .i64 i ∧ Pre L i ∧ Below w1.heap.size w1 wr) (fun s3 _ => n - (intOf s3).toNat)
  case atStart => exact ⟨0, Nat.zero_le _, rfl, Pre.zero L, Below.refl _ _⟩
  case round =>
    obtain ⟨i, hi, rfl, hpre, hb⟩ := hrel
    have HPRE := Lib.hid hpre
    have HBR := Lib.hid hb
    have HKR := Lib.hid (HK1.out.below hb)
    have HCR : Hid (Lc wr p m c q n d L) := Lib.hid ((HC.out.below HB1.out).below hb)
    clear hpre hb
    have kK := HKR.out.c
    by_cases hlt : i < n
    · have hiI : decide ((i : Int) < (n : Int)) = true := decide_eq_true (by omega)
      obtain ⟨gu, ou, rfl, hat⟩ := HCR.out.unAt i hlt
      have HPP : Hid (0 < i → wr.cell? ⟨gu, ou + (i - 1) * 3, none⟩ = some (.int .i64 (L.list.getD (i - 1) zU).span) ∧ gu < wr.heap.size) := Lib.hid (fun h0 => by
        obtain ⟨g2, o2, e, h2⟩ := HCR.out.unAt (i - 1) (by omega)
        injection e with e
        injection e with e1 e2
        subst e1 e2
        exact ⟨h2.c0, h2.lt⟩)
      obtain ⟨ps, hps⟩ : ∃ z, z = (L.list.getD (i - 1) zU).span := ⟨_, rfl⟩
      rw [← hps] at HPP
      have HPE : Hid ((L.list.getD (i - 1) zU).span = ps) := Lib.hid hps.symm
      obtain ⟨⟨us, ua, uv⟩, hu⟩ : ∃ u, L.list.getD i zU = u := ⟨_, rfl⟩
      rw [hu] at hat
      have HU := Lib.hid hu
      have c0 := hat.c0
      have c1 := hat.c1
      have c2 := hat.c2
      dsimp only at c0 c1 c2
      have hiI1 : (0 : Int) ≤ (i : Int) := by omega
      have hiI2 : (i : Int) < (n : Int) := by omega
      clear hu hat hps
      go_upto_region 7 with fail
      obtain ⟨g, hg⟩ : ∃ z, z = wr.heap.size := ⟨_, rfl⟩
      obtain ⟨w5, hw5⟩ : ∃ z, z = wr.alloc (.cells #[.int .i64 us, .int .i64 ua, .int .u32 uv] 51) := ⟨_, rfl⟩
      have HB5 : Hid (Below wr.heap.size wr w5) := Lib.hid (by rw [hw5]; exact (Below.refl _ _).alloc (Nat.le_refl _) _)
      have HD5 : Hid (Blk w5 g #[.int .i64 us, .int .i64 ua, .int .u32 uv]) := Lib.hid (by rw [hw5, hg]; exact Blk.new _ _ _)
      have HK5 := Lib.hid (HKR.out.below HB5.out)
      have HC5 := Lib.hid (HCR.out.below HB5.out)
      have HBR5 : Hid (Below w1.heap.size w1 w5) := Lib.hid (HBR.out.trans (HB5.out.mono HBR.out.size))
      have HPS : Hid (0 < i → w5.cell? ⟨gu, ou + (i - 1) * 3, none⟩ = some (.int .i64 ps)) := Lib.hid (fun h0 => (HB5.out.cell (p := ⟨gu, ou + (i - 1) * 3, none⟩) (HPP.out h0).2).trans (HPP.out h0).1)
      rw [← hw5, ← hg]
      clear hw5 hg c0 c1 c2 kK HKR HCR HBR HB5 HPP hiI
      have kK := HK5.out.c
      have kD := HD5.out.c
      go_cut [82] (fun s82 wd => s82 = .bool (decide (us < 0 ∨ s < us ∨ ua < 0 ∨ (m : Int) ≤ ua ∨ (0 < i ∧ us < ps))) ∧ Below w5.heap.size w5 wd)
      case first =>
        by_cases b1 : us < 0
        · have x1 : decide (us < 0) = true := decide_eq_true b1
          have HGO : Hid (decide (us < 0 ∨ s < us ∨ ua < 0 ∨ (m : Int) ≤ ua ∨ (0 < i ∧ us < ps)) = true) := Lib.hid (decide_eq_true (by omega))
          go_quiet (fail)
          go_wp2_with fail
          go_meet
          case rel => exact ⟨by rw [HGO.out], drewN_below (Below.refl _ _) _⟩
        have x1 : decide (us < 0) = false := decide_eq_false b1
        by_cases b2 : s < us
        · have x2 : decide (s < us) = true := decide_eq_true b2
          have HGO : Hid (decide (us < 0 ∨ s < us ∨ ua < 0 ∨ (m : Int) ≤ ua ∨ (0 < i ∧ us < ps)) = true) := Lib.hid (decide_eq_true (by omega))
          go_quiet (fail)
          go_wp2_with fail
          go_meet
          case rel => exact ⟨by rw [HGO.out], drewN_below (Below.refl _ _) _⟩
        have x2 : decide (s < us) = false := decide_eq_false b2
        by_cases b3 : ua < 0
        · have x3 : decide (ua < 0) = true := decide_eq_true b3
          have HGO : Hid (decide (us < 0 ∨ s < us ∨ ua < 0 ∨ (m : Int) ≤ ua ∨ (0 < i ∧ us < ps)) = true) := Lib.hid (decide_eq_true (by omega))
          go_quiet (fail)
          go_wp2_with fail
          go_meet
          case rel => exact ⟨by rw [HGO.out], drewN_below (Below.refl _ _) _⟩
        have x3 : decide (ua < 0) = false := decide_eq_false b3
        by_cases b4 : (m : Int) ≤ ua
        · have x4 : decide ((m : Int) ≤ ua) = true := decide_eq_true b4
          have HGO : Hid (decide (us < 0 ∨ s < us ∨ ua < 0 ∨ (m : Int) ≤ ua ∨ (0 < i ∧ us < ps)) = true) := Lib.hid (decide_eq_true (by omega))
          go_quiet (fail)
          go_wp2_with fail
          go_meet
          case rel => exact ⟨by rw [HGO.out], drewN_below (Below.refl _ _) _⟩
        have x4 : decide ((m : Int) ≤ ua) = false := decide_eq_false b4
        by_cases i0 : 0 < i
        · have x5 : decide ((0 : Int) < (i : Int)) = true := decide_eq_true (by omega)
          obtain ⟨j, hj⟩ : ∃ j, j = i - 1 := ⟨_, rfl⟩
          have f1 : IntKind.i64.wrap ((i : Int) - 1) = (j : Int) := by rw [IntKind.wrap_i64]; omega
          have f2 : wrap64 ((i : Int) - 1) = (j : Int) := by unfold wrap64; omega
          have hjI1 : (0 : Int) ≤ (j : Int) := by omega
          have hjI2 : (j : Int) < (n : Int) := by omega
          have cP : w5.cell? ⟨gu, ou + j * 3, none⟩ = some (.int .i64 ps) := by rw [hj]; exact HPS.out i0
          by_cases b5 : us < ps
          · have x6 : decide (us < ps) = true := decide_eq_true b5
            have HGO : Hid (decide (us < 0 ∨ s < us ∨ ua < 0 ∨ (m : Int) ≤ ua ∨ (0 < i ∧ us < ps)) = true) := Lib.hid (decide_eq_true (by omega))
            clear hj
            go_quiet (fail)
            go_wp2_with fail
            go_meet
            case rel => exact ⟨by rw [HGO.out], drewN_below (Below.refl _ _) _⟩
          · have x6 : decide (us < ps) = false := decide_eq_false b5
            have HGO : Hid (decide (us < 0 ∨ s < us ∨ ua < 0 ∨ (m : Int) ≤ ua ∨ (0 < i ∧ us < ps)) = false) := Lib.hid (decide_eq_false (by omega))
            clear hj
            go_quiet (fail)
            go_wp2_with fail
            go_meet
            case rel => exact ⟨by rw [HGO.out], drewN_below (Below.refl _ _) _⟩
        · have x5 : decide ((0 : Int) < (i : Int)) = false := decide_eq_false (by omega)
          have HGO : Hid (decide (us < 0 ∨ s < us ∨ ua < 0 ∨ (m : Int) ≤ ua ∨ (0 < i ∧ us < ps)) = false) := Lib.hid (decide_eq_false (by omega))
          go_quiet (fail)
          go_wp2_with fail
          go_meet
          case rel => exact ⟨by rw [HGO.out], drewN_below (Below.refl _ _) _⟩
      case rest =>
        obtain ⟨rfl, hb6⟩ := hcut
        have HB6 := Lib.hid hb6
        clear hb6 kK kD
        by_cases hbad : us < 0 ∨ s < us ∨ ua < 0 ∨ (m : Int) ≤ ua ∨ (0 < i ∧ us < ps)
        · rw [decide_eq_true hbad]
          have HR : Hid (r = false) := Lib.hid (HNO.out fun h => by
            have h1 := h.fitAt (i := i) (by rw [HLL.out]; exact hlt)
            have h2 : 0 < i → (L.list.getD (i - 1) zU).span ≤ (L.list.getD i zU).span := fun h0 => h.srtAt (by omega) (by rw [HLL.out]; exact hlt)
            rw [HPE.out, HU.out] at h2
            rw [HU.out, HML.out, HS.out] at h1
            unfold FitU at h1
            dsimp only at h1 h2
            omega)
          clear hbad
          go_wp2_with fail
          go_ret
          exact ⟨by rw [HR.out]; rfl, HB1.out.trans ((HBR5.out.trans (HB6.out.mono HBR5.out.size)).mono HB1.out.size)⟩
        · rw [decide_eq_false hbad]
          have HFIT : Hid (FitU L.mem.length L.span (L.list.getD i zU)) := Lib.hid (by
            rw [HU.out, HML.out, HS.out]
            unfold FitU
            dsimp only
            omega)
          have HSRT : Hid (0 < i → (L.list.getD (i - 1) zU).span ≤ (L.list.getD i zU).span) := Lib.hid (fun h0 => by
            rw [HPE.out, HU.out]
            dsimp only
            omega)
          have HK6 := Lib.hid (HK5.out.below HB6.out)
          have HD6 := Lib.hid (HD5.out.below HB6.out)
          have HC6 := Lib.hid (HC5.out.below HB6.out)
          have HBR6 : Hid (Below w1.heap.size w1 wc) := Lib.hid (HBR5.out.trans (HB6.out.mono HBR5.out.size))
          clear hbad HK5 HD5 HC5 HBR5 HB6 HPS HPE
          obtain ⟨wo, rfl⟩ : ∃ z, z = wc := ⟨_, rfl⟩
          go_wp2_with fail
          go_loopw [5] (fun s5 wr => ∃ k : Nat, k ≤ i ∧ s5 = .int .i64 k ∧ (∀ x, x < k → ApartU (L.list.getD x zU) (L.list.getD i zU)) ∧ Below wo.heap.size wo wr) (fun s5 _ => i - (intOf s5).toNat)
          case atStart => exact ⟨0, Nat.zero_le _, rfl, fun x hx => absurd hx (Nat.not_lt_zero _), Below.refl _ _⟩
          case round =>
            obtain ⟨k, hk, rfl, hap, hb⟩ := hrel
            have HAP := Lib.hid hap
            have HB7 := Lib.hid hb
            have HK7 := Lib.hid (HK6.out.below hb)
            have HD7 := Lib.hid (HD6.out.below hb)
            have HC7 := Lib.hid (HC6.out.below hb)
            have HBR7 : Hid (Below w1.heap.size w1 wr) := Lib.hid (HBR6.out.trans (hb.mono HBR6.out.size))
            clear hap hb
            have kK := HK7.out.c
            have kD := HD7.out.c
            by_cases hki : k < i
            · have hkI : decide ((k : Int) < (i : Int)) = true := decide_eq_true (by omega)
              obtain ⟨g2, o2, e2, hat⟩ := HC7.out.unAt k (by omega)
              injection e2 with e2
              injection e2 with e3 e4
              subst e3 e4
              obtain ⟨⟨xs, xa, xv⟩, hx⟩ : ∃ u, L.list.getD k zU = u := ⟨_, rfl⟩
              rw [hx] at hat
              have HX := Lib.hid hx
              have c0 := hat.c0
              have c1 := hat.c1
              dsimp only at c0 c1
              have hkI1 : (0 : Int) ≤ (k : Int) := by omega
              have hkI2 : (k : Int) < (n : Int) := by omega
              clear hx hat
              go_upto_region 12 with fail
              by_cases y1 : xs = us
              · have x1 : (xs == us) = true := beq_iff_eq.2 y1
                by_cases y2 : xa = ua
                · have x2 : (xa == ua) = true := beq_iff_eq.2 y2
                  have HR : Hid (r = false) := Lib.hid (HNO.out fun h => by
                    have h1 := h.apAt hki (by rw [HLL.out]; exact hlt)
                    rw [HX.out, HU.out] at h1
                    exact h1 ⟨y1, y2⟩)
                  clear y1 y2
                  go_quiet (fail)
                  go_wp2_with fail
                  go_ret
                  exact ⟨by rw [HR.out]; rfl, drewN_below (HB1.out.trans (HBR7.out.mono HB1.out.size)) _⟩
                · have x2 : (xa == ua) = false := beq_eq_false_iff_ne.2 y2
                  have HAN : Hid (ApartU (L.list.getD k zU) (L.list.getD i zU)) := Lib.hid (by rw [HX.out, HU.out]; exact fun h => y2 h.2)
                  clear y1 y2
                  go_quiet (fail)
                  go_wp2_with fail
                  go_roundw
                  case rel => exact ⟨k + 1, by omega, by go_num, fun x hx => (by
                    by_cases e : x = k
                    · rw [e]; exact HAN.out
                    · exact HAP.out x (by omega)), drewN_below HB7.out _⟩
                  case measure => simp [intOf]; omega
              · have x1 : (xs == us) = false := beq_eq_false_iff_ne.2 y1
                have HAN : Hid (ApartU (L.list.getD k zU) (L.list.getD i zU)) := Lib.hid (by rw [HX.out, HU.out]; exact fun h => y1 h.1)
                clear y1
                go_quiet (fail)
                go_wp2_with fail
                go_roundw
                case rel => exact ⟨k + 1, by omega, by go_num, fun x hx => (by
                  by_cases e : x = k
                  · rw [e]; exact HAN.out
                  · exact HAP.out x (by omega)), drewN_below HB7.out _⟩
                case measure => simp [intOf]; omega
            · have hkI : decide ((k : Int) < (i : Int)) = false := decide_eq_false (by omega)
              have HPN : Hid (Pre L (i + 1)) := Lib.hid (HPRE.out.succ HFIT.out HSRT.out (fun x hx => HAP.out x (by omega)))
              go_wp2_with fail
              go_roundw
              case rel => exact ⟨i + 1, by omega, by go_num, HPN.out, HBR7.out⟩
              case measure => simp [intOf]; omega
    · have hiI : decide ((i : Int) < (n : Int)) = false := decide_eq_false (by omega)
      have HR : Hid (r = true) := Lib.hid (HYES.out (by
        have h1 := HPRE.out
        rw [show i = L.list.length by rw [HLL.out]; omega] at h1
        exact h1.rt (by rw [HML.out]; omega) (by rw [HML.out]; omega) (by rw [HS.out]; omega) (by rw [HS.out]; unfold topS; omega) (by rw [HLL.out]; omega)))
      go_wp2_with fail
      go_ret
      exact ⟨by rw [HR.out]; rfl, HB1.out.trans (HBR.out.mono HB1.out.size)⟩
end Go.Proofs.Ytbgllkjhgjoodaa
