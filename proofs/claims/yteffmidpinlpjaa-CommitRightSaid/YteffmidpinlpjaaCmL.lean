/- What is held is let out at once, or bit by bit, alike: the statement CommitOnce, of whatever gate; no condition but that it reads. -/
import Derived.Test.YteffmidpinlpjaaCmJ
import Derived.Test.YteffmidpinlpjaaCmK
namespace Go.Proofs.Yteffmidpinlpjaa
set_option linter.unusedVariables false
set_option linter.unusedSimpArgs false
open Go.ChangeShapes Go.WideShapes Go.ChangeAt Go.RowKit

/-- A gate of whatever size, in memory. -/
structure LcX (w : World) (p : Option Addr) (m c : Nat) (q : Option Addr) (n d : Nat) (L : Gt) : Prop where
  ml : L.held.length = m
  ll : L.out.length = n
  ms : Sl w p m (hdC L.held)
  ls : Sl w q n (tdC L.out)
  mc : m ≤ c
  nd : n ≤ d
theorem LcX.lc {w : World} {p q : Option Addr} {m c n d : Nat} {L : Gt} (h : LcX w p m c q n d L) (hm : m ≤ 10000) (hn : n ≤ 10000) : Lc w p m c q n d L := ⟨h.ml, h.ll, h.ms, h.ls, h.mc, h.nd, hm, hn⟩
theorem LcX.below {w w' : World} {p q : Option Addr} {m c n d : Nat} {L : Gt} (h : LcX w p m c q n d L) (hb : Below w.heap.size w w') : LcX w' p m c q n d L := ⟨h.ml, h.ll, h.ms.below hb, h.ls.below hb, h.mc, h.nd⟩
/-- The argument lies in nothing that is made later. -/
theorem LcX.off {w : World} {p q : Option Addr} {m c n d : Nat} {L : Gt} (h : LcX w p m c q n d L) : ∀ R, w.heap.size ≤ R → Off R p m ∧ Off R q n := fun R hR => ⟨h.ms.off hR, h.ls.off hR⟩

theorem okE_ok {G : Gt} {s : Int} (h : okG G s = true) : okE G s = 0 := by unfold okE; rw [h]; rfl
theorem okE_no {G : Gt} {s : Int} (h : okG G s = false) : okE G s = 1 := by unfold okE; rw [h]; rfl
theorem ok_of {G : Gt} {s : Int} (h : rightG G = true) (h0 : 0 ≤ s) (h1 : s ≤ 1099511627776) : okG G s = true := by unfold okG; rw [h, span_iff.2 ⟨h0, h1⟩]; rfl
theorem sure_ok {G : Gt} {s : Int} (h : okG G s = true) : sureG G s = ⟨fromL G.held s, G.out ++ (belowL G.held s).map Hd.td⟩ := by
  obtain ⟨h1, h2⟩ := cut_split (ok_rt h).1.up s
  unfold sureG; rw [h, h1, h2]; rfl
theorem back_ok {G : Gt} {s : Int} (h : okG G s = true) : backG G s = ⟨belowL G.held s, G.out⟩ := by
  obtain ⟨h1, h2⟩ := cut_split (ok_rt h).1.up s
  unfold backG; rw [h, h1]; rfl
theorem sure_right {G : Gt} {s : Int} (h : okG G s = true) : rightG (sureG G s) = true := by
  have hr := (ok_rt h).1
  rw [sure_ok h, right_iff]
  exact ⟨Nat.le_trans (List.length_filter_le _ _) hr.l64, fun x hx => hr.sp x (List.mem_filter.1 hx).1, hr.up.filter _⟩
theorem sure_twice {G : Gt} {s t : Int} (hs : okG G s = true) (ht : okG G t = true) (hst : s ≤ t) : okG (sureG G s) t = true ∧ sureG (sureG G s) t = sureG G t := by
  have h2 : okG (sureG G s) t = true := ok_of (sure_right hs) (ok_rt ht).2.1 (ok_rt ht).2.2
  refine ⟨h2, ?_⟩
  have hsp := cut_split (ok_rt hs).1.up s
  rw [sure_ok h2, sure_ok hs, sure_ok ht]
  have e1 : fromL (fromL G.held s) t = fromL G.held t := by
    unfold fromL
    rw [List.filter_filter]
    congr 1
    funext x
    by_cases h : t ≤ x.span
    · simp [h]; omega
    · simp [h]
  have e2 : belowL G.held t = belowL G.held s ++ belowL (fromL G.held s) t := by
    have e3 : G.held = belowL G.held s ++ fromL G.held s := by rw [hsp.1, hsp.2, List.take_append_drop]
    have e4 : belowL (belowL G.held s) t = belowL G.held s := by
      unfold belowL
      rw [List.filter_filter]
      congr 1
      funext x
      by_cases h : x.span < s
      · simp [h]; omega
      · simp [h]
    have e5 : belowL G.held t = belowL (belowL G.held s) t ++ belowL (fromL G.held s) t := by
      conv => lhs; rw [e3]
      unfold belowL
      rw [List.filter_append]
    rw [e5, e4]
  show (⟨fromL (fromL G.held s) t, _⟩ : Gt) = _
  rw [e1, e2, List.map_append, ← List.append_assoc]
theorem back_zero {G : Gt} (h : rightG G = true) : okE G 0 = 0 ∧ backG G 0 = ⟨[], G.out⟩ := by
  have h0 : okG G 0 = true := ok_of h (by decide) (by decide)
  refine ⟨okE_ok h0, ?_⟩
  rw [back_ok h0]
  have : belowL G.held 0 = [] := by
    unfold belowL
    rw [List.filter_eq_nil_iff]
    intro x hx
    have := ((ok_rt h0).1.sp x hx).1
    simp; omega
  rw [this]
theorem sure_len {G : Gt} {s : Int} : (sureG G s).out.length ≤ G.out.length + G.held.length := by
  unfold sureG
  split
  · show (G.out ++ _).length ≤ _
    rw [List.length_append, List.length_map, List.length_take]; omega
  · omega
/-- Where all may be asked. -/
structure Good (G : Gt) (lo hi : Int) : Prop where
  e1 : okE G lo = 0
  e2 : okE (sureG G lo) hi = 0
  same : sureG (sureG G lo) hi = sureG G hi
  e3 : okE G hi = 0
  e4 : okE G 0 = 0
  z : backG G 0 = ⟨[], G.out⟩
theorem once_good {G : Gt} {lo hi : Int} (hr : rightG G = true) (h0 : 0 ≤ lo) (hl : lo ≤ hi) (h1 : hi ≤ 1099511627776) : Good G lo hi := by
  have k1 := ok_of hr h0 (Int.le_trans hl h1)
  have k2 := ok_of hr (Int.le_trans h0 hl) h1
  obtain ⟨k3, k4⟩ := sure_twice k1 k2 hl
  exact ⟨okE_ok k1, okE_ok k3, k4, okE_ok k2, (back_zero hr).1, (back_zero hr).2⟩
theorem once_bad {G : Gt} {lo hi : Int} (h : rightG G = false ∨ lo < 0 ∨ 1099511627776 < hi) (hl : lo ≤ hi) : okE G lo = 1 ∨ okE G hi = 1 := by
  rcases h with h | h | h
  · left; apply okE_no; unfold okG; rw [h]; rfl
  · left; apply okE_no; unfold okG; rw [show spanB lo = false by unfold spanB; rw [decide_eq_false (show ¬ 0 ≤ lo by omega)]; rfl]; simp
  · right; apply okE_no; unfold okG; rw [show spanB hi = false by unfold spanB; rw [decide_eq_false (show ¬ hi ≤ 1099511627776 by omega)]; simp]; simp
theorem okE_le (G : Gt) (s : Int) : okE G s = 0 ∨ okE G s = 1 := by unfold okE; split <;> simp

set_option maxHeartbeats 8000000 in
set_option maxRecDepth 100000 in
theorem once_main (p : Option Addr) (m c : Nat) (q : Option Addr) (n d : Nat) (L : Gt) (a b : Int) (w : World) (h : LcX w p m c q n d L) :
    Calls Try.prog 5 #[.agg #[.slice p m c, .slice q n d], .int .i64 a, .int .i64 b] w fun e w' => e = .returned (.bool true) ∧ Below w.heap.size w w' := by
  have HH := Lib.hid h
  clear h
  have HK0 : Hid (Blk (w.alloc (.cells #[.slice p m c, .slice q n d] 25)) w.heap.size #[.slice p m c, .slice q n d]) := Lib.hid (Blk.new _ _ _)
  have HB0 : Hid (Below w.heap.size w (w.alloc (.cells #[.slice p m c, .slice q n d] 25))) := Lib.hid ((Below.refl _ _).alloc (Nat.le_refl _) _)
  obtain ⟨w0, hw0⟩ : ∃ w0, w0 = w.alloc (.cells #[.slice p m c, .slice q n d] 25) := ⟨_, rfl⟩
  rw [← hw0] at HK0 HB0
  have HW0 := Lib.hid hw0
  clear hw0
  go_enter Try.func5, Try.ntmps5
  go_upto_region 1 with fail
  rw [← HW0.out]
  clear HW0
  go_wp2_with fail
  refine (awake_any w0).mono ?_
  rintro e w1 ⟨rfl, hb⟩
  have HK1 := Lib.hid (HK0.out.below hb)
  have HB1 : Hid (Below w.heap.size w w1) := Lib.hid (HB0.out.trans (hb.mono HB0.out.size))
  clear hb HK0 HB0
  by_cases hm : 80 < m
  · have d1 : decide ((80 : Int) < (m : Int)) = true := decide_eq_true (by omega)
    have d1n : decide (80 < m) = true := decide_eq_true hm
    have kG := HK1.out.c
    go_wp2_with fail
    go_ret
    exact ⟨rfl, HB1.out⟩
  have d1 : decide ((80 : Int) < (m : Int)) = false := decide_eq_false (by omega)
  have d1n : decide (80 < m) = false := decide_eq_false hm
  by_cases hn : 100 < n
  · have d2 : decide ((100 : Int) < (n : Int)) = true := decide_eq_true (by omega)
    have d2n : decide (100 < n) = true := decide_eq_true hn
    have kG := HK1.out.c
    go_wp2_with fail
    go_ret
    exact ⟨rfl, HB1.out⟩
  have d2 : decide ((100 : Int) < (n : Int)) = false := decide_eq_false (by omega)
  have d2n : decide (100 < n) = false := decide_eq_false hn
  have HV1 : Hid (Vr (fun R => w.heap.size ≤ R) w1 w.heap.size p m c q n d L) := Lib.hid ⟨HK1.out, (HH.out.below HB1.out).lc (by omega) (by omega), HH.out.off⟩
  have HL9 : Hid (L.out.length ≤ 9000 ∧ (∀ s, (sureG L s).out.length ≤ 9000)) := Lib.hid ⟨by rw [HH.out.ll]; omega, fun s => by have := sure_len (G := L) (s := s); rw [HH.out.ll, HH.out.ml] at this; omega⟩
  have HLL : Hid (L.out.length = n) := Lib.hid HH.out.ll
  have HGOOD : Hid (∀ lo hi, rightG L = true → 0 ≤ lo → lo ≤ hi → hi ≤ 1099511627776 → Good L lo hi) := Lib.hid (fun lo hi a b c d => once_good a b c d)
  have HBAD : Hid (∀ lo hi, (rightG L = false ∨ lo < 0 ∨ 1099511627776 < hi) → lo ≤ hi → okE L lo = 1 ∨ okE L hi = 1) := Lib.hid (fun lo hi a b => once_bad a b)
  clear HK1 hm hn HH
  have kG := HV1.out.hk.c
  go_upto_region 5 with fail
  clear d1 d1n d2 d2n kG
  have HLH : Hid (min a b ≤ max a b) := Lib.hid (by omega)
  have HF1 := Lib.hid (sure_any (fun _ => False) _ L (min a b) w1 HV1.out.lo (fun R h => h.elim) HL9.out.1)
  obtain ⟨X1, hX1⟩ : ∃ z, z = sureG L (min a b) := ⟨_, rfl⟩
  obtain ⟨x1, hx1⟩ : ∃ z, z = okE L (min a b) := ⟨_, rfl⟩
  have HX1 := Lib.hid hX1
  have HE1 := Lib.hid hx1
  rw [← hX1, ← hx1] at HF1
  clear hX1 hx1
  have kG := HV1.out.hk.c
  go_wp2_with fail
  refine HF1.out.mono ?_
  intro e w2 h
  obtain ⟨p1, m1, c1, q1, n1, d1, rfl, hc, -, hb⟩ := h.open
  have HV2 := Lib.hid ((HV1.out.below hb).below ((Below.refl _ _).alloc (Nat.le_refl _) (.cells #[.slice p1 m1 c1, .slice q1 n1 d1] 25)))
  have HA2 : Hid (Vr (fun R => w2.heap.size ≤ R) (w2.alloc (.cells #[.slice p1 m1 c1, .slice q1 n1 d1] 25)) w2.heap.size p1 m1 c1 q1 n1 d1 X1) := Lib.hid (Vr.new _ hc (fun R hR => ⟨hc.ms.off hR, hc.ls.off hR⟩))
  have HB2 : Hid (Below w.heap.size w (w2.alloc (.cells #[.slice p1 m1 c1, .slice q1 n1 d1] 25))) := Lib.hid ((HB1.out.trans (hb.mono HB1.out.size)).alloc (Nat.le_trans HB1.out.size hb.size) _)
  have HGX : Hid (w.heap.size < w2.heap.size) := Lib.hid (Nat.lt_of_lt_of_le HV1.out.hk.lt hb.size)
  clear h hc hb HF1 HB1 kG HV1
  go_upto_region 6 with fail
  obtain ⟨bx, hbx⟩ : ∃ z, z = w2.heap.size := ⟨_, rfl⟩
  obtain ⟨w3, hw3⟩ : ∃ z, z = w2.alloc (.cells #[.slice p1 m1 c1, .slice q1 n1 d1] 25) := ⟨_, rfl⟩
  rw [← hw3] at HV2 HA2 HB2 ⊢
  rw [← hbx] at HA2 HGX ⊢
  clear hw3 hbx
  have HF2 := Lib.hid (sure_any (fun R => R = bx) _ X1 (max a b) w3 HA2.out.lo (fun R h => by rw [h]; exact HA2.out.hk.lt) (by rw [HX1.out]; exact HL9.out.2 _))
  obtain ⟨X2, hX2⟩ : ∃ z, z = sureG X1 (max a b) := ⟨_, rfl⟩
  obtain ⟨x2, hx2⟩ : ∃ z, z = okE X1 (max a b) := ⟨_, rfl⟩
  have HX2 := Lib.hid hX2
  have HE2 := Lib.hid hx2
  rw [← hX2, ← hx2] at HF2
  clear hX2 hx2
  have kA := HA2.out.hk.c
  go_wp2_with fail
  refine HF2.out.mono ?_
  intro e w4 h
  obtain ⟨p2, m2, c2, q2, n2, d2, rfl, hc, ho, hb⟩ := h.open
  have HK4 := Lib.hid (HA2.out.hk.below hb)
  have HA4 := Lib.hid (Vr.put HK4.out hc ho rfl)
  have HV4 := Lib.hid ((HV2.out.below hb).set2 (R := bx) (Nat.le_of_lt HGX.out) (by have := HGX.out; omega) (.slice p2 m2 c2) (.slice q2 n2 d2))
  have HB4 := Lib.hid (set2_below (R := bx) (HB2.out.trans (hb.mono HB2.out.size)) (Nat.le_of_lt HGX.out) (.slice p2 m2 c2) (.slice q2 n2 d2))
  clear h hc ho hb HF2 HA2 HV2 HB2 kA
  have kA := HK4.out.c
  have fA := HK4.out.f
  have lA := HK4.out.lt
  go_upto_region 7 with fail
  obtain ⟨w5, hw5⟩ : ∃ z, z = (w4.setCell ⟨bx, 0, none⟩ (.slice p2 m2 c2)).setCell ⟨bx, 1, none⟩ (.slice q2 n2 d2) := ⟨_, rfl⟩
  rw [← hw5] at HA4 HV4 HB4 ⊢
  clear hw5 HK4 kA fA lA
  have HF3 := Lib.hid (sure_any (fun _ => False) _ L (max a b) w5 HV4.out.lo (fun R h => h.elim) HL9.out.1)
  obtain ⟨Y, hY⟩ : ∃ z, z = sureG L (max a b) := ⟨_, rfl⟩
  obtain ⟨x3, hx3⟩ : ∃ z, z = okE L (max a b) := ⟨_, rfl⟩
  have HY := Lib.hid hY
  have HE3 := Lib.hid hx3
  rw [← hY, ← hx3] at HF3
  clear hY hx3
  have kG := HV4.out.hk.c
  go_wp2_with fail
  refine HF3.out.mono ?_
  intro e w6 h
  obtain ⟨p3, m3, c3, q3, n3, d3, rfl, hc, -, hb⟩ := h.open
  have HV6 := Lib.hid ((HV4.out.below hb).below ((Below.refl _ _).alloc (Nat.le_refl _) (.cells #[.slice p3 m3 c3, .slice q3 n3 d3] 25)))
  have HA6 := Lib.hid ((HA4.out.below hb).below ((Below.refl _ _).alloc (Nat.le_refl _) (.cells #[.slice p3 m3 c3, .slice q3 n3 d3] 25)))
  have HY6 : Hid (Vr (fun _ => False) (w6.alloc (.cells #[.slice p3 m3 c3, .slice q3 n3 d3] 25)) w6.heap.size p3 m3 c3 q3 n3 d3 Y) := Lib.hid (Vr.new _ hc (fun R hR => hR.elim))
  have HB6 : Hid (Below w.heap.size w (w6.alloc (.cells #[.slice p3 m3 c3, .slice q3 n3 d3] 25))) := Lib.hid ((HB4.out.trans (hb.mono HB4.out.size)).alloc (Nat.le_trans HB4.out.size hb.size) _)
  clear h hc hb HF3 HA4 HV4 HB4 kG
  go_upto_region 8 with fail
  obtain ⟨by_, hby⟩ : ∃ z, z = w6.heap.size := ⟨_, rfl⟩
  obtain ⟨w7, hw7⟩ : ∃ z, z = w6.alloc (.cells #[.slice p3 m3 c3, .slice q3 n3 d3] 25) := ⟨_, rfl⟩
  rw [← hw7] at HV6 HA6 HY6 HB6 ⊢
  rw [← hby] at HY6 ⊢
  clear hw7 hby
  have HF4 := Lib.hid (back_any (fun _ => False) _ L 0 w7 HV6.out.lo (fun R h => h.elim))
  obtain ⟨Z, hZ⟩ : ∃ z, z = backG L 0 := ⟨_, rfl⟩
  obtain ⟨x4, hx4⟩ : ∃ z, z = okE L 0 := ⟨_, rfl⟩
  have HZ := Lib.hid hZ
  have HE4 := Lib.hid hx4
  rw [← hZ, ← hx4] at HF4
  clear hZ hx4
  have kG := HV6.out.hk.c
  go_wp2_with fail
  refine HF4.out.mono ?_
  intro e w8 h
  obtain ⟨p4, m4, c4, q4, n4, d4, rfl, hc, -, hb⟩ := h.open
  have HV8 := Lib.hid ((HV6.out.below hb).below ((Below.refl _ _).alloc (Nat.le_refl _) (.cells #[.slice p4 m4 c4, .slice q4 n4 d4] 25)))
  have HA8 := Lib.hid ((HA6.out.below hb).below ((Below.refl _ _).alloc (Nat.le_refl _) (.cells #[.slice p4 m4 c4, .slice q4 n4 d4] 25)))
  have HY8 := Lib.hid ((HY6.out.below hb).below ((Below.refl _ _).alloc (Nat.le_refl _) (.cells #[.slice p4 m4 c4, .slice q4 n4 d4] 25)))
  have HZ8 : Hid (Vr (fun _ => False) (w8.alloc (.cells #[.slice p4 m4 c4, .slice q4 n4 d4] 25)) w8.heap.size p4 m4 c4 q4 n4 d4 Z) := Lib.hid (Vr.new _ hc (fun R hR => hR.elim))
  have HB8 : Hid (Below w.heap.size w (w8.alloc (.cells #[.slice p4 m4 c4, .slice q4 n4 d4] 25))) := Lib.hid ((HB6.out.trans (hb.mono HB6.out.size)).alloc (Nat.le_trans HB6.out.size hb.size) _)
  clear h hc hb HF4 HA6 HV6 HY6 HB6 kG
  go_upto_region 9 with fail
  obtain ⟨bz, hbz⟩ : ∃ z, z = w8.heap.size := ⟨_, rfl⟩
  obtain ⟨w9, hw9⟩ : ∃ z, z = w8.alloc (.cells #[.slice p4 m4 c4, .slice q4 n4 d4] 25) := ⟨_, rfl⟩
  rw [← hw9] at HV8 HA8 HY8 HZ8 HB8 ⊢
  rw [← hbz] at HZ8 ⊢
  clear hw9 hbz HGX
  have HRT := Lib.hid (right_any _ _ L w9 HV8.out.lo)
  obtain ⟨r, hr⟩ : ∃ r, r = rightG L := ⟨_, rfl⟩
  rw [← hr] at HRT HGOOD HBAD
  clear hr
  have kG := HV8.out.hk.c
  go_wp2_with fail
  refine HRT.out.mono ?_
  rintro e w10 ⟨rfl, hb⟩
  have HV10 := Lib.hid (HV8.out.below hb)
  have HA10 := Lib.hid (HA8.out.below hb)
  have HY10 := Lib.hid (HY8.out.below hb)
  have HZ10 := Lib.hid (HZ8.out.below hb)
  have HB10 : Hid (Below w.heap.size w w10) := Lib.hid (HB8.out.trans (hb.mono HB8.out.size))
  clear hb HV8 HA8 HY8 HZ8 HB8 kG HRT
  by_cases hgood : r = true ∧ 0 ≤ min a b ∧ max a b ≤ 1099511627776
  · obtain ⟨rfl, hlo, hhi⟩ := hgood
    have HG := Lib.hid (HGOOD.out (min a b) (max a b) rfl hlo HLH.out hhi)
    have g1 : decide (min a b < 0) = false := decide_eq_false (by omega)
    have g2 : decide (1099511627776 < max a b) = false := decide_eq_false (by omega)
    obtain rfl : x1 = 0 := HE1.out.trans HG.out.e1
    obtain rfl : x2 = 0 := HE2.out.trans (by rw [HX1.out]; exact HG.out.e2)
    obtain rfl : x3 = 0 := HE3.out.trans HG.out.e3
    obtain rfl : x4 = 0 := HE4.out.trans HG.out.e4
    have HXY : Hid (X2 = Y) := Lib.hid (by rw [HX2.out, HX1.out, HY.out]; exact HG.out.same)
    have HZZ : Hid (Z = ⟨[], L.out⟩) := Lib.hid (HZ.out.trans HG.out.z)
    have hm4 : 0 = m4 := by have := HZ10.out.hc.ml; rw [HZZ.out] at this; exact this
    have hn4 : n = n4 := by have := HZ10.out.hc.ll; rw [HZZ.out] at this; exact HLL.out.symm.trans this
    subst hm4
    have HQ : Hid (∀ W, Below w10.heap.size w10 W → Calls Try.prog 9 #[.agg #[.slice p2 m2 c2, .slice q2 n2 d2], .agg #[.slice p3 m3 c3, .slice q3 n3 d3]] W fun e w' => e = .returned (.bool true) ∧ Below W.heap.size W w') := Lib.hid (fun W hW => same_any _ _ _ _ X2 W (HA10.out.below hW).lo (by rw [HXY.out]; exact (HY10.out.below hW).lo))
    have HO : Hid (∀ W, Below w10.heap.size w10 W → Calls Try.prog 16 #[.slice q4 n4 d4, .slice q n d] W fun e w' => e = .returned (.bool true) ∧ Below W.heap.size W w') := Lib.hid (fun W hW => by
      have h1 := (HZ10.out.hc.below hW).ls
      have h2 := (HV10.out.hc.below hW).ls
      rw [HZZ.out, ← hn4] at h1
      rw [← hn4]
      exact outs_any q4 q n d4 d L.out W HLL.out h1 h2 (by have := HV10.out.hc.n10; omega))
    clear HGOOD HBAD HE1 HE2 HE3 HE4 HX1 HX2 HY HZ HG hlo hhi hn4 HLL HL9
    have kA := HA10.out.hk.c
    have kY := HY10.out.hk.c
    go_wp2_with fail
    refine (HQ.out w10 (Below.refl _ _)).mono ?_
    rintro e w11 ⟨rfl, hb⟩
    have HB11 := Lib.hid hb
    have HK1 := Lib.hid (HZ10.out.hk.below hb)
    have HK2 := Lib.hid (HV10.out.hk.below hb)
    clear hb kA kY
    have kZ := HK1.out.c
    have kG := HK2.out.c
    go_wp2_with fail
    refine (HO.out w11 HB11.out).mono ?_
    rintro e w12 ⟨rfl, hb⟩
    have HBE : Hid (Below w.heap.size w w12) := Lib.hid (HB10.out.trans ((HB11.out.trans (hb.mono HB11.out.size)).mono HB10.out.size))
    clear hb
    go_wp2_with fail
    go_ret
    exact ⟨rfl, HBE.out⟩
  · have HX13 : Hid (x1 = 1 ∨ x3 = 1) := Lib.hid (by
      have := HBAD.out (min a b) (max a b) (by
        by_cases h1 : r = true
        · by_cases h2 : 0 ≤ min a b
          · right; right
            rcases Int.lt_or_le 1099511627776 (max a b) with h3 | h3
            · exact h3
            · exact absurd ⟨h1, h2, h3⟩ hgood
          · right; left; omega
        · left; simpa using h1) HLH.out
      rw [HE1.out, HE3.out]; exact this)
    have HX1' : Hid (x1 = 0 ∨ x1 = 1) := Lib.hid (by rw [HE1.out]; exact okE_le _ _)
    have HX2' : Hid (x2 = 0 ∨ x2 = 1) := Lib.hid (by rw [HE2.out]; exact okE_le _ _)
    have HNG := Lib.hid hgood
    clear hgood HGOOD HBAD HE1 HE2 HE3 HE4 HX1 HX2 HY HZ HLL HL9
    obtain ⟨g1, hg1⟩ : ∃ g, decide (min a b < 0) = g := ⟨_, rfl⟩
    obtain ⟨g2, hg2⟩ : ∃ g, decide (1099511627776 < max a b) = g := ⟨_, rfl⟩
    have HG1 := Lib.hid hg1
    have HG2 := Lib.hid hg2
    cases r with
    | false =>
      clear hg1 hg2
      rcases HX1'.out with rfl | rfl
      · rcases HX13.out with h | rfl
        · cases h
        · rcases HX2'.out with rfl | rfl
          all_goals
            go_wp2_with fail
            go_ret
            exact ⟨rfl, HB10.out⟩
      · go_wp2_with fail
        go_ret
        exact ⟨rfl, HB10.out⟩
    | true =>
      cases g1 with
      | true =>
        clear hg2
        rcases HX1'.out with rfl | rfl
        · rcases HX13.out with h | rfl
          · cases h
          · rcases HX2'.out with rfl | rfl
            all_goals
              go_wp2_with fail
              go_ret
              exact ⟨rfl, HB10.out⟩
        · go_wp2_with fail
          go_ret
          exact ⟨rfl, HB10.out⟩
      | false =>
        cases g2 with
        | false => exact absurd ⟨rfl, by have := of_decide_eq_false HG1.out; omega, by have := of_decide_eq_false HG2.out; omega⟩ HNG.out
        | true =>
          rcases HX1'.out with rfl | rfl
          · rcases HX13.out with h | rfl
            · cases h
            · rcases HX2'.out with rfl | rfl
              all_goals
                go_wp2_with fail
                go_ret
                exact ⟨rfl, HB10.out⟩
          · go_wp2_with fail
            go_ret
            exact ⟨rfl, HB10.out⟩
end Go.Proofs.Yteffmidpinlpjaa
