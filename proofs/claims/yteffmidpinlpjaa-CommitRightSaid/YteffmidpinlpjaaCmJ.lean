/- The fixed answer that a program which does nothing gets wrong: this program has it; no condition. -/
import Derived.Test.YteffmidpinlpjaaCmG
import Derived.Test.YteffmidpinlpjaaCmH
import Derived.Test.YteffmidpinlpjaaCmI
namespace Go.Proofs.Yteffmidpinlpjaa
set_option linter.unusedVariables false
set_option linter.unusedSimpArgs false
open Go.ChangeShapes Go.WideShapes Go.ChangeAt Go.RowKit

/-- A variable in block b that holds a gate, which lies in none of the blocks S. -/
structure Vr (S : Nat → Prop) (w : World) (b : Nat) (p : Option Addr) (m c : Nat) (q : Option Addr) (n d : Nat) (L : Gt) : Prop where
  hk : Blk w b #[.slice p m c, .slice q n d]
  hc : Lc w p m c q n d L
  ho : ∀ R, S R → Off R p m ∧ Off R q n
theorem Vr.below {S : Nat → Prop} {w w' : World} {b : Nat} {p q : Option Addr} {m c n d : Nat} {L : Gt} (h : Vr S w b p m c q n d L) (hb : Below w.heap.size w w') : Vr S w' b p m c q n d L := ⟨h.hk.below hb, h.hc.below hb, h.ho⟩
theorem Vr.lo {S : Nat → Prop} {w : World} {b : Nat} {p q : Option Addr} {m c n d : Nat} {L : Gt} (h : Vr S w b p m c q n d L) : Lo S w (.agg #[.slice p m c, .slice q n d]) L := ⟨_, _, _, _, _, _, rfl, h.hc, h.ho⟩
theorem Vr.new {S : Nat → Prop} {w : World} {p q : Option Addr} {m c n d : Nat} {L : Gt} (t : TypeId) (h : Lc w p m c q n d L) (ho : ∀ R, S R → Off R p m ∧ Off R q n) : Vr S (w.alloc (.cells #[.slice p m c, .slice q n d] t)) w.heap.size p m c q n d L :=
  ⟨Blk.new _ _ _, h.below ((Below.refl _ _).alloc (Nat.le_refl _) _), ho⟩
theorem Vr.set2 {S : Nat → Prop} {w : World} {b : Nat} {p q : Option Addr} {m c n d : Nat} {L : Gt} (h : Vr S w b p m c q n d L) {R : Nat} (hR : S R) (hne : R ≠ b) (u0 u1 : Value) : Vr S ((w.setCell ⟨R, 0, none⟩ u0).setCell ⟨R, 1, none⟩ u1) b p m c q n d L :=
  ⟨set2_other h.hk hne u0 u1, (h.hc.set (h.ho R hR).1 (h.ho R hR).2 0 u0).set (h.ho R hR).1 (h.ho R hR).2 1 u1, h.ho⟩
theorem Vr.put {S : Nat → Prop} {w : World} {b : Nat} {p q : Option Addr} {m c n d : Nat} {L : Gt} {a0 a1 : Value} (hk : Blk w b #[a0, a1]) (h : Lc w p m c q n d L) (ho : ∀ R, S R → Off R p m ∧ Off R q n) (hS : S b) : Vr S ((w.setCell ⟨b, 0, none⟩ (.slice p m c)).setCell ⟨b, 1, none⟩ (.slice q n d)) b p m c q n d L :=
  ⟨set2_same hk _ _, (h.set (ho b hS).1 (ho b hS).2 0 _).set (ho b hS).1 (ho b hS).2 1 _, ho⟩
theorem Vr.weak {S S' : Nat → Prop} {w : World} {b : Nat} {p q : Option Addr} {m c n d : Nat} {L : Gt} (h : Vr S w b p m c q n d L) (hs : ∀ R, S' R → S R ∨ w.heap.size ≤ R) : Vr S' w b p m c q n d L :=
  ⟨h.hk, h.hc, fun R hR => (hs R hR).elim (h.ho R) fun h2 => ⟨h.hc.ms.off h2, h.hc.ls.off h2⟩⟩
/-- An answer with its parts in sight. -/
theorem OutL.open {S : Nat → Prop} {w w' : World} {e : Ending} {L : Gt} {X : Int} (h : OutL S w w' e L X) : ∃ p m c q n d, e = .returned (.tuple #[.agg #[.slice p m c, .slice q n d], .int .i64 X]) ∧ Lc w' p m c q n d L ∧ (∀ R, S R → Off R p m ∧ Off R q n) ∧ Below w.heap.size w w' := by
  obtain ⟨v, rfl, ⟨p, m, c, q, n, d, rfl, h1, h2⟩, hb⟩ := h
  exact ⟨p, m, c, q, n, d, rfl, h1, h2, hb⟩
theorem nil_lc (w : World) : Lc w none 0 0 none 0 0 ⟨[], []⟩ := ⟨rfl, rfl, Sl.empty _ _ _, Sl.empty _ _ _, Nat.le_refl _, Nat.le_refl _, Nat.zero_le _, Nat.zero_le _⟩
def gw1 : Gt := ⟨[⟨⟨0, 5⟩, 0⟩], []⟩
def gw2 : Gt := ⟨[⟨⟨0, 5⟩, 0⟩, ⟨⟨0, 6⟩, 1⟩], []⟩
def gw3 : Gt := ⟨[⟨⟨0, 6⟩, 1⟩], [⟨0, 5⟩]⟩
def gw4 : Gt := ⟨[], [⟨0, 5⟩]⟩
theorem gw_1 : tellG ⟨[], []⟩ 0 ⟨0, 5⟩ = gw1 ∧ tellE ⟨[], []⟩ 0 = 0 := ⟨by kernel_rfl, by kernel_rfl⟩
theorem gw_2 : tellG gw1 1 ⟨0, 6⟩ = gw2 ∧ tellE gw1 1 = 0 := ⟨by kernel_rfl, by kernel_rfl⟩
theorem gw_3 : sureG gw2 1 = gw3 ∧ okE gw2 1 = 0 := ⟨by kernel_rfl, by kernel_rfl⟩
theorem gw_4 : backG gw3 1 = gw4 ∧ okE gw3 1 = 0 := ⟨by kernel_rfl, by kernel_rfl⟩
theorem gw_5 : rightG gw3 = true := by kernel_rfl
theorem gw_6 : (allG gw3).length = 2 := by kernel_rfl

set_option maxHeartbeats 4000000 in
set_option maxRecDepth 100000 in
theorem awake_any (w : World) : Calls Try.prog 6 #[] w fun e w' => e = .returned (.bool true) ∧ Below w.heap.size w w' := by
  have H1 : Hid (Calls Try.prog 7 #[.agg #[.slice none 0 0, .slice none 0 0], .int .i64 0, .agg #[.int .i64 0, .int .u32 5]] w fun e w' => OutL (fun _ => False) w w' e gw1 0) := Lib.hid (by
    have := tell_any (T := fun _ => False) (fun _ => False) _ ⟨[], []⟩ 0 ⟨0, 5⟩ w ⟨_, _, _, _, _, _, rfl, nil_lc w, fun R h => h.elim⟩ (fun R h => h.elim)
    rw [gw_1.1, gw_1.2] at this; exact this)
  go_enter Try.func6, Try.ntmps6
  go_wp2_with fail
  refine H1.out.mono ?_
  intro e w1 h
  obtain ⟨p1, m1, c1, q1, n1, d1, rfl, hc, -, hb⟩ := h.open
  have HC1 := Lib.hid hc
  have HB1 := Lib.hid hb
  clear h hc hb H1
  go_upto_region 2 with fail
  have HV2 : Hid (Vr (fun _ => False) (w1.alloc (.cells #[.slice p1 m1 c1, .slice q1 n1 d1] 25)) w1.heap.size p1 m1 c1 q1 n1 d1 gw1) := Lib.hid (Vr.new _ HC1.out (fun R h => h.elim))
  have HB2 : Hid (Below w.heap.size w (w1.alloc (.cells #[.slice p1 m1 c1, .slice q1 n1 d1] 25))) := Lib.hid (HB1.out.alloc HB1.out.size _)
  obtain ⟨bg, hbg⟩ : ∃ z, z = w1.heap.size := ⟨_, rfl⟩
  have HGE : Hid (w.heap.size ≤ bg) := Lib.hid (by rw [hbg]; exact HB1.out.size)
  obtain ⟨w2, hw2⟩ : ∃ z, z = w1.alloc (.cells #[.slice p1 m1 c1, .slice q1 n1 d1] 25) := ⟨_, rfl⟩
  rw [← hw2] at HV2 HB2 ⊢
  rw [← hbg] at HV2 ⊢
  clear hw2 hbg HC1 HB1
  have H2 : Hid (Calls Try.prog 7 #[.agg #[.slice p1 m1 c1, .slice q1 n1 d1], .int .i64 1, .agg #[.int .i64 0, .int .u32 6]] w2 fun e w' => OutL (fun R => R = bg) w2 w' e gw2 0) := Lib.hid (by
    have := tell_any (fun R => R = bg) _ gw1 1 ⟨0, 6⟩ w2 HV2.out.lo (fun R h => by rw [h]; exact HV2.out.hk.lt)
    rw [gw_2.1, gw_2.2] at this; exact this)
  have kG := HV2.out.hk.c
  go_wp2_with fail
  refine H2.out.mono ?_
  intro e w3 h
  obtain ⟨p2, m2, c2, q2, n2, d2, rfl, hc, ho, hb⟩ := h.open
  have HK3 := Lib.hid (HV2.out.hk.below hb)
  have HV3 := Lib.hid (Vr.put HK3.out hc ho rfl)
  have HB3 := Lib.hid (set2_below (HB2.out.trans (hb.mono HB2.out.size)) HGE.out (.slice p2 m2 c2) (.slice q2 n2 d2))
  clear h hc ho hb HV2 HB2 H2 kG
  have kG := HK3.out.c
  have fG := HK3.out.f
  have lG := HK3.out.lt
  go_upto_region 3 with fail
  obtain ⟨w4, hw4⟩ : ∃ z, z = (w3.setCell ⟨bg, 0, none⟩ (.slice p2 m2 c2)).setCell ⟨bg, 1, none⟩ (.slice q2 n2 d2) := ⟨_, rfl⟩
  rw [← hw4] at HV3 HB3 ⊢
  clear hw4 HK3 kG fG lG
  have H3 : Hid (Calls Try.prog 10 #[.agg #[.slice p2 m2 c2, .slice q2 n2 d2], .int .i64 1] w4 fun e w' => OutL (fun R => R = bg) w4 w' e gw3 0) := Lib.hid (by
    have := sure_any (fun R => R = bg) _ gw2 1 w4 HV3.out.lo (fun R h => by rw [h]; exact HV3.out.hk.lt) (by decide)
    rw [gw_3.1, gw_3.2] at this; exact this)
  have kG := HV3.out.hk.c
  go_wp2_with fail
  refine H3.out.mono ?_
  intro e w5 h
  obtain ⟨p3, m3, c3, q3, n3, d3, rfl, hc, ho, hb⟩ := h.open
  have HK5 := Lib.hid (HV3.out.hk.below hb)
  have HV5 := Lib.hid (Vr.put HK5.out hc ho rfl)
  have HB5 := Lib.hid (set2_below (HB3.out.trans (hb.mono HB3.out.size)) HGE.out (.slice p3 m3 c3) (.slice q3 n3 d3))
  have hm3 : 1 = m3 := hc.ml
  have hn3 : 1 = n3 := hc.ll
  subst hm3 hn3
  clear h hc ho hb HV3 HB3 H3 kG
  have kG := HK5.out.c
  have fG := HK5.out.f
  have lG := HK5.out.lt
  go_upto_region 4 with fail
  obtain ⟨w6, hw6⟩ : ∃ z, z = (w5.setCell ⟨bg, 0, none⟩ (.slice p3 1 c3)).setCell ⟨bg, 1, none⟩ (.slice q3 1 d3) := ⟨_, rfl⟩
  rw [← hw6] at HV5 HB5 ⊢
  clear hw6 HK5 kG fG lG
  have H4 : Hid (Calls Try.prog 12 #[.agg #[.slice p3 1 c3, .slice q3 1 d3], .int .i64 1] w6 fun e w' => OutL (fun R => R = bg) w6 w' e gw4 0) := Lib.hid (by
    have := back_any (fun R => R = bg) _ gw3 1 w6 HV5.out.lo (fun R h => by rw [h]; exact HV5.out.hk.lt)
    rw [gw_4.1, gw_4.2] at this; exact this)
  have kG := HV5.out.hk.c
  go_wp2_with fail
  refine H4.out.mono ?_
  intro e w7 h
  obtain ⟨p4, m4, c4, q4, n4, d4, rfl, hc, ho, hb⟩ := h.open
  have hm4 : 0 = m4 := hc.ml
  have hn4 : 1 = n4 := hc.ll
  subst hm4 hn4
  have HV7 := Lib.hid ((HV5.out.below hb).below ((Below.refl _ _).alloc (Nat.le_refl _) (.cells #[.slice p4 0 c4, .slice q4 1 d4] 25)))
  have HX7 : Hid (Blk (w7.alloc (.cells #[.slice p4 0 c4, .slice q4 1 d4] 25)) w7.heap.size #[.slice p4 0 c4, .slice q4 1 d4]) := Lib.hid (Blk.new _ _ _)
  have HB7 : Hid (Below w.heap.size w (w7.alloc (.cells #[.slice p4 0 c4, .slice q4 1 d4] 25))) := Lib.hid ((HB5.out.trans (hb.mono HB5.out.size)).alloc (Nat.le_trans HB5.out.size hb.size) _)
  clear h hc ho hb HV5 HB5 H4 kG
  go_upto_region 5 with fail
  obtain ⟨bx, hbx⟩ : ∃ z, z = w7.heap.size := ⟨_, rfl⟩
  obtain ⟨w8, hw8⟩ : ∃ z, z = w7.alloc (.cells #[.slice p4 0 c4, .slice q4 1 d4] 25) := ⟨_, rfl⟩
  rw [← hw8] at HV7 HB7 HX7 ⊢
  rw [← hbx] at HX7 ⊢
  clear hw8 hbx
  have HRT : Hid (∀ W, Below w8.heap.size w8 W → Calls Try.prog 14 #[.agg #[.slice p3 1 c3, .slice q3 1 d3]] W fun e w' => e = .returned (.bool true) ∧ Below W.heap.size W w') := Lib.hid (fun W hW => by
    have := right_any _ _ gw3 W (HV7.out.lo.below hW)
    rw [gw_5] at this; exact this)
  have HAL : Hid (Calls Try.prog 17 #[.agg #[.slice p3 1 c3, .slice q3 1 d3]] w8 fun e w' => ∃ q d, e = .returned (.slice q 2 d) ∧ Below w8.heap.size w8 w') := Lib.hid ((all_any _ _ gw3 w8 HV7.out.lo).mono fun e w' ⟨q, x, d, hx, he, _, hb⟩ => ⟨q, d, by rw [he, hx, gw_6], hb⟩)
  obtain ⟨b, off, rfl, ht⟩ := HV7.out.hc.tdAt 0 (Nat.one_pos)
  obtain ⟨l0, c0', c1'⟩ := ht
  have c5 : w8.cell? ⟨b, off + 1, none⟩ = some (.int .u32 5) := by simpa [gw3] using c1'
  clear c0' c1'
  have kG := HV7.out.hk.c
  have kX := HX7.out.c
  go_wp2_with fail
  refine HAL.out.mono ?_
  rintro e w9 ⟨qa, da, rfl, hb⟩
  have HB9 := Lib.hid hb
  have HV9 := Lib.hid (HV7.out.hk.below hb)
  clear hb kG kX c5
  have kG := HV9.out.c
  go_wp2_with fail
  refine (HRT.out w9 HB9.out).mono ?_
  rintro e w10 ⟨rfl, hb⟩
  have HBE : Hid (Below w.heap.size w w10) := Lib.hid (HB7.out.trans ((HB9.out.trans (hb.mono HB9.out.size)).mono HB7.out.size))
  clear hb
  go_wp2_with fail
  go_ret
  exact ⟨rfl, HBE.out⟩
end Go.Proofs.Yteffmidpinlpjaa
