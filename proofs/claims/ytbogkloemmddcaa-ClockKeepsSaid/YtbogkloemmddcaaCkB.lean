/- Whether a number may be a time, copies of cores and of marks, whether a mark may come behind others, by the program; no condition but that they read. -/
import Derived.Test.YtbogkloemmddcaaCkA
namespace Go.Proofs.Ytbogkloemmddcaa
set_option linter.unusedVariables false
open Go.ChangeShapes Go.WideShapes Go.ChangeAt Go.RowKit

set_option maxHeartbeats 1000000 in
theorem mayBe_any (n : Int) (w : World) : Calls Try.prog 24 #[.int .i64 n] w fun e w' => e = .returned (.bool (timeB n)) ∧ w = w' := by
  have HM : Hid (timeB n = (decide (0 ≤ n) && decide (n ≤ 1099511627776))) := Lib.hid rfl
  obtain ⟨r, hr⟩ : ∃ r, r = timeB n := ⟨_, rfl⟩
  rw [← hr] at HM ⊢
  clear hr
  obtain ⟨b1, d1⟩ : ∃ b, decide (0 ≤ n) = b := ⟨_, rfl⟩
  obtain ⟨b2, d2⟩ : ∃ b, decide (n ≤ 1099511627776) = b := ⟨_, rfl⟩
  cases b1 <;> cases b2
  all_goals
    go_enter Try.func24, Try.ntmps24
    go_wp2_with fail
    go_ret
    exact ⟨by rw [HM.out, d1, d2]; rfl, rfl⟩

set_option maxHeartbeats 2000000 in
theorem cloneC_any (p : Option Addr) (n c : Nat) (l : List Cor) (w : World) (hl : l.length = n) (hs : Sl w p n (coresC l)) (hm : n ≤ 10000) (hcn : n ≤ c) :
    Calls Try.prog 15 #[.slice p n c] w fun e w' => ∃ r, e = .returned r ∧ w'.ownsRow w.heap.size 50 10 r n (coresC l) ∧ Below w.heap.size w w' := by
  obtain ⟨i0, hi, hz0, hz1, hz2⟩ := info_parts infoC
  have HI := Lib.hid (And.intro hi (And.intro hz0 (And.intro hz1 hz2)))
  have HS := Lib.hid hs
  have HL := Lib.hid hl
  clear hs hl hi hz0 hz1 hz2
  have hq : ∀ W, (binOp .eql 30 (.slice p n c) (.slice none 0 0)).run Try.prog W = .ok (.bool p.isNone) W := fun W => Lib.run_eql_slice_nil W _ 50 _ _ _ _ _ Try.underlying30
  cases p with
  | none =>
    have h0 : n = 0 := by
      rcases Nat.eq_zero_or_pos n with h0 | h0
      · exact h0
      · obtain ⟨b, off, _, h2, _⟩ := HS.out h0
        cases h2
    subst h0
    have hl : l = [] := List.eq_nil_of_length_eq_zero HL.out
    subst hl
    clear HS HL hcn HI
    simp only [Option.isNone_none, Option.isNone_some] at hq
    go_enter Try.func15, Try.ntmps15
    go_wp2
    go_ret
    exact ⟨_, rfl, World.ownsRow_nil _ _ _ _, Below.refl _ _⟩
  | some a =>
    simp only [Option.isNone_none, Option.isNone_some] at hq
    go_enter Try.func15, Try.ntmps15
    go_wp2_with (first | (at_builtin; refine wpList_append_sl rfl _ _ 30 rfl w.heap.size 50 i0 _ 10 48 Try.underlying30 HI.out.1 HI.out.2.1 HI.out.2.2.1 HI.out.2.2.2 rfl (by decide) _ 0 [] rfl (fresh_made (Nat.le_refl _)) (some a) n c (coresC l) rfl (by rw [coresC_len, HL.out]) (HS.out.below ((Below.refl _ _).alloc (Nat.le_refl _) _)) (coresC_one _) (by unfold maxLen; omega) (by omega) (by simp) ?_))
    intro v' w' g1 g2 g3
    have HG : Hid (w'.ownsRow w.heap.size 50 10 v' n (coresC l)) := Lib.hid (by simpa using g1)
    have HB : Hid (Below w.heap.size w w') := Lib.hid (((Below.refl w.heap.size w).alloc (Nat.le_refl _) _).grown g2 (by simp) (fun k hk => by simp [Value.ownBlock] at hk; omega))
    clear g1 g2 g3
    go_wp2
    go_ret
    exact ⟨_, rfl, HG.out, HB.out⟩

set_option maxHeartbeats 2000000 in
theorem cloneM_any (p : Option Addr) (n c : Nat) (l : List Mv) (w : World) (hl : l.length = n) (hs : Sl w p n (mvC l)) (hm : n ≤ 10000) (hcn : n ≤ c) :
    Calls Try.prog 23 #[.slice p n c] w fun e w' => ∃ r, e = .returned r ∧ w'.ownsRow w.heap.size 32 3 r n (mvC l) ∧ Below w.heap.size w w' := by
  obtain ⟨i0, hi, hz0, hz1, hz2⟩ := info_parts infoM
  have HI := Lib.hid (And.intro hi (And.intro hz0 (And.intro hz1 hz2)))
  have HS := Lib.hid hs
  have HL := Lib.hid hl
  clear hs hl hi hz0 hz1 hz2
  have hq : ∀ W, (binOp .eql 24 (.slice p n c) (.slice none 0 0)).run Try.prog W = .ok (.bool p.isNone) W := fun W => Lib.run_eql_slice_nil W _ 32 _ _ _ _ _ Try.underlying24
  cases p with
  | none =>
    have h0 : n = 0 := by
      rcases Nat.eq_zero_or_pos n with h0 | h0
      · exact h0
      · obtain ⟨b, off, _, h2, _⟩ := HS.out h0
        cases h2
    subst h0
    have hl : l = [] := List.eq_nil_of_length_eq_zero HL.out
    subst hl
    clear HS HL hcn HI
    simp only [Option.isNone_none, Option.isNone_some] at hq
    go_enter Try.func23, Try.ntmps23
    go_wp2
    go_ret
    exact ⟨_, rfl, World.ownsRow_nil _ _ _ _, Below.refl _ _⟩
  | some a =>
    simp only [Option.isNone_none, Option.isNone_some] at hq
    go_enter Try.func23, Try.ntmps23
    go_wp2_with (first | (at_builtin; refine wpList_append_sl rfl _ _ 24 rfl w.heap.size 32 i0 _ 3 40 Try.underlying24 HI.out.1 HI.out.2.1 HI.out.2.2.1 HI.out.2.2.2 rfl (by decide) _ 0 [] rfl (fresh_made (Nat.le_refl _)) (some a) n c (mvC l) rfl (by rw [mvC_len, HL.out]) (HS.out.below ((Below.refl _ _).alloc (Nat.le_refl _) _)) (mvC_one _) (by unfold maxLen; omega) (by omega) (by simp) ?_))
    intro v' w' g1 g2 g3
    have HG : Hid (w'.ownsRow w.heap.size 32 3 v' n (mvC l)) := Lib.hid (by simpa using g1)
    have HB : Hid (Below w.heap.size w w') := Lib.hid (((Below.refl w.heap.size w).alloc (Nat.le_refl _) _).grown g2 (by simp) (fun k hk => by simp [Value.ownBlock] at hk; omega))
    clear g1 g2 g3
    go_wp2
    go_ret
    exact ⟨_, rfl, HG.out, HB.out⟩

/-- A mark of one's own: as another one is, its cores in new memory. -/
structure OwnM (base : Nat) (w : World) (x y : Mv) : Prop where
  sp : y.span = x.span
  wh : y.when = x.when
  cs : y.cs = x.cs
  m : y.m = x.m
  rd : Mr w y
  nw : ∀ R, R < base → Off R y.q y.m
theorem OwnM.mk' {base : Nat} {w : World} {x y : Mv} (h : OwnM base w x y) : y.mk' = x.mk' := by unfold Mv.mk'; rw [h.sp, h.wh, h.cs]
theorem OwnM.below {base : Nat} {w w' : World} {x y : Mv} (h : OwnM base w x y) (hb : Below w.heap.size w w') : OwnM base w' x y := ⟨h.sp, h.wh, h.cs, h.m, h.rd.below hb, h.nw⟩
theorem OwnM.mono {base base' : Nat} {w : World} {x y : Mv} (h : OwnM base w x y) (hb : base' ≤ base) : OwnM base' w x y := ⟨h.sp, h.wh, h.cs, h.m, h.rd, fun R hR => h.nw R (by omega)⟩

set_option maxHeartbeats 2000000 in
theorem copiedMark_any (x : Mv) (w : World) (h : Mr w x) :
    Calls Try.prog 18 #[.agg #[.int .i64 x.span, .int .i64 x.when, .slice x.q x.m x.c]] w fun e w' => ∃ y : Mv, e = .returned (.agg #[.int .i64 y.span, .int .i64 y.when, .slice y.q y.m y.c]) ∧ OwnM w.heap.size w' x y ∧ Below w.heap.size w w' := by
  obtain ⟨s, t, q, m, c, cs⟩ := x
  have HC : Hid (∀ W, Below w.heap.size w W → Calls Try.prog 15 #[.slice q m c] W fun e w' => ∃ r, e = .returned r ∧ w'.ownsRow W.heap.size 50 10 r m (coresC cs) ∧ Below W.heap.size W w') := Lib.hid (fun W hW => cloneC_any q m c cs W h.ml (h.sl.below hW) h.mb h.mc)
  have HML : Hid (cs.length = m) := Lib.hid h.ml
  have HMB : Hid (m ≤ 10000) := Lib.hid h.mb
  dsimp only
  clear h
  obtain ⟨w0, hw0⟩ : ∃ w0, w0 = (w.alloc (.cells #[.int .i64 s, .int .i64 t, .slice q m c] 32)).alloc (.cells #[.int .i64 0, .int .i64 0, .slice none 0 0] 32) := ⟨_, rfl⟩
  have HB0 : Hid (Below w.heap.size w w0) := Lib.hid (by rw [hw0]; exact ((Below.refl _ _).alloc (Nat.le_refl _) _).alloc (by simp) _)
  have HA0 : Hid (Blk w0 w.heap.size #[.int .i64 s, .int .i64 t, .slice q m c]) := Lib.hid (by rw [hw0]; exact (Blk.new _ _ _).alloc _)
  have HT0 : Hid (Blk w0 (w.heap.size + 1) #[.int .i64 0, .int .i64 0, .slice none 0 0]) := Lib.hid (by
    have := Blk.new (w.alloc (.cells #[.int .i64 s, .int .i64 t, .slice q m c] 32)) #[.int .i64 0, .int .i64 0, .slice none 0 0] 32
    rw [World.size_alloc] at this
    rw [hw0]; exact this)
  have HSZ : Hid (w0.heap.size = w.heap.size + 2) := Lib.hid (by rw [hw0, World.size_alloc, World.size_alloc])
  have HW0 := Lib.hid hw0
  clear hw0
  go_enter Try.func18, Try.ntmps18
  have kA := HA0.out.c
  go_upto_region 1 with fail
  rw [← HW0.out]
  clear HW0
  go_wp2_with fail
  refine (HC.out w0 HB0.out).mono ?_
  rintro e w1 ⟨r, rfl, ho, hb⟩
  obtain ⟨q', c', rfl, hsl⟩ := Sl.own ho
  obtain ⟨q2, c2, e2, hcap⟩ := own_cap ho
  injection e2 with e3 e4 e5
  subst e5
  have HY : Hid (OwnM w.heap.size w1 ⟨s, t, q, m, c, cs⟩ ⟨s, t, q', m, c', cs⟩ ∧ Off w.heap.size q' m ∧ Off (w.heap.size + 1) q' m) := Lib.hid ⟨⟨rfl, rfl, rfl, rfl, ⟨HML.out, hcap, HMB.out, hsl⟩, fun R hR => own_offR ho (by have := HSZ.out; omega)⟩, own_offR ho (by have := HSZ.out; omega), own_offR ho (by have := HSZ.out; omega)⟩
  have HA1 := Lib.hid (HA0.out.below hb)
  have HT1 := Lib.hid (HT0.out.below hb)
  have HB1 : Hid (Below w.heap.size w w1) := Lib.hid (HB0.out.trans (hb.mono HB0.out.size))
  clear ho hb hsl hcap e3 e4 kA HA0 HT0 HB0 HC HSZ HMB HML
  have kA := HA1.out.c
  have fA := HA1.out.f
  have lA := HA1.out.lt
  go_upto_region 2 with fail
  have HA2 := Lib.hid (HA1.out.set (n := 2) (.slice q' m c') (by simp))
  have HT2 := Lib.hid (HT1.out.other (B' := w.heap.size) (n := 2) (.slice q' m c') (by omega))
  have HB2 : Hid (Below w.heap.size w (w1.setCell ⟨w.heap.size, 2, none⟩ (.slice q' m c'))) := Lib.hid (HB1.out.setCell (p := ⟨w.heap.size, 2, none⟩) (Nat.le_refl _) _)
  have HY2 : Hid (OwnM w.heap.size (w1.setCell ⟨w.heap.size, 2, none⟩ (.slice q' m c')) ⟨s, t, q, m, c, cs⟩ ⟨s, t, q', m, c', cs⟩ ∧ Off (w.heap.size + 1) q' m) := Lib.hid ⟨⟨rfl, rfl, rfl, rfl, HY.out.1.rd.set HY.out.2.1 2 _, HY.out.1.nw⟩, HY.out.2.2⟩
  obtain ⟨w2, hw2⟩ : ∃ z, z = w1.setCell ⟨w.heap.size, 2, none⟩ (.slice q' m c') := ⟨_, rfl⟩
  rw [← hw2] at HA2 HT2 HB2 HY2 ⊢
  clear hw2 HA1 HT1 HB1 HY kA fA lA
  have kA := HA2.out.c
  have kT := HT2.out.c
  have fT := HT2.out.f
  have lT := HT2.out.lt
  go_wp2_with fail
  exact bodyPost_ret (v := .agg #[.int .i64 s, .int .i64 t, .slice q' m c']) (by simp [results, Try.results18, go_sem, *]) rfl ⟨⟨s, t, q', m, c', cs⟩, rfl, ⟨rfl, rfl, rfl, rfl, ((HY2.out.1.rd.set HY2.out.2 0 _).set HY2.out.2 1 _).set HY2.out.2 2 _, HY2.out.1.nw⟩, set3_below HB2.out (by omega) _ _ _⟩
end Go.Proofs.Ytbogkloemmddcaa
