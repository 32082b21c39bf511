/- Where a list comes to an interval; room; whether there was an interval; new logs; the next interval; no condition but that the log reads. -/
import Derived.Test.YtbgllkjhgjoodaaUnH
namespace Go.Proofs.Ytbgllkjhgjoodaa
set_option linter.unusedVariables false
open Go.ChangeShapes Go.WideShapes Go.ChangeAt Go.RowKit

set_option maxHeartbeats 2000000 in
theorem below_any (q : Option Addr) (n x : Nat) (l : List Un) (s : Int) (w : World) (hl : l.length = n) (hs : Sl w q n (unC l)) (hn : n ≤ 10000) (hsort : l.Pairwise fun x y => x.span ≤ y.span) :
    Calls Try.prog 26 #[.slice q n x, .int .i64 s] w fun e w' => e = .returned (.int .i64 (cutU l s : Nat)) ∧ Below w.heap.size w w' := by
  have HQ := Lib.hid (search_any q n x l s 0 0 w hl hs hn hsort)
  obtain ⟨r, hr⟩ : ∃ r, r = cutU l s := ⟨_, rfl⟩
  rw [← hr] at HQ ⊢
  clear hr hs hl hsort
  go_enter Try.func26, Try.ntmps26
  go_wp2_with fail
  refine HQ.out.mono ?_
  rintro e w' ⟨b, rfl, hb⟩
  go_wp2_with fail
  go_ret
  exact ⟨rfl, hb⟩
theorem okB_eq (L : Lg) (s : Int) : okB L s = (rightL L && upB s L.span) := by
  unfold okB
  congr 1
  rw [Bool.eq_iff_iff, up_iff, decide_eq_true_eq]
set_option maxHeartbeats 2000000 in
theorem hadSpan_any (S : Nat → Prop) (v : Value) (L : Lg) (t : Int) (w : World) (h : Lo S w v L) : Calls Try.prog 25 #[v, .int .i64 t] w fun e w' => e = .returned (.bool (okB L t)) ∧ Below w.heap.size w w' := by
  have HRT : Hid (∀ W, Below w.heap.size w W → Calls Try.prog 18 #[v] W fun e w' => e = .returned (.bool (rightL L)) ∧ Below W.heap.size W w') := Lib.hid (fun W hW => right_any S v L W (h.below hW))
  have HE := Lib.hid (okB_eq L t)
  obtain ⟨p, m, c, q, n, d, rfl, hc, -⟩ := h
  obtain ⟨r, hr⟩ : ∃ r, r = rightL L := ⟨_, rfl⟩
  obtain ⟨o, ho⟩ : ∃ o, o = okB L t := ⟨_, rfl⟩
  rw [← hr] at HRT HE
  rw [← ho] at HE ⊢
  obtain ⟨s, hs⟩ : ∃ s, s = L.span := ⟨_, rfl⟩
  rw [← hs] at HRT HE ⊢
  clear hr ho hs hc
  obtain ⟨u, hu⟩ : ∃ u, upB t s = u := ⟨_, rfl⟩
  have HU := Lib.hid hu
  rw [hu] at HE
  clear hu
  have HB0 : Hid (Below w.heap.size w (w.alloc (.cells #[.slice p m c, .int .i64 s, .slice q n d] 25))) := Lib.hid ((Below.refl _ _).alloc (Nat.le_refl _) _)
  have HK0 : Hid (Blk (w.alloc (.cells #[.slice p m c, .int .i64 s, .slice q n d] 25)) w.heap.size #[.slice p m c, .int .i64 s, .slice q n d]) := Lib.hid (Blk.new _ _ _)
  obtain ⟨w0, hw0⟩ : ∃ w0, w0 = w.alloc (.cells #[.slice p m c, .int .i64 s, .slice q n d] 25) := ⟨_, rfl⟩
  rw [← hw0] at HB0 HK0
  have HW0 := Lib.hid hw0
  clear hw0
  go_enter Try.func25, Try.ntmps25
  have kA := HK0.out.c
  go_upto_region 1 with fail
  rw [← HW0.out]
  clear HW0
  go_wp2_with fail
  refine (HRT.out _ HB0.out).mono ?_
  rintro e w1 ⟨rfl, hb⟩
  have HK1 := Lib.hid (HK0.out.below hb)
  have HB1 : Hid (Below w.heap.size w w1) := Lib.hid (HB0.out.trans (hb.mono HB0.out.size))
  clear hb kA HK0 HB0 HRT
  cases r with
  | false =>
    go_wp2_with fail
    go_ret
    exact ⟨by rw [HE.out]; rfl, HB1.out⟩
  | true =>
    have kA := HK1.out.c
    go_wp2_with fail
    refine (upTo_any t s w1).mono ?_
    rintro e w2 ⟨rfl, rfl⟩
    rw [HU.out]
    go_wp2_with fail
    go_ret
    exact ⟨by rw [HE.out]; rfl, HB1.out⟩
set_option maxHeartbeats 2000000 in
theorem room_any (S : Nat → Prop) (v : Value) (L : Lg) (w : World) (h : Lo S w v L) : Calls Try.prog 19 #[v] w fun e w' => e = .returned (.int .i64 (roomL L)) ∧ Below w.heap.size w w' := by
  have HRT : Hid (∀ W, Below w.heap.size w W → Calls Try.prog 18 #[v] W fun e w' => e = .returned (.bool (rightL L)) ∧ Below W.heap.size W w') := Lib.hid (fun W hW => right_any S v L W (h.below hW))
  obtain ⟨p, m, c, q, n, d, rfl, hc, -⟩ := h
  have hn := hc.n10
  have HE : Hid (roomL L = if rightL L then 256 - (n : Int) else 0) := Lib.hid (by rw [← hc.ll]; rfl)
  obtain ⟨r, hr⟩ : ∃ r, r = rightL L := ⟨_, rfl⟩
  obtain ⟨o, ho⟩ : ∃ o, o = roomL L := ⟨_, rfl⟩
  rw [← hr] at HRT HE
  rw [← ho] at HE ⊢
  obtain ⟨s, hs⟩ : ∃ s, s = L.span := ⟨_, rfl⟩
  rw [← hs] at HRT ⊢
  clear hr ho hs hc
  have HB0 : Hid (Below w.heap.size w (w.alloc (.cells #[.slice p m c, .int .i64 s, .slice q n d] 25))) := Lib.hid ((Below.refl _ _).alloc (Nat.le_refl _) _)
  have HK0 : Hid (Blk (w.alloc (.cells #[.slice p m c, .int .i64 s, .slice q n d] 25)) w.heap.size #[.slice p m c, .int .i64 s, .slice q n d]) := Lib.hid (Blk.new _ _ _)
  obtain ⟨w0, hw0⟩ : ∃ w0, w0 = w.alloc (.cells #[.slice p m c, .int .i64 s, .slice q n d] 25) := ⟨_, rfl⟩
  rw [← hw0] at HB0 HK0
  have HW0 := Lib.hid hw0
  clear hw0
  have f1 : IntKind.i64.wrap ((256 : Int) - (n : Int)) = 256 - (n : Int) := by rw [IntKind.wrap_i64]; omega
  have f2 : wrap64 ((256 : Int) - (n : Int)) = 256 - (n : Int) := by unfold wrap64; omega
  go_enter Try.func19, Try.ntmps19
  have kA := HK0.out.c
  go_upto_region 1 with fail
  rw [← HW0.out]
  clear HW0
  go_wp2_with fail
  refine (HRT.out _ HB0.out).mono ?_
  rintro e w1 ⟨rfl, hb⟩
  have HK1 := Lib.hid (HK0.out.below hb)
  have HB1 : Hid (Below w.heap.size w w1) := Lib.hid (HB0.out.trans (hb.mono HB0.out.size))
  clear hb kA HK0 HB0 HRT
  cases r with
  | false =>
    go_wp2_with fail
    go_ret
    exact ⟨by rw [HE.out]; rfl, HB1.out⟩
  | true =>
    have kA := HK1.out.c
    go_wp2_with fail
    go_ret
    exact ⟨by rw [HE.out]; rfl, HB1.out⟩

set_option maxHeartbeats 2000000 in
theorem new_any (S : Nat → Prop) (k : Int) (w : World) (hS : ∀ R, S R → R < w.heap.size) : Calls Try.prog 14 #[.int .i64 k] w fun e w' => OutL S w w' e (newL k) (newE k) := by
  have HM := Lib.hid (fun W => mayBe_any k W)
  obtain ⟨b, hb⟩ : ∃ b, b = sizeB k := ⟨_, rfl⟩
  have HC : Hid (newL k = if b = true then ⟨List.replicate k.toNat 0, 0, []⟩ else ⟨[], 0, []⟩) := Lib.hid (by rw [hb]; rfl)
  have HE : Hid (newE k = if b = true then 0 else 1) := Lib.hid (by rw [hb]; rfl)
  rw [← hb] at HM
  have HN : Hid (b = true → 1 ≤ k ∧ k ≤ 64) := Lib.hid (fun e => by
    rw [hb] at e
    exact of_decide_eq_true (p := 1 ≤ k ∧ k ≤ 64) e)
  obtain ⟨L, hL⟩ : ∃ L, L = newL k := ⟨_, rfl⟩
  obtain ⟨E, hE⟩ : ∃ E, E = newE k := ⟨_, rfl⟩
  rw [← hL] at HC ⊢
  rw [← hE] at HE ⊢
  clear hL hE hb
  obtain ⟨i0, hi, hz0, hz1, hz2⟩ := info_parts info26
  have HI := Lib.hid (And.intro hi (And.intro hz0 (And.intro hz1 hz2)))
  clear hi hz0 hz1 hz2
  obtain ⟨w0, hw0⟩ : ∃ w0, w0 = w.alloc (.cells #[.slice none 0 0, .int .i64 0, .slice none 0 0] 25) := ⟨_, rfl⟩
  have HB0 : Hid (Below w.heap.size w w0) := Lib.hid (by rw [hw0]; exact (Below.refl _ _).alloc (Nat.le_refl _) _)
  have HK0 : Hid (Blk w0 w.heap.size #[.slice none 0 0, .int .i64 0, .slice none 0 0]) := Lib.hid (by rw [hw0]; exact Blk.new _ _ _)
  have HSZ : Hid (w0.heap.size = w.heap.size + 1) := Lib.hid (by rw [hw0]; exact World.size_alloc _ _)
  have HW0 := Lib.hid hw0
  clear hw0
  go_enter Try.func14, Try.ntmps14
  go_upto_region 1 with fail
  rw [← HW0.out]
  clear HW0
  go_wp2_with fail
  refine (HM.out _).mono ?_
  rintro e w' ⟨rfl, rfl⟩
  cases b with
  | false =>
    have hC : L = ⟨[], 0, []⟩ := HC.out
    have hE : E = 1 := HE.out
    subst hC hE
    clear HC HE HN HI HM
    have kK := HK0.out.c
    have fK := HK0.out.f
    have lK := HK0.out.lt
    go_wp2_with fail
    refine bodyPost_ret (v := .tuple #[.agg #[.slice none 0 0, .int .i64 0, .slice none 0 0], .int .i64 1]) (by simp [results, Try.results14, go_sem, *]) rfl ⟨_, rfl, OwnL.out (base := w.heap.size + 1) (p := none) (m := 0) (c := 0) (q := none) (n := 0) (d := 0) (L := ⟨[], 0, []⟩) ⟨World.ownsRow_nil _ _ _ _, World.ownsRow_nil _ _ _ _, fun g e => (by cases e), Nat.zero_le _, Nat.zero_le _⟩ (fun R hR => by have := hS R hR; omega), ?_⟩
    exact set3_below HB0.out (Nat.le_refl _) _ _ _
  | true =>
    obtain ⟨h1, h8⟩ := HN.out rfl
    obtain ⟨N, rfl⟩ := Int.eq_ofNat_of_zero_le (show 0 ≤ k by omega)
    have hC : L = ⟨List.replicate N 0, 0, []⟩ := HC.out
    have hE : E = 0 := HE.out
    subst hC hE
    have hN8 : N ≤ 64 := by omega
    clear HC HE HN HM h1 h8
    have kK := HK0.out.c
    have fK := HK0.out.f
    have lK := HK0.out.lt
    go_wp2_with (first | (refine wpList_make_full _ rfl _ _ 22 rfl w0.heap.size 26 i0 (.int .u32 0) 1 Try.underlying22 HI.out.1 HI.out.2.1 HI.out.2.2.1 .i64 .i64 N N N rfl rfl rfl rfl (by rw [HI.out.2.2.2]; omega) (by unfold maxLen; omega) (Nat.le_refl _) ?_))
    intro w1 g1 g2
    have e1 : (madeCells #[Value.int .u32 0] N).toList = List.replicate N (.int .u32 0) := toList_madeCells_one _ _
    have HO : Hid (w1.ownsRow (w.heap.size + 1) 26 1 (.slice (some ⟨w0.heap.size, 0, none⟩) N N) N (wdC (List.replicate N 0))) := Lib.hid (by rw [← wdC_rep, ← e1]; exact own_base g1 (by rw [HSZ.out]; exact Nat.le_refl _))
    have HB1 : Hid (Below w0.heap.size w0 w1) := Lib.hid ((Below.refl _ _).grown g2 (Nat.le_refl _) (fun k hk => by cases hk))
    have HK1 := Lib.hid (HK0.out.below HB1.out)
    have HBW : Hid (Below w.heap.size w w1) := Lib.hid (HB0.out.trans (HB1.out.mono HB0.out.size))
    obtain ⟨g, hg⟩ : ∃ g, g = w0.heap.size := ⟨_, rfl⟩
    rw [← hg] at HO ⊢
    clear g1 g2 e1 hg HB1 HK0 HSZ HB0 kK fK lK
    have kK := HK1.out.c
    have fK := HK1.out.f
    have lK := HK1.out.lt
    go_wp2_with fail
    refine bodyPost_ret (v := .tuple #[.agg #[.slice (some ⟨g, 0, none⟩) N N, .int .i64 0, .slice none 0 0], .int .i64 0]) (by simp [results, Try.results14, go_sem, *]) rfl ⟨_, rfl, OwnL.out (base := w.heap.size + 1) (OwnL.setOff3 (L := ⟨List.replicate N 0, 0, []⟩) ⟨HO.out, World.ownsRow_nil _ _ _ _, fun g e => (by intro e2; cases e2), by omega, Nat.zero_le _⟩ (by omega) _ _ _) (fun R hR => by have := hS R hR; omega), ?_⟩
    exact set3_below HBW.out (Nat.le_refl _) _ _ _

/-- A call's own copy of a log, in a variable, beside the result's. -/
structure St (w W : World) (bo : Nat) (p : Option Addr) (m c : Nat) (s : Int) (q : Option Addr) (n d : Nat) (M : List Int) (l : List Un) : Prop where
  ht : Blk W (w.heap.size + 1) #[.slice none 0 0, .int .i64 0, .slice none 0 0]
  hk : Blk W bo #[.slice p m c, .int .i64 s, .slice q n d]
  ho : OwnL (w.heap.size + 2) W p m c q n d ⟨M, s, l⟩
  hb : Below w.heap.size w W
  ge : w.heap.size + 2 ≤ bo
  np : ∀ g, (Value.slice p m c).ownBlock = some g → g ≠ bo
  nq : ∀ g, (Value.slice q n d).ownBlock = some g → g ≠ bo
theorem St.below {w W W' : World} {bo : Nat} {p q : Option Addr} {m c n d : Nat} {s : Int} {M : List Int} {l : List Un} (h : St w W bo p m c s q n d M l) (hb : Below W.heap.size W W') : St w W' bo p m c s q n d M l :=
  ⟨h.ht.below hb, h.hk.below hb, h.ho.below hb, h.hb.trans (hb.mono h.hb.size), h.ge, h.np, h.nq⟩
theorem St.make {w w1 : World} {p q : Option Addr} {m c n d : Nat} {s : Int} {M : List Int} {l : List Un} (h : OwnL (w.heap.size + 2) w1 p m c q n d ⟨M, s, l⟩) (hb : Below w.heap.size w w1) (ht : Blk w1 (w.heap.size + 1) #[.slice none 0 0, .int .i64 0, .slice none 0 0]) (hs : w.heap.size + 2 ≤ w1.heap.size) :
    St w (w1.alloc (.cells #[.slice p m c, .int .i64 s, .slice q n d] 25)) w1.heap.size p m c s q n d M l :=
  ⟨ht.alloc _, Blk.new _ _ _, h.below ((Below.refl _ _).alloc (Nat.le_refl _) _), hb.alloc hb.size _, hs, fun g e => by have := (h.mo.lt g e).2; omega, fun g e => by have := (h.lo.lt g e).2; omega⟩
theorem St.lo {w W : World} {bo : Nat} {p q : Option Addr} {m c n d : Nat} {s : Int} {M : List Int} {l : List Un} (h : St w W bo p m c s q n d M l) : Lo (fun R => R < w.heap.size + 2) W (.agg #[.slice p m c, .int .i64 s, .slice q n d]) ⟨M, s, l⟩ := h.ho.out (fun R hR => hR)
theorem St.span {w W : World} {bo : Nat} {p q : Option Addr} {m c n d : Nat} {s : Int} {M : List Int} {l : List Un} (h : St w W bo p m c s q n d M l) (t : Int) : St w (W.setCell ⟨bo, 1, none⟩ (.int .i64 t)) bo p m c t q n d M l :=
  ⟨h.ht.other _ (by have := h.ge; omega), h.hk.set (n := 1) _ (by simp), ⟨own_off h.ho.mo h.np _ _, own_off h.ho.lo h.nq _ _, h.ho.sep, h.ho.m10, h.ho.n10⟩, h.hb.setCell (p := ⟨bo, 1, none⟩) (by show w.heap.size ≤ bo; have := h.ge; omega) _, h.ge, h.np, h.nq⟩
theorem St.out {S : Nat → Prop} {w W : World} {bo : Nat} {p q : Option Addr} {m c n d : Nat} {s : Int} {M : List Int} {l : List Un} (h : St w W bo p m c s q n d M l) (hS : ∀ R, S R → R < w.heap.size) (X : Int) {L : Lg} {E : Int} (hL : L = ⟨M, s, l⟩) (hE : E = X) :
    OutL S w (((W.setCell ⟨w.heap.size + 1, 0, none⟩ (.slice p m c)).setCell ⟨w.heap.size + 1, 1, none⟩ (.int .i64 s)).setCell ⟨w.heap.size + 1, 2, none⟩ (.slice q n d)) (.returned (.tuple #[.agg #[.slice p m c, .int .i64 s, .slice q n d], .int .i64 X])) L E := by
  subst hL hE
  exact ⟨_, rfl, (h.ho.setOff3 (by omega) _ _ _).out (fun R hR => by have := hS R hR; omega), set3_below h.hb (by omega) _ _ _⟩
end Go.Proofs.Ytbgllkjhgjoodaa
