/- The document's own Back and Sure; no condition but that the gate reads. -/
import Derived.Test.YteffmidpinlpjaaCmS
import Derived.Test.YteffmidpinlpjaaCmL
namespace Go.Proofs.Yteffmidpinlpjaa
set_option linter.unusedVariables false
set_option linter.unusedSimpArgs false
open Go.ChangeShapes Go.WideShapes Go.ChangeAt Go.RowKit

set_option maxHeartbeats 4000000 in
set_option maxRecDepth 100000 in
theorem rback_any (S : Nat → Prop) (v : Value) (L : Gt) (t : Int) (w : World) (h : Lo S w v L) (hS : ∀ R, S R → R < w.heap.size) : Calls Try.prog 13 #[v, .int .i64 t] w fun e w' => OutL S w w' e (backG L t) (okE L t) := by
  have HSS := Lib.hid hS
  have HX := Lib.hid (h.later (S' := fun R => S R ∨ w.heap.size ≤ R) (fun R hR => hR))
  have HR : Hid (∀ W, Below w.heap.size w W → Calls Try.prog 15 #[v] W fun e w' => e = .returned (.bool (rightG L)) ∧ Below W.heap.size W w') := Lib.hid (fun W hW => rright_any S v L W (h.below hW))
  have HSPL : Hid (∀ W, Below w.heap.size w W → Calls Try.prog 26 #[v, .int .i64 t] W fun e w' => ∃ a x c b y d, e = .returned (.tuple #[.slice a x c, .slice b y d]) ∧ Two W.heap.size w' a x c b y d (belowL L.held t) (fromL L.held t) ∧ Below W.heap.size W w') := Lib.hid (fun W hW => rsplit_any S v L t W (h.below hW))
  have HOK : Hid (okG L t = (rightG L && spanB t)) := Lib.hid rfl
  have HNO : Hid (okG L t = false → backG L t = L ∧ okE L t = 1) := Lib.hid (fun e => ⟨by unfold backG; rw [e]; rfl, okE_no e⟩)
  have HYES : Hid (okG L t = true → backG L t = ⟨belowL L.held t, L.out⟩ ∧ okE L t = 0) := Lib.hid (fun e => ⟨back_ok e, okE_ok e⟩)
  obtain ⟨p, m, c, q, n, d, rfl, hc, -⟩ := h
  have HC := Lib.hid hc
  have hm := hc.m10
  have hn := hc.n10
  have HML : Hid (L.held.length = m) := Lib.hid hc.ml
  have HLL : Hid (L.out.length = n) := Lib.hid hc.ll
  have HSP := Lib.hid (fun W => rspan_any t W)
  obtain ⟨r, hr⟩ : ∃ z, z = rightG L := ⟨_, rfl⟩
  obtain ⟨u, hu⟩ : ∃ z, z = spanB t := ⟨_, rfl⟩
  rw [← hr] at HR HOK
  rw [← hu] at HSP HOK
  clear hr hu hc hS
  obtain ⟨w0, hw0⟩ : ∃ w0, w0 = (w.alloc (.cells #[.slice p m c, .slice q n d] 25)).alloc (.cells #[.slice none 0 0, .slice none 0 0] 25) := ⟨_, rfl⟩
  have HB0 : Hid (Below w.heap.size w w0) := Lib.hid (by rw [hw0]; exact ((Below.refl _ _).alloc (Nat.le_refl _) _).alloc (by simp) _)
  have HA0 : Hid (Blk w0 w.heap.size #[.slice p m c, .slice q n d]) := Lib.hid (by rw [hw0]; exact ((Blk.new _ _ _).alloc _))
  have HT0 : Hid (Blk w0 (w.heap.size + 1) #[.slice none 0 0, .slice none 0 0]) := Lib.hid (by
    have := Blk.new (w.alloc (.cells #[.slice p m c, .slice q n d] 25)) #[.slice none 0 0, .slice none 0 0] 25
    simp only [World.size_alloc] at this
    rw [hw0]; exact this)
  have HW0 := Lib.hid hw0
  clear hw0
  go_enter Try.func13, Try.ntmps13
  go_upto_region 1 with fail
  rw [← HW0.out]
  clear HW0
  have kA := HA0.out.c
  go_wp2_with fail
  refine (HR.out w0 HB0.out).mono ?_
  rintro e w1 ⟨rfl, hb⟩
  have HA1 := Lib.hid (HA0.out.below hb)
  have HT1 := Lib.hid (HT0.out.below hb)
  have HB1 : Hid (Below w.heap.size w w1) := Lib.hid (HB0.out.trans (hb.mono HB0.out.size))
  clear hb HA0 HT0 HB0 kA HR
  cases r with
  | false =>
    have HN := Lib.hid (HNO.out (by rw [HOK.out]; rfl))
    clear HNO HYES HSPL HOK
    have kA := HA1.out.c
    have kT := HT1.out.c
    have fT := HT1.out.f
    have lT := HT1.out.lt
    go_wp2_with fail
    exact bodyPost_ret (v := .tuple #[.agg #[.slice p m c, .slice q n d], .int .i64 1]) (by simp [results, Try.results13, go_sem, *]) rfl ⟨_, by rw [HN.out.2], by rw [HN.out.1]; exact ((HX.out.below HB1.out).set2 (R := w.heap.size + 1) (.inr (by omega)) _ _).weak (fun R hR => .inl hR), set2_below HB1.out (by omega) _ _⟩
  | true =>
    have kA := HA1.out.c
    go_wp2_with fail
    refine (HSP.out w1).mono ?_
    rintro e w2 ⟨rfl, rfl⟩
    cases u with
    | false =>
      have HN := Lib.hid (HNO.out (by rw [HOK.out]; rfl))
      clear HNO HYES HSPL HOK kA
      have kA := HA1.out.c
      have kT := HT1.out.c
      have fT := HT1.out.f
      have lT := HT1.out.lt
      go_wp2_with fail
      exact bodyPost_ret (v := .tuple #[.agg #[.slice p m c, .slice q n d], .int .i64 1]) (by simp [results, Try.results13, go_sem, *]) rfl ⟨_, by rw [HN.out.2], by rw [HN.out.1]; exact ((HX.out.below HB1.out).set2 (R := w.heap.size + 1) (.inr (by omega)) _ _).weak (fun R hR => .inl hR), set2_below HB1.out (by omega) _ _⟩
    | true =>
      have HN := Lib.hid (HYES.out (by rw [HOK.out]; rfl))
      clear HNO HYES HOK
      go_wp2_with fail
      refine (HSPL.out w1 HB1.out).mono ?_
      rintro e w3 ⟨a, x, ca, b, y, cb, rfl, htwo, hb⟩
      have HTW := Lib.hid htwo
      have HA3 := Lib.hid (HA1.out.below hb)
      have HT3 := Lib.hid (HT1.out.below hb)
      have HB3 : Hid (Below w.heap.size w w3) := Lib.hid (HB1.out.trans (hb.mono HB1.out.size))
      have HG1 : Hid (w.heap.size + 1 < w1.heap.size) := Lib.hid HT1.out.lt
      clear htwo hb kA HSPL HA1 HT1
      have kA := HA3.out.c
      have kT := HT3.out.c
      have fT := HT3.out.f
      have lT := HT3.out.lt
      have HRD : Hid (Lc w3 a x ca q n d ⟨belowL L.held t, L.out⟩ ∧ (∀ R, R < w1.heap.size → Off R a x)) := Lib.hid (by
        obtain ⟨p', c', e, hs⟩ := Sl.own HTW.out.ao
        injection e with e1 e2 e3
        subst e1
        obtain ⟨p', c', e, hcap⟩ := own_cap HTW.out.ao
        injection e with e1 e2 e3
        subst e3
        have hx : x ≤ 10000 := by rw [← HTW.out.al.1]; exact Nat.le_trans (List.length_filter_le _ _) (by have := HML.out; omega)
        exact ⟨⟨HTW.out.al.1, HLL.out, hs, (HC.out.below HB3.out).ls, hcap, HC.out.nd, hx, hn⟩, fun R hR => own_offR HTW.out.ao hR⟩)
      go_wp2_with fail
      have hQ : Off (w.heap.size + 1) q n := HC.out.ls.off (by omega)
      have hA : Off (w.heap.size + 1) a x := HRD.out.2 _ HG1.out
      exact bodyPost_ret (v := .tuple #[.agg #[.slice a x ca, .slice q n d], .int .i64 0]) (by simp [results, Try.results13, go_sem, *]) rfl ⟨_, by rw [HN.out.2], by
        rw [HN.out.1]
        refine ⟨a, x, ca, q, n, d, rfl, (HRD.out.1.set hA hQ 0 _).set hA hQ 1 _, fun R hR => ⟨HRD.out.2 R (by have := HSS.out R hR; have := HG1.out; omega), ?_⟩⟩
        obtain ⟨_, _, _, _, _, _, e, _, h2⟩ := HX.out
        injection e with e
        simp at e
        obtain ⟨⟨rfl, rfl, rfl⟩, rfl, rfl, rfl⟩ := e
        exact (h2 R (.inl hR)).2, set2_below HB3.out (by omega) _ _⟩

set_option maxHeartbeats 4000000 in
set_option maxRecDepth 100000 in
theorem rsure_any (S : Nat → Prop) (v : Value) (L : Gt) (t : Int) (w : World) (h : Lo S w v L) (hS : ∀ R, S R → R < w.heap.size) (h9 : L.out.length ≤ 9000 ∧ L.held.length ≤ 1000) : Calls Try.prog 11 #[v, .int .i64 t] w fun e w' => OutL S w w' e (sureG L t) (okE L t) := by
  have HSS := Lib.hid hS
  have HX := Lib.hid (h.later (S' := fun R => S R ∨ w.heap.size ≤ R) (fun R hR => hR))
  have HR : Hid (∀ W, Below w.heap.size w W → Calls Try.prog 15 #[v] W fun e w' => e = .returned (.bool (rightG L)) ∧ Below W.heap.size W w') := Lib.hid (fun W hW => rright_any S v L W (h.below hW))
  have HSPL : Hid (∀ W, Below w.heap.size w W → Calls Try.prog 26 #[v, .int .i64 t] W fun e w' => ∃ a x c b y d, e = .returned (.tuple #[.slice a x c, .slice b y d]) ∧ Two W.heap.size w' a x c b y d (belowL L.held t) (fromL L.held t) ∧ Below W.heap.size W w') := Lib.hid (fun W hW => rsplit_any S v L t W (h.below hW))
  have HOK : Hid (okG L t = (rightG L && spanB t)) := Lib.hid rfl
  have HNO : Hid (okG L t = false → sureG L t = L ∧ okE L t = 1) := Lib.hid (fun e => ⟨by unfold sureG; rw [e]; rfl, okE_no e⟩)
  have HYES : Hid (okG L t = true → sureG L t = ⟨fromL L.held t, L.out ++ (belowL L.held t).map Hd.td⟩ ∧ okE L t = 0) := Lib.hid (fun e => ⟨sure_ok e, okE_ok e⟩)
  obtain ⟨i0, hi, hz0, hz1, hz2⟩ := info_parts infoT
  have HI := Lib.hid (And.intro hi (And.intro hz0 (And.intro hz1 hz2)))
  clear hi hz0 hz1 hz2
  obtain ⟨p, m, c, q, n, d, rfl, hc, -⟩ := h
  have HC := Lib.hid hc
  have hm := hc.m10
  have hn := hc.n10
  have HML : Hid (L.held.length = m) := Lib.hid hc.ml
  have HLL : Hid (L.out.length = n) := Lib.hid hc.ll
  have HSP := Lib.hid (fun W => rspan_any t W)
  obtain ⟨r, hr⟩ : ∃ z, z = rightG L := ⟨_, rfl⟩
  obtain ⟨u, hu⟩ : ∃ z, z = spanB t := ⟨_, rfl⟩
  rw [← hr] at HR HOK
  rw [← hu] at HSP HOK
  clear hr hu hc hS
  obtain ⟨w0, hw0⟩ : ∃ w0, w0 = (w.alloc (.cells #[.slice p m c, .slice q n d] 25)).alloc (.cells #[.slice none 0 0, .slice none 0 0] 25) := ⟨_, rfl⟩
  have HB0 : Hid (Below w.heap.size w w0) := Lib.hid (by rw [hw0]; exact ((Below.refl _ _).alloc (Nat.le_refl _) _).alloc (by simp) _)
  have HA0 : Hid (Blk w0 w.heap.size #[.slice p m c, .slice q n d]) := Lib.hid (by rw [hw0]; exact ((Blk.new _ _ _).alloc _))
  have HT0 : Hid (Blk w0 (w.heap.size + 1) #[.slice none 0 0, .slice none 0 0]) := Lib.hid (by
    have := Blk.new (w.alloc (.cells #[.slice p m c, .slice q n d] 25)) #[.slice none 0 0, .slice none 0 0] 25
    simp only [World.size_alloc] at this
    rw [hw0]; exact this)
  have HW0 := Lib.hid hw0
  clear hw0
  go_enter Try.func11, Try.ntmps11
  go_upto_region 1 with fail
  rw [← HW0.out]
  clear HW0
  have kA := HA0.out.c
  go_wp2_with fail
  refine (HR.out w0 HB0.out).mono ?_
  rintro e w1 ⟨rfl, hb⟩
  have HA1 := Lib.hid (HA0.out.below hb)
  have HT1 := Lib.hid (HT0.out.below hb)
  have HB1 : Hid (Below w.heap.size w w1) := Lib.hid (HB0.out.trans (hb.mono HB0.out.size))
  clear hb HA0 HT0 HB0 kA HR
  cases r with
  | false =>
    have HN := Lib.hid (HNO.out (by rw [HOK.out]; rfl))
    clear HNO HYES HSPL HOK
    have kA := HA1.out.c
    have kT := HT1.out.c
    have fT := HT1.out.f
    have lT := HT1.out.lt
    go_wp2_with fail
    exact bodyPost_ret (v := .tuple #[.agg #[.slice p m c, .slice q n d], .int .i64 1]) (by simp [results, Try.results11, go_sem, *]) rfl ⟨_, by rw [HN.out.2], by rw [HN.out.1]; exact ((HX.out.below HB1.out).set2 (R := w.heap.size + 1) (.inr (by omega)) _ _).weak (fun R hR => .inl hR), set2_below HB1.out (by omega) _ _⟩
  | true =>
    have kA := HA1.out.c
    go_wp2_with fail
    refine (HSP.out w1).mono ?_
    rintro e w2 ⟨rfl, rfl⟩
    cases u with
    | false =>
      have HN := Lib.hid (HNO.out (by rw [HOK.out]; rfl))
      clear HNO HYES HSPL HOK kA
      have kA := HA1.out.c
      have kT := HT1.out.c
      have fT := HT1.out.f
      have lT := HT1.out.lt
      go_wp2_with fail
      exact bodyPost_ret (v := .tuple #[.agg #[.slice p m c, .slice q n d], .int .i64 1]) (by simp [results, Try.results11, go_sem, *]) rfl ⟨_, by rw [HN.out.2], by rw [HN.out.1]; exact ((HX.out.below HB1.out).set2 (R := w.heap.size + 1) (.inr (by omega)) _ _).weak (fun R hR => .inl hR), set2_below HB1.out (by omega) _ _⟩
    | true =>
      have HN := Lib.hid (HYES.out (by rw [HOK.out]; rfl))
      clear HNO HYES HOK
      go_wp2_with fail
      refine (HSPL.out w1 HB1.out).mono ?_
      rintro e w3 ⟨a, x, ca, b, y, cb, rfl, htwo, hb⟩
      have HTW := Lib.hid htwo
      have HA3 := Lib.hid (HA1.out.below hb)
      have HT3 := Lib.hid (HT1.out.below hb)
      have HB3 : Hid (Below w.heap.size w w3) := Lib.hid (HB1.out.trans (hb.mono HB1.out.size))
      have HG1 : Hid (w.heap.size + 1 < w1.heap.size) := Lib.hid HT1.out.lt
      have HG13 : Hid (w1.heap.size ≤ w3.heap.size) := Lib.hid hb.size
      clear htwo hb kA HSPL HA1 HT1
      have hx : x ≤ 1000 := by rw [← HTW.out.al.1]; exact Nat.le_trans (List.length_filter_le _ _) h9.2
      have hn9 : n ≤ 9000 := by rw [← HLL.out]; exact h9.1
      clear h9
      have kA := HA3.out.c
      have lA := HA3.out.lt
      go_upto_region 5 with (first | (at_builtin; refine wpList_append_sl rfl _ _ 23 rfl w3.heap.size 28 i0 _ 2 16 Try.underlying23 HI.out.1 HI.out.2.1 HI.out.2.2.1 HI.out.2.2.2 rfl (by decide) _ 0 [] rfl (fresh_made (Nat.le_refl _)) q n d (tdC L.out) rfl (by rw [tdC_len, HLL.out]) ((HC.out.below HB3.out).ls.below ((Below.refl _ _).alloc (Nat.le_refl _) _)) (tdC_one _) (by unfold maxLen; omega) (by omega) (by rw [World.size_alloc]; omega) ?_; intro v' w4 g1 g2 g3; rw [Nat.zero_add, List.nil_append] at g1; obtain ⟨q1, d1, rfl, -⟩ := own_cap g1; have HO1 := Lib.hid g1; have HB4 : Hid (Below w3.heap.size w3 w4) := Lib.hid (((Below.refl _ _).alloc (Nat.le_refl _) _).grown g2 (by simp) (fun k hk => by injection hk with hk; exact Nat.le_of_eq hk)); clear g1 g2 g3 kA lA))
      obtain ⟨A, hA⟩ : ∃ z, z = belowL L.held t := ⟨_, rfl⟩
      have HAL : Hid (A.length = x) := Lib.hid (by rw [hA]; exact HTW.out.al.1)
      have HT : Hid (∀ k, k < x → tdC (L.out ++ (A.take (k + 1)).map Hd.td) = tdC (L.out ++ (A.take k).map Hd.td) ++ tdC [(A.getD k zH).td]) := Lib.hid (fun k hk => by rw [map_take_td A k (by rw [HAL.out]; exact hk), ← List.append_assoc, tdC_app])
      have HSA : Hid (Sl w3 a x (hdC A)) := Lib.hid (by
        obtain ⟨p', c', e, hs⟩ := Sl.own HTW.out.ao
        injection e with e1 e2 e3
        subst e1
        rw [hA]; exact hs)
      have HAT : Hid (∀ k, k < x → ∃ b off, a = some ⟨b, off, none⟩ ∧ HdAt w3 b off k (A.getD k zH)) := Lib.hid (fun k hk => hd_at HSA.out HAL.out k hk)
      rw [← hA] at HN
      clear hA
      go_wp2_with fail
      go_loopw [8, 9] (fun s8 s9 wr => ∃ k : Nat, k ≤ x ∧ s9 = .int .i64 k ∧ (∃ q d, s8 = .slice q (n + k) d ∧ wr.ownsRow w3.heap.size 28 2 (.slice q (n + k) d) (n + k) (tdC (L.out ++ (A.take k).map Hd.td))) ∧ Below w3.heap.size w3 wr) (fun _ s9 _ => x - (intOf s9).toNat)
      case atStart => exact ⟨0, Nat.zero_le _, rfl, ⟨q1, d1, rfl, by rw [List.take_zero, List.map_nil, List.append_nil]; exact HO1.out⟩, HB4.out⟩
      case round =>
        clear HO1 HB4
        obtain ⟨k, hk, rfl, ⟨qk, dk, rfl, ho⟩, hb⟩ := hrel
        have HO := Lib.hid ho
        have HB := Lib.hid hb
        clear ho hb
        by_cases hlt : k < x
        · obtain ⟨gb, off, rfl, hat⟩ := HAT.out k hlt
          obtain ⟨l0, c0, c1, c2⟩ := hat.below HB.out
          have hkI : (k : Int) < (x : Int) := by omega
          have HTK := Lib.hid (HT.out k hlt)
          obtain ⟨z, hz⟩ : ∃ z, z = A.getD k zH := ⟨_, rfl⟩
          rw [← hz] at c0 c1 c2 HTK
          obtain ⟨⟨yc, yv⟩, ys⟩ := z
          dsimp only at c0 c1 c2 HTK
          obtain ⟨nk, hnk⟩ : ∃ z, z = n + k := ⟨_, rfl⟩
          rw [← hnk] at HO ⊢
          have HNK : Hid (n + (k + 1) = nk + 1) := Lib.hid (by omega)
          have hnb : nk ≤ 10000 := by omega
          clear hat hz hnk
          go_upto_region 8 with fail
          go_upto_region 7 with (first | (at_builtin; refine wpList_append_sl rfl _ _ 23 rfl w3.heap.size 28 i0 _ 2 16 Try.underlying23 HI.out.1 HI.out.2.1 HI.out.2.2.1 HI.out.2.2.2 rfl (by decide) _ nk (tdC (L.out ++ (A.take k).map Hd.td)) rfl (own_below HO.out ((Below.refl _ _).alloc (Nat.le_refl _) _)) (some ⟨wr.heap.size, 0, none⟩) 1 1 (tdC [⟨yc, yv⟩]) rfl rfl (blk_sl (Blk.new _ _ _)) (tdC_one _) (by unfold maxLen; omega) (by omega) (by have := HB.out.size; rw [World.size_alloc]; omega) ?_; intro v' w5 g1 g2 g3; obtain ⟨q', d', rfl, -⟩ := own_cap g1; have HO2 := Lib.hid g1; have HB2 : Hid (Below w3.heap.size w3 w5) := Lib.hid ((HB.out.alloc HB.out.size _).grown g2 (by have := HB.out.size; rw [World.size_alloc]; omega) (fun k hk => (HO.out.lt k hk).1)); clear g1 g2 g3 c0 c1 c2))
          go_wp2_with fail
          go_roundw
          case rel => exact ⟨k + 1, by omega, by go_num, ⟨q', d', by rw [HNK.out], by rw [HTK.out, HNK.out]; exact HO2.out⟩, HB2.out⟩
          case measure => simp [intOf]; omega
        · have hkn : k = x := by omega
          have hkI : ¬ (k : Int) < (x : Int) := by omega
          have HTK : Hid (A.take k = A) := Lib.hid (by rw [hkn, ← HAL.out, List.take_length])
          have HTR := Lib.hid (HT3.out.below HB.out)
          have HBR : Hid (Below w.heap.size w wr) := Lib.hid (HB3.out.trans (HB.out.mono HB3.out.size))
          have HRD : Hid (Lc wr b y cb qk (n + k) dk ⟨fromL L.held t, L.out ++ A.map Hd.td⟩ ∧ (∀ R, R < w1.heap.size → Off R b y ∧ Off R qk (n + k))) := Lib.hid (by
            obtain ⟨p', c', e, hs⟩ := Sl.own HTW.out.bo
            injection e with e1 e2 e3
            subst e1
            obtain ⟨p', c', e, hcap⟩ := own_cap HTW.out.bo
            injection e with e1 e2 e3
            subst e3
            obtain ⟨p', c', e, hs2⟩ := Sl.own HO.out
            injection e with e1 e2 e3
            subst e1
            obtain ⟨p', c', e, hcap2⟩ := own_cap HO.out
            injection e with e1 e2 e3
            subst e3
            have hy : y ≤ 10000 := by rw [← HTW.out.al.2]; exact Nat.le_trans (List.length_filter_le _ _) (by have := HML.out; omega)
            rw [HTK.out] at hs2
            have h13 : w1.heap.size ≤ w3.heap.size := HG13.out
            exact ⟨⟨HTW.out.al.2, by show (L.out ++ A.map Hd.td).length = _; rw [List.length_append, List.length_map, HAL.out, HLL.out, hkn], hs.below HB.out, hs2, hcap, hcap2, hy, by omega⟩, fun R hR => ⟨own_offR HTW.out.bo hR, own_offR HO.out (by omega)⟩⟩)
          clear hkn HTK HT HAT HSA HO HTW
          have kT := HTR.out.c
          have fT := HTR.out.f
          have lT := HTR.out.lt
          go_wp2_with fail
          have hA := HRD.out.2 _ HG1.out
          exact bodyPost_ret (v := .tuple #[.agg #[.slice b y cb, .slice qk (n + k) dk], .int .i64 0]) (by simp [results, Try.results11, go_sem, *]) rfl ⟨_, by rw [HN.out.2], by
            rw [HN.out.1]
            exact ⟨b, y, cb, qk, n + k, dk, rfl, (HRD.out.1.set hA.1 hA.2 0 _).set hA.1 hA.2 1 _, fun R hR => HRD.out.2 R (by have := HSS.out R hR; have := HG1.out; omega)⟩, set2_below HBR.out (by omega) _ _⟩

end Go.Proofs.Yteffmidpinlpjaa
