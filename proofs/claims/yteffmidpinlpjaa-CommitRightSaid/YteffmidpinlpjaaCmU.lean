/- The document's own Tell; no condition but that the gate reads. -/
import Derived.Test.YteffmidpinlpjaaCmS
import Derived.Test.YteffmidpinlpjaaCmL
namespace Go.Proofs.Yteffmidpinlpjaa
set_option linter.unusedVariables false
set_option linter.unusedSimpArgs false
open Go.ChangeShapes Go.WideShapes Go.ChangeAt Go.RowKit

set_option maxHeartbeats 4000000 in
set_option maxRecDepth 100000 in
theorem rtell_any (S : Nat → Prop) (v : Value) (L : Gt) (t : Int) (T0 : Td) (w : World) (h : Lo S w v L) (hS : ∀ R, S R → R < w.heap.size) : Calls Try.prog 8 #[v, .int .i64 t, .agg #[.int .i64 T0.core, .int .u32 T0.val]] w fun e w' => OutL S w w' e (tellG L t T0) (tellE L t) := by
  obtain ⟨tc, tv⟩ := T0
  dsimp only
  have HSS := Lib.hid hS
  have HX := Lib.hid (h.later (S' := fun R => S R ∨ w.heap.size ≤ R) (fun R hR => hR))
  have HR : Hid (∀ W, Below w.heap.size w W → Calls Try.prog 15 #[v] W fun e w' => e = .returned (.bool (rightG L)) ∧ Below W.heap.size W w') := Lib.hid (fun W hW => rright_any S v L W (h.below hW))
  have HSPL : Hid (∀ W, Below w.heap.size w W → Calls Try.prog 26 #[v, .int .i64 t] W fun e w' => ∃ a x c b y d, e = .returned (.tuple #[.slice a x c, .slice b y d]) ∧ Two W.heap.size w' a x c b y d (belowL L.held t) (fromL L.held t) ∧ Below W.heap.size W w') := Lib.hid (fun W hW => rsplit_any S v L t W (h.below hW))
  have HOK : Hid (okG L t = (rightG L && spanB t)) := Lib.hid rfl
  have HNO : Hid (okG L t = false → tellG L t ⟨tc, tv⟩ = L ∧ tellE L t = 1) := Lib.hid (fun e => by unfold tellG tellE tellB; rw [e]; exact ⟨rfl, rfl⟩)
  have HYES : Hid (okG L t = true → (lateB L.held t = true → tellG L t ⟨tc, tv⟩ = L ∧ tellE L t = 1) ∧ (lateB L.held t = false → (L.held.length = 64 → tellG L t ⟨tc, tv⟩ = L ∧ tellE L t = 6) ∧ (¬ L.held.length = 64 → tellG L t ⟨tc, tv⟩ = ⟨L.held ++ [⟨⟨tc, tv⟩, t⟩], L.out⟩ ∧ tellE L t = 0))) := Lib.hid (fun e => by
    unfold tellG tellE tellB
    rw [e]
    refine ⟨fun h => ?_, fun h => ⟨fun h2 => ?_, fun h2 => ?_⟩⟩
    · rw [h]; exact ⟨rfl, rfl⟩
    · rw [h, h2]; exact ⟨rfl, rfl⟩
    · rw [h, show (true && !false) = true from rfl, if_pos rfl, if_neg h2, if_pos rfl, if_neg h2]; exact ⟨rfl, rfl⟩)
  have HL64 : Hid (okG L t = true → L.held.length ≤ 64) := Lib.hid (fun e => (ok_rt e).1.l64)
  have HLT : Hid (lateB L.held t = (decide (0 < L.held.length) && decide (t < (L.held.getD (L.held.length - 1) zH).span))) := Lib.hid rfl
  obtain ⟨i0, hi, hz0, hz1, hz2⟩ := info_parts infoH
  have HI := Lib.hid (And.intro hi (And.intro hz0 (And.intro hz1 hz2)))
  clear hi hz0 hz1 hz2
  obtain ⟨p, m, c, q, n, d, rfl, hc, -⟩ := h
  have HC := Lib.hid hc
  have hm := hc.m10
  have hn := hc.n10
  have HML : Hid (L.held.length = m) := Lib.hid hc.ml
  have HLL : Hid (L.out.length = n) := Lib.hid hc.ll
  have HSP := Lib.hid (fun W => rspan_any t W)
  obtain ⟨r, hr⟩ : ∃ z, z = rightG L := ⟨_, rfl⟩
  obtain ⟨u, hu⟩ : ∃ z, z = spanB t := ⟨_, rfl⟩
  rw [← hr] at HR HOK
  rw [← hu] at HSP HOK
  clear hr hu hc hS
  obtain ⟨w0, hw0⟩ : ∃ w0, w0 = ((w.alloc (.cells #[.slice p m c, .slice q n d] 25)).alloc (.cells #[.int .i64 tc, .int .u32 tv] 28)).alloc (.cells #[.slice none 0 0, .slice none 0 0] 25) := ⟨_, rfl⟩
  have HB0 : Hid (Below w.heap.size w w0) := Lib.hid (by rw [hw0]; exact (((Below.refl _ _).alloc (Nat.le_refl _) _).alloc (by simp) _).alloc (by simp; try omega) _)
  have HA0 : Hid (Blk w0 w.heap.size #[.slice p m c, .slice q n d]) := Lib.hid (by rw [hw0]; exact (((Blk.new _ _ _).alloc _).alloc _))
  have HT0 : Hid (Blk w0 (w.heap.size + 2) #[.slice none 0 0, .slice none 0 0]) := Lib.hid (by
    have := Blk.new ((w.alloc (.cells #[.slice p m c, .slice q n d] 25)).alloc (.cells #[.int .i64 tc, .int .u32 tv] 28)) #[.slice none 0 0, .slice none 0 0] 25
    simp only [World.size_alloc] at this
    rw [hw0]; exact this)
  have HZ0 : Hid (Blk w0 (w.heap.size + 1) #[.int .i64 tc, .int .u32 tv]) := Lib.hid (by
    have := (Blk.new (w.alloc (.cells #[.slice p m c, .slice q n d] 25)) #[.int .i64 tc, .int .u32 tv] 28).alloc (.cells #[.slice none 0 0, .slice none 0 0] 25)
    simp only [World.size_alloc] at this
    rw [hw0]; exact this)
  have HW0 := Lib.hid hw0
  clear hw0
  go_enter Try.func8, Try.ntmps8
  go_upto_region 1 with fail
  rw [← HW0.out]
  clear HW0
  rw [HML.out] at HYES HL64 HLT
  have HG1 : Hid (w.heap.size + 2 < w0.heap.size) := Lib.hid HT0.out.lt
  obtain ⟨G, hG⟩ : ∃ z, z = lateB L.held t := ⟨_, rfl⟩
  rw [← hG] at HYES HLT
  clear hG
  have HCUT : Hid (G = true ∧ ((L.held.getD (m - 1) zH).span ≤ t → False) ∧ 0 < m ∨ G = false ∧ (m = 0 ∨ ¬ t < (L.held.getD (m - 1) zH).span)) := Lib.hid (by
    rw [HLT.out]
    rcases Nat.eq_zero_or_pos m with h0 | h0
    · right; rw [h0]; exact ⟨rfl, .inl rfl⟩
    · by_cases h1 : t < (L.held.getD (m - 1) zH).span
      · left; rw [decide_eq_true h0, decide_eq_true h1]; exact ⟨rfl, fun h => by omega, h0⟩
      · right; rw [decide_eq_false h1]; exact ⟨by simp, .inr h1⟩)
  clear HLT
  go_cut [34] (fun s34 wd => s34 = .bool (!(r && u) || G) ∧ Blk wd w.heap.size #[.slice p m c, .slice q n d] ∧ Blk wd (w.heap.size + 2) #[.slice none 0 0, .slice none 0 0] ∧ Blk wd (w.heap.size + 1) #[.int .i64 tc, .int .u32 tv] ∧ Below w.heap.size w wd ∧ w0.heap.size ≤ wd.heap.size)
  case first =>
    have kA := HA0.out.c
    go_wp2_with fail
    refine (HR.out w0 HB0.out).mono ?_
    rintro e w1 ⟨rfl, hb⟩
    have HA1 := Lib.hid (HA0.out.below hb)
    have HT1 := Lib.hid (HT0.out.below hb)
    have HZ1 := Lib.hid (HZ0.out.below hb)
    have HB1 : Hid (Below w.heap.size w w1) := Lib.hid (HB0.out.trans (hb.mono HB0.out.size))
    have HS1 : Hid (w0.heap.size ≤ w1.heap.size) := Lib.hid hb.size
    clear hb HA0 HT0 HZ0 HB0 kA HR
    cases r with
    | false =>
      go_wp2_with fail
      go_meet
      case rel => exact ⟨rfl, HA1.out, HT1.out, HZ1.out, HB1.out, HS1.out⟩
    | true =>
      have kA := HA1.out.c
      go_wp2_with fail
      refine (HSP.out w1).mono ?_
      rintro e w2 ⟨rfl, rfl⟩
      cases u with
      | false =>
        go_wp2_with fail
        go_meet
        case rel => exact ⟨rfl, HA1.out, HT1.out, HZ1.out, HB1.out, HS1.out⟩
      | true =>
        rcases Nat.eq_zero_or_pos m with h0 | h0
        · have e1 : decide ((0 : Int) < (m : Int)) = false := decide_eq_false (by omega)
          have e1n : decide (0 < m) = false := decide_eq_false (by omega)
          have HGF : Hid (G = false) := Lib.hid (by rcases HCUT.out with h | h; omega; exact h.1)
          clear h0
          go_wp2_with fail
          go_meet
          case rel => exact ⟨by rw [HGF.out]; rfl, HA1.out, HT1.out, HZ1.out, HB1.out, HS1.out⟩
        · have e1 : decide ((0 : Int) < (m : Int)) = true := decide_eq_true (by omega)
          have e1n : decide (0 < m) = true := decide_eq_true h0
          obtain ⟨b, off, rfl, hat⟩ := HC.out.hdAt (m - 1) (by omega)
          obtain ⟨l0, c0, c1, c2⟩ := hat.below HB1.out
          obtain ⟨j, hj⟩ : ∃ j, j = m - 1 := ⟨_, rfl⟩
          have f1 : IntKind.i64.wrap ((m : Int) - 1) = (j : Int) := by rw [IntKind.wrap_i64]; omega
          have f2 : wrap64 ((m : Int) - 1) = (j : Int) := by unfold wrap64; omega
          have hjI1 : (0 : Int) ≤ (j : Int) := by omega
          have hjI2 : (j : Int) < (m : Int) := by omega
          rw [← hj] at c0 c1 c2 HCUT
          obtain ⟨ys, hys⟩ : ∃ z, z = (L.held.getD j zH).span := ⟨_, rfl⟩
          rw [← hys] at c2 HCUT
          clear hat hj hys c0 c1
          by_cases h1 : t < ys
          · have e2 : decide (t < ys) = true := decide_eq_true h1
            have HGF : Hid (G = true) := Lib.hid (by
              rcases HCUT.out with h | h
              · exact h.1
              · rcases h.2 with h | h
                · omega
                · omega)
            clear h1 h0
            go_wp2_with fail
            go_meet
            case rel => exact ⟨by rw [HGF.out]; rfl, HA1.out, HT1.out, HZ1.out, HB1.out, HS1.out⟩
          · have e2 : decide (t < ys) = false := decide_eq_false h1
            have HGF : Hid (G = false) := Lib.hid (by
              rcases HCUT.out with h | h
              · exact (h.2.1 (by omega)).elim
              · exact h.1)
            clear h1 h0
            go_wp2_with fail
            go_meet
            case rel => exact ⟨by rw [HGF.out]; rfl, HA1.out, HT1.out, HZ1.out, HB1.out, HS1.out⟩
  case rest =>
    obtain ⟨rfl, hwa, hwt, hwz, hwb, hws⟩ := hcut
    obtain ⟨w1, hw1⟩ : ∃ z, z = wc := ⟨_, rfl⟩
    rw [← hw1] at hwa hwt hwz hwb hws ⊢
    have HA1 := Lib.hid hwa
    have HT1 := Lib.hid hwt
    have HZ1 := Lib.hid hwz
    have HB1 := Lib.hid hwb
    have HG1' : Hid (w.heap.size + 2 < w1.heap.size) := Lib.hid (Nat.lt_of_lt_of_le HG1.out hws)
    clear hw1 hwa hwt hwz hwb hws HA0 HT0 HZ0 HB0 HR HCUT HSP HSPL HG1
    have HG1 := HG1'
    clear HG1'
    obtain ⟨ok, hok⟩ : ∃ z, z = okG L t := ⟨_, rfl⟩
    rw [← hok] at HOK HNO HYES HL64
    rw [← HOK.out]
    clear hok HOK
    cases ok with
    | false =>
      have HN := Lib.hid (HNO.out (by first | rfl | trivial))
      clear HNO HYES HI HL64
      simp only [Bool.not_false, Bool.true_or]
      have kA := HA1.out.c
      have kT := HT1.out.c
      have fT := HT1.out.f
      have lT := HT1.out.lt
      go_wp2_with fail
      exact bodyPost_ret (v := .tuple #[.agg #[.slice p m c, .slice q n d], .int .i64 1]) (by simp [results, Try.results8, go_sem, *]) rfl ⟨_, by rw [HN.out.2], by rw [HN.out.1]; exact ((HX.out.below HB1.out).set2 (R := w.heap.size + 2) (.inr (by omega)) _ _).weak (fun R hR => .inl hR), set2_below HB1.out (by omega) _ _⟩
    | true =>
      have HY := Lib.hid (HYES.out (by first | rfl | trivial))
      have h64 : m ≤ 64 := HL64.out (by first | rfl | trivial)
      clear HNO HYES HL64
      cases G with
        | true =>
          have HN := Lib.hid (HY.out.1 rfl)
          clear HY HI
          simp only [Bool.not_true, Bool.false_or]
          have kA := HA1.out.c
          have kT := HT1.out.c
          have fT := HT1.out.f
          have lT := HT1.out.lt
          go_wp2_with fail
          exact bodyPost_ret (v := .tuple #[.agg #[.slice p m c, .slice q n d], .int .i64 1]) (by simp [results, Try.results8, go_sem, *]) rfl ⟨_, by rw [HN.out.2], by rw [HN.out.1]; exact ((HX.out.below HB1.out).set2 (R := w.heap.size + 2) (.inr (by omega)) _ _).weak (fun R hR => .inl hR), set2_below HB1.out (by omega) _ _⟩
        | false =>
          simp only [Bool.not_true, Bool.false_or]
          have kA := HA1.out.c
          by_cases hf : m = 64
          · have HN := Lib.hid ((HY.out.2 rfl).1 hf)
            have d1 : decide ((64 : Int) ≤ (m : Int)) = true := decide_eq_true (by omega)
            have d1n : decide (64 ≤ m) = true := decide_eq_true (by omega)
            clear HY HI hf h64 kA
            have kA := HA1.out.c
            have kT := HT1.out.c
            have fT := HT1.out.f
            have lT := HT1.out.lt
            go_wp2_with fail
            exact bodyPost_ret (v := .tuple #[.agg #[.slice p m c, .slice q n d], .int .i64 6]) (by simp [results, Try.results8, go_sem, *]) rfl ⟨_, by rw [HN.out.2], by rw [HN.out.1]; exact ((HX.out.below HB1.out).set2 (R := w.heap.size + 2) (.inr (by omega)) _ _).weak (fun R hR => .inl hR), set2_below HB1.out (by omega) _ _⟩
          · have HN := Lib.hid ((HY.out.2 rfl).2 hf)
            have d1 : decide ((64 : Int) ≤ (m : Int)) = false := decide_eq_false (by omega)
            have d1n : decide (64 ≤ m) = false := decide_eq_false (by omega)
            clear HY hf
            go_upto_region 5 with fail
            clear kA d1 d1n
            have HS0 : Hid (∀ W, Below w1.heap.size w1 W → ((∀ j, W.cell? ⟨w.heap.size, j, none⟩ = (#[.slice p m c, .slice q n d] : Array Value)[j]?) ∧ (∀ j, W.cell? ⟨w.heap.size + 1, j, none⟩ = (#[.int .i64 tc, .int .u32 tv] : Array Value)[j]?)) ∧ Below w1.heap.size w1 W) := Lib.hid (fun W hb => ⟨⟨(HA1.out.below hb).c, (HZ1.out.below hb).c⟩, hb⟩)
            go_cut [50] (fun s50 wd => s50 = .pointer (some ⟨w.heap.size, 0, none⟩) ∧ ∃ p' c', Blk wd w.heap.size #[.slice p' (m + 1) c', .slice q n d] ∧ Blk wd (w.heap.size + 2) #[.slice none 0 0, .slice none 0 0] ∧ wd.ownsRow w1.heap.size 52 3 (.slice p' (m + 1) c') (m + 1) (hdC (L.held ++ [(⟨⟨tc, tv⟩, t⟩ : Hd)])) ∧ Below w.heap.size w wd)
            case first =>
              refine region_planT (fun W : World => ((∀ j, W.cell? ⟨w.heap.size, j, none⟩ = (#[.slice p m c, .slice q n d] : Array Value)[j]?) ∧ (∀ j, W.cell? ⟨w.heap.size + 1, j, none⟩ = (#[.int .i64 tc, .int .u32 tv] : Array Value)[j]?)) ∧ Below w1.heap.size w1 W) 8 (.read 1 (.read 2 (.read 4 (.read 5 (.read 6 (.two 0 7 (.two 3 7 (.one 7 .stop) (.one 3 .stop)) (.one 0 (.one 3 .stop)))))))) (by kernel_rfl) (by kernel_rfl) (HS0.out _ (Below.refl _ _).drew) ?_
              iterate 5
                refine planT_read (v := ?_) rfl (by rfl) ?_ ?_
                rotate_left
                · intro w' hS
                  try dsimp only at hS
                  obtain ⟨⟨hS1, hS2⟩, hS3⟩ := hS
                  go_simp
                  try with_reducible rfl
                try simp only [Act.put, List.setIfInBounds_toArray, List.set_cons_zero, List.set_cons_succ, List.getElem_toArray, List.getElem_cons_zero, List.getElem_cons_succ]
              refine planT_two ?_ ?_
              · obtain ⟨wa, hwa⟩ : ∃ z, z = w1.drew.alloc (.cells #[] 52) := ⟨_, rfl⟩
                have HBA : Hid (Below w1.heap.size w1 wa) := Lib.hid (by rw [hwa]; exact (Below.refl _ _).drew.alloc (Nat.le_refl _) _)
                have HOa : Hid (wa.ownsRow w1.heap.size 52 3 (.slice (some ⟨w1.heap.size, 0, none⟩) 0 0) 0 []) := Lib.hid (by rw [hwa]; exact fresh_made (w := w1.drew) (Nat.le_refl _))
                refine op_make (v := .slice (some ⟨w1.heap.size, 0, none⟩) 0 0) (w1 := wa) rfl (by rfl) (by rw [hwa]; go_simp) ⟨HS0.out _ HBA.out, ?_⟩
                try simp only [Act.put, List.setIfInBounds_toArray, List.set_cons_zero, List.set_cons_succ, List.getElem_toArray, List.getElem_cons_zero, List.getElem_cons_succ]
                refine planT_two ?_ ?_
                · refine op_wp rfl (by rfl) ?_
                  try simp only [List.getElem_toArray, List.getElem_cons_zero, List.getElem_cons_succ]
                  refine (wp_append_sl _ _ 22 rfl w1.heap.size 52 i0 _ 3 24 Try.underlying22 HI.out.1 HI.out.2.1 HI.out.2.2.1 HI.out.2.2.2 rfl (by decide) _ 0 [] rfl HOa.out p m c (hdC L.held) rfl (by rw [hdC_len, HML.out]) ((HC.out.below (HB1.out.trans (HBA.out.mono HB1.out.size))).ms) (hdC_one _) (by unfold maxLen; omega) (by omega) HBA.out.size ?_)
                  intro v5 w6 g1 g2 g3
                  have hrr : w6.ownsRow w1.heap.size 52 3 v5 m (hdC L.held) := by simpa using g1
                  have HBb : Hid (Below w1.heap.size w1 w6) := Lib.hid (HBA.out.grown g2 HBA.out.size (fun k hk => by injection hk with hk; exact Nat.le_of_eq hk))
                  obtain ⟨p5, c5, rfl, _⟩ := own_cap hrr
                  have HRR := Lib.hid hrr
                  clear g1 g2 g3 hrr hwa
                  refine ⟨HS0.out _ HBb.out, ?_⟩
                  try simp only [Act.put, List.setIfInBounds_toArray, List.set_cons_zero, List.set_cons_succ, List.getElem_toArray, List.getElem_cons_zero, List.getElem_cons_succ]
                  refine planT_one ?_
                  obtain ⟨wx, hwx⟩ : ∃ z, z = w6.alloc (.cells #[.int .i64 tc, .int .u32 tv, .int .i64 t] 52) := ⟨_, rfl⟩
                  have HBE : Hid (Below w1.heap.size w1 wx) := Lib.hid (by rw [hwx]; exact HBb.out.alloc HBb.out.size _)
                  have HXE : Hid (Blk wx w6.heap.size (hdC [⟨⟨tc, tv⟩, t⟩]).toArray) := Lib.hid (by rw [hwx]; exact Blk.new _ _ _)
                  have HOE : Hid (wx.ownsRow w1.heap.size 52 3 (.slice p5 m c5) m (hdC L.held)) := Lib.hid (by rw [hwx]; exact own_below HRR.out ((Below.refl w6.heap.size w6).alloc (Nat.le_refl _) _))
                  refine op_make (v := .slice (some ⟨w6.heap.size, 0, none⟩) 1 1) (w1 := wx) rfl (by rfl) (by rw [hwx]; go_simp) ⟨HS0.out _ HBE.out, ?_⟩
                  try simp only [Act.put, List.setIfInBounds_toArray, List.set_cons_zero, List.set_cons_succ, List.getElem_toArray, List.getElem_cons_zero, List.getElem_cons_succ]
                  refine planT_stop ?_
                  simp only [List.drop_succ_cons, List.drop_zero]
                  clear hwx
                  go_wp2_with (first | (at_builtin; refine wpList_append_sl rfl _ _ 22 rfl w1.heap.size 52 i0 _ 3 24 Try.underlying22 HI.out.1 HI.out.2.1 HI.out.2.2.1 HI.out.2.2.2 rfl (by decide) _ m (hdC L.held) rfl HOE.out (some ⟨w6.heap.size, 0, none⟩) 1 1 (hdC [⟨⟨tc, tv⟩, t⟩]) rfl rfl (blk_sl HXE.out) (hdC_one _) (by unfold maxLen; omega) (by omega) HBE.out.size ?_))
                  intro v' w7 g1 g2 g3
                  have hob : ∀ g, (Value.slice p5 m c5).ownBlock = some g → w1.heap.size ≤ g := fun g e => (HOE.out.lt g e).1
                  have hz := HG1.out
                  have ha7 := (HA1.out.below HBE.out).grown g2 (fun e => by have := hob _ e; omega)
                  have ht7 := (HT1.out.below HBE.out).grown g2 (fun e => by have := hob _ e; omega)
                  have hb7 := HBE.out.grown g2 HBE.out.size (fun g e => hob g e)
                  obtain ⟨p2, c2, rfl, hcap2⟩ := own_cap g1
                  have hnb : ∀ g, (Value.slice p2 (m + 1) c2).ownBlock = some g → w1.heap.size ≤ g := fun g e => (g1.lt g e).1
                  have HOW7 : Hid (w7.ownsRow w1.heap.size 52 3 (.slice p2 (m + 1) c2) (m + 1) (hdC (L.held ++ [(⟨⟨tc, tv⟩, t⟩ : Hd)]))) := Lib.hid (by rw [hdC_app]; exact g1)
                  have HA7 := Lib.hid ha7
                  have HT7 := Lib.hid ht7
                  have HB7 := Lib.hid hb7
                  have HNB := Lib.hid hnb
                  clear g1 g2 g3 hob ha7 ht7 hb7 hnb hcap2 hz
                  have kA := HA7.out.c
                  have fA := HA7.out.f
                  have lA := HA7.out.lt
                  go_wp2_with fail
                  go_meet
                  case rel => exact ⟨rfl, p2, c2, HA7.out.set (n := 0) (.slice p2 (m + 1) c2) (by simp), HT7.out.other _ (by omega), own_off HOW7.out (fun g e => by have := HNB.out g e; have := HG1.out; omega) _ _, by exact ((HB1.out.trans (HB7.out.mono HB1.out.size)).setCell (Nat.le_refl _) _)⟩
                · obtain ⟨wx, hwx⟩ : ∃ z, z = wa.alloc (.cells #[.int .i64 tc, .int .u32 tv, .int .i64 t] 52) := ⟨_, rfl⟩
                  have HBX0 : Hid (Below w1.heap.size w1 wx) := Lib.hid (by rw [hwx]; exact HBA.out.alloc HBA.out.size _)
                  have HX0 : Hid (Blk wx wa.heap.size (hdC [⟨⟨tc, tv⟩, t⟩]).toArray) := Lib.hid (by rw [hwx]; exact Blk.new _ _ _)
                  have HZA : Hid (wa.heap.size = w1.heap.size + 1) := Lib.hid (by rw [hwa, World.size_alloc]; rfl)
                  have HOa2 : Hid (wx.ownsRow w1.heap.size 52 3 (.slice (some ⟨w1.heap.size, 0, none⟩) 0 0) 0 []) := Lib.hid (by rw [hwx]; exact own_below HOa.out ((Below.refl wa.heap.size wa).alloc (Nat.le_refl _) _))
                  refine op_make (v := .slice (some ⟨wa.heap.size, 0, none⟩) 1 1) (w1 := wx) rfl (by rfl) (by rw [hwx]; go_simp) ⟨HS0.out _ HBX0.out, ?_⟩
                  try simp only [Act.put, List.setIfInBounds_toArray, List.set_cons_zero, List.set_cons_succ, List.getElem_toArray, List.getElem_cons_zero, List.getElem_cons_succ]
                  refine planT_one ?_
                  refine op_wp rfl (by rfl) ?_
                  try simp only [List.getElem_toArray, List.getElem_cons_zero, List.getElem_cons_succ]
                  refine (wp_append_sl _ _ 22 rfl w1.heap.size 52 i0 _ 3 24 Try.underlying22 HI.out.1 HI.out.2.1 HI.out.2.2.1 HI.out.2.2.2 rfl (by decide) _ 0 [] rfl HOa2.out p m c (hdC L.held) rfl (by rw [hdC_len, HML.out]) ((HC.out.below (HB1.out.trans (HBX0.out.mono HB1.out.size))).ms) (hdC_one _) (by unfold maxLen; omega) (by omega) HBX0.out.size ?_)
                  intro v5 w6 g1 g2 g3
                  have hrr : w6.ownsRow w1.heap.size 52 3 v5 m (hdC L.held) := by simpa using g1
                  have HBE : Hid (Below w1.heap.size w1 w6) := Lib.hid (HBX0.out.grown g2 HBX0.out.size (fun k hk => by injection hk with hk; exact Nat.le_of_eq hk))
                  have HXE : Hid (Blk w6 wa.heap.size (hdC [⟨⟨tc, tv⟩, t⟩]).toArray) := Lib.hid (HX0.out.grown g2 (fun e => by have e2 : some w1.heap.size = some wa.heap.size := e; injection e2 with e2; have := HZA.out; omega))
                  obtain ⟨p5, c5, rfl, _⟩ := own_cap hrr
                  have HOE := Lib.hid hrr
                  clear g1 g2 g3 hrr hwa hwx
                  refine ⟨HS0.out _ HBE.out, ?_⟩
                  try simp only [Act.put, List.setIfInBounds_toArray, List.set_cons_zero, List.set_cons_succ, List.getElem_toArray, List.getElem_cons_zero, List.getElem_cons_succ]
                  refine planT_stop ?_
                  simp only [List.drop_succ_cons, List.drop_zero]
                  go_wp2_with (first | (at_builtin; refine wpList_append_sl rfl _ _ 22 rfl w1.heap.size 52 i0 _ 3 24 Try.underlying22 HI.out.1 HI.out.2.1 HI.out.2.2.1 HI.out.2.2.2 rfl (by decide) _ m (hdC L.held) rfl HOE.out (some ⟨wa.heap.size, 0, none⟩) 1 1 (hdC [⟨⟨tc, tv⟩, t⟩]) rfl rfl (blk_sl HXE.out) (hdC_one _) (by unfold maxLen; omega) (by omega) HBE.out.size ?_))
                  intro v' w7 g1 g2 g3
                  have hob : ∀ g, (Value.slice p5 m c5).ownBlock = some g → w1.heap.size ≤ g := fun g e => (HOE.out.lt g e).1
                  have hz := HG1.out
                  have ha7 := (HA1.out.below HBE.out).grown g2 (fun e => by have := hob _ e; omega)
                  have ht7 := (HT1.out.below HBE.out).grown g2 (fun e => by have := hob _ e; omega)
                  have hb7 := HBE.out.grown g2 HBE.out.size (fun g e => hob g e)
                  obtain ⟨p2, c2, rfl, hcap2⟩ := own_cap g1
                  have hnb : ∀ g, (Value.slice p2 (m + 1) c2).ownBlock = some g → w1.heap.size ≤ g := fun g e => (g1.lt g e).1
                  have HOW7 : Hid (w7.ownsRow w1.heap.size 52 3 (.slice p2 (m + 1) c2) (m + 1) (hdC (L.held ++ [(⟨⟨tc, tv⟩, t⟩ : Hd)]))) := Lib.hid (by rw [hdC_app]; exact g1)
                  have HA7 := Lib.hid ha7
                  have HT7 := Lib.hid ht7
                  have HB7 := Lib.hid hb7
                  have HNB := Lib.hid hnb
                  clear g1 g2 g3 hob ha7 ht7 hb7 hnb hcap2 hz
                  have kA := HA7.out.c
                  have fA := HA7.out.f
                  have lA := HA7.out.lt
                  go_wp2_with fail
                  go_meet
                  case rel => exact ⟨rfl, p2, c2, HA7.out.set (n := 0) (.slice p2 (m + 1) c2) (by simp), HT7.out.other _ (by omega), own_off HOW7.out (fun g e => by have := HNB.out g e; have := HG1.out; omega) _ _, by exact ((HB1.out.trans (HB7.out.mono HB1.out.size)).setCell (Nat.le_refl _) _)⟩
              · obtain ⟨wa, hwa⟩ : ∃ z, z = w1.drew.alloc (.cells #[.int .i64 tc, .int .u32 tv, .int .i64 t] 52) := ⟨_, rfl⟩
                have HBA : Hid (Below w1.heap.size w1 wa) := Lib.hid (by rw [hwa]; exact (Below.refl _ _).drew.alloc (Nat.le_refl _) _)
                have HXA : Hid (Blk wa w1.heap.size (hdC [⟨⟨tc, tv⟩, t⟩]).toArray) := Lib.hid (by rw [hwa]; exact Blk.new w1.drew _ _)
                have HZA : Hid (wa.heap.size = w1.heap.size + 1) := Lib.hid (by rw [hwa, World.size_alloc]; rfl)
                refine op_make (v := .slice (some ⟨w1.heap.size, 0, none⟩) 1 1) (w1 := wa) rfl (by rfl) (by rw [hwa]; go_simp) ⟨HS0.out _ HBA.out, ?_⟩
                try simp only [Act.put, List.setIfInBounds_toArray, List.set_cons_zero, List.set_cons_succ, List.getElem_toArray, List.getElem_cons_zero, List.getElem_cons_succ]
                clear hwa
                refine planT_one ?_
                obtain ⟨wx, hwx⟩ : ∃ z, z = wa.alloc (.cells #[] 52) := ⟨_, rfl⟩
                have HBX0 : Hid (Below w1.heap.size w1 wx) := Lib.hid (by rw [hwx]; exact HBA.out.alloc HBA.out.size _)
                have HX0 : Hid (Blk wx w1.heap.size (hdC [⟨⟨tc, tv⟩, t⟩]).toArray) := Lib.hid (by rw [hwx]; exact HXA.out.alloc _)
                have HOa : Hid (wx.ownsRow w1.heap.size 52 3 (.slice (some ⟨wa.heap.size, 0, none⟩) 0 0) 0 []) := Lib.hid (by rw [hwx]; exact fresh_made HBA.out.size)
                refine op_make (v := .slice (some ⟨wa.heap.size, 0, none⟩) 0 0) (w1 := wx) rfl (by rfl) (by rw [hwx]; go_simp) ⟨HS0.out _ HBX0.out, ?_⟩
                try simp only [Act.put, List.setIfInBounds_toArray, List.set_cons_zero, List.set_cons_succ, List.getElem_toArray, List.getElem_cons_zero, List.getElem_cons_succ]
                clear hwx
                refine planT_one ?_
                refine op_wp rfl (by rfl) ?_
                try simp only [List.getElem_toArray, List.getElem_cons_zero, List.getElem_cons_succ]
                refine (wp_append_sl _ _ 22 rfl w1.heap.size 52 i0 _ 3 24 Try.underlying22 HI.out.1 HI.out.2.1 HI.out.2.2.1 HI.out.2.2.2 rfl (by decide) _ 0 [] rfl HOa.out p m c (hdC L.held) rfl (by rw [hdC_len, HML.out]) ((HC.out.below (HB1.out.trans (HBX0.out.mono HB1.out.size))).ms) (hdC_one _) (by unfold maxLen; omega) (by omega) HBX0.out.size ?_)
                intro v5 w6 g1 g2 g3
                have hrr : w6.ownsRow w1.heap.size 52 3 v5 m (hdC L.held) := by simpa using g1
                have HBE : Hid (Below w1.heap.size w1 w6) := Lib.hid (HBX0.out.grown g2 HBX0.out.size (fun k hk => by have e2 : some wa.heap.size = some k := hk; injection e2 with e2; have := HZA.out; omega))
                have HXE : Hid (Blk w6 w1.heap.size (hdC [⟨⟨tc, tv⟩, t⟩]).toArray) := Lib.hid (HX0.out.grown g2 (fun e => by have e2 : some wa.heap.size = some w1.heap.size := e; injection e2 with e2; have := HZA.out; omega))
                obtain ⟨p5, c5, rfl, _⟩ := own_cap hrr
                have HOE := Lib.hid hrr
                clear g1 g2 g3 hrr
                refine ⟨HS0.out _ HBE.out, ?_⟩
                try simp only [Act.put, List.setIfInBounds_toArray, List.set_cons_zero, List.set_cons_succ, List.getElem_toArray, List.getElem_cons_zero, List.getElem_cons_succ]
                refine planT_stop ?_
                simp only [List.drop_succ_cons, List.drop_zero]
                go_wp2_with (first | (at_builtin; refine wpList_append_sl rfl _ _ 22 rfl w1.heap.size 52 i0 _ 3 24 Try.underlying22 HI.out.1 HI.out.2.1 HI.out.2.2.1 HI.out.2.2.2 rfl (by decide) _ m (hdC L.held) rfl HOE.out (some ⟨w1.heap.size, 0, none⟩) 1 1 (hdC [⟨⟨tc, tv⟩, t⟩]) rfl rfl (blk_sl HXE.out) (hdC_one _) (by unfold maxLen; omega) (by omega) HBE.out.size ?_))
                intro v' w7 g1 g2 g3
                have hob : ∀ g, (Value.slice p5 m c5).ownBlock = some g → w1.heap.size ≤ g := fun g e => (HOE.out.lt g e).1
                have hz := HG1.out
                have ha7 := (HA1.out.below HBE.out).grown g2 (fun e => by have := hob _ e; omega)
                have ht7 := (HT1.out.below HBE.out).grown g2 (fun e => by have := hob _ e; omega)
                have hb7 := HBE.out.grown g2 HBE.out.size (fun g e => hob g e)
                obtain ⟨p2, c2, rfl, hcap2⟩ := own_cap g1
                have hnb : ∀ g, (Value.slice p2 (m + 1) c2).ownBlock = some g → w1.heap.size ≤ g := fun g e => (g1.lt g e).1
                have HOW7 : Hid (w7.ownsRow w1.heap.size 52 3 (.slice p2 (m + 1) c2) (m + 1) (hdC (L.held ++ [(⟨⟨tc, tv⟩, t⟩ : Hd)]))) := Lib.hid (by rw [hdC_app]; exact g1)
                have HA7 := Lib.hid ha7
                have HT7 := Lib.hid ht7
                have HB7 := Lib.hid hb7
                have HNB := Lib.hid hnb
                clear g1 g2 g3 hob ha7 ht7 hb7 hnb hcap2 hz
                have kA := HA7.out.c
                have fA := HA7.out.f
                have lA := HA7.out.lt
                go_wp2_with fail
                go_meet
                case rel => exact ⟨rfl, p2, c2, HA7.out.set (n := 0) (.slice p2 (m + 1) c2) (by simp), HT7.out.other _ (by omega), own_off HOW7.out (fun g e => by have := HNB.out g e; have := HG1.out; omega) _ _, by exact ((HB1.out.trans (HB7.out.mono HB1.out.size)).setCell (Nat.le_refl _) _)⟩
            case rest =>
              obtain ⟨rfl, p', c', hak, htk, how, hbk⟩ := hcut
              have HAq := Lib.hid hak
              have HTq := Lib.hid htk
              have HBq := Lib.hid hbk
              have HRD : Hid (Lc wc p' (m + 1) c' q n d ⟨L.held ++ [(⟨⟨tc, tv⟩, t⟩ : Hd)], L.out⟩ ∧ (∀ R, R < w1.heap.size → Off R p' (m + 1))) := Lib.hid (by
                obtain ⟨_, _, e, hsl⟩ := Sl.own how
                injection e with e1 e2 e3
                subst e1 e3
                obtain ⟨_, _, e, hcap⟩ := own_cap how
                injection e with e1 e2 e3
                subst e1 e3
                exact ⟨⟨by show (L.held ++ [(⟨⟨tc, tv⟩, t⟩ : Hd)]).length = _; rw [List.length_append, HML.out]; rfl, HLL.out, hsl, (HC.out.below hbk).ls, hcap, HC.out.nd, by omega, hn⟩, fun R hR => own_offR how hR⟩)
              clear hak htk how hbk HA1 HT1 HB1 HZ1 HS0
              obtain ⟨m2, hm2⟩ : ∃ z, z = m + 1 := ⟨_, rfl⟩
              rw [← hm2] at HAq HRD
              try simp only [← hm2]
              clear hm2
              have kA := HAq.out.c
              have kT := HTq.out.c
              have fT := HTq.out.f
              have lT := HTq.out.lt
              go_wp2_with fail
              have hQ : Off (w.heap.size + 2) q n := HC.out.ls.off (by omega)
              have hA : Off (w.heap.size + 2) p' m2 := HRD.out.2 _ HG1.out
              exact bodyPost_ret (v := .tuple #[.agg #[.slice p' m2 c', .slice q n d], .int .i64 0]) (by simp [results, Try.results8, go_sem, *]) rfl ⟨_, by rw [HN.out.2], by
                rw [HN.out.1]
                refine ⟨p', m2, c', q, n, d, rfl, (HRD.out.1.set hA hQ 0 _).set hA hQ 1 _, fun R hR => ⟨HRD.out.2 R (by have := HSS.out R hR; have := HG1.out; omega), ?_⟩⟩
                obtain ⟨_, _, _, _, _, _, e, _, h2⟩ := HX.out
                injection e with e
                simp at e
                obtain ⟨⟨rfl, rfl, rfl⟩, rfl, rfl, rfl⟩ := e
                exact (h2 R (.inl hR)).2, set2_below HBq.out (by omega) _ _⟩
end Go.Proofs.Yteffmidpinlpjaa
