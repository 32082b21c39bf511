/- Laid together, in this order: AtomI, AtomFacts2, IsaRefReg, IsaRefMayA. -/
import Derived.Test.YtekiialhljfglaaZd
/- What atom.Step answers. -/
namespace Go.Proofs.Ytekiialhljfglaa
set_option linter.unusedVariables false
open Go.ChangeShapes Go.WideShapes Go.ChangeAt Go.RowKit

/-- Block B holds things of type t. -/
def Ty (w : World) (B : Nat) (t : TypeId) : Prop := ∃ c fr, w.heap[B]? = some (.cells c t fr)
theorem Ty.new (w : World) (cs : Array Value) (t : TypeId) : Ty (w.alloc (.cells cs t)) w.heap.size t := ⟨cs, _, heap_alloc_new w _⟩
theorem Ty.lt {w : World} {B : Nat} {t : TypeId} (h : Ty w B t) : B < w.heap.size := by obtain ⟨c, fr, h⟩ := h; exact (Array.getElem?_eq_some_iff.1 h).1
theorem Ty.below {w w' : World} {B : Nat} {t : TypeId} (h : Ty w B t) (hb : Below w.heap.size w w') : Ty w' B t := by
  have hl := h.lt
  obtain ⟨c, fr, h⟩ := h
  exact ⟨c, fr, (hb.block B hl).trans h⟩
theorem Ty.alloc {w : World} {B : Nat} {t : TypeId} (h : Ty w B t) (o : Obj) : Ty (w.alloc o) B t := h.below ((Below.refl _ _).alloc (Nat.le_refl _) _)
theorem Ty.not_row {w : World} {B base : Nat} {t e : TypeId} {size : Nat} {v : Value} {n : Nat} {xs : List Value} (h : Ty w B t) (hr : w.ownsRow base e size v n xs) (hne : t ≠ e) : v.ownBlock ≠ some B := by
  obtain ⟨c, fr, h⟩ := h
  obtain ⟨_, ⟨rfl, _⟩ | ⟨g, cap, cur, rfl, _, hg, _⟩⟩ := hr
  · intro e; cases e
  · intro e
    have e' : g = B := Option.some.inj e
    rw [e', h] at hg
    injection hg with hg
    injection hg with _ ht
    exact hne ht
theorem Ty.not_rows {w : World} {B base : Nat} {t : TypeId} {vm vc vo : Value} {a : Atm} (h : Ty w B t) (ho : OwnM w base vm vc vo a) (h1 : t ≠ 28) (h2 : t ≠ 55) (h3 : t ≠ 63) : ¬ rows3 vm vc vo B := by
  rintro (e | e | e)
  · exact h.not_row ho.m h1 e
  · exact h.not_row ho.c h2 e
  · exact h.not_row ho.o h3 e
theorem own_carry {w w' : World} {o : Obj} {base : Nat} {e : TypeId} {size : Nat} {v : Value} {n : Nat} {xs : List Value} (h : w.ownsRow base e size v n xs) (hb : Below (w.alloc o).heap.size (w.alloc o) w') : w'.ownsRow base e size v n xs := own_below (h.alloc o) hb
theorem Ty.one {W0 w' : World} {cs : Array Value} {t : TypeId} (hb : Below (W0.alloc (.cells cs t)).heap.size (W0.alloc (.cells cs t)) w') : Ty w' W0.heap.size t := (Ty.new W0 cs t).below hb
theorem Ty.oned {W0 w' : World} {cs : Array Value} {t : TypeId} (hb : Below (W0.alloc (.cells cs t)).drew.heap.size (W0.alloc (.cells cs t)).drew w') : Ty w' W0.heap.size t := Ty.below (w := (W0.alloc (.cells cs t)).drew) (Ty.new W0 cs t) hb

theorem form_of {w : World} {base : Nat} {e : TypeId} {size : Nat} {v : Value} {n : Nat} {xs : List Value} (h : w.ownsRow base e size v n xs) : ∃ q n' c', v = .slice q n' c' := by
  rcases Joins.ownsRow_forms h with ⟨e3, _⟩ | ⟨g, cap, e3⟩
  · exact ⟨_, _, _, e3⟩
  · exact ⟨_, _, _, e3⟩

theorem right_all {P : List (List I5)} {a : Atm} (h : rightA P a = true) : 1 ≤ a.mem.length ∧ a.mem.length ≤ 64 ∧ a.cores.length = P.length ∧ allB P = true ∧ coresB P a.cores P.length = true := by
  unfold rightA at h
  simp only [Bool.and_eq_true, decide_eq_true_eq] at h
  exact ⟨h.1.1, h.1.2, h.2.1, h.2.2.1, h.2.2.2⟩

theorem kcl24 (p : Option Addr) (len cap : Nat) (l : List Int) (B : Nat) (bs : Array Value) (W1 W : World) (hl : Hid (l.length = len)) (hbig : len * 4 ≤ 140737488355328) (hs : Hid (Sl W1 p len (memC l))) (hk : Hid (Blk W1 B bs)) (hb : Below W1.heap.size W1 W) :
    Calls Try.prog 24 #[.slice p len cap] W fun e w' => ∃ q n' c', e = .returned (.slice q n' c') ∧ w'.ownsRow W1.heap.size 28 1 (.slice q n' c') len (memC l) ∧ (∀ j, w'.cell? ⟨B, j, none⟩ = bs[j]?) ∧ Below W1.heap.size W1 w' ∧ Below W.heap.size W w' :=
  (clone24 p len cap (memC l) W (by rw [memC_len, hl.out, Nat.mul_one]) (memC_one l) hbig (hs.out.below hb)).mono fun e w' ⟨v, h1, h2, h3⟩ => by
    obtain ⟨q, n', c', rfl⟩ := form_of h2
    exact ⟨q, n', c', h1, Joins.ownsRow_le h2 hb.size, (hk.out.below (hb.trans (h3.mono hb.size))).c, hb.trans (h3.mono hb.size), h3⟩
theorem kcl33 (p : Option Addr) (len cap : Nat) (l : List Cor) (B : Nat) (bs : Array Value) (W1 W : World) (hl : Hid (l.length = len)) (hbig : len * 48 ≤ 140737488355328) (hs : Hid (Sl W1 p len (coresC l))) (hk : Hid (Blk W1 B bs)) (hb : Below W1.heap.size W1 W) :
    Calls Try.prog 33 #[.slice p len cap] W fun e w' => ∃ q n' c', e = .returned (.slice q n' c') ∧ w'.ownsRow W1.heap.size 55 10 (.slice q n' c') len (coresC l) ∧ (∀ j, w'.cell? ⟨B, j, none⟩ = bs[j]?) ∧ Below W1.heap.size W1 w' ∧ Below W.heap.size W w' :=
  (clone33 p len cap (coresC l) W (by rw [coresC_len, hl.out]) (coresC_one l) hbig (hs.out.below hb)).mono fun e w' ⟨v, h1, h2, h3⟩ => by
    obtain ⟨q, n', c', rfl⟩ := form_of h2
    exact ⟨q, n', c', h1, Joins.ownsRow_le h2 hb.size, (hk.out.below (hb.trans (h3.mono hb.size))).c, hb.trans (h3.mono hb.size), h3⟩
theorem kcl34 (p : Option Addr) (len cap : Nat) (l : List (Int × Int)) (B : Nat) (bs : Array Value) (W1 W : World) (hl : Hid (l.length = len)) (hbig : len * 16 ≤ 140737488355328) (hs : Hid (Sl W1 p len (outsC l))) (hk : Hid (Blk W1 B bs)) (hb : Below W1.heap.size W1 W) :
    Calls Try.prog 34 #[.slice p len cap] W fun e w' => ∃ q n' c', e = .returned (.slice q n' c') ∧ w'.ownsRow W1.heap.size 63 2 (.slice q n' c') len (outsC l) ∧ (∀ j, w'.cell? ⟨B, j, none⟩ = bs[j]?) ∧ Below W1.heap.size W1 w' ∧ Below W.heap.size W w' :=
  (clone34 p len cap (outsC l) W (by rw [outsC_len, hl.out]) (outsC_one' l) hbig (hs.out.below hb)).mono fun e w' ⟨v, h1, h2, h3⟩ => by
    obtain ⟨q, n', c', rfl⟩ := form_of h2
    exact ⟨q, n', c', h1, Joins.ownsRow_le h2 hb.size, (hk.out.below (hb.trans (h3.mono hb.size))).c, hb.trans (h3.mono hb.size), h3⟩

set_option maxHeartbeats 4000000 in
theorem Step_in (p pm pc po : Option Addr) (np cap lm cm lc cc lo co : Nat) (n : Int) (P : List (List I5)) (a : Atm) (w : World) (hl : P.length = np) (hp : Prgs w p P) (h1 : a.mem.length = lm) (h2 : a.cores.length = lc) (h3 : a.outs.length = lo) (m1 : lm * 4 ≤ 140737488355328) (m2 : lc * 48 ≤ 140737488355328) (m3 : (lo + 1) * 16 ≤ 140737488355328)
    (s1 : Sl w pm lm (memC a.mem)) (s2 : Sl w pc lc (coresC a.cores)) (s3 : Sl w po lo (outsC a.outs)) (hf : rightA P a = true → a.Fits) (hM : Mach w (.agg #[.slice pm lm cm, .slice pc lc cc, .slice po lo co]) a) (a' : Atm) (r : Int) (hres : Hid ((((decide (0 ≤ n) && decide (n < lc)) && rightA P a) = true → a' = stepA P a n.toNat ∧ r = 0) ∧ (((decide (0 ≤ n) && decide (n < lc)) && rightA P a) = false → a' = a ∧ r = 1))) :
    Calls Try.prog 19 #[.slice p np cap, .agg #[.slice pm lm cm, .slice pc lc cc, .slice po lo co], .int .i64 n] w fun e w' => ∃ vm vc vo, e = .returned (.tuple #[.agg #[vm, vc, vo], .int .i64 r]) ∧ OwnM w' w.heap.size vm vc vo a' ∧ Below w.heap.size w w' := by
  have HL := Lib.hid hl
  have HP := Lib.hid hp
  have H1 := Lib.hid h1
  have H2 := Lib.hid h2
  have H3 := Lib.hid h3
  have S1 := Lib.hid s1
  have S2 := Lib.hid s2
  have S3 := Lib.hid s3
  have HF := Lib.hid hf
  have HM := Lib.hid hM
  clear hl hp h1 h2 h3 s1 s2 s3 hf hM
  go_enter Try.func19, Try.ntmps19
  go_upto_region 1 with fail
  obtain ⟨W1, hW1⟩ : ∃ W1, W1 = (w.alloc (.cells #[.slice pm lm cm, .slice pc lc cc, .slice po lo co] 27)).alloc (.cells #[.slice none 0 0, .slice none 0 0, .slice none 0 0] 27) := ⟨_, rfl⟩
  have HBW : Hid (Below w.heap.size w W1) := by rw [hW1]; exact ((Below.refl _ _).alloc (Nat.le_refl _) _).alloc (by simp) _
  have HK1 : Hid (Blk W1 w.heap.size #[.slice pm lm cm, .slice pc lc cc, .slice po lo co]) := by rw [hW1]; exact (Blk.new w _ 27).alloc _
  have HK2 : Hid (Blk W1 (w.heap.size + 1) #[.slice none 0 0, .slice none 0 0, .slice none 0 0]) := by
    rw [hW1]
    have h := Blk.new (w.alloc (.cells #[.slice pm lm cm, .slice pc lc cc, .slice po lo co] 27)) #[.slice none 0 0, .slice none 0 0, .slice none 0 0] 27
    rw [World.size_alloc] at h
    exact h
  have HK3 : Hid (w.heap.size + 2 ≤ W1.heap.size) := by show w.heap.size + 2 ≤ W1.heap.size; rw [hW1, World.size_alloc, World.size_alloc]; omega
  rw [← hW1]
  clear hW1
  have T1 : Hid (Sl W1 pm lm (memC a.mem)) := S1.out.below HBW.out
  have T2 : Hid (Sl W1 pc lc (coresC a.cores)) := S2.out.below HBW.out
  have T3 : Hid (Sl W1 po lo (outsC a.outs)) := S3.out.below HBW.out
  go_cut [8] (fun s8 wc => ∃ X vm vc vo, s8 = .pointer (some ⟨X, 0, none⟩) ∧ Blk wc X #[vm, vc, vo] ∧ ¬ rows3 vm vc vo X ∧ (∃ q1 n1 k1 q2 n2 k2 q3 n3 k3, vm = .slice q1 n1 k1 ∧ vc = .slice q2 n2 k2 ∧ vo = .slice q3 n3 k3) ∧ OwnM wc W1.heap.size vm vc vo a ∧ Below W1.heap.size W1 wc ∧ W1.heap.size ≤ X)
  case first =>
    have m3' : lo * 16 ≤ 140737488355328 := by omega
    go_region_held3 (fun w' => (∀ j, w'.cell? ⟨w.heap.size, j, none⟩ = (#[.slice pm lm cm, .slice pc lc cc, .slice po lo co] : Array Value)[j]?) ∧ Below W1.heap.size W1 w')
      ((refine sOf HK1 ?_; simp (config := { maxDischargeDepth := 60 }) only [bA, bS, bD, bR, *]))
      (first
        | (go_at_call 24; refine (kcl24 pm lm cm a.mem w.heap.size _ W1 _ H1 m1 T1 HK1 ?_).mono ?_; (first | assumption | (exact (‹_ ∧ _›).2)); (rintro e w2 ⟨q2, n2, k2, rfl, own2, c2, hb2, hd2⟩; (first | with_reducible have ty1 := Ty.below ty1 hd2 | with_reducible have ty1 := Ty.oned hd2 | with_reducible have ty1 := Ty.one hd2 | skip); (first | with_reducible have t1 := Trk.carry0 t1 hd2 | with_reducible have t1 := Trk.one hd2 | with_reducible have t1 := Trk.at1 hb2 hd2 | skip); (try (have x1 := t1.blk.c; have x2 := t1.blk.f; have x3 := t1.blk.lt; have x4 := t1.ge))))
        | (go_at_call 33; refine (kcl33 pc lc cc a.cores w.heap.size _ W1 _ H2 m2 T2 HK1 ?_).mono ?_; (first | assumption | (exact (‹_ ∧ _›).2)); (rintro e w3 ⟨q3, n3, k3, rfl, own3, c3, hb3, hd3⟩; (first | with_reducible have ty1 := Ty.below ty1 hd3 | with_reducible have ty1 := Ty.oned hd3 | with_reducible have ty1 := Ty.one hd3 | skip); (first | with_reducible have t1 := Trk.carry0 t1 hd3 | with_reducible have t1 := Trk.one hd3 | with_reducible have t1 := Trk.at1 hb2 hd3 | skip); (try (have x1 := t1.blk.c; have x2 := t1.blk.f; have x3 := t1.blk.lt; have x4 := t1.ge))))
        | (go_at_call 34; refine (kcl34 po lo co a.outs w.heap.size _ W1 _ H3 m3' T3 HK1 ?_).mono ?_; (first | assumption | (exact (‹_ ∧ _›).2)); (rintro e w4 ⟨q4, n4, k4, rfl, own4, c4, hb4, hd4⟩; (first | with_reducible have ty1 := Ty.below ty1 hd4 | with_reducible have ty1 := Ty.oned hd4 | with_reducible have ty1 := Ty.one hd4 | skip); (first | with_reducible have t1 := Trk.carry0 t1 hd4 | with_reducible have t1 := Trk.one hd4 | with_reducible have t1 := Trk.at1 hb3 hd4 | skip); (try (have x1 := t1.blk.c; have x2 := t1.blk.f; have x3 := t1.blk.lt; have x4 := t1.ge)))))
    all_goals
      have o23 : w3.ownsRow W1.heap.size 28 1 (.slice q2 n2 k2) lm (memC a.mem) := by first | exact own_below own2 hd3 | exact own_carry own2 hd3
      have o24 : w4.ownsRow W1.heap.size 28 1 (.slice q2 n2 k2) lm (memC a.mem) := by first | exact own_below o23 hd4 | exact own_carry o23 hd4
      have o34 : w4.ownsRow W1.heap.size 55 10 (.slice q3 n3 k3) lc (coresC a.cores) := by first | exact own_below own3 hd4 | exact own_carry own3 hd4
      have OM : OwnM w4 W1.heap.size (.slice q2 n2 k2) (.slice q3 n3 k3) (.slice q4 n4 k4) a := ⟨by rw [H1.out]; exact o24, by rw [H2.out]; exact o34, by rw [H3.out]; exact own4⟩
      have HOM := Lib.hid OM
      clear OM o23 o24 o34 own2 own3 own4
      go_wp2_with fail
      go_meet
      case rel =>
        go_light
        first
          | exact ⟨_, _, _, _, rfl, Blk.new w4 _ 27, fun h => Nat.lt_irrefl _ (HOM.out.rows _ h).2, ⟨_, _, _, _, _, _, _, _, _, rfl, rfl, rfl⟩, HOM.out.below ((Below.refl _ _).alloc (Nat.le_refl _) _), hb4.alloc hb4.size _, hb4.size⟩
          | exact ⟨_, _, _, _, rfl, store3 t1.blk, ty1.not_rows HOM.out (by decide) (by decide) (by decide), ⟨_, _, _, _, _, _, _, _, _, rfl, rfl, rfl⟩, own3_set HOM.out (ty1.not_rows HOM.out (by decide) (by decide) (by decide)) _ _ _, below_set3 hb4 x4 _ _ _, x4⟩
  case rest =>
    obtain ⟨X, vm, vc, vo, rfl, kX, hnr, ⟨q1, n1, k1, q2, n2, k2, q3, n3, k3, rfl, rfl, rfl⟩, ho, hbc, hX⟩ := hcut
    have HWC : Hid (Below w.heap.size w wc) := HBW.out.trans (hbc.mono HBW.out.size)
    have HKX := Lib.hid kX
    have HNR := Lib.hid hnr
    have HO := Lib.hid ho
    have HX := Lib.hid hX
    have HKB := Lib.hid (HK1.out.below hbc)
    have HKN := Lib.hid (HK2.out.below hbc)
    clear kX hnr ho hbc hX HK1 HK2 T1 T2 T3
    have c1 := HKB.out.c
    go_wp2_with fail
    refine (has_any _ _ _ _ _ _ _ _ _ n wc).mono ?_
    rintro e w2 ⟨rfl, hb2⟩
    have HKX2 := Lib.hid (HKX.out.below hb2)
    have HKN2 := Lib.hid (HKN.out.below hb2)
    have HKB2 := Lib.hid (HKB.out.below hb2)
    have HO2 := Lib.hid (HO.out.below hb2)
    have HB2 : Hid (Below w.heap.size w w2) := HWC.out.trans (hb2.mono HWC.out.size)
    clear hb2 c1 HKX HKN HKB HO
    have nN : ¬ rows3 (.slice q1 n1 k1) (.slice q2 n2 k2) (.slice q3 n3 k3) (w.heap.size + 1) := fun h => by
      have h1 := (HO2.out.rows _ h).1
      have h2 := HK3.out
      omega
    have NN := Lib.hid nN
    clear nN
    have o1 : Hid (OwnM w2 w.heap.size (.slice q1 n1 k1) (.slice q2 n2 k2) (.slice q3 n3 k3) a) := ⟨Joins.ownsRow_le HO2.out.m HBW.out.size, Joins.ownsRow_le HO2.out.c HBW.out.size, Joins.ownsRow_le HO2.out.o HBW.out.size⟩
    cases hh : (decide (0 ≤ n) && decide (n < (lc : Int))) with
    | false =>
      obtain ⟨rfl, rfl⟩ : a' = a ∧ r = 1 := hres.out.2 (by rw [hh]; rfl)
      have xX := HKX2.out.c
      have x0 := HKN2.out.c
      have f0 := HKN2.out.f
      have l0 := HKN2.out.lt
      clear hh
      go_wp2
      refine bodyPost_ret (v := .tuple #[.agg #[.slice q1 n1 k1, .slice q2 n2 k2, .slice q3 n3 k3], .int .i64 1]) (by simp [results, Try.results19, go_sem, *]) rfl ⟨_, _, _, rfl, own3_set o1.out NN.out _ _ _, below_set3 HB2.out (Nat.le_succ _) _ _ _⟩
    | true =>
      have HH := Lib.hid hh
      clear hh
      have c1 := HKB2.out.c
      go_wp2_with fail
      have hr := right_any4 p cap P (.agg #[.slice pm lm cm, .slice pc lc cc, .slice po lo co]) a w2 (HP.out.below HB2.out) (HM.out.below HB2.out)
      rw [HL.out] at hr
      refine hr.mono ?_
      clear hr
      rintro e w3 ⟨rfl, hb3⟩
      have HKX3 := Lib.hid (HKX2.out.below hb3)
      have HKN3 := Lib.hid (HKN2.out.below hb3)
      have HO3 := Lib.hid (o1.out.below hb3)
      have HB3 : Hid (Below w.heap.size w w3) := HB2.out.trans (hb3.mono HB2.out.size)
      clear hb3 c1 HKX2 HKN2 HO2 o1
      have xX := HKX3.out.c
      have x0 := HKN3.out.c
      have f0 := HKN3.out.f
      have l0 := HKN3.out.lt
      cases hr : rightA P a with
      | false =>
        obtain ⟨rfl, rfl⟩ : a' = a ∧ r = 1 := hres.out.2 (by rw [hr, HH.out]; rfl)
        clear hr
        go_wp2
        refine bodyPost_ret (v := .tuple #[.agg #[.slice q1 n1 k1, .slice q2 n2 k2, .slice q3 n3 k3], .int .i64 1]) (by simp [results, Try.results19, go_sem, *]) rfl ⟨_, _, _, rfl, own3_set HO3.out NN.out _ _ _, below_set3 HB3.out (Nat.le_succ _) _ _ _⟩
      | true =>
        obtain ⟨rfl, rfl⟩ : a' = stepA P a n.toNat ∧ r = 0 := hres.out.1 (by rw [hr, HH.out]; rfl)
        have HHH := HH.out
        simp only [Bool.and_eq_true, decide_eq_true_eq] at HHH
        obtain ⟨m, rfl⟩ := Int.eq_ofNat_of_zero_le HHH.1
        have hrr := right_all hr
        have hst := step_any p cap P _ _ _ a m w w3 HP.out (by have := H2.out; omega) hrr.2.2.1 HB3.out (HF.out hr) hrr.1 hrr.2.1 (by have := H3.out; rw [H3.out]; exact m3) HO3.out
        rw [HL.out] at hst
        clear hrr HHH hr
        go_wp2_with fail
        refine hst.mono ?_
        clear hst
        rintro e w4 ⟨vo', rfl, ho4, hc4, hb4, hj4⟩
        obtain ⟨po4, lo4, co4, rfl⟩ := ho4.form3
        have HKN4 := Lib.hid (HKN3.out.chg hc4 NN.out)
        have HO4 := Lib.hid ho4
        have HB4 := Lib.hid hb4
        have nn : ¬ rows3 (.slice q1 n1 k1) (.slice q2 n2 k2) (.slice po4 lo4 co4) (w.heap.size + 1) := by
          rintro (h | h | h)
          · exact NN.out (.inl h)
          · exact NN.out (.inr (.inl h))
          · rcases hj4 _ h with h | h
            · exact NN.out (.inr (.inr h))
            · have := HKN3.out.lt; omega
        have NN4 := Lib.hid nn
        clear nn hc4 hb4 hj4 ho4 xX x0 f0 l0
        have x0 := HKN4.out.c
        have f0 := HKN4.out.f
        have l0 := HKN4.out.lt
        go_wp2
        refine bodyPost_ret (v := .tuple #[.agg #[.slice q1 n1 k1, .slice q2 n2 k2, .slice po4 lo4 co4], .int .i64 0]) (by simp [results, Try.results19, go_sem, *]) rfl ⟨_, _, _, rfl, own3_set HO4.out NN4.out _ _ _, below_set3 HB4.out (Nat.le_succ _) _ _ _⟩

/-- What Step answers: the machine behind the step, or as it is. -/
def stepOk (P : List (List I5)) (a : Atm) (n : Int) : Bool := (decide (0 ≤ n) && decide (n < a.cores.length)) && rightA P a
def stepRes (P : List (List I5)) (a : Atm) (n : Int) : Atm := if stepOk P a n then stepA P a n.toNat else a
def stepErr (P : List (List I5)) (a : Atm) (n : Int) : Int := if stepOk P a n then 0 else 1
theorem Step_any (p : Option Addr) (cap : Nat) (v : Value) (n : Int) (P : List (List I5)) (a : Atm) (w : World) (hp : Prgs w p P) (hv : Mach w v a) (m1 : a.mem.length * 4 ≤ 140737488355328) (m2 : a.cores.length * 48 ≤ 140737488355328) (m3 : (a.outs.length + 1) * 16 ≤ 140737488355328) (hf : rightA P a = true → a.Fits) :
    Calls Try.prog 19 #[.slice p P.length cap, v, .int .i64 n] w fun e w' => ∃ vm vc vo, e = .returned (.tuple #[.agg #[vm, vc, vo], .int .i64 (stepErr P a n)]) ∧ OwnM w' w.heap.size vm vc vo (stepRes P a n) ∧ Below w.heap.size w w' := by
  have hM := hv
  obtain ⟨pm, cm, pc, cc, po, co, rfl, h2, h3, h4⟩ := hv
  exact Step_in p pm pc po _ cap _ cm _ cc _ co n P a w rfl hp rfl rfl rfl m1 m2 m3 h2 h3 h4 hf hM _ _ ⟨fun h => by unfold stepRes stepErr stepOk; rw [if_pos h, if_pos h]; exact ⟨rfl, rfl⟩, fun h => by unfold stepRes stepErr stepOk; rw [h]; exact ⟨rfl, rfl⟩⟩
end Go.Proofs.Ytekiialhljfglaa
/- Facts on a machine's runs, without any program: a machine that may be stays so. -/
namespace Go.Proofs.Ytekiialhljfglaa
set_option linter.unusedVariables false
open Go.ChangeShapes Go.WideShapes Go.ChangeAt Go.RowKit

theorem all_right {P : List (List I5)} (h : allB P = true) {i : Nat} (hi : i < P.length) : rightB (atP P i) = true := by
  unfold allB at h
  simp only [Bool.and_eq_true, decide_eq_true_eq, List.all_eq_true] at h
  have e : atP P i = P[i] := by unfold atP; simp [List.getD, hi]
  rw [e]
  exact h.2.2 _ (List.getElem_mem hi)
theorem right_len {l : List I5} (h : rightB l = true) : 1 ≤ l.length := by
  unfold rightB at h
  simp only [Bool.and_eq_true, decide_eq_true_eq] at h
  exact h.1
theorem right_make {P : List (List I5)} {a : Atm} (h1 : 1 ≤ a.mem.length) (h2 : a.mem.length ≤ 64) (h3 : a.cores.length = P.length) (h4 : allB P = true) (h5 : ∀ j, j < P.length → coreB (atP P j) (coreAt a.cores j) = true) : rightA P a = true := by
  unfold rightA
  rw [decide_eq_true h1, decide_eq_true h2, decide_eq_true h3, h4, coresB_yes h5]; rfl
theorem newA_right {P : List (List I5)} {words : Nat} (h1 : 1 ≤ words) (h2 : words ≤ 64) (h : allB P = true) : rightA P (newA P.length words) = true := by
  refine right_make (by rw [newA_mem]; exact h1) (by rw [newA_mem]; exact h2) (newA_cores _ _) h (fun j hj => ?_)
  have hr := all_right h hj
  have hl := right_len hr
  have e : coreAt (newA P.length words).cores j = zcor := by unfold newA coreAt; simp [List.getD, hj]
  rw [e]
  unfold coreB
  rw [hr, decide_eq_true (show (0 : Int) ≤ zcor.pc by simp [zcor]), decide_eq_true (show zcor.pc < ((atP P j).length : Int) by simp [zcor]; omega)]; rfl
theorem stepA_right {P : List (List I5)} {a : Atm} {n : Nat} (h : rightA P a = true) (hp : PF P) (hn : n < P.length) : rightA P (stepA P a n) = true := by
  obtain ⟨h1, h2, h3, h4, h5⟩ := right_all h
  refine right_make (by rw [stepA_mem]; exact h1) (by rw [stepA_mem]; exact h2) (by rw [stepA_cores]; exact h3) h4 (fun j hj => ?_)
  show coreB (atP P j) (coreAt (a.cores.set n _) j) = true
  have hc := coresB_at h5 hj
  by_cases e : j = n
  · subst e
    rw [coreAt_set_same _ _ _ (by omega)]
    have hpc := core_has hc
    exact done_stays _ (hp j _ hj (show (coreAt a.cores j).pc.toNat < (atP P j).length by omega)).1 hc
  · rw [coreAt_set_other _ _ _ _ e]
    exact hc
theorem runA_right {P : List (List I5)} {words : Nat} (hp : PF P) (h1 : 1 ≤ words) (h2 : words ≤ 64) (h : allB P = true) (l : List Int) : ∀ k, k ≤ l.length → rightA P (runA P words (l.take k)) = true := fun k => by
  induction k with
  | zero => intro _; exact newA_right h1 h2 h
  | succ k ih =>
    intro hk
    have hr := ih (by omega)
    rw [runA_take (by omega)]
    by_cases hn : 0 ≤ l.getD k 0 ∧ l.getD k 0 < (runA P words (l.take k)).cores.length
    · obtain ⟨n, hn'⟩ := Int.eq_ofNat_of_zero_le hn.1
      rw [hn'] at hn ⊢
      rw [pick_in (by omega)]
      exact stepA_right hr hp (by have := (right_all hr).2.2.1; omega)
    · rw [pick_out hn]
      exact hr
theorem runA_right_all {P : List (List I5)} {words : Nat} (hp : PF P) (h1 : 1 ≤ words) (h2 : words ≤ 64) (h : allB P = true) (l : List Int) : rightA P (runA P words l) = true := by
  have := runA_right hp h1 h2 h l l.length (Nat.le_refl _)
  rwa [List.take_length] at this
theorem runA_good_all {P : List (List I5)} {words : Nat} (hp : PF P) (l : List Int) : Good P words l.length (runA P words l) := by
  have := runA_good (words := words) hp l l.length (Nat.le_refl _)
  rwa [List.take_length] at this
theorem short_few {P : List (List I5)} (h : shortB P = true) : P.length ≤ 6 := by
  unfold shortB at h
  simp only [Bool.and_eq_true, decide_eq_true_eq] at h
  exact h.1
def nilA : Atm := ⟨[], [], []⟩
theorem Mach.nil (w : World) : Mach w (.agg #[.slice none 0 0, .slice none 0 0, .slice none 0 0]) nilA := ⟨none, 0, none, 0, none, 0, rfl, Sl.empty _ _ _, Sl.empty _ _ _, Sl.empty _ _ _⟩
end Go.Proofs.Ytekiialhljfglaa
/- What the reference's reg and goal answer. -/
namespace Go.Proofs.Ytekiialhljfglaa
open Go.ChangeShapes Go.WideShapes Go.ChangeAt Go.RowKit

theorem regR_any (r : Int) (v : Bool) (w : World) (hv : regB r true = v) : Calls Try.prog 54 #[.int .i64 r] w fun e w' => e = .returned (.bool v) ∧ w = w' := by
  subst hv
  by_cases h : 0 ≤ r
  · have e : regB r true = decide (r < 8) := by
      unfold regB; rw [if_pos rfl]; rw [Bool.eq_iff_iff]; simp; omega
    rw [e]
    clear e
    have h' : decide (0 ≤ r) = true := decide_eq_true h
    go_enter Try.func54, Try.ntmps54
    go_wp2
    go_ret
    exact ⟨rfl, rfl⟩
  · have e : regB r true = false := by
      unfold regB; rw [if_pos rfl]; exact decide_eq_false (by omega)
    rw [e]
    clear e
    have h' : decide (0 ≤ r) = false := decide_eq_false h
    go_enter Try.func54, Try.ntmps54
    go_wp2
    go_ret
    exact ⟨rfl, rfl⟩

theorem goalR_any (k n : Int) (v : Bool) (w : World) (h0 : 0 ≤ k) (h1 : k ≤ 4294967295) (hv : decide (k < n) = v) : Calls Try.prog 55 #[.int .u32 k, .int .i64 n] w fun e w' => e = .returned (.bool v) ∧ w = w' := by
  subst hv
  by_cases h : 0 < n
  · have h' : decide (0 < n) = true := decide_eq_true h
    go_enter Try.func55, Try.ntmps55
    go_wp2
    go_ret
    exact ⟨rfl, rfl⟩
  · have e : decide (k < n) = false := decide_eq_false (by omega)
    rw [e]
    clear e
    have h' : decide (0 < n) = false := decide_eq_false h
    go_enter Try.func55, Try.ntmps55
    go_wp2
    go_ret
    exact ⟨rfl, rfl⟩

theorem reg_off (r : Int) : regB r false = (r == 0) := by
  unfold regB; rw [if_neg (by decide)]; rw [Bool.eq_iff_iff]; simp
theorem con_off (op k n : Int) : conB op k false n = (k == 0) := by
  unfold conB; rw [if_neg (by decide)]; rw [Bool.eq_iff_iff]; simp
end Go.Proofs.Ytekiialhljfglaa
/- What the reference's May answers for the operations 1, 2, 3, 4; it writes nothing that was there. -/
namespace Go.Proofs.Ytekiialhljfglaa
open Go.ChangeShapes Go.WideShapes Go.ChangeAt Go.RowKit

set_option maxRecDepth 100000 in
set_option maxHeartbeats 2000000 in
theorem mayR_1 (a b c k n : Int) (w : World) (k0 : 0 ≤ k) (k1 : k ≤ 4294967295) :
    Calls Try.prog 47 #[.agg #[.int .i64 1, .int .i64 a, .int .i64 b, .int .i64 c, .int .u32 k], .int .i64 n] w fun e w' => e = .returned (.bool (mayB ⟨1, a, b, c, k⟩ n)) ∧ Below w.heap.size w w' := by
  have e : mayB ⟨1, a, b, c, k⟩ n = (regB a true && ((b == 0) && ((c == 0) && true))) := by
    show (true && (regB a true && (regB b false && (regB c false && conB 1 k true n)))) = _
    rw [reg_off b, reg_off c]
    rw [show conB 1 k true n = true by unfold conB; rw [if_pos rfl]; exact decide_eq_true (Or.inl rfl)]
    rfl
  rw [e]
  clear e
  obtain ⟨vha, ha⟩ : ∃ v, v = regB a true := ⟨_, rfl⟩
  obtain ⟨vhb, hb⟩ : ∃ v, v = (b == 0) := ⟨_, rfl⟩
  obtain ⟨vhc, hc⟩ : ∃ v, v = (c == 0) := ⟨_, rfl⟩
  rw [← ha, ← hb, ← hc]
  have Hha := Lib.hid ha.symm
  clear ha
  replace hb := hb.symm
  replace hc := hc.symm
  cases vha with
  | false =>
    go_enter Try.func47, Try.ntmps47
    go_wp2_with fail
    refine (regR_any _ _ _ Hha.out).mono ?_
    rintro e w' ⟨rfl, rfl⟩
    go_wp2
    go_ret
    exact ⟨rfl, (Below.refl _ _).alloc (Nat.le_refl _) _⟩
  | true =>
    cases vhb with
    | false =>
      go_enter Try.func47, Try.ntmps47
      go_wp2_with fail
      refine (regR_any _ _ _ Hha.out).mono ?_
      rintro e w' ⟨rfl, rfl⟩
      go_wp2
      go_ret
      exact ⟨rfl, (Below.refl _ _).alloc (Nat.le_refl _) _⟩
    | true =>
      cases vhc with
      | false =>
        go_enter Try.func47, Try.ntmps47
        go_wp2_with fail
        refine (regR_any _ _ _ Hha.out).mono ?_
        rintro e w' ⟨rfl, rfl⟩
        go_wp2
        go_ret
        exact ⟨rfl, (Below.refl _ _).alloc (Nat.le_refl _) _⟩
      | true =>
        go_enter Try.func47, Try.ntmps47
        go_wp2_with fail
        refine (regR_any _ _ _ Hha.out).mono ?_
        rintro e w' ⟨rfl, rfl⟩
        go_wp2
        go_ret
        exact ⟨rfl, (Below.refl _ _).alloc (Nat.le_refl _) _⟩

set_option maxRecDepth 100000 in
set_option maxHeartbeats 2000000 in
theorem mayR_2 (a b c k n : Int) (w : World) (k0 : 0 ≤ k) (k1 : k ≤ 4294967295) :
    Calls Try.prog 47 #[.agg #[.int .i64 2, .int .i64 a, .int .i64 b, .int .i64 c, .int .u32 k], .int .i64 n] w fun e w' => e = .returned (.bool (mayB ⟨2, a, b, c, k⟩ n)) ∧ Below w.heap.size w w' := by
  have e : mayB ⟨2, a, b, c, k⟩ n = (regB a true && (regB b true && (regB c true && (k == 0)))) := by
    show (true && (regB a true && (regB b true && (regB c true && conB 2 k false n)))) = _
    rw [con_off]
    rfl
  rw [e]
  clear e
  obtain ⟨vha, ha⟩ : ∃ v, v = regB a true := ⟨_, rfl⟩
  obtain ⟨vhb, hb⟩ : ∃ v, v = regB b true := ⟨_, rfl⟩
  obtain ⟨vhc, hc⟩ : ∃ v, v = regB c true := ⟨_, rfl⟩
  obtain ⟨vhk, hk⟩ : ∃ v, v = (k == 0) := ⟨_, rfl⟩
  rw [← ha, ← hb, ← hc, ← hk]
  have Hha := Lib.hid ha.symm
  clear ha
  have Hhb := Lib.hid hb.symm
  clear hb
  have Hhc := Lib.hid hc.symm
  clear hc
  replace hk := hk.symm
  cases vha with
  | false =>
    go_enter Try.func47, Try.ntmps47
    go_wp2_with fail
    refine (regR_any _ _ _ Hha.out).mono ?_
    rintro e w' ⟨rfl, rfl⟩
    go_wp2
    go_ret
    exact ⟨rfl, (Below.refl _ _).alloc (Nat.le_refl _) _⟩
  | true =>
    cases vhb with
    | false =>
      go_enter Try.func47, Try.ntmps47
      go_wp2_with fail
      refine (regR_any _ _ _ Hha.out).mono ?_
      rintro e w' ⟨rfl, rfl⟩
      go_wp2_with fail
      refine (regR_any _ _ _ Hhb.out).mono ?_
      rintro e w' ⟨rfl, rfl⟩
      go_wp2
      go_ret
      exact ⟨rfl, (Below.refl _ _).alloc (Nat.le_refl _) _⟩
    | true =>
      cases vhc with
      | false =>
        go_enter Try.func47, Try.ntmps47
        go_wp2_with fail
        refine (regR_any _ _ _ Hha.out).mono ?_
        rintro e w' ⟨rfl, rfl⟩
        go_wp2_with fail
        refine (regR_any _ _ _ Hhb.out).mono ?_
        rintro e w' ⟨rfl, rfl⟩
        go_wp2_with fail
        refine (regR_any _ _ _ Hhc.out).mono ?_
        rintro e w' ⟨rfl, rfl⟩
        go_wp2
        go_ret
        exact ⟨rfl, (Below.refl _ _).alloc (Nat.le_refl _) _⟩
      | true =>
        cases vhk with
        | false =>
          go_enter Try.func47, Try.ntmps47
          go_wp2_with fail
          refine (regR_any _ _ _ Hha.out).mono ?_
          rintro e w' ⟨rfl, rfl⟩
          go_wp2_with fail
          refine (regR_any _ _ _ Hhb.out).mono ?_
          rintro e w' ⟨rfl, rfl⟩
          go_wp2_with fail
          refine (regR_any _ _ _ Hhc.out).mono ?_
          rintro e w' ⟨rfl, rfl⟩
          go_wp2
          go_ret
          exact ⟨rfl, (Below.refl _ _).alloc (Nat.le_refl _) _⟩
        | true =>
          go_enter Try.func47, Try.ntmps47
          go_wp2_with fail
          refine (regR_any _ _ _ Hha.out).mono ?_
          rintro e w' ⟨rfl, rfl⟩
          go_wp2_with fail
          refine (regR_any _ _ _ Hhb.out).mono ?_
          rintro e w' ⟨rfl, rfl⟩
          go_wp2_with fail
          refine (regR_any _ _ _ Hhc.out).mono ?_
          rintro e w' ⟨rfl, rfl⟩
          go_wp2
          go_ret
          exact ⟨rfl, (Below.refl _ _).alloc (Nat.le_refl _) _⟩

set_option maxRecDepth 100000 in
set_option maxHeartbeats 2000000 in
theorem mayR_3 (a b c k n : Int) (w : World) (k0 : 0 ≤ k) (k1 : k ≤ 4294967295) :
    Calls Try.prog 47 #[.agg #[.int .i64 3, .int .i64 a, .int .i64 b, .int .i64 c, .int .u32 k], .int .i64 n] w fun e w' => e = .returned (.bool (mayB ⟨3, a, b, c, k⟩ n)) ∧ Below w.heap.size w w' := by
  have e : mayB ⟨3, a, b, c, k⟩ n = (regB a true && (regB b true && (regB c true && (k == 0)))) := by
    show (true && (regB a true && (regB b true && (regB c true && conB 3 k false n)))) = _
    rw [con_off]
    rfl
  rw [e]
  clear e
  obtain ⟨vha, ha⟩ : ∃ v, v = regB a true := ⟨_, rfl⟩
  obtain ⟨vhb, hb⟩ : ∃ v, v = regB b true := ⟨_, rfl⟩
  obtain ⟨vhc, hc⟩ : ∃ v, v = regB c true := ⟨_, rfl⟩
  obtain ⟨vhk, hk⟩ : ∃ v, v = (k == 0) := ⟨_, rfl⟩
  rw [← ha, ← hb, ← hc, ← hk]
  have Hha := Lib.hid ha.symm
  clear ha
  have Hhb := Lib.hid hb.symm
  clear hb
  have Hhc := Lib.hid hc.symm
  clear hc
  replace hk := hk.symm
  cases vha with
  | false =>
    go_enter Try.func47, Try.ntmps47
    go_wp2_with fail
    refine (regR_any _ _ _ Hha.out).mono ?_
    rintro e w' ⟨rfl, rfl⟩
    go_wp2
    go_ret
    exact ⟨rfl, (Below.refl _ _).alloc (Nat.le_refl _) _⟩
  | true =>
    cases vhb with
    | false =>
      go_enter Try.func47, Try.ntmps47
      go_wp2_with fail
      refine (regR_any _ _ _ Hha.out).mono ?_
      rintro e w' ⟨rfl, rfl⟩
      go_wp2_with fail
      refine (regR_any _ _ _ Hhb.out).mono ?_
      rintro e w' ⟨rfl, rfl⟩
      go_wp2
      go_ret
      exact ⟨rfl, (Below.refl _ _).alloc (Nat.le_refl _) _⟩
    | true =>
      cases vhc with
      | false =>
        go_enter Try.func47, Try.ntmps47
        go_wp2_with fail
        refine (regR_any _ _ _ Hha.out).mono ?_
        rintro e w' ⟨rfl, rfl⟩
        go_wp2_with fail
        refine (regR_any _ _ _ Hhb.out).mono ?_
        rintro e w' ⟨rfl, rfl⟩
        go_wp2_with fail
        refine (regR_any _ _ _ Hhc.out).mono ?_
        rintro e w' ⟨rfl, rfl⟩
        go_wp2
        go_ret
        exact ⟨rfl, (Below.refl _ _).alloc (Nat.le_refl _) _⟩
      | true =>
        cases vhk with
        | false =>
          go_enter Try.func47, Try.ntmps47
          go_wp2_with fail
          refine (regR_any _ _ _ Hha.out).mono ?_
          rintro e w' ⟨rfl, rfl⟩
          go_wp2_with fail
          refine (regR_any _ _ _ Hhb.out).mono ?_
          rintro e w' ⟨rfl, rfl⟩
          go_wp2_with fail
          refine (regR_any _ _ _ Hhc.out).mono ?_
          rintro e w' ⟨rfl, rfl⟩
          go_wp2
          go_ret
          exact ⟨rfl, (Below.refl _ _).alloc (Nat.le_refl _) _⟩
        | true =>
          go_enter Try.func47, Try.ntmps47
          go_wp2_with fail
          refine (regR_any _ _ _ Hha.out).mono ?_
          rintro e w' ⟨rfl, rfl⟩
          go_wp2_with fail
          refine (regR_any _ _ _ Hhb.out).mono ?_
          rintro e w' ⟨rfl, rfl⟩
          go_wp2_with fail
          refine (regR_any _ _ _ Hhc.out).mono ?_
          rintro e w' ⟨rfl, rfl⟩
          go_wp2
          go_ret
          exact ⟨rfl, (Below.refl _ _).alloc (Nat.le_refl _) _⟩

set_option maxRecDepth 100000 in
set_option maxHeartbeats 2000000 in
theorem mayR_4 (a b c k n : Int) (w : World) (k0 : 0 ≤ k) (k1 : k ≤ 4294967295) :
    Calls Try.prog 47 #[.agg #[.int .i64 4, .int .i64 a, .int .i64 b, .int .i64 c, .int .u32 k], .int .i64 n] w fun e w' => e = .returned (.bool (mayB ⟨4, a, b, c, k⟩ n)) ∧ Below w.heap.size w w' := by
  have e : mayB ⟨4, a, b, c, k⟩ n = (regB a true && (regB b true && (regB c true && (k == 0)))) := by
    show (true && (regB a true && (regB b true && (regB c true && conB 4 k false n)))) = _
    rw [con_off]
    rfl
  rw [e]
  clear e
  obtain ⟨vha, ha⟩ : ∃ v, v = regB a true := ⟨_, rfl⟩
  obtain ⟨vhb, hb⟩ : ∃ v, v = regB b true := ⟨_, rfl⟩
  obtain ⟨vhc, hc⟩ : ∃ v, v = regB c true := ⟨_, rfl⟩
  obtain ⟨vhk, hk⟩ : ∃ v, v = (k == 0) := ⟨_, rfl⟩
  rw [← ha, ← hb, ← hc, ← hk]
  have Hha := Lib.hid ha.symm
  clear ha
  have Hhb := Lib.hid hb.symm
  clear hb
  have Hhc := Lib.hid hc.symm
  clear hc
  replace hk := hk.symm
  cases vha with
  | false =>
    go_enter Try.func47, Try.ntmps47
    go_wp2_with fail
    refine (regR_any _ _ _ Hha.out).mono ?_
    rintro e w' ⟨rfl, rfl⟩
    go_wp2
    go_ret
    exact ⟨rfl, (Below.refl _ _).alloc (Nat.le_refl _) _⟩
  | true =>
    cases vhb with
    | false =>
      go_enter Try.func47, Try.ntmps47
      go_wp2_with fail
      refine (regR_any _ _ _ Hha.out).mono ?_
      rintro e w' ⟨rfl, rfl⟩
      go_wp2_with fail
      refine (regR_any _ _ _ Hhb.out).mono ?_
      rintro e w' ⟨rfl, rfl⟩
      go_wp2
      go_ret
      exact ⟨rfl, (Below.refl _ _).alloc (Nat.le_refl _) _⟩
    | true =>
      cases vhc with
      | false =>
        go_enter Try.func47, Try.ntmps47
        go_wp2_with fail
        refine (regR_any _ _ _ Hha.out).mono ?_
        rintro e w' ⟨rfl, rfl⟩
        go_wp2_with fail
        refine (regR_any _ _ _ Hhb.out).mono ?_
        rintro e w' ⟨rfl, rfl⟩
        go_wp2_with fail
        refine (regR_any _ _ _ Hhc.out).mono ?_
        rintro e w' ⟨rfl, rfl⟩
        go_wp2
        go_ret
        exact ⟨rfl, (Below.refl _ _).alloc (Nat.le_refl _) _⟩
      | true =>
        cases vhk with
        | false =>
          go_enter Try.func47, Try.ntmps47
          go_wp2_with fail
          refine (regR_any _ _ _ Hha.out).mono ?_
          rintro e w' ⟨rfl, rfl⟩
          go_wp2_with fail
          refine (regR_any _ _ _ Hhb.out).mono ?_
          rintro e w' ⟨rfl, rfl⟩
          go_wp2_with fail
          refine (regR_any _ _ _ Hhc.out).mono ?_
          rintro e w' ⟨rfl, rfl⟩
          go_wp2
          go_ret
          exact ⟨rfl, (Below.refl _ _).alloc (Nat.le_refl _) _⟩
        | true =>
          go_enter Try.func47, Try.ntmps47
          go_wp2_with fail
          refine (regR_any _ _ _ Hha.out).mono ?_
          rintro e w' ⟨rfl, rfl⟩
          go_wp2_with fail
          refine (regR_any _ _ _ Hhb.out).mono ?_
          rintro e w' ⟨rfl, rfl⟩
          go_wp2_with fail
          refine (regR_any _ _ _ Hhc.out).mono ?_
          rintro e w' ⟨rfl, rfl⟩
          go_wp2
          go_ret
          exact ⟨rfl, (Below.refl _ _).alloc (Nat.le_refl _) _⟩
end Go.Proofs.Ytekiialhljfglaa
