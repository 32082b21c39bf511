/- Gone back, by the document's own; no condition but that the log reads. -/
import Derived.Test.YtbgllkjhgjoodaaUnX
import Derived.Test.YtbgllkjhgjoodaaUnS
import Derived.Test.YtbgllkjhgjoodaaGen
namespace Go.Proofs.Ytbgllkjhgjoodaa
set_option linter.unusedVariables false
set_option linter.unusedSimpArgs false
open Go.ChangeShapes Go.WideShapes Go.ChangeAt Go.RowKit

/-- The eldest that tells what a place becomes. -/
def hitU (l : List Un) (a : Nat) : Bool := l.any fun u => decide (u.at_ = (a : Int))
def valU (l : List Un) (a : Nat) (d : Int) : Int := ((l.find? fun u => decide (u.at_ = (a : Int))).map Un.val).getD d
theorem hit_app (l : List Un) (u : Un) (a : Nat) : hitU (l ++ [u]) a = (hitU l a || decide (u.at_ = (a : Int))) := by unfold hitU; rw [List.any_append]; simp
theorem find_app (l : List Un) (u : Un) (a : Nat) (d : Int) : valU (l ++ [u]) a d = if hitU l a = true then valU l a d else if u.at_ = (a : Int) then u.val else valU l a d := by
  induction l with
  | nil =>
    unfold valU hitU
    by_cases e : u.at_ = (a : Int)
    · simp [e]
    · simp [e]
  | cons x l ih =>
    unfold valU hitU at ih ⊢
    by_cases e : x.at_ = (a : Int)
    · simp [e]
    · simpa [e] using ih
theorem undo_val {l : List Un} (h : ∀ u ∈ l, 0 ≤ u.at_) (m : List Int) (a : Nat) (ha : a < m.length) : (undoM l m).getD a 0 = valU l a (m.getD a 0) := by
  induction l with
  | nil => rfl
  | cons x l ih =>
    have ih := ih (fun u hu => h u (List.mem_cons_of_mem _ hu))
    have hx := h x (List.mem_cons_self ..)
    rw [undoM_cons]
    unfold setM
    by_cases e : x.at_ = (a : Int)
    · have e1 : x.at_.toNat = a := by omega
      have e2 : valU (x :: l) a (m.getD a 0) = x.val := by unfold valU; simp [e]
      rw [e2, e1, List.getD_eq_getElem?_getD, List.getElem?_set_self (by rw [len_undoM]; exact ha)]
      rfl
    · have e1 : x.at_.toNat ≠ a := by omega
      have e2 : valU (x :: l) a (m.getD a 0) = valU l a (m.getD a 0) := by unfold valU; simp [e]
      rw [e2, List.getD_eq_getElem?_getD, List.getElem?_set_ne e1, ← List.getD_eq_getElem?_getD]
      exact ih
theorem getD_setI_same (l : List Int) (a : Nat) (h : a < l.length) (b : Int) : (l.set a b).getD a 0 = b := by
  rw [List.getD_eq_getElem?_getD, List.getElem?_set_self h]; rfl
theorem getD_setI_other (l : List Int) (a c : Nat) (h : a ≠ c) (b : Int) : (l.set a b).getD c 0 = l.getD c 0 := by
  rw [List.getD_eq_getElem?_getD, List.getElem?_set_ne h, ← List.getD_eq_getElem?_getD]
theorem ext_getD {l m : List Int} (h : l.length = m.length) (h2 : ∀ j, j < l.length → l.getD j 0 = m.getD j 0) : l = m := by
  apply List.ext_getElem h
  intro j h3 h4
  have := h2 j h3
  rwa [← get_getD l 0 j h3, ← get_getD m 0 j h4] at this

/-- Its words up to a are those gone back to. -/
structure Up (M R T : List Int) (a : Nat) : Prop where
  len : T.length = M.length
  lo : ∀ j, j < a → T.getD j 0 = R.getD j 0
  hi : ∀ j, a ≤ j → T.getD j 0 = M.getD j 0
theorem Up.next {M R T : List Int} {a : Nat} (h : Up M R T a) (ha : a < M.length) : Up M R (T.set a (R.getD a 0)) (a + 1) := by
  refine ⟨by rw [List.length_set, h.len], fun j hj => ?_, fun j hj => ?_⟩
  · by_cases e : a = j
    · subst e; rw [getD_setI_same _ _ (by rw [h.len]; exact ha)]
    · rw [getD_setI_other _ _ _ e]; exact h.lo j (by omega)
  · rw [getD_setI_other _ _ _ (by omega)]; exact h.hi j (by omega)
/-- The walk's state: the boxed log, the result's variable, and the words of its own. -/
structure Bk (w W : World) (p : Option Addr) (m c : Nat) (s : Int) (q : Option Addr) (n d : Nat) (g c' : Nat) (T : List Int) : Prop where
  hA : Blk W w.heap.size #[.slice p m c, .int .i64 s, .slice q n d]
  hT : Blk W (w.heap.size + 1) #[.slice none 0 0, .int .i64 0, .slice none 0 0]
  hB : Below w.heap.size w W
  hZ : w.heap.size + 2 ≤ W.heap.size
  ho : W.ownsRow (w.heap.size + 2) 26 1 (.slice (some ⟨g, 0, none⟩) m c') m (wdC T)
theorem Bk.store {w W : World} {p : Option Addr} {m c : Nat} {s : Int} {q : Option Addr} {n d g c' : Nat} {T : List Int} (h : Bk w W p m c s q n d g c' T) (k : Nat) (v : Int) : Bk w (W.setCell ⟨g, k, none⟩ (.int .u32 v)) p m c s q n d g c' (T.set k v) := by
  have hg := (h.ho.lt g rfl).1
  exact ⟨h.hA.other _ (by omega), h.hT.other _ (by omega), h.hB.setCell (p := ⟨g, k, none⟩) (by show w.heap.size ≤ g; omega) _, by rw [size_set]; exact h.hZ, by have := (h.ho.stored k (.int .u32 v)).1; rw [wdC_set] at this; exact this⟩
theorem Bk.below {w W W' : World} {p : Option Addr} {m c : Nat} {s : Int} {q : Option Addr} {n d g c' : Nat} {T : List Int} (h : Bk w W p m c s q n d g c' T) (hb : Below W.heap.size W W') : Bk w W' p m c s q n d g c' T :=
  ⟨h.hA.below hb, h.hT.below hb, h.hB.trans (hb.mono h.hB.size), Nat.le_trans h.hZ hb.size, own_below h.ho hb⟩

set_option maxHeartbeats 16000000 in
set_option maxRecDepth 100000 in
theorem rback_any (S : Nat → Prop) (v : Value) (L : Lg) (t : Int) (w : World) (h : Lo S w v L) (hS : ∀ R, S R → R < w.heap.size) : Calls Try.prog 11 #[v, .int .i64 t] w fun e w' => OutL S w w' e (backL L t) (backE L t) := by
  have HSS := Lib.hid hS
  have hx := h.ex
  have HR := Lib.hid (fun W (hW : Below w.heap.size w W) => rright_any S v L W (h.below hW))
  obtain ⟨p, m, c, q, n, d, rfl, hc, -⟩ := h
  have HC := Lib.hid hc
  have HX := Lib.hid hx
  have hm := hc.m10
  have hn := hc.n10
  have HML : Hid (L.mem.length = m) := Lib.hid hc.ml
  have HLL : Hid (L.list.length = n) := Lib.hid hc.ll
  have HOK := Lib.hid (fun r (hr : r = rightL L) => okB_cases L t r hr)
  have HNO : Hid ((!okB L t) = true → backL L t = L ∧ backE L t = 1) := Lib.hid (fun e => ⟨(trim_no (by simpa using e)).2.1, (trim_no (by simpa using e)).2.2⟩)
  have HYES : Hid ((!okB L t) = false → backL L t = ⟨undoM (fromL L.list t) L.mem, t, belowL L.list t⟩ ∧ backE L t = 0) := Lib.hid (fun e => ⟨(trim_yes (by simpa using e)).2.1, (trim_yes (by simpa using e)).2.2⟩)
  have HRB : Hid ((!okB L t) = false → Rt L) := Lib.hid (fun e => by
    have e2 : okB L t = true := by simpa using e
    unfold okB at e2
    rw [Bool.and_eq_true] at e2
    exact right_iff.1 e2.1)
  obtain ⟨r, hr⟩ : ∃ z, z = rightL L := ⟨_, rfl⟩
  obtain ⟨o, ho⟩ : ∃ z, z = !okB L t := ⟨_, rfl⟩
  have hok := HOK.out r hr
  rw [← hr] at HR
  have hok : (!okB L t) = !(r && (decide (0 ≤ t) && decide (t ≤ L.span))) := by rw [hok]
  rw [← ho] at HNO HYES HRB hok
  obtain ⟨s, hs⟩ : ∃ z, z = L.span := ⟨_, rfl⟩
  rw [← hs] at HR HX hok ⊢
  have HS : Hid (L.span = s) := Lib.hid hs.symm
  have HO := Lib.hid hok
  clear hr ho hok HOK hs hc hx hS
  obtain ⟨w0, hw0⟩ : ∃ w0, w0 = (w.alloc (.cells #[.slice p m c, .int .i64 s, .slice q n d] 25)).alloc (.cells #[.slice none 0 0, .int .i64 0, .slice none 0 0] 25) := ⟨_, rfl⟩
  have HB0 : Hid (Below w.heap.size w w0) := Lib.hid (by rw [hw0]; exact ((Below.refl _ _).alloc (Nat.le_refl _) _).alloc (by simp) _)
  have HA0 : Hid (Blk w0 w.heap.size #[.slice p m c, .int .i64 s, .slice q n d]) := Lib.hid (by rw [hw0]; exact (Blk.new _ _ _).alloc _)
  have HT0 : Hid (Blk w0 (w.heap.size + 1) #[.slice none 0 0, .int .i64 0, .slice none 0 0]) := Lib.hid (by
    have := Blk.new (w.alloc (.cells #[.slice p m c, .int .i64 s, .slice q n d] 25)) #[.slice none 0 0, .int .i64 0, .slice none 0 0] 25
    rw [World.size_alloc] at this
    rw [hw0]; exact this)
  have HSZ : Hid (w0.heap.size = w.heap.size + 2) := Lib.hid (by rw [hw0, World.size_alloc, World.size_alloc])
  have HW0 := Lib.hid hw0
  clear hw0
  go_enter Try.func11, Try.ntmps11
  have kA := HA0.out.c
  go_upto_region 1 with fail
  rw [← HW0.out]
  clear HW0
  go_cut [24] (fun s24 wd => s24 = .bool o ∧ Below w0.heap.size w0 wd)
  case first =>
    go_wp2_with fail
    refine (HR.out w0 HB0.out).mono ?_
    rintro e w3 ⟨rfl, hb⟩
    have HBB := Lib.hid hb
    have HA := Lib.hid (HA0.out.below hb)
    clear hb kA
    have kA := HA.out.c
    cases r with
    | false =>
      have HE : Hid (o = true) := Lib.hid (by rw [HO.out]; rfl)
      go_wp2_with fail
      go_meet
      case rel => exact ⟨by rw [HE.out], HBB.out⟩
    | true =>
      by_cases g1 : t < 0
      · have e1 : decide (t < 0) = true := decide_eq_true g1
        have HE : Hid (o = true) := Lib.hid (by rw [HO.out, decide_eq_false (show ¬ 0 ≤ t by omega)]; rfl)
        go_wp2_with fail
        go_meet
        case rel => exact ⟨by rw [HE.out], HBB.out⟩
      · have e1 : decide (t < 0) = false := decide_eq_false g1
        by_cases g2 : s < t
        · have e2 : decide (s < t) = true := decide_eq_true g2
          have HE : Hid (o = true) := Lib.hid (by rw [HO.out, decide_eq_true (show 0 ≤ t by omega), decide_eq_false (show ¬ t ≤ s by omega)]; rfl)
          go_wp2_with fail
          go_meet
          case rel => exact ⟨by rw [HE.out], HBB.out⟩
        · have e2 : decide (s < t) = false := decide_eq_false g2
          have HE : Hid (o = false) := Lib.hid (by rw [HO.out, decide_eq_true (show 0 ≤ t by omega), decide_eq_true (show t ≤ s by omega)]; rfl)
          go_wp2_with fail
          go_meet
          case rel => exact ⟨by rw [HE.out], HBB.out⟩
  case rest =>
    obtain ⟨rfl, hb⟩ := hcut
    obtain ⟨w3, rfl⟩ : ∃ z, z = wc := ⟨_, rfl⟩
    have HA := Lib.hid (HA0.out.below hb)
    have HT := Lib.hid (HT0.out.below hb)
    have HB : Hid (Below w.heap.size w w3) := Lib.hid (HB0.out.trans (hb.mono HB0.out.size))
    have HZ : Hid (w.heap.size + 2 ≤ w3.heap.size) := Lib.hid (by rw [← HSZ.out]; exact hb.size)
    clear hb kA HA0 HT0 HB0 HSZ HR
    have kA := HA.out.c
    cases o with
    | true =>
      have HN := Lib.hid (HNO.out (by first | rfl | trivial))
      have kT := HT.out.c
      have fT := HT.out.f
      have lT := HT.out.lt
      clear HNO HYES HO
      go_wp2_with fail
      refine bodyPost_ret (v := .tuple #[.agg #[.slice p m c, .int .i64 s, .slice q n d], .int .i64 1]) (by simp [results, Try.results11, go_sem, *]) rfl ⟨_, by rw [HN.out.2], by rw [HN.out.1]; exact ((HX.out.below HB.out).set3 (R := w.heap.size + 1) (.inr (.inr rfl)) _ _ _).unex, set3_below HB.out (Nat.le_succ _) _ _ _⟩
    | false =>
      have HN := Lib.hid (HYES.out (by first | rfl | trivial))
      clear HNO HYES HO kA
      have hrt := HRB.out (by first | rfl | trivial)
      have HFI : Hid (∀ u ∈ fromL L.list t, 0 ≤ u.at_) := Lib.hid (fun u hu => (hrt.fit u (fromL_mem.1 hu).1).2.1)
      have hm1 : 0 < m := by have := hrt.m1; have := HML.out; omega
      clear HRB hrt
      obtain ⟨R, hR⟩ : ∃ z, z = undoM (fromL L.list t) L.mem := ⟨_, rfl⟩
      rw [← hR] at HN
      have HRL : Hid (R.length = m) := Lib.hid (by rw [hR, len_undoM, HML.out])
      have HRV : Hid (∀ a, a < m → R.getD a 0 = valU (fromL L.list t) a (L.mem.getD a 0)) := Lib.hid (fun a ha => by rw [hR]; exact undo_val HFI.out _ _ (by rw [HML.out]; exact ha))
      clear hR HFI
      obtain ⟨i0, hi, hz0, hz1, hz2⟩ := info_parts info26
      have HI := Lib.hid (And.intro hi (And.intro hz0 (And.intro hz1 hz2)))
      clear hi hz0 hz1 hz2
      obtain ⟨i1, hi, hz0, hz1, hz2⟩ := info_parts info51
      have HJ := Lib.hid (And.intro hi (And.intro hz0 (And.intro hz1 hz2)))
      clear hi hz0 hz1 hz2
      have kA := HA.out.c
      have lA := HA.out.lt
      go_upto_region 3 with fail
      go_wp2_with (first | (at_builtin; refine wpList_append_sl rfl _ _ 22 rfl w3.heap.size 26 i0 (.int .u32 0) 1 4 Try.underlying22 HI.out.1 HI.out.2.1 HI.out.2.2.1 HI.out.2.2.2 rfl (by decide) _ 0 [] rfl (fresh_made (Nat.le_refl _)) p m c (wdC L.mem) rfl (by rw [wdC_len, HML.out, Nat.mul_one]) (((HC.out.below HB.out).ms).below ((Below.refl _ _).alloc (Nat.le_refl _) _)) (wdC_one _) (by unfold maxLen; omega) (by omega) (by simp) ?_))
      intro v' w4 g1 g2 g3
      obtain ⟨p', c', rfl, -⟩ := own_cap g1
      have ho : w4.ownsRow w3.heap.size 26 1 (.slice p' m c') m (wdC L.mem) := by simpa using g1
      have hb4 : Below w3.heap.size w3 w4 := ((Below.refl w3.heap.size w3).alloc (Nat.le_refl _) _).grown g2 (by simp) (fun k hk => by simp [Value.ownBlock] at hk; omega)
      obtain ⟨g, rfl, -, -, -, -⟩ := own_go ho hm1
      have HBK : Hid (Bk w w4 p m c s q n d g c' L.mem) := Lib.hid ⟨HA.out.below hb4, HT.out.below hb4, HB.out.trans (hb4.mono HB.out.size), Nat.le_trans HZ.out hb4.size, own_base ho HZ.out⟩
      clear g1 g2 g3 ho hb4 HA HT HB HZ kA lA
      go_wp2_with fail
      go_loopw [8] (fun s8 wr => ∃ (a : Nat) (T : List Int), a ≤ m ∧ s8 = .int .i64 a ∧ Up L.mem R T a ∧ Bk w wr p m c s q n d g c' T) (fun s8 _ => m - (intOf s8).toNat)
      case atStart => exact ⟨0, L.mem, Nat.zero_le _, rfl, ⟨rfl, fun j hj => absurd hj (Nat.not_lt_zero _), fun j _ => rfl⟩, HBK.out⟩
      case round =>
        clear HBK
        obtain ⟨a, T, ha, rfl, hup, hbk⟩ := hrel
        have HUP := Lib.hid hup
        have HBK := Lib.hid hbk
        clear hup hbk
        by_cases ham : a < m
        · as_aux_lemma =>
            have haI : decide ((a : Int) < (m : Int)) = true := decide_eq_true (by omega)
            have haI1 : (0 : Int) ≤ (a : Int) := by omega
            have haI2 : (a : Int) < (m : Int) := by omega
            obtain ⟨D0, hD0⟩ : ∃ z, z = L.mem.getD a 0 := ⟨_, rfl⟩
            have HD0 : Hid (T.getD a 0 = D0) := Lib.hid (by rw [hD0]; exact HUP.out.hi a (Nat.le_refl _))
            have HRA : Hid (R.getD a 0 = valU (fromL L.list t) a D0) := Lib.hid (by rw [hD0]; exact HRV.out a ham)
            have HTL : Hid (T.length = m) := Lib.hid (HUP.out.len.trans HML.out)
            clear hD0
            go_wp2_with fail
            obtain ⟨wu, rfl⟩ : ∃ z, z = wr := ⟨_, rfl⟩
            go_loopw [9, 10] (fun s9 s10 wr => ∃ (i : Nat) (b : Bool), i ≤ n ∧ s10 = .int .i64 i ∧ s9 = .bool b ∧ b = hitU (fromL (L.list.take i) t) a ∧ Bk w wr p m c s q n d g c' (T.set a (valU (fromL (L.list.take i) t) a D0))) (fun _ s10 _ => n - (intOf s10).toNat)
            case atStart => exact ⟨0, false, Nat.zero_le _, rfl, rfl, rfl, by
              have e1 : valU (fromL (L.list.take 0) t) a D0 = D0 := rfl
              rw [e1, ← HD0.out, setM_self T a (by rw [HTL.out]; exact ham)]
              exact HBK.out⟩
            case round =>
              clear HBK
              obtain ⟨i, b, hi, rfl, rfl, hbe, hbk⟩ := hrel
              have HBE := Lib.hid hbe
              have HBK := Lib.hid hbk
              clear hbe hbk
              have kA := HBK.out.hA.c
              by_cases hlt : i < n
              · have hiI : decide ((i : Int) < (n : Int)) = true := decide_eq_true (by omega)
                obtain ⟨gu, ou, rfl, hat⟩ := (HC.out.below HBK.out.hB).unAt i hlt
                have HTK := Lib.hid (from_take L.list t i (by rw [HLL.out]; exact hlt))
                obtain ⟨⟨us, ua, uv⟩, hu⟩ : ∃ u, L.list.getD i zU = u := ⟨_, rfl⟩
                rw [hu] at hat HTK
                have c0 := hat.c0
                have c1 := hat.c1
                have c2 := hat.c2
                dsimp only at c0 c1 c2
                have hiI1 : (0 : Int) ≤ (i : Int) := by omega
                have hiI2 : (i : Int) < (n : Int) := by omega
                clear hu hat
                by_cases hge : t ≤ us
                · have e1 : decide (t ≤ us) = true := decide_eq_true hge
                  have HT2 : Hid (fromL (L.list.take (i + 1)) t = fromL (L.list.take i) t ++ [⟨us, ua, uv⟩]) := Lib.hid (by rw [HTK.out, if_pos hge])
                  clear HTK hge
                  by_cases hua : ua = (a : Int)
                  · have e2 : (ua == (a : Int)) = true := beq_iff_eq.2 hua
                    cases b with
                    | true =>
                      have HNX : Hid (true = hitU (fromL (L.list.take (i + 1)) t) a ∧ valU (fromL (L.list.take (i + 1)) t) a D0 = valU (fromL (L.list.take i) t) a D0) := Lib.hid (by
                        rw [HT2.out, hit_app, find_app, ← HBE.out]; exact ⟨rfl, rfl⟩)
                      clear hua HBE HT2
                      go_wp2_with fail
                      go_roundw
                      case rel => exact ⟨i + 1, true, by omega, by go_num, rfl, HNX.out.1, by rw [HNX.out.2]; exact HBK.out⟩
                      case measure => simp [intOf]; omega
                    | false =>
                      have HNX : Hid (true = hitU (fromL (L.list.take (i + 1)) t) a ∧ valU (fromL (L.list.take (i + 1)) t) a D0 = uv) := Lib.hid (by
                        rw [HT2.out, hit_app, find_app, ← HBE.out]
                        exact ⟨by rw [decide_eq_true hua]; rfl, by rw [if_neg (by decide), if_pos hua]⟩)
                      have cM : wr.cell? ⟨g, a, none⟩ = some (.int .u32 ((T.set a (valU (fromL (L.list.take i) t) a D0)).getD a 0)) := by rw [HBK.out.ho.cellAt a (by omega), wdC_at _ a (by rw [List.length_set, HTL.out]; exact ham)]
                      have fM : wr.frozen? ⟨g, a, none⟩ = false := HBK.out.ho.frozenAt a
                      clear hua HBE HT2
                      go_upto_region 14 with fail
                      have HBS := Lib.hid (HBK.out.store a uv)
                      rw [List.set_set] at HBS
                      obtain ⟨wx, hwx⟩ : ∃ z, z = wr.setCell ⟨g, a, none⟩ (.int .u32 uv) := ⟨_, rfl⟩
                      rw [← hwx] at HBS ⊢
                      clear hwx HBK kA cM fM c0 c1 c2
                      go_wp2_with fail
                      go_roundw
                      case rel => exact ⟨i + 1, true, by omega, by go_num, rfl, HNX.out.1, by rw [HNX.out.2]; exact HBS.out⟩
                      case measure => simp [intOf]; omega
                  · have e2 : (ua == (a : Int)) = false := beq_eq_false_iff_ne.2 hua
                    have HNX : Hid (b = hitU (fromL (L.list.take (i + 1)) t) a ∧ valU (fromL (L.list.take (i + 1)) t) a D0 = valU (fromL (L.list.take i) t) a D0) := Lib.hid (by
                      rw [HT2.out, hit_app, find_app, ← HBE.out, decide_eq_false hua, if_neg hua]
                      exact ⟨by simp, by split <;> rfl⟩)
                    clear hua HBE HT2
                    go_wp2_with fail
                    go_roundw
                    case rel => exact ⟨i + 1, b, by omega, by go_num, rfl, HNX.out.1, by rw [HNX.out.2]; exact HBK.out⟩
                    case measure => simp [intOf]; omega
                · have e1 : decide (t ≤ us) = false := decide_eq_false hge
                  have HNX : Hid (b = hitU (fromL (L.list.take (i + 1)) t) a ∧ valU (fromL (L.list.take (i + 1)) t) a D0 = valU (fromL (L.list.take i) t) a D0) := Lib.hid (by
                    rw [HTK.out, if_neg hge]; exact ⟨HBE.out, rfl⟩)
                  clear HTK hge HBE
                  go_wp2_with fail
                  go_roundw
                  case rel => exact ⟨i + 1, b, by omega, by go_num, rfl, HNX.out.1, by rw [HNX.out.2]; exact HBK.out⟩
                  case measure => simp [intOf]; omega
              · have hiI : decide ((i : Int) < (n : Int)) = false := decide_eq_false (by omega)
                have HUN : Hid (Up L.mem R (T.set a (valU (fromL (L.list.take i) t) a D0)) (a + 1)) := Lib.hid (by
                  rw [show i = L.list.length by rw [HLL.out]; omega, List.take_length, ← HRA.out]
                  exact HUP.out.next (by rw [HML.out]; exact ham))
                go_wp2_with fail
                go_roundw
                case rel => exact ⟨a + 1, _, by omega, by go_num, HUN.out, HBK.out⟩
                case measure => simp [intOf]; omega
        · as_aux_lemma =>
            have haI : decide ((a : Int) < (m : Int)) = false := decide_eq_false (by omega)
            have HTR : Hid (T = R) := Lib.hid (ext_getD (by rw [HUP.out.len, HML.out, HRL.out]) (fun j hj => HUP.out.lo j (by have := HUP.out.len; have := HML.out; omega)))
            have HBR : Hid (Bk w wr p m c s q n d g c' R) := Lib.hid (by have h1 := HBK.out; rwa [HTR.out] at h1)
            clear HBK HTR HUP
            obtain ⟨wu, rfl⟩ : ∃ z, z = wr := ⟨_, rfl⟩
            go_wp2_with fail
            go_loopw [7, 11] (fun s7 s11 wr => ∃ (i : Nat) (q' : Option Addr) (n' d' : Nat), i ≤ n ∧ s11 = .int .i64 i ∧ s7 = .slice q' n' d' ∧ n' ≤ i ∧ wr.ownsRow wu.heap.size 51 3 (.slice q' n' d') n' (unC (belowL (L.list.take i) t)) ∧ Below wu.heap.size wu wr) (fun _ s11 _ => n - (intOf s11).toNat)
            case atStart => exact ⟨0, none, 0, 0, Nat.zero_le _, rfl, rfl, Nat.le_refl _, World.ownsRow_nil _ _ _ _, Below.refl _ _⟩
            case round =>
              obtain ⟨i, q', n', d', hi, rfl, rfl, hni, how, hb⟩ := hrel
              have HOW := Lib.hid how
              have HBL := Lib.hid hb
              have HBK := Lib.hid (HBR.out.below hb)
              clear how hb
              have kA := HBK.out.hA.c
              by_cases hlt : i < n
              · have hiI : decide ((i : Int) < (n : Int)) = true := decide_eq_true (by omega)
                obtain ⟨gu, ou, rfl, hat⟩ := (HC.out.below HBK.out.hB).unAt i hlt
                have HTK := Lib.hid (below_take L.list t i (by rw [HLL.out]; exact hlt))
                obtain ⟨⟨us, ua, uv⟩, hu⟩ : ∃ u, L.list.getD i zU = u := ⟨_, rfl⟩
                rw [hu] at hat HTK
                have c0 := hat.c0
                have c1 := hat.c1
                have c2 := hat.c2
                dsimp only at c0 c1 c2
                have hiI1 : (0 : Int) ≤ (i : Int) := by omega
                have hiI2 : (i : Int) < (n : Int) := by omega
                clear hu hat
                by_cases hge : us < t
                · have e1 : decide (us < t) = true := decide_eq_true hge
                  have HT2 : Hid (belowL (L.list.take (i + 1)) t = belowL (L.list.take i) t ++ [⟨us, ua, uv⟩]) := Lib.hid (by rw [HTK.out, if_pos hge])
                  clear HTK hge
                  go_wp2_with (first | (at_builtin; refine wpList_append_sl rfl _ _ 23 rfl wu.heap.size 51 i1 _ 3 24 Try.underlying23 HJ.out.1 HJ.out.2.1 HJ.out.2.2.1 HJ.out.2.2.2 rfl (by decide) _ n' (unC (belowL (L.list.take i) t)) rfl (own_below HOW.out ((Below.refl _ _).alloc (Nat.le_refl _) _)) (some ⟨wr.heap.size, 0, none⟩) 1 1 (unC [⟨us, ua, uv⟩]) rfl rfl (blk_sl (Blk.new _ _ _)) (unC_oneCell _) (by unfold maxLen; omega) (by omega) (by rw [size_new]; have := HBL.out.size; omega) ?_))
                  intro v' w7 g1 g2 g3
                  have hob : ∀ g, (Value.slice q' n' d').ownBlock = some g → wu.heap.size ≤ g := fun g e => (HOW.out.lt g e).1
                  have hb7 := (HBL.out.alloc HBL.out.size (.cells #[.int .i64 us, .int .i64 ua, .int .u32 uv] 51)).grown g2 (Nat.le_trans HBL.out.size (by rw [size_new]; omega)) (fun g e => hob g e)
                  obtain ⟨q2, d2, rfl, -⟩ := own_cap g1
                  have HOW7 : Hid (w7.ownsRow wu.heap.size 51 3 (.slice q2 (n' + 1) d2) (n' + 1) (unC (belowL (L.list.take (i + 1)) t))) := Lib.hid (by rw [HT2.out, unC_app]; exact g1)
                  have HB7 := Lib.hid hb7
                  clear g1 g2 g3 hob hb7 HT2 HOW HBL HBK kA
                  go_wp2_with fail
                  go_roundw
                  case rel => exact ⟨i + 1, _, _, _, by omega, by go_num, rfl, by omega, HOW7.out, HB7.out⟩
                  case measure => simp [intOf]; omega
                · have e1 : decide (us < t) = false := decide_eq_false hge
                  have HT2 : Hid (belowL (L.list.take (i + 1)) t = belowL (L.list.take i) t) := Lib.hid (by rw [HTK.out, if_neg hge])
                  clear HTK hge
                  go_wp2_with fail
                  go_roundw
                  case rel => exact ⟨i + 1, _, _, _, by omega, by go_num, rfl, by omega, by rw [HT2.out]; exact HOW.out, HBL.out⟩
                  case measure => simp [intOf]; omega
              · have hiI : decide ((i : Int) < (n : Int)) = false := decide_eq_false (by omega)
                have HOW2 : Hid (wr.ownsRow wu.heap.size 51 3 (.slice q' n' d') n' (unC (belowL L.list t))) := Lib.hid (by
                  have h1 := HOW.out
                  rwa [show i = L.list.length by rw [HLL.out]; omega, List.take_length] at h1)
                have HLX : Hid (Lo (Ex S w) wr (.agg #[.slice (some ⟨g, 0, none⟩) m c', .int .i64 t, .slice q' n' d']) ⟨R, t, belowL L.list t⟩) := Lib.hid (by
                  obtain ⟨_, _, e, hsl⟩ := Sl.own HOW2.out
                  injection e with e1 e2 e3
                  subst e1 e3
                  obtain ⟨_, _, e, hcap⟩ := own_cap HOW2.out
                  injection e with e1 e2 e3
                  subst e1 e3
                  obtain ⟨_, _, e, hsm⟩ := Sl.own HBK.out.ho
                  injection e with e1 e2 e3
                  subst e1 e3
                  obtain ⟨_, _, e, hcm⟩ := own_cap HBK.out.ho
                  injection e with e1 e2 e3
                  subst e1 e3
                  have hl2 := HOW2.out.1
                  rw [unC_len] at hl2
                  have hz := HBR.out.hZ
                  refine ⟨some ⟨g, 0, none⟩, m, c', q', n', d', rfl, ⟨HRL.out, by show (belowL L.list t).length = n'; omega, hsm, hsl, hcm, hcap, hm, by omega⟩, fun x hx => ?_⟩
                  have hxs : x < w.heap.size + 2 := by
                    rcases hx with h | h | h
                    · have := HSS.out x h; omega
                    · omega
                    · omega
                  exact ⟨own_offR HBK.out.ho hxs, own_offR HOW2.out (by omega)⟩)
                have kT := HBK.out.hT.c
                have fT := HBK.out.hT.f
                have lT := HBK.out.hT.lt
                clear HOW HBL
                go_wp2_with fail
                refine bodyPost_ret (v := .tuple #[.agg #[.slice (some ⟨g, 0, none⟩) m c', .int .i64 t, .slice q' n' d'], .int .i64 0]) (by simp [results, Try.results11, go_sem, *]) rfl ⟨_, by rw [HN.out.2], by rw [HN.out.1]; exact (HLX.out.set3 (R := w.heap.size + 1) (.inr (.inr rfl)) _ _ _).unex, set3_below HBK.out.hB (Nat.le_succ _) _ _ _⟩
end Go.Proofs.Ytbgllkjhgjoodaa
