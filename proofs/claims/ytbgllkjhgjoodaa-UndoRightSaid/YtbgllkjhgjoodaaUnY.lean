/- One word in its place, and a word written, by the document's own; no condition but that they read. -/
import Derived.Test.YtbgllkjhgjoodaaUnX
import Derived.Test.YtbgllkjhgjoodaaUnJ
import Derived.Test.YtbgllkjhgjoodaaGen
namespace Go.Proofs.Ytbgllkjhgjoodaa
set_option linter.unusedVariables false
set_option linter.unusedSimpArgs false
open Go.ChangeShapes Go.WideShapes Go.ChangeAt Go.RowKit

theorem okW_cases (L : Lg) (a : Int) (r : Bool) (hr : r = rightL L) : okW L a = (r && (decide (0 ≤ a) && decide (a < (L.mem.length : Int)))) := by
  unfold okW hasW
  rw [hr, Bool.decide_and]
theorem write_no {L : Lg} {a : Int} (e : okW L a = false) (x : Int) : writeL L a x = L ∧ writeE L a = 1 := by unfold writeL writeE; rw [e]; exact ⟨rfl, rfl⟩
theorem write_old {L : Lg} {a : Int} (e : okW L a = true) (e2 : hasU L.list L.span a = true) (x : Int) : writeL L a x = ⟨setM L.mem a x, L.span, L.list⟩ ∧ writeE L a = 0 := by
  unfold writeL writeE fullW putL; rw [e, e2]; exact ⟨rfl, rfl⟩
theorem write_full {L : Lg} {a : Int} (e : okW L a = true) (e2 : hasU L.list L.span a = false) (e3 : L.list.length = 256) (x : Int) : writeL L a x = L ∧ writeE L a = 6 := by
  unfold writeL writeE fullW; rw [e, e2, e3]; exact ⟨rfl, rfl⟩
theorem write_new {L : Lg} {a : Int} (e : okW L a = true) (e2 : hasU L.list L.span a = false) (e3 : ¬ L.list.length = 256) (x : Int) : writeL L a x = ⟨setM L.mem a x, L.span, L.list ++ [⟨L.span, a, L.mem.getD a.toNat 0⟩]⟩ ∧ writeE L a = 0 := by
  unfold writeL writeE fullW putL; rw [e, e2, decide_eq_false e3]; exact ⟨rfl, rfl⟩
theorem has_take (l : List Un) (s a : Int) (i : Nat) (hi : i < l.length) : hasU (l.take (i + 1)) s a = (hasU (l.take i) s a || decide ((l.getD i zU).span = s ∧ (l.getD i zU).at_ = a)) := by
  rw [take_getD l zU i hi]
  unfold hasU
  rw [List.any_append]
  simp

set_option maxHeartbeats 4000000 in
set_option maxRecDepth 100000 in
theorem rwith_any (p : Option Addr) (m c : Nat) (M : List Int) (k : Nat) (x : Int) (w : World) (hm : M.length = m) (hs : Sl w p m (wdC M)) (hb : m ≤ 10000) (hk : k < m) : Calls Try.prog 24 #[.slice p m c, .int .i64 (k : Int), .int .u32 x] w fun e w' => ∃ p' c', e = .returned (.slice p' m c') ∧ w'.ownsRow w.heap.size 26 1 (.slice p' m c') m (wdC (M.set k x)) ∧ Below w.heap.size w w' := by
  have HM := Lib.hid hm
  have HS := Lib.hid hs
  obtain ⟨i0, hi, hz0, hz1, hz2⟩ := info_parts info26
  have HI := Lib.hid (And.intro hi (And.intro hz0 (And.intro hz1 hz2)))
  clear hi hz0 hz1 hz2 hm hs
  go_enter Try.func24, Try.ntmps24
  go_wp2_with (first | (at_builtin; refine wpList_append_sl rfl _ _ 22 rfl w.heap.size 26 i0 (.int .u32 0) 1 4 Try.underlying22 HI.out.1 HI.out.2.1 HI.out.2.2.1 HI.out.2.2.2 rfl (by decide) _ 0 [] rfl (fresh_made (Nat.le_refl _)) p m c (wdC M) rfl (by rw [wdC_len, HM.out, Nat.mul_one]) (HS.out.below ((Below.refl _ _).alloc (Nat.le_refl _) _)) (wdC_one _) (by unfold maxLen; omega) (by omega) (by simp) ?_))
  intro v' w1 g1 g2 g3
  obtain ⟨p', c', rfl, -⟩ := own_cap g1
  have ho : w1.ownsRow w.heap.size 26 1 (.slice p' m c') m (wdC M) := by simpa using g1
  have HO := Lib.hid ho
  have HB : Hid (Below w.heap.size w w1) := Lib.hid (((Below.refl w.heap.size w).alloc (Nat.le_refl _) _).grown g2 (by simp) (fun k hk => by simp [Value.ownBlock] at hk; omega))
  obtain ⟨g, rfl, -, -, hgw, -⟩ := own_go ho (by omega)
  clear g1 g2 g3 ho
  have cM : w1.cell? ⟨g, k, none⟩ = some (.int .u32 (M.getD k 0)) := by rw [HO.out.cellAt k (by omega), wdC_at M k (by rw [HM.out]; exact hk)]
  have fM : w1.frozen? ⟨g, k, none⟩ = false := HO.out.frozenAt k
  have hkI : (0 : Int) ≤ (k : Int) := by omega
  have hkI2 : (k : Int) < (m : Int) := by omega
  have HST : Hid ((w1.setCell ⟨g, k, none⟩ (.int .u32 x)).ownsRow w.heap.size 26 1 (.slice (some ⟨g, 0, none⟩) m c') m (wdC (M.set k x))) := Lib.hid (by have := (HO.out.stored k (.int .u32 x)).1; rw [wdC_set] at this; exact this)
  go_wp2_with fail
  go_ret
  exact ⟨_, _, rfl, HST.out, HB.out.setCell (p := ⟨g, k, none⟩) hgw _⟩

set_option maxHeartbeats 16000000 in
set_option maxRecDepth 100000 in
theorem rwrite_any (S : Nat → Prop) (v : Value) (L : Lg) (t x : Int) (w : World) (h : Lo S w v L) (hS : ∀ R, S R → R < w.heap.size) : Calls Try.prog 8 #[v, .int .i64 t, .int .u32 x] w fun e w' => OutL S w w' e (writeL L t x) (writeE L t) := by
  have HSS := Lib.hid hS
  have hx := h.ex
  have HR := Lib.hid (fun W (hW : Below w.heap.size w W) => rright_any S v L W (h.below hW))
  obtain ⟨p, m, c, q, n, d, rfl, hc, -⟩ := h
  have HC := Lib.hid hc
  have HX := Lib.hid hx
  have hm := hc.m10
  have hn := hc.n10
  have HML : Hid (L.mem.length = m) := Lib.hid hc.ml
  have HLL : Hid (L.list.length = n) := Lib.hid hc.ll
  have HOK := Lib.hid (fun r (hr : r = rightL L) => okW_cases L t r hr)
  have HNO : Hid ((!okW L t) = true → writeL L t x = L ∧ writeE L t = 1) := Lib.hid (fun e => write_no (by simpa using e) x)
  have HYES : Hid ((!okW L t) = false → okW L t = true) := Lib.hid (fun e => by simpa using e)
  obtain ⟨r, hr⟩ : ∃ z, z = rightL L := ⟨_, rfl⟩
  obtain ⟨o, ho⟩ : ∃ z, z = !okW L t := ⟨_, rfl⟩
  have hok := HOK.out r hr
  have HRT : Hid (r = rightL L) := Lib.hid hr
  rw [← hr] at HR
  have hok : (!okW L t) = !(r && (decide (0 ≤ t) && decide (t < (m : Int)))) := by rw [hok, HML.out]
  rw [← ho] at HNO HYES hok
  obtain ⟨s, hs⟩ : ∃ z, z = L.span := ⟨_, rfl⟩
  rw [← hs] at HR HX ⊢
  have HS : Hid (L.span = s) := Lib.hid hs.symm
  have HO := Lib.hid hok
  clear hr ho hok HOK hs hc hx hS
  obtain ⟨w0, hw0⟩ : ∃ w0, w0 = (w.alloc (.cells #[.slice p m c, .int .i64 s, .slice q n d] 25)).alloc (.cells #[.slice none 0 0, .int .i64 0, .slice none 0 0] 25) := ⟨_, rfl⟩
  have HB0 : Hid (Below w.heap.size w w0) := Lib.hid (by rw [hw0]; exact ((Below.refl _ _).alloc (Nat.le_refl _) _).alloc (by simp) _)
  have HA0 : Hid (Blk w0 w.heap.size #[.slice p m c, .int .i64 s, .slice q n d]) := Lib.hid (by rw [hw0]; exact (Blk.new _ _ _).alloc _)
  have HT0 : Hid (Blk w0 (w.heap.size + 1) #[.slice none 0 0, .int .i64 0, .slice none 0 0]) := Lib.hid (by
    have := Blk.new (w.alloc (.cells #[.slice p m c, .int .i64 s, .slice q n d] 25)) #[.slice none 0 0, .int .i64 0, .slice none 0 0] 25
    rw [World.size_alloc] at this
    rw [hw0]; exact this)
  have HSZ : Hid (w0.heap.size = w.heap.size + 2) := Lib.hid (by rw [hw0, World.size_alloc, World.size_alloc])
  have HW0 := Lib.hid hw0
  clear hw0
  go_enter Try.func8, Try.ntmps8
  have kA := HA0.out.c
  go_upto_region 1 with fail
  rw [← HW0.out]
  clear HW0
  go_cut [23] (fun s23 wd => s23 = .bool o ∧ Below w0.heap.size w0 wd ∧ (o = false → ∃ k : Nat, t = (k : Int) ∧ k < m) ∧ (o = false → n ≤ 256))
  case first =>
    go_wp2_with fail
    refine (HR.out w0 HB0.out).mono ?_
    rintro e w3 ⟨rfl, hb⟩
    have HBB := Lib.hid hb
    have HA := Lib.hid (HA0.out.below hb)
    clear hb kA
    have kA := HA.out.c
    cases r with
    | false =>
      have HE : Hid (o = true) := Lib.hid (by rw [HO.out]; rfl)
      go_wp2_with fail
      go_meet
      case rel => exact ⟨by rw [HE.out], HBB.out, fun e => (by rw [HE.out] at e; cases e), fun e => (by rw [HE.out] at e; cases e)⟩
    | true =>
      by_cases g1 : t < 0
      · have e1 : decide (t < 0) = true := decide_eq_true g1
        have HE : Hid (o = true) := Lib.hid (by rw [HO.out, decide_eq_false (show ¬ 0 ≤ t by omega)]; rfl)
        go_wp2_with fail
        go_meet
        case rel => exact ⟨by rw [HE.out], HBB.out, fun e => (by rw [HE.out] at e; cases e), fun e => (by rw [HE.out] at e; cases e)⟩
      · have e1 : decide (t < 0) = false := decide_eq_false g1
        by_cases g2 : (m : Int) ≤ t
        · have e2 : decide ((m : Int) ≤ t) = true := decide_eq_true g2
          have HE : Hid (o = true) := Lib.hid (by rw [HO.out, decide_eq_true (show 0 ≤ t by omega), decide_eq_false (show ¬ t < (m : Int) by omega)]; rfl)
          go_wp2_with fail
          go_meet
          case rel => exact ⟨by rw [HE.out], HBB.out, fun e => (by rw [HE.out] at e; cases e), fun e => (by rw [HE.out] at e; cases e)⟩
        · have e2 : decide ((m : Int) ≤ t) = false := decide_eq_false g2
          have HE : Hid (o = false) := Lib.hid (by rw [HO.out, decide_eq_true (show 0 ≤ t by omega), decide_eq_true (show t < (m : Int) by omega)]; rfl)
          go_wp2_with fail
          go_meet
          case rel => exact ⟨by rw [HE.out], HBB.out, fun _ => ⟨t.toNat, by omega, by omega⟩, fun _ => by have := (right_iff.1 HRT.out.symm).n256; have := HLL.out; omega⟩
  case rest =>
    obtain ⟨rfl, hb, hpl, hpn⟩ := hcut
    obtain ⟨w3, rfl⟩ : ∃ z, z = wc := ⟨_, rfl⟩
    have HA := Lib.hid (HA0.out.below hb)
    have HT := Lib.hid (HT0.out.below hb)
    have HB : Hid (Below w.heap.size w w3) := Lib.hid (HB0.out.trans (hb.mono HB0.out.size))
    have HZ : Hid (w.heap.size + 2 ≤ w3.heap.size) := Lib.hid (by rw [← HSZ.out]; exact hb.size)
    clear hb kA HA0 HT0 HB0 HSZ HR
    have kA := HA.out.c
    cases o with
    | true =>
      have HN := Lib.hid (HNO.out (by first | rfl | trivial))
      have kT := HT.out.c
      have fT := HT.out.f
      have lT := HT.out.lt
      clear HNO HYES HO
      go_wp2_with fail
      refine bodyPost_ret (v := .tuple #[.agg #[.slice p m c, .int .i64 s, .slice q n d], .int .i64 1]) (by simp [results, Try.results8, go_sem, *]) rfl ⟨_, by rw [HN.out.2], by rw [HN.out.1]; exact ((HX.out.below HB.out).set3 (R := w.heap.size + 1) (.inr (.inr rfl)) _ _ _).unex, set3_below HB.out (Nat.le_succ _) _ _ _⟩
    | false =>
      have HN := Lib.hid (HYES.out (by first | rfl | trivial))
      clear HNO HYES HO kA
      obtain ⟨k, rfl, hkm⟩ := hpl rfl
      have hn256 := hpn rfl
      clear hpl hpn
      obtain ⟨i0, hi, hz0, hz1, hz2⟩ := info_parts info51
      have HI := Lib.hid (And.intro hi (And.intro hz0 (And.intro hz1 hz2)))
      clear hi hz0 hz1 hz2
      have hkI : (0 : Int) ≤ (k : Int) := by omega
      have hkI2 : (k : Int) < (m : Int) := by omega
      go_wp2_with fail
      go_loopw [8, 9] (fun s8 s9 wr => ∃ (i : Nat) (b : Bool), i ≤ n ∧ s9 = .int .i64 i ∧ s8 = .bool b ∧ b = hasU (L.list.take i) s (k : Int) ∧ Below w3.heap.size w3 wr) (fun _ s9 _ => n - (intOf s9).toNat)
      case atStart => exact ⟨0, false, Nat.zero_le _, rfl, rfl, rfl, Below.refl _ _⟩
      case round =>
        obtain ⟨i, b, hi, rfl, rfl, hbe, hbl⟩ := hrel
        have HBE := Lib.hid hbe
        have HA2 := Lib.hid (HA.out.below hbl)
        have HT2 := Lib.hid (HT.out.below hbl)
        have HB2 : Hid (Below w.heap.size w wr) := Lib.hid (HB.out.trans (hbl.mono HB.out.size))
        have HZ2 : Hid (w.heap.size + 2 ≤ wr.heap.size) := Lib.hid (Nat.le_trans HZ.out hbl.size)
        have HBL := Lib.hid hbl
        clear hbe hbl HA HT HB HZ
        obtain ⟨HA, HT, HB, HZ⟩ : Hid (Blk wr w.heap.size #[.slice p m c, .int .i64 s, .slice q n d]) ∧ Hid (Blk wr (w.heap.size + 1) #[.slice none 0 0, .int .i64 0, .slice none 0 0]) ∧ Hid (Below w.heap.size w wr) ∧ Hid (w.heap.size + 2 ≤ wr.heap.size) := ⟨HA2, HT2, HB2, HZ2⟩
        clear HA2 HT2 HB2 HZ2
        have kA := HA.out.c
        by_cases hlt : i < n
        · as_aux_lemma =>
            have hiI : decide ((i : Int) < (n : Int)) = true := decide_eq_true (by omega)
            obtain ⟨gu, ou, rfl, hat⟩ := (HC.out.below HB.out).unAt i hlt
            have HTK := Lib.hid (has_take L.list s (k : Int) i (by rw [HLL.out]; exact hlt))
            obtain ⟨⟨us, ua, uv⟩, hu⟩ : ∃ u, L.list.getD i zU = u := ⟨_, rfl⟩
            rw [hu, ← HBE.out] at HTK
            rw [hu] at hat
            have c0 := hat.c0
            have c1 := hat.c1
            dsimp only at c0 c1
            have hiI1 : (0 : Int) ≤ (i : Int) := by omega
            have hiI2 : (i : Int) < (n : Int) := by omega
            clear hu hat HBE
            go_upto_region 7 with fail
            cases b with
            | true =>
              have HNX : Hid (true = hasU (L.list.take (i + 1)) s (k : Int)) := Lib.hid (by rw [HTK.out]; rfl)
              go_quiet (fail)
              go_wp2_with fail
              go_roundw
              case rel => exact ⟨i + 1, true, by omega, by go_num, rfl, HNX.out, drewN_below HBL.out _⟩
              case measure => simp [intOf]; omega
            | false =>
              by_cases y1 : us = s
              · have x1 : (us == s) = true := beq_iff_eq.2 y1
                by_cases y2 : ua = (k : Int)
                · have x2 : (ua == (k : Int)) = true := beq_iff_eq.2 y2
                  have HNX : Hid (true = hasU (L.list.take (i + 1)) s (k : Int)) := Lib.hid (by rw [HTK.out, decide_eq_true ⟨y1, y2⟩]; rfl)
                  clear y1 y2
                  go_quiet (fail)
                  go_wp2_with fail
                  go_roundw
                  case rel => exact ⟨i + 1, true, by omega, by go_num, rfl, HNX.out, drewN_below HBL.out _⟩
                  case measure => simp [intOf]; omega
                · have x2 : (ua == (k : Int)) = false := beq_eq_false_iff_ne.2 y2
                  have HNX : Hid (false = hasU (L.list.take (i + 1)) s (k : Int)) := Lib.hid (by rw [HTK.out, decide_eq_false (fun h => y2 h.2)]; rfl)
                  clear y1 y2
                  go_quiet (fail)
                  go_wp2_with fail
                  go_roundw
                  case rel => exact ⟨i + 1, false, by omega, by go_num, rfl, HNX.out, drewN_below HBL.out _⟩
                  case measure => simp [intOf]; omega
              · have x1 : (us == s) = false := beq_eq_false_iff_ne.2 y1
                have HNX : Hid (false = hasU (L.list.take (i + 1)) s (k : Int)) := Lib.hid (by rw [HTK.out, decide_eq_false (fun h => y1 h.1)]; rfl)
                clear y1
                go_quiet (fail)
                go_wp2_with fail
                go_roundw
                case rel => exact ⟨i + 1, false, by omega, by go_num, rfl, HNX.out, drewN_below HBL.out _⟩
                case measure => simp [intOf]; omega
        · have hiI : decide ((i : Int) < (n : Int)) = false := decide_eq_false (by omega)
          have HH : Hid (hasU L.list L.span (k : Int) = b) := Lib.hid (by
            have h1 := HBE.out
            rw [show i = L.list.length by rw [HLL.out]; omega, List.take_length] at h1
            rw [HS.out, ← h1])
          clear HBE
          cases b with
          | true =>
            as_aux_lemma =>
              have HN2 := Lib.hid (write_old HN.out HH.out x)
              clear HN HH
              obtain ⟨HN⟩ : Nonempty (Hid (writeL L (k : Int) x = ⟨L.mem.set k x, L.span, L.list⟩ ∧ writeE L (k : Int) = 0)) := ⟨Lib.hid (by have h1 := HN2.out; unfold setM at h1; rw [Int.toNat_natCast] at h1; exact h1)⟩
              clear HN2
              have HAq := HA
              have HTq := HT
              have HBq := HB
              have HZq := HZ
              have HQq : Hid (Sl wr q n (unC L.list)) := Lib.hid ((HC.out.below HB.out).ls)
              have HLq : Hid (L.list.length = n ∧ n ≤ d ∧ n ≤ 10000 ∧ ∀ R, Ex S w R → Off R q n) := Lib.hid ⟨HLL.out, HC.out.nd, hn, fun R hR => (by obtain ⟨p2, m2, c2, q2, n2, d2, e, _, ho⟩ := HX.out; injection e with e; simp at e; obtain ⟨_, _, rfl, rfl, rfl⟩ := e; exact (ho R hR).2)⟩
              clear HA HT HB HZ
              have HWI := Lib.hid (rwith_any p m c L.mem k x wr HML.out ((HC.out.below HBq.out).ms) hm hkm)
              clear kA
              have kA := HAq.out.c
              go_wp2_with fail
              refine HWI.out.mono ?_
              clear HWI kA
              rintro e w9 ⟨p9, c9, rfl, ho9, hb9⟩
              have HO9 := Lib.hid ho9
              have HA9 := Lib.hid (HAq.out.below hb9)
              have HT9 := Lib.hid (HTq.out.below hb9)
              have HB9 : Hid (Below w.heap.size w w9) := Lib.hid (HBq.out.trans (hb9.mono HBq.out.size))
              have HQ9 := Lib.hid (HQq.out.below hb9)
              clear ho9 hb9
              have kA := HA9.out.c
              have fA := HA9.out.f
              have lA := HA9.out.lt
              go_upto_region 13 with fail
              obtain ⟨wx, hwx⟩ : ∃ z, z = w9.setCell ⟨w.heap.size, 0, none⟩ (.slice p9 m c9) := ⟨_, rfl⟩
              have HAX : Hid (Blk wx w.heap.size #[.slice p9 m c9, .int .i64 s, .slice q n d]) := Lib.hid (by rw [hwx]; exact HA9.out.set (n := 0) (.slice p9 m c9) (by simp))
              have HTX : Hid (Blk wx (w.heap.size + 1) #[.slice none 0 0, .int .i64 0, .slice none 0 0]) := Lib.hid (by rw [hwx]; exact HT9.out.other _ (by omega))
              have HBX : Hid (Below w.heap.size w wx) := Lib.hid (by rw [hwx]; exact HB9.out.setCell (Nat.le_refl _) _)
              have HLX : Hid (Lo (Ex S w) wx (.agg #[.slice p9 m c9, .int .i64 s, .slice q n d]) ⟨L.mem.set k x, L.span, L.list⟩) := Lib.hid (by
                rw [hwx]
                refine Lo.set (R := w.heap.size) ?_ (.inr (.inl rfl)) _ _
                obtain ⟨_, _, e, hsl⟩ := Sl.own HO9.out
                injection e with e1 e2 e3
                subst e1 e3
                obtain ⟨_, _, e, hcap⟩ := own_cap HO9.out
                injection e with e1 e2 e3
                subst e1 e3
                have hz := HZq.out
                refine ⟨p9, m, c9, q, n, d, by rw [HS.out], ⟨by show (L.mem.set k x).length = m; rw [List.length_set, HML.out], HLq.out.1, hsl, HQ9.out, hcap, HLq.out.2.1, hm, HLq.out.2.2.1⟩, fun R hR => ⟨own_offR HO9.out ?_, HLq.out.2.2.2 R hR⟩⟩
                rcases hR with h | h | h
                · have := HSS.out R h; omega
                · omega
                · omega)
              rw [← hwx]
              clear hwx HA9 HT9 HB9 HO9 HQ9 kA fA lA
              have kA := HAX.out.c
              have kT := HTX.out.c
              have fT := HTX.out.f
              have lT := HTX.out.lt
              go_wp2_with fail
              refine bodyPost_ret (v := .tuple #[.agg #[.slice p9 m c9, .int .i64 s, .slice q n d], .int .i64 0]) (by simp [results, Try.results8, go_sem, *]) rfl ⟨_, by rw [HN.out.2], by rw [HN.out.1]; exact (HLX.out.set3 (R := w.heap.size + 1) (.inr (.inr rfl)) _ _ _).unex, set3_below HBX.out (Nat.le_succ _) _ _ _⟩
          | false =>
            by_cases hf : n = 256
            · have e9 : decide ((256 : Int) ≤ (n : Int)) = true := decide_eq_true (by omega)
              have HN2 := Lib.hid (write_full HN.out HH.out (HLL.out.trans hf) x)
              have kT := HT.out.c
              have fT := HT.out.f
              have lT := HT.out.lt
              clear hf HN HH
              go_wp2_with fail
              refine bodyPost_ret (v := .tuple #[.agg #[.slice p m c, .int .i64 s, .slice q n d], .int .i64 6]) (by simp [results, Try.results8, go_sem, *]) rfl ⟨_, by rw [HN2.out.2], by rw [HN2.out.1]; exact ((HX.out.below HB.out).set3 (R := w.heap.size + 1) (.inr (.inr rfl)) _ _ _).unex, set3_below HB.out (Nat.le_succ _) _ _ _⟩
            · as_aux_lemma =>
                have e9 : decide ((256 : Int) ≤ (n : Int)) = false := decide_eq_false (by omega)
                have HN2 := Lib.hid (write_new HN.out HH.out (fun e => hf (HLL.out.symm.trans e)) x)
                obtain ⟨gm, om, rfl, hgm, hcm⟩ := (HC.out.below HB.out).wdAt k hkm
                obtain ⟨y, hy⟩ : ∃ z, z = L.mem.getD k 0 := ⟨_, rfl⟩
                rw [← hy] at hcm
                clear HN HH
                obtain ⟨HN⟩ : Nonempty (Hid (writeL L (k : Int) x = ⟨L.mem.set k x, L.span, L.list ++ [(⟨s, (k : Int), y⟩ : Un)]⟩ ∧ writeE L (k : Int) = 0)) := ⟨Lib.hid (by have h1 := HN2.out; unfold setM at h1; rw [Int.toNat_natCast, ← hy, HS.out] at h1; rw [HS.out]; exact h1)⟩
                clear HN2 hy hf
                have HS0 : Hid (∀ W, Below wr.heap.size wr W → ((∀ j, W.cell? ⟨w.heap.size, j, none⟩ = (#[.slice (some ⟨gm, om, none⟩) m c, .int .i64 s, .slice q n d] : Array Value)[j]?) ∧ W.cell? ⟨gm, om + k, none⟩ = some (.int .u32 y)) ∧ Below wr.heap.size wr W) := Lib.hid (fun W hb => ⟨⟨(HA.out.below hb).c, (hb.cell (p := ⟨gm, om + k, none⟩) hgm).trans hcm⟩, hb⟩)
                clear hgm hcm
                go_upto_region 11 with fail
                clear kA e9 hiI
                go_cut [76] (fun s76 wd => s76 = .pointer (some ⟨w.heap.size, 2, none⟩) ∧ ∃ q' d', Blk wd w.heap.size #[.slice (some ⟨gm, om, none⟩) m c, .int .i64 s, .slice q' (n + 1) d'] ∧ Blk wd (w.heap.size + 1) #[.slice none 0 0, .int .i64 0, .slice none 0 0] ∧ wd.ownsRow wr.heap.size 51 3 (.slice q' (n + 1) d') (n + 1) (unC (L.list ++ [(⟨s, (k : Int), y⟩ : Un)])) ∧ Below w.heap.size w wd ∧ wr.heap.size ≤ wd.heap.size)
                case first =>
                  refine region_planT (fun W : World => ((∀ j, W.cell? ⟨w.heap.size, j, none⟩ = (#[.slice (some ⟨gm, om, none⟩) m c, .int .i64 s, .slice q n d] : Array Value)[j]?) ∧ W.cell? ⟨gm, om + k, none⟩ = some (.int .u32 y)) ∧ Below wr.heap.size wr W) 14 (.read 1 (.read 2 (.read 4 (.read 5 (.read 6 (.read 7 (.read 8 (.read 9 (.read 10 (.read 11 (.read 12 (.two 0 13 (.two 3 13 (.one 13 .stop) (.one 3 .stop)) (.one 0 (.one 3 .stop)))))))))))))) (by kernel_rfl) (by kernel_rfl) (HS0.out _ (Below.refl _ _).drew) ?_
                  iterate 11
                    refine planT_read (v := ?_) rfl (by rfl) ?_ ?_
                    rotate_left
                    · intro w' hS
                      try dsimp only at hS
                      obtain ⟨⟨hS1, hS2⟩, hS3⟩ := hS
                      go_simp
                      try with_reducible rfl
                    try simp only [Act.put, List.setIfInBounds_toArray, List.set_cons_zero, List.set_cons_succ, List.getElem_toArray, List.getElem_cons_zero, List.getElem_cons_succ]
                  refine planT_two ?_ ?_
                  · obtain ⟨wa, hwa⟩ : ∃ z, z = wr.drew.alloc (.cells #[] 51) := ⟨_, rfl⟩
                    have HBA : Hid (Below wr.heap.size wr wa) := Lib.hid (by rw [hwa]; exact (Below.refl _ _).drew.alloc (Nat.le_refl _) _)
                    have HOa : Hid (wa.ownsRow wr.heap.size 51 3 (.slice (some ⟨wr.heap.size, 0, none⟩) 0 0) 0 []) := Lib.hid (by rw [hwa]; exact fresh_made (w := wr.drew) (Nat.le_refl _))
                    refine op_make (v := .slice (some ⟨wr.heap.size, 0, none⟩) 0 0) (w1 := wa) rfl (by rfl) (by rw [hwa]; go_simp) ⟨HS0.out _ HBA.out, ?_⟩
                    try simp only [Act.put, List.setIfInBounds_toArray, List.set_cons_zero, List.set_cons_succ, List.getElem_toArray, List.getElem_cons_zero, List.getElem_cons_succ]
                    refine planT_two ?_ ?_
                    · refine op_wp rfl (by rfl) ?_
                      try simp only [List.getElem_toArray, List.getElem_cons_zero, List.getElem_cons_succ]
                      refine (wp_append_sl _ _ 23 rfl wr.heap.size 51 i0 _ 3 24 Try.underlying23 HI.out.1 HI.out.2.1 HI.out.2.2.1 HI.out.2.2.2 rfl (by decide) _ 0 [] rfl HOa.out q n d (unC L.list) rfl (by rw [unC_len, HLL.out]) ((HC.out.below (HB.out.trans (HBA.out.mono HB.out.size))).ls) (unC_oneCell _) (by unfold maxLen; omega) (by omega) HBA.out.size ?_)
                      intro v5 w6 g1 g2 g3
                      have hrr : w6.ownsRow wr.heap.size 51 3 v5 n (unC L.list) := by simpa using g1
                      have HBb : Hid (Below wr.heap.size wr w6) := Lib.hid (HBA.out.grown g2 HBA.out.size (fun k hk => by injection hk with hk; exact Nat.le_of_eq hk))
                      obtain ⟨p5, c5, rfl, _⟩ := own_cap hrr
                      have HRR := Lib.hid hrr
                      clear g1 g2 g3 hrr hwa
                      refine ⟨HS0.out _ HBb.out, ?_⟩
                      try simp only [Act.put, List.setIfInBounds_toArray, List.set_cons_zero, List.set_cons_succ, List.getElem_toArray, List.getElem_cons_zero, List.getElem_cons_succ]
                      refine planT_one ?_
                      obtain ⟨wx, hwx⟩ : ∃ z, z = w6.alloc (.cells #[.int .i64 s, .int .i64 (k : Int), .int .u32 y] 51) := ⟨_, rfl⟩
                      have HBE : Hid (Below wr.heap.size wr wx) := Lib.hid (by rw [hwx]; exact HBb.out.alloc HBb.out.size _)
                      have HXE : Hid (Blk wx w6.heap.size (unC [⟨s, (k : Int), y⟩]).toArray) := Lib.hid (by rw [hwx]; exact Blk.new _ _ _)
                      have HOE : Hid (wx.ownsRow wr.heap.size 51 3 (.slice p5 n c5) n (unC L.list)) := Lib.hid (by rw [hwx]; exact own_below HRR.out ((Below.refl w6.heap.size w6).alloc (Nat.le_refl _) _))
                      refine op_make (v := .slice (some ⟨w6.heap.size, 0, none⟩) 1 1) (w1 := wx) rfl (by rfl) (by rw [hwx]; go_simp) ⟨HS0.out _ HBE.out, ?_⟩
                      try simp only [Act.put, List.setIfInBounds_toArray, List.set_cons_zero, List.set_cons_succ, List.getElem_toArray, List.getElem_cons_zero, List.getElem_cons_succ]
                      refine planT_stop ?_
                      simp only [List.drop_succ_cons, List.drop_zero]
                      clear hwx
                      go_wp2_with (first | (at_builtin; refine wpList_append_sl rfl _ _ 23 rfl wr.heap.size 51 i0 _ 3 24 Try.underlying23 HI.out.1 HI.out.2.1 HI.out.2.2.1 HI.out.2.2.2 rfl (by decide) _ n (unC L.list) rfl HOE.out (some ⟨w6.heap.size, 0, none⟩) 1 1 (unC [⟨s, (k : Int), y⟩]) rfl rfl (blk_sl HXE.out) (unC_oneCell _) (by unfold maxLen; omega) (by omega) HBE.out.size ?_))
                      intro v' w7 g1 g2 g3
                      have hob : ∀ g, (Value.slice p5 n c5).ownBlock = some g → wr.heap.size ≤ g := fun g e => (HOE.out.lt g e).1
                      have hz := HZ.out
                      have ha7 := (HA.out.below HBE.out).grown g2 (fun e => by have := hob _ e; have := HA.out.lt; omega)
                      have ht7 := (HT.out.below HBE.out).grown g2 (fun e => by have := hob _ e; have := HT.out.lt; omega)
                      have hb7 := HBE.out.grown g2 HBE.out.size (fun g e => hob g e)
                      obtain ⟨q2, d2, rfl, hcap2⟩ := own_cap g1
                      have hnb : ∀ g, (Value.slice q2 (n + 1) d2).ownBlock = some g → wr.heap.size ≤ g := fun g e => (g1.lt g e).1
                      have HOW7 : Hid (w7.ownsRow wr.heap.size 51 3 (.slice q2 (n + 1) d2) (n + 1) (unC (L.list ++ [(⟨s, (k : Int), y⟩ : Un)]))) := Lib.hid (by rw [unC_app]; exact g1)
                      have HA7 := Lib.hid ha7
                      have HT7 := Lib.hid ht7
                      have HB7 := Lib.hid hb7
                      have HNB := Lib.hid hnb
                      clear g1 g2 g3 hob ha7 ht7 hb7 hnb hcap2
                      have kA := HA7.out.c
                      have fA := HA7.out.f
                      have lA := HA7.out.lt
                      go_wp2_with fail
                      go_meet
                      case rel => exact ⟨rfl, q2, d2, HA7.out.set (n := 2) (.slice q2 (n + 1) d2) (by simp), HT7.out.other _ (by omega), own_off HOW7.out (fun g e => by have := HNB.out g e; omega) _ _, by exact ((HB.out.trans (HB7.out.mono HB.out.size)).setCell (Nat.le_refl _) _), by rw [size_set]; exact HB7.out.size⟩
                    · obtain ⟨wx, hwx⟩ : ∃ z, z = wa.alloc (.cells #[.int .i64 s, .int .i64 (k : Int), .int .u32 y] 51) := ⟨_, rfl⟩
                      have HBX0 : Hid (Below wr.heap.size wr wx) := Lib.hid (by rw [hwx]; exact HBA.out.alloc HBA.out.size _)
                      have HX0 : Hid (Blk wx wa.heap.size (unC [⟨s, (k : Int), y⟩]).toArray) := Lib.hid (by rw [hwx]; exact Blk.new _ _ _)
                      have HZA : Hid (wa.heap.size = wr.heap.size + 1) := Lib.hid (by rw [hwa, size_new]; rfl)
                      have HOa2 : Hid (wx.ownsRow wr.heap.size 51 3 (.slice (some ⟨wr.heap.size, 0, none⟩) 0 0) 0 []) := Lib.hid (by rw [hwx]; exact own_below HOa.out ((Below.refl wa.heap.size wa).alloc (Nat.le_refl _) _))
                      clear HOa
                      have HOa := HOa2
                      refine op_make (v := .slice (some ⟨wa.heap.size, 0, none⟩) 1 1) (w1 := wx) rfl (by rfl) (by rw [hwx]; go_simp) ⟨HS0.out _ HBX0.out, ?_⟩
                      try simp only [Act.put, List.setIfInBounds_toArray, List.set_cons_zero, List.set_cons_succ, List.getElem_toArray, List.getElem_cons_zero, List.getElem_cons_succ]
                      refine planT_one ?_
                      refine op_wp rfl (by rfl) ?_
                      try simp only [List.getElem_toArray, List.getElem_cons_zero, List.getElem_cons_succ]
                      refine (wp_append_sl _ _ 23 rfl wr.heap.size 51 i0 _ 3 24 Try.underlying23 HI.out.1 HI.out.2.1 HI.out.2.2.1 HI.out.2.2.2 rfl (by decide) _ 0 [] rfl HOa.out q n d (unC L.list) rfl (by rw [unC_len, HLL.out]) ((HC.out.below (HB.out.trans (HBX0.out.mono HB.out.size))).ls) (unC_oneCell _) (by unfold maxLen; omega) (by omega) HBX0.out.size ?_)
                      intro v5 w6 g1 g2 g3
                      have hrr : w6.ownsRow wr.heap.size 51 3 v5 n (unC L.list) := by simpa using g1
                      have HBE : Hid (Below wr.heap.size wr w6) := Lib.hid (HBX0.out.grown g2 HBX0.out.size (fun k hk => by injection hk with hk; exact Nat.le_of_eq hk))
                      have HXE : Hid (Blk w6 wa.heap.size (unC [⟨s, (k : Int), y⟩]).toArray) := Lib.hid (HX0.out.grown g2 (fun e => by have e2 : some wr.heap.size = some wa.heap.size := e; injection e2 with e2; have := HZA.out; omega))
                      obtain ⟨p5, c5, rfl, _⟩ := own_cap hrr
                      have HOE := Lib.hid hrr
                      clear g1 g2 g3 hrr hwa hwx
                      refine ⟨HS0.out _ HBE.out, ?_⟩
                      try simp only [Act.put, List.setIfInBounds_toArray, List.set_cons_zero, List.set_cons_succ, List.getElem_toArray, List.getElem_cons_zero, List.getElem_cons_succ]
                      refine planT_stop ?_
                      simp only [List.drop_succ_cons, List.drop_zero]
                      go_wp2_with (first | (at_builtin; refine wpList_append_sl rfl _ _ 23 rfl wr.heap.size 51 i0 _ 3 24 Try.underlying23 HI.out.1 HI.out.2.1 HI.out.2.2.1 HI.out.2.2.2 rfl (by decide) _ n (unC L.list) rfl HOE.out (some ⟨wa.heap.size, 0, none⟩) 1 1 (unC [⟨s, (k : Int), y⟩]) rfl rfl (blk_sl HXE.out) (unC_oneCell _) (by unfold maxLen; omega) (by omega) HBE.out.size ?_))
                      intro v' w7 g1 g2 g3
                      have hob : ∀ g, (Value.slice p5 n c5).ownBlock = some g → wr.heap.size ≤ g := fun g e => (HOE.out.lt g e).1
                      have hz := HZ.out
                      have ha7 := (HA.out.below HBE.out).grown g2 (fun e => by have := hob _ e; have := HA.out.lt; omega)
                      have ht7 := (HT.out.below HBE.out).grown g2 (fun e => by have := hob _ e; have := HT.out.lt; omega)
                      have hb7 := HBE.out.grown g2 HBE.out.size (fun g e => hob g e)
                      obtain ⟨q2, d2, rfl, hcap2⟩ := own_cap g1
                      have hnb : ∀ g, (Value.slice q2 (n + 1) d2).ownBlock = some g → wr.heap.size ≤ g := fun g e => (g1.lt g e).1
                      have HOW7 : Hid (w7.ownsRow wr.heap.size 51 3 (.slice q2 (n + 1) d2) (n + 1) (unC (L.list ++ [(⟨s, (k : Int), y⟩ : Un)]))) := Lib.hid (by rw [unC_app]; exact g1)
                      have HA7 := Lib.hid ha7
                      have HT7 := Lib.hid ht7
                      have HB7 := Lib.hid hb7
                      have HNB := Lib.hid hnb
                      clear g1 g2 g3 hob ha7 ht7 hb7 hnb hcap2
                      have kA := HA7.out.c
                      have fA := HA7.out.f
                      have lA := HA7.out.lt
                      go_wp2_with fail
                      go_meet
                      case rel => exact ⟨rfl, q2, d2, HA7.out.set (n := 2) (.slice q2 (n + 1) d2) (by simp), HT7.out.other _ (by omega), own_off HOW7.out (fun g e => by have := HNB.out g e; omega) _ _, by exact ((HB.out.trans (HB7.out.mono HB.out.size)).setCell (Nat.le_refl _) _), by rw [size_set]; exact HB7.out.size⟩
                  · obtain ⟨wa, hwa⟩ : ∃ z, z = wr.drew.alloc (.cells #[.int .i64 s, .int .i64 (k : Int), .int .u32 y] 51) := ⟨_, rfl⟩
                    have HBA : Hid (Below wr.heap.size wr wa) := Lib.hid (by rw [hwa]; exact (Below.refl _ _).drew.alloc (Nat.le_refl _) _)
                    have HXA : Hid (Blk wa wr.heap.size (unC [⟨s, (k : Int), y⟩]).toArray) := Lib.hid (by rw [hwa]; exact Blk.new wr.drew _ _)
                    have HZA : Hid (wa.heap.size = wr.heap.size + 1) := Lib.hid (by rw [hwa, size_new]; rfl)
                    refine op_make (v := .slice (some ⟨wr.heap.size, 0, none⟩) 1 1) (w1 := wa) rfl (by rfl) (by rw [hwa]; go_simp) ⟨HS0.out _ HBA.out, ?_⟩
                    try simp only [Act.put, List.setIfInBounds_toArray, List.set_cons_zero, List.set_cons_succ, List.getElem_toArray, List.getElem_cons_zero, List.getElem_cons_succ]
                    clear hwa
                    refine planT_one ?_
                    obtain ⟨wx, hwx⟩ : ∃ z, z = wa.alloc (.cells #[] 51) := ⟨_, rfl⟩
                    have HBX0 : Hid (Below wr.heap.size wr wx) := Lib.hid (by rw [hwx]; exact HBA.out.alloc HBA.out.size _)
                    have HX0 : Hid (Blk wx wr.heap.size (unC [⟨s, (k : Int), y⟩]).toArray) := Lib.hid (by rw [hwx]; exact HXA.out.alloc _)
                    have HOa : Hid (wx.ownsRow wr.heap.size 51 3 (.slice (some ⟨wa.heap.size, 0, none⟩) 0 0) 0 []) := Lib.hid (by rw [hwx]; exact fresh_made HBA.out.size)
                    refine op_make (v := .slice (some ⟨wa.heap.size, 0, none⟩) 0 0) (w1 := wx) rfl (by rfl) (by rw [hwx]; go_simp) ⟨HS0.out _ HBX0.out, ?_⟩
                    try simp only [Act.put, List.setIfInBounds_toArray, List.set_cons_zero, List.set_cons_succ, List.getElem_toArray, List.getElem_cons_zero, List.getElem_cons_succ]
                    clear hwx
                    refine planT_one ?_
                    refine op_wp rfl (by rfl) ?_
                    try simp only [List.getElem_toArray, List.getElem_cons_zero, List.getElem_cons_succ]
                    refine (wp_append_sl _ _ 23 rfl wr.heap.size 51 i0 _ 3 24 Try.underlying23 HI.out.1 HI.out.2.1 HI.out.2.2.1 HI.out.2.2.2 rfl (by decide) _ 0 [] rfl HOa.out q n d (unC L.list) rfl (by rw [unC_len, HLL.out]) ((HC.out.below (HB.out.trans (HBX0.out.mono HB.out.size))).ls) (unC_oneCell _) (by unfold maxLen; omega) (by omega) HBX0.out.size ?_)
                    intro v5 w6 g1 g2 g3
                    have hrr : w6.ownsRow wr.heap.size 51 3 v5 n (unC L.list) := by simpa using g1
                    have HBE : Hid (Below wr.heap.size wr w6) := Lib.hid (HBX0.out.grown g2 HBX0.out.size (fun k hk => by have e2 : some wa.heap.size = some k := hk; injection e2 with e2; have := HZA.out; omega))
                    have HXE : Hid (Blk w6 wr.heap.size (unC [⟨s, (k : Int), y⟩]).toArray) := Lib.hid (HX0.out.grown g2 (fun e => by have e2 : some wa.heap.size = some wr.heap.size := e; injection e2 with e2; have := HZA.out; omega))
                    obtain ⟨p5, c5, rfl, _⟩ := own_cap hrr
                    have HOE := Lib.hid hrr
                    clear g1 g2 g3 hrr
                    refine ⟨HS0.out _ HBE.out, ?_⟩
                    try simp only [Act.put, List.setIfInBounds_toArray, List.set_cons_zero, List.set_cons_succ, List.getElem_toArray, List.getElem_cons_zero, List.getElem_cons_succ]
                    refine planT_stop ?_
                    simp only [List.drop_succ_cons, List.drop_zero]
                    go_wp2_with (first | (at_builtin; refine wpList_append_sl rfl _ _ 23 rfl wr.heap.size 51 i0 _ 3 24 Try.underlying23 HI.out.1 HI.out.2.1 HI.out.2.2.1 HI.out.2.2.2 rfl (by decide) _ n (unC L.list) rfl HOE.out (some ⟨wr.heap.size, 0, none⟩) 1 1 (unC [⟨s, (k : Int), y⟩]) rfl rfl (blk_sl HXE.out) (unC_oneCell _) (by unfold maxLen; omega) (by omega) HBE.out.size ?_))
                    intro v' w7 g1 g2 g3
                    have hob : ∀ g, (Value.slice p5 n c5).ownBlock = some g → wr.heap.size ≤ g := fun g e => (HOE.out.lt g e).1
                    have hz := HZ.out
                    have ha7 := (HA.out.below HBE.out).grown g2 (fun e => by have := hob _ e; have := HA.out.lt; omega)
                    have ht7 := (HT.out.below HBE.out).grown g2 (fun e => by have := hob _ e; have := HT.out.lt; omega)
                    have hb7 := HBE.out.grown g2 HBE.out.size (fun g e => hob g e)
                    obtain ⟨q2, d2, rfl, hcap2⟩ := own_cap g1
                    have hnb : ∀ g, (Value.slice q2 (n + 1) d2).ownBlock = some g → wr.heap.size ≤ g := fun g e => (g1.lt g e).1
                    have HOW7 : Hid (w7.ownsRow wr.heap.size 51 3 (.slice q2 (n + 1) d2) (n + 1) (unC (L.list ++ [(⟨s, (k : Int), y⟩ : Un)]))) := Lib.hid (by rw [unC_app]; exact g1)
                    have HA7 := Lib.hid ha7
                    have HT7 := Lib.hid ht7
                    have HB7 := Lib.hid hb7
                    have HNB := Lib.hid hnb
                    clear g1 g2 g3 hob ha7 ht7 hb7 hnb hcap2
                    have kA := HA7.out.c
                    have fA := HA7.out.f
                    have lA := HA7.out.lt
                    go_wp2_with fail
                    go_meet
                    case rel => exact ⟨rfl, q2, d2, HA7.out.set (n := 2) (.slice q2 (n + 1) d2) (by simp), HT7.out.other _ (by omega), own_off HOW7.out (fun g e => by have := HNB.out g e; omega) _ _, by exact ((HB.out.trans (HB7.out.mono HB.out.size)).setCell (Nat.le_refl _) _), by rw [size_set]; exact HB7.out.size⟩
                case rest =>
                  obtain ⟨rfl, q', d', hak, htk, how, hbk, hsz⟩ := hcut
                  have HAq := Lib.hid hak
                  have HTq := Lib.hid htk
                  have HBq := Lib.hid hbk
                  have HZq : Hid (w.heap.size + 2 ≤ wc.heap.size) := Lib.hid (Nat.le_trans HZ.out hsz)
                  have HQLq : Hid (Sl wc q' (n + 1) (unC (L.list ++ [(⟨s, (k : Int), y⟩ : Un)])) ∧ (L.list ++ [(⟨s, (k : Int), y⟩ : Un)]).length = n + 1 ∧ n + 1 ≤ d' ∧ n + 1 ≤ 10000 ∧ ∀ R, Ex S w R → Off R q' (n + 1)) := Lib.hid (by
                    obtain ⟨_, _, e, hsl⟩ := Sl.own how
                    injection e with e1 e2 e3
                    subst e1 e3
                    obtain ⟨_, _, e, hcap⟩ := own_cap how
                    injection e with e1 e2 e3
                    subst e1 e3
                    refine ⟨hsl, by rw [List.length_append, HLL.out]; rfl, hcap, by omega, fun R hR => own_offR how ?_⟩
                    have hz := HZ.out
                    rcases hR with h | h | h
                    · have := HSS.out R h; omega
                    · omega
                    · omega)
                  have HQq : Hid (Sl wc q' (n + 1) (unC (L.list ++ [(⟨s, (k : Int), y⟩ : Un)]))) := Lib.hid HQLq.out.1
                  have HLq : Hid ((L.list ++ [(⟨s, (k : Int), y⟩ : Un)]).length = n + 1 ∧ n + 1 ≤ d' ∧ n + 1 ≤ 10000 ∧ ∀ R, Ex S w R → Off R q' (n + 1)) := Lib.hid HQLq.out.2
                  clear hak htk how hbk hsz HA HT HB HZ HS0 HQLq
                  have kA := HAq.out.c
                  have HWI := Lib.hid (rwith_any (some ⟨gm, om, none⟩) m c L.mem k x wc HML.out ((HC.out.below HBq.out).ms) hm hkm)
                  clear kA
                  have kA := HAq.out.c
                  go_wp2_with fail
                  refine HWI.out.mono ?_
                  clear HWI kA
                  rintro e w9 ⟨p9, c9, rfl, ho9, hb9⟩
                  have HO9 := Lib.hid ho9
                  have HA9 := Lib.hid (HAq.out.below hb9)
                  have HT9 := Lib.hid (HTq.out.below hb9)
                  have HB9 : Hid (Below w.heap.size w w9) := Lib.hid (HBq.out.trans (hb9.mono HBq.out.size))
                  have HQ9 := Lib.hid (HQq.out.below hb9)
                  clear ho9 hb9
                  have kA := HA9.out.c
                  have fA := HA9.out.f
                  have lA := HA9.out.lt
                  go_upto_region 13 with fail
                  obtain ⟨wx, hwx⟩ : ∃ z, z = w9.setCell ⟨w.heap.size, 0, none⟩ (.slice p9 m c9) := ⟨_, rfl⟩
                  have HAX : Hid (Blk wx w.heap.size #[.slice p9 m c9, .int .i64 s, .slice q' (n + 1) d']) := Lib.hid (by rw [hwx]; exact HA9.out.set (n := 0) (.slice p9 m c9) (by simp))
                  have HTX : Hid (Blk wx (w.heap.size + 1) #[.slice none 0 0, .int .i64 0, .slice none 0 0]) := Lib.hid (by rw [hwx]; exact HT9.out.other _ (by omega))
                  have HBX : Hid (Below w.heap.size w wx) := Lib.hid (by rw [hwx]; exact HB9.out.setCell (Nat.le_refl _) _)
                  have HLX : Hid (Lo (Ex S w) wx (.agg #[.slice p9 m c9, .int .i64 s, .slice q' (n + 1) d']) ⟨L.mem.set k x, L.span, L.list ++ [(⟨s, (k : Int), y⟩ : Un)]⟩) := Lib.hid (by
                    rw [hwx]
                    refine Lo.set (R := w.heap.size) ?_ (.inr (.inl rfl)) _ _
                    obtain ⟨_, _, e, hsl⟩ := Sl.own HO9.out
                    injection e with e1 e2 e3
                    subst e1 e3
                    obtain ⟨_, _, e, hcap⟩ := own_cap HO9.out
                    injection e with e1 e2 e3
                    subst e1 e3
                    have hz := HZq.out
                    refine ⟨p9, m, c9, q', (n + 1), d', by rw [HS.out], ⟨by show (L.mem.set k x).length = m; rw [List.length_set, HML.out], HLq.out.1, hsl, HQ9.out, hcap, HLq.out.2.1, hm, HLq.out.2.2.1⟩, fun R hR => ⟨own_offR HO9.out ?_, HLq.out.2.2.2 R hR⟩⟩
                    rcases hR with h | h | h
                    · have := HSS.out R h; omega
                    · omega
                    · omega)
                  rw [← hwx]
                  clear hwx HA9 HT9 HB9 HO9 HQ9 kA fA lA
                  have kA := HAX.out.c
                  have kT := HTX.out.c
                  have fT := HTX.out.f
                  have lT := HTX.out.lt
                  go_wp2_with fail
                  refine bodyPost_ret (v := .tuple #[.agg #[.slice p9 m c9, .int .i64 s, .slice q' (n + 1) d'], .int .i64 0]) (by simp [results, Try.results8, go_sem, *]) rfl ⟨_, by rw [HN.out.2], by rw [HN.out.1]; exact (HLX.out.set3 (R := w.heap.size + 1) (.inr (.inr rfl)) _ _ _).unex, set3_below HBX.out (Nat.le_succ _) _ _ _⟩
end Go.Proofs.Ytbgllkjhgjoodaa
