/- CommitSure: the walk of the statement's function; no condition but that the list reads. -/
import Derived.Test.YteffmidpinlpjaaCmP
import Derived.Test.YteffmidpinlpjaaPlan
namespace Go.Proofs.Yteffmidpinlpjaa
set_option linter.unusedVariables false
set_option linter.unusedSimpArgs false
open Go.ChangeShapes Go.WideShapes Go.ChangeAt Go.RowKit

theorem do_at {w : World} {p : Option Addr} {n : Nat} {xs : List Dt} (h : Sl w p n (dtC xs)) (hl : xs.length = n) (k : Nat) (hk : k < n) : ∃ b off, p = some ⟨b, off, none⟩ ∧ b < w.heap.size ∧ ∀ j, j < 4 → w.cell? ⟨b, off + k * 4 + j, none⟩ = (xs.getD k dt0).row[j]? := by
  obtain ⟨b, off, h1, h2, h3⟩ := h (by omega)
  exact ⟨b, off, h2, h1, fun j hj => by rw [Nat.add_assoc]; exact (h3 (k * 4 + j) (by rw [dtC_len]; omega)).trans (dtC_at xs k j (by omega) hj)⟩

def sliceLen : Value → Nat
  | .slice _ l _ => l
  | _ => 0
set_option maxHeartbeats 16000000 in
set_option maxRecDepth 100000 in
theorem sure_main (p0 : Option Addr) (len cap : Nat) (ds : List Dt) (w : World) (hz : ds.length = len) (hmx : len ≤ maxLen) (hq : Sl w p0 len (dtC ds)) (hf : ∀ d ∈ ds, d.Fits) :
    Calls Try.prog 4 #[.slice p0 len cap] w fun e w' => e = .returned (.bool true) ∧ Below w.heap.size w w' := by
  have HQ : Hid (∀ k, k < len → ∃ b off, p0 = some ⟨b, off, none⟩ ∧ b < w.heap.size ∧ ∀ j, j < 4 → w.cell? ⟨b, off + k * 4 + j, none⟩ = (ds.getD k dt0).row[j]?) := Lib.hid (fun k hk => do_at hq hz k hk)
  have HF : Hid (∀ k, k < len → (ds.getD k dt0).Fits) := Lib.hid (fun k hk => hf _ (mem_getD _ _ _ (by omega)))
  unfold maxLen at hmx
  obtain ⟨i0, hi, hz0, hz1, hz2⟩ := info_parts infoT
  have HI := Lib.hid (And.intro hi (And.intro hz0 (And.intro hz1 hz2)))
  clear hi hz0 hz1 hz2
  obtain ⟨i1, hi, hz0, hz1, hz2⟩ := info_parts infoI
  have HJ := Lib.hid (And.intro hi (And.intro hz0 (And.intro hz1 hz2)))
  clear hq hz hf hi hz0 hz1 hz2
  go_enter Try.func4, Try.ntmps4
  go_wp2_with fail
  refine (awake_any _).mono ?_
  rintro e w1 ⟨rfl, hb1⟩
  have HB1 : Hid (Below w.heap.size w w1) := Lib.hid hb1
  clear hb1
  go_upto_region 4 with fail
  have HGS : Hid (Gs w (w1.alloc (.cells #[.slice none 0 0, .slice none 0 0] 25)) w1.heap.size none 0 0 none 0 0 ⟨[], []⟩ none 0 none 0 [] 0) := Lib.hid ⟨Blk.new _ _ _, nil_lc _, by omega, rfl, World.ownsRow_nil _ _ _ _, World.ownsRow_nil _ _ _ _, fun g e => (by cases e), ⟨fun h => absurd h (Nat.lt_irrefl 0), fun h => absurd h (Nat.lt_irrefl 0)⟩, fun g e => (by cases e), fun g e => (by cases e), HB1.out.alloc HB1.out.size _, HB1.out.size⟩
  obtain ⟨bg, hbg⟩ : ∃ z, z = w1.heap.size := ⟨_, rfl⟩
  obtain ⟨w2, hw2⟩ : ∃ z, z = w1.alloc (.cells #[.slice none 0 0, .slice none 0 0] 25) := ⟨_, rfl⟩
  rw [← hw2, ← hbg] at HGS
  rw [← hw2, ← hbg]
  clear hw2 hbg HB1
  go_wp2_with fail
  go_loopw [4, 5, 6, 7, 8] (fun s4 s5 s6 s7 s8 wr => ∃ (i sp su k : Nat) (G : Gt) (H : List Hd) (p : Option Addr) (m c : Nat) (q : Option Addr) (n d : Nat) (a : Option Addr) (x : Nat) (b : Option Addr) (y : Nat), i ≤ len ∧ s8 = .int .i64 i ∧ s4 = .int .i64 sp ∧ s5 = .int .i64 su ∧ s6 = .slice a k x ∧ s7 = .slice b k y ∧ Iv G H sp su i ∧ Gs w wr bg p m c q n d G a x b y H k) (fun _ _ _ _ s8 _ => len - (intOf s8).toNat)
  case atStart => exact ⟨0, 0, 0, 0, _, _, none, 0, 0, none, 0, 0, none, 0, none, 0, Nat.zero_le _, rfl, rfl, rfl, rfl, rfl, Iv.zero, HGS.out⟩
  case round =>
    clear HGS
    obtain ⟨i, sp, su, k, G, H, p, m, c, q, n, d, a, x, b, y, hil, rfl, rfl, rfl, rfl, rfl, hiv, hgs⟩ := hrel
    have HIV := Lib.hid hiv
    have HGS := Lib.hid hgs
    clear hiv hgs
    go_upto_region 8 with fail
    go_cut [23] (fun s23 wd => s23 = .bool (decide (i < len ∧ i < 60)) ∧ wr = wd)
    case first =>
      by_cases h1 : i < len
      · have h1I : decide ((i : Int) < len) = true := decide_eq_true (by omega)
        by_cases h2 : i < 60
        · have h2I : decide ((i : Int) < 60) = true := decide_eq_true (by omega)
          have HGO : Hid (decide (i < len ∧ i < 60) = true) := Lib.hid (decide_eq_true ⟨h1, h2⟩)
          go_wp2_with fail
          go_meet
          case rel => exact ⟨by rw [HGO.out], rfl⟩
        · have h2I : decide ((i : Int) < 60) = false := decide_eq_false (by omega)
          have HGO : Hid (decide (i < len ∧ i < 60) = false) := Lib.hid (decide_eq_false (by omega))
          go_wp2_with fail
          go_meet
          case rel => exact ⟨by rw [HGO.out], rfl⟩
      · have h1I : decide ((i : Int) < len) = false := decide_eq_false (by omega)
        have HGO : Hid (decide (i < len ∧ i < 60) = false) := Lib.hid (decide_eq_false (by omega))
        go_wp2_with fail
        go_meet
        case rel => exact ⟨by rw [HGO.out], rfl⟩
    case rest =>
      obtain ⟨rfl, rfl⟩ := hcut
      by_cases hgo : i < len ∧ i < 60
      · rw [decide_eq_true hgo]
        obtain ⟨hkl, hk1⟩ := hgo
        obtain ⟨bq, off, rfl, hbl, hc⟩ := HQ.out i hkl
        have hfit := HF.out i hkl
        obtain ⟨⟨kd, to_, ⟨tc, tv⟩⟩, hyy⟩ : ∃ y, ds.getD i dt0 = y := ⟨_, rfl⟩
        rw [hyy] at hc hfit
        have hcc := fun j hj => (HGS.out.hb.cell (p := ⟨bq, off + i * 4 + j, none⟩) hbl).trans (hc j hj)
        have hd0 : wr.cell? ⟨bq, off + i * 4, none⟩ = some (.int .u8 (kd : Int)) := hcc 0 (by decide)
        have hd1 : wr.cell? ⟨bq, off + i * 4 + 1, none⟩ = some (.int .u8 (to_ : Int)) := hcc 1 (by decide)
        have hd2 : wr.cell? ⟨bq, off + i * 4 + 2, none⟩ = some (.int .i64 tc) := hcc 2 (by decide)
        have hd3 : wr.cell? ⟨bq, off + i * 4 + 3, none⟩ = some (.int .u32 tv) := hcc 3 (by decide)
        have hkd : kd < 256 := hfit.1
        have hto : to_ < 256 := hfit.2
        have hiI : (0 : Int) ≤ (i : Int) := by omega
        have hiI2 : (i : Int) < (len : Int) := by omega
        clear hc hcc hyy hfit
        go_upto_region 11 with fail
        clear hd0 hd1 hd2 hd3
        go_upto_region 12 with fail
        have HKD : Hid (Blk ((wr.alloc (.cells #[.int .u8 kd, .int .u8 to_, .int .i64 tc, .int .u32 tv] 45)).alloc (.cells #[.slice none 0 0, .slice none 0 0] 25)) wr.heap.size #[.int .u8 kd, .int .u8 to_, .int .i64 tc, .int .u32 tv]) := Lib.hid ((Blk.new _ _ _).alloc _)
        have HKH : Hid (Blk ((wr.alloc (.cells #[.int .u8 kd, .int .u8 to_, .int .i64 tc, .int .u32 tv] 45)).alloc (.cells #[.slice none 0 0, .slice none 0 0] 25)) (wr.heap.size + 1) #[.slice none 0 0, .slice none 0 0]) := Lib.hid (by
          have := Blk.new (wr.alloc (.cells #[.int .u8 kd, .int .u8 to_, .int .i64 tc, .int .u32 tv] 45)) #[.slice none 0 0, .slice none 0 0] 25
          rw [World.size_alloc] at this; exact this)
        have HGA := Lib.hid (HGS.out.below (((Below.refl _ _).alloc (Nat.le_refl _) (.cells #[.int .u8 kd, .int .u8 to_, .int .i64 tc, .int .u32 tv] 45)).alloc (by simp) (.cells #[.slice none 0 0, .slice none 0 0] 25)))
        have HLT : Hid (bg < wr.heap.size ∧ (∀ g, (Value.slice a k x).ownBlock = some g → g < wr.heap.size) ∧ (∀ g, (Value.slice b k y).ownBlock = some g → g < wr.heap.size)) := Lib.hid ⟨HGS.out.hk.lt, fun g e => (HGS.out.to_.lt g e).2, fun g e => (HGS.out.wo.lt g e).2⟩
        have HOFF : Hid (∀ R, wr.heap.size ≤ R → Off R p m ∧ Off R q n) := Lib.hid (fun R hR => ⟨HGS.out.hc.ms.off hR, HGS.out.hc.ls.off hR⟩)
        obtain ⟨bd, hbd⟩ : ∃ z, z = wr.heap.size := ⟨_, rfl⟩
        obtain ⟨w3, hw3⟩ : ∃ z, z = (wr.alloc (.cells #[.int .u8 kd, .int .u8 to_, .int .i64 tc, .int .u32 tv] 45)).alloc (.cells #[.slice none 0 0, .slice none 0 0] 25) := ⟨_, rfl⟩
        try simp only [World.size_alloc]
        rw [← hw3, ← hbd] at HKD HKH
        rw [← hw3] at HGA
        rw [← hbd] at HLT HOFF
        rw [← hw3, ← hbd]
        clear hbd hw3 HGS
        have HNX := Lib.hid (HIV.out.next hk1)
        have HTE := Lib.hid (HIV.out.tell hk1 ⟨tc, tv⟩)
        have HSE := Lib.hid (fun s h1 h2 => HIV.out.sure (s := s) hk1 h1 h2)
        have HBE := Lib.hid (fun s h1 h2 => HIV.out.back (s := s) hk1 h1 h2)
        have HNN : Hid (su ≤ sp ∧ sp ≤ 60 ∧ sp ≤ i ∧ H.length ≤ i ∧ i < 60) := Lib.hid ⟨HIV.out.le, by have := HIV.out.si; omega, HIV.out.si, HIV.out.li, hk1⟩
        have HLEN := Lib.hid HIV.out.len
        have HALL := Lib.hid HIV.out.all
        have HUP := Lib.hid HIV.out.up
        clear hiI hiI2 hk1
        obtain ⟨r, hr⟩ : ∃ r, r = kd % 4 := ⟨_, rfl⟩
        have er : (kd : Int) % 4 = (r : Int) := by rw [hr]; exact (Int.natCast_emod kd 4).symm
        have hr4 : r < 4 := by omega
        clear hr
        have kD := HKD.out.c
        go_upto_region 13 with fail
        by_cases hr1 : r = 1
        · subst hr1
          have f1 : IntKind.i64.wrap ((sp : Int) + 1) = ((sp + 1 : Nat) : Int) := by rw [IntKind.wrap_i64]; have := HNN.out.2.1; omega
          have f2 : wrap64 ((sp : Int) + 1) = ((sp + 1 : Nat) : Int) := by unfold wrap64; have := HNN.out.2.1; omega
          clear hr4
          go_wp2_with fail
          go_roundw
          case rel => exact ⟨i + 1, sp + 1, su, k, G, H, p, m, c, q, n, d, a, x, b, y, by omega, by go_num, by first | rfl | go_num | simp [f2], rfl, rfl, rfl, HNX.out, HGA.out⟩
          case measure => simp [intOf]; omega
        · go_upto_block 2 with fail
          try rw [er]
          clear kD er
          go_cut [4, 5, 6, 7, 11] (fun s4 s5 s6 s7 s11 wd => ∃ (sp2 su2 k2 : Nat) (G2 : Gt) (H2 : List Hd) (p2 : Option Addr) (m2 c2 : Nat) (q2 : Option Addr) (n2 d2 : Nat) (a2 : Option Addr) (x2 : Nat) (b2 : Option Addr) (y2 : Nat) (E : List Td), s4 = .int .i64 sp2 ∧ s5 = .int .i64 su2 ∧ s6 = .slice a2 k2 x2 ∧ s7 = .slice b2 k2 y2 ∧ s11 = .int .i64 0 ∧ Iv G2 H2 sp2 su2 (i + 1) ∧ G2.out = G.out ++ E ∧ Gs w wd bg p m c q n d G a2 x2 b2 y2 H2 k2 ∧ Hv wd bg (bd + 1) p2 m2 c2 q2 n2 d2 G2 a2 x2 b2 y2 k2)
          case first =>
            have hr3 : r = 0 ∨ r = 2 ∨ r = 3 := by omega
            clear hr4
            rcases hr3 with hr0 | hr0 | hr0
            · skip
              have t0 : ((r : Int) == 0) = true := by rw [hr0]; rfl
              have t1 : ((r : Int) == 1) = false := by rw [hr0]; rfl
              have t2 : ((r : Int) == 2) = false := by rw [hr0]; rfl
              clear hr0 hr1
              have HZH : Hid (bd + 1 < w3.heap.size) := Lib.hid HKH.out.lt
              have hk60 : k < 60 := by have := HGA.out.hl; have := HNN.out; omega
              have HCA := Lib.hid (tell_any (fun R => R < w3.heap.size) _ G (sp : Int) ⟨tc, tv⟩ w3 HGA.out.lo (fun R h => h))
              rw [HTE.out.1] at HCA
              obtain ⟨G2, hG2⟩ : ∃ z, z = tellG G (sp : Int) ⟨tc, tv⟩ := ⟨_, rfl⟩
              rw [← hG2] at HCA HTE
              clear hG2
              have kG := HGA.out.hk.c
              have kD := HKD.out.c
              go_wp2_with fail
              refine HCA.out.mono ?_
              intro e w4 h
              obtain ⟨p2, m2, c2, q2, n2, d2, rfl, hc, ho, hb⟩ := h.open
              have HC4 := Lib.hid hc
              have HO4 := Lib.hid ho
              have HG4 := Lib.hid (HGA.out.below hb)
              have HD4 := Lib.hid (HKD.out.below hb)
              have HH4 := Lib.hid (HKH.out.below hb)
              have HZ4 : Hid (w3.heap.size ≤ w4.heap.size) := Lib.hid hb.size
              clear h hc ho hb kG kD HGA HKD HKH HCA
              have kH := HH4.out.c
              have fH := HH4.out.f
              have lH := HH4.out.lt
              go_upto_region 20 with fail
              have HL := HLT.out
              have HG5 := Lib.hid (HG4.out.set2 (R := bd + 1) (by omega) (HOFF.out _ (Nat.le_succ _)) (fun e => by have := HL.2.1 _ e; omega) (fun e => by have := HL.2.2 _ e; omega) (.slice p2 m2 c2) (.slice q2 n2 d2))
              have HD5 := Lib.hid (set2_other HD4.out (show bd + 1 ≠ bd by omega) (.slice p2 m2 c2) (.slice q2 n2 d2))
              have HV5 := Lib.hid (Hv.put (bg := bg) (a := a) (x := x) (b := b) (y := y) (k := k) HH4.out HC4.out HO4.out (by have := HZH.out; omega) (HZH.out) (fun g e => by have := HL.2.1 g e; have := HZH.out; omega) (fun g e => by have := HL.2.2 g e; have := HZH.out; omega))
              obtain ⟨w5, hw5⟩ : ∃ z, z = (w4.setCell ⟨bd + 1, 0, none⟩ (.slice p2 m2 c2)).setCell ⟨bd + 1, 1, none⟩ (.slice q2 n2 d2) := ⟨_, rfl⟩
              rw [← hw5] at HG5 HD5 HV5 ⊢
              clear hw5 kH fH lH HL HG4 HD4 HH4 HC4 HO4
              have kD := HD5.out.c
              obtain ⟨E, hE⟩ := HTE.out.2.2
              have HE := Lib.hid hE
              clear hE
              go_wp2_with (first | (at_builtin; refine wpList_append_sl rfl _ _ 23 rfl (bg + 1) 28 i0 _ 2 16 Try.underlying23 HI.out.1 HI.out.2.1 HI.out.2.2.1 HI.out.2.2.2 rfl (by decide) _ k (tdC (H.map Hd.td)) rfl (own_below HG5.out.to_ ((Below.refl _ _).alloc (Nat.le_refl _) _)) (some ⟨w5.heap.size, 0, none⟩) 1 1 (tdC [⟨tc, tv⟩]) rfl rfl (blk_sl (Blk.new _ _ _)) (tdC_one _) (by unfold maxLen; omega) (by omega) (by have := HG5.out.hk.lt; rw [World.size_alloc]; omega) ?_; intro v' w6 g1 g2 g3; obtain ⟨a', x', rfl, -⟩ := own_cap g1; have HG6 := Lib.hid (HG5.out.below ((Below.refl _ _).alloc (Nat.le_refl _) (.cells #[.int .i64 tc, .int .u32 tv] 28))); have HV6 := Lib.hid (HV5.out.below ((Below.refl _ _).alloc (Nat.le_refl _) (.cells #[.int .i64 tc, .int .u32 tv] 28))); have H1 := Lib.hid g1; have H2 := Lib.hid g2; have H3 := Lib.hid g3; clear g1 g2 g3 kD) | (at_builtin; refine wpList_append_sl rfl _ _ 43 rfl (bg + 1) 3 i1 _ 1 8 Try.underlying43 HJ.out.1 HJ.out.2.1 HJ.out.2.2.1 HJ.out.2.2.2 rfl (by decide) _ k (spC H) rfl (own_below ((own_below HG6.out.wo (Below.refl _ _)).kept H2.out (by cases hv : (Value.slice b k y).ownBlock with | none => exact .inl rfl | some g => exact .inr (fun e => HG6.out.sep g e.symm hv))) ((Below.refl _ _).alloc (Nat.le_refl _) _)) (some ⟨w6.heap.size, 0, none⟩) 1 1 (spC [⟨⟨tc, tv⟩, (sp : Int)⟩]) rfl rfl (blk_sl (Blk.new _ _ _)) (spC_one _) (by unfold maxLen; omega) (by omega) (by have := HG5.out.hk.lt; have := H2.out.size; simp only [World.size_alloc] at this ⊢; omega) ?_; intro v' w7 g1 g2 g3; obtain ⟨b', y', rfl, -⟩ := own_cap g1; have H4 := Lib.hid g1; have H5 := Lib.hid g2; have H6 := Lib.hid g3; clear g1 g2 g3))
              have HG7 := Lib.hid (HG6.out.more (u := ⟨⟨tc, tv⟩, (sp : Int)⟩) hk60 (by rw [List.map_append, tdC_app]; exact H1.out) H2.out H3.out ((Below.refl _ _).alloc (Nat.le_refl _) _) (by rw [spC_app]; exact H4.out) H5.out H6.out)
              have HV7 := Lib.hid (HV6.out.more (fun g e => by have := HLT.out.2.1 g e; omega) (fun g e => by have := HLT.out.2.2 g e; omega) H2.out H3.out ((Below.refl _ _).alloc (Nat.le_refl _) (.cells #[.int .i64 (sp : Int)] 3)) H5.out H6.out)
              go_wp2_with fail
              go_meet
              case rel => exact ⟨sp, su, k + 1, G2, _, p2, m2, c2, q2, n2, d2, a', x', b', y', E, rfl, rfl, rfl, rfl, rfl, HTE.out.2.1, HE.out, HG7.out, HV7.out⟩
            · skip
              have t0 : ((r : Int) == 0) = false := by rw [hr0]; rfl
              have t1 : ((r : Int) == 1) = false := by rw [hr0]; rfl
              have t2 : ((r : Int) == 2) = true := by rw [hr0]; rfl
              clear hr0 hr1
              have HZH : Hid (bd + 1 < w3.heap.size) := Lib.hid HKH.out.lt
              obtain ⟨rr, dm, dn, s2, hr, ⟨hne, hneI⟩, f1, f2, f3, f4, f5, f6, f7, f8, f9, f10, f11, f12⟩ := rem_letters HNN.out.1 HNN.out.2.1 hto
              have HR1 : Hid (su ≤ s2 ∧ s2 ≤ sp) := Lib.hid hr
              clear hr hto hkd
              have kD := HKD.out.c
              go_upto_region 25 with fail
              clear f1 f2 f3 f4 f5 f6 f7 f8 f9 f10 f11 f12 hne hneI kD
              have HSS := Lib.hid (HSE.out s2 HR1.out.1 HR1.out.2)
              have HCA := Lib.hid (sure_any (fun R => R < w3.heap.size) _ G (s2 : Int) w3 HGA.out.lo (fun R h => h) (by have := HLEN.out; omega))
              rw [HSS.out.1] at HCA
              obtain ⟨G2, hG2⟩ : ∃ z, z = sureG G (s2 : Int) := ⟨_, rfl⟩
              rw [← hG2] at HCA HSS
              clear hG2
              have kG := HGA.out.hk.c
              have kD := HKD.out.c
              go_wp2_with fail
              refine HCA.out.mono ?_
              intro e w4 h
              obtain ⟨p2, m2, c2, q2, n2, d2, rfl, hc, ho, hb⟩ := h.open
              have HC4 := Lib.hid hc
              have HO4 := Lib.hid ho
              have HG4 := Lib.hid (HGA.out.below hb)
              have HD4 := Lib.hid (HKD.out.below hb)
              have HH4 := Lib.hid (HKH.out.below hb)
              have HZ4 : Hid (w3.heap.size ≤ w4.heap.size) := Lib.hid hb.size
              clear h hc ho hb kG kD HGA HKD HKH HCA
              have kH := HH4.out.c
              have fH := HH4.out.f
              have lH := HH4.out.lt
              go_upto_region 26 with fail
              have HL := HLT.out
              have HG5 := Lib.hid (HG4.out.set2 (R := bd + 1) (by omega) (HOFF.out _ (Nat.le_succ _)) (fun e => by have := HL.2.1 _ e; omega) (fun e => by have := HL.2.2 _ e; omega) (.slice p2 m2 c2) (.slice q2 n2 d2))
              have HD5 := Lib.hid (set2_other HD4.out (show bd + 1 ≠ bd by omega) (.slice p2 m2 c2) (.slice q2 n2 d2))
              have HV5 := Lib.hid (Hv.put (bg := bg) (a := a) (x := x) (b := b) (y := y) (k := k) HH4.out HC4.out HO4.out (by have := HZH.out; omega) (HZH.out) (fun g e => by have := HL.2.1 g e; have := HZH.out; omega) (fun g e => by have := HL.2.2 g e; have := HZH.out; omega))
              obtain ⟨w5, hw5⟩ : ∃ z, z = (w4.setCell ⟨bd + 1, 0, none⟩ (.slice p2 m2 c2)).setCell ⟨bd + 1, 1, none⟩ (.slice q2 n2 d2) := ⟨_, rfl⟩
              rw [← hw5] at HG5 HD5 HV5 ⊢
              clear hw5 kH fH lH HL HG4 HD4 HH4 HC4 HO4
              obtain ⟨E, hE⟩ := HSS.out.2.2
              have HE := Lib.hid hE
              clear hE
              have HAL1 : Hid (∀ W, Below w5.heap.size w5 W → Calls Try.prog 17 #[.agg #[.slice p m c, .slice q n d]] W fun e w' => ∃ qq dd, e = .returned (.slice qq k dd) ∧ w'.ownsRow W.heap.size 28 2 (.slice qq k dd) k (tdC (H.map Hd.td)) ∧ Below W.heap.size W w') := Lib.hid (fun W hW => (all_any _ _ G W (HG5.out.below hW).lo).mono fun e w' ⟨qq, xx, dd, hx, he, ho, hb⟩ => by
                rw [HALL.out, List.length_map, HG5.out.hl] at hx
                rw [HALL.out] at ho
                subst hx
                exact ⟨qq, dd, he, ho, hb⟩)
              have HAL2 : Hid (∀ W, Below w5.heap.size w5 W → Calls Try.prog 17 #[.agg #[.slice p2 m2 c2, .slice q2 n2 d2]] W fun e w' => ∃ qq dd, e = .returned (.slice qq k dd) ∧ w'.ownsRow W.heap.size 28 2 (.slice qq k dd) k (tdC (H.map Hd.td)) ∧ Below W.heap.size W w') := Lib.hid (fun W hW => (all_any _ _ G2 W (HV5.out.below hW).lo).mono fun e w' ⟨qq, xx, dd, hx, he, ho, hb⟩ => by
                rw [HSS.out.2.1.all, List.length_map, HG5.out.hl] at hx
                rw [HSS.out.2.1.all] at ho
                subst hx
                exact ⟨qq, dd, he, ho, hb⟩)
              have HS : Hid (∀ V, Below w5.heap.size w5 V → (∀ t, V.cell? ⟨bg, t, none⟩ = (#[.slice p m c, .slice q n d] : Array Value)[t]?) ∧ ∀ t, V.cell? ⟨bd + 1, t, none⟩ = (#[.slice p2 m2 c2, .slice q2 n2 d2] : Array Value)[t]?) := Lib.hid (fun V hV => ⟨(HG5.out.below hV).hk.c, (HV5.out.below hV).hk.c⟩)
              refine region_plan (fun V : World => (∀ t, V.cell? ⟨bg, t, none⟩ = (#[.slice p m c, .slice q n d] : Array Value)[t]?) ∧ ∀ t, V.cell? ⟨bd + 1, t, none⟩ = (#[.slice p2 m2 c2, .slice q2 n2 d2] : Array Value)[t]?) 9 [(0, true), (1, true), (2, true), (3, true), (5, true), (4, false), (6, false), (7, false), (8, true)] (by kernel_rfl) (by kernel_rfl) (HS.out _ (Below.refl _ _).drew) ?_
              iterate 5
                refine plan_read (v := ?_) rfl (by rfl) ?_ ?_
                rotate_left
                · intro w' hS
                  try dsimp only at hS
                  go_simp
                  try with_reducible rfl
                try simp only [Act.put, List.setIfInBounds_toArray, List.set_cons_zero, List.set_cons_succ, List.getElem_toArray, List.getElem_cons_zero, List.getElem_cons_succ]
              refine plan_call (F := 17) (args := ?_) rfl (by rfl) ?_ ?_
              rotate_left
              · go_simp
                rfl
              refine (HAL1.out w5.drew (Below.refl _ _).drew).mono ?_
              rintro e w6 ⟨qa, da, rfl, ho, hb⟩
              have HB6 : Hid (Below w5.heap.size w5 w6) := Lib.hid ((Below.refl _ _).drew.trans hb)
              obtain ⟨qx, cx, ex, hsa⟩ := Sl.own ho
              injection ex with ex1 ex2 ex3
              subst ex1
              have HSA := Lib.hid hsa
              clear hb ho hsa ex2 ex3
              refine ⟨_, rfl, HS.out _ HB6.out, ?_⟩
              try simp only [Act.put, List.setIfInBounds_toArray, List.set_cons_zero, List.set_cons_succ, List.getElem_toArray, List.getElem_cons_zero, List.getElem_cons_succ]
              refine plan_call (F := 17) (args := ?_) rfl (by rfl) ?_ ?_
              rotate_left
              · go_simp
                rfl
              refine (HAL2.out w6 HB6.out).mono ?_
              rintro e w7 ⟨qb, db, rfl, ho, hb⟩
              have HB7 : Hid (Below w5.heap.size w5 w7) := Lib.hid (HB6.out.trans (hb.mono HB6.out.size))
              have HSA7 := Lib.hid (HSA.out.below hb)
              obtain ⟨qx, cx, ex, hsb⟩ := Sl.own ho
              injection ex with ex1 ex2 ex3
              subst ex1
              have HSB := Lib.hid hsb
              clear hb ho hsb ex2 ex3
              refine ⟨_, rfl, HS.out _ HB7.out, ?_⟩
              try simp only [Act.put, List.setIfInBounds_toArray, List.set_cons_zero, List.set_cons_succ, List.getElem_toArray, List.getElem_cons_zero, List.getElem_cons_succ]
              refine plan_call (F := 16) (args := ?_) rfl (by rfl) ?_ ?_
              rotate_left
              · go_simp
                rfl
              refine (outs_any qa qb k da db (H.map Hd.td) w7 (by rw [List.length_map, HG5.out.hl]) HSA7.out HSB.out (by have := HG5.out.tk; omega)).mono ?_
              rintro e w8 ⟨rfl, hb⟩
              have HB8 : Hid (Below w5.heap.size w5 w8) := Lib.hid (HB7.out.trans (hb.mono HB7.out.size))
              clear hb
              refine ⟨_, rfl, HS.out _ HB8.out, ?_⟩
              try simp only [Act.put, List.setIfInBounds_toArray, List.set_cons_zero, List.set_cons_succ, List.getElem_toArray, List.getElem_cons_zero, List.getElem_cons_succ]
              iterate 1
                refine plan_read (v := ?_) rfl (by rfl) ?_ ?_
                rotate_left
                · intro w' hS
                  try dsimp only at hS
                  go_simp
                  try with_reducible rfl
                try simp only [Act.put, List.setIfInBounds_toArray, List.set_cons_zero, List.set_cons_succ, List.getElem_toArray, List.getElem_cons_zero, List.getElem_cons_succ]
              refine plan_nil ?_
              simp only [List.drop_succ_cons, List.drop_zero]
              have HG8 := Lib.hid (HG5.out.below HB8.out)
              have HV8 := Lib.hid (HV5.out.below HB8.out)
              clear HG5 HV5 HS HAL1 HAL2 HSA7 HSB HB6 HB7
              go_wp2_with fail
              go_meet
              case rel => exact ⟨sp, s2, k, G2, H, p2, m2, c2, q2, n2, d2, a, x, b, y, E, rfl, rfl, rfl, rfl, rfl, HSS.out.2.1, HE.out, HG8.out, HV8.out⟩
            · skip
              have t0 : ((r : Int) == 0) = false := by rw [hr0]; rfl
              have t1 : ((r : Int) == 1) = false := by rw [hr0]; rfl
              have t2 : ((r : Int) == 2) = false := by rw [hr0]; rfl
              clear hr0 hr1
              have HZH : Hid (bd + 1 < w3.heap.size) := Lib.hid HKH.out.lt
              obtain ⟨rr, dm, dn, s2, hr, ⟨hne, hneI⟩, f1, f2, f3, f4, f5, f6, f7, f8, f9, f10, f11, f12⟩ := rem_letters HNN.out.1 HNN.out.2.1 hto
              have HR1 : Hid (su ≤ s2 ∧ s2 ≤ sp) := Lib.hid hr
              clear hr hto hkd
              have kD := HKD.out.c
              go_upto_region 15 with fail
              clear f1 f2 f3 f4 f5 f6 f7 f8 f9 f10 f11 f12 hne hneI kD
              have HSS := Lib.hid (HBE.out s2 HR1.out.1 HR1.out.2)
              have HCA := Lib.hid (back_any (fun R => R < w3.heap.size) _ G (s2 : Int) w3 HGA.out.lo (fun R h => h))
              rw [HSS.out.1] at HCA
              obtain ⟨G2, hG2⟩ : ∃ z, z = backG G (s2 : Int) := ⟨_, rfl⟩
              rw [← hG2] at HCA HSS
              clear hG2
              have kG := HGA.out.hk.c
              have kD := HKD.out.c
              go_wp2_with fail
              refine HCA.out.mono ?_
              intro e w4 h
              obtain ⟨p2, m2, c2, q2, n2, d2, rfl, hc, ho, hb⟩ := h.open
              have HC4 := Lib.hid hc
              have HO4 := Lib.hid ho
              have HG4 := Lib.hid (HGA.out.below hb)
              have HD4 := Lib.hid (HKD.out.below hb)
              have HH4 := Lib.hid (HKH.out.below hb)
              have HZ4 : Hid (w3.heap.size ≤ w4.heap.size) := Lib.hid hb.size
              clear h hc ho hb kG kD HGA HKD HKH HCA
              have kH := HH4.out.c
              have fH := HH4.out.f
              have lH := HH4.out.lt
              go_upto_region 16 with fail
              have HL := HLT.out
              have HG5 := Lib.hid (HG4.out.set2 (R := bd + 1) (by omega) (HOFF.out _ (Nat.le_succ _)) (fun e => by have := HL.2.1 _ e; omega) (fun e => by have := HL.2.2 _ e; omega) (.slice p2 m2 c2) (.slice q2 n2 d2))
              have HD5 := Lib.hid (set2_other HD4.out (show bd + 1 ≠ bd by omega) (.slice p2 m2 c2) (.slice q2 n2 d2))
              have HV5 := Lib.hid (Hv.put (bg := bg) (a := a) (x := x) (b := b) (y := y) (k := k) HH4.out HC4.out HO4.out (by have := HZH.out; omega) (HZH.out) (fun g e => by have := HL.2.1 g e; have := HZH.out; omega) (fun g e => by have := HL.2.2 g e; have := HZH.out; omega))
              obtain ⟨w5, hw5⟩ : ∃ z, z = (w4.setCell ⟨bd + 1, 0, none⟩ (.slice p2 m2 c2)).setCell ⟨bd + 1, 1, none⟩ (.slice q2 n2 d2) := ⟨_, rfl⟩
              rw [← hw5] at HG5 HD5 HV5 ⊢
              clear hw5 kH fH lH HL HG4 HD4 HH4 HC4 HO4
              obtain ⟨E, hE⟩ := HSS.out.2.2
              have HE := Lib.hid hE
              clear hE
              obtain ⟨wo, hwo⟩ : ∃ z, z = wr := ⟨_, rfl⟩
              have HWO := Lib.hid hwo
              clear hwo
              go_loopw [6, 7] (fun s6 s7 wq => ∃ j : Nat, j ≤ k ∧ s6 = .slice a j x ∧ s7 = .slice b j y ∧ Hid (belowL (H.take j) s2 = belowL H s2) ∧ Below w5.heap.size w5 wq) (fun _ s7 _ => sliceLen s7)
              case atStart => exact ⟨k, Nat.le_refl _, rfl, rfl, Lib.hid (by rw [← HG5.out.hl, List.take_length]), Below.refl _ _⟩
              case round =>
                obtain ⟨j, hjk, rfl, rfl, HBL, hb⟩ := hrel
                have HG6 := Lib.hid ((HG5.out.below hb).pop hjk)
                have HV6 := Lib.hid ((HV5.out.below hb).pop j)
                have HB6 := Lib.hid hb
                have HLE : Hid (H.length = k) := Lib.hid HG5.out.hl
                clear hb
                by_cases hj0 : j = 0
                · have e0 : decide ((0 : Int) < (j : Int)) = false := decide_eq_false (by omega)
                  have e0n : decide (0 < j) = false := decide_eq_false (by omega)
                  have HTK : Hid (H.take j = belowL H s2) := Lib.hid (pop_done HUP.out (by rw [HLE.out]; exact hjk) (.inl hj0) HBL.out)
                  clear hj0 HG5 HV5
                  go_wp2_with fail
                  go_meet
                  case rel => exact ⟨s2, su, j, G2, _, p2, m2, c2, q2, n2, d2, a, x, b, y, E, rfl, rfl, rfl, rfl, rfl, HSS.out.2.1, HE.out, by rw [← HTK.out]; exact HG6.out, HV6.out⟩
                · have e0 : decide ((0 : Int) < (j : Int)) = true := decide_eq_true (by omega)
                  have e0n : decide (0 < j) = true := decide_eq_true (by omega)
                  obtain ⟨j1, hj1⟩ : ∃ j1, j = j1 + 1 := ⟨j - 1, by omega⟩
                  have hlt : j1 < j := by omega
                  obtain ⟨g, rfl, hgl, hcell, hjy⟩ := HG6.out.at_ j1 hlt
                  have hjx : j ≤ x := by
                    obtain ⟨p', c', e, hc⟩ := own_cap HG6.out.to_
                    injection e with _ _ e
                    subst e
                    exact hc
                  have hltI : (j1 : Int) < (j : Int) := by omega
                  have h60 := HG6.out.tk
                  have f1 : IntKind.i64.wrap ((j : Int) - 1) = (j1 : Int) := by rw [IntKind.wrap_i64]; omega
                  have f2 : wrap64 ((j : Int) - 1) = (j1 : Int) := by unfold wrap64; omega
                  have k1 := fun W => cut_hiT a j x j1 (by omega) W
                  have k2 := fun W => cut_hiI (some ⟨g, 0, none⟩) j y j1 (by omega) W
                  have hge : (H.take j).getD j1 zH = H.getD j1 zH := getD_take H zH j j1 hlt
                  rw [hge] at hcell
                  have HMORE : Hid (¬ (H.getD j1 zH).span < (s2 : Int) → belowL (H.take j1) s2 = belowL H s2) := Lib.hid (fun h => pop_more (k := j1) (by rw [HLE.out]; omega) h (by rw [← hj1]; exact HBL.out))
                  have HDONE : Hid ((H.getD j1 zH).span < (s2 : Int) → H.take j = belowL H s2) := Lib.hid (fun h => pop_done HUP.out (by rw [HLE.out]; exact hjk) (.inr (by rw [show j - 1 = j1 by omega]; exact h)) HBL.out)
                  have HJ1 : Hid (j1 ≤ k) := Lib.hid (by omega)
                  obtain ⟨v, hv⟩ : ∃ v, v = (H.getD j1 zH).span := ⟨_, rfl⟩
                  rw [← hv] at hcell HMORE HDONE
                  clear hv hge hj1 hj0 HG5 HV5 hgl hjy hjx h60 HBL
                  by_cases hvs : v < (s2 : Int)
                  · have e1 : decide ((s2 : Int) ≤ v) = false := decide_eq_false (by omega)
                    have HTK := Lib.hid (HDONE.out hvs)
                    clear hvs HMORE HDONE
                    go_wp2_with fail
                    go_meet
                    case rel => exact ⟨s2, su, j, G2, _, p2, m2, c2, q2, n2, d2, a, x, some ⟨g, 0, none⟩, y, E, rfl, rfl, rfl, rfl, rfl, HSS.out.2.1, HE.out, by rw [← HTK.out]; exact HG6.out, HV6.out⟩
                  · have e1 : decide ((s2 : Int) ≤ v) = true := decide_eq_true (by omega)
                    have HTK := Lib.hid (HMORE.out hvs)
                    clear hvs HMORE HDONE
                    go_upto_region 17 with fail
                    go_quiet (fail)
                    go_wp2_with fail
                    go_roundw
                    case rel => exact ⟨j1, HJ1.out, rfl, rfl, HTK, drewN_below HB6.out _⟩
                    case measure => simp [sliceLen]; omega
          case rest =>
            as_aux_lemma =>
            obtain ⟨sp2, su2, k2, G2, H2, p2, m2, c2, q2, n2, d2, a2, x2, b2, y2, E, rfl, rfl, rfl, rfl, rfl, hiv2, hE, hgs2, hhv⟩ := hcut
            obtain ⟨wB, hwB⟩ : ∃ z, z = wc := ⟨_, rfl⟩
            rw [← hwB] at hgs2 hhv ⊢
            have HIV2 := Lib.hid hiv2
            have HG := Lib.hid hgs2
            have HV := Lib.hid hhv
            have hn1 : G.out.length = n := hgs2.hc.ll
            have hn2 : G2.out.length = n2 := hhv.hc.ll
            have HNL : Hid (n ≤ n2 ∧ G2.out.take n = G.out ∧ n2 ≤ d2) := Lib.hid ⟨by rw [← hn1, ← hn2, hE, List.length_append]; omega, by rw [hE, ← hn1, List.take_left], hhv.hc.nd⟩
            have HN1 := Lib.hid hn1
            have HN2 := Lib.hid hn2
            have e0 : decide ((n2 : Int) < (n : Int)) = false := decide_eq_false (by have := HNL.out.1; omega)
            have e0n : decide (n2 < n) = false := decide_eq_false (by have := HNL.out.1; omega)
            clear hwB hiv2 hE hgs2 hhv hn1 hn2 HKD HKH HGA HLT HOFF HNX HTE HSE HBE HLEN HALL HUP hr4 hr1
            have hcut2 := fun W => cut_hiT q2 n2 d2 n (Nat.le_trans HNL.out.1 HNL.out.2.2) W
            have HOU : Hid (∀ W, Below wB.heap.size wB W → Calls Try.prog 16 #[.slice q2 n d2, .slice q n d] W fun e w' => e = .returned (.bool true) ∧ Below W.heap.size W w') := Lib.hid (fun W hW => by
              have h1 := (HV.out.hc.below hW).ls.takeT HNL.out.1 HN2.out
              rw [HNL.out.2.1] at h1
              exact outs_any q2 q n d2 d G.out W HN1.out h1 (HG.out.hc.below hW).ls (by have := HG.out.hc.n10; omega))
            have HRT : Hid (∀ W, Below wB.heap.size wB W → Calls Try.prog 14 #[.agg #[.slice p2 m2 c2, .slice q2 n2 d2]] W fun e w' => e = .returned (.bool true) ∧ Below W.heap.size W w') := Lib.hid (fun W hW => by
              have := right_any _ _ G2 W (HV.out.below hW).lo
              rw [HIV2.out.right] at this; exact this)
            have HS : Hid (∀ V, Below wB.heap.size wB V → (∀ t, V.cell? ⟨bg, t, none⟩ = (#[.slice p m c, .slice q n d] : Array Value)[t]?) ∧ ∀ t, V.cell? ⟨bd + 1, t, none⟩ = (#[.slice p2 m2 c2, .slice q2 n2 d2] : Array Value)[t]?) := Lib.hid (fun V hV => ⟨(HG.out.below hV).hk.c, (HV.out.below hV).hk.c⟩)
            go_upto_region 28 with fail
            refine region_plan (fun V : World => (∀ t, V.cell? ⟨bg, t, none⟩ = (#[.slice p m c, .slice q n d] : Array Value)[t]?) ∧ ∀ t, V.cell? ⟨bd + 1, t, none⟩ = (#[.slice p2 m2 c2, .slice q2 n2 d2] : Array Value)[t]?) 27 [(0, true), (1, true), (2, true), (3, true), (4, true), (5, true), (6, true), (7, true), (8, true), (9, true), (10, true), (11, true), (12, true), (13, true), (14, true), (15, true), (16, true), (17, true), (18, true), (19, true), (20, false), (21, true), (22, true), (23, true), (24, true), (25, false), (26, true)] (by kernel_rfl) (by kernel_rfl) (HS.out _ (Below.refl _ _).drew) ?_
            iterate 20
              refine plan_read (v := ?_) rfl (by rfl) ?_ ?_
              rotate_left
              · intro w' hS
                try dsimp only at hS
                go_simp
                try with_reducible rfl
              try simp only [Act.put, List.setIfInBounds_toArray, List.set_cons_zero, List.set_cons_succ, List.getElem_toArray, List.getElem_cons_zero, List.getElem_cons_succ, e0, e0n]
            refine plan_call (F := 16) (args := ?_) rfl (by rfl) ?_ ?_
            rotate_left
            · go_simp
              rfl
            refine (HOU.out wB.drew (Below.refl _ _).drew).mono ?_
            rintro e w4 ⟨rfl, hb⟩
            have HB4 : Hid (Below wB.heap.size wB w4) := Lib.hid ((Below.refl _ _).drew.trans hb)
            clear hb
            refine ⟨_, rfl, HS.out _ HB4.out, ?_⟩
            try simp only [Act.put, List.setIfInBounds_toArray, List.set_cons_zero, List.set_cons_succ, List.getElem_toArray, List.getElem_cons_zero, List.getElem_cons_succ]
            iterate 4
              refine plan_read (v := ?_) rfl (by rfl) ?_ ?_
              rotate_left
              · intro w' hS
                try dsimp only at hS
                go_simp
                try with_reducible rfl
              try simp only [Act.put, List.setIfInBounds_toArray, List.set_cons_zero, List.set_cons_succ, List.getElem_toArray, List.getElem_cons_zero, List.getElem_cons_succ]
            refine plan_call (F := 14) (args := ?_) rfl (by rfl) ?_ ?_
            rotate_left
            · go_simp
              rfl
            refine (HRT.out w4 HB4.out).mono ?_
            rintro e w5 ⟨rfl, hb⟩
            have HB5 : Hid (Below wB.heap.size wB w5) := Lib.hid (HB4.out.trans (hb.mono HB4.out.size))
            clear hb
            refine ⟨_, rfl, HS.out _ HB5.out, ?_⟩
            try simp only [Act.put, List.setIfInBounds_toArray, List.set_cons_zero, List.set_cons_succ, List.getElem_toArray, List.getElem_cons_zero, List.getElem_cons_succ]
            iterate 1
              refine plan_read (v := ?_) rfl (by rfl) ?_ ?_
              rotate_left
              · intro w' hS
                try dsimp only at hS
                go_simp
                try with_reducible rfl
              try simp only [Act.put, List.setIfInBounds_toArray, List.set_cons_zero, List.set_cons_succ, List.getElem_toArray, List.getElem_cons_zero, List.getElem_cons_succ]
            refine plan_nil ?_
            simp only [List.drop_succ_cons, List.drop_zero]
            have HG5 := Lib.hid (HG.out.below HB5.out)
            have HV5 := Lib.hid (HV.out.below HB5.out)
            have HG6 := Lib.hid (HG5.out.put HV5.out.hc HV5.out.ob HV5.out.ot HV5.out.ow)
            clear HS HRT HOU HG HV HB4 HB5 hcut2 e0 e0n
            have kV := HV5.out.hk.c
            have kG := HG5.out.hk.c
            have fG := HG5.out.hk.f
            have lG := HG5.out.hk.lt
            go_upto_region 31 with fail
            obtain ⟨w6, hw6⟩ : ∃ z, z = (w5.setCell ⟨bg, 0, none⟩ (.slice p2 m2 c2)).setCell ⟨bg, 1, none⟩ (.slice q2 n2 d2) := ⟨_, rfl⟩
            rw [← hw6] at HG6 ⊢
            clear hw6 kV kG fG lG HG5 HV5
            have HHL : Hid (H2.length = k2) := Lib.hid HG6.out.hl
            have HCT : Hid ((belowL H2 su2).length = n2) := Lib.hid (by rw [← HN2.out, HIV2.out.out, List.length_map])
            have HAT : Hid (∀ j, j < k2 → ∃ g, b2 = some ⟨g, 0, none⟩ ∧ g < w6.heap.size ∧ w6.cell? ⟨g, j, none⟩ = some (.int .i64 (H2.getD j zH).span) ∧ k2 ≤ y2) := Lib.hid (fun j hj => HG6.out.at_ j hj)
            have hk60 : k2 ≤ 60 := HG6.out.tk
            have HIS : Hid (i < len ∧ i < 60) := Lib.hid ⟨hkl, HNN.out.2.2.2.2⟩
            clear HNN HN1 HNL hkl
            go_wp2_with fail
            go_loop [12, 13] (fun s12 s13 => ∃ j : Nat, j ≤ k2 ∧ s13 = .int .i64 j ∧ s12 = .int .i64 ((belowL (H2.take j) su2).length : Nat)) (fun _ s13 => k2 - (intOf s13).toNat)
            case atStart => exact ⟨0, Nat.zero_le _, rfl, rfl⟩
            case round =>
              obtain ⟨j, hj, rfl, rfl⟩ := hrel
              have hcnt : (belowL (H2.take j) su2).length ≤ 60 := Nat.le_trans (List.length_filter_le _ _) (by rw [List.length_take]; omega)
              by_cases hlt : j < k2
              · obtain ⟨g, rfl, hgl, hcell, hjy⟩ := HAT.out j hlt
                have hltI : (j : Int) < (k2 : Int) := by omega
                have HST := Lib.hid (below_take H2 su2 j (by rw [HHL.out]; exact hlt))
                obtain ⟨cn, hcn⟩ : ∃ z, z = (belowL (H2.take j) su2).length := ⟨_, rfl⟩
                obtain ⟨v, hv⟩ : ∃ z, z = (H2.getD j zH).span := ⟨_, rfl⟩
                rw [← hcn, ← hv] at HST
                rw [← hcn] at hcnt ⊢
                rw [← hv] at hcell
                clear hcn hv
                by_cases hvs : v < (su2 : Int)
                · have e1 : decide (v < (su2 : Int)) = true := decide_eq_true hvs
                  have HS2 : Hid ((belowL (H2.take (j + 1)) su2).length = cn + 1) := Lib.hid (by rw [HST.out, if_pos hvs])
                  clear hvs HST
                  go_wp2_with fail
                  go_round
                  case rel => exact ⟨j + 1, by omega, by go_num, by rw [HS2.out]; go_num⟩
                  case measure => simp [intOf]; omega
                · have e1 : decide (v < (su2 : Int)) = false := decide_eq_false hvs
                  have HS2 : Hid ((belowL (H2.take (j + 1)) su2).length = cn) := Lib.hid (by rw [HST.out, if_neg hvs]; omega)
                  clear hvs HST
                  go_wp2_with fail
                  go_round
                  case rel => exact ⟨j + 1, by omega, by go_num, by rw [HS2.out]⟩
                  case measure => simp [intOf]; omega
              · have hjk : j = k2 := by omega
                have hct : (belowL (H2.take j) su2).length = n2 := by rw [hjk, ← HHL.out, List.take_length]; exact HCT.out
                rw [hct] at hcnt ⊢
                have HAL : Hid (Calls Try.prog 17 #[.agg #[.slice p2 m2 c2, .slice q2 n2 d2]] w6 fun e w' => ∃ qq dd, e = .returned (.slice qq k2 dd) ∧ w'.ownsRow w6.heap.size 28 2 (.slice qq k2 dd) k2 (tdC (H2.map Hd.td)) ∧ Below w6.heap.size w6 w') := Lib.hid ((all_any _ _ G2 w6 HG6.out.lo).mono fun e w' ⟨qq, xx, dd, hx, he, ho, hb⟩ => by
                  rw [HIV2.out.all, List.length_map, HHL.out] at hx
                  rw [HIV2.out.all] at ho
                  subst hx
                  exact ⟨qq, dd, he, ho, hb⟩)
                have HJK := Lib.hid hjk
                have hltI : ¬ (j : Int) < (k2 : Int) := by omega
                have e2 : ((n2 : Int) != (n2 : Int)) = false := by simp
                clear hjk hct
                have kG := HG6.out.hk.c
                go_wp2_with fail
                refine HAL.out.mono ?_
                rintro e w7 ⟨qa, da, rfl, ho, hb⟩
                have HG7 := Lib.hid (HG6.out.below hb)
                obtain ⟨qx, cx, ex, hsa⟩ := Sl.own ho
                injection ex with ex1 ex2 ex3
                subst ex1
                have HSA := Lib.hid hsa
                clear hb ho hsa ex2 ex3 kG HAL HG6
                go_wp2_with fail
                refine (outs_any qa a2 k2 da x2 (H2.map Hd.td) w7 (by rw [List.length_map, HHL.out]) HSA.out HG7.out.told (by omega)).mono ?_
                rintro e w8 ⟨rfl, hb⟩
                have HG8 := Lib.hid (HG7.out.below hb)
                clear hb HG7 HSA
                have kG := HG8.out.hk.c
                have hil2 := HIS.out.1
                have hi60 := HIS.out.2
                go_wp2_with fail
                go_roundw
                case rel => exact ⟨i + 1, sp2, su2, k2, G2, H2, p2, m2, c2, q2, n2, d2, a2, x2, b2, y2, by omega, by go_num, rfl, rfl, rfl, rfl, HIV2.out, HG8.out⟩
                case measure => simp [intOf]; omega
      · rw [decide_eq_false hgo]
        go_wp2_with fail
        go_ret
        exact ⟨rfl, HGS.out.hb⟩
end Go.Proofs.Yteffmidpinlpjaa
