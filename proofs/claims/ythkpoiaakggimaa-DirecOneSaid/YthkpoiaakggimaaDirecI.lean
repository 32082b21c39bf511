/- DirecAll: the walk of the statement's function; no condition but that the bytes read. -/
import Derived.Test.YthkpoiaakggimaaDirecH
namespace Go.Proofs.Ythkpoiaakggimaa
set_option linter.unusedVariables false
open Go.ChangeShapes Go.WideShapes Go.ChangeAt Go.RowKit

/-- A slice that reads as these bytes. -/
structure Nb (w : World) (p : Option Addr) (l : List Nat) : Prop where
  lt : ∀ x ∈ l, x < 256
  c : 0 < l.length → ∃ b off, b < w.heap.size ∧ p = some ⟨b, off, none⟩ ∧ ∀ k, k < l.length → w.cell? ⟨b, off + k, none⟩ = some (.int .u8 (l.getD k 0 : Nat))
theorem Nb.below {w w' : World} {p : Option Addr} {l : List Nat} (h : Nb w p l) (hb : Below w.heap.size w w') : Nb w' p l :=
  ⟨h.lt, fun h0 => by
    obtain ⟨b, off, h1, h2, h3⟩ := h.c h0
    exact ⟨b, off, Nat.lt_of_lt_of_le h1 hb.size, h2, fun k hk => (hb.cell (p := ⟨b, off + k, none⟩) h1).trans (h3 k hk)⟩⟩
theorem Nb.at_ {w : World} {p : Option Addr} {l : List Nat} (h : Nb w p l) (k : Nat) (hk : k < l.length) : ∃ b off, ∃ x : Nat, b < w.heap.size ∧ p = some ⟨b, off, none⟩ ∧ w.cell? ⟨b, off + k, none⟩ = some (.int .u8 (x : Int)) ∧ x < 256 := by
  obtain ⟨b, off, h1, h2, h3⟩ := h.c (by omega)
  refine ⟨b, off, l.getD k 0, h1, h2, h3 k hk, ?_⟩
  rw [List.getD_eq_getElem?_getD, List.getElem?_eq_getElem hk]
  exact h.lt _ (List.getElem_mem hk)

set_option maxHeartbeats 2000000 in
set_option maxRecDepth 100000 in
theorem all_main (A D : Nat) (p0 : Option Addr) (len cap : Nat) (q0 : List Nat) (w : World) (hA : A < 256) (hD : D < 256) (hz : q0.length = len) (hmx : len ≤ maxLen) (hq : Nb w p0 q0) :
    Calls Try.prog 5 #[.int .u8 A, .slice p0 len cap, .int .u8 D] w fun e w' => e = .returned (.bool true) ∧ Below w.heap.size w w' := by
  have HQ := Lib.hid hq
  have HZ := Lib.hid hz
  unfold maxLen at hmx
  clear hq hz
  go_enter Try.func5, Try.ntmps5
  go_wp2_with fail
  refine (awake_any _).mono ?_
  rintro e w1 ⟨rfl, hb1⟩
  have HB1 : Hid (Below w.heap.size w w1) := Lib.hid hb1
  clear hb1
  go_upto_region 4 with fail
  obtain ⟨n, hn⟩ : ∃ n : Nat, n = A % 4 + 1 := ⟨_, rfl⟩
  have en : (A : Int) % 4 + 1 = (n : Int) := by omega
  rw [en]
  have hn1 : 1 ≤ n := by omega
  have hn4 : n ≤ 4 := by omega
  clear hn en
  have hnew := new_any (n : Int) w1
  have hmn : mayN (n : Int) = true := mayN_iff.2 (by omega)
  have hC : newC (n : Int) = ⟨0, List.replicate n false⟩ := by unfold newC; rw [if_pos hmn]; rfl
  have hX : newX (n : Int) = 0 := by unfold newX; rw [if_pos hmn]
  rw [hC, hX] at hnew
  have hal := Al.begin n
  obtain ⟨E0, hE0⟩ : ∃ E, E = (⟨0, List.replicate n false⟩ : En) := ⟨_, rfl⟩
  rw [← hE0] at hnew hal
  have HAL := Lib.hid hal
  clear hC hX hmn hE0 hal
  go_wp2_with fail
  refine hnew.mono ?_
  clear hnew
  rintro e w2 ⟨v, rfl, ⟨p, n', c, rfl, hcc, hoff⟩, hb⟩
  have HB2 : Hid (Below w.heap.size w w2) := Lib.hid (HB1.out.trans (hb.mono HB1.out.size))
  have HC := Lib.hid hcc
  clear hoff hb hcc HB1
  go_upto_region 5 with fail
  obtain ⟨b, hbe⟩ : ∃ b, b = w2.heap.size := ⟨_, rfl⟩
  obtain ⟨w3, hw3⟩ : ∃ w3, w3 = w2.alloc (.cells #[.int .i64 E0.owner, .slice p n' c] 24) := ⟨_, rfl⟩
  have HV3 : Hid (Var (fun R => R = b) w3 b E0) := Lib.hid (by
    rw [hw3, hbe]
    exact Var.new ⟨_, _, _, rfl, HC.out, fun R hR => HC.out.off (by rw [hR]; exact Nat.le_refl _)⟩)
  have HB3 : Hid (Below w.heap.size w w3) := Lib.hid (by rw [hw3]; exact HB2.out.alloc HB2.out.size _)
  have HBG : Hid (w.heap.size ≤ b) := Lib.hid (by rw [hbe]; exact HB2.out.size)
  rw [← hw3, ← hbe]
  clear hw3 hbe HC HB2
  by_cases hlen : 50 < len
  · have hlenI : decide (50 < (len : Int)) = true := decide_eq_true (by omega)
    clear hlen HAL HV3
    go_wp2_with fail
    go_ret
    exact ⟨rfl, HB3.out⟩
  have hlenI : decide (50 < (len : Int)) = false := decide_eq_false (by omega)
  have hl50 : len ≤ 50 := by omega
  clear hlen
  obtain ⟨i0, hi, hz0, hz1, hz2⟩ := info_parts info4
  have HI := Lib.hid (And.intro hi (And.intro hz0 (And.intro hz1 hz2)))
  clear hi hz0 hz1 hz2
  go_wp2_with (first | (refine wpList_make_full _ rfl _ _ 22 rfl w3.heap.size 4 i0 (.bool false) 1 Try.underlying22 HI.out.1 HI.out.2.1 HI.out.2.2.1 .i64 .i64 n n n rfl rfl rfl rfl (by rw [HI.out.2.2.2]; omega) (by unfold maxLen; omega) (Nat.le_refl _) ?_))
  intro w4 g1 g2
  have e1 : (madeCells #[Value.bool false] n).toList = List.replicate n (.bool false) := toList_madeCells_one _ _
  have HR4 : Hid (w4.ownsRow w3.heap.size 4 1 (.slice (some ⟨w3.heap.size, 0, none⟩) n n) n (boC (List.replicate n false))) := Lib.hid (by rw [← boC_rep, ← e1]; exact g1)
  have HBA : Hid (Below w3.heap.size w3 w4) := Lib.hid ((Below.refl _ _).grown g2 (Nat.le_refl _) (fun k hk => by cases hk))
  have HBL : Hid (b < w3.heap.size) := Lib.hid HV3.out.lt
  have HB4 : Hid (Below w.heap.size w w4) := Lib.hid (HB3.out.trans (HBA.out.mono HB3.out.size))
  obtain ⟨g, hg⟩ : ∃ g, g = w3.heap.size := ⟨_, rfl⟩
  have HV4 : Hid (Var (fun R => R = b ∨ R = g) w4 b E0) := Lib.hid ((HV3.out.later (S' := fun R => R = b ∨ R = g) (fun R hR => hR.elim .inl (fun e => .inr (by rw [e, hg]; exact Nat.le_refl _)))).below HBA.out)
  rw [← hg] at HR4 HBL ⊢
  clear g1 g2 e1 hg HV3 HB3 HBA HI hlenI
  go_wp2_with fail
  go_loopw [10, 12] (fun s10 s12 wr => ∃ i : Nat, i ≤ len ∧ s12 = .int .i64 i ∧ ∃ E F R, s10 = .int .i64 F ∧ Al n E F R i ∧ Var (fun R => R = b ∨ R = g) wr b E ∧ wr.ownsRow g 4 1 (.slice (some ⟨g, 0, none⟩) n n) n (boC R) ∧ Below w.heap.size w wr) (fun _ s _ => len - (intOf s).toNat)
  case atStart => exact ⟨0, Nat.zero_le _, rfl, E0, -1, _, rfl, HAL.out, HV4.out, HR4.out, HB4.out⟩
  case round =>
    clear HAL HV4 HR4 HB4
    obtain ⟨i, hi, rfl, E, F, R, rfl, hal, hv, hr, hb⟩ := hrel
    have HAL := Lib.hid hal
    have HV := Lib.hid hv
    have HR := Lib.hid hr
    have HB := Lib.hid hb
    clear hal hv hr hb
    by_cases hlt : i < len
    · have hltI : decide ((i : Int) < len) = true := decide_eq_true (by omega)
      obtain ⟨bq, off, x, hbq, rfl, hcq, hx⟩ := HQ.out.at_ i (by rw [HZ.out]; omega)
      have hcx := (HB.out.cell (p := ⟨bq, off + i, none⟩) hbq).trans hcq
      have hwx : IntKind.i64.wrap (x : Int) = (x : Int) := by rw [IntKind.wrap_i64]; omega
      have hn0 : ¬ n = 0 := by omega
      obtain ⟨k, hk⟩ : ∃ k : Nat, k = x % n := ⟨_, rfl⟩
      have htm : (x : Int).tmod (n : Int) = (k : Int) := by rw [hk]; rfl
      have htm2 : (x : Int) % (n : Int) = (k : Int) := by rw [hk]; rfl
      have hkn : k < n := by rw [hk]; exact Nat.mod_lt _ (by omega)
      clear hcq hbq hk
      obtain ⟨pe, ne, ce, hke, heo, hec⟩ := HV.out.eo
      have HKE := Lib.hid hke
      have HEO := Lib.hid heo
      have HVB : Hid (b < wr.heap.size ∧ g < wr.heap.size) := Lib.hid ⟨hke.lt, (HR.out.lt g rfl).2⟩
      clear hke heo hec HV
      have kE := HKE.out.c
      rcases HAL.out.neg with hneg | hneg
      · obtain ⟨hi0, hF⟩ := hneg
        have hF0 : decide (F < 0) = true := decide_eq_true (by omega)
        obtain ⟨hal2, e1, e2, e3⟩ := HAL.out.first hn1 hn4 hkn hi0
        have hip : decide (0 < (i : Int)) = false := decide_eq_false (by omega)
        have hip2 : decide (0 < i) = false := decide_eq_false (by omega)
        have hiz : ((i : Int) == 0) = true := by simp; omega
        have hiz2 : (i == 0) = true := by simp; omega
        have hip3 : ¬ 0 < i := by omega
        have hkk : wrap64 ((k : Int) + 1) = (k : Int) + 1 := by unfold wrap64; omega
        have HAL2 := Lib.hid hal2
        have hq := fun W (hb : Below wr.heap.size wr W) => read_any (fun R => R = b ∨ R = g) _ E (k : Int) W (HEO.out.below hb) (fun R hR => hR.elim (fun e => by rw [e]; exact Nat.lt_of_lt_of_le HVB.out.1 hb.size) (fun e => by rw [e]; exact Nat.lt_of_lt_of_le HVB.out.2 hb.size))
        rw [e2, e3] at hq
        have HOW := Lib.hid e1
        obtain ⟨E', hE'⟩ : ∃ z, z = readC E (k : Int) := ⟨_, rfl⟩
        rw [← hE'] at hq HOW HAL2
        have HQ2 := Lib.hid (hq wr (Below.refl _ _))
        clear e1 e2 e3 hE' hq hal2 hF HAL hi0
        go_upto_region 15 with fail
        go_wp2_with fail
        refine HQ2.out.mono ?_
        clear HQ2
        rintro e w5 ⟨v, rfl, ⟨p2, n2, c2, rfl, hcc, hoff⟩, hb⟩
        have HR5 := Lib.hid (own_below HR.out hb)
        have HB5 : Hid (Below w.heap.size w w5) := Lib.hid (HB.out.trans (hb.mono HB.out.size))
        have HE5 : Hid (Eo (fun R => R = b ∨ R = g) w5 (.agg #[.int .i64 E'.owner, .slice p2 n2 c2]) E') := Lib.hid ⟨_, _, _, rfl, hcc, hoff⟩
        have HK5 := Lib.hid (HKE.out.below hb)
        clear hcc hoff hb kE HKE HEO HR HB hcx
        go_upto_region 16 with fail
        obtain ⟨bd, hbd⟩ : ∃ z, z = w5.heap.size := ⟨_, rfl⟩
        obtain ⟨w6, hw6⟩ : ∃ z, z = w5.alloc (.cells #[.int .i64 E'.owner, .slice p2 n2 c2] 24) := ⟨_, rfl⟩
        have HBA : Hid (Below w5.heap.size w5 w6) := Lib.hid (by rw [hw6]; exact (Below.refl _ _).alloc (Nat.le_refl _) _)
        have HD6 : Hid (Blk w6 bd #[.int .i64 E'.owner, .slice p2 n2 c2]) := Lib.hid (by rw [hw6, hbd]; exact Blk.new _ _ _)
        have HE6 := Lib.hid (HE5.out.below HBA.out)
        have HR6 := Lib.hid (own_below HR5.out HBA.out)
        have HK6 := Lib.hid (HK5.out.below HBA.out)
        have HB6 : Hid (Below w.heap.size w w6) := Lib.hid (HB5.out.trans (HBA.out.mono HB5.out.size))
        have HNE : Hid (bd ≠ b ∧ bd ≠ g) := Lib.hid (by have h1 := HK5.out.lt; have h2 := (HR5.out.lt g rfl).2; omega)
        rw [← hw6, ← hbd]
        clear hw6 hbd HR5 HB5 HE5 HK5 HBA
        have kd := HD6.out.c
        rw [HOW.out] at kd
        clear hltI htm htm2 hwx
        have eO : ((k : Int) + 1 != (k : Int) + 1) = false := by simp
        go_upto_region 18 with fail
        clear eO kd
        have hkI : (k : Int) < (n : Int) := by omega
        have hcg : ∃ u, w6.cell? ⟨g, k, none⟩ = some u := ⟨_, (HR6.out.cellAt k (by omega)).trans (List.getElem?_eq_getElem (by rw [boC_len, HAL2.out.1.symm.trans (List.length_set ..) |>.symm]; exact hkn))⟩
        obtain ⟨u, hu⟩ := hcg
        have hfz := HR6.out.frozenAt k
        obtain ⟨w7, hw7⟩ : ∃ z, z = w6.setCell ⟨g, k, none⟩ (.bool true) := ⟨_, rfl⟩
        have HR7 : Hid (w7.ownsRow g 4 1 (.slice (some ⟨g, 0, none⟩) n n) n (boC (R.set k true))) := Lib.hid (by rw [hw7, ← boC_set]; exact (HR6.out.stored k (.bool true)).1)
        have HD7 : Hid (Blk w7 bd #[.int .i64 E'.owner, .slice p2 n2 c2]) := Lib.hid (by rw [hw7]; exact HD6.out.other _ (fun e => HNE.out.2 e.symm))
        have HK7 := Lib.hid (HK6.out.other (B' := g) (n := k) (.bool true) (by have := HBL.out; omega))
        have HE7 : Hid (Eo (fun R => R = b ∨ R = g) w7 (.agg #[.int .i64 E'.owner, .slice p2 n2 c2]) E') := Lib.hid (by rw [hw7]; exact HE6.out.set (.inr rfl) _ _)
        have HB7 : Hid (Below w.heap.size w w7) := Lib.hid (by rw [hw7]; exact HB6.out.setCell (p := ⟨g, k, none⟩) (by show w.heap.size ≤ g; have := HBG.out; have := HBL.out; omega) _)
        rw [← hw7] at HK7
        go_upto_region 19 with fail
        rw [← hw7]
        clear hw7 hu hfz HR6 HD6 HK6 HE6 HB6
        have kd := HD7.out.c
        have kb := HK7.out.c
        have fb := HK7.out.f
        have lb := HK7.out.lt
        go_upto_region 11 with fail
        obtain ⟨w8, hw8⟩ : ∃ z, z = (w7.setCell ⟨b, 0, none⟩ (.int .i64 E'.owner)).setCell ⟨b, 1, none⟩ (.slice p2 n2 c2) := ⟨_, rfl⟩
        have HV8 : Hid (Var (fun R => R = b ∨ R = g) w8 b E') := Lib.hid (by rw [hw8]; exact Var.put HK7.out HE7.out (.inl rfl))
        have HR8 : Hid (w8.ownsRow g 4 1 (.slice (some ⟨g, 0, none⟩) n n) n (boC (R.set k true))) := Lib.hid (by rw [hw8]; exact own_off (own_off HR7.out (fun b' e => by injection e with e; have e2 : g = b' := e; have := HBL.out; omega) _ _) (fun b' e => by injection e with e; have e2 : g = b' := e; have := HBL.out; omega) _ _)
        have HB8 : Hid (Below w.heap.size w w8) := Lib.hid (by rw [hw8]; exact set2_below HB7.out HBG.out _ _)
        rw [← hw8]
        clear hw8 kd kb fb lb HD7 HK7 HE7 HB7 HR7
        go_wp2_with fail
        go_roundw
        case rel => exact ⟨i + 1, by omega, by go_num, E', (k : Int), _, rfl, HAL2.out, HV8.out, HR8.out, HB8.out⟩
        case measure => simp [intOf]; omega
      · obtain ⟨hi0, hF⟩ := hneg
        have hF0 : decide (F < 0) = false := decide_eq_false (by omega)
        obtain ⟨hal2, e1, e2, e3⟩ := HAL.out.next hn1 hn4 hkn hi0
        have hFn : F < 4 := by
          obtain ⟨_, _, ⟨h1, _⟩ | ⟨_, f, h1, h2, _⟩⟩ := HAL.out
          · omega
          · omega
        have hkk : wrap64 (F + 1) = F + 1 := by unfold wrap64; omega
        have hip : decide (0 < (i : Int)) = true := decide_eq_true (by omega)
        have hip2 : decide (0 < i) = true := decide_eq_true (by omega)
        have hiz : ((i : Int) == 0) = false := by simp; omega
        have hiz2 : (i == 0) = false := by simp; omega
        have hip3 : 0 < i := by omega
        have HAL2 := Lib.hid hal2
        have hq := fun W (hb : Below wr.heap.size wr W) => read_any (fun R => R = b ∨ R = g) _ E (k : Int) W (HEO.out.below hb) (fun R hR => hR.elim (fun e => by rw [e]; exact Nat.lt_of_lt_of_le HVB.out.1 hb.size) (fun e => by rw [e]; exact Nat.lt_of_lt_of_le HVB.out.2 hb.size))
        rw [e2, e3] at hq
        have HOW := Lib.hid e1
        obtain ⟨E', hE'⟩ : ∃ z, z = readC E (k : Int) := ⟨_, rfl⟩
        rw [← hE'] at hq HOW HAL2
        have HQ2 := Lib.hid (hq wr (Below.refl _ _))
        clear e1 e2 e3 hE' hq hal2 hF HAL hi0
        go_upto_region 15 with fail
        go_wp2_with fail
        refine HQ2.out.mono ?_
        clear HQ2
        rintro e w5 ⟨v, rfl, ⟨p2, n2, c2, rfl, hcc, hoff⟩, hb⟩
        have HR5 := Lib.hid (own_below HR.out hb)
        have HB5 : Hid (Below w.heap.size w w5) := Lib.hid (HB.out.trans (hb.mono HB.out.size))
        have HE5 : Hid (Eo (fun R => R = b ∨ R = g) w5 (.agg #[.int .i64 E'.owner, .slice p2 n2 c2]) E') := Lib.hid ⟨_, _, _, rfl, hcc, hoff⟩
        have HK5 := Lib.hid (HKE.out.below hb)
        clear hcc hoff hb kE HKE HEO HR HB hcx
        go_upto_region 16 with fail
        obtain ⟨bd, hbd⟩ : ∃ z, z = w5.heap.size := ⟨_, rfl⟩
        obtain ⟨w6, hw6⟩ : ∃ z, z = w5.alloc (.cells #[.int .i64 E'.owner, .slice p2 n2 c2] 24) := ⟨_, rfl⟩
        have HBA : Hid (Below w5.heap.size w5 w6) := Lib.hid (by rw [hw6]; exact (Below.refl _ _).alloc (Nat.le_refl _) _)
        have HD6 : Hid (Blk w6 bd #[.int .i64 E'.owner, .slice p2 n2 c2]) := Lib.hid (by rw [hw6, hbd]; exact Blk.new _ _ _)
        have HE6 := Lib.hid (HE5.out.below HBA.out)
        have HR6 := Lib.hid (own_below HR5.out HBA.out)
        have HK6 := Lib.hid (HK5.out.below HBA.out)
        have HB6 : Hid (Below w.heap.size w w6) := Lib.hid (HB5.out.trans (HBA.out.mono HB5.out.size))
        have HNE : Hid (bd ≠ b ∧ bd ≠ g) := Lib.hid (by have h1 := HK5.out.lt; have h2 := (HR5.out.lt g rfl).2; omega)
        rw [← hw6, ← hbd]
        clear hw6 hbd HR5 HB5 HE5 HK5 HBA
        have kd := HD6.out.c
        rw [HOW.out] at kd
        clear hltI htm htm2 hwx
        have eO : (F + 1 != F + 1) = false := by simp
        go_upto_region 18 with fail
        clear eO kd
        have hkI : (k : Int) < (n : Int) := by omega
        have hcg : ∃ u, w6.cell? ⟨g, k, none⟩ = some u := ⟨_, (HR6.out.cellAt k (by omega)).trans (List.getElem?_eq_getElem (by rw [boC_len, HAL2.out.1.symm.trans (List.length_set ..) |>.symm]; exact hkn))⟩
        obtain ⟨u, hu⟩ := hcg
        have hfz := HR6.out.frozenAt k
        obtain ⟨w7, hw7⟩ : ∃ z, z = w6.setCell ⟨g, k, none⟩ (.bool true) := ⟨_, rfl⟩
        have HR7 : Hid (w7.ownsRow g 4 1 (.slice (some ⟨g, 0, none⟩) n n) n (boC (R.set k true))) := Lib.hid (by rw [hw7, ← boC_set]; exact (HR6.out.stored k (.bool true)).1)
        have HD7 : Hid (Blk w7 bd #[.int .i64 E'.owner, .slice p2 n2 c2]) := Lib.hid (by rw [hw7]; exact HD6.out.other _ (fun e => HNE.out.2 e.symm))
        have HK7 := Lib.hid (HK6.out.other (B' := g) (n := k) (.bool true) (by have := HBL.out; omega))
        have HE7 : Hid (Eo (fun R => R = b ∨ R = g) w7 (.agg #[.int .i64 E'.owner, .slice p2 n2 c2]) E') := Lib.hid (by rw [hw7]; exact HE6.out.set (.inr rfl) _ _)
        have HB7 : Hid (Below w.heap.size w w7) := Lib.hid (by rw [hw7]; exact HB6.out.setCell (p := ⟨g, k, none⟩) (by show w.heap.size ≤ g; have := HBG.out; have := HBL.out; omega) _)
        rw [← hw7] at HK7
        go_upto_region 19 with fail
        rw [← hw7]
        clear hw7 hu hfz HR6 HD6 HK6 HE6 HB6
        have kd := HD7.out.c
        have kb := HK7.out.c
        have fb := HK7.out.f
        have lb := HK7.out.lt
        go_upto_region 11 with fail
        obtain ⟨w8, hw8⟩ : ∃ z, z = (w7.setCell ⟨b, 0, none⟩ (.int .i64 E'.owner)).setCell ⟨b, 1, none⟩ (.slice p2 n2 c2) := ⟨_, rfl⟩
        have HV8 : Hid (Var (fun R => R = b ∨ R = g) w8 b E') := Lib.hid (by rw [hw8]; exact Var.put HK7.out HE7.out (.inl rfl))
        have HR8 : Hid (w8.ownsRow g 4 1 (.slice (some ⟨g, 0, none⟩) n n) n (boC (R.set k true))) := Lib.hid (by rw [hw8]; exact own_off (own_off HR7.out (fun b' e => by injection e with e; have e2 : g = b' := e; have := HBL.out; omega) _ _) (fun b' e => by injection e with e; have e2 : g = b' := e; have := HBL.out; omega) _ _)
        have HB8 : Hid (Below w.heap.size w w8) := Lib.hid (by rw [hw8]; exact set2_below HB7.out HBG.out _ _)
        rw [← hw8]
        clear hw8 kd kb fb lb HD7 HK7 HE7 HB7 HR7
        go_wp2_with fail
        go_roundw
        case rel => exact ⟨i + 1, by omega, by go_num, E', F, _, rfl, HAL2.out, HV8.out, HR8.out, HB8.out⟩
        case measure => simp [intOf]; omega
    · have hltI : decide ((i : Int) < len) = false := decide_eq_false (by omega)
      obtain rfl : i = len := by omega
      clear hlt
      go_upto_region 20 with fail
      have hwx : IntKind.i64.wrap (D : Int) = (D : Int) := by rw [IntKind.wrap_i64]; omega
      have hn0 : ¬ n = 0 := by omega
      obtain ⟨k, hk⟩ : ∃ k : Nat, k = D % n := ⟨_, rfl⟩
      have htm : (D : Int).tmod (n : Int) = (k : Int) := by rw [hk]; rfl
      have htm2 : (D : Int) % (n : Int) = (k : Int) := by rw [hk]; rfl
      have hkn : k < n := by rw [hk]; exact Nat.mod_lt _ (by omega)
      clear hk
      obtain ⟨pe, ne, ce, hke, heo, hec⟩ := HV.out.eo
      have HKE := Lib.hid hke
      have HEO := Lib.hid heo
      have HVB : Hid (b < wr.heap.size ∧ g < wr.heap.size) := Lib.hid ⟨hke.lt, (HR.out.lt g rfl).2⟩
      clear hke heo hec HV
      have kE := HKE.out.c
      obtain ⟨wv, hwv⟩ : ∃ z, z = wr := ⟨_, rfl⟩
      rw [← hwv] at HKE HEO HVB kE HR HB ⊢
      clear hwv
      obtain ⟨e1, e2, e3, e4, e5⟩ := HAL.out.write hn1 hn4 hkn
      have hq := write_any (fun R => R = b ∨ R = g) _ E (k : Int) wv HEO.out (fun R hR => hR.elim (fun e => e ▸ HVB.out.1) (fun e => e ▸ HVB.out.2))
      rw [e2, e3, e4] at hq
      have HOW := Lib.hid e1
      have HLO := Lib.hid e5
      have HMA := Lib.hid (fun c hc => HAL.out.many (k : Int) c hc)
      obtain ⟨E', hE'⟩ : ∃ z, z = writeC E (k : Int) := ⟨_, rfl⟩
      rw [← hE'] at hq HOW HLO
      obtain ⟨L, hL⟩ : ∃ L, L = E.share := ⟨_, rfl⟩
      rw [← hL] at hq HMA
      have HQ2 := Lib.hid hq
      have HRL : Hid (R.length = n) := Lib.hid HAL.out.1
      have HWF : Hid (wrap64 (F + 1) = F + 1) := Lib.hid (by
        obtain ⟨_, _, ⟨_, h1, _⟩ | ⟨_, f, h1, h2, _⟩⟩ := HAL.out
        · unfold wrap64; omega
        · unfold wrap64; omega)
      clear e1 e2 e3 e4 e5 hE' hL hq HAL
      go_upto_region 21 with fail
      go_wp2_with fail
      refine HQ2.out.mono ?_
      clear HQ2
      rintro e w5 ⟨v, q, d, rfl, ⟨p2, n2, c2, rfl, hcc, hoff⟩, hsq, -, -, hb⟩
      have HR5 := Lib.hid (own_below HR.out hb)
      have HB5 : Hid (Below w.heap.size w w5) := Lib.hid (HB.out.trans (hb.mono HB.out.size))
      have HC5 := Lib.hid hcc
      clear hcc hoff hsq hb kE HKE HEO HR HB
      go_upto_region 22 with fail
      obtain ⟨bd, hbd⟩ : ∃ z, z = w5.heap.size := ⟨_, rfl⟩
      obtain ⟨w6, hw6⟩ : ∃ z, z = w5.alloc (.cells #[.int .i64 E'.owner, .slice p2 n2 c2] 24) := ⟨_, rfl⟩
      have HBA : Hid (Below w5.heap.size w5 w6) := Lib.hid (by rw [hw6]; exact (Below.refl _ _).alloc (Nat.le_refl _) _)
      have HV6 : Hid (Var (fun _ => False) w6 bd E') := Lib.hid (by rw [hw6, hbd]; exact Var.new ⟨_, _, _, rfl, HC5.out, fun R hR => hR.elim⟩)
      have HR6 := Lib.hid (own_below HR5.out HBA.out)
      have HB6 : Hid (Below w.heap.size w w6) := Lib.hid (HB5.out.trans (HBA.out.mono HB5.out.size))
      rw [← hw6, ← hbd]
      clear hw6 hbd HR5 HB5 HC5 HBA
      obtain ⟨pd, nd, cd, hkd, hed, -⟩ := HV6.out.eo
      have HKD := Lib.hid hkd
      have HED := Lib.hid hed
      clear hkd hed HV6
      rw [HOW.out] at HKD HED
      go_wp2_with fail
      go_loopw [22, 23] (fun s22 s23 wz => wz = w6 ∧ ∃ c : Nat, c ≤ n ∧ s23 = .int .i64 c ∧ s22 = .int .i64 ((oth L (k : Int) c).length : Nat)) (fun _ s _ => n - (intOf s).toNat)
      case atStart => exact ⟨rfl, 0, Nat.zero_le _, rfl, rfl⟩
      case round =>
        obtain ⟨hwz, c, hc, rfl, rfl⟩ := hrel
        have hwz2 := hwz.symm
        subst hwz2
        by_cases hcn : c < n
        · have hcI : (c : Int) < (n : Int) := by omega
          have hcell : w6.cell? ⟨g, c, none⟩ = some (.bool (R.getD c false)) := (HR6.out.cellAt c (by omega)).trans (boC_at R c (by rw [HRL.out]; exact hcn))
          have hm := HMA.out c hcn
          have hs := oth_succ L (k : Int) c
          have hle := oth_le L (k : Int) c
          rw [hm] at hs
          obtain ⟨x, hx⟩ : ∃ x, x = R.getD c false := ⟨_, rfl⟩
          rw [← hx] at hcell hs
          obtain ⟨m, hmm⟩ : ∃ m, m = (oth L (k : Int) c).length := ⟨_, rfl⟩
          have HS : Hid ((oth L (k : Int) (c + 1)).length = m + (if (x && (decide ((c : Int) ≠ (k : Int)) && decide ((c : Int) ≠ F))) then 1 else 0)) := Lib.hid (by
            rw [hs, List.length_append, ← hmm]
            congr 1
            split <;> rfl)
          rw [← hmm] at hle ⊢
          clear hm hs hx hmm
          cases x with
          | false =>
            have HS2 : Hid ((oth L (k : Int) (c + 1)).length = m) := Lib.hid (by rw [HS.out]; rfl)
            go_wp2_with fail
            go_roundw
            case rel => exact ⟨trivial, c + 1, by omega, by go_num, by rw [HS2.out]⟩
            case measure => simp [intOf]; omega
          | true =>
            by_cases h1 : (c : Int) = (k : Int)
            · have d1 : ((c : Int) != (k : Int)) = false := by simp [h1]
              have HS2 : Hid ((oth L (k : Int) (c + 1)).length = m) := Lib.hid (by rw [HS.out, decide_eq_false (fun h => h h1)]; rfl)
              clear h1
              go_wp2_with fail
              go_roundw
              case rel => exact ⟨trivial, c + 1, by omega, by go_num, by rw [HS2.out]⟩
              case measure => simp [intOf]; omega
            · have d1 : ((c : Int) != (k : Int)) = true := by simpa using h1
              by_cases h2 : (c : Int) = F
              · have d2 : ((c : Int) != F) = false := by simp [h2]
                have HS2 : Hid ((oth L (k : Int) (c + 1)).length = m) := Lib.hid (by rw [HS.out, decide_eq_false (p := (c : Int) ≠ F) (fun h => h h2), Bool.and_false]; rfl)
                clear h1 h2
                go_wp2_with fail
                go_roundw
                case rel => exact ⟨trivial, c + 1, by omega, by go_num, by rw [HS2.out]⟩
                case measure => simp [intOf]; omega
              · have d2 : ((c : Int) != F) = true := by simpa using h2
                have HS2 : Hid ((oth L (k : Int) (c + 1)).length = m + 1) := Lib.hid (by rw [HS.out, decide_eq_true (p := (c : Int) ≠ F) h2, decide_eq_true (p := (c : Int) ≠ (k : Int)) h1]; rfl)
                clear h1 h2
                go_wp2_with fail
                go_roundw
                case rel => exact ⟨trivial, c + 1, by omega, by go_num, by rw [HS2.out]; go_num⟩
                case measure => simp [intOf]; omega
        · obtain rfl : c = n := by omega
          have hcI : decide ((c : Int) < (c : Int)) = false := decide_eq_false (by omega)
          obtain ⟨m, hmm⟩ : ∃ m, m = (oth L (k : Int) c).length := ⟨_, rfl⟩
          have eM : ((m : Int) == (m : Int)) = true := by simp
          have hk1 : wrap64 ((k : Int) + 1) = (k : Int) + 1 := by unfold wrap64; omega
          have eK : ((k : Int) + 1 == (k : Int) + 1) = true := by simp
          have hF2 := HWF.out
          have eF : (F + 1 == F + 1) = true := by simp
          rw [← hmm]
          clear hmm
          have ha := alone_any (fun _ => False) _ E' w6 HED.out
          rw [HLO.out] at ha
          have kd := HKD.out.c
          go_wp2_with fail
          refine ha.mono ?_
          rintro e w7 ⟨rfl, hb⟩
          have HB7 : Hid (Below w.heap.size w w7) := Lib.hid (HB6.out.trans (hb.mono HB6.out.size))
          clear hb ha
          go_wp2_with fail
          go_ret
          exact ⟨rfl, HB7.out⟩
end Go.Proofs.Ythkpoiaakggimaa
