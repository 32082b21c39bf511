/- The document's own Same, of banks that read alike, and Short; no condition but that the banks read. -/
import Derived.Test.YtkeemmedbbammaaParT
namespace Go.Proofs.Ytkeemmedbbammaa
set_option linter.unusedVariables false
open Go.ChangeShapes Go.WideShapes Go.ChangeAt Go.RowKit

set_option maxHeartbeats 8000000 in
theorem same_any (p : Option Addr) (n c : Nat) (xs : List Value) (pp : Option Addr) (m cc : Nat) (p' : Option Addr) (n' c' : Nat) (xs' : List Value) (pp' : Option Addr) (m' cc' : Nat) (B : Bk) (w : World) (h : Bn w p n c xs pp m cc B) (h' : Bn w p' n' c' xs' pp' m' cc' B) :
    Calls Try.prog 12 #[.agg #[.slice p n c, .slice pp m cc, .int .i64 B.lost], .agg #[.slice p' n' c', .slice pp' m' cc', .int .i64 B.lost]] w fun e w' => e = .returned (.bool true) ∧ Below w.heap.size w w' := by
  have hnn : n' = n := by rw [← h.zn, ← h'.zn]
  have hmm : m' = m := by rw [← h.zm, ← h'.zm]
  subst hnn hmm
  have hn := h.n100
  have hm := h.m100
  obtain ⟨z, hz⟩ : ∃ z, z = B.lost := ⟨_, rfl⟩
  rw [← hz]
  have HBW0 : Hid (Below w.heap.size w ((w.alloc (.cells #[.slice p n' c, .slice pp m' cc, .int .i64 z] 25)).alloc (.cells #[.slice p' n' c', .slice pp' m' cc', .int .i64 z] 25))) := Lib.hid (((Below.refl _ _).alloc (Nat.le_refl _) _).alloc (by simp) _)
  have HK1 : Hid (Blk ((w.alloc (.cells #[.slice p n' c, .slice pp m' cc, .int .i64 z] 25)).alloc (.cells #[.slice p' n' c', .slice pp' m' cc', .int .i64 z] 25)) w.heap.size #[.slice p n' c, .slice pp m' cc, .int .i64 z]) := Lib.hid ((Blk.new _ _ _).alloc _)
  have HK2 : Hid (Blk ((w.alloc (.cells #[.slice p n' c, .slice pp m' cc, .int .i64 z] 25)).alloc (.cells #[.slice p' n' c', .slice pp' m' cc', .int .i64 z] 25)) (w.heap.size + 1) #[.slice p' n' c', .slice pp' m' cc', .int .i64 z]) := Lib.hid (by
    have := Blk.new (w.alloc (.cells #[.slice p n' c, .slice pp m' cc, .int .i64 z] 25)) #[.slice p' n' c', .slice pp' m' cc', .int .i64 z] 25
    rwa [size_new] at this)
  have HH := Lib.hid (h.below HBW0.out)
  have HH' := Lib.hid (h'.below HBW0.out)
  have HZN : Hid (B.rows.length = n') := Lib.hid h.zn
  have HZM : Hid (B.par.length = m') := Lib.hid h.zm
  clear h h' hz
  go_enter Try.func12, Try.ntmps12
  have hz1 : (z != z) = false := by simp
  go_wp2_with fail
  obtain ⟨W, hW⟩ : ∃ W, W = (w.alloc (.cells #[.slice p n' c, .slice pp m' cc, .int .i64 z] 25)).alloc (.cells #[.slice p' n' c', .slice pp' m' cc', .int .i64 z] 25) := ⟨_, rfl⟩
  rw [← hW] at HBW0 HK1 HK2 HH HH' ⊢
  clear hW hz1
  go_loopw [5] (fun i wr => ∃ k : Nat, k ≤ m' ∧ i = .int .i64 k ∧ Below W.heap.size W wr) (fun i _ => m' - (intOf i).toNat)
  case atStart => exact ⟨0, Nat.zero_le _, rfl, Below.refl _ _⟩
  case round =>
    obtain ⟨k, hk, rfl, hb⟩ := hrel
    have HB := Lib.hid hb
    have c1 := (HK1.out.below hb).c
    have c2 := (HK2.out.below hb).c
    clear hb
    by_cases hlt : k < m'
    · have hltI : decide ((k : Int) < m') = true := decide_eq_true (by omega)
      obtain ⟨b1, o1, hb1, rfl, hc1⟩ := HH.out.nm.cellAt k (by rw [HZM.out]; exact hlt)
      obtain ⟨b2, o2, hb2, rfl, hc2⟩ := HH'.out.nm.cellAt k (by rw [HZM.out]; exact hlt)
      have k1 := (HB.out.cell (p := ⟨b1, o1 + k, none⟩) hb1).trans hc1
      have k2 := (HB.out.cell (p := ⟨b2, o2 + k, none⟩) hb2).trans hc2
      obtain ⟨x, hx⟩ : ∃ x, x = B.par.getD k 0 := ⟨_, rfl⟩
      rw [← hx] at k1 k2
      have e1 : ((x : Int) != (x : Int)) = false := by simp
      clear hx hb1 hb2 hc1 hc2
      go_wp2_with fail
      go_quiet (fail)
      go_wp2
      go_roundw
      case rel => exact ⟨k + 1, by omega, by go_num, below_drewN HB.out _⟩
      case measure => simp [intOf]; omega
    · have hltI : decide ((k : Int) < m') = false := decide_eq_false (by omega)
      go_wp2_with fail
      obtain ⟨V, hV⟩ : ∃ V, V = wr := ⟨_, rfl⟩
      rw [← hV] at HB ⊢
      have HHV := Lib.hid (HH.out.below HB.out)
      have HHV' := Lib.hid (HH'.out.below HB.out)
      have HK1V := Lib.hid (HK1.out.below HB.out)
      have HK2V := Lib.hid (HK2.out.below HB.out)
      have HBV : Hid (Below w.heap.size w V) := Lib.hid (HBW0.out.trans (HB.out.mono HBW0.out.size))
      clear hV c1 c2 HB HH HH' HK1 HK2 hlt hltI hk
      go_loopw [6] (fun i wr => ∃ k : Nat, k ≤ n' ∧ i = .int .i64 k ∧ Below V.heap.size V wr) (fun i _ => n' - (intOf i).toNat)
      case atStart => exact ⟨0, Nat.zero_le _, rfl, Below.refl _ _⟩
      case round =>
        obtain ⟨k, hk, rfl, hb⟩ := hrel
        have HB := Lib.hid hb
        have c1 := (HK1V.out.below hb).c
        have c2 := (HK2V.out.below hb).c
        clear hb
        by_cases hlt : k < n'
        · have hltI : decide ((k : Int) < n') = true := decide_eq_true (by omega)
          have hkI : (0 : Int) ≤ (k : Int) := by omega
          have hkI2 : (k : Int) < (n' : Int) := by omega
          obtain ⟨b1, o1, q1, x1, d1, rfl, hrow1⟩ := HHV.out.rw_.rowAt k (by rw [HZN.out]; exact hlt)
          obtain ⟨b2, o2, q2, x2, d2, rfl, hrow2⟩ := HHV'.out.rw_.rowAt k (by rw [HZN.out]; exact hlt)
          have hxx : x2 = x1 := by rw [← hrow1.len, ← hrow2.len]
          subst hxx
          have HR1 := Lib.hid hrow1
          have HR2 := Lib.hid hrow2
          have k1 := (hrow1.below HB.out).cell
          have k2 := (hrow2.below HB.out).cell
          have hx100 := hrow1.x100
          obtain ⟨l, hl⟩ : ∃ l, l = B.rows.getD k [] := ⟨_, rfl⟩
          rw [← hl] at HR1 HR2
          have e1 : ((x2 : Int) != (x2 : Int)) = false := by simp
          clear hrow1 hrow2 hl
          go_wp2_with fail
          go_quiet (fail)
          go_wp2_with fail
          obtain ⟨U, hU⟩ : ∃ U, U = wr := ⟨_, rfl⟩
          rw [← hU] at HB k1 k2 c1 c2 ⊢
          clear hU
          go_loopw [7] (fun i wr => ∃ j : Nat, j ≤ x2 ∧ i = .int .i64 j ∧ Below V.heap.size V wr) (fun i _ => x2 - (intOf i).toNat)
          case atStart => exact ⟨0, Nat.zero_le _, rfl, below_drewN HB.out _⟩
          case round =>
            obtain ⟨j, hj, rfl, hb⟩ := hrel
            have HBJ := Lib.hid hb
            clear hb c1 c2 k1 k2 HB
            have c1 := (HK1V.out.below HBJ.out).c
            have c2 := (HK2V.out.below HBJ.out).c
            have k1 := (HR1.out.below HBJ.out).cell
            have k2 := (HR2.out.below HBJ.out).cell
            by_cases hjl : j < x2
            · have hjlI : decide ((j : Int) < x2) = true := decide_eq_true (by omega)
              obtain ⟨a1, f1, ha1, rfl, hd1⟩ := HR1.out.nm.cellAt j (by rw [HR1.out.len]; exact hjl)
              obtain ⟨a2, f2, ha2, rfl, hd2⟩ := HR2.out.nm.cellAt j (by rw [HR2.out.len]; exact hjl)
              have k3 := (HBJ.out.cell (p := ⟨a1, f1 + j, none⟩) ha1).trans hd1
              have k4 := (HBJ.out.cell (p := ⟨a2, f2 + j, none⟩) ha2).trans hd2
              obtain ⟨x, hx⟩ : ∃ x, x = l.getD j 0 := ⟨_, rfl⟩
              rw [← hx] at k3 k4
              have e2 : ((x : Int) != (x : Int)) = false := by simp
              have hjI : (0 : Int) ≤ (j : Int) := by omega
              clear hx ha1 ha2 hd1 hd2
              go_wp2_with fail
              go_quiet (fail)
              go_wp2
              go_roundw
              case rel => exact ⟨j + 1, by omega, by go_num, below_drewN HBJ.out _⟩
              case measure => simp [intOf]; omega
            · have hjlI : decide ((j : Int) < x2) = false := decide_eq_false (by omega)
              go_wp2_with fail
              go_roundw
              case rel => exact ⟨k + 1, by omega, by go_num, HBJ.out⟩
              case measure => simp [intOf]; omega
        · have hltI : decide ((k : Int) < n') = false := decide_eq_false (by omega)
          go_wp2_with fail
          go_ret
          exact ⟨rfl, HBV.out.trans (HB.out.mono HBV.out.size)⟩
end Go.Proofs.Ytkeemmedbbammaa
