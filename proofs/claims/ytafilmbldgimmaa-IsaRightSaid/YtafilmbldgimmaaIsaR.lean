/- The walk of IsaRight: for every instruction, number and list of programs the statement answers true, and writes nothing that was there. -/
import Derived.Test.YtafilmbldgimmaaRefRight
import Derived.Test.YtafilmbldgimmaaAwake
import Derived.Deep.RegionHeld3
import Derived.StillTactics
namespace Go.Proofs.Ytafilmbldgimmaa.isaRight
open Go.ChangeShapes Go.WideShapes Go.ChangeAt Go.RowKit

/-- What stays through the whole of the statement: what was there, the instruction's own block, the programs. -/
structure Kept (w0 : World) (x : I5) (p : Option Addr) (ls : List (List I5)) (w : World) : Prop where
  below : Below w0.heap.size w0 w
  more : w0.heap.size < w.heap.size
  lies : Lies w w0.heap.size 0 x
  prgs : Prgs w p ls
theorem Kept.step {w0 w w' : World} {x : I5} {p : Option Addr} {ls : List (List I5)} (h : Kept w0 x p ls w) (hb : Below w.heap.size w w') : Kept w0 x p ls w' :=
  ⟨h.below.trans (hb.mono h.below.size), Nat.lt_of_lt_of_le h.more hb.size, h.lies.below hb h.more, h.prgs.below hb⟩
theorem Kept.drew {w0 w : World} {x : I5} {p : Option Addr} {ls : List (List I5)} (h : Kept w0 x p ls w) : Kept w0 x p ls w.drew := h.step (Below.refl _ _).drew
theorem Kept.new (w : World) (x : I5) (p : Option Addr) (ls : List (List I5)) (k0 : 0 ≤ x.k) (k1 : x.k ≤ 4294967295) (h : Prgs w p ls) (t : TypeId) : Kept w x p ls (w.alloc (.cells x.row t)) := by
  have hb : Below w.heap.size w (w.alloc (.cells x.row t)) := (Below.refl _ _).alloc (Nat.le_refl _) _
  exact ⟨hb, by simp, ⟨World.cell?_alloc_new w x.row t 0, World.cell?_alloc_new w x.row t 1, World.cell?_alloc_new w x.row t 2, World.cell?_alloc_new w x.row t 3, World.cell?_alloc_new w x.row t 4, k0, k1⟩, h.below hb⟩

theorem kright (w0 : World) (x : I5) (p : Option Addr) (ls : List (List I5)) (q : Option Addr) (n cap : Nat) (l : List I5) (r : Bool) (b o : Nat) (v : Value) (W : World) (hn : Hid (n = l.length)) (hr : Hid (rightB l = r)) (hlt : Hid (b < w0.heap.size)) (hc : W.cell? ⟨b, o, none⟩ = some v) (h : Kept w0 x p ls W ∧ Prg W q l) :
    Calls Try.prog 8 #[.slice q n cap] W fun e w' => e = .returned (.bool r) ∧ w'.cell? ⟨b, o, none⟩ = some v ∧ (Kept w0 x p ls w' ∧ Prg w' q l) := by
  have hn' := hn.out
  have hr' := hr.out
  subst hn' hr'
  refine (right_any q cap l W h.2).mono fun e w' he => ⟨he.1, ?_, h.1.step he.2, h.2.below he.2⟩
  exact (he.2.cell (p := ⟨b, o, none⟩) (Nat.lt_trans hlt.out h.1.more)).trans hc
theorem krightR (w0 : World) (x : I5) (p : Option Addr) (ls : List (List I5)) (q : Option Addr) (n cap : Nat) (l : List I5) (r : Bool) (b o : Nat) (v : Value) (W : World) (hn : Hid (n = l.length)) (hr : Hid (rightB l = r)) (hlt : Hid (b < w0.heap.size)) (hc : W.cell? ⟨b, o, none⟩ = some v) (h : Kept w0 x p ls W ∧ Prg W q l) :
    Calls Try.prog 9 #[.slice q n cap] W fun e w' => e = .returned (.bool r) ∧ w'.cell? ⟨b, o, none⟩ = some v ∧ (Kept w0 x p ls w' ∧ Prg w' q l) := by
  have hn' := hn.out
  have hr' := hr.out
  subst hn' hr'
  refine (rightR_any q cap l W h.2).mono fun e w' he => ⟨he.1, ?_, h.1.step he.2, h.2.below he.2⟩
  exact (he.2.cell (p := ⟨b, o, none⟩) (Nat.lt_trans hlt.out h.1.more)).trans hc

/-- 'Kept', and the program behind q: under one name, so that the walk doesn't part it. -/
def KeptQ (w0 : World) (x : I5) (p : Option Addr) (ls : List (List I5)) (q : Option Addr) (l : List I5) (w : World) : Prop := Kept w0 x p ls w ∧ Prg w q l
theorem KeptQ.drew {w0 w : World} {x : I5} {p q : Option Addr} {ls : List (List I5)} {l : List I5} (h : KeptQ w0 x p ls q l w) : KeptQ w0 x p ls q l w.drew := ⟨h.1.drew, h.2.below (Below.refl _ _).drew⟩

/-- The five cells of the instruction, and all that stays. -/
theorem kpost {w0 W w' : World} {op a b c k : Int} {p : Option Addr} {ls : List (List I5)} (h : Kept w0 ⟨op, a, b, c, k⟩ p ls W) (hb : Below W.heap.size W w') :
    w'.cell? ⟨w0.heap.size, 0, none⟩ = some (.int .i64 op) ∧ w'.cell? ⟨w0.heap.size, 1, none⟩ = some (.int .i64 a) ∧ w'.cell? ⟨w0.heap.size, 2, none⟩ = some (.int .i64 b) ∧ w'.cell? ⟨w0.heap.size, 3, none⟩ = some (.int .i64 c) ∧ w'.cell? ⟨w0.heap.size, 4, none⟩ = some (.int .u32 k) ∧ Kept w0 ⟨op, a, b, c, k⟩ p ls w' := by
  have h' := h.step hb
  have l := h'.lies
  exact ⟨l.c0, l.c1, l.c2, l.c3, l.c4, h'⟩
theorem kmay (w0 : World) (op a b c k : Int) (p : Option Addr) (ls : List (List I5)) (n : Int) (r : Bool) (hr : Hid (mayB ⟨op, a, b, c, k⟩ n = r)) (W : World) (h : Kept w0 ⟨op, a, b, c, k⟩ p ls W) :
    Calls Try.prog 10 #[.agg #[.int .i64 op, .int .i64 a, .int .i64 b, .int .i64 c, .int .u32 k], .int .i64 n] W fun e w' => e = .returned (.bool r) ∧ w'.cell? ⟨w0.heap.size, 0, none⟩ = some (.int .i64 op) ∧ w'.cell? ⟨w0.heap.size, 1, none⟩ = some (.int .i64 a) ∧ w'.cell? ⟨w0.heap.size, 2, none⟩ = some (.int .i64 b) ∧ w'.cell? ⟨w0.heap.size, 3, none⟩ = some (.int .i64 c) ∧ w'.cell? ⟨w0.heap.size, 4, none⟩ = some (.int .u32 k) ∧ Kept w0 ⟨op, a, b, c, k⟩ p ls w' := by
  have hr' := hr.out
  subst hr'
  exact (may_any ⟨op, a, b, c, k⟩ n W h.lies.k0 h.lies.k1).mono fun e w' he => ⟨he.1, kpost h he.2⟩
theorem kmayR (w0 : World) (op a b c k : Int) (p : Option Addr) (ls : List (List I5)) (n : Int) (r : Bool) (hr : Hid (mayB ⟨op, a, b, c, k⟩ n = r)) (W : World) (h : Kept w0 ⟨op, a, b, c, k⟩ p ls W) :
    Calls Try.prog 11 #[.agg #[.int .i64 op, .int .i64 a, .int .i64 b, .int .i64 c, .int .u32 k], .int .i64 n] W fun e w' => e = .returned (.bool r) ∧ w'.cell? ⟨w0.heap.size, 0, none⟩ = some (.int .i64 op) ∧ w'.cell? ⟨w0.heap.size, 1, none⟩ = some (.int .i64 a) ∧ w'.cell? ⟨w0.heap.size, 2, none⟩ = some (.int .i64 b) ∧ w'.cell? ⟨w0.heap.size, 3, none⟩ = some (.int .i64 c) ∧ w'.cell? ⟨w0.heap.size, 4, none⟩ = some (.int .u32 k) ∧ Kept w0 ⟨op, a, b, c, k⟩ p ls w' := by
  have hr' := hr.out
  subst hr'
  exact (mayR_any ⟨op, a, b, c, k⟩ n W h.lies.k0 h.lies.k1).mono fun e w' he => ⟨he.1, kpost h he.2⟩
theorem kall (w0 : World) (op a b c k : Int) (p : Option Addr) (ls : List (List I5)) (len cap : Nat) (r : Bool) (hr : Hid (allB ls = r)) (hl : Hid (ls.length = len)) (W : World) (h : Kept w0 ⟨op, a, b, c, k⟩ p ls W) :
    Calls Try.prog 12 #[.slice p len cap] W fun e w' => e = .returned (.bool r) ∧ w'.cell? ⟨w0.heap.size, 0, none⟩ = some (.int .i64 op) ∧ w'.cell? ⟨w0.heap.size, 1, none⟩ = some (.int .i64 a) ∧ w'.cell? ⟨w0.heap.size, 2, none⟩ = some (.int .i64 b) ∧ w'.cell? ⟨w0.heap.size, 3, none⟩ = some (.int .i64 c) ∧ w'.cell? ⟨w0.heap.size, 4, none⟩ = some (.int .u32 k) ∧ Kept w0 ⟨op, a, b, c, k⟩ p ls w' := by
  have hr' := hr.out
  have hl' := hl.out
  subst hr' hl'
  exact (all_any p cap ls W h.prgs).mono fun e w' he => ⟨he.1, kpost h he.2⟩
theorem kallR (w0 : World) (op a b c k : Int) (p : Option Addr) (ls : List (List I5)) (len cap : Nat) (r : Bool) (hr : Hid (allB ls = r)) (hl : Hid (ls.length = len)) (h6 : Hid (ls.length ≤ 6)) (W : World) (h : Kept w0 ⟨op, a, b, c, k⟩ p ls W) :
    Calls Try.prog 13 #[.slice p len cap] W fun e w' => e = .returned (.bool r) ∧ w'.cell? ⟨w0.heap.size, 0, none⟩ = some (.int .i64 op) ∧ w'.cell? ⟨w0.heap.size, 1, none⟩ = some (.int .i64 a) ∧ w'.cell? ⟨w0.heap.size, 2, none⟩ = some (.int .i64 b) ∧ w'.cell? ⟨w0.heap.size, 3, none⟩ = some (.int .i64 c) ∧ w'.cell? ⟨w0.heap.size, 4, none⟩ = some (.int .u32 k) ∧ Kept w0 ⟨op, a, b, c, k⟩ p ls w' := by
  have hr' := hr.out
  have hl' := hl.out
  subst hr' hl'
  exact (allR_any p cap ls W h6.out h.prgs).mono fun e w' he => ⟨he.1, kpost h he.2⟩

set_option maxHeartbeats 2000000 in
set_option maxRecDepth 100000 in
theorem walk_short (op a bb c k n : Int) (P : Option Addr) (len cap : Nat) (ls : List (List I5)) (w : World) (k0 : 0 ≤ k) (k1 : k ≤ 4294967295) (hl : ls.length = len) (h2 : len ≤ 6) (hs : shortB ls = true) (hp : Prgs w P ls) :
    Calls Try.prog 3 #[.agg #[.int .i64 op, .int .i64 a, .int .i64 bb, .int .i64 c, .int .u32 k], .int .i64 n, .slice P len cap] w fun e w' => e = .returned (.bool true) ∧ Below w.heap.size w w' := by
  have HP := Lib.hid hp
  have HL := Lib.hid hl
  have HS := Lib.hid hs
  have H6 : Hid (ls.length ≤ 6) := by rw [hl]; exact h2
  clear hl hs hp
  go_enter Try.func3, Try.ntmps3
  go_wp2_with fail
  refine (awake_any _).mono ?_
  rintro e w1 ⟨rfl, hb1⟩
  have HK : Hid (Kept w ⟨op, a, bb, c, k⟩ P ls w1) := (Kept.new w ⟨op, a, bb, c, k⟩ _ ls k0 k1 HP.out 24).step hb1
  clear hb1
  go_wp2_with fail
  have HQ : Hid (Calls Try.prog 7 #[.slice P len cap] w1 fun e w' => e = .returned (.bool true) ∧ w1 = w') := by
    have h := short_any P cap ls w1 HK.out.prgs
    rw [HL.out, HS.out] at h
    exact h
  refine (HQ.out).mono ?_
  rintro e w' ⟨rfl, rfl⟩
  clear HQ HS
  go_wp2_with fail
  go_loopw [7] (fun i wr => ∃ j : Nat, j ≤ len ∧ i = .int .i64 j ∧ Kept w ⟨op, a, bb, c, k⟩ P ls wr) (fun i _ => len - (intOf i).toNat)
  case atStart => exact ⟨0, Nat.zero_le _, rfl, HK.out⟩
  case round =>
    obtain ⟨i, hi, rfl, hk⟩ := hrel
    have HKR := Lib.hid hk
    clear hk HK
    by_cases hlt' : i < len
    · obtain ⟨b, off, hlt, hP, hx⟩ := HP.out (by rw [HL.out]; omega)
      obtain ⟨q, qc, hcell, hprg⟩ := hx i (by rw [HL.out]; exact hlt')
      have hc := (HKR.out.below.cell (p := ⟨b, off + i, none⟩) hlt).trans hcell
      have HKQ : KeptQ w ⟨op, a, bb, c, k⟩ P ls q (atP ls i) wr := ⟨HKR.out, hprg.below HKR.out.below⟩
      have HLT := Lib.hid hlt
      clear hcell hprg hx hlt HP
      subst hP
      obtain ⟨m, hm⟩ : ∃ m, m = (atP ls i).length := ⟨_, rfl⟩
      rw [← hm] at hc
      obtain ⟨r, hr⟩ : ∃ r, rightB (atP ls i) = r := ⟨_, rfl⟩
      have HM := Lib.hid hm
      have HR := Lib.hid hr
      clear hm hr
      go_wp2_with fail
      go_region_held3 (fun w' => w'.cell? ⟨b, off + i, none⟩ = some (.slice q m qc) ∧ KeptQ w ⟨op, a, bb, c, k⟩ (some ⟨b, off, none⟩) ls q (atP ls i) w')
        (first | exact ⟨‹_›, ‹_›⟩ | exact ⟨hc, HKQ.drew⟩)
        (first
          | (go_at_call 8; refine (kright w ⟨op, a, bb, c, k⟩ (some ⟨b, off, none⟩) ls q m qc (atP ls i) r b (off + i) (.slice q m qc) _ HM HR HLT ?_ ?_).mono ?_; (simp [*]); (first | assumption | (show KeptQ _ _ _ _ _ _ _; simp [*])); (rintro e w' ⟨rfl, h5, h6⟩; replace h6 : KeptQ w ⟨op, a, bb, c, k⟩ (some ⟨b, off, none⟩) ls q (atP ls i) w' := h6))
          | (go_at_call 9; refine (krightR w ⟨op, a, bb, c, k⟩ (some ⟨b, off, none⟩) ls q m qc (atP ls i) r b (off + i) (.slice q m qc) _ HM HR HLT ?_ ?_).mono ?_; (simp [*]); (first | assumption | (show KeptQ _ _ _ _ _ _ _; simp [*])); (rintro e w' ⟨rfl, h5, h6⟩; replace h6 : KeptQ w ⟨op, a, bb, c, k⟩ (some ⟨b, off, none⟩) ls q (atP ls i) w' := h6)))
      have HF := Lib.hid (show KeptQ _ _ _ _ _ _ _ from h6)
      clear h6 h5
      go_wp2
      go_roundw
      case rel => exact ⟨i + 1, by omega, by go_num, HF.out.1⟩
      case measure => simp [intOf]; omega
    · obtain ⟨m, hm⟩ : ∃ m, mayB ⟨op, a, bb, c, k⟩ n = m := ⟨_, rfl⟩
      obtain ⟨r, hr⟩ : ∃ r, allB ls = r := ⟨_, rfl⟩
      have HM := Lib.hid hm
      have HR := Lib.hid hr
      have HKD : Kept w ⟨op, a, bb, c, k⟩ P ls wr := HKR.out
      obtain ⟨c0, c1, c2, c3, c4, _, _⟩ := HKR.out.lies
      clear hm hr HP HKR
      go_wp2_with fail
      go_region_held3 (fun w' => w'.cell? ⟨w.heap.size, 0, none⟩ = some (.int .i64 op) ∧ w'.cell? ⟨w.heap.size, 1, none⟩ = some (.int .i64 a) ∧ w'.cell? ⟨w.heap.size, 2, none⟩ = some (.int .i64 bb) ∧ w'.cell? ⟨w.heap.size, 3, none⟩ = some (.int .i64 c) ∧ w'.cell? ⟨w.heap.size, 4, none⟩ = some (.int .u32 k) ∧ Kept w ⟨op, a, bb, c, k⟩ P ls w')
        (first | exact ⟨‹_›, ‹_›, ‹_›, ‹_›, ‹_›, ‹_›⟩ | exact ⟨c0, c1, c2, c3, c4, HKD.drew⟩)
        (first
          | (go_at_call 10; refine (kmay w op a bb c k P ls n m HM _ ?_).mono ?_; (simp [*]); (rintro e w' ⟨rfl, g0, g1, g2, g3, g4, g5⟩))
          | (go_at_call 11; refine (kmayR w op a bb c k P ls n m HM _ ?_).mono ?_; (simp [*]); (rintro e w' ⟨rfl, g0, g1, g2, g3, g4, g5⟩))
          | (go_at_call 12; refine (kall w op a bb c k P ls len cap r HR HL _ ?_).mono ?_; (simp [*]); (rintro e w' ⟨rfl, g0, g1, g2, g3, g4, g5⟩))
          | (go_at_call 13; refine (kallR w op a bb c k P ls len cap r HR HL H6 _ ?_).mono ?_; (simp [*]); (rintro e w' ⟨rfl, g0, g1, g2, g3, g4, g5⟩)))
      have HF := Lib.hid (show Kept _ _ _ _ _ from g5)
      clear g0 g1 g2 g3 g4 g5
      go_wp2
      go_ret
      exact ⟨rfl, HF.out.below⟩

theorem walk_long (op a bb c k n : Int) (P : Option Addr) (len cap : Nat) (ls : List (List I5)) (w : World) (k0 : 0 ≤ k) (k1 : k ≤ 4294967295) (hl : ls.length = len) (hs : shortB ls = false) (hp : Prgs w P ls) :
    Calls Try.prog 3 #[.agg #[.int .i64 op, .int .i64 a, .int .i64 bb, .int .i64 c, .int .u32 k], .int .i64 n, .slice P len cap] w fun e w' => e = .returned (.bool true) ∧ Below w.heap.size w w' := by
  have HP := Lib.hid hp
  have HL := Lib.hid hl
  have HS := Lib.hid hs
  clear hl hs hp
  go_enter Try.func3, Try.ntmps3
  go_wp2_with fail
  refine (awake_any _).mono ?_
  rintro e w1 ⟨rfl, hb1⟩
  have HK : Hid (Kept w ⟨op, a, bb, c, k⟩ P ls w1) := (Kept.new w ⟨op, a, bb, c, k⟩ _ ls k0 k1 HP.out 24).step hb1
  clear hb1
  go_wp2_with fail
  have HQ : Hid (Calls Try.prog 7 #[.slice P len cap] w1 fun e w' => e = .returned (.bool false) ∧ w1 = w') := by
    have h := short_any P cap ls w1 HK.out.prgs
    rw [HL.out, HS.out] at h
    exact h
  refine (HQ.out).mono ?_
  rintro e w' ⟨rfl, rfl⟩
  clear HQ HS
  go_wp2
  go_ret
  exact ⟨rfl, HK.out.below⟩

theorem walk (x : I5) (n : Int) (P : Option Addr) (cap : Nat) (ls : List (List I5)) (w : World) (k0 : 0 ≤ x.k) (k1 : x.k ≤ 4294967295) (hp : Prgs w P ls) :
    Calls Try.prog 3 #[.agg x.row, .int .i64 n, .slice P ls.length cap] w fun e w' => e = .returned (.bool true) ∧ Below w.heap.size w w' := by
  obtain ⟨op, a, bb, c, k⟩ := x
  cases hs : shortB ls with
  | true => exact walk_short op a bb c k n P _ cap ls w k0 k1 rfl (short_has hs).1 hs hp
  | false => exact walk_long op a bb c k n P _ cap ls w k0 k1 rfl hs hp
end Go.Proofs.Ytafilmbldgimmaa.isaRight
