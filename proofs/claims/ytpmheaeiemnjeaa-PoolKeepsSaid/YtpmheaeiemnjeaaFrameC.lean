/- The document's May; slices.Grow of nil; slices.Concat of seven, four and four bytes; no condition but that they read. -/
import Derived.Test.YtpmheaeiemnjeaaFrameB
import Derived.Test.YtpmheaeiemnjeaaRefDo
import Derived.Test.YtpmheaeiemnjeaaGen
namespace Go.Proofs.Ytpmheaeiemnjeaa
set_option linter.unusedVariables false
open Go.ChangeShapes Go.WideShapes Go.ChangeAt Go.RowKit

set_option maxHeartbeats 2000000 in
theorem rmay_any (m : Msg) (w : World) : Calls Try.prog 22 #[.agg m.row] w fun e w' => e = .returned (.bool (mayM m)) ∧ Below w.heap.size w w' := by
  obtain ⟨k, f, t, l, o, a, own, n, v⟩ := m
  unfold Msg.row
  obtain ⟨r, hr⟩ : ∃ r, r = mayM ⟨k, f, t, l, o, a, own, n, v⟩ := ⟨_, rfl⟩
  rw [← hr]
  have HR : Hid (r = ([f, t, l, o, a].all byteB && decide (1 ≤ k ∧ k ≤ 11))) := Lib.hid (by
    rw [hr]; unfold mayM; simp only [List.all_cons, List.all_nil, Bool.and_true]
    rw [Bool.and_comm])
  clear hr
  go_enter Try.func22, Try.ntmps22
  go_wp2
  go_loop [4] (fun i => ∃ j : Nat, j ≤ 5 ∧ i = .int .i64 j ∧ Hid (r = (([f, t, l, o, a].drop j).all byteB && decide (1 ≤ k ∧ k ≤ 11)))) (fun i => 5 - (intOf i).toNat)
  case atStart => exact ⟨0, by omega, rfl, HR⟩
  case round =>
    obtain ⟨j, hj, rfl, hi⟩ := hrel
    clear HR
    have hb : ∀ x : Int, ¬ (x < 0) → ¬ (255 < x) → byteB x = true := fun x h1 h2 => decide_eq_true (by omega)
    have hb2 : ∀ x : Int, x < 0 ∨ 255 < x → byteB x = false := fun x h1 => decide_eq_false (by omega)
    have HB := Lib.hid hb
    have HB2 := Lib.hid hb2
    clear hb hb2
    have hjj : j = 0 ∨ j = 1 ∨ j = 2 ∨ j = 3 ∨ j = 4 ∨ j = 5 := by omega
    clear hj
    rcases hjj with rfl | rfl | rfl | rfl | rfl | rfl
    · by_cases h1 : f < 0
      · have hf : r = false := by rw [hi.out]; simp [HB2.out f (.inl h1)]
        subst hf
        clear hi
        go_wp2
        go_ret
        exact ⟨rfl, by repeat (first | exact Below.refl _ _ | apply belowAlloc)⟩
      · by_cases h2 : 255 < f
        · have hf : r = false := by rw [hi.out]; simp [HB2.out f (.inr h2)]
          subst hf
          clear hi
          go_wp2
          go_ret
          exact ⟨rfl, by repeat (first | exact Below.refl _ _ | apply belowAlloc)⟩
        · have HI : Hid (r = (([f, t, l, o, a].drop 1).all byteB && decide (1 ≤ k ∧ k ≤ 11))) := Lib.hid (by rw [hi.out]; simp [HB.out f h1 h2])
          clear hi
          go_wp2
          go_round
          case rel => exact ⟨1, by omega, rfl, HI⟩
          case measure => simp [intOf]
    · by_cases h1 : t < 0
      · have hf : r = false := by rw [hi.out]; simp [HB2.out t (.inl h1)]
        subst hf
        clear hi
        go_wp2
        go_ret
        exact ⟨rfl, by repeat (first | exact Below.refl _ _ | apply belowAlloc)⟩
      · by_cases h2 : 255 < t
        · have hf : r = false := by rw [hi.out]; simp [HB2.out t (.inr h2)]
          subst hf
          clear hi
          go_wp2
          go_ret
          exact ⟨rfl, by repeat (first | exact Below.refl _ _ | apply belowAlloc)⟩
        · have HI : Hid (r = (([f, t, l, o, a].drop 2).all byteB && decide (1 ≤ k ∧ k ≤ 11))) := Lib.hid (by rw [hi.out]; simp [HB.out t h1 h2])
          clear hi
          go_wp2
          go_round
          case rel => exact ⟨2, by omega, rfl, HI⟩
          case measure => simp [intOf]
    · by_cases h1 : l < 0
      · have hf : r = false := by rw [hi.out]; simp [HB2.out l (.inl h1)]
        subst hf
        clear hi
        go_wp2
        go_ret
        exact ⟨rfl, by repeat (first | exact Below.refl _ _ | apply belowAlloc)⟩
      · by_cases h2 : 255 < l
        · have hf : r = false := by rw [hi.out]; simp [HB2.out l (.inr h2)]
          subst hf
          clear hi
          go_wp2
          go_ret
          exact ⟨rfl, by repeat (first | exact Below.refl _ _ | apply belowAlloc)⟩
        · have HI : Hid (r = (([f, t, l, o, a].drop 3).all byteB && decide (1 ≤ k ∧ k ≤ 11))) := Lib.hid (by rw [hi.out]; simp [HB.out l h1 h2])
          clear hi
          go_wp2
          go_round
          case rel => exact ⟨3, by omega, rfl, HI⟩
          case measure => simp [intOf]
    · by_cases h1 : o < 0
      · have hf : r = false := by rw [hi.out]; simp [HB2.out o (.inl h1)]
        subst hf
        clear hi
        go_wp2
        go_ret
        exact ⟨rfl, by repeat (first | exact Below.refl _ _ | apply belowAlloc)⟩
      · by_cases h2 : 255 < o
        · have hf : r = false := by rw [hi.out]; simp [HB2.out o (.inr h2)]
          subst hf
          clear hi
          go_wp2
          go_ret
          exact ⟨rfl, by repeat (first | exact Below.refl _ _ | apply belowAlloc)⟩
        · have HI : Hid (r = (([f, t, l, o, a].drop 4).all byteB && decide (1 ≤ k ∧ k ≤ 11))) := Lib.hid (by rw [hi.out]; simp [HB.out o h1 h2])
          clear hi
          go_wp2
          go_round
          case rel => exact ⟨4, by omega, rfl, HI⟩
          case measure => simp [intOf]
    · by_cases h1 : a < 0
      · have hf : r = false := by rw [hi.out]; simp [HB2.out a (.inl h1)]
        subst hf
        clear hi
        go_wp2
        go_ret
        exact ⟨rfl, by repeat (first | exact Below.refl _ _ | apply belowAlloc)⟩
      · by_cases h2 : 255 < a
        · have hf : r = false := by rw [hi.out]; simp [HB2.out a (.inr h2)]
          subst hf
          clear hi
          go_wp2
          go_ret
          exact ⟨rfl, by repeat (first | exact Below.refl _ _ | apply belowAlloc)⟩
        · have HI : Hid (r = (([f, t, l, o, a].drop 5).all byteB && decide (1 ≤ k ∧ k ≤ 11))) := Lib.hid (by rw [hi.out]; simp [HB.out a h1 h2])
          clear hi
          go_wp2
          go_round
          case rel => exact ⟨5, by omega, rfl, HI⟩
          case measure => simp [intOf]
    · by_cases h1 : k ≤ 0
      · have hf : r = false := by rw [hi.out, decide_eq_false (show ¬ (1 ≤ k ∧ k ≤ 11) by omega), Bool.and_false]
        subst hf
        have d1 : decide (0 < k) = false := decide_eq_false (by omega)
        clear hi h1
        go_wp2
        go_ret
        exact ⟨rfl, by repeat (first | exact Below.refl _ _ | apply belowAlloc)⟩
      · have d1 : decide (0 < k) = true := decide_eq_true (by omega)
        by_cases h2 : k < 12
        · have hf : r = true := by rw [hi.out, decide_eq_true (show 1 ≤ k ∧ k ≤ 11 by omega)]; rfl
          subst hf
          clear hi h1
          go_wp2
          go_ret
          exact ⟨rfl, by repeat (first | exact Below.refl _ _ | apply belowAlloc)⟩
        · have hf : r = false := by rw [hi.out, decide_eq_false (show ¬ (1 ≤ k ∧ k ≤ 11) by omega), Bool.and_false]
          subst hf
          clear hi h1
          go_wp2
          go_ret
          exact ⟨rfl, by repeat (first | exact Below.refl _ _ | apply belowAlloc)⟩

theorem info5 : (Try.prog.info? 5).map (fun i => (i.zero, i.size, i.bytes)) = some (some (.int .u8 0), 1, 1) := by kernel_rfl
theorem u2 : Try.prog.underlying 3 = some (.int .i64) := by kernel_rfl
set_option maxHeartbeats 1000000 in
theorem grow_any (n : Nat) (w : World) (h0 : 0 < n) (h1 : n ≤ 1000) :
    Calls Try.prog 50 #[.slice none 0 0, .int .i64 n] w fun e w' => ∃ v, e = .returned v ∧ w'.ownsRow w.heap.size 5 1 v 0 [] ∧ Below w.heap.size w w' := by
  obtain ⟨i0, hi, hz0, hz1, hz2⟩ := info_parts info5
  have hrun := fun ty => Lib.run_append_nil_zeros (P := Try.prog) w 30 3 ty 5 i0 (.int .u8 0) .i64 .i64 Try.underlying30 Try.underlying3 hi hz0 n h0 (by rw [hz1]; decide) (by omega) (by rw [hz2]; omega)
  obtain ⟨M, hM⟩ : ∃ M, M = Builtin.zeroCells (Value.int .u8 0).cells n ++ Builtin.zeroCells (Value.int .u8 0).cells (grownCap w n 0 5 - n) := ⟨_, rfl⟩
  have hge := grownCap_ge w n 0 5
  have hle := grownCap_le_maxLen w n 0 5 (by unfold maxLen; omega)
  have hMs : M.size = grownCap w n 0 5 * 1 := by
    rw [hM, Array.size_append, size_zeroCells, size_zeroCells]
    show n * 1 + (grownCap w n 0 5 - n) * 1 = grownCap w n 0 5 * 1
    omega
  rw [← hM] at hrun
  obtain ⟨c, hc⟩ : ∃ c, c = grownCap w n 0 5 := ⟨_, rfl⟩
  rw [← hc] at hrun hge hle hMs
  have hn0 : (0 : Int) < n := by omega
  have HR := Lib.hid hrun
  have HM := Lib.hid (And.intro hle (And.intro hMs hge))
  clear hrun hle hMs hM hc hge hz0 hz1 hz2 hi
  go_enter Try.func50, Try.ntmps50
  go_wp2_with (first | (at_builtin; refine Lib.wpList_append_run _ rfl _ _ _ _ rfl _ _ rfl rfl _ _ (HR.out _) ?_))
  go_ret
  exact ⟨_, rfl, World.ownsRow_made w.drew M c (by exact Nat.le_refl _) HM.out.1 HM.out.2.1, (Below.refl _ _).drew.alloc (Nat.le_refl _) _⟩

def u8C (l : List Nat) : List Value := l.map fun x : Nat => .int .u8 (x : Int)
theorem u8C_len (l : List Nat) : (u8C l).length = l.length := by unfold u8C; simp
theorem u8C_one (l : List Nat) : ∀ u ∈ u8C l, u.oneCell' = true := by
  intro u hu; obtain ⟨x, _, rfl⟩ := List.mem_map.1 hu; rfl
theorem u8C_app (l m : List Nat) : u8C l ++ u8C m = u8C (l ++ m) := by unfold u8C; simp
theorem u8C_at (l : List Nat) (k : Nat) (h : k < l.length) : (u8C l)[k]? = some (.int .u8 (l.getD k 0 : Nat)) := by unfold u8C; simp [List.getD, h]

set_option maxHeartbeats 2000000 in
theorem concat_any (B : Nat) (p0 p1 p2 : Option Addr) (c0 c1 c2 : Nat) (x0 x1 x2 : List Nat) (w : World) (z0 : x0.length = 7) (z1 : x1.length = 4) (z2 : x2.length = 4)
    (hB : Blk w B #[.slice p0 7 c0, .slice p1 4 c1, .slice p2 4 c2]) (s0 : Sl w p0 7 (u8C x0)) (s1 : Sl w p1 4 (u8C x1)) (s2 : Sl w p2 4 (u8C x2)) :
    Calls Try.prog 39 #[.slice (some ⟨B, 0, none⟩) 3 3] w fun e w' => ∃ v, e = .returned v ∧ w'.ownsRow w.heap.size 5 1 v 15 (u8C (x0 ++ (x1 ++ x2))) ∧ Below w.heap.size w w' := by
  obtain ⟨i0, hi, hz0, hz1, hz2⟩ := info_parts info5
  have Z0 := Lib.hid z0
  have Z1 := Lib.hid z1
  have Z2 := Lib.hid z2
  have S0 := Lib.hid s0
  have S1 := Lib.hid s1
  have S2 := Lib.hid s2
  have HB := Lib.hid hB
  have HI := Lib.hid (And.intro hi (And.intro hz0 (And.intro hz1 hz2)))
  have b0 : w.cell? ⟨B, 0, none⟩ = some (.slice p0 7 c0) := hB.c 0
  have b1 : w.cell? ⟨B, 1, none⟩ = some (.slice p1 4 c1) := hB.c 1
  have b2 : w.cell? ⟨B, 2, none⟩ = some (.slice p2 4 c2) := hB.c 2
  clear z0 z1 z2 s0 s1 s2 hB hi hz0 hz1 hz2
  go_enter Try.func39, Try.ntmps39
  go_wp2
  go_loop [3, 11] (fun s i => (i = .int .i64 0 ∧ s = .int .i64 0) ∨ (i = .int .i64 1 ∧ s = .int .i64 7) ∨ (i = .int .i64 2 ∧ s = .int .i64 11) ∨ (i = .int .i64 3 ∧ s = .int .i64 15)) (fun _ i => 3 - (intOf i).toNat)
  case atStart => exact .inl ⟨rfl, rfl⟩
  case round =>
    rcases hrel with ⟨rfl, rfl⟩ | ⟨rfl, rfl⟩ | ⟨rfl, rfl⟩ | ⟨rfl, rfl⟩
    · go_wp2
      go_round
      case rel => exact .inr (.inl ⟨rfl, rfl⟩)
      case measure => simp [intOf]
    · go_wp2
      go_round
      case rel => exact .inr (.inr (.inl ⟨rfl, rfl⟩))
      case measure => simp [intOf]
    · go_wp2
      go_round
      case rel => exact .inr (.inr (.inr ⟨rfl, rfl⟩))
      case measure => simp [intOf]
    · go_wp2_with fail
      refine (grow_any 15 _ (by omega) (by omega)).mono ?_
      rintro e w1 ⟨v, rfl, hown, hb⟩
      have HW : Hid (w1.ownsRow w.heap.size 5 1 v 0 (u8C []) ∧ Below w.heap.size w w1) := ⟨hown, hb⟩
      clear hown hb b0 b1 b2
      go_wp2
      go_loopw [6, 27] (fun s i wr => ((i = .int .i64 0 ∧ wr.ownsRow w.heap.size 5 1 s 0 (u8C [])) ∨ (i = .int .i64 1 ∧ wr.ownsRow w.heap.size 5 1 s 7 (u8C x0)) ∨ (i = .int .i64 2 ∧ wr.ownsRow w.heap.size 5 1 s 11 (u8C (x0 ++ x1))) ∨ (i = .int .i64 3 ∧ wr.ownsRow w.heap.size 5 1 s 15 (u8C (x0 ++ (x1 ++ x2))))) ∧ Below w.heap.size w wr) (fun _ i _ => 3 - (intOf i).toNat)
      case atStart => exact ⟨.inl ⟨rfl, HW.out.1⟩, HW.out.2⟩
      case round =>
        obtain ⟨hcase, hbel⟩ := hrel
        have HBL := Lib.hid hbel
        have b0 : wr.cell? ⟨B, 0, none⟩ = some (.slice p0 7 c0) := (HB.out.below hbel).c 0
        have b1 : wr.cell? ⟨B, 1, none⟩ = some (.slice p1 4 c1) := (HB.out.below hbel).c 1
        have b2 : wr.cell? ⟨B, 2, none⟩ = some (.slice p2 4 c2) := (HB.out.below hbel).c 2
        clear hbel
        rcases hcase with ⟨rfl, ho⟩ | ⟨rfl, ho⟩ | ⟨rfl, ho⟩ | ⟨rfl, ho⟩
        · have HO := Lib.hid ho
          clear ho
          go_wp2_with (first | (at_builtin; refine wpList_append_sl rfl _ _ 30 rfl w.heap.size 5 i0 (.int .u8 0) 1 1 Try.underlying30 HI.out.1 HI.out.2.1 HI.out.2.2.1 HI.out.2.2.2 rfl (by decide) _ _ _ rfl HO.out p0 7 c0 (u8C x0) rfl (by rw [u8C_len, Z0.out]) (S0.out.below HBL.out) (u8C_one _) (by decide) (by decide) HBL.out.size ?_))
          intro v' w' g1 g2 g3
          have HG : Hid (w'.ownsRow w.heap.size 5 1 v' 7 (u8C x0)) := Lib.hid (by rw [u8C_app, List.nil_append] at g1; exact g1)
          have HBN : Hid (Below w.heap.size w w') := Lib.hid (HBL.out.grown g2 HBL.out.size (fun k hk => (HO.out.lt k hk).1))
          clear g1 g2 g3 b0 b1 b2
          go_wp2
          go_roundw
          case rel => exact ⟨.inr (.inl ⟨rfl, HG.out⟩), HBN.out⟩
          case measure => simp [intOf]
        · have HO := Lib.hid ho
          clear ho
          go_wp2_with (first | (at_builtin; refine wpList_append_sl rfl _ _ 30 rfl w.heap.size 5 i0 (.int .u8 0) 1 1 Try.underlying30 HI.out.1 HI.out.2.1 HI.out.2.2.1 HI.out.2.2.2 rfl (by decide) _ _ _ rfl HO.out p1 4 c1 (u8C x1) rfl (by rw [u8C_len, Z1.out]) (S1.out.below HBL.out) (u8C_one _) (by decide) (by decide) HBL.out.size ?_))
          intro v' w' g1 g2 g3
          have HG : Hid (w'.ownsRow w.heap.size 5 1 v' 11 (u8C (x0 ++ x1))) := Lib.hid (by rw [u8C_app] at g1; exact g1)
          have HBN : Hid (Below w.heap.size w w') := Lib.hid (HBL.out.grown g2 HBL.out.size (fun k hk => (HO.out.lt k hk).1))
          clear g1 g2 g3 b0 b1 b2
          go_wp2
          go_roundw
          case rel => exact ⟨.inr (.inr (.inl ⟨rfl, HG.out⟩)), HBN.out⟩
          case measure => simp [intOf]
        · have HO := Lib.hid ho
          clear ho
          go_wp2_with (first | (at_builtin; refine wpList_append_sl rfl _ _ 30 rfl w.heap.size 5 i0 (.int .u8 0) 1 1 Try.underlying30 HI.out.1 HI.out.2.1 HI.out.2.2.1 HI.out.2.2.2 rfl (by decide) _ _ _ rfl HO.out p2 4 c2 (u8C x2) rfl (by rw [u8C_len, Z2.out]) (S2.out.below HBL.out) (u8C_one _) (by decide) (by decide) HBL.out.size ?_))
          intro v' w' g1 g2 g3
          have HG : Hid (w'.ownsRow w.heap.size 5 1 v' 15 (u8C (x0 ++ (x1 ++ x2)))) := Lib.hid (by rw [u8C_app, List.append_assoc] at g1; exact g1)
          have HBN : Hid (Below w.heap.size w w') := Lib.hid (HBL.out.grown g2 HBL.out.size (fun k hk => (HO.out.lt k hk).1))
          clear g1 g2 g3 b0 b1 b2
          go_wp2
          go_roundw
          case rel => exact ⟨.inr (.inr (.inr ⟨rfl, HG.out⟩)), HBN.out⟩
          case measure => simp [intOf]
        · have HO := Lib.hid ho
          clear ho b0 b1 b2
          go_wp2
          go_ret
          exact ⟨_, rfl, HO.out, HBL.out⟩
end Go.Proofs.Ytpmheaeiemnjeaa
