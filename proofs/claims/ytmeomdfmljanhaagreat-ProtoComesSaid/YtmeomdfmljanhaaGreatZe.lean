/- Laid together, in this order: RefDo, FrameC, FrameD, FrameF, FrameG, FrameJ, FrameE, FrameH, FrameK, FrameR, FrameT, PoolNum. -/
import Derived.Test.YtmeomdfmljanhaaGreatZd
import Derived.LoopTactic
import Derived.Deep.DeepCutAuto
import Derived.Deep.RegionHeld3
import Derived.Deep.Light
import Derived.Laws.BytesArg
import Derived.DeepKeys
import Derived.Lib.Bytes
set_option linter.unusedSimpArgs false
set_option linter.unusedVariables false
/- word.Do and the document's own Do, for whatever operation and numbers, answer one and the same; the document's Bytes and Of; no condition but that the numbers fit their kinds. -/
namespace Go.Proofs.YtmeomdfmljanhaaGreat
set_option linter.unusedVariables false
open Go.ChangeShapes Go.WideShapes Go.ChangeAt Go.RowKit

def ofk (zs : List Int) : Nat → Int
  | 0 => 0
  | k + 1 => ofk zs k * 256 + zs.getD k 0
end Go.Proofs.YtmeomdfmljanhaaGreat
/- The document's May; slices.Grow of nil; slices.Concat of seven, four and four bytes; no condition but that they read. -/
namespace Go.Proofs.YtmeomdfmljanhaaGreat
set_option linter.unusedVariables false
open Go.ChangeShapes Go.WideShapes Go.ChangeAt Go.RowKit

theorem info5 : (Tryz.prog.info? 5).map (fun i => (i.zero, i.size, i.bytes)) = some (some (.int .u8 0), 1, 1) := by kernel_rfl
theorem u2 : Tryz.prog.underlying 3 = some (.int .i64) := by kernel_rfl
set_option maxHeartbeats 1000000 in
theorem grow_any (n : Nat) (w : World) (h0 : 0 < n) (h1 : n ≤ 1000) :
    Calls Tryz.prog 151 #[.slice none 0 0, .int .i64 n] w fun e w' => ∃ v, e = .returned v ∧ w'.ownsRow w.heap.size 5 1 v 0 [] ∧ Below w.heap.size w w' := by
  obtain ⟨i0, hi, hz0, hz1, hz2⟩ := info_parts info5
  have hrun := fun ty => Lib.run_append_nil_zeros (P := Tryz.prog) w 104 3 ty 5 i0 (.int .u8 0) .i64 .i64 Tryz.underlying104 Tryz.underlying3 hi hz0 n h0 (by rw [hz1]; decide) (by omega) (by rw [hz2]; omega)
  obtain ⟨M, hM⟩ : ∃ M, M = Builtin.zeroCells (Value.int .u8 0).cells n ++ Builtin.zeroCells (Value.int .u8 0).cells (grownCap w n 0 5 - n) := ⟨_, rfl⟩
  have hge := grownCap_ge w n 0 5
  have hle := grownCap_le_maxLen w n 0 5 (by unfold maxLen; omega)
  have hMs : M.size = grownCap w n 0 5 * 1 := by
    rw [hM, Array.size_append, size_zeroCells, size_zeroCells]
    show n * 1 + (grownCap w n 0 5 - n) * 1 = grownCap w n 0 5 * 1
    omega
  rw [← hM] at hrun
  obtain ⟨c, hc⟩ : ∃ c, c = grownCap w n 0 5 := ⟨_, rfl⟩
  rw [← hc] at hrun hge hle hMs
  have hn0 : (0 : Int) < n := by omega
  have HR := Lib.hid hrun
  have HM := Lib.hid (And.intro hle (And.intro hMs hge))
  clear hrun hle hMs hM hc hge hz0 hz1 hz2 hi
  go_enter Tryz.func151, Tryz.ntmps151
  go_wp2_with (first | (at_builtin; refine Lib.wpList_append_run _ rfl _ _ _ _ rfl _ _ rfl rfl _ _ (HR.out _) ?_))
  go_ret
  exact ⟨_, rfl, World.ownsRow_made w.drew M c (by exact Nat.le_refl _) HM.out.1 HM.out.2.1, (Below.refl _ _).drew.alloc (Nat.le_refl _) _⟩

def u8C (l : List Nat) : List Value := l.map fun x : Nat => .int .u8 (x : Int)
theorem u8C_len (l : List Nat) : (u8C l).length = l.length := by unfold u8C; simp
theorem u8C_one (l : List Nat) : ∀ u ∈ u8C l, u.oneCell' = true := by
  intro u hu; obtain ⟨x, _, rfl⟩ := List.mem_map.1 hu; rfl
theorem u8C_app (l m : List Nat) : u8C l ++ u8C m = u8C (l ++ m) := by unfold u8C; simp
theorem u8C_at (l : List Nat) (k : Nat) (h : k < l.length) : (u8C l)[k]? = some (.int .u8 (l.getD k 0 : Nat)) := by unfold u8C; simp [List.getD, h]

set_option maxHeartbeats 2000000 in
theorem concat_any (B : Nat) (p0 p1 p2 : Option Addr) (c0 c1 c2 : Nat) (x0 x1 x2 : List Nat) (w : World) (z0 : x0.length = 7) (z1 : x1.length = 4) (z2 : x2.length = 4)
    (hB : Blk w B #[.slice p0 7 c0, .slice p1 4 c1, .slice p2 4 c2]) (s0 : Sl w p0 7 (u8C x0)) (s1 : Sl w p1 4 (u8C x1)) (s2 : Sl w p2 4 (u8C x2)) :
    Calls Tryz.prog 142 #[.slice (some ⟨B, 0, none⟩) 3 3] w fun e w' => ∃ v, e = .returned v ∧ w'.ownsRow w.heap.size 5 1 v 15 (u8C (x0 ++ (x1 ++ x2))) ∧ Below w.heap.size w w' := by
  obtain ⟨i0, hi, hz0, hz1, hz2⟩ := info_parts info5
  have Z0 := Lib.hid z0
  have Z1 := Lib.hid z1
  have Z2 := Lib.hid z2
  have S0 := Lib.hid s0
  have S1 := Lib.hid s1
  have S2 := Lib.hid s2
  have HB := Lib.hid hB
  have HI := Lib.hid (And.intro hi (And.intro hz0 (And.intro hz1 hz2)))
  have b0 : w.cell? ⟨B, 0, none⟩ = some (.slice p0 7 c0) := hB.c 0
  have b1 : w.cell? ⟨B, 1, none⟩ = some (.slice p1 4 c1) := hB.c 1
  have b2 : w.cell? ⟨B, 2, none⟩ = some (.slice p2 4 c2) := hB.c 2
  clear z0 z1 z2 s0 s1 s2 hB hi hz0 hz1 hz2
  go_enter Tryz.func142, Tryz.ntmps142
  go_wp2
  go_loop [3, 11] (fun s i => (i = .int .i64 0 ∧ s = .int .i64 0) ∨ (i = .int .i64 1 ∧ s = .int .i64 7) ∨ (i = .int .i64 2 ∧ s = .int .i64 11) ∨ (i = .int .i64 3 ∧ s = .int .i64 15)) (fun _ i => 3 - (intOf i).toNat)
  case atStart => exact .inl ⟨rfl, rfl⟩
  case round =>
    rcases hrel with ⟨rfl, rfl⟩ | ⟨rfl, rfl⟩ | ⟨rfl, rfl⟩ | ⟨rfl, rfl⟩
    · go_wp2
      go_round
      case rel => exact .inr (.inl ⟨rfl, rfl⟩)
      case measure => simp [intOf]
    · go_wp2
      go_round
      case rel => exact .inr (.inr (.inl ⟨rfl, rfl⟩))
      case measure => simp [intOf]
    · go_wp2
      go_round
      case rel => exact .inr (.inr (.inr ⟨rfl, rfl⟩))
      case measure => simp [intOf]
    · go_wp2_with fail
      refine (grow_any 15 _ (by omega) (by omega)).mono ?_
      rintro e w1 ⟨v, rfl, hown, hb⟩
      have HW : Hid (w1.ownsRow w.heap.size 5 1 v 0 (u8C []) ∧ Below w.heap.size w w1) := ⟨hown, hb⟩
      clear hown hb b0 b1 b2
      go_wp2
      go_loopw [6, 27] (fun s i wr => ((i = .int .i64 0 ∧ wr.ownsRow w.heap.size 5 1 s 0 (u8C [])) ∨ (i = .int .i64 1 ∧ wr.ownsRow w.heap.size 5 1 s 7 (u8C x0)) ∨ (i = .int .i64 2 ∧ wr.ownsRow w.heap.size 5 1 s 11 (u8C (x0 ++ x1))) ∨ (i = .int .i64 3 ∧ wr.ownsRow w.heap.size 5 1 s 15 (u8C (x0 ++ (x1 ++ x2))))) ∧ Below w.heap.size w wr) (fun _ i _ => 3 - (intOf i).toNat)
      case atStart => exact ⟨.inl ⟨rfl, HW.out.1⟩, HW.out.2⟩
      case round =>
        obtain ⟨hcase, hbel⟩ := hrel
        have HBL := Lib.hid hbel
        have b0 : wr.cell? ⟨B, 0, none⟩ = some (.slice p0 7 c0) := (HB.out.below hbel).c 0
        have b1 : wr.cell? ⟨B, 1, none⟩ = some (.slice p1 4 c1) := (HB.out.below hbel).c 1
        have b2 : wr.cell? ⟨B, 2, none⟩ = some (.slice p2 4 c2) := (HB.out.below hbel).c 2
        clear hbel
        rcases hcase with ⟨rfl, ho⟩ | ⟨rfl, ho⟩ | ⟨rfl, ho⟩ | ⟨rfl, ho⟩
        · have HO := Lib.hid ho
          clear ho
          go_wp2_with (first | (at_builtin; refine wpList_append_sl rfl _ _ 104 rfl w.heap.size 5 i0 (.int .u8 0) 1 1 Tryz.underlying104 HI.out.1 HI.out.2.1 HI.out.2.2.1 HI.out.2.2.2 rfl (by decide) _ _ _ rfl HO.out p0 7 c0 (u8C x0) rfl (by rw [u8C_len, Z0.out]) (S0.out.below HBL.out) (u8C_one _) (by decide) (by decide) HBL.out.size ?_))
          intro v' w' g1 g2 g3
          have HG : Hid (w'.ownsRow w.heap.size 5 1 v' 7 (u8C x0)) := Lib.hid (by rw [u8C_app, List.nil_append] at g1; exact g1)
          have HBN : Hid (Below w.heap.size w w') := Lib.hid (HBL.out.grown g2 HBL.out.size (fun k hk => (HO.out.lt k hk).1))
          clear g1 g2 g3 b0 b1 b2
          go_wp2
          go_roundw
          case rel => exact ⟨.inr (.inl ⟨rfl, HG.out⟩), HBN.out⟩
          case measure => simp [intOf]
        · have HO := Lib.hid ho
          clear ho
          go_wp2_with (first | (at_builtin; refine wpList_append_sl rfl _ _ 104 rfl w.heap.size 5 i0 (.int .u8 0) 1 1 Tryz.underlying104 HI.out.1 HI.out.2.1 HI.out.2.2.1 HI.out.2.2.2 rfl (by decide) _ _ _ rfl HO.out p1 4 c1 (u8C x1) rfl (by rw [u8C_len, Z1.out]) (S1.out.below HBL.out) (u8C_one _) (by decide) (by decide) HBL.out.size ?_))
          intro v' w' g1 g2 g3
          have HG : Hid (w'.ownsRow w.heap.size 5 1 v' 11 (u8C (x0 ++ x1))) := Lib.hid (by rw [u8C_app] at g1; exact g1)
          have HBN : Hid (Below w.heap.size w w') := Lib.hid (HBL.out.grown g2 HBL.out.size (fun k hk => (HO.out.lt k hk).1))
          clear g1 g2 g3 b0 b1 b2
          go_wp2
          go_roundw
          case rel => exact ⟨.inr (.inr (.inl ⟨rfl, HG.out⟩)), HBN.out⟩
          case measure => simp [intOf]
        · have HO := Lib.hid ho
          clear ho
          go_wp2_with (first | (at_builtin; refine wpList_append_sl rfl _ _ 104 rfl w.heap.size 5 i0 (.int .u8 0) 1 1 Tryz.underlying104 HI.out.1 HI.out.2.1 HI.out.2.2.1 HI.out.2.2.2 rfl (by decide) _ _ _ rfl HO.out p2 4 c2 (u8C x2) rfl (by rw [u8C_len, Z2.out]) (S2.out.below HBL.out) (u8C_one _) (by decide) (by decide) HBL.out.size ?_))
          intro v' w' g1 g2 g3
          have HG : Hid (w'.ownsRow w.heap.size 5 1 v' 15 (u8C (x0 ++ (x1 ++ x2)))) := Lib.hid (by rw [u8C_app, List.append_assoc] at g1; exact g1)
          have HBN : Hid (Below w.heap.size w w') := Lib.hid (HBL.out.grown g2 HBL.out.size (fun k hk => (HO.out.lt k hk).1))
          clear g1 g2 g3 b0 b1 b2
          go_wp2
          go_roundw
          case rel => exact ⟨.inr (.inr (.inr ⟨rfl, HG.out⟩)), HBN.out⟩
          case measure => simp [intOf]
        · have HO := Lib.hid ho
          clear ho b0 b1 b2
          go_wp2
          go_ret
          exact ⟨_, rfl, HO.out, HBL.out⟩
end Go.Proofs.YtmeomdfmljanhaaGreat
/- What frame.Put answers: a frame of nineteen bytes in memory of its own, or nothing; no condition but that the numbers fit. -/
namespace Go.Proofs.YtmeomdfmljanhaaGreat
set_option linter.unusedVariables false
open Go.ChangeShapes Go.WideShapes Go.ChangeAt Go.RowKit

def b4 (n : Nat) : List Nat := [n / 16777216, n / 65536 % 256, n / 256 % 256, n % 256]
def headL (k f t l o a : Nat) (own : Bool) : List Nat := [k, f, t, l, o, a, own.toNat]
def bodyL (k f t l o a : Nat) (own : Bool) (n v : Nat) : List Nat := headL k f t l o a own ++ (b4 n ++ b4 v)
def frameL (k f t l o a : Nat) (own : Bool) (n v : Nat) : List Nat := bodyL k f t l o a own n v ++ b4 (sumN (bodyL k f t l o a own n v))
theorem b4_lt (n : Nat) (h : n < 4294967296) : ∀ x ∈ b4 n, x < 256 := by
  intro x hx
  simp only [b4, List.mem_cons, List.not_mem_nil, or_false] at hx
  rcases hx with rfl | rfl | rfl | rfl <;> omega
theorem body_lt {k f t l o a : Nat} {own : Bool} {n v : Nat} (hk : k < 256) (hf : f < 256) (ht : t < 256) (hl : l < 256) (ho : o < 256) (ha : a < 256) (hn : n < 4294967296) (hv : v < 4294967296) : ∀ x ∈ bodyL k f t l o a own n v, x < 256 := by
  intro x hx
  unfold bodyL at hx
  rcases List.mem_append.1 hx with hx | hx
  · simp only [headL, List.mem_cons, List.not_mem_nil, or_false] at hx
    rcases hx with rfl | rfl | rfl | rfl | rfl | rfl | rfl
    all_goals first | assumption | (cases own <;> decide)
  · rcases List.mem_append.1 hx with hx | hx
    · exact b4_lt n hn x hx
    · exact b4_lt v hv x hx
theorem row4_u8C (n : Nat) : row4 ((n : Int) / 16777216) ((n : Int) / 65536 % 256) ((n : Int) / 256 % 256) ((n : Int) % 256) = (u8C (b4 n)).toArray := by
  unfold row4 u8C b4
  simp
theorem blk_sl {w : World} {B n : Nat} {l : List Value} (h : Blk w B l.toArray) : Sl w (some ⟨B, 0, none⟩) n l := fun _ => ⟨B, 0, h.lt, rfl, fun j hj => by rw [Nat.zero_add, h.c]; simp⟩
theorem wrap_u8 {n : Nat} (h : n < 256) : IntKind.u8.wrap (n : Int) = (n : Int) := by
  simp [IntKind.wrap, IntKind.bits, IntKind.signed]; omega
theorem byts_own {w : World} {base n cap : Nat} {p : Option Addr} {l : List Nat} (h : w.ownsRow base 5 1 (.slice p n cap) n (u8C l)) (hl : l.length = n) (hb : ∀ x ∈ l, x < 256) : Byts w p l :=
  ⟨hb, fun h0 => by
    obtain ⟨p', c', e, hs⟩ := Sl.own h
    injection e with e1 e2 e3
    subst e1
    obtain ⟨b, off, h1, h2, h3⟩ := hs (by omega)
    exact ⟨b, off, h1, h2, fun k hk => by rw [h3 k (by rw [u8C_len]; exact hk), u8C_at l k hk]⟩⟩

theorem own_base {w : World} {b b' : Nat} {e : TypeId} {size : Nat} {v : Value} {n : Nat} {xs : List Value} (h : w.ownsRow b e size v n xs) (hb : b' ≤ b) : w.ownsRow b' e size v n xs := by
  obtain ⟨h1, h2 | ⟨g, cap, cur, e1, e2, e3⟩⟩ := h
  · exact ⟨h1, .inl h2⟩
  · exact ⟨h1, .inr ⟨g, cap, cur, e1, by omega, e3⟩⟩
theorem own_sl {w : World} {base : Nat} {e : TypeId} {size : Nat} {v : Value} {n : Nat} {xs : List Value} (h : w.ownsRow base e size v n xs) : ∃ p cap, v = .slice p n cap := by
  obtain ⟨p, cap, e, _⟩ := Sl.own h
  exact ⟨p, cap, e⟩
set_option maxHeartbeats 2000000 in
theorem put_no (m : Msg) (w : World) (h : mayM m = false) : Calls Tryz.prog 127 #[.agg m.row] w fun e w' => e = .returned (.tuple #[.slice none 0 0, .int .i64 1]) ∧ Below w.heap.size w w' := by
  have hm := fun W => may_any m W
  rw [h] at hm
  obtain ⟨k, f, t, l, o, a, own, n, v⟩ := m
  unfold Msg.row at hm ⊢
  have HM := Lib.hid hm
  clear hm h
  go_enter Tryz.func127, Tryz.ntmps127
  go_wp2_with fail
  refine (HM.out _).mono ?_
  rintro e w1 ⟨rfl, hb⟩
  have HB : Hid (Below w.heap.size w w1) := ((Below.refl _ _).alloc (Nat.le_refl _) _).trans (hb.mono (by simp))
  clear hb
  go_wp2
  go_ret2
  exact ⟨rfl, HB.out⟩

set_option maxHeartbeats 4000000 in
theorem put_yes (k f t l o a : Nat) (own : Bool) (n v : Nat) (w : World) (h : mayM ⟨k, f, t, l, o, a, own, n, v⟩ = true) (hk : k < 256) (hf : f < 256) (ht : t < 256) (hl : l < 256) (ho : o < 256) (ha : a < 256) (hn : n < 4294967296) (hv : v < 4294967296) :
    Calls Tryz.prog 127 #[.agg #[.int .i64 k, .int .i64 f, .int .i64 t, .int .i64 l, .int .i64 o, .int .i64 a, .bool own, .int .u32 n, .int .u32 v]] w fun e w' => ∃ r, e = .returned (.tuple #[r, .int .i64 0]) ∧ w'.ownsRow w.heap.size 5 1 r 19 (u8C (frameL k f t l o a own n v)) ∧ Below w.heap.size w w' := by
  have hm := fun W => may_any ⟨k, f, t, l, o, a, own, n, v⟩ W
  rw [h] at hm
  unfold Msg.row at hm
  have HM := Lib.hid hm
  have HBL := Lib.hid (body_lt (own := own) hk hf ht hl ho ha hn hv)
  clear hm h
  go_enter Tryz.func127, Tryz.ntmps127
  go_wp2_with fail
  refine (HM.out _).mono ?_
  rintro e w1 ⟨rfl, hb⟩
  have HB : Hid (Below w.heap.size w w1) := ((Below.refl _ _).alloc (Nat.le_refl _) _).trans (hb.mono (by simp))
  have HK : Hid (Blk w1 w.heap.size #[.int .i64 k, .int .i64 f, .int .i64 t, .int .i64 l, .int .i64 o, .int .i64 a, .bool own, .int .u32 n, .int .u32 v]) := Blk.track1 hb
  clear hb HM
  go_upto_region 3 with fail
  have cB := HK.out.drew.c
  have wk := wrap_u8 hk
  have wf := wrap_u8 hf
  have wt := wrap_u8 ht
  have wl := wrap_u8 hl
  have wo := wrap_u8 ho
  have wa := wrap_u8 ha
  go_cut [4] (fun s4 wc => ∃ X, s4 = .slice (some ⟨X, 0, none⟩) 7 7 ∧ w.heap.size < X ∧ Blk wc X (u8C (headL k f t l o a own)).toArray ∧ Blk wc w.heap.size #[.int .i64 k, .int .i64 f, .int .i64 t, .int .i64 l, .int .i64 o, .int .i64 a, .bool own, .int .u32 n, .int .u32 v] ∧ Below w.heap.size w wc)
  case first =>
    refine region_plan (fun w' : World => w' = w1.drew) 21 [(0, true), (1, true), (2, true), (3, true), (4, true), (5, true), (6, true), (7, true), (8, true), (9, true), (10, true), (11, true), (12, true), (13, true), (14, true), (15, true), (16, true), (17, true), (18, true), (19, true), (20, false)] (by kernel_rfl) (by kernel_rfl) rfl ?_
    iterate 20
      refine plan_read (v := ?_) rfl (by rfl) ?_ ?_
      rotate_left
      · intro w' hS
        try dsimp only at hS
        subst hS
        go_simp
        try with_reducible rfl
      try simp only [Act.put, List.setIfInBounds_toArray, List.set_cons_zero, List.set_cons_succ, List.getElem_toArray, List.getElem_cons_zero, List.getElem_cons_succ]
    refine plan_call (F := 141) (args := ?_) rfl (by rfl) ?_ ?_
    rotate_left
    · go_simp
      rfl
    refine (truth_any own _).mono ?_
    rintro e w2 ⟨rfl, rfl⟩
    refine ⟨_, rfl, rfl, ?_⟩
    try simp only [Act.put, List.setIfInBounds_toArray, List.set_cons_zero, List.set_cons_succ, List.getElem_toArray, List.getElem_cons_zero, List.getElem_cons_succ]
    refine plan_nil ?_
    simp only [List.drop_succ_cons, List.drop_zero]
    clear cB
    go_wp2_with fail
    go_meet
    case rel =>
      exact ⟨_, rfl, HK.out.lt, (Blk.new _ _ _).drew, (HK.out.alloc _).drew, (belowAlloc HB.out _).drew⟩
  case rest =>
    obtain ⟨X, rfl, hX, hbX, hbB, hbel⟩ := hcut
    obtain ⟨W3, hW3⟩ : ∃ W3, W3 = wc := ⟨_, rfl⟩
    subst hW3
    have HX := Lib.hid hX
    have HKX := Lib.hid hbX
    have HKB := Lib.hid hbB
    have HWC := Lib.hid hbel
    clear hX hbX hbB hbel wk wf wt wl wo wa HB HK
    go_upto_region 4 with fail
    have c7 : W3.drew.cell? ⟨w.heap.size, 7, none⟩ = some (.int .u32 n) := HKB.out.drew.c 7
    have c8 : W3.drew.cell? ⟨w.heap.size, 8, none⟩ = some (.int .u32 v) := HKB.out.drew.c 8
    go_cut [5] (fun s5 wd => wd.ownsRow w.heap.size 5 1 s5 15 (u8C (bodyL k f t l o a own n v)) ∧ Below w.heap.size w wd)
    case first =>
      refine region_plan (fun w' : World => w'.cell? ⟨w.heap.size, 7, none⟩ = some (.int .u32 n) ∧ w'.cell? ⟨w.heap.size, 8, none⟩ = some (.int .u32 v)) 7 [(0, true), (1, true), (2, true), (4, true), (5, true), (3, false), (6, false)] (by kernel_rfl) (by kernel_rfl) ⟨c7, c8⟩ ?_
      iterate 5
        refine plan_read (v := ?_) rfl (by rfl) ?_ ?_
        rotate_left
        · intro w' hS
          try dsimp only at hS
          go_simp
          try with_reducible rfl
        try simp only [Act.put, List.setIfInBounds_toArray, List.set_cons_zero, List.set_cons_succ, List.getElem_toArray, List.getElem_cons_zero, List.getElem_cons_succ]
      refine plan_call (F := 143) (args := ?_) rfl (by rfl) ?_ ?_
      rotate_left
      · go_simp
        rfl
      refine (bytes_any (n : Nat) _ (by omega) (by omega)).mono ?_
      rintro e w2 ⟨rfl, hw2⟩
      rw [row4_u8C] at hw2
      have HK2 : Hid (Blk w2 W3.drew.heap.size (u8C (b4 n)).toArray) := by rw [hw2]; exact Blk.new _ _ _
      have HB2 : Hid (Below W3.heap.size W3 w2) := by rw [hw2]; exact (Below.refl _ _).drew.alloc (Nat.le_refl _) _
      clear hw2
      refine ⟨_, rfl, ⟨(HKB.out.below HB2.out).c 7, (HKB.out.below HB2.out).c 8⟩, ?_⟩
      try simp only [Act.put, List.setIfInBounds_toArray, List.set_cons_zero, List.set_cons_succ, List.getElem_toArray, List.getElem_cons_zero, List.getElem_cons_succ]
      refine plan_call (F := 143) (args := ?_) rfl (by rfl) ?_ ?_
      rotate_left
      · go_simp
        rfl
      refine (bytes_any (v : Nat) _ (by omega) (by omega)).mono ?_
      rintro e w3 ⟨rfl, hw3⟩
      rw [row4_u8C] at hw3
      have HK3 : Hid (Blk w3 w2.heap.size (u8C (b4 v)).toArray) := by rw [hw3]; exact Blk.new _ _ _
      have HB3 : Hid (Below w2.heap.size w2 w3) := by rw [hw3]; exact (Below.refl _ _).alloc (Nat.le_refl _) _
      have HB13 : Hid (Below W3.heap.size W3 w3) := HB2.out.trans (HB3.out.mono HB2.out.size)
      have HK23 := Lib.hid (HK2.out.below HB3.out)
      clear hw3
      refine ⟨_, rfl, ⟨(HKB.out.below HB13.out).c 7, (HKB.out.below HB13.out).c 8⟩, ?_⟩
      try simp only [Act.put, List.setIfInBounds_toArray, List.set_cons_zero, List.set_cons_succ, List.getElem_toArray, List.getElem_cons_zero, List.getElem_cons_succ]
      refine plan_nil ?_
      simp only [List.drop_succ_cons, List.drop_zero]
      clear c7 c8
      go_wp2_with fail
      refine (concat_any _ _ _ _ 7 4 4 (headL k f t l o a own) (b4 n) (b4 v) _ rfl rfl rfl (Blk.new w3 _ _) ((blk_sl (HKX.out.below HB13.out)).below (belowAlloc (Below.refl _ _) _)) ((blk_sl HK23.out).below (belowAlloc (Below.refl _ _) _)) ((blk_sl HK3.out).below (belowAlloc (Below.refl _ _) _))).mono ?_
      rintro e w4 ⟨r, rfl, hown, hb4⟩
      have HO : Hid (w4.ownsRow w.heap.size 5 1 r 15 (u8C (bodyL k f t l o a own n v))) := Lib.hid (own_base hown (Nat.le_trans HWC.out.size (Nat.le_trans HB13.out.size (by simp))))
      have HB4 : Hid (Below w.heap.size w w4) := Lib.hid (HWC.out.trans ((HB13.out.trans ((((Below.refl _ _).alloc (Nat.le_refl _) _).trans (hb4.mono (by simp))).mono HB13.out.size)).mono HWC.out.size))
      clear hown hb4
      go_wp2_with fail
      go_meet
      case rel => exact ⟨HO.out, HB4.out⟩
    case rest =>
      obtain ⟨hown, hbel⟩ := hcut
      obtain ⟨pb, cb, rfl⟩ := own_sl hown
      have HO := Lib.hid hown
      have HB5 := Lib.hid hbel
      obtain ⟨i0, hi, hz0, hz1, hz2⟩ := info_parts info5
      have HI := Lib.hid (And.intro hi (And.intro hz0 (And.intro hz1 hz2)))
      clear hown hbel c7 c8 hi hz0 hz1 hz2
      go_wp2_with fail
      refine (sum_any pb 15 cb (bodyL k f t l o a own n v) _ rfl (by unfold maxLen; omega) (byts_own HO.out rfl HBL.out)).mono ?_
      rintro e w6 ⟨rfl, rfl⟩
      go_wp2_with fail
      have hsl := sumN_lt (bodyL k f t l o a own n v)
      refine (bytes_any ((sumN (bodyL k f t l o a own n v) : Nat) : Int) _ (by omega) (by omega)).mono ?_
      rintro e w7 ⟨rfl, hw7⟩
      rw [row4_u8C] at hw7
      have HK7 : Hid (Blk w7 wc.heap.size (u8C (b4 (sumN (bodyL k f t l o a own n v)))).toArray) := by rw [hw7]; exact Blk.new _ _ _
      have HB7 : Hid (Below wc.heap.size wc w7) := by rw [hw7]; exact (Below.refl _ _).alloc (Nat.le_refl _) _
      have HO7 : Hid (w7.ownsRow w.heap.size 5 1 (.slice pb 15 cb) 15 (u8C (bodyL k f t l o a own n v))) := by rw [hw7]; exact HO.out.alloc _
      have HB57 : Hid (Below w.heap.size w w7) := HB5.out.trans (HB7.out.mono HB5.out.size)
      clear hw7
      go_wp2_with (first | (at_builtin; refine wpList_append_sl rfl _ _ 104 rfl w.heap.size 5 i0 (.int .u8 0) 1 1 Tryz.underlying104 HI.out.1 HI.out.2.1 HI.out.2.2.1 HI.out.2.2.2 rfl (by decide) _ _ _ rfl HO7.out _ 4 4 (u8C (b4 (sumN (bodyL k f t l o a own n v)))) rfl (by rw [u8C_len]; rfl) (blk_sl HK7.out) (u8C_one _) (by decide) (by decide) HB57.out.size ?_))
      intro v' w' g1 g2 g3
      have HG : Hid (w'.ownsRow w.heap.size 5 1 v' 19 (u8C (frameL k f t l o a own n v))) := Lib.hid (by rw [u8C_app] at g1; exact g1)
      have HBN : Hid (Below w.heap.size w w') := Lib.hid (HB57.out.grown g2 HB57.out.size (fun k hk => (HO7.out.lt k hk).1))
      clear g1 g2 g3
      go_wp2
      go_ret2
      exact ⟨_, rfl, HG.out, HBN.out⟩
end Go.Proofs.YtmeomdfmljanhaaGreat
/- What bytes say: numbers of four of them, strings of them, and the message that a frame holds: word.Of, the document's Of, frame.message; no condition but that the bytes read. -/
namespace Go.Proofs.YtmeomdfmljanhaaGreat
set_option linter.unusedVariables false
open Go.ChangeShapes Go.WideShapes Go.ChangeAt Go.RowKit

theorem byts_drop {w : World} {b off n : Nat} {l : List Nat} (h : Byts w (some ⟨b, off, none⟩) l) : Byts w (some ⟨b, off + n, none⟩) (l.drop n) :=
  ⟨fun x hx => h.lt x (List.mem_of_mem_drop hx), fun h0 => by
    rw [List.length_drop] at h0
    obtain ⟨b', off', h1, h2, h3⟩ := h.c (by omega)
    injection h2 with h2
    injection h2 with e1 e2
    subst e1 e2
    refine ⟨b, off + n, h1, rfl, fun k hk => ?_⟩
    rw [List.length_drop] at hk
    rw [Nat.add_assoc, h3 (n + k) (by omega)]
    congr 3
    simp [List.getD_eq_getElem?_getD]⟩
theorem byts_take {w : World} {p : Option Addr} {n : Nat} {l : List Nat} (h : Byts w p l) : Byts w p (l.take n) :=
  ⟨fun x hx => h.lt x (List.mem_of_mem_take hx), fun h0 => by
    rw [List.length_take] at h0
    obtain ⟨b, off, h1, h2, h3⟩ := h.c (by omega)
    refine ⟨b, off, h1, h2, fun k hk => ?_⟩
    rw [List.length_take] at hk
    rw [h3 k (by omega)]
    congr 3
    simp only [List.getD_eq_getElem?_getD, List.getElem?_take]
    rw [if_pos (by omega)]⟩
theorem byts_zs {w : World} {p : Option Addr} {len : Nat} {l : List Nat} (h : Byts w p l) (hz : l.length = len) :
    0 < len → ∃ b off, b < w.heap.size ∧ p = some ⟨b, off, none⟩ ∧ ∀ k, k < len → w.cell? ⟨b, off + k, none⟩ = some (.int .u8 ((l.map fun x : Nat => (x : Int)).getD k 0)) := fun h0 => by
  obtain ⟨b, off, h1, h2, h3⟩ := h.c (by omega)
  refine ⟨b, off, h1, h2, fun k hk => ?_⟩
  rw [h3 k (by omega)]
  congr 2
  simp [List.getD, hz, hk]
theorem map_getD (l : List Nat) (k : Nat) : (l.map fun x : Nat => (x : Int)).getD k 0 = ((l.getD k 0 : Nat) : Int) := by
  simp only [List.getD_eq_getElem?_getD, List.getElem?_map]
  cases l[k]? <;> rfl
theorem zs_bd (l : List Nat) (h : ∀ x ∈ l, x < 256) (k : Nat) : 0 ≤ (l.map fun x : Nat => (x : Int)).getD k 0 ∧ (l.map fun x : Nat => (x : Int)).getD k 0 ≤ 255 := by
  rw [map_getD]
  have := getD_lt l h k
  omega
theorem of4_nat (l : List Nat) : of4 ((l.map fun x : Nat => (x : Int)).getD 0 0) ((l.map fun x : Nat => (x : Int)).getD 1 0) ((l.map fun x : Nat => (x : Int)).getD 2 0) ((l.map fun x : Nat => (x : Int)).getD 3 0) = ((ofN l : Nat) : Int) := by
  rw [map_getD, map_getD, map_getD, map_getD]
  unfold of4 ofN
  omega
theorem of_nat (p : Option Addr) (len cap : Nat) (l : List Nat) (w : World) (hz : l.length = len) (h : Byts w p l) :
    Calls Tryz.prog 102 #[.slice p len cap] w fun e w' => e = .returned (.int .u32 (ofN l : Nat)) ∧ Below w.heap.size w w' := by
  have hh := of_any p len cap (l.map fun x : Nat => (x : Int)) w (by simpa using hz) (zs_bd l h.lt) (byts_zs h hz)
  rw [of4_nat] at hh
  exact hh.mono fun e w' ⟨h1, h2⟩ => ⟨h1, by rw [h2]; exact (Below.refl _ _).alloc (Nat.le_refl _) _⟩
/-- The string of bytes. -/
def strN (l : List Nat) : ByteArray := strOfNums (l.map fun x : Nat => (x : Int))
/-- A message's row laid over another one. -/
theorem blkS9 {w : World} {X : Nat} {a0 a1 a2 a3 a4 a5 a6 a7 a8 v0 v1 v2 v3 v4 v5 v6 v7 v8 : Value} (h : Blk w X #[a0, a1, a2, a3, a4, a5, a6, a7, a8]) :
    Blk ((((((((((w.setCell ⟨X, 0, none⟩ v0).setCell ⟨X, 1, none⟩ v1).setCell ⟨X, 2, none⟩ v2).setCell ⟨X, 3, none⟩ v3).setCell ⟨X, 4, none⟩ v4).setCell ⟨X, 5, none⟩ v5).setCell ⟨X, 6, none⟩ v6).setCell ⟨X, 7, none⟩ v7).setCell ⟨X, 8, none⟩ v8)) X #[v0, v1, v2, v3, v4, v5, v6, v7, v8] :=
  ((((((((((h.set (n := 0) v0 (by simp)).set (n := 1) v1 (by simp)).set (n := 2) v2 (by simp)).set (n := 3) v3 (by simp)).set (n := 4) v4 (by simp)).set (n := 5) v5 (by simp)).set (n := 6) v6 (by simp)).set (n := 7) v7 (by simp)).set (n := 8) v8 (by simp))).cast (by simp)
theorem blkO9 {w : World} {X Y : Nat} {cs : Array Value} {v0 v1 v2 v3 v4 v5 v6 v7 v8 : Value} (h : Blk w Y cs) (hne : X ≠ Y) : Blk ((((((((((w.setCell ⟨X, 0, none⟩ v0).setCell ⟨X, 1, none⟩ v1).setCell ⟨X, 2, none⟩ v2).setCell ⟨X, 3, none⟩ v3).setCell ⟨X, 4, none⟩ v4).setCell ⟨X, 5, none⟩ v5).setCell ⟨X, 6, none⟩ v6).setCell ⟨X, 7, none⟩ v7).setCell ⟨X, 8, none⟩ v8)) Y cs := (((((((((h.other _ hne).other _ hne).other _ hne).other _ hne).other _ hne).other _ hne).other _ hne).other _ hne).other _ hne)
theorem cellO9 {w : World} {X b o : Nat} {v0 v1 v2 v3 v4 v5 v6 v7 v8 : Value} (hne : b ≠ X) : ((((((((((w.setCell ⟨X, 0, none⟩ v0).setCell ⟨X, 1, none⟩ v1).setCell ⟨X, 2, none⟩ v2).setCell ⟨X, 3, none⟩ v3).setCell ⟨X, 4, none⟩ v4).setCell ⟨X, 5, none⟩ v5).setCell ⟨X, 6, none⟩ v6).setCell ⟨X, 7, none⟩ v7).setCell ⟨X, 8, none⟩ v8)).cell? ⟨b, o, none⟩ = w.cell? ⟨b, o, none⟩ := by
  have e : ∀ (w : World) (j : Nat) (v : Value), (w.setCell ⟨X, j, none⟩ v).cell? ⟨b, o, none⟩ = w.cell? ⟨b, o, none⟩ := fun w j v => World.cell?_setCell_other _ _ _ _ (by intro e; injection e with e1; exact hne e1.symm)
  rw [e, e, e, e, e, e, e, e, e]
theorem belowS9 {w0 w : World} {X : Nat} {v0 v1 v2 v3 v4 v5 v6 v7 v8 : Value} (h : Below w0.heap.size w0 w) (hX : w0.heap.size ≤ X) : Below w0.heap.size w0 ((((((((((w.setCell ⟨X, 0, none⟩ v0).setCell ⟨X, 1, none⟩ v1).setCell ⟨X, 2, none⟩ v2).setCell ⟨X, 3, none⟩ v3).setCell ⟨X, 4, none⟩ v4).setCell ⟨X, 5, none⟩ v5).setCell ⟨X, 6, none⟩ v6).setCell ⟨X, 7, none⟩ v7).setCell ⟨X, 8, none⟩ v8)) := (((((((((h.setCell hX _).setCell hX _).setCell hX _).setCell hX _).setCell hX _).setCell hX _).setCell hX _).setCell hX _).setCell hX _)
/-- The message that nineteen bytes say. -/
def msgOf (l : List Nat) : Msg := ⟨(l.getD 0 0 : Nat), (l.getD 1 0 : Nat), (l.getD 2 0 : Nat), (l.getD 3 0 : Nat), (l.getD 4 0 : Nat), (l.getD 5 0 : Nat), l.getD 6 0 == 1, ofN (l.drop 7), ofN (l.drop 11)⟩
def formB (l : List Nat) : Bool := decide (l.getD 6 0 ≤ 1) && mayM (msgOf l)

theorem wrap_i64 {n : Nat} (h : n < 256) : IntKind.i64.wrap (n : Int) = (n : Int) := by rw [IntKind.wrap_i64]; omega
set_option maxHeartbeats 4000000 in
theorem message_any (b off cap : Nat) (l : List Nat) (w : World) (hz : l.length = 19) (hc : 19 ≤ cap) (h : Byts w (some ⟨b, off, none⟩) l) :
    Calls Tryz.prog 104 #[.slice (some ⟨b, off, none⟩) 19 cap] w fun e w' => e = .returned (.tuple #[.agg (msgOf l).row, .bool (formB l)]) ∧ Below w.heap.size w w' := by
  obtain ⟨b', off', hlt, he, hcell⟩ := h.c (by omega)
  injection he with he
  injection he with e1 e2 e3
  clear e3
  subst e1 e2
  rw [hz] at hcell
  have f0 := hcell 0 (by omega)
  have f1 := hcell 1 (by omega)
  have f2 := hcell 2 (by omega)
  have f3 := hcell 3 (by omega)
  have f4 := hcell 4 (by omega)
  have f5 := hcell 5 (by omega)
  have f6 := hcell 6 (by omega)
  rw [Nat.add_zero] at f0
  have HZ := Lib.hid hz
  have HB := Lib.hid h
  have HL := Lib.hid hlt
  have HM := Lib.hid (fun W => may_any (msgOf l) W)
  have g0 := getD_lt l h.lt 0
  have g1 := getD_lt l h.lt 1
  have g2 := getD_lt l h.lt 2
  have g3 := getD_lt l h.lt 3
  have g4 := getD_lt l h.lt 4
  have g5 := getD_lt l h.lt 5
  have g6 := getD_lt l h.lt 6
  obtain ⟨m, hm⟩ : ∃ m, m = msgOf l := ⟨_, rfl⟩
  have HE := Lib.hid hm
  unfold formB
  rw [← hm] at HM ⊢
  clear hm
  obtain ⟨x0, h0⟩ : ∃ x, x = l.getD 0 0 := ⟨_, rfl⟩
  obtain ⟨x1, h1⟩ : ∃ x, x = l.getD 1 0 := ⟨_, rfl⟩
  obtain ⟨x2, h2⟩ : ∃ x, x = l.getD 2 0 := ⟨_, rfl⟩
  obtain ⟨x3, h3⟩ : ∃ x, x = l.getD 3 0 := ⟨_, rfl⟩
  obtain ⟨x4, h4⟩ : ∃ x, x = l.getD 4 0 := ⟨_, rfl⟩
  obtain ⟨x5, h5⟩ : ∃ x, x = l.getD 5 0 := ⟨_, rfl⟩
  obtain ⟨x6, h6⟩ : ∃ x, x = l.getD 6 0 := ⟨_, rfl⟩
  rw [← h6] at g6 ⊢
  rw [← h0] at f0 g0
  rw [← h1] at f1 g1
  rw [← h2] at f2 g2
  rw [← h3] at f3 g3
  rw [← h4] at f4 g4
  rw [← h5] at f5 g5
  rw [← h6] at f6
  have HR : Hid (m.row = #[.int .i64 x0, .int .i64 x1, .int .i64 x2, .int .i64 x3, .int .i64 x4, .int .i64 x5, .bool ((x6 : Int) == 1), .int .u32 (ofN (l.drop 7) : Nat), .int .u32 (ofN (l.drop 11) : Nat)]) := Lib.hid (by
    rw [HE.out, h0, h1, h2, h3, h4, h5, h6]
    unfold msgOf Msg.row
    simp only
    congr 8
    congr 1
    rw [Bool.eq_iff_iff, beq_iff_eq, beq_iff_eq]
    omega)
  clear h hlt hcell h0 h1 h2 h3 h4 h5 h6 hz HE
  have w0 := wrap_i64 g0
  have w1 := wrap_i64 g1
  have w2 := wrap_i64 g2
  have w3 := wrap_i64 g3
  have w4 := wrap_i64 g4
  have w5 := wrap_i64 g5
  clear g0 g1 g2 g3 g4 g5
  have n7 : cap ≠ 7 := by omega
  have n11 : cap ≠ 11 := by omega
  go_enter Tryz.func104, Tryz.ntmps104
  go_upto_region 1 with fail
  obtain ⟨z, hzz⟩ : ∃ z, z = w.alloc (.cells #[.int .i64 0, .int .i64 0, .int .i64 0, .int .i64 0, .int .i64 0, .int .i64 0, .bool false, .int .u32 0, .int .u32 0] 70) := ⟨_, rfl⟩
  have HBZ : Hid (Below w.heap.size w z) := by rw [hzz]; exact (Below.refl _ _).alloc (Nat.le_refl _) _
  rw [← hzz]
  have LZ : Hid (b < z.heap.size) := Lib.hid (Nat.lt_of_lt_of_le HL.out HBZ.out.size)
  have z0 : Hid (z.cell? ⟨b, off, none⟩ = some (.int .u8 x0) ∧ z.cell? ⟨b, off + 1, none⟩ = some (.int .u8 x1) ∧ z.cell? ⟨b, off + 2, none⟩ = some (.int .u8 x2) ∧ z.cell? ⟨b, off + 3, none⟩ = some (.int .u8 x3) ∧ z.cell? ⟨b, off + 4, none⟩ = some (.int .u8 x4) ∧ z.cell? ⟨b, off + 5, none⟩ = some (.int .u8 x5) ∧ z.cell? ⟨b, off + 6, none⟩ = some (.int .u8 x6)) := Lib.hid ⟨((HBZ.out.cell (p := ⟨b, off, none⟩) HL.out).trans f0), ((HBZ.out.cell (p := ⟨b, off + 1, none⟩) HL.out).trans f1), ((HBZ.out.cell (p := ⟨b, off + 2, none⟩) HL.out).trans f2), ((HBZ.out.cell (p := ⟨b, off + 3, none⟩) HL.out).trans f3), ((HBZ.out.cell (p := ⟨b, off + 4, none⟩) HL.out).trans f4), ((HBZ.out.cell (p := ⟨b, off + 5, none⟩) HL.out).trans f5), ((HBZ.out.cell (p := ⟨b, off + 6, none⟩) HL.out).trans f6)⟩
  have keepS : Hid (∀ u : World, Below z.heap.size z u → (u.cell? ⟨b, off, none⟩ = some (.int .u8 x0) ∧ u.cell? ⟨b, off + 1, none⟩ = some (.int .u8 x1) ∧ u.cell? ⟨b, off + 2, none⟩ = some (.int .u8 x2) ∧ u.cell? ⟨b, off + 3, none⟩ = some (.int .u8 x3) ∧ u.cell? ⟨b, off + 4, none⟩ = some (.int .u8 x4) ∧ u.cell? ⟨b, off + 5, none⟩ = some (.int .u8 x5) ∧ u.cell? ⟨b, off + 6, none⟩ = some (.int .u8 x6))) := Lib.hid (fun u hb => ⟨(hb.cell (p := ⟨b, off, none⟩) LZ.out).trans z0.out.1, (hb.cell (p := ⟨b, off + 1, none⟩) LZ.out).trans z0.out.2.1, (hb.cell (p := ⟨b, off + 2, none⟩) LZ.out).trans z0.out.2.2.1, (hb.cell (p := ⟨b, off + 3, none⟩) LZ.out).trans z0.out.2.2.2.1, (hb.cell (p := ⟨b, off + 4, none⟩) LZ.out).trans z0.out.2.2.2.2.1, (hb.cell (p := ⟨b, off + 5, none⟩) LZ.out).trans z0.out.2.2.2.2.2.1, (hb.cell (p := ⟨b, off + 6, none⟩) LZ.out).trans z0.out.2.2.2.2.2.2⟩)
  have HBY : Hid (Byts z (some ⟨b, off, none⟩) l) := Lib.hid (HB.out.below HBZ.out)
  have HZ2 : Hid (Blk z w.heap.size #[.int .i64 0, .int .i64 0, .int .i64 0, .int .i64 0, .int .i64 0, .int .i64 0, .bool false, .int .u32 0, .int .u32 0]) := Lib.hid (by rw [hzz]; exact Blk.new w _ 70)
  clear hzz f0 f1 f2 f3 f4 f5 f6
  go_cut [4] (fun s4 wc => ∃ X, s4 = .pointer (some ⟨X, 0, none⟩) ∧ z.heap.size ≤ X ∧ Blk wc X m.row ∧ Below z.heap.size z wc)
  case first =>
    refine region_planT (fun w' : World => w'.cell? ⟨b, off, none⟩ = some (.int .u8 x0) ∧ w'.cell? ⟨b, off + 1, none⟩ = some (.int .u8 x1) ∧ w'.cell? ⟨b, off + 2, none⟩ = some (.int .u8 x2) ∧ w'.cell? ⟨b, off + 3, none⟩ = some (.int .u8 x3) ∧ w'.cell? ⟨b, off + 4, none⟩ = some (.int .u8 x4) ∧ w'.cell? ⟨b, off + 5, none⟩ = some (.int .u8 x5) ∧ w'.cell? ⟨b, off + 6, none⟩ = some (.int .u8 x6)) 36 (.read 0 (.read 1 (.read 2 (.read 3 (.read 4 (.read 5 (.read 6 (.read 7 (.read 8 (.read 9 (.read 10 (.read 11 (.read 12 (.read 13 (.read 14 (.read 15 (.read 16 (.read 17 (.read 18 (.read 19 (.read 20 (.read 21 (.read 22 (.read 23 (.read 24 (.read 25 (.read 26 (.read 27 (.read 28 (.read 29 (.read 31 (.read 32 (.two 30 35 (.two 33 35 (.read 34 (.one 35 .stop)) (.one 33 (.read 34 .stop))) (.one 30 (.one 33 (.read 34 .stop)))))))))))))))))))))))))))))))))))) (by kernel_rfl) (by kernel_rfl) (keepS.out _ (Below.refl _ _).drew) ?_
    iterate 32
      refine planT_read (v := ?_) rfl (by rfl) ?_ ?_
      rotate_left
      · intro w' hS
        try dsimp only at hS
        go_simp
        try with_reducible rfl
      try simp only [Act.put, List.setIfInBounds_toArray, List.set_cons_zero, List.set_cons_succ, List.getElem_toArray, List.getElem_cons_zero, List.getElem_cons_succ]
    have hz0 : Hid (Below z.heap.size z z.drew) := Lib.hid (Below.refl _ _).drew
    refine planT_two ?_ ?_
    · refine op_call (F := 102) (args := ?_) rfl (by rfl) ?_ ?_
      rotate_left
      · go_simp
        rfl
      refine (of_nat _ 12 _ (l.drop 7) _ (by rw [List.length_drop, HZ.out]) ((byts_drop HBY.out).below hz0.out)).mono ?_
      rintro e u1 ⟨rfl, hbX⟩
      have Hu1 : Hid (Below z.heap.size z u1) := Lib.hid ((hz0.out).trans (hbX.mono (hz0.out).size))
      clear hbX
      refine ⟨_, rfl, keepS.out _ Hu1.out, ?_⟩
      try simp only [Act.put, List.setIfInBounds_toArray, List.set_cons_zero, List.set_cons_succ, List.getElem_toArray, List.getElem_cons_zero, List.getElem_cons_succ]
      refine planT_two ?_ ?_
      · refine op_call (F := 102) (args := ?_) rfl (by rfl) ?_ ?_
        rotate_left
        · go_simp
          rfl
        refine (of_nat _ 8 _ (l.drop 11) _ (by rw [List.length_drop, HZ.out]) ((byts_drop HBY.out).below Hu1.out)).mono ?_
        rintro e u2 ⟨rfl, hbX⟩
        have Hu2 : Hid (Below z.heap.size z u2) := Lib.hid ((Hu1.out).trans (hbX.mono (Hu1.out).size))
        clear hbX
        refine ⟨_, rfl, keepS.out _ Hu2.out, ?_⟩
        try simp only [Act.put, List.setIfInBounds_toArray, List.set_cons_zero, List.set_cons_succ, List.getElem_toArray, List.getElem_cons_zero, List.getElem_cons_succ]
        iterate 1
          refine planT_read (v := ?_) rfl (by rfl) ?_ ?_
          rotate_left
          · intro w' hS
            try dsimp only at hS
            go_simp
            try with_reducible rfl
          try simp only [Act.put, List.setIfInBounds_toArray, List.set_cons_zero, List.set_cons_succ, List.getElem_toArray, List.getElem_cons_zero, List.getElem_cons_succ]
        refine planT_one ?_
        refine op_make (v := .pointer (some ⟨u2.heap.size, 0, none⟩)) (w1 := (u2.alloc (.cells #[.int .i64 0, .int .i64 0, .int .i64 0, .int .i64 0, .int .i64 0, .int .i64 0, .bool false, .int .u32 0, .int .u32 0] 70))) rfl (by rfl) ?_ ?_
        · go_simp
        obtain ⟨u3, hu3⟩ : ∃ u, u = (u2.alloc (.cells #[.int .i64 0, .int .i64 0, .int .i64 0, .int .i64 0, .int .i64 0, .int .i64 0, .bool false, .int .u32 0, .int .u32 0] 70)) := ⟨_, rfl⟩
        have Ku3 : Hid (Blk u3 u2.heap.size #[.int .i64 0, .int .i64 0, .int .i64 0, .int .i64 0, .int .i64 0, .int .i64 0, .bool false, .int .u32 0, .int .u32 0]) := Lib.hid (by rw [hu3]; exact Blk.new _ _ 70)
        have Hu3 : Hid (Below z.heap.size z u3) := Lib.hid (by rw [hu3]; exact (Hu2.out).alloc (Hu2.out).size _)
        rw [← hu3]
        clear hu3
        refine ⟨keepS.out _ Hu3.out, ?_⟩
        try simp only [Act.put, List.setIfInBounds_toArray, List.set_cons_zero, List.set_cons_succ, List.getElem_toArray, List.getElem_cons_zero, List.getElem_cons_succ]
        refine planT_stop ?_
        simp only [List.drop_succ_cons, List.drop_zero]
        have hge : Hid (z.heap.size ≤ u2.heap.size) := Lib.hid (Hu2.out.size)
        have cX := Ku3.out.c
        have fX := Ku3.out.f
        have lX := Ku3.out.lt
        go_wp2_with fail
        go_meet
        case rel =>
          rw [HR.out]
          exact ⟨_, rfl, hge.out, blkS9 Ku3.out, belowS9 Hu3.out hge.out⟩
      · refine op_make (v := .pointer (some ⟨u1.heap.size, 0, none⟩)) (w1 := (u1.alloc (.cells #[.int .i64 0, .int .i64 0, .int .i64 0, .int .i64 0, .int .i64 0, .int .i64 0, .bool false, .int .u32 0, .int .u32 0] 70))) rfl (by rfl) ?_ ?_
        · go_simp
        obtain ⟨u2, hu2⟩ : ∃ u, u = (u1.alloc (.cells #[.int .i64 0, .int .i64 0, .int .i64 0, .int .i64 0, .int .i64 0, .int .i64 0, .bool false, .int .u32 0, .int .u32 0] 70)) := ⟨_, rfl⟩
        have Ku2 : Hid (Blk u2 u1.heap.size #[.int .i64 0, .int .i64 0, .int .i64 0, .int .i64 0, .int .i64 0, .int .i64 0, .bool false, .int .u32 0, .int .u32 0]) := Lib.hid (by rw [hu2]; exact Blk.new _ _ 70)
        have Hu2 : Hid (Below z.heap.size z u2) := Lib.hid (by rw [hu2]; exact (Hu1.out).alloc (Hu1.out).size _)
        rw [← hu2]
        clear hu2
        refine ⟨keepS.out _ Hu2.out, ?_⟩
        try simp only [Act.put, List.setIfInBounds_toArray, List.set_cons_zero, List.set_cons_succ, List.getElem_toArray, List.getElem_cons_zero, List.getElem_cons_succ]
        refine planT_one ?_
        refine op_call (F := 102) (args := ?_) rfl (by rfl) ?_ ?_
        rotate_left
        · go_simp
          rfl
        refine (of_nat _ 8 _ (l.drop 11) _ (by rw [List.length_drop, HZ.out]) ((byts_drop HBY.out).below Hu2.out)).mono ?_
        rintro e u3 ⟨rfl, hbX⟩
        have Hu3 : Hid (Below z.heap.size z u3) := Lib.hid ((Hu2.out).trans (hbX.mono (Hu2.out).size))
        have Ku3 := Lib.hid (Ku2.out.below hbX)
        clear hbX
        refine ⟨_, rfl, keepS.out _ Hu3.out, ?_⟩
        try simp only [Act.put, List.setIfInBounds_toArray, List.set_cons_zero, List.set_cons_succ, List.getElem_toArray, List.getElem_cons_zero, List.getElem_cons_succ]
        iterate 1
          refine planT_read (v := ?_) rfl (by rfl) ?_ ?_
          rotate_left
          · intro w' hS
            try dsimp only at hS
            go_simp
            try with_reducible rfl
          try simp only [Act.put, List.setIfInBounds_toArray, List.set_cons_zero, List.set_cons_succ, List.getElem_toArray, List.getElem_cons_zero, List.getElem_cons_succ]
        refine planT_stop ?_
        simp only [List.drop_succ_cons, List.drop_zero]
        have hge : Hid (z.heap.size ≤ u1.heap.size) := Lib.hid (Hu1.out.size)
        have cX := Ku3.out.c
        have fX := Ku3.out.f
        have lX := Ku3.out.lt
        go_wp2_with fail
        go_meet
        case rel =>
          rw [HR.out]
          exact ⟨_, rfl, hge.out, blkS9 Ku3.out, belowS9 Hu3.out hge.out⟩
    · refine op_make (v := .pointer (some ⟨z.heap.size, 0, none⟩)) (w1 := (z.drew.alloc (.cells #[.int .i64 0, .int .i64 0, .int .i64 0, .int .i64 0, .int .i64 0, .int .i64 0, .bool false, .int .u32 0, .int .u32 0] 70))) rfl (by rfl) ?_ ?_
      · go_simp
      obtain ⟨u1, hu1⟩ : ∃ u, u = (z.drew.alloc (.cells #[.int .i64 0, .int .i64 0, .int .i64 0, .int .i64 0, .int .i64 0, .int .i64 0, .bool false, .int .u32 0, .int .u32 0] 70)) := ⟨_, rfl⟩
      have Ku1 : Hid (Blk u1 z.heap.size #[.int .i64 0, .int .i64 0, .int .i64 0, .int .i64 0, .int .i64 0, .int .i64 0, .bool false, .int .u32 0, .int .u32 0]) := Lib.hid (by rw [hu1]; exact Blk.new _ _ 70)
      have Hu1 : Hid (Below z.heap.size z u1) := Lib.hid (by rw [hu1]; exact (hz0.out).alloc (hz0.out).size _)
      rw [← hu1]
      clear hu1
      refine ⟨keepS.out _ Hu1.out, ?_⟩
      try simp only [Act.put, List.setIfInBounds_toArray, List.set_cons_zero, List.set_cons_succ, List.getElem_toArray, List.getElem_cons_zero, List.getElem_cons_succ]
      refine planT_one ?_
      refine op_call (F := 102) (args := ?_) rfl (by rfl) ?_ ?_
      rotate_left
      · go_simp
        rfl
      refine (of_nat _ 12 _ (l.drop 7) _ (by rw [List.length_drop, HZ.out]) ((byts_drop HBY.out).below Hu1.out)).mono ?_
      rintro e u2 ⟨rfl, hbX⟩
      have Hu2 : Hid (Below z.heap.size z u2) := Lib.hid ((Hu1.out).trans (hbX.mono (Hu1.out).size))
      have Ku2 := Lib.hid (Ku1.out.below hbX)
      clear hbX
      refine ⟨_, rfl, keepS.out _ Hu2.out, ?_⟩
      try simp only [Act.put, List.setIfInBounds_toArray, List.set_cons_zero, List.set_cons_succ, List.getElem_toArray, List.getElem_cons_zero, List.getElem_cons_succ]
      refine planT_one ?_
      refine op_call (F := 102) (args := ?_) rfl (by rfl) ?_ ?_
      rotate_left
      · go_simp
        rfl
      refine (of_nat _ 8 _ (l.drop 11) _ (by rw [List.length_drop, HZ.out]) ((byts_drop HBY.out).below Hu2.out)).mono ?_
      rintro e u3 ⟨rfl, hbX⟩
      have Hu3 : Hid (Below z.heap.size z u3) := Lib.hid ((Hu2.out).trans (hbX.mono (Hu2.out).size))
      have Ku3 := Lib.hid (Ku2.out.below hbX)
      clear hbX
      refine ⟨_, rfl, keepS.out _ Hu3.out, ?_⟩
      try simp only [Act.put, List.setIfInBounds_toArray, List.set_cons_zero, List.set_cons_succ, List.getElem_toArray, List.getElem_cons_zero, List.getElem_cons_succ]
      iterate 1
        refine planT_read (v := ?_) rfl (by rfl) ?_ ?_
        rotate_left
        · intro w' hS
          try dsimp only at hS
          go_simp
          try with_reducible rfl
        try simp only [Act.put, List.setIfInBounds_toArray, List.set_cons_zero, List.set_cons_succ, List.getElem_toArray, List.getElem_cons_zero, List.getElem_cons_succ]
      refine planT_stop ?_
      simp only [List.drop_succ_cons, List.drop_zero]
      have hge : Hid (z.heap.size ≤ z.heap.size) := Lib.hid (hz0.out.size)
      have cX := Ku3.out.c
      have fX := Ku3.out.f
      have lX := Ku3.out.lt
      go_wp2_with fail
      go_meet
      case rel =>
        rw [HR.out]
        exact ⟨_, rfl, hge.out, blkS9 Ku3.out, belowS9 Hu3.out hge.out⟩
  case rest =>
    obtain ⟨X, rfl, hX, hbX, hbz⟩ := hcut
    rw [HR.out] at hbX
    obtain ⟨W, hW⟩ : ∃ W, W = wc := ⟨_, rfl⟩
    subst hW
    have HX := Lib.hid hX
    have HK := Lib.hid hbX
    have HBW := Lib.hid hbz
    have HT : Hid (Blk W w.heap.size #[.int .i64 0, .int .i64 0, .int .i64 0, .int .i64 0, .int .i64 0, .int .i64 0, .bool false, .int .u32 0, .int .u32 0]) := Lib.hid (HZ2.out.below hbz)
    have f6 := (keepS.out W hbz).2.2.2.2.2.2
    have HF6 := Lib.hid f6
    have HML : Hid (∀ V, Calls Tryz.prog 126 #[.agg #[.int .i64 x0, .int .i64 x1, .int .i64 x2, .int .i64 x3, .int .i64 x4, .int .i64 x5, .bool ((x6 : Int) == 1), .int .u32 (ofN (l.drop 7) : Nat), .int .u32 (ofN (l.drop 11) : Nat)]] V fun e w' => e = .returned (.bool (mayM m)) ∧ Below V.heap.size V w') := Lib.hid (by have := HM.out; rw [HR.out] at this; exact this)
    have lX := hbX.lt
    have HLX := Lib.hid lX
    have cX := hbX.c
    clear hX hbX hbz HM w0 w1 w2 w3 w4 w5
    have LW : Hid (b < W.heap.size) := Lib.hid (Nat.lt_of_lt_of_le LZ.out HBW.out.size)
    have HNB : Hid (b ≠ w.heap.size) := Lib.hid (Nat.ne_of_lt HL.out)
    have hne : Hid (w.heap.size ≠ X) := Lib.hid (by have := HZ2.out.lt; have := HX.out; omega)
    go_wp2_with fail
    have keep2 : Hid (∀ u : World, Below W.heap.size W u → ((∀ j, u.cell? ⟨X, j, none⟩ = (#[.int .i64 x0, .int .i64 x1, .int .i64 x2, .int .i64 x3, .int .i64 x4, .int .i64 x5, .bool ((x6 : Int) == 1), .int .u32 (ofN (l.drop 7) : Nat), .int .u32 (ofN (l.drop 11) : Nat)] : Array Value)[j]?) ∧ u.cell? ⟨b, off + 6, none⟩ = some (.int .u8 x6))) := Lib.hid (fun u hb => ⟨(HK.out.below hb).c, (hb.cell (p := ⟨b, off + 6, none⟩) LW.out).trans HF6.out⟩)
    refine region_plan (fun w' : World => (∀ j, w'.cell? ⟨X, j, none⟩ = (#[.int .i64 x0, .int .i64 x1, .int .i64 x2, .int .i64 x3, .int .i64 x4, .int .i64 x5, .bool ((x6 : Int) == 1), .int .u32 (ofN (l.drop 7) : Nat), .int .u32 (ofN (l.drop 11) : Nat)] : Array Value)[j]?) ∧ w'.cell? ⟨b, off + 6, none⟩ = some (.int .u8 x6)) 10 [(0, true), (1, true), (2, true), (3, true), (4, true), (5, true), (6, true), (7, false), (8, true), (9, false)] (by kernel_rfl) (by kernel_rfl) (keep2.out _ (Below.refl _ _).drew) ?_
    clear cX f6 lX
    by_cases h1 : x6 ≤ 1
    · have d1 : decide ((x6 : Int) ≤ 1) = true := decide_eq_true (by omega)
      have e1 : (decide (x6 ≤ 1) && mayM m) = mayM m := by rw [decide_eq_true h1, Bool.true_and]
      have HE1 := Lib.hid e1
      clear e1 h1
      iterate 7
        refine plan_read (v := ?_) rfl (by rfl) ?_ ?_
        rotate_left
        · intro w' hS
          try dsimp only at hS
          go_simp
          try with_reducible rfl
        try simp only [Act.put, List.setIfInBounds_toArray, List.set_cons_zero, List.set_cons_succ, List.getElem_toArray, List.getElem_cons_zero, List.getElem_cons_succ, d1]
      refine plan_call (F := 126) (args := ?_) rfl (by rfl) ?_ ?_
      rotate_left
      · go_simp
        rfl
      refine (HML.out _).mono ?_
      rintro e w6 ⟨rfl, hb6⟩
      have HB6 : Hid (Below W.heap.size W w6) := Lib.hid ((Below.refl _ _).drew.trans hb6)
      clear hb6
      refine ⟨_, rfl, keep2.out _ HB6.out, ?_⟩
      try simp only [Act.put, List.setIfInBounds_toArray, List.set_cons_zero, List.set_cons_succ, List.getElem_toArray, List.getElem_cons_zero, List.getElem_cons_succ, d1]
      iterate 1
        refine plan_read (v := ?_) rfl (by rfl) ?_ ?_
        rotate_left
        · intro w' hS
          try dsimp only at hS
          go_simp
          try with_reducible rfl
        try simp only [Act.put, List.setIfInBounds_toArray, List.set_cons_zero, List.set_cons_succ, List.getElem_toArray, List.getElem_cons_zero, List.getElem_cons_succ, d1]
      have HT6 : Hid (Blk w6 w.heap.size #[.int .i64 0, .int .i64 0, .int .i64 0, .int .i64 0, .int .i64 0, .int .i64 0, .bool false, .int .u32 0, .int .u32 0]) := Lib.hid (HT.out.below HB6.out)
      have cT := HT6.out.c
      have fT := HT6.out.f
      have lT := HT6.out.lt
      have hK6 := keep2.out w6 HB6.out
      have HK6 := Lib.hid (And.intro (HK.out.below HB6.out) hK6.2)
      clear d1 hK6
      refine plan_store (w1 := ?_) rfl (by rfl) ?_ ?_ ?_
      rotate_left
      · go_simp
        rfl
      · exact ⟨(blkO9 HK6.out.1 hne.out).c, (cellO9 HNB.out).trans HK6.out.2⟩
      try simp only [Act.put, List.setIfInBounds_toArray, List.set_cons_zero, List.set_cons_succ, List.getElem_toArray, List.getElem_cons_zero, List.getElem_cons_succ]
      refine plan_nil ?_
      simp only [List.drop_succ_cons, List.drop_zero]
      go_wp2_with fail
      refine bodyPost_ret (v := .tuple #[.agg #[.int .i64 x0, .int .i64 x1, .int .i64 x2, .int .i64 x3, .int .i64 x4, .int .i64 x5, .bool ((x6 : Int) == 1), .int .u32 (ofN (l.drop 7) : Nat), .int .u32 (ofN (l.drop 11) : Nat)], .bool (mayM m)]) (by simp [results, Tryz.results104, go_sem, *]) rfl ⟨by rw [HR.out, HE1.out], belowS9 (HBZ.out.trans ((HBW.out.trans (HB6.out.mono HBW.out.size)).mono HBZ.out.size)) (Nat.le_refl _)⟩
    · have d1 : decide ((x6 : Int) ≤ 1) = false := decide_eq_false (by omega)
      have e1 : (decide (x6 ≤ 1) && mayM m) = false := by rw [decide_eq_false h1, Bool.false_and]
      have HE1 := Lib.hid e1
      clear e1 h1
      iterate 6
        refine plan_read (v := ?_) rfl (by rfl) ?_ ?_
        rotate_left
        · intro w' hS
          try dsimp only at hS
          go_simp
          try with_reducible rfl
        try simp only [Act.put, List.setIfInBounds_toArray, List.set_cons_zero, List.set_cons_succ, List.getElem_toArray, List.getElem_cons_zero, List.getElem_cons_succ, d1]
      refine plan_skip rfl (by rfl) ?_
      try simp only [Act.put, List.setIfInBounds_toArray, List.set_cons_zero, List.set_cons_succ, List.getElem_toArray, List.getElem_cons_zero, List.getElem_cons_succ, d1]
      refine plan_skipc rfl (by rfl) (keep2.out _ (Below.refl _ _).drew) ?_
      try simp only [Act.put, List.setIfInBounds_toArray, List.set_cons_zero, List.set_cons_succ, List.getElem_toArray, List.getElem_cons_zero, List.getElem_cons_succ, d1]
      iterate 1
        refine plan_read (v := ?_) rfl (by rfl) ?_ ?_
        rotate_left
        · intro w' hS
          try dsimp only at hS
          go_simp
          try with_reducible rfl
        try simp only [Act.put, List.setIfInBounds_toArray, List.set_cons_zero, List.set_cons_succ, List.getElem_toArray, List.getElem_cons_zero, List.getElem_cons_succ, d1]
      obtain ⟨w6, hw6⟩ : ∃ w6, w6 = W.drew := ⟨_, rfl⟩
      rw [← hw6]
      have HB6 : Hid (Below W.heap.size W w6) := Lib.hid (by rw [hw6]; exact (Below.refl _ _).drew)
      clear hw6
      have HT6 : Hid (Blk w6 w.heap.size #[.int .i64 0, .int .i64 0, .int .i64 0, .int .i64 0, .int .i64 0, .int .i64 0, .bool false, .int .u32 0, .int .u32 0]) := Lib.hid (HT.out.below HB6.out)
      have cT := HT6.out.c
      have fT := HT6.out.f
      have lT := HT6.out.lt
      have hK6 := keep2.out w6 HB6.out
      have HK6 := Lib.hid (And.intro (HK.out.below HB6.out) hK6.2)
      clear d1 hK6
      refine plan_store (w1 := ?_) rfl (by rfl) ?_ ?_ ?_
      rotate_left
      · go_simp
        rfl
      · exact ⟨(blkO9 HK6.out.1 hne.out).c, (cellO9 HNB.out).trans HK6.out.2⟩
      try simp only [Act.put, List.setIfInBounds_toArray, List.set_cons_zero, List.set_cons_succ, List.getElem_toArray, List.getElem_cons_zero, List.getElem_cons_succ]
      refine plan_nil ?_
      simp only [List.drop_succ_cons, List.drop_zero]
      go_wp2_with fail
      refine bodyPost_ret (v := .tuple #[.agg #[.int .i64 x0, .int .i64 x1, .int .i64 x2, .int .i64 x3, .int .i64 x4, .int .i64 x5, .bool ((x6 : Int) == 1), .int .u32 (ofN (l.drop 7) : Nat), .int .u32 (ofN (l.drop 11) : Nat)], .bool false]) (by simp [results, Tryz.results104, go_sem, *]) rfl ⟨by rw [HR.out, HE1.out], belowS9 (HBZ.out.trans ((HBW.out.trans (HB6.out.mono HBW.out.size)).mono HBZ.out.size)) (Nat.le_refl _)⟩
end Go.Proofs.YtmeomdfmljanhaaGreat
/- What frame.Read answers: the message of nineteen bytes, or its error; no condition but that the bytes read. -/
namespace Go.Proofs.YtmeomdfmljanhaaGreat
set_option linter.unusedVariables false
open Go.ChangeShapes Go.WideShapes Go.ChangeAt Go.RowKit

def zeroM : Msg := ⟨0, 0, 0, 0, 0, 0, false, 0, 0⟩
def readE (l : List Nat) : Int := if l.length < 19 then 3 else if 19 < l.length then 4 else if fitsB l then (if formB l then 0 else 2) else 5
def readM (l : List Nat) : Msg := if readE l = 0 then msgOf l else zeroM
theorem readE_short {l : List Nat} (h : l.length < 19) : readE l = 3 := by unfold readE; rw [if_pos h]
theorem readE_long {l : List Nat} (h : 19 < l.length) : readE l = 4 := by unfold readE; rw [if_neg (by omega), if_pos h]
theorem readE_sum {l : List Nat} (h : l.length = 19) (hf : fitsB l = false) : readE l = 5 := by unfold readE; rw [if_neg (by omega), if_neg (by omega), if_neg (by rw [hf]; decide)]
theorem readE_ok {l : List Nat} (h : l.length = 19) (hf : fitsB l = true) : readE l = if formB l then 0 else 2 := by unfold readE; rw [if_neg (by omega), if_neg (by omega), if_pos hf]
theorem readM_no {l : List Nat} (h : readE l ≠ 0) : readM l = zeroM := by unfold readM; rw [if_neg h]
theorem zero_row : zeroM.row = #[.int .i64 0, .int .i64 0, .int .i64 0, .int .i64 0, .int .i64 0, .int .i64 0, .bool false, .int .u32 0, .int .u32 0] := rfl

set_option maxHeartbeats 2000000 in
theorem read_len (p : Option Addr) (len cap : Nat) (l : List Nat) (w : World) (hz : l.length = len) (hm : len ≤ maxLen) (hn : len < 19 ∨ 19 < len) :
    Calls Tryz.prog 71 #[.slice p len cap] w fun e w' => e = .returned (.tuple #[.agg (readM l).row, .int .i64 (readE l)]) ∧ Below w.heap.size w w' := by
  unfold maxLen at hm
  rcases hn with hn | hn
  · rw [readM_no (by rw [readE_short (by omega)]; decide), readE_short (by omega), zero_row]
    have hz2 : (len : Int) < 19 := by omega
    clear hz hn
    go_enter Tryz.func71, Tryz.ntmps71
    go_wp2
    exact bodyPost_ret (v := .tuple #[.agg #[.int .i64 0, .int .i64 0, .int .i64 0, .int .i64 0, .int .i64 0, .int .i64 0, .bool false, .int .u32 0, .int .u32 0], .int .i64 3]) (by simp [results, Tryz.results71, go_sem, *]) rfl ⟨rfl, by repeat (first | exact Below.refl _ _ | apply belowAlloc | apply belowS9)⟩
  · rw [readM_no (by rw [readE_long (by omega)]; decide), readE_long (by omega), zero_row]
    have hz2 : ¬ (len : Int) < 19 := by omega
    have hz3 : (19 : Int) < len := by omega
    clear hz hn
    go_enter Tryz.func71, Tryz.ntmps71
    go_wp2
    exact bodyPost_ret (v := .tuple #[.agg #[.int .i64 0, .int .i64 0, .int .i64 0, .int .i64 0, .int .i64 0, .int .i64 0, .bool false, .int .u32 0, .int .u32 0], .int .i64 4]) (by simp [results, Tryz.results71, go_sem, *]) rfl ⟨rfl, by repeat (first | exact Below.refl _ _ | apply belowAlloc | apply belowS9)⟩

set_option maxHeartbeats 4000000 in
theorem read_19 (p : Option Addr) (cap : Nat) (l : List Nat) (w : World) (hz : l.length = 19) (hc : 19 ≤ cap) (h : Byts w p l) :
    Calls Tryz.prog 71 #[.slice p 19 cap] w fun e w' => e = .returned (.tuple #[.agg (readM l).row, .int .i64 (readE l)]) ∧ Below w.heap.size w w' := by
  obtain ⟨b, off, hlt, rfl, hcell⟩ := h.c (by omega)
  have HZ := Lib.hid hz
  have HB := Lib.hid h
  obtain ⟨r, hr⟩ : ∃ r, r = (readM l).row := ⟨_, rfl⟩
  obtain ⟨er, her⟩ : ∃ er, er = readE l := ⟨_, rfl⟩
  have HR := Lib.hid hr
  have HE := Lib.hid her
  rw [← hr, ← her]
  have n15 : cap ≠ 15 := by omega
  have c15 : (15 : Int) ≤ (cap : Int) := by omega
  have HC19 := Lib.hid hc
  clear hz h hlt hcell hr her hc
  go_enter Tryz.func71, Tryz.ntmps71
  go_upto_region 5 with fail
  obtain ⟨z, hzz⟩ : ∃ z, z = w.alloc (.cells #[.int .i64 0, .int .i64 0, .int .i64 0, .int .i64 0, .int .i64 0, .int .i64 0, .bool false, .int .u32 0, .int .u32 0] 70) := ⟨_, rfl⟩
  have HBZ : Hid (Below w.heap.size w z) := by rw [hzz]; exact (Below.refl _ _).alloc (Nat.le_refl _) _
  have HKZ : Hid (Blk z w.heap.size #[.int .i64 0, .int .i64 0, .int .i64 0, .int .i64 0, .int .i64 0, .int .i64 0, .bool false, .int .u32 0, .int .u32 0]) := by rw [hzz]; exact Blk.new w _ 70
  rw [← hzz]
  clear hzz
  have HBY : Hid (Byts z (some ⟨b, off, none⟩) l) := Lib.hid (HB.out.below HBZ.out)
  go_cut [16] (fun s16 wc => s16 = .bool (!fitsB l) ∧ Below z.heap.size z wc)
  case first =>
    refine region_plan (fun w' : World => Below z.heap.size z w') 6 [(0, true), (1, true), (3, true), (4, true), (2, false), (5, false)] (by kernel_rfl) (by kernel_rfl) (Below.refl _ _).drew ?_
    iterate 4
      refine plan_read (v := ?_) rfl (by rfl) ?_ ?_
      rotate_left
      · intro w' hS
        try dsimp only at hS
        go_simp
        try with_reducible rfl
      try simp only [Act.put, List.setIfInBounds_toArray, List.set_cons_zero, List.set_cons_succ, List.getElem_toArray, List.getElem_cons_zero, List.getElem_cons_succ]
    refine plan_call (F := 102) (args := ?_) rfl (by rfl) ?_ ?_
    rotate_left
    · go_simp
      rfl
    refine (of_nat _ 4 _ (l.drop 15) _ (by rw [List.length_drop, HZ.out]) ((byts_drop HBY.out).below (Below.refl _ _).drew)).mono ?_
    rintro e w2 ⟨rfl, hb2⟩
    have HB2 : Hid (Below z.heap.size z w2) := Lib.hid ((Below.refl _ _).drew.trans hb2)
    clear hb2
    refine ⟨_, rfl, HB2.out, ?_⟩
    try simp only [Act.put, List.setIfInBounds_toArray, List.set_cons_zero, List.set_cons_succ, List.getElem_toArray, List.getElem_cons_zero, List.getElem_cons_succ]
    refine plan_call (F := 103) (args := ?_) rfl (by rfl) ?_ ?_
    rotate_left
    · go_simp
      rfl
    have hh := sum_any (some ⟨b, off, none⟩) 15 cap (l.take 15) w2 (by simp [HZ.out]) (by unfold maxLen; omega) ((byts_take HBY.out).below HB2.out)
    refine hh.mono ?_
    clear hh
    rintro e w3 ⟨rfl, hw3⟩
    subst hw3
    refine ⟨_, rfl, HB2.out, ?_⟩
    try simp only [Act.put, List.setIfInBounds_toArray, List.set_cons_zero, List.set_cons_succ, List.getElem_toArray, List.getElem_cons_zero, List.getElem_cons_succ]
    refine plan_nil ?_
    simp only [List.drop_succ_cons, List.drop_zero]
    have hfit : (((ofN (l.drop 15) : Nat) : Int) != ((sumN (l.take 15) : Nat) : Int)) = !fitsB l := by
      unfold fitsB
      rw [Bool.eq_iff_iff]
      simp
      omega
    go_wp2_with fail
    go_meet
    case rel => exact ⟨rfl, HB2.out⟩
  case rest =>
    obtain ⟨rfl, hbz⟩ := hcut
    obtain ⟨W, hW⟩ : ∃ W, W = wc := ⟨_, rfl⟩
    subst hW
    have HBW := Lib.hid hbz
    have HT : Hid (Blk W w.heap.size #[.int .i64 0, .int .i64 0, .int .i64 0, .int .i64 0, .int .i64 0, .int .i64 0, .bool false, .int .u32 0, .int .u32 0]) := Lib.hid (HKZ.out.below hbz)
    have HBT : Hid (Below w.heap.size w W) := Lib.hid (HBZ.out.trans (hbz.mono HBZ.out.size))
    clear hbz n15 c15
    cases hf : fitsB l with
    | false =>
      have he : readE l = 5 := readE_sum HZ.out hf
      have HRE : Hid (r = #[.int .i64 0, .int .i64 0, .int .i64 0, .int .i64 0, .int .i64 0, .int .i64 0, .bool false, .int .u32 0, .int .u32 0] ∧ er = 5) := Lib.hid ⟨by rw [HR.out, readM_no (by rw [he]; decide), zero_row], by rw [HE.out, he]⟩
      clear hf he
      have cT := HT.out.c
      have fT := HT.out.f
      have lT := HT.out.lt
      go_wp2
      exact bodyPost_ret (v := .tuple #[.agg #[.int .i64 0, .int .i64 0, .int .i64 0, .int .i64 0, .int .i64 0, .int .i64 0, .bool false, .int .u32 0, .int .u32 0], .int .i64 5]) (by simp [results, Tryz.results71, go_sem, *]) rfl ⟨by rw [HRE.out.1, HRE.out.2], belowS9 HBT.out (Nat.le_refl _)⟩
    | true =>
      have he : readE l = if formB l then 0 else 2 := readE_ok HZ.out hf
      have HEE := Lib.hid he
      clear hf he
      go_wp2_with fail
      refine (message_any b off cap l _ HZ.out HC19.out (HB.out.below HBT.out)).mono ?_
      rintro e w4 ⟨rfl, hb4⟩
      have HT4 := Lib.hid (HT.out.below hb4)
      have HB4 : Hid (Below w.heap.size w w4) := Lib.hid (HBT.out.trans (hb4.mono HBT.out.size))
      clear hb4
      obtain ⟨k, f, t, lx, o, a, own, n, v, hmsg⟩ : ∃ k f t lx o a own n v, msgOf l = ⟨k, f, t, lx, o, a, own, n, v⟩ := ⟨_, _, _, _, _, _, _, _, _, rfl⟩
      have hrow : (msgOf l).row = #[.int .i64 k, .int .i64 f, .int .i64 t, .int .i64 lx, .int .i64 o, .int .i64 a, .bool own, .int .u32 n, .int .u32 v] := by rw [hmsg]; rfl
      rw [hrow]
      have HROW := Lib.hid hrow
      clear hrow hmsg
      obtain ⟨fb, hfb⟩ : ∃ fb, fb = formB l := ⟨_, rfl⟩
      rw [← hfb]
      have HFB := Lib.hid hfb
      clear hfb
      go_upto_region 8 with fail
      obtain ⟨W5, hW5⟩ : ∃ W5, W5 = w4.alloc (.cells #[.int .i64 k, .int .i64 f, .int .i64 t, .int .i64 lx, .int .i64 o, .int .i64 a, .bool own, .int .u32 n, .int .u32 v] 70) := ⟨_, rfl⟩
      have HT5 : Hid (Blk W5 w.heap.size #[.int .i64 0, .int .i64 0, .int .i64 0, .int .i64 0, .int .i64 0, .int .i64 0, .bool false, .int .u32 0, .int .u32 0]) := by rw [hW5]; exact HT4.out.alloc _
      have HR5 : Hid (Blk W5 w4.heap.size #[.int .i64 k, .int .i64 f, .int .i64 t, .int .i64 lx, .int .i64 o, .int .i64 a, .bool own, .int .u32 n, .int .u32 v]) := by rw [hW5]; exact Blk.new _ _ _
      have HB5 : Hid (Below w.heap.size w W5) := by rw [hW5]; exact belowAlloc HB4.out _
      rw [← hW5]
      clear hW5 HT4
      have cT := HT5.out.c
      have fT := HT5.out.f
      have lT := HT5.out.lt
      have cR := HR5.out.c
      cases fb with
      | true =>
        have HRE : Hid (r = #[.int .i64 k, .int .i64 f, .int .i64 t, .int .i64 lx, .int .i64 o, .int .i64 a, .bool own, .int .u32 n, .int .u32 v] ∧ er = 0) := Lib.hid ⟨by rw [HR.out, ← HROW.out]; unfold readM; rw [HEE.out, ← HFB.out]; rfl, by rw [HE.out, HEE.out, ← HFB.out]; rfl⟩
        go_wp2
        exact bodyPost_ret (v := .tuple #[.agg #[.int .i64 k, .int .i64 f, .int .i64 t, .int .i64 lx, .int .i64 o, .int .i64 a, .bool own, .int .u32 n, .int .u32 v], .int .i64 0]) (by simp [results, Tryz.results71, go_sem, *]) rfl ⟨by rw [HRE.out.1, HRE.out.2], belowS9 HB5.out (Nat.le_refl _)⟩
      | false =>
        have HRE : Hid (r = #[.int .i64 0, .int .i64 0, .int .i64 0, .int .i64 0, .int .i64 0, .int .i64 0, .bool false, .int .u32 0, .int .u32 0] ∧ er = 2) := Lib.hid ⟨by rw [HR.out, readM_no (by rw [HEE.out, ← HFB.out]; decide), zero_row], by rw [HE.out, HEE.out, ← HFB.out]; rfl⟩
        go_wp2
        exact bodyPost_ret (v := .tuple #[.agg #[.int .i64 0, .int .i64 0, .int .i64 0, .int .i64 0, .int .i64 0, .int .i64 0, .bool false, .int .u32 0, .int .u32 0], .int .i64 2]) (by simp [results, Tryz.results71, go_sem, *]) rfl ⟨by rw [HRE.out.1, HRE.out.2], belowS9 HB5.out (Nat.le_refl _)⟩
theorem read_any (p : Option Addr) (len cap : Nat) (l : List Nat) (w : World) (hz : l.length = len) (hm : len ≤ maxLen) (hc : len ≤ cap) (h : Byts w p l) :
    Calls Tryz.prog 71 #[.slice p len cap] w fun e w' => e = .returned (.tuple #[.agg (readM l).row, .int .i64 (readE l)]) ∧ Below w.heap.size w w' := by
  by_cases h19 : len = 19
  · subst h19
    exact read_19 p cap l w hz hc h
  · exact read_len p len cap l w hz hm (by omega)
end Go.Proofs.YtmeomdfmljanhaaGreat
/- What is read of a frame that was put, and of one of which bits were turned; how Go holds two messages against each other; no condition but the numbers' bounds. -/
namespace Go.Proofs.YtmeomdfmljanhaaGreat
set_option linter.unusedVariables false
open Go.ChangeShapes Go.WideShapes Go.ChangeAt Go.RowKit

theorem ofN_b4 (n : Nat) (r : List Nat) (h : n < 4294967296) : ofN (b4 n ++ r) = n := by
  unfold ofN b4
  simp only [List.cons_append, List.nil_append, List.getD_cons_zero, List.getD_cons_succ]
  omega
/-- A message that may be, with numbers as they are in a frame. -/
structure Fit (k f t l o a : Nat) (own : Bool) (n v : Nat) : Prop where
  may : mayM ⟨k, f, t, l, o, a, own, n, v⟩ = true
  hk : k < 256
  hf : f < 256
  ht : t < 256
  hl : l < 256
  ho : o < 256
  ha : a < 256
  hn : n < 4294967296
  hv : v < 4294967296
section
variable {k f t l o a : Nat} {own : Bool} {n v : Nat}
theorem frame_len : (frameL k f t l o a own n v).length = 19 := rfl
theorem frame_lt (h : Fit k f t l o a own n v) : ∀ x ∈ frameL k f t l o a own n v, x < 256 := by
  intro x hx
  unfold frameL at hx
  rcases List.mem_append.1 hx with hx | hx
  · exact body_lt h.hk h.hf h.ht h.hl h.ho h.ha h.hn h.hv x hx
  · exact b4_lt _ (sumN_lt _) x hx
theorem frame_fits (h : Fit k f t l o a own n v) : fitsB (frameL k f t l o a own n v) = true := by
  unfold fitsB
  rw [decide_eq_true_eq]
  show ofN (b4 (sumN (bodyL k f t l o a own n v))) = sumN (bodyL k f t l o a own n v)
  have := ofN_b4 (sumN (bodyL k f t l o a own n v)) [] (sumN_lt _)
  rwa [List.append_nil] at this
theorem frame_msg (h : Fit k f t l o a own n v) : msgOf (frameL k f t l o a own n v) = ⟨k, f, t, l, o, a, own, n, v⟩ := by
  have e1 : (frameL k f t l o a own n v).drop 7 = b4 n ++ (b4 v ++ b4 (sumN (bodyL k f t l o a own n v))) := rfl
  have e2 : (frameL k f t l o a own n v).drop 11 = b4 v ++ b4 (sumN (bodyL k f t l o a own n v)) := rfl
  unfold msgOf
  rw [e1, e2, ofN_b4 n _ h.hn, ofN_b4 v _ h.hv]
  have e3 : ((frameL k f t l o a own n v).getD 6 0 == 1) = own := by
    show (own.toNat == 1) = own
    cases own <;> rfl
  rw [e3]
  rfl
theorem frame_form (h : Fit k f t l o a own n v) : formB (frameL k f t l o a own n v) = true := by
  unfold formB
  rw [frame_msg h, h.may, Bool.and_true, decide_eq_true_eq]
  show own.toNat ≤ 1
  cases own <;> decide
theorem frame_readE (h : Fit k f t l o a own n v) : readE (frameL k f t l o a own n v) = 0 := by rw [readE_ok frame_len (frame_fits h), frame_form h]; rfl
theorem frame_readM (h : Fit k f t l o a own n v) : readM (frameL k f t l o a own n v) = ⟨k, f, t, l, o, a, own, n, v⟩ := by unfold readM; rw [if_pos (frame_readE h), frame_msg h]
end
def eqM (m n : Msg) : Bool := (m.k == n.k) && ((m.f == n.f) && ((m.t == n.t) && ((m.l == n.l) && ((m.o == n.o) && ((m.a == n.a) && ((m.own == n.own) && (((m.n : Int) == (n.n : Int)) && ((m.v : Int) == (n.v : Int)))))))))
end Go.Proofs.YtmeomdfmljanhaaGreat
/- What the document's own Put of layer 5 answers: the same bytes; no condition but that the numbers fit. -/
namespace Go.Proofs.YtmeomdfmljanhaaGreat
set_option linter.unusedVariables false
open Go.ChangeShapes Go.WideShapes Go.ChangeAt Go.RowKit

end Go.Proofs.YtmeomdfmljanhaaGreat
/- What the document's own Read of layer 5 answers: the same message, or the same error; no condition but that the bytes read. -/
namespace Go.Proofs.YtmeomdfmljanhaaGreat
set_option linter.unusedVariables false
open Go.ChangeShapes Go.WideShapes Go.ChangeAt Go.RowKit

end Go.Proofs.YtmeomdfmljanhaaGreat
/- The fixed answers that each statement of layer 5 begins with; what Put and Read answer, for any message and bytes; no condition but that the numbers fit. -/
namespace Go.Proofs.YtmeomdfmljanhaaGreat
set_option linter.unusedVariables false
open Go.ChangeShapes Go.WideShapes Go.ChangeAt Go.RowKit

theorem may_fit {m : Msg} (h : mayM m = true) (hn : m.n < 4294967296) (hv : m.v < 4294967296) : ∃ k f t l o a : Nat, ∃ (own : Bool) (n v : Nat), m = ⟨k, f, t, l, o, a, own, n, v⟩ ∧ Fit k f t l o a own n v := by
  have h0 := h
  unfold mayM byteB at h
  simp only [Bool.and_eq_true, decide_eq_true_eq] at h
  obtain ⟨⟨k0, k1⟩, ⟨f0, f1⟩, ⟨t0, t1⟩, ⟨l0, l1⟩, ⟨o0, o1⟩, a0, a1⟩ := h
  obtain ⟨k, f, t, l, o, a, own, n, v⟩ := m
  simp only at k0 k1 f0 f1 t0 t1 l0 l1 o0 o1 a0 a1 hn hv
  obtain ⟨k, rfl⟩ := Int.eq_ofNat_of_zero_le (show 0 ≤ k by omega)
  obtain ⟨f, rfl⟩ := Int.eq_ofNat_of_zero_le f0
  obtain ⟨t, rfl⟩ := Int.eq_ofNat_of_zero_le t0
  obtain ⟨l, rfl⟩ := Int.eq_ofNat_of_zero_le l0
  obtain ⟨o, rfl⟩ := Int.eq_ofNat_of_zero_le o0
  obtain ⟨a, rfl⟩ := Int.eq_ofNat_of_zero_le a0
  exact ⟨k, f, t, l, o, a, own, n, v, rfl, h0, by omega, by omega, by omega, by omega, by omega, by omega, hn, hv⟩
theorem own_form {w : World} {base n : Nat} {v : Value} {xs : List Value} (h : w.ownsRow base 5 1 v n xs) (h0 : 0 < n) : ∃ g cap, v = .slice (some ⟨g, 0, none⟩) n cap ∧ n ≤ cap ∧ base ≤ g ∧ g < w.heap.size := by
  obtain ⟨h1, ⟨_, h2⟩ | ⟨g, cap, cur, e1, e2, e3, e4, _⟩⟩ := h
  · omega
  · exact ⟨g, cap, e1, e4, e2, (Array.getElem?_eq_some_iff.1 e3).1⟩

/-- A frame in memory of one's own, as it is handed about. -/
def Frm (base : Nat) (w : World) (g cap : Nat) (l : List Nat) : Prop := w.ownsRow base 5 1 (.slice (some ⟨g, 0, none⟩) 19 cap) 19 (u8C l) ∧ 19 ≤ cap ∧ base ≤ g ∧ g < w.heap.size
theorem Frm.below {base : Nat} {w w' : World} {g cap : Nat} {l : List Nat} (h : Frm base w g cap l) (hb : Below w.heap.size w w') : Frm base w' g cap l := by
  refine ⟨?_, h.2.1, h.2.2.1, Nat.lt_of_lt_of_le h.2.2.2 hb.size⟩
  obtain ⟨h1, h2 | ⟨g', c', cur, e1, e2, e3, e4⟩⟩ := h.1
  · exact ⟨h1, .inl h2⟩
  · exact ⟨h1, .inr ⟨g', c', cur, e1, e2, by rw [hb.block g' (Array.getElem?_eq_some_iff.1 e3).1]; exact e3, e4⟩⟩
theorem put_fit (k f t l o a : Nat) (own : Bool) (n v : Nat) (w : World) (h : Fit k f t l o a own n v) :
    Calls Tryz.prog 127 #[.agg (Msg.row ⟨k, f, t, l, o, a, own, n, v⟩)] w fun e w' => ∃ g cap, e = .returned (.tuple #[.slice (some ⟨g, 0, none⟩) 19 cap, .int .i64 0]) ∧ Frm w.heap.size w' g cap (frameL k f t l o a own n v) ∧ Below w.heap.size w w' := by
  refine (put_yes k f t l o a own n v w h.may h.hk h.hf h.ht h.hl h.ho h.ha h.hn h.hv).mono fun e w' => ?_
  rintro ⟨r, rfl, h1, h2⟩
  obtain ⟨g, cap, rfl, h3, h4, h5⟩ := own_form h1 (by decide)
  exact ⟨g, cap, rfl, ⟨h1, h3, h4, h5⟩, h2⟩
end Go.Proofs.YtmeomdfmljanhaaGreat
/- FrameRight: the walk of the statement's function. -/
namespace Go.Proofs.YtmeomdfmljanhaaGreat
set_option linter.unusedVariables false
open Go.ChangeShapes Go.WideShapes Go.ChangeAt Go.RowKit

/-- The bytes that Put answers, and its error. -/
def outL (m : Msg) : List Nat := if mayM m then frameL m.k.toNat m.f.toNat m.t.toNat m.l.toNat m.o.toNat m.a.toNat m.own m.n m.v else []
def outE (m : Msg) : Int := if mayM m then 0 else 1
end Go.Proofs.YtmeomdfmljanhaaGreat
/- FrameTells: the walk of the statement's function. -/
namespace Go.Proofs.YtmeomdfmljanhaaGreat
set_option linter.unusedVariables false
open Go.ChangeShapes Go.WideShapes Go.ChangeAt Go.RowKit

/-- What Put leaves. -/
def Puts (base : Nat) (m : Msg) (w' : World) (r : Value) (er : Int) : Prop :=
  (mayM m = false ∧ r = .slice none 0 0 ∧ er = 1) ∨
  (mayM m = true ∧ er = 0 ∧ ∃ k f t l o a : Nat, ∃ (own : Bool) (n v : Nat), m = ⟨k, f, t, l, o, a, own, n, v⟩ ∧ Fit k f t l o a own n v ∧ ∃ g cap, r = .slice (some ⟨g, 0, none⟩) 19 cap ∧ Frm base w' g cap (frameL k f t l o a own n v))
theorem put_any (m : Msg) (w : World) (hn : m.n < 4294967296) (hv : m.v < 4294967296) :
    Calls Tryz.prog 127 #[.agg m.row] w fun e w' => ∃ r er, e = .returned (.tuple #[r, .int .i64 er]) ∧ Puts w.heap.size m w' r er ∧ Below w.heap.size w w' := by
  cases h : mayM m with
  | false => exact (put_no m w h).mono fun e w' ⟨h1, h2⟩ => ⟨_, _, h1, .inl ⟨h, rfl, rfl⟩, h2⟩
  | true =>
    obtain ⟨k, f, t, l, o, a, own, n, v, rfl, hf⟩ := may_fit h hn hv
    refine (put_fit k f t l o a own n v w hf).mono fun e w' => ?_
    rintro ⟨g, cap, rfl, h1, h2⟩
    exact ⟨_, _, rfl, .inr ⟨h, rfl, k, f, t, l, o, a, own, n, v, rfl, hf, g, cap, rfl, h1⟩, h2⟩
theorem Frm.set {base : Nat} {w : World} {g cap : Nat} {l : List Nat} (h : Frm base w g cap l) (K x : Nat) : Frm base (w.setCell ⟨g, K, none⟩ (.int .u8 (x : Int))) g cap (l.set K x) := by
  have hs := (h.1.stored K (.int .u8 (x : Int))).1
  have e : (u8C l).set K (.int .u8 (x : Int)) = u8C (l.set K x) := by unfold u8C; rw [List.map_set]
  rw [e] at hs
  exact ⟨hs, h.2.1, h.2.2.1, by rw [size_set]; exact h.2.2.2⟩
theorem Frm.at_ {base : Nat} {w : World} {g cap : Nat} {l : List Nat} (h : Frm base w g cap l) (hl : l.length = 19) (K : Nat) (hK : K < 19) : w.cell? ⟨g, K, none⟩ = some (.int .u8 (l.getD K 0 : Nat)) := by
  rw [h.1.cellAt K (by omega), u8C_at l K (by omega)]
end Go.Proofs.YtmeomdfmljanhaaGreat
/- Plain numbers for layer 6: what a pool of frames is, and becomes; no program is run here; no condition. -/
namespace Go.Proofs.YtmeomdfmljanhaaGreat
set_option linter.unusedVariables false
open Go.ChangeShapes Go.WideShapes Go.ChangeAt Go.RowKit

def rightP (L : List (List Nat)) : Bool := decide (L.length ≤ 64) && L.all (fun l => decide (l.length = 19))
def roomP (L : List (List Nat)) : Int := if rightP L then 64 - (L.length : Int) else 0
def checkP (L : List (List Nat)) (n : Int) : Int := if rightP L then (if n < 0 ∨ (L.length : Int) ≤ n then 7 else 0) else 1
def addP (L : List (List Nat)) (l : List Nat) : List (List Nat) := if 64 ≤ L.length then L else L ++ [l]
def addE (L : List (List Nat)) : Int := if 64 ≤ L.length then 6 else 0
def sendP (L : List (List Nat)) (m : Msg) : List (List Nat) := if rightP L && mayM m then addP L (outL m) else L
def sendE (L : List (List Nat)) (m : Msg) : Int := if rightP L && mayM m then addE L else 1
def atP (L : List (List Nat)) (n : Int) : List Nat := L.getD n.toNat []
def dropP (L : List (List Nat)) (n : Int) : List (List Nat) := if checkP L n = 0 then L.eraseIdx n.toNat else L
def takeM (L : List (List Nat)) (n : Int) : Msg := if checkP L n = 0 then readM (atP L n) else zeroM
def takeE (L : List (List Nat)) (n : Int) : Int := if checkP L n = 0 then readE (atP L n) else checkP L n
def twiceP (L : List (List Nat)) (n : Int) : List (List Nat) := if checkP L n = 0 then addP L (atP L n) else L
def twiceE (L : List (List Nat)) (n : Int) : Int := if checkP L n = 0 then addE L else checkP L n
def bitB (b : Int) : Bool := decide (b < 0 ∨ 152 ≤ b)
def spoilP (L : List (List Nat)) (n b : Int) : List (List Nat) := if checkP L n = 0 then (if bitB b then L else L.set n.toNat (turnL (atP L n) b.toNat)) else L
def spoilE (L : List (List Nat)) (n b : Int) : Int := if checkP L n = 0 then (if bitB b then 1 else 0) else checkP L n

theorem check_inv {L : List (List Nat)} {n : Int} (h : checkP L n = 0) : rightP L = true ∧ 0 ≤ n ∧ n < (L.length : Int) := by
  unfold checkP at h
  cases hr : rightP L with
  | false => rw [hr] at h; cases h
  | true =>
    rw [hr, if_pos rfl] at h
    refine ⟨rfl, ?_⟩
    by_cases h2 : n < 0 ∨ (L.length : Int) ≤ n
    · rw [if_pos h2] at h; cases h
    · omega
theorem right_inv {L : List (List Nat)} (h : rightP L = true) : L.length ≤ 64 ∧ ∀ l ∈ L, l.length = 19 := by
  unfold rightP at h
  rw [Bool.and_eq_true, decide_eq_true_eq, List.all_eq_true] at h
  exact ⟨h.1, fun l hl => by simpa using h.2 l hl⟩
theorem mem_getD {α : Type} (L : List α) (d : α) (k : Nat) (h : k < L.length) : L.getD k d ∈ L := by
  rw [List.getD_eq_getElem?_getD, List.getElem?_eq_getElem h]; exact List.getElem_mem h
/-- The place of the first that isn't of 19 bytes. -/
def idxP : List (List Nat) → Nat → Int
  | [], _ => -1
  | x :: r, k => if x.length = 19 then idxP r (k + 1) else (k : Int)
theorem idxP_any (L : List (List Nat)) (k : Nat) : decide (0 ≤ idxP L k) = !(L.all fun l => decide (l.length = 19)) := by
  induction L generalizing k with
  | nil => rfl
  | cons x r ih =>
    unfold idxP
    rw [List.all_cons]
    by_cases h : x.length = 19
    · rw [if_pos h, decide_eq_true h, Bool.true_and]; exact ih (k + 1)
    · rw [if_neg h, decide_eq_false h, Bool.false_and]; simp
theorem drop_getD {α : Type} (L : List α) (d : α) (k : Nat) (h : k < L.length) : L.drop k = L.getD k d :: L.drop (k + 1) := by
  rw [List.drop_eq_getElem_cons h, List.getD_eq_getElem?_getD, List.getElem?_eq_getElem h]; rfl
theorem getD_set {α : Type} (L : List α) (d v : α) (k j : Nat) (hk : k < L.length) : (L.set k v).getD j d = if j = k then v else L.getD j d := by
  simp only [List.getD_eq_getElem?_getD, List.getElem?_set]
  by_cases h : j = k
  · subst h; simp [hk]
  · rw [if_neg h, if_neg (fun e => h e.symm)]
theorem getD_append1 {α : Type} (L : List α) (d v : α) (j : Nat) : (L ++ [v]).getD j d = if j < L.length then L.getD j d else if j = L.length then v else d := by
  simp only [List.getD_eq_getElem?_getD]
  by_cases h : j < L.length
  · rw [if_pos h, List.getElem?_append_left h]
  · rw [if_neg h, List.getElem?_append_right (by omega)]
    by_cases h2 : j = L.length
    · rw [if_pos h2]; subst h2; simp
    · rw [if_neg h2, List.getElem?_eq_none (by simp; omega)]; rfl
theorem getD_erase {α : Type} (L : List α) (d : α) (i j : Nat) : (L.eraseIdx i).getD j d = if j < i then L.getD j d else L.getD (j + 1) d := by
  simp only [List.getD_eq_getElem?_getD, List.getElem?_eraseIdx]
  split <;> rfl
end Go.Proofs.YtmeomdfmljanhaaGreat
