/- What frame.Put answers: a frame of nineteen bytes in memory of its own, or nothing; no condition but that the numbers fit. -/
import Derived.Test.YtpmheaeiemnjeaaFrameC
import Derived.Deep.DeepCutAuto
import Derived.Deep.RegionHeld3
import Derived.Deep.Light
namespace Go.Proofs.Ytpmheaeiemnjeaa
set_option linter.unusedVariables false
open Go.ChangeShapes Go.WideShapes Go.ChangeAt Go.RowKit

def b4 (n : Nat) : List Nat := [n / 16777216, n / 65536 % 256, n / 256 % 256, n % 256]
def headL (k f t l o a : Nat) (own : Bool) : List Nat := [k, f, t, l, o, a, own.toNat]
def bodyL (k f t l o a : Nat) (own : Bool) (n v : Nat) : List Nat := headL k f t l o a own ++ (b4 n ++ b4 v)
def frameL (k f t l o a : Nat) (own : Bool) (n v : Nat) : List Nat := bodyL k f t l o a own n v ++ b4 (sumN (bodyL k f t l o a own n v))
theorem b4_lt (n : Nat) (h : n < 4294967296) : ∀ x ∈ b4 n, x < 256 := by
  intro x hx
  simp only [b4, List.mem_cons, List.not_mem_nil, or_false] at hx
  rcases hx with rfl | rfl | rfl | rfl <;> omega
theorem body_lt {k f t l o a : Nat} {own : Bool} {n v : Nat} (hk : k < 256) (hf : f < 256) (ht : t < 256) (hl : l < 256) (ho : o < 256) (ha : a < 256) (hn : n < 4294967296) (hv : v < 4294967296) : ∀ x ∈ bodyL k f t l o a own n v, x < 256 := by
  intro x hx
  unfold bodyL at hx
  rcases List.mem_append.1 hx with hx | hx
  · simp only [headL, List.mem_cons, List.not_mem_nil, or_false] at hx
    rcases hx with rfl | rfl | rfl | rfl | rfl | rfl | rfl
    all_goals first | assumption | (cases own <;> decide)
  · rcases List.mem_append.1 hx with hx | hx
    · exact b4_lt n hn x hx
    · exact b4_lt v hv x hx
theorem body_len (k f t l o a : Nat) (own : Bool) (n v : Nat) : (bodyL k f t l o a own n v).length = 15 := rfl
theorem row4_u8C (n : Nat) : row4 ((n : Int) / 16777216) ((n : Int) / 65536 % 256) ((n : Int) / 256 % 256) ((n : Int) % 256) = (u8C (b4 n)).toArray := by
  unfold row4 u8C b4
  simp
theorem blk_sl {w : World} {B n : Nat} {l : List Value} (h : Blk w B l.toArray) : Sl w (some ⟨B, 0, none⟩) n l := fun _ => ⟨B, 0, h.lt, rfl, fun j hj => by rw [Nat.zero_add, h.c]; simp⟩
theorem wrap_u8 {n : Nat} (h : n < 256) : IntKind.u8.wrap (n : Int) = (n : Int) := by
  simp [IntKind.wrap, IntKind.bits, IntKind.signed]; omega
theorem byts_own {w : World} {base n cap : Nat} {p : Option Addr} {l : List Nat} (h : w.ownsRow base 5 1 (.slice p n cap) n (u8C l)) (hl : l.length = n) (hb : ∀ x ∈ l, x < 256) : Byts w p l :=
  ⟨hb, fun h0 => by
    obtain ⟨p', c', e, hs⟩ := Sl.own h
    injection e with e1 e2 e3
    subst e1
    obtain ⟨b, off, h1, h2, h3⟩ := hs (by omega)
    exact ⟨b, off, h1, h2, fun k hk => by rw [h3 k (by rw [u8C_len]; exact hk), u8C_at l k hk]⟩⟩

theorem own_base {w : World} {b b' : Nat} {e : TypeId} {size : Nat} {v : Value} {n : Nat} {xs : List Value} (h : w.ownsRow b e size v n xs) (hb : b' ≤ b) : w.ownsRow b' e size v n xs := by
  obtain ⟨h1, h2 | ⟨g, cap, cur, e1, e2, e3⟩⟩ := h
  · exact ⟨h1, .inl h2⟩
  · exact ⟨h1, .inr ⟨g, cap, cur, e1, by omega, e3⟩⟩
theorem own_sl {w : World} {base : Nat} {e : TypeId} {size : Nat} {v : Value} {n : Nat} {xs : List Value} (h : w.ownsRow base e size v n xs) : ∃ p cap, v = .slice p n cap := by
  obtain ⟨p, cap, e, _⟩ := Sl.own h
  exact ⟨p, cap, e⟩
set_option maxHeartbeats 2000000 in
theorem put_no (m : Msg) (w : World) (h : mayM m = false) : Calls Try.prog 24 #[.agg m.row] w fun e w' => e = .returned (.tuple #[.slice none 0 0, .int .i64 1]) ∧ Below w.heap.size w w' := by
  have hm := fun W => may_any m W
  rw [h] at hm
  obtain ⟨k, f, t, l, o, a, own, n, v⟩ := m
  unfold Msg.row at hm ⊢
  have HM := Lib.hid hm
  clear hm h
  go_enter Try.func24, Try.ntmps24
  go_wp2_with fail
  refine (HM.out _).mono ?_
  rintro e w1 ⟨rfl, hb⟩
  have HB : Hid (Below w.heap.size w w1) := ((Below.refl _ _).alloc (Nat.le_refl _) _).trans (hb.mono (by simp))
  clear hb
  go_wp2
  go_ret2
  exact ⟨rfl, HB.out⟩

set_option maxHeartbeats 4000000 in
theorem put_yes (k f t l o a : Nat) (own : Bool) (n v : Nat) (w : World) (h : mayM ⟨k, f, t, l, o, a, own, n, v⟩ = true) (hk : k < 256) (hf : f < 256) (ht : t < 256) (hl : l < 256) (ho : o < 256) (ha : a < 256) (hn : n < 4294967296) (hv : v < 4294967296) :
    Calls Try.prog 24 #[.agg #[.int .i64 k, .int .i64 f, .int .i64 t, .int .i64 l, .int .i64 o, .int .i64 a, .bool own, .int .u32 n, .int .u32 v]] w fun e w' => ∃ r, e = .returned (.tuple #[r, .int .i64 0]) ∧ w'.ownsRow w.heap.size 5 1 r 19 (u8C (frameL k f t l o a own n v)) ∧ Below w.heap.size w w' := by
  have hm := fun W => may_any ⟨k, f, t, l, o, a, own, n, v⟩ W
  rw [h] at hm
  unfold Msg.row at hm
  have HM := Lib.hid hm
  have HBL := Lib.hid (body_lt (own := own) hk hf ht hl ho ha hn hv)
  clear hm h
  go_enter Try.func24, Try.ntmps24
  go_wp2_with fail
  refine (HM.out _).mono ?_
  rintro e w1 ⟨rfl, hb⟩
  have HB : Hid (Below w.heap.size w w1) := ((Below.refl _ _).alloc (Nat.le_refl _) _).trans (hb.mono (by simp))
  have HK : Hid (Blk w1 w.heap.size #[.int .i64 k, .int .i64 f, .int .i64 t, .int .i64 l, .int .i64 o, .int .i64 a, .bool own, .int .u32 n, .int .u32 v]) := Blk.track1 hb
  clear hb HM
  go_upto_region 3 with fail
  have cB := HK.out.drew.c
  have wk := wrap_u8 hk
  have wf := wrap_u8 hf
  have wt := wrap_u8 ht
  have wl := wrap_u8 hl
  have wo := wrap_u8 ho
  have wa := wrap_u8 ha
  go_cut [4] (fun s4 wc => ∃ X, s4 = .slice (some ⟨X, 0, none⟩) 7 7 ∧ w.heap.size < X ∧ Blk wc X (u8C (headL k f t l o a own)).toArray ∧ Blk wc w.heap.size #[.int .i64 k, .int .i64 f, .int .i64 t, .int .i64 l, .int .i64 o, .int .i64 a, .bool own, .int .u32 n, .int .u32 v] ∧ Below w.heap.size w wc)
  case first =>
    refine region_plan (fun w' : World => w' = w1.drew) 21 [(0, true), (1, true), (2, true), (3, true), (4, true), (5, true), (6, true), (7, true), (8, true), (9, true), (10, true), (11, true), (12, true), (13, true), (14, true), (15, true), (16, true), (17, true), (18, true), (19, true), (20, false)] (by kernel_rfl) (by kernel_rfl) rfl ?_
    iterate 20
      refine plan_read (v := ?_) rfl (by rfl) ?_ ?_
      rotate_left
      · intro w' hS
        try dsimp only at hS
        subst hS
        go_simp
        try with_reducible rfl
      try simp only [Act.put, List.setIfInBounds_toArray, List.set_cons_zero, List.set_cons_succ, List.getElem_toArray, List.getElem_cons_zero, List.getElem_cons_succ]
    refine plan_call (F := 38) (args := ?_) rfl (by rfl) ?_ ?_
    rotate_left
    · go_simp
      rfl
    refine (truth_any own _).mono ?_
    rintro e w2 ⟨rfl, rfl⟩
    refine ⟨_, rfl, rfl, ?_⟩
    try simp only [Act.put, List.setIfInBounds_toArray, List.set_cons_zero, List.set_cons_succ, List.getElem_toArray, List.getElem_cons_zero, List.getElem_cons_succ]
    refine plan_nil ?_
    simp only [List.drop_succ_cons, List.drop_zero]
    clear cB
    go_wp2_with fail
    go_meet
    case rel =>
      exact ⟨_, rfl, HK.out.lt, (Blk.new _ _ _).drew, (HK.out.alloc _).drew, (belowAlloc HB.out _).drew⟩
  case rest =>
    obtain ⟨X, rfl, hX, hbX, hbB, hbel⟩ := hcut
    obtain ⟨W3, hW3⟩ : ∃ W3, W3 = wc := ⟨_, rfl⟩
    subst hW3
    have HX := Lib.hid hX
    have HKX := Lib.hid hbX
    have HKB := Lib.hid hbB
    have HWC := Lib.hid hbel
    clear hX hbX hbB hbel wk wf wt wl wo wa HB HK
    go_upto_region 4 with fail
    have c7 : W3.drew.cell? ⟨w.heap.size, 7, none⟩ = some (.int .u32 n) := HKB.out.drew.c 7
    have c8 : W3.drew.cell? ⟨w.heap.size, 8, none⟩ = some (.int .u32 v) := HKB.out.drew.c 8
    go_cut [5] (fun s5 wd => wd.ownsRow w.heap.size 5 1 s5 15 (u8C (bodyL k f t l o a own n v)) ∧ Below w.heap.size w wd)
    case first =>
      refine region_plan (fun w' : World => w'.cell? ⟨w.heap.size, 7, none⟩ = some (.int .u32 n) ∧ w'.cell? ⟨w.heap.size, 8, none⟩ = some (.int .u32 v)) 7 [(0, true), (1, true), (2, true), (4, true), (5, true), (3, false), (6, false)] (by kernel_rfl) (by kernel_rfl) ⟨c7, c8⟩ ?_
      iterate 5
        refine plan_read (v := ?_) rfl (by rfl) ?_ ?_
        rotate_left
        · intro w' hS
          try dsimp only at hS
          go_simp
          try with_reducible rfl
        try simp only [Act.put, List.setIfInBounds_toArray, List.set_cons_zero, List.set_cons_succ, List.getElem_toArray, List.getElem_cons_zero, List.getElem_cons_succ]
      refine plan_call (F := 40) (args := ?_) rfl (by rfl) ?_ ?_
      rotate_left
      · go_simp
        rfl
      refine (bytes_any (n : Nat) _ (by omega) (by omega)).mono ?_
      rintro e w2 ⟨rfl, hw2⟩
      rw [row4_u8C] at hw2
      have HK2 : Hid (Blk w2 W3.drew.heap.size (u8C (b4 n)).toArray) := by rw [hw2]; exact Blk.new _ _ _
      have HB2 : Hid (Below W3.heap.size W3 w2) := by rw [hw2]; exact (Below.refl _ _).drew.alloc (Nat.le_refl _) _
      clear hw2
      refine ⟨_, rfl, ⟨(HKB.out.below HB2.out).c 7, (HKB.out.below HB2.out).c 8⟩, ?_⟩
      try simp only [Act.put, List.setIfInBounds_toArray, List.set_cons_zero, List.set_cons_succ, List.getElem_toArray, List.getElem_cons_zero, List.getElem_cons_succ]
      refine plan_call (F := 40) (args := ?_) rfl (by rfl) ?_ ?_
      rotate_left
      · go_simp
        rfl
      refine (bytes_any (v : Nat) _ (by omega) (by omega)).mono ?_
      rintro e w3 ⟨rfl, hw3⟩
      rw [row4_u8C] at hw3
      have HK3 : Hid (Blk w3 w2.heap.size (u8C (b4 v)).toArray) := by rw [hw3]; exact Blk.new _ _ _
      have HB3 : Hid (Below w2.heap.size w2 w3) := by rw [hw3]; exact (Below.refl _ _).alloc (Nat.le_refl _) _
      have HB13 : Hid (Below W3.heap.size W3 w3) := HB2.out.trans (HB3.out.mono HB2.out.size)
      have HK23 := Lib.hid (HK2.out.below HB3.out)
      clear hw3
      refine ⟨_, rfl, ⟨(HKB.out.below HB13.out).c 7, (HKB.out.below HB13.out).c 8⟩, ?_⟩
      try simp only [Act.put, List.setIfInBounds_toArray, List.set_cons_zero, List.set_cons_succ, List.getElem_toArray, List.getElem_cons_zero, List.getElem_cons_succ]
      refine plan_nil ?_
      simp only [List.drop_succ_cons, List.drop_zero]
      clear c7 c8
      go_wp2_with fail
      refine (concat_any _ _ _ _ 7 4 4 (headL k f t l o a own) (b4 n) (b4 v) _ rfl rfl rfl (Blk.new w3 _ _) ((blk_sl (HKX.out.below HB13.out)).below (belowAlloc (Below.refl _ _) _)) ((blk_sl HK23.out).below (belowAlloc (Below.refl _ _) _)) ((blk_sl HK3.out).below (belowAlloc (Below.refl _ _) _))).mono ?_
      rintro e w4 ⟨r, rfl, hown, hb4⟩
      have HO : Hid (w4.ownsRow w.heap.size 5 1 r 15 (u8C (bodyL k f t l o a own n v))) := Lib.hid (own_base hown (Nat.le_trans HWC.out.size (Nat.le_trans HB13.out.size (by simp))))
      have HB4 : Hid (Below w.heap.size w w4) := Lib.hid (HWC.out.trans ((HB13.out.trans ((((Below.refl _ _).alloc (Nat.le_refl _) _).trans (hb4.mono (by simp))).mono HB13.out.size)).mono HWC.out.size))
      clear hown hb4
      go_wp2_with fail
      go_meet
      case rel => exact ⟨HO.out, HB4.out⟩
    case rest =>
      obtain ⟨hown, hbel⟩ := hcut
      obtain ⟨pb, cb, rfl⟩ := own_sl hown
      have HO := Lib.hid hown
      have HB5 := Lib.hid hbel
      obtain ⟨i0, hi, hz0, hz1, hz2⟩ := info_parts info5
      have HI := Lib.hid (And.intro hi (And.intro hz0 (And.intro hz1 hz2)))
      clear hown hbel c7 c8 hi hz0 hz1 hz2
      go_wp2_with fail
      refine (sum_any pb 15 cb (bodyL k f t l o a own n v) _ rfl (by unfold maxLen; omega) (byts_own HO.out rfl HBL.out)).mono ?_
      rintro e w6 ⟨rfl, rfl⟩
      go_wp2_with fail
      have hsl := sumN_lt (bodyL k f t l o a own n v)
      refine (bytes_any ((sumN (bodyL k f t l o a own n v) : Nat) : Int) _ (by omega) (by omega)).mono ?_
      rintro e w7 ⟨rfl, hw7⟩
      rw [row4_u8C] at hw7
      have HK7 : Hid (Blk w7 wc.heap.size (u8C (b4 (sumN (bodyL k f t l o a own n v)))).toArray) := by rw [hw7]; exact Blk.new _ _ _
      have HB7 : Hid (Below wc.heap.size wc w7) := by rw [hw7]; exact (Below.refl _ _).alloc (Nat.le_refl _) _
      have HO7 : Hid (w7.ownsRow w.heap.size 5 1 (.slice pb 15 cb) 15 (u8C (bodyL k f t l o a own n v))) := by rw [hw7]; exact HO.out.alloc _
      have HB57 : Hid (Below w.heap.size w w7) := HB5.out.trans (HB7.out.mono HB5.out.size)
      clear hw7
      go_wp2_with (first | (at_builtin; refine wpList_append_sl rfl _ _ 30 rfl w.heap.size 5 i0 (.int .u8 0) 1 1 Try.underlying30 HI.out.1 HI.out.2.1 HI.out.2.2.1 HI.out.2.2.2 rfl (by decide) _ _ _ rfl HO7.out _ 4 4 (u8C (b4 (sumN (bodyL k f t l o a own n v)))) rfl (by rw [u8C_len]; rfl) (blk_sl HK7.out) (u8C_one _) (by decide) (by decide) HB57.out.size ?_))
      intro v' w' g1 g2 g3
      have HG : Hid (w'.ownsRow w.heap.size 5 1 v' 19 (u8C (frameL k f t l o a own n v))) := Lib.hid (by rw [u8C_app] at g1; exact g1)
      have HBN : Hid (Below w.heap.size w w') := Lib.hid (HB57.out.grown g2 HB57.out.size (fun k hk => (HO7.out.lt k hk).1))
      clear g1 g2 g3
      go_wp2
      go_ret2
      exact ⟨_, rfl, HG.out, HBN.out⟩
end Go.Proofs.Ytpmheaeiemnjeaa
