/- What the document's own Put of layer 5 answers: the same bytes; no condition but that the numbers fit. -/
import Derived.Test.YtpmheaeiemnjeaaFrameD
namespace Go.Proofs.Ytpmheaeiemnjeaa
set_option linter.unusedVariables false
open Go.ChangeShapes Go.WideShapes Go.ChangeAt Go.RowKit

set_option maxHeartbeats 2000000 in
theorem rput_no (m : Msg) (w : World) (h : mayM m = false) : Calls Try.prog 26 #[.agg m.row] w fun e w' => e = .returned (.tuple #[.slice none 0 0, .int .i64 1]) ∧ Below w.heap.size w w' := by
  have hm := fun W => rmay_any m W
  rw [h] at hm
  obtain ⟨k, f, t, l, o, a, own, n, v⟩ := m
  unfold Msg.row at hm ⊢
  have HM := Lib.hid hm
  clear hm h
  go_enter Try.func26, Try.ntmps26
  go_wp2_with fail
  refine (HM.out _).mono ?_
  rintro e w1 ⟨rfl, hb⟩
  have HB : Hid (Below w.heap.size w w1) := ((Below.refl _ _).alloc (Nat.le_refl _) _).trans (hb.mono (by simp))
  clear hb
  go_wp2
  go_ret2
  exact ⟨rfl, HB.out⟩

set_option maxHeartbeats 4000000 in
theorem rput_f (k f t l o a : Nat) (n v : Nat) (w : World) (h : mayM ⟨k, f, t, l, o, a, false, n, v⟩ = true) (hk : k < 256) (hf : f < 256) (ht : t < 256) (hl : l < 256) (ho : o < 256) (ha : a < 256) (hn : n < 4294967296) (hv : v < 4294967296) :
    Calls Try.prog 26 #[.agg #[.int .i64 k, .int .i64 f, .int .i64 t, .int .i64 l, .int .i64 o, .int .i64 a, .bool false, .int .u32 n, .int .u32 v]] w fun e w' => ∃ r, e = .returned (.tuple #[r, .int .i64 0]) ∧ w'.ownsRow w.heap.size 5 1 r 19 (u8C (frameL k f t l o a false n v)) ∧ Below w.heap.size w w' := by
  have hm := fun W => rmay_any ⟨k, f, t, l, o, a, false, n, v⟩ W
  rw [h] at hm
  unfold Msg.row at hm
  have HM := Lib.hid hm
  have HBL := Lib.hid (body_lt (own := false) hk hf ht hl ho ha hn hv)
  have wk := wrap_u8 hk
  have wf := wrap_u8 hf
  have wt := wrap_u8 ht
  have wl := wrap_u8 hl
  have wo := wrap_u8 ho
  have wa := wrap_u8 ha
  obtain ⟨i0, hi, hz0, hz1, hz2⟩ := info_parts info5
  have HI := Lib.hid (And.intro hi (And.intro hz0 (And.intro hz1 hz2)))
  clear hm h hi hz0 hz1 hz2
  go_enter Try.func26, Try.ntmps26
  go_wp2_with fail
  refine (HM.out _).mono ?_
  rintro e w1 ⟨rfl, hb⟩
  have HB : Hid (Below w.heap.size w w1) := ((Below.refl _ _).alloc (Nat.le_refl _) _).trans (hb.mono (by simp))
  have HK : Hid (Blk w1 w.heap.size #[.int .i64 k, .int .i64 f, .int .i64 t, .int .i64 l, .int .i64 o, .int .i64 a, .bool false, .int .u32 n, .int .u32 v]) := Blk.track1 hb
  have cB := HK.out.c
  have lB := HK.out.lt
  clear hb HM
  go_upto_region 6 with fail
  obtain ⟨W3, hW3⟩ : ∃ W3, W3 = (w1.alloc (.cells #[.int .u8 k, .int .u8 f, .int .u8 t, .int .u8 l, .int .u8 o, .int .u8 a, .int .u8 0] 5)) := ⟨_, rfl⟩
  have HKB0 : Hid (w.heap.size < w1.heap.size) := Lib.hid HK.out.lt
  have HO : Hid (W3.ownsRow w.heap.size 5 1 (.slice (some ⟨w1.heap.size, 0, none⟩) 7 7) 7 (u8C (headL k f t l o a false))) := by rw [hW3]; exact World.ownsRow_lit w1 _ 7 HB.out.size (by unfold maxLen; omega) rfl
  have HWC : Hid (Below w.heap.size w W3) := by rw [hW3]; exact (HB.out.alloc HB.out.size _)
  have HKB : Hid (Blk W3 w.heap.size #[.int .i64 k, .int .i64 f, .int .i64 t, .int .i64 l, .int .i64 o, .int .i64 a, .bool false, .int .u32 n, .int .u32 v]) := by rw [hW3]; exact HK.out.alloc _
  rw [← hW3]
  clear hW3 cB lB wk wf wt wl wo wa HK HB
  have c7 : W3.drew.cell? ⟨w.heap.size, 7, none⟩ = some (.int .u32 n) := HKB.out.drew.c 7
  have c8 : W3.drew.cell? ⟨w.heap.size, 8, none⟩ = some (.int .u32 v) := HKB.out.drew.c 8
  have hO2 : W3.drew.ownsRow w.heap.size 5 1 (.slice (some ⟨w1.heap.size, 0, none⟩) 7 7) 7 (u8C (headL k f t l o a false)) := HO.out
  have HO3 := Lib.hid hO2
  clear hO2
  go_cut [4] (fun s4 wd => wd.ownsRow w.heap.size 5 1 s4 15 (u8C (bodyL k f t l o a false n v)) ∧ Below w.heap.size w wd)
  case first =>
    refine region_planT (fun w' : World => w'.cell? ⟨w.heap.size, 7, none⟩ = some (.int .u32 n) ∧ w'.cell? ⟨w.heap.size, 8, none⟩ = some (.int .u32 v)) 8 (.read 0 (.read 1 (.read 2 (.read 5 (.read 6 (.one 3 (.one 4 (.one 7 .stop)))))))) (by kernel_rfl) (by kernel_rfl) ⟨c7, c8⟩ ?_
    iterate 5
      refine planT_read (v := ?_) rfl (by rfl) ?_ ?_
      rotate_left
      · intro w' hS
        try dsimp only at hS
        go_simp
        try with_reducible rfl
      try simp only [Act.put, List.setIfInBounds_toArray, List.set_cons_zero, List.set_cons_succ, List.getElem_toArray, List.getElem_cons_zero, List.getElem_cons_succ]
    refine planT_one ?_
    refine op_call (F := 42) (args := ?_) rfl (by rfl) ?_ ?_
    rotate_left
    · go_simp
      rfl
    refine (rbytes_any (n : Nat) _ (by omega) (by omega)).mono ?_
    rintro e w2 ⟨rfl, hw2⟩
    rw [row4_u8C] at hw2
    have HK2 : Hid (Blk w2 W3.drew.heap.size (u8C (b4 n)).toArray) := by rw [hw2]; exact Blk.new _ _ _
    have HB2 : Hid (Below W3.heap.size W3 w2) := by rw [hw2]; exact (Below.refl _ _).drew.alloc (Nat.le_refl _) _
    have HO4 : Hid (w2.ownsRow w.heap.size 5 1 (.slice (some ⟨w1.heap.size, 0, none⟩) 7 7) 7 (u8C (headL k f t l o a false))) := by rw [hw2]; exact HO3.out.alloc _
    have HB12 : Hid (Below w.heap.size w w2) := HWC.out.trans (HB2.out.mono HWC.out.size)
    clear hw2
    refine ⟨_, rfl, ⟨(HKB.out.below HB2.out).c 7, (HKB.out.below HB2.out).c 8⟩, ?_⟩
    try simp only [Act.put, List.setIfInBounds_toArray, List.set_cons_zero, List.set_cons_succ, List.getElem_toArray, List.getElem_cons_zero, List.getElem_cons_succ]
    refine planT_one ?_
    refine op_wp rfl (by rfl) ?_
    try simp only [List.getElem_toArray, List.getElem_cons_zero, List.getElem_cons_succ]
    refine (wp_append_sl _ _ 30 rfl w.heap.size 5 i0 (.int .u8 0) 1 1 Try.underlying30 HI.out.1 HI.out.2.1 HI.out.2.2.1 HI.out.2.2.2 rfl (by decide) _ _ _ rfl HO4.out _ 4 4 (u8C (b4 n)) rfl (by rw [u8C_len]; rfl) (blk_sl HK2.out) (u8C_one _) (by decide) (by decide) HB12.out.size ?_)
    intro r5 w5 g1 g2 g3
    have HO5 : Hid (w5.ownsRow w.heap.size 5 1 r5 11 (u8C (headL k f t l o a false ++ b4 n))) := Lib.hid (by rw [u8C_app] at g1; exact g1)
    have HB5 : Hid (Below w.heap.size w w5) := Lib.hid (HB12.out.grown g2 HB12.out.size (fun k hk => (HO4.out.lt k hk).1))
    have HKB5 : Hid (Blk w5 w.heap.size #[.int .i64 k, .int .i64 f, .int .i64 t, .int .i64 l, .int .i64 o, .int .i64 a, .bool false, .int .u32 n, .int .u32 v]) := Lib.hid ((HKB.out.below HB2.out).grown g2 (by intro e; have h2 : w1.heap.size = w.heap.size := Option.some.inj e; have h3 := HKB0.out; omega))
    clear g1 g2 g3
    refine ⟨⟨HKB5.out.c 7, HKB5.out.c 8⟩, ?_⟩
    try simp only [Act.put, List.setIfInBounds_toArray, List.set_cons_zero, List.set_cons_succ, List.getElem_toArray, List.getElem_cons_zero, List.getElem_cons_succ]
    refine planT_one ?_
    refine op_call (F := 42) (args := ?_) rfl (by rfl) ?_ ?_
    rotate_left
    · go_simp
      rfl
    refine (rbytes_any (v : Nat) _ (by omega) (by omega)).mono ?_
    rintro e w6 ⟨rfl, hw6⟩
    rw [row4_u8C] at hw6
    have HK6 : Hid (Blk w6 w5.heap.size (u8C (b4 v)).toArray) := by rw [hw6]; exact Blk.new _ _ _
    have HO6 : Hid (w6.ownsRow w.heap.size 5 1 r5 11 (u8C (headL k f t l o a false ++ b4 n))) := by rw [hw6]; exact HO5.out.alloc _
    have HB56 : Hid (Below w5.heap.size w5 w6) := by rw [hw6]; exact (Below.refl _ _).alloc (Nat.le_refl _) _
    have HB6 : Hid (Below w.heap.size w w6) := HB5.out.trans (HB56.out.mono HB5.out.size)
    clear hw6
    refine ⟨_, rfl, ⟨(HKB5.out.below HB56.out).c 7, (HKB5.out.below HB56.out).c 8⟩, ?_⟩
    try simp only [Act.put, List.setIfInBounds_toArray, List.set_cons_zero, List.set_cons_succ, List.getElem_toArray, List.getElem_cons_zero, List.getElem_cons_succ]
    refine planT_stop ?_
    simp only [List.drop_succ_cons, List.drop_zero]
    clear c7 c8
    go_wp2_with (first | (at_builtin; refine wpList_append_sl rfl _ _ 30 rfl w.heap.size 5 i0 (.int .u8 0) 1 1 Try.underlying30 HI.out.1 HI.out.2.1 HI.out.2.2.1 HI.out.2.2.2 rfl (by decide) _ _ _ rfl HO6.out _ 4 4 (u8C (b4 v)) rfl (by rw [u8C_len]; rfl) (blk_sl HK6.out) (u8C_one _) (by decide) (by decide) HB6.out.size ?_))
    intro v' w' g1 g2 g3
    have HG : Hid (w'.ownsRow w.heap.size 5 1 v' 15 (u8C (bodyL k f t l o a false n v))) := Lib.hid (by rw [u8C_app, List.append_assoc] at g1; exact g1)
    have HBN : Hid (Below w.heap.size w w') := Lib.hid (HB6.out.grown g2 HB6.out.size (fun k hk => (HO6.out.lt k hk).1))
    clear g1 g2 g3
    go_wp2
    go_meet
    case rel => exact ⟨HG.out, HBN.out⟩
  case rest =>
    obtain ⟨hown, hbel⟩ := hcut
    obtain ⟨pb, cb, rfl⟩ := own_sl hown
    have HO9 := Lib.hid hown
    have HB9 := Lib.hid hbel
    clear hown hbel c7 c8
    go_wp2_with fail
    refine (sumR_any pb 15 cb (bodyL k f t l o a false n v) _ rfl (by unfold maxLen; omega) (byts_own HO9.out rfl HBL.out)).mono ?_
    rintro e w6 ⟨rfl, rfl⟩
    go_wp2_with fail
    have hsl := sumN_lt (bodyL k f t l o a false n v)
    refine (rbytes_any ((sumN (bodyL k f t l o a false n v) : Nat) : Int) _ (by omega) (by omega)).mono ?_
    rintro e w7 ⟨rfl, hw7⟩
    rw [row4_u8C] at hw7
    have HK7 : Hid (Blk w7 wc.heap.size (u8C (b4 (sumN (bodyL k f t l o a false n v)))).toArray) := by rw [hw7]; exact Blk.new _ _ _
    have HB7 : Hid (Below wc.heap.size wc w7) := by rw [hw7]; exact (Below.refl _ _).alloc (Nat.le_refl _) _
    have HO7 : Hid (w7.ownsRow w.heap.size 5 1 (.slice pb 15 cb) 15 (u8C (bodyL k f t l o a false n v))) := by rw [hw7]; exact HO9.out.alloc _
    have HB57 : Hid (Below w.heap.size w w7) := HB9.out.trans (HB7.out.mono HB9.out.size)
    clear hw7
    go_wp2_with (first | (at_builtin; refine wpList_append_sl rfl _ _ 30 rfl w.heap.size 5 i0 (.int .u8 0) 1 1 Try.underlying30 HI.out.1 HI.out.2.1 HI.out.2.2.1 HI.out.2.2.2 rfl (by decide) _ _ _ rfl HO7.out _ 4 4 (u8C (b4 (sumN (bodyL k f t l o a false n v)))) rfl (by rw [u8C_len]; rfl) (blk_sl HK7.out) (u8C_one _) (by decide) (by decide) HB57.out.size ?_))
    intro v' w' g1 g2 g3
    have HG : Hid (w'.ownsRow w.heap.size 5 1 v' 19 (u8C (frameL k f t l o a false n v))) := Lib.hid (by rw [u8C_app] at g1; exact g1)
    have HBN : Hid (Below w.heap.size w w') := Lib.hid (HB57.out.grown g2 HB57.out.size (fun k hk => (HO7.out.lt k hk).1))
    clear g1 g2 g3
    go_wp2
    go_ret2
    exact ⟨_, rfl, HG.out, HBN.out⟩
set_option maxHeartbeats 4000000 in
theorem rput_t (k f t l o a : Nat) (n v : Nat) (w : World) (h : mayM ⟨k, f, t, l, o, a, true, n, v⟩ = true) (hk : k < 256) (hf : f < 256) (ht : t < 256) (hl : l < 256) (ho : o < 256) (ha : a < 256) (hn : n < 4294967296) (hv : v < 4294967296) :
    Calls Try.prog 26 #[.agg #[.int .i64 k, .int .i64 f, .int .i64 t, .int .i64 l, .int .i64 o, .int .i64 a, .bool true, .int .u32 n, .int .u32 v]] w fun e w' => ∃ r, e = .returned (.tuple #[r, .int .i64 0]) ∧ w'.ownsRow w.heap.size 5 1 r 19 (u8C (frameL k f t l o a true n v)) ∧ Below w.heap.size w w' := by
  have hm := fun W => rmay_any ⟨k, f, t, l, o, a, true, n, v⟩ W
  rw [h] at hm
  unfold Msg.row at hm
  have HM := Lib.hid hm
  have HBL := Lib.hid (body_lt (own := true) hk hf ht hl ho ha hn hv)
  have wk := wrap_u8 hk
  have wf := wrap_u8 hf
  have wt := wrap_u8 ht
  have wl := wrap_u8 hl
  have wo := wrap_u8 ho
  have wa := wrap_u8 ha
  obtain ⟨i0, hi, hz0, hz1, hz2⟩ := info_parts info5
  have HI := Lib.hid (And.intro hi (And.intro hz0 (And.intro hz1 hz2)))
  clear hm h hi hz0 hz1 hz2
  go_enter Try.func26, Try.ntmps26
  go_wp2_with fail
  refine (HM.out _).mono ?_
  rintro e w1 ⟨rfl, hb⟩
  have HB : Hid (Below w.heap.size w w1) := ((Below.refl _ _).alloc (Nat.le_refl _) _).trans (hb.mono (by simp))
  have HK : Hid (Blk w1 w.heap.size #[.int .i64 k, .int .i64 f, .int .i64 t, .int .i64 l, .int .i64 o, .int .i64 a, .bool true, .int .u32 n, .int .u32 v]) := Blk.track1 hb
  have cB := HK.out.c
  have lB := HK.out.lt
  clear hb HM
  go_upto_region 6 with fail
  obtain ⟨W3, hW3⟩ : ∃ W3, W3 = (w1.alloc (.cells #[.int .u8 k, .int .u8 f, .int .u8 t, .int .u8 l, .int .u8 o, .int .u8 a, .int .u8 1] 5)) := ⟨_, rfl⟩
  have HKB0 : Hid (w.heap.size < w1.heap.size) := Lib.hid HK.out.lt
  have HO : Hid (W3.ownsRow w.heap.size 5 1 (.slice (some ⟨w1.heap.size, 0, none⟩) 7 7) 7 (u8C (headL k f t l o a true))) := by rw [hW3]; exact World.ownsRow_lit w1 _ 7 HB.out.size (by unfold maxLen; omega) rfl
  have HWC : Hid (Below w.heap.size w W3) := by rw [hW3]; exact (HB.out.alloc HB.out.size _)
  have HKB : Hid (Blk W3 w.heap.size #[.int .i64 k, .int .i64 f, .int .i64 t, .int .i64 l, .int .i64 o, .int .i64 a, .bool true, .int .u32 n, .int .u32 v]) := by rw [hW3]; exact HK.out.alloc _
  rw [← hW3]
  clear hW3 cB lB wk wf wt wl wo wa HK HB
  have c7 : W3.drew.cell? ⟨w.heap.size, 7, none⟩ = some (.int .u32 n) := HKB.out.drew.c 7
  have c8 : W3.drew.cell? ⟨w.heap.size, 8, none⟩ = some (.int .u32 v) := HKB.out.drew.c 8
  have hO2 : W3.drew.ownsRow w.heap.size 5 1 (.slice (some ⟨w1.heap.size, 0, none⟩) 7 7) 7 (u8C (headL k f t l o a true)) := HO.out
  have HO3 := Lib.hid hO2
  clear hO2
  go_cut [4] (fun s4 wd => wd.ownsRow w.heap.size 5 1 s4 15 (u8C (bodyL k f t l o a true n v)) ∧ Below w.heap.size w wd)
  case first =>
    refine region_planT (fun w' : World => w'.cell? ⟨w.heap.size, 7, none⟩ = some (.int .u32 n) ∧ w'.cell? ⟨w.heap.size, 8, none⟩ = some (.int .u32 v)) 8 (.read 0 (.read 1 (.read 2 (.read 5 (.read 6 (.one 3 (.one 4 (.one 7 .stop)))))))) (by kernel_rfl) (by kernel_rfl) ⟨c7, c8⟩ ?_
    iterate 5
      refine planT_read (v := ?_) rfl (by rfl) ?_ ?_
      rotate_left
      · intro w' hS
        try dsimp only at hS
        go_simp
        try with_reducible rfl
      try simp only [Act.put, List.setIfInBounds_toArray, List.set_cons_zero, List.set_cons_succ, List.getElem_toArray, List.getElem_cons_zero, List.getElem_cons_succ]
    refine planT_one ?_
    refine op_call (F := 42) (args := ?_) rfl (by rfl) ?_ ?_
    rotate_left
    · go_simp
      rfl
    refine (rbytes_any (n : Nat) _ (by omega) (by omega)).mono ?_
    rintro e w2 ⟨rfl, hw2⟩
    rw [row4_u8C] at hw2
    have HK2 : Hid (Blk w2 W3.drew.heap.size (u8C (b4 n)).toArray) := by rw [hw2]; exact Blk.new _ _ _
    have HB2 : Hid (Below W3.heap.size W3 w2) := by rw [hw2]; exact (Below.refl _ _).drew.alloc (Nat.le_refl _) _
    have HO4 : Hid (w2.ownsRow w.heap.size 5 1 (.slice (some ⟨w1.heap.size, 0, none⟩) 7 7) 7 (u8C (headL k f t l o a true))) := by rw [hw2]; exact HO3.out.alloc _
    have HB12 : Hid (Below w.heap.size w w2) := HWC.out.trans (HB2.out.mono HWC.out.size)
    clear hw2
    refine ⟨_, rfl, ⟨(HKB.out.below HB2.out).c 7, (HKB.out.below HB2.out).c 8⟩, ?_⟩
    try simp only [Act.put, List.setIfInBounds_toArray, List.set_cons_zero, List.set_cons_succ, List.getElem_toArray, List.getElem_cons_zero, List.getElem_cons_succ]
    refine planT_one ?_
    refine op_wp rfl (by rfl) ?_
    try simp only [List.getElem_toArray, List.getElem_cons_zero, List.getElem_cons_succ]
    refine (wp_append_sl _ _ 30 rfl w.heap.size 5 i0 (.int .u8 0) 1 1 Try.underlying30 HI.out.1 HI.out.2.1 HI.out.2.2.1 HI.out.2.2.2 rfl (by decide) _ _ _ rfl HO4.out _ 4 4 (u8C (b4 n)) rfl (by rw [u8C_len]; rfl) (blk_sl HK2.out) (u8C_one _) (by decide) (by decide) HB12.out.size ?_)
    intro r5 w5 g1 g2 g3
    have HO5 : Hid (w5.ownsRow w.heap.size 5 1 r5 11 (u8C (headL k f t l o a true ++ b4 n))) := Lib.hid (by rw [u8C_app] at g1; exact g1)
    have HB5 : Hid (Below w.heap.size w w5) := Lib.hid (HB12.out.grown g2 HB12.out.size (fun k hk => (HO4.out.lt k hk).1))
    have HKB5 : Hid (Blk w5 w.heap.size #[.int .i64 k, .int .i64 f, .int .i64 t, .int .i64 l, .int .i64 o, .int .i64 a, .bool true, .int .u32 n, .int .u32 v]) := Lib.hid ((HKB.out.below HB2.out).grown g2 (by intro e; have h2 : w1.heap.size = w.heap.size := Option.some.inj e; have h3 := HKB0.out; omega))
    clear g1 g2 g3
    refine ⟨⟨HKB5.out.c 7, HKB5.out.c 8⟩, ?_⟩
    try simp only [Act.put, List.setIfInBounds_toArray, List.set_cons_zero, List.set_cons_succ, List.getElem_toArray, List.getElem_cons_zero, List.getElem_cons_succ]
    refine planT_one ?_
    refine op_call (F := 42) (args := ?_) rfl (by rfl) ?_ ?_
    rotate_left
    · go_simp
      rfl
    refine (rbytes_any (v : Nat) _ (by omega) (by omega)).mono ?_
    rintro e w6 ⟨rfl, hw6⟩
    rw [row4_u8C] at hw6
    have HK6 : Hid (Blk w6 w5.heap.size (u8C (b4 v)).toArray) := by rw [hw6]; exact Blk.new _ _ _
    have HO6 : Hid (w6.ownsRow w.heap.size 5 1 r5 11 (u8C (headL k f t l o a true ++ b4 n))) := by rw [hw6]; exact HO5.out.alloc _
    have HB56 : Hid (Below w5.heap.size w5 w6) := by rw [hw6]; exact (Below.refl _ _).alloc (Nat.le_refl _) _
    have HB6 : Hid (Below w.heap.size w w6) := HB5.out.trans (HB56.out.mono HB5.out.size)
    clear hw6
    refine ⟨_, rfl, ⟨(HKB5.out.below HB56.out).c 7, (HKB5.out.below HB56.out).c 8⟩, ?_⟩
    try simp only [Act.put, List.setIfInBounds_toArray, List.set_cons_zero, List.set_cons_succ, List.getElem_toArray, List.getElem_cons_zero, List.getElem_cons_succ]
    refine planT_stop ?_
    simp only [List.drop_succ_cons, List.drop_zero]
    clear c7 c8
    go_wp2_with (first | (at_builtin; refine wpList_append_sl rfl _ _ 30 rfl w.heap.size 5 i0 (.int .u8 0) 1 1 Try.underlying30 HI.out.1 HI.out.2.1 HI.out.2.2.1 HI.out.2.2.2 rfl (by decide) _ _ _ rfl HO6.out _ 4 4 (u8C (b4 v)) rfl (by rw [u8C_len]; rfl) (blk_sl HK6.out) (u8C_one _) (by decide) (by decide) HB6.out.size ?_))
    intro v' w' g1 g2 g3
    have HG : Hid (w'.ownsRow w.heap.size 5 1 v' 15 (u8C (bodyL k f t l o a true n v))) := Lib.hid (by rw [u8C_app, List.append_assoc] at g1; exact g1)
    have HBN : Hid (Below w.heap.size w w') := Lib.hid (HB6.out.grown g2 HB6.out.size (fun k hk => (HO6.out.lt k hk).1))
    clear g1 g2 g3
    go_wp2
    go_meet
    case rel => exact ⟨HG.out, HBN.out⟩
  case rest =>
    obtain ⟨hown, hbel⟩ := hcut
    obtain ⟨pb, cb, rfl⟩ := own_sl hown
    have HO9 := Lib.hid hown
    have HB9 := Lib.hid hbel
    clear hown hbel c7 c8
    go_wp2_with fail
    refine (sumR_any pb 15 cb (bodyL k f t l o a true n v) _ rfl (by unfold maxLen; omega) (byts_own HO9.out rfl HBL.out)).mono ?_
    rintro e w6 ⟨rfl, rfl⟩
    go_wp2_with fail
    have hsl := sumN_lt (bodyL k f t l o a true n v)
    refine (rbytes_any ((sumN (bodyL k f t l o a true n v) : Nat) : Int) _ (by omega) (by omega)).mono ?_
    rintro e w7 ⟨rfl, hw7⟩
    rw [row4_u8C] at hw7
    have HK7 : Hid (Blk w7 wc.heap.size (u8C (b4 (sumN (bodyL k f t l o a true n v)))).toArray) := by rw [hw7]; exact Blk.new _ _ _
    have HB7 : Hid (Below wc.heap.size wc w7) := by rw [hw7]; exact (Below.refl _ _).alloc (Nat.le_refl _) _
    have HO7 : Hid (w7.ownsRow w.heap.size 5 1 (.slice pb 15 cb) 15 (u8C (bodyL k f t l o a true n v))) := by rw [hw7]; exact HO9.out.alloc _
    have HB57 : Hid (Below w.heap.size w w7) := HB9.out.trans (HB7.out.mono HB9.out.size)
    clear hw7
    go_wp2_with (first | (at_builtin; refine wpList_append_sl rfl _ _ 30 rfl w.heap.size 5 i0 (.int .u8 0) 1 1 Try.underlying30 HI.out.1 HI.out.2.1 HI.out.2.2.1 HI.out.2.2.2 rfl (by decide) _ _ _ rfl HO7.out _ 4 4 (u8C (b4 (sumN (bodyL k f t l o a true n v)))) rfl (by rw [u8C_len]; rfl) (blk_sl HK7.out) (u8C_one _) (by decide) (by decide) HB57.out.size ?_))
    intro v' w' g1 g2 g3
    have HG : Hid (w'.ownsRow w.heap.size 5 1 v' 19 (u8C (frameL k f t l o a true n v))) := Lib.hid (by rw [u8C_app] at g1; exact g1)
    have HBN : Hid (Below w.heap.size w w') := Lib.hid (HB57.out.grown g2 HB57.out.size (fun k hk => (HO7.out.lt k hk).1))
    clear g1 g2 g3
    go_wp2
    go_ret2
    exact ⟨_, rfl, HG.out, HBN.out⟩
end Go.Proofs.Ytpmheaeiemnjeaa
