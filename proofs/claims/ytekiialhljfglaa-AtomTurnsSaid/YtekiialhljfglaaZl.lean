/- Laid together, in this order: AtomAwake. -/
import Derived.Test.YtekiialhljfglaaZk
/- The fixed answers that each statement of layer 4 begins with: they are given, and nothing that was there is written. -/
namespace Go.Proofs.Ytekiialhljfglaa
set_option linter.unusedVariables false
open Go.ChangeShapes Go.WideShapes Go.ChangeAt Go.RowKit

def p0 : List (List I5) := [[⟨1, 1, 0, 0, 5⟩, ⟨10, 1, 0, 0, 0⟩, ⟨15, 1, 0, 0, 0⟩, ⟨16, 0, 0, 0, 0⟩]]
def row0 : Array Value := #[.int .i64 1, .int .i64 1, .int .i64 0, .int .i64 0, .int .u32 5, .int .i64 10, .int .i64 1, .int .i64 0, .int .i64 0, .int .u32 0, .int .i64 15, .int .i64 1, .int .i64 0, .int .i64 0, .int .u32 0, .int .i64 16, .int .i64 0, .int .i64 0, .int .i64 0, .int .u32 0]
def end0 : Atm := runA p0 4 [0, 0, 0, 0, 0]
theorem end0_mem : end0.mem = [5, 0, 0, 0] := by decide
theorem end0_outs : end0.outs = [(0, 5)] := by decide
theorem end0_over : overA end0.cores = true := by decide
theorem end0_right : rightA p0 end0 = true := by decide
theorem end0_cores : end0.cores.length = 1 := by decide
theorem p0_new : newOk p0 4 = true := by decide

theorem p0_prgs {w w' : World} {b c : Nat} (h1 : Blk w b row0) (h2 : Blk w c #[.slice (some ⟨b, 0, none⟩) 4 4]) : Prgs w (some ⟨c, 0, none⟩) p0 := fun _ => ⟨c, 0, h2.lt, rfl, fun i hi => by
  match i, hi with
  | 0, _ =>
    refine ⟨_, _, h2.c 0, fun _ => ⟨b, 0, h1.lt, rfl, fun j hj => ?_⟩⟩
    match j, hj with
    | 0, _ => exact ⟨h1.c 0, h1.c 1, h1.c 2, h1.c 3, h1.c 4, by decide, by decide⟩
    | 1, _ => exact ⟨h1.c 5, h1.c 6, h1.c 7, h1.c 8, h1.c 9, by decide, by decide⟩
    | 2, _ => exact ⟨h1.c 10, h1.c 11, h1.c 12, h1.c 13, h1.c 14, by decide, by decide⟩
    | 3, _ => exact ⟨h1.c 15, h1.c 16, h1.c 17, h1.c 18, h1.c 19, by decide, by decide⟩⟩

set_option maxHeartbeats 1000000 in
theorem awake_any (w : World) : Calls Try.prog 7 #[] w fun e w' => e = .returned (.bool true) ∧ Below w.heap.size w w' := by
  go_enter Try.func7, Try.ntmps7
  go_upto_region 2 with fail
  obtain ⟨W1, hW1⟩ : ∃ W1, W1 = (w.alloc (.cells row0 61)).alloc (.cells #[.slice (some ⟨w.heap.size, 0, none⟩) 4 4] 58) := ⟨_, rfl⟩
  have HK1 : Hid (Blk W1 w.heap.size row0) := by rw [hW1]; exact (Blk.new w _ 61).alloc _
  have HK2 : Hid (Blk W1 (w.heap.size + 1) #[.slice (some ⟨w.heap.size, 0, none⟩) 4 4]) := by
    rw [hW1]
    have h := Blk.new (w.alloc (.cells row0 61)) #[.slice (some ⟨w.heap.size, 0, none⟩) 4 4] 58
    rw [World.size_alloc] at h
    exact h
  have HBW : Hid (Below w.heap.size w W1) := by rw [hW1]; exact ((Below.refl _ _).alloc (Nat.le_refl _) _).alloc (by simp) _
  have hW2 : W1 = (w.alloc (.cells #[.int .i64 1, .int .i64 1, .int .i64 0, .int .i64 0, .int .u32 5, .int .i64 10, .int .i64 1, .int .i64 0, .int .i64 0, .int .u32 0, .int .i64 15, .int .i64 1, .int .i64 0, .int .i64 0, .int .u32 0, .int .i64 16, .int .i64 0, .int .i64 0, .int .i64 0, .int .u32 0] 61)).alloc (.cells #[.slice (some ⟨w.heap.size, 0, none⟩) 4 4] 58) := hW1
  rw [← hW2]
  clear hW1 hW2
  go_wp2_with fail
  have HB2 : Hid (Below W1.heap.size W1 (W1.alloc (.cells #[.int .i64 0, .int .i64 0, .int .i64 0, .int .i64 0, .int .i64 0] 3))) := (Below.refl _ _).alloc (Nat.le_refl _) _
  have HP2 : Hid (Prgs W1 (some ⟨w.heap.size + 1, 0, none⟩) p0) := p0_prgs (w' := W1) HK1.out HK2.out
  have hrun := run_yes (some ⟨w.heap.size + 1, 0, none⟩) (some ⟨W1.heap.size, 0, none⟩) 1 1 5 5 4 p0 [0, 0, 0, 0, 0] (W1.alloc (.cells #[.int .i64 0, .int .i64 0, .int .i64 0, .int .i64 0, .int .i64 0] 3)) rfl (HP2.out.below HB2.out) p0_new rfl (by decide) (fun _ => ⟨_, 0, by simp, rfl, fun j hj => by rw [Nat.zero_add, World.cell?_alloc_new]; unfold intC; simp⟩)
  refine hrun.mono ?_
  clear hrun
  rintro e w2 ⟨vm, vc, vo, rfl, hown, hb2⟩
  have hown : OwnM w2 _ vm vc vo end0 := hown
  have lm : end0.mem.length = 4 := by rw [end0_mem]; rfl
  have lo : end0.outs.length = 1 := by rw [end0_outs]; rfl
  obtain ⟨hm, hc, ho⟩ := hown
  rw [lm, end0_mem] at hm
  rw [end0_cores] at hc
  rw [lo, end0_outs] at ho
  obtain ⟨gm, cm, rfl⟩ := Joins.ownsRow_form hm (by decide)
  obtain ⟨gc, cc, rfl⟩ := Joins.ownsRow_form hc (by decide)
  obtain ⟨go, co, rfl⟩ := Joins.ownsRow_form ho (by decide)
  have HOM : Hid (OwnM w2 (W1.alloc (.cells #[.int .i64 0, .int .i64 0, .int .i64 0, .int .i64 0, .int .i64 0] 3)).heap.size (.slice (some ⟨gm, 0, none⟩) 4 cm) (.slice (some ⟨gc, 0, none⟩) 1 cc) (.slice (some ⟨go, 0, none⟩) 1 co) end0) := ⟨by rw [lm, end0_mem]; exact hm, by rw [end0_cores]; exact hc, by rw [lo, end0_outs]; exact ho⟩
  have c0 : w2.cell? ⟨gm, 0, none⟩ = some (.int .u32 5) := hm.cellAt 0 (by decide)
  have o0 : w2.cell? ⟨go, 0, none⟩ = some (.int .i64 0) := ho.cellAt 0 (by decide)
  have o1 : w2.cell? ⟨go, 1, none⟩ = some (.int .u32 5) := ho.cellAt 1 (by decide)
  have lm1 := (hm.lt gm rfl).2
  have lo1 := (ho.lt go rfl).2
  have b2 : Hid (Below W1.heap.size W1 w2) := HB2.out.trans (hb2.mono HB2.out.size)
  have hq : ∀ W, (binOp .eql 63 (.agg #[.int .i64 0, .int .u32 5]) (.agg #[.int .i64 0, .int .u32 5])).run Try.prog W = .ok (.bool true) W := fun W => eq_told W 0 5
  clear hm hc ho hb2 HB2
  go_wp2_with fail
  have HB3 : Hid (Below w2.heap.size w2 (w2.alloc (.cells #[.slice (some ⟨gm, 0, none⟩) 4 cm, .slice (some ⟨gc, 0, none⟩) 1 cc, .slice (some ⟨go, 0, none⟩) 1 co] 27))) := (Below.refl _ _).alloc (Nat.le_refl _) _
  have hov := over_any (some ⟨gm, 0, none⟩) (some ⟨gc, 0, none⟩) (some ⟨go, 0, none⟩) 4 cm 1 cc 1 co end0.cores _ end0_cores (by decide) (by
    obtain ⟨pc, k, e, hsl⟩ := Sl.own (own_below HOM.out.c HB3.out)
    injection e with e
    rw [e, ← end0_cores]
    exact hsl)
  refine hov.mono ?_
  clear hov
  rw [end0_over]
  rintro e w3 ⟨rfl, hb3⟩
  have k3 : Hid (Blk w3 w2.heap.size #[.slice (some ⟨gm, 0, none⟩) 4 cm, .slice (some ⟨gc, 0, none⟩) 1 cc, .slice (some ⟨go, 0, none⟩) 1 co]) := Blk.track1 hb3
  have b3 : Hid (Below w2.heap.size w2 w3) := HB3.out.trans (hb3.mono HB3.out.size)
  clear hb3 HB3 c0 o0 o1 lm1 lo1 hq
  have c := k3.out.c
  go_wp2_with fail
  have hr := right_any4 (some ⟨w.heap.size + 1, 0, none⟩) 1 p0 (.agg #[.slice (some ⟨gm, 0, none⟩) 4 cm, .slice (some ⟨gc, 0, none⟩) 1 cc, .slice (some ⟨go, 0, none⟩) 1 co]) end0 w3 ((HP2.out.below b2.out).below b3.out) ((HOM.out.below b3.out).mach)
  refine hr.mono ?_
  clear hr
  rw [end0_right]
  rintro e w4 ⟨rfl, hb4⟩
  have b4 : Hid (Below w.heap.size w w4) := HBW.out.trans ((b2.out.mono HBW.out.size).trans ((b3.out.mono (Nat.le_trans HBW.out.size b2.out.size)).trans (hb4.mono (Nat.le_trans HBW.out.size (Nat.le_trans b2.out.size b3.out.size)))))
  clear hb4 c
  go_wp2
  go_ret
  exact ⟨rfl, b4.out⟩
end Go.Proofs.Ytekiialhljfglaa
