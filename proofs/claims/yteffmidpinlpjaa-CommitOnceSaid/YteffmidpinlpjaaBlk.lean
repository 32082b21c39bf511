/- Blocks of memory of which all is known, and how they stay so: behind new blocks, calls that write nothing which was there, and stores elsewhere; no program in sight. -/
import Derived.WalkKit
import Derived.ProofKit
import Derived.Below
import Derived.Lib.Hide
import Derived.StillTailTactics
import Derived.Deep.QuietTactic
namespace Go.Proofs.Yteffmidpinlpjaa
set_option linter.unusedVariables false
open Go.ChangeShapes Go.WideShapes Go.ChangeAt Go.RowKit

/-- Block B holds just these cells, and none of them is frozen. -/
structure Blk (w : World) (B : Nat) (cs : Array Value) : Prop where
  lt : B < w.heap.size
  c : ∀ j, w.cell? ⟨B, j, none⟩ = cs[j]?
  f : ∀ j, w.frozen? ⟨B, j, none⟩ = false

theorem Blk.new (w : World) (cs : Array Value) (t : TypeId) : Blk (w.alloc (.cells cs t)) w.heap.size cs :=
  ⟨by simp, fun j => World.cell?_alloc_new w cs t j, fun j => World.frozen?_alloc_at cs t _ j rfl⟩
theorem Blk.below {w w' : World} {B : Nat} {cs : Array Value} (h : Blk w B cs) (hb : Below w.heap.size w w') : Blk w' B cs :=
  ⟨Nat.lt_of_lt_of_le h.lt hb.size, fun j => (hb.cell (p := ⟨B, j, none⟩) h.lt).trans (h.c j), fun j => (hb.frozen (p := ⟨B, j, none⟩) h.lt).trans (h.f j)⟩
theorem Blk.belowN {w w' : World} {B M : Nat} {cs : Array Value} (h : Blk w B cs) (hb : Below M w w') (hM : B < M) : Blk w' B cs :=
  ⟨Nat.lt_of_lt_of_le h.lt hb.size, fun j => (hb.cell (p := ⟨B, j, none⟩) hM).trans (h.c j), fun j => (hb.frozen (p := ⟨B, j, none⟩) hM).trans (h.f j)⟩
theorem Blk.alloc {w : World} {B : Nat} {cs : Array Value} (h : Blk w B cs) (o : Obj) : Blk (w.alloc o) B cs := h.below ((Below.refl _ _).alloc (Nat.le_refl _) _)
theorem Blk.drew {w : World} {B : Nat} {cs : Array Value} (h : Blk w B cs) : Blk w.drew B cs := ⟨h.lt, h.c, h.f⟩
theorem Blk.set {w : World} {B n : Nat} {cs : Array Value} (h : Blk w B cs) (v : Value) (hn : n < cs.size) : Blk (w.setCell ⟨B, n, none⟩ v) B (cs.setIfInBounds n v) := by
  refine ⟨by simpa using h.lt, fun j => ?_, fun j => by simpa using h.f j⟩
  by_cases hj : n = j
  · subst hj
    rw [Array.getElem?_setIfInBounds_self_of_lt hn]
    exact World.cell?_setCell_same _ _ _ ((h.c n).trans (Array.getElem?_eq_getElem hn))
  · rw [Array.getElem?_setIfInBounds_ne hj, World.cell?_setCell_other _ _ _ _ (by intro e; injection e with _ e2; exact hj e2)]
    exact h.c j
theorem Blk.other {w : World} {B B' n : Nat} {cs : Array Value} (h : Blk w B cs) (v : Value) (hne : B' ≠ B) : Blk (w.setCell ⟨B', n, none⟩ v) B cs :=
  ⟨by simpa using h.lt, fun j => (World.cell?_setCell_other _ _ _ _ (by intro e; injection e with e1; exact hne e1)).trans (h.c j), fun j => by simpa using h.f j⟩
theorem Blk.cast {w : World} {B : Nat} {cs ds : Array Value} (h : Blk w B cs) (e : cs = ds) : Blk w B ds := e ▸ h

/-- Blocks that were laid just ahead of a call. -/
theorem Blk.track1 {w w' : World} {cs : Array Value} {t : TypeId} (hb : Below (w.alloc (.cells cs t)).heap.size (w.alloc (.cells cs t)) w') : Blk w' w.heap.size cs := (Blk.new w cs t).below hb
theorem Blk.track2 {w w' : World} {cs : Array Value} {t : TypeId} {o : Obj} (hb : Below ((w.alloc (.cells cs t)).alloc o).heap.size ((w.alloc (.cells cs t)).alloc o) w') : Blk w' w.heap.size cs := ((Blk.new w cs t).alloc o).below hb
theorem Blk.carry1 {w w' : World} {B : Nat} {cs : Array Value} {o : Obj} (h : Blk w B cs) (hb : Below (w.alloc o).heap.size (w.alloc o) w') : Blk w' B cs := (h.alloc o).below hb

theorem Blk.drewN {w : World} {B : Nat} {cs : Array Value} (h : Blk w B cs) (n : Nat) : Blk (w.drewN n) B cs := ⟨h.lt, h.c, h.f⟩

/-- A block that was laid behind W0. -/
structure Trk (W0 w' : World) (X : Nat) (cs : Array Value) : Prop where
  blk : Blk w' X cs
  ge : W0.heap.size ≤ X
theorem Trk.one {W0 w' : World} {cs : Array Value} {t : TypeId} (hb : Below (W0.alloc (.cells cs t)).drew.heap.size (W0.alloc (.cells cs t)).drew w') : Trk W0 w' W0.heap.size cs := ⟨(Blk.new W0 cs t).drew.below hb, Nat.le_refl _⟩
theorem Trk.two1 {W0 w' : World} {cs : Array Value} {t : TypeId} {o : Obj} (hb : Below ((W0.alloc (.cells cs t)).alloc o).drew.heap.size ((W0.alloc (.cells cs t)).alloc o).drew w') : Trk W0 w' W0.heap.size cs := ⟨((Blk.new W0 cs t).alloc o).drew.below hb, Nat.le_refl _⟩
theorem Trk.two2 {W0 w' : World} {cs : Array Value} {t : TypeId} {o : Obj} (hb : Below ((W0.alloc o).alloc (.cells cs t)).drew.heap.size ((W0.alloc o).alloc (.cells cs t)).drew w') : Trk W0 w' (W0.heap.size + 1) cs := by
  have h := (Blk.new (W0.alloc o) cs t).drew.below hb
  rw [World.size_alloc] at h
  exact ⟨h, Nat.le_succ _⟩
theorem Trk.carry0 {W0 w w' : World} {X : Nat} {cs : Array Value} (h : Trk W0 w X cs) (hb : Below w.heap.size w w') : Trk W0 w' X cs := ⟨h.blk.below hb, h.ge⟩
theorem Trk.carry1 {W0 w w' : World} {X : Nat} {cs : Array Value} {o : Obj} (h : Trk W0 w X cs) (hb : Below (w.alloc o).heap.size (w.alloc o) w') : Trk W0 w' X cs := ⟨(h.blk.alloc o).below hb, h.ge⟩
theorem Trk.at1 {W0 w w' : World} {cs : Array Value} {t : TypeId} (hw : Below W0.heap.size W0 w) (hb : Below (w.alloc (.cells cs t)).heap.size (w.alloc (.cells cs t)) w') : Trk W0 w' w.heap.size cs := ⟨Blk.track1 hb, hw.size⟩
theorem Trk.at21 {W0 w w' : World} {cs : Array Value} {t : TypeId} {o : Obj} (hw : Below W0.heap.size W0 w) (hb : Below ((w.alloc (.cells cs t)).alloc o).heap.size ((w.alloc (.cells cs t)).alloc o) w') : Trk W0 w' w.heap.size cs := ⟨Blk.track2 hb, hw.size⟩
theorem Trk.at22 {W0 w w' : World} {cs : Array Value} {t : TypeId} {o : Obj} (hw : Below W0.heap.size W0 w) (hb : Below ((w.alloc o).alloc (.cells cs t)).heap.size ((w.alloc o).alloc (.cells cs t)) w') : Trk W0 w' (w.heap.size + 1) cs := by
  have h := (Blk.new (w.alloc o) cs t).below hb
  rw [World.size_alloc] at h
  exact ⟨h, Nat.le_trans hw.size (Nat.le_succ _)⟩
theorem belowAlloc {W0 w : World} (h : Below W0.heap.size W0 w) (o : Obj) : Below W0.heap.size W0 (w.alloc o) := h.alloc h.size o
theorem bA {W0 w : World} {o : Obj} (h : Below W0.heap.size W0 w) : Below W0.heap.size W0 (w.alloc o) = True := eq_true (h.alloc h.size o)
theorem bS {W0 w : World} {X j : Nat} {v : Value} (h : Below W0.heap.size W0 w) (hX : W0.heap.size ≤ X) : Below W0.heap.size W0 (w.setCell ⟨X, j, none⟩ v) = True := eq_true (h.setCell hX _)
theorem bD {W0 w : World} (h : Below W0.heap.size W0 w) : Below W0.heap.size W0 w.drew = True := eq_true h.drew
theorem bR {W0 : World} : Below W0.heap.size W0 W0 = True := eq_true (Below.refl _ _)
theorem size_set (w : World) (a : Addr) (v : Value) : (w.setCell a v).heap.size = w.heap.size := by simp
theorem size_new (w : World) (o : Obj) : (w.alloc o).heap.size = w.heap.size + 1 := World.size_alloc w o
theorem blkNew {w : World} {Y : Nat} {cs : Array Value} {t : TypeId} (h : w.heap.size = Y) : Blk (w.alloc (.cells cs t)) Y cs = True := eq_true (h ▸ Blk.new w cs t)
theorem blkA {w : World} {X : Nat} {cs : Array Value} {o : Obj} (h : Blk w X cs) : Blk (w.alloc o) X cs = True := eq_true (h.alloc o)

theorem ne_succ (n : Nat) : n ≠ n + 1 := by omega
theorem succ_ne (n : Nat) : n + 1 ≠ n := by omega
theorem sOf {W0 w' : World} {B : Nat} {cs : Array Value} (hB : Hid (Blk W0 B cs)) (hb : Below W0.heap.size W0 w') : (∀ j, w'.cell? ⟨B, j, none⟩ = cs[j]?) ∧ Below W0.heap.size W0 w' := ⟨(hB.out.below hb).c, hb⟩

end Go.Proofs.Yteffmidpinlpjaa
