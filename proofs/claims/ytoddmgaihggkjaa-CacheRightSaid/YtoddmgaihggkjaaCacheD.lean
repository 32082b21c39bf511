/- Where the first line of an address stands; no condition but that the lines read. -/
import Derived.Test.YtoddmgaihggkjaaCacheB
import Derived.Shelf.SlicesQ.IndexFunc
namespace Go.Proofs.Ytoddmgaihggkjaa
set_option linter.unusedVariables false
open Go.ChangeShapes Go.WideShapes Go.ChangeAt Go.RowKit Go.Shelf

def Try.l51_ren : Go.Shelf.Ren := ⟨fun | 6 => 51 | n => n, fun | 22 => 28 | 23 => 30 | 25 => 89 | 3 => 3 | 0 => 0 | 4 => 4 | n => n, fun | n => n⟩
theorem Try.l51 : Go.Proofs.SlLaysH0.n6 Try.prog Try.l51_ren := {
  mixed := by kernel_rfl
  f6 := ⟨Try.f51.name, by decide, Try.func51.trans (congrArg some (by kernel_rfl))⟩
  t0 := Try.underlying0
  a0 := Try.isAgg0
  z0 := Try.sizeOf0
  v0 := Try.zeroValue0
  t3 := Try.underlying3
  a3 := Try.isAgg3
  z3 := Try.sizeOf3
  v3 := Try.zeroValue3
  t4 := Try.underlying4
  a4 := Try.isAgg4
  z4 := Try.sizeOf4
  v4 := Try.zeroValue4
  t22 := Try.underlying28
  a22 := Try.isAgg28
  z22 := Try.sizeOf28
  v22 := Try.zeroValue28
  t25 := Try.underlying89
  a25 := Try.isAgg89
  z25 := Try.sizeOf89
  v25 := Try.zeroValue89 }
instance : Inhabited Ln := ⟨zL⟩
theorem get_zL (l : List Ln) (k : Nat) : l[k]! = l.getD k zL := by
  rw [List.getD_eq_getElem?_getD]
  by_cases h : k < l.length
  · rw [List.getElem?_eq_getElem h, getElem!_pos l k h]; rfl
  · rw [List.getElem?_eq_none (by omega), getElem!_neg l k h]; rfl
theorem idxA_by (a : Int) (l : List Ln) (k : Nat) (d : Ln) : Lib.idxByFrom (fun _ y => decide (y.addr = a)) d l k = idxA a l k := by
  induction l generalizing k with
  | nil => rfl
  | cons x l ih =>
    unfold Lib.idxByFrom idxA
    by_cases h : x.addr = a
    · rw [if_pos h, if_pos (decide_eq_true h)]
    · rw [if_neg h, if_neg (by rw [decide_eq_false h]; decide), ih]
theorem idx_empty (p : Option Addr) (c : Nat) (fv : Value) (w : World) : Calls Try.prog 51 #[.slice p 0 c, fv] w fun e w' => e = .returned (.int .i64 (-1)) ∧ w = w' := by
  go_enter Try.func51, Try.ntmps51
  go_wp2_with fail
  refine wp_loop_rounds 1 ?_
  rw [rounds_succ]
  go_wp2_with fail
  go_ret
  exact ⟨rfl, rfl⟩
set_option maxHeartbeats 1000000 in
theorem idx_lines (p : Option Addr) (c : Nat) (l : List Ln) (a : Int) (B : Nat) (w : World) (h : Lm w p l) (hm : l.length ≤ 10000) (hB : w.cell? ⟨B, 0, none⟩ = some (.int .i64 a)) (hlt : B < w.heap.size) :
    Calls Try.prog 51 #[.slice p l.length c, .func (.func 52) #[] #[.pointer (some ⟨B, 0, none⟩)]] w fun e w' => e = .returned (.int .i64 (idxA a l 0)) ∧ Below w.heap.size w w' := by
  by_cases h0 : 0 < l.length
  · obtain ⟨b, off, h1, rfl, h3⟩ := h h0
    have eg : ∀ args w, (callFunc 52 args).run Try.prog w = .ok (.enter 52 args) w := enters_of Try.func52 (by kernel_rfl) rfl
    have hcon := AnyQ.slices_IndexFunc Try.l51 4 Try.isAgg30 Try.sizeOf30 (fun x : Ln => (lnR x).toList) (fun _ => rfl) (fun x => decide (x.addr = a)) 52 #[.pointer (some ⟨B, 0, none⟩)] eg b off l.length c l w
      (fun W x hb => (same_addr a B W x ((hb.cell (p := ⟨B, 0, none⟩) hlt).trans hB) (Nat.lt_of_lt_of_le hlt hb.size)).mono fun _ _ ⟨he, h2⟩ => ⟨he, hb.trans (h2.mono hb.size)⟩) (Nat.le_refl _) (by omega) h1 (fun j hj i v hi => by
        rw [get_zL] at hi
        have hi4 : i < 4 := by
          have := (List.getElem?_eq_some_iff.1 hi).1
          exact this
        rw [Nat.add_assoc, h3 j hj i hi4, ← hi]
        exact Array.getElem?_toList.symm)
    rw [List.take_length] at hcon
    have e : Lib.idxBy (fun _ y => decide (y.addr = a)) l default = idxA a l 0 := idxA_by a l 0 _
    rw [e] at hcon
    exact hcon
  · have e0 : l = [] := List.eq_nil_of_length_eq_zero (by omega)
    subst e0
    exact (idx_empty p c _ w).mono fun _ _ ⟨he, hw⟩ => ⟨he, hw ▸ Below.refl _ _⟩
set_option maxHeartbeats 1000000 in
theorem place_any (v : Value) (l : List Ln) (a : Int) (w : World) (h : Lv w v l) (hm : l.length ≤ 10000) : Calls Try.prog 40 #[v, .int .i64 a] w fun e w' => e = .returned (.int .i64 (idxA a l 0)) ∧ Below w.heap.size w w' := by
  obtain ⟨p, c, rfl, hc, hl⟩ := h
  have hcon := idx_lines p c l a w.heap.size (w.alloc (.cells #[.int .i64 a] 3)) (hl.below ((Below.refl _ _).alloc (Nat.le_refl _) _)) hm (by simp) (by simp)
  have HC := Lib.hid hcon
  clear hcon hl hc
  go_enter Try.func40, Try.ntmps40
  go_wp2_with (go_at_call 51; refine HC.out.mono ?_; rintro e w' ⟨rfl, hb⟩)
  go_ret
  exact ⟨rfl, ((Below.refl _ _).alloc (Nat.le_refl _) _).trans (hb.mono (by simp))⟩
end Go.Proofs.Ytoddmgaihggkjaa
