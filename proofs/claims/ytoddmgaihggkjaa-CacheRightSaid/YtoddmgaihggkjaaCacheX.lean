/- Room in a set: the line of the least Used goes; no condition but that no two lines have one address or one Used. -/
import Derived.Test.YtoddmgaihggkjaaCacheV
import Derived.Shelf.SlIterI.Collect
import Derived.Shelf.SlicesG.Turned
namespace Go.Proofs.Ytoddmgaihggkjaa
set_option linter.unusedVariables false
open Go.ChangeShapes Go.WideShapes Go.ChangeAt Go.RowKit Go.Maps Go.Shelf

def Try.l49_ren : Go.Shelf.Ren := ⟨fun | 7 => 49 | 10 => 64 | n => n, fun | 23 => 73 | 26 => 3 | 3 => 3 | 28 => 85 | 0 => 0 | 27 => 84 | 33 => 68 | 4 => 4 | n => n, fun | n => n⟩
theorem Try.l49 : Go.Proofs.SlLaysZI.n7 Try.prog Try.l49_ren := {
  mixed := by kernel_rfl
  f7 := ⟨Try.f49.name, by decide, Try.func49.trans (congrArg some (by kernel_rfl))⟩
  f10 := ⟨Try.f64.name, by decide, Try.func64.trans (congrArg some (by kernel_rfl))⟩
  t0 := Try.underlying0
  a0 := Try.isAgg0
  z0 := Try.sizeOf0
  v0 := Try.zeroValue0
  t4 := Try.underlying4
  a4 := Try.isAgg4
  z4 := Try.sizeOf4
  v4 := Try.zeroValue4
  t23 := Try.underlying73
  a23 := Try.isAgg73
  z23 := Try.sizeOf73
  v23 := Try.zeroValue73
  t26 := Try.underlying3
  a26 := Try.isAgg3
  z26 := Try.sizeOf3
  v26 := Try.zeroValue3
  t27 := Try.underlying84
  a27 := Try.isAgg84
  z27 := Try.sizeOf84
  v27 := Try.zeroValue84
  t28 := Try.underlying85
  a28 := Try.isAgg85
  z28 := Try.sizeOf85
  v28 := Try.zeroValue85
  t33 := Try.underlying68
  a33 := Try.isAgg68
  z33 := Try.sizeOf68
  v33 := Try.zeroValue68 }
def Try.l48_ren : Go.Shelf.Ren := ⟨fun | 8 => 48 | 11 => 63 | n => n, fun | 26 => 3 | 28 => 85 | 24 => 82 | 0 => 0 | 33 => 68 | 4 => 4 | n => n, fun | n => n⟩
theorem Try.l48 : Go.Proofs.SlLaysZI.n8 Try.prog Try.l48_ren := {
  mixed := by kernel_rfl
  f8 := ⟨Try.f48.name, by decide, Try.func48.trans (congrArg some (by kernel_rfl))⟩
  f11 := ⟨Try.f63.name, by decide, Try.func63.trans (congrArg some (by kernel_rfl))⟩
  t0 := Try.underlying0
  a0 := Try.isAgg0
  z0 := Try.sizeOf0
  v0 := Try.zeroValue0
  t24 := Try.underlying82
  a24 := Try.isAgg82
  z24 := Try.sizeOf82
  v24 := Try.zeroValue82
  t26 := Try.underlying3
  a26 := Try.isAgg3
  z26 := Try.sizeOf3
  v26 := Try.zeroValue3
  t28 := Try.underlying85
  a28 := Try.isAgg85
  z28 := Try.sizeOf85
  v28 := Try.zeroValue85
  i26 := by kernel_rfl }
def Try.l47_ren : Go.Shelf.Ren := ⟨fun | 39 => 47 | n => n, fun | 22 => 82 | 23 => 3 | 3 => 3 | 4 => 4 | 9 => 9 | 20 => 20 | 0 => 0 | n => n, fun | n => n⟩
theorem Try.l47 : Go.Proofs.SlLaysN.n39 Try.prog Try.l47_ren := {
  mixed := by kernel_rfl
  f39 := ⟨Try.f47.name, by decide, Try.func47.trans (congrArg some (by kernel_rfl))⟩
  t0 := Try.underlying0
  a0 := Try.isAgg0
  z0 := Try.sizeOf0
  v0 := Try.zeroValue0
  t3 := Try.underlying3
  a3 := Try.isAgg3
  z3 := Try.sizeOf3
  v3 := Try.zeroValue3
  t4 := Try.underlying4
  a4 := Try.isAgg4
  z4 := Try.sizeOf4
  v4 := Try.zeroValue4
  t9 := Try.underlying9
  a9 := Try.isAgg9
  z9 := Try.sizeOf9
  v9 := Try.zeroValue9
  t20 := Try.underlying20
  a20 := Try.isAgg20
  z20 := Try.sizeOf20
  v20 := Try.zeroValue20
  t22 := Try.underlying82
  a22 := Try.isAgg82
  z22 := Try.sizeOf82
  v22 := Try.zeroValue82
  t23 := Try.underlying3
  a23 := Try.isAgg3
  z23 := Try.sizeOf3
  v23 := Try.zeroValue3 }

theorem own_map {w w' : World} {b n : Nat} {D : DataW Unit} (h : w.ownsMap Try.prog 3 rawE b n D) (hb : Below w.heap.size w w') : w'.ownsMap Try.prog 3 rawE b n D := by
  have hl := h.lt
  obtain ⟨es, clock, h1, Ft, hs, hD⟩ := h
  exact ⟨es, clock, (hb.block b hl).trans h1, Ft, hs, hD⟩
theorem keys_any (b : Nat) (w : World) : Calls Try.prog 49 #[.map (some b)] w fun e w' => e = .returned (.func (.func 64) #[] #[.pointer (some ⟨w.heap.size, 0, none⟩)]) ∧ w' = w.alloc (.cells #[.map (some b)] 73) :=
  (callsIn_wide (n := 5)).1 (AnyZI.keys_in Try.l49 Fence.wide 5 trivial rfl (some b) w)
theorem collect_any (B b n : Nat) (D : DataW Unit) (w : World) (hB : B < w.heap.size) (hm : w.cell? ⟨B, 0, none⟩ = some (.map (some b))) (hown : w.ownsMap Try.prog 3 rawE b n D) (hs : Maps.size D ≤ 10000) :
    Calls Try.prog 48 #[.func (.func 64) #[] #[.pointer (some ⟨B, 0, none⟩)]] w fun e w' => ∃ (v : Value) (ss : List Int), e = .returned v ∧ ss.Perm (intKeys D) ∧ w'.ownsRow w.heap.size 3 1 v ss.length (ss.map encZ) ∧ Below w.heap.size w w' := by
  have hseq : SeqGives Fence.wide 3 Try.prog 64 #[.pointer (some ⟨B, 0, none⟩)] encZ (fun ss => ss.Perm (intKeys D)) (Maps.size D) w :=
    AnyZI.keys_gives (ρ := Try.l49_ren) { Try.l49 with } Fence.wide _ trivial rfl (by omega) B b n D w hB hm hown
  refine (callsIn_wide (n := 5)).1 ?_
  exact (AnyZI.collect_in Try.l48 Fence.wide 5 trivial trivial rfl (by omega) 64 #[.pointer (some ⟨B, 0, none⟩)] trivial (enters_of Try.func64 (by kernel_rfl) rfl) _ _ (by unfold maxLen; omega) (by omega) _ hseq).mono fun _ _ ⟨v, ss, h1, h2, h3, _, h5⟩ => ⟨v, ss, h1, h2, h3, h5⟩
theorem us_keys (l : List Ln) (k : Nat) (hk : k ≤ l.length) : ∃ es, usM l k = .map es ∧ (∀ p ∈ es, ∃ j, j < k ∧ p.1 = .int .i64 (l.getD j zL).used) ∧ ∀ j, j < k → ∃ p ∈ es, p.1 = .int .i64 (l.getD j zL).used := by
  induction k with
  | zero => exact ⟨[], rfl, fun p hp => (by cases hp), fun j hj => absurd hj (Nat.not_lt_zero _)⟩
  | succ k ih =>
    obtain ⟨es, h1, h2, h3⟩ := ih (by omega)
    rw [usM_step l k hk, h1]
    refine ⟨_, rfl, fun p hp => ?_, fun j hj => ?_⟩
    · rcases ChangeMaps.mem_insert_iff.1 hp with rfl | hp
      · exact ⟨k, Nat.lt_succ_self _, rfl⟩
      · obtain ⟨j, hj, e⟩ := h2 p ((List.mem_filter.1 hp).1)
        exact ⟨j, by omega, e⟩
    · by_cases e : (l.getD j zL).used = (l.getD k zL).used
      · exact ⟨_, ChangeMaps.mem_insert_iff.2 (.inl rfl), by rw [e]⟩
      · have hjk : j < k := by
          rcases Nat.lt_or_ge j k with h | h
          · exact h
          · have : j = k := by omega
            rw [this] at e; exact absurd rfl e
        obtain ⟨p, hp, he⟩ := h3 j hjk
        refine ⟨p, ChangeMaps.mem_insert_iff.2 (.inr (List.mem_filter.2 ⟨hp, ?_⟩)), he⟩
        rw [he]
        show (!Lit.sameKey _ _) = true
        rw [sameKey_ne (fun e2 => e (by injection e2))]; rfl
theorem us_mem (l : List Ln) (x : Int) : x ∈ intKeys (usM l l.length) ↔ ∃ j, j < l.length ∧ (l.getD j zL).used = x := by
  obtain ⟨es, h1, h2, h3⟩ := us_keys l l.length (Nat.le_refl _)
  rw [h1]
  show x ∈ es.map (fun p => Go.intOf p.1) ↔ _
  rw [List.mem_map]
  constructor
  · rintro ⟨p, hp, rfl⟩
    obtain ⟨j, hj, e⟩ := h2 p hp
    exact ⟨j, hj, by rw [e]; rfl⟩
  · rintro ⟨j, hj, rfl⟩
    obtain ⟨p, hp, e⟩ := h3 j hj
    exact ⟨p, hp, by rw [e]; rfl⟩
theorem foldl_min (l : List Int) (a : Int) : (l.foldl min a = a ∨ l.foldl min a ∈ l) ∧ l.foldl min a ≤ a ∧ ∀ y ∈ l, l.foldl min a ≤ y := by
  induction l generalizing a with
  | nil => exact ⟨.inl rfl, Int.le_refl _, fun y hy => by cases hy⟩
  | cons x l ih =>
    obtain ⟨h1, h2, h3⟩ := ih (min a x)
    rw [List.foldl_cons]
    refine ⟨?_, by omega, fun y hy => ?_⟩
    · rcases h1 with h1 | h1
      · rw [h1]
        by_cases e : a ≤ x
        · left; omega
        · right
          have : min a x = x := by omega
          rw [this]; exact .head _
      · exact .inr (.tail _ h1)
    · cases hy with
      | head => omega
      | tail _ hy => exact h3 y hy
theorem min_used (l : List Ln) (ss : List Int) (hp : ss.Perm (intKeys (usM l l.length))) (h0 : 0 < l.length) : 0 < ss.length ∧ Lib.minOf ss = (l.getD (outN l) zL).used := by
  have hm : ∀ x, x ∈ ss ↔ ∃ j, j < l.length ∧ (l.getD j zL).used = x := fun x => (hp.mem_iff).trans (us_mem l x)
  have h1 : (l.getD (outN l) zL).used ∈ ss := (hm _).2 ⟨_, outN_lt h0, rfl⟩
  have hl : 0 < ss.length := List.length_pos_of_mem h1
  refine ⟨hl, ?_⟩
  cases ss with
  | nil => cases hl
  | cons a ss =>
    obtain ⟨h2, h3, h4⟩ := foldl_min (a :: ss) a
    have hin : Lib.minOf (a :: ss) ∈ a :: ss := by
      rcases h2 with h2 | h2
      · show (a :: ss).foldl min a ∈ _
        rw [h2]; exact .head _
      · exact h2
    have hle : ∀ y ∈ a :: ss, Lib.minOf (a :: ss) ≤ y := h4
    obtain ⟨j, hj, e⟩ := (hm _).1 hin
    have h5 := outN_le l _ (mem_getD l zL j hj)
    have h6 := hle _ h1
    omega
theorem min_any (base : Nat) (v : Value) (ss : List Int) (w : World) (h : w.ownsRow base 3 1 v ss.length (ss.map encZ)) (h0 : 0 < ss.length) (hm : ss.length ≤ 10000) : Calls Try.prog 47 #[v] w fun e w' => e = .returned (.int .i64 (Lib.minOf ss)) ∧ w' = w := by
  obtain ⟨p, c, rfl, _⟩ := own_cap h
  obtain ⟨g, rfl, -, -, -, -⟩ := own_go h h0
  have hcon := AnyG.slices_Min_int Try.l47 g 0 ss.length c ss w h0 (Nat.le_refl _) (by omega) (fun j hj => by
    rw [Nat.zero_add, h.cellAt j (by omega), List.getElem?_map, List.getElem?_eq_getElem hj, List.getD_eq_getElem?_getD, List.getElem?_eq_getElem hj]
    rfl)
  rw [List.take_length] at hcon
  exact hcon
end Go.Proofs.Ytoddmgaihggkjaa
