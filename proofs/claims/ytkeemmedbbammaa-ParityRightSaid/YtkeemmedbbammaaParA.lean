/- Banks in memory, as they read; whether there may be so many; the first word that isn't 0; no condition but that they read. -/
import Derived.Test.YtkeemmedbbammaaParNum
import Derived.Test.YtkeemmedbbammaaRows
import Derived.WalkSpells
import Derived.Outline
import Derived.Laws.CopyOwn
import Derived.Deep.WholeRow
import Derived.OwnWalk
import Derived.BigGuardPart
import Derived.Deep.RegionLaw
import Derived.Lib.SliceRun
namespace Go.Proofs.Ytkeemmedbbammaa
set_option linter.unusedVariables false
open Go.ChangeShapes Go.WideShapes Go.ChangeAt Go.RowKit

theorem ret_int {k : IntKind} {a b : Int} (h : a = b) : Ending.returned (.int k a) = .returned (.int k b) := by rw [h]
def vz : Value := .bool false
def u32C (l : List Nat) : List Value := l.map fun x : Nat => .int .u32 (x : Int)
theorem u32C_len (l : List Nat) : (u32C l).length = l.length := by unfold u32C; simp
theorem u32C_one (l : List Nat) : ∀ u ∈ u32C l, u.oneCell' = true := by
  intro u hu; obtain ⟨x, _, rfl⟩ := List.mem_map.1 hu; rfl
theorem u32C_app (l m : List Nat) : u32C l ++ u32C m = u32C (l ++ m) := by unfold u32C; simp
theorem u32C_at (l : List Nat) (k : Nat) (h : k < l.length) : (u32C l)[k]? = some (.int .u32 (l.getD k 0 : Nat)) := by unfold u32C; simp [List.getD, h]
theorem u32C_set (l : List Nat) (k x : Nat) : (u32C l).set k (.int .u32 (x : Int)) = u32C (l.set k x) := by unfold u32C; rw [List.map_set]
theorem u32C_rep (n : Nat) : List.replicate n (Value.int .u32 0) = u32C (List.replicate n 0) := by unfold u32C; simp
theorem info26 : (Try.prog.info? 26).map (fun i => (i.zero, i.size, i.bytes)) = some (some (.int .u32 0), 1, 4) := by kernel_rfl
theorem info23 : (Try.prog.info? 23).map (fun i => (i.zero, i.size, i.bytes)) = some (some (.slice none 0 0), 1, 24) := by kernel_rfl

/-- A slice that reads as these words. -/
structure Nm (w : World) (p : Option Addr) (l : List Nat) : Prop where
  lt : ∀ x ∈ l, x < 4294967296
  c : 0 < l.length → ∃ b off, b < w.heap.size ∧ p = some ⟨b, off, none⟩ ∧ ∀ k, k < l.length → w.cell? ⟨b, off + k, none⟩ = some (.int .u32 (l.getD k 0 : Nat))
theorem Nm.below {w w' : World} {p : Option Addr} {l : List Nat} (h : Nm w p l) (hb : Below w.heap.size w w') : Nm w' p l :=
  ⟨h.lt, fun h0 => by
    obtain ⟨b, off, h1, h2, h3⟩ := h.c h0
    exact ⟨b, off, Nat.lt_of_lt_of_le h1 hb.size, h2, fun k hk => (hb.cell (p := ⟨b, off + k, none⟩) h1).trans (h3 k hk)⟩⟩
theorem Nm.sl {w : World} {p : Option Addr} {l : List Nat} (h : Nm w p l) : Sl w p l.length (u32C l) := fun h0 => by
  obtain ⟨b, off, h1, h2, h3⟩ := h.c h0
  exact ⟨b, off, h1, h2, fun j hj => by rw [u32C_len] at hj; rw [h3 j hj, u32C_at l j hj]⟩
theorem Nm.getD_lt {w : World} {p : Option Addr} {l : List Nat} (h : Nm w p l) (k : Nat) : l.getD k 0 < 4294967296 := by
  by_cases hk : k < l.length
  · exact h.lt _ (mem_getD l 0 k hk)
  · rw [List.getD_eq_getElem?_getD, List.getElem?_eq_none (by omega)]; decide
/-- A value that reads as a row. -/
def Rs (w : World) (v : Value) (l : List Nat) : Prop := ∃ p c, v = .slice p l.length c ∧ l.length ≤ c ∧ Nm w p l
theorem Rs.below {w w' : World} {v : Value} {l : List Nat} (h : Rs w v l) (hb : Below w.heap.size w w') : Rs w' v l := by
  obtain ⟨p, c, e, hc, h⟩ := h
  exact ⟨p, c, e, hc, h.below hb⟩
theorem Rs.one {w : World} {v : Value} {l : List Nat} (h : Rs w v l) : v.oneCell' = true := by
  obtain ⟨p, c, rfl, _⟩ := h
  rfl
/-- A slice of slices that reads as these rows. -/
structure Rw (w : World) (p : Option Addr) (xs : List Value) (L : List (List Nat)) : Prop where
  len : xs.length = L.length
  sl : Sl w p L.length xs
  rs : ∀ k, k < L.length → Rs w (xs.getD k vz) (L.getD k [])
  n100 : L.length ≤ 100
  l100 : ∀ l ∈ L, l.length ≤ 100
theorem Rw.below {w w' : World} {p : Option Addr} {xs : List Value} {L : List (List Nat)} (h : Rw w p xs L) (hb : Below w.heap.size w w') : Rw w' p xs L :=
  ⟨h.len, h.sl.below hb, fun k hk => (h.rs k hk).below hb, h.n100, h.l100⟩
theorem Rw.one {w : World} {p : Option Addr} {xs : List Value} {L : List (List Nat)} (h : Rw w p xs L) : ∀ u ∈ xs, u.oneCell' = true := by
  intro u hu
  obtain ⟨k, hk, rfl⟩ := List.getElem_of_mem hu
  have := (h.rs k (by rw [← h.len]; exact hk)).one
  rwa [List.getD_eq_getElem?_getD, List.getElem?_eq_getElem hk] at this
theorem Rw.at_ {w : World} {p : Option Addr} {xs : List Value} {L : List (List Nat)} (h : Rw w p xs L) (h0 : 0 < L.length) : ∃ b off, b < w.heap.size ∧ p = some ⟨b, off, none⟩ ∧ ∀ k, k < L.length → w.cell? ⟨b, off + k, none⟩ = some (xs.getD k vz) := by
  obtain ⟨b, off, h1, h2, h3⟩ := h.sl h0
  refine ⟨b, off, h1, h2, fun k hk => ?_⟩
  rw [h3 k (by rw [h.len]; exact hk), List.getD_eq_getElem?_getD, List.getElem?_eq_getElem (by rw [h.len]; exact hk)]
  rfl
theorem Rw.nil (w : World) (p : Option Addr) : Rw w p [] [] := ⟨rfl, Sl.empty _ _ _, fun k hk => absurd hk (Nat.not_lt_zero _), by decide, fun l hl => by cases hl⟩
theorem Rw.lt {w : World} {p : Option Addr} {xs : List Value} {L : List (List Nat)} (h : Rw w p xs L) : ∀ l ∈ L, ∀ x ∈ l, x < 4294967296 := by
  intro l hl
  obtain ⟨k, hk, rfl⟩ := List.getElem_of_mem hl
  obtain ⟨_, _, _, _, hb⟩ := h.rs k hk
  have e : L.getD k [] = L[k] := by rw [List.getD_eq_getElem?_getD, List.getElem?_eq_getElem hk]; rfl
  rw [e] at hb
  exact hb.lt
theorem Rw.word_lt {w : World} {p : Option Addr} {xs : List Value} {L : List (List Nat)} (h : Rw w p xs L) (k a : Nat) : (L.getD k []).getD a 0 < 4294967296 := by
  by_cases hk : k < L.length
  · obtain ⟨_, _, _, _, hb⟩ := h.rs k hk
    exact hb.getD_lt a
  · rw [List.getD_eq_getElem?_getD (l := L), List.getElem?_eq_none (by omega)]; simp
/-- What one of its rows is in memory. -/
structure RowAt (w : World) (b off : Nat) (k : Nat) (q : Option Addr) (x c2 : Nat) (l : List Nat) : Prop where
  lt : b < w.heap.size
  cell : w.cell? ⟨b, off + k, none⟩ = some (.slice q x c2)
  len : l.length = x
  nm : Nm w q l
  cap : x ≤ c2
  x100 : x ≤ 100
theorem RowAt.below {w w' : World} {b off k : Nat} {q : Option Addr} {x c2 : Nat} {l : List Nat} (h : RowAt w b off k q x c2 l) (hb : Below w.heap.size w w') : RowAt w' b off k q x c2 l :=
  ⟨Nat.lt_of_lt_of_le h.lt hb.size, (hb.cell (p := ⟨b, off + k, none⟩) h.lt).trans h.cell, h.len, h.nm.below hb, h.cap, h.x100⟩
theorem Rw.rowAt {w : World} {p : Option Addr} {xs : List Value} {L : List (List Nat)} (h : Rw w p xs L) (k : Nat) (hk : k < L.length) : ∃ b off q x c2, p = some ⟨b, off, none⟩ ∧ RowAt w b off k q x c2 (L.getD k []) := by
  obtain ⟨b, off, h1, h2, h3⟩ := h.at_ (by omega)
  obtain ⟨q, c2, hv, hc2, hn⟩ := h.rs k hk
  exact ⟨b, off, q, _, c2, h2, h1, by rw [h3 k hk, hv], rfl, hn, hc2, h.l100 _ (mem_getD L [] k hk)⟩
/-- The row, and a word of it. -/
theorem Nm.cellAt {w : World} {p : Option Addr} {l : List Nat} (h : Nm w p l) (a : Nat) (ha : a < l.length) : ∃ b off, b < w.heap.size ∧ p = some ⟨b, off, none⟩ ∧ w.cell? ⟨b, off + a, none⟩ = some (.int .u32 (l.getD a 0 : Nat)) := by
  obtain ⟨b, off, h1, h2, h3⟩ := h.c (by omega)
  exact ⟨b, off, h1, h2, h3 a ha⟩

theorem may_any (n m : Int) (w : World) : Calls Try.prog 28 #[.int .i64 n, .int .i64 m] w fun e w' => e = .returned (.bool (mayN n m)) ∧ w = w' := by
  by_cases h1 : 1 ≤ n
  · by_cases h2 : n ≤ 8
    · by_cases h3 : 1 ≤ m
      · by_cases h4 : m ≤ 64
        · have e : mayN n m = true := by unfold mayN; exact decide_eq_true ⟨h1, h2, h3, h4⟩
          rw [e]; clear e
          go_enter Try.func28, Try.ntmps28
          go_wp2
          go_ret
          exact ⟨rfl, rfl⟩
        · have e : mayN n m = false := by unfold mayN; exact decide_eq_false (by omega)
          rw [e]; clear e
          go_enter Try.func28, Try.ntmps28
          go_wp2
          go_ret
          exact ⟨rfl, rfl⟩
      · have e : mayN n m = false := by unfold mayN; exact decide_eq_false (by omega)
        rw [e]; clear e
        go_enter Try.func28, Try.ntmps28
        go_wp2
        go_ret
        exact ⟨rfl, rfl⟩
    · have e : mayN n m = false := by unfold mayN; exact decide_eq_false (by omega)
      rw [e]; clear e
      go_enter Try.func28, Try.ntmps28
      go_wp2
      go_ret
      exact ⟨rfl, rfl⟩
  · have e : mayN n m = false := by unfold mayN; exact decide_eq_false (by omega)
    rw [e]; clear e
    go_enter Try.func28, Try.ntmps28
    go_wp2
    go_ret
    exact ⟨rfl, rfl⟩

theorem notzero_any (x : Nat) (w : World) : Calls Try.prog 32 #[.int .u32 x] w fun e w' => e = .returned (.bool (!decide (x = 0))) ∧ w = w' := by
  by_cases h : x = 0
  · subst h
    go_enter Try.func32, Try.ntmps32
    go_wp2
    go_ret
    exact ⟨rfl, rfl⟩
  · rw [decide_eq_false h]
    have h2 : ((x : Int) != 0) = true := by simp; omega
    clear h
    go_enter Try.func32, Try.ntmps32
    go_wp2
    go_ret
    exact ⟨rfl, rfl⟩

set_option maxHeartbeats 1000000 in
theorem indexz_any (p : Option Addr) (n c : Nat) (l : List Nat) (w : World) (hz : l.length = n) (hm : n ≤ 100) (h : Nm w p l) :
    Calls Try.prog 37 #[.slice p n c, .func (.func 32) #[] #[]] w fun e w' => e = .returned (.int .i64 (idxZ l 0)) ∧ w = w' := by
  have HZ := Lib.hid hz
  have HB := Lib.hid h
  obtain ⟨r, hr⟩ : ∃ r, r = idxZ l 0 := ⟨_, rfl⟩
  rw [← hr]
  have HR := Lib.hid hr
  clear h hz hr
  go_enter Try.func37, Try.ntmps37
  go_wp2
  go_loop [8] (fun i => ∃ k : Nat, k ≤ n ∧ i = .int .i64 k ∧ Hid (r = idxZ (l.drop k) k)) (fun i => n - (intOf i).toNat)
  case atStart => exact ⟨0, Nat.zero_le _, rfl, by rw [List.drop_zero]; exact HR⟩
  case round =>
    obtain ⟨k, hk, rfl, hi⟩ := hrel
    by_cases hlt : k < n
    · obtain ⟨b, off, hb, rfl, hck⟩ := HB.out.cellAt k (by rw [HZ.out]; exact hlt)
      have hd := drop_getD l 0 k (by rw [HZ.out]; exact hlt)
      rw [hd] at hi
      obtain ⟨x, hx⟩ : ∃ x, x = l.getD k 0 := ⟨_, rfl⟩
      rw [← hx] at hi hck
      clear hd hx hb
      by_cases hf : x = 0
      · have HI : Hid (r = idxZ (l.drop (k + 1)) (k + 1)) := Lib.hid (by
          have he := hi.out
          unfold idxZ at he
          rw [if_pos hf] at he
          rw [he])
        have HF := Lib.hid hf
        clear hf hi
        go_wp2_with (first | (go_at_call 32; refine (notzero_any _ _).mono ?_; rintro e w' ⟨rfl, rfl⟩; rw [decide_eq_true HF.out, Bool.not_true]))
        go_round
        case rel => exact ⟨k + 1, by omega, by go_num, HI⟩
        case measure => simp [intOf]; omega
      · have he := hi.out
        unfold idxZ at he
        rw [if_neg hf] at he
        have HF := Lib.hid hf
        subst he
        clear hf hi HR
        go_wp2_with (first | (go_at_call 32; refine (notzero_any _ _).mono ?_; rintro e w' ⟨rfl, rfl⟩; rw [decide_eq_false HF.out, Bool.not_false]))
        go_ret
        exact ⟨rfl, rfl⟩
    · have hd : l.drop k = [] := List.drop_eq_nil_of_le (by rw [HZ.out]; omega)
      rw [hd] at hi
      have he : r = -1 := hi.out
      subst he
      clear hi hd HR
      go_wp2
      go_ret
      exact ⟨rfl, rfl⟩
theorem containsz_any (p : Option Addr) (n c : Nat) (l : List Nat) (w : World) (hz : l.length = n) (hm : n ≤ 100) (h : Nm w p l) :
    Calls Try.prog 31 #[.slice p n c, .func (.func 32) #[] #[]] w fun e w' => e = .returned (.bool (!(zeroB l))) ∧ w = w' := by
  have hi := indexz_any p n c l w hz hm h
  have he := idxZ_any l 0
  obtain ⟨r, hr⟩ : ∃ r, r = idxZ l 0 := ⟨_, rfl⟩
  rw [← hr] at hi he
  rw [← he]
  have HI := Lib.hid hi
  clear hi he hr h hz
  go_enter Try.func31, Try.ntmps31
  go_wp2_with (first | (go_at_call 37; refine HI.out.mono ?_; rintro e w' ⟨rfl, rfl⟩))
  go_ret
  exact ⟨rfl, rfl⟩
end Go.Proofs.Ytkeemmedbbammaa
