/- Plain numbers for PoolOrder and PoolKeeps: the frames of messages that may be, sent and taken; rows of messages in memory; no program is run here but that a message is read. -/
import Derived.Test.YtpmheaeiemnjeaaPoolOpen
import Derived.Test.YtpmheaeiemnjeaaPoolK
import Derived.Test.YtpmheaeiemnjeaaPoolT
namespace Go.Proofs.Ytpmheaeiemnjeaa
set_option linter.unusedVariables false
open Go.ChangeShapes Go.WideShapes Go.ChangeAt Go.RowKit

structure Good (m : Msg) : Prop where
  may : mayM m = true
  n : m.n < 4294967296
  v : m.v < 4294967296
theorem Good.read {m : Msg} (h : Good m) : readE (outL m) = 0 ∧ readM (outL m) = m := by
  obtain ⟨k, f, t, l, o, a, own, n, v, e, hf⟩ := may_fit h.may h.n h.v
  have ho : outL m = frameL k f t l o a own n v := by
    unfold outL
    rw [if_pos h.may, e]
    rfl
  rw [ho]
  exact ⟨frame_readE hf, by rw [frame_readM hf, e]⟩
theorem Good.turn {m : Msg} (h : Good m) (i : Nat) (hi : i < 152) : readE (turnL (outL m) i) = 5 := by
  obtain ⟨k, f, t, l, o, a, own, n, v, e, hf⟩ := may_fit h.may h.n h.v
  have ho : outL m = frameL k f t l o a own n v := by
    unfold outL
    rw [if_pos h.may, e]
    rfl
  rw [ho]
  exact turn1_read hf i hi
def outs (S : List Msg) : List (List Nat) := S.map outL
theorem outs_len (S : List Msg) : (outs S).length = S.length := by unfold outs; rw [List.length_map]
theorem outs_right {S : List Msg} (hl : S.length ≤ 64) (h : ∀ m ∈ S, Good m) : rightP (outs S) = true :=
  right_of (by rw [outs_len]; exact hl) (fun l hl => by
    obtain ⟨m, hm, rfl⟩ := List.mem_map.1 hl
    exact outL_len (h m hm).may)
theorem outs_send {S : List Msg} (hl : S.length < 64) (h : ∀ m ∈ S, Good m) (m : Msg) : sendP (outs S) m = outs (if mayM m = true then S ++ [m] else S) ∧ sendE (outs S) m = if mayM m = true then 0 else 1 := by
  unfold sendP sendE addP addE
  rw [outs_right (by omega) h, Bool.true_and, outs_len, if_neg (show ¬ 64 ≤ S.length by omega), if_neg (show ¬ 64 ≤ S.length by omega)]
  refine ⟨?_, rfl⟩
  split
  · unfold outs; rw [List.map_append]; rfl
  · rfl
theorem outs_getD (S : List Msg) (k : Nat) (hk : k < S.length) : (outs S).getD k [] = outL (S.getD k m0) := by
  unfold outs
  rw [List.getD_eq_getElem?_getD, List.getElem?_map, List.getD_eq_getElem?_getD, List.getElem?_eq_getElem hk]
  rfl
theorem getD_mem (S : List Msg) (k : Nat) (hk : k < S.length) : S.getD k m0 ∈ S := mem_getD S m0 k hk
theorem erase_map {α β : Type} (f : α → β) (S : List α) (k : Nat) : (S.map f).eraseIdx k = (S.eraseIdx k).map f := by
  induction S generalizing k with
  | nil => rfl
  | cons x r ih =>
    cases k with
    | zero => rfl
    | succ k => simp only [List.map_cons, List.eraseIdx_cons_succ]; rw [ih]
theorem outs_take {S : List Msg} (hl : S.length ≤ 64) (h : ∀ m ∈ S, Good m) (k : Nat) (hk : k < S.length) : takeM (outs S) (k : Int) = S.getD k m0 ∧ takeE (outs S) (k : Int) = 0 ∧ dropP (outs S) (k : Int) = outs (S.eraseIdx k) := by
  have hc : checkP (outs S) (k : Int) = 0 := check_ok (outs_right hl h) (by omega) (by rw [outs_len]; omega)
  unfold takeM takeE dropP atP
  rw [hc, if_pos rfl, if_pos rfl, if_pos rfl, Int.toNat_natCast, outs_getD S k hk]
  have hg := (h _ (getD_mem S k hk)).read
  refine ⟨hg.2, hg.1, ?_⟩
  unfold outs
  exact erase_map outL S k

/-- Those of the first j that may be. -/
def selM (ms : List Msg) (j : Nat) : List Msg := (ms.take j).filter fun m => mayM m
theorem selM_zero (ms : List Msg) : selM ms 0 = [] := rfl
theorem selM_succ (ms : List Msg) (j : Nat) (hj : j < ms.length) : selM ms (j + 1) = if mayM (ms.getD j m0) = true then selM ms j ++ [ms.getD j m0] else selM ms j := by
  unfold selM
  rw [take_succ' ms m0 j hj, List.filter_append]
  by_cases h : mayM (ms.getD j m0) = true
  · rw [if_pos h, List.filter_cons, if_pos h]; rfl
  · rw [if_neg h, List.filter_cons, if_neg h]; simp
theorem selM_len (ms : List Msg) (j : Nat) : (selM ms j).length ≤ j := Nat.le_trans (List.length_filter_le _ _) (by rw [List.length_take]; omega)
theorem selM_good {ms : List Msg} (h : ∀ m ∈ ms, m.n < 4294967296 ∧ m.v < 4294967296) (j : Nat) : ∀ m ∈ selM ms j, Good m := fun m hm => by
  obtain ⟨h1, h2⟩ := List.mem_filter.1 hm
  obtain ⟨h3, h4⟩ := h m (List.mem_of_mem_take h1)
  exact ⟨h2, h3, h4⟩

/-- The cells of these messages, nine each. -/
def rowsM (S : List Msg) : List Value := S.flatMap fun m => m.row.toList
theorem rowsM_app (S : List Msg) (m : Msg) : rowsM (S ++ [m]) = rowsM S ++ m.row.toList := by unfold rowsM; rw [List.flatMap_append]; simp
theorem rowsM_len (S : List Msg) : (rowsM S).length = S.length * 9 := by
  induction S with
  | nil => rfl
  | cons x r ih =>
    unfold rowsM at ih ⊢
    rw [List.flatMap_cons, List.length_append, ih, List.length_cons]
    show 9 + r.length * 9 = (r.length + 1) * 9
    omega
theorem rowsM_at (S : List Msg) (k j : Nat) (hk : k < S.length) (hj : j < 9) : (rowsM S)[k * 9 + j]? = (S.getD k m0).row[j]? := by
  induction S generalizing k with
  | nil => exact absurd hk (Nat.not_lt_zero _)
  | cons x r ih =>
    unfold rowsM at ih ⊢
    rw [List.flatMap_cons]
    cases k with
    | zero =>
      rw [List.getElem?_append_left (by show 0 * 9 + j < 9; omega), Nat.zero_mul, Nat.zero_add]
      simp
    | succ k =>
      rw [List.getElem?_append_right (by show 9 ≤ (k + 1) * 9 + j; omega)]
      have e : (k + 1) * 9 + j - x.row.toList.length = k * 9 + j := by show (k + 1) * 9 + j - 9 = k * 9 + j; omega
      rw [e, ih k (by simpa using hk)]
      rfl
theorem rowsM_one (S : List Msg) : ∀ u ∈ rowsM S, u.oneCell' = true := fun u hu => by
  obtain ⟨m, _, h⟩ := List.mem_flatMap.1 hu
  unfold Msg.row at h
  simp only [List.mem_cons, List.not_mem_nil, or_false] at h
  rcases h with rfl | rfl | rfl | rfl | rfl | rfl | rfl | rfl | rfl <;> rfl
/-- What is owned is a list of messages that lies there. -/
theorem own_els {w : World} {base : Nat} {e : TypeId} {v : Value} {S : List Msg} (h : w.ownsRow base e 9 v S.length (rowsM S)) : ∃ p cap, v = .slice p S.length cap ∧ Els w p 9 S.length (fun k => (S.getD k m0).row) := by
  obtain ⟨p, cap, rfl, hs⟩ := Sl.own h
  refine ⟨p, cap, rfl, fun h0 => ?_⟩
  obtain ⟨b, off, h1, h2, h3⟩ := hs h0
  refine ⟨b, off, h1, h2, fun k hk j hj => ?_⟩
  have := h3 (k * 9 + j) (by rw [rowsM_len]; omega)
  rw [← Nat.add_assoc] at this
  rw [this, rowsM_at S k j hk hj]
/-- Nine cells behind one another. -/
structure Nine (w : World) (b o : Nat) (v0 v1 v2 v3 v4 v5 v6 v7 v8 : Value) : Prop where
  c0 : w.cell? ⟨b, o, none⟩ = some v0
  c1 : w.cell? ⟨b, o + 1, none⟩ = some v1
  c2 : w.cell? ⟨b, o + 2, none⟩ = some v2
  c3 : w.cell? ⟨b, o + 3, none⟩ = some v3
  c4 : w.cell? ⟨b, o + 4, none⟩ = some v4
  c5 : w.cell? ⟨b, o + 5, none⟩ = some v5
  c6 : w.cell? ⟨b, o + 6, none⟩ = some v6
  c7 : w.cell? ⟨b, o + 7, none⟩ = some v7
  c8 : w.cell? ⟨b, o + 8, none⟩ = some v8
theorem Nine.of {w : World} {b o : Nat} {v0 v1 v2 v3 v4 v5 v6 v7 v8 : Value} (h : ∀ j, j < 9 → w.cell? ⟨b, o + j, none⟩ = #[v0, v1, v2, v3, v4, v5, v6, v7, v8][j]?) : Nine w b o v0 v1 v2 v3 v4 v5 v6 v7 v8 :=
  ⟨h 0 (by omega), h 1 (by omega), h 2 (by omega), h 3 (by omega), h 4 (by omega), h 5 (by omega), h 6 (by omega), h 7 (by omega), h 8 (by omega)⟩
theorem Nine.below {w w' : World} {B b o : Nat} {v0 v1 v2 v3 v4 v5 v6 v7 v8 : Value} (h : Nine w b o v0 v1 v2 v3 v4 v5 v6 v7 v8) (hb : Below B w w') (hlt : b < B) : Nine w' b o v0 v1 v2 v3 v4 v5 v6 v7 v8 :=
  ⟨(hb.cell (p := ⟨b, o, none⟩) hlt).trans h.c0, (hb.cell (p := ⟨b, o + 1, none⟩) hlt).trans h.c1, (hb.cell (p := ⟨b, o + 2, none⟩) hlt).trans h.c2, (hb.cell (p := ⟨b, o + 3, none⟩) hlt).trans h.c3, (hb.cell (p := ⟨b, o + 4, none⟩) hlt).trans h.c4, (hb.cell (p := ⟨b, o + 5, none⟩) hlt).trans h.c5, (hb.cell (p := ⟨b, o + 6, none⟩) hlt).trans h.c6, (hb.cell (p := ⟨b, o + 7, none⟩) hlt).trans h.c7, (hb.cell (p := ⟨b, o + 8, none⟩) hlt).trans h.c8⟩
/-- A pool stays where something grows that isn't of it. -/
theorem Pl.grown {w w' : World} {p : Option Addr} {xs : List Value} {L : List (List Nat)} {row : Option Nat} (h : Pl w p xs L) (hg : w.grownBy w' row) (ho : Off (fun b => row = some b) p xs L) : Pl w' p xs L := by
  refine ⟨h.len, fun h0 => ?_, fun k hk => ?_, h.n100, h.l100⟩
  · obtain ⟨b, off, h1, h2, h3⟩ := h.sl h0
    refine ⟨b, off, Nat.lt_of_lt_of_le h1 hg.size, h2, fun j hj => ?_⟩
    rw [World.cell?_of_block (hg.block b h1 (fun e => ho.1 h0 ⟨b, off, none⟩ h2 e.symm))]
    exact h3 j hj
  · by_cases h0 : 0 < (L.getD k []).length
    · exact fs_grown (h.fs k hk) hg (fun g e => ho.2 k hk h0 g e)
    · obtain ⟨q, c, e, hc, hb⟩ := h.fs k hk
      exact ⟨q, c, e, hc, hb.lt, fun hp => absurd hp h0⟩
end Go.Proofs.Ytpmheaeiemnjeaa
