/- slices.Delete of one frame of a pool in memory of one's own; a frame more behind the last one; no condition but that there is such a frame. -/
import Derived.Test.YtpmheaeiemnjeaaPoolB
import Derived.ArgAppend
namespace Go.Proofs.Ytpmheaeiemnjeaa
set_option linter.unusedVariables false
open Go.ChangeShapes Go.WideShapes Go.ChangeAt Go.RowKit

theorem grown_trans {w w1 w2 : World} {row : Option Nat} (h : w.grownBy w1 row) (h2 : w1.grownBy w2 row) : w.grownBy w2 row :=
  ⟨h2.os.trans h.os, h2.tape.trans h.tape, h2.output.trans h.output, Nat.le_trans h.size h2.size, fun k hk hr => (h2.block k (Nat.lt_of_lt_of_le hk h.size) hr).trans (h.block k hk hr)⟩
theorem grown_cells (w : World) (g o : Nat) (vs : List Value) : w.grownBy (w.setCells g o vs) (some g) := by
  induction vs generalizing w o with
  | nil => exact ⟨rfl, rfl, rfl, Nat.le_refl _, fun _ _ _ => rfl⟩
  | cons v vs ih =>
    have h : w.grownBy (w.setCell ⟨g, o, none⟩ v) (some g) := ⟨rfl, rfl, rfl, by simp, fun k _ hk => heap_setCell_other w ⟨g, o, none⟩ k v (fun e => hk (by simp [e]))⟩
    exact grown_trans h (ih _ _)

set_option maxHeartbeats 4000000 in
set_option maxRecDepth 1000000 in
theorem delete_cells (g off n cap i j : Nat) (xs : List Value) (w : World) (hlen : xs.length = n) (hc : ∀ t, t < n → w.cell? ⟨g, off + t, none⟩ = xs[t]?) (hf : ∀ t, w.frozen? ⟨g, t, none⟩ = false) (h1 : ∀ u ∈ xs, u.oneCell' = true) (hij : j = i + 1) (hj : j ≤ n) (hnc : n ≤ cap) (hcm : cap ≤ 9223372036854775807) :
    Calls Try.prog 32 #[.slice (some ⟨g, off, none⟩) n cap, .int .i64 i, .int .i64 j] w fun e w' => e = .returned (.slice (some ⟨g, off, none⟩) (n - 1) cap) ∧ w.grownBy w' (some g) ∧ ∀ t, t < n - 1 → w'.cell? ⟨g, off + t, none⟩ = (xs.eraseIdx i)[t]? := by
  obtain ⟨i0, hi0, hz0, hz1, hz2⟩ := info_parts info30
  obtain ⟨news, hnews⟩ : ∃ news, news = xs.drop j := ⟨_, rfl⟩
  have hnl : news.length = n - j := by rw [hnews, List.length_drop, hlen]
  have hnx : ∀ t, news[t]? = xs[j + t]? := fun t => by rw [hnews, List.getElem?_drop]
  obtain ⟨A, hA, hsrc⟩ : ∃ A : Addr, (if cap = j then some (⟨g, off, none⟩ : Addr) else some ⟨g, off + j, none⟩) = some A ∧ Hid (∀ t u, news[t]? = some u → w.drew.cell? (A.add t) = some u) := by
    by_cases hcj : cap = j
    · refine ⟨⟨g, off, none⟩, by simp [hcj], fun t u hu => ?_⟩
      have h0 : news.length = 0 := by rw [hnl]; omega
      rw [List.length_eq_zero_iff.1 h0] at hu
      simp at hu
    · refine ⟨⟨g, off + j, none⟩, by simp [hcj], fun t u hu => ?_⟩
      have ht : t < n - j := by
        have := (List.getElem?_eq_some_iff.1 hu).1
        rwa [hnl] at this
      rw [hnx] at hu
      rw [Addr.add_lit, show off + j + t = off + (j + t) by omega]
      exact (hc (j + t) (by omega)).trans hu
  have s1 : Hid (news.length = (n - j) * 1) := by rw [Nat.mul_one]; exact hnl
  have s2 : Hid (∀ u ∈ news, u.oneCell' = true) := by
    intro u hu
    rw [hnews] at hu
    exact h1 u (List.mem_of_mem_drop hu)
  have hsome : ∀ t, t < n → (w.cell? ⟨g, off + t, none⟩).isSome = true := fun t ht => by
    rw [hc t ht, List.getElem?_eq_getElem (by omega)]
    rfl
  have s3 : Hid (∀ t, t < news.length → (w.drew.cell? ⟨g, off + i * 1 + t, none⟩).isSome = true ∧ w.drew.frozen? ⟨g, off + i * 1 + t, none⟩ = false) := by
    intro t ht
    rw [hnl] at ht
    rw [Nat.mul_one, Nat.add_assoc]
    exact ⟨hsome (i + t) (by omega), hf _⟩
  obtain ⟨W1, hW1⟩ : ∃ W1, W1 = w.drew.setCells g (off + i * 1) news := ⟨_, rfl⟩
  have c1 : ∀ t, t < i → W1.cell? ⟨g, off + t, none⟩ = xs[t]? := fun t ht => by
    rw [hW1, World.cell?_setCells_out g news _ _ _ (fun _ _ => .inl (by show off + t < off + i * 1; omega))]
    exact hc t (by omega)
  have c2 : ∀ t, t < n - j → W1.cell? ⟨g, off + (i + t), none⟩ = xs[j + t]? := fun t ht => by
    have := World.cell?_setCells_in g news (off + i * 1) w.drew (fun j hj => by rw [Nat.mul_one, Nat.add_assoc]; exact hsome (i + j) (by omega)) t (by omega)
    rw [Nat.mul_one, Nat.add_assoc] at this
    rw [hW1, Nat.mul_one, this, ← hnx, List.getElem?_eq_getElem]
  have c3 : (W1.cell? ⟨g, off + (n - 1), none⟩).isSome = true := by
    by_cases hl : n - j = 0
    · rw [hW1, World.cell?_setCells_out g news _ _ _ (fun _ _ => .inr (by show off + i * 1 + news.length ≤ off + (n - 1); omega))]
      exact hsome _ (by omega)
    · rw [hW1, World.cell?_setCells_out g news _ _ _ (fun _ _ => .inr (by show off + i * 1 + news.length ≤ off + (n - 1); omega))]
      exact hsome _ (by omega)
  have hfr1 : ∀ t, W1.frozen? ⟨g, t, none⟩ = false := fun t => by rw [hW1, World.frozen?_setCells]; exact hf t
  have hgr1 : Hid (w.grownBy W1 (some g)) := Lib.hid (by
    rw [hW1]
    have h0 : w.grownBy w.drew (some g) := ⟨rfl, rfl, rfl, Nat.le_refl _, fun _ _ _ => rfl⟩
    exact grown_trans h0 (grown_cells _ _ _ _))
  have hone : n - (i + (n - j)) = 1 := by omega
  have hzero : ∀ w, (zeroValue 30).run Try.prog w = .ok (.slice none 0 0) w := fun w => by
    simp [zeroValue, typeInfo, hi0, hz0]
  have hcl : ∀ ty, (Builtin.clear_ #[22] ty #[.slice (some ⟨g, off + (i + (n - j)), none⟩) (n - (i + (n - j))) (cap - (i + (n - j)))]).run Try.prog W1 = .ok (.tuple #[]) (W1.setCells g (off + (i + (n - j))) (List.replicate (n - (i + (n - j))) (.slice none 0 0))) :=
    fun ty => Lib.run_clear_slice W1 _ _ ty _ Try.underlying22 hzero rfl rfl g (off + (i + (n - j))) _ _ (by omega) (fun t ht => by rw [show off + (i + (n - j)) + t = off + (n - 1) by omega]; exact c3) (fun t ht => hfr1 _)
  have hW : Hid (W1 = w.drew.setCells g (off + i * 1) news) := hW1
  have hend : Hid (∀ t, t < n - 1 → (W1.setCells g (off + (i + (n - j))) (List.replicate (n - (i + (n - j))) (.slice none 0 0))).cell? ⟨g, off + t, none⟩ = (xs.eraseIdx i)[t]?) := Lib.hid (by
    intro t ht
    rw [World.cell?_setCells_out g _ _ _ _ (fun _ _ => .inl (by show off + t < off + (i + (n - j)); omega)), List.getElem?_eraseIdx]
    by_cases hti : t < i
    · rw [if_pos hti]; exact c1 t hti
    · rw [if_neg hti, show off + t = off + (i + (t - i)) by omega, c2 (t - i) (by omega)]
      congr 1
      omega)
  have hic : i ≤ cap := by omega
  have hjc : j ≤ cap := by omega
  have hin : i < n := by omega
  have hlt : i < j := by omega
  have HE : Hid (n - 1 = i + (n - j)) := Lib.hid (by omega)
  clear hW1 hc hf hnews hnl hlen c1 c2 c3 hfr1 h1 hone hzero hij hsome hnx
  go_enter Try.func32, Try.ntmps32
  go_wp2_with fail
  go_region_law (refine step_append_room rfl (.tmp 22) (.tmp 25) 22 rfl 30 i0 1 Try.underlying22 hi0 hz1 g off i cap (by simp [Act.eval, Act.put]) A (n - j) (cap - j) news (by simp [Act.eval, Act.put]) s1.out hsrc.out s2.out (by omega) s3.out ?_; rw [← hW.out])
  go_wp2
  go_ret
  refine ⟨by rw [HE.out]; rfl, grown_trans hgr1.out (grown_cells _ _ _ _), hend.out⟩

/-- A pool's frames stay where another block alone was written. -/
theorem Byts.grown {w w' : World} {p : Option Addr} {l : List Nat} {g : Nat} (h : Byts w p l) (hg : w.grownBy w' (some g)) (hne : ∀ a, p = some a → a.block ≠ g) : Byts w' p l :=
  ⟨h.lt, fun h0 => by
    obtain ⟨b, off, h1, h2, h3⟩ := h.c h0
    refine ⟨b, off, Nat.lt_of_lt_of_le h1 hg.size, h2, fun k hk => ?_⟩
    rw [World.cell?_of_block (hg.block b h1 (fun e => by injection e with e; exact hne _ h2 e))]
    exact h3 k hk⟩
theorem own_not {v : Value} {b : Nat} {p : Option Addr} {n c : Nat} (hv : v = .slice p n c) (h : ∀ g, v.ownBlock = some g → g ≠ b) : ∀ a, p = some a → a.block ≠ b := by
  intro a e
  subst e
  subst hv
  exact h a.block rfl
theorem Own.one {base : Nat} {w : World} {v : Value} {ys : List Value} {L : List (List Nat)} (h : Own base w v ys L) : ∀ u ∈ ys, u.oneCell' = true := by
  intro u hu
  obtain ⟨k, hk, rfl⟩ := List.getElem_of_mem hu
  have hkl : k < L.length := by have := h.row.1; omega
  obtain ⟨p, c, e⟩ := own_sl (h.fr k hkl)
  rw [List.getD_eq_getElem?_getD, List.getElem?_eq_getElem hk] at e
  have e' : ys[k] = _ := e
  rw [e']
  rfl
/-- None of the blocks in which a pool lies is one of Z. -/
def Off (Z : Nat → Prop) (p : Option Addr) (xs : List Value) (L : List (List Nat)) : Prop :=
  (0 < L.length → ∀ a, p = some a → ¬ Z a.block) ∧ ∀ k, k < L.length → 0 < (L.getD k []).length → ∀ g, (xs.getD k vz).ownBlock = some g → ¬ Z g
theorem Off.sub {Z Z' : Nat → Prop} {p : Option Addr} {xs : List Value} {L : List (List Nat)} (h : Off Z p xs L) (hz : ∀ b, Z' b → Z b) : Off Z' p xs L :=
  ⟨fun h0 a e hb => h.1 h0 a e (hz _ hb), fun k hk h0 g e hb => h.2 k hk h0 g e (hz _ hb)⟩
theorem Pl.off {Z : Nat → Prop} {w : World} {p : Option Addr} {xs : List Value} {L : List (List Nat)} (h : Pl w p xs L) (hz : ∀ b, Z b → w.heap.size ≤ b) : Off Z p xs L := by
  refine ⟨fun h0 a e hb => ?_, fun k hk h0 g e hb => ?_⟩
  · obtain ⟨b, off, hlt, e2, _⟩ := h.sl h0
    rw [e2] at e
    injection e with e
    subst e
    have := hz b hb
    omega
  · obtain ⟨q, c, e2, _, h2⟩ := h.fs k hk
    obtain ⟨b, off, hlt, e3, _⟩ := h2.c h0
    subst e3
    rw [e2] at e
    injection e with e
    subst e
    have := hz b hb
    omega
theorem Pl.set {w : World} {p : Option Addr} {xs : List Value} {L : List (List Nat)} (h : Pl w p xs L) {R : Nat} (ho : Off (fun b => b = R) p xs L) (j : Nat) (u : Value) : Pl (w.setCell ⟨R, j, none⟩ u) p xs L := by
  refine ⟨h.len, fun h0 => ?_, fun k hk => ?_, h.n100, h.l100⟩
  · obtain ⟨b, off, hlt, e, hc⟩ := h.sl h0
    refine ⟨b, off, by simpa using hlt, e, fun i hi => ?_⟩
    rw [World.cell?_setCell_other _ _ _ _ (by intro e2; injection e2 with e2; exact ho.1 h0 _ e e2.symm)]
    exact hc i hi
  · obtain ⟨q, c, e, h1, h2⟩ := h.fs k hk
    refine ⟨q, c, e, h1, h2.lt, fun h0 => ?_⟩
    obtain ⟨b, off, hlt, e3, hc⟩ := h2.c h0
    refine ⟨b, off, by simpa using hlt, e3, fun i hi => ?_⟩
    rw [World.cell?_setCell_other _ _ _ _ (by intro e2; injection e2 with e2; exact ho.2 k hk h0 b (by rw [e, e3]; rfl) e2.symm)]
    exact hc i hi
theorem Own.off {base : Nat} {w : World} {p : Option Addr} {c : Nat} {ys : List Value} {L : List (List Nat)} (h : Own base w (.slice p L.length c) ys L) : Off (fun b => b < base ∨ w.heap.size ≤ b) p ys L := by
  refine ⟨fun h0 a e hb => ?_, fun k hk h0 g e hb => ?_⟩
  · subst e
    have := h.row.lt a.block rfl
    omega
  · have := (h.fr k hk).lt g e
    omega
theorem delete_any (base i : Nat) (p0 : Option Addr) (c0 : Nat) (ys : List Value) (L : List (List Nat)) (w : World) (h : Own base w (.slice p0 L.length c0) ys L) (hn : L.length ≤ 100) (hl : ∀ l ∈ L, l.length ≤ 100) (hb : ∀ l ∈ L, ∀ x ∈ l, x < 256) (hi : i < L.length) (hbase : base ≤ w.heap.size) :
    Calls Try.prog 32 #[.slice p0 L.length c0, .int .i64 i, .int .i64 ((i : Int) + 1)] w fun e w' => ∃ p c, e = .returned (.slice p (L.eraseIdx i).length c) ∧ Pl w' p (ys.eraseIdx i) (L.eraseIdx i) ∧ (∀ Z, Off Z p0 ys L → Off Z p (ys.eraseIdx i) (L.eraseIdx i)) ∧ w.grownBy w' (Value.slice p0 L.length c0).ownBlock := by
  have h0 := h.row
  obtain ⟨p, cap, e0, hpl⟩ := h.pl hn hl hb
  injection e0 with e1 _ e3
  subst e1 e3
  obtain ⟨g, rfl, hnc, hcm, hbg, hgl⟩ := own_go h.row (by omega)
  have hlen : ys.length = L.length := by rw [h.row.1, Nat.mul_one]
  have hd := delete_cells g 0 L.length c0 i (i + 1) ys w hlen (fun t ht => by rw [Nat.zero_add]; exact h.row.cellAt t (by omega)) (fun t => h.row.frozenAt t) h.one rfl (by omega) hnc (by unfold maxLen at hcm; omega)
  rw [show (((i + 1 : Nat)) : Int) = (i : Int) + 1 by omega] at hd
  refine hd.mono fun e w' => ?_
  rintro ⟨rfl, hgr, hc⟩
  have hle : (L.eraseIdx i).length = L.length - 1 := by rw [List.length_eraseIdx, if_pos hi]
  refine ⟨_, c0, by rw [hle], ⟨?_, ?_, ?_, ?_, ?_⟩, fun Z hZ => ⟨fun _ => hZ.1 (by omega), fun k hk => ?_⟩, hgr⟩
  · rw [hle, List.length_eraseIdx, if_pos (by omega), hlen]
  · intro _
    refine ⟨g, 0, Nat.lt_of_lt_of_le hgl hgr.size, rfl, fun j hj => hc j ?_⟩
    rw [List.length_eraseIdx, if_pos (by omega), hlen] at hj
    exact hj
  · intro k hk
    rw [hle] at hk
    have key : ∀ m, m < L.length → Fs w' (ys.getD m vz) (L.getD m []) := fun m hm => by
      obtain ⟨p, c, e, h1, h2⟩ := hpl.fs m hm
      exact ⟨p, c, e, h1, h2.grown hgr (own_not e (fun g' e' e2 => h.sep m hm g' e' (by rw [e2]; rfl)))⟩
    rw [getD_erase, getD_erase]
    split
    · exact key k (by omega)
    · exact key (k + 1) (by omega)
  · rw [hle]; omega
  · exact fun l hm => hl l (List.mem_of_mem_eraseIdx hm)
  · rw [hle] at hk
    rw [getD_erase, getD_erase]
    split
    · exact hZ.2 k (by omega)
    · exact hZ.2 (k + 1) (by omega)

theorem Fs.far {w w' w'' : World} {v : Value} {l : List Nat} (h0 : Fs w v l) (h : Fs w' v l) (hb : Below w.heap.size w' w'') : Fs w'' v l := by
  obtain ⟨p, c, e, h1, h2⟩ := h0
  obtain ⟨p', c', e', h1', h2'⟩ := h
  rw [e] at e'
  injection e' with e1 _ e3
  subst e1
  refine ⟨p, c, e, h1, h2.lt, fun hl => ?_⟩
  obtain ⟨b, off, hlt, ep, _⟩ := h2.c hl
  obtain ⟨b', off', hlt', ep', hc'⟩ := h2'.c hl
  rw [ep] at ep'
  injection ep' with ep'
  injection ep' with e1 e2
  subst e1 e2
  exact ⟨b, off, Nat.lt_of_lt_of_le hlt' hb.size, ep, fun k hk => (hb.cell (p := ⟨b, off + k, none⟩) hlt).trans (hc' k hk)⟩
theorem own_set {w : World} {base : Nat} {e : TypeId} {size : Nat} {v : Value} {n : Nat} {xs : List Value} (h : w.ownsRow base e size v n xs) {R : Nat} (hR : v.ownBlock ≠ some R) (j : Nat) (u : Value) : (w.setCell ⟨R, j, none⟩ u).ownsRow base e size v n xs :=
  h.kept (row := some R) ⟨rfl, rfl, rfl, by simp, fun k _ hk => heap_setCell_other w ⟨R, j, none⟩ k u (fun e => hk (by simp [e]))⟩ (.inr hR)
theorem fs_grown {w w' : World} {v : Value} {l : List Nat} {row : Option Nat} (h : Fs w v l) (hg : w.grownBy w' row) (hne : ∀ g, v.ownBlock = some g → row ≠ some g) : Fs w' v l := by
  obtain ⟨p, c, rfl, h1, h2⟩ := h
  refine ⟨p, c, rfl, h1, h2.lt, fun h0 => ?_⟩
  obtain ⟨b, off, h3, rfl, h4⟩ := h2.c h0
  refine ⟨b, off, Nat.lt_of_lt_of_le h3 hg.size, rfl, fun k hk => ?_⟩
  rw [World.cell?_of_block (hg.block b h3 (fun e => hne b rfl e.symm))]
  exact h4 k hk

/-- What stood in the memory stands there behind an append, but for the spare cells of the row. -/
def Keeps (w w' : World) (ob : Option Nat) (n : Nat) : Prop := ∀ a x, w.cell? a = some x → (ob = some a.block → a.off < n) → w'.cell? a = some x
theorem append_keeps {P : Program} {w w' : World} {base : Nat} {t ty e : TypeId} {i : TypeInfo} {z : Value} {size bytes : Nat} (ht : P.underlying t = some (.slice e)) (hi : P.info? e = some i) (hz : i.zero = some z)
    (hsize : i.size = size) (hby : i.bytes = bytes) (hzs : z.cells.size = size) (hsz : 0 < size)
    {v v' : Value} {n : Nat} {xs : List Value} (hown : w.ownsRow base e size v n xs)
    {ad : Addr} {m c : Nat} {news : List Value} (hl : news.length = m * size) (hnews : ∀ j u, news[j]? = some u → w.cell? (ad.add j) = some u) (h1 : ∀ u ∈ news, u.oneCell' = true)
    (h63 : n + m ≤ maxLen) (hbytes : (n + m) * bytes ≤ 140737488355328) (hg : w.grownBy w' v.ownBlock)
    (hr : (Builtin.append_ #[t, t] ty #[v, .slice (some ad) m c]).run P w = .ok v' w') : Keeps w w' v.ownBlock (n * size) := by
  intro a x hx hlt
  have hspot : a.spot = none := World.cell?_spot hx
  by_cases hb : v.ownBlock = some a.block
  · obtain ⟨hxl, ⟨rfl, _⟩ | ⟨g, cap, cur, rfl, hbg, hgg, hnc, hcm, hcs, htake⟩⟩ := hown
    · cases hb
    · injection hb with hb
      simp at hb
      have hlt' := hlt (by rw [← hb]; rfl)
      have hcell : ∀ j, w.cell? ⟨g, j, none⟩ = cur[j]? := fun j => cell_of_row w g j cur e (0, 0) hgg
      by_cases hroom : n + m ≤ cap
      · have hfit : ∀ j, j < news.length → 0 + n * size + j < cur.size := fun j hj => by
          rw [hcs, Nat.zero_add]
          have : (n + m) * size ≤ cap * size := Nat.mul_le_mul_right _ hroom
          rw [Nat.add_mul, ← hl] at this
          omega
        have h2 := run_append_room_cells (P := P) w t ty e i ht hi g 0 n cap ad m c news (by rw [hsize]; exact hl) hnews h1 hroom (fun j hj => by rw [hsize, hcell, Array.getElem?_eq_getElem (hfit j hj)]; rfl) (fun j hj => frozen_of_row w g _ cur e hgg)
        rw [h2] at hr
        injection hr with _ hr
        rw [← hr, World.cell?_setCells_out g news _ _ _ (fun _ _ => .inl (by rw [hsize]; omega))]
        exact hx
      · obtain ⟨v2, w2, h2, _, h3⟩ := run_append_arg_grows (P := P) w t ty e i z size bytes ht hi hz hsize hby hzs hsz ⟨g, 0, none⟩ n cap xs hxl (fun j u hj => by
          rw [Addr.add_lit, Nat.zero_add, hcell]
          rw [← htake, List.getElem?_take] at hj
          split at hj
          · simpa using hj
          · cases hj) ad m c news hl hnews (by omega) h63 hbytes
        rw [h2] at hr
        injection hr with _ hr
        rw [← hr]
        exact h3.cell hx (by simp)
  · exact hg.cell hx (fun e => hb e.symm)
theorem wpList_append_keeps {P : Program} {ops : Array Oper} {rest : List Oper} {o : Oper} {a : Act} {w : World} {Q : Exit → Act → World → Prop} (hgd : o.guard = none) (s x : Operand) (t : TypeId)
    (ho : o.op = .call { callee := .builtin .append, args := #[s, x], argTypes := #[t, t] })
    (base : Nat) (e : TypeId) (i : TypeInfo) (z : Value) (size bytes : Nat) (ht : P.underlying t = some (.slice e)) (hi : P.info? e = some i) (hz : i.zero = some z)
    (hsize : i.size = size) (hby : i.bytes = bytes) (hzs : z.cells.size = size) (hsz : 0 < size)
    (v : Value) (n : Nat) (xs : List Value) (hs : a.eval s = v) (hown : w.ownsRow base e size v n xs)
    (ad : Addr) (m c : Nat) (news : List Value) (hx : a.eval x = .slice (some ad) m c) (hl : news.length = m * size) (hnews : ∀ j u, news[j]? = some u → w.cell? (ad.add j) = some u) (h1 : ∀ u ∈ news, u.oneCell' = true)
    (h63 : n + m ≤ maxLen) (hbytes : (n + m) * bytes ≤ 140737488355328) (hbase : base ≤ w.heap.size)
    (h : ∀ v' w', w'.ownsRow base e size v' (n + m) (xs ++ news) → w.grownBy w' v.ownBlock → (v'.ownBlock = v.ownBlock ∨ v'.ownBlock = some w.heap.size) → Keeps w w' v.ownBlock (n * size) → wpList P ops Q rest (a.put o.dst v') w') : wpList P ops Q (o :: rest) a w := by
  obtain ⟨v', w', hr, h2, h3, h4, h5⟩ := run_append_own_at (P := P) w base t o.type e i z size bytes ht hi hz hsize hby hzs hsz v n xs hown ad m c news hl hnews h1 h63 hbytes hbase
  have hk := append_keeps (P := P) ht hi hz hsize hby hzs hsz hown hl hnews h1 h63 hbytes h3 hr
  refine wpList_plain hgd fun K hK => ?_
  unfold Oper.wp execOp
  simp only [ho, resolve, invoke, builtin, Sem.run_bind, Sem.run_pure, Result.andThen_ok, List.map_toArray, List.map_cons, List.map_nil, hs, hx, hr]
  exact hK _ _ (h v' w' h2 h3 h5 hk)

set_option maxHeartbeats 2000000 in
theorem added_any (base : Nat) (v : Value) (ys : List Value) (L : List (List Nat)) (f : Value) (l : List Nat) (w : World) (h : Own base w v ys L) (hr : rightP L = true) (hb : ∀ l ∈ L, ∀ x ∈ l, x < 256) (hf : w.ownsRow base 5 1 f 19 (u8C l)) (hfl : l.length = 19) (hfb : ∀ x ∈ l, x < 256)
    (hsep : ∀ g, f.ownBlock = some g → v.ownBlock ≠ some g) (hbase : base ≤ w.heap.size) :
    Calls Try.prog 25 #[.agg #[v], f] w fun e w' => ∃ p c xs, e = .returned (.tuple #[.agg #[.slice p (addP L l).length c], .int .i64 (addE L)]) ∧ Pl w' p xs (addP L l) ∧ Off (fun b => b < base) p xs (addP L l) ∧ Below base w w' ∧ Keeps w w' v.ownBlock L.length := by
  obtain ⟨hn, hl⟩ := right_inv hr
  obtain ⟨i0, hi, hz0, hz1, hz2⟩ := info_parts info30
  have HI := Lib.hid (And.intro hi (And.intro hz0 (And.intro hz1 hz2)))
  obtain ⟨p, c, rfl, hpl⟩ := h.pl (by omega) (fun l' hm => by rw [hl l' hm]; omega) hb
  obtain ⟨pf, cf, rfl⟩ := own_sl hf
  have hroom : roomP L = 64 - (L.length : Int) := by unfold roomP; rw [hr, if_pos rfl]
  unfold addP addE
  have HO := Lib.hid h
  have HP := Lib.hid hpl
  have HF := Lib.hid hf
  have HL := Lib.hid hl
  have HBB := Lib.hid hb
  have HFB := Lib.hid hfb
  have HSEP := Lib.hid hsep
  have HR := Lib.hid (fun W hb => room_any p L.length c ys L W rfl (hpl.below hb))
  have HRM := Lib.hid hroom
  obtain ⟨n, hne⟩ : ∃ n, n = L.length := ⟨_, rfl⟩
  rw [← hne] at HR hn ⊢
  have HN := Lib.hid hne
  clear h hpl hf hl hb hi hz0 hz1 hz2 hroom hr hne hfb hsep
  by_cases h64 : 64 ≤ n
  · rw [if_pos h64, if_pos h64]
    have e64 : n = 64 := by omega
    subst e64
    clear h64 hn
    go_enter Try.func25, Try.ntmps25
    go_wp2_with fail
    refine (HR.out _ (((Below.refl _ _).alloc (Nat.le_refl _) _).alloc (by simp) _)).mono ?_
    rintro e w1 ⟨rfl, hb1⟩
    have HBX : Hid (Below w.heap.size w w1) := Lib.hid ((((Below.refl _ _).alloc (Nat.le_refl _) _).alloc (by simp) _).trans (hb1.mono (by simp; omega)))
    have HK := Blk.track2 hb1
    have HK2 := Blk.track1 hb1
    rw [World.size_alloc] at HK2
    have hk := HK.c
    have hk2 := HK2.c
    have hf2 := HK2.f
    have hl2 := HK2.lt
    have e0 : roomP L = 0 := by rw [HRM.out, ← HN.out]; rfl
    rw [e0]
    clear hb1 HK HK2 e0
    go_wp2_with fail
    exact bodyPost_ret (v := .tuple #[.agg #[.slice p 64 c], .int .i64 6]) (by simp [results, Try.results25, go_sem, *]) rfl ⟨p, c, ys, by rw [← HN.out], HP.out.below (HBX.out.setCell (p := ⟨w.heap.size + 1, 0, none⟩) (by show w.heap.size ≤ w.heap.size + 1; omega) _), (Own.off (c := c) HO.out).sub (fun b hb => .inl hb), (HBX.out.mono hbase).setCell (p := ⟨w.heap.size + 1, 0, none⟩) (by show base ≤ w.heap.size + 1; omega) _, fun a x hx _ => ((HBX.out.setCell (p := ⟨w.heap.size + 1, 0, none⟩) (by show w.heap.size ≤ w.heap.size + 1; omega) _).cell (p := a) (World.block_lt_of_cell? w a hx)).trans hx⟩
  · rw [if_neg h64, if_neg h64]
    have e0 : (64 - (n : Int) == 0) = false := by rw [beq_eq_false_iff_ne]; omega
    clear h64
    go_enter Try.func25, Try.ntmps25
    go_wp2_with fail
    refine (HR.out _ (((Below.refl _ _).alloc (Nat.le_refl _) _).alloc (by simp) _)).mono ?_
    rintro e w1 ⟨rfl, hb1⟩
    have HBX : Hid (Below w.heap.size w w1) := Lib.hid ((((Below.refl _ _).alloc (Nat.le_refl _) _).alloc (by simp) _).trans (hb1.mono (by simp; omega)))
    have HK := Blk.track2 hb1
    have HK2 := Blk.track1 hb1
    rw [World.size_alloc] at HK2
    have HKB := Lib.hid HK
    have HKR := Lib.hid HK2
    have hk := HK.c
    rw [HRM.out, ← HN.out]
    clear hb1 HK HK2
    have HOW : Hid ((w1.alloc (.cells #[.slice pf 19 cf] 30)).ownsRow base 30 1 (.slice p n c) n ys) := Lib.hid (by
      have := (own_below HO.out.row HBX.out).alloc (.cells #[.slice pf 19 cf] 30)
      rw [← HN.out] at this
      exact this)
    go_wp2_with (first | (at_builtin; refine wpList_append_keeps rfl _ _ 22 rfl base 30 i0 (.slice none 0 0) 1 24 Try.underlying22 HI.out.1 HI.out.2.1 HI.out.2.2.1 HI.out.2.2.2 rfl (by decide) _ _ _ rfl HOW.out ⟨w1.heap.size, 0, none⟩ 1 1 [.slice pf 19 cf] rfl rfl (fun j u hj => by rw [Addr.add_lit, Nat.zero_add, World.cell?_alloc_new]; simpa using hj) (by intro u hu; rw [List.mem_singleton.1 hu]; rfl) (by unfold maxLen; omega) (by omega) (Nat.le_trans hbase (Nat.le_trans HBX.out.size (by simp))) ?_))
    intro v' w3 g1 g2 g3 g4
    have HKP := Lib.hid g4
    clear g4
    obtain ⟨p3, c3, rfl, hc3⟩ := own_cap g1
    have hsz : w.heap.size + 2 ≤ w1.heap.size := HKR.out.lt
    have hpl : ∀ g, (Value.slice p n c).ownBlock = some g → g < w.heap.size := fun g e => (HO.out.row.lt g (by rw [← HN.out]; exact e)).2
    have hnb : ∀ R, w.heap.size ≤ R → R < w1.heap.size → (Value.slice p3 (n + 1) c3).ownBlock ≠ some R := fun R h1 h2 e => by
      rcases g3 with g3 | g3
      · rw [g3] at e; have := hpl R e; omega
      · rw [g3] at e; simp at e; omega
    have hkb : ∀ R cs, Blk w1 R cs → w.heap.size ≤ R → Blk w3 R cs := fun R cs hK hR => (hK.alloc _).grown g2 (fun e => by have := hpl R e; omega)
    have HKB3 := Lib.hid (hkb _ _ HKB.out (Nat.le_refl _))
    have HKR3 := Lib.hid (hkb _ _ HKR.out (by omega))
    have HOW3 := Lib.hid g1
    have HNB := Lib.hid hnb
    have HSZ := Lib.hid hsz
    have hb3 : Below base w w3 := ((HBX.out.mono hbase).alloc (by have := HBX.out.size; omega) _).grown g2 (by have := HBX.out.size; simp; omega) (fun k hk => (HOW.out.lt k hk).1)
    have hfsA : ∀ k, k < L.length → Fs w3 (ys.getD k vz) (L.getD k []) := fun k hk =>
      fs_grown (((HP.out.fs k hk).below HBX.out).below ((Below.refl _ _).alloc (Nat.le_refl _) _)) g2 (fun g e e2 => HO.out.sep k hk g e (by rw [← HN.out]; exact e2))
    have hf0 : Fs w (.slice pf 19 cf) l := own_fs (by rw [hfl]; exact HF.out) HFB.out
    have hfsB : Fs w3 (.slice pf 19 cf) l :=
      fs_grown ((hf0.below HBX.out).below ((Below.refl _ _).alloc (Nat.le_refl _) _)) g2 (fun g e e2 => HSEP.out g e (by rw [← HN.out]; exact e2))
    have HB3 := Lib.hid hb3
    have HFA := Lib.hid hfsA
    have HFBB := Lib.hid hfsB
    have HF0 := Lib.hid hf0
    clear g1 g2 g3 hpl hnb hkb hb3 hfsA hfsB hf0 hk hsz
    have kB := HKB3.out.c
    have fB := HKB3.out.f
    have lB := HKB3.out.lt
    have kR := HKR3.out.c
    have fR := HKR3.out.f
    have lR := HKR3.out.lt
    go_wp2_with fail
    have hB34 : Below w.heap.size w3 ((w3.setCell ⟨w.heap.size, 0, none⟩ (.slice p3 (n + 1) c3)).setCell ⟨w.heap.size + 1, 0, none⟩ (.slice p3 (n + 1) c3)) := by
      exact ((Below.refl _ _).setCell (p := ⟨w.heap.size, 0, none⟩) (Nat.le_refl _) _).setCell (p := ⟨w.heap.size + 1, 0, none⟩) (Nat.le_succ _) _
    have hrow : ((w3.setCell ⟨w.heap.size, 0, none⟩ (.slice p3 (n + 1) c3)).setCell ⟨w.heap.size + 1, 0, none⟩ (.slice p3 (n + 1) c3)).ownsRow base 30 1 (.slice p3 (n + 1) c3) (n + 1) (ys ++ [.slice pf 19 cf]) := by
      refine own_set (own_set HOW3.out ?_ 0 _) ?_ 0 _
      · exact HNB.out _ (Nat.le_refl _) (by have := HSZ.out; omega)
      · exact HNB.out _ (Nat.le_succ _) (by have := HSZ.out; omega)
    refine bodyPost_ret (v := .tuple #[.agg #[.slice p3 (n + 1) c3], .int .i64 0]) ?_ ?_ ?_
    · simp [results, Try.results25, go_sem, *]
    · rfl
    refine ⟨p3, c3, ys ++ [.slice pf 19 cf], by rw [List.length_append, HN.out]; rfl, ?_, ⟨fun _ a e hb => ?_, fun k hk _ g e hb => ?_⟩, HB3.out.trans (hB34.mono hbase), fun a x hx hne => ?_⟩
    rotate_left
    · subst e
      have := (HOW3.out.lt a.block rfl).1
      omega
    · rw [getD_append1] at e
      rw [List.length_append] at hk
      simp at hk
      have hys : ys.length = L.length := HP.out.len
      rw [hys] at e
      by_cases hkl : k < L.length
      · rw [if_pos hkl] at e
        have := ((HO.out.fr k hkl).lt g e).1
        omega
      · rw [if_neg hkl, if_pos (by omega)] at e
        have := (HF.out.lt g e).1
        omega
    · have hb := World.block_lt_of_cell? w a hx
      refine (hB34.cell (p := a) hb).trans (HKP.out a x ?_ (fun e => hne e))
      exact (((HBX.out.alloc HBX.out.size _)).cell (p := a) hb).trans hx
    have hys : ys.length = L.length := HP.out.len
    refine ⟨by simp [hys], ?_, fun k hk => ?_, by rw [List.length_append, ← HN.out]; simp; omega, fun l' hm => ?_⟩
    · rw [List.length_append, ← HN.out]
      obtain ⟨q, cq, e, hs⟩ := Sl.own hrow
      injection e with e _ _
      rw [← e] at hs
      exact hs
    · rw [getD_append1, getD_append1, hys]
      rw [List.length_append] at hk
      simp at hk
      by_cases hkl : k < L.length
      · rw [if_pos hkl, if_pos hkl]
        exact (HP.out.fs k hkl).far (HFA.out k hkl) hB34
      · have e : k = L.length := by omega
        rw [if_neg hkl, if_neg hkl, if_pos e, if_pos e]
        exact HF0.out.far HFBB.out hB34
    · rcases List.mem_append.1 hm with hm | hm
      · rw [HL.out l' hm]; omega
      · rw [List.mem_singleton.1 hm, hfl]; omega
end Go.Proofs.Ytpmheaeiemnjeaa
