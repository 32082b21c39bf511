/- Whether a row has so many words, whether all have, what rows are together, whether two are the same; no condition but that they read. -/
import Derived.Test.YtkeemmedbbammaaParA
namespace Go.Proofs.Ytkeemmedbbammaa
set_option linter.unusedVariables false
open Go.ChangeShapes Go.WideShapes Go.ChangeAt Go.RowKit

theorem sized1_any (X : Nat) (q : Option Addr) (x c m : Nat) (w : World) (hx : x ≤ 100) (hX : w.cell? ⟨X, 0, none⟩ = some (.int .i64 m)) :
    Calls Try.prog 36 #[.slice q x c, .pointer (some ⟨X, 0, none⟩)] w fun e w' => e = .returned (.bool (!decide (x = m))) ∧ w = w' := by
  by_cases h : x = m
  · subst h
    go_enter Try.func36, Try.ntmps36
    go_wp2
    go_ret
    exact ⟨by simp, rfl⟩
  · rw [decide_eq_false h]
    have h2 : ((x : Int) != m) = true := by simp; omega
    clear h
    go_enter Try.func36, Try.ntmps36
    go_wp2
    go_ret
    exact ⟨rfl, rfl⟩

set_option maxHeartbeats 1000000 in
theorem indexr_any (X : Nat) (p : Option Addr) (n c m : Nat) (xs : List Value) (L : List (List Nat)) (w : World) (hz : L.length = n) (h : Rw w p xs L) (hX : w.cell? ⟨X, 0, none⟩ = some (.int .i64 m)) :
    Calls Try.prog 38 #[.slice p n c, .func (.func 36) #[] #[.pointer (some ⟨X, 0, none⟩)]] w fun e w' => e = .returned (.int .i64 (idxR m L 0)) ∧ w = w' := by
  have HZ := Lib.hid hz
  have HB := Lib.hid h
  have HX := Lib.hid hX
  have hm : n ≤ 100 := by rw [← hz]; exact h.n100
  obtain ⟨r, hr⟩ : ∃ r, r = idxR m L 0 := ⟨_, rfl⟩
  rw [← hr]
  have HR := Lib.hid hr
  clear h hz hr hX
  go_enter Try.func38, Try.ntmps38
  go_wp2
  go_loop [8] (fun i => ∃ k : Nat, k ≤ n ∧ i = .int .i64 k ∧ Hid (r = idxR m (L.drop k) k)) (fun i => n - (intOf i).toNat)
  case atStart => exact ⟨0, Nat.zero_le _, rfl, by rw [List.drop_zero]; exact HR⟩
  case round =>
    obtain ⟨k, hk, rfl, hi⟩ := hrel
    by_cases hlt : k < n
    · obtain ⟨b, off, q, x, c2, rfl, hrow⟩ := HB.out.rowAt k (by rw [HZ.out]; exact hlt)
      have hck := hrow.cell
      have hl := hrow.x100
      have HL := Lib.hid hrow.len
      have hd := drop_getD L [] k (by rw [HZ.out]; exact hlt)
      rw [hd] at hi
      obtain ⟨y, hy⟩ : ∃ y, y = L.getD k [] := ⟨_, rfl⟩
      rw [← hy] at hi HL
      clear hd hy hrow
      by_cases hf : x = m
      · have HI : Hid (r = idxR m (L.drop (k + 1)) (k + 1)) := Lib.hid (by
          have he := hi.out
          unfold idxR at he
          rw [if_pos (HL.out.trans hf)] at he
          rw [he])
        have HF := Lib.hid hf
        clear hf hi
        go_wp2_with (first | (go_at_call 36; refine (sized1_any X _ _ _ m _ hl HX.out).mono ?_; rintro e w' ⟨rfl, rfl⟩; rw [decide_eq_true HF.out, Bool.not_true]))
        go_round
        case rel => exact ⟨k + 1, by omega, by go_num, HI⟩
        case measure => simp [intOf]; omega
      · have he := hi.out
        unfold idxR at he
        rw [if_neg (fun e => hf (HL.out.symm.trans e))] at he
        have HF := Lib.hid hf
        subst he
        clear hf hi HR
        go_wp2_with (first | (go_at_call 36; refine (sized1_any X _ _ _ m _ hl HX.out).mono ?_; rintro e w' ⟨rfl, rfl⟩; rw [decide_eq_false HF.out, Bool.not_false]))
        go_ret
        exact ⟨rfl, rfl⟩
    · have hd : L.drop k = [] := List.drop_eq_nil_of_le (by rw [HZ.out]; omega)
      rw [hd] at hi
      have he : r = -1 := hi.out
      subst he
      clear hi hd HR
      go_wp2
      go_ret
      exact ⟨rfl, rfl⟩
theorem containsr_any (X : Nat) (p : Option Addr) (n c m : Nat) (xs : List Value) (L : List (List Nat)) (w : World) (hz : L.length = n) (h : Rw w p xs L) (hX : w.cell? ⟨X, 0, none⟩ = some (.int .i64 m)) :
    Calls Try.prog 35 #[.slice p n c, .func (.func 36) #[] #[.pointer (some ⟨X, 0, none⟩)]] w fun e w' => e = .returned (.bool (!(allB L m))) ∧ w = w' := by
  have hi := indexr_any X p n c m xs L w hz h hX
  have he := idxR_any m L 0
  obtain ⟨r, hr⟩ : ∃ r, r = idxR m L 0 := ⟨_, rfl⟩
  rw [← hr] at hi he
  rw [← he]
  have HI := Lib.hid hi
  clear hi he hr h hz hX
  go_enter Try.func35, Try.ntmps35
  go_wp2_with (first | (go_at_call 38; refine HI.out.mono ?_; rintro e w' ⟨rfl, rfl⟩))
  go_ret
  exact ⟨rfl, rfl⟩

/-- Banks in memory: what they read as. -/
structure Bn (w : World) (p : Option Addr) (n c : Nat) (xs : List Value) (pp : Option Addr) (m cc : Nat) (B : Bk) : Prop where
  zn : B.rows.length = n
  rw_ : Rw w p xs B.rows
  cn : n ≤ c
  zm : B.par.length = m
  nm : Nm w pp B.par
  cm : m ≤ cc
  m100 : m ≤ 100
theorem Bn.below {w w' : World} {p : Option Addr} {n c : Nat} {xs : List Value} {pp : Option Addr} {m cc : Nat} {B : Bk} (h : Bn w p n c xs pp m cc B) (hb : Below w.heap.size w w') : Bn w' p n c xs pp m cc B :=
  ⟨h.zn, h.rw_.below hb, h.cn, h.zm, h.nm.below hb, h.cm, h.m100⟩
theorem Bn.n100 {w : World} {p : Option Addr} {n c : Nat} {xs : List Value} {pp : Option Addr} {m cc : Nat} {B : Bk} (h : Bn w p n c xs pp m cc B) : n ≤ 100 := by rw [← h.zn]; exact h.rw_.n100
/-- A value that reads as banks. -/
def Rd (w : World) (v : Value) (B : Bk) : Prop := ∃ p n c xs pp m cc, v = .agg #[.slice p n c, .slice pp m cc, .int .i64 B.lost] ∧ Bn w p n c xs pp m cc B
theorem Rd.below {w w' : World} {v : Value} {B : Bk} (h : Rd w v B) (hb : Below w.heap.size w w') : Rd w' v B := by
  obtain ⟨p, n, c, xs, pp, m, cc, e, h⟩ := h
  exact ⟨p, n, c, xs, pp, m, cc, e, h.below hb⟩

set_option maxHeartbeats 1000000 in
theorem sized_any (p : Option Addr) (n c : Nat) (xs : List Value) (pp : Option Addr) (m cc : Nat) (B : Bk) (w : World) (h : Bn w p n c xs pp m cc B) :
    Calls Try.prog 29 #[.agg #[.slice p n c, .slice pp m cc, .int .i64 B.lost]] w fun e w' => e = .returned (.bool (sizedB B)) ∧ Below w.heap.size w w' := by
  obtain ⟨z, hz⟩ : ∃ z, z = B.lost := ⟨_, rfl⟩
  rw [← hz]
  have hm := h.m100
  have hn := h.n100
  have HH := Lib.hid h
  obtain ⟨s, hs⟩ : ∃ s, s = sizedB B := ⟨_, rfl⟩
  obtain ⟨y, hy⟩ : ∃ y, y = mayN n m := ⟨_, rfl⟩
  have hs2 : s = (y && allB B.rows m) := by rw [hs, hy]; unfold sizedB; rw [h.zn, h.zm]
  rw [← hs]
  have HS := Lib.hid hs2
  have HY := Lib.hid hy
  clear h hs hs2 hz hy
  go_enter Try.func29, Try.ntmps29
  cases y with
  | false =>
    go_wp2_with (first | (go_at_call 28; refine (may_any _ _ _).mono ?_; rintro e w' ⟨rfl, rfl⟩; rw [← HY.out]))
    go_ret
    exact ⟨by rw [HS.out]; rfl, ((Below.refl _ _).alloc (Nat.le_refl _) _).alloc (by simp) _⟩
  | true =>
    go_wp2_with (first | (go_at_call 28; refine (may_any _ _ _).mono ?_; rintro e w' ⟨rfl, rfl⟩; rw [← HY.out]) | fail)
    refine (containsr_any (w.heap.size + 1) _ _ _ m xs B.rows _ HH.out.zn (HH.out.rw_.below (((Below.refl _ _).alloc (Nat.le_refl _) _).alloc (by simp) _)) (by simp)).mono ?_
    rintro e w' ⟨rfl, rfl⟩
    go_wp2
    go_ret
    exact ⟨by rw [HS.out]; simp, ((Below.refl _ _).alloc (Nat.le_refl _) _).alloc (by simp) _⟩

theorem own_base {w : World} {b b' : Nat} {e : TypeId} {size : Nat} {v : Value} {n : Nat} {xs : List Value} (h : w.ownsRow b e size v n xs) (hb : b' ≤ b) : w.ownsRow b' e size v n xs := by
  obtain ⟨h1, h2 | ⟨g, cap, cur, e1, e2, e3⟩⟩ := h
  · exact ⟨h1, .inl h2⟩
  · exact ⟨h1, .inr ⟨g, cap, cur, e1, by omega, e3⟩⟩
theorem own_sl {w : World} {base : Nat} {e : TypeId} {size : Nat} {v : Value} {n : Nat} {xs : List Value} (h : w.ownsRow base e size v n xs) : ∃ p cap, v = .slice p n cap := by
  obtain ⟨p, cap, e, _⟩ := Sl.own h
  exact ⟨p, cap, e⟩
theorem own_below {w w' : World} {base : Nat} {e : TypeId} {size : Nat} {v : Value} {n : Nat} {xs : List Value} (h : w.ownsRow base e size v n xs) (hb : Below w.heap.size w w') : w'.ownsRow base e size v n xs := by
  obtain ⟨h1, h2 | ⟨g', c', cur, e1, e2, e3, e4⟩⟩ := h
  · exact ⟨h1, .inl h2⟩
  · exact ⟨h1, .inr ⟨g', c', cur, e1, e2, by rw [hb.block g' (Array.getElem?_eq_some_iff.1 e3).1]; exact e3, e4⟩⟩
theorem own_cap {w : World} {base : Nat} {e : TypeId} {size : Nat} {v : Value} {n : Nat} {xs : List Value} (h : w.ownsRow base e size v n xs) : ∃ p cap, v = .slice p n cap ∧ n ≤ cap := by
  obtain ⟨h1, ⟨h2, h3⟩ | ⟨g', c', cur, e1, e2, e3, e4, _⟩⟩ := h
  · subst h3; exact ⟨_, _, h2, Nat.le_refl _⟩
  · exact ⟨_, _, e1, e4⟩
theorem own_go {w : World} {base : Nat} {e : TypeId} {size : Nat} {p : Option Addr} {n c : Nat} {xs : List Value} (h : w.ownsRow base e size (.slice p n c) n xs) (h0 : 0 < n) : ∃ g, p = some ⟨g, 0, none⟩ ∧ n ≤ c ∧ c ≤ maxLen ∧ base ≤ g ∧ g < w.heap.size := by
  obtain ⟨h1, ⟨_, h2⟩ | ⟨g, cap, cur, e1, e2, e3, e4, e5, _⟩⟩ := h
  · omega
  · injection e1 with e1 e6 e7
    subst e7
    exact ⟨g, e1, e4, e5, e2, (Array.getElem?_eq_some_iff.1 e3).1⟩
theorem own_off {w : World} {base : Nat} {e : TypeId} {size : Nat} {v : Value} {n : Nat} {xs : List Value} (h : w.ownsRow base e size v n xs) {R : Nat} (hR : ∀ g, v.ownBlock = some g → g ≠ R) (j : Nat) (u : Value) : (w.setCell ⟨R, j, none⟩ u).ownsRow base e size v n xs := by
  refine h.kept (row := some R) ⟨rfl, rfl, rfl, by simp, fun k _ hk => heap_setCell_other w ⟨R, j, none⟩ k u (fun e => hk (by simp [e]))⟩ ?_
  cases hv : v.ownBlock with
  | none => exact .inl rfl
  | some b => exact .inr (fun e2 => by injection e2 with e2; exact hR b hv e2)
theorem nm_own {w : World} {base n cap : Nat} {p : Option Addr} {l : List Nat} (h : w.ownsRow base 26 1 (.slice p n cap) n (u32C l)) (hl : l.length = n) (hb : ∀ x ∈ l, x < 4294967296) : Nm w p l :=
  ⟨hb, fun h0 => by
    obtain ⟨p', c', e, hs⟩ := Sl.own h
    injection e with e1 e2 e3
    subst e1
    obtain ⟨b, off, h1, h2, h3⟩ := hs (by omega)
    exact ⟨b, off, h1, h2, fun k hk => by rw [h3 k (by rw [u32C_len]; exact hk), u32C_at l k hk]⟩⟩
/-- Words in memory of one's own. -/
structure Wd (base : Nat) (w : World) (g m c : Nat) (l : List Nat) : Prop where
  row : w.ownsRow base 26 1 (.slice (some ⟨g, 0, none⟩) m c) m (u32C l)
  len : l.length = m
  lt : ∀ x ∈ l, x < 4294967296
theorem Wd.nm {base : Nat} {w : World} {g m c : Nat} {l : List Nat} (h : Wd base w g m c l) : Nm w (some ⟨g, 0, none⟩) l := nm_own h.row h.len h.lt
theorem Wd.below {base : Nat} {w w' : World} {g m c : Nat} {l : List Nat} (h : Wd base w g m c l) (hb : Below w.heap.size w w') : Wd base w' g m c l := ⟨own_below h.row hb, h.len, h.lt⟩
theorem Wd.mono {base base' : Nat} {w : World} {g m c : Nat} {l : List Nat} (h : Wd base w g m c l) (hb : base' ≤ base) : Wd base' w g m c l := ⟨own_base h.row hb, h.len, h.lt⟩
theorem Wd.ge {base : Nat} {w : World} {g m c : Nat} {l : List Nat} (h : Wd base w g m c l) : base ≤ g ∧ g < w.heap.size := h.row.lt g rfl
theorem Wd.cap {base : Nat} {w : World} {g m c : Nat} {l : List Nat} (h : Wd base w g m c l) : m ≤ c := by
  obtain ⟨p, cap, e, hc⟩ := own_cap h.row
  injection e with _ _ e
  omega
theorem Wd.cell {base : Nat} {w : World} {g m c : Nat} {l : List Nat} (h : Wd base w g m c l) (a : Nat) (ha : a < m) : w.cell? ⟨g, a, none⟩ = some (.int .u32 (l.getD a 0 : Nat)) := by
  rw [h.row.cellAt a (by omega), u32C_at l a (by rw [h.len]; exact ha)]
theorem Wd.frozen {base : Nat} {w : World} {g m c : Nat} {l : List Nat} (h : Wd base w g m c l) (a : Nat) : w.frozen? ⟨g, a, none⟩ = false := h.row.frozenAt a
theorem Wd.set {base : Nat} {w : World} {g m c : Nat} {l : List Nat} (h : Wd base w g m c l) (a x : Nat) (hx : x < 4294967296) : Wd base (w.setCell ⟨g, a, none⟩ (.int .u32 (x : Int))) g m c (l.set a x) :=
  ⟨by rw [← u32C_set]; exact (h.row.stored a _).1, by rw [List.length_set]; exact h.len, fun y hy => by
    rcases List.mem_or_eq_of_mem_set hy with h1 | h1
    · exact h.lt y h1
    · rw [h1]; exact hx⟩
theorem Wd.off {base : Nat} {w : World} {g m c : Nat} {l : List Nat} (h : Wd base w g m c l) {R : Nat} (hR : g ≠ R) (j : Nat) (u : Value) : Wd base (w.setCell ⟨R, j, none⟩ u) g m c l :=
  ⟨own_off h.row (fun b e => by injection e with e; subst e; exact hR) j u, h.len, h.lt⟩
theorem rep_lt (n : Nat) : ∀ x ∈ List.replicate n 0, x < 4294967296 := by
  intro x hx; rw [(List.mem_replicate.1 hx).2]; decide
theorem Wd.made {base : Nat} {w : World} {g m : Nat} (h : w.ownsRow base 26 1 (.slice (some ⟨g, 0, none⟩) m m) m (madeCells #[.int .u32 0] m).toList) : Wd base w g m m (List.replicate m 0) := by
  refine ⟨?_, by simp, rep_lt m⟩
  have e : (madeCells #[Value.int .u32 0] m).toList = u32C (List.replicate m 0) := by
    rw [← u32C_rep]; exact toList_madeCells_one _ _
  rw [← e]
  exact h

set_option maxHeartbeats 4000000 in
theorem together_any (p : Option Addr) (n c m : Nat) (xs : List Value) (L : List (List Nat)) (w : World) (hz : L.length = n) (h : Rw w p xs L) (hm : m ≤ 100) (hall : allB L m = true) :
    Calls Try.prog 27 #[.slice p n c, .int .i64 m] w fun e w' => ∃ g, e = .returned (.slice (some ⟨g, 0, none⟩) m m) ∧ Wd w.heap.size w' g m m (togL L m) ∧ Below w.heap.size w w' := by
  obtain ⟨i0, hi, hz0, hz1, hz2⟩ := info_parts info26
  have HI := Lib.hid (And.intro hi (And.intro hz0 (And.intro hz1 hz2)))
  have HZ := Lib.hid hz
  have HP := Lib.hid h
  have HA := Lib.hid hall
  have hn : n ≤ 100 := by rw [← hz]; exact h.n100
  clear h hz hall hi hz0 hz1 hz2
  go_enter Try.func27, Try.ntmps27
  go_wp2_with (first | (refine wpList_make_full _ rfl _ _ 23 rfl w.heap.size 26 i0 (.int .u32 0) 1 Try.underlying23 HI.out.1 HI.out.2.1 HI.out.2.2.1 .i64 .i64 m m m rfl rfl rfl rfl (by rw [HI.out.2.2.2]; omega) (by unfold maxLen; omega) (Nat.le_refl _) ?_))
  intro w1 g1 g2
  have HW1 := Lib.hid (Wd.made g1)
  have HB1 : Hid (Below w.heap.size w w1) := Lib.hid ((Below.refl w.heap.size w).grown g2 (Nat.le_refl _) (fun k hk => by cases hk))
  clear g1 g2 HI
  go_wp2_with fail
  go_loopw [14] (fun s wr => ∃ k : Nat, k ≤ n ∧ s = .int .i64 k ∧ (∃ l, Wd w.heap.size wr w.heap.size m m l ∧ ∀ a, a < m → l.getD a 0 = colK L a (-1) k) ∧ Below w.heap.size w wr) (fun s _ => n - (intOf s).toNat)
  case atStart => exact ⟨0, Nat.zero_le _, rfl, ⟨_, HW1.out, fun a ha => by rw [getD_rep0]; rfl⟩, HB1.out⟩
  case round =>
    obtain ⟨k, hk, rfl, ⟨l, hl, hc⟩, hb⟩ := hrel
    clear HW1 HB1
    have HL := Lib.hid hl
    have HC := Lib.hid hc
    have HB := Lib.hid hb
    clear hl hc hb
    by_cases hlt : k < n
    · have hltI : decide ((k : Int) < n) = true := decide_eq_true (by omega)
      have hltk : k < L.length := by rw [HZ.out]; exact hlt
      obtain ⟨b, off, q, x, c2, rfl, hrow⟩ := HP.out.rowAt k hltk
      have hck := (hrow.below HB.out).cell
      have hxm : x = m := by rw [← hrow.len]; exact all_at HA.out k hltk
      subst hxm
      obtain ⟨r, hr⟩ : ∃ r, r = L.getD k [] := ⟨_, rfl⟩
      rw [← hr] at hrow
      have HR := Lib.hid hr
      have HROW := Lib.hid hrow
      clear hr hrow hltk
      obtain ⟨WR, hWR⟩ : ∃ W, W = wr := ⟨_, rfl⟩
      rw [← hWR] at HL HB hck ⊢
      clear hWR
      go_wp2_with fail
      go_loopw [20] (fun s wr => ∃ t : Nat, t ≤ x ∧ s = .int .i64 t ∧ (∃ l, Wd w.heap.size wr w.heap.size x x l ∧ ∀ a, a < x → l.getD a 0 = colK L a (-1) (if a < t then k + 1 else k)) ∧ Below w.heap.size w wr) (fun s _ => x - (intOf s).toNat)
      case atStart => exact ⟨0, Nat.zero_le _, rfl, ⟨_, HL.out, fun a ha => by rw [if_neg (Nat.not_lt_zero a)]; exact HC.out a ha⟩, HB.out⟩
      case round =>
        obtain ⟨t, ht, rfl, ⟨l2, hl2, hc2⟩, hb2⟩ := hrel
        have HL2 := Lib.hid hl2
        have HC2 := Lib.hid hc2
        have HB2 := Lib.hid hb2
        clear hl2 hc2 hb2 HL HC
        by_cases htl : t < x
        · have htlI : decide ((t : Int) < x) = true := decide_eq_true (by omega)
          have hrl : t < r.length := by rw [HROW.out.len]; exact htl
          obtain ⟨b2, off2, hb2l, hq, hcr⟩ := HROW.out.nm.cellAt t hrl
          subst hq
          have hcr2 := (HB2.out.cell (p := ⟨b2, off2 + t, none⟩) hb2l).trans hcr
          have hr32 := HROW.out.nm.getD_lt t
          have hl32 := HL2.out.nm.getD_lt t
          have hcl := HL2.out.cell t htl
          have hfl := HL2.out.frozen t
          obtain ⟨y, hy⟩ : ∃ y, y = r.getD t 0 := ⟨_, rfl⟩
          obtain ⟨z, hz⟩ : ∃ z, z = l2.getD t 0 := ⟨_, rfl⟩
          rw [← hy] at hcr2 hr32
          rw [← hz] at hcl hl32
          have hxor : bits .xor .u32 (z : Int) (y : Int) = ((z ^^^ y : Nat) : Int) := u32_xor_nat z y (by omega) (by omega)
          have HSET := Lib.hid (HL2.out.set t (z ^^^ y) (xor_lt _ _ hl32 hr32))
          have HBS := Lib.hid (HB2.out.setCell (p := ⟨w.heap.size, t, none⟩) (Nat.le_refl _) (.int .u32 ((z ^^^ y : Nat) : Int)))
          have HNEW : Hid (∀ a, a < x → (l2.set t (z ^^^ y)).getD a 0 = colK L a (-1) (if a < t + 1 then k + 1 else k)) := Lib.hid (fun a ha => by
            rw [getD_set l2 0 (z ^^^ y) t a (by rw [HL2.out.len]; exact htl)]
            by_cases e : a = t
            · subst e
              have hh := HC2.out a ha
              rw [if_neg (Nat.lt_irrefl a)] at hh
              rw [if_pos rfl, if_pos (Nat.lt_succ_self a), hz, hy, hh, HR.out]
              show _ = (if (k : Int) = -1 then _ else _)
              rw [if_neg (by omega)]
            · rw [if_neg e, HC2.out a ha]
              by_cases e2 : a < t
              · rw [if_pos e2, if_pos (by omega)]
              · rw [if_neg e2, if_neg (by omega)])
          clear hy hz hcr hb2l hrl
          go_wp2_with fail
          go_roundw
          case rel => exact ⟨t + 1, by omega, by go_num, ⟨_, HSET.out, HNEW.out⟩, HBS.out⟩
          case measure => simp [intOf]; omega
        · have htlI : decide ((t : Int) < x) = false := decide_eq_false (by omega)
          have htx : t = x := by omega
          subst htx
          go_wp2_with fail
          go_roundw
          case rel => exact ⟨k + 1, by omega, by go_num, ⟨_, HL2.out, fun a ha => by rw [HC2.out a ha, if_pos ha]⟩, HB2.out⟩
          case measure => simp [intOf]; omega
    · have hltI : decide ((k : Int) < n) = false := decide_eq_false (by omega)
      have hkn : k = n := by omega
      subst hkn
      have HT : Hid (l = togL L m) := Lib.hid (ext_getD (by rw [HL.out.len, togL_len]) (fun a ha => by
        rw [HL.out.len] at ha
        rw [HC.out a ha, togL_at L m a ha]
        unfold colX
        rw [HZ.out]))
      go_wp2_with fail
      go_ret
      exact ⟨_, rfl, by rw [← HT.out]; exact HL.out, HB.out⟩
end Go.Proofs.Ytkeemmedbbammaa
