/- slices.Clone of bytes and of frames, slices.Delete of a frame; what a pool in memory of one's own is; no condition but that they read. -/
import Derived.Test.YtpmheaeiemnjeaaPoolA
import Derived.Deep.RegionLaw
import Derived.Lib.SliceRun
namespace Go.Proofs.Ytpmheaeiemnjeaa
set_option linter.unusedVariables false
open Go.ChangeShapes Go.WideShapes Go.ChangeAt Go.RowKit

theorem info30 : (Try.prog.info? 30).map (fun i => (i.zero, i.size, i.bytes)) = some (some (.slice none 0 0), 1, 24) := by kernel_rfl
theorem own_below {w w' : World} {base : Nat} {e : TypeId} {size : Nat} {v : Value} {n : Nat} {xs : List Value} (h : w.ownsRow base e size v n xs) (hb : Below w.heap.size w w') : w'.ownsRow base e size v n xs := by
  obtain ⟨h1, h2 | ⟨g', c', cur, e1, e2, e3, e4⟩⟩ := h
  · exact ⟨h1, .inl h2⟩
  · exact ⟨h1, .inr ⟨g', c', cur, e1, e2, by rw [hb.block g' (Array.getElem?_eq_some_iff.1 e3).1]; exact e3, e4⟩⟩
theorem own_cap {w : World} {base : Nat} {e : TypeId} {size : Nat} {v : Value} {n : Nat} {xs : List Value} (h : w.ownsRow base e size v n xs) : ∃ p cap, v = .slice p n cap ∧ n ≤ cap := by
  obtain ⟨h1, ⟨h2, h3⟩ | ⟨g', c', cur, e1, e2, e3, e4, _⟩⟩ := h
  · subst h3; exact ⟨_, _, h2, Nat.le_refl _⟩
  · exact ⟨_, _, e1, e4⟩
theorem own_fs {w : World} {base : Nat} {v : Value} {l : List Nat} (h : w.ownsRow base 5 1 v l.length (u8C l)) (hb : ∀ x ∈ l, x < 256) : Fs w v l := by
  obtain ⟨p, c, rfl, hc⟩ := own_cap h
  exact ⟨p, c, rfl, hc, byts_own h rfl hb⟩
theorem own_go {w : World} {base : Nat} {e : TypeId} {size : Nat} {p : Option Addr} {n c : Nat} {xs : List Value} (h : w.ownsRow base e size (.slice p n c) n xs) (h0 : 0 < n) : ∃ g, p = some ⟨g, 0, none⟩ ∧ n ≤ c ∧ c ≤ maxLen ∧ base ≤ g ∧ g < w.heap.size := by
  obtain ⟨h1, ⟨_, h2⟩ | ⟨g, cap, cur, e1, e2, e3, e4, e5, _⟩⟩ := h
  · omega
  · injection e1 with e1 e6 e7
    subst e7
    exact ⟨g, e1, e4, e5, e2, (Array.getElem?_eq_some_iff.1 e3).1⟩

theorem clone_bytes (v : Value) (l : List Nat) (w : World) (h : Fs w v l) (hm : l.length ≤ 100) :
    Calls Try.prog 33 #[v] w fun e w' => ∃ r, e = .returned r ∧ w'.ownsRow w.heap.size 5 1 r l.length (u8C l) ∧ Below w.heap.size w w' := by
  obtain ⟨p, c, rfl, hc, hby⟩ := h
  obtain ⟨i0, hi, hz0, hz1, hz2⟩ := info_parts info5
  have HI := Lib.hid (And.intro hi (And.intro hz0 (And.intro hz1 hz2)))
  have HS : Hid (Sl w p l.length (u8C l)) := fun h0 => by
    obtain ⟨b, off, h1, h2, h3⟩ := hby.c h0
    exact ⟨b, off, h1, h2, fun j hj => by rw [u8C_len] at hj; rw [h3 j hj, u8C_at l j hj]⟩
  clear hby hi hz0 hz1 hz2
  have hq : ∀ W, (binOp .eql 30 (.slice p l.length c) (.slice none 0 0)).run Try.prog W = .ok (.bool p.isNone) W := fun W => Lib.run_eql_slice_nil W _ 5 _ _ _ _ _ Try.underlying30
  obtain ⟨n, hn⟩ : ∃ n, n = l.length := ⟨_, rfl⟩
  rw [← hn] at HS hm hc hq ⊢
  have HN := Lib.hid hn
  clear hn
  cases p with
  | none =>
    have h0 : n = 0 := by
      rcases Nat.eq_zero_or_pos n with h0 | h0
      · exact h0
      · obtain ⟨b, off, _, h2, _⟩ := HS.out h0
        cases h2
    subst h0
    have hl : l = [] := List.eq_nil_of_length_eq_zero HN.out.symm
    subst hl
    clear HS HN hc HI
    simp only [Option.isNone_none, Option.isNone_some] at hq
    go_enter Try.func33, Try.ntmps33
    go_wp2
    go_ret
    exact ⟨_, rfl, World.ownsRow_nil _ _ _ _, Below.refl _ _⟩
  | some a =>
    simp only [Option.isNone_none, Option.isNone_some] at hq
    go_enter Try.func33, Try.ntmps33
    go_wp2_with (first | (at_builtin; refine wpList_append_sl rfl _ _ 30 rfl w.heap.size 5 i0 (.int .u8 0) 1 1 Try.underlying30 HI.out.1 HI.out.2.1 HI.out.2.2.1 HI.out.2.2.2 rfl (by decide) _ 0 [] rfl (fresh_made (Nat.le_refl _)) (some a) n c (u8C l) rfl (by rw [u8C_len, HN.out, Nat.mul_one]) (HS.out.below ((Below.refl _ _).alloc (Nat.le_refl _) _)) (u8C_one _) (by unfold maxLen; omega) (by omega) (by simp) ?_))
    intro v' w' g1 g2 g3
    have HG : Hid (w'.ownsRow w.heap.size 5 1 v' n (u8C l)) := Lib.hid g1
    have HB : Hid (Below w.heap.size w w') := Lib.hid (((Below.refl w.heap.size w).alloc (Nat.le_refl _) _).grown g2 (by simp) (fun k hk => by simp [Value.ownBlock] at hk; omega))
    clear g1 g2 g3
    go_wp2
    go_ret
    exact ⟨_, rfl, HG.out, HB.out⟩

theorem clone_rows (p : Option Addr) (n c : Nat) (xs : List Value) (L : List (List Nat)) (w : World) (hz : L.length = n) (h : Pl w p xs L) :
    Calls Try.prog 36 #[.slice p n c] w fun e w' => ∃ r, e = .returned r ∧ w'.ownsRow w.heap.size 30 1 r n xs ∧ Below w.heap.size w w' := by
  obtain ⟨i0, hi, hz0, hz1, hz2⟩ := info_parts info30
  have HI := Lib.hid (And.intro hi (And.intro hz0 (And.intro hz1 hz2)))
  have hm : n ≤ 100 := by rw [← hz]; exact h.n100
  have HS : Hid (Sl w p n xs) := by rw [← hz]; exact h.sl
  have HN : Hid (xs.length = n) := by rw [← hz]; exact h.len
  have H1 := Lib.hid h.one
  have hq : ∀ W, (binOp .eql 22 (.slice p n c) (.slice none 0 0)).run Try.prog W = .ok (.bool p.isNone) W := fun W => Lib.run_eql_slice_nil W _ 30 _ _ _ _ _ Try.underlying22
  clear hi hz0 hz1 hz2 hz h
  cases p with
  | none =>
    have h0 : n = 0 := by
      rcases Nat.eq_zero_or_pos n with h0 | h0
      · exact h0
      · obtain ⟨b, off, _, h2, _⟩ := HS.out h0
        cases h2
    subst h0
    have hl : xs = [] := List.eq_nil_of_length_eq_zero HN.out
    subst hl
    clear HS HN HI H1
    simp only [Option.isNone_none, Option.isNone_some] at hq
    go_enter Try.func36, Try.ntmps36
    go_wp2
    go_ret
    exact ⟨_, rfl, World.ownsRow_nil _ _ _ _, Below.refl _ _⟩
  | some a =>
    simp only [Option.isNone_none, Option.isNone_some] at hq
    go_enter Try.func36, Try.ntmps36
    go_wp2_with (first | (at_builtin; refine wpList_append_sl rfl _ _ 22 rfl w.heap.size 30 i0 (.slice none 0 0) 1 24 Try.underlying22 HI.out.1 HI.out.2.1 HI.out.2.2.1 HI.out.2.2.2 rfl (by decide) _ 0 [] rfl (fresh_made (Nat.le_refl _)) (some a) n c xs rfl (by rw [HN.out, Nat.mul_one]) (HS.out.below ((Below.refl _ _).alloc (Nat.le_refl _) _)) H1.out (by unfold maxLen; omega) (by omega) (by simp) ?_))
    intro v' w' g1 g2 g3
    have HG : Hid (w'.ownsRow w.heap.size 30 1 v' n xs) := Lib.hid g1
    have HB : Hid (Below w.heap.size w w') := Lib.hid (((Below.refl w.heap.size w).alloc (Nat.le_refl _) _).grown g2 (by simp) (fun k hk => by simp [Value.ownBlock] at hk; omega))
    clear g1 g2 g3
    go_wp2
    go_ret
    exact ⟨_, rfl, HG.out, HB.out⟩

/-- A pool in memory of one's own, of which the first k frames are copied. -/
structure OwnK (base : Nat) (w : World) (v : Value) (xs ys : List Value) (L : List (List Nat)) (k : Nat) : Prop where
  row : w.ownsRow base 30 1 v L.length ys
  fr : ∀ j, j < k → w.ownsRow base 5 1 (ys.getD j vz) (L.getD j []).length (u8C (L.getD j []))
  sep : ∀ j, j < k → ∀ g, (ys.getD j vz).ownBlock = some g → v.ownBlock ≠ some g
  two : ∀ i j, i < k → j < k → i ≠ j → ∀ g, (ys.getD i vz).ownBlock = some g → (ys.getD j vz).ownBlock ≠ some g
  rest : ∀ j, k ≤ j → ys.getD j vz = xs.getD j vz
theorem OwnK.below {base : Nat} {w w' : World} {v : Value} {xs ys : List Value} {L : List (List Nat)} {k : Nat} (h : OwnK base w v xs ys L k) (hb : Below w.heap.size w w') : OwnK base w' v xs ys L k :=
  ⟨own_below h.row hb, fun j hj => own_below (h.fr j hj) hb, h.sep, h.two, h.rest⟩
theorem OwnK.begin {base : Nat} {w : World} {v : Value} {xs : List Value} {L : List (List Nat)} (h : w.ownsRow base 30 1 v L.length xs) : OwnK base w v xs xs L 0 :=
  ⟨h, fun j hj => absurd hj (Nat.not_lt_zero _), fun j hj => absurd hj (Nat.not_lt_zero _), fun i j hi => absurd hi (Nat.not_lt_zero _), fun j _ => rfl⟩
theorem OwnK.step {base g c k : Nat} {w w2 : World} {xs ys : List Value} {L : List (List Nat)} {r : Value} (h : OwnK base w (.slice (some ⟨g, 0, none⟩) L.length c) xs ys L k) (hk : k < L.length) (hbase : base ≤ w.heap.size) (hb : Below w.heap.size w w2)
    (hr : w2.ownsRow w.heap.size 5 1 r (L.getD k []).length (u8C (L.getD k []))) : OwnK base (w2.setCell ⟨g, k, none⟩ r) (.slice (some ⟨g, 0, none⟩) L.length c) xs (ys.set k r) L (k + 1) := by
  have h2 := h.below hb
  have hlen : ys.length = L.length := by rw [h.row.1, Nat.mul_one]
  have hgrow := (h2.row.stored k r).2
  have hgl : g < w.heap.size := (h.row.lt g rfl).2
  have hrg : ∀ b, r.ownBlock = some b → w.heap.size ≤ b := fun b hb => (hr.lt b hb).1
  have gD : ∀ j, (ys.set k r).getD j vz = if j = k then r else ys.getD j vz := fun j => getD_set ys vz r k j (by omega)
  refine ⟨(h2.row.stored k r).1, fun j hj => ?_, fun j hj b hb => ?_, fun i j hi hj hij b hb => ?_, fun j hj => ?_⟩
  · rw [gD]
    by_cases e : j = k
    · subst e
      rw [if_pos rfl]
      refine (own_base hr hbase).kept hgrow ?_
      cases hv : r.ownBlock with
      | none => exact .inl rfl
      | some b => exact .inr (fun e => by injection e with e; have := hrg b hv; omega)
    · rw [if_neg e]
      refine (h2.fr j (by omega)).kept hgrow ?_
      cases hv : (ys.getD j vz).ownBlock with
      | none => exact .inl rfl
      | some b => exact .inr (fun e2 => h.sep j (by omega) b hv (by rw [e2]; rfl))
  · rw [gD] at hb
    by_cases e : j = k
    · subst e
      rw [if_pos rfl] at hb
      have := hrg b hb
      intro e2
      injection e2 with e2
      simp at e2
      omega
    · rw [if_neg e] at hb
      exact h.sep j (by omega) b hb
  · rw [gD] at hb ⊢
    by_cases e : i = k
    · subst e
      rw [if_pos rfl] at hb
      rw [if_neg (fun e => hij e.symm)]
      intro e2
      have h1 := hrg b hb
      have h3 := ((h.fr j (by omega)).lt b e2).2
      omega
    · rw [if_neg e] at hb
      by_cases e' : j = k
      · subst e'
        rw [if_pos rfl]
        intro e2
        have h1 := hrg b e2
        have h3 := ((h.fr i (by omega)).lt b hb).2
        omega
      · rw [if_neg e']
        exact h.two i j (by omega) (by omega) hij b hb
  · rw [gD, if_neg (by omega)]
    exact h.rest j (by omega)
/-- A pool in memory of one's own. -/
def Own (base : Nat) (w : World) (v : Value) (ys : List Value) (L : List (List Nat)) : Prop := OwnK base w v ys ys L L.length
theorem OwnK.done {base : Nat} {w : World} {v : Value} {xs ys : List Value} {L : List (List Nat)} (h : OwnK base w v xs ys L L.length) : Own base w v ys L := ⟨h.row, h.fr, h.sep, h.two, fun _ _ => rfl⟩
theorem Own.below {base : Nat} {w w' : World} {v : Value} {ys : List Value} {L : List (List Nat)} (h : Own base w v ys L) (hb : Below w.heap.size w w') : Own base w' v ys L := OwnK.below h hb
theorem Own.mono {base base' : Nat} {w : World} {v : Value} {ys : List Value} {L : List (List Nat)} (h : Own base w v ys L) (hb : base' ≤ base) : Own base' w v ys L :=
  ⟨own_base h.row hb, fun j hj => own_base (h.fr j hj) hb, h.sep, h.two, h.rest⟩
theorem Own.pl {base : Nat} {w : World} {v : Value} {ys : List Value} {L : List (List Nat)} (h : Own base w v ys L) (hn : L.length ≤ 100) (hl : ∀ l ∈ L, l.length ≤ 100) (hb : ∀ l ∈ L, ∀ x ∈ l, x < 256) : ∃ p c, v = .slice p L.length c ∧ Pl w p ys L := by
  obtain ⟨p, c, rfl, hs⟩ := Sl.own h.row
  exact ⟨p, c, rfl, by rw [h.row.1, Nat.mul_one], hs, fun k hk => own_fs (h.fr k hk) (hb _ (mem_getD L [] k hk)), hn, hl⟩
theorem Pl.lt {w : World} {p : Option Addr} {xs : List Value} {L : List (List Nat)} (h : Pl w p xs L) : ∀ l ∈ L, ∀ x ∈ l, x < 256 := by
  intro l hl
  obtain ⟨k, hk, rfl⟩ := List.getElem_of_mem hl
  obtain ⟨_, _, _, _, hb⟩ := h.fs k hk
  have e : L.getD k [] = L[k] := by rw [List.getD_eq_getElem?_getD, List.getElem?_eq_getElem hk]; rfl
  rw [e] at hb
  exact hb.lt

theorem own_off {w : World} {base : Nat} {e : TypeId} {size : Nat} {v : Value} {n : Nat} {xs : List Value} (h : w.ownsRow base e size v n xs) {R : Nat} (hR : R < base) (j : Nat) (u : Value) : (w.setCell ⟨R, j, none⟩ u).ownsRow base e size v n xs := by
  refine h.kept (row := some R) ⟨rfl, rfl, rfl, by simp, fun k _ hk => heap_setCell_other w ⟨R, j, none⟩ k u (fun e => hk (by simp [e]))⟩ ?_
  cases hv : v.ownBlock with
  | none => exact .inl rfl
  | some b => exact .inr (fun e2 => by injection e2 with e2; have := (h.lt b hv).1; omega)
theorem Own.setOff {base : Nat} {w : World} {v : Value} {ys : List Value} {L : List (List Nat)} (h : Own base w v ys L) {R : Nat} (hR : R < base) (j : Nat) (u : Value) : Own base (w.setCell ⟨R, j, none⟩ u) v ys L :=
  ⟨own_off h.row hR j u, fun i hi => own_off (h.fr i hi) hR j u, h.sep, h.two, h.rest⟩
set_option maxHeartbeats 4000000 in
theorem copied_any (p : Option Addr) (n c : Nat) (xs : List Value) (L : List (List Nat)) (w : World) (hz : L.length = n) (h : Pl w p xs L) :
    Calls Try.prog 23 #[.agg #[.slice p n c]] w fun e w' => ∃ v ys, e = .returned (.agg #[v]) ∧ Own w.heap.size w' v ys L ∧ Below w.heap.size w w' := by
  have hm : n ≤ 100 := by rw [← hz]; exact h.n100
  have HZ := Lib.hid hz
  have HP := Lib.hid h
  clear h hz
  go_enter Try.func23, Try.ntmps23
  go_wp2_with fail
  refine (clone_rows p n c xs L _ HZ.out (HP.out.below (((Below.refl _ _).alloc (Nat.le_refl _) _).alloc (by simp) _))).mono ?_
  rintro e w1 ⟨v, rfl, ho, hb⟩
  obtain ⟨q, cap, rfl, hcap⟩ := own_cap ho
  have HB1 : Hid (Below w.heap.size w w1) := Lib.hid ((((Below.refl _ _).alloc (Nat.le_refl _) _).alloc (by simp) _).trans (hb.mono (by simp; omega)))
  have HR : Hid (Blk w1 (w.heap.size + 1) #[.slice none 0 0]) := Lib.hid (by
    have := Blk.track1 hb
    simpa using this)
  have HO : Hid (OwnK (w.heap.size + 2) w1 (.slice q L.length cap) xs xs L 0) := Lib.hid (OwnK.begin (by rw [HZ.out]; exact own_base ho (by simp)))
  have HG : Hid (∀ g, q = some ⟨g, 0, none⟩ → w.heap.size + 2 ≤ g) := Lib.hid (by
    intro g e
    subst e
    have := (ho.lt g rfl).1
    simpa using this)
  clear hb ho
  go_wp2_with fail
  go_loopw [11] (fun i wr => ∃ k : Nat, k ≤ n ∧ i = .int .i64 k ∧ (∃ ys, OwnK (w.heap.size + 2) wr (.slice q L.length cap) xs ys L k) ∧ Blk wr (w.heap.size + 1) #[.slice none 0 0] ∧ Below w.heap.size w wr) (fun i _ => n - (intOf i).toNat)
  case atStart => exact ⟨0, Nat.zero_le _, rfl, ⟨_, HO.out⟩, HR.out, HB1.out⟩
  case round =>
    obtain ⟨k, hk, rfl, ⟨ys, ho⟩, hr, hb⟩ := hrel
    clear HB1 HR HO
    have HRR := Lib.hid hr
    have HB := Lib.hid hb
    clear hr hb
    by_cases hlt : k < n
    · have hlt' : k < L.length := by rw [HZ.out]; exact hlt
      obtain ⟨g, rfl, hnc, hcm, hbg, hgl⟩ := own_go ho.row (by rw [HZ.out]; omega)
      have hfs : Fs wr (xs.getD k vz) (L.getD k []) := (HP.out.fs k hlt').below HB.out
      have hl := HP.out.l100 _ (mem_getD L [] k hlt')
      obtain ⟨l, hle⟩ : ∃ l, l = L.getD k [] := ⟨_, rfl⟩
      rw [← hle] at hfs hl
      have HFS := Lib.hid hfs
      have HLE := Lib.hid hle
      obtain ⟨pk, ck, hv, _, _⟩ := hfs
      have hck : wr.cell? ⟨g, k, none⟩ = some (.slice pk l.length ck) := by
        rw [ho.row.cellAt k (by omega), ← hv, ← ho.rest k (Nat.le_refl _), List.getD_eq_getElem?_getD, List.getElem?_eq_getElem (by rw [ho.row.1]; omega)]
        rfl
      have HO := Lib.hid ho
      have HV := Lib.hid hv
      have HBG : Hid (w.heap.size + 2 ≤ g) := Lib.hid (HG.out g rfl)
      clear ho hv hbg hgl hnc hcm hle
      go_wp2_with fail
      refine (clone_bytes _ l _ (by rw [← HV.out]; exact HFS.out) hl).mono ?_
      rintro e w2 ⟨r, rfl, hr2, hb2⟩
      have HO2 := Lib.hid (HO.out.step hlt' HRR.out.lt hb2 (by rw [← HLE.out]; exact hr2))
      obtain ⟨q2, c2, rfl, _⟩ := own_cap hr2
      have hc2 : w2.cell? ⟨g, k, none⟩ = some (.slice pk l.length ck) := (hb2.cell (p := ⟨g, k, none⟩) (HO.out.row.lt g rfl).2).trans hck
      have hf2 : w2.frozen? ⟨g, k, none⟩ = false := (OwnK.below HO.out hb2).row.frozenAt k
      have HRR2 := Lib.hid ((HRR.out.below hb2).other (B' := g) (n := k) (.slice q2 l.length c2) (by have := HBG.out; omega))
      have HB2 := Lib.hid ((HB.out.trans (hb2.mono HB.out.size)).setCell (p := ⟨g, k, none⟩) (by show w.heap.size ≤ g; have := HBG.out; omega) (.slice q2 l.length c2))
      clear hb2 hr2 hck
      go_wp2_with fail
      go_roundw
      case rel => exact ⟨k + 1, by omega, by go_num, ⟨_, HO2.out⟩, HRR2.out, HB2.out⟩
      case measure => simp [intOf]; omega
    · have hkn : k = L.length := by rw [HZ.out]; omega
      have HO := Lib.hid (OwnK.done (hkn ▸ ho))
      have cR := HRR.out.c
      have fR := HRR.out.f
      have lR := HRR.out.lt
      clear ho hkn
      go_wp2_with fail
      exact bodyPost_ret (v := .agg #[.slice q n cap]) (by simp [results, Try.results23, go_sem, *]) rfl ⟨_, _, rfl, by rw [← HZ.out]; exact (HO.out.setOff (by omega) 0 _).mono (by omega), HB.out.setCell (p := ⟨w.heap.size + 1, 0, none⟩) (by show w.heap.size ≤ w.heap.size + 1; omega) _⟩
end Go.Proofs.Ytpmheaeiemnjeaa
