/- The document's own: a cache with another set in one's place; no condition but that they read. -/
import Derived.Test.YtoddmgaihggkjaaCacheRg
namespace Go.Proofs.Ytoddmgaihggkjaa
set_option linter.unusedVariables false
open Go.ChangeShapes Go.WideShapes Go.ChangeAt Go.RowKit

theorem co_with {S : Nat → Prop} {w w' : World} {p : Option Addr} {n c g c' k : Nat} {xs : List Value} {C : Ch} {rv : Value} {l : List Ln} (K' : Int) (h : Cc w p n c xs C) (hk : k < n) (hl : Lv w rv l) (h100 : l.length ≤ 100) (hoff : ∀ R, S R → Off R p xs C.lines)
    (hro : ∀ R, S R → 0 < l.length → ∀ g, rv.ownBlock = some g → g ≠ R) (hg : ∀ R, S R → R ≠ g)
    (ho : w'.ownsRow w.heap.size 28 1 (.slice (some ⟨g, 0, none⟩) n c') n (xs.set k rv)) (hb : Below w.heap.size w w') :
    Co S w' (.agg #[.int .i64 C.sets, .int .i64 C.ways, .int .i64 K', .slice (some ⟨g, 0, none⟩) n c']) ⟨C.sets, C.ways, K', C.lines.set k l⟩ := by
  obtain ⟨q, d, e, hs⟩ := Sl.own ho
  injection e with e1 e2 e3
  subst e1
  obtain ⟨q', d', e, hd⟩ := own_cap ho
  injection e with e1 _ e3
  subst e3
  have hzn := h.zn
  have gx : ∀ j, (xs.set k rv).getD j vz = if j = k then rv else xs.getD j vz := fun j => getD_set xs vz rv k j (by rw [h.len]; exact hk)
  have gl : ∀ j, (C.lines.set k l).getD j [] = if j = k then l else C.lines.getD j [] := fun j => getD_set C.lines [] l k j (by rw [hzn]; exact hk)
  refine ⟨_, _, _, xs.set k rv, rfl, ⟨by show (C.lines.set k l).length = n; rw [List.length_set]; exact hzn, by rw [List.length_set]; exact h.len, hs, fun j hj => ?_, hd, h.n100, fun j => ?_⟩, fun R hR => ⟨fun _ a e => ?_, fun j hj h0 b hb' => ?_⟩⟩
  · show Lv w' ((xs.set k rv).getD j vz) ((C.lines.set k l).getD j [])
    rw [gx, gl]
    by_cases e : j = k
    · rw [if_pos e, if_pos e]; exact hl.below hb
    · rw [if_neg e, if_neg e]; exact (h.rs j hj).below hb
  · show ((C.lines.set k l).getD j []).length ≤ 100
    rw [gl]
    by_cases e : j = k
    · rw [if_pos e]; exact h100
    · rw [if_neg e]; exact h.l100 j
  · injection e with e
    subst e
    exact fun e => hg R hR e.symm
  · have h0' : 0 < ((C.lines.set k l).getD j []).length := h0
    rw [gl] at h0'
    rw [gx] at hb'
    have hj' : j < C.lines.length := by
      have : j < (C.lines.set k l).length := hj
      rwa [List.length_set] at this
    by_cases e : j = k
    · rw [if_pos e] at h0' hb'; exact hro R hR h0' b hb'
    · rw [if_neg e] at h0' hb'; exact (hoff R hR).rows j hj' h0' b hb'

set_option maxHeartbeats 4000000 in
set_option maxRecDepth 100000 in
theorem with_any (S : Nat → Prop) (p : Option Addr) (n c k : Nat) (xs : List Value) (C : Ch) (K : Int) (q : Option Addr) (cq : Nat) (l : List Ln) (w : World) (h : Cc w p n c xs C) (hk : k < n) (hl : Lv w (.slice q l.length cq) l) (h100 : l.length ≤ 100) (hoff : ∀ R, S R → Off R p xs C.lines)
    (hro : ∀ R, S R → 0 < l.length → ∀ g, (Value.slice q l.length cq).ownBlock = some g → g ≠ R) (hS : ∀ R, S R → R < w.heap.size) :
    Calls Try.prog 33 #[.agg #[.int .i64 C.sets, .int .i64 C.ways, .int .i64 K, .slice p n c], .int .i64 (k : Int), .slice q l.length cq] w fun e w' => ∃ v, e = .returned v ∧ Co S w' v ⟨C.sets, C.ways, K, C.lines.set k l⟩ ∧ Below w.heap.size w w' := by
  have hn := h.n100
  have HS : Hid (Sl w p n xs) := Lib.hid h.sl
  have HLEN := Lib.hid h.len
  have H1 := Lib.hid h.one
  have HRES : Hid (∀ w' g c', (∀ R, S R → R ≠ g) → w'.ownsRow w.heap.size 28 1 (.slice (some ⟨g, 0, none⟩) n c') n (xs.set k (.slice q l.length cq)) → Below w.heap.size w w' → Co S w' (.agg #[.int .i64 C.sets, .int .i64 C.ways, .int .i64 K, .slice (some ⟨g, 0, none⟩) n c']) ⟨C.sets, C.ways, K, C.lines.set k l⟩) := Lib.hid (fun w' g c' h1 h2 h3 => co_with K h hk hl h100 hoff hro h1 h2 h3)
  obtain ⟨C', hC'⟩ : ∃ z, z = (⟨C.sets, C.ways, K, C.lines.set k l⟩ : Ch) := ⟨_, rfl⟩
  rw [← hC'] at HRES ⊢
  obtain ⟨A, W, hA, hW⟩ : ∃ A W, A = C.sets ∧ W = C.ways := ⟨_, _, rfl, rfl⟩
  rw [← hA, ← hW] at HRES ⊢
  obtain ⟨x, hx⟩ : ∃ x, x = l.length := ⟨_, rfl⟩
  rw [← hx] at HRES ⊢
  obtain ⟨i0, hi, hz0, hz1, hz2⟩ := info_parts info28
  have HI := Lib.hid (And.intro hi (And.intro hz0 (And.intro hz1 hz2)))
  have HSS := Lib.hid hS
  clear hC' hA hW hx hi hz0 hz1 hz2 h hl hoff hro h100 hS
  obtain ⟨w0, hw0⟩ : ∃ w0, w0 = (w.alloc (.cells #[.int .i64 A, .int .i64 W, .int .i64 K, .slice p n c] 24)).alloc (.cells #[.int .i64 0, .int .i64 0, .int .i64 0, .slice none 0 0] 24) := ⟨_, rfl⟩
  have HB0 : Hid (Below w.heap.size w w0) := Lib.hid (by rw [hw0]; exact ((Below.refl _ _).alloc (Nat.le_refl _) _).alloc (by simp) _)
  have HA0 : Hid (Blk w0 w.heap.size #[.int .i64 A, .int .i64 W, .int .i64 K, .slice p n c]) := Lib.hid (by rw [hw0]; exact (Blk.new _ _ _).alloc _)
  have HT0 : Hid (Blk w0 (w.heap.size + 1) #[.int .i64 0, .int .i64 0, .int .i64 0, .slice none 0 0]) := Lib.hid (by
    have := Blk.new (w.alloc (.cells #[.int .i64 A, .int .i64 W, .int .i64 K, .slice p n c] 24)) #[.int .i64 0, .int .i64 0, .int .i64 0, .slice none 0 0] 24
    rw [World.size_alloc] at this
    rw [hw0]; exact this)
  have HZ0 : Hid (w0.heap.size = w.heap.size + 2) := Lib.hid (by rw [hw0]; simp)
  have HW0 := Lib.hid hw0
  have hsz := HB0.out.size
  clear hw0
  go_enter Try.func33, Try.ntmps33
  go_upto_region 1 with fail
  rw [← HW0.out]
  clear HW0
  have kA := (HA0.out.alloc (.cells #[] 28)).c
  go_wp2_with (first | (at_builtin; refine wpList_append_sl rfl _ _ 22 rfl w0.heap.size 28 i0 (.slice none 0 0) 1 24 Try.underlying22 HI.out.1 HI.out.2.1 HI.out.2.2.1 HI.out.2.2.2 rfl (by decide) _ 0 [] rfl (fresh_made (Nat.le_refl _)) p n c xs rfl (by rw [HLEN.out, Nat.mul_one]) (HS.out.below (HB0.out.alloc HB0.out.size _)) H1.out (by unfold maxLen; omega) (by omega) (by simp) ?_))
  intro v' w1 g1 g2 g3
  have HG : Hid (w1.ownsRow w0.heap.size 28 1 v' n xs) := Lib.hid (by simpa using g1)
  have HB1 : Hid (Below w0.heap.size w0 w1) := Lib.hid (((Below.refl w0.heap.size w0).alloc (Nat.le_refl _) _).grown g2 (by simp) (fun k hk => by simp [Value.ownBlock] at hk; omega))
  clear g1 g2 g3
  obtain ⟨q1, cap, rfl, hcap⟩ := own_cap HG.out
  obtain ⟨g, rfl, -, -, hg0, hg1⟩ := own_go HG.out (by omega)
  have HA1 := Lib.hid (HA0.out.below HB1.out)
  have HT1 := Lib.hid (HT0.out.below HB1.out)
  have HBW : Hid (Below w.heap.size w w1) := Lib.hid (HB0.out.trans (HB1.out.mono HB0.out.size))
  have hgg : w.heap.size + 2 ≤ g := by rw [← HZ0.out]; exact hg0
  have HGG := Lib.hid hgg
  have HCG : Hid (∃ u, w1.cell? ⟨g, k, none⟩ = some u) := Lib.hid ⟨_, (HG.out.cellAt k (by omega)).trans (List.getElem?_eq_getElem (by rw [HLEN.out]; exact hk))⟩
  obtain ⟨u, hu⟩ := HCG.out
  have hf := HG.out.frozenAt k
  have HST := Lib.hid (HG.out.stored k (.slice q x cq)).1
  obtain ⟨w2, hw2⟩ : ∃ z, z = w1.setCell ⟨g, k, none⟩ (.slice q x cq) := ⟨_, rfl⟩
  have HA2 : Hid (Blk w2 w.heap.size #[.int .i64 A, .int .i64 W, .int .i64 K, .slice p n c]) := Lib.hid (by rw [hw2]; exact HA1.out.other _ (by omega))
  have HT2 : Hid (Blk w2 (w.heap.size + 1) #[.int .i64 0, .int .i64 0, .int .i64 0, .slice none 0 0]) := Lib.hid (by rw [hw2]; exact HT1.out.other _ (by omega))
  have HB2 : Hid (Below w.heap.size w w2) := Lib.hid (by rw [hw2]; exact HBW.out.setCell (p := ⟨g, k, none⟩) (by show w.heap.size ≤ g; omega) _)
  rw [← hw2] at HST
  have HW2 := Lib.hid hw2
  have hkI : (k : Int) < (n : Int) := by omega
  clear hw2 HCG HS HG HB1 HA0 HT0 HB0 kA hg0 hcap hgg
  go_upto_region 3 with fail
  rw [← HW2.out]
  clear HW2 hu hf hkI HA1 HT1 HBW hg1
  have kA := HA2.out.c
  have fA := HA2.out.f
  have lA := HA2.out.lt
  go_upto_region 4 with fail
  obtain ⟨w3, hw3⟩ : ∃ z, z = w2.setCell ⟨w.heap.size, 3, none⟩ (.slice (some ⟨g, 0, none⟩) n cap) := ⟨_, rfl⟩
  have HA3 : Hid (Blk w3 w.heap.size #[.int .i64 A, .int .i64 W, .int .i64 K, .slice (some ⟨g, 0, none⟩) n cap]) := Lib.hid (by rw [hw3]; exact HA2.out.set (n := 3) _ (by simp))
  have HT3 : Hid (Blk w3 (w.heap.size + 1) #[.int .i64 0, .int .i64 0, .int .i64 0, .slice none 0 0]) := Lib.hid (by rw [hw3]; exact HT2.out.other _ (by omega))
  have HB3 : Hid (Below w.heap.size w w3) := Lib.hid (by rw [hw3]; exact HB2.out.setCell (p := ⟨w.heap.size, 3, none⟩) (Nat.le_refl _) _)
  have HO3 : Hid (w3.ownsRow w0.heap.size 28 1 (.slice (some ⟨g, 0, none⟩) n cap) n (xs.set k (.slice q x cq))) := Lib.hid (by rw [hw3]; exact own_off HST.out (fun b e => by injection e with e; have e2 : g = b := e; have := HGG.out; omega) _ _)
  rw [← hw3]
  clear hw3 kA fA lA HA2 HT2 HB2 HST
  have kA := HA3.out.c
  have cT := HT3.out.c
  have fT := HT3.out.f
  have lT := HT3.out.lt
  go_wp2_with fail
  refine bodyPost_ret (v := .agg #[.int .i64 A, .int .i64 W, .int .i64 K, .slice (some ⟨g, 0, none⟩) n cap]) (by simp [results, Try.results33, go_sem, *]) rfl ⟨_, rfl, HRES.out _ g cap (fun R hR => by have := HSS.out R hR; have := HGG.out; omega) ?_ ?_, ?_⟩
  · have hne : ∀ b, (Value.slice (some ⟨g, 0, none⟩) n cap).ownBlock = some b → b ≠ w.heap.size + 1 := fun b e => by injection e with e; have e2 : g = b := e; have := HGG.out; omega
    exact own_base (own_off (own_off (own_off (own_off HO3.out hne _ _) hne _ _) hne _ _) hne _ _) hsz
  · exact set4_below HB3.out (by omega) _ _ _ _
  · exact set4_below HB3.out (by omega) _ _ _ _
end Go.Proofs.Ytoddmgaihggkjaa
