/- What pool.Drop and pool.Take answer: no condition but that the pool reads. -/
import Derived.Test.YtpmheaeiemnjeaaPoolC
namespace Go.Proofs.Ytpmheaeiemnjeaa
set_option linter.unusedVariables false
open Go.ChangeShapes Go.WideShapes Go.ChangeAt Go.RowKit

/-- What is answered reads as this pool, and lies in memory of its own. -/
structure Out (w w' : World) (p : Option Addr) (xs : List Value) (L : List (List Nat)) : Prop where
  pl : Pl w' p xs L
  off : Off (fun b => b < w.heap.size) p xs L
  below : Below w.heap.size w w'

set_option maxHeartbeats 4000000 in
theorem drop_any (p : Option Addr) (n c : Nat) (xs : List Value) (L : List (List Nat)) (k : Int) (w : World) (hz : L.length = n) (h : Pl w p xs L) :
    Calls Try.prog 13 #[.agg #[.slice p n c], .int .i64 k] w fun e w' => ∃ p' c' xs', e = .returned (.tuple #[.agg #[.slice p' (dropP L k).length c'], .int .i64 (checkP L k)]) ∧ Out w w' p' xs' (dropP L k) := by
  have HC := Lib.hid (fun w' hb => copied_any p n c xs L w' hz (h.below hb))
  have hn := h.n100
  have HL := Lib.hid h.l100
  have HB := Lib.hid h.lt
  have HN := Lib.hid hn
  obtain ⟨D, hD⟩ : ∃ D, D = dropP L k := ⟨_, rfl⟩
  obtain ⟨er, her⟩ : ∃ er, er = checkP L k := ⟨_, rfl⟩
  rw [← hD, ← her]
  have HD := Lib.hid hD
  have HER := Lib.hid her
  clear h hz hn hD her
  go_enter Try.func13, Try.ntmps13
  go_wp2_with fail
  refine (HC.out _ (((Below.refl _ _).alloc (Nat.le_refl _) _).alloc (by simp) _)).mono ?_
  rintro e w1 ⟨v, ys, rfl, ho, hb1⟩
  have HBX : Hid (Below w.heap.size w w1) := Lib.hid ((((Below.refl _ _).alloc (Nat.le_refl _) _).alloc (by simp) _).trans (hb1.mono (by simp; omega)))
  have HKR := Lib.hid (Blk.track1 hb1)
  have HO := Lib.hid ho
  obtain ⟨p1, c1, rfl, hpl⟩ := ho.pl HN.out HL.out HB.out
  rw [World.size_alloc] at HKR
  have HOO : Hid (Own (w.heap.size + 2) w1 (.slice p1 L.length c1) ys L) := Lib.hid (by simpa using HO.out)
  have HP1 := Lib.hid hpl
  obtain ⟨n1, hn1⟩ : ∃ n1, n1 = L.length := ⟨_, rfl⟩
  rw [← hn1] at HOO ⊢
  have HN1 := Lib.hid hn1
  clear HO ho hpl hb1 hn1 HC
  have hl1 := HKR.out.lt
  have kR := HKR.out.c
  have fR := HKR.out.f
  go_wp2_with fail
  have hfind := find_any p1 n1 c1 ys L k (w1.alloc (.cells #[.slice p1 n1 c1] 24)) HN1.out.symm (HP1.out.below ((Below.refl _ _).alloc (Nat.le_refl _) _))
  rw [← HER.out] at hfind
  refine hfind.mono ?_
  clear hfind
  rintro e w2 ⟨rfl, hb2⟩
  have HKS := Lib.hid (Blk.track1 hb2)
  have HB12 : Hid (Below w1.heap.size w1 w2) := Lib.hid (((Below.refl _ _).alloc (Nat.le_refl _) _).trans (hb2.mono (by simp)))
  have HKR2 := Lib.hid (HKR.out.below HB12.out)
  have HB2 : Hid (Below w.heap.size w w2) := Lib.hid (HBX.out.trans (HB12.out.mono HBX.out.size))
  have HO2 := Lib.hid (HOO.out.below HB12.out)
  have HP2 := Lib.hid (HP1.out.below HB12.out)
  have HOFF : Hid (Off (fun b => b < w.heap.size + 2 ∨ w1.heap.size ≤ b) p1 ys L) := Lib.hid (Own.off (c := c1) (by rw [HN1.out] at HOO; exact HOO.out))
  have kS := HKS.out.c
  have fS := HKS.out.f
  have lS := HKS.out.lt
  have HSZ : Hid (w.heap.size + 1 < w1.heap.size) := Lib.hid hl1
  clear hb2 kR fR hl1 HP1 HOO HKR HBX
  by_cases hk : er = 0
  · subst hk
    have hk : checkP L k = 0 := HER.out.symm
    obtain ⟨hr, h0, h1⟩ := check_inv hk
    obtain ⟨i, rfl⟩ := Int.eq_ofNat_of_zero_le h0
    have hi : i < L.length := by omega
    have hdp : D = L.eraseIdx i := by rw [HD.out]; unfold dropP; rw [if_pos hk, Int.toNat_natCast]
    subst hdp
    have HI := Lib.hid hi
    have hwr : wrap64 ((i : Int) + 1) = (i : Int) + 1 := by have := HN.out; unfold wrap64; omega
    clear hr h0 h1 hk hi
    go_wp2_with fail
    have hdel := delete_any (w.heap.size + 2) i p1 c1 ys L w2 (HN1.out ▸ HO2.out) HN.out HL.out HB.out HI.out (Nat.le_trans HSZ.out HB12.out.size)
    rw [← HN1.out] at hdel
    refine hdel.mono ?_
    clear hdel
    rintro e w3 ⟨p3, c3, rfl, hp3, hoff3, hg3⟩
    have hlt : ∀ g, (Value.slice p1 n1 c1).ownBlock = some g → w.heap.size + 2 ≤ g ∧ g < w1.heap.size := fun g e => by
      rw [HN1.out] at e
      have h1 := HOFF.out.1 (by have := HI.out; omega)
      cases p1 with
      | none => cases e
      | some a => injection e with e; subst e; have := h1 a rfl; omega
    have HP3 := Lib.hid hp3
    have HS3 : Hid (Blk w3 w1.heap.size #[.slice p1 n1 c1]) := Lib.hid (HKS.out.grown hg3 (fun e => by have := (hlt _ e).2; omega))
    have HR3 : Hid (Blk w3 (w.heap.size + 1) #[.slice none 0 0]) := Lib.hid (HKR2.out.grown hg3 (fun e => by have := (hlt _ e).1; omega))
    have HB3 : Hid (Below w.heap.size w w3) := Lib.hid (HB2.out.grown hg3 HB2.out.size (fun g e => by have := (hlt _ e).1; omega))
    have HO3 : Hid (Off (fun b => b < w.heap.size + 2 ∨ w1.heap.size ≤ b) p3 (ys.eraseIdx i) (L.eraseIdx i)) := Lib.hid (hoff3 _ HOFF.out)
    clear hp3 hoff3 hg3 hlt kS fS lS
    have kS := HS3.out.c
    have fS := HS3.out.f
    have lS := HS3.out.lt
    have kR := HR3.out.c
    have fR := HR3.out.f
    have lR := HR3.out.lt
    have HSZ2 := HSZ.out
    go_wp2_with fail
    exact bodyPost_ret (v := .tuple #[.agg #[.slice p3 (L.eraseIdx i).length c3], .int .i64 0]) (by simp [results, Try.results13, go_sem, *]) rfl ⟨p3, c3, ys.eraseIdx i, rfl, (HP3.out.set (HO3.out.sub (fun b e => .inr (by omega))) 0 _).set (HO3.out.sub (fun b e => .inl (by omega))) 0 _, HO3.out.sub (fun b e => .inl (by omega)), (HB3.out.setCell (p := ⟨w1.heap.size, 0, none⟩) (by show w.heap.size ≤ w1.heap.size; omega) _).setCell (p := ⟨w.heap.size + 1, 0, none⟩) (by show w.heap.size ≤ w.heap.size + 1; omega) _⟩
  · have hdp : D = L := by rw [HD.out]; unfold dropP; rw [if_neg (by rw [← HER.out]; exact hk)]
    subst hdp
    have e0 : (er == 0) = false := by rw [beq_eq_false_iff_ne]; exact hk
    clear hk
    have kR := HKR2.out.c
    have fR := HKR2.out.f
    have lR := HKR2.out.lt
    go_wp2_with fail
    exact bodyPost_ret (v := .tuple #[.agg #[.slice p1 n1 c1], .int .i64 er]) (by simp [results, Try.results13, go_sem, *]) rfl ⟨p1, c1, ys, by rw [HN1.out], HP2.out.set (HOFF.out.sub (fun b e => .inl (by omega))) 0 _, HOFF.out.sub (fun b e => .inl (by omega)), HB2.out.setCell (p := ⟨w.heap.size + 1, 0, none⟩) (by show w.heap.size ≤ w.heap.size + 1; omega) _⟩
end Go.Proofs.Ytpmheaeiemnjeaa
