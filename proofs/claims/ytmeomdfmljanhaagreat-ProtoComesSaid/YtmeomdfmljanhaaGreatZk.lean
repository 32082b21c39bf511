/- Laid together, in this order: PgDi, PgDj, PgDk, PgDl, PgEa, PlanI, PgEb, PgEc, PgEd, PgEe, PgEf. -/
import Derived.Test.YtmeomdfmljanhaaGreatZj
import Derived.OneCell
set_option linter.unusedSimpArgs false
set_option linter.unusedVariables false
/- An act on a system; no condition but that the system is as its lines say. -/
namespace Go.Proofs.YtmeomdfmljanhaaGreat.Pg
set_option linter.unusedVariables false
open Go.ChangeShapes Go.WideShapes Go.ChangeAt Go.RowKit

theorem deliv_none (v : Value) (c l : Nat) (Z : Pr.Zz) (w : World) (h : Sys w v c l Z) (h0 : Z.ms = []) : Calls Tryz.prog 9 #[v, .int .i64 0] w fun e w' => OutZ w w' e c l Z 7 := by
  have h1 := h.sv
  rw [h0] at h1
  exact (deliver_none v c l Z.F [] 0 Pr.zF w h1 (ok_rg h.ok) rfl rfl rfl).mono fun e w' h' => OutZ.of h' rfl (by rw [h0]; rfl) h.ok
theorem wrapA {a b : Int} (e : a = b) (h : -1000000000000000 ≤ b ∧ b ≤ 1000000000000000) : IntKind.i64.wrap a = b := by subst e; rw [IntKind.wrap_i64]; omega
structure Ac where
  kind : Nat
  n : Nat
  line : Nat
  at_ : Nat
  write : Bool
  val : Nat
def Ac.row (a : Ac) : Array Value := #[.int .u8 (a.kind : Nat), .int .u8 (a.n : Nat), .int .u8 (a.line : Nat), .int .u8 (a.at_ : Nat), .bool a.write, .int .u32 (a.val : Nat)]
structure Ac.ok (a : Ac) : Prop where
  kind : a.kind < 256
  n : a.n < 256
  line : a.line < 256
  at_ : a.at_ < 256
  val : a.val < 4294967296
def doZ (c l : Nat) (Z : Pr.Zz) (a : Ac) : Pr.Zz :=
  if a.kind % 8 ≤ 1 then Pr.wantZ Z (a.n % c) (a.line % l) a.write
  else if a.kind % 8 = 2 then Pr.evictZ Z (a.n % c) (a.line % l)
  else if a.kind % 8 = 3 then Pr.setZ Z (a.n % c) (a.line % l) a.val
  else if Z.ms.length = 0 then Z else Pr.delivZ c Z (a.at_ % Z.ms.length)
def doX (c l : Nat) (Z : Pr.Zz) (a : Ac) : Int :=
  if a.kind % 8 ≤ 1 then Pr.wantX Z (a.n % c) (a.line % l) a.write
  else if a.kind % 8 = 2 then Pr.evictX Z (a.n % c) (a.line % l)
  else if a.kind % 8 = 3 then Pr.setX Z (a.n % c) (a.line % l)
  else if Z.ms.length = 0 then 7 else 0
set_option maxHeartbeats 4000000 in
set_option maxRecDepth 100000 in
theorem do_ok (v : Value) (c l : Nat) (Z : Pr.Zz) (a : Ac) (w : World) (h : Sys w v c l Z) (ha : a.ok) :
    Calls Tryz.prog 25 #[v, .agg a.row] w fun e w' => OutZ w w' e c l (doZ c l Z a) (doX c l Z a) := by
  obtain ⟨kd, an, al, aa, wr, vl⟩ := a
  obtain ⟨hk8, hn8, hl8, ha8, hv8⟩ := ha
  dsimp only at hk8 hn8 hl8 ha8 hv8
  have hc1 := h.ok.c1
  have hc4 := h.ok.c4
  have hl1 := h.ok.l1
  have hl4 := h.ok.l4
  have hfew := ok_few h.ok
  have hmm := h.sv
  obtain ⟨A, p, cp, xs, e, hm, hp⟩ := hmm
  rw [List.length_map] at e
  subst e
  have HS := Lib.hid (fun W hW => h.below (w' := W) hW)
  obtain ⟨NN, hNN⟩ : ∃ x, x = Z.ms.length := ⟨_, rfl⟩
  rw [← hNN] at HS hfew ⊢
  have HN := Lib.hid hNN
  have HRES : Hid (∀ r n k : Nat, kd % 8 = r → an % c = n → al % l = k → doZ c l Z ⟨kd, an, al, aa, wr, vl⟩ = (if r ≤ 1 then Pr.wantZ Z n k wr else if r = 2 then Pr.evictZ Z n k else if r = 3 then Pr.setZ Z n k vl else if NN = 0 then Z else Pr.delivZ c Z (aa % NN)) ∧ doX c l Z ⟨kd, an, al, aa, wr, vl⟩ = (if r ≤ 1 then Pr.wantX Z n k wr else if r = 2 then Pr.evictX Z n k else if r = 3 then Pr.setX Z n k else if NN = 0 then 7 else 0)) := Lib.hid (fun r n k e1 e2 e3 => by subst e1 e2 e3; rw [HN.out]; exact ⟨rfl, rfl⟩)
  clear hm hp h hNN
  obtain ⟨E, hE⟩ : ∃ E, E = w.heap.size := ⟨_, rfl⟩
  obtain ⟨E2, hE2⟩ : ∃ E2, E2 = w.heap.size + 1 := ⟨_, rfl⟩
  obtain ⟨R, hR⟩ : ∃ R, R = w.heap.size + 2 := ⟨_, rfl⟩
  obtain ⟨w1, hw1⟩ : ∃ w1, w1 = ((w.alloc (.cells #[.slice (some ⟨(A .st).b, (A .st).o, none⟩) c (A .st).c, .slice (some ⟨(A .va).b, (A .va).o, none⟩) c (A .va).c, .slice (some ⟨(A .wt).b, (A .wt).o, none⟩) c (A .wt).c, .slice (some ⟨(A .ho).b, (A .ho).o, none⟩) l (A .ho).c, .slice (some ⟨(A .di).b, (A .di).o, none⟩) l (A .di).c, .slice (some ⟨(A .bu).b, (A .bu).o, none⟩) l (A .bu).c, .slice p NN cp] 32)).alloc (.cells #[.int .u8 kd, .int .u8 an, .int .u8 al, .int .u8 aa, .bool wr, .int .u32 vl] 57)).alloc (.cells #[.slice none 0 0, .slice none 0 0, .slice none 0 0, .slice none 0 0, .slice none 0 0, .slice none 0 0, .slice none 0 0] 32) := ⟨_, rfl⟩
  have hb1 : Below w.heap.size w w1 := by rw [hw1]; exact (((Below.refl _ _).alloc (Nat.le_refl _) _).alloc (by simp) _).alloc (by simp; omega) _
  have HKE : Hid (Blk w1 E #[.slice (some ⟨(A .st).b, (A .st).o, none⟩) c (A .st).c, .slice (some ⟨(A .va).b, (A .va).o, none⟩) c (A .va).c, .slice (some ⟨(A .wt).b, (A .wt).o, none⟩) c (A .wt).c, .slice (some ⟨(A .ho).b, (A .ho).o, none⟩) l (A .ho).c, .slice (some ⟨(A .di).b, (A .di).o, none⟩) l (A .di).c, .slice (some ⟨(A .bu).b, (A .bu).o, none⟩) l (A .bu).c, .slice p NN cp]) := Lib.hid (by rw [hw1, hE]; exact ((Blk.new _ _ _).alloc _).alloc _)
  have HKA : Hid (Blk w1 E2 #[.int .u8 kd, .int .u8 an, .int .u8 al, .int .u8 aa, .bool wr, .int .u32 vl]) := Lib.hid (by rw [hw1, hE2]; have := Blk.new (w.alloc (.cells #[.slice (some ⟨(A .st).b, (A .st).o, none⟩) c (A .st).c, .slice (some ⟨(A .va).b, (A .va).o, none⟩) c (A .va).c, .slice (some ⟨(A .wt).b, (A .wt).o, none⟩) c (A .wt).c, .slice (some ⟨(A .ho).b, (A .ho).o, none⟩) l (A .ho).c, .slice (some ⟨(A .di).b, (A .di).o, none⟩) l (A .di).c, .slice (some ⟨(A .bu).b, (A .bu).o, none⟩) l (A .bu).c, .slice p NN cp] 32)) #[.int .u8 kd, .int .u8 an, .int .u8 al, .int .u8 aa, .bool wr, .int .u32 vl] 57; rw [World.size_alloc] at this; exact this.alloc _)
  have HKR : Hid (Blk w1 R #[.slice none 0 0, .slice none 0 0, .slice none 0 0, .slice none 0 0, .slice none 0 0, .slice none 0 0, .slice none 0 0]) := Lib.hid (by rw [hw1, hR]; have := Blk.new ((w.alloc (.cells #[.slice (some ⟨(A .st).b, (A .st).o, none⟩) c (A .st).c, .slice (some ⟨(A .va).b, (A .va).o, none⟩) c (A .va).c, .slice (some ⟨(A .wt).b, (A .wt).o, none⟩) c (A .wt).c, .slice (some ⟨(A .ho).b, (A .ho).o, none⟩) l (A .ho).c, .slice (some ⟨(A .di).b, (A .di).o, none⟩) l (A .di).c, .slice (some ⟨(A .bu).b, (A .bu).o, none⟩) l (A .bu).c, .slice p NN cp] 32)).alloc (.cells #[.int .u8 kd, .int .u8 an, .int .u8 al, .int .u8 aa, .bool wr, .int .u32 vl] 57)) #[.slice none 0 0, .slice none 0 0, .slice none 0 0, .slice none 0 0, .slice none 0 0, .slice none 0 0, .slice none 0 0] 32; rw [World.size_alloc, World.size_alloc] at this; exact this)
  have HB1 := Lib.hid hb1
  have HW1 := Lib.hid hw1
  have HEE := Lib.hid hE
  have HEA := Lib.hid hE2
  have HRR := Lib.hid hR
  clear hw1 hb1 hE hE2 hR
  obtain ⟨n, hn⟩ : ∃ n, n = an % c := ⟨_, rfl⟩
  obtain ⟨k, hk⟩ : ∃ k, k = al % l := ⟨_, rfl⟩
  obtain ⟨r, hr⟩ : ∃ r, r = kd % 8 := ⟨_, rfl⟩
  obtain ⟨QZ, hQZ⟩ : ∃ x, x = doZ c l Z ⟨kd, an, al, aa, wr, vl⟩ := ⟨_, rfl⟩
  obtain ⟨QX, hQX⟩ : ∃ x, x = doX c l Z ⟨kd, an, al, aa, wr, vl⟩ := ⟨_, rfl⟩
  have HQ := Lib.hid (HRES.out r n k hr.symm hn.symm hk.symm)
  rw [← hQZ, ← hQX] at HQ ⊢
  have hta : ((an : Int)).tmod (c : Int) = (n : Int) := by rw [Int.tmod_eq_emod_of_nonneg (by omega), hn]; exact (Int.natCast_emod an c).symm
  have htl : ((al : Int)).tmod (l : Int) = (k : Int) := by rw [Int.tmod_eq_emod_of_nonneg (by omega), hk]; exact (Int.natCast_emod al l).symm
  have htk : ((kd : Int)).tmod 8 = (r : Int) := by rw [Int.tmod_eq_emod_of_nonneg (by omega), hr]; exact (Int.natCast_emod kd 8).symm
  have hek : (kd : Int) % 8 = (r : Int) := by rw [hr]; exact (Int.natCast_emod kd 8).symm
  have hnc : n < c := by rw [hn]; exact Nat.mod_lt _ (by omega)
  have hkl : k < l := by rw [hk]; exact Nat.mod_lt _ (by omega)
  have hr8 : r < 8 := by rw [hr]; exact Nat.mod_lt _ (by omega)
  have hc0 : ¬ (c : Int) = 0 := by omega
  have hl0 : ¬ (l : Int) = 0 := by omega
  have hc0n : ¬ c = 0 := by omega
  have hl0n : ¬ l = 0 := by omega
  clear hn hk hr HRES hQZ hQX
  go_enter Tryz.func25, Tryz.ntmps25
  unfold Ac.row
  go_upto_region 1 with fail
  simp only [Pa.sl]
  rw [← HRR.out, ← HEA.out, ← HEE.out, ← HW1.out]
  clear HW1
  have kB := HKE.out.c
  have kA := HKA.out.c
  have f1 : IntKind.i64.wrap (an : Int) = (an : Int) := wrapA rfl (by omega)
  have f2 : IntKind.i64.wrap (al : Int) = (al : Int) := wrapA rfl (by omega)
  refine region_planF (fun V : World => V = w1.drew) (.read 0 (.read 1 (.read 2 (.read 3 (.read 4 (.read 5 (.read 6 (.read 7 (.read 8 (.read 9 (.read 10 (.read 11 (.read 12 (.read 13 (.one 14 (.one 15 .stop)))))))))))))))) (by kernel_rfl) (by kernel_rfl) rfl ?_
  iterate 14
    refine planT_read (v := ?_) rfl (by rfl) ?_ ?_
    rotate_left
    · intro w' hS
      try dsimp only at hS
      go_simp
      try with_reducible rfl
    try simp only [Act.put, List.setIfInBounds_toArray, List.set_cons_zero, List.set_cons_succ, List.getElem_toArray, List.getElem_cons_zero, List.getElem_cons_succ]
  refine planT_one ?_
  refine op_keep (v := .int .i64 (n : Int)) rfl (by rfl) ?_ ?_
  · go_simp
  refine ⟨rfl, ?_⟩
  try simp only [Act.put, List.setIfInBounds_toArray, List.set_cons_zero, List.set_cons_succ, List.getElem_toArray, List.getElem_cons_zero, List.getElem_cons_succ]
  refine planT_one ?_
  refine op_keep (v := .int .i64 (k : Int)) rfl (by rfl) ?_ ?_
  · go_simp
  refine ⟨rfl, ?_⟩
  refine planT_stop ?_
  refine NoPanic.normal ?_
  have HBX : Hid (Below w1.heap.size w1 w1.drew) := Lib.hid (Below.refl _ _).drew
  clear hta htl f1 f2
  obtain ⟨hQ, hX⟩ := HQ.out
  clear HQ
  by_cases h1 : r ≤ 1
  · rw [if_pos h1] at hQ hX
    by_cases h0 : r = 0
    · clear htk
      have d0 : ((r : Int) == 0) = true := by simp; omega
      clear h0 h1
      subst hQ hX
      go_wp2_with fail
      refine (want_ok _ c l Z n k wr w1.drew (HS.out w1.drew (HB1.out.trans (HBX.out.mono HB1.out.size))) hnc hkl).mono ?_
      rintro e w3 ⟨v3, rfl, hs3, hnw3, hb3⟩
      obtain ⟨A3, p3, cp3, rfl, HOUT⟩ := sys_out hs3 (HKR.out.below (HBX.out.trans hb3))
      have hkr := HKR.out.below (HBX.out.trans hb3)
      have kR := hkr.c
      have fR := hkr.f
      have lR := hkr.lt
      have HB3 : Hid (Below w.heap.size w w3) := Lib.hid ((HB1.out.trans (HBX.out.mono HB1.out.size)).trans (hb3.mono (Nat.le_trans HB1.out.size HBX.out.size)))
      obtain ⟨N3, hN3⟩ : ∃ x, x = (Pr.wantZ Z n k wr).ms.length := ⟨_, rfl⟩
      rw [← hN3] at HOUT hnw3 ⊢
      have HO3 := Lib.hid HOUT
      have HNW := Lib.hid (hnw3.mono (Nat.le_trans HB1.out.size HBX.out.size))
      clear hs3 hb3 hnw3 HOUT hkr hN3 kB kA
      go_wp2_with fail
      have hle : ∀ j, w.heap.size ≤ (⟨R, j, none⟩ : Addr).block := fun j => by show w.heap.size ≤ R; rw [HRR.out]; omega
      exact bodyPost_ret (v := .tuple #[.agg #[.slice (some ⟨(A3 .st).b, (A3 .st).o, none⟩) c (A3 .st).c, .slice (some ⟨(A3 .va).b, (A3 .va).o, none⟩) c (A3 .va).c, .slice (some ⟨(A3 .wt).b, (A3 .wt).o, none⟩) c (A3 .wt).c, .slice (some ⟨(A3 .ho).b, (A3 .ho).o, none⟩) l (A3 .ho).c, .slice (some ⟨(A3 .di).b, (A3 .di).o, none⟩) l (A3 .di).c, .slice (some ⟨(A3 .bu).b, (A3 .bu).o, none⟩) l (A3 .bu).c, .slice p3 N3 cp3], .int .i64 (Pr.wantX Z n k wr)]) (by simp [results, Tryz.results25, go_sem, *]) rfl ⟨_, rfl, HO3.out _ rfl, HNW.out, ((((((HB3.out.setCell (hle 0) _).setCell (hle 1) _).setCell (hle 2) _).setCell (hle 3) _).setCell (hle 4) _).setCell (hle 5) _).setCell (hle 6) _⟩
    · clear htk
      have d0 : ((r : Int) == 0) = false := by simp; omega
      have d1 : ((r : Int) == 1) = true := by simp; omega
      clear h0 h1
      subst hQ hX
      go_wp2_with fail
      refine (want_ok _ c l Z n k wr w1.drew (HS.out w1.drew (HB1.out.trans (HBX.out.mono HB1.out.size))) hnc hkl).mono ?_
      rintro e w3 ⟨v3, rfl, hs3, hnw3, hb3⟩
      obtain ⟨A3, p3, cp3, rfl, HOUT⟩ := sys_out hs3 (HKR.out.below (HBX.out.trans hb3))
      have hkr := HKR.out.below (HBX.out.trans hb3)
      have kR := hkr.c
      have fR := hkr.f
      have lR := hkr.lt
      have HB3 : Hid (Below w.heap.size w w3) := Lib.hid ((HB1.out.trans (HBX.out.mono HB1.out.size)).trans (hb3.mono (Nat.le_trans HB1.out.size HBX.out.size)))
      obtain ⟨N3, hN3⟩ : ∃ x, x = (Pr.wantZ Z n k wr).ms.length := ⟨_, rfl⟩
      rw [← hN3] at HOUT hnw3 ⊢
      have HO3 := Lib.hid HOUT
      have HNW := Lib.hid (hnw3.mono (Nat.le_trans HB1.out.size HBX.out.size))
      clear hs3 hb3 hnw3 HOUT hkr hN3 kB kA
      go_wp2_with fail
      have hle : ∀ j, w.heap.size ≤ (⟨R, j, none⟩ : Addr).block := fun j => by show w.heap.size ≤ R; rw [HRR.out]; omega
      exact bodyPost_ret (v := .tuple #[.agg #[.slice (some ⟨(A3 .st).b, (A3 .st).o, none⟩) c (A3 .st).c, .slice (some ⟨(A3 .va).b, (A3 .va).o, none⟩) c (A3 .va).c, .slice (some ⟨(A3 .wt).b, (A3 .wt).o, none⟩) c (A3 .wt).c, .slice (some ⟨(A3 .ho).b, (A3 .ho).o, none⟩) l (A3 .ho).c, .slice (some ⟨(A3 .di).b, (A3 .di).o, none⟩) l (A3 .di).c, .slice (some ⟨(A3 .bu).b, (A3 .bu).o, none⟩) l (A3 .bu).c, .slice p3 N3 cp3], .int .i64 (Pr.wantX Z n k wr)]) (by simp [results, Tryz.results25, go_sem, *]) rfl ⟨_, rfl, HO3.out _ rfl, HNW.out, ((((((HB3.out.setCell (hle 0) _).setCell (hle 1) _).setCell (hle 2) _).setCell (hle 3) _).setCell (hle 4) _).setCell (hle 5) _).setCell (hle 6) _⟩
  · rw [if_neg h1] at hQ hX
    by_cases h2 : r = 2
    · rw [if_pos h2] at hQ hX
      have d0 : ((r : Int) == 0) = false := by simp; omega
      have d1 : ((r : Int) == 1) = false := by simp; omega
      have d2 : ((r : Int) == 2) = true := by simp; omega
      clear h1 h2
      subst hQ hX
      go_wp2_with fail
      refine (evict_ok _ c l Z n k w1.drew (HS.out w1.drew (HB1.out.trans (HBX.out.mono HB1.out.size))) hnc hkl).mono ?_
      rintro e w3 ⟨v3, rfl, hs3, hnw3, hb3⟩
      obtain ⟨A3, p3, cp3, rfl, HOUT⟩ := sys_out hs3 (HKR.out.below (HBX.out.trans hb3))
      have hkr := HKR.out.below (HBX.out.trans hb3)
      have kR := hkr.c
      have fR := hkr.f
      have lR := hkr.lt
      have HB3 : Hid (Below w.heap.size w w3) := Lib.hid ((HB1.out.trans (HBX.out.mono HB1.out.size)).trans (hb3.mono (Nat.le_trans HB1.out.size HBX.out.size)))
      obtain ⟨N3, hN3⟩ : ∃ x, x = (Pr.evictZ Z n k).ms.length := ⟨_, rfl⟩
      rw [← hN3] at HOUT hnw3 ⊢
      have HO3 := Lib.hid HOUT
      have HNW := Lib.hid (hnw3.mono (Nat.le_trans HB1.out.size HBX.out.size))
      clear hs3 hb3 hnw3 HOUT hkr hN3 kB kA
      go_wp2_with fail
      have hle : ∀ j, w.heap.size ≤ (⟨R, j, none⟩ : Addr).block := fun j => by show w.heap.size ≤ R; rw [HRR.out]; omega
      exact bodyPost_ret (v := .tuple #[.agg #[.slice (some ⟨(A3 .st).b, (A3 .st).o, none⟩) c (A3 .st).c, .slice (some ⟨(A3 .va).b, (A3 .va).o, none⟩) c (A3 .va).c, .slice (some ⟨(A3 .wt).b, (A3 .wt).o, none⟩) c (A3 .wt).c, .slice (some ⟨(A3 .ho).b, (A3 .ho).o, none⟩) l (A3 .ho).c, .slice (some ⟨(A3 .di).b, (A3 .di).o, none⟩) l (A3 .di).c, .slice (some ⟨(A3 .bu).b, (A3 .bu).o, none⟩) l (A3 .bu).c, .slice p3 N3 cp3], .int .i64 (Pr.evictX Z n k)]) (by simp [results, Tryz.results25, go_sem, *]) rfl ⟨_, rfl, HO3.out _ rfl, HNW.out, ((((((HB3.out.setCell (hle 0) _).setCell (hle 1) _).setCell (hle 2) _).setCell (hle 3) _).setCell (hle 4) _).setCell (hle 5) _).setCell (hle 6) _⟩
    · rw [if_neg h2] at hQ hX
      by_cases h3 : r = 3
      · rw [if_pos h3] at hQ hX
        have d0 : ((r : Int) == 0) = false := by simp; omega
        have d1 : ((r : Int) == 1) = false := by simp; omega
        have d2 : ((r : Int) == 2) = false := by simp; omega
        have d3 : ((r : Int) == 3) = true := by simp; omega
        clear h1 h2 h3
        subst hQ hX
        go_wp2_with fail
        refine (set_ok _ c l Z n k vl w1.drew (HS.out w1.drew (HB1.out.trans (HBX.out.mono HB1.out.size))) hnc hkl hv8).mono ?_
        rintro e w3 ⟨v3, rfl, hs3, hnw3, hb3⟩
        obtain ⟨A3, p3, cp3, rfl, HOUT⟩ := sys_out hs3 (HKR.out.below (HBX.out.trans hb3))
        have hkr := HKR.out.below (HBX.out.trans hb3)
        have kR := hkr.c
        have fR := hkr.f
        have lR := hkr.lt
        have HB3 : Hid (Below w.heap.size w w3) := Lib.hid ((HB1.out.trans (HBX.out.mono HB1.out.size)).trans (hb3.mono (Nat.le_trans HB1.out.size HBX.out.size)))
        obtain ⟨N3, hN3⟩ : ∃ x, x = (Pr.setZ Z n k vl).ms.length := ⟨_, rfl⟩
        rw [← hN3] at HOUT hnw3 ⊢
        have HO3 := Lib.hid HOUT
        have HNW := Lib.hid (hnw3.mono (Nat.le_trans HB1.out.size HBX.out.size))
        clear hs3 hb3 hnw3 HOUT hkr hN3 kB kA
        go_wp2_with fail
        have hle : ∀ j, w.heap.size ≤ (⟨R, j, none⟩ : Addr).block := fun j => by show w.heap.size ≤ R; rw [HRR.out]; omega
        exact bodyPost_ret (v := .tuple #[.agg #[.slice (some ⟨(A3 .st).b, (A3 .st).o, none⟩) c (A3 .st).c, .slice (some ⟨(A3 .va).b, (A3 .va).o, none⟩) c (A3 .va).c, .slice (some ⟨(A3 .wt).b, (A3 .wt).o, none⟩) c (A3 .wt).c, .slice (some ⟨(A3 .ho).b, (A3 .ho).o, none⟩) l (A3 .ho).c, .slice (some ⟨(A3 .di).b, (A3 .di).o, none⟩) l (A3 .di).c, .slice (some ⟨(A3 .bu).b, (A3 .bu).o, none⟩) l (A3 .bu).c, .slice p3 N3 cp3], .int .i64 (Pr.setX Z n k)]) (by simp [results, Tryz.results25, go_sem, *]) rfl ⟨_, rfl, HO3.out _ rfl, HNW.out, ((((((HB3.out.setCell (hle 0) _).setCell (hle 1) _).setCell (hle 2) _).setCell (hle 3) _).setCell (hle 4) _).setCell (hle 5) _).setCell (hle 6) _⟩
      · rw [if_neg h3] at hQ hX
        have d0 : ((r : Int) == 0) = false := by simp; omega
        have d1 : ((r : Int) == 1) = false := by simp; omega
        have d2 : ((r : Int) == 2) = false := by simp; omega
        have d3 : ((r : Int) == 3) = false := by simp; omega
        clear h1 h2 h3
        by_cases h4 : NN = 0
        · rw [if_pos h4] at hQ hX
          have d4 : decide ((0 : Int) < (NN : Int)) = false := decide_eq_false (by omega)
          have d4n : decide (0 < NN) = false := decide_eq_false (by omega)
          have HZ : Hid (Z.ms = []) := Lib.hid (List.eq_nil_of_length_eq_zero (by rw [← HN.out]; exact h4))
          clear h4
          subst hQ hX
          go_wp2_with fail
          refine (deliv_none _ c l QZ w1.drew (HS.out w1.drew (HB1.out.trans (HBX.out.mono HB1.out.size))) HZ.out).mono ?_
          rintro e w3 ⟨v3, rfl, hs3, hnw3, hb3⟩
          obtain ⟨A3, p3, cp3, rfl, HOUT⟩ := sys_out hs3 (HKR.out.below (HBX.out.trans hb3))
          have hkr := HKR.out.below (HBX.out.trans hb3)
          have kR := hkr.c
          have fR := hkr.f
          have lR := hkr.lt
          have HB3 : Hid (Below w.heap.size w w3) := Lib.hid ((HB1.out.trans (HBX.out.mono HB1.out.size)).trans (hb3.mono (Nat.le_trans HB1.out.size HBX.out.size)))
          obtain ⟨N3, hN3⟩ : ∃ x, x = (QZ).ms.length := ⟨_, rfl⟩
          rw [← hN3] at HOUT hnw3 ⊢
          have HO3 := Lib.hid HOUT
          have HNW := Lib.hid (hnw3.mono (Nat.le_trans HB1.out.size HBX.out.size))
          clear hs3 hb3 hnw3 HOUT hkr hN3 kB kA
          go_wp2_with fail
          have hle : ∀ j, w.heap.size ≤ (⟨R, j, none⟩ : Addr).block := fun j => by show w.heap.size ≤ R; rw [HRR.out]; omega
          exact bodyPost_ret (v := .tuple #[.agg #[.slice (some ⟨(A3 .st).b, (A3 .st).o, none⟩) c (A3 .st).c, .slice (some ⟨(A3 .va).b, (A3 .va).o, none⟩) c (A3 .va).c, .slice (some ⟨(A3 .wt).b, (A3 .wt).o, none⟩) c (A3 .wt).c, .slice (some ⟨(A3 .ho).b, (A3 .ho).o, none⟩) l (A3 .ho).c, .slice (some ⟨(A3 .di).b, (A3 .di).o, none⟩) l (A3 .di).c, .slice (some ⟨(A3 .bu).b, (A3 .bu).o, none⟩) l (A3 .bu).c, .slice p3 N3 cp3], .int .i64 (7)]) (by simp [results, Tryz.results25, go_sem, *]) rfl ⟨_, rfl, HO3.out _ rfl, HNW.out, ((((((HB3.out.setCell (hle 0) _).setCell (hle 1) _).setCell (hle 2) _).setCell (hle 3) _).setCell (hle 4) _).setCell (hle 5) _).setCell (hle 6) _⟩
        · rw [if_neg h4] at hQ hX
          have d4 : decide ((0 : Int) < (NN : Int)) = true := decide_eq_true (by omega)
          have d4n : decide (0 < NN) = true := decide_eq_true (by omega)
          obtain ⟨i, hi⟩ : ∃ i, i = aa % NN := ⟨_, rfl⟩
          have hti : ((aa : Int)).tmod (NN : Int) = (i : Int) := by rw [Int.tmod_eq_emod_of_nonneg (by omega), hi]; exact (Int.natCast_emod aa NN).symm
          have hiN : i < NN := by rw [hi]; exact Nat.mod_lt _ (by omega)
          have hN0 : ¬ (NN : Int) = 0 := by omega
          rw [← hi] at hQ
          subst hQ hX
          clear hi
          have f3 : IntKind.i64.wrap (aa : Int) = (aa : Int) := wrapA rfl (by omega)
          go_upto_region 13 with fail
          clear f3 hti
          go_wp2_with fail
          refine (deliv_ok _ c l Z i w1.drew (HS.out w1.drew (HB1.out.trans (HBX.out.mono HB1.out.size))) (by rw [← HN.out]; exact hiN)).mono ?_
          rintro e w3 ⟨v3, rfl, hs3, hnw3, hb3⟩
          obtain ⟨A3, p3, cp3, rfl, HOUT⟩ := sys_out hs3 (HKR.out.below (HBX.out.trans hb3))
          have hkr := HKR.out.below (HBX.out.trans hb3)
          have kR := hkr.c
          have fR := hkr.f
          have lR := hkr.lt
          have HB3 : Hid (Below w.heap.size w w3) := Lib.hid ((HB1.out.trans (HBX.out.mono HB1.out.size)).trans (hb3.mono (Nat.le_trans HB1.out.size HBX.out.size)))
          obtain ⟨N3, hN3⟩ : ∃ x, x = (Pr.delivZ c Z i).ms.length := ⟨_, rfl⟩
          rw [← hN3] at HOUT hnw3 ⊢
          have HO3 := Lib.hid HOUT
          have HNW := Lib.hid (hnw3.mono (Nat.le_trans HB1.out.size HBX.out.size))
          clear hs3 hb3 hnw3 HOUT hkr hN3 kB kA
          go_wp2_with fail
          have hle : ∀ j, w.heap.size ≤ (⟨R, j, none⟩ : Addr).block := fun j => by show w.heap.size ≤ R; rw [HRR.out]; omega
          exact bodyPost_ret (v := .tuple #[.agg #[.slice (some ⟨(A3 .st).b, (A3 .st).o, none⟩) c (A3 .st).c, .slice (some ⟨(A3 .va).b, (A3 .va).o, none⟩) c (A3 .va).c, .slice (some ⟨(A3 .wt).b, (A3 .wt).o, none⟩) c (A3 .wt).c, .slice (some ⟨(A3 .ho).b, (A3 .ho).o, none⟩) l (A3 .ho).c, .slice (some ⟨(A3 .di).b, (A3 .di).o, none⟩) l (A3 .di).c, .slice (some ⟨(A3 .bu).b, (A3 .bu).o, none⟩) l (A3 .bu).c, .slice p3 N3 cp3], .int .i64 (0)]) (by simp [results, Tryz.results25, go_sem, *]) rfl ⟨_, rfl, HO3.out _ rfl, HNW.out, ((((((HB3.out.setCell (hle 0) _).setCell (hle 1) _).setCell (hle 2) _).setCell (hle 3) _).setCell (hle 4) _).setCell (hle 5) _).setCell (hle 6) _⟩
end Go.Proofs.YtmeomdfmljanhaaGreat.Pg
/- Rows of noughts, in memory of one's own. -/
namespace Go.Proofs.YtmeomdfmljanhaaGreat.Pg
set_option linter.unusedVariables false
open Go.ChangeShapes Go.WideShapes Go.ChangeAt Go.RowKit

theorem zinfo_rows_int1 : (Tryz.prog.info? 27).map (fun i => (i.zero, i.size, i.bytes)) = some (some (.slice none 0 0), 1, 24) := by kernel_rfl
theorem zinfo_rows_int2 : (Tryz.prog.info? 3).map (fun i => (i.zero, i.size, i.bytes)) = some (some (.int .i64 0), 1, 8) := by kernel_rfl
theorem zinfo_rows_u321 : (Tryz.prog.info? 25).map (fun i => (i.zero, i.size, i.bytes)) = some (some (.slice none 0 0), 1, 24) := by kernel_rfl
theorem zinfo_rows_u322 : (Tryz.prog.info? 33).map (fun i => (i.zero, i.size, i.bytes)) = some (some (.int .u32 0), 1, 4) := by kernel_rfl
set_option maxHeartbeats 4000000 in
set_option maxRecDepth 100000 in
theorem rows_int (n l : Nat) (w : World) (hn1 : 1 ≤ n) (hn : n ≤ 100) (hl1 : 1 ≤ l) (hl : l ≤ 100) :
    Calls Tryz.prog 58 #[.int .i64 n, .int .i64 l] w fun e w' => ∃ v ys, e = .returned v ∧ OwnR 27 3 w.heap.size w' v (fun _ => l) (fun _ => List.replicate l (.int .i64 0)) ys ys n n ∧ Below w.heap.size w w' := by
  obtain ⟨i1, hi, hz0, hz1, hz2⟩ := info_parts zinfo_rows_int1
  have HI1 := Lib.hid (And.intro hi (And.intro hz0 (And.intro hz1 hz2)))
  clear hi hz0 hz1 hz2
  obtain ⟨i2, hi, hz0, hz1, hz2⟩ := info_parts zinfo_rows_int2
  have HI2 := Lib.hid (And.intro hi (And.intro hz0 (And.intro hz1 hz2)))
  clear hi hz0 hz1 hz2
  go_enter Tryz.func58, Tryz.ntmps58
  go_wp2_with (first | (refine wpList_make_full _ rfl _ _ 22 rfl w.heap.size 27 i1 (.slice none 0 0) 1 Tryz.underlying22 HI1.out.1 HI1.out.2.1 HI1.out.2.2.1 .i64 .i64 n n n rfl rfl rfl rfl (by rw [HI1.out.2.2.2]; omega) (by unfold maxLen; omega) (Nat.le_refl _) ?_))
  intro w1 g1 g2
  have e1 : (madeCells #[Value.slice none 0 0] n).toList = List.replicate n (.slice none 0 0) := toList_madeCells_one _ _
  rw [e1] at g1
  have HB1 : Hid (Below w.heap.size w w1) := Lib.hid ((Below.refl _ _).grown g2 (Nat.le_refl _) (fun k hk => by cases hk))
  obtain ⟨q, hq⟩ : ∃ q, q = w.heap.size := ⟨_, rfl⟩
  have HO : Hid (OwnR 27 3 w.heap.size w1 (.slice (some ⟨q, 0, none⟩) n n) (fun _ => l) (fun _ => List.replicate l (.int .i64 0)) (List.replicate n (.slice none 0 0)) (List.replicate n (.slice none 0 0)) n 0) := Lib.hid (OwnR.begin (by rw [hq]; exact g1))
  have HQ := Lib.hid hq
  rw [← hq]
  clear g1 g2 e1 hq
  go_wp2_with fail
  go_loopw [11] (fun i wr => ∃ k : Nat, k ≤ n ∧ i = .int .i64 k ∧ (∃ ys, OwnR 27 3 w.heap.size wr (.slice (some ⟨q, 0, none⟩) n n) (fun _ => l) (fun _ => List.replicate l (.int .i64 0)) (List.replicate n (.slice none 0 0)) ys n k) ∧ Below w.heap.size w wr) (fun i _ => n - (intOf i).toNat)
  case atStart => exact ⟨0, Nat.zero_le _, rfl, ⟨_, HO.out⟩, HB1.out⟩
  case round =>
    obtain ⟨k, hk, rfl, ⟨ys, ho⟩, hb⟩ := hrel
    clear HB1 HO
    have HB := Lib.hid hb
    clear hb
    by_cases hlt : k < n
    · have hbg : w.heap.size ≤ q := by rw [HQ.out]; exact Nat.le_refl _
      have hck : wr.cell? ⟨q, k, none⟩ = some (ys.getD k vz) := by
        rw [ho.row.cellAt k (by omega), List.getD_eq_getElem?_getD, List.getElem?_eq_getElem (by rw [ho.row.1]; omega)]
        rfl
      have HO := Lib.hid ho
      have HBG : Hid (w.heap.size ≤ q) := Lib.hid hbg
      have hlc : (l : Int) < 1000 := by omega
      clear ho hbg
      go_wp2_with (first | (refine wpList_make_full _ rfl _ _ 27 rfl wr.heap.size 3 i2 (.int .i64 0) 1 Tryz.underlying27 HI2.out.1 HI2.out.2.1 HI2.out.2.2.1 .i64 .i64 l l l rfl rfl rfl rfl (by rw [HI2.out.2.2.2]; omega) (by unfold maxLen; omega) (Nat.le_refl _) ?_))
      intro w2 g1 g2
      have e1 : (madeCells #[(.int .i64 0 : Value)] l).toList = List.replicate l (.int .i64 0) := toList_madeCells_one _ _
      rw [e1] at g1
      have hb2 : Below wr.heap.size wr w2 := (Below.refl _ _).grown g2 (Nat.le_refl _) (fun k hk => by cases hk)
      have hr2 := g1
      obtain ⟨z, hz⟩ : ∃ z, z = wr.heap.size := ⟨_, rfl⟩
      have HO2 := Lib.hid (HO.out.step hlt (HB.out.size) hb2 hr2)
      have hc2 : w2.cell? ⟨q, k, none⟩ = some (ys.getD k vz) := (hb2.cell (p := ⟨q, k, none⟩) (HO.out.row.lt q rfl).2).trans hck
      have hf2 : w2.frozen? ⟨q, k, none⟩ = false := (OwnR.below HO.out hb2).row.frozenAt k
      have HB2 := Lib.hid ((HB.out.trans (hb2.mono HB.out.size)).setCell (p := ⟨q, k, none⟩) HBG.out (.slice (some ⟨wr.heap.size, 0, none⟩) l l))
      rw [← hz] at HO2 HB2 ⊢
      clear hb2 hr2 hck g1 g2 e1 hz
      obtain ⟨old, hold⟩ : ∃ x, x = ys.getD k vz := ⟨_, rfl⟩
      rw [← hold] at hc2
      clear hold
      go_wp2_with fail
      go_roundw
      case rel => exact ⟨k + 1, by omega, by go_num, ⟨_, HO2.out⟩, HB2.out⟩
      case measure => simp [intOf]; omega
    · have hkn : k = n := by omega
      have HO := Lib.hid (OwnR.done (hkn ▸ ho))
      clear ho hkn
      go_wp2_with fail
      go_ret
      exact ⟨_, _, rfl, HO.out, HB.out⟩
set_option maxHeartbeats 4000000 in
set_option maxRecDepth 100000 in
theorem rows_u32 (n l : Nat) (w : World) (hn1 : 1 ≤ n) (hn : n ≤ 100) (hl1 : 1 ≤ l) (hl : l ≤ 100) :
    Calls Tryz.prog 59 #[.int .i64 n, .int .i64 l] w fun e w' => ∃ v ys, e = .returned v ∧ OwnR 25 33 w.heap.size w' v (fun _ => l) (fun _ => List.replicate l (.int .u32 0)) ys ys n n ∧ Below w.heap.size w w' := by
  obtain ⟨i1, hi, hz0, hz1, hz2⟩ := info_parts zinfo_rows_u321
  have HI1 := Lib.hid (And.intro hi (And.intro hz0 (And.intro hz1 hz2)))
  clear hi hz0 hz1 hz2
  obtain ⟨i2, hi, hz0, hz1, hz2⟩ := info_parts zinfo_rows_u322
  have HI2 := Lib.hid (And.intro hi (And.intro hz0 (And.intro hz1 hz2)))
  clear hi hz0 hz1 hz2
  go_enter Tryz.func59, Tryz.ntmps59
  go_wp2_with (first | (refine wpList_make_full _ rfl _ _ 23 rfl w.heap.size 25 i1 (.slice none 0 0) 1 Tryz.underlying23 HI1.out.1 HI1.out.2.1 HI1.out.2.2.1 .i64 .i64 n n n rfl rfl rfl rfl (by rw [HI1.out.2.2.2]; omega) (by unfold maxLen; omega) (Nat.le_refl _) ?_))
  intro w1 g1 g2
  have e1 : (madeCells #[Value.slice none 0 0] n).toList = List.replicate n (.slice none 0 0) := toList_madeCells_one _ _
  rw [e1] at g1
  have HB1 : Hid (Below w.heap.size w w1) := Lib.hid ((Below.refl _ _).grown g2 (Nat.le_refl _) (fun k hk => by cases hk))
  obtain ⟨q, hq⟩ : ∃ q, q = w.heap.size := ⟨_, rfl⟩
  have HO : Hid (OwnR 25 33 w.heap.size w1 (.slice (some ⟨q, 0, none⟩) n n) (fun _ => l) (fun _ => List.replicate l (.int .u32 0)) (List.replicate n (.slice none 0 0)) (List.replicate n (.slice none 0 0)) n 0) := Lib.hid (OwnR.begin (by rw [hq]; exact g1))
  have HQ := Lib.hid hq
  rw [← hq]
  clear g1 g2 e1 hq
  go_wp2_with fail
  go_loopw [11] (fun i wr => ∃ k : Nat, k ≤ n ∧ i = .int .i64 k ∧ (∃ ys, OwnR 25 33 w.heap.size wr (.slice (some ⟨q, 0, none⟩) n n) (fun _ => l) (fun _ => List.replicate l (.int .u32 0)) (List.replicate n (.slice none 0 0)) ys n k) ∧ Below w.heap.size w wr) (fun i _ => n - (intOf i).toNat)
  case atStart => exact ⟨0, Nat.zero_le _, rfl, ⟨_, HO.out⟩, HB1.out⟩
  case round =>
    obtain ⟨k, hk, rfl, ⟨ys, ho⟩, hb⟩ := hrel
    clear HB1 HO
    have HB := Lib.hid hb
    clear hb
    by_cases hlt : k < n
    · have hbg : w.heap.size ≤ q := by rw [HQ.out]; exact Nat.le_refl _
      have hck : wr.cell? ⟨q, k, none⟩ = some (ys.getD k vz) := by
        rw [ho.row.cellAt k (by omega), List.getD_eq_getElem?_getD, List.getElem?_eq_getElem (by rw [ho.row.1]; omega)]
        rfl
      have HO := Lib.hid ho
      have HBG : Hid (w.heap.size ≤ q) := Lib.hid hbg
      have hlc : (l : Int) < 1000 := by omega
      clear ho hbg
      go_wp2_with (first | (refine wpList_make_full _ rfl _ _ 25 rfl wr.heap.size 33 i2 (.int .u32 0) 1 Tryz.underlying25 HI2.out.1 HI2.out.2.1 HI2.out.2.2.1 .i64 .i64 l l l rfl rfl rfl rfl (by rw [HI2.out.2.2.2]; omega) (by unfold maxLen; omega) (Nat.le_refl _) ?_))
      intro w2 g1 g2
      have e1 : (madeCells #[(.int .u32 0 : Value)] l).toList = List.replicate l (.int .u32 0) := toList_madeCells_one _ _
      rw [e1] at g1
      have hb2 : Below wr.heap.size wr w2 := (Below.refl _ _).grown g2 (Nat.le_refl _) (fun k hk => by cases hk)
      have hr2 := g1
      obtain ⟨z, hz⟩ : ∃ z, z = wr.heap.size := ⟨_, rfl⟩
      have HO2 := Lib.hid (HO.out.step hlt (HB.out.size) hb2 hr2)
      have hc2 : w2.cell? ⟨q, k, none⟩ = some (ys.getD k vz) := (hb2.cell (p := ⟨q, k, none⟩) (HO.out.row.lt q rfl).2).trans hck
      have hf2 : w2.frozen? ⟨q, k, none⟩ = false := (OwnR.below HO.out hb2).row.frozenAt k
      have HB2 := Lib.hid ((HB.out.trans (hb2.mono HB.out.size)).setCell (p := ⟨q, k, none⟩) HBG.out (.slice (some ⟨wr.heap.size, 0, none⟩) l l))
      rw [← hz] at HO2 HB2 ⊢
      clear hb2 hr2 hck g1 g2 e1 hz
      obtain ⟨old, hold⟩ : ∃ x, x = ys.getD k vz := ⟨_, rfl⟩
      rw [← hold] at hc2
      clear hold
      go_wp2_with fail
      go_roundw
      case rel => exact ⟨k + 1, by omega, by go_num, ⟨_, HO2.out⟩, HB2.out⟩
      case measure => simp [intOf]; omega
    · have hkn : k = n := by omega
      have HO := Lib.hid (OwnR.done (hkn ▸ ho))
      clear ho hkn
      go_wp2_with fail
      go_ret
      exact ⟨_, _, rfl, HO.out, HB.out⟩
end Go.Proofs.YtmeomdfmljanhaaGreat.Pg
/- What was set last, act by act. -/
namespace Go.Proofs.YtmeomdfmljanhaaGreat.Pg
set_option linter.unusedVariables false

end Go.Proofs.YtmeomdfmljanhaaGreat.Pg
/- A system that a call answered, stored over an older one. -/
namespace Go.Proofs.YtmeomdfmljanhaaGreat.Pg
set_option linter.unusedVariables false
open Go.ChangeShapes Go.WideShapes Go.ChangeAt Go.RowKit

theorem mem_over {w w' : World} {c l : Nat} {F : Pr.Fs} {L : List (List Nat)} {A : Tg → Pa} {p : Option Addr} {cp : Nat} {xs : List Value} (h : Mem w 0 c l A F vz vz) (hp : Pl w p xs L) {R : Nat} (hoff : ∀ t : Tg, 0 < t.sz 0 c l → (A t).b ≠ R) (ho : Off (fun b => b = R) p xs L)
    (hw : w' = (((((((w.setCell ⟨R, 0, none⟩ (.slice (some ⟨(A .st).b, (A .st).o, none⟩) c (A .st).c)).setCell ⟨R, 1, none⟩ (.slice (some ⟨(A .va).b, (A .va).o, none⟩) c (A .va).c)).setCell ⟨R, 2, none⟩ (.slice (some ⟨(A .wt).b, (A .wt).o, none⟩) c (A .wt).c)).setCell ⟨R, 3, none⟩ (.slice (some ⟨(A .ho).b, (A .ho).o, none⟩) l (A .ho).c)).setCell ⟨R, 4, none⟩ (.slice (some ⟨(A .di).b, (A .di).o, none⟩) l (A .di).c)).setCell ⟨R, 5, none⟩ (.slice (some ⟨(A .bu).b, (A .bu).o, none⟩) l (A .bu).c)).setCell ⟨R, 6, none⟩ (.slice p L.length cp))) : Sv w' (sysV c l A (.slice p L.length cp)) c l F L := by
  have hm : ∀ (X : World) (j : Nat) (u : Value), Mem X 0 c l A F vz vz ∧ Pl X p xs L → Mem (X.setCell ⟨R, j, none⟩ u) 0 c l A F vz vz ∧ Pl (X.setCell ⟨R, j, none⟩ u) p xs L := fun X j u ⟨x1, x2⟩ =>
    ⟨x1.off hoff j u, x2.set ho j u⟩
  have h7 : Mem w' 0 c l A F vz vz ∧ Pl w' p xs L := by
    rw [hw]
    exact hm _ 6 _ (hm _ 5 _ (hm _ 4 _ (hm _ 3 _ (hm _ 2 _ (hm _ 1 _ (hm _ 0 _ ⟨h, hp⟩))))))
  exact ⟨A, p, cp, xs, rfl, h7.1, h7.2⟩
theorem old_is {w : World} {E c l : Nat} {x0 x1 x2 x3 x4 x5 : Addr} {k0 k1 k2 k3 k4 k5 no co : Nat} {po : Option Addr} (hE : Blk w E #[.slice (some x0) c k0, .slice (some x1) c k1, .slice (some x2) c k2, .slice (some x3) l k3, .slice (some x4) l k4, .slice (some x5) l k5, .slice po no co]) (j : Nat) {v : Value} (h : w.cell? ⟨E, j, none⟩ = some v) :
    (∃ q k, v = .slice (some q) c k) ∨ (∃ q k, v = .slice (some q) l k) ∨ v = .slice po no co := by
  rw [hE.c] at h
  rcases (by omega : j = 0 ∨ j = 1 ∨ j = 2 ∨ j = 3 ∨ j = 4 ∨ j = 5 ∨ j = 6 ∨ 7 ≤ j) with x | x | x | x | x | x | x | x
  · subst x; cases h; exact .inl ⟨_, _, rfl⟩
  · subst x; cases h; exact .inl ⟨_, _, rfl⟩
  · subst x; cases h; exact .inl ⟨_, _, rfl⟩
  · subst x; cases h; exact .inr (.inl ⟨_, _, rfl⟩)
  · subst x; cases h; exact .inr (.inl ⟨_, _, rfl⟩)
  · subst x; cases h; exact .inr (.inl ⟨_, _, rfl⟩)
  · subst x; cases h; exact .inr (.inr rfl)
  · rw [Array.getElem?_eq_none (by simpa using x)] at h; cases h
theorem sys_over {w : World} {v : Value} {c l base : Nat} {Z Zo : Pr.Zz} (h : Sys w v c l Z) {x0 x1 x2 x3 x4 x5 : Addr} {k0 k1 k2 k3 k4 k5 no co : Nat} {po : Option Addr} (ho : Sys w (.agg #[.slice (some x0) c k0, .slice (some x1) c k1, .slice (some x2) c k2, .slice (some x3) l k3, .slice (some x4) l k4, .slice (some x5) l k5, .slice po no co]) c l Zo) {E : Nat} (hE : Blk w E #[.slice (some x0) c k0, .slice (some x1) c k1, .slice (some x2) c k2, .slice (some x3) l k3, .slice (some x4) l k4, .slice (some x5) l k5, .slice po no co]) (hn : Nw base v) (hlt : E < base) :
    ∃ (A : Tg → Pa) (p : Option Addr) (cp : Nat), v = .agg #[.slice (some ⟨(A .st).b, (A .st).o, none⟩) c (A .st).c, .slice (some ⟨(A .va).b, (A .va).o, none⟩) c (A .va).c, .slice (some ⟨(A .wt).b, (A .wt).o, none⟩) c (A .wt).c, .slice (some ⟨(A .ho).b, (A .ho).o, none⟩) l (A .ho).c, .slice (some ⟨(A .di).b, (A .di).o, none⟩) l (A .di).c, .slice (some ⟨(A .bu).b, (A .bu).o, none⟩) l (A .bu).c, .slice p Z.ms.length cp] ∧ ∀ w', w' = (((((((w.setCell ⟨E, 0, none⟩ (.slice (some ⟨(A .st).b, (A .st).o, none⟩) c (A .st).c)).setCell ⟨E, 1, none⟩ (.slice (some ⟨(A .va).b, (A .va).o, none⟩) c (A .va).c)).setCell ⟨E, 2, none⟩ (.slice (some ⟨(A .wt).b, (A .wt).o, none⟩) c (A .wt).c)).setCell ⟨E, 3, none⟩ (.slice (some ⟨(A .ho).b, (A .ho).o, none⟩) l (A .ho).c)).setCell ⟨E, 4, none⟩ (.slice (some ⟨(A .di).b, (A .di).o, none⟩) l (A .di).c)).setCell ⟨E, 5, none⟩ (.slice (some ⟨(A .bu).b, (A .bu).o, none⟩) l (A .bu).c)).setCell ⟨E, 6, none⟩ (.slice p Z.ms.length cp)) → Sys w' v c l Z := by
  have h0 := h.sv
  obtain ⟨A, p, cp, xs, e, hm, hp⟩ := h0
  have hc4 := h.ok.c4
  have hl4 := h.ok.l4
  obtain ⟨b0, o0, n0, c0, b1, o1, n1, c1, v2, v3, v4, v5, v6, en, hb0, hb1⟩ := hn
  rw [en] at e
  have ea : (A .st).b = b0 ∧ (A .va).b = b1 := by
    simp only [Pa.sl] at e
    injection e with e
    injection e with e
    injection e with e1 e2
    injection e2 with e2 e3
    injection e1 with e1
    injection e2 with e2
    injection e1 with e1
    injection e2 with e2
    injection e1 with e1
    injection e2 with e2
    exact ⟨e1.symm, e2.symm⟩
  have hint : ∀ (j : Nat) (u : Value), w.cell? ⟨E, j, none⟩ = some u → ∃ a b d, u = .slice a b d := fun j u hu => by
    rcases old_is hE j hu with ⟨q, k, e⟩ | ⟨q, k, e⟩ | e
    · exact ⟨_, _, _, e⟩
    · exact ⟨_, _, _, e⟩
    · exact ⟨_, _, _, e⟩
  have hoff : ∀ t : Tg, 0 < t.sz 0 c l → (A t).b ≠ E := fun t ht e2 => by
    have h1 := hm.cell t 0 ht
    rw [e2] at h1
    obtain ⟨a, b, d, h2⟩ := hint _ _ h1
    cases t with
    | st => rw [ea.1] at e2; omega
    | va => rw [ea.2] at e2; omega
    | bx => exact absurd ht (Nat.lt_irrefl 0)
    | _ => cases h2
  obtain ⟨Ao, qo, cqo, xo, eo, hmo, hpo⟩ := ho.sv
  have epo : po = qo ∧ no = (Zo.ms.map fr).length := by
    simp only [Pa.sl] at eo
    injection eo with eo
    injection eo with eo
    injection eo with _ eo
    injection eo with _ eo
    injection eo with _ eo
    injection eo with _ eo
    injection eo with _ eo
    injection eo with _ eo
    injection eo with eo _
    injection eo with e1 e2 _
    exact ⟨e1, e2⟩
  have hfl : ∀ k, k < (Z.ms.map fr).length → ((Z.ms.map fr).getD k []).length = 19 := fun k hk => by
    rw [List.getD_eq_getElem?_getD, List.getElem?_eq_getElem hk, List.getElem_map]
    rfl
  have hoo : Off (fun b => b = E) p xs (Z.ms.map fr) := by
    refine ⟨fun h0 a e hb => ?_, fun k hk h0 g e hb => ?_⟩
    · obtain ⟨b, off, hlt2, e2, h3⟩ := hp.sl h0
      rw [e2] at e
      injection e with e
      subst e
      have hb : b = E := hb
      subst hb
      obtain ⟨q, d, e4, _, h2⟩ := hp.fs 0 h0
      have hx : 0 < xs.length := by rw [hp.len]; exact h0
      have h5 := h3 0 hx
      rw [List.getElem?_eq_getElem hx] at h5
      have h7 : xs.getD 0 vz = xs[0] := by rw [List.getD_eq_getElem?_getD, List.getElem?_eq_getElem hx]; rfl
      rw [← h7, e4, hfl 0 h0] at h5
      rcases old_is hE _ h5 with ⟨q2, k2, e5⟩ | ⟨q2, k2, e5⟩ | e5
      · injection e5 with _ e5 _; omega
      · injection e5 with _ e5 _; omega
      · injection e5 with e6 e7 _
        obtain ⟨b2, off2, hlt3, e8, h9⟩ := h2.c (by rw [hfl 0 h0]; omega)
        have hn0 : 0 < (Zo.ms.map fr).length := by rw [← epo.2, ← e7]; omega
        obtain ⟨b3, off3, hlt4, e10, h11⟩ := hpo.sl hn0
        have hxo : 0 < xo.length := by rw [hpo.len]; exact hn0
        have h12 := h11 0 hxo
        rw [← epo.1, ← e6, e8] at e10
        injection e10 with e10
        injection e10 with e11 e12
        subst e11 e12
        have h13 := h9 0 (by rw [hfl 0 h0]; omega)
        rw [h12, List.getElem?_eq_getElem hxo] at h13
        obtain ⟨q3, d3, e14, _, _⟩ := hpo.fs 0 hn0
        have h15 : xo.getD 0 vz = xo[0] := by rw [List.getD_eq_getElem?_getD, List.getElem?_eq_getElem hxo]; rfl
        rw [← h15, e14] at h13
        cases h13
    · obtain ⟨q, d, e2, _, h2⟩ := hp.fs k hk
      obtain ⟨b, off, hlt2, e3, h4⟩ := h2.c h0
      subst e3
      rw [e2] at e
      injection e with e
      subst e
      have hb : b = E := hb
      subst hb
      obtain ⟨a, b, d, h6⟩ := hint _ _ (h4 0 h0)
      cases h6
  rw [List.length_map] at e
  refine ⟨A, p, cp, by rw [en]; exact e, fun w' hw => ⟨?_, h.ok⟩⟩
  have := mem_over (w' := w') hm hp hoff hoo (by rw [hw, List.length_map])
  rw [en, e]
  rw [List.length_map] at this
  exact this
end Go.Proofs.YtmeomdfmljanhaaGreat.Pg
/- A new system, laid list by list in whatever order. -/
namespace Go.Proofs.YtmeomdfmljanhaaGreat.Pg
set_option linter.unusedVariables false
open Go.ChangeShapes Go.WideShapes Go.ChangeAt Go.RowKit

theorem mem_new {W : World} {c l : Nat} {A : Tg → Pa} {F : Pr.Fs} {v0 v1 v2 v3 v4 v5 : Value} {y0 y1 x2 x3 x5 : List Value} {cs0 cs1 : Nat → List Value} {lo hi : Nat → Nat} {T0 T1 T2 T3 T4 T5 T7 : TypeId} (hc1 : 1 ≤ c) (hc4 : c ≤ 4) (hl1 : 1 ≤ l) (hl16 : l ≤ 16)
    (g0 : GR T0 T1 (lo 0) (hi 0) W v0 l cs0 y0 c) (g1 : GR T2 T3 (lo 1) (hi 1) W v1 l cs1 y1 c)
    (g2 : GO T4 9 (lo 2) (hi 2) W v2 c x2) (g3 : GO T5 1 (lo 3) (hi 3) W v3 l x3) (d4 : Rw W (paOf v4) (lo 4) (hi 4) l (l * 2) (fun j => if j % 2 = 0 then .int .i64 (F.own (j / 2)) else (A (.sh (j / 2))).sl c)) (e4' : v4 = (paOf v4).sl l) (g5 : GO T7 1 (lo 5) (hi 5) W v5 l x5)
    (q0 : ∀ j i, j < c → i < l → (cs0 j)[i]? = some (.int .i64 (F.st j i))) (q1 : ∀ j i, j < c → i < l → (cs1 j)[i]? = some (.int .u32 (F.va j i)))
    (q2 : ∀ i, i < c * 9 → x2[i]? = some ((wtL (F.wt (i / 9))).getD (i % 9) vz)) (q3 : ∀ i, i < l → x3[i]? = some (.int .u32 (F.home i)))
    (q5 : ∀ i, i < l → x5[i]? = some (.int .i64 (F.busy i)))
    (hsh : ∀ k, k < l → (A (.sh k)).b < W.heap.size ∧ (∀ j, j < c → W.cell? ⟨(A (.sh k)).b, (A (.sh k)).o + j, none⟩ = some (.bool (F.sh k j))) ∧ c ≤ (A (.sh k)).c ∧ ∀ i, i < 6 → (A (.sh k)).b < lo i ∨ hi i ≤ (A (.sh k)).b)
    (hdis : ∀ i j, i < 6 → j < 6 → i ≠ j → hi i ≤ lo j ∨ hi j ≤ lo i) :
    Mem W 0 c l (mkA A v0 v1 v2 v3 v4 v5 y0 y1 0) F vz vz ∧ v0 = (mkA A v0 v1 v2 v3 v4 v5 y0 y1 0 .st).sl c ∧ v1 = (mkA A v0 v1 v2 v3 v4 v5 y0 y1 0 .va).sl c ∧ v2 = (mkA A v0 v1 v2 v3 v4 v5 y0 y1 0 .wt).sl c ∧ v3 = (mkA A v0 v1 v2 v3 v4 v5 y0 y1 0 .ho).sl l ∧ v4 = (mkA A v0 v1 v2 v3 v4 v5 y0 y1 0 .di).sl l ∧ v5 = (mkA A v0 v1 v2 v3 v4 v5 y0 y1 0 .bu).sl l := by
  have k0 := fun j (hj : j < c) => (g0.rows hj).rw_ hl1 (g := ct c l (mkA A v0 v1 v2 v3 v4 v5 y0 y1 0) F vz vz (.sr j)) (fun i hi => q0 j i hj (by omega))
  have k1 := fun j (hj : j < c) => (g1.rows hj).rw_ hl1 (g := ct c l (mkA A v0 v1 v2 v3 v4 v5 y0 y1 0) F vz vz (.vr j)) (fun i hi => q1 j i hj (by omega))
  have y0l : y0.length = c := by rw [g0.o.row.1, Nat.mul_one]
  have y1l : y1.length = c := by rw [g1.o.row.1, Nat.mul_one]
  have r0 := g0.row.rw_ hc1 (g := ct c l (mkA A v0 v1 v2 v3 v4 v5 y0 y1 0) F vz vz .st) (fun i hi => by
    have hi : i < c := by omega
    rw [List.getElem?_eq_getElem (by omega)]
    show _ = some ((paOf (y0.getD i vz)).sl l)
    rw [← (k0 i hi).2, List.getD_eq_getElem?_getD, List.getElem?_eq_getElem (by omega)]; rfl)
  have r1 := g1.row.rw_ hc1 (g := ct c l (mkA A v0 v1 v2 v3 v4 v5 y0 y1 0) F vz vz .va) (fun i hi => by
    have hi : i < c := by omega
    rw [List.getElem?_eq_getElem (by omega)]
    show _ = some ((paOf (y1.getD i vz)).sl l)
    rw [← (k1 i hi).2, List.getD_eq_getElem?_getD, List.getElem?_eq_getElem (by omega)]; rfl)
  have r2 := g2.rw_ hc1 (g := ct c l (mkA A v0 v1 v2 v3 v4 v5 y0 y1 0) F vz vz .wt) (fun i hi => q2 i hi)
  have r3 := g3.rw_ hl1 (g := ct c l (mkA A v0 v1 v2 v3 v4 v5 y0 y1 0) F vz vz .ho) (fun i hi => q3 i (by omega))
  have r4 : Rw W (paOf v4) (lo 4) (hi 4) l (l * 2) (ct c l (mkA A v0 v1 v2 v3 v4 v5 y0 y1 0) F vz vz .di) ∧ v4 = (paOf v4).sl l := ⟨d4, e4'⟩
  have r5 := g5.rw_ hl1 (g := ct c l (mkA A v0 v1 v2 v3 v4 v5 y0 y1 0) F vz vz .bu) (fun i hi => q5 i (by omega))
  obtain ⟨A', hA'⟩ : ∃ A', A' = mkA A v0 v1 v2 v3 v4 v5 y0 y1 0 := ⟨_, rfl⟩
  have e0 : v0 = (A' .st).sl c := by rw [hA']; exact r0.2
  have e1 : v1 = (A' .va).sl c := by rw [hA']; exact r1.2
  have e2 : v2 = (A' .wt).sl c := by rw [hA']; exact r2.2
  have e3 : v3 = (A' .ho).sl l := by rw [hA']; exact r3.2
  have e4 : v4 = (A' .di).sl l := by rw [hA']; exact r4.2
  have e5 : v5 = (A' .bu).sl l := by rw [hA']; exact r5.2
  have hrw : ∀ t : Tg, t.wr = true → 0 < t.sz 0 c l → t ≠ .bx → Rw W (A' t) (lo (gi t)) (hi (gi t)) (t.nm c l) (t.sz 0 c l) (ct c l A' F vz vz t) := by
    intro t ht h0 hx
    rw [hA']
    cases t with
    | st => have := r0.1; rw [Nat.mul_one] at this; exact this
    | sr j =>
      have hj : j < c := by
        refine Decidable.byContradiction fun hn => ?_
        have h0 : 0 < if j < c then l else 0 := h0
        rw [if_neg hn] at h0; omega
      have := (k0 j hj).1
      rw [Nat.mul_one] at this
      show Rw W (paOf (y0.getD j vz)) _ _ l (if j < c then l else 0) _
      rw [if_pos hj]; exact this
    | va => have := r1.1; rw [Nat.mul_one] at this; exact this
    | vr j =>
      have hj : j < c := by
        refine Decidable.byContradiction fun hn => ?_
        have h0 : 0 < if j < c then l else 0 := h0
        rw [if_neg hn] at h0; omega
      have := (k1 j hj).1
      rw [Nat.mul_one] at this
      show Rw W (paOf (y1.getD j vz)) _ _ l (if j < c then l else 0) _
      rw [if_pos hj]; exact this
    | wt => exact r2.1
    | ho => have := r3.1; rw [Nat.mul_one] at this; exact this
    | di => exact r4.1
    | bu => have := r5.1; rw [Nat.mul_one] at this; exact this
    | sh k => cases ht
    | bx => exact absurd rfl hx
  have hgi : ∀ t : Tg, t.wr = true → t ≠ .bx → gi t < 6 := by
    intro t ht hx
    cases t <;> first | exact absurd rfl hx | exact absurd ht Bool.false_ne_true | exact Nat.le_of_ble_eq_true rfl
  have hshA : ∀ k, A' (.sh k) = A (.sh k) := fun k => by rw [hA']; rfl
  have hkl : ∀ k j, j < (Tg.sh k).sz 0 c l → k < l ∧ j < c := fun k j h => by
    have h : j < if k < l then c else 0 := h
    by_cases hk : k < l
    · rw [if_pos hk] at h; exact ⟨hk, h⟩
    · rw [if_neg hk] at h; omega
  rw [← hA']
  refine ⟨⟨?_, ?_, ?_, ?_, ?_, hc1, hc4, hl1, hl16⟩, e0, e1, e2, e3, e4, e5⟩
  · intro t h0
    by_cases hx : t = .bx
    · subst hx; exact absurd h0 (Nat.lt_irrefl 0)
    · cases ht : t.wr with
      | true => exact (hrw t ht h0 hx).lt
      | false =>
        cases t <;> try cases ht
        rw [hshA]
        exact (hsh _ (hkl _ 0 h0).1).1
  · intro t j hj
    by_cases hx : t = .bx
    · subst hx; exact absurd hj (Nat.not_lt_zero _)
    · cases ht : t.wr with
      | true => exact (hrw t ht (by omega) hx).c j hj
      | false =>
        cases t <;> try cases ht
        rename_i k
        rw [hshA]
        exact (hsh k (hkl k j hj).1).2.1 j (hkl k j hj).2
  · intro t ht h0 j
    by_cases hx : t = .bx
    · subst hx; exact absurd h0 (Nat.lt_irrefl 0)
    · exact (hrw t ht h0 hx).f j
  · intro t t' ht h0 h0' e
    by_cases hx : t = .bx
    · subst hx; exact absurd h0 (Nat.lt_irrefl 0)
    · have r := hrw t ht h0 hx
      have ga := hgi t ht hx
      by_cases hx' : t' = .bx
      · subst hx'; exact absurd h0' (Nat.lt_irrefl 0)
      · cases ht' : t'.wr with
        | false =>
          exfalso
          cases t' <;> try cases ht'
          rename_i k
          rw [hshA] at e
          have := (hsh k (hkl k 0 h0').1).2.2.2 (gi t) ga
          have a := r.lo
          have b := r.hi
          omega
        | true =>
          have r' := hrw t' ht' h0' hx'
          have ga' := hgi t' ht' hx'
          by_cases hg : gi t = gi t'
          · have hne : ∀ j, j < c → (A' .st).b ≠ (A' (.sr j)).b := fun j hj => by
              rw [hA']
              intro e
              exact g0.o.sep j hj _ (owb (k0 j hj).2 rfl) (owb r0.2 e)
            have hne1 : ∀ j, j < c → (A' .va).b ≠ (A' (.vr j)).b := fun j hj => by
              rw [hA']
              intro e
              exact g1.o.sep j hj _ (owb (k1 j hj).2 rfl) (owb r1.2 e)
            have dm : ∀ j, 0 < (if j < c then l else 0) → j < c := fun j h => by
              refine Decidable.byContradiction fun hn => ?_
              rw [if_neg hn] at h; omega
            cases t <;> cases t' <;> first | rfl | exact absurd hg (Nat.ne_of_beq_eq_false rfl) | exact absurd ht Bool.false_ne_true | exact absurd ht' Bool.false_ne_true | skip
            · exact absurd e (hne _ (dm _ h0'))
            · exact absurd e.symm (hne _ (dm _ h0))
            · rename_i i j
              by_cases hij : i = j
              · subst hij; rfl
              · exfalso
                rw [hA'] at e
                have e : (paOf (y0.getD i vz)).b = (paOf (y0.getD j vz)).b := e
                exact g0.o.two i j (dm _ h0) (dm _ h0') hij _ (owb (k0 i (dm _ h0)).2 rfl) (owb (k0 j (dm _ h0')).2 e.symm)
            · exact absurd e (hne1 _ (dm _ h0'))
            · exact absurd e.symm (hne1 _ (dm _ h0))
            · rename_i i j
              by_cases hij : i = j
              · subst hij; rfl
              · exfalso
                rw [hA'] at e
                have e : (paOf (y1.getD i vz)).b = (paOf (y1.getD j vz)).b := e
                exact g1.o.two i j (dm _ h0) (dm _ h0') hij _ (owb (k1 i (dm _ h0)).2 rfl) (owb (k1 j (dm _ h0')).2 e.symm)
          · exfalso
            have a := r.lo
            have b := r.hi
            have a' := r'.lo
            have b' := r'.hi
            have := hdis _ _ ga ga' hg
            omega
  · intro t h0
    by_cases hx : t = .bx
    · subst hx; exact Nat.zero_le _
    · cases ht : t.wr with
      | true => exact (hrw t ht h0 hx).cap
      | false =>
        cases t <;> try cases ht
        rw [hshA]
        exact (hsh _ (hkl _ 0 h0).1).2.2.1
end Go.Proofs.YtmeomdfmljanhaaGreat.Pg
/- A region that draws its order: some reads first, then operations that may come in whichever order, of each of which it is shown what it does, then some that are forced. No program in sight. -/
namespace Go.Proofs.YtmeomdfmljanhaaGreat.Pg
set_option linter.unusedVariables false

section
variable {P : Program} {ops : Array Oper} {md : Region.Mode} {Q : Exit → Act → World → Prop} {S : World → Prop}
/-- What is listed, of those that may come in whichever order. -/
def setAll (listed : Array Bool) : List Nat → List Bool → Array Bool
  | i :: is, b :: bs => setAll (if b then listed.setIfInBounds i true else listed) is bs
  | _, _ => listed
def allBs : Nat → List (List Bool)
  | 0 => [[]]
  | n + 1 => (allBs n).flatMap fun l => [false :: l, true :: l]
theorem mem_allBs : ∀ bs : List Bool, bs ∈ allBs bs.length
  | [] => List.mem_singleton.2 rfl
  | b :: bs => by
    refine List.mem_flatMap.2 ⟨bs, mem_allBs bs, ?_⟩
    cases b <;> simp
/-- In each state but the last one something may come, and whatever may come is one of these. -/
def freeStep (md : Region.Mode) (ops : Array Oper) (ok : Nat → List Bool → Bool) (base : Array Bool) (fs : List Nat) (bs : List Bool) : Bool :=
  bs.all id || (!(Region.ready md ops (setAll base fs bs)).isEmpty && (Region.ready md ops (setAll base fs bs)).all fun i =>
    (List.range fs.length).any fun j => decide (fs[j]? = some i) && (ok j bs && (decide (bs[j]? = some false) && ((setAll base fs bs).setIfInBounds i true).toList == (setAll base fs (bs.set j true)).toList)))
def freeB (md : Region.Mode) (ops : Array Oper) (ok : Nat → List Bool → Bool) (base : Array Bool) (fs : List Nat) : Bool := (allBs fs.length).all (freeStep md ops ok base fs)
theorem all_true {bs : List Bool} (h : bs.all id = true) : bs = List.replicate bs.length true := by
  induction bs with
  | nil => rfl
  | cons b bs ih =>
    rw [List.all_cons, Bool.and_eq_true] at h
    rw [List.length_cons, List.replicate_succ, ← ih h.2]
    cases b with
    | true => rfl
    | false => cases h.1
theorem count_set {bs : List Bool} {j : Nat} (h : bs[j]? = some false) : (bs.set j true).count false + 1 = bs.count false := by
  induction bs generalizing j with
  | nil => simp at h
  | cons b bs ih =>
    cases j with
    | zero =>
      have e : b = false := by simpa using h
      subst e
      rw [List.set_cons_zero, List.count_cons, List.count_cons]
      simp
    | succ j =>
      rw [List.set_cons_succ, List.count_cons, List.count_cons]
      have := ih (j := j) (by simpa using h)
      omega
theorem anyH_free {Inv : List Bool → Act → World → Prop} {ok : Nat → List Bool → Bool} {base : Array Bool} {fs : List Nat} (m : Nat) (hB : freeB md ops ok base fs = true)
    (hop : ∀ j i bs a w, fs[j]? = some i → bs.length = fs.length → bs[j]? = some false → ok j bs = true → S w → Inv bs a w → wpOp P ops Q i (fun a' w' => S w' ∧ Inv (bs.set j true) a' w') a w)
    (hdone : ∀ a w, S w → Inv (List.replicate fs.length true) a w → wpAnyH P md ops Q S m (setAll base fs (List.replicate fs.length true)) a w) :
    ∀ (d : Nat) (bs : List Bool) (a : Act) (w : World), bs.length = fs.length → bs.count false = d → S w → Inv bs a w → wpAnyH P md ops Q S (d + m) (setAll base fs bs) a w
  | d, bs, a, w, hl, hd, hS, hI => by
    have hs : freeStep md ops ok base fs bs = true := by
      have := List.all_eq_true.1 hB bs (by rw [← hl]; exact mem_allBs bs)
      exact this
    unfold freeStep at hs
    rw [Bool.or_eq_true] at hs
    rcases hs with hs | hs
    · have e := all_true hs
      have h0 : d = 0 := by
        rw [← hd, e, List.count_replicate]
        simp
      subst h0
      rw [hl] at e
      rw [e] at hI ⊢
      rw [Nat.zero_add]
      exact hdone a w hS hI
    · rw [Bool.and_eq_true] at hs
      have hne : Region.ready md ops (setAll base fs bs) ≠ [] := by
        intro h
        rw [h] at hs
        simp at hs
      have hall := List.all_eq_true.1 hs.2
      have hpos : ∃ d', d = d' + 1 := by
        obtain ⟨i, hi⟩ := List.exists_mem_of_ne_nil _ hne
        obtain ⟨j, _, hj⟩ := List.any_eq_true.1 (hall i hi)
        simp only [Bool.and_eq_true, decide_eq_true_eq] at hj
        have := count_set hj.2.2.1
        exact ⟨(bs.set j true).count false, by omega⟩
      obtain ⟨d', rfl⟩ := hpos
      rw [show d' + 1 + m = (d' + m) + 1 by omega]
      refine wpAnyH_all rfl hne fun i hi => ?_
      obtain ⟨j, _, hj⟩ := List.any_eq_true.1 (hall i hi)
      simp only [Bool.and_eq_true, decide_eq_true_eq, beq_iff_eq] at hj
      obtain ⟨h1, h0, h2, h3⟩ := hj
      have e3 : (setAll base fs bs).setIfInBounds i true = setAll base fs (bs.set j true) := Array.toList_inj.1 h3
      have hc := count_set h2
      refine wpOp_mono (fun a' w' h' => ⟨h'.1, ?_⟩) (hop j i bs a w h1 hl h2 h0 hS hI)
      rw [e3]
      exact anyH_free m hB hop hdone d' _ a' w' (by rw [List.length_set]; exact hl) (by omega) h'.1 h'.2
/-- Reads first. -/
def readsB (md : Region.Mode) (ops : Array Oper) : List Nat → Array Bool → Bool
  | [], _ => true
  | i :: is, listed => (Region.ready md ops listed).contains i && Region.free md ops listed i && readsB md ops is (listed.setIfInBounds i true)
def setR (listed : Array Bool) : List Nat → Array Bool
  | [] => listed
  | i :: is => setR (listed.setIfInBounds i true) is
def wpReads (P : Program) (ops : Array Oper) (S : World → Prop) (K : Act → World → Prop) : List Nat → Act → World → Prop
  | [], a, w => K a w
  | i :: is, a, w => ∃ o v, ops[i]? = some o ∧ YieldsIf P ops S o v a ∧ wpReads P ops S K is (a.put o.dst v) w
theorem anyH_reads {fuel : Nat} (hsel : Region.noSelect ops = true) (hQ : ∀ d v c a w, Q (.panic c) (a.put d v) w → Q (.panic c) a w) :
    ∀ (rs : List Nat) (listed : Array Bool) (a : Act) (w : World), readsB md ops rs listed = true → S w → wpReads P ops S (fun a' w' => wpAnyH P md ops Q S fuel (setR listed rs) a' w') rs a w → wpAnyH P md ops Q S (rs.length + fuel) listed a w
  | [], listed, a, w, _, _, h => by rw [List.length_nil, Nat.zero_add]; exact h
  | i :: is, listed, a, w, hB, hS, h => by
    simp only [readsB, Bool.and_eq_true] at hB
    obtain ⟨⟨hr, hf⟩, hB'⟩ := hB
    obtain ⟨o, v, ho, hy, hK⟩ := h
    rw [List.length_cons, show is.length + 1 + fuel = (is.length + fuel) + 1 by omega]
    exact wpAnyH_take ho hsel hf hr (fun c a w => hQ _ _ c a w) hy hS (anyH_reads hsel hQ is _ _ w hB' hS hK)
theorem reads_step {K : Act → World → Prop} {i : Nat} {is : List Nat} {a : Act} {w : World} {o : Oper} {v : Value} (ho : ops[i]? = some o) (hw : Region.wanted o (yielded ops a.tmps) = true) (hy : ∀ w, S w → (execOp a.eval o).run P w = .ok (.value v) w) (h : wpReads P ops S K is (a.put o.dst v) w) : wpReads P ops S K (i :: is) a w :=
  ⟨o, v, ho, .inl ⟨hw, hy⟩, h⟩
def freeOk (ops : Array Oper) (ok : Nat → List Bool → Bool) (rs fs : List Nat) (plan : PlanT) : Bool :=
  Region.noSelect ops && (readsB .any ops rs (Array.replicate ops.size false) && (freeB .any ops ok (setR (Array.replicate ops.size false) rs) fs && (decide (rs.length + fs.length ≤ ops.size) && planFB .any ops (ops.size - (rs.length + fs.length)) plan (setAll (setR (Array.replicate ops.size false) rs) fs (List.replicate fs.length true)))))
/-- A region: reads, then whichever order, then a plan of the rest. -/
theorem region_free {id : Nat} {a : Act} {w : World} (S : World → Prop) (Inv : List Bool → Act → World → Prop) (ok : Nat → List Bool → Bool) (rs fs : List Nat) (plan : PlanT) (hm : P.follows .mixedOrders = true) (hB : freeOk ops ok rs fs plan = true) (hS : S w.drew)
    (hop : ∀ j i bs a w, fs[j]? = some i → bs.length = fs.length → bs[j]? = some false → ok j bs = true → S w → Inv bs a w → wpOp P ops (NoPanic Q) i (fun a' w' => S w' ∧ Inv (bs.set j true) a' w') a w)
    (hdone : ∀ a w, S w → Inv (List.replicate fs.length true) a w → wpPlanT P ops (NoPanic Q) S (fun a' w' => NoPanic Q .normal a' w') plan a w)
    (h : wpReads P ops S (fun a' w' => S w' ∧ Inv (List.replicate fs.length false) a' w') rs a w.drew) : (Code.region id ops true).wp P Q a w := by
  simp only [freeOk, Bool.and_eq_true, decide_eq_true_eq] at hB
  obtain ⟨hsel, hr, hf, hle, hp⟩ := hB
  refine wp_region_noPanic (wp_region_held (S := S) hm ?_)
  have e : ops.size = rs.length + (fs.length + (ops.size - (rs.length + fs.length))) := by omega
  have hmono : ∀ (is : List Nat) (K K' : Act → World → Prop) (a : Act) (w : World), (∀ a w, K a w → K' a w) → wpReads P ops S K is a w → wpReads P ops S K' is a w := by
    intro is
    induction is with
    | nil => intro K K' a w hk h; exact hk a w h
    | cons i is ih =>
      intro K K' a w hk h
      obtain ⟨o, v, ho, hy, hK⟩ := h
      exact ⟨o, v, ho, hy, ih K K' _ w hk hK⟩
  rw [e]
  refine anyH_reads hsel (fun _ _ _ _ _ h => h) rs _ a w.drew (by rw [← e]; exact hr) hS ?_
  rw [← e]
  refine hmono rs _ _ a w.drew (fun a' w' h' => ?_) h
  have e2 : ∀ (fs : List Nat) (b : Array Bool), setAll b fs (List.replicate fs.length false) = b := by
    intro fs
    induction fs with
    | nil => intro b; rfl
    | cons i is ih => intro b; rw [List.length_cons, List.replicate_succ]; exact ih b
  have := anyH_free (P := P) (Q := NoPanic Q) (S := S) (Inv := Inv) (ok := ok) (base := setR (Array.replicate ops.size false) rs) (ops.size - (rs.length + fs.length)) hf hop
    (fun a w hS hI => anyH_planF hsel (fun _ _ _ _ _ h => h) _ _ _ a w hp hS (hdone a w hS hI))
    fs.length (List.replicate fs.length false) a' w' (List.length_replicate) (by rw [List.count_replicate]; simp) h'.1 h'.2
  rw [e2] at this
  exact this
end
end Go.Proofs.YtmeomdfmljanhaaGreat.Pg
/- What New's region has made so far, in whatever order; no condition. -/
namespace Go.Proofs.YtmeomdfmljanhaaGreat.Pg
set_option linter.unusedVariables false
open Go.ChangeShapes Go.WideShapes Go.ChangeAt Go.RowKit

theorem infoWt : (Tryz.prog.info? 86).map (fun i => (i.zero, i.size, i.bytes)) = some (some (.agg #[.int .i64 0, .bool false, .bool false, .bool false, .bool false, .bool false, .int .i64 0, .int .i64 0, .int .u32 0]), 9, 40) := by kernel_rfl
theorem infoEn : (Tryz.prog.info? 65).map (fun i => (i.zero, i.size, i.bytes)) = some (some (.agg #[.int .i64 0, .slice none 0 0]), 2, 32) := by kernel_rfl
theorem made_at (z : Array Value) (n i : Nat) (hi : i < n) (hz : 0 < z.size) : (madeCells z n).toList[i]? = some (z.getD (i % z.size) vz) := by
  unfold madeCells
  have hm : i % z.size < z.size := Nat.mod_lt _ hz
  rw [Array.getElem?_toList, Array.getElem?_map, Array.getElem?_range, if_pos hi]
  show some (z[i % z.size]!) = _
  rw [getElem!_pos z _ hm]
  congr 1
  rw [Array.getD_eq_getD_getElem?, Array.getElem?_eq_getElem hm]
  rfl
theorem mk_run {T E : TypeId} {i : TypeInfo} {z : Value} {size bytes : Nat} (ht : Tryz.prog.underlying T = some (.slice E)) (hi : Tryz.prog.info? E = some i) (hz : i.zero = some z) (hs : i.size = size) (hb : i.bytes = bytes) (hby : bytes ≤ 100) (k : Nat) (hk : k ≤ 1000) (w : World) {ρ : Operand → Value} {o : Oper} {l c : Operand} (hop : o.op = Op.makeSlice T l c) (hl : ρ l = .int .i64 (k : Int)) (hc : ρ c = .int .i64 (k : Int)) :
    (execOp ρ o).run Tryz.prog w = .ok (.value (.slice (some ⟨w.heap.size, 0, none⟩) k k)) (w.alloc (.cells (madeCells z.cells (k * size)) E)) := by
  have h := run_make (P := Tryz.prog) w T E i z ht hi hz .i64 .i64 (k : Int) (k : Int) (by omega) (Int.le_refl _) (by rw [hb]; have : (bytes : Int) * k ≤ 100 * 1000 := Int.mul_le_mul (by omega) (by omega) (by omega) (by omega); omega) (by omega)
  rw [Int.toNat_natCast, hs] at h
  simp [execOp, hop, hl, hc, h, Result.andThen]
/-- What number k of the region's operations has made, between two blocks. -/
def Made (c l : Nat) : Nat → Nat → Nat → Value → World → Prop
  | 0, lo, hi, v, w => ∃ ys, Keep w (fun W => GR 27 3 lo hi W v l (fun _ => List.replicate l (.int .i64 0)) ys c)
  | 1, lo, hi, v, w => ∃ ys, Keep w (fun W => GR 25 33 lo hi W v l (fun _ => List.replicate l (.int .u32 0)) ys c)
  | 2, lo, hi, v, w => Keep w (fun W => GO 86 9 lo hi W v c (madeCells #[.int .i64 0, .bool false, .bool false, .bool false, .bool false, .bool false, .int .i64 0, .int .i64 0, .int .u32 0] (c * 9)).toList)
  | 3, lo, hi, v, w => Keep w (fun W => GO 33 1 lo hi W v l (madeCells #[.int .u32 0] (l * 1)).toList)
  | 4, lo, hi, v, w => Keep w (fun W => GO 65 2 lo hi W v l (madeCells #[.int .i64 0, .slice none 0 0] (l * 2)).toList)
  | 5, lo, hi, v, w => Keep w (fun W => GO 3 1 lo hi W v l (madeCells #[.int .i64 0] (l * 1)).toList)
  | 6, lo, hi, v, w => ∃ B, v = .pointer (some ⟨B, 0, none⟩) ∧ lo ≤ B ∧ B < hi ∧ Keep w (fun W => Blk W B #[.slice none 0 0, .slice none 0 0, .slice none 0 0, .slice none 0 0, .slice none 0 0, .slice none 0 0, .slice none 0 0])
  | _, _, _, _, _ => True
theorem Made.mono {c l : Nat} : ∀ {k lo hi : Nat} {v : Value} {w w' : World}, Made c l k lo hi v w → Below w.heap.size w w' → Made c l k lo hi v w'
  | 0, _, _, _, _, _, ⟨ys, h⟩, hb => ⟨ys, h.mono hb⟩
  | 1, _, _, _, _, _, ⟨ys, h⟩, hb => ⟨ys, h.mono hb⟩
  | 2, _, _, _, _, _, h, hb => Keep.mono h hb
  | 3, _, _, _, _, _, h, hb => Keep.mono h hb
  | 4, _, _, _, _, _, h, hb => Keep.mono h hb
  | 5, _, _, _, _, _, h, hb => Keep.mono h hb
  | 6, _, _, _, _, _, ⟨B, h1, h2, h3, h4⟩, hb => ⟨B, h1, h2, h3, h4.mono hb⟩
  | _ + 7, _, _, _, _, _, _, _ => True.intro
def updV {α : Type} (X : Nat → α) (j : Nat) (v : α) : Nat → α := fun k => if k = j then v else X k
structure NI (w1 : World) (c l : Nat) (bs : List Bool) (X : Nat → Value) (w : World) : Prop where
  hb : Below w1.heap.size w1 w
  all_ : bs[7]? = some true → (∀ j, j < 6 → bs[j]? = some true) ∧ X 7 = .agg #[X 0, X 1, X 2, X 3, X 4, X 5, .slice none 0 0]
  ex : ∃ lo hi : Nat → Nat, (∀ k, bs[k]? = some true → Made c l k (lo k) (hi k) (X k) w ∧ w1.heap.size ≤ lo k ∧ lo k ≤ hi k ∧ hi k ≤ w.heap.size) ∧ ∀ i j, i ≠ j → bs[i]? = some true → bs[j]? = some true → hi i ≤ lo j ∨ hi j ≤ lo i
theorem NI.begin (w1 : World) (c l : Nat) (X : Nat → Value) : NI w1 c l (List.replicate 8 false) X w1.drew :=
  ⟨(Below.refl _ _).drew, fun h => (by simp at h), fun _ => 0, fun _ => 0, fun k h => (by rw [List.getElem?_replicate] at h; split at h <;> simp at h), fun i j _ h => (by rw [List.getElem?_replicate] at h; split at h <;> simp at h)⟩
theorem NI.step {w1 w w' : World} {c l j : Nat} {bs : List Bool} {X : Nat → Value} {v : Value} (h : NI w1 c l bs X w) (hj : bs[j]? = some false) (h7 : j < 7) (hb : Below w.heap.size w w') (hm : Made c l j w.heap.size w'.heap.size v w') : NI w1 c l (bs.set j true) (updV X j v) w' := by
  obtain ⟨h1, ha, lo, hi, h2, h3⟩ := h
  have hjl : j < bs.length := (List.getElem?_eq_some_iff.1 hj).1
  have hset : ∀ k, (bs.set j true)[k]? = some true → k ≠ j → bs[k]? = some true := fun k hk hkj => by
    rw [List.getElem?_set_ne (fun e => hkj e.symm)] at hk; exact hk
  refine ⟨h1.trans (hb.mono h1.size), fun h => ?_, updV lo j w.heap.size, updV hi j w'.heap.size, fun k hk => ?_, fun i k hik hi' hk => ?_⟩
  · obtain ⟨a1, a2⟩ := ha (hset 7 h (by omega))
    have hj6 : ¬ j < 6 := fun hlt => by rw [a1 j hlt] at hj; cases hj
    refine ⟨fun k hk => by rw [List.getElem?_set_ne (by omega)]; exact a1 k hk, ?_⟩
    have hu : ∀ k, k ≠ j → updV X j v k = X k := fun k hk => by unfold updV; rw [if_neg hk]
    rw [hu 7 (by omega), hu 0 (by omega), hu 1 (by omega), hu 2 (by omega), hu 3 (by omega), hu 4 (by omega), hu 5 (by omega), a2]
  · unfold updV
    by_cases e : k = j
    · subst e
      rw [if_pos rfl, if_pos rfl, if_pos rfl]
      exact ⟨hm, h1.size, hb.size, Nat.le_refl _⟩
    · rw [if_neg e, if_neg e, if_neg e]
      obtain ⟨m1, m2, m3, m4⟩ := h2 k (hset k hk e)
      exact ⟨m1.mono hb, m2, m3, Nat.le_trans m4 hb.size⟩
  · unfold updV
    by_cases e : i = j
    · subst e
      rw [if_pos rfl, if_pos rfl, if_neg (fun e => hik e.symm), if_neg (fun e => hik e.symm)]
      exact .inr (h2 k (hset k hk (fun e => hik e.symm))).2.2.2
    · rw [if_neg e, if_neg e]
      by_cases e2 : k = j
      · subst e2
        rw [if_pos rfl, if_pos rfl]
        exact .inl (h2 i (hset i hi' e)).2.2.2
      · rw [if_neg e2, if_neg e2]
        exact h3 i k hik (hset i hi' e) (hset k hk e2)
/-- The value is built. -/
theorem NI.built {w1 w : World} {c l : Nat} {bs : List Bool} {X : Nat → Value} (h : NI w1 c l bs X w) (h7 : bs[7]? = some false) (ha : ∀ j, j < 6 → bs[j]? = some true) : NI w1 c l (bs.set 7 true) (updV X 7 (.agg #[X 0, X 1, X 2, X 3, X 4, X 5, .slice none 0 0])) w := by
  obtain ⟨h1, _, lo, hi, h2, h3⟩ := h
  have hset : ∀ k, (bs.set 7 true)[k]? = some true → k ≠ 7 → bs[k]? = some true := fun k hk hkj => by
    rw [List.getElem?_set_ne (fun e => hkj e.symm)] at hk; exact hk
  have hu : ∀ k, k ≠ 7 → updV X 7 (.agg #[X 0, X 1, X 2, X 3, X 4, X 5, .slice none 0 0]) k = X k := fun k hk => by unfold updV; rw [if_neg hk]
  refine ⟨h1, fun _ => ⟨fun j hj => by rw [List.getElem?_set_ne (by omega)]; exact ha j hj, ?_⟩, updV lo 7 w.heap.size, updV hi 7 w.heap.size, fun k hk => ?_, fun i k hik hi' hk => ?_⟩
  · rw [hu 0 (by omega), hu 1 (by omega), hu 2 (by omega), hu 3 (by omega), hu 4 (by omega), hu 5 (by omega)]
    rfl
  · unfold updV
    by_cases e : k = 7
    · subst e
      exact ⟨True.intro, h1.size, Nat.le_refl _, Nat.le_refl _⟩
    · rw [if_neg e, if_neg e, if_neg e]
      exact h2 k (hset k hk e)
  · unfold updV
    by_cases e : i = 7
    · subst e
      rw [if_pos rfl, if_pos rfl, if_neg (fun e => hik e.symm), if_neg (fun e => hik e.symm)]
      exact .inr (h2 k (hset k hk (fun e => hik e.symm))).2.2.2
    · rw [if_neg e, if_neg e]
      by_cases e2 : k = 7
      · subst e2
        rw [if_pos rfl, if_pos rfl]
        exact .inl (h2 i (hset i hi' e)).2.2.2
      · rw [if_neg e2, if_neg e2]
        exact h3 i k hik (hset i hi' e) (hset k hk e2)
end Go.Proofs.YtmeomdfmljanhaaGreat.Pg
/- A system that is being made: what New's loop keeps; no condition. -/
namespace Go.Proofs.YtmeomdfmljanhaaGreat.Pg
set_option linter.unusedVariables false
open Go.ChangeShapes Go.WideShapes Go.ChangeAt Go.RowKit

theorem GO.set {T : TypeId} {s lo hi : Nat} {W : World} {v : Value} {n : Nat} {xs : List Value} (h : GO T s lo hi W v n xs) {R : Nat} (hR : R < lo ∨ hi ≤ R) (j : Nat) (u : Value) : GO T s lo hi (W.setCell ⟨R, j, none⟩ u) v n xs :=
  ⟨ownsRow_setCell_other h.1 (fun e => by have a := (h.1.lt R e).1; have b := h.2 R e; omega) u, h.2⟩
theorem GR.set {T1 T2 : TypeId} {lo hi : Nat} {W : World} {v : Value} {l : Nat} {cs : Nat → List Value} {ys : List Value} {n : Nat} (h : GR T1 T2 lo hi W v l cs ys n) {R : Nat} (hR : R < lo ∨ hi ≤ R) (j : Nat) (u : Value) : GR T1 T2 lo hi (W.setCell ⟨R, j, none⟩ u) v l cs ys n :=
  ⟨⟨(h.row.set hR j u).1, fun k hk => ((h.rows hk).set hR j u).1, h.o.sep, h.o.two, h.o.rest⟩, h.h0, h.h1⟩
theorem Rw.below {W W' : World} {x : Pa} {lo hi n m : Nat} {g : Nat → Value} (h : Rw W x lo hi n m g) (hb : Below W.heap.size W W') : Rw W' x lo hi n m g :=
  ⟨h.lo, h.hi, Nat.lt_of_lt_of_le h.lt hb.size, h.cap, fun j hj => (hb.cell (p := ⟨x.b, x.o + j, none⟩) h.lt).trans (h.c j hj), fun j => (hb.frozen (p := ⟨x.b, j, none⟩) h.lt).trans (h.f j)⟩
theorem Rw.set {W : World} {x : Pa} {lo hi n m : Nat} {g : Nat → Value} (h : Rw W x lo hi n m g) {R : Nat} (hR : R < lo ∨ hi ≤ R) (j : Nat) (u : Value) : Rw (W.setCell ⟨R, j, none⟩ u) x lo hi n m g :=
  ⟨h.lo, h.hi, by simpa using h.lt, h.cap, fun i hi => by
    rw [World.cell?_setCell_other _ _ _ _ (by intro e; injection e with e; have a := h.lo; have b := h.hi; omega)]
    exact h.c i hi, fun i => by simpa using h.f i⟩
theorem Rw.put {W : World} {x : Pa} {lo hi n m : Nat} {g : Nat → Value} (h : Rw W x lo hi n m g) {j : Nat} (hj : j < m) (u : Value) : Rw (W.setCell ⟨x.b, x.o + j, none⟩ u) x lo hi n m (fun i => if i = j then u else g i) :=
  ⟨h.lo, h.hi, by simpa using h.lt, h.cap, fun i hi => by
    by_cases e : i = j
    · subst e
      rw [if_pos rfl]
      exact World.cell?_setCell_same _ _ _ (h.c _ hi)
    · rw [if_neg e, World.cell?_setCell_other _ _ _ _ (by intro e2; injection e2 with e2 e3; omega)]
      exact h.c i hi, fun i => by simpa using h.f i⟩
theorem Rw.cast {W : World} {x : Pa} {lo hi n m : Nat} {g g' : Nat → Value} (h : Rw W x lo hi n m g) (e : ∀ j, j < m → g j = g' j) : Rw W x lo hi n m g' :=
  ⟨h.lo, h.hi, h.lt, h.cap, fun j hj => (h.c j hj).trans (by rw [e j hj]), h.f⟩
theorem wt_none {r : Nat} (h : r < 9) : (#[Value.int .i64 0, .bool false, .bool false, .bool false, .bool false, .bool false, .int .i64 0, .int .i64 0, .int .u32 0] : Array Value).getD r vz = (wtL Pr.Wt.none).getD r vz := by
  rcases (by omega : r = 0 ∨ r = 1 ∨ r = 2 ∨ r = 3 ∨ r = 4 ∨ r = 5 ∨ r = 6 ∨ r = 7 ∨ r = 8) with x | x | x | x | x | x | x | x | x <;> subst x <;> rfl
/-- What is made when i lines of the home's list are laid. -/
structure NS (W : World) (c l i m : Nat) (lo hi : Nat → Nat) (v0 v1 v2 v3 v4 v5 : Value) (y0 y1 : List Value) (A : Tg → Pa) : Prop where
  g0 : GR 27 3 (lo 0) (hi 0) W v0 l (fun _ => List.replicate l (.int .i64 0)) y0 c
  g1 : GR 25 33 (lo 1) (hi 1) W v1 l (fun _ => List.replicate l (.int .u32 0)) y1 c
  g2 : GO 86 9 (lo 2) (hi 2) W v2 c (madeCells #[.int .i64 0, .bool false, .bool false, .bool false, .bool false, .bool false, .int .i64 0, .int .i64 0, .int .u32 0] (c * 9)).toList
  g3 : GO 33 1 (lo 3) (hi 3) W v3 l (madeCells #[.int .u32 0] (l * 1)).toList
  g5 : GO 3 1 (lo 5) (hi 5) W v5 l (madeCells #[.int .i64 0] (l * 1)).toList
  d : Rw W (paOf v4) (lo 4) (hi 4) l (l * 2) (fun j => if j % 2 = 0 then .int .i64 0 else if j / 2 < i then (A (.sh (j / 2))).sl c else .slice none 0 0)
  e4 : v4 = (paOf v4).sl l
  sh : ∀ k, k < i → (A (.sh k)).b < W.heap.size ∧ (∀ j, j < c → W.cell? ⟨(A (.sh k)).b, (A (.sh k)).o + j, none⟩ = some (.bool false)) ∧ c ≤ (A (.sh k)).c ∧ m ≤ (A (.sh k)).b
  hm : ∀ q, q < 6 → hi q ≤ m
  dis : ∀ i j, i < 6 → j < 6 → i ≠ j → hi i ≤ lo j ∨ hi j ≤ lo i
section
variable {W W' : World} {c l i m : Nat} {lo hi : Nat → Nat} {v0 v1 v2 v3 v4 v5 : Value} {y0 y1 : List Value} {A : Tg → Pa}
theorem NS.below (h : NS W c l i m lo hi v0 v1 v2 v3 v4 v5 y0 y1 A) (hb : Below W.heap.size W W') : NS W' c l i m lo hi v0 v1 v2 v3 v4 v5 y0 y1 A :=
  ⟨h.g0.below hb, h.g1.below hb, h.g2.below hb, h.g3.below hb, h.g5.below hb, h.d.below hb, h.e4, fun k hk => by
    obtain ⟨a, b, d, e⟩ := h.sh k hk
    exact ⟨Nat.lt_of_lt_of_le a hb.size, fun j hj => (hb.cell (p := ⟨(A (.sh k)).b, (A (.sh k)).o + j, none⟩) a).trans (b j hj), d, e⟩, h.hm, h.dis⟩
theorem NS.set (h : NS W c l i m lo hi v0 v1 v2 v3 v4 v5 y0 y1 A) {R : Nat} (hR : ∀ q, q < 6 → R < lo q ∨ hi q ≤ R) (hm : R < m) (j : Nat) (u : Value) : NS (W.setCell ⟨R, j, none⟩ u) c l i m lo hi v0 v1 v2 v3 v4 v5 y0 y1 A :=
  ⟨h.g0.set (hR 0 (by omega)) j u, h.g1.set (hR 1 (by omega)) j u, h.g2.set (hR 2 (by omega)) j u, h.g3.set (hR 3 (by omega)) j u, h.g5.set (hR 5 (by omega)) j u, h.d.set (hR 4 (by omega)) j u, h.e4, fun k hk => by
    obtain ⟨a, b, d, e⟩ := h.sh k hk
    refine ⟨by simpa using a, fun i hi => ?_, d, e⟩
    rw [World.cell?_setCell_other _ _ _ _ (by intro e2; injection e2 with e2; omega)]
    exact b i hi, h.hm, h.dis⟩
/-- One more line of the home's list. -/
theorem NS.step (h : NS W c l i m lo hi v0 v1 v2 v3 v4 v5 y0 y1 A) (hil : i < l) {b o cc : Nat} (hb : b < W.heap.size) (hc : ∀ j, j < c → W.cell? ⟨b, o + j, none⟩ = some (.bool false)) (hcc : c ≤ cc) (hm : m ≤ b) :
    NS ((W.setCell ⟨(paOf v4).b, (paOf v4).o + i * 2, none⟩ (.int .i64 0)).setCell ⟨(paOf v4).b, (paOf v4).o + (i * 2 + 1), none⟩ (.slice (some ⟨b, o, none⟩) c cc)) c l (i + 1) m lo hi v0 v1 v2 v3 v4 v5 y0 y1 (fun t => if t = .sh i then ⟨b, o, cc⟩ else A t) := by
  have hlo := h.d.lo
  have hhi := h.d.hi
  have hR : ∀ q, q < 6 → q ≠ 4 → (paOf v4).b < lo q ∨ hi q ≤ (paOf v4).b := fun q hq h4 => by
    have := h.dis q 4 hq (by omega) h4
    omega
  have hm4 := h.hm 4 (by omega)
  refine ⟨(h.g0.set (hR 0 (by omega) (by omega)) _ _).set (hR 0 (by omega) (by omega)) _ _, (h.g1.set (hR 1 (by omega) (by omega)) _ _).set (hR 1 (by omega) (by omega)) _ _, (h.g2.set (hR 2 (by omega) (by omega)) _ _).set (hR 2 (by omega) (by omega)) _ _, (h.g3.set (hR 3 (by omega) (by omega)) _ _).set (hR 3 (by omega) (by omega)) _ _, (h.g5.set (hR 5 (by omega) (by omega)) _ _).set (hR 5 (by omega) (by omega)) _ _, ?_, h.e4, fun k hk => ?_, h.hm, h.dis⟩
  · refine ((h.d.put (j := i * 2) (by omega) _).put (j := i * 2 + 1) (by omega) _).cast (fun j hj => ?_)
    by_cases e1 : j = i * 2 + 1
    · subst e1
      have e2 : (i * 2 + 1) / 2 = i := by omega
      have e3 : ¬ (i * 2 + 1) % 2 = 0 := by omega
      rw [if_pos rfl, if_neg e3, e2, if_pos (by omega), if_pos rfl]
      rfl
    · rw [if_neg e1]
      by_cases e2 : j = i * 2
      · subst e2
        rw [if_pos rfl, if_pos (by omega)]
      · rw [if_neg e2]
        by_cases e3 : j % 2 = 0
        · rw [if_pos e3, if_pos e3]
        · rw [if_neg e3, if_neg e3]
          by_cases e4 : j / 2 < i
          · rw [if_pos e4, if_pos (by omega), if_neg (by intro e; injection e with e; omega)]
          · rw [if_neg e4, if_neg (by omega)]
  · have hoth : ∀ (b' o' : Nat), m ≤ b' → ∀ j', (⟨b', o' + j', none⟩ : Addr) ≠ ⟨(paOf v4).b, (paOf v4).o + i * 2, none⟩ ∧ (⟨b', o' + j', none⟩ : Addr) ≠ ⟨(paOf v4).b, (paOf v4).o + (i * 2 + 1), none⟩ := fun b' o' hb' j' => ⟨by intro e; injection e with e; omega, by intro e; injection e with e; omega⟩
    by_cases e : k = i
    · subst e
      rw [if_pos rfl]
      refine ⟨by simpa using hb, fun j hj => ?_, hcc, hm⟩
      rw [World.cell?_setCell_other _ _ _ _ (fun e => (hoth b o hm j).2 e.symm), World.cell?_setCell_other _ _ _ _ (fun e => (hoth b o hm j).1 e.symm)]
      exact hc j hj
    · rw [if_neg (by intro e2; injection e2 with e2; exact e e2)]
      obtain ⟨a1, a2, a3, a4⟩ := h.sh k (by omega)
      refine ⟨by simpa using a1, fun j hj => ?_, a3, a4⟩
      rw [World.cell?_setCell_other _ _ _ _ (fun e => (hoth _ _ a4 j).2 e.symm), World.cell?_setCell_other _ _ _ _ (fun e => (hoth _ _ a4 j).1 e.symm)]
      exact a2 j hj
/-- All of them: a system of noughts. -/
theorem NS.mem (h : NS W c l l m lo hi v0 v1 v2 v3 v4 v5 y0 y1 A) (hc1 : 1 ≤ c) (hc4 : c ≤ 4) (hl1 : 1 ≤ l) (hl16 : l ≤ 16) :
    Mem W 0 c l (mkA A v0 v1 v2 v3 v4 v5 y0 y1 0) ⟨fun _ _ => 0, fun _ _ => 0, fun _ => Pr.Wt.none, fun _ => 0, fun _ => 0, fun _ _ => false, fun _ => 0⟩ vz vz ∧ v0 = (mkA A v0 v1 v2 v3 v4 v5 y0 y1 0 .st).sl c ∧ v1 = (mkA A v0 v1 v2 v3 v4 v5 y0 y1 0 .va).sl c ∧ v2 = (mkA A v0 v1 v2 v3 v4 v5 y0 y1 0 .wt).sl c ∧ v3 = (mkA A v0 v1 v2 v3 v4 v5 y0 y1 0 .ho).sl l ∧ v4 = (mkA A v0 v1 v2 v3 v4 v5 y0 y1 0 .di).sl l ∧ v5 = (mkA A v0 v1 v2 v3 v4 v5 y0 y1 0 .bu).sl l :=
  mem_new hc1 hc4 hl1 hl16 h.g0 h.g1 h.g2 h.g3
    (h.d.cast (fun j hj => by
      by_cases e : j % 2 = 0
      · rw [if_pos e, if_pos e]; rfl
      · rw [if_neg e, if_neg e, if_pos (by omega)])) h.e4 h.g5
    (fun j i hj hi => by rw [List.getElem?_replicate, if_pos hi]; rfl) (fun j i hj hi => by rw [List.getElem?_replicate, if_pos hi]; rfl)
    (fun i hi => by
      rw [made_at _ _ _ hi (by decide)]
      exact congrArg some (wt_none (r := i % 9) (Nat.mod_lt i (by decide))))
    (fun i hi => by rw [made_at #[.int .u32 0] (l * 1) i (by omega) (by decide)]; rw [show i % (#[Value.int .u32 0] : Array Value).size = 0 from Nat.mod_one i]; rfl)
    (fun i hi => by rw [made_at #[.int .i64 0] (l * 1) i (by omega) (by decide)]; rw [show i % (#[Value.int .i64 0] : Array Value).size = 0 from Nat.mod_one i]; rfl)
    (fun k hk => by
      obtain ⟨a1, a2, a3, a4⟩ := h.sh k hk
      exact ⟨a1, a2, a3, fun q hq => .inr (Nat.le_trans (h.hm q hq) a4)⟩) h.dis
end
/-- The region's made lists, in all that comes. -/
theorem NI.done {w1 w : World} {c l : Nat} {X : Nat → Value} (h : NI w1 c l (List.replicate 8 true) X w) (hc1 : 1 ≤ c) (hl1 : 1 ≤ l) :
    ∃ (lo hi : Nat → Nat) (y0 y1 : List Value) (B : Nat), (∀ q, q < 7 → w1.heap.size ≤ lo q ∧ hi q ≤ w.heap.size) ∧ X 6 = .pointer (some ⟨B, 0, none⟩) ∧ X 7 = .agg #[X 0, X 1, X 2, X 3, X 4, X 5, .slice none 0 0] ∧ lo 6 ≤ B ∧ B < hi 6 ∧ (∀ q, q < 6 → B < lo q ∨ hi q ≤ B) ∧
      (∃ p0 p1 p2 p3 p4 p5 : Pa, X 0 = p0.sl c ∧ X 1 = p1.sl c ∧ X 2 = p2.sl c ∧ X 3 = p3.sl l ∧ X 4 = p4.sl l ∧ X 5 = p5.sl l) ∧
      Keep w (fun W => NS W c l 0 w.heap.size lo hi (X 0) (X 1) (X 2) (X 3) (X 4) (X 5) y0 y1 (fun _ => ⟨0, 0, 0⟩) ∧ Blk W B #[.slice none 0 0, .slice none 0 0, .slice none 0 0, .slice none 0 0, .slice none 0 0, .slice none 0 0, .slice none 0 0]) := by
  obtain ⟨hb, ha, lo, hi, h2, h3⟩ := h
  have ht : ∀ k, k < 8 → (List.replicate 8 true)[k]? = some true := fun k hk => by rw [List.getElem?_replicate, if_pos hk]
  obtain ⟨y0, m0⟩ := (h2 0 (ht 0 (by omega))).1
  obtain ⟨y1, m1⟩ := (h2 1 (ht 1 (by omega))).1
  have m2 : Keep w _ := (h2 2 (ht 2 (by omega))).1
  have m3 : Keep w _ := (h2 3 (ht 3 (by omega))).1
  have m4 : Keep w _ := (h2 4 (ht 4 (by omega))).1
  have m5 : Keep w _ := (h2 5 (ht 5 (by omega))).1
  obtain ⟨B, e6, b1, b2, m6⟩ := (h2 6 (ht 6 (by omega))).1
  have hr := Below.refl w.heap.size w
  have d4 : ∀ W, Below w.heap.size w W → Rw W (paOf (X 4)) (lo 4) (hi 4) l (l * 2) (fun j => if j % 2 = 0 then .int .i64 0 else .slice none 0 0) ∧ X 4 = (paOf (X 4)).sl l := fun W hW => (m4 W hW).rw_ hl1 (fun j hj => by
    rw [made_at _ _ _ hj (by decide)]
    show some ((#[Value.int .i64 0, .slice none 0 0] : Array Value).getD (j % 2) vz) = _
    rcases Nat.mod_two_eq_zero_or_one j with e | e
    · rw [e]; rfl
    · rw [e]; rfl)
  refine ⟨lo, hi, y0, y1, B, fun q hq => ⟨(h2 q (ht q (by omega))).2.1, (h2 q (ht q (by omega))).2.2.2⟩, e6, (ha (ht 7 (by omega))).2, b1, b2, fun q hq => ?_, ?_, fun W hW => ⟨⟨m0 W hW, m1 W hW, m2 W hW, m3 W hW, m5 W hW, (d4 W hW).1.cast (fun j hj => ?_), (d4 W hW).2, fun k hk => absurd hk (Nat.not_lt_zero _), fun q hq => (h2 q (ht q (by omega))).2.2.2, fun i j hi hj hij => h3 i j hij (ht i (by omega)) (ht j (by omega))⟩, m6 W hW⟩⟩
  · have := h3 6 q (by omega) (ht 6 (by omega)) (ht q (by omega))
    omega
  · exact ⟨_, _, _, _, _, _, ((m0 w hr).row.rw_ hc1 (g := fun j => y0.getD j vz) (fun j hj => by rw [List.getD_eq_getElem?_getD, List.getElem?_eq_getElem (by rw [(m0 w hr).row.1.1]; exact hj)]; rfl)).2, ((m1 w hr).row.rw_ hc1 (g := fun j => y1.getD j vz) (fun j hj => by rw [List.getD_eq_getElem?_getD, List.getElem?_eq_getElem (by rw [(m1 w hr).row.1.1]; exact hj)]; rfl)).2,
      ((m2 w hr).rw_ hc1 (g := fun j => (madeCells #[.int .i64 0, .bool false, .bool false, .bool false, .bool false, .bool false, .int .i64 0, .int .i64 0, .int .u32 0] (c * 9)).toList.getD j vz) (fun j hj => by rw [List.getD_eq_getElem?_getD, List.getElem?_eq_getElem (by rw [(m2 w hr).1.1]; exact hj)]; rfl)).2,
      ((m3 w hr).rw_ hl1 (g := fun j => (madeCells #[.int .u32 0] (l * 1)).toList.getD j vz) (fun j hj => by rw [List.getD_eq_getElem?_getD, List.getElem?_eq_getElem (by rw [(m3 w hr).1.1]; exact hj)]; rfl)).2, (d4 w hr).2,
      ((m5 w hr).rw_ hl1 (g := fun j => (madeCells #[.int .i64 0] (l * 1)).toList.getD j vz) (fun j hj => by rw [List.getD_eq_getElem?_getD, List.getElem?_eq_getElem (by rw [(m5 w hr).1.1]; exact hj)]; rfl)).2⟩
  · by_cases e : j % 2 = 0
    · rw [if_pos e, if_pos e]
    · rw [if_neg e, if_neg e, if_neg (Nat.not_lt_zero _)]
/-- What the six lists look like, once they are made. -/
theorem NI.forms {w1 w : World} {c l : Nat} {bs : List Bool} {X : Nat → Value} (h : NI w1 c l bs X w) (ha : ∀ j, j < 6 → bs[j]? = some true) (hc1 : 1 ≤ c) (hl1 : 1 ≤ l) : ∃ p0 p1 p2 p3 p4 p5 : Pa, X 0 = p0.sl c ∧ X 1 = p1.sl c ∧ X 2 = p2.sl c ∧ X 3 = p3.sl l ∧ X 4 = p4.sl l ∧ X 5 = p5.sl l := by
  obtain ⟨hb, _, lo, hi, h2, h3⟩ := h
  obtain ⟨y0, m0⟩ := (h2 0 (ha 0 (by omega))).1
  obtain ⟨y1, m1⟩ := (h2 1 (ha 1 (by omega))).1
  have m2 : Keep w _ := (h2 2 (ha 2 (by omega))).1
  have m3 : Keep w _ := (h2 3 (ha 3 (by omega))).1
  have m4 : Keep w _ := (h2 4 (ha 4 (by omega))).1
  have m5 : Keep w _ := (h2 5 (ha 5 (by omega))).1
  have hr := Below.refl w.heap.size w
  have go : ∀ {T : TypeId} {s a b : Nat} {v : Value} {n : Nat} {xs : List Value}, GO T s a b w v n xs → 0 < n → v = (paOf v).sl n := fun {T s a b v n xs} h h0 => (h.rw_ h0 (g := fun j => xs.getD j vz) (fun j hj => by rw [List.getD_eq_getElem?_getD, List.getElem?_eq_getElem (by rw [h.1.1]; exact hj)]; rfl)).2
  exact ⟨_, _, _, _, _, _, go (m0 w hr).row hc1, go (m1 w hr).row hc1, go (m2 w hr) hc1, go (m3 w hr) hl1, go (m4 w hr) hl1, go (m5 w hr) hl1⟩
end Go.Proofs.YtmeomdfmljanhaaGreat.Pg
/- New. -/
namespace Go.Proofs.YtmeomdfmljanhaaGreat.Pg
set_option linter.unusedVariables false
open Go.ChangeShapes Go.WideShapes Go.ChangeAt Go.RowKit

/-- New's act within its region. -/
def nAct (c l R : Nat) (X : Nat → Value) : Act := { tmps := #[Value.int .i64 c, Value.int .i64 l, undef, undef, Value.pointer (some ⟨R, 0, none⟩), Value.int .i64 0, X 6, undef, Value.int .i64 c, Value.int .i64 l, Value.bool true, Value.bool false, undef, Value.int .i64 c, Value.int .i64 l, X 0, Value.int .i64 c, Value.int .i64 l, X 1, Value.int .i64 c, X 2, Value.int .i64 l, X 3, Value.int .i64 l, X 4, Value.int .i64 l, X 5, X 7, undef, undef, undef, undef, undef, undef, undef, undef, undef, undef, undef, undef, undef, undef, undef, undef, undef], defers := [] }

theorem NS.sv {wr W : World} {c l m R : Nat} {lo hi : Nat → Nat} {p0 p1 p2 p3 p4 p5 : Pa} {y0 y1 : List Value} {A : Tg → Pa} (h : NS wr c l l m lo hi (.slice (some ⟨p0.b, p0.o, none⟩) c p0.c) (.slice (some ⟨p1.b, p1.o, none⟩) c p1.c) (.slice (some ⟨p2.b, p2.o, none⟩) c p2.c) (.slice (some ⟨p3.b, p3.o, none⟩) l p3.c) (.slice (some ⟨p4.b, p4.o, none⟩) l p4.c) (.slice (some ⟨p5.b, p5.o, none⟩) l p5.c) y0 y1 A) (hc1 : 1 ≤ c) (hc4 : c ≤ 4) (hl1 : 1 ≤ l) (hl16 : l ≤ 16) (hR : ∀ q, q < 6 → R < lo q) (hm : R < m)
    (hw : W = ((((((wr.setCell ⟨R, 0, none⟩ (.slice (some ⟨p0.b, p0.o, none⟩) c p0.c)).setCell ⟨R, 1, none⟩ (.slice (some ⟨p1.b, p1.o, none⟩) c p1.c)).setCell ⟨R, 2, none⟩ (.slice (some ⟨p2.b, p2.o, none⟩) c p2.c)).setCell ⟨R, 3, none⟩ (.slice (some ⟨p3.b, p3.o, none⟩) l p3.c)).setCell ⟨R, 4, none⟩ (.slice (some ⟨p4.b, p4.o, none⟩) l p4.c)).setCell ⟨R, 5, none⟩ (.slice (some ⟨p5.b, p5.o, none⟩) l p5.c)).setCell ⟨R, 6, none⟩ (.slice none 0 0)) : Sv W (.agg #[.slice (some ⟨p0.b, p0.o, none⟩) c p0.c, .slice (some ⟨p1.b, p1.o, none⟩) c p1.c, .slice (some ⟨p2.b, p2.o, none⟩) c p2.c, .slice (some ⟨p3.b, p3.o, none⟩) l p3.c, .slice (some ⟨p4.b, p4.o, none⟩) l p4.c, .slice (some ⟨p5.b, p5.o, none⟩) l p5.c, .slice none 0 0]) c l ⟨fun _ _ => 0, fun _ _ => 0, fun _ => Pr.Wt.none, fun _ => 0, fun _ => 0, fun _ _ => false, fun _ => 0⟩ [] := by
  have hq : ∀ q, q < 6 → R < lo q ∨ hi q ≤ R := fun q hq => .inl (hR q hq)
  have h7 : NS W c l l m lo hi (.slice (some ⟨p0.b, p0.o, none⟩) c p0.c) (.slice (some ⟨p1.b, p1.o, none⟩) c p1.c) (.slice (some ⟨p2.b, p2.o, none⟩) c p2.c) (.slice (some ⟨p3.b, p3.o, none⟩) l p3.c) (.slice (some ⟨p4.b, p4.o, none⟩) l p4.c) (.slice (some ⟨p5.b, p5.o, none⟩) l p5.c) y0 y1 A := by
    rw [hw]
    exact ((((((h.set hq hm 0 _).set hq hm 1 _).set hq hm 2 _).set hq hm 3 _).set hq hm 4 _).set hq hm 5 _).set hq hm 6 _
  exact ⟨_, none, 0, [], rfl, (h7.mem hc1 hc4 hl1 hl16).1, Pl.nil _ _⟩

set_option maxHeartbeats 4000000 in
set_option maxRecDepth 100000 in
theorem new_ok (c l : Nat) (w : World) (hc1 : 1 ≤ c) (hc4 : c ≤ 4) (hl1 : 1 ≤ l) (hl4 : l ≤ 4) :
    Calls Tryz.prog 23 #[.int .i64 c, .int .i64 l] w fun e w' => ∃ Y : Pr.Sy, (∀ k, (Y.li k).last = 0) ∧ OutZ w w' e c l ⟨⟨fun _ _ => 0, fun _ _ => 0, fun _ => Pr.Wt.none, fun _ => 0, fun _ => 0, fun _ _ => false, fun _ => 0⟩, [], Y⟩ 0 := by
  have HM := Lib.hid (fun W => mayBe_t c l W hc1 hc4 hl1 (by omega))
  have HN := Lib.hid (fun W => Di.new_any c W)
  have HNC : Hid (Di.newC c = ⟨0, List.replicate c false⟩ ∧ Di.newX c = 0) := Lib.hid (by
    have e : Di.mayN (c : Int) = true := Di.mayN_iff.2 ⟨by omega, by omega⟩
    constructor
    · unfold Di.newC; rw [e, if_pos rfl, Int.toNat_natCast]
    · unfold Di.newX; rw [e, if_pos rfl])
  obtain ⟨R, hR⟩ : ∃ R, R = w.heap.size := ⟨_, rfl⟩
  obtain ⟨w1, hw1⟩ : ∃ w1, w1 = w.alloc (.cells #[.slice none 0 0, .slice none 0 0, .slice none 0 0, .slice none 0 0, .slice none 0 0, .slice none 0 0, .slice none 0 0] 32) := ⟨_, rfl⟩
  have HB1 : Hid (Below w.heap.size w w1) := Lib.hid (by rw [hw1]; exact (Below.refl _ _).alloc (Nat.le_refl _) _)
  have HKR : Hid (Blk w1 R #[.slice none 0 0, .slice none 0 0, .slice none 0 0, .slice none 0 0, .slice none 0 0, .slice none 0 0, .slice none 0 0]) := Lib.hid (by rw [hw1, hR]; exact Blk.new _ _ _)
  have HKR1 := Lib.hid HKR.out
  have HB0 := Lib.hid HB1.out
  have HW1 := Lib.hid hw1
  have HRR := Lib.hid hR
  clear hw1 hR
  go_enter Tryz.func23, Tryz.ntmps23
  go_upto_region 1 with fail
  rw [← HRR.out, ← HW1.out]
  go_wp2_with fail
  refine (HM.out w1).mono ?_
  rintro e w2 ⟨rfl, e2⟩
  rw [e2]
  clear e2
  go_upto_region 3 with fail
  refine region_free (fun _ => True) (fun bs a v => ∃ X : Nat → Value, a = nAct c l R X ∧ NI w1 c l bs X v) (fun j bs => if j = 7 then (List.range 6).all (fun k => bs[k]? == some true) else true) [0, 1, 3, 4, 6, 8, 10, 12] [2, 5, 7, 9, 11, 13, 15, 14] (.one 16 .stop) (by kernel_rfl) (by kernel_rfl) trivial ?hop ?hdone ?hreads
  case hreads =>
    iterate 8
      refine reads_step (v := ?_) rfl (by rfl) ?_ ?_
      rotate_left
      · intro w' hS
        go_simp
        try with_reducible rfl
      try simp only [Act.put, List.setIfInBounds_toArray, List.set_cons_zero, List.set_cons_succ, List.getElem_toArray, List.getElem_cons_zero, List.getElem_cons_succ]
    exact ⟨trivial, fun _ => undef, rfl, NI.begin w1 c l _⟩
  case hop =>
    intro j i bs a v hj hl hb hok _ hI
    obtain ⟨X, ea, hni⟩ := hI
    subst ea
    have hj8 : j < 8 := (List.getElem?_eq_some_iff.1 hj).1
    rcases (by omega : j = 0 ∨ j = 1 ∨ j = 2 ∨ j = 3 ∨ j = 4 ∨ j = 5 ∨ j = 6 ∨ j = 7) with x | x | x | x | x | x | x | x
    · subst x
      have e : 2 = i := by injection hj
      subst e
      refine op_call (F := 58) (args := #[.int .i64 c, .int .i64 l]) rfl (by rfl) (by unfold nAct; go_simp) ?_
      refine (rows_int c l v hc1 (by omega) hl1 (by omega)).mono ?_
      rintro e v2 ⟨u, ys, rfl, ho, hb2⟩
      exact ⟨u, rfl, trivial, updV X 0 u, rfl, hni.step hb (by omega) hb2 ⟨ys, fun W hW => (GR.of ho).below hW⟩⟩
    · subst x
      have e : 5 = i := by injection hj
      subst e
      refine op_call (F := 59) (args := #[.int .i64 c, .int .i64 l]) rfl (by rfl) (by unfold nAct; go_simp) ?_
      refine (rows_u32 c l v hc1 (by omega) hl1 (by omega)).mono ?_
      rintro e v2 ⟨u, ys, rfl, ho, hb2⟩
      exact ⟨u, rfl, trivial, updV X 1 u, rfl, hni.step hb (by omega) hb2 ⟨ys, fun W hW => (GR.of ho).below hW⟩⟩
    · subst x
      have e : 7 = i := by injection hj
      subst e
      obtain ⟨ii, hi0, hi1, hi2, hi3⟩ := info_parts infoWt
      refine op_make (v := .slice (some ⟨v.heap.size, 0, none⟩) c c) (w1 := v.alloc (.cells (madeCells #[.int .i64 0, .bool false, .bool false, .bool false, .bool false, .bool false, .int .i64 0, .int .i64 0, .int .u32 0] (c * 9)) 86)) rfl (by rfl) (mk_run (T := 24) (E := 86) (i := ii) Tryz.underlying24 hi0 hi1 hi2 hi3 (by omega) c (by omega) v rfl rfl rfl) ?_
      have hb2 : Below v.heap.size v (v.alloc (.cells (madeCells #[.int .i64 0, .bool false, .bool false, .bool false, .bool false, .bool false, .int .i64 0, .int .i64 0, .int .u32 0] (c * 9)) 86)) := (Below.refl _ _).alloc (Nat.le_refl _) _
      refine ⟨trivial, updV X 2 _, rfl, hni.step hb (by omega) hb2 ?_⟩
      exact fun W hW => (GO.of (World.ownsRow_lit v _ c (Nat.le_refl _) (by unfold maxLen; omega) (size_madeCells _ _))).below hW
    · subst x
      have e : 9 = i := by injection hj
      subst e
      obtain ⟨ii, hi0, hi1, hi2, hi3⟩ := info_parts zinfo_rows_u322
      refine op_make (v := .slice (some ⟨v.heap.size, 0, none⟩) l l) (w1 := v.alloc (.cells (madeCells #[.int .u32 0] (l * 1)) 33)) rfl (by rfl) (mk_run (T := 25) (E := 33) (i := ii) Tryz.underlying25 hi0 hi1 hi2 hi3 (by omega) l (by omega) v rfl rfl rfl) ?_
      have hb2 : Below v.heap.size v (v.alloc (.cells (madeCells #[.int .u32 0] (l * 1)) 33)) := (Below.refl _ _).alloc (Nat.le_refl _) _
      refine ⟨trivial, updV X 3 _, rfl, hni.step hb (by omega) hb2 ?_⟩
      exact fun W hW => (GO.of (World.ownsRow_lit v _ l (Nat.le_refl _) (by unfold maxLen; omega) (size_madeCells _ _))).below hW
    · subst x
      have e : 11 = i := by injection hj
      subst e
      obtain ⟨ii, hi0, hi1, hi2, hi3⟩ := info_parts infoEn
      refine op_make (v := .slice (some ⟨v.heap.size, 0, none⟩) l l) (w1 := v.alloc (.cells (madeCells #[.int .i64 0, .slice none 0 0] (l * 2)) 65)) rfl (by rfl) (mk_run (T := 26) (E := 65) (i := ii) Tryz.underlying26 hi0 hi1 hi2 hi3 (by omega) l (by omega) v rfl rfl rfl) ?_
      have hb2 : Below v.heap.size v (v.alloc (.cells (madeCells #[.int .i64 0, .slice none 0 0] (l * 2)) 65)) := (Below.refl _ _).alloc (Nat.le_refl _) _
      refine ⟨trivial, updV X 4 _, rfl, hni.step hb (by omega) hb2 ?_⟩
      exact fun W hW => (GO.of (World.ownsRow_lit v _ l (Nat.le_refl _) (by unfold maxLen; omega) (size_madeCells _ _))).below hW
    · subst x
      have e : 13 = i := by injection hj
      subst e
      obtain ⟨ii, hi0, hi1, hi2, hi3⟩ := info_parts zinfo_rows_int2
      refine op_make (v := .slice (some ⟨v.heap.size, 0, none⟩) l l) (w1 := v.alloc (.cells (madeCells #[.int .i64 0] (l * 1)) 3)) rfl (by rfl) (mk_run (T := 27) (E := 3) (i := ii) Tryz.underlying27 hi0 hi1 hi2 hi3 (by omega) l (by omega) v rfl rfl rfl) ?_
      have hb2 : Below v.heap.size v (v.alloc (.cells (madeCells #[.int .i64 0] (l * 1)) 3)) := (Below.refl _ _).alloc (Nat.le_refl _) _
      refine ⟨trivial, updV X 5 _, rfl, hni.step hb (by omega) hb2 ?_⟩
      exact fun W hW => (GO.of (World.ownsRow_lit v _ l (Nat.le_refl _) (by unfold maxLen; omega) (size_madeCells _ _))).below hW
    · subst x
      have e : 15 = i := by injection hj
      subst e
      refine op_make (v := .pointer (some ⟨v.heap.size, 0, none⟩)) (w1 := v.alloc (.cells #[.slice none 0 0, .slice none 0 0, .slice none 0 0, .slice none 0 0, .slice none 0 0, .slice none 0 0, .slice none 0 0] 32)) rfl (by rfl) (by unfold nAct; go_simp) ?_
      have hb2 : Below v.heap.size v (v.alloc (.cells #[.slice none 0 0, .slice none 0 0, .slice none 0 0, .slice none 0 0, .slice none 0 0, .slice none 0 0, .slice none 0 0] 32)) := (Below.refl _ _).alloc (Nat.le_refl _) _
      exact ⟨trivial, updV X 6 _, rfl, hni.step hb (by omega) hb2 ⟨v.heap.size, rfl, Nat.le_refl _, by simp, fun W hW => (Blk.new v _ _).below hW⟩⟩
    · subst x
      have e : 14 = i := by injection hj
      subst e
      have ha : ∀ j, j < 6 → bs[j]? = some true := fun j hj => by
        rw [if_pos rfl, List.all_eq_true] at hok
        have := hok j (List.mem_range.2 hj)
        simpa using this
      obtain ⟨p0, p1, p2, p3, p4, p5, e0, e1, e2, e3, e4, e5⟩ := hni.forms ha hc1 hl1
      refine op_make (v := .agg #[X 0, X 1, X 2, X 3, X 4, X 5, .slice none 0 0]) (w1 := v) rfl (by rfl) (by unfold nAct; rw [e0, e1, e2, e3, e4, e5]; unfold Pa.sl; go_simp) ?_
      exact ⟨trivial, updV X 7 _, rfl, hni.built hb ha⟩
  case hdone =>
    intro a v _ hI
    obtain ⟨X, ea, hni⟩ := hI
    subst ea
    have hb1 := hni.hb
    obtain ⟨lo, hi, y0, y1, B, hlh, e6, e7, hB1, hB2, hBq, ⟨p0, p1, p2, p3, p4, p5, e0, e1, e2, e3, e4, e5⟩, hK⟩ := hni.done hc1 hl1
    unfold nAct
    rw [e7, e6, e0, e1, e2, e3, e4, e5]
    rw [e0, e1, e2, e3, e4, e5] at hK
    simp only [Pa.sl] at hK ⊢
    have HK := Lib.hid hK
    have HLH := Lib.hid hlh
    have HBQ := Lib.hid hBq
    have HKR2 := Lib.hid (HKR.out.below hb1)
    have HBV : Hid (Below w.heap.size w v) := Lib.hid (HB1.out.trans (hb1.mono HB1.out.size))
    have hv := hK v (Below.refl _ _)
    have kB := hv.2.c
    have fB := hv.2.f
    have lB := hv.2.lt
    have HBB := Lib.hid (And.intro hB1 hB2)
    have HSZ := Lib.hid hb1.size
    clear hni hb1 e0 e1 e2 e3 e4 e5 e6 e7 hK hlh hBq hv hB1 hB2 HKR HB1 X
    obtain ⟨w3, hw3⟩ : ∃ w3, w3 = (((((((v.setCell ⟨B, 0, none⟩ (.slice (some ⟨p0.b, p0.o, none⟩) c p0.c)).setCell ⟨B, 1, none⟩ (.slice (some ⟨p1.b, p1.o, none⟩) c p1.c)).setCell ⟨B, 2, none⟩ (.slice (some ⟨p2.b, p2.o, none⟩) c p2.c)).setCell ⟨B, 3, none⟩ (.slice (some ⟨p3.b, p3.o, none⟩) l p3.c)).setCell ⟨B, 4, none⟩ (.slice (some ⟨p4.b, p4.o, none⟩) l p4.c)).setCell ⟨B, 5, none⟩ (.slice (some ⟨p5.b, p5.o, none⟩) l p5.c)).setCell ⟨B, 6, none⟩ (.slice none 0 0)) := ⟨_, rfl⟩
    refine planT_one ?_
    refine op_store (w1 := w3) rfl (by rfl) ?_ ?_
    · rw [hw3]
      go_simp
    refine ⟨trivial, ?_⟩
    try simp only [Act.put, List.setIfInBounds_toArray, List.set_cons_zero, List.set_cons_succ, List.getElem_toArray, List.getElem_cons_zero, List.getElem_cons_succ]
    refine planT_stop ?_
    refine NoPanic.normal ?_
    have HBQ2 := Lib.hid HBQ.out
    have hBR : B ≠ R := by have := HBB.out.1; have := (HLH.out 6 (by omega)).1; have := HSZ.out; have := HKR2.out.lt; have h2 := HKR1.out.lt; omega
    have HBR := Lib.hid hBR
    have hwB : w.heap.size ≤ B := by have := HBB.out.1; have := (HLH.out 6 (by omega)).1; have := HB0.out.size; omega
    have hle : ∀ j, w.heap.size ≤ (⟨B, j, none⟩ : Addr).block := fun j => hwB
    obtain ⟨m, hm⟩ : ∃ m, m = v.heap.size := ⟨_, rfl⟩
    have HNS : Hid (NS w3 c l 0 m lo hi (.slice (some ⟨p0.b, p0.o, none⟩) c p0.c) (.slice (some ⟨p1.b, p1.o, none⟩) c p1.c) (.slice (some ⟨p2.b, p2.o, none⟩) c p2.c) (.slice (some ⟨p3.b, p3.o, none⟩) l p3.c) (.slice (some ⟨p4.b, p4.o, none⟩) l p4.c) (.slice (some ⟨p5.b, p5.o, none⟩) l p5.c) y0 y1 (fun _ => ⟨0, 0, 0⟩)) := Lib.hid (by rw [hw3, hm]; exact (((((((HK.out v (Below.refl _ _)).1.set HBQ.out lB 0 _).set HBQ.out lB 1 _).set HBQ.out lB 2 _).set HBQ.out lB 3 _).set HBQ.out lB 4 _).set HBQ.out lB 5 _).set HBQ.out lB 6 _)
    have HKB3 : Hid (Blk w3 B #[.slice (some ⟨p0.b, p0.o, none⟩) c p0.c, .slice (some ⟨p1.b, p1.o, none⟩) c p1.c, .slice (some ⟨p2.b, p2.o, none⟩) c p2.c, .slice (some ⟨p3.b, p3.o, none⟩) l p3.c, .slice (some ⟨p4.b, p4.o, none⟩) l p4.c, .slice (some ⟨p5.b, p5.o, none⟩) l p5.c, .slice none 0 0]) := Lib.hid (by
      rw [hw3]
      exact (((((((((HK.out v (Below.refl _ _)).2.set (n := 0) _ (by decide)).set (n := 1) _ (by simp)).set (n := 2) _ (by simp)).set (n := 3) _ (by simp)).set (n := 4) _ (by simp)).set (n := 5) _ (by simp)).set (n := 6) _ (by simp)).cast rfl))
    have HKR3 : Hid (Blk w3 R #[.slice none 0 0, .slice none 0 0, .slice none 0 0, .slice none 0 0, .slice none 0 0, .slice none 0 0, .slice none 0 0]) := Lib.hid (by
      rw [hw3]
      exact ((((((HKR2.out.other _ hBR).other _ hBR).other _ hBR).other _ hBR).other _ hBR).other _ hBR).other _ hBR)
    have HB3 : Hid (Below w.heap.size w w3) := Lib.hid (by
      rw [hw3]
      exact ((((((HBV.out.setCell (hle 0) _).setCell (hle 1) _).setCell (hle 2) _).setCell (hle 3) _).setCell (hle 4) _).setCell (hle 5) _).setCell (hle 6) _)
    have HM3 : Hid (m ≤ w3.heap.size) := Lib.hid (by rw [hw3, hm]; simp)
    clear hw3 hm hle kB fB lB HK HBQ HBB HSZ HKR2 HBV
    have kB := HKB3.out.c
    have lB := HKB3.out.lt
    go_wp2_with fail
    clear kB lB
    go_loopw [31] (fun i wr => ∃ k : Nat, k ≤ l ∧ i = .int .i64 k ∧ (∃ A, NS wr c l k m lo hi (.slice (some ⟨p0.b, p0.o, none⟩) c p0.c) (.slice (some ⟨p1.b, p1.o, none⟩) c p1.c) (.slice (some ⟨p2.b, p2.o, none⟩) c p2.c) (.slice (some ⟨p3.b, p3.o, none⟩) l p3.c) (.slice (some ⟨p4.b, p4.o, none⟩) l p4.c) (.slice (some ⟨p5.b, p5.o, none⟩) l p5.c) y0 y1 A) ∧ Blk wr B #[.slice (some ⟨p0.b, p0.o, none⟩) c p0.c, .slice (some ⟨p1.b, p1.o, none⟩) c p1.c, .slice (some ⟨p2.b, p2.o, none⟩) c p2.c, .slice (some ⟨p3.b, p3.o, none⟩) l p3.c, .slice (some ⟨p4.b, p4.o, none⟩) l p4.c, .slice (some ⟨p5.b, p5.o, none⟩) l p5.c, .slice none 0 0] ∧ Blk wr R #[.slice none 0 0, .slice none 0 0, .slice none 0 0, .slice none 0 0, .slice none 0 0, .slice none 0 0, .slice none 0 0] ∧ Below w.heap.size w wr ∧ m ≤ wr.heap.size) (fun i _ => l - (intOf i).toNat)
    case atStart => exact ⟨0, Nat.zero_le _, rfl, ⟨_, HNS.out⟩, HKB3.out, HKR3.out, HB3.out, HM3.out⟩
    case round =>
      obtain ⟨k, hk, rfl, ⟨A, hns⟩, hkb, hkr, hb, hmm⟩ := hrel
      clear HNS HKB3 HKR3 HB3 HM3
      have HNS := Lib.hid hns
      have HKB := Lib.hid hkb
      have HKR := Lib.hid hkr
      have HB := Lib.hid hb
      have HMM := Lib.hid hmm
      clear hns hkb hkr hb hmm
      have kB := HKB.out.c
      have lB := HKB.out.lt
      by_cases hlt : k < l
      · have hkl : (k : Int) < l := by omega
        go_upto_region 7 with fail
        refine region_planF (fun V : World => V.cell? ⟨B, 4, none⟩ = some (.slice (some ⟨p4.b, p4.o, none⟩) l p4.c)) (.read 0 (.read 1 (.read 2 (.read 3 (.one 4 (.read 5 (.read 6 (.read 7 (.read 8 (.one 9 .stop)))))))))) (by kernel_rfl) (by kernel_rfl) (HKB.out.drew.c 4) ?_
        iterate 4
          refine planT_read (v := ?_) rfl (by rfl) ?_ ?_
          rotate_left
          · intro w' hS
            try dsimp only at hS
            go_simp
            try with_reducible rfl
          try simp only [Act.put, List.setIfInBounds_toArray, List.set_cons_zero, List.set_cons_succ, List.getElem_toArray, List.getElem_cons_zero, List.getElem_cons_succ]
        refine planT_one ?_
        refine op_call (F := 60) (args := #[.int .i64 c]) rfl (by rfl) (by go_simp) ?_
        refine (HN.out _).mono ?_
        rintro e w4 ⟨u, rfl, heo, hb4⟩
        rw [HNC.out.1] at heo
        rw [HNC.out.2]
        obtain ⟨p, n, cc, rfl, hec, hoff⟩ := heo
        have hn : n = c := by rw [← hec.len]; exact List.length_replicate
        rw [hn] at hec hoff ⊢
        obtain ⟨b, o, hb1, hp, hcs⟩ := hec.sl (by omega)
        rw [hp] at hoff ⊢
        have hcc := hec.cn
        have hbw : Below wr.heap.size wr w4 := (Below.refl _ _).drew.trans hb4
        have hmb : m ≤ b := by
          refine Nat.le_of_not_lt fun hn => ?_
          exact hoff b (Nat.lt_of_lt_of_le hn HMM.out) (by omega) _ rfl rfl
        have hcell : ∀ j, j < c → w4.cell? ⟨b, o + j, none⟩ = some (.bool false) := fun j hj => by
          have e : (Di.boC (List.replicate c false)).length = c := by unfold Di.boC; rw [List.length_map, List.length_replicate]
          rw [hcs j (by rw [e]; exact hj)]
          unfold Di.boC
          rw [List.getElem?_map, List.getElem?_replicate, if_pos hj]
          rfl
        have h4 := HNS.out.below hbw
        have hs := h4.step hlt hb1 hcell hcc hmb
        have q1 : w4.cell? ⟨p4.b, p4.o + k * 2, none⟩ = some _ := h4.d.c (k * 2) (by omega)
        have q2 : w4.cell? ⟨p4.b, p4.o + k * 2 + 1, none⟩ = some _ := h4.d.c (k * 2 + 1) (by omega)
        have q3 : ∀ j, w4.frozen? ⟨p4.b, j, none⟩ = false := h4.d.f
        have q4 : p4.b < w4.heap.size := h4.d.lt
        have hd1 : lo 4 ≤ p4.b := h4.d.lo
        have hd2 : p4.b < hi 4 := h4.d.hi
        have hd3 := h4.hm 4 (by omega)
        have hbq := HBQ2.out 4 (by omega)
        have hdB : p4.b ≠ B := by omega
        have hdR : p4.b ≠ R := by have := (HLH.out 4 (by omega)).1; have h2 := HKR1.out.lt; omega
        have hdw : w.heap.size ≤ p4.b := by have := (HLH.out 4 (by omega)).1; have := HB0.out.size; omega
        obtain ⟨w5, hw5⟩ : ∃ w5, w5 = (w4.setCell ⟨p4.b, p4.o + k * 2, none⟩ (.int .i64 0)).setCell ⟨p4.b, p4.o + k * 2 + 1, none⟩ (.slice (some ⟨b, o, none⟩) c cc) := ⟨_, rfl⟩
        have HS5 : Hid (NS w5 c l (k + 1) m lo hi (.slice (some ⟨p0.b, p0.o, none⟩) c p0.c) (.slice (some ⟨p1.b, p1.o, none⟩) c p1.c) (.slice (some ⟨p2.b, p2.o, none⟩) c p2.c) (.slice (some ⟨p3.b, p3.o, none⟩) l p3.c) (.slice (some ⟨p4.b, p4.o, none⟩) l p4.c) (.slice (some ⟨p5.b, p5.o, none⟩) l p5.c) y0 y1 _) := Lib.hid (by rw [hw5]; exact hs)
        have HKB5 : Hid (Blk w5 B #[.slice (some ⟨p0.b, p0.o, none⟩) c p0.c, .slice (some ⟨p1.b, p1.o, none⟩) c p1.c, .slice (some ⟨p2.b, p2.o, none⟩) c p2.c, .slice (some ⟨p3.b, p3.o, none⟩) l p3.c, .slice (some ⟨p4.b, p4.o, none⟩) l p4.c, .slice (some ⟨p5.b, p5.o, none⟩) l p5.c, .slice none 0 0]) := Lib.hid (by rw [hw5]; exact ((HKB.out.below hbw).other _ hdB).other _ hdB)
        have HKR5 : Hid (Blk w5 R #[.slice none 0 0, .slice none 0 0, .slice none 0 0, .slice none 0 0, .slice none 0 0, .slice none 0 0, .slice none 0 0]) := Lib.hid (by rw [hw5]; exact ((HKR.out.below hbw).other _ hdR).other _ hdR)
        have HB5 : Hid (Below w.heap.size w w5) := Lib.hid (by
          rw [hw5]
          exact ((HB.out.trans (hbw.mono HB.out.size)).setCell (p := ⟨p4.b, p4.o + k * 2, none⟩) hdw _).setCell (p := ⟨p4.b, p4.o + k * 2 + 1, none⟩) hdw _)
        have HM5 : Hid (m ≤ w5.heap.size) := Lib.hid (by rw [hw5]; have := hbw.size; have := HMM.out; simp; omega)
        have kB4 := (HKB.out.below hbw).c
        clear hs h4 hbw hcell hoff hec hcs hb4 hbq hd1 hd2 hd3 hmb HNS HKB HKR HB HMM kB lB hp hn
        refine ⟨_, rfl, kB4 4, ?_⟩
        try simp only [Act.put, List.setIfInBounds_toArray, List.set_cons_zero, List.set_cons_succ, List.getElem_toArray, List.getElem_cons_zero, List.getElem_cons_succ]
        iterate 4
          refine planT_read (v := ?_) rfl (by rfl) ?_ ?_
          rotate_left
          · intro w' hS
            try dsimp only at hS
            go_simp
            try with_reducible rfl
          try simp only [Act.put, List.setIfInBounds_toArray, List.set_cons_zero, List.set_cons_succ, List.getElem_toArray, List.getElem_cons_zero, List.getElem_cons_succ]
        refine planT_one ?_
        refine op_store (w1 := w5) rfl (by rfl) ?_ ?_
        · rw [hw5]
          go_simp
        refine ⟨HKB5.out.c 4, ?_⟩
        try simp only [Act.put, List.setIfInBounds_toArray, List.set_cons_zero, List.set_cons_succ, List.getElem_toArray, List.getElem_cons_zero, List.getElem_cons_succ]
        refine planT_stop ?_
        refine NoPanic.normal ?_
        clear q1 q2 q3 q4 hw5 kB4
        go_wp2_with fail
        go_roundw
        case rel => exact ⟨k + 1, by omega, by go_num, ⟨_, HS5.out⟩, HKB5.out, HKR5.out, HB5.out, HM5.out⟩
        case measure => simp [intOf]; omega
      · have hkl : k = l := by omega
        have HNL : Hid (NS wr c l l m lo hi (.slice (some ⟨p0.b, p0.o, none⟩) c p0.c) (.slice (some ⟨p1.b, p1.o, none⟩) c p1.c) (.slice (some ⟨p2.b, p2.o, none⟩) c p2.c) (.slice (some ⟨p3.b, p3.o, none⟩) l p3.c) (.slice (some ⟨p4.b, p4.o, none⟩) l p4.c) (.slice (some ⟨p5.b, p5.o, none⟩) l p5.c) y0 y1 A) := Lib.hid (hkl ▸ HNS.out)
        have kR := HKR.out.c
        have fR := HKR.out.f
        have lR := HKR.out.lt
        have hBR : B ≠ R := HBR.out
        have hRB : R ≠ B := fun e => hBR e.symm
        clear HNS
        go_wp2_with fail
        obtain ⟨Y, hok, hla⟩ := Pr.Zz.new c l hc1 hc4 hl1 hl4
        have hle : ∀ j, w.heap.size ≤ (⟨R, j, none⟩ : Addr).block := fun j => by show w.heap.size ≤ R; rw [HRR.out]; exact Nat.le_refl _
        have hRl : ∀ q, q < 6 → R < lo q := fun q hq => by have := (HLH.out q (by omega)).1; have h2 := HKR1.out.lt; omega
        have hRm : R < m := by
          have := HNL.out.hm 0 (by omega)
          have h2 := hRl 0 (by omega)
          have h3 : lo 0 ≤ p0.b := (HNL.out.g0.o.row.lt _ rfl).1
          have h4 : p0.b < hi 0 := HNL.out.g0.h0 _ rfl
          omega
        have hn0 : w.heap.size ≤ p0.b := by have h3 : lo 0 ≤ p0.b := (HNL.out.g0.o.row.lt _ rfl).1; have := hRl 0 (by omega); have := HRR.out; omega
        have hn1 : w.heap.size ≤ p1.b := by have h3 : lo 1 ≤ p1.b := (HNL.out.g1.o.row.lt _ rfl).1; have := hRl 1 (by omega); have := HRR.out; omega
        exact bodyPost_ret (v := .tuple #[.agg #[.slice (some ⟨p0.b, p0.o, none⟩) c p0.c, .slice (some ⟨p1.b, p1.o, none⟩) c p1.c, .slice (some ⟨p2.b, p2.o, none⟩) c p2.c, .slice (some ⟨p3.b, p3.o, none⟩) l p3.c, .slice (some ⟨p4.b, p4.o, none⟩) l p4.c, .slice (some ⟨p5.b, p5.o, none⟩) l p5.c, .slice none 0 0], .int .i64 0]) (by simp [results, Tryz.results23, go_sem, *]) rfl ⟨Y, hla, OutZ.of (F := ⟨fun _ _ => 0, fun _ _ => 0, fun _ => Pr.Wt.none, fun _ => 0, fun _ => 0, fun _ _ => false, fun _ => 0⟩) (L := []) ⟨_, rfl, HNL.out.sv hc1 hc4 hl1 (by omega) hRl hRm rfl, ⟨_, _, _, _, _, _, _, _, _, _, _, _, _, rfl, hn0, hn1⟩, ((((((HB.out.setCell (hle 0) _).setCell (hle 1) _).setCell (hle 2) _).setCell (hle 3) _).setCell (hle 4) _).setCell (hle 5) _).setCell (hle 6) _⟩ rfl rfl hok⟩
end Go.Proofs.YtmeomdfmljanhaaGreat.Pg
/- calm: all that is under way comes. -/
namespace Go.Proofs.YtmeomdfmljanhaaGreat.Pg
set_option linter.unusedVariables false
open Go.ChangeShapes Go.WideShapes Go.ChangeAt Go.RowKit

/-- Memory that reads alike. -/
structure Like (w w' : World) : Prop where
  c : ∀ p, w'.cell? p = w.cell? p
  f : ∀ p, w'.frozen? p = w.frozen? p
  s : w'.heap.size = w.heap.size
theorem Like.set {w w' : World} {p : Addr} {u : Value} (h : Like w w') (hp : w.cell? p = some u) : Like w (w'.setCell p u) := by
  refine ⟨fun q => ?_, fun q => by simpa using h.f q, by simpa using h.s⟩
  by_cases e : q = p
  · subst e
    rw [World.cell?_setCell_same _ _ _ ((h.c _).trans hp), hp]
  · rw [World.cell?_setCell_other _ _ _ _ (fun e2 => e e2.symm)]
    exact h.c q
theorem Like.sl {w w' : World} (h : Like w w') {p : Option Addr} {n : Nat} {cs : List Value} (hs : Sl w p n cs) : Sl w' p n cs := fun h0 => by
  obtain ⟨b, off, h1, h2, h3⟩ := hs h0
  exact ⟨b, off, by rw [h.s]; exact h1, h2, fun j hj => by rw [h.c]; exact h3 j hj⟩
theorem Like.mem {w w' : World} (h : Like w w') {bs c l : Nat} {A : Tg → Pa} {F : Pr.Fs} {pv f : Value} (hm : Mem w bs c l A F pv f) : Mem w' bs c l A F pv f :=
  ⟨fun t h0 => by rw [h.s]; exact hm.lt t h0, fun t j hj => by rw [h.c]; exact hm.cell t j hj, fun t ht h0 j => by rw [h.f]; exact hm.fz t ht h0 j, hm.inj, hm.cap, hm.c1, hm.c4, hm.l1, hm.l16⟩
theorem Like.pl {w w' : World} (h : Like w w') {p : Option Addr} {xs : List Value} {L : List (List Nat)} (hp : Pl w p xs L) : Pl w' p xs L :=
  ⟨hp.len, h.sl hp.sl, fun k hk => by
    obtain ⟨q, d, e, hc, hb⟩ := hp.fs k hk
    exact ⟨q, d, e, hc, hb.lt, fun h0 => by
      obtain ⟨b, off, h1, h2, h3⟩ := hb.c h0
      exact ⟨b, off, by rw [h.s]; exact h1, h2, fun k hk => by rw [h.c]; exact h3 k hk⟩⟩, hp.n100, hp.l100⟩
theorem Like.sys {w w' : World} (h : Like w w') {v : Value} {c l : Nat} {Z : Pr.Zz} (hs : Sys w v c l Z) : Sys w' v c l Z := by
  obtain ⟨A, p, cp, xs, e, hm, hp⟩ := hs.sv
  exact ⟨⟨A, p, cp, xs, e, h.mem hm, h.pl hp⟩, hs.ok⟩
/-- A system stored over itself. -/
theorem sys_again {w w' : World} {v : Value} {c l : Nat} {Z : Pr.Zz} (h : Sys w v c l Z) {E : Nat} {u0 u1 u2 u3 u4 u5 u6 : Value} (hE : Blk w E #[u0, u1, u2, u3, u4, u5, u6]) (hw : w' = (((((((w.setCell ⟨E, 0, none⟩ (u0)).setCell ⟨E, 1, none⟩ (u1)).setCell ⟨E, 2, none⟩ (u2)).setCell ⟨E, 3, none⟩ (u3)).setCell ⟨E, 4, none⟩ (u4)).setCell ⟨E, 5, none⟩ (u5)).setCell ⟨E, 6, none⟩ (u6))) : Sys w' v c l Z := by
  have e0 := hE.c 0
  have e1 := hE.c 1
  have e2 := hE.c 2
  have e3 := hE.c 3
  have e4 := hE.c 4
  have e5 := hE.c 5
  have e6 := hE.c 6
  rw [hw]
  refine Like.sys ((((((((⟨fun _ => rfl, fun _ => rfl, rfl⟩ : Like w w).set (u := u0) e0).set (u := u1) e1).set (u := u2) e2).set (u := u3) e3).set (u := u4) e4).set (u := u5) e5).set (u := u6) e6) h
theorem sys_put {w : World} {v : Value} {c l base : Nat} {Z Zo : Pr.Zz} (h : Sys w v c l Z) {x0 x1 x2 x3 x4 x5 : Addr} {k0 k1 k2 k3 k4 k5 no co : Nat} {po : Option Addr} (ho : Sys w (.agg #[.slice (some x0) c k0, .slice (some x1) c k1, .slice (some x2) c k2, .slice (some x3) l k3, .slice (some x4) l k4, .slice (some x5) l k5, .slice po no co]) c l Zo) {E : Nat} (hE : Blk w E #[.slice (some x0) c k0, .slice (some x1) c k1, .slice (some x2) c k2, .slice (some x3) l k3, .slice (some x4) l k4, .slice (some x5) l k5, .slice po no co]) (hn : Nw base v) (hlt : E < base) {u0 u1 u2 u3 u4 u5 u6 : Value} (hv : v = .agg #[u0, u1, u2, u3, u4, u5, u6]) : ∀ w', w' = (((((((w.setCell ⟨E, 0, none⟩ (u0)).setCell ⟨E, 1, none⟩ (u1)).setCell ⟨E, 2, none⟩ (u2)).setCell ⟨E, 3, none⟩ (u3)).setCell ⟨E, 4, none⟩ (u4)).setCell ⟨E, 5, none⟩ (u5)).setCell ⟨E, 6, none⟩ (u6)) → Sys w' v c l Z := by
  obtain ⟨A, p, cp, e, H⟩ := sys_over h ho hE hn hlt
  have e2 := hv.symm.trans e
  simp only [Value.agg.injEq, Array.mk.injEq, List.cons.injEq, and_true] at e2
  obtain ⟨rfl, rfl, rfl, rfl, rfl, rfl, rfl⟩ := e2
  exact H
theorem sys_lay {w : World} {v : Value} {c l : Nat} {Z : Pr.Zz} (h : Sys w v c l Z) {E : Nat} (hE : Blk w E #[.slice none 0 0, .slice none 0 0, .slice none 0 0, .slice none 0 0, .slice none 0 0, .slice none 0 0, .slice none 0 0]) {u0 u1 u2 u3 u4 u5 u6 : Value} (hv : v = .agg #[u0, u1, u2, u3, u4, u5, u6]) : ∀ w', w' = (((((((w.setCell ⟨E, 0, none⟩ (u0)).setCell ⟨E, 1, none⟩ (u1)).setCell ⟨E, 2, none⟩ (u2)).setCell ⟨E, 3, none⟩ (u3)).setCell ⟨E, 4, none⟩ (u4)).setCell ⟨E, 5, none⟩ (u5)).setCell ⟨E, 6, none⟩ (u6)) → Sys w' v c l Z := by
  obtain ⟨A, p, cp, e, H⟩ := sys_out h hE
  have e2 := hv.symm.trans e
  simp only [Value.agg.injEq, Array.mk.injEq, List.cons.injEq, and_true] at e2
  obtain ⟨rfl, rfl, rfl, rfl, rfl, rfl, rfl⟩ := e2
  exact H
/-- What calm answers. -/
def CalmO (w w' : World) (e : Ending) (v : Value) (c l : Nat) (Z : Pr.Zz) : Prop := ∃ v', e = .returned (.tuple #[v', .bool true]) ∧ Sys w' v' c l Z ∧ (v' = v ∨ Nw w.heap.size v') ∧ Below w.heap.size w w'

set_option maxHeartbeats 4000000 in
set_option maxRecDepth 100000 in
theorem calm_any (v : Value) (c l : Nat) (Z : Pr.Zz) (N : Nat) (w : World) (h : Sys w v c l Z) (hN : N ≤ 1008) (h0 : (Pr.calmZ c N Z).ms = []) (hne : ∀ j, j < N → (Pr.calmZ c j Z).ms ≠ []) :
    Calls Tryz.prog 27 #[v] w fun e w' => CalmO w w' e v c l (Pr.calmZ c N Z) := by
  have hc1 := h.ok.c1
  have hc4 := h.ok.c4
  have hl1 := h.ok.l1
  have hl4 := h.ok.l4
  obtain ⟨A, p, cp, xs, e, hm, hp⟩ := h.sv
  rw [List.length_map] at e
  simp only [Pa.sl] at e
  obtain ⟨x0, hx0⟩ : ∃ x : Addr, x = ⟨(A .st).b, (A .st).o, none⟩ := ⟨_, rfl⟩
  obtain ⟨x1, hx1⟩ : ∃ x : Addr, x = ⟨(A .va).b, (A .va).o, none⟩ := ⟨_, rfl⟩
  obtain ⟨x2, hx2⟩ : ∃ x : Addr, x = ⟨(A .wt).b, (A .wt).o, none⟩ := ⟨_, rfl⟩
  obtain ⟨x3, hx3⟩ : ∃ x : Addr, x = ⟨(A .ho).b, (A .ho).o, none⟩ := ⟨_, rfl⟩
  obtain ⟨x4, hx4⟩ : ∃ x : Addr, x = ⟨(A .di).b, (A .di).o, none⟩ := ⟨_, rfl⟩
  obtain ⟨x5, hx5⟩ : ∃ x : Addr, x = ⟨(A .bu).b, (A .bu).o, none⟩ := ⟨_, rfl⟩
  obtain ⟨k0, hk0⟩ : ∃ x, x = (A .st).c := ⟨_, rfl⟩
  obtain ⟨k1, hk1⟩ : ∃ x, x = (A .va).c := ⟨_, rfl⟩
  obtain ⟨k2, hk2⟩ : ∃ x, x = (A .wt).c := ⟨_, rfl⟩
  obtain ⟨k3, hk3⟩ : ∃ x, x = (A .ho).c := ⟨_, rfl⟩
  obtain ⟨k4, hk4⟩ : ∃ x, x = (A .di).c := ⟨_, rfl⟩
  obtain ⟨k5, hk5⟩ : ∃ x, x = (A .bu).c := ⟨_, rfl⟩
  rw [← hx0, ← hx1, ← hx2, ← hx3, ← hx4, ← hx5, ← hk0, ← hk1, ← hk2, ← hk3, ← hk4, ← hk5] at e
  clear hx0 hx1 hx2 hx3 hx4 hx5 hk0 hk1 hk2 hk3 hk4 hk5 hm hp A xs
  subst e
  obtain ⟨n, hn⟩ : ∃ x, x = Z.ms.length := ⟨_, rfl⟩
  rw [← hn] at h ⊢
  have HNE := Lib.hid hne
  have HN0 := Lib.hid h0
  obtain ⟨E, hE⟩ : ∃ E, E = w.heap.size := ⟨_, rfl⟩
  obtain ⟨R, hR⟩ : ∃ R, R = w.heap.size + 1 := ⟨_, rfl⟩
  obtain ⟨w1, hw1⟩ : ∃ w1, w1 = (w.alloc (.cells #[.slice (some x0) c k0, .slice (some x1) c k1, .slice (some x2) c k2, .slice (some x3) l k3, .slice (some x4) l k4, .slice (some x5) l k5, .slice p n cp] 32)).alloc (.cells #[.slice none 0 0, .slice none 0 0, .slice none 0 0, .slice none 0 0, .slice none 0 0, .slice none 0 0, .slice none 0 0] 32) := ⟨_, rfl⟩
  have hb1 : Below w.heap.size w w1 := by rw [hw1]; exact ((Below.refl _ _).alloc (Nat.le_refl _) _).alloc (by simp) _
  have HKE : Hid (Blk w1 E #[.slice (some x0) c k0, .slice (some x1) c k1, .slice (some x2) c k2, .slice (some x3) l k3, .slice (some x4) l k4, .slice (some x5) l k5, .slice p n cp]) := Lib.hid (by rw [hw1, hE]; exact (Blk.new _ _ _).alloc _)
  have HKR : Hid (Blk w1 R #[.slice none 0 0, .slice none 0 0, .slice none 0 0, .slice none 0 0, .slice none 0 0, .slice none 0 0, .slice none 0 0]) := Lib.hid (by rw [hw1, hR]; have := Blk.new (w.alloc (.cells #[.slice (some x0) c k0, .slice (some x1) c k1, .slice (some x2) c k2, .slice (some x3) l k3, .slice (some x4) l k4, .slice (some x5) l k5, .slice p n cp] 32)) #[.slice none 0 0, .slice none 0 0, .slice none 0 0, .slice none 0 0, .slice none 0 0, .slice none 0 0, .slice none 0 0] 32; rw [World.size_alloc] at this; exact this)
  have HB1 := Lib.hid hb1
  have HS1 := Lib.hid (h.below hb1)
  have HW1 := Lib.hid hw1
  have HEE := Lib.hid hE
  have HRR := Lib.hid hR
  have HNN := Lib.hid hn
  clear h h0 hne hw1 hb1 hE hR hn
  obtain ⟨v0, hv0⟩ : ∃ v0, v0 = Value.agg #[.slice (some x0) c k0, .slice (some x1) c k1, .slice (some x2) c k2, .slice (some x3) l k3, .slice (some x4) l k4, .slice (some x5) l k5, .slice p n cp] := ⟨_, rfl⟩
  rw [← hv0]
  have HV0 := Lib.hid hv0
  have HINV : Hid (∃ (y0 y1 y2 y3 y4 y5 : Addr) (q0 q1 q2 q3 q4 q5 qo : Nat) (qp : Option Addr), Blk w1 E #[.slice (some y0) c q0, .slice (some y1) c q1, .slice (some y2) c q2, .slice (some y3) l q3, .slice (some y4) l q4, .slice (some y5) l q5, .slice qp (Pr.calmZ c 0 Z).ms.length qo] ∧ Sys w1 (.agg #[.slice (some y0) c q0, .slice (some y1) c q1, .slice (some y2) c q2, .slice (some y3) l q3, .slice (some y4) l q4, .slice (some y5) l q5, .slice qp (Pr.calmZ c 0 Z).ms.length qo]) c l (Pr.calmZ c 0 Z) ∧ (Value.agg #[.slice (some y0) c q0, .slice (some y1) c q1, .slice (some y2) c q2, .slice (some y3) l q3, .slice (some y4) l q4, .slice (some y5) l q5, .slice qp (Pr.calmZ c 0 Z).ms.length qo] = v0 ∨ Nw w.heap.size (.agg #[.slice (some y0) c q0, .slice (some y1) c q1, .slice (some y2) c q2, .slice (some y3) l q3, .slice (some y4) l q4, .slice (some y5) l q5, .slice qp (Pr.calmZ c 0 Z).ms.length qo]))) := Lib.hid ⟨x0, x1, x2, x3, x4, x5, k0, k1, k2, k3, k4, k5, cp, p, by rw [show (Pr.calmZ c 0 Z).ms.length = n from HNN.out.symm]; exact HKE.out, by rw [show (Pr.calmZ c 0 Z).ms.length = n from HNN.out.symm]; exact HS1.out, .inl (by rw [show (Pr.calmZ c 0 Z).ms.length = n from HNN.out.symm]; exact hv0.symm)⟩
  go_enter Tryz.func27, Tryz.ntmps27
  rw [hv0]
  clear hv0 HS1 HKE
  go_upto_region 1 with fail
  rw [← HRR.out, ← HEE.out, ← HW1.out]
  have HSZ : Hid (w1.heap.size = w.heap.size + 2) := Lib.hid (by rw [HW1.out, World.size_alloc, World.size_alloc])
  clear HW1
  go_wp2_with fail
  go_loopw [4] (fun i wr => ∃ j : Nat, j ≤ N ∧ i = .int .i64 j ∧ (∃ (y0 y1 y2 y3 y4 y5 : Addr) (q0 q1 q2 q3 q4 q5 qo : Nat) (qp : Option Addr), Blk wr E #[.slice (some y0) c q0, .slice (some y1) c q1, .slice (some y2) c q2, .slice (some y3) l q3, .slice (some y4) l q4, .slice (some y5) l q5, .slice qp (Pr.calmZ c j Z).ms.length qo] ∧ Sys wr (.agg #[.slice (some y0) c q0, .slice (some y1) c q1, .slice (some y2) c q2, .slice (some y3) l q3, .slice (some y4) l q4, .slice (some y5) l q5, .slice qp (Pr.calmZ c j Z).ms.length qo]) c l (Pr.calmZ c j Z) ∧ (Value.agg #[.slice (some y0) c q0, .slice (some y1) c q1, .slice (some y2) c q2, .slice (some y3) l q3, .slice (some y4) l q4, .slice (some y5) l q5, .slice qp (Pr.calmZ c j Z).ms.length qo] = v0 ∨ Nw w.heap.size (.agg #[.slice (some y0) c q0, .slice (some y1) c q1, .slice (some y2) c q2, .slice (some y3) l q3, .slice (some y4) l q4, .slice (some y5) l q5, .slice qp (Pr.calmZ c j Z).ms.length qo]))) ∧ Blk wr R #[.slice none 0 0, .slice none 0 0, .slice none 0 0, .slice none 0 0, .slice none 0 0, .slice none 0 0, .slice none 0 0] ∧ Below w.heap.size w wr ∧ w1.heap.size ≤ wr.heap.size) (fun i _ => N - (intOf i).toNat)
  case atStart => exact ⟨0, Nat.zero_le _, rfl, HINV.out, HKR.out, HB1.out, Nat.le_refl _⟩
  case round =>
    obtain ⟨j, hj, rfl, ⟨y0, y1, y2, y3, y4, y5, q0, q1, q2, q3, q4, q5, qo, qp, hkb, hsy, hvn⟩, hkr, hb, hsz⟩ := hrel
    clear HINV HKR HB1
    obtain ⟨nj, hnj⟩ : ∃ x, x = (Pr.calmZ c j Z).ms.length := ⟨_, rfl⟩
    rw [← hnj] at hkb hsy hvn
    have HKB := Lib.hid hkb
    have HSY := Lib.hid hsy
    have HVN := Lib.hid hvn
    have HKR := Lib.hid hkr
    have HB := Lib.hid hb
    have HSZR := Lib.hid hsz
    have HNJ := Lib.hid hnj
    clear hkb hsy hvn hkr hb hsz
    have kB := HKB.out.c
    have lB := HKB.out.lt
    have hj2 : (j : Int) < 2000 := by omega
    by_cases hlt : j < N
    · have hpos : 0 < nj := by
        rw [hnj]
        exact List.length_pos_iff.2 (HNE.out j hlt)
      have hposI : (0 : Int) < nj := by omega
      clear hnj
      have HDL : Hid (∀ W, Below wr.heap.size wr W → Calls Tryz.prog 9 #[.agg #[.slice (some y0) c q0, .slice (some y1) c q1, .slice (some y2) c q2, .slice (some y3) l q3, .slice (some y4) l q4, .slice (some y5) l q5, .slice qp nj qo], .int .i64 0] W fun e w' => OutZ W w' e c l (Pr.calmZ c (j + 1) Z) 0) := Lib.hid (fun W hW => deliv_ok _ c l (Pr.calmZ c j Z) 0 W (HSY.out.below hW) (by rw [← HNJ.out]; exact hpos))
      go_wp2_with fail
      refine (HDL.out wr (Below.refl _ _)).mono ?_
      rintro e w2 ⟨v2, rfl, hs2, hnw2, hb2⟩
      obtain ⟨A2, p2, cp2, xs2, rfl, hm2, hp2⟩ := id hs2.sv
      simp only [Pa.sl, List.length_map] at hs2 hnw2 ⊢
      clear hm2 hp2 xs2 HDL hpos hposI
      obtain ⟨n2, hn2⟩ : ∃ x, x = (Pr.calmZ c (j + 1) Z).ms.length := ⟨_, rfl⟩
      rw [← hn2] at hs2 hnw2 ⊢
      obtain ⟨w3, hw3⟩ : ∃ x, x = w2.alloc (.cells #[.slice (some ⟨(A2 .st).b, (A2 .st).o, none⟩) c (A2 .st).c, .slice (some ⟨(A2 .va).b, (A2 .va).o, none⟩) c (A2 .va).c, .slice (some ⟨(A2 .wt).b, (A2 .wt).o, none⟩) c (A2 .wt).c, .slice (some ⟨(A2 .ho).b, (A2 .ho).o, none⟩) l (A2 .ho).c, .slice (some ⟨(A2 .di).b, (A2 .di).o, none⟩) l (A2 .di).c, .slice (some ⟨(A2 .bu).b, (A2 .bu).o, none⟩) l (A2 .bu).c, .slice p2 n2 cp2] 32) := ⟨_, rfl⟩
      obtain ⟨q, hq⟩ : ∃ x, x = w2.heap.size := ⟨_, rfl⟩
      have hb3 : Below w2.heap.size w2 w3 := by rw [hw3]; exact (Below.refl _ _).alloc (Nat.le_refl _) _
      have HKQ : Hid (Blk w3 q #[.slice (some ⟨(A2 .st).b, (A2 .st).o, none⟩) c (A2 .st).c, .slice (some ⟨(A2 .va).b, (A2 .va).o, none⟩) c (A2 .va).c, .slice (some ⟨(A2 .wt).b, (A2 .wt).o, none⟩) c (A2 .wt).c, .slice (some ⟨(A2 .ho).b, (A2 .ho).o, none⟩) l (A2 .ho).c, .slice (some ⟨(A2 .di).b, (A2 .di).o, none⟩) l (A2 .di).c, .slice (some ⟨(A2 .bu).b, (A2 .bu).o, none⟩) l (A2 .bu).c, .slice p2 n2 cp2]) := Lib.hid (by rw [hw3, hq]; exact Blk.new _ _ _)
      have HS3 := Lib.hid (hs2.below hb3)
      have HNW3 := Lib.hid hnw2
      have hbr : Below wr.heap.size wr w3 := hb2.trans (hb3.mono hb2.size)
      have HKB3 := Lib.hid (HKB.out.below hbr)
      have HKR3 := Lib.hid (HKR.out.below hbr)
      have HSO3 := Lib.hid (HSY.out.below hbr)
      have HB3 : Hid (Below w.heap.size w w3) := Lib.hid (HB.out.trans (hbr.mono HB.out.size))
      have HZ3 : Hid (w1.heap.size ≤ w3.heap.size) := Lib.hid (Nat.le_trans HSZR.out hbr.size)
      have HLE : Hid (E < wr.heap.size) := Lib.hid lB
      have HBW : Hid (w.heap.size ≤ wr.heap.size) := Lib.hid HB.out.size
      have hEq : q ≠ E := by have := hb2.size; omega
      have HW3 := Lib.hid hw3
      have HQ := Lib.hid hq
      have HN2 := Lib.hid hn2
      clear hw3 hq hb3 hbr hs2 hnw2 hb2 kB lB HKB HKR HSY HB HSZR hn2
      go_upto_region 5 with fail
      rw [← HQ.out]
      first | rw [← HW3.out] | fail "W3"
      clear HW3
      have kQ := HKQ.out.c
      have kB := HKB3.out.c
      have lB := HKB3.out.lt
      have fB := HKB3.out.f
      go_wp2_with fail
      obtain ⟨w4, hw4⟩ : ∃ x, x = (((((((w3.setCell ⟨E, 0, none⟩ (.slice (some ⟨(A2 .st).b, (A2 .st).o, none⟩) c (A2 .st).c)).setCell ⟨E, 1, none⟩ (.slice (some ⟨(A2 .va).b, (A2 .va).o, none⟩) c (A2 .va).c)).setCell ⟨E, 2, none⟩ (.slice (some ⟨(A2 .wt).b, (A2 .wt).o, none⟩) c (A2 .wt).c)).setCell ⟨E, 3, none⟩ (.slice (some ⟨(A2 .ho).b, (A2 .ho).o, none⟩) l (A2 .ho).c)).setCell ⟨E, 4, none⟩ (.slice (some ⟨(A2 .di).b, (A2 .di).o, none⟩) l (A2 .di).c)).setCell ⟨E, 5, none⟩ (.slice (some ⟨(A2 .bu).b, (A2 .bu).o, none⟩) l (A2 .bu).c)).setCell ⟨E, 6, none⟩ (.slice p2 n2 cp2)) := ⟨_, rfl⟩
      have hEw : ∀ k, w.heap.size ≤ (⟨E, k, none⟩ : Addr).block := fun k => by show w.heap.size ≤ E; rw [HEE.out]; exact Nat.le_refl _
      have hER : E ≠ R := by have h1 := HEE.out; have h2 := HRR.out; omega
      have hs4 : Sys w4 (.agg #[.slice (some ⟨(A2 .st).b, (A2 .st).o, none⟩) c (A2 .st).c, .slice (some ⟨(A2 .va).b, (A2 .va).o, none⟩) c (A2 .va).c, .slice (some ⟨(A2 .wt).b, (A2 .wt).o, none⟩) c (A2 .wt).c, .slice (some ⟨(A2 .ho).b, (A2 .ho).o, none⟩) l (A2 .ho).c, .slice (some ⟨(A2 .di).b, (A2 .di).o, none⟩) l (A2 .di).c, .slice (some ⟨(A2 .bu).b, (A2 .bu).o, none⟩) l (A2 .bu).c, .slice p2 n2 cp2]) c l (Pr.calmZ c (j + 1) Z) := sys_put HS3.out HSO3.out HKB3.out HNW3.out HLE.out rfl w4 hw4
      have hk4 : Blk w4 E #[.slice (some ⟨(A2 .st).b, (A2 .st).o, none⟩) c (A2 .st).c, .slice (some ⟨(A2 .va).b, (A2 .va).o, none⟩) c (A2 .va).c, .slice (some ⟨(A2 .wt).b, (A2 .wt).o, none⟩) c (A2 .wt).c, .slice (some ⟨(A2 .ho).b, (A2 .ho).o, none⟩) l (A2 .ho).c, .slice (some ⟨(A2 .di).b, (A2 .di).o, none⟩) l (A2 .di).c, .slice (some ⟨(A2 .bu).b, (A2 .bu).o, none⟩) l (A2 .bu).c, .slice p2 n2 cp2] := by rw [hw4]; exact (((((((HKB3.out.set (n := 0) _ (by simp)).set (n := 1) _ (by simp)).set (n := 2) _ (by simp)).set (n := 3) _ (by simp)).set (n := 4) _ (by simp)).set (n := 5) _ (by simp)).set (n := 6) _ (by simp)).cast rfl
      have hr4 : Blk w4 R #[.slice none 0 0, .slice none 0 0, .slice none 0 0, .slice none 0 0, .slice none 0 0, .slice none 0 0, .slice none 0 0] := by rw [hw4]; exact ((((((HKR3.out.other _ hER).other _ hER).other _ hER).other _ hER).other _ hER).other _ hER).other _ hER
      have hb4 : Below w.heap.size w w4 := by rw [hw4]; exact ((((((HB3.out.setCell (hEw 0) _).setCell (hEw 1) _).setCell (hEw 2) _).setCell (hEw 3) _).setCell (hEw 4) _).setCell (hEw 5) _).setCell (hEw 6) _
      have hz4 : w1.heap.size ≤ w4.heap.size := by rw [hw4]; simpa using HZ3.out
      have HNW4 : Hid (Nw w.heap.size (.agg #[.slice (some ⟨(A2 .st).b, (A2 .st).o, none⟩) c (A2 .st).c, .slice (some ⟨(A2 .va).b, (A2 .va).o, none⟩) c (A2 .va).c, .slice (some ⟨(A2 .wt).b, (A2 .wt).o, none⟩) c (A2 .wt).c, .slice (some ⟨(A2 .ho).b, (A2 .ho).o, none⟩) l (A2 .ho).c, .slice (some ⟨(A2 .di).b, (A2 .di).o, none⟩) l (A2 .di).c, .slice (some ⟨(A2 .bu).b, (A2 .bu).o, none⟩) l (A2 .bu).c, .slice p2 n2 cp2])) := Lib.hid (HNW3.out.mono HBW.out)
      rw [← hw4]
      clear hw4 kQ kB lB fB
      rw [HN2.out] at hs4 hk4 HNW4
      go_roundw
      case rel => exact ⟨j + 1, by omega, by go_num, ⟨_, _, _, _, _, _, _, _, _, _, _, _, _, _, hk4, hs4, .inr HNW4.out⟩, hr4, hb4, hz4⟩
      case measure => simp [intOf]; omega
    · have hjN : j = N := by omega
      subst hjN
      have hn0 : nj = 0 := by rw [hnj, HN0.out]; rfl
      have hposI : ¬ (0 : Int) < nj := by omega
      obtain ⟨hbusy, hline⟩ := Pr.quiet_z HSY.out.ok HN0.out
      have HBZ := Lib.hid hbusy
      have HLN := Lib.hid hline
      clear hbusy hline
      have e5 := HSY.out.sv
      obtain ⟨A5, p5, cp5, xs5, e5, hm5, hp5⟩ := e5
      have HM5 := Lib.hid hm5
      clear hm5 hp5
      simp only [Pa.sl, Value.agg.injEq, Array.mk.injEq, List.cons.injEq, Value.slice.injEq, Option.some.injEq, true_and, and_true] at e5
      obtain ⟨⟨rfl, rfl⟩, ⟨rfl, rfl⟩, ⟨rfl, rfl⟩, ⟨rfl, rfl⟩, ⟨rfl, rfl⟩, ⟨rfl, rfl⟩, rfl, -, rfl⟩ := e5
      have hzI : (nj : Int) = 0 := by omega
      clear hnj hlt
      go_wp2_with fail
      clear kB lB
      go_loopw [7] (fun i wx => ∃ n : Nat, n ≤ c ∧ i = .int .i64 n ∧ wx = wr) (fun i _ => c - (intOf i).toNat)
      case atStart => exact ⟨0, Nat.zero_le _, rfl, rfl⟩
      case round =>
        obtain ⟨n, hn, rfl, hwx⟩ := hrel
        subst hwx
        have kB := HKB.out.c
        have lB := HKB.out.lt
        by_cases hlt : n < c
        · have hltI : (n : Int) < c := by omega
          have q1 : wr.cell? ⟨(A5 .wt).b, (A5 .wt).o + n * 9, none⟩ = some (.int .i64 0) := by
            have e := HM5.out.wt_ hlt 0 (by omega)
            rw [Nat.add_zero] at e
            rw [e]
            show some (Value.int .i64 (((Pr.calmZ c j Z).F.wt n).line : Nat)) = _
            rw [HLN.out n]
            rfl
          go_wp2_with fail
          go_roundw
          case rel => exact ⟨n + 1, by omega, by go_num, by first | trivial | rfl⟩
          case measure => simp [intOf]; omega
        · have hltI : ¬ (n : Int) < c := by omega
          go_wp2_with fail
          clear kB lB
          go_loopw [8] (fun i wx => ∃ n : Nat, n ≤ l ∧ i = .int .i64 n ∧ wx = wr) (fun i _ => l - (intOf i).toNat)
          case atStart => exact ⟨0, Nat.zero_le _, rfl, rfl⟩
          case round =>
            clear hltI hlt hn
            obtain ⟨m, hm, rfl, hwx⟩ := hrel
            subst hwx
            have kB := HKB.out.c
            have lB := HKB.out.lt
            by_cases hlt : m < l
            · have hltI : (m : Int) < l := by omega
              have q1 : wr.cell? ⟨(A5 .bu).b, (A5 .bu).o + m, none⟩ = some (.int .i64 0) := by
                have e : wr.cell? ⟨(A5 .bu).b, (A5 .bu).o + m, none⟩ = some (.int .i64 ((Pr.calmZ c j Z).F.busy m : Nat)) := HM5.out.cell .bu m hlt
                rw [e, HBZ.out m hlt]
                rfl
              go_wp2_with fail
              go_roundw
              case rel => exact ⟨m + 1, by omega, by go_num, by first | trivial | rfl⟩
              case measure => simp [intOf]; omega
            · have hltI : ¬ (m : Int) < l := by omega
              have kR := HKR.out.c
              have fR := HKR.out.f
              have lR := HKR.out.lt
              have hER : E ≠ R := by have h1 := HEE.out; have h2 := HRR.out; omega
              have hRE : R ≠ E := fun e => hER e.symm
              go_upto_region 18 with fail
              have hn0' : nj = 0 := by omega
              clear hposI hzI hn0
              subst hn0'
              refine region_planF (fun V : World => ∀ k : Nat, V.cell? ⟨E, k, none⟩ = (#[.slice (some ⟨(A5 .st).b, (A5 .st).o, none⟩) c (A5 .st).c, .slice (some ⟨(A5 .va).b, (A5 .va).o, none⟩) c (A5 .va).c, .slice (some ⟨(A5 .wt).b, (A5 .wt).o, none⟩) c (A5 .wt).c, .slice (some ⟨(A5 .ho).b, (A5 .ho).o, none⟩) l (A5 .ho).c, .slice (some ⟨(A5 .di).b, (A5 .di).o, none⟩) l (A5 .di).c, .slice (some ⟨(A5 .bu).b, (A5 .bu).o, none⟩) l (A5 .bu).c, .slice qp 0 qo] : Array Value)[k]?) (.read 0 (.read 1 (.read 2 (.read 3 (.read 4 (.read 5 (.one 6 (.one 7 .stop)))))))) (by kernel_rfl) (by kernel_rfl) (HKB.out.drew.c) ?_
              iterate 6
                refine planT_read (v := ?_) rfl (by rfl) ?_ ?_
                rotate_left
                · intro w' hS
                  try dsimp only at hS
                  go_simp
                  try with_reducible rfl
                try simp only [Act.put, List.setIfInBounds_toArray, List.set_cons_zero, List.set_cons_succ, List.getElem_toArray, List.getElem_cons_zero, List.getElem_cons_succ]
              obtain ⟨w6, hw6⟩ : ∃ x, x = (((((((wr.drew.setCell ⟨R, 0, none⟩ (.slice (some ⟨(A5 .st).b, (A5 .st).o, none⟩) c (A5 .st).c)).setCell ⟨R, 1, none⟩ (.slice (some ⟨(A5 .va).b, (A5 .va).o, none⟩) c (A5 .va).c)).setCell ⟨R, 2, none⟩ (.slice (some ⟨(A5 .wt).b, (A5 .wt).o, none⟩) c (A5 .wt).c)).setCell ⟨R, 3, none⟩ (.slice (some ⟨(A5 .ho).b, (A5 .ho).o, none⟩) l (A5 .ho).c)).setCell ⟨R, 4, none⟩ (.slice (some ⟨(A5 .di).b, (A5 .di).o, none⟩) l (A5 .di).c)).setCell ⟨R, 5, none⟩ (.slice (some ⟨(A5 .bu).b, (A5 .bu).o, none⟩) l (A5 .bu).c)).setCell ⟨R, 6, none⟩ (.slice qp 0 qo)) := ⟨_, rfl⟩
              have HK6 : Hid (Blk w6 E #[.slice (some ⟨(A5 .st).b, (A5 .st).o, none⟩) c (A5 .st).c, .slice (some ⟨(A5 .va).b, (A5 .va).o, none⟩) c (A5 .va).c, .slice (some ⟨(A5 .wt).b, (A5 .wt).o, none⟩) c (A5 .wt).c, .slice (some ⟨(A5 .ho).b, (A5 .ho).o, none⟩) l (A5 .ho).c, .slice (some ⟨(A5 .di).b, (A5 .di).o, none⟩) l (A5 .di).c, .slice (some ⟨(A5 .bu).b, (A5 .bu).o, none⟩) l (A5 .bu).c, .slice qp 0 qo]) := Lib.hid (by rw [hw6]; exact ((((((HKB.out.drew.other _ hRE).other _ hRE).other _ hRE).other _ hRE).other _ hRE).other _ hRE).other _ hRE)
              refine planT_one ?_
              refine op_store (w1 := w6) rfl (by rfl) ?_ ?_
              · rw [hw6]
                go_simp
              refine ⟨HK6.out.c, ?_⟩
              try simp only [Act.put, List.setIfInBounds_toArray, List.set_cons_zero, List.set_cons_succ, List.getElem_toArray, List.getElem_cons_zero, List.getElem_cons_succ]
              refine planT_one ?_
              refine op_keep (v := .bool true) rfl (by rfl) ?_ ?_
              · go_simp
              refine ⟨HK6.out.c, ?_⟩
              try simp only [Act.put, List.setIfInBounds_toArray, List.set_cons_zero, List.set_cons_succ, List.getElem_toArray, List.getElem_cons_zero, List.getElem_cons_succ]
              refine planT_stop ?_
              refine NoPanic.normal ?_
              have hs6 : Sys w6 (.agg #[.slice (some ⟨(A5 .st).b, (A5 .st).o, none⟩) c (A5 .st).c, .slice (some ⟨(A5 .va).b, (A5 .va).o, none⟩) c (A5 .va).c, .slice (some ⟨(A5 .wt).b, (A5 .wt).o, none⟩) c (A5 .wt).c, .slice (some ⟨(A5 .ho).b, (A5 .ho).o, none⟩) l (A5 .ho).c, .slice (some ⟨(A5 .di).b, (A5 .di).o, none⟩) l (A5 .di).c, .slice (some ⟨(A5 .bu).b, (A5 .bu).o, none⟩) l (A5 .bu).c, .slice qp 0 qo]) c l (Pr.calmZ c j Z) := sys_lay (HSY.out.below (Below.refl _ _).drew) HKR.out.drew rfl w6 hw6
              have hle : ∀ k, w.heap.size ≤ (⟨R, k, none⟩ : Addr).block := fun k => by show w.heap.size ≤ R; rw [HRR.out]; omega
              have hb6 : Below w.heap.size w w6 := by rw [hw6]; exact ((((((HB.out.drew.setCell (hle 0) _).setCell (hle 1) _).setCell (hle 2) _).setCell (hle 3) _).setCell (hle 4) _).setCell (hle 5) _).setCell (hle 6) _
              have HVN6 := HVN.out
              rw [HV0.out] at HVN6
              have kR6 : ∀ k : Nat, w6.cell? ⟨R, k, none⟩ = (#[.slice (some ⟨(A5 .st).b, (A5 .st).o, none⟩) c (A5 .st).c, .slice (some ⟨(A5 .va).b, (A5 .va).o, none⟩) c (A5 .va).c, .slice (some ⟨(A5 .wt).b, (A5 .wt).o, none⟩) c (A5 .wt).c, .slice (some ⟨(A5 .ho).b, (A5 .ho).o, none⟩) l (A5 .ho).c, .slice (some ⟨(A5 .di).b, (A5 .di).o, none⟩) l (A5 .di).c, .slice (some ⟨(A5 .bu).b, (A5 .bu).o, none⟩) l (A5 .bu).c, .slice qp 0 qo] : Array Value)[k]? := by
                have hk6 : Blk w6 R #[.slice (some ⟨(A5 .st).b, (A5 .st).o, none⟩) c (A5 .st).c, .slice (some ⟨(A5 .va).b, (A5 .va).o, none⟩) c (A5 .va).c, .slice (some ⟨(A5 .wt).b, (A5 .wt).o, none⟩) c (A5 .wt).c, .slice (some ⟨(A5 .ho).b, (A5 .ho).o, none⟩) l (A5 .ho).c, .slice (some ⟨(A5 .di).b, (A5 .di).o, none⟩) l (A5 .di).c, .slice (some ⟨(A5 .bu).b, (A5 .bu).o, none⟩) l (A5 .bu).c, .slice qp 0 qo] := by rw [hw6]; exact (((((((HKR.out.drew.set (n := 0) _ (by simp)).set (n := 1) _ (by simp)).set (n := 2) _ (by simp)).set (n := 3) _ (by simp)).set (n := 4) _ (by simp)).set (n := 5) _ (by simp)).set (n := 6) _ (by simp)).cast rfl
                exact hk6.c
              clear hw6 kR fR lR kB lB
              go_wp2_with fail
              exact bodyPost_ret (v := .tuple #[.agg #[.slice (some ⟨(A5 .st).b, (A5 .st).o, none⟩) c (A5 .st).c, .slice (some ⟨(A5 .va).b, (A5 .va).o, none⟩) c (A5 .va).c, .slice (some ⟨(A5 .wt).b, (A5 .wt).o, none⟩) c (A5 .wt).c, .slice (some ⟨(A5 .ho).b, (A5 .ho).o, none⟩) l (A5 .ho).c, .slice (some ⟨(A5 .di).b, (A5 .di).o, none⟩) l (A5 .di).c, .slice (some ⟨(A5 .bu).b, (A5 .bu).o, none⟩) l (A5 .bu).c, .slice qp 0 qo], .bool true]) (by simp [results, Tryz.results27, go_sem, *]) rfl ⟨_, rfl, hs6, HVN6, hb6⟩
end Go.Proofs.YtmeomdfmljanhaaGreat.Pg
/- The program's own Right of a system; awake. -/
namespace Go.Proofs.YtmeomdfmljanhaaGreat.Pg
set_option linter.unusedVariables false
open Go.ChangeShapes Go.WideShapes Go.ChangeAt Go.RowKit

theorem right_ok (v : Value) (c l : Nat) (Z : Pr.Zz) (w : World) (h : Sys w v c l Z) : Calls Tryz.prog 21 #[v] w fun e w' => e = .returned (.bool true) ∧ Below w.heap.size w w' := by
  obtain ⟨A, p, cp, xs, rfl, hm, hp⟩ := h.sv
  exact right_t hm (ok_rg h.ok) p cp xs _ hp (ok_right h.ok)
theorem sys_bu {w : World} {c l : Nat} {Z : Pr.Zz} {v0 v1 v2 v3 v4 v6 : Value} {b o k : Nat} (h : Sys w (.agg #[v0, v1, v2, v3, v4, .slice (some ⟨b, o, none⟩) l k, v6]) c l Z) {j : Nat} (hj : j < l) : w.cell? ⟨b, o + j, none⟩ = some (.int .i64 (Z.F.busy j : Nat)) := by
  obtain ⟨A, p, cp, xs, e, hm, hp⟩ := h.sv
  simp only [Pa.sl, Value.agg.injEq, Array.mk.injEq, List.cons.injEq, Value.slice.injEq, Option.some.injEq, Addr.mk.injEq, true_and, and_true] at e
  obtain ⟨_, _, _, _, _, ⟨⟨rfl, rfl⟩, rfl⟩, _⟩ := e
  exact hm.cell .bu j hj
theorem awake_facts (Y : Pr.Sy) : ∃ Z1 Z2 Z3 Z4 : Pr.Zz, Z1 = Pr.wantZ ⟨⟨fun _ _ => 0, fun _ _ => 0, fun _ => Pr.Wt.none, fun _ => 0, fun _ => 0, fun _ _ => false, fun _ => 0⟩, [], Y⟩ 0 1 true ∧ Z2 = Pr.delivZ 2 Z1 0 ∧ Z3 = Pr.delivZ 2 Z2 0 ∧ Z4 = Pr.setZ Z3 0 1 7 ∧
    Pr.wantX ⟨⟨fun _ _ => 0, fun _ _ => 0, fun _ => Pr.Wt.none, fun _ => 0, fun _ => 0, fun _ _ => false, fun _ => 0⟩, [], Y⟩ 0 1 true = 0 ∧ 0 < Z1.ms.length ∧ 0 < Z2.ms.length ∧ Pr.setX Z3 0 1 = 0 ∧ hasB Z4.F 0 1 false = true ∧ Z4.F.va 0 1 = 7 ∧ hasB Z4.F 0 1 true = true ∧ hasB Z4.F 1 1 false = false ∧ Z4.F.busy 1 = 1 :=
  ⟨_, _, _, _, rfl, rfl, rfl, rfl, by kernel_rfl, Nat.le_of_ble_eq_true (by kernel_rfl), Nat.le_of_ble_eq_true (by kernel_rfl), by kernel_rfl, by kernel_rfl, by kernel_rfl, by kernel_rfl, by kernel_rfl, by kernel_rfl⟩
set_option maxHeartbeats 4000000 in
set_option maxRecDepth 100000 in
theorem awake_ok (w : World) : Calls Tryz.prog 7 #[] w fun e w' => e = .returned (.bool true) ∧ Below w.heap.size w w' := by
  have HNEW : Hid (Calls Tryz.prog 23 #[.int .i64 2, .int .i64 2] w fun e w' => ∃ Y : Pr.Sy, (∀ k, (Y.li k).last = 0) ∧ OutZ w w' e 2 2 ⟨⟨fun _ _ => 0, fun _ _ => 0, fun _ => Pr.Wt.none, fun _ => 0, fun _ => 0, fun _ _ => false, fun _ => 0⟩, [], Y⟩ 0) := Lib.hid (new_ok 2 2 w (by omega) (by omega) (by omega) (by omega))
  go_enter Tryz.func7, Tryz.ntmps7
  go_upto_region 1 with fail
  go_wp2_with fail
  refine HNEW.out.mono ?_
  rintro e v1w ⟨Y, _, hout⟩
  have HB0 : Hid (Below w.heap.size w w) := Lib.hid (Below.refl _ _)
  clear HNEW
  obtain ⟨Z1, Z2, Z3, Z4, hZ1, hZ2, hZ3, hZ4, hX1, hM1, hM2, hX4, hA1, hA2, hA3, hA4, hA5⟩ := awake_facts Y
  obtain ⟨Z0, hZ0⟩ : ∃ Z0 : Pr.Zz, Z0 = ⟨⟨fun _ _ => 0, fun _ _ => 0, fun _ => Pr.Wt.none, fun _ => 0, fun _ => 0, fun _ _ => false, fun _ => 0⟩, [], Y⟩ := ⟨_, rfl⟩
  rw [← hZ0] at hout hZ1 hX1
  clear hZ0
  have HM1 := Lib.hid hM1
  have HM2 := Lib.hid hM2
  have HA := Lib.hid (And.intro hA1 (And.intro hA2 (And.intro hA3 (And.intro hA4 hA5))))
  have HWANT : Hid (∀ v W, Sys W v 2 2 Z0 → Calls Tryz.prog 12 #[v, .int .i64 0, .int .i64 1, .bool true] W fun e w' => OutZ W w' e 2 2 Z1 0) := Lib.hid (fun v W hS => by
    have := want_ok v 2 2 Z0 0 1 true W hS (by omega) (by omega)
    rw [← hZ1, hX1] at this
    exact this)
  have HDEL1 : Hid (∀ v W, Sys W v 2 2 Z1 → Calls Tryz.prog 9 #[v, .int .i64 0] W fun e w' => OutZ W w' e 2 2 Z2 0) := Lib.hid (fun v W hS => by
    have := deliv_ok v 2 2 Z1 0 W hS HM1.out
    rw [← hZ2] at this
    exact this)
  have HDEL2 : Hid (∀ v W, Sys W v 2 2 Z2 → Calls Tryz.prog 9 #[v, .int .i64 0] W fun e w' => OutZ W w' e 2 2 Z3 0) := Lib.hid (fun v W hS => by
    have := deliv_ok v 2 2 Z2 0 W hS HM2.out
    rw [← hZ3] at this
    exact this)
  have HSET : Hid (∀ v W, Sys W v 2 2 Z3 → Calls Tryz.prog 16 #[v, .int .i64 0, .int .i64 1, .int .u32 7] W fun e w' => OutZ W w' e 2 2 Z4 0) := Lib.hid (fun v W hS => by
    have := set_ok v 2 2 Z3 0 1 7 W hS (by omega) (by omega) (by omega)
    rw [← hZ4, hX4] at this
    exact this)
  have HGET : Hid (∀ v W, Sys W v 2 2 Z4 → Calls Tryz.prog 18 #[v, .int .i64 0, .int .i64 1] W fun e w' => e = .returned (.tuple #[.int .u32 7, .int .i64 0]) ∧ Below W.heap.size W w') := Lib.hid (fun v W hS => by
    have := get_ok v 2 2 Z4 0 1 W hS (by omega) (by omega)
    rw [HA.out.1, if_pos rfl, if_pos rfl, HA.out.2.1] at this
    exact this)
  have HHAS1 : Hid (∀ v W, Sys W v 2 2 Z4 → Calls Tryz.prog 20 #[v, .int .i64 0, .int .i64 1, .bool true] W fun e w' => e = .returned (.bool true) ∧ Below W.heap.size W w') := Lib.hid (fun v W hS => by
    have := has_ok v 2 2 Z4 0 1 true W hS (by omega) (by omega)
    rw [HA.out.2.2.1] at this
    exact this)
  have HHAS2 : Hid (∀ v W, Sys W v 2 2 Z4 → Calls Tryz.prog 20 #[v, .int .i64 1, .int .i64 1, .bool false] W fun e w' => e = .returned (.bool false) ∧ Below W.heap.size W w') := Lib.hid (fun v W hS => by
    have := has_ok v 2 2 Z4 1 1 false W hS (by omega) (by omega)
    rw [HA.out.2.2.2.1] at this
    exact this)
  clear hZ1 hZ2 hZ3 hZ4 hX1 hM1 hM2 hX4 hA1 hA2 hA3 hA4 hA5 HM1 HM2
  obtain ⟨v1, rfl, hs1, hnw1, hb1⟩ := hout
  obtain ⟨A1, p1, cp1, xs1, rfl, hm1, hp1⟩ := id hs1.sv
  simp only [Pa.sl, List.length_map] at hs1 hnw1 ⊢
  clear hm1 hp1 xs1
  obtain ⟨n1, hn1⟩ : ∃ x, x = (Z0).ms.length := ⟨_, rfl⟩
  rw [← hn1] at hs1 hnw1 ⊢
  obtain ⟨w1, hw1⟩ : ∃ x, x = v1w.alloc (.cells #[.slice (some ⟨(A1 .st).b, (A1 .st).o, none⟩) 2 (A1 .st).c, .slice (some ⟨(A1 .va).b, (A1 .va).o, none⟩) 2 (A1 .va).c, .slice (some ⟨(A1 .wt).b, (A1 .wt).o, none⟩) 2 (A1 .wt).c, .slice (some ⟨(A1 .ho).b, (A1 .ho).o, none⟩) 2 (A1 .ho).c, .slice (some ⟨(A1 .di).b, (A1 .di).o, none⟩) 2 (A1 .di).c, .slice (some ⟨(A1 .bu).b, (A1 .bu).o, none⟩) 2 (A1 .bu).c, .slice p1 n1 cp1] 32) := ⟨_, rfl⟩
  obtain ⟨E, hE1⟩ : ∃ x, x = v1w.heap.size := ⟨_, rfl⟩
  have ha1 : Below v1w.heap.size v1w w1 := by rw [hw1]; exact (Below.refl _ _).alloc (Nat.le_refl _) _
  have HBW1 : Hid (Below w.heap.size w w1) := Lib.hid (hb1.trans (ha1.mono hb1.size))
  have HB1 : Hid (Below w.heap.size w w1) := Lib.hid (HB0.out.trans (HBW1.out.mono HB0.out.size))
  have HK1 : Hid (Blk w1 E #[.slice (some ⟨(A1 .st).b, (A1 .st).o, none⟩) 2 (A1 .st).c, .slice (some ⟨(A1 .va).b, (A1 .va).o, none⟩) 2 (A1 .va).c, .slice (some ⟨(A1 .wt).b, (A1 .wt).o, none⟩) 2 (A1 .wt).c, .slice (some ⟨(A1 .ho).b, (A1 .ho).o, none⟩) 2 (A1 .ho).c, .slice (some ⟨(A1 .di).b, (A1 .di).o, none⟩) 2 (A1 .di).c, .slice (some ⟨(A1 .bu).b, (A1 .bu).o, none⟩) 2 (A1 .bu).c, .slice p1 n1 cp1]) := Lib.hid (by rw [hw1, hE1]; exact Blk.new _ _ _)
  have HS1 := Lib.hid (hs1.below ha1)
  have HEBE : Hid (w.heap.size ≤ E) := Lib.hid (by rw [hE1]; exact Nat.le_trans HB0.out.size hb1.size)
  have HW1 := Lib.hid hw1
  have HE1 := Lib.hid hE1
  have HN1 := Lib.hid hn1
  clear hw1 hE1 ha1 hb1 hs1 hnw1 hn1
  go_upto_region 2 with fail
  rw [← HE1.out]
  first | rw [← HW1.out] | fail "W1"
  clear HW1
  have kB := HK1.out.c
  have lB := HK1.out.lt
  go_wp2_with fail
  refine (HWANT.out _ _ HS1.out).mono ?_
  rintro e v2w ⟨v2, rfl, hs2, hnw2, hb2⟩
  obtain ⟨A2, p2, cp2, xs2, rfl, hm2, hp2⟩ := id hs2.sv
  simp only [Pa.sl, List.length_map] at hs2 hnw2 ⊢
  clear hm2 hp2 xs2
  obtain ⟨n2, hn2⟩ : ∃ x, x = (Z1).ms.length := ⟨_, rfl⟩
  rw [← hn2] at hs2 hnw2 ⊢
  have HSI2 := Lib.hid hs2
  have HNW2 := Lib.hid hnw2
  have HKE2 := Lib.hid (HK1.out.below hb2)
  have HSO2 := Lib.hid (HS1.out.below hb2)
  have HLE2 : Hid (E < w1.heap.size) := Lib.hid HK1.out.lt
  have HBW2 := Lib.hid hb2
  have HN2 := Lib.hid hn2
  clear hb2 hs2 hnw2 hn2 kB lB
  have kB := HKE2.out.c
  have lB := HKE2.out.lt
  have fB := HKE2.out.f
  go_upto_region 3 with fail
  obtain ⟨w2, hw2⟩ : ∃ x, x = (((((((v2w.setCell ⟨E, 0, none⟩ (.slice (some ⟨(A2 .st).b, (A2 .st).o, none⟩) 2 (A2 .st).c)).setCell ⟨E, 1, none⟩ (.slice (some ⟨(A2 .va).b, (A2 .va).o, none⟩) 2 (A2 .va).c)).setCell ⟨E, 2, none⟩ (.slice (some ⟨(A2 .wt).b, (A2 .wt).o, none⟩) 2 (A2 .wt).c)).setCell ⟨E, 3, none⟩ (.slice (some ⟨(A2 .ho).b, (A2 .ho).o, none⟩) 2 (A2 .ho).c)).setCell ⟨E, 4, none⟩ (.slice (some ⟨(A2 .di).b, (A2 .di).o, none⟩) 2 (A2 .di).c)).setCell ⟨E, 5, none⟩ (.slice (some ⟨(A2 .bu).b, (A2 .bu).o, none⟩) 2 (A2 .bu).c)).setCell ⟨E, 6, none⟩ (.slice p2 n2 cp2)) := ⟨_, rfl⟩
  first | rw [← hw2] | fail "W2"
  have HS2 : Hid (Sys w2 (.agg #[.slice (some ⟨(A2 .st).b, (A2 .st).o, none⟩) 2 (A2 .st).c, .slice (some ⟨(A2 .va).b, (A2 .va).o, none⟩) 2 (A2 .va).c, .slice (some ⟨(A2 .wt).b, (A2 .wt).o, none⟩) 2 (A2 .wt).c, .slice (some ⟨(A2 .ho).b, (A2 .ho).o, none⟩) 2 (A2 .ho).c, .slice (some ⟨(A2 .di).b, (A2 .di).o, none⟩) 2 (A2 .di).c, .slice (some ⟨(A2 .bu).b, (A2 .bu).o, none⟩) 2 (A2 .bu).c, .slice p2 n2 cp2]) 2 2 (Z1)) := Lib.hid (sys_put HSI2.out HSO2.out HKE2.out HNW2.out HLE2.out rfl w2 hw2)
  have HK2 : Hid (Blk w2 E #[.slice (some ⟨(A2 .st).b, (A2 .st).o, none⟩) 2 (A2 .st).c, .slice (some ⟨(A2 .va).b, (A2 .va).o, none⟩) 2 (A2 .va).c, .slice (some ⟨(A2 .wt).b, (A2 .wt).o, none⟩) 2 (A2 .wt).c, .slice (some ⟨(A2 .ho).b, (A2 .ho).o, none⟩) 2 (A2 .ho).c, .slice (some ⟨(A2 .di).b, (A2 .di).o, none⟩) 2 (A2 .di).c, .slice (some ⟨(A2 .bu).b, (A2 .bu).o, none⟩) 2 (A2 .bu).c, .slice p2 n2 cp2]) := Lib.hid (by rw [hw2]; exact (((((((HKE2.out.set (n := 0) _ (by simp)).set (n := 1) _ (by simp)).set (n := 2) _ (by simp)).set (n := 3) _ (by simp)).set (n := 4) _ (by simp)).set (n := 5) _ (by simp)).set (n := 6) _ (by simp)).cast rfl)
  have hle2 : ∀ k, w.heap.size ≤ (⟨E, k, none⟩ : Addr).block := fun k => HEBE.out
  have HB2 : Hid (Below w.heap.size w w2) := Lib.hid (by rw [hw2]; exact (((((((HB1.out.trans (HBW2.out.mono HB1.out.size)).setCell (hle2 0) _).setCell (hle2 1) _).setCell (hle2 2) _).setCell (hle2 3) _).setCell (hle2 4) _).setCell (hle2 5) _).setCell (hle2 6) _)
  clear hle2
  clear hw2 kB lB fB HSI2 HSO2 HKE2
  have kB := HK2.out.c
  have lB := HK2.out.lt
  go_wp2_with fail
  refine (HDEL1.out _ _ HS2.out).mono ?_
  rintro e v3w ⟨v3, rfl, hs3, hnw3, hb3⟩
  obtain ⟨A3, p3, cp3, xs3, rfl, hm3, hp3⟩ := id hs3.sv
  simp only [Pa.sl, List.length_map] at hs3 hnw3 ⊢
  clear hm3 hp3 xs3
  obtain ⟨n3, hn3⟩ : ∃ x, x = (Z2).ms.length := ⟨_, rfl⟩
  rw [← hn3] at hs3 hnw3 ⊢
  have HSI3 := Lib.hid hs3
  have HNW3 := Lib.hid hnw3
  have HKE3 := Lib.hid (HK2.out.below hb3)
  have HSO3 := Lib.hid (HS2.out.below hb3)
  have HLE3 : Hid (E < w2.heap.size) := Lib.hid HK2.out.lt
  have HBW3 := Lib.hid hb3
  have HN3 := Lib.hid hn3
  clear hb3 hs3 hnw3 hn3 kB lB
  have kB := HKE3.out.c
  have lB := HKE3.out.lt
  have fB := HKE3.out.f
  go_upto_region 4 with fail
  obtain ⟨w3, hw3⟩ : ∃ x, x = (((((((v3w.setCell ⟨E, 0, none⟩ (.slice (some ⟨(A3 .st).b, (A3 .st).o, none⟩) 2 (A3 .st).c)).setCell ⟨E, 1, none⟩ (.slice (some ⟨(A3 .va).b, (A3 .va).o, none⟩) 2 (A3 .va).c)).setCell ⟨E, 2, none⟩ (.slice (some ⟨(A3 .wt).b, (A3 .wt).o, none⟩) 2 (A3 .wt).c)).setCell ⟨E, 3, none⟩ (.slice (some ⟨(A3 .ho).b, (A3 .ho).o, none⟩) 2 (A3 .ho).c)).setCell ⟨E, 4, none⟩ (.slice (some ⟨(A3 .di).b, (A3 .di).o, none⟩) 2 (A3 .di).c)).setCell ⟨E, 5, none⟩ (.slice (some ⟨(A3 .bu).b, (A3 .bu).o, none⟩) 2 (A3 .bu).c)).setCell ⟨E, 6, none⟩ (.slice p3 n3 cp3)) := ⟨_, rfl⟩
  first | rw [← hw3] | fail "W3"
  have HS3 : Hid (Sys w3 (.agg #[.slice (some ⟨(A3 .st).b, (A3 .st).o, none⟩) 2 (A3 .st).c, .slice (some ⟨(A3 .va).b, (A3 .va).o, none⟩) 2 (A3 .va).c, .slice (some ⟨(A3 .wt).b, (A3 .wt).o, none⟩) 2 (A3 .wt).c, .slice (some ⟨(A3 .ho).b, (A3 .ho).o, none⟩) 2 (A3 .ho).c, .slice (some ⟨(A3 .di).b, (A3 .di).o, none⟩) 2 (A3 .di).c, .slice (some ⟨(A3 .bu).b, (A3 .bu).o, none⟩) 2 (A3 .bu).c, .slice p3 n3 cp3]) 2 2 (Z2)) := Lib.hid (sys_put HSI3.out HSO3.out HKE3.out HNW3.out HLE3.out rfl w3 hw3)
  have HK3 : Hid (Blk w3 E #[.slice (some ⟨(A3 .st).b, (A3 .st).o, none⟩) 2 (A3 .st).c, .slice (some ⟨(A3 .va).b, (A3 .va).o, none⟩) 2 (A3 .va).c, .slice (some ⟨(A3 .wt).b, (A3 .wt).o, none⟩) 2 (A3 .wt).c, .slice (some ⟨(A3 .ho).b, (A3 .ho).o, none⟩) 2 (A3 .ho).c, .slice (some ⟨(A3 .di).b, (A3 .di).o, none⟩) 2 (A3 .di).c, .slice (some ⟨(A3 .bu).b, (A3 .bu).o, none⟩) 2 (A3 .bu).c, .slice p3 n3 cp3]) := Lib.hid (by rw [hw3]; exact (((((((HKE3.out.set (n := 0) _ (by simp)).set (n := 1) _ (by simp)).set (n := 2) _ (by simp)).set (n := 3) _ (by simp)).set (n := 4) _ (by simp)).set (n := 5) _ (by simp)).set (n := 6) _ (by simp)).cast rfl)
  have hle3 : ∀ k, w.heap.size ≤ (⟨E, k, none⟩ : Addr).block := fun k => HEBE.out
  have HB3 : Hid (Below w.heap.size w w3) := Lib.hid (by rw [hw3]; exact (((((((HB2.out.trans (HBW3.out.mono HB2.out.size)).setCell (hle3 0) _).setCell (hle3 1) _).setCell (hle3 2) _).setCell (hle3 3) _).setCell (hle3 4) _).setCell (hle3 5) _).setCell (hle3 6) _)
  clear hle3
  clear hw3 kB lB fB HSI3 HSO3 HKE3
  have kB := HK3.out.c
  have lB := HK3.out.lt
  go_wp2_with fail
  refine (HDEL2.out _ _ HS3.out).mono ?_
  rintro e v4w ⟨v4, rfl, hs4, hnw4, hb4⟩
  obtain ⟨A4, p4, cp4, xs4, rfl, hm4, hp4⟩ := id hs4.sv
  simp only [Pa.sl, List.length_map] at hs4 hnw4 ⊢
  clear hm4 hp4 xs4
  obtain ⟨n4, hn4⟩ : ∃ x, x = (Z3).ms.length := ⟨_, rfl⟩
  rw [← hn4] at hs4 hnw4 ⊢
  have HSI4 := Lib.hid hs4
  have HNW4 := Lib.hid hnw4
  have HKE4 := Lib.hid (HK3.out.below hb4)
  have HSO4 := Lib.hid (HS3.out.below hb4)
  have HLE4 : Hid (E < w3.heap.size) := Lib.hid HK3.out.lt
  have HBW4 := Lib.hid hb4
  have HN4 := Lib.hid hn4
  clear hb4 hs4 hnw4 hn4 kB lB
  have kB := HKE4.out.c
  have lB := HKE4.out.lt
  have fB := HKE4.out.f
  go_upto_region 5 with fail
  obtain ⟨w4, hw4⟩ : ∃ x, x = (((((((v4w.setCell ⟨E, 0, none⟩ (.slice (some ⟨(A4 .st).b, (A4 .st).o, none⟩) 2 (A4 .st).c)).setCell ⟨E, 1, none⟩ (.slice (some ⟨(A4 .va).b, (A4 .va).o, none⟩) 2 (A4 .va).c)).setCell ⟨E, 2, none⟩ (.slice (some ⟨(A4 .wt).b, (A4 .wt).o, none⟩) 2 (A4 .wt).c)).setCell ⟨E, 3, none⟩ (.slice (some ⟨(A4 .ho).b, (A4 .ho).o, none⟩) 2 (A4 .ho).c)).setCell ⟨E, 4, none⟩ (.slice (some ⟨(A4 .di).b, (A4 .di).o, none⟩) 2 (A4 .di).c)).setCell ⟨E, 5, none⟩ (.slice (some ⟨(A4 .bu).b, (A4 .bu).o, none⟩) 2 (A4 .bu).c)).setCell ⟨E, 6, none⟩ (.slice p4 n4 cp4)) := ⟨_, rfl⟩
  first | rw [← hw4] | fail "W4"
  have HS4 : Hid (Sys w4 (.agg #[.slice (some ⟨(A4 .st).b, (A4 .st).o, none⟩) 2 (A4 .st).c, .slice (some ⟨(A4 .va).b, (A4 .va).o, none⟩) 2 (A4 .va).c, .slice (some ⟨(A4 .wt).b, (A4 .wt).o, none⟩) 2 (A4 .wt).c, .slice (some ⟨(A4 .ho).b, (A4 .ho).o, none⟩) 2 (A4 .ho).c, .slice (some ⟨(A4 .di).b, (A4 .di).o, none⟩) 2 (A4 .di).c, .slice (some ⟨(A4 .bu).b, (A4 .bu).o, none⟩) 2 (A4 .bu).c, .slice p4 n4 cp4]) 2 2 (Z3)) := Lib.hid (sys_put HSI4.out HSO4.out HKE4.out HNW4.out HLE4.out rfl w4 hw4)
  have HK4 : Hid (Blk w4 E #[.slice (some ⟨(A4 .st).b, (A4 .st).o, none⟩) 2 (A4 .st).c, .slice (some ⟨(A4 .va).b, (A4 .va).o, none⟩) 2 (A4 .va).c, .slice (some ⟨(A4 .wt).b, (A4 .wt).o, none⟩) 2 (A4 .wt).c, .slice (some ⟨(A4 .ho).b, (A4 .ho).o, none⟩) 2 (A4 .ho).c, .slice (some ⟨(A4 .di).b, (A4 .di).o, none⟩) 2 (A4 .di).c, .slice (some ⟨(A4 .bu).b, (A4 .bu).o, none⟩) 2 (A4 .bu).c, .slice p4 n4 cp4]) := Lib.hid (by rw [hw4]; exact (((((((HKE4.out.set (n := 0) _ (by simp)).set (n := 1) _ (by simp)).set (n := 2) _ (by simp)).set (n := 3) _ (by simp)).set (n := 4) _ (by simp)).set (n := 5) _ (by simp)).set (n := 6) _ (by simp)).cast rfl)
  have hle4 : ∀ k, w.heap.size ≤ (⟨E, k, none⟩ : Addr).block := fun k => HEBE.out
  have HB4 : Hid (Below w.heap.size w w4) := Lib.hid (by rw [hw4]; exact (((((((HB3.out.trans (HBW4.out.mono HB3.out.size)).setCell (hle4 0) _).setCell (hle4 1) _).setCell (hle4 2) _).setCell (hle4 3) _).setCell (hle4 4) _).setCell (hle4 5) _).setCell (hle4 6) _)
  clear hle4
  clear hw4 kB lB fB HSI4 HSO4 HKE4
  have kB := HK4.out.c
  have lB := HK4.out.lt
  go_wp2_with fail
  refine (HSET.out _ _ HS4.out).mono ?_
  rintro e v5w ⟨v5, rfl, hs5, hnw5, hb5⟩
  obtain ⟨A5, p5, cp5, xs5, rfl, hm5, hp5⟩ := id hs5.sv
  simp only [Pa.sl, List.length_map] at hs5 hnw5 ⊢
  clear hm5 hp5 xs5
  obtain ⟨n5, hn5⟩ : ∃ x, x = (Z4).ms.length := ⟨_, rfl⟩
  rw [← hn5] at hs5 hnw5 ⊢
  obtain ⟨w5, hw5⟩ : ∃ x, x = v5w.alloc (.cells #[.slice (some ⟨(A5 .st).b, (A5 .st).o, none⟩) 2 (A5 .st).c, .slice (some ⟨(A5 .va).b, (A5 .va).o, none⟩) 2 (A5 .va).c, .slice (some ⟨(A5 .wt).b, (A5 .wt).o, none⟩) 2 (A5 .wt).c, .slice (some ⟨(A5 .ho).b, (A5 .ho).o, none⟩) 2 (A5 .ho).c, .slice (some ⟨(A5 .di).b, (A5 .di).o, none⟩) 2 (A5 .di).c, .slice (some ⟨(A5 .bu).b, (A5 .bu).o, none⟩) 2 (A5 .bu).c, .slice p5 n5 cp5] 32) := ⟨_, rfl⟩
  obtain ⟨E6, hE5⟩ : ∃ x, x = v5w.heap.size := ⟨_, rfl⟩
  have ha5 : Below v5w.heap.size v5w w5 := by rw [hw5]; exact (Below.refl _ _).alloc (Nat.le_refl _) _
  have HBW5 : Hid (Below w4.heap.size w4 w5) := Lib.hid (hb5.trans (ha5.mono hb5.size))
  have HB5 : Hid (Below w.heap.size w w5) := Lib.hid (HB4.out.trans (HBW5.out.mono HB4.out.size))
  have HK5 : Hid (Blk w5 E6 #[.slice (some ⟨(A5 .st).b, (A5 .st).o, none⟩) 2 (A5 .st).c, .slice (some ⟨(A5 .va).b, (A5 .va).o, none⟩) 2 (A5 .va).c, .slice (some ⟨(A5 .wt).b, (A5 .wt).o, none⟩) 2 (A5 .wt).c, .slice (some ⟨(A5 .ho).b, (A5 .ho).o, none⟩) 2 (A5 .ho).c, .slice (some ⟨(A5 .di).b, (A5 .di).o, none⟩) 2 (A5 .di).c, .slice (some ⟨(A5 .bu).b, (A5 .bu).o, none⟩) 2 (A5 .bu).c, .slice p5 n5 cp5]) := Lib.hid (by rw [hw5, hE5]; exact Blk.new _ _ _)
  have HS5 := Lib.hid (hs5.below ha5)
  have HEBE6 : Hid (w.heap.size ≤ E6) := Lib.hid (by rw [hE5]; exact Nat.le_trans HB4.out.size hb5.size)
  have HW5 := Lib.hid hw5
  have HE5 := Lib.hid hE5
  have HN5 := Lib.hid hn5
  clear hw5 hE5 ha5 hb5 hs5 hnw5 hn5
  go_upto_region 6 with fail
  rw [← HE5.out]
  first | rw [← HW5.out] | fail "W5"
  clear HW5
  have kB := HK5.out.c
  have lB := HK5.out.lt
  go_wp2_with fail
  refine (HGET.out _ _ HS5.out).mono ?_
  rintro e w6 ⟨rfl, hb6⟩
  have HK6 := Lib.hid (HK5.out.below hb6)
  have HS6 := Lib.hid (HS5.out.below hb6)
  have HB6 : Hid (Below w.heap.size w w6) := Lib.hid (HB5.out.trans (hb6.mono HB5.out.size))
  clear hb6 kB lB
  have kB := HK6.out.c
  have lB := HK6.out.lt
  have q1 : w6.cell? ⟨(A5 .bu).b, (A5 .bu).o + 1, none⟩ = some (.int .i64 1) := by
    have e := sys_bu HS6.out (j := 1) (by omega)
    rw [HA.out.2.2.2.2] at e
    exact e
  go_wp2_with fail
  refine (HHAS1.out _ _ HS6.out).mono ?_
  rintro e w7 ⟨rfl, hb7⟩
  have HK7 := Lib.hid (HK6.out.below hb7)
  have HS7 := Lib.hid (HS6.out.below hb7)
  have HB7 : Hid (Below w.heap.size w w7) := Lib.hid (HB6.out.trans (hb7.mono HB6.out.size))
  clear hb7 kB lB q1
  have kB := HK7.out.c
  have lB := HK7.out.lt
  go_wp2_with fail
  refine (HHAS2.out _ _ HS7.out).mono ?_
  rintro e w8 ⟨rfl, hb8⟩
  have HK8 := Lib.hid (HK7.out.below hb8)
  have HS8 := Lib.hid (HS7.out.below hb8)
  have HB8 : Hid (Below w.heap.size w w8) := Lib.hid (HB7.out.trans (hb8.mono HB7.out.size))
  clear hb8 kB lB
  have kB := HK8.out.c
  have lB := HK8.out.lt
  have q1 : w8.cell? ⟨(A5 .bu).b, (A5 .bu).o + 1, none⟩ = some (.int .i64 1) := by
    have e := sys_bu HS8.out (j := 1) (by omega)
    rw [HA.out.2.2.2.2] at e
    exact e
  go_wp2_with fail
  refine (right_ok _ _ _ _ _ HS8.out).mono ?_
  rintro e w9 ⟨rfl, hb9⟩
  have HB9 : Hid (Below w.heap.size w w9) := Lib.hid (HB8.out.trans (hb9.mono HB8.out.size))
  clear hb9
  go_wp2_with fail
  exact bodyPost_ret (v := .bool true) (by simp [results, Tryz.results7, go_sem]) rfl ⟨rfl, HB9.out⟩
end Go.Proofs.YtmeomdfmljanhaaGreat.Pg
