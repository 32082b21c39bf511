/- Laid together, in this order: PgEg, PgOpen. -/
import Derived.Test.YtmeomdfmljanhaaGreatZk
import Derived.OpenShut
import Derived.ProofKit
import Derived.Deep.Slices
set_option linter.unusedSimpArgs false
set_option linter.unusedVariables false
/- The walk of ProtoComes. -/
namespace Go.Proofs.YtmeomdfmljanhaaGreat.Pg
set_option linter.unusedVariables false
open Go.ChangeShapes Go.WideShapes Go.ChangeAt Go.RowKit

theorem sys_putO {w : World} {v : Value} {c l base : Nat} {Z Zo : Pr.Zz} (h : Sys w v c l Z) {x0 x1 x2 x3 x4 x5 : Addr} {k0 k1 k2 k3 k4 k5 no co : Nat} {po : Option Addr} (ho : Sys w (.agg #[.slice (some x0) c k0, .slice (some x1) c k1, .slice (some x2) c k2, .slice (some x3) l k3, .slice (some x4) l k4, .slice (some x5) l k5, .slice po no co]) c l Zo) {E : Nat} (hE : Blk w E #[.slice (some x0) c k0, .slice (some x1) c k1, .slice (some x2) c k2, .slice (some x3) l k3, .slice (some x4) l k4, .slice (some x5) l k5, .slice po no co]) (hn : v = .agg #[.slice (some x0) c k0, .slice (some x1) c k1, .slice (some x2) c k2, .slice (some x3) l k3, .slice (some x4) l k4, .slice (some x5) l k5, .slice po no co] ∨ Nw base v) (hlt : E < base) {u0 u1 u2 u3 u4 u5 u6 : Value} (hv : v = .agg #[u0, u1, u2, u3, u4, u5, u6]) : ∀ w', w' = (((((((w.setCell ⟨E, 0, none⟩ (u0)).setCell ⟨E, 1, none⟩ (u1)).setCell ⟨E, 2, none⟩ (u2)).setCell ⟨E, 3, none⟩ (u3)).setCell ⟨E, 4, none⟩ (u4)).setCell ⟨E, 5, none⟩ (u5)).setCell ⟨E, 6, none⟩ (u6)) → Sys w' v c l Z := by
  rcases hn with hn | hn
  · intro w' hw
    have e2 := hv.symm.trans hn
    simp only [Value.agg.injEq, Array.mk.injEq, List.cons.injEq, and_true] at e2
    obtain ⟨rfl, rfl, rfl, rfl, rfl, rfl, rfl⟩ := e2
    exact sys_again h hE hw
  · exact sys_put h ho hE hn hlt hv
def ac0 : Ac := ⟨0, 0, 0, 0, false, 0⟩
def acC (l : List Ac) : List Value := l.flatMap fun a => a.row.toList
theorem acC_len (l : List Ac) : (acC l).length = l.length * 6 := by
  induction l with
  | nil => rfl
  | cons a l ih =>
    unfold acC at ih ⊢
    rw [List.flatMap_cons, List.length_append, ih, List.length_cons]
    show 6 + _ = _
    omega
theorem acC_at : ∀ (l : List Ac) (i j : Nat), i < l.length → j < 6 → (acC l)[i * 6 + j]? = (l.getD i ac0).row[j]?
  | a :: l, 0, j, _, hj => by
    unfold acC
    rw [List.flatMap_cons, List.getElem?_append_left (by show 0 * 6 + j < 6; omega), Nat.zero_mul, Nat.zero_add]
    show a.row.toList[j]? = a.row[j]?
    rw [Array.getElem?_toList]
  | a :: l, i + 1, j, hi, hj => by
    have ih := acC_at l i j (by simpa using hi) hj
    unfold acC at ih ⊢
    rw [List.flatMap_cons, List.getElem?_append_right (by show 6 ≤ (i + 1) * 6 + j; omega), show (i + 1) * 6 + j - a.row.toList.length = i * 6 + j by show (i + 1) * 6 + j - 6 = _; omega, ih]
    rfl

set_option maxHeartbeats 4000000 in
set_option maxRecDepth 100000 in
theorem comes_main (a0 a1 : Nat) (s : Option Addr) (len cap : Nat) (L : List Ac) (a3 a4 : Nat) (wr0 : Bool) (W : World) (h0 : a0 < 256) (h1 : a1 < 256) (h3 : a3 < 256) (h4 : a4 < 256) (hL : L.length = len) (hm : len ≤ maxLen) (hs : Sl W s len (acC L)) (hok : ∀ a ∈ L, a.ok) :
    Calls Tryz.prog 5 #[.int .u8 a0, .int .u8 a1, .slice s len cap, .int .u8 a3, .int .u8 a4, .bool wr0] W fun e w' => e = .returned (.bool true) ∧ Below W.heap.size W w' := by
  obtain ⟨c1, hc1⟩ : ∃ x, x = a0 % 4 := ⟨_, rfl⟩
  obtain ⟨l1, hl1⟩ : ∃ x, x = a1 % 4 := ⟨_, rfl⟩
  have hc4 : c1 < 4 := by rw [hc1]; exact Nat.mod_lt _ (by omega)
  have hl4 : l1 < 4 := by rw [hl1]; exact Nat.mod_lt _ (by omega)
  have ht0 : ((a0 : Int)).tmod 4 = (c1 : Int) := by rw [Int.tmod_eq_emod_of_nonneg (by omega), hc1]; exact (Int.natCast_emod a0 4).symm
  have ht1 : ((a1 : Int)).tmod 4 = (l1 : Int) := by rw [Int.tmod_eq_emod_of_nonneg (by omega), hl1]; exact (Int.natCast_emod a1 4).symm
  have he0 : (a0 : Int) % 4 = (c1 : Int) := by rw [hc1]; exact (Int.natCast_emod a0 4).symm
  have he1 : (a1 : Int) % 4 = (l1 : Int) := by rw [hl1]; exact (Int.natCast_emod a1 4).symm
  have HNEW : Hid (∀ V, Calls Tryz.prog 23 #[.int .i64 ((c1 : Int) + 1), .int .i64 ((l1 : Int) + 1)] V fun e w' => ∃ Y : Pr.Sy, (∀ k, (Y.li k).last = 0) ∧ OutZ V w' e (c1 + 1) (l1 + 1) ⟨⟨fun _ _ => 0, fun _ _ => 0, fun _ => Pr.Wt.none, fun _ => 0, fun _ => 0, fun _ _ => false, fun _ => 0⟩, [], Y⟩ 0) := Lib.hid (fun V => new_ok (c1 + 1) (l1 + 1) V (by omega) (by omega) (by omega) (by omega))
  have HSL := Lib.hid hs
  have HOK := Lib.hid hok
  have HLL := Lib.hid hL
  clear hs hok hL hc1 hl1
  go_enter Tryz.func5, Tryz.ntmps5
  go_upto_region 1 with fail
  go_wp2_with fail
  refine (awake_ok W).mono ?_
  rintro e w0 ⟨rfl, hb0⟩
  have HB0 := Lib.hid hb0
  clear hb0
  have f0 : IntKind.i64.wrap (c1 : Int) = (c1 : Int) := wrapA rfl (by omega)
  have f1 : IntKind.i64.wrap (l1 : Int) = (l1 : Int) := wrapA rfl (by omega)
  have g0 : IntKind.u8.wrap (c1 : Int) = (c1 : Int) := by rw [IntKind.wrap_u8]; omega
  have g1 : IntKind.u8.wrap (l1 : Int) = (l1 : Int) := by rw [IntKind.wrap_u8]; omega
  go_wp2_with fail
  refine (HNEW.out w0).mono ?_
  rintro e v1w ⟨Y, _, hout⟩
  obtain ⟨c, hc⟩ : ∃ c, c = c1 + 1 := ⟨_, rfl⟩
  obtain ⟨l, hl⟩ : ∃ l, l = l1 + 1 := ⟨_, rfl⟩
  obtain ⟨Z0, hZ0⟩ : ∃ Z0 : Pr.Zz, Z0 = ⟨⟨fun _ _ => 0, fun _ _ => 0, fun _ => Pr.Wt.none, fun _ => 0, fun _ => 0, fun _ _ => false, fun _ => 0⟩, [], Y⟩ := ⟨_, rfl⟩
  rw [← hc, ← hl, ← hZ0] at hout
  have hcc : 1 ≤ c ∧ c ≤ 4 := by omega
  have hll : 1 ≤ l ∧ l ≤ 4 := by omega
  clear HNEW ht0 ht1 he0 he1 f0 f1 g0 g1 hZ0 hc hl hc4 hl4
  obtain ⟨v1, rfl, hs1, hnw1, hb1⟩ := hout
  obtain ⟨A1, p1, cp1, xs1, rfl, hm1, hp1⟩ := id hs1.sv
  simp only [Pa.sl, List.length_map] at hs1 hnw1 ⊢
  clear hm1 hp1 xs1
  obtain ⟨n1, hn1⟩ : ∃ x, x = (Z0).ms.length := ⟨_, rfl⟩
  rw [← hn1] at hs1 hnw1 ⊢
  obtain ⟨w1, hw1⟩ : ∃ x, x = v1w.alloc (.cells #[.slice (some ⟨(A1 .st).b, (A1 .st).o, none⟩) c (A1 .st).c, .slice (some ⟨(A1 .va).b, (A1 .va).o, none⟩) c (A1 .va).c, .slice (some ⟨(A1 .wt).b, (A1 .wt).o, none⟩) c (A1 .wt).c, .slice (some ⟨(A1 .ho).b, (A1 .ho).o, none⟩) l (A1 .ho).c, .slice (some ⟨(A1 .di).b, (A1 .di).o, none⟩) l (A1 .di).c, .slice (some ⟨(A1 .bu).b, (A1 .bu).o, none⟩) l (A1 .bu).c, .slice p1 n1 cp1] 32) := ⟨_, rfl⟩
  obtain ⟨E, hE1⟩ : ∃ x, x = v1w.heap.size := ⟨_, rfl⟩
  have ha1 : Below v1w.heap.size v1w w1 := by rw [hw1]; exact (Below.refl _ _).alloc (Nat.le_refl _) _
  have HBW1 : Hid (Below w0.heap.size w0 w1) := Lib.hid (hb1.trans (ha1.mono hb1.size))
  have HB1 : Hid (Below W.heap.size W w1) := Lib.hid (HB0.out.trans (HBW1.out.mono HB0.out.size))
  have HK1 : Hid (Blk w1 E #[.slice (some ⟨(A1 .st).b, (A1 .st).o, none⟩) c (A1 .st).c, .slice (some ⟨(A1 .va).b, (A1 .va).o, none⟩) c (A1 .va).c, .slice (some ⟨(A1 .wt).b, (A1 .wt).o, none⟩) c (A1 .wt).c, .slice (some ⟨(A1 .ho).b, (A1 .ho).o, none⟩) l (A1 .ho).c, .slice (some ⟨(A1 .di).b, (A1 .di).o, none⟩) l (A1 .di).c, .slice (some ⟨(A1 .bu).b, (A1 .bu).o, none⟩) l (A1 .bu).c, .slice p1 n1 cp1]) := Lib.hid (by rw [hw1, hE1]; exact Blk.new _ _ _)
  have HS1 := Lib.hid (hs1.below ha1)
  have HEBE : Hid (W.heap.size ≤ E) := Lib.hid (by rw [hE1]; exact Nat.le_trans HB0.out.size hb1.size)
  have HW1 := Lib.hid hw1
  have HE1 := Lib.hid hE1
  have HN1 := Lib.hid hn1
  clear hw1 hE1 ha1 hb1 hs1 hnw1 hn1
  go_upto_region 4 with fail
  rw [← HE1.out]
  first | rw [← HW1.out] | fail "W1"
  clear HW1
  have kB := HK1.out.c
  have lB := HK1.out.lt
  go_wp2_with fail
  clear kB lB
  have HINV : Hid (∃ Zk : Pr.Zz, ∃ (y0 y1 y2 y3 y4 y5 : Addr) (q0 q1 q2 q3 q4 q5 qo : Nat) (qp : Option Addr), Blk w1 E #[.slice (some y0) c q0, .slice (some y1) c q1, .slice (some y2) c q2, .slice (some y3) l q3, .slice (some y4) l q4, .slice (some y5) l q5, .slice qp Zk.ms.length qo] ∧ Sys w1 (.agg #[.slice (some y0) c q0, .slice (some y1) c q1, .slice (some y2) c q2, .slice (some y3) l q3, .slice (some y4) l q4, .slice (some y5) l q5, .slice qp Zk.ms.length qo]) c l Zk) := Lib.hid ⟨Z0, _, _, _, _, _, _, _, _, _, _, _, _, _, _, by rw [← HN1.out]; exact HK1.out, by rw [← HN1.out]; exact HS1.out⟩
  go_loopw [15] (fun i wr => ∃ k : Nat, k ≤ len ∧ k ≤ 100 ∧ i = .int .i64 k ∧ (∃ Zk : Pr.Zz, ∃ (y0 y1 y2 y3 y4 y5 : Addr) (q0 q1 q2 q3 q4 q5 qo : Nat) (qp : Option Addr), Blk wr E #[.slice (some y0) c q0, .slice (some y1) c q1, .slice (some y2) c q2, .slice (some y3) l q3, .slice (some y4) l q4, .slice (some y5) l q5, .slice qp Zk.ms.length qo] ∧ Sys wr (.agg #[.slice (some y0) c q0, .slice (some y1) c q1, .slice (some y2) c q2, .slice (some y3) l q3, .slice (some y4) l q4, .slice (some y5) l q5, .slice qp Zk.ms.length qo]) c l Zk) ∧ Below W.heap.size W wr) (fun i _ => 100 - (intOf i).toNat)
  case atStart => exact ⟨0, Nat.zero_le _, by omega, rfl, HINV.out, HB1.out⟩
  case round =>
    obtain ⟨k, hkl, hk100, rfl, ⟨Zk, y0, y1, y2, y3, y4, y5, q0, q1, q2, q3, q4, q5, qo, qp, hkb, hsy⟩, hb⟩ := hrel
    clear HINV HK1 HS1 HB1 HBW1 HB0
    obtain ⟨nk, hnk⟩ : ∃ x, x = Zk.ms.length := ⟨_, rfl⟩
    rw [← hnk] at hkb hsy
    have HNK := Lib.hid hnk
    clear hnk
    have HK2 := Lib.hid hkb
    have HS2 := Lib.hid hsy
    have HB2 := Lib.hid hb
    clear hkb hsy hb
    have kB := HK2.out.c
    have lB := HK2.out.lt
    by_cases hlt : k < len ∧ k < 100
    · obtain ⟨hlt1, hlt2⟩ := hlt
      have hltI : (k : Int) < len := by omega
      have hltJ : (k : Int) < 100 := by omega
      obtain ⟨b, off, hsb, hse, hcs⟩ := HSL.out (by omega)
      have hEs : E ≠ b := by have := HEBE.out; omega
      obtain ⟨a, ha⟩ : ∃ a, a = L.getD k ac0 := ⟨_, rfl⟩
      have haok : a.ok := by
        rw [ha, List.getD_eq_getElem?_getD, List.getElem?_eq_getElem (by rw [HLL.out]; exact hlt1)]
        exact HOK.out _ (List.getElem_mem _)
      have hrow : ∀ j, j < 6 → wr.cell? ⟨b, off + k * 6 + j, none⟩ = a.row[j]? := fun j hj => by
        rw [Nat.add_assoc, HB2.out.cell (p := ⟨b, off + (k * 6 + j), none⟩) hsb, hcs (k * 6 + j) (by rw [acC_len, HLL.out]; omega), acC_at L k j (by rw [HLL.out]; exact hlt1) hj, ha]
      clear ha hcs
      obtain ⟨kd, an, al, aa, aw, vl⟩ := a
      have HDO : Hid (Calls Tryz.prog 25 #[.agg #[.slice (some y0) c q0, .slice (some y1) c q1, .slice (some y2) c q2, .slice (some y3) l q3, .slice (some y4) l q4, .slice (some y5) l q5, .slice qp nk qo], .agg #[.int .u8 kd, .int .u8 an, .int .u8 al, .int .u8 aa, .bool aw, .int .u32 vl]] wr.drew fun e w' => OutZ wr.drew w' e c l (doZ c l Zk ⟨kd, an, al, aa, aw, vl⟩) (doX c l Zk ⟨kd, an, al, aa, aw, vl⟩)) := Lib.hid (do_ok _ c l Zk ⟨kd, an, al, aa, aw, vl⟩ wr.drew (HS2.out.below (Below.refl _ _).drew) haok)
      clear haok
      have r0 : wr.cell? ⟨b, off + k * 6, none⟩ = some (.int .u8 kd) := hrow 0 (by omega)
      have r1 : wr.cell? ⟨b, off + k * 6 + 1, none⟩ = some (.int .u8 an) := hrow 1 (by omega)
      have r2 : wr.cell? ⟨b, off + k * 6 + 2, none⟩ = some (.int .u8 al) := hrow 2 (by omega)
      have r3 : wr.cell? ⟨b, off + k * 6 + 3, none⟩ = some (.int .u8 aa) := hrow 3 (by omega)
      have r4 : wr.cell? ⟨b, off + k * 6 + 4, none⟩ = some (.bool aw) := hrow 4 (by omega)
      have r5 : wr.cell? ⟨b, off + k * 6 + 5, none⟩ = some (.int .u32 vl) := hrow 5 (by omega)
      clear hrow
      obtain ⟨Zn, hZn⟩ : ∃ x, x = doZ c l Zk ⟨kd, an, al, aa, aw, vl⟩ := ⟨_, rfl⟩
      obtain ⟨Xn, hXn⟩ : ∃ x, x = doX c l Zk ⟨kd, an, al, aa, aw, vl⟩ := ⟨_, rfl⟩
      rw [← hZn, ← hXn] at HDO
      clear hZn hXn
      rw [hse]
      go_upto_region 9 with fail
      refine region_planF (fun V : World => V.cell? ⟨b, off + k * 6, none⟩ = some (.int .u8 kd) ∧ V.cell? ⟨b, off + k * 6 + 1, none⟩ = some (.int .u8 an) ∧ V.cell? ⟨b, off + k * 6 + 2, none⟩ = some (.int .u8 al) ∧ V.cell? ⟨b, off + k * 6 + 3, none⟩ = some (.int .u8 aa) ∧ V.cell? ⟨b, off + k * 6 + 4, none⟩ = some (.bool aw) ∧ V.cell? ⟨b, off + k * 6 + 5, none⟩ = some (.int .u32 vl)) (.read 1 (.read 2 (.read 3 (.read 4 (.one 0 (.one 5 (.read 6 (.read 7 (.read 8 (.one 9 .stop)))))))))) (by kernel_rfl) (by kernel_rfl) ⟨r0, r1, r2, r3, r4, r5⟩ ?_
      iterate 4
        refine planT_read (v := ?_) rfl (by rfl) ?_ ?_
        rotate_left
        · intro w' hS
          try dsimp only at hS
          go_simp
          try with_reducible rfl
        try simp only [Act.put, List.setIfInBounds_toArray, List.set_cons_zero, List.set_cons_succ, List.getElem_toArray, List.getElem_cons_zero, List.getElem_cons_succ]
      refine planT_one ?_
      refine op_keep (v := .agg #[.slice (some y0) c q0, .slice (some y1) c q1, .slice (some y2) c q2, .slice (some y3) l q3, .slice (some y4) l q4, .slice (some y5) l q5, .slice qp nk qo]) rfl (by rfl) ?_ ?_
      · go_simp
      refine ⟨⟨r0, r1, r2, r3, r4, r5⟩, ?_⟩
      try simp only [Act.put, List.setIfInBounds_toArray, List.set_cons_zero, List.set_cons_succ, List.getElem_toArray, List.getElem_cons_zero, List.getElem_cons_succ]
      refine planT_one ?_
      refine op_call (F := 25) (args := #[.agg #[.slice (some y0) c q0, .slice (some y1) c q1, .slice (some y2) c q2, .slice (some y3) l q3, .slice (some y4) l q4, .slice (some y5) l q5, .slice qp nk qo], .agg #[.int .u8 kd, .int .u8 an, .int .u8 al, .int .u8 aa, .bool aw, .int .u32 vl]]) rfl (by rfl) (by go_simp) ?_
      refine HDO.out.mono ?_
      rintro e w3 ⟨v3, rfl, hs3, hnw3, hb3⟩
      obtain ⟨A3, p3, cp3, xs3, rfl, hm3, hp3⟩ := id hs3.sv
      simp only [Pa.sl, List.length_map] at hs3 hnw3 ⊢
      clear hm3 hp3 xs3
      obtain ⟨n3, hn3⟩ : ∃ x, x = (Zn).ms.length := ⟨_, rfl⟩
      rw [← hn3] at hs3 hnw3 ⊢
      have hbr : Below wr.heap.size wr w3 := (Below.refl _ _).drew.trans hb3
      have hbw : b < wr.heap.size := Nat.lt_of_lt_of_le hsb HB2.out.size
      obtain ⟨w4, hw4⟩ : ∃ x, x = (((((((w3.setCell ⟨E, 0, none⟩ (.slice (some ⟨(A3 .st).b, (A3 .st).o, none⟩) c (A3 .st).c)).setCell ⟨E, 1, none⟩ (.slice (some ⟨(A3 .va).b, (A3 .va).o, none⟩) c (A3 .va).c)).setCell ⟨E, 2, none⟩ (.slice (some ⟨(A3 .wt).b, (A3 .wt).o, none⟩) c (A3 .wt).c)).setCell ⟨E, 3, none⟩ (.slice (some ⟨(A3 .ho).b, (A3 .ho).o, none⟩) l (A3 .ho).c)).setCell ⟨E, 4, none⟩ (.slice (some ⟨(A3 .di).b, (A3 .di).o, none⟩) l (A3 .di).c)).setCell ⟨E, 5, none⟩ (.slice (some ⟨(A3 .bu).b, (A3 .bu).o, none⟩) l (A3 .bu).c)).setCell ⟨E, 6, none⟩ (.slice p3 n3 cp3)) := ⟨_, rfl⟩
      have hke := HK2.out.below hbr
      have HS4 : Hid (Sys w4 (.agg #[.slice (some ⟨(A3 .st).b, (A3 .st).o, none⟩) c (A3 .st).c, .slice (some ⟨(A3 .va).b, (A3 .va).o, none⟩) c (A3 .va).c, .slice (some ⟨(A3 .wt).b, (A3 .wt).o, none⟩) c (A3 .wt).c, .slice (some ⟨(A3 .ho).b, (A3 .ho).o, none⟩) l (A3 .ho).c, .slice (some ⟨(A3 .di).b, (A3 .di).o, none⟩) l (A3 .di).c, .slice (some ⟨(A3 .bu).b, (A3 .bu).o, none⟩) l (A3 .bu).c, .slice p3 n3 cp3]) c l Zn) := Lib.hid (sys_put hs3 (HS2.out.below hbr) hke (hnw3) lB rfl w4 hw4)
      have HK4 : Hid (Blk w4 E #[.slice (some ⟨(A3 .st).b, (A3 .st).o, none⟩) c (A3 .st).c, .slice (some ⟨(A3 .va).b, (A3 .va).o, none⟩) c (A3 .va).c, .slice (some ⟨(A3 .wt).b, (A3 .wt).o, none⟩) c (A3 .wt).c, .slice (some ⟨(A3 .ho).b, (A3 .ho).o, none⟩) l (A3 .ho).c, .slice (some ⟨(A3 .di).b, (A3 .di).o, none⟩) l (A3 .di).c, .slice (some ⟨(A3 .bu).b, (A3 .bu).o, none⟩) l (A3 .bu).c, .slice p3 n3 cp3]) := Lib.hid (by rw [hw4]; exact (((((((hke.set (n := 0) _ (by simp)).set (n := 1) _ (by simp)).set (n := 2) _ (by simp)).set (n := 3) _ (by simp)).set (n := 4) _ (by simp)).set (n := 5) _ (by simp)).set (n := 6) _ (by simp)).cast rfl)
      have hle4 : ∀ k, W.heap.size ≤ (⟨E, k, none⟩ : Addr).block := fun k => HEBE.out
      have HB4 : Hid (Below W.heap.size W w4) := Lib.hid (by rw [hw4]; exact (((((((HB2.out.trans (hbr.mono HB2.out.size)).setCell (hle4 0) _).setCell (hle4 1) _).setCell (hle4 2) _).setCell (hle4 3) _).setCell (hle4 4) _).setCell (hle4 5) _).setCell (hle4 6) _)
      have hoth : ∀ o, w4.cell? ⟨b, o, none⟩ = wr.cell? ⟨b, o, none⟩ := fun o => by
        have hx : ∀ k, (⟨E, k, none⟩ : Addr) ≠ ⟨b, o, none⟩ := fun k e => by injection e with e; exact hEs e
        rw [hw4, World.cell?_setCell_other _ _ _ _ (hx 6), World.cell?_setCell_other _ _ _ _ (hx 5), World.cell?_setCell_other _ _ _ _ (hx 4), World.cell?_setCell_other _ _ _ _ (hx 3), World.cell?_setCell_other _ _ _ _ (hx 2), World.cell?_setCell_other _ _ _ _ (hx 1), World.cell?_setCell_other _ _ _ _ (hx 0)]
        exact hbr.cell (p := ⟨b, o, none⟩) hbw
      have h3 : ∀ o, w3.cell? ⟨b, o, none⟩ = wr.cell? ⟨b, o, none⟩ := fun o => hbr.cell (p := ⟨b, o, none⟩) hbw
      have HR4 := Lib.hid (And.intro ((hoth _).trans r0) (And.intro ((hoth _).trans r1) (And.intro ((hoth _).trans r2) (And.intro ((hoth _).trans r3) (And.intro ((hoth _).trans r4) ((hoth _).trans r5))))))
      have HR3 := Lib.hid (And.intro ((h3 _).trans r0) (And.intro ((h3 _).trans r1) (And.intro ((h3 _).trans r2) (And.intro ((h3 _).trans r3) (And.intro ((h3 _).trans r4) ((h3 _).trans r5))))))
      have HN3 := Lib.hid hn3
      have kB3 := hke.c
      have lB3 := hke.lt
      have fB3 := hke.f
      clear hoth h3 r0 r1 r2 r3 r4 r5 kB lB hke hle4 hbr hbw hs3 hnw3 hb3 HDO hn3
      refine ⟨_, rfl, HR3.out, ?_⟩
      try simp only [Act.put, List.setIfInBounds_toArray, List.set_cons_zero, List.set_cons_succ, List.getElem_toArray, List.getElem_cons_zero, List.getElem_cons_succ]
      iterate 3
        refine planT_read (v := ?_) rfl (by rfl) ?_ ?_
        rotate_left
        · intro w' hS
          try dsimp only at hS
          go_simp
          try with_reducible rfl
        try simp only [Act.put, List.setIfInBounds_toArray, List.set_cons_zero, List.set_cons_succ, List.getElem_toArray, List.getElem_cons_zero, List.getElem_cons_succ]
      refine planT_one ?_
      refine op_store (w1 := w4) rfl (by rfl) ?_ ?_
      · rw [hw4]
        go_simp
      refine ⟨HR4.out, ?_⟩
      try simp only [Act.put, List.setIfInBounds_toArray, List.set_cons_zero, List.set_cons_succ, List.getElem_toArray, List.getElem_cons_zero, List.getElem_cons_succ]
      refine planT_stop ?_
      refine NoPanic.normal ?_
      clear hw4 kB3 lB3 fB3 HR4 HR3
      go_wp2_with fail
      go_roundw
      case rel => exact ⟨k + 1, by omega, by omega, by go_num, ⟨Zn, _, _, _, _, _, _, _, _, _, _, _, _, _, _, by rw [← HN3.out]; exact HK4.out, by rw [← HN3.out]; exact HS4.out⟩, HB4.out⟩
      case measure => simp [intOf]; omega
    · by_cases hA : k < len
      · have hltI : (k : Int) < len := by omega
        have hltJ : ¬ (k : Int) < 100 := by omega
        clear hlt hA hkl hk100
        obtain ⟨N, hN, hN0, hNe⟩ := Pr.calm_ends HS2.out.ok
        obtain ⟨Zc, hZc⟩ : ∃ x, x = Pr.calmZ c N Zk := ⟨_, rfl⟩
        have HCALM : Hid (Calls Tryz.prog 27 #[.agg #[.slice (some y0) c q0, .slice (some y1) c q1, .slice (some y2) c q2, .slice (some y3) l q3, .slice (some y4) l q4, .slice (some y5) l q5, .slice qp nk qo]] wr fun e w' => CalmO wr w' e (.agg #[.slice (some y0) c q0, .slice (some y1) c q1, .slice (some y2) c q2, .slice (some y3) l q3, .slice (some y4) l q4, .slice (some y5) l q5, .slice qp nk qo]) c l Zc) := Lib.hid (by rw [hZc]; exact calm_any _ c l Zk N wr HS2.out hN hN0 hNe)
        rw [← hZc] at hN0
        have HQ := Lib.hid hN0
        clear hN0 hNe hN hZc
        go_wp2_with fail
        refine (HCALM.out).mono ?_
        rintro e v5w ⟨v5, rfl, hs5, hnw5, hb5⟩
        obtain ⟨A5, p5, cp5, xs5, rfl, hm5, hp5⟩ := id hs5.sv
        simp only [Pa.sl, List.length_map] at hs5 hnw5 ⊢
        clear hm5 hp5 xs5
        obtain ⟨n5, hn5⟩ : ∃ x, x = (Zc).ms.length := ⟨_, rfl⟩
        rw [← hn5] at hs5 hnw5 ⊢
        have HSI5 := Lib.hid hs5
        have HNW5 := Lib.hid hnw5
        have HKE5 := Lib.hid (HK2.out.below hb5)
        have HSO5 := Lib.hid (HS2.out.below hb5)
        have HLE5 : Hid (E < wr.heap.size) := Lib.hid HK2.out.lt
        have HBW5 := Lib.hid hb5
        have HN5 := Lib.hid hn5
        clear hb5 hs5 hnw5 hn5 kB lB
        have kB := HKE5.out.c
        have lB := HKE5.out.lt
        have fB := HKE5.out.f
        go_upto_region 11 with fail
        obtain ⟨w5, hw5⟩ : ∃ x, x = (((((((v5w.setCell ⟨E, 0, none⟩ (.slice (some ⟨(A5 .st).b, (A5 .st).o, none⟩) c (A5 .st).c)).setCell ⟨E, 1, none⟩ (.slice (some ⟨(A5 .va).b, (A5 .va).o, none⟩) c (A5 .va).c)).setCell ⟨E, 2, none⟩ (.slice (some ⟨(A5 .wt).b, (A5 .wt).o, none⟩) c (A5 .wt).c)).setCell ⟨E, 3, none⟩ (.slice (some ⟨(A5 .ho).b, (A5 .ho).o, none⟩) l (A5 .ho).c)).setCell ⟨E, 4, none⟩ (.slice (some ⟨(A5 .di).b, (A5 .di).o, none⟩) l (A5 .di).c)).setCell ⟨E, 5, none⟩ (.slice (some ⟨(A5 .bu).b, (A5 .bu).o, none⟩) l (A5 .bu).c)).setCell ⟨E, 6, none⟩ (.slice p5 n5 cp5)) := ⟨_, rfl⟩
        first | rw [← hw5] | fail "W5"
        have HS5 : Hid (Sys w5 (.agg #[.slice (some ⟨(A5 .st).b, (A5 .st).o, none⟩) c (A5 .st).c, .slice (some ⟨(A5 .va).b, (A5 .va).o, none⟩) c (A5 .va).c, .slice (some ⟨(A5 .wt).b, (A5 .wt).o, none⟩) c (A5 .wt).c, .slice (some ⟨(A5 .ho).b, (A5 .ho).o, none⟩) l (A5 .ho).c, .slice (some ⟨(A5 .di).b, (A5 .di).o, none⟩) l (A5 .di).c, .slice (some ⟨(A5 .bu).b, (A5 .bu).o, none⟩) l (A5 .bu).c, .slice p5 n5 cp5]) c l (Zc)) := Lib.hid (sys_putO HSI5.out HSO5.out HKE5.out HNW5.out HLE5.out rfl w5 hw5)
        have HK5 : Hid (Blk w5 E #[.slice (some ⟨(A5 .st).b, (A5 .st).o, none⟩) c (A5 .st).c, .slice (some ⟨(A5 .va).b, (A5 .va).o, none⟩) c (A5 .va).c, .slice (some ⟨(A5 .wt).b, (A5 .wt).o, none⟩) c (A5 .wt).c, .slice (some ⟨(A5 .ho).b, (A5 .ho).o, none⟩) l (A5 .ho).c, .slice (some ⟨(A5 .di).b, (A5 .di).o, none⟩) l (A5 .di).c, .slice (some ⟨(A5 .bu).b, (A5 .bu).o, none⟩) l (A5 .bu).c, .slice p5 n5 cp5]) := Lib.hid (by rw [hw5]; exact (((((((HKE5.out.set (n := 0) _ (by simp)).set (n := 1) _ (by simp)).set (n := 2) _ (by simp)).set (n := 3) _ (by simp)).set (n := 4) _ (by simp)).set (n := 5) _ (by simp)).set (n := 6) _ (by simp)).cast rfl)
        have hle5 : ∀ k, W.heap.size ≤ (⟨E, k, none⟩ : Addr).block := fun k => HEBE.out
        have HB5 : Hid (Below W.heap.size W w5) := Lib.hid (by rw [hw5]; exact (((((((HB2.out.trans (HBW5.out.mono HB2.out.size)).setCell (hle5 0) _).setCell (hle5 1) _).setCell (hle5 2) _).setCell (hle5 3) _).setCell (hle5 4) _).setCell (hle5 5) _).setCell (hle5 6) _)
        clear hle5 hw5 kB lB fB HSI5 HSO5 HKE5
        have kB := HK5.out.c
        have lB := HK5.out.lt
        clear HK2 HS2 HB2 HCALM
        obtain ⟨n0, hn0⟩ : ∃ x, x = a3 % c := ⟨_, rfl⟩
        obtain ⟨m0, hm0⟩ : ∃ x, x = a4 % l := ⟨_, rfl⟩
        have htn : ((a3 : Int)).tmod (c : Int) = (n0 : Int) := by rw [Int.tmod_eq_emod_of_nonneg (by omega), hn0]; exact (Int.natCast_emod a3 c).symm
        have htm : ((a4 : Int)).tmod (l : Int) = (m0 : Int) := by rw [Int.tmod_eq_emod_of_nonneg (by omega), hm0]; exact (Int.natCast_emod a4 l).symm
        have hnc : n0 < c := by rw [hn0]; exact Nat.mod_lt _ (by omega)
        have hml : m0 < l := by rw [hm0]; exact Nat.mod_lt _ (by omega)
        have hc0 : ¬ (c : Int) = 0 := by omega
        have hl0 : ¬ (l : Int) = 0 := by omega
        have hc0n : ¬ c = 0 := by omega
        have hl0n : ¬ l = 0 := by omega
        have f3 : IntKind.i64.wrap (a3 : Int) = (a3 : Int) := wrapA rfl (by omega)
        have f4 : IntKind.i64.wrap (a4 : Int) = (a4 : Int) := wrapA rfl (by omega)
        clear hn0 hm0
        go_upto_region 13 with fail
        refine region_planF (fun V : World => V = w5.drew) (.read 0 (.read 1 (.read 2 (.read 3 (.read 4 (.read 5 (.read 6 (.read 7 (.read 8 (.read 9 (.read 10 (.read 11 (.one 12 (.one 13 .stop)))))))))))))) (by kernel_rfl) (by kernel_rfl) rfl ?_
        iterate 12
          refine planT_read (v := ?_) rfl (by rfl) ?_ ?_
          rotate_left
          · intro w' hS
            try dsimp only at hS
            go_simp
            try with_reducible rfl
          try simp only [Act.put, List.setIfInBounds_toArray, List.set_cons_zero, List.set_cons_succ, List.getElem_toArray, List.getElem_cons_zero, List.getElem_cons_succ]
        refine planT_one ?_
        refine op_keep (v := .int .i64 (n0 : Int)) rfl (by rfl) ?_ ?_
        · go_simp
        refine ⟨rfl, ?_⟩
        try simp only [Act.put, List.setIfInBounds_toArray, List.set_cons_zero, List.set_cons_succ, List.getElem_toArray, List.getElem_cons_zero, List.getElem_cons_succ]
        refine planT_one ?_
        refine op_keep (v := .int .i64 (m0 : Int)) rfl (by rfl) ?_ ?_
        · go_simp
        refine ⟨rfl, ?_⟩
        try simp only [Act.put, List.setIfInBounds_toArray, List.set_cons_zero, List.set_cons_succ, List.getElem_toArray, List.getElem_cons_zero, List.getElem_cons_succ]
        refine planT_stop ?_
        refine NoPanic.normal ?_
        clear htn htm f3 f4 hc0 hl0 hc0n hl0n kB lB
        have kB := HK5.out.drew.c
        have lB := HK5.out.drew.lt
        obtain ⟨bh, hbh⟩ : ∃ x, x = hasB Zc.F n0 m0 wr0 := ⟨_, rfl⟩
        have HHAS : Hid (Calls Tryz.prog 20 #[.agg #[.slice (some ⟨(A5 .st).b, (A5 .st).o, none⟩) c (A5 .st).c, .slice (some ⟨(A5 .va).b, (A5 .va).o, none⟩) c (A5 .va).c, .slice (some ⟨(A5 .wt).b, (A5 .wt).o, none⟩) c (A5 .wt).c, .slice (some ⟨(A5 .ho).b, (A5 .ho).o, none⟩) l (A5 .ho).c, .slice (some ⟨(A5 .di).b, (A5 .di).o, none⟩) l (A5 .di).c, .slice (some ⟨(A5 .bu).b, (A5 .bu).o, none⟩) l (A5 .bu).c, .slice p5 n5 cp5], .int .i64 n0, .int .i64 m0, .bool wr0] w5.drew fun e w' => e = .returned (.bool bh) ∧ Below w5.drew.heap.size w5.drew w') := Lib.hid (by rw [hbh]; exact has_ok _ c l Zc n0 m0 wr0 w5.drew (HS5.out.below (Below.refl _ _).drew) hnc hml)
        have HBH := Lib.hid hbh
        clear hbh
        go_wp2_with fail
        refine (HHAS.out).mono ?_
        rintro e w6 ⟨rfl, hb6⟩
        have hb56 : Below w5.heap.size w5 w6 := (Below.refl _ _).drew.trans hb6
        have HK6 := Lib.hid (HK5.out.below hb56)
        have HS6 := Lib.hid (HS5.out.below hb56)
        have HB6 : Hid (Below W.heap.size W w6) := Lib.hid (HB5.out.trans (hb56.mono HB5.out.size))
        clear hb56 hb6 kB lB HHAS HK5 HS5 HB5 HBW5
        have kB := HK6.out.c
        have lB := HK6.out.lt
        cases bh with
        | true =>
          go_wp2_with fail
          exact bodyPost_ret (v := .bool true) (by simp [results, Tryz.results5, go_sem]) rfl ⟨rfl, HB6.out⟩
        | false =>
          obtain ⟨Zw, hZw⟩ : ∃ x, x = Pr.wantZ Zc n0 m0 wr0 := ⟨_, rfl⟩
          obtain ⟨N2, hN2, hN20, hN2e⟩ := Pr.calm_ends (HS6.out.ok.want hnc hml wr0)
          obtain ⟨hwx, hfin, _⟩ := Pr.asked_z HS6.out.ok HQ.out hml hnc wr0 (HBH.out.symm.trans rfl) N2 hN20 hN2e
          obtain ⟨Zf, hZf⟩ : ∃ x, x = Pr.calmZ c N2 Zw := ⟨_, rfl⟩
          rw [← hZw] at hN20 hN2e hfin
          have HWANT : Hid (Calls Tryz.prog 12 #[.agg #[.slice (some ⟨(A5 .st).b, (A5 .st).o, none⟩) c (A5 .st).c, .slice (some ⟨(A5 .va).b, (A5 .va).o, none⟩) c (A5 .va).c, .slice (some ⟨(A5 .wt).b, (A5 .wt).o, none⟩) c (A5 .wt).c, .slice (some ⟨(A5 .ho).b, (A5 .ho).o, none⟩) l (A5 .ho).c, .slice (some ⟨(A5 .di).b, (A5 .di).o, none⟩) l (A5 .di).c, .slice (some ⟨(A5 .bu).b, (A5 .bu).o, none⟩) l (A5 .bu).c, .slice p5 n5 cp5], .int .i64 n0, .int .i64 m0, .bool wr0] w6 fun e w' => OutZ w6 w' e c l Zw 0) := Lib.hid (by
            have := want_ok _ c l Zc n0 m0 wr0 w6 HS6.out hnc hml
            rw [← hZw, hwx] at this
            exact this)
          have HCALM2 : Hid (∀ v V, Sys V v c l Zw → Calls Tryz.prog 27 #[v] V fun e w' => CalmO V w' e v c l Zf) := Lib.hid (fun v V hS => by rw [hZf]; exact calm_any v c l Zw N2 V hS hN2 hN20 hN2e)
          have HFIN : Hid (hasB Zf.F n0 m0 wr0 = true) := Lib.hid (by rw [hZf]; exact hfin)
          clear hZw hN2 hN20 hN2e hwx hfin hZf
          go_wp2_with fail
          refine (HWANT.out).mono ?_
          rintro e v7w ⟨v7, rfl, hs7, hnw7, hb7⟩
          obtain ⟨A7, p7, cp7, xs7, rfl, hm7, hp7⟩ := id hs7.sv
          simp only [Pa.sl, List.length_map] at hs7 hnw7 ⊢
          clear hm7 hp7 xs7
          obtain ⟨n7, hn7⟩ : ∃ x, x = (Zw).ms.length := ⟨_, rfl⟩
          rw [← hn7] at hs7 hnw7 ⊢
          have HSI7 := Lib.hid hs7
          have HNW7 := Lib.hid hnw7
          have HKE7 := Lib.hid (HK6.out.below hb7)
          have HSO7 := Lib.hid (HS6.out.below hb7)
          have HLE7 : Hid (E < w6.heap.size) := Lib.hid HK6.out.lt
          have HBW7 := Lib.hid hb7
          have HN7 := Lib.hid hn7
          clear hb7 hs7 hnw7 hn7 kB lB
          have kB := HKE7.out.c
          have lB := HKE7.out.lt
          have fB := HKE7.out.f
          go_upto_region 17 with fail
          obtain ⟨w7, hw7⟩ : ∃ x, x = (((((((v7w.setCell ⟨E, 0, none⟩ (.slice (some ⟨(A7 .st).b, (A7 .st).o, none⟩) c (A7 .st).c)).setCell ⟨E, 1, none⟩ (.slice (some ⟨(A7 .va).b, (A7 .va).o, none⟩) c (A7 .va).c)).setCell ⟨E, 2, none⟩ (.slice (some ⟨(A7 .wt).b, (A7 .wt).o, none⟩) c (A7 .wt).c)).setCell ⟨E, 3, none⟩ (.slice (some ⟨(A7 .ho).b, (A7 .ho).o, none⟩) l (A7 .ho).c)).setCell ⟨E, 4, none⟩ (.slice (some ⟨(A7 .di).b, (A7 .di).o, none⟩) l (A7 .di).c)).setCell ⟨E, 5, none⟩ (.slice (some ⟨(A7 .bu).b, (A7 .bu).o, none⟩) l (A7 .bu).c)).setCell ⟨E, 6, none⟩ (.slice p7 n7 cp7)) := ⟨_, rfl⟩
          first | rw [← hw7] | fail "W7"
          have HS7 : Hid (Sys w7 (.agg #[.slice (some ⟨(A7 .st).b, (A7 .st).o, none⟩) c (A7 .st).c, .slice (some ⟨(A7 .va).b, (A7 .va).o, none⟩) c (A7 .va).c, .slice (some ⟨(A7 .wt).b, (A7 .wt).o, none⟩) c (A7 .wt).c, .slice (some ⟨(A7 .ho).b, (A7 .ho).o, none⟩) l (A7 .ho).c, .slice (some ⟨(A7 .di).b, (A7 .di).o, none⟩) l (A7 .di).c, .slice (some ⟨(A7 .bu).b, (A7 .bu).o, none⟩) l (A7 .bu).c, .slice p7 n7 cp7]) c l (Zw)) := Lib.hid (sys_put HSI7.out HSO7.out HKE7.out HNW7.out HLE7.out rfl w7 hw7)
          have HK7 : Hid (Blk w7 E #[.slice (some ⟨(A7 .st).b, (A7 .st).o, none⟩) c (A7 .st).c, .slice (some ⟨(A7 .va).b, (A7 .va).o, none⟩) c (A7 .va).c, .slice (some ⟨(A7 .wt).b, (A7 .wt).o, none⟩) c (A7 .wt).c, .slice (some ⟨(A7 .ho).b, (A7 .ho).o, none⟩) l (A7 .ho).c, .slice (some ⟨(A7 .di).b, (A7 .di).o, none⟩) l (A7 .di).c, .slice (some ⟨(A7 .bu).b, (A7 .bu).o, none⟩) l (A7 .bu).c, .slice p7 n7 cp7]) := Lib.hid (by rw [hw7]; exact (((((((HKE7.out.set (n := 0) _ (by simp)).set (n := 1) _ (by simp)).set (n := 2) _ (by simp)).set (n := 3) _ (by simp)).set (n := 4) _ (by simp)).set (n := 5) _ (by simp)).set (n := 6) _ (by simp)).cast rfl)
          have hle7 : ∀ k, W.heap.size ≤ (⟨E, k, none⟩ : Addr).block := fun k => HEBE.out
          have HB7 : Hid (Below W.heap.size W w7) := Lib.hid (by rw [hw7]; exact (((((((HB6.out.trans (HBW7.out.mono HB6.out.size)).setCell (hle7 0) _).setCell (hle7 1) _).setCell (hle7 2) _).setCell (hle7 3) _).setCell (hle7 4) _).setCell (hle7 5) _).setCell (hle7 6) _)
          clear hle7
          clear hw7 kB lB fB HSI7 HSO7 HKE7
          have kB := HK7.out.c
          have lB := HK7.out.lt
          go_wp2_with fail
          refine (HCALM2.out _ _ HS7.out).mono ?_
          rintro e v8w ⟨v8, rfl, hs8, hnw8, hb8⟩
          obtain ⟨A8, p8, cp8, xs8, rfl, hm8, hp8⟩ := id hs8.sv
          simp only [Pa.sl, List.length_map] at hs8 hnw8 ⊢
          clear hm8 hp8 xs8
          obtain ⟨n8, hn8⟩ : ∃ x, x = (Zf).ms.length := ⟨_, rfl⟩
          rw [← hn8] at hs8 hnw8 ⊢
          have HSI8 := Lib.hid hs8
          have HNW8 := Lib.hid hnw8
          have HKE8 := Lib.hid (HK7.out.below hb8)
          have HSO8 := Lib.hid (HS7.out.below hb8)
          have HLE8 : Hid (E < w7.heap.size) := Lib.hid HK7.out.lt
          have HBW8 := Lib.hid hb8
          have HN8 := Lib.hid hn8
          clear hb8 hs8 hnw8 hn8 kB lB
          have kB := HKE8.out.c
          have lB := HKE8.out.lt
          have fB := HKE8.out.f
          go_upto_region 18 with fail
          obtain ⟨w8, hw8⟩ : ∃ x, x = (((((((v8w.setCell ⟨E, 0, none⟩ (.slice (some ⟨(A8 .st).b, (A8 .st).o, none⟩) c (A8 .st).c)).setCell ⟨E, 1, none⟩ (.slice (some ⟨(A8 .va).b, (A8 .va).o, none⟩) c (A8 .va).c)).setCell ⟨E, 2, none⟩ (.slice (some ⟨(A8 .wt).b, (A8 .wt).o, none⟩) c (A8 .wt).c)).setCell ⟨E, 3, none⟩ (.slice (some ⟨(A8 .ho).b, (A8 .ho).o, none⟩) l (A8 .ho).c)).setCell ⟨E, 4, none⟩ (.slice (some ⟨(A8 .di).b, (A8 .di).o, none⟩) l (A8 .di).c)).setCell ⟨E, 5, none⟩ (.slice (some ⟨(A8 .bu).b, (A8 .bu).o, none⟩) l (A8 .bu).c)).setCell ⟨E, 6, none⟩ (.slice p8 n8 cp8)) := ⟨_, rfl⟩
          first | rw [← hw8] | fail "W8"
          have HS8 : Hid (Sys w8 (.agg #[.slice (some ⟨(A8 .st).b, (A8 .st).o, none⟩) c (A8 .st).c, .slice (some ⟨(A8 .va).b, (A8 .va).o, none⟩) c (A8 .va).c, .slice (some ⟨(A8 .wt).b, (A8 .wt).o, none⟩) c (A8 .wt).c, .slice (some ⟨(A8 .ho).b, (A8 .ho).o, none⟩) l (A8 .ho).c, .slice (some ⟨(A8 .di).b, (A8 .di).o, none⟩) l (A8 .di).c, .slice (some ⟨(A8 .bu).b, (A8 .bu).o, none⟩) l (A8 .bu).c, .slice p8 n8 cp8]) c l (Zf)) := Lib.hid (sys_putO HSI8.out HSO8.out HKE8.out HNW8.out HLE8.out rfl w8 hw8)
          have HK8 : Hid (Blk w8 E #[.slice (some ⟨(A8 .st).b, (A8 .st).o, none⟩) c (A8 .st).c, .slice (some ⟨(A8 .va).b, (A8 .va).o, none⟩) c (A8 .va).c, .slice (some ⟨(A8 .wt).b, (A8 .wt).o, none⟩) c (A8 .wt).c, .slice (some ⟨(A8 .ho).b, (A8 .ho).o, none⟩) l (A8 .ho).c, .slice (some ⟨(A8 .di).b, (A8 .di).o, none⟩) l (A8 .di).c, .slice (some ⟨(A8 .bu).b, (A8 .bu).o, none⟩) l (A8 .bu).c, .slice p8 n8 cp8]) := Lib.hid (by rw [hw8]; exact (((((((HKE8.out.set (n := 0) _ (by simp)).set (n := 1) _ (by simp)).set (n := 2) _ (by simp)).set (n := 3) _ (by simp)).set (n := 4) _ (by simp)).set (n := 5) _ (by simp)).set (n := 6) _ (by simp)).cast rfl)
          have hle8 : ∀ k, W.heap.size ≤ (⟨E, k, none⟩ : Addr).block := fun k => HEBE.out
          have HB8 : Hid (Below W.heap.size W w8) := Lib.hid (by rw [hw8]; exact (((((((HB7.out.trans (HBW8.out.mono HB7.out.size)).setCell (hle8 0) _).setCell (hle8 1) _).setCell (hle8 2) _).setCell (hle8 3) _).setCell (hle8 4) _).setCell (hle8 5) _).setCell (hle8 6) _)
          clear hle8 hw8 kB lB fB HSI8 HSO8 HKE8
          have kB := HK8.out.c
          have lB := HK8.out.lt
          go_wp2_with fail
          refine (has_ok _ c l Zf n0 m0 wr0 w8 HS8.out hnc hml).mono ?_
          rw [HFIN.out]
          rintro e w9 ⟨rfl, hb9⟩
          have HB9 : Hid (Below W.heap.size W w9) := Lib.hid (HB8.out.trans (hb9.mono HB8.out.size))
          clear hb9
          go_wp2_with fail
          exact bodyPost_ret (v := .bool true) (by simp [results, Tryz.results5, go_sem]) rfl ⟨rfl, HB9.out⟩
      · have hltI : ¬ (k : Int) < len := by omega
        clear hlt hA hkl hk100
        obtain ⟨N, hN, hN0, hNe⟩ := Pr.calm_ends HS2.out.ok
        obtain ⟨Zc, hZc⟩ : ∃ x, x = Pr.calmZ c N Zk := ⟨_, rfl⟩
        have HCALM : Hid (Calls Tryz.prog 27 #[.agg #[.slice (some y0) c q0, .slice (some y1) c q1, .slice (some y2) c q2, .slice (some y3) l q3, .slice (some y4) l q4, .slice (some y5) l q5, .slice qp nk qo]] wr fun e w' => CalmO wr w' e (.agg #[.slice (some y0) c q0, .slice (some y1) c q1, .slice (some y2) c q2, .slice (some y3) l q3, .slice (some y4) l q4, .slice (some y5) l q5, .slice qp nk qo]) c l Zc) := Lib.hid (by rw [hZc]; exact calm_any _ c l Zk N wr HS2.out hN hN0 hNe)
        rw [← hZc] at hN0
        have HQ := Lib.hid hN0
        clear hN0 hNe hN hZc
        go_wp2_with fail
        refine (HCALM.out).mono ?_
        rintro e v5w ⟨v5, rfl, hs5, hnw5, hb5⟩
        obtain ⟨A5, p5, cp5, xs5, rfl, hm5, hp5⟩ := id hs5.sv
        simp only [Pa.sl, List.length_map] at hs5 hnw5 ⊢
        clear hm5 hp5 xs5
        obtain ⟨n5, hn5⟩ : ∃ x, x = (Zc).ms.length := ⟨_, rfl⟩
        rw [← hn5] at hs5 hnw5 ⊢
        have HSI5 := Lib.hid hs5
        have HNW5 := Lib.hid hnw5
        have HKE5 := Lib.hid (HK2.out.below hb5)
        have HSO5 := Lib.hid (HS2.out.below hb5)
        have HLE5 : Hid (E < wr.heap.size) := Lib.hid HK2.out.lt
        have HBW5 := Lib.hid hb5
        have HN5 := Lib.hid hn5
        clear hb5 hs5 hnw5 hn5 kB lB
        have kB := HKE5.out.c
        have lB := HKE5.out.lt
        have fB := HKE5.out.f
        go_upto_region 11 with fail
        obtain ⟨w5, hw5⟩ : ∃ x, x = (((((((v5w.setCell ⟨E, 0, none⟩ (.slice (some ⟨(A5 .st).b, (A5 .st).o, none⟩) c (A5 .st).c)).setCell ⟨E, 1, none⟩ (.slice (some ⟨(A5 .va).b, (A5 .va).o, none⟩) c (A5 .va).c)).setCell ⟨E, 2, none⟩ (.slice (some ⟨(A5 .wt).b, (A5 .wt).o, none⟩) c (A5 .wt).c)).setCell ⟨E, 3, none⟩ (.slice (some ⟨(A5 .ho).b, (A5 .ho).o, none⟩) l (A5 .ho).c)).setCell ⟨E, 4, none⟩ (.slice (some ⟨(A5 .di).b, (A5 .di).o, none⟩) l (A5 .di).c)).setCell ⟨E, 5, none⟩ (.slice (some ⟨(A5 .bu).b, (A5 .bu).o, none⟩) l (A5 .bu).c)).setCell ⟨E, 6, none⟩ (.slice p5 n5 cp5)) := ⟨_, rfl⟩
        first | rw [← hw5] | fail "W5"
        have HS5 : Hid (Sys w5 (.agg #[.slice (some ⟨(A5 .st).b, (A5 .st).o, none⟩) c (A5 .st).c, .slice (some ⟨(A5 .va).b, (A5 .va).o, none⟩) c (A5 .va).c, .slice (some ⟨(A5 .wt).b, (A5 .wt).o, none⟩) c (A5 .wt).c, .slice (some ⟨(A5 .ho).b, (A5 .ho).o, none⟩) l (A5 .ho).c, .slice (some ⟨(A5 .di).b, (A5 .di).o, none⟩) l (A5 .di).c, .slice (some ⟨(A5 .bu).b, (A5 .bu).o, none⟩) l (A5 .bu).c, .slice p5 n5 cp5]) c l (Zc)) := Lib.hid (sys_putO HSI5.out HSO5.out HKE5.out HNW5.out HLE5.out rfl w5 hw5)
        have HK5 : Hid (Blk w5 E #[.slice (some ⟨(A5 .st).b, (A5 .st).o, none⟩) c (A5 .st).c, .slice (some ⟨(A5 .va).b, (A5 .va).o, none⟩) c (A5 .va).c, .slice (some ⟨(A5 .wt).b, (A5 .wt).o, none⟩) c (A5 .wt).c, .slice (some ⟨(A5 .ho).b, (A5 .ho).o, none⟩) l (A5 .ho).c, .slice (some ⟨(A5 .di).b, (A5 .di).o, none⟩) l (A5 .di).c, .slice (some ⟨(A5 .bu).b, (A5 .bu).o, none⟩) l (A5 .bu).c, .slice p5 n5 cp5]) := Lib.hid (by rw [hw5]; exact (((((((HKE5.out.set (n := 0) _ (by simp)).set (n := 1) _ (by simp)).set (n := 2) _ (by simp)).set (n := 3) _ (by simp)).set (n := 4) _ (by simp)).set (n := 5) _ (by simp)).set (n := 6) _ (by simp)).cast rfl)
        have hle5 : ∀ k, W.heap.size ≤ (⟨E, k, none⟩ : Addr).block := fun k => HEBE.out
        have HB5 : Hid (Below W.heap.size W w5) := Lib.hid (by rw [hw5]; exact (((((((HB2.out.trans (HBW5.out.mono HB2.out.size)).setCell (hle5 0) _).setCell (hle5 1) _).setCell (hle5 2) _).setCell (hle5 3) _).setCell (hle5 4) _).setCell (hle5 5) _).setCell (hle5 6) _)
        clear hle5 hw5 kB lB fB HSI5 HSO5 HKE5
        have kB := HK5.out.c
        have lB := HK5.out.lt
        clear HK2 HS2 HB2 HCALM
        obtain ⟨n0, hn0⟩ : ∃ x, x = a3 % c := ⟨_, rfl⟩
        obtain ⟨m0, hm0⟩ : ∃ x, x = a4 % l := ⟨_, rfl⟩
        have htn : ((a3 : Int)).tmod (c : Int) = (n0 : Int) := by rw [Int.tmod_eq_emod_of_nonneg (by omega), hn0]; exact (Int.natCast_emod a3 c).symm
        have htm : ((a4 : Int)).tmod (l : Int) = (m0 : Int) := by rw [Int.tmod_eq_emod_of_nonneg (by omega), hm0]; exact (Int.natCast_emod a4 l).symm
        have hnc : n0 < c := by rw [hn0]; exact Nat.mod_lt _ (by omega)
        have hml : m0 < l := by rw [hm0]; exact Nat.mod_lt _ (by omega)
        have hc0 : ¬ (c : Int) = 0 := by omega
        have hl0 : ¬ (l : Int) = 0 := by omega
        have hc0n : ¬ c = 0 := by omega
        have hl0n : ¬ l = 0 := by omega
        have f3 : IntKind.i64.wrap (a3 : Int) = (a3 : Int) := wrapA rfl (by omega)
        have f4 : IntKind.i64.wrap (a4 : Int) = (a4 : Int) := wrapA rfl (by omega)
        clear hn0 hm0
        go_upto_region 13 with fail
        refine region_planF (fun V : World => V = w5.drew) (.read 0 (.read 1 (.read 2 (.read 3 (.read 4 (.read 5 (.read 6 (.read 7 (.read 8 (.read 9 (.read 10 (.read 11 (.one 12 (.one 13 .stop)))))))))))))) (by kernel_rfl) (by kernel_rfl) rfl ?_
        iterate 12
          refine planT_read (v := ?_) rfl (by rfl) ?_ ?_
          rotate_left
          · intro w' hS
            try dsimp only at hS
            go_simp
            try with_reducible rfl
          try simp only [Act.put, List.setIfInBounds_toArray, List.set_cons_zero, List.set_cons_succ, List.getElem_toArray, List.getElem_cons_zero, List.getElem_cons_succ]
        refine planT_one ?_
        refine op_keep (v := .int .i64 (n0 : Int)) rfl (by rfl) ?_ ?_
        · go_simp
        refine ⟨rfl, ?_⟩
        try simp only [Act.put, List.setIfInBounds_toArray, List.set_cons_zero, List.set_cons_succ, List.getElem_toArray, List.getElem_cons_zero, List.getElem_cons_succ]
        refine planT_one ?_
        refine op_keep (v := .int .i64 (m0 : Int)) rfl (by rfl) ?_ ?_
        · go_simp
        refine ⟨rfl, ?_⟩
        try simp only [Act.put, List.setIfInBounds_toArray, List.set_cons_zero, List.set_cons_succ, List.getElem_toArray, List.getElem_cons_zero, List.getElem_cons_succ]
        refine planT_stop ?_
        refine NoPanic.normal ?_
        clear htn htm f3 f4 hc0 hl0 hc0n hl0n kB lB
        have kB := HK5.out.drew.c
        have lB := HK5.out.drew.lt
        obtain ⟨bh, hbh⟩ : ∃ x, x = hasB Zc.F n0 m0 wr0 := ⟨_, rfl⟩
        have HHAS : Hid (Calls Tryz.prog 20 #[.agg #[.slice (some ⟨(A5 .st).b, (A5 .st).o, none⟩) c (A5 .st).c, .slice (some ⟨(A5 .va).b, (A5 .va).o, none⟩) c (A5 .va).c, .slice (some ⟨(A5 .wt).b, (A5 .wt).o, none⟩) c (A5 .wt).c, .slice (some ⟨(A5 .ho).b, (A5 .ho).o, none⟩) l (A5 .ho).c, .slice (some ⟨(A5 .di).b, (A5 .di).o, none⟩) l (A5 .di).c, .slice (some ⟨(A5 .bu).b, (A5 .bu).o, none⟩) l (A5 .bu).c, .slice p5 n5 cp5], .int .i64 n0, .int .i64 m0, .bool wr0] w5.drew fun e w' => e = .returned (.bool bh) ∧ Below w5.drew.heap.size w5.drew w') := Lib.hid (by rw [hbh]; exact has_ok _ c l Zc n0 m0 wr0 w5.drew (HS5.out.below (Below.refl _ _).drew) hnc hml)
        have HBH := Lib.hid hbh
        clear hbh
        go_wp2_with fail
        refine (HHAS.out).mono ?_
        rintro e w6 ⟨rfl, hb6⟩
        have hb56 : Below w5.heap.size w5 w6 := (Below.refl _ _).drew.trans hb6
        have HK6 := Lib.hid (HK5.out.below hb56)
        have HS6 := Lib.hid (HS5.out.below hb56)
        have HB6 : Hid (Below W.heap.size W w6) := Lib.hid (HB5.out.trans (hb56.mono HB5.out.size))
        clear hb56 hb6 kB lB HHAS HK5 HS5 HB5 HBW5
        have kB := HK6.out.c
        have lB := HK6.out.lt
        cases bh with
        | true =>
          go_wp2_with fail
          exact bodyPost_ret (v := .bool true) (by simp [results, Tryz.results5, go_sem]) rfl ⟨rfl, HB6.out⟩
        | false =>
          obtain ⟨Zw, hZw⟩ : ∃ x, x = Pr.wantZ Zc n0 m0 wr0 := ⟨_, rfl⟩
          obtain ⟨N2, hN2, hN20, hN2e⟩ := Pr.calm_ends (HS6.out.ok.want hnc hml wr0)
          obtain ⟨hwx, hfin, _⟩ := Pr.asked_z HS6.out.ok HQ.out hml hnc wr0 (HBH.out.symm.trans rfl) N2 hN20 hN2e
          obtain ⟨Zf, hZf⟩ : ∃ x, x = Pr.calmZ c N2 Zw := ⟨_, rfl⟩
          rw [← hZw] at hN20 hN2e hfin
          have HWANT : Hid (Calls Tryz.prog 12 #[.agg #[.slice (some ⟨(A5 .st).b, (A5 .st).o, none⟩) c (A5 .st).c, .slice (some ⟨(A5 .va).b, (A5 .va).o, none⟩) c (A5 .va).c, .slice (some ⟨(A5 .wt).b, (A5 .wt).o, none⟩) c (A5 .wt).c, .slice (some ⟨(A5 .ho).b, (A5 .ho).o, none⟩) l (A5 .ho).c, .slice (some ⟨(A5 .di).b, (A5 .di).o, none⟩) l (A5 .di).c, .slice (some ⟨(A5 .bu).b, (A5 .bu).o, none⟩) l (A5 .bu).c, .slice p5 n5 cp5], .int .i64 n0, .int .i64 m0, .bool wr0] w6 fun e w' => OutZ w6 w' e c l Zw 0) := Lib.hid (by
            have := want_ok _ c l Zc n0 m0 wr0 w6 HS6.out hnc hml
            rw [← hZw, hwx] at this
            exact this)
          have HCALM2 : Hid (∀ v V, Sys V v c l Zw → Calls Tryz.prog 27 #[v] V fun e w' => CalmO V w' e v c l Zf) := Lib.hid (fun v V hS => by rw [hZf]; exact calm_any v c l Zw N2 V hS hN2 hN20 hN2e)
          have HFIN : Hid (hasB Zf.F n0 m0 wr0 = true) := Lib.hid (by rw [hZf]; exact hfin)
          clear hZw hN2 hN20 hN2e hwx hfin hZf
          go_wp2_with fail
          refine (HWANT.out).mono ?_
          rintro e v7w ⟨v7, rfl, hs7, hnw7, hb7⟩
          obtain ⟨A7, p7, cp7, xs7, rfl, hm7, hp7⟩ := id hs7.sv
          simp only [Pa.sl, List.length_map] at hs7 hnw7 ⊢
          clear hm7 hp7 xs7
          obtain ⟨n7, hn7⟩ : ∃ x, x = (Zw).ms.length := ⟨_, rfl⟩
          rw [← hn7] at hs7 hnw7 ⊢
          have HSI7 := Lib.hid hs7
          have HNW7 := Lib.hid hnw7
          have HKE7 := Lib.hid (HK6.out.below hb7)
          have HSO7 := Lib.hid (HS6.out.below hb7)
          have HLE7 : Hid (E < w6.heap.size) := Lib.hid HK6.out.lt
          have HBW7 := Lib.hid hb7
          have HN7 := Lib.hid hn7
          clear hb7 hs7 hnw7 hn7 kB lB
          have kB := HKE7.out.c
          have lB := HKE7.out.lt
          have fB := HKE7.out.f
          go_upto_region 17 with fail
          obtain ⟨w7, hw7⟩ : ∃ x, x = (((((((v7w.setCell ⟨E, 0, none⟩ (.slice (some ⟨(A7 .st).b, (A7 .st).o, none⟩) c (A7 .st).c)).setCell ⟨E, 1, none⟩ (.slice (some ⟨(A7 .va).b, (A7 .va).o, none⟩) c (A7 .va).c)).setCell ⟨E, 2, none⟩ (.slice (some ⟨(A7 .wt).b, (A7 .wt).o, none⟩) c (A7 .wt).c)).setCell ⟨E, 3, none⟩ (.slice (some ⟨(A7 .ho).b, (A7 .ho).o, none⟩) l (A7 .ho).c)).setCell ⟨E, 4, none⟩ (.slice (some ⟨(A7 .di).b, (A7 .di).o, none⟩) l (A7 .di).c)).setCell ⟨E, 5, none⟩ (.slice (some ⟨(A7 .bu).b, (A7 .bu).o, none⟩) l (A7 .bu).c)).setCell ⟨E, 6, none⟩ (.slice p7 n7 cp7)) := ⟨_, rfl⟩
          first | rw [← hw7] | fail "W7"
          have HS7 : Hid (Sys w7 (.agg #[.slice (some ⟨(A7 .st).b, (A7 .st).o, none⟩) c (A7 .st).c, .slice (some ⟨(A7 .va).b, (A7 .va).o, none⟩) c (A7 .va).c, .slice (some ⟨(A7 .wt).b, (A7 .wt).o, none⟩) c (A7 .wt).c, .slice (some ⟨(A7 .ho).b, (A7 .ho).o, none⟩) l (A7 .ho).c, .slice (some ⟨(A7 .di).b, (A7 .di).o, none⟩) l (A7 .di).c, .slice (some ⟨(A7 .bu).b, (A7 .bu).o, none⟩) l (A7 .bu).c, .slice p7 n7 cp7]) c l (Zw)) := Lib.hid (sys_put HSI7.out HSO7.out HKE7.out HNW7.out HLE7.out rfl w7 hw7)
          have HK7 : Hid (Blk w7 E #[.slice (some ⟨(A7 .st).b, (A7 .st).o, none⟩) c (A7 .st).c, .slice (some ⟨(A7 .va).b, (A7 .va).o, none⟩) c (A7 .va).c, .slice (some ⟨(A7 .wt).b, (A7 .wt).o, none⟩) c (A7 .wt).c, .slice (some ⟨(A7 .ho).b, (A7 .ho).o, none⟩) l (A7 .ho).c, .slice (some ⟨(A7 .di).b, (A7 .di).o, none⟩) l (A7 .di).c, .slice (some ⟨(A7 .bu).b, (A7 .bu).o, none⟩) l (A7 .bu).c, .slice p7 n7 cp7]) := Lib.hid (by rw [hw7]; exact (((((((HKE7.out.set (n := 0) _ (by simp)).set (n := 1) _ (by simp)).set (n := 2) _ (by simp)).set (n := 3) _ (by simp)).set (n := 4) _ (by simp)).set (n := 5) _ (by simp)).set (n := 6) _ (by simp)).cast rfl)
          have hle7 : ∀ k, W.heap.size ≤ (⟨E, k, none⟩ : Addr).block := fun k => HEBE.out
          have HB7 : Hid (Below W.heap.size W w7) := Lib.hid (by rw [hw7]; exact (((((((HB6.out.trans (HBW7.out.mono HB6.out.size)).setCell (hle7 0) _).setCell (hle7 1) _).setCell (hle7 2) _).setCell (hle7 3) _).setCell (hle7 4) _).setCell (hle7 5) _).setCell (hle7 6) _)
          clear hle7
          clear hw7 kB lB fB HSI7 HSO7 HKE7
          have kB := HK7.out.c
          have lB := HK7.out.lt
          go_wp2_with fail
          refine (HCALM2.out _ _ HS7.out).mono ?_
          rintro e v8w ⟨v8, rfl, hs8, hnw8, hb8⟩
          obtain ⟨A8, p8, cp8, xs8, rfl, hm8, hp8⟩ := id hs8.sv
          simp only [Pa.sl, List.length_map] at hs8 hnw8 ⊢
          clear hm8 hp8 xs8
          obtain ⟨n8, hn8⟩ : ∃ x, x = (Zf).ms.length := ⟨_, rfl⟩
          rw [← hn8] at hs8 hnw8 ⊢
          have HSI8 := Lib.hid hs8
          have HNW8 := Lib.hid hnw8
          have HKE8 := Lib.hid (HK7.out.below hb8)
          have HSO8 := Lib.hid (HS7.out.below hb8)
          have HLE8 : Hid (E < w7.heap.size) := Lib.hid HK7.out.lt
          have HBW8 := Lib.hid hb8
          have HN8 := Lib.hid hn8
          clear hb8 hs8 hnw8 hn8 kB lB
          have kB := HKE8.out.c
          have lB := HKE8.out.lt
          have fB := HKE8.out.f
          go_upto_region 18 with fail
          obtain ⟨w8, hw8⟩ : ∃ x, x = (((((((v8w.setCell ⟨E, 0, none⟩ (.slice (some ⟨(A8 .st).b, (A8 .st).o, none⟩) c (A8 .st).c)).setCell ⟨E, 1, none⟩ (.slice (some ⟨(A8 .va).b, (A8 .va).o, none⟩) c (A8 .va).c)).setCell ⟨E, 2, none⟩ (.slice (some ⟨(A8 .wt).b, (A8 .wt).o, none⟩) c (A8 .wt).c)).setCell ⟨E, 3, none⟩ (.slice (some ⟨(A8 .ho).b, (A8 .ho).o, none⟩) l (A8 .ho).c)).setCell ⟨E, 4, none⟩ (.slice (some ⟨(A8 .di).b, (A8 .di).o, none⟩) l (A8 .di).c)).setCell ⟨E, 5, none⟩ (.slice (some ⟨(A8 .bu).b, (A8 .bu).o, none⟩) l (A8 .bu).c)).setCell ⟨E, 6, none⟩ (.slice p8 n8 cp8)) := ⟨_, rfl⟩
          first | rw [← hw8] | fail "W8"
          have HS8 : Hid (Sys w8 (.agg #[.slice (some ⟨(A8 .st).b, (A8 .st).o, none⟩) c (A8 .st).c, .slice (some ⟨(A8 .va).b, (A8 .va).o, none⟩) c (A8 .va).c, .slice (some ⟨(A8 .wt).b, (A8 .wt).o, none⟩) c (A8 .wt).c, .slice (some ⟨(A8 .ho).b, (A8 .ho).o, none⟩) l (A8 .ho).c, .slice (some ⟨(A8 .di).b, (A8 .di).o, none⟩) l (A8 .di).c, .slice (some ⟨(A8 .bu).b, (A8 .bu).o, none⟩) l (A8 .bu).c, .slice p8 n8 cp8]) c l (Zf)) := Lib.hid (sys_putO HSI8.out HSO8.out HKE8.out HNW8.out HLE8.out rfl w8 hw8)
          have HK8 : Hid (Blk w8 E #[.slice (some ⟨(A8 .st).b, (A8 .st).o, none⟩) c (A8 .st).c, .slice (some ⟨(A8 .va).b, (A8 .va).o, none⟩) c (A8 .va).c, .slice (some ⟨(A8 .wt).b, (A8 .wt).o, none⟩) c (A8 .wt).c, .slice (some ⟨(A8 .ho).b, (A8 .ho).o, none⟩) l (A8 .ho).c, .slice (some ⟨(A8 .di).b, (A8 .di).o, none⟩) l (A8 .di).c, .slice (some ⟨(A8 .bu).b, (A8 .bu).o, none⟩) l (A8 .bu).c, .slice p8 n8 cp8]) := Lib.hid (by rw [hw8]; exact (((((((HKE8.out.set (n := 0) _ (by simp)).set (n := 1) _ (by simp)).set (n := 2) _ (by simp)).set (n := 3) _ (by simp)).set (n := 4) _ (by simp)).set (n := 5) _ (by simp)).set (n := 6) _ (by simp)).cast rfl)
          have hle8 : ∀ k, W.heap.size ≤ (⟨E, k, none⟩ : Addr).block := fun k => HEBE.out
          have HB8 : Hid (Below W.heap.size W w8) := Lib.hid (by rw [hw8]; exact (((((((HB7.out.trans (HBW8.out.mono HB7.out.size)).setCell (hle8 0) _).setCell (hle8 1) _).setCell (hle8 2) _).setCell (hle8 3) _).setCell (hle8 4) _).setCell (hle8 5) _).setCell (hle8 6) _)
          clear hle8 hw8 kB lB fB HSI8 HSO8 HKE8
          have kB := HK8.out.c
          have lB := HK8.out.lt
          go_wp2_with fail
          refine (has_ok _ c l Zf n0 m0 wr0 w8 HS8.out hnc hml).mono ?_
          rw [HFIN.out]
          rintro e w9 ⟨rfl, hb9⟩
          have HB9 : Hid (Below W.heap.size W w9) := Lib.hid (HB8.out.trans (hb9.mono HB8.out.size))
          clear hb9
          go_wp2_with fail
          exact bodyPost_ret (v := .bool true) (by simp [results, Tryz.results5, go_sem]) rfl ⟨rfl, HB9.out⟩
end Go.Proofs.YtmeomdfmljanhaaGreat.Pg
/- What an argument that is a list of acts reads as; no condition. -/
namespace Go.Proofs.YtmeomdfmljanhaaGreat.Pg
set_option linter.unusedVariables false
set_option linter.unusedSimpArgs false
open Go.ChangeShapes Go.WideShapes Go.ChangeAt Go.RowKit Go.Deep

theorem cells_u8 : Tryz.prog.cellsOf 5 = 1 := by kernel_rfl
theorem cells_num : Tryz.prog.cellsOf 33 = 1 := by kernel_rfl
theorem cells_bool : Tryz.prog.cellsOf 4 = 1 := by kernel_rfl
theorem cells_act : Tryz.prog.cellsOf 57 = 6 := by kernel_rfl
section
variable {H : Type} {enc : TypeId × Value → H} {w : World} {base : Nat} {spare : Nat → Bool} {held : Bool}
theorem add_zero_spot {a : Addr} {v : Value} (h : w.cell? (a.add 0) = some v) : a.block < w.heap.size ∧ a = ⟨a.block, a.off, none⟩ := by
  have hs : a.spot = none := by simpa [Addr.add] using World.cell?_spot h
  obtain ⟨b, o, s⟩ := a
  simp only at hs
  subst hs
  refine ⟨?_, rfl⟩
  have h0 : w.cell? ⟨b, o, none⟩ = some v := by simpa [Addr.add] using h
  by_cases hb : b < w.heap.size
  · exact hb
  · simp [World.cell?, Array.getElem?_eq_none (show w.heap.size ≤ b by omega)] at h0
theorem add_plain (b o k : Nat) : (⟨b, o, none⟩ : Addr).add k = ⟨b, o + k, none⟩ := by unfold Addr.add; split <;> simp_all
set_option maxRecDepth 100000 in
theorem act_of_cells {fuel : Nat} {cs : List Value} {x : DataW H × List MemPlace} (h : DataW.trod enc Tryz.prog w base spare held fuel 57 cs = some x) : ∃ y : Ac, cs = y.row.toList ∧ y.ok := by
  obtain ⟨xs, n, _, _, hlen, hxl, hf⟩ := DataW.trod_struct Tryz.underlying57 h
  rw [cells_act] at hlen
  match cs, hlen with
  | [v0, v1, v2, v3, v4, v5], _ =>
    match xs, hxl with
    | [y0, y1, y2, y3, y4, y5], _ =>
      have e0 : DataW.trod enc Tryz.prog w base spare held n 5 [v0] = some y0 := by simpa [cells_u8, cells_bool, cells_num] using hf 0 _ rfl
      have e1 : DataW.trod enc Tryz.prog w base spare held n 5 [v1] = some y1 := by simpa [cells_u8, cells_bool, cells_num] using hf 1 _ rfl
      have e2 : DataW.trod enc Tryz.prog w base spare held n 5 [v2] = some y2 := by simpa [cells_u8, cells_bool, cells_num] using hf 2 _ rfl
      have e3 : DataW.trod enc Tryz.prog w base spare held n 5 [v3] = some y3 := by simpa [cells_u8, cells_bool, cells_num] using hf 3 _ rfl
      have e4 : DataW.trod enc Tryz.prog w base spare held n 4 [v4] = some y4 := by simpa [cells_u8, cells_bool, cells_num] using hf 4 _ rfl
      have e5 : DataW.trod enc Tryz.prog w base spare held n 33 [v5] = some y5 := by simpa [cells_u8, cells_bool, cells_num] using hf 5 _ rfl
      obtain ⟨x0, q0, _, wf0⟩ := DataW.trod_int Tryz.underlying5 e0
      obtain ⟨x1, q1, _, wf1⟩ := DataW.trod_int Tryz.underlying5 e1
      obtain ⟨x2, q2, _, wf2⟩ := DataW.trod_int Tryz.underlying5 e2
      obtain ⟨x3, q3, _, wf3⟩ := DataW.trod_int Tryz.underlying5 e3
      obtain ⟨x4, q4, _⟩ := DataW.trod_bool Tryz.underlying4 e4
      obtain ⟨x5, q5, _, wf5⟩ := DataW.trod_int Tryz.underlying33 e5
      have b0 := bounds_u8 wf0
      have b1 := bounds_u8 wf1
      have b2 := bounds_u8 wf2
      have b3 := bounds_u8 wf3
      have b5 := bounds_u32 wf5
      simp at q0 q1 q2 q3 q4 q5
      subst q0 q1 q2 q3 q4 q5
      obtain ⟨n0, rfl⟩ := Int.eq_ofNat_of_zero_le b0.1
      obtain ⟨n1, rfl⟩ := Int.eq_ofNat_of_zero_le b1.1
      obtain ⟨n2, rfl⟩ := Int.eq_ofNat_of_zero_le b2.1
      obtain ⟨n3, rfl⟩ := Int.eq_ofNat_of_zero_le b3.1
      obtain ⟨n5, rfl⟩ := Int.eq_ofNat_of_zero_le b5.1
      exact ⟨⟨n0, n1, n2, n3, x4, n5⟩, rfl, ⟨by show n0 < 256; omega, by show n1 < 256; omega, by show n2 < 256; omega, by show n3 < 256; omega, by show n5 < 4294967296; omega⟩⟩
theorem acts_of_cells {fuel : Nat} {p : Option Addr} {len cap : Nat} {x : DataW H × List MemPlace} (h : DataW.trod enc Tryz.prog w base spare held fuel 52 [.slice p len cap] = some x) :
    ∃ l : List Ac, l.length = len ∧ len ≤ cap ∧ len ≤ maxLen ∧ Sl w p len (acC l) ∧ ∀ y ∈ l, y.ok := by
  rcases open_slice Tryz.underlying52 h with ⟨hcs, _⟩ | ⟨a, len', cap', m, n, D, Pl, hcs, _, hl, hm, hmm, _, hi⟩
  · simp at hcs
    obtain ⟨rfl, rfl, rfl⟩ := hcs
    exact ⟨[], rfl, Nat.le_refl _, Nat.zero_le _, fun h0 => absurd h0 (Nat.lt_irrefl 0), fun y hy => by cases hy⟩
  · simp at hcs
    obtain ⟨rfl, rfl, rfl⟩ := hcs
    have hlm : len ≤ m := by rw [hmm]; split <;> omega
    have hex : ∀ i, i < len → ∃ y : Ac, (∀ j, j < 6 → w.cell? ((a.add (i * 6)).add j) = y.row[j]?) ∧ y.ok := fun i hlt => by
      obtain ⟨cs', hc, ht⟩ := hi i (by omega)
      rw [cells_act] at hc
      obtain ⟨y, rfl, hy⟩ := act_of_cells ht
      exact ⟨y, fun j hj => by rw [(World.cells?_some hc).2.2 j hj, Array.getElem?_toList], hy⟩
    have : Inhabited Ac := ⟨ac0⟩
    obtain ⟨f, hf⟩ := choose_lt hex
    refine ⟨(List.range len).map f, by simp, hl, Nat.le_trans hl hm, fun h0 => ?_, fun y hy => ?_⟩
    · have hc0 := (hf 0 h0).1 0 (by omega)
      have hz : (a.add (0 * 6)).add 0 = a.add 0 := by simp [Addr.add]
      rw [hz] at hc0
      obtain ⟨hlt, ha⟩ := add_zero_spot (v := .int .u8 ((f 0).kind : Nat)) (by rw [hc0]; rfl)
      refine ⟨a.block, a.off, hlt, by rw [← ha], fun j hj => ?_⟩
      rw [acC_len, List.length_map, List.length_range] at hj
      have hk : j / 6 < len := by omega
      have hcell := (hf (j / 6) hk).1 (j % 6) (Nat.mod_lt _ (by decide))
      rw [ha, add_plain, add_plain] at hcell
      rw [show a.off + j / 6 * 6 + j % 6 = a.off + j by omega] at hcell
      have hu := acC_at ((List.range len).map f) (j / 6) (j % 6) (by simpa using hk) (Nat.mod_lt _ (by decide))
      rw [show j / 6 * 6 + j % 6 = j by omega] at hu
      have e : ((List.range len).map f).getD (j / 6) ac0 = f (j / 6) := by simp [List.getD, hk]
      rw [hcell, hu, e]
    · obtain ⟨i, hi, rfl⟩ := List.mem_map.1 hy
      exact (hf i (List.mem_range.1 hi)).2
end
end Go.Proofs.YtmeomdfmljanhaaGreat.Pg
