/- Laid together, in this order: StC, StD, StE, StF, StG, StH, StI, StJ, StK, StL. -/
import Derived.Test.YtflakmabciokbaaZe
set_option linter.unusedSimpArgs false
set_option linter.unusedVariables false
/- Whether a store lies in its banks as it should, by the program; no condition but that it reads, and may be so large. -/
namespace Go.Proofs.Ytflakmabciokbaa
set_option linter.unusedVariables false
open Go.ChangeShapes Go.WideShapes Go.ChangeAt Go.RowKit

set_option maxHeartbeats 4000000 in
theorem lies_any (S : Nat → Prop) (v : Value) (V : Vt) (n0 : Nat) (hn0 : V.words = (n0 : Int)) (h1 : 1 ≤ n0) (h64 : n0 ≤ 64) (w : World) (h : Vo S w v V) :
    Calls Try.prog 60 #[v] w fun e w' => e = .returned (.bool (liesV V)) ∧ Below w.heap.size w w' := by
  obtain ⟨p, n, c, xs, pp, m, cc, q, k, d, rfl, hc, -⟩ := h
  have HR : Hid (liesV V = (rightB V.B && decide ((m : Int) = needN n0 n))) := Lib.hid (by unfold liesV; rw [hn0, hc.bn.zn, hc.bn.zm])
  have HN1 : Hid (rightB V.B = true → 1 ≤ n) := Lib.hid (fun e => by have := (right_inv e).1; rw [hc.bn.zn] at this; exact this)
  have HPR : Hid (∀ W, Below w.heap.size w W → Calls Try.prog 88 #[.agg #[.slice p n c, .slice pp m cc, .int .i64 V.B.lost]] W fun e w' => e = .returned (.bool (rightB V.B)) ∧ Below W.heap.size W w') := Lib.hid (fun W hW => right_any p n c xs pp m cc V.B W (hc.bn.below hW))
  obtain ⟨lo, hlo⟩ : ∃ z, z = V.B.lost := ⟨_, rfl⟩
  obtain ⟨r, hr⟩ : ∃ z, z = rightB V.B := ⟨_, rfl⟩
  obtain ⟨sp, hsp⟩ : ∃ z, z = V.span := ⟨_, rfl⟩
  have hm := hc.bn.m100
  have hn := hc.bn.n100
  rw [← hlo] at HPR ⊢
  rw [← hr] at HPR HR HN1
  obtain ⟨z, hz⟩ : ∃ z, z = needN n0 n := ⟨_, rfl⟩
  rw [← hz] at HR
  rw [← hsp, hn0, HR.out]
  have HZ := Lib.hid hz
  clear hlo hr hsp hn0 hc HR hz
  obtain ⟨w0, hw0⟩ : ∃ w0, w0 = w.alloc (.cells #[.slice p n c, .slice pp m cc, .int .i64 lo, .int .i64 n0, .int .i64 sp, .slice q k d] 28) := ⟨_, rfl⟩
  have HA0 : Hid (Blk w0 w.heap.size #[.slice p n c, .slice pp m cc, .int .i64 lo, .int .i64 n0, .int .i64 sp, .slice q k d]) := Lib.hid (by rw [hw0]; exact Blk.new _ _ _)
  have HB0 : Hid (Below w.heap.size w w0) := Lib.hid (by rw [hw0]; exact (Below.refl _ _).alloc (Nat.le_refl _) _)
  have HW0 := Lib.hid hw0
  have HS : Hid (∀ W, Below w0.heap.size w0 W → ∀ t, W.cell? ⟨w.heap.size, t, none⟩ = (#[.slice p n c, .slice pp m cc, .int .i64 lo, .int .i64 n0, .int .i64 sp, .slice q k d] : Array Value)[t]?) := Lib.hid (fun W hb t => (HA0.out.below hb).c t)
  clear hw0
  go_enter Try.func60, Try.ntmps60
  have kA := HA0.out.c
  go_upto_region 1 with fail
  rw [← HW0.out]
  clear HW0 kA
  cases r with
  | false =>
    refine region_plan (fun V : World => ∀ t, V.cell? ⟨w.heap.size, t, none⟩ = (#[.slice p n c, .slice pp m cc, .int .i64 lo, .int .i64 n0, .int .i64 sp, .slice q k d] : Array Value)[t]?) 15 [(0, true), (1, true), (2, false), (3, true), (4, true), (5, true), (6, true), (7, true), (8, true), (9, true), (10, true), (11, true), (12, true), (13, true), (14, false)] (by kernel_rfl) (by kernel_rfl) (HS.out _ (Below.refl _ _).drew) ?_
    iterate 2
      refine plan_read (v := ?_) rfl (by rfl) ?_ ?_
      rotate_left
      · intro w' hS
        try dsimp only at hS
        go_simp
        try with_reducible rfl
      try simp only [Act.put, List.setIfInBounds_toArray, List.set_cons_zero, List.set_cons_succ, List.getElem_toArray, List.getElem_cons_zero, List.getElem_cons_succ]
    refine plan_call (F := 88) (args := ?_) rfl (by rfl) ?_ ?_
    rotate_left
    · go_simp
      rfl
    refine (HPR.out w0.drew HB0.out.drew).mono ?_
    rintro e w1 ⟨rfl, hb⟩
    have HB1 : Hid (Below w0.heap.size w0 w1) := Lib.hid ((Below.refl _ _).drew.trans hb)
    clear hb
    refine ⟨_, rfl, HS.out _ HB1.out, ?_⟩
    try simp only [Act.put, List.setIfInBounds_toArray, List.set_cons_zero, List.set_cons_succ, List.getElem_toArray, List.getElem_cons_zero, List.getElem_cons_succ]
    iterate 1
      refine plan_read (v := ?_) rfl (by rfl) ?_ ?_
      rotate_left
      · intro w' hS
        try dsimp only at hS
        go_simp
        try with_reducible rfl
      try simp only [Act.put, List.setIfInBounds_toArray, List.set_cons_zero, List.set_cons_succ, List.getElem_toArray, List.getElem_cons_zero, List.getElem_cons_succ]
    refine plan_skip rfl (by rfl) ?_
    try simp only [Act.put, List.setIfInBounds_toArray, List.set_cons_zero, List.set_cons_succ, List.getElem_toArray, List.getElem_cons_zero, List.getElem_cons_succ]
    refine plan_skip rfl (by rfl) ?_
    try simp only [Act.put, List.setIfInBounds_toArray, List.set_cons_zero, List.set_cons_succ, List.getElem_toArray, List.getElem_cons_zero, List.getElem_cons_succ]
    refine plan_skip rfl (by rfl) ?_
    try simp only [Act.put, List.setIfInBounds_toArray, List.set_cons_zero, List.set_cons_succ, List.getElem_toArray, List.getElem_cons_zero, List.getElem_cons_succ]
    refine plan_skip rfl (by rfl) ?_
    try simp only [Act.put, List.setIfInBounds_toArray, List.set_cons_zero, List.set_cons_succ, List.getElem_toArray, List.getElem_cons_zero, List.getElem_cons_succ]
    refine plan_skip rfl (by rfl) ?_
    try simp only [Act.put, List.setIfInBounds_toArray, List.set_cons_zero, List.set_cons_succ, List.getElem_toArray, List.getElem_cons_zero, List.getElem_cons_succ]
    refine plan_skip rfl (by rfl) ?_
    try simp only [Act.put, List.setIfInBounds_toArray, List.set_cons_zero, List.set_cons_succ, List.getElem_toArray, List.getElem_cons_zero, List.getElem_cons_succ]
    refine plan_skip rfl (by rfl) ?_
    try simp only [Act.put, List.setIfInBounds_toArray, List.set_cons_zero, List.set_cons_succ, List.getElem_toArray, List.getElem_cons_zero, List.getElem_cons_succ]
    refine plan_skip rfl (by rfl) ?_
    try simp only [Act.put, List.setIfInBounds_toArray, List.set_cons_zero, List.set_cons_succ, List.getElem_toArray, List.getElem_cons_zero, List.getElem_cons_succ]
    refine plan_skip rfl (by rfl) ?_
    try simp only [Act.put, List.setIfInBounds_toArray, List.set_cons_zero, List.set_cons_succ, List.getElem_toArray, List.getElem_cons_zero, List.getElem_cons_succ]
    refine plan_skip rfl (by rfl) ?_
    try simp only [Act.put, List.setIfInBounds_toArray, List.set_cons_zero, List.set_cons_succ, List.getElem_toArray, List.getElem_cons_zero, List.getElem_cons_succ]
    refine plan_skipc rfl (by rfl) (HS.out _ HB1.out) ?_
    try simp only [Act.put, List.setIfInBounds_toArray, List.set_cons_zero, List.set_cons_succ, List.getElem_toArray, List.getElem_cons_zero, List.getElem_cons_succ]
    refine plan_nil ?_
    simp only [List.drop_succ_cons, List.drop_zero]
    go_wp2_with fail
    go_ret
    exact ⟨rfl, HB0.out.trans (HB1.out.mono HB0.out.size)⟩
  | true =>
    have hn1 := HN1.out (by first | rfl | trivial)
    have HND : Hid (∀ W, Calls Try.prog 54 #[.int .i64 n0, .int .i64 n] W fun e w' => e = .returned (.int .i64 (needN n0 n)) ∧ W = w') := Lib.hid (fun W => need_any n0 n W h1 h64 hn1)
    rw [← HZ.out] at HND
    clear hn1 HN1 HZ
    refine region_plan (fun V : World => ∀ t, V.cell? ⟨w.heap.size, t, none⟩ = (#[.slice p n c, .slice pp m cc, .int .i64 lo, .int .i64 n0, .int .i64 sp, .slice q k d] : Array Value)[t]?) 15 [(0, true), (1, true), (2, false), (3, true), (4, true), (5, true), (6, true), (7, true), (8, true), (9, true), (10, true), (11, true), (12, true), (13, true), (14, false)] (by kernel_rfl) (by kernel_rfl) (HS.out _ (Below.refl _ _).drew) ?_
    iterate 2
      refine plan_read (v := ?_) rfl (by rfl) ?_ ?_
      rotate_left
      · intro w' hS
        try dsimp only at hS
        go_simp
        try with_reducible rfl
      try simp only [Act.put, List.setIfInBounds_toArray, List.set_cons_zero, List.set_cons_succ, List.getElem_toArray, List.getElem_cons_zero, List.getElem_cons_succ]
    refine plan_call (F := 88) (args := ?_) rfl (by rfl) ?_ ?_
    rotate_left
    · go_simp
      rfl
    refine (HPR.out w0.drew HB0.out.drew).mono ?_
    rintro e w1 ⟨rfl, hb⟩
    have HB1 : Hid (Below w0.heap.size w0 w1) := Lib.hid ((Below.refl _ _).drew.trans hb)
    clear hb
    refine ⟨_, rfl, HS.out _ HB1.out, ?_⟩
    try simp only [Act.put, List.setIfInBounds_toArray, List.set_cons_zero, List.set_cons_succ, List.getElem_toArray, List.getElem_cons_zero, List.getElem_cons_succ]
    iterate 11
      refine plan_read (v := ?_) rfl (by rfl) ?_ ?_
      rotate_left
      · intro w' hS
        try dsimp only at hS
        go_simp
        try with_reducible rfl
      try simp only [Act.put, List.setIfInBounds_toArray, List.set_cons_zero, List.set_cons_succ, List.getElem_toArray, List.getElem_cons_zero, List.getElem_cons_succ]
    refine plan_call (F := 54) (args := ?_) rfl (by rfl) ?_ ?_
    rotate_left
    · go_simp
      rfl
    refine (HND.out w1).mono ?_
    rintro e w2 ⟨rfl, rfl⟩
    refine ⟨_, rfl, HS.out _ HB1.out, ?_⟩
    try simp only [Act.put, List.setIfInBounds_toArray, List.set_cons_zero, List.set_cons_succ, List.getElem_toArray, List.getElem_cons_zero, List.getElem_cons_succ]
    refine plan_nil ?_
    simp only [List.drop_succ_cons, List.drop_zero]
    go_wp2_with fail
    go_ret
    exact ⟨by rw [Bool.true_and]; rfl, HB0.out.trans (HB1.out.mono HB0.out.size)⟩
end Go.Proofs.Ytflakmabciokbaa
/- What is undone, the last one first, as the program goes through it; whether a list has a word of an interval already; no condition but that the list reads, and its intervals rise. -/
namespace Go.Proofs.Ytflakmabciokbaa
set_option linter.unusedVariables false
open Go.ChangeShapes Go.WideShapes Go.ChangeAt Go.RowKit Go.Shelf
attribute [local go_sem] Oper.semAt_some

/-- What comes in round j, of a list that has k below. -/
def encS (l : List Ud.Un) (r : Nat) (j : Fin r) : Array Value := #[.agg (Ud.unR (l.getD (l.length - 1 - j.val) Ud.zU))]
/-- What a round leaves as it was. -/
structure KpS (Bs Ts : Nat) (a : Option Addr) (M : Nat) (W W' : World) : Prop where
  size : W.heap.size ≤ W'.heap.size
  box : W'.heap[Bs]? = W.heap[Bs]?
  tm : W'.heap[Ts]? = W.heap[Ts]?
  row : 0 < M → ∀ A, a = some A → W'.heap[A.block]? = W.heap[A.block]?
theorem KpS.refl (Bs Ts : Nat) (a : Option Addr) (M : Nat) (W : World) : KpS Bs Ts a M W W := ⟨Nat.le_refl _, rfl, rfl, fun _ _ _ => rfl⟩
theorem KpS.trans {Bs Ts : Nat} {a : Option Addr} {M : Nat} {A B C : World} (h : KpS Bs Ts a M A B) (k : KpS Bs Ts a M B C) : KpS Bs Ts a M A C := ⟨Nat.le_trans h.size k.size, k.box.trans h.box, k.tm.trans h.tm, fun h0 X e => (k.row h0 X e).trans (h.row h0 X e)⟩
theorem KpS.cell {Bs Ts : Nat} {a : Option Addr} {M : Nat} {A B : World} (h : KpS Bs Ts a M A B) (j : Nat) : B.cell? ⟨Bs, j, none⟩ = A.cell? ⟨Bs, j, none⟩ := by unfold World.cell?; rw [h.box]
theorem KpS.cellT {Bs Ts : Nat} {a : Option Addr} {M : Nat} {A B : World} (h : KpS Bs Ts a M A B) (j : Nat) : B.cell? ⟨Ts, j, none⟩ = A.cell? ⟨Ts, j, none⟩ := by unfold World.cell?; rw [h.tm]
theorem KpS.sl {Bs Ts : Nat} {a : Option Addr} {M : Nat} {A B : World} (h : KpS Bs Ts a M A B) {cs : List Value} (hs : Sl A a M cs) : Sl B a M cs := fun h0 => by
  obtain ⟨b, off, h1, rfl, h3⟩ := hs h0
  refine ⟨b, off, Nat.lt_of_lt_of_le h1 h.size, rfl, fun j hj => ?_⟩
  rw [← h3 j hj]
  unfold World.cell?
  rw [h.row h0 _ rfl]
theorem KpS.of_below {Bs Ts : Nat} {a : Option Addr} {N : Nat} {A B : World} {M : Nat} (h : Below M A B) (hB : Bs < M) (hT : Ts < M) (ha : 0 < N → ∀ X, a = some X → X.block < M) : KpS Bs Ts a N A B := ⟨h.size, h.block Bs hB, h.block Ts hT, fun h0 X e => h.block _ (ha h0 X e)⟩

set_option maxRecDepth 100000 in
set_option maxHeartbeats 4000000 in
theorem since1_in (n : Nat) (hn : 1 ≤ n) (Z y Bs Ts : Nat) (a : Option Addr) (cap : Nat) (s : Int) (l : List Ud.Un) (hsort : l.Pairwise fun x y => x.span ≤ y.span) (hN : l.length ≤ 10000) (R : Nat) (hR : Ud.cutU l s + R = l.length) (J Jx : List (Fin R) → World → Prop) (hAb : AbidesFrom Z J)
    (hY : ∀ pre x W, J pre W → pre.length < R → YieldAt Fence.wide (n - 1) Try.prog y (encS l R x) W fun e W' =>
      (e = .returned (.bool true) ∧ J (pre ++ [x]) W' ∧ KpS Bs Ts a l.length W W') ∨ (e = .returned (.bool false) ∧ Jx (pre ++ [x]) W'))
    (W : World) (hBs : W.cell? ⟨Bs, 0, none⟩ = some (.slice a l.length cap)) (hTs : W.cell? ⟨Ts, 0, none⟩ = some (.int .i64 s)) (hs : Sl W a l.length (Ud.unC l)) (h0 : J [] W) :
    CallsIn Fence.wide n Try.prog 85 #[.func (.yield y) #[] #[], .pointer (some ⟨Bs, 0, none⟩), .pointer (some ⟨Ts, 0, none⟩)] W fun e W' => (∃ v, e = .returned v) ∧
      ((∃ ys, ys = List.finRange R ∧ J ys W') ∨ (∃ pre, True ∧ Jx pre W')) := by
  obtain ⟨N, hNe⟩ : ∃ N, N = l.length := ⟨_, rfl⟩
  have HNE := Lib.hid hNe
  have HSL := Lib.hid hs
  have hw0 : wrap64 ((N : Int) - 1) = (N : Int) - 1 := by unfold wrap64; omega
  have hw1 : IntKind.i64.wrap ((N : Int) - 1) = (N : Int) - 1 := by rw [IntKind.wrap_i64]; omega
  have HBS := Lib.hid hBs
  have HTS := Lib.hid hTs
  have hbs : W.cell? ⟨Bs, 0, none⟩ = some (.slice a N cap) := by rw [hNe]; exact hBs
  have HBN := Lib.hid hbs
  have HY := Lib.hid hY
  have HAB : Hid (∀ pre W, J pre W → J pre W.drew) := Lib.hid (fun pre W h => hAb pre W W.drew none h ⟨rfl, rfl, rfl, Nat.le_refl _, fun _ _ _ => rfl⟩ (fun r e => by cases e))
  have HCUT : Hid (∀ k, k < N → ((l.getD k Ud.zU).span < s ↔ k < Ud.cutU l s)) := Lib.hid (fun k hk => Ud.cut_lt hsort s k (by rw [← hNe]; exact hk))
  have HRR : Hid (Ud.cutU l s + R = N) := Lib.hid (by rw [hR, hNe])
  obtain ⟨cu, hcu⟩ : ∃ z, z = Ud.cutU l s := ⟨_, rfl⟩
  rw [← hcu] at HCUT HRR
  have hrr := HRR.out
  clear hAb hs hBs hTs hY hNe hcu hR hsort
  refine callsIn_of_wp Try.func85 rfl trivial ?_ rfl
  simp only [Try.ntmps85, List.size_toArray, List.length_cons, List.length_nil, Nat.reduceAdd, Nat.reduceSub, Array.replicate_succ, Array.replicate_zero, List.push_toArray, List.append_toArray, List.nil_append, List.cons_append]
  gi_wp2
  gi_loopw [4] (fun i wr => ∃ (k : Nat) (iz : Int), k ≤ R ∧ i = .int .i64 iz ∧ iz = (N : Int) - 1 - k ∧ J ((List.finRange R).take k) wr ∧ KpS Bs Ts a l.length W wr)
    (fun i _ => (intOf i + 1).toNat)
  case atStart => exact ⟨0, (N : Int) - 1, Nat.zero_le _, rfl, by omega, h0, KpS.refl _ _ _ _ _⟩
  case round =>
    obtain ⟨k, iz, hk, rfl, hiz, hJs, hkp⟩ := hrel
    have hbw := (hkp.cell 0).trans HBN.out
    have htw := (hkp.cellT 0).trans HTS.out
    clear hbs hw0 hw1
    by_cases hge : 0 ≤ iz
    · have hgI : decide (0 ≤ iz) = true := decide_eq_true hge
      obtain ⟨t, ht⟩ : ∃ t : Nat, t = N - 1 - k := ⟨_, rfl⟩
      have e : iz = (t : Int) := by omega
      subst e
      have htN : t < N := by omega
      have htI : (t : Int) < (N : Int) := by omega
      have htl : t < l.length := by rw [← HNE.out]; exact htN
      have hct := HCUT.out t htN
      obtain ⟨b, off, rfl, hat⟩ := Ud.un_at (hkp.sl HSL.out) t htl
      obtain ⟨l0, c0, c1, c2⟩ := hat
      have hen : ∀ hkR : k < R, encS l R ⟨k, hkR⟩ = #[.agg (Ud.unR (l.getD t Ud.zU))] := fun hkR => by unfold encS; rw [ht, HNE.out]
      obtain ⟨u, hu⟩ : ∃ u, u = l.getD t Ud.zU := ⟨_, rfl⟩
      rw [← hu] at c0 c1 c2 hct
      have HEN : Hid (∀ hkR : k < R, encS l R ⟨k, hkR⟩ = #[.agg (Ud.unR u)]) := Lib.hid (fun hkR => by rw [hu]; exact hen hkR)
      clear hen
      obtain ⟨us, ua, uv⟩ := u
      dsimp only at c0 c1 c2 hct
      have f1 : wrap64 ((t : Int) - 1) = (t : Int) - 1 := by unfold wrap64; omega
      have f2 : IntKind.i64.wrap ((t : Int) - 1) = (t : Int) - 1 := by rw [IntKind.wrap_i64]; omega
      have HHIZ := Lib.hid hiz
      have HHT := Lib.hid ht
      clear hu hiz ht
      by_cases hsp : s ≤ us
      · have hsI : decide (s ≤ us) = true := decide_eq_true hsp
        have hkR : k < R := by
          have h1 := HHT.out
          have h2 := HRR.out
          have h4 := HHIZ.out
          have h3 : ¬ t < cu := fun e => by have := hct.2 e; omega
          omega
        obtain ⟨fn, tmps, assign, body, hy, hR⟩ := HY.out _ ⟨k, hkR⟩ wr.drew (HAB.out _ _ hJs) (by rw [Ud.len_fin (by omega)]; exact hkR)
        rw [HEN.out hkR] at hy
        have hy2 : (Instr.yield y #[.agg #[.int .i64 us, .int .i64 ua, .int .u32 uv]]).run Try.prog wr.drew = .ok (.round y fn tmps assign body) wr.drew := hy
        clear hJs hy hct hsp hge
        gi_wp2
        refine wpIn_wide.2 ?_
        refine region_plan (fun w' : World => w' = wr.drew) 10 [(0, true), (1, true), (2, true), (3, true), (4, true), (5, true), (6, true), (7, true), (8, true), (9, true)] (by kernel_rfl) (by kernel_rfl) rfl ?_
        iterate 10
          refine plan_read (v := ?_) rfl (by rfl) ?_ ?_
          rotate_left
          · intro w' hS
            try dsimp only at hS
            go_simp
            try with_reducible rfl
          try simp only [Act.put, List.setIfInBounds_toArray, List.set_cons_zero, List.set_cons_succ, List.getElem_toArray, List.getElem_cons_zero, List.getElem_cons_succ]
        refine plan_nil ?_
        simp only [List.drop_succ_cons, List.drop_zero]
        go_wp2_with fail
        gi_wp2
        refine hR.mono ?_
        rintro e W3 (⟨rfl, hJ3, hk3⟩ | ⟨rfl, hJx3⟩)
        · have HJ3 := Lib.hid hJ3
          have HK3 := Lib.hid ((hkp.trans (show KpS Bs Ts _ _ wr wr.drew from ⟨Nat.le_refl _, rfl, rfl, fun _ _ _ => rfl⟩)).trans hk3)
          clear hJ3 hk3 hR
          gi_wp2
          go_roundw
          case rel => exact ⟨k + 1, (t : Int) - 1, by omega, rfl, by have := HHIZ.out; omega, by rw [Ud.take_fin hkR]; exact HJ3.out, HK3.out⟩
          case measure => have := HHIZ.out; simp [intOf] <;> omega
        · have HJX := Lib.hid hJx3
          clear hJx3 hR
          gi_wp2
          refine bodyPost_ret (results_none rfl _ _ _) rfl ?_
          exact ⟨⟨_, rfl⟩, .inr ⟨_, trivial, HJX.out⟩⟩
      · have hsI : decide (s ≤ us) = false := decide_eq_false hsp
        have hkN : k = R := by
          have h1 := HHT.out
          have h2 := HRR.out
          have h3 : t < cu := hct.1 (by omega)
          omega
        have HJ : Hid (J (List.finRange R) wr.drew) := Lib.hid (by
          rw [List.take_of_length_le (by rw [List.length_finRange]; omega)] at hJs; exact HAB.out _ _ hJs)
        clear hJs hkN hct hsp hge
        gi_wp2
        refine wpIn_wide.2 ?_
        refine region_plan (fun w' : World => w' = wr.drew) 10 [(0, true), (1, true), (2, true), (3, true), (4, true), (5, true), (6, true), (7, true), (8, true), (9, true)] (by kernel_rfl) (by kernel_rfl) rfl ?_
        iterate 10
          refine plan_read (v := ?_) rfl (by rfl) ?_ ?_
          rotate_left
          · intro w' hS
            try dsimp only at hS
            go_simp
            try with_reducible rfl
          try simp only [Act.put, List.setIfInBounds_toArray, List.set_cons_zero, List.set_cons_succ, List.getElem_toArray, List.getElem_cons_zero, List.getElem_cons_succ]
        refine plan_nil ?_
        simp only [List.drop_succ_cons, List.drop_zero]
        go_wp2_with fail
        gi_wp2
        go_end0
        exact ⟨⟨_, rfl⟩, .inl ⟨_, rfl, HJ.out⟩⟩
    · have hgI : decide (0 ≤ iz) = false := decide_eq_false hge
      have hkN : k = R := by omega
      have HJ : Hid (J (List.finRange R) wr.drew) := Lib.hid (by
        rw [List.take_of_length_le (by rw [List.length_finRange]; omega)] at hJs; exact HAB.out _ _ hJs)
      clear hJs hkN hiz hge
      gi_wp2
      refine wpIn_wide.2 ?_
      refine region_plan (fun w' : World => w' = wr.drew) 10 [(0, true), (1, true), (2, true), (3, true), (4, true), (5, true), (6, true), (7, true), (8, true), (9, true)] (by kernel_rfl) (by kernel_rfl) rfl ?_
      iterate 3
        refine plan_read (v := ?_) rfl (by rfl) ?_ ?_
        rotate_left
        · intro w' hS
          try dsimp only at hS
          go_simp
          try with_reducible rfl
        try simp only [Act.put, List.setIfInBounds_toArray, List.set_cons_zero, List.set_cons_succ, List.getElem_toArray, List.getElem_cons_zero, List.getElem_cons_succ]
      refine plan_skip rfl (by rfl) ?_
      try simp only [Act.put, List.setIfInBounds_toArray, List.set_cons_zero, List.set_cons_succ, List.getElem_toArray, List.getElem_cons_zero, List.getElem_cons_succ]
      refine plan_skip rfl (by rfl) ?_
      try simp only [Act.put, List.setIfInBounds_toArray, List.set_cons_zero, List.set_cons_succ, List.getElem_toArray, List.getElem_cons_zero, List.getElem_cons_succ]
      refine plan_skip rfl (by rfl) ?_
      try simp only [Act.put, List.setIfInBounds_toArray, List.set_cons_zero, List.set_cons_succ, List.getElem_toArray, List.getElem_cons_zero, List.getElem_cons_succ]
      refine plan_skip rfl (by rfl) ?_
      try simp only [Act.put, List.setIfInBounds_toArray, List.set_cons_zero, List.set_cons_succ, List.getElem_toArray, List.getElem_cons_zero, List.getElem_cons_succ]
      refine plan_skip rfl (by rfl) ?_
      try simp only [Act.put, List.setIfInBounds_toArray, List.set_cons_zero, List.set_cons_succ, List.getElem_toArray, List.getElem_cons_zero, List.getElem_cons_succ]
      refine plan_skip rfl (by rfl) ?_
      try simp only [Act.put, List.setIfInBounds_toArray, List.set_cons_zero, List.set_cons_succ, List.getElem_toArray, List.getElem_cons_zero, List.getElem_cons_succ]
      refine plan_skip rfl (by rfl) ?_
      try simp only [Act.put, List.setIfInBounds_toArray, List.set_cons_zero, List.set_cons_succ, List.getElem_toArray, List.getElem_cons_zero, List.getElem_cons_succ]
      refine plan_nil ?_
      simp only [List.drop_succ_cons, List.drop_zero]
      go_wp2_with fail
      gi_wp2
      go_end0
      exact ⟨⟨_, rfl⟩, .inl ⟨_, rfl, HJ.out⟩⟩

theorem since_stops (n : Nat) (hn : 1 ≤ n) (Bs Ts : Nat) (a : Option Addr) (cap : Nat) (s : Int) (l : List Ud.Un) (hsort : l.Pairwise fun x y => x.span ≤ y.span) (hN : l.length ≤ 10000) (R : Nat) (hR : Ud.cutU l s + R = l.length) (w : World) (hBs : Bs < w.heap.size) (hTl : Ts < w.heap.size)
    (hc : w.cell? ⟨Bs, 0, none⟩ = some (.slice a l.length cap)) (hTs : w.cell? ⟨Ts, 0, none⟩ = some (.int .i64 s)) (hs : Sl w a l.length (Ud.unC l)) :
    SeqStopsK Fence.wide n Try.prog 85 #[.pointer (some ⟨Bs, 0, none⟩), .pointer (some ⟨Ts, 0, none⟩)] (encS l R) (KpS Bs Ts a l.length) (fun ys => ys = List.finRange R) (fun _ => True) R w := fun y J Jx W hW hAb _ hY h0 =>
  since1_in n hn _ y Bs Ts a cap s l hsort hN R hR J Jx hAb hY W ((hW.cell (p := ⟨Bs, 0, none⟩) hBs).trans hc) ((hW.cell (p := ⟨Ts, 0, none⟩) hTl).trans hTs) (hs.below hW) h0
theorem since_any (a : Option Addr) (n c : Nat) (s : Int) (w : World) : Calls Try.prog 46 #[.slice a n c, .int .i64 s] w fun e w' => e = .returned (.func (.func 85) #[] #[.pointer (some ⟨w.heap.size, 0, none⟩), .pointer (some ⟨w.heap.size + 1, 0, none⟩)]) ∧ w' = (w.alloc (.cells #[.slice a n c] 26)).alloc (.cells #[.int .i64 s] 3) := by
  go_enter Try.func46, Try.ntmps46
  go_wp2_with fail
  go_ret
  exact ⟨rfl, rfl⟩
end Go.Proofs.Ytflakmabciokbaa
/- Whether a list has a word of an interval already, by the program; no condition but that the list reads, and its intervals rise. -/
namespace Go.Proofs.Ytflakmabciokbaa
set_option linter.unusedVariables false
open Go.ChangeShapes Go.WideShapes Go.ChangeAt Go.RowKit Go.Maps
attribute [local go_sem] Oper.semAt_some

theorem key_line (w : World) (s a t b : Int) : (binOp .eql 75 (.agg #[.int .i64 s, .int .i64 a]) (.agg #[.int .i64 t, .int .i64 b])).run Try.prog w = .ok (.bool ((s == t) && (a == b))) w := by
  have e1 : ∀ s a : Int, (part 3 #[.int .i64 s, .int .i64 a] 0).run Try.prog w = .ok (.int .i64 s) w := fun s a => by simp [part, go_sem]
  have e2 : ∀ s a : Int, (part 3 #[.int .i64 s, .int .i64 a] 1).run Try.prog w = .ok (.int .i64 a) w := fun s a => by simp [part, go_sem]
  rw [run_eql_struct, show (10000 : Nat) = 9999 + 1 from rfl, run_equalIn_agg w 9999 75 _ _ (by simp [Program.fieldsOf, Try.underlying75]) Try.stoodInHeld75]
  have n1 : ("span" ≠ "_") = True := by simp
  have n2 : ("at" ≠ "_") = True := by simp
  have q1 := run_equalIn_int w 9998 3 .i64 .i64 s t Try.underlying3
  have q2 := run_equalIn_int w 9998 3 .i64 .i64 a b Try.underlying3
  revert q1 q2
  generalize (s == t) = b1
  generalize (a == b) = b2
  intro q1 q2
  simp only [Program.fieldsOf, Try.underlying75, Op.eqFields, n1, n2, if_true, Sem.run_bind, e1, e2, Result.andThen_ok, q1, q2, Sem.run_ite]
  cases b1 <;> cases b2 <;> simp
def keyB (u : Ud.Un) (s a : Int) : Bool := (s == u.span) && (a == u.at_)
theorem keyB_iff {u : Ud.Un} {s a : Int} : keyB u s a = true ↔ (u.span = s ∧ u.at_ = a) := by
  unfold keyB
  simp
  constructor
  · rintro ⟨h1, h2⟩; exact ⟨h1.symm, h2.symm⟩
  · rintro ⟨h1, h2⟩; exact ⟨h1.symm, h2.symm⟩
/-- None of those that were gone through has it. -/
def NotK (l : List Ud.Un) (s a : Int) {R : Nat} (j : Fin R) : Prop := keyB (l.getD (l.length - 1 - j.val) Ud.zU) s a = false
theorem hasU_yes {l : List Ud.Un} {s a : Int} {k : Nat} (hk : k < l.length) (h : keyB (l.getD k Ud.zU) s a = true) : Ud.hasU l s a = true :=
  List.any_eq_true.2 ⟨_, Ud.mem_getD l Ud.zU k hk, decide_eq_true (keyB_iff.1 h)⟩
theorem hasU_no {l : List Ud.Un} {s a : Int} (hsort : l.Pairwise fun x y => x.span ≤ y.span) {R : Nat} (hR : Ud.cutU l s + R = l.length) (h : ∀ j ∈ List.finRange R, NotK l s a j) : Ud.hasU l s a = false := by
  rw [Bool.eq_false_iff]
  intro e
  obtain ⟨u, hu, hc⟩ := List.any_eq_true.1 e
  have hc := of_decide_eq_true hc
  obtain ⟨k, hk, rfl⟩ := Ud.mem_idx l Ud.zU u hu
  have h1 : ¬ (l.getD k Ud.zU).span < s := by rw [hc.1]; omega
  rw [Ud.cut_lt hsort s k hk] at h1
  have h2 := h ⟨l.length - 1 - k, by omega⟩ (List.mem_finRange _)
  unfold NotK at h2
  dsimp only at h2
  rw [show l.length - 1 - (l.length - 1 - k) = k by omega] at h2
  rw [keyB_iff.2 hc] at h2
  cases h2
theorem blk_cells {W : World} {B : Nat} {cs : Array Value} (h : Blk W B cs) (h0 : 0 < cs.size) : ∃ o : Obj, W.heap[B]? = some o ∧ o.isCells = true :=
  cells_of_cell (a := ⟨B, 0, none⟩) ((h.c 0).trans (Array.getElem?_eq_getElem h0))

/-- What is laid ahead of the loop. -/
structure SuK (w W : World) (s a : Int) (r : Bool) : Prop where
  hk : Blk W w.heap.size #[.int .i64 s, .int .i64 a]
  hr : Blk W (w.heap.size + 1) #[.bool r]
  hb : Below w.heap.size w W
theorem SuK.below {w W W' : World} {s a : Int} {r : Bool} (h : SuK w W s a r) (hb : Below W.heap.size W W') : SuK w W' s a r := ⟨h.hk.below hb, h.hr.below hb, h.hb.trans (hb.mono h.hb.size)⟩
theorem SuK.set {w W : World} {s a : Int} {r : Bool} (h : SuK w W s a r) (r' : Bool) : SuK w (W.setCell ⟨w.heap.size + 1, 0, none⟩ (.bool r')) s a r' :=
  ⟨h.hk.other _ (by omega), h.hr.set (n := 0) _ (by simp), h.hb.setCell (p := ⟨w.heap.size + 1, 0, none⟩) (by show w.heap.size ≤ w.heap.size + 1; omega) _⟩
theorem SuK.grown {w W W' : World} {s a : Int} {r : Bool} (h : SuK w W s a r) {row : Option Nat} (hg : W.grownBy W' row) {B : Nat} (hB : w.heap.size + 2 ≤ B) (hr : ∀ g, row = some g → B ≤ g) : SuK w W' s a r :=
  ⟨h.hk.grown hg (fun e => by have := hr _ e; omega), h.hr.grown hg (fun e => by have := hr _ e; omega), h.hb.grown hg h.hb.size (fun g e => by have := hr g e; omega)⟩
theorem SuK.fin {w W : World} {s a : Int} {r : Bool} (h : SuK w W s a r) {D : Nat} (hD : w.heap.size + 2 ≤ D) (o : Obj) : SuK w (W.putObj D o) s a r :=
  h.grown (grownBy_putObj' W D o) (B := D) hD (fun g e => by injection e with e; omega)

set_option maxHeartbeats 4000000 in
set_option maxRecDepth 100000 in
theorem kept_any (q : Option Addr) (n c : Nat) (l : List Ud.Un) (s a : Int) (w : World) (hl : l.length = n) (hs : Sl w q n (Ud.unC l)) (hn : n ≤ 10000) (hsort : l.Pairwise fun x y => x.span ≤ y.span) :
    Calls Try.prog 40 #[.slice q n c, .agg #[.int .i64 s, .int .i64 a]] w fun e w' => e = .returned (.bool (Ud.hasU l s a)) ∧ Below w.heap.size w w' := by
  have HXL : Hid (l.length = n) := Lib.hid hl
  have HSL := Lib.hid hs
  have HSORT := Lib.hid hsort
  have HPB : Hid (∀ X, q = some X → 0 < n → X.block < w.heap.size) := Lib.hid (fun X e h0 => by
    obtain ⟨b, off, h2, h3, _⟩ := hs h0
    rw [h3] at e; injection e with e; subst e; exact h2)
  have HCL := Lib.hid (Ud.cut_le l s)
  clear hl hs hsort
  obtain ⟨w0, hw0⟩ : ∃ w0, w0 = (w.alloc (.cells #[.int .i64 s, .int .i64 a] 75)).alloc (.cells #[.bool false] 4) := ⟨_, rfl⟩
  have HS0 : Hid (SuK w w0 s a false) := Lib.hid (by
    have k1 := Blk.new w #[.int .i64 s, .int .i64 a] 75
    have k2 := Blk.new (w.alloc (.cells #[.int .i64 s, .int .i64 a] 75)) #[.bool false] 4
    simp only [World.size_alloc] at k2
    rw [hw0]
    exact ⟨k1.alloc _, k2, ((Below.refl _ _).alloc (Nat.le_refl _) _).alloc (by simp) _⟩)
  have HSZ : Hid (w0.heap.size = w.heap.size + 2) := Lib.hid (by rw [hw0, World.size_alloc, World.size_alloc])
  have HW0 := Lib.hid hw0
  clear hw0
  refine (callsIn_wide (n := 5)).1 ?_
  refine callsIn_of_wp_marks Try.func40 rfl trivial ?_ rfl
  simp only [Try.ntmps40, List.size_toArray, List.length_cons, List.length_nil, Nat.reduceAdd, Nat.reduceSub, Array.replicate_succ, Array.replicate_zero, List.push_toArray, List.append_toArray, List.nil_append, List.cons_append]
  refine wpIn_wide.2 ?_
  have kA := HS0.out.hk.c
  go_upto_region 1 with fail
  rw [← HW0.out]
  clear HW0
  go_wp2_with fail
  refine (since_any q n c s w0).mono ?_
  rintro e w5 ⟨rfl, hw5⟩
  obtain ⟨Bs, hBs⟩ : ∃ z, z = w0.heap.size := ⟨_, rfl⟩
  rw [← hBs]
  have HB5 : Hid (Below w0.heap.size w0 w5) := Lib.hid (by rw [hw5]; exact ((Below.refl _ _).alloc (Nat.le_refl _) _).alloc (by simp) _)
  have HK5 : Hid (Blk w5 Bs #[.slice q n c] ∧ Blk w5 (Bs + 1) #[.int .i64 s]) := Lib.hid (by
    have k1 := Blk.new w0 #[.slice q n c] 26
    have k2 := Blk.new (w0.alloc (.cells #[.slice q n c] 26)) #[.int .i64 s] 3
    simp only [World.size_alloc] at k2
    rw [hw5, hBs]; exact ⟨k1.alloc _, k2⟩)
  have HBS : Hid (Bs = w.heap.size + 2 ∧ w5.heap.size = Bs + 2) := Lib.hid (by rw [hw5, hBs, HSZ.out]; exact ⟨rfl, by simp [HSZ.out]⟩)
  have HS5 := Lib.hid (HS0.out.below HB5.out)
  clear hw5 hBs kA
  go_wp2_with fail
  obtain ⟨R, hR⟩ : ∃ R, Ud.cutU l s + R = l.length := ⟨l.length - Ud.cutU l s, by have := HCL.out; omega⟩
  have HR := Lib.hid hR
  have hRn : R ≤ n := by rw [← HXL.out]; omega
  have HBSL : Hid (Bs < w5.heap.size ∧ Bs + 1 < w5.heap.size) := Lib.hid (by have := HBS.out.2; omega)
  have HPB5 : Hid (0 < n → ∀ X, q = some X → X.block < w5.heap.size) := Lib.hid (fun h0 X e => by have := HPB.out X e h0; have := HBS.out; omega)
  clear hR
  refine (wpIn_wide (n := 5)).1 ?_
  refine wpIn_rangeFunc_ownH rfl (by decide) (gf := 85) (lb := #[.pointer (some ⟨Bs, 0, none⟩), .pointer (some ⟨Bs + 1, 0, none⟩)]) rfl trivial (enters_of Try.func85 (by kernel_rfl) rfl)
      (since_stops 4 (by decide) Bs (Bs + 1) q c s l HSORT.out (by rw [HXL.out]; exact hn) R HR.out w5 HBSL.out.1 HBSL.out.2 (by rw [HXL.out]; exact HK5.out.1.c 0) (HK5.out.2.c 0) (by rw [HXL.out]; exact HSL.out.below (HS5.out.hb))) KpS.trans ?hKb (Below.refl _ _) (fun _ => rfl)
      (fun pre W => (SuK w W s a false ∧ w5.heap.size ≤ W.heap.size) ∧ ∀ j ∈ pre, NotK l s a j) (fun cd pre W => (SuK w W s a true ∧ w5.heap.size ≤ W.heap.size) ∧ cd = .ret ∧ Ud.hasU l s a = true)
      ?hI ?hIx ⟨⟨HS5.out, Nat.le_refl _⟩, fun j hj => (by cases hj)⟩
      (fun x a' W => ∃ Bx, w5.heap.size ≤ Bx ∧ Blk W Bx (Ud.unR (l.getD (l.length - 1 - x.val) Ud.zU)) ∧ a' = { tmps := #[Value.slice q n c, Value.agg #[Value.int IntKind.i64 s, Value.int IntKind.i64 a], undef, Value.pointer (some { block := w.heap.size, off := 0 }), Value.pointer (some { block := w.heap.size + 1, off := 0 }), Value.pointer (some { block := Bx, off := 0 }), Value.slice q n c, Value.pointer (some { block := w.heap.size, off := 0 }), Value.int IntKind.i64 s, Value.func (Fn.func 85) #[] #[Value.pointer (some { block := Bs, off := 0 }), Value.pointer (some { block := Bs + 1, off := 0 })], Value.agg (Ud.unR (l.getD (l.length - 1 - x.val) Ud.zU)), undef, undef, undef, undef, undef, undef, undef], defers := [] }) ?hAx ?assign ?body ?done ?stop
  case hKb =>
    intro W y o o' hy _ _ _
    exact ⟨by simp, World.putObj_heap_other (by have := HBSL.out; omega), World.putObj_heap_other (by have := HBSL.out; omega), fun h0 X e => World.putObj_heap_other (by have := HPB5.out (by rw [← HXL.out]; exact h0) X e; omega)⟩
  case hI =>
    intro pre W W' row h hg hr
    have hsz := h.1.2
    have hb := HBS.out
    exact ⟨⟨h.1.1.grown hg (B := w5.heap.size) (by omega) (fun g e => (hr g e).1), Nat.le_trans h.1.2 hg.size⟩, h.2⟩
  case hIx =>
    intro cd pre W W' row h hg hr
    have hb := HBS.out
    obtain ⟨h1, h2⟩ := h
    exact ⟨⟨h1.1.grown hg (B := w5.heap.size) (by omega) (fun g e => (hr g e).1), Nat.le_trans h1.2 hg.size⟩, h2⟩
  case hAx =>
    intro x a' _ W W' row h hg hr
    obtain ⟨Bx, hBx, hk, he⟩ := h
    obtain ⟨o, h1, h2⟩ := blk_cells hk (by unfold Ud.unR; simp)
    refine ⟨Bx, hBx, hk.grown hg (fun e => ?_), he⟩
    obtain ⟨_, o', h3, h4⟩ := hr Bx e
    rw [h1] at h3; injection h3 with h3; subst h3; rw [h2] at h4; cases h4
  case assign =>
    rintro y pre x W K ⟨⟨hi, hsz⟩, hnot⟩ hK
    have HI := Lib.hid hi
    have HZ := Lib.hid hsz
    have HN := Lib.hid hnot
    have HKK := Lib.hid hK
    clear hi hK hnot
    unfold encS
    obtain ⟨u, hu⟩ : ∃ u, u = l.getD (l.length - 1 - x.val) Ud.zU := ⟨_, rfl⟩
    rw [← hu] at HKK ⊢
    obtain ⟨us, ua, uv⟩ := u
    unfold Ud.unR at HKK ⊢
    dsimp only at HKK ⊢
    clear hu
    gi_wp2
    refine HKK.out _ _ ((KeepsOthers.alloc _ _).from _) (KpS.of_below (M := W.heap.size) ((Below.refl _ W).alloc (Nat.le_refl _) _) (by have := HZ.out; have := HBSL.out; omega) (by have := HZ.out; have := HBSL.out; omega) (fun h0 X e => by have := HPB5.out (by rw [← HXL.out]; exact h0) X e; have := HZ.out; omega)) ⟨⟨HI.out.below ((Below.refl _ W).alloc (Nat.le_refl _) _), by have := HZ.out; simp; omega⟩, HN.out⟩ ⟨W.heap.size, HZ.out, Blk.new _ _ _, rfl⟩
  case body =>
    rintro y pre x a' W hyl hyr ⟨⟨hI, hsz⟩, hnot⟩ ⟨Bx, hBx, hX, rfl⟩ hpre
    have HZ := Lib.hid hsz
    have HN := Lib.hid hnot
    have HI := Lib.hid hI
    have HX := Lib.hid hX
    have hx := x.isLt
    have hlt : l.length - 1 - x.val < l.length := by have := HR.out; omega
    have HYES : Hid (keyB (l.getD (l.length - 1 - x.val) Ud.zU) s a = true → Ud.hasU l s a = true) := Lib.hid (fun e => hasU_yes hlt e)
    have HNX : Hid (NotK l s a x ↔ keyB (l.getD (l.length - 1 - x.val) Ud.zU) s a = false) := Lib.hid Iff.rfl
    obtain ⟨u, hu⟩ : ∃ u, u = l.getD (l.length - 1 - x.val) Ud.zU := ⟨_, rfl⟩
    rw [← hu] at HX HNX HYES ⊢
    obtain ⟨us, ua, uv⟩ := u
    have kK := HI.out.hk.c
    have kR := HI.out.hr.c
    have fR := HI.out.hr.f
    have lR := HI.out.hr.lt
    have kX := HX.out.c
    unfold Ud.unR at kX ⊢
    dsimp only at kX ⊢
    clear hu hI hX hsz hnot hyl hyr hpre hBx hlt
    have HNO : Hid (keyB ⟨us, ua, uv⟩ s a = false → ∀ j ∈ pre ++ [x], NotK l s a j) := Lib.hid (fun e j hj => by
      rcases List.mem_append.1 hj with hj | hj
      · exact HN.out j hj
      · rw [List.mem_singleton.1 hj]; exact HNX.out.2 e)
    by_cases h1 : s = us
    · by_cases h2 : a = ua
      · have HYY := Lib.hid (HYES.out (by unfold keyB; simp [h1, h2]))
        subst h1 h2
        clear HYES HNX HNO
        gi_wp2
        exact ⟨(KeepsOthers.setCell _ _ _).from _, ⟨HI.out.set true, by have := HZ.out; simpa using this⟩, rfl, HYY.out⟩
      · have HNN := Lib.hid (HNO.out (by unfold keyB; simp [h2]))
        subst h1
        clear HYES HNX HNO
        gi_wp2
        exact ⟨KeepsFrom.refl _ _, KpS.refl _ _ _ _ _, ⟨HI.out, HZ.out⟩, HNN.out⟩
    · have HNN := Lib.hid (HNO.out (by unfold keyB; simp [h1]))
      clear HYES HNX HNO
      gi_wp2
      exact ⟨KeepsFrom.refl _ _, KpS.refl _ _ _ _ _, ⟨HI.out, HZ.out⟩, HNN.out⟩
  case done =>
    rintro D ys W hD rfl ⟨⟨hI, hsz⟩, hnot⟩ hK
    have HI := Lib.hid hI
    have HK := Lib.hid hK
    have HDL := Lib.hid hD
    have HE : Hid (Ud.hasU l s a = false) := Lib.hid (hasU_no HSORT.out HR.out hnot)
    clear hI hsz hK hD hnot
    have kR := HI.out.hr.c
    have fR := HI.out.hr.f
    have lR := HI.out.hr.lt
    go_wp2_with fail
    have HS9 := Lib.hid (HI.out.set false)
    have HD9 := Lib.hid (Ud.dk_set (j := 0) (v := .bool false) HK.out HI.out.hr (by simp))
    have HF := Lib.hid (HS9.out.fin (D := D) (by have := HDL.out; have := HBS.out; omega) (.deferred none))
    have hc := HF.out.hr.c
    refine Ud.retM_mark (D := D) (v := .bool false) rfl HD9.out ?_ ?_
    · simp [results, Try.results40, go_sem, hc]
    · rw [HE.out]
      exact ⟨rfl, HF.out.hb⟩
  case stop =>
    rintro D cd pre W hD ⟨k, hk, hp⟩ h hK
    obtain ⟨⟨hI, hsz⟩, rfl, hE⟩ := h
    have HE := Lib.hid hE
    have HI := Lib.hid hI
    have HK := Lib.hid hK
    have HDL := Lib.hid hD
    clear hI hsz hK hD hE
    refine wpIn_ret ?_
    have HF := Lib.hid (HI.out.fin (D := D) (by have := HDL.out; have := HBS.out; omega) (.deferred none))
    have hc := HF.out.hr.c
    refine Ud.retM_mark (D := D) (v := .bool true) rfl HK.out ?_ ?_
    · simp [results, Try.results40, go_sem, hc]
    · rw [HE.out]
      exact ⟨rfl, HF.out.hb⟩
end Go.Proofs.Ytflakmabciokbaa
/- Whether a store's list is as a log's, by the program; no condition but that it reads, and may be so large. -/
namespace Go.Proofs.Ytflakmabciokbaa
set_option linter.unusedVariables false
open Go.ChangeShapes Go.WideShapes Go.ChangeAt Go.RowKit

def ListedP (m : Nat) (s : Int) (l : List Ud.Un) : Prop := (∀ u ∈ l, Ud.FitU m s u) ∧ (l.Pairwise fun x y => x.span ≤ y.span) ∧ l.Pairwise Ud.ApartU
instance (m : Nat) (s : Int) (l : List Ud.Un) : Decidable (ListedP m s l) := by unfold ListedP; infer_instance
def aheadL (l : List Ud.Un) (k : Nat) : Int := if k = 0 then 0 else (l.getD (k - 1) Ud.zU).span
theorem take_snoc {l : List Ud.Un} {k : Nat} (hk : k < l.length) : l.take (k + 1) = l.take k ++ [l.getD k Ud.zU] := Ud.take_getD l Ud.zU k hk
theorem listed_part {m : Nat} {s : Int} {l : List Ud.Un} (h : ListedP m s l) (k : Nat) : ListedP m s (l.take k) :=
  ⟨fun u hu => h.1 u (List.mem_of_mem_take hu), h.2.1.sublist (List.take_sublist _ _), h.2.2.sublist (List.take_sublist _ _)⟩
theorem ahead_le {l : List Ud.Un} {k : Nat} (hk : k ≤ l.length) (h : (l.take k).Pairwise fun x y => x.span ≤ y.span) : ∀ x ∈ l.take k, x.span ≤ aheadL l k := by
  intro x hx
  have h0 : 0 < k := by
    rcases Nat.eq_zero_or_pos k with e | e
    · subst e; simp at hx
    · exact e
  unfold aheadL
  rw [if_neg (by omega)]
  obtain ⟨k', rfl⟩ : ∃ k', k = k' + 1 := ⟨k - 1, by omega⟩
  rw [take_snoc (by omega)] at h hx
  rw [show k' + 1 - 1 = k' by omega]
  rcases List.mem_append.1 hx with hx | hx
  · exact (List.pairwise_append.1 h).2.2 x hx _ (List.mem_singleton.2 rfl)
  · rw [List.mem_singleton.1 hx]; exact Int.le_refl _
theorem hasU_take {l : List Ud.Un} {s a : Int} : Ud.hasU l s a = true ↔ ∃ u ∈ l, u.span = s ∧ u.at_ = a := by
  unfold Ud.hasU
  rw [List.any_eq_true]
  constructor
  · rintro ⟨u, hu, hc⟩; exact ⟨u, hu, of_decide_eq_true hc⟩
  · rintro ⟨u, hu, hc⟩; exact ⟨u, hu, decide_eq_true hc⟩
theorem listed_step {m : Nat} {s : Int} {l : List Ud.Un} {k : Nat} (hk : k < l.length) (h : ListedP m s (l.take k)) {us ua uv : Int} (hu : l.getD k Ud.zU = ⟨us, ua, uv⟩) (h1 : ¬ us < aheadL l k) (h2 : ¬ s < us) (h3 : 0 ≤ ua ∧ ua ≤ (m : Int) - 1) (h4 : Ud.hasU (l.take k) us ua = false) : ListedP m s (l.take (k + 1)) := by
  have ha := ahead_le (Nat.le_of_lt hk) h.2.1
  have h0 : 0 ≤ aheadL l k := by
    unfold aheadL
    by_cases e : k = 0
    · rw [if_pos e]; exact Int.le_refl _
    · rw [if_neg e]
      refine (h.1 (l.getD (k - 1) Ud.zU) ?_).1.1
      have : (l.take k).getD (k - 1) Ud.zU = l.getD (k - 1) Ud.zU := by rw [List.getD_eq_getElem?_getD, List.getElem?_take_of_lt (by omega), ← List.getD_eq_getElem?_getD]
      rw [← this]
      exact Ud.mem_getD _ _ _ (by rw [List.length_take]; omega)
  rw [take_snoc hk, hu]
  refine ⟨fun u hu => ?_, List.pairwise_append.2 ⟨h.2.1, List.pairwise_singleton _ _, fun x hx y hy => ?_⟩, List.pairwise_append.2 ⟨h.2.2, List.pairwise_singleton _ _, fun x hx y hy => ?_⟩⟩
  · rcases List.mem_append.1 hu with hu | hu
    · exact h.1 u hu
    · rw [List.mem_singleton.1 hu]
      unfold Ud.FitU
      dsimp only
      omega
  · rw [List.mem_singleton.1 hy]
    have := ha x hx
    dsimp only
    omega
  · rw [List.mem_singleton.1 hy]
    intro e
    have : Ud.hasU (l.take k) us ua = true := hasU_take.2 ⟨x, hx, e⟩
    rw [h4] at this; cases this
theorem listed_no {m : Nat} {s : Int} {l : List Ud.Un} {k : Nat} (hk : k < l.length) {us ua uv : Int} (hu : l.getD k Ud.zU = ⟨us, ua, uv⟩) (h : us < aheadL l k ∨ s < us ∨ ¬ (0 ≤ ua ∧ ua ≤ (m : Int) - 1) ∨ Ud.hasU (l.take k) us ua = true) : ¬ ListedP m s l := by
  intro hl
  have h5 := listed_part hl (k + 1)
  rw [take_snoc hk, hu] at h5
  have hf := h5.1 ⟨us, ua, uv⟩ (List.mem_append_right _ (List.mem_singleton.2 rfl))
  unfold Ud.FitU at hf
  dsimp only at hf
  rcases h with h | h | h | h
  · unfold aheadL at h
    by_cases e : k = 0
    · rw [if_pos e] at h; omega
    · rw [if_neg e] at h
      have hm : l.getD (k - 1) Ud.zU ∈ l.take k := by
        have : (l.take k).getD (k - 1) Ud.zU = l.getD (k - 1) Ud.zU := by rw [List.getD_eq_getElem?_getD, List.getElem?_take_of_lt (by omega), ← List.getD_eq_getElem?_getD]
        rw [← this]
        exact Ud.mem_getD _ _ _ (by rw [List.length_take]; omega)
      have := (List.pairwise_append.1 h5.2.1).2.2 _ hm _ (List.mem_singleton.2 rfl)
      dsimp only at this
      omega
  · omega
  · omega
  · obtain ⟨x, hx, e⟩ := hasU_take.1 h
    exact (List.pairwise_append.1 h5.2.2).2.2 x hx _ (List.mem_singleton.2 rfl) e
theorem sl_takeU {w : World} {q : Option Addr} {n : Nat} {l : List Ud.Un} (h : Sl w q n (Ud.unC l)) (hl : l.length = n) {k : Nat} (hk : k ≤ n) : Sl w q k (Ud.unC (l.take k)) := fun h0 => by
  obtain ⟨b, off, h1, h2, h3⟩ := h (by omega)
  refine ⟨b, off, h1, h2, fun j hj => ?_⟩
  rw [Ud.unC_len, List.length_take] at hj
  rw [h3 j (by rw [Ud.unC_len]; omega), Ud.unC_take, List.getElem?_take_of_lt (by omega)]
theorem size66 (W : World) : (sizeOf (Try.prog.elem 26)).run Try.prog W = .ok 3 W := Ud.size51 W
theorem cut_hi (q : Option Addr) (n d k : Nat) (hk : k ≤ n) (hd : n ≤ d) : ∀ W, (Instr.slice 26 (.slice q n d) none (some (.int .i64 (k : Int))) none).run Try.prog W = .ok (.slice q k d) W := fun W => by
  have he : Try.prog.underlying 26 = some (.slice (Try.prog.elem 26)) := by kernel_rfl
  have h1 : (k : Int) ≤ (d : Int) := by omega
  simp [Instr.slice, run_underlying he, Instr.sliceBounds, run_sliceBound, sliced, size66, h1, Result.andThen]
  try (cases q with
  | none => intros; rfl
  | some A => intros; simp [Addr.add])

set_option maxHeartbeats 8000000 in
theorem listed_any (S : Nat → Prop) (v : Value) (V : Vt) (n0 : Nat) (hn0 : V.words = (n0 : Int)) (h1 : 1 ≤ n0) (h64 : n0 ≤ 64) (w : World) (h : Vo S w v V) :
    Calls Try.prog 61 #[v] w fun e w' => e = .returned (.bool (decide (ListedP n0 V.span V.list))) ∧ Below w.heap.size w w' := by
  obtain ⟨p, n, c, xs, pp, m, cc, q, k, d, rfl, hc, -⟩ := h
  have HKD := hc.kd
  have HK10 := hc.k10
  have HLL : Hid (V.list.length = k) := Lib.hid hc.ll
  have HLS := Lib.hid hc.ls
  obtain ⟨lo, hlo⟩ : ∃ z, z = V.B.lost := ⟨_, rfl⟩
  obtain ⟨sp, hsp⟩ : ∃ z, z = V.span := ⟨_, rfl⟩
  obtain ⟨l, hl⟩ : ∃ z, z = V.list := ⟨_, rfl⟩
  rw [← hl] at HLL HLS
  rw [← hlo, ← hsp, ← hl, hn0]
  obtain ⟨N, hN⟩ : ∃ z, z = k := ⟨_, rfl⟩
  rw [← hN] at HLL HLS HKD HK10 ⊢
  clear hlo hsp hl hn0 hc hN
  obtain ⟨w0, hw0⟩ : ∃ w0, w0 = w.alloc (.cells #[.slice p n c, .slice pp m cc, .int .i64 lo, .int .i64 n0, .int .i64 sp, .slice q N d] 28) := ⟨_, rfl⟩
  have HA0 : Hid (Blk w0 w.heap.size #[.slice p n c, .slice pp m cc, .int .i64 lo, .int .i64 n0, .int .i64 sp, .slice q N d]) := Lib.hid (by rw [hw0]; exact Blk.new _ _ _)
  have HB0 : Hid (Below w.heap.size w w0) := Lib.hid (by rw [hw0]; exact (Below.refl _ _).alloc (Nat.le_refl _) _)
  have HW0 := Lib.hid hw0
  clear hw0
  go_enter Try.func61, Try.ntmps61
  have kA := HA0.out.c
  go_upto_region 1 with fail
  rw [← HW0.out]
  clear HW0
  go_wp2_with fail
  clear kA
  go_loopw [3, 9] (fun s3 s9 wr => ∃ k : Nat, k ≤ N ∧ s9 = .int .i64 k ∧ s3 = .int .i64 (aheadL l k) ∧ ListedP n0 sp (l.take k) ∧ Below w0.heap.size w0 wr) (fun _ s9 _ => N - (intOf s9).toNat)
  case atStart => exact ⟨0, Nat.zero_le _, rfl, rfl, by rw [List.take_zero]; exact ⟨fun u hu => (by cases hu), .nil, .nil⟩, Below.refl _ _⟩
  case round =>
    obtain ⟨k, hk, rfl, rfl, hli, hb⟩ := hrel
    have HLI := Lib.hid hli
    have HB := Lib.hid hb
    clear hli hb
    obtain ⟨ah, hah⟩ : ∃ z, z = aheadL l k := ⟨_, rfl⟩
    have HAH := Lib.hid hah
    rw [← hah]
    clear hah
    by_cases hlt : k < N
    · have hltI : decide ((k : Int) < (N : Int)) = true := decide_eq_true (by omega)
      have hkl : k < l.length := by rw [HLL.out]; exact hlt
      obtain ⟨b, off, rfl, hat⟩ := Ud.un_at (by rw [HLL.out]; exact HLS.out) k hkl
      obtain ⟨l0, c0, c1, c2⟩ := hat
      have HLS2 := Lib.hid (sl_takeU HLS.out HLL.out hk)
      have hbx : b < w.heap.size := l0
      obtain ⟨u, hu⟩ : ∃ u, u = l.getD k Ud.zU := ⟨_, rfl⟩
      rw [← hu] at c0 c1 c2
      obtain ⟨us, ua, uv⟩ := u
      have HU := Lib.hid hu.symm
      have HNO : Hid ((us < ah ∨ sp < us ∨ ¬ (0 ≤ ua ∧ ua ≤ (n0 : Int) - 1) ∨ Ud.hasU (l.take k) us ua = true) → decide (ListedP n0 sp l) = false) := Lib.hid (fun h => decide_eq_false (listed_no hkl hu.symm (by rw [← HAH.out]; exact h)))
      have HYES : Hid (¬ us < ah → ¬ sp < us → (0 ≤ ua ∧ ua ≤ (n0 : Int) - 1) → Ud.hasU (l.take k) us ua = false → ListedP n0 sp (l.take (k + 1))) := Lib.hid (fun e1 e2 e3 e4 => listed_step hkl HLI.out hu.symm (by rw [← HAH.out]; exact e1) e2 e3 e4)
      have HNX : Hid (aheadL l (k + 1) = us) := Lib.hid (by unfold aheadL; rw [if_neg (by omega), show k + 1 - 1 = k by omega, ← hu])
      dsimp only at c0 c1 c2
      have hbw := HB0.out.trans (HB.out.mono HB0.out.size)
      have d0 := (hbw.cell (p := ⟨b, _, none⟩) hbx).trans c0
      have d1 := (hbw.cell (p := ⟨b, _, none⟩) hbx).trans c1
      have d2 := (hbw.cell (p := ⟨b, _, none⟩) hbx).trans c2
      have hsz : w0.heap.size ≤ wr.heap.size := HB.out.size
      have HKE : Hid (∀ W, Below w.heap.size w W → Calls Try.prog 40 #[.slice (some ⟨b, off, none⟩) k d, .agg #[.int .i64 us, .int .i64 ua]] W fun e w' => e = .returned (.bool (Ud.hasU (l.take k) us ua)) ∧ Below W.heap.size W w') := Lib.hid (fun W hW => kept_any _ k d (l.take k) us ua W (by rw [List.length_take]; omega) (HLS2.out.below hW) (by omega) HLI.out.2.1)
      have HUP : Hid (∀ W, Calls Try.prog 59 #[.int .i64 ua, .int .i64 ((n0 : Int) - 1)] W fun e w' => e = .returned (.bool (upV ua ((n0 : Int) - 1))) ∧ W = w') := Lib.hid (fun W => supTo_any _ _ W)
      have hcut := cut_hi (some ⟨b, off, none⟩) N d k hk HKD
      clear hu c0 c1 c2 l0 hbx hbw HLS2
      have kA := (HA0.out.below HB.out).c
      go_upto_region 5 with fail
      obtain ⟨w2, hw2⟩ : ∃ z, z = wr.alloc (.cells #[.int .i64 us, .int .i64 ua, .int .u32 uv] 66) := ⟨_, rfl⟩
      have HB2 : Hid (Below w0.heap.size w0 w2) := Lib.hid (by rw [hw2]; exact HB.out.alloc hsz _)
      have HX2 : Hid (Blk w2 wr.heap.size #[.int .i64 us, .int .i64 ua, .int .u32 uv]) := Lib.hid (by rw [hw2]; exact Blk.new _ _ _)
      rw [← hw2]
      clear hw2 d0 d1 d2 kA
      have f1 : wrap64 ((n0 : Int) - 1) = (n0 : Int) - 1 := by unfold wrap64; omega
      have f2 : IntKind.i64.wrap ((n0 : Int) - 1) = (n0 : Int) - 1 := by rw [IntKind.wrap_i64]; omega
      have HS : Hid (∀ W, Below w2.heap.size w2 W → (∀ t, W.cell? ⟨w.heap.size, t, none⟩ = (#[.slice p n c, .slice pp m cc, .int .i64 lo, .int .i64 n0, .int .i64 sp, .slice (some ⟨b, off, none⟩) N d] : Array Value)[t]?) ∧ ∀ t, W.cell? ⟨wr.heap.size, t, none⟩ = (#[.int .i64 us, .int .i64 ua, .int .u32 uv] : Array Value)[t]?) := Lib.hid (fun W hb => ⟨fun t => (((HA0.out.below HB2.out).below hb).c t), fun t => ((HX2.out.below hb).c t)⟩)
      have HEND : Hid (Below w.heap.size w w2) := Lib.hid (HB0.out.trans (HB2.out.mono HB0.out.size))
      clear HX2
      by_cases e1 : us < ah
      · have hN := Lib.hid (HNO.out (.inl e1))
        clear HNO HYES
        refine region_plan (fun V : World => (∀ t, V.cell? ⟨w.heap.size, t, none⟩ = (#[.slice p n c, .slice pp m cc, .int .i64 lo, .int .i64 n0, .int .i64 sp, .slice (some ⟨b, off, none⟩) N d] : Array Value)[t]?) ∧ ∀ t, V.cell? ⟨wr.heap.size, t, none⟩ = (#[.int .i64 us, .int .i64 ua, .int .u32 uv] : Array Value)[t]?) 31 [(0, true), (1, true), (2, true), (3, true), (4, true), (5, true), (6, true), (7, true), (8, true), (9, true), (10, true), (11, true), (12, true), (13, true), (14, true), (15, true), (16, true), (17, false), (18, true), (19, true), (20, true), (21, true), (22, true), (23, true), (24, true), (25, true), (26, true), (27, true), (28, true), (29, true), (30, false)] (by kernel_rfl) (by kernel_rfl) (HS.out _ (Below.refl _ _).drew) ?_
        iterate 5
          refine plan_read (v := ?_) rfl (by rfl) ?_ ?_
          rotate_left
          · intro w' hS
            try dsimp only at hS
            go_simp
            try with_reducible rfl
          try simp only [Act.put, List.setIfInBounds_toArray, List.set_cons_zero, List.set_cons_succ, List.getElem_toArray, List.getElem_cons_zero, List.getElem_cons_succ]
        refine plan_skip rfl (by rfl) ?_
        try simp only [Act.put, List.setIfInBounds_toArray, List.set_cons_zero, List.set_cons_succ, List.getElem_toArray, List.getElem_cons_zero, List.getElem_cons_succ]
        refine plan_skip rfl (by rfl) ?_
        try simp only [Act.put, List.setIfInBounds_toArray, List.set_cons_zero, List.set_cons_succ, List.getElem_toArray, List.getElem_cons_zero, List.getElem_cons_succ]
        refine plan_skip rfl (by rfl) ?_
        try simp only [Act.put, List.setIfInBounds_toArray, List.set_cons_zero, List.set_cons_succ, List.getElem_toArray, List.getElem_cons_zero, List.getElem_cons_succ]
        refine plan_skip rfl (by rfl) ?_
        try simp only [Act.put, List.setIfInBounds_toArray, List.set_cons_zero, List.set_cons_succ, List.getElem_toArray, List.getElem_cons_zero, List.getElem_cons_succ]
        refine plan_skip rfl (by rfl) ?_
        try simp only [Act.put, List.setIfInBounds_toArray, List.set_cons_zero, List.set_cons_succ, List.getElem_toArray, List.getElem_cons_zero, List.getElem_cons_succ]
        iterate 2
          refine plan_read (v := ?_) rfl (by rfl) ?_ ?_
          rotate_left
          · intro w' hS
            try dsimp only at hS
            go_simp
            try with_reducible rfl
          try simp only [Act.put, List.setIfInBounds_toArray, List.set_cons_zero, List.set_cons_succ, List.getElem_toArray, List.getElem_cons_zero, List.getElem_cons_succ]
        refine plan_skip rfl (by rfl) ?_
        try simp only [Act.put, List.setIfInBounds_toArray, List.set_cons_zero, List.set_cons_succ, List.getElem_toArray, List.getElem_cons_zero, List.getElem_cons_succ]
        refine plan_skip rfl (by rfl) ?_
        try simp only [Act.put, List.setIfInBounds_toArray, List.set_cons_zero, List.set_cons_succ, List.getElem_toArray, List.getElem_cons_zero, List.getElem_cons_succ]
        refine plan_skip rfl (by rfl) ?_
        try simp only [Act.put, List.setIfInBounds_toArray, List.set_cons_zero, List.set_cons_succ, List.getElem_toArray, List.getElem_cons_zero, List.getElem_cons_succ]
        refine plan_skip rfl (by rfl) ?_
        try simp only [Act.put, List.setIfInBounds_toArray, List.set_cons_zero, List.set_cons_succ, List.getElem_toArray, List.getElem_cons_zero, List.getElem_cons_succ]
        refine plan_skip rfl (by rfl) ?_
        try simp only [Act.put, List.setIfInBounds_toArray, List.set_cons_zero, List.set_cons_succ, List.getElem_toArray, List.getElem_cons_zero, List.getElem_cons_succ]
        refine plan_skipc rfl (by rfl) (HS.out _ (Below.refl _ _).drew) ?_
        try simp only [Act.put, List.setIfInBounds_toArray, List.set_cons_zero, List.set_cons_succ, List.getElem_toArray, List.getElem_cons_zero, List.getElem_cons_succ]
        refine plan_skip rfl (by rfl) ?_
        try simp only [Act.put, List.setIfInBounds_toArray, List.set_cons_zero, List.set_cons_succ, List.getElem_toArray, List.getElem_cons_zero, List.getElem_cons_succ]
        iterate 2
          refine plan_read (v := ?_) rfl (by rfl) ?_ ?_
          rotate_left
          · intro w' hS
            try dsimp only at hS
            go_simp
            try with_reducible rfl
          try simp only [Act.put, List.setIfInBounds_toArray, List.set_cons_zero, List.set_cons_succ, List.getElem_toArray, List.getElem_cons_zero, List.getElem_cons_succ]
        refine plan_skip rfl (by rfl) ?_
        try simp only [Act.put, List.setIfInBounds_toArray, List.set_cons_zero, List.set_cons_succ, List.getElem_toArray, List.getElem_cons_zero, List.getElem_cons_succ]
        refine plan_skip rfl (by rfl) ?_
        try simp only [Act.put, List.setIfInBounds_toArray, List.set_cons_zero, List.set_cons_succ, List.getElem_toArray, List.getElem_cons_zero, List.getElem_cons_succ]
        refine plan_skip rfl (by rfl) ?_
        try simp only [Act.put, List.setIfInBounds_toArray, List.set_cons_zero, List.set_cons_succ, List.getElem_toArray, List.getElem_cons_zero, List.getElem_cons_succ]
        refine plan_skip rfl (by rfl) ?_
        try simp only [Act.put, List.setIfInBounds_toArray, List.set_cons_zero, List.set_cons_succ, List.getElem_toArray, List.getElem_cons_zero, List.getElem_cons_succ]
        refine plan_skip rfl (by rfl) ?_
        try simp only [Act.put, List.setIfInBounds_toArray, List.set_cons_zero, List.set_cons_succ, List.getElem_toArray, List.getElem_cons_zero, List.getElem_cons_succ]
        refine plan_skip rfl (by rfl) ?_
        try simp only [Act.put, List.setIfInBounds_toArray, List.set_cons_zero, List.set_cons_succ, List.getElem_toArray, List.getElem_cons_zero, List.getElem_cons_succ]
        refine plan_skip rfl (by rfl) ?_
        try simp only [Act.put, List.setIfInBounds_toArray, List.set_cons_zero, List.set_cons_succ, List.getElem_toArray, List.getElem_cons_zero, List.getElem_cons_succ]
        refine plan_skip rfl (by rfl) ?_
        try simp only [Act.put, List.setIfInBounds_toArray, List.set_cons_zero, List.set_cons_succ, List.getElem_toArray, List.getElem_cons_zero, List.getElem_cons_succ]
        refine plan_skip rfl (by rfl) ?_
        try simp only [Act.put, List.setIfInBounds_toArray, List.set_cons_zero, List.set_cons_succ, List.getElem_toArray, List.getElem_cons_zero, List.getElem_cons_succ]
        refine plan_skipc rfl (by rfl) (HS.out _ (Below.refl _ _).drew) ?_
        try simp only [Act.put, List.setIfInBounds_toArray, List.set_cons_zero, List.set_cons_succ, List.getElem_toArray, List.getElem_cons_zero, List.getElem_cons_succ]
        refine plan_nil ?_
        simp only [List.drop_succ_cons, List.drop_zero]
        go_wp2_with fail
        go_ret
        exact ⟨by rw [hN.out]; rfl, HEND.out.drew⟩
      · by_cases e2 : sp < us
        · have hN := Lib.hid (HNO.out (.inr (.inl e2)))
          clear HNO HYES
          refine region_plan (fun V : World => (∀ t, V.cell? ⟨w.heap.size, t, none⟩ = (#[.slice p n c, .slice pp m cc, .int .i64 lo, .int .i64 n0, .int .i64 sp, .slice (some ⟨b, off, none⟩) N d] : Array Value)[t]?) ∧ ∀ t, V.cell? ⟨wr.heap.size, t, none⟩ = (#[.int .i64 us, .int .i64 ua, .int .u32 uv] : Array Value)[t]?) 31 [(0, true), (1, true), (2, true), (3, true), (4, true), (5, true), (6, true), (7, true), (8, true), (9, true), (10, true), (11, true), (12, true), (13, true), (14, true), (15, true), (16, true), (17, false), (18, true), (19, true), (20, true), (21, true), (22, true), (23, true), (24, true), (25, true), (26, true), (27, true), (28, true), (29, true), (30, false)] (by kernel_rfl) (by kernel_rfl) (HS.out _ (Below.refl _ _).drew) ?_
          iterate 12
            refine plan_read (v := ?_) rfl (by rfl) ?_ ?_
            rotate_left
            · intro w' hS
              try dsimp only at hS
              go_simp
              try with_reducible rfl
            try simp only [Act.put, List.setIfInBounds_toArray, List.set_cons_zero, List.set_cons_succ, List.getElem_toArray, List.getElem_cons_zero, List.getElem_cons_succ]
          refine plan_skip rfl (by rfl) ?_
          try simp only [Act.put, List.setIfInBounds_toArray, List.set_cons_zero, List.set_cons_succ, List.getElem_toArray, List.getElem_cons_zero, List.getElem_cons_succ]
          refine plan_skip rfl (by rfl) ?_
          try simp only [Act.put, List.setIfInBounds_toArray, List.set_cons_zero, List.set_cons_succ, List.getElem_toArray, List.getElem_cons_zero, List.getElem_cons_succ]
          refine plan_skip rfl (by rfl) ?_
          try simp only [Act.put, List.setIfInBounds_toArray, List.set_cons_zero, List.set_cons_succ, List.getElem_toArray, List.getElem_cons_zero, List.getElem_cons_succ]
          refine plan_skip rfl (by rfl) ?_
          try simp only [Act.put, List.setIfInBounds_toArray, List.set_cons_zero, List.set_cons_succ, List.getElem_toArray, List.getElem_cons_zero, List.getElem_cons_succ]
          refine plan_skip rfl (by rfl) ?_
          try simp only [Act.put, List.setIfInBounds_toArray, List.set_cons_zero, List.set_cons_succ, List.getElem_toArray, List.getElem_cons_zero, List.getElem_cons_succ]
          refine plan_skipc rfl (by rfl) (HS.out _ (Below.refl _ _).drew) ?_
          try simp only [Act.put, List.setIfInBounds_toArray, List.set_cons_zero, List.set_cons_succ, List.getElem_toArray, List.getElem_cons_zero, List.getElem_cons_succ]
          refine plan_skip rfl (by rfl) ?_
          try simp only [Act.put, List.setIfInBounds_toArray, List.set_cons_zero, List.set_cons_succ, List.getElem_toArray, List.getElem_cons_zero, List.getElem_cons_succ]
          iterate 2
            refine plan_read (v := ?_) rfl (by rfl) ?_ ?_
            rotate_left
            · intro w' hS
              try dsimp only at hS
              go_simp
              try with_reducible rfl
            try simp only [Act.put, List.setIfInBounds_toArray, List.set_cons_zero, List.set_cons_succ, List.getElem_toArray, List.getElem_cons_zero, List.getElem_cons_succ]
          refine plan_skip rfl (by rfl) ?_
          try simp only [Act.put, List.setIfInBounds_toArray, List.set_cons_zero, List.set_cons_succ, List.getElem_toArray, List.getElem_cons_zero, List.getElem_cons_succ]
          refine plan_skip rfl (by rfl) ?_
          try simp only [Act.put, List.setIfInBounds_toArray, List.set_cons_zero, List.set_cons_succ, List.getElem_toArray, List.getElem_cons_zero, List.getElem_cons_succ]
          refine plan_skip rfl (by rfl) ?_
          try simp only [Act.put, List.setIfInBounds_toArray, List.set_cons_zero, List.set_cons_succ, List.getElem_toArray, List.getElem_cons_zero, List.getElem_cons_succ]
          refine plan_skip rfl (by rfl) ?_
          try simp only [Act.put, List.setIfInBounds_toArray, List.set_cons_zero, List.set_cons_succ, List.getElem_toArray, List.getElem_cons_zero, List.getElem_cons_succ]
          refine plan_skip rfl (by rfl) ?_
          try simp only [Act.put, List.setIfInBounds_toArray, List.set_cons_zero, List.set_cons_succ, List.getElem_toArray, List.getElem_cons_zero, List.getElem_cons_succ]
          refine plan_skip rfl (by rfl) ?_
          try simp only [Act.put, List.setIfInBounds_toArray, List.set_cons_zero, List.set_cons_succ, List.getElem_toArray, List.getElem_cons_zero, List.getElem_cons_succ]
          refine plan_skip rfl (by rfl) ?_
          try simp only [Act.put, List.setIfInBounds_toArray, List.set_cons_zero, List.set_cons_succ, List.getElem_toArray, List.getElem_cons_zero, List.getElem_cons_succ]
          refine plan_skip rfl (by rfl) ?_
          try simp only [Act.put, List.setIfInBounds_toArray, List.set_cons_zero, List.set_cons_succ, List.getElem_toArray, List.getElem_cons_zero, List.getElem_cons_succ]
          refine plan_skip rfl (by rfl) ?_
          try simp only [Act.put, List.setIfInBounds_toArray, List.set_cons_zero, List.set_cons_succ, List.getElem_toArray, List.getElem_cons_zero, List.getElem_cons_succ]
          refine plan_skipc rfl (by rfl) (HS.out _ (Below.refl _ _).drew) ?_
          try simp only [Act.put, List.setIfInBounds_toArray, List.set_cons_zero, List.set_cons_succ, List.getElem_toArray, List.getElem_cons_zero, List.getElem_cons_succ]
          refine plan_nil ?_
          simp only [List.drop_succ_cons, List.drop_zero]
          go_wp2_with fail
          go_ret
          exact ⟨by rw [hN.out]; rfl, HEND.out.drew⟩
        · by_cases e3 : 0 ≤ ua ∧ ua ≤ (n0 : Int) - 1
          · have eu : upV ua ((n0 : Int) - 1) = true := by rw [upV_iff]; exact decide_eq_true e3
            rw [eu] at HUP
            have hdom : ∀ b : Bool, b = true ∨ b = false := fun b => by cases b <;> simp
            rcases hdom (Ud.hasU (l.take k) us ua) with e4 | e4
            · have hN := Lib.hid (HNO.out (.inr (.inr (.inr e4))))
              rw [e4] at HKE
              clear HNO HYES e4 eu e3 hdom
              refine region_plan (fun V : World => (∀ t, V.cell? ⟨w.heap.size, t, none⟩ = (#[.slice p n c, .slice pp m cc, .int .i64 lo, .int .i64 n0, .int .i64 sp, .slice (some ⟨b, off, none⟩) N d] : Array Value)[t]?) ∧ ∀ t, V.cell? ⟨wr.heap.size, t, none⟩ = (#[.int .i64 us, .int .i64 ua, .int .u32 uv] : Array Value)[t]?) 31 [(0, true), (1, true), (2, true), (3, true), (4, true), (5, true), (6, true), (7, true), (8, true), (9, true), (10, true), (11, true), (12, true), (13, true), (14, true), (15, true), (16, true), (17, false), (18, true), (19, true), (20, true), (21, true), (22, true), (23, true), (24, true), (25, true), (26, true), (27, true), (28, true), (29, true), (30, false)] (by kernel_rfl) (by kernel_rfl) (HS.out _ (Below.refl _ _).drew) ?_
              iterate 17
                refine plan_read (v := ?_) rfl (by rfl) ?_ ?_
                rotate_left
                · intro w' hS
                  try dsimp only at hS
                  go_simp
                  try with_reducible rfl
                try simp only [Act.put, List.setIfInBounds_toArray, List.set_cons_zero, List.set_cons_succ, List.getElem_toArray, List.getElem_cons_zero, List.getElem_cons_succ]
              refine plan_call (F := 59) (args := ?_) rfl (by rfl) ?_ ?_
              rotate_left
              · go_simp
                rfl
              refine (HUP.out w2.drew).mono ?_
              rintro e w3 ⟨rfl, rfl⟩
              refine ⟨_, rfl, HS.out _ (Below.refl _ _).drew, ?_⟩
              try simp only [Act.put, List.setIfInBounds_toArray, List.set_cons_zero, List.set_cons_succ, List.getElem_toArray, List.getElem_cons_zero, List.getElem_cons_succ]
              iterate 12
                refine plan_read (v := ?_) rfl (by rfl) ?_ ?_
                rotate_left
                · intro w' hS
                  try dsimp only at hS
                  go_simp
                  try with_reducible rfl
                try simp only [Act.put, List.setIfInBounds_toArray, List.set_cons_zero, List.set_cons_succ, List.getElem_toArray, List.getElem_cons_zero, List.getElem_cons_succ]
              refine plan_call (F := 40) (args := ?_) rfl (by rfl) ?_ ?_
              rotate_left
              · go_simp
                rfl
              refine (HKE.out w2.drew (HB0.out.trans ((HB2.out.drew).mono HB0.out.size))).mono ?_
              rintro e w4 ⟨rfl, hb⟩
              have HB4 : Hid (Below w2.heap.size w2 w4) := Lib.hid ((Below.refl _ _).drew.trans hb)
              clear hb
              refine ⟨_, rfl, HS.out _ HB4.out, ?_⟩
              try simp only [Act.put, List.setIfInBounds_toArray, List.set_cons_zero, List.set_cons_succ, List.getElem_toArray, List.getElem_cons_zero, List.getElem_cons_succ]
              refine plan_nil ?_
              simp only [List.drop_succ_cons, List.drop_zero]
              go_wp2_with fail
              go_ret
              exact ⟨by rw [hN.out]; rfl, HEND.out.trans (HB4.out.mono HEND.out.size)⟩
            · have hN := Lib.hid (HYES.out e1 e2 e3 e4)
              rw [e4] at HKE
              clear HNO HYES e4 eu e3 hdom
              refine region_plan (fun V : World => (∀ t, V.cell? ⟨w.heap.size, t, none⟩ = (#[.slice p n c, .slice pp m cc, .int .i64 lo, .int .i64 n0, .int .i64 sp, .slice (some ⟨b, off, none⟩) N d] : Array Value)[t]?) ∧ ∀ t, V.cell? ⟨wr.heap.size, t, none⟩ = (#[.int .i64 us, .int .i64 ua, .int .u32 uv] : Array Value)[t]?) 31 [(0, true), (1, true), (2, true), (3, true), (4, true), (5, true), (6, true), (7, true), (8, true), (9, true), (10, true), (11, true), (12, true), (13, true), (14, true), (15, true), (16, true), (17, false), (18, true), (19, true), (20, true), (21, true), (22, true), (23, true), (24, true), (25, true), (26, true), (27, true), (28, true), (29, true), (30, false)] (by kernel_rfl) (by kernel_rfl) (HS.out _ (Below.refl _ _).drew) ?_
              iterate 17
                refine plan_read (v := ?_) rfl (by rfl) ?_ ?_
                rotate_left
                · intro w' hS
                  try dsimp only at hS
                  go_simp
                  try with_reducible rfl
                try simp only [Act.put, List.setIfInBounds_toArray, List.set_cons_zero, List.set_cons_succ, List.getElem_toArray, List.getElem_cons_zero, List.getElem_cons_succ]
              refine plan_call (F := 59) (args := ?_) rfl (by rfl) ?_ ?_
              rotate_left
              · go_simp
                rfl
              refine (HUP.out w2.drew).mono ?_
              rintro e w3 ⟨rfl, rfl⟩
              refine ⟨_, rfl, HS.out _ (Below.refl _ _).drew, ?_⟩
              try simp only [Act.put, List.setIfInBounds_toArray, List.set_cons_zero, List.set_cons_succ, List.getElem_toArray, List.getElem_cons_zero, List.getElem_cons_succ]
              iterate 12
                refine plan_read (v := ?_) rfl (by rfl) ?_ ?_
                rotate_left
                · intro w' hS
                  try dsimp only at hS
                  go_simp
                  try with_reducible rfl
                try simp only [Act.put, List.setIfInBounds_toArray, List.set_cons_zero, List.set_cons_succ, List.getElem_toArray, List.getElem_cons_zero, List.getElem_cons_succ]
              refine plan_call (F := 40) (args := ?_) rfl (by rfl) ?_ ?_
              rotate_left
              · go_simp
                rfl
              refine (HKE.out w2.drew (HB0.out.trans ((HB2.out.drew).mono HB0.out.size))).mono ?_
              rintro e w4 ⟨rfl, hb⟩
              have HB4 : Hid (Below w2.heap.size w2 w4) := Lib.hid ((Below.refl _ _).drew.trans hb)
              clear hb
              refine ⟨_, rfl, HS.out _ HB4.out, ?_⟩
              try simp only [Act.put, List.setIfInBounds_toArray, List.set_cons_zero, List.set_cons_succ, List.getElem_toArray, List.getElem_cons_zero, List.getElem_cons_succ]
              refine plan_nil ?_
              simp only [List.drop_succ_cons, List.drop_zero]
              have hx4 := (HS.out w4 HB4.out).2
              go_wp2_with fail
              go_roundw
              case rel => exact ⟨k + 1, by omega, by go_num, by rw [HNX.out], hN.out, HB2.out.trans (HB4.out.mono HB2.out.size)⟩
              case measure => simp [intOf]; omega
          · have hN := Lib.hid (HNO.out (.inr (.inr (.inl e3))))
            have eu : upV ua ((n0 : Int) - 1) = false := by rw [upV_iff]; exact decide_eq_false e3
            rw [eu] at HUP
            clear HNO HYES e3 eu
            refine region_plan (fun V : World => (∀ t, V.cell? ⟨w.heap.size, t, none⟩ = (#[.slice p n c, .slice pp m cc, .int .i64 lo, .int .i64 n0, .int .i64 sp, .slice (some ⟨b, off, none⟩) N d] : Array Value)[t]?) ∧ ∀ t, V.cell? ⟨wr.heap.size, t, none⟩ = (#[.int .i64 us, .int .i64 ua, .int .u32 uv] : Array Value)[t]?) 31 [(0, true), (1, true), (2, true), (3, true), (4, true), (5, true), (6, true), (7, true), (8, true), (9, true), (10, true), (11, true), (12, true), (13, true), (14, true), (15, true), (16, true), (17, false), (18, true), (19, true), (20, true), (21, true), (22, true), (23, true), (24, true), (25, true), (26, true), (27, true), (28, true), (29, true), (30, false)] (by kernel_rfl) (by kernel_rfl) (HS.out _ (Below.refl _ _).drew) ?_
            iterate 17
              refine plan_read (v := ?_) rfl (by rfl) ?_ ?_
              rotate_left
              · intro w' hS
                try dsimp only at hS
                go_simp
                try with_reducible rfl
              try simp only [Act.put, List.setIfInBounds_toArray, List.set_cons_zero, List.set_cons_succ, List.getElem_toArray, List.getElem_cons_zero, List.getElem_cons_succ]
            refine plan_call (F := 59) (args := ?_) rfl (by rfl) ?_ ?_
            rotate_left
            · go_simp
              rfl
            refine (HUP.out w2.drew).mono ?_
            rintro e w3 ⟨rfl, rfl⟩
            refine ⟨_, rfl, HS.out _ (Below.refl _ _).drew, ?_⟩
            try simp only [Act.put, List.setIfInBounds_toArray, List.set_cons_zero, List.set_cons_succ, List.getElem_toArray, List.getElem_cons_zero, List.getElem_cons_succ]
            iterate 3
              refine plan_read (v := ?_) rfl (by rfl) ?_ ?_
              rotate_left
              · intro w' hS
                try dsimp only at hS
                go_simp
                try with_reducible rfl
              try simp only [Act.put, List.setIfInBounds_toArray, List.set_cons_zero, List.set_cons_succ, List.getElem_toArray, List.getElem_cons_zero, List.getElem_cons_succ]
            refine plan_skip rfl (by rfl) ?_
            try simp only [Act.put, List.setIfInBounds_toArray, List.set_cons_zero, List.set_cons_succ, List.getElem_toArray, List.getElem_cons_zero, List.getElem_cons_succ]
            refine plan_skip rfl (by rfl) ?_
            try simp only [Act.put, List.setIfInBounds_toArray, List.set_cons_zero, List.set_cons_succ, List.getElem_toArray, List.getElem_cons_zero, List.getElem_cons_succ]
            refine plan_skip rfl (by rfl) ?_
            try simp only [Act.put, List.setIfInBounds_toArray, List.set_cons_zero, List.set_cons_succ, List.getElem_toArray, List.getElem_cons_zero, List.getElem_cons_succ]
            refine plan_skip rfl (by rfl) ?_
            try simp only [Act.put, List.setIfInBounds_toArray, List.set_cons_zero, List.set_cons_succ, List.getElem_toArray, List.getElem_cons_zero, List.getElem_cons_succ]
            refine plan_skip rfl (by rfl) ?_
            try simp only [Act.put, List.setIfInBounds_toArray, List.set_cons_zero, List.set_cons_succ, List.getElem_toArray, List.getElem_cons_zero, List.getElem_cons_succ]
            refine plan_skip rfl (by rfl) ?_
            try simp only [Act.put, List.setIfInBounds_toArray, List.set_cons_zero, List.set_cons_succ, List.getElem_toArray, List.getElem_cons_zero, List.getElem_cons_succ]
            refine plan_skip rfl (by rfl) ?_
            try simp only [Act.put, List.setIfInBounds_toArray, List.set_cons_zero, List.set_cons_succ, List.getElem_toArray, List.getElem_cons_zero, List.getElem_cons_succ]
            refine plan_skip rfl (by rfl) ?_
            try simp only [Act.put, List.setIfInBounds_toArray, List.set_cons_zero, List.set_cons_succ, List.getElem_toArray, List.getElem_cons_zero, List.getElem_cons_succ]
            refine plan_skip rfl (by rfl) ?_
            try simp only [Act.put, List.setIfInBounds_toArray, List.set_cons_zero, List.set_cons_succ, List.getElem_toArray, List.getElem_cons_zero, List.getElem_cons_succ]
            refine plan_skipc rfl (by rfl) (HS.out _ (Below.refl _ _).drew) ?_
            try simp only [Act.put, List.setIfInBounds_toArray, List.set_cons_zero, List.set_cons_succ, List.getElem_toArray, List.getElem_cons_zero, List.getElem_cons_succ]
            refine plan_nil ?_
            simp only [List.drop_succ_cons, List.drop_zero]
            go_wp2_with fail
            go_ret
            exact ⟨by rw [hN.out]; rfl, HEND.out.drew⟩
    · have hltI : decide ((k : Int) < (N : Int)) = false := decide_eq_false (by omega)
      have hN : Hid (decide (ListedP n0 sp l) = true) := Lib.hid (decide_eq_true (by have := HLI.out; rwa [List.take_of_length_le (by rw [HLL.out]; omega)] at this))
      go_wp2_with fail
      go_ret
      exact ⟨by rw [hN.out]; rfl, HB0.out.trans (HB.out.mono HB0.out.size)⟩
end Go.Proofs.Ytflakmabciokbaa
/- Whether a store is right, has a word, and had an interval, by the program; no condition but that it reads. -/
namespace Go.Proofs.Ytflakmabciokbaa
set_option linter.unusedVariables false
open Go.ChangeShapes Go.WideShapes Go.ChangeAt Go.RowKit

theorem right_eqV (V : Vt) : rightV V = (Ud.sizeB V.words && (upV V.span 1099511627776 && (decide ((V.list.length : Int) ≤ 256) && (liesV V && decide (ListedP V.words.toNat V.span V.list))))) := by
  unfold rightV
  have hm : (lgV V).mem.length = V.words.toNat := memB_len _ _
  have key : Ud.rightL (lgV V) = (Ud.sizeB V.words && (upV V.span 1099511627776 && (decide ((V.list.length : Int) ≤ 256) && decide (ListedP V.words.toNat V.span V.list)))) := by
    rw [Bool.eq_iff_iff, Ud.right_iff, Ud.rt_iff, hm]
    unfold Ud.sizeB Ud.topS
    rw [upV_iff]
    simp only [Bool.and_eq_true, decide_eq_true_eq]
    show (1 ≤ V.words.toNat ∧ V.words.toNat ≤ 64 ∧ 0 ≤ V.span ∧ V.span ≤ 1099511627776 ∧ V.list.length ≤ 256 ∧ (∀ u ∈ V.list, Ud.FitU V.words.toNat V.span u) ∧ (V.list.Pairwise fun x y => x.span ≤ y.span) ∧ V.list.Pairwise Ud.ApartU) ↔ _
    constructor
    · rintro ⟨a1, a2, a3, a4, a5, a6, a7, a8⟩
      exact ⟨by omega, ⟨a3, a4⟩, by omega, ⟨a6, a7, a8⟩⟩
    · rintro ⟨b1, ⟨b2, b3⟩, b4, ⟨b5, b6, b7⟩⟩
      exact ⟨by omega, by omega, b2, b3, by omega, b5, b6, b7⟩
  rw [key]
  generalize liesV V = x1
  generalize Ud.sizeB V.words = x2
  generalize upV V.span 1099511627776 = x3
  generalize decide ((V.list.length : Int) ≤ 256) = x4
  generalize decide (ListedP V.words.toNat V.span V.list) = x5
  cases x1 <;> cases x2 <;> cases x3 <;> cases x4 <;> cases x5 <;> rfl

set_option maxHeartbeats 4000000 in
theorem sright_any (S : Nat → Prop) (v : Value) (V : Vt) (w : World) (h : Vo S w v V) :
    Calls Try.prog 20 #[v] w fun e w' => e = .returned (.bool (rightV V)) ∧ Below w.heap.size w w' := by
  have HLI : Hid (∀ n0 : Nat, V.words = (n0 : Int) → 1 ≤ n0 → n0 ≤ 64 → ∀ W, Below w.heap.size w W → Calls Try.prog 60 #[v] W fun e w' => e = .returned (.bool (liesV V)) ∧ Below W.heap.size W w') := Lib.hid (fun n0 a b c W hW => lies_any S v V n0 a b c W (h.below hW))
  have HLS : Hid (∀ n0 : Nat, V.words = (n0 : Int) → 1 ≤ n0 → n0 ≤ 64 → ∀ W, Below w.heap.size w W → Calls Try.prog 61 #[v] W fun e w' => e = .returned (.bool (decide (ListedP n0 V.span V.list))) ∧ Below W.heap.size W w') := Lib.hid (fun n0 a b c W hW => listed_any S v V n0 a b c W (h.below hW))
  obtain ⟨p, n, c, xs, pp, m, cc, q, k, d, rfl, hc, -⟩ := h
  have HK : k ≤ 10000 := hc.k10
  have HR : Hid (rightV V = (Ud.sizeB V.words && (upV V.span 1099511627776 && (decide ((k : Int) ≤ 256) && (liesV V && decide (ListedP V.words.toNat V.span V.list)))))) := Lib.hid (by rw [right_eqV, hc.ll])
  have HSZ : Hid (Ud.sizeB V.words = true → V.words = (V.words.toNat : Int) ∧ 1 ≤ V.words.toNat ∧ V.words.toNat ≤ 64) := Lib.hid (fun e => by
    unfold Ud.sizeB at e
    have := of_decide_eq_true e
    omega)
  have HLI2 : Hid (Ud.sizeB V.words = true → ∀ W, Below w.heap.size w W → Calls Try.prog 60 #[.agg #[.slice p n c, .slice pp m cc, .int .i64 V.B.lost, .int .i64 V.words, .int .i64 V.span, .slice q k d]] W fun e w' => e = .returned (.bool (liesV V)) ∧ Below W.heap.size W w') := Lib.hid (fun e => HLI.out _ (HSZ.out e).1 (HSZ.out e).2.1 (HSZ.out e).2.2)
  have HLS2 : Hid (Ud.sizeB V.words = true → ∀ W, Below w.heap.size w W → Calls Try.prog 61 #[.agg #[.slice p n c, .slice pp m cc, .int .i64 V.B.lost, .int .i64 V.words, .int .i64 V.span, .slice q k d]] W fun e w' => e = .returned (.bool (decide (ListedP V.words.toNat V.span V.list))) ∧ Below W.heap.size W w') := Lib.hid (fun e => HLS.out _ (HSZ.out e).1 (HSZ.out e).2.1 (HSZ.out e).2.2)
  clear HLI HLS HSZ hc
  have HMB : Hid (∀ W, Calls Try.prog 52 #[.int .i64 V.words] W fun e w' => e = .returned (.bool (Ud.sizeB V.words)) ∧ W = w') := Lib.hid (fun W => smay_any _ W)
  have HUP : Hid (∀ W, Calls Try.prog 59 #[.int .i64 V.span, .int .i64 1099511627776] W fun e w' => e = .returned (.bool (upV V.span 1099511627776)) ∧ W = w') := Lib.hid (fun W => supTo_any _ _ W)
  obtain ⟨b1, hb1⟩ : ∃ z, z = Ud.sizeB V.words := ⟨_, rfl⟩
  obtain ⟨b2, hb2⟩ : ∃ z, z = upV V.span 1099511627776 := ⟨_, rfl⟩
  obtain ⟨b3, hb3⟩ : ∃ z, z = liesV V := ⟨_, rfl⟩
  obtain ⟨b4, hb4⟩ : ∃ z, z = decide (ListedP V.words.toNat V.span V.list) := ⟨_, rfl⟩
  obtain ⟨r, hr⟩ : ∃ z, z = rightV V := ⟨_, rfl⟩
  rw [← hr] at HR ⊢
  rw [← hb1] at HR HMB HLI2 HLS2
  rw [← hb2] at HR HUP
  rw [← hb3] at HR HLI2
  rw [← hb4] at HR HLS2
  obtain ⟨lo, hlo⟩ : ∃ z, z = V.B.lost := ⟨_, rfl⟩
  obtain ⟨wo, hwo⟩ : ∃ z, z = V.words := ⟨_, rfl⟩
  obtain ⟨sp, hsp⟩ : ∃ z, z = V.span := ⟨_, rfl⟩
  rw [← hwo] at HMB
  rw [← hsp] at HUP
  rw [← hlo, ← hwo, ← hsp] at HLI2 HLS2 ⊢
  clear hr hb1 hb2 hb3 hb4 hlo hwo hsp
  obtain ⟨w0, hw0⟩ : ∃ w0, w0 = w.alloc (.cells #[.slice p n c, .slice pp m cc, .int .i64 lo, .int .i64 wo, .int .i64 sp, .slice q k d] 28) := ⟨_, rfl⟩
  have HA0 : Hid (Blk w0 w.heap.size #[.slice p n c, .slice pp m cc, .int .i64 lo, .int .i64 wo, .int .i64 sp, .slice q k d]) := Lib.hid (by rw [hw0]; exact Blk.new _ _ _)
  have HB0 : Hid (Below w.heap.size w w0) := Lib.hid (by rw [hw0]; exact (Below.refl _ _).alloc (Nat.le_refl _) _)
  have HW0 := Lib.hid hw0
  clear hw0
  go_enter Try.func20, Try.ntmps20
  have kA := HA0.out.c
  go_upto_region 1 with fail
  rw [← HW0.out]
  clear HW0
  go_wp2_with fail
  refine (HMB.out _).mono ?_
  rintro e w' ⟨rfl, rfl⟩
  cases b1 with
  | false =>
    go_wp2_with fail
    go_ret
    exact ⟨by rw [HR.out]; rfl, HB0.out⟩
  | true =>
    have HLI3 := Lib.hid (HLI2.out (by first | rfl | trivial))
    have HLS3 := Lib.hid (HLS2.out (by first | rfl | trivial))
    clear HLI2 HLS2
    go_wp2_with fail
    refine (HUP.out _).mono ?_
    rintro e w' ⟨rfl, rfl⟩
    cases b2 with
    | false =>
      go_wp2_with fail
      go_ret
      exact ⟨by rw [HR.out]; rfl, HB0.out⟩
    | true =>
      by_cases h2 : (k : Int) ≤ 256
      · have d2 : decide ((256 : Int) < (k : Int)) = false := decide_eq_false (by omega)
        have d2' : decide ((k : Int) ≤ 256) = true := decide_eq_true h2
        rw [d2'] at HR
        clear h2 d2'
        go_wp2_with fail
        refine (HLI3.out _ HB0.out).mono ?_
        rintro e w1 ⟨rfl, hb⟩
        have HB1 : Hid (Below w.heap.size w w1) := Lib.hid (HB0.out.trans (hb.mono HB0.out.size))
        have kB := (HA0.out.below hb).c
        clear hb kA
        cases b3 with
        | false =>
          go_wp2_with fail
          go_ret
          exact ⟨by rw [HR.out]; rfl, HB1.out⟩
        | true =>
          go_wp2_with fail
          refine (HLS3.out _ HB1.out).mono ?_
          rintro e w2 ⟨rfl, hb⟩
          have HB2 : Hid (Below w.heap.size w w2) := Lib.hid (HB1.out.trans (hb.mono HB1.out.size))
          clear hb kB
          go_wp2_with fail
          go_ret
          exact ⟨by rw [HR.out]; rfl, HB2.out⟩
      · have d2 : decide ((256 : Int) < (k : Int)) = true := decide_eq_true (by omega)
        have d2' : decide ((k : Int) ≤ 256) = false := decide_eq_false h2
        rw [d2'] at HR
        clear h2 d2'
        go_wp2_with fail
        go_ret
        exact ⟨by rw [HR.out]; rfl, HB0.out⟩

set_option maxHeartbeats 4000000 in
theorem shas_any (S : Nat → Prop) (v : Value) (V : Vt) (a : Int) (w : World) (h : Vo S w v V) :
    Calls Try.prog 37 #[v, .int .i64 a] w fun e w' => e = .returned (.bool (okA V a)) ∧ Below w.heap.size w w' := by
  have HRT : Hid (∀ W, Below w.heap.size w W → Calls Try.prog 20 #[v] W fun e w' => e = .returned (.bool (rightV V)) ∧ Below W.heap.size W w') := Lib.hid (fun W hW => sright_any S v V W (h.below hW))
  obtain ⟨p, n, c, xs, pp, m, cc, q, k, d, rfl, hc, -⟩ := h
  have HWR : Hid (rightV V = true → 1 ≤ V.words ∧ V.words ≤ 64) := Lib.hid (fun e => by
    obtain ⟨n0, hv⟩ := rv_of e
    have := hv.n1
    have := hv.w
    omega)
  have HR : Hid (okA V a = (rightV V && upV a (V.words - 1))) := Lib.hid (by
    unfold okA
    rw [upV_iff]
    congr 1
    exact decide_eq_decide.2 (by omega))
  obtain ⟨r, hr⟩ : ∃ z, z = rightV V := ⟨_, rfl⟩
  rw [← hr] at HR HRT HWR
  rw [HR.out]
  obtain ⟨lo, hlo⟩ : ∃ z, z = V.B.lost := ⟨_, rfl⟩
  obtain ⟨wo, hwo⟩ : ∃ z, z = V.words := ⟨_, rfl⟩
  obtain ⟨sp, hsp⟩ : ∃ z, z = V.span := ⟨_, rfl⟩
  rw [← hwo] at HWR
  rw [← hlo, ← hwo, ← hsp] at HRT ⊢
  have HUP : Hid (∀ W, Calls Try.prog 59 #[.int .i64 a, .int .i64 (wo - 1)] W fun e w' => e = .returned (.bool (upV a (wo - 1))) ∧ W = w') := Lib.hid (fun W => supTo_any _ _ W)
  obtain ⟨b2, hb2⟩ : ∃ z, z = upV a (wo - 1) := ⟨_, rfl⟩
  rw [← hb2] at HUP ⊢
  clear hr hlo hwo hsp HR hc hb2
  obtain ⟨w0, hw0⟩ : ∃ w0, w0 = w.alloc (.cells #[.slice p n c, .slice pp m cc, .int .i64 lo, .int .i64 wo, .int .i64 sp, .slice q k d] 28) := ⟨_, rfl⟩
  have HA0 : Hid (Blk w0 w.heap.size #[.slice p n c, .slice pp m cc, .int .i64 lo, .int .i64 wo, .int .i64 sp, .slice q k d]) := Lib.hid (by rw [hw0]; exact Blk.new _ _ _)
  have HB0 : Hid (Below w.heap.size w w0) := Lib.hid (by rw [hw0]; exact (Below.refl _ _).alloc (Nat.le_refl _) _)
  have HW0 := Lib.hid hw0
  clear hw0
  go_enter Try.func37, Try.ntmps37
  have kA := HA0.out.c
  go_upto_region 1 with fail
  rw [← HW0.out]
  clear HW0
  go_wp2_with fail
  refine (HRT.out _ HB0.out).mono ?_
  rintro e w1 ⟨rfl, hb⟩
  have HB1 : Hid (Below w.heap.size w w1) := Lib.hid (HB0.out.trans (hb.mono HB0.out.size))
  have kB := (HA0.out.below hb).c
  clear hb kA
  cases r with
  | false =>
    go_wp2_with fail
    go_ret
    exact ⟨rfl, HB1.out⟩
  | true =>
    have hwr := HWR.out (by first | rfl | trivial)
    have f1 : wrap64 (wo - 1) = wo - 1 := by unfold wrap64; omega
    have f2 : IntKind.i64.wrap (wo - 1) = wo - 1 := by rw [IntKind.wrap_i64]; omega
    go_wp2_with fail
    refine (HUP.out _).mono ?_
    rintro e w' ⟨rfl, rfl⟩
    go_wp2_with fail
    go_ret
    exact ⟨by rw [Bool.true_and]; rfl, HB1.out⟩

set_option maxHeartbeats 4000000 in
theorem shad_any (S : Nat → Prop) (v : Value) (V : Vt) (t : Int) (w : World) (h : Vo S w v V) :
    Calls Try.prog 45 #[v, .int .i64 t] w fun e w' => e = .returned (.bool (okS V t)) ∧ Below w.heap.size w w' := by
  have HRT : Hid (∀ W, Below w.heap.size w W → Calls Try.prog 20 #[v] W fun e w' => e = .returned (.bool (rightV V)) ∧ Below W.heap.size W w') := Lib.hid (fun W hW => sright_any S v V W (h.below hW))
  obtain ⟨p, n, c, xs, pp, m, cc, q, k, d, rfl, hc, -⟩ := h
  have HR : Hid (okS V t = (rightV V && upV t V.span)) := Lib.hid (by unfold okS; rw [upV_iff])
  obtain ⟨r, hr⟩ : ∃ z, z = rightV V := ⟨_, rfl⟩
  rw [← hr] at HR HRT
  rw [HR.out]
  obtain ⟨lo, hlo⟩ : ∃ z, z = V.B.lost := ⟨_, rfl⟩
  obtain ⟨wo, hwo⟩ : ∃ z, z = V.words := ⟨_, rfl⟩
  obtain ⟨sp, hsp⟩ : ∃ z, z = V.span := ⟨_, rfl⟩
  rw [← hlo, ← hwo, ← hsp] at HRT ⊢
  have HUP : Hid (∀ W, Calls Try.prog 59 #[.int .i64 t, .int .i64 sp] W fun e w' => e = .returned (.bool (upV t sp)) ∧ W = w') := Lib.hid (fun W => supTo_any _ _ W)
  obtain ⟨b2, hb2⟩ : ∃ z, z = upV t sp := ⟨_, rfl⟩
  rw [← hb2] at HUP ⊢
  clear hr hlo hwo hsp HR hc hb2
  obtain ⟨w0, hw0⟩ : ∃ w0, w0 = w.alloc (.cells #[.slice p n c, .slice pp m cc, .int .i64 lo, .int .i64 wo, .int .i64 sp, .slice q k d] 28) := ⟨_, rfl⟩
  have HA0 : Hid (Blk w0 w.heap.size #[.slice p n c, .slice pp m cc, .int .i64 lo, .int .i64 wo, .int .i64 sp, .slice q k d]) := Lib.hid (by rw [hw0]; exact Blk.new _ _ _)
  have HB0 : Hid (Below w.heap.size w w0) := Lib.hid (by rw [hw0]; exact (Below.refl _ _).alloc (Nat.le_refl _) _)
  have HW0 := Lib.hid hw0
  clear hw0
  go_enter Try.func45, Try.ntmps45
  have kA := HA0.out.c
  go_upto_region 1 with fail
  rw [← HW0.out]
  clear HW0
  go_wp2_with fail
  refine (HRT.out _ HB0.out).mono ?_
  rintro e w1 ⟨rfl, hb⟩
  have HB1 : Hid (Below w.heap.size w w1) := Lib.hid (HB0.out.trans (hb.mono HB0.out.size))
  have kB := (HA0.out.below hb).c
  clear hb kA
  cases r with
  | false =>
    go_wp2_with fail
    go_ret
    exact ⟨rfl, HB1.out⟩
  | true =>
    go_wp2_with fail
    refine (HUP.out _).mono ?_
    rintro e w' ⟨rfl, rfl⟩
    go_wp2_with fail
    go_ret
    exact ⟨by rw [Bool.true_and]; rfl, HB1.out⟩
end Go.Proofs.Ytflakmabciokbaa
/- A word of banks read and written, by the program; no condition but that the banks read, and there are some. -/
namespace Go.Proofs.Ytflakmabciokbaa
set_option linter.unusedVariables false
open Go.ChangeShapes Go.WideShapes Go.ChangeAt Go.RowKit

set_option maxHeartbeats 4000000 in
theorem sread_any (p : Option Addr) (n c : Nat) (xs : List Value) (pp : Option Addr) (m cc : Nat) (B : Bk) (a : Nat) (w : World) (h : Bn w p n c xs pp m cc B) (hn : 1 ≤ n) (ha : a ≤ 10000) :
    Calls Try.prog 38 #[.agg #[.slice p n c, .slice pp m cc, .int .i64 B.lost], .int .i64 a] w fun e w' => e = .returned (.tuple #[.int .u32 (readN B ((a % n : Nat) : Int) ((a / n : Nat) : Int) : Nat), .int .i64 (readE B ((a % n : Nat) : Int) ((a / n : Nat) : Int))]) ∧ Below w.heap.size w w' := by
  have hm := h.m100
  have hn100 := h.n100
  have HRD : Hid (∀ W, Below w.heap.size w W → Calls Try.prog 81 #[.agg #[.slice p n c, .slice pp m cc, .int .i64 B.lost], .int .i64 ((a % n : Nat) : Int), .int .i64 ((a / n : Nat) : Int)] W fun e w' => e = .returned (.tuple #[.int .u32 (readN B ((a % n : Nat) : Int) ((a / n : Nat) : Int) : Nat), .int .i64 (readE B ((a % n : Nat) : Int) ((a / n : Nat) : Int))]) ∧ Below W.heap.size W w') := Lib.hid (fun W hW => read_any p n c xs pp m cc B _ _ W (h.below hW))
  obtain ⟨lo, hlo⟩ : ∃ z, z = B.lost := ⟨_, rfl⟩
  obtain ⟨x, hx⟩ : ∃ z, z = a % n := ⟨_, rfl⟩
  obtain ⟨y, hy⟩ : ∃ z, z = a / n := ⟨_, rfl⟩
  obtain ⟨r, hr⟩ : ∃ z, z = readN B ((a % n : Nat) : Int) ((a / n : Nat) : Int) := ⟨_, rfl⟩
  obtain ⟨e, he⟩ : ∃ z, z = readE B ((a % n : Nat) : Int) ((a / n : Nat) : Int) := ⟨_, rfl⟩
  rw [← hlo, ← hr, ← he] at HRD ⊢
  rw [← hx, ← hy] at HRD
  have h2 : ((a : Nat) : Int).tmod (n : Int) = (x : Int) := by rw [tmod_nat, hx]
  have h3 : ((a : Nat) : Int).tdiv (n : Int) = (y : Int) := by rw [tdiv_nat, hy]
  have hyl : y ≤ a := by rw [hy]; exact Nat.div_le_self _ _
  have hyw : IntKind.i64.wrap (y : Int) = (y : Int) := by rw [IntKind.wrap_i64]; omega
  have hyw2 : wrap64 (y : Int) = (y : Int) := by unfold wrap64; omega
  have hb0 : ¬ n = 0 := by omega
  have hb1 : ¬ (n : Int) = 0 := by omega
  have hb2 : ((n : Int) == 0) = false := by simp; omega
  clear hyl ha hlo hx hy hr he h hn
  obtain ⟨w0, hw0⟩ : ∃ w0, w0 = w.alloc (.cells #[.slice p n c, .slice pp m cc, .int .i64 lo] 25) := ⟨_, rfl⟩
  have HA0 : Hid (Blk w0 w.heap.size #[.slice p n c, .slice pp m cc, .int .i64 lo]) := Lib.hid (by rw [hw0]; exact Blk.new _ _ _)
  have HB0 : Hid (Below w.heap.size w w0) := Lib.hid (by rw [hw0]; exact (Below.refl _ _).alloc (Nat.le_refl _) _)
  have HW0 := Lib.hid hw0
  have HS : Hid (∀ W, Below w0.heap.size w0 W → ∀ t, W.cell? ⟨w.heap.size, t, none⟩ = (#[.slice p n c, .slice pp m cc, .int .i64 lo] : Array Value)[t]?) := Lib.hid (fun W hb t => (HA0.out.below hb).c t)
  clear hw0
  go_enter Try.func38, Try.ntmps38
  have kA := HA0.out.c
  go_upto_region 1 with fail
  rw [← HW0.out]
  clear HW0
  go_upto_region 2 with fail
  clear kA
  refine region_plan (fun V : World => ∀ t, V.cell? ⟨w.heap.size, t, none⟩ = (#[.slice p n c, .slice pp m cc, .int .i64 lo] : Array Value)[t]?) 10 [(0, true), (1, true), (2, true), (3, true), (4, true), (5, true), (6, true), (7, false), (8, true), (9, true)] (by kernel_rfl) (by kernel_rfl) (HS.out _ (Below.refl _ _).drew) ?_
  iterate 3
    refine plan_read (v := ?_) rfl (by rfl) ?_ ?_
    rotate_left
    · intro w' hS
      try dsimp only at hS
      go_simp
      try with_reducible rfl
    try simp only [Act.put, List.setIfInBounds_toArray, List.set_cons_zero, List.set_cons_succ, List.getElem_toArray, List.getElem_cons_zero, List.getElem_cons_succ]
  refine plan_read (v := .int .i64 (x : Int)) rfl (by rfl) (by intro w' hS; go_simp) ?_
  try simp only [Act.put, List.setIfInBounds_toArray, List.set_cons_zero, List.set_cons_succ, List.getElem_toArray, List.getElem_cons_zero, List.getElem_cons_succ]
  iterate 2
    refine plan_read (v := ?_) rfl (by rfl) ?_ ?_
    rotate_left
    · intro w' hS
      try dsimp only at hS
      go_simp
      try with_reducible rfl
    try simp only [Act.put, List.setIfInBounds_toArray, List.set_cons_zero, List.set_cons_succ, List.getElem_toArray, List.getElem_cons_zero, List.getElem_cons_succ]
  refine plan_read (v := .int .i64 (y : Int)) rfl (by rfl) (by intro w' hS; go_simp) ?_
  try simp only [Act.put, List.setIfInBounds_toArray, List.set_cons_zero, List.set_cons_succ, List.getElem_toArray, List.getElem_cons_zero, List.getElem_cons_succ]
  refine plan_call (F := 81) (args := ?_) rfl (by rfl) ?_ ?_
  rotate_left
  · go_simp
    rfl
  refine (HRD.out w0.drew HB0.out.drew).mono ?_
  rintro e w1 ⟨rfl, hb⟩
  have HB1 : Hid (Below w0.heap.size w0 w1) := Lib.hid ((Below.refl _ _).drew.trans hb)
  clear hb
  refine ⟨_, rfl, HS.out _ HB1.out, ?_⟩
  try simp only [Act.put, List.setIfInBounds_toArray, List.set_cons_zero, List.set_cons_succ, List.getElem_toArray, List.getElem_cons_zero, List.getElem_cons_succ]
  iterate 2
    refine plan_read (v := ?_) rfl (by rfl) ?_ ?_
    rotate_left
    · intro w' hS
      try dsimp only at hS
      go_simp
      try with_reducible rfl
    try simp only [Act.put, List.setIfInBounds_toArray, List.set_cons_zero, List.set_cons_succ, List.getElem_toArray, List.getElem_cons_zero, List.getElem_cons_succ]
  refine plan_nil ?_
  simp only [List.drop_succ_cons, List.drop_zero]
  go_wp2_with fail
  go_ret2
  exact ⟨rfl, HB0.out.trans (HB1.out.mono HB0.out.size)⟩

set_option maxHeartbeats 4000000 in
theorem swrite_any (p : Option Addr) (n c : Nat) (xs : List Value) (pp : Option Addr) (m cc : Nat) (B : Bk) (a v : Nat) (w : World) (h : Bn w p n c xs pp m cc B) (hn : 1 ≤ n) (ha : a ≤ 10000) (hv : v < 4294967296) :
    Calls Try.prog 39 #[.agg #[.slice p n c, .slice pp m cc, .int .i64 B.lost], .int .i64 a, .int .u32 v] w fun e w' => Back w w' e n m (writeB B ((a % n : Nat) : Int) ((a / n : Nat) : Int) v) (writeE B ((a % n : Nat) : Int) ((a / n : Nat) : Int)) := by
  have hm := h.m100
  have hn100 := h.n100
  have HRD : Hid (∀ W, Below w.heap.size w W → Calls Try.prog 82 #[.agg #[.slice p n c, .slice pp m cc, .int .i64 B.lost], .int .i64 ((a % n : Nat) : Int), .int .i64 ((a / n : Nat) : Int), .int .u32 v] W fun e w' => Back W w' e n m (writeB B ((a % n : Nat) : Int) ((a / n : Nat) : Int) v) (writeE B ((a % n : Nat) : Int) ((a / n : Nat) : Int))) := Lib.hid (fun W hW => write_any p n c xs pp m cc B _ _ v W (h.below hW) hv)
  obtain ⟨lo, hlo⟩ : ∃ z, z = B.lost := ⟨_, rfl⟩
  obtain ⟨x, hx⟩ : ∃ z, z = a % n := ⟨_, rfl⟩
  obtain ⟨y, hy⟩ : ∃ z, z = a / n := ⟨_, rfl⟩
  obtain ⟨r, hr⟩ : ∃ z, z = writeB B ((a % n : Nat) : Int) ((a / n : Nat) : Int) v := ⟨_, rfl⟩
  obtain ⟨e, he⟩ : ∃ z, z = writeE B ((a % n : Nat) : Int) ((a / n : Nat) : Int) := ⟨_, rfl⟩
  rw [← hlo, ← hr, ← he] at HRD ⊢
  rw [← hx, ← hy] at HRD
  have h2 : ((a : Nat) : Int).tmod (n : Int) = (x : Int) := by rw [tmod_nat, hx]
  have h3 : ((a : Nat) : Int).tdiv (n : Int) = (y : Int) := by rw [tdiv_nat, hy]
  have hyl : y ≤ a := by rw [hy]; exact Nat.div_le_self _ _
  have hyw : IntKind.i64.wrap (y : Int) = (y : Int) := by rw [IntKind.wrap_i64]; omega
  have hyw2 : wrap64 (y : Int) = (y : Int) := by unfold wrap64; omega
  have hb0 : ¬ n = 0 := by omega
  have hb1 : ¬ (n : Int) = 0 := by omega
  have hb2 : ((n : Int) == 0) = false := by simp; omega
  clear hyl ha hlo hx hy hr he h hn hv
  obtain ⟨w0, hw0⟩ : ∃ w0, w0 = (w.alloc (.cells #[.slice p n c, .slice pp m cc, .int .i64 lo] 25)).alloc (.cells #[.slice none 0 0, .slice none 0 0, .int .i64 0] 25) := ⟨_, rfl⟩
  have HA0 : Hid (Blk w0 w.heap.size #[.slice p n c, .slice pp m cc, .int .i64 lo]) := Lib.hid (by rw [hw0]; exact (Blk.new _ _ _).alloc _)
  have HR0 : Hid (Blk w0 (w.heap.size + 1) #[.slice none 0 0, .slice none 0 0, .int .i64 0]) := Lib.hid (by
    have k2 := Blk.new (w.alloc (.cells #[.slice p n c, .slice pp m cc, .int .i64 lo] 25)) #[.slice none 0 0, .slice none 0 0, .int .i64 0] 25
    simp only [World.size_alloc] at k2
    rw [hw0]; exact k2)
  have HB0 : Hid (Below w.heap.size w w0) := Lib.hid (by rw [hw0]; exact ((Below.refl _ _).alloc (Nat.le_refl _) _).alloc (by simp) _)
  have HSZ : Hid (w0.heap.size = w.heap.size + 2) := Lib.hid (by rw [hw0, World.size_alloc, World.size_alloc])
  have HW0 := Lib.hid hw0
  have HS : Hid (∀ W, Below w0.heap.size w0 W → ∀ t, W.cell? ⟨w.heap.size, t, none⟩ = (#[.slice p n c, .slice pp m cc, .int .i64 lo] : Array Value)[t]?) := Lib.hid (fun W hb t => (HA0.out.below hb).c t)
  clear hw0
  go_enter Try.func39, Try.ntmps39
  have kA := HA0.out.c
  go_upto_region 1 with fail
  rw [← HW0.out]
  clear HW0
  go_upto_region 2 with fail
  clear kA
  refine region_plan (fun V : World => ∀ t, V.cell? ⟨w.heap.size, t, none⟩ = (#[.slice p n c, .slice pp m cc, .int .i64 lo] : Array Value)[t]?) 11 [(0, true), (1, true), (2, true), (3, true), (4, true), (5, true), (6, true), (7, true), (8, false), (9, true), (10, true)] (by kernel_rfl) (by kernel_rfl) (HS.out _ (Below.refl _ _).drew) ?_
  iterate 3
    refine plan_read (v := ?_) rfl (by rfl) ?_ ?_
    rotate_left
    · intro w' hS
      try dsimp only at hS
      go_simp
      try with_reducible rfl
    try simp only [Act.put, List.setIfInBounds_toArray, List.set_cons_zero, List.set_cons_succ, List.getElem_toArray, List.getElem_cons_zero, List.getElem_cons_succ]
  refine plan_read (v := .int .i64 (x : Int)) rfl (by rfl) (by intro w' hS; go_simp) ?_
  try simp only [Act.put, List.setIfInBounds_toArray, List.set_cons_zero, List.set_cons_succ, List.getElem_toArray, List.getElem_cons_zero, List.getElem_cons_succ]
  iterate 2
    refine plan_read (v := ?_) rfl (by rfl) ?_ ?_
    rotate_left
    · intro w' hS
      try dsimp only at hS
      go_simp
      try with_reducible rfl
    try simp only [Act.put, List.setIfInBounds_toArray, List.set_cons_zero, List.set_cons_succ, List.getElem_toArray, List.getElem_cons_zero, List.getElem_cons_succ]
  refine plan_read (v := .int .i64 (y : Int)) rfl (by rfl) (by intro w' hS; go_simp) ?_
  try simp only [Act.put, List.setIfInBounds_toArray, List.set_cons_zero, List.set_cons_succ, List.getElem_toArray, List.getElem_cons_zero, List.getElem_cons_succ]
  iterate 1
    refine plan_read (v := ?_) rfl (by rfl) ?_ ?_
    rotate_left
    · intro w' hS
      try dsimp only at hS
      go_simp
      try with_reducible rfl
    try simp only [Act.put, List.setIfInBounds_toArray, List.set_cons_zero, List.set_cons_succ, List.getElem_toArray, List.getElem_cons_zero, List.getElem_cons_succ]
  refine plan_call (F := 82) (args := ?_) rfl (by rfl) ?_ ?_
  rotate_left
  · go_simp
    rfl
  refine (HRD.out w0.drew HB0.out.drew).mono ?_
  rintro e w1 ⟨q, d, ys, qq, dd, rfl, ho, hb⟩
  have HB1 : Hid (Below w0.heap.size w0 w1) := Lib.hid ((Below.refl _ _).drew.trans hb)
  have HO1 : Hid (OwnB (w.heap.size + 2) w1 q n d ys qq m dd r) := Lib.hid (by have h9 : w0.drew.heap.size = w.heap.size + 2 := HSZ.out; rw [h9] at ho; exact ho)
  clear hb ho
  refine ⟨_, rfl, HS.out _ HB1.out, ?_⟩
  try simp only [Act.put, List.setIfInBounds_toArray, List.set_cons_zero, List.set_cons_succ, List.getElem_toArray, List.getElem_cons_zero, List.getElem_cons_succ]
  iterate 2
    refine plan_read (v := ?_) rfl (by rfl) ?_ ?_
    rotate_left
    · intro w' hS
      try dsimp only at hS
      go_simp
      try with_reducible rfl
    try simp only [Act.put, List.setIfInBounds_toArray, List.set_cons_zero, List.set_cons_succ, List.getElem_toArray, List.getElem_cons_zero, List.getElem_cons_succ]
  refine plan_nil ?_
  simp only [List.drop_succ_cons, List.drop_zero]
  have cR := (HR0.out.below HB1.out).c
  have fR := (HR0.out.below HB1.out).f
  have lR := (HR0.out.below HB1.out).lt
  go_wp2_with fail
  have HBB : Hid (Below w.heap.size w w1) := Lib.hid (HB0.out.trans (HB1.out.mono HB0.out.size))
  refine bodyPost_ret (v := .tuple #[.agg #[.slice q n d, .slice qq m dd, .int .i64 r.lost], .int .i64 e]) (by simp [results, Try.results39, go_sem, *]) rfl ⟨q, d, ys, qq, dd, rfl, res3_own HO1.out _ _ _, res3_below HBB.out _ _ _⟩
end Go.Proofs.Ytflakmabciokbaa
/- A copy of a store in memory of one's own, by the program; no condition but that it reads. -/
namespace Go.Proofs.Ytflakmabciokbaa
set_option linter.unusedVariables false
open Go.ChangeShapes Go.WideShapes Go.ChangeAt Go.RowKit

/-- What lies ahead of the copy: the parameter, the result, and the copy's variable. -/
structure Cp (w W : World) (A R : Array Value) (o0 o1 o2 o3 o4 o5 : Value) : Prop where
  ha : Blk W w.heap.size A
  hr : Blk W (w.heap.size + 1) R
  ho : Blk W (w.heap.size + 2) #[o0, o1, o2, o3, o4, o5]
  hb : Below w.heap.size w W
theorem Cp.below {w W W' : World} {A R : Array Value} {o0 o1 o2 o3 o4 o5 : Value} (h : Cp w W A R o0 o1 o2 o3 o4 o5) (hb : Below W.heap.size W W') : Cp w W' A R o0 o1 o2 o3 o4 o5 := ⟨h.ha.below hb, h.hr.below hb, h.ho.below hb, h.hb.trans (hb.mono h.hb.size)⟩
theorem Cp.set0 {w W : World} {A R : Array Value} {o0 o1 o2 o3 o4 o5 : Value} (h : Cp w W A R o0 o1 o2 o3 o4 o5) (u : Value) : Cp w (W.setCell ⟨w.heap.size + 2, 0, none⟩ u) A R u o1 o2 o3 o4 o5 :=
  ⟨h.ha.other _ (by omega), h.hr.other _ (by omega), h.ho.set (n := 0) u (by simp), h.hb.setCell (p := ⟨w.heap.size + 2, 0, none⟩) (by show w.heap.size ≤ w.heap.size + 2; omega) _⟩
theorem Cp.set1 {w W : World} {A R : Array Value} {o0 o1 o2 o3 o4 o5 : Value} (h : Cp w W A R o0 o1 o2 o3 o4 o5) (u : Value) : Cp w (W.setCell ⟨w.heap.size + 2, 1, none⟩ u) A R o0 u o2 o3 o4 o5 :=
  ⟨h.ha.other _ (by omega), h.hr.other _ (by omega), h.ho.set (n := 1) u (by simp), h.hb.setCell (p := ⟨w.heap.size + 2, 1, none⟩) (by show w.heap.size ≤ w.heap.size + 2; omega) _⟩
theorem Cp.set5 {w W : World} {A R : Array Value} {o0 o1 o2 o3 o4 o5 : Value} (h : Cp w W A R o0 o1 o2 o3 o4 o5) (u : Value) : Cp w (W.setCell ⟨w.heap.size + 2, 5, none⟩ u) A R o0 o1 o2 o3 o4 u :=
  ⟨h.ha.other _ (by omega), h.hr.other _ (by omega), h.ho.set (n := 5) u (by simp), h.hb.setCell (p := ⟨w.heap.size + 2, 5, none⟩) (by show w.heap.size ≤ w.heap.size + 2; omega) _⟩
theorem Cp.far {w W : World} {A R : Array Value} {o0 o1 o2 o3 o4 o5 : Value} (h : Cp w W A R o0 o1 o2 o3 o4 o5) {g : Nat} (hg : w.heap.size + 3 ≤ g) (n : Nat) (u : Value) : Cp w (W.setCell ⟨g, n, none⟩ u) A R o0 o1 o2 o3 o4 o5 :=
  ⟨h.ha.other _ (by omega), h.hr.other _ (by omega), h.ho.other _ (by omega), h.hb.setCell (p := ⟨g, n, none⟩) (by show w.heap.size ≤ g; omega) _⟩
theorem Cp.out {w W : World} {A : Array Value} {a0 a1 a2 a3 a4 a5 o0 o1 o2 o3 o4 o5 : Value} (h : Cp w W A #[a0, a1, a2, a3, a4, a5] o0 o1 o2 o3 o4 o5) (u0 u1 u2 u3 u4 u5 : Value) : Below w.heap.size w (set6 W (w.heap.size + 1) u0 u1 u2 u3 u4 u5) := set6_below h.hb (by omega) _ _ _ _ _ _
theorem OwnK.setOff {base : Nat} {w : World} {v : Value} {xs ys : List Value} {L : List (List Nat)} {k : Nat} (h : OwnK base w v xs ys L k) {R : Nat} (hR : R < base) (j : Nat) (u : Value) : OwnK base (w.setCell ⟨R, j, none⟩ u) v xs ys L k :=
  ⟨own_off h.row (fun g e => by have := (h.row.lt g e).1; omega) j u, fun i hi => own_off (h.fr i hi) (fun g e => by have := ((h.fr i hi).lt g e).1; omega) j u, h.sep, h.two, h.rest⟩

set_option maxHeartbeats 8000000 in
theorem scopied_any (p : Option Addr) (n c : Nat) (xs : List Value) (pp : Option Addr) (m cc : Nat) (q : Option Addr) (k d : Nat) (V : Vt) (w : World) (h : Vc w p n c xs pp m cc q k d V) :
    Calls Try.prog 36 #[.agg #[.slice p n c, .slice pp m cc, .int .i64 V.B.lost, .int .i64 V.words, .int .i64 V.span, .slice q k d]] w fun e w' => ∃ p' c' ys pp' cc' q' d', e = .returned (.agg #[.slice p' n c', .slice pp' m cc', .int .i64 V.B.lost, .int .i64 V.words, .int .i64 V.span, .slice q' k d']) ∧ OwnV w.heap.size w' p' n c' ys pp' m cc' q' k d' V ∧ Below w.heap.size w w' := by
  obtain ⟨⟨L, P, z⟩, wo, sp, l⟩ := V
  have hm := h.bn.n100
  have HK10 := h.k10
  have HV := Lib.hid h
  have HZ : Hid (L.length = n) := Lib.hid h.bn.zn
  have HP : Hid (Rw w p xs L) := Lib.hid h.bn.rw_
  have HNM : Hid (Nm w pp P) := Lib.hid h.bn.nm
  have HPM : Hid (P.length = m) := Lib.hid h.bn.zm
  have hmm : m ≤ 100 := h.bn.m100
  have hcmm : m ≤ cc := h.bn.cm
  have HLL : Hid (l.length = k) := Lib.hid h.ll
  have HLS : Hid (Sl w q k (Ud.unC l)) := Lib.hid h.ls
  have HKD := h.kd
  clear h
  dsimp only
  obtain ⟨w0, hw0⟩ : ∃ w0, w0 = ((w.alloc (.cells #[.slice p n c, .slice pp m cc, .int .i64 z, .int .i64 wo, .int .i64 sp, .slice q k d] 28)).alloc (.cells #[.slice none 0 0, .slice none 0 0, .int .i64 0, .int .i64 0, .int .i64 0, .slice none 0 0] 28)).alloc (.cells #[.slice p n c, .slice pp m cc, .int .i64 z, .int .i64 wo, .int .i64 sp, .slice q k d] 28) := ⟨_, rfl⟩
  have HC0 : Hid (Cp w w0 #[.slice p n c, .slice pp m cc, .int .i64 z, .int .i64 wo, .int .i64 sp, .slice q k d] #[.slice none 0 0, .slice none 0 0, .int .i64 0, .int .i64 0, .int .i64 0, .slice none 0 0] (.slice p n c) (.slice pp m cc) (.int .i64 z) (.int .i64 wo) (.int .i64 sp) (.slice q k d)) := Lib.hid (by
    have k1 := Blk.new w #[.slice p n c, .slice pp m cc, .int .i64 z, .int .i64 wo, .int .i64 sp, .slice q k d] 28
    have k2 := Blk.new (w.alloc (.cells #[.slice p n c, .slice pp m cc, .int .i64 z, .int .i64 wo, .int .i64 sp, .slice q k d] 28)) #[.slice none 0 0, .slice none 0 0, .int .i64 0, .int .i64 0, .int .i64 0, .slice none 0 0] 28
    have k3 := Blk.new ((w.alloc (.cells #[.slice p n c, .slice pp m cc, .int .i64 z, .int .i64 wo, .int .i64 sp, .slice q k d] 28)).alloc (.cells #[.slice none 0 0, .slice none 0 0, .int .i64 0, .int .i64 0, .int .i64 0, .slice none 0 0] 28)) #[.slice p n c, .slice pp m cc, .int .i64 z, .int .i64 wo, .int .i64 sp, .slice q k d] 28
    simp only [World.size_alloc] at k2 k3
    rw [hw0]
    exact ⟨(k1.alloc _).alloc _, k2.alloc _, k3, (((Below.refl _ _).alloc (Nat.le_refl _) _).alloc (by simp) _).alloc (by simp; omega) _⟩)
  have HSZ : Hid (w0.heap.size = w.heap.size + 3) := Lib.hid (by rw [hw0, World.size_alloc, World.size_alloc, World.size_alloc])
  have HW0 := Lib.hid hw0
  clear hw0
  go_enter Try.func36, Try.ntmps36
  have kA := HC0.out.ha.c
  go_upto_region 2 with fail
  rw [← HW0.out]
  clear HW0
  go_wp2_with fail
  refine (clone_rows p n c xs L _ HZ.out (HP.out.below HC0.out.hb)).mono ?_
  rintro e w1 ⟨v, rfl, ho, hb⟩
  obtain ⟨q1, cap, rfl, hcap⟩ := own_cap ho
  have HC1 := Lib.hid (HC0.out.below hb)
  have HO1 : Hid (OwnK (w.heap.size + 3) w1 (.slice q1 L.length cap) xs xs L 0) := Lib.hid (OwnK.begin (by rw [HZ.out]; exact own_base ho (by rw [HSZ.out]; exact Nat.le_refl _)))
  have HG : Hid (∀ g, q1 = some ⟨g, 0, none⟩ → w.heap.size + 3 ≤ g) := Lib.hid (by
    intro g e
    subst e
    have := (ho.lt g rfl).1
    rw [HSZ.out] at this
    exact this)
  clear hb ho kA HC0
  have kO := HC1.out.ho.c
  have fO := HC1.out.ho.f
  have lO := HC1.out.ho.lt
  go_upto_region 3 with fail
  have HC2 := Lib.hid (HC1.out.set0 (.slice q1 n cap))
  have HO2 := Lib.hid (HO1.out.setOff (R := w.heap.size + 2) (by omega) 0 (.slice q1 n cap))
  obtain ⟨w2, hw2⟩ : ∃ z, z = w1.setCell ⟨w.heap.size + 2, 0, none⟩ (.slice q1 n cap) := ⟨_, rfl⟩
  rw [← hw2] at HC2 HO2 ⊢
  clear hw2 kO fO lO HC1 HO1
  have kO := HC2.out.ho.c
  go_wp2_with fail
  clear kO
  go_loopw [17] (fun i wr => ∃ kk : Nat, kk ≤ n ∧ i = .int .i64 kk ∧ (∃ ys, OwnK (w.heap.size + 3) wr (.slice q1 L.length cap) xs ys L kk) ∧ Cp w wr #[.slice p n c, .slice pp m cc, .int .i64 z, .int .i64 wo, .int .i64 sp, .slice q k d] #[.slice none 0 0, .slice none 0 0, .int .i64 0, .int .i64 0, .int .i64 0, .slice none 0 0] (.slice q1 n cap) (.slice pp m cc) (.int .i64 z) (.int .i64 wo) (.int .i64 sp) (.slice q k d)) (fun i _ => n - (intOf i).toNat)
  case atStart => exact ⟨0, Nat.zero_le _, rfl, ⟨_, HO2.out⟩, HC2.out⟩
  case round =>
    obtain ⟨j, hj, rfl, ⟨ys, ho⟩, hcp⟩ := hrel
    clear HC2 HO2
    have HC := Lib.hid hcp
    clear hcp
    by_cases hlt : j < n
    · have hltI : decide ((j : Int) < (n : Int)) = true := decide_eq_true (by omega)
      have hlt' : j < L.length := by rw [HZ.out]; exact hlt
      obtain ⟨g, rfl, hnc, hcm, hbg, hgl⟩ := own_go ho.row (by rw [HZ.out]; omega)
      have hfs : Rs wr (xs.getD j vz) (L.getD j []) := (HP.out.rs j hlt').below HC.out.hb
      have hl := HP.out.l100 _ (mem_getD L [] j hlt')
      obtain ⟨l', hle⟩ : ∃ l', l' = L.getD j [] := ⟨_, rfl⟩
      rw [← hle] at hfs hl
      have HFS := Lib.hid hfs
      have HLE := Lib.hid hle
      obtain ⟨pk, ck, hv, _, _⟩ := hfs
      have hck : wr.cell? ⟨g, j, none⟩ = some (.slice pk l'.length ck) := by
        rw [ho.row.cellAt j (by omega), ← hv, ← ho.rest j (Nat.le_refl _), List.getD_eq_getElem?_getD, List.getElem?_eq_getElem (by rw [ho.row.1]; omega)]
        rfl
      have HO := Lib.hid ho
      have HV' := Lib.hid hv
      have HBG : Hid (w.heap.size + 3 ≤ g) := Lib.hid (HG.out g rfl)
      have HS : Hid (∀ W, Below wr.heap.size wr W → ∀ t, W.cell? ⟨w.heap.size + 2, t, none⟩ = (#[.slice (some ⟨g, 0, none⟩) n cap, .slice pp m cc, .int .i64 z, .int .i64 wo, .int .i64 sp, .slice q k d] : Array Value)[t]?) := Lib.hid (fun W hb t => (HC.out.below hb).ho.c t)
      have hnc' : n ≤ cap := by rw [← HZ.out]; exact hnc
      have hcw := clone_words (.slice pk l'.length ck) l' wr.drew (by rw [← hv]; exact HFS.out.below (Below.refl _ _).drew) hl
      have HCW := Lib.hid hcw
      have hjI : (0 : Int) ≤ (j : Int) := by omega
      have hjI2 : (j : Int) < (n : Int) := by omega
      clear ho hv hbg hgl hnc hcm hle hcw
      go_upto_region 6 with fail
      clear hck
      refine region_plan (fun V : World => ∀ t, V.cell? ⟨w.heap.size + 2, t, none⟩ = (#[.slice (some ⟨g, 0, none⟩) n cap, .slice pp m cc, .int .i64 z, .int .i64 wo, .int .i64 sp, .slice q k d] : Array Value)[t]?) 6 [(0, true), (1, true), (2, true), (3, true), (4, true), (5, false)] (by kernel_rfl) (by kernel_rfl) (HS.out _ (Below.refl _ _).drew) ?_
      iterate 5
        refine plan_read (v := ?_) rfl (by rfl) ?_ ?_
        rotate_left
        · intro w' hS
          try dsimp only at hS
          go_simp
          try with_reducible rfl
        try simp only [Act.put, List.setIfInBounds_toArray, List.set_cons_zero, List.set_cons_succ, List.getElem_toArray, List.getElem_cons_zero, List.getElem_cons_succ]
      refine plan_call (F := 79) (args := ?_) rfl (by rfl) ?_ ?_
      rotate_left
      · go_simp
        rfl
      refine (HCW.out).mono ?_
      rintro e w2 ⟨r, rfl, hr2, hb⟩
      have HB2 : Hid (Below wr.heap.size wr w2) := Lib.hid ((Below.refl _ _).drew.trans hb)
      have HR2 : Hid (Wv wr.heap.size w2 r l') := Lib.hid hr2
      clear hb hr2
      refine ⟨_, rfl, HS.out _ HB2.out, ?_⟩
      try simp only [Act.put, List.setIfInBounds_toArray, List.set_cons_zero, List.set_cons_succ, List.getElem_toArray, List.getElem_cons_zero, List.getElem_cons_succ]
      refine plan_nil ?_
      simp only [List.drop_succ_cons, List.drop_zero]
      have HO2 := Lib.hid (HO.out.step hlt' (by have := HC.out.ho.lt; omega) HB2.out (by rw [← HLE.out]; exact HR2.out))
      obtain ⟨q2, c2, rfl, _⟩ := own_cap HR2.out
      have hc2 : w2.cell? ⟨g, j, none⟩ = (u32C []).head? ∨ ∃ u, w2.cell? ⟨g, j, none⟩ = some u := .inr ⟨_, (OwnK.below HO.out HB2.out).row.cellAt j (by omega) |>.trans (List.getElem?_eq_getElem (by rw [(OwnK.below HO.out HB2.out).row.1]; omega))⟩
      have hc3 : ∃ u, w2.cell? ⟨g, j, none⟩ = some u := by
        rcases hc2 with e | e
        · exact ⟨_, (OwnK.below HO.out HB2.out).row.cellAt j (by omega) |>.trans (List.getElem?_eq_getElem (by rw [(OwnK.below HO.out HB2.out).row.1]; omega))⟩
        · exact e
      obtain ⟨u0, hu0⟩ := hc3
      have hf2 : w2.frozen? ⟨g, j, none⟩ = false := (OwnK.below HO.out HB2.out).row.frozenAt j
      have HC2 := Lib.hid ((HC.out.below HB2.out).far (g := g) HBG.out j (.slice q2 l'.length c2))
      clear hc2
      go_wp2_with fail
      go_roundw
      case rel => exact ⟨j + 1, by omega, by go_num, ⟨_, HO2.out⟩, HC2.out⟩
      case measure => simp [intOf]; omega
    · have hltI : decide ((j : Int) < (n : Int)) = false := decide_eq_false (by omega)
      have hkn : j = L.length := by rw [HZ.out]; omega
      have HO := Lib.hid (OwnK.done (hkn ▸ ho))
      clear ho hkn
      have kA := HC.out.ha.c
      go_wp2_with fail
      have hcw := clone_words (.slice pp m cc) P wr ⟨pp, cc, by rw [HPM.out], by rw [HPM.out]; exact hcmm, HNM.out.below HC.out.hb⟩ (by rw [HPM.out]; exact hmm)
      refine hcw.mono ?_
      clear hcw
      rintro e w3 ⟨r, rfl, hr2, hb⟩
      unfold Wv at hr2
      rw [HPM.out] at hr2
      obtain ⟨q2, c2, rfl, hqc⟩ := own_cap hr2
      have HW3 := Lib.hid hr2
      have HB3 := Lib.hid hb
      have HC3 := Lib.hid (HC.out.below hb)
      have HOB : Hid (OwnB (w.heap.size + 3) w3 q1 n cap ys q2 m c2 ⟨L, P, z⟩) := Lib.hid (by
        have hw := HW3.out
        have hnew : ∀ g, (Value.slice q2 m c2).ownBlock = some g → wr.heap.size ≤ g := fun g e => (hw.lt g e).1
        have ho := HO.out.below HB3.out
        have hor := HO.out.row
        rw [HZ.out] at ho hor
        refine ⟨HZ.out, ho, HPM.out, own_base hw (by have := HC.out.ho.lt; omega), HNM.out.lt, HP.out.lt, hm, HP.out.l100, hmm, fun g e1 e2 => ?_, fun k hk g e1 e2 => ?_⟩
        · have := hnew g e1
          have := (hor.lt g e2).2
          omega
        · have := hnew g e1
          have := ((HO.out.fr k (by rw [HZ.out]; exact hk)).lt g e2).2
          omega)
      clear hr2 hb kA HO HW3 HB3 HC
      have kO := HC3.out.ho.c
      have fO := HC3.out.ho.f
      have lO := HC3.out.ho.lt
      go_upto_region 9 with fail
      have HC4 := Lib.hid (HC3.out.set1 (.slice q2 m c2))
      have HOB4 := Lib.hid (HOB.out.setOff (R := w.heap.size + 2) (by omega) 1 (.slice q2 m c2))
      obtain ⟨w4, hw4⟩ : ∃ z, z = w3.setCell ⟨w.heap.size + 2, 1, none⟩ (.slice q2 m c2) := ⟨_, rfl⟩
      rw [← hw4] at HC4 HOB4 ⊢
      clear hw4 kO fO lO HC3 HOB
      have kA := HC4.out.ha.c
      go_wp2_with fail
      refine (Ud.cloneU_any q k d l w4 HLL.out (HLS.out.below HC4.out.hb) HK10 HKD).mono ?_
      rintro e w5 ⟨r, rfl, hr, hb⟩
      obtain ⟨q3, c3, rfl, hqc3⟩ := own_cap hr
      have HC5 := Lib.hid (HC4.out.below hb)
      have HOV : Hid (OwnV (w.heap.size + 3) w5 q1 n cap ys q2 m c2 q3 k c3 ⟨⟨L, P, z⟩, wo, sp, l⟩) := Lib.hid ⟨HOB4.out.below hb, own_base hr (by have := HC4.out.ho.lt; omega), HK10, HV.out.u32, fun g e => Ap.under (HOB4.out.under) (hr.lt g e).1⟩
      clear hr hb kA HC4 HOB4
      have kO := HC5.out.ho.c
      have fO := HC5.out.ho.f
      have lO := HC5.out.ho.lt
      go_upto_region 10 with fail
      have HC6 := Lib.hid (HC5.out.set5 (.slice q3 k c3))
      have HOV6 := Lib.hid (HOV.out.setOff (R := w.heap.size + 2) (by omega) 5 (.slice q3 k c3))
      obtain ⟨w6, hw6⟩ : ∃ z, z = w5.setCell ⟨w.heap.size + 2, 5, none⟩ (.slice q3 k c3) := ⟨_, rfl⟩
      rw [← hw6] at HC6 HOV6 ⊢
      clear hw6 kO fO lO HC5 HOV
      have kO := HC6.out.ho.c
      have kR := HC6.out.hr.c
      have fR := HC6.out.hr.f
      have lR := HC6.out.hr.lt
      go_wp2_with fail
      refine bodyPost_ret (v := .agg #[.slice q1 n cap, .slice q2 m c2, .int .i64 z, .int .i64 wo, .int .i64 sp, .slice q3 k c3]) (by simp [results, Try.results36, go_sem, *]) rfl ⟨q1, cap, ys, q2, c2, q3, c3, rfl, ?_, ?_⟩
      · exact (HOV6.out.set6 (R := w.heap.size + 1) (by omega) _ _ _ _ _ _).mono (by omega)
      · exact HC6.out.out _ _ _ _ _ _
end Go.Proofs.Ytflakmabciokbaa
/- A store's copy in a variable of one's own, and the store in its next interval, by the program; no condition but that it reads. -/
namespace Go.Proofs.Ytflakmabciokbaa
set_option linter.unusedVariables false
open Go.ChangeShapes Go.WideShapes Go.ChangeAt Go.RowKit

/-- What lies behind the copy: the result's variable R, and the copy's variable bo. -/
structure SV (w W : World) (R b0 bo : Nat) (p : Option Addr) (n c : Nat) (ys : List Value) (pp : Option Addr) (m cc : Nat) (q : Option Addr) (k d : Nat) (V : Vt) : Prop where
  ht : Blk W R #[.slice none 0 0, .slice none 0 0, .int .i64 0, .int .i64 0, .int .i64 0, .slice none 0 0]
  hk : Blk W bo #[.slice p n c, .slice pp m cc, .int .i64 V.B.lost, .int .i64 V.words, .int .i64 V.span, .slice q k d]
  ho : OwnV b0 W p n c ys pp m cc q k d V
  hb : Below w.heap.size w W
  hR : w.heap.size ≤ R ∧ R < b0
  ge : b0 ≤ bo
  nb : Ap bo p n c ys pp m cc
  nq : ∀ g, (Value.slice q k d).ownBlock = some g → g ≠ bo
variable {w W : World} {R b0 bo : Nat} {p : Option Addr} {n c : Nat} {ys : List Value} {pp : Option Addr} {m cc : Nat} {q : Option Addr} {k d : Nat} {V : Vt}
theorem SV.below {W' : World} (h : SV w W R b0 bo p n c ys pp m cc q k d V) (hb : Below W.heap.size W W') : SV w W' R b0 bo p n c ys pp m cc q k d V :=
  ⟨h.ht.below hb, h.hk.below hb, h.ho.below hb, h.hb.trans (hb.mono h.hb.size), h.hR, h.ge, h.nb, h.nq⟩
theorem SV.make {w1 : World} (h : OwnV b0 w1 p n c ys pp m cc q k d V) (hb : Below w.heap.size w w1) (ht : Blk w1 R #[.slice none 0 0, .slice none 0 0, .int .i64 0, .int .i64 0, .int .i64 0, .slice none 0 0]) (hR : w.heap.size ≤ R ∧ R < b0) (hs : b0 ≤ w1.heap.size) :
    SV w (w1.alloc (.cells #[.slice p n c, .slice pp m cc, .int .i64 V.B.lost, .int .i64 V.words, .int .i64 V.span, .slice q k d] 28)) R b0 w1.heap.size p n c ys pp m cc q k d V :=
  ⟨ht.alloc _, Blk.new _ _ _, h.below ((Below.refl _ _).alloc (Nat.le_refl _) _), hb.alloc hb.size _, hR, hs, Ap.under h.ob.under (Nat.le_refl _), fun g e => by have := (h.lo.lt g e).2; omega⟩
theorem SV.vo (h : SV w W R b0 bo p n c ys pp m cc q k d V) : Vo (fun R => R < b0) W (.agg #[.slice p n c, .slice pp m cc, .int .i64 V.B.lost, .int .i64 V.words, .int .i64 V.span, .slice q k d]) V := h.ho.vo (fun _ h => h)
theorem SV.span (h : SV w W R b0 bo p n c ys pp m cc q k d V) (t : Int) : SV w (W.setCell ⟨bo, 4, none⟩ (.int .i64 t)) R b0 bo p n c ys pp m cc q k d ⟨V.B, V.words, t, V.list⟩ := by
  have hg := h.ge
  have hR := h.hR
  refine ⟨h.ht.other _ (by omega), h.hk.set (n := 4) _ (by simp), ⟨ownB_setAp h.ho.ob h.nb 4 _, own_off h.ho.lo h.nq 4 _, h.ho.k10, h.ho.u32, h.ho.ap⟩, h.hb.setCell (p := ⟨bo, 4, none⟩) (by show w.heap.size ≤ bo; omega) _, h.hR, h.ge, h.nb, h.nq⟩
theorem SV.out {S : Nat → Prop} (h : SV w W R b0 bo p n c ys pp m cc q k d V) (hS : ∀ R', S R' → R' < w.heap.size) (X : Int) {V' : Vt} {E : Int} (hV : V' = V ∧ E = X) :
    OutV S w (set6 W R (.slice p n c) (.slice pp m cc) (.int .i64 V.B.lost) (.int .i64 V.words) (.int .i64 V.span) (.slice q k d)) (.returned (.tuple #[.agg #[.slice p n c, .slice pp m cc, .int .i64 V.B.lost, .int .i64 V.words, .int .i64 V.span, .slice q k d], .int .i64 X])) V' E := by
  obtain ⟨rfl, rfl⟩ := hV
  have hR := h.hR
  exact ⟨_, rfl, (h.ho.set6 (R := R) hR.2 _ _ _ _ _ _).vo (fun R' h' => by have := hS R' h'; omega), set6_below h.hb hR.1 _ _ _ _ _ _⟩

set_option maxHeartbeats 4000000 in
theorem snext_any {T : Nat → Prop} (S : Nat → Prop) (v : Value) (V : Vt) (w : World) (h : Vo T w v V) (hS : ∀ R, S R → R < w.heap.size) :
    Calls Try.prog 24 #[v] w fun e w' => OutV S w w' e (nextV V) (nextVE V) := by
  obtain ⟨⟨L, P, z⟩, wo, sp, l⟩ := V
  obtain ⟨p0, n, c0, xs0, pp0, m, cc0, q0, k, d0, rfl, hc, -⟩ := h
  dsimp only at hc ⊢
  have hm100 : m ≤ 100 := hc.bn.m100
  have hn100 : n ≤ 100 := hc.bn.n100
  have hk10 : k ≤ 10000 := hc.k10
  have HZN : Hid (L.length = n ∧ P.length = m ∧ l.length = k) := Lib.hid ⟨hc.bn.zn, hc.bn.zm, hc.ll⟩
  have HU32 : Hid (U32 l) := Lib.hid hc.u32
  have HSS := Lib.hid hS
  have HCP : Hid (∀ W, Below w.heap.size w W → Calls Try.prog 36 #[.agg #[.slice p0 n c0, .slice pp0 m cc0, .int .i64 z, .int .i64 wo, .int .i64 sp, .slice q0 k d0]] W fun e w' => ∃ p' c' ys pp' cc' q' d', e = .returned (.agg #[.slice p' n c', .slice pp' m cc', .int .i64 z, .int .i64 wo, .int .i64 sp, .slice q' k d']) ∧ OwnV W.heap.size w' p' n c' ys pp' m cc' q' k d' ⟨⟨L, P, z⟩, wo, sp, l⟩ ∧ Below W.heap.size W w') := Lib.hid (fun W hW => scopied_any p0 n c0 xs0 pp0 m cc0 q0 k d0 ⟨⟨L, P, z⟩, wo, sp, l⟩ W (hc.below hW))
  clear hS hc
  obtain ⟨w0, hw0⟩ : ∃ w0, w0 = (w.alloc (.cells #[.slice p0 n c0, .slice pp0 m cc0, .int .i64 z, .int .i64 wo, .int .i64 sp, .slice q0 k d0] 28)).alloc (.cells #[.slice none 0 0, .slice none 0 0, .int .i64 0, .int .i64 0, .int .i64 0, .slice none 0 0] 28) := ⟨_, rfl⟩
  have HB0 : Hid (Below w.heap.size w w0) := Lib.hid (by rw [hw0]; exact ((Below.refl _ _).alloc (Nat.le_refl _) _).alloc (by simp <;> omega) _)
  have HBK : Hid (Blk w0 w.heap.size #[.slice p0 n c0, .slice pp0 m cc0, .int .i64 z, .int .i64 wo, .int .i64 sp, .slice q0 k d0] ∧ Blk w0 (w.heap.size + 1) #[.slice none 0 0, .slice none 0 0, .int .i64 0, .int .i64 0, .int .i64 0, .slice none 0 0]) := Lib.hid (by
    have k0 := Blk.new w #[.slice p0 n c0, .slice pp0 m cc0, .int .i64 z, .int .i64 wo, .int .i64 sp, .slice q0 k d0] 28
    have k1 := Blk.new (w.alloc (.cells #[.slice p0 n c0, .slice pp0 m cc0, .int .i64 z, .int .i64 wo, .int .i64 sp, .slice q0 k d0] 28)) #[.slice none 0 0, .slice none 0 0, .int .i64 0, .int .i64 0, .int .i64 0, .slice none 0 0] 28
    simp only [World.size_alloc] at k1
    rw [hw0]
    exact ⟨(k0.alloc _), k1⟩)
  have HSZ : Hid (w0.heap.size = w.heap.size + 2) := Lib.hid (by rw [hw0]; simp only [World.size_alloc])
  have HW0 := Lib.hid hw0
  clear hw0
  have HNO : Hid (okNx ⟨⟨L, P, z⟩, wo, sp, l⟩ = false → nextV ⟨⟨L, P, z⟩, wo, sp, l⟩ = ⟨⟨L, P, z⟩, wo, sp, l⟩ ∧ nextVE ⟨⟨L, P, z⟩, wo, sp, l⟩ = 1) := Lib.hid (fun e => by unfold nextV nextVE; rw [e]; exact ⟨rfl, rfl⟩)
  have HYES : Hid (okNx ⟨⟨L, P, z⟩, wo, sp, l⟩ = true → nextV ⟨⟨L, P, z⟩, wo, sp, l⟩ = ⟨⟨L, P, z⟩, wo, sp + 1, l⟩ ∧ nextVE ⟨⟨L, P, z⟩, wo, sp, l⟩ = 0) := Lib.hid (fun e => by unfold nextV nextVE; rw [e]; exact ⟨rfl, rfl⟩)
  have HOK : Hid (okNx ⟨⟨L, P, z⟩, wo, sp, l⟩ = (rightV ⟨⟨L, P, z⟩, wo, sp, l⟩ && !(sp == 1099511627776)) ∧ (rightV ⟨⟨L, P, z⟩, wo, sp, l⟩ = true → 0 ≤ sp ∧ sp ≤ 1099511627776)) := Lib.hid (by
    have e1 : rightV ⟨⟨L, P, z⟩, wo, sp, l⟩ = true → 0 ≤ sp ∧ sp ≤ 1099511627776 := fun e => by
      obtain ⟨n0, hv⟩ := rv_of e
      exact ⟨hv.rt.s0, hv.rt.st⟩
    refine ⟨?_, e1⟩
    unfold okNx Ud.topS
    cases hr : rightV ⟨⟨L, P, z⟩, wo, sp, l⟩ with
    | false => rfl
    | true =>
      have := e1 hr
      by_cases h2 : sp = 1099511627776
      · subst h2; rfl
      · rw [decide_eq_true (show sp < 1099511627776 by omega)]; simp [h2])
  go_enter Try.func24, Try.ntmps24
  have kA := HBK.out.1.c
  go_upto_region 1 with fail
  rw [← HW0.out]
  clear HW0
  go_wp2_with fail
  refine (HCP.out w0 HB0.out).mono ?_
  rintro e w1 ⟨p, c, ys, pp, cc, q, d, rfl, ho, hb⟩
  have HB1 : Hid (Below w.heap.size w w1) := Lib.hid (HB0.out.trans (hb.mono HB0.out.size))
  have HSM : Hid (SV w (w1.alloc (.cells #[.slice p n c, .slice pp m cc, .int .i64 z, .int .i64 wo, .int .i64 sp, .slice q k d] 28)) (w.heap.size + 1) (w.heap.size + 2) w1.heap.size p n c ys pp m cc q k d ⟨⟨L, P, z⟩, wo, sp, l⟩) := Lib.hid (SV.make (b0 := w.heap.size + 2) (by rw [HSZ.out] at ho; exact ho) HB1.out (HBK.out.2.below hb) (by omega) (by rw [← HSZ.out]; exact hb.size))
  clear ho hb kA HCP HB0 HBK HB1
  go_upto_region 2 with fail
  obtain ⟨bo, hbo⟩ : ∃ b, b = w1.heap.size := ⟨_, rfl⟩
  obtain ⟨w2, hw2⟩ : ∃ W9, W9 = w1.alloc (.cells #[.slice p n c, .slice pp m cc, .int .i64 z, .int .i64 wo, .int .i64 sp, .slice q k d] 28) := ⟨_, rfl⟩
  rw [← hw2, ← hbo] at HSM
  rw [← hw2, ← hbo]
  clear hw2 hbo
  have HQ := Lib.hid (sright_any _ _ _ w2 HSM.out.vo)
  obtain ⟨r, hr⟩ : ∃ r, r = rightV ⟨⟨L, P, z⟩, wo, sp, l⟩ := ⟨_, rfl⟩
  rw [← hr] at HQ HOK
  clear hr
  have kK := HSM.out.hk.c
  go_wp2_with fail
  refine HQ.out.mono ?_
  rintro e w3 ⟨rfl, hb⟩
  have HS3 := Lib.hid (HSM.out.below hb)
  clear hb kK HSM HQ
  cases r with
  | false =>
    have HN := Lib.hid (HNO.out (by rw [HOK.out.1]; rfl))
    clear HNO HYES HOK
    have kK := HS3.out.hk.c
    have kT := HS3.out.ht.c
    have fT := HS3.out.ht.f
    have lT := HS3.out.ht.lt
    go_wp2_with fail
    refine bodyPost_ret (v := .tuple #[.agg #[.slice p n c, .slice pp m cc, .int .i64 z, .int .i64 wo, .int .i64 sp, .slice q k d], .int .i64 1]) (by simp [results, Try.results24, go_sem, *]) rfl (HS3.out.out HSS.out 1 HN.out)
  | true =>
    have hsp := HOK.out.2 (by first | rfl | trivial)
    by_cases h2 : sp = 1099511627776
    · have HN := Lib.hid (HNO.out (by rw [HOK.out.1, h2]; rfl))
      have h2I : (sp == 1099511627776) = true := by rw [h2]; rfl
      have h2J : ((1099511627776 : Int) == 1099511627776) = true := rfl
      subst h2
      clear HNO HYES HOK
      have kK := HS3.out.hk.c
      have kT := HS3.out.ht.c
      have fT := HS3.out.ht.f
      have lT := HS3.out.ht.lt
      go_wp2_with fail
      refine bodyPost_ret (v := .tuple #[.agg #[.slice p n c, .slice pp m cc, .int .i64 z, .int .i64 wo, .int .i64 1099511627776, .slice q k d], .int .i64 1]) (by simp [results, Try.results24, go_sem, *]) rfl (HS3.out.out HSS.out 1 HN.out)
    · have h2I : (sp == 1099511627776) = false := by simp [h2]
      have HN := Lib.hid (HYES.out (by rw [HOK.out.1, h2I]; rfl))
      have f1 : wrap64 (sp + 1) = sp + 1 := by unfold wrap64; omega
      have f2 : IntKind.i64.wrap (sp + 1) = sp + 1 := by rw [IntKind.wrap_i64]; omega
      clear HNO HYES HOK h2
      have kK := HS3.out.hk.c
      have fK := HS3.out.hk.f
      have lK := HS3.out.hk.lt
      go_upto_region 5 with fail
      have HS4 := Lib.hid (HS3.out.span (sp + 1))
      obtain ⟨w4, hw4⟩ : ∃ W9, W9 = w3.setCell ⟨bo, 4, none⟩ (.int .i64 (sp + 1)) := ⟨_, rfl⟩
      rw [← hw4] at HS4 ⊢
      clear hw4 kK fK lK HS3
      have kK := HS4.out.hk.c
      have kT := HS4.out.ht.c
      have fT := HS4.out.ht.f
      have lT := HS4.out.ht.lt
      go_wp2_with fail
      refine bodyPost_ret (v := .tuple #[.agg #[.slice p n c, .slice pp m cc, .int .i64 z, .int .i64 wo, .int .i64 (sp + 1), .slice q k d], .int .i64 0]) (by simp [results, Try.results24, go_sem, *]) rfl (HS4.out.out HSS.out 0 HN.out)
end Go.Proofs.Ytflakmabciokbaa
/- A word written into a store, by the program; no condition but that it reads. -/
namespace Go.Proofs.Ytflakmabciokbaa
set_option linter.unusedVariables false
open Go.ChangeShapes Go.WideShapes Go.ChangeAt Go.RowKit

variable {w W : World} {R b0 bo : Nat} {p : Option Addr} {n c : Nat} {ys : List Value} {pp : Option Addr} {m cc : Nat} {q : Option Addr} {k d : Nat} {V : Vt}
theorem SV.banks {p2 : Option Addr} {c2 : Nat} {ys2 : List Value} {pp2 : Option Addr} {cc2 : Nat} {B : Bk} (h : SV w W R b0 bo p n c ys pp m cc q k d V) (hB : OwnB b0 W p2 n c2 ys2 pp2 m cc2 B) (hap : Ap bo p2 n c2 ys2 pp2 m cc2) (hl : ∀ g, (Value.slice q k d).ownBlock = some g → Ap g p2 n c2 ys2 pp2 m cc2) :
    SV w (((W.setCell ⟨bo, 0, none⟩ (.slice p2 n c2)).setCell ⟨bo, 1, none⟩ (.slice pp2 m cc2)).setCell ⟨bo, 2, none⟩ (.int .i64 B.lost)) R b0 bo p2 n c2 ys2 pp2 m cc2 q k d ⟨B, V.words, V.span, V.list⟩ := by
  have hg := h.ge
  have hR := h.hR
  have hne : bo ≠ R := by omega
  have hle : w.heap.size ≤ bo := by omega
  refine ⟨((h.ht.other _ hne).other _ hne).other _ hne, ((h.hk.set (n := 0) _ (by simp)).set (n := 1) _ (by simp)).set (n := 2) _ (by simp), ⟨ownB_setAp (ownB_setAp (ownB_setAp hB hap 0 _) hap 1 _) hap 2 _, own_off (own_off (own_off h.ho.lo h.nq 0 _) h.nq 1 _) h.nq 2 _, h.ho.k10, h.ho.u32, hl⟩, ((h.hb.setCell (p := ⟨bo, 0, none⟩) hle _).setCell (p := ⟨bo, 1, none⟩) hle _).setCell (p := ⟨bo, 2, none⟩) hle _, h.hR, h.ge, hap, h.nq⟩
theorem SV.list5 {W' : World} {q' : Option Addr} {k' d' : Nat} {l' : List Ud.Un} (h : SV w W R b0 bo p n c ys pp m cc q k d V) (hk : k' ≤ 10000) (ho : W'.ownsRow b0 66 3 (.slice q' k' d') k' (Ud.unC l')) (hg : W.grownBy W' (Value.slice q k d).ownBlock)
    (hb : (Value.slice q' k' d').ownBlock = (Value.slice q k d).ownBlock ∨ (∀ g, (Value.slice q' k' d').ownBlock = some g → W.heap.size ≤ g)) (hu : U32 l') :
    SV w (W'.setCell ⟨bo, 5, none⟩ (.slice q' k' d')) R b0 bo p n c ys pp m cc q' k' d' ⟨V.B, V.words, V.span, l'⟩ := by
  have hge := h.ge
  have hR := h.hR
  have hlt := h.hk.lt
  have nq' : ∀ g, (Value.slice q' k' d').ownBlock = some g → g ≠ bo := fun g e => by
    rcases hb with hb | hb
    · exact h.nq g (by rw [← hb]; exact e)
    · have := hb g e; omega
  have ap' : ∀ g, (Value.slice q' k' d').ownBlock = some g → Ap g p n c ys pp m cc := fun g e => by
    rcases hb with hb | hb
    · exact h.ho.ap g (by rw [← hb]; exact e)
    · exact Ap.under h.ho.ob.under (hb g e)
  have hob : OwnB b0 W' p n c ys pp m cc V.B := by
    cases hv : (Value.slice q k d).ownBlock with
    | none => rw [hv] at hg; exact ownB_grown0 h.ho.ob hg
    | some g => rw [hv] at hg; exact ownB_grownAp h.ho.ob (h.ho.ap g hv) hg
  refine ⟨(h.ht.grown hg (fun e => by have := (h.ho.lo.lt _ e).1; omega)).other _ (by omega), (h.hk.grown hg (fun e => h.nq bo e rfl)).set (n := 5) _ (by simp), ⟨ownB_setAp hob h.nb 5 _, own_off ho nq' _ _, hk, hu, ap'⟩, ?_, h.hR, h.ge, h.nb, nq'⟩
  exact (h.hb.grown hg h.hb.size (fun g e => by have := (h.ho.lo.lt g e).1; omega)).setCell (p := ⟨bo, 5, none⟩) (by show w.heap.size ≤ bo; omega) _
/-- A variable that holds banks which were made from block s on. -/
structure Bv (s : Nat) (W : World) (b : Nat) (p : Option Addr) (n c : Nat) (ys : List Value) (pp : Option Addr) (m cc : Nat) (B : Bk) : Prop where
  hk : Blk W b #[.slice p n c, .slice pp m cc, .int .i64 B.lost]
  ho : OwnB s W p n c ys pp m cc B
  ge : s ≤ b
theorem Bv.below {s : Nat} {W' : World} {b : Nat} {B : Bk} (h : Bv s W b p n c ys pp m cc B) (hb : Below W.heap.size W W') : Bv s W' b p n c ys pp m cc B := ⟨h.hk.below hb, h.ho.below hb, h.ge⟩
theorem Bv.grown {s : Nat} {W' : World} {b : Nat} {B : Bk} {row : Option Nat} (h : Bv s W b p n c ys pp m cc B) (hg : W.grownBy W' row) (hr : ∀ g, row = some g → g < s) : Bv s W' b p n c ys pp m cc B := by
  have hge := h.ge
  refine ⟨h.hk.grown hg (fun e => by have := hr _ e; omega), ?_, h.ge⟩
  cases row with
  | none => exact ownB_grown0 h.ho hg
  | some g => exact ownB_grownAp h.ho (Ap.over h.ho (hr g rfl)) hg
theorem Bv.set {s : Nat} {b : Nat} {B : Bk} (h : Bv s W b p n c ys pp m cc B) {X : Nat} (hX : X < s) (j : Nat) (u : Value) : Bv s (W.setCell ⟨X, j, none⟩ u) b p n c ys pp m cc B := by
  have hge := h.ge
  exact ⟨h.hk.other _ (by omega), ownB_setAp h.ho (Ap.over h.ho hX) j u, h.ge⟩

set_option maxHeartbeats 8000000 in
theorem swriteV_any {T : Nat → Prop} (S : Nat → Prop) (v : Value) (V : Vt) (a : Int) (x : Nat) (w : World) (h : Vo T w v V) (hS : ∀ R, S R → R < w.heap.size) (hx : x < 4294967296) :
    Calls Try.prog 8 #[v, .int .i64 a, .int .u32 x] w fun e w' => OutV S w w' e (writeV V a x) (writeVE V a) := by
  obtain ⟨⟨L, P, z⟩, wo, sp, l⟩ := V
  obtain ⟨p0, n, c0, xs0, pp0, m, cc0, q0, k, d0, rfl, hc, -⟩ := h
  dsimp only at hc ⊢
  have hm100 : m ≤ 100 := hc.bn.m100
  have hn100 : n ≤ 100 := hc.bn.n100
  have hk10 : k ≤ 10000 := hc.k10
  have HZN : Hid (L.length = n ∧ P.length = m ∧ l.length = k) := Lib.hid ⟨hc.bn.zn, hc.bn.zm, hc.ll⟩
  have HU32 : Hid (U32 l) := Lib.hid hc.u32
  have HSS := Lib.hid hS
  have HCP : Hid (∀ W, Below w.heap.size w W → Calls Try.prog 36 #[.agg #[.slice p0 n c0, .slice pp0 m cc0, .int .i64 z, .int .i64 wo, .int .i64 sp, .slice q0 k d0]] W fun e w' => ∃ p' c' ys pp' cc' q' d', e = .returned (.agg #[.slice p' n c', .slice pp' m cc', .int .i64 z, .int .i64 wo, .int .i64 sp, .slice q' k d']) ∧ OwnV W.heap.size w' p' n c' ys pp' m cc' q' k d' ⟨⟨L, P, z⟩, wo, sp, l⟩ ∧ Below W.heap.size W w') := Lib.hid (fun W hW => scopied_any p0 n c0 xs0 pp0 m cc0 q0 k d0 ⟨⟨L, P, z⟩, wo, sp, l⟩ W (hc.below hW))
  clear hS hc
  obtain ⟨w0, hw0⟩ : ∃ w0, w0 = (w.alloc (.cells #[.slice p0 n c0, .slice pp0 m cc0, .int .i64 z, .int .i64 wo, .int .i64 sp, .slice q0 k d0] 28)).alloc (.cells #[.slice none 0 0, .slice none 0 0, .int .i64 0, .int .i64 0, .int .i64 0, .slice none 0 0] 28) := ⟨_, rfl⟩
  have HB0 : Hid (Below w.heap.size w w0) := Lib.hid (by rw [hw0]; exact ((Below.refl _ _).alloc (Nat.le_refl _) _).alloc (by simp <;> omega) _)
  have HBK : Hid (Blk w0 w.heap.size #[.slice p0 n c0, .slice pp0 m cc0, .int .i64 z, .int .i64 wo, .int .i64 sp, .slice q0 k d0] ∧ Blk w0 (w.heap.size + 1) #[.slice none 0 0, .slice none 0 0, .int .i64 0, .int .i64 0, .int .i64 0, .slice none 0 0]) := Lib.hid (by
    have k0 := Blk.new w #[.slice p0 n c0, .slice pp0 m cc0, .int .i64 z, .int .i64 wo, .int .i64 sp, .slice q0 k d0] 28
    have k1 := Blk.new (w.alloc (.cells #[.slice p0 n c0, .slice pp0 m cc0, .int .i64 z, .int .i64 wo, .int .i64 sp, .slice q0 k d0] 28)) #[.slice none 0 0, .slice none 0 0, .int .i64 0, .int .i64 0, .int .i64 0, .slice none 0 0] 28
    simp only [World.size_alloc] at k1
    rw [hw0]
    exact ⟨(k0.alloc _), k1⟩)
  have HSZ : Hid (w0.heap.size = w.heap.size + 2) := Lib.hid (by rw [hw0]; simp only [World.size_alloc])
  have HW0 := Lib.hid hw0
  clear hw0
  have HNO : Hid (okA ⟨⟨L, P, z⟩, wo, sp, l⟩ a = false → writeV ⟨⟨L, P, z⟩, wo, sp, l⟩ a x = ⟨⟨L, P, z⟩, wo, sp, l⟩ ∧ writeVE ⟨⟨L, P, z⟩, wo, sp, l⟩ a = 1) := Lib.hid (fun e => by unfold writeV writeVE; rw [e]; exact ⟨rfl, rfl⟩)
  have HNL : Hid (okA ⟨⟨L, P, z⟩, wo, sp, l⟩ a = true → z ≠ 0 → writeV ⟨⟨L, P, z⟩, wo, sp, l⟩ a x = ⟨⟨L, P, z⟩, wo, sp, l⟩ ∧ writeVE ⟨⟨L, P, z⟩, wo, sp, l⟩ a = 8) := Lib.hid (fun e h0 => by
    unfold writeV writeVE
    rw [e]
    show (if (true && (decide (z = 0) && _)) then _ else _) = _ ∧ (if true then (if z = 0 then _ else _) else _) = _
    rw [decide_eq_false h0, if_neg h0]
    exact ⟨rfl, rfl⟩)
  have HYF : Hid (okA ⟨⟨L, P, z⟩, wo, sp, l⟩ a = true → z = 0 → Ud.fullW (lgV ⟨⟨L, P, z⟩, wo, sp, l⟩) a = true → writeV ⟨⟨L, P, z⟩, wo, sp, l⟩ a x = ⟨⟨L, P, z⟩, wo, sp, l⟩ ∧ writeVE ⟨⟨L, P, z⟩, wo, sp, l⟩ a = 6) := Lib.hid (fun e h0 h1 => by
    unfold writeV writeVE
    rw [e, h1]
    show (if (true && (decide (z = 0) && _)) then _ else _) = _ ∧ (if true then (if z = 0 then _ else _) else _) = _
    rw [decide_eq_true h0, if_pos h0]
    exact ⟨rfl, rfl⟩)
  have HYY : Hid (okA ⟨⟨L, P, z⟩, wo, sp, l⟩ a = true → z = 0 → Ud.fullW (lgV ⟨⟨L, P, z⟩, wo, sp, l⟩) a = false → writeV ⟨⟨L, P, z⟩, wo, sp, l⟩ a x = ⟨putA ⟨L, P, z⟩ a x, wo, sp, Ud.putL (lgV ⟨⟨L, P, z⟩, wo, sp, l⟩) a⟩ ∧ writeVE ⟨⟨L, P, z⟩, wo, sp, l⟩ a = 0) := Lib.hid (fun e h0 h1 => by
    unfold writeV writeVE
    rw [e, h1]
    show (if (true && (decide (z = 0) && _)) then _ else _) = _ ∧ (if true then (if z = 0 then _ else _) else _) = _
    rw [decide_eq_true h0, if_pos h0]
    exact ⟨rfl, rfl⟩)
  have HOK : Hid (okA ⟨⟨L, P, z⟩, wo, sp, l⟩ a = true → ∃ a0 n0 : Nat, a = (a0 : Int) ∧ a0 < n0 ∧ n0 ≤ 64 ∧ wo = (n0 : Int) ∧ Rv ⟨⟨L, P, z⟩, wo, sp, l⟩ n0 n m) := Lib.hid (fun e => by
    unfold okA at e
    rw [Bool.and_eq_true, decide_eq_true_eq] at e
    obtain ⟨n0, hv⟩ := rv_of e.1
    have hw : wo = (n0 : Int) := hv.w
    have hn1 := hv.n1
    have hz : (⟨L, P, z⟩ : Bk).rows.length = n := HZN.out.1
    have hp : (⟨L, P, z⟩ : Bk).par.length = m := HZN.out.2.1
    rw [show (⟨⟨L, P, z⟩, wo, sp, l⟩ : Vt).B = ⟨L, P, z⟩ from rfl, hz, hp] at hv
    have e2 : 0 ≤ a ∧ a < wo := e.2
    exact ⟨a.toNat, n0, by omega, by omega, hn1.2, hw, hv⟩)
  go_enter Try.func8, Try.ntmps8
  have kA := HBK.out.1.c
  go_upto_region 1 with fail
  rw [← HW0.out]
  clear HW0
  go_wp2_with fail
  refine (HCP.out w0 HB0.out).mono ?_
  rintro e w1 ⟨p, c, ys, pp, cc, q, d, rfl, ho, hb⟩
  have HB1 : Hid (Below w.heap.size w w1) := Lib.hid (HB0.out.trans (hb.mono HB0.out.size))
  have HSM : Hid (SV w (w1.alloc (.cells #[.slice p n c, .slice pp m cc, .int .i64 z, .int .i64 wo, .int .i64 sp, .slice q k d] 28)) (w.heap.size + 1) (w.heap.size + 2) w1.heap.size p n c ys pp m cc q k d ⟨⟨L, P, z⟩, wo, sp, l⟩) := Lib.hid (SV.make (b0 := w.heap.size + 2) (by rw [HSZ.out] at ho; exact ho) HB1.out (HBK.out.2.below hb) (by omega) (by rw [← HSZ.out]; exact hb.size))
  clear ho hb kA HCP HB0 HBK HB1
  go_upto_region 2 with fail
  obtain ⟨bo, hbo⟩ : ∃ b, b = w1.heap.size := ⟨_, rfl⟩
  obtain ⟨w2, hw2⟩ : ∃ W9, W9 = w1.alloc (.cells #[.slice p n c, .slice pp m cc, .int .i64 z, .int .i64 wo, .int .i64 sp, .slice q k d] 28) := ⟨_, rfl⟩
  rw [← hw2, ← hbo] at HSM
  rw [← hw2, ← hbo]
  clear hw2 hbo
  have HQ := Lib.hid (shas_any _ _ _ a w2 HSM.out.vo)
  obtain ⟨r, hr⟩ : ∃ r, r = okA ⟨⟨L, P, z⟩, wo, sp, l⟩ a := ⟨_, rfl⟩
  rw [← hr] at HQ HOK HNO HNL HYF HYY
  clear hr
  have kK := HSM.out.hk.c
  go_wp2_with fail
  refine HQ.out.mono ?_
  rintro e w3 ⟨rfl, hb⟩
  have HS3 := Lib.hid (HSM.out.below hb)
  clear hb kK HSM HQ
  cases r with
  | false =>
    have HN := Lib.hid (HNO.out (by first | rfl | trivial))
    clear HNO HNL HYF HYY HOK
    have kK := HS3.out.hk.c
    have kT := HS3.out.ht.c
    have fT := HS3.out.ht.f
    have lT := HS3.out.ht.lt
    go_wp2_with fail
    refine bodyPost_ret (v := .tuple #[.agg #[.slice p n c, .slice pp m cc, .int .i64 z, .int .i64 wo, .int .i64 sp, .slice q k d], .int .i64 1]) (by simp [results, Try.results8, go_sem, *]) rfl (HS3.out.out HSS.out 1 HN.out)
  | true =>
    obtain ⟨a0, n0, rfl, ha0, hn0, hwo, hrv⟩ := HOK.out (by first | rfl | trivial)
    have HRV := Lib.hid hrv
    have HBM := Lib.hid hrv.bm
    have HK256 : Hid (k ≤ 256) := Lib.hid (by have h9 := hrv.rt.n256; rw [show (lgV ⟨⟨L, P, z⟩, wo, sp, l⟩).list.length = k from HZN.out.2.2] at h9; exact h9)
    have HPL := Lib.hid (place_lt hrv.bm.1 hrv.mm ha0)
    have HWO := Lib.hid hwo
    have hn1 : 1 ≤ n := hrv.bm.1
    clear hrv hwo HNO HOK
    have HRD := Lib.hid (sread_any p n c ys pp m cc ⟨L, P, z⟩ a0 w3 HS3.out.ho.ob.bn hn1 (by omega))
    obtain ⟨was, hwas⟩ : ∃ y, y = readN ⟨L, P, z⟩ ((a0 % n : Nat) : Int) ((a0 / n : Nat) : Int) := ⟨_, rfl⟩
    obtain ⟨er, her⟩ : ∃ y, y = readE ⟨L, P, z⟩ ((a0 % n : Nat) : Int) ((a0 / n : Nat) : Int) := ⟨_, rfl⟩
    rw [← hwas, ← her] at HRD
    have HWAS := Lib.hid hwas
    clear hwas her
    have kK := HS3.out.hk.c
    go_wp2_with fail
    refine HRD.out.mono ?_
    rintro e w4 ⟨rfl, hb⟩
    have HS4 := Lib.hid (HS3.out.below hb)
    clear hb kK HS3 HRD
    have HWR := Lib.hid (swrite_any p n c ys pp m cc ⟨L, P, z⟩ a0 x w4 HS4.out.ho.ob.bn hn1 (by omega) hx)
    have kK := HS4.out.hk.c
    go_wp2_with fail
    refine HWR.out.mono ?_
    rintro e w5 ⟨p2, c2, ys2, pp2, cc2, rfl, ho, hb⟩
    have HS5 := Lib.hid (HS4.out.below hb)
    have HGE : Hid (bo < w4.heap.size ∧ (∀ g, (Value.slice q k d).ownBlock = some g → g < w4.heap.size) ∧ w4.heap.size ≤ w5.heap.size) := Lib.hid ⟨HS4.out.hk.lt, fun g e => (HS4.out.ho.lo.lt g e).2, hb.size⟩
    obtain ⟨nb, hnb⟩ : ∃ y, y = w4.heap.size := ⟨_, rfl⟩
    have HEE : Hid (writeE ⟨L, P, z⟩ ((a0 % n : Nat) : Int) ((a0 / n : Nat) : Int) = (if z = 0 then 0 else 8)) := Lib.hid (by
      unfold writeE
      rw [hasW_of HRV.out.right (Int.natCast_nonneg _) (by have h9 := HPL.out.1; rw [HRV.out.zn]; omega) (Int.natCast_nonneg _) (by have h9 := HPL.out.2; rw [HRV.out.zm]; omega), if_pos rfl])
    have HEB : Hid (writeB ⟨L, P, z⟩ ((a0 % n : Nat) : Int) ((a0 / n : Nat) : Int) x = putA ⟨L, P, z⟩ (a0 : Int) (x : Int)) := Lib.hid (by
      unfold putA
      rw [Int.toNat_natCast, Int.toNat_natCast, show (⟨L, P, z⟩ : Bk).rows.length = n from HZN.out.1])
    rw [HEE.out]
    rw [HEB.out] at ho
    rw [HEB.out]
    obtain ⟨B2, hB2⟩ : ∃ y, y = putA ⟨L, P, z⟩ (a0 : Int) (x : Int) := ⟨_, rfl⟩
    rw [← hB2] at ho HYY
    rw [← hB2]
    rw [← hnb] at ho HGE
    have HO5 := Lib.hid ho
    clear ho hb kK HS4 HWR HEB HEE hB2 hnb
    by_cases hz0 : z = 0
    · rw [if_pos hz0]
      have HZ0 := Lib.hid hz0
      clear hz0
      go_upto_region 6 with fail
      obtain ⟨bv, hbv⟩ : ∃ y, y = w5.heap.size := ⟨_, rfl⟩
      obtain ⟨w6, hw6⟩ : ∃ y, y = w5.alloc (.cells #[.slice p2 n c2, .slice pp2 m cc2, .int .i64 B2.lost] 25) := ⟨_, rfl⟩
      have HBV : Hid (Bv nb w6 bv p2 n c2 ys2 pp2 m cc2 B2) := Lib.hid (by
        rw [hw6, hbv]
        exact ⟨Blk.new _ _ _, HO5.out.below ((Below.refl _ _).alloc (Nat.le_refl _) _), HGE.out.2.2⟩)
      have HS6 : Hid (SV w w6 (w.heap.size + 1) (w.heap.size + 2) bo p n c ys pp m cc q k d ⟨⟨L, P, z⟩, wo, sp, l⟩) := Lib.hid (by rw [hw6]; exact HS5.out.below ((Below.refl _ _).alloc (Nat.le_refl _) _))
      rw [← hw6, ← hbv]
      clear hw6 hbv HS5 HO5
      have HKE := Lib.hid (kept_any q k d l sp (a0 : Int) w6 HZN.out.2.2 HS6.out.ho.vc.ls hk10 HRV.out.rt.sort)
      have HFU : Hid (Ud.fullW (lgV ⟨⟨L, P, z⟩, wo, sp, l⟩) (a0 : Int) = (!Ud.hasU l sp (a0 : Int) && decide (k = 256)) ∧ Ud.putL (lgV ⟨⟨L, P, z⟩, wo, sp, l⟩) (a0 : Int) = (if Ud.hasU l sp (a0 : Int) = true then l else l ++ [⟨sp, (a0 : Int), (was : Int)⟩])) := Lib.hid (by
        refine ⟨?_, ?_⟩
        · unfold Ud.fullW
          show (!Ud.hasU l sp (a0 : Int) && decide (l.length = 256)) = _
          rw [HZN.out.2.2]
        · unfold Ud.putL
          show (if Ud.hasU l sp (a0 : Int) = true then l else l ++ [⟨sp, (a0 : Int), (memB ⟨L, P, z⟩ wo.toNat).getD (a0 : Int).toNat 0⟩]) = _
          rw [Int.toNat_natCast, memB_at _ _ _ (by rw [HWO.out, Int.toNat_natCast]; exact ha0), HWAS.out]
          have hs := HRV.out.sd HZ0.out
          have hp := HPL.out
          rw [(read_good hs.good hp.1 hp.2).1]
          unfold wdA
          rw [show (⟨L, P, z⟩ : Bk).rows.length = n from HZN.out.1])
      have HU2 : Hid (was < 4294967296) := Lib.hid (by
        have hp := HPL.out
        rw [HWAS.out, (read_good (HRV.out.sd HZ0.out).good hp.1 hp.2).1]
        exact HS6.out.ho.ob.bn.rw_.word_lt _ _)
      have HB0' : Hid (OwnB (w.heap.size + 2) w6 p2 n c2 ys2 pp2 m cc2 B2) := Lib.hid (HBV.out.ho.mono (by have := HS6.out.ge; have := HGE.out.1; omega))
      obtain ⟨hu, hhu⟩ : ∃ y, y = Ud.hasU l sp (a0 : Int) := ⟨_, rfl⟩
      rw [← hhu] at HKE HFU
      clear hhu HNL HRV HPL HBM HWAS
      have kK := HS6.out.hk.c
      go_wp2_with fail
      refine HKE.out.mono ?_
      rintro e w7 ⟨rfl, hb⟩
      have HS7 := Lib.hid (HS6.out.below hb)
      have HV7 := Lib.hid (HBV.out.below hb)
      have HO7 := Lib.hid (HB0'.out.below hb)
      clear hb kK HS6 HBV HKE HB0'
      cases hu with
      | true =>
        have HN := Lib.hid (HYY.out (by first | rfl | trivial) HZ0.out (by rw [HFU.out.1]; rfl))
        have HPU : Hid (Ud.putL (lgV ⟨⟨L, P, z⟩, wo, sp, l⟩) (a0 : Int) = l) := Lib.hid (by rw [HFU.out.2, if_pos rfl])
        rw [HPU.out] at HN
        clear HYY HYF HPU HFU
        have kB := HV7.out.hk.c
        have kK := HS7.out.hk.c
        have fK := HS7.out.hk.f
        have lK := HS7.out.hk.lt
        have HS8 := Lib.hid (HS7.out.banks HO7.out (Ap.over HV7.out.ho HGE.out.1) (fun g e => Ap.over HV7.out.ho (HGE.out.2.1 g e)))
        go_upto_region 13 with fail
        obtain ⟨w8, hw8⟩ : ∃ y, y = ((w7.setCell ⟨bo, 0, none⟩ (.slice p2 n c2)).setCell ⟨bo, 1, none⟩ (.slice pp2 m cc2)).setCell ⟨bo, 2, none⟩ (.int .i64 B2.lost) := ⟨_, rfl⟩
        rw [← hw8] at HS8 ⊢
        clear hw8 kB kK fK lK HS7 HV7 HO7
        obtain ⟨L2, P2, z2⟩ := B2
        have kK := HS8.out.hk.c
        have kT := HS8.out.ht.c
        have fT := HS8.out.ht.f
        have lT := HS8.out.ht.lt
        go_wp2_with fail
        refine bodyPost_ret (v := .tuple #[.agg #[.slice p2 n c2, .slice pp2 m cc2, .int .i64 z2, .int .i64 wo, .int .i64 sp, .slice q k d], .int .i64 0]) (by simp [results, Try.results8, go_sem, *]) rfl (HS8.out.out HSS.out 0 HN.out)
      | false =>
        have kK := HS7.out.hk.c
        by_cases h256 : k = 256
        · have HN := Lib.hid (HYF.out (by first | rfl | trivial) HZ0.out (by rw [HFU.out.1, decide_eq_true h256]; rfl))
          have hkI : ((k : Int) == 256) = true := by rw [h256]; rfl
          clear HYY HYF HFU HV7 HO7 h256 kK
          have kK := HS7.out.hk.c
          have kT := HS7.out.ht.c
          have fT := HS7.out.ht.f
          have lT := HS7.out.ht.lt
          go_wp2_with fail
          refine bodyPost_ret (v := .tuple #[.agg #[.slice p n c, .slice pp m cc, .int .i64 z, .int .i64 wo, .int .i64 sp, .slice q k d], .int .i64 6]) (by simp [results, Try.results8, go_sem, *]) rfl (HS7.out.out HSS.out 6 HN.out)
        · have HN := Lib.hid (HYY.out (by first | rfl | trivial) HZ0.out (by rw [HFU.out.1, decide_eq_false h256]; rfl))
          have hkI : ((k : Int) == 256) = false := by simp; omega
          have HPU : Hid (Ud.putL (lgV ⟨⟨L, P, z⟩, wo, sp, l⟩) (a0 : Int) = l ++ [⟨sp, (a0 : Int), (was : Int)⟩]) := Lib.hid (by rw [HFU.out.2]; rfl)
          rw [HPU.out] at HN
          clear HYY HYF HPU HFU
          obtain ⟨i0, hi, hz0', hz1, hz2⟩ := info_parts Ud.info51
          have HI := Lib.hid (And.intro hi (And.intro hz0' (And.intro hz1 hz2)))
          clear hi hz0' hz1 hz2
          have HLE : Hid (k + 1 ≤ 10000) := Lib.hid (by have h9 := HK256.out; omega)
          have HUU : Hid (U32 (l ++ [⟨sp, (a0 : Int), (was : Int)⟩])) := Lib.hid (fun u hu => by
            rcases List.mem_append.1 hu with hu | hu
            · exact HU32.out u hu
            · rw [List.mem_singleton.1 hu]
              have := HU2.out
              dsimp only
              omega)
          have HS8 : Hid (SV w (w7.alloc (.cells #[.int .i64 sp, .int .i64 (a0 : Int), .int .u32 (was : Int)] 66)) (w.heap.size + 1) (w.heap.size + 2) bo p n c ys pp m cc q k d ⟨⟨L, P, z⟩, wo, sp, l⟩) := Lib.hid (HS7.out.below ((Below.refl _ _).alloc (Nat.le_refl _) _))
          have HV8 := Lib.hid (HV7.out.below ((Below.refl _ _).alloc (Nat.le_refl _) (.cells #[.int .i64 sp, .int .i64 (a0 : Int), .int .u32 (was : Int)] 66)))
          have HNW : Hid (Blk (w7.alloc (.cells #[.int .i64 sp, .int .i64 (a0 : Int), .int .u32 (was : Int)] 66)) w7.heap.size (Ud.unC [⟨sp, (a0 : Int), (was : Int)⟩]).toArray) := Lib.hid (Blk.new _ _ _)
          have hge7 : w.heap.size + 2 ≤ w7.heap.size := by have h1 := HS7.out.hk.lt; have h2 := HS7.out.ge; omega
          go_upto_region 12 with (first | (at_builtin; refine wpList_append_sl rfl _ _ 26 rfl (w.heap.size + 2) 66 i0 _ 3 24 Try.underlying26 HI.out.1 HI.out.2.1 HI.out.2.2.1 HI.out.2.2.2 rfl (by decide) _ k (Ud.unC l) rfl HS8.out.ho.lo (some ⟨w7.heap.size, 0, none⟩) 1 1 (Ud.unC [⟨sp, (a0 : Int), (was : Int)⟩]) rfl rfl (Ud.blk_sl HNW.out) (Ud.unC_oneCell _) (by have := HLE.out; unfold maxLen; omega) (by have := HLE.out; omega) (by have := hge7; simp; omega) ?_; intro v' w9 g1 g2 g3; obtain ⟨q', d', rfl, -⟩ := own_cap g1; have HS10 := Lib.hid (HS8.out.list5 (l' := l ++ [⟨sp, (a0 : Int), (was : Int)⟩]) HLE.out (by rw [Ud.unC_app]; exact g1) g2 (by rcases g3 with g3 | g3; exact .inl g3; exact .inr (fun g' e => by rw [g3] at e; injection e with e; omega)) HUU.out); have HV9 := Lib.hid ((HV8.out.grown g2 (fun g e => HGE.out.2.1 g e)).set (X := bo) HGE.out.1 5 (.slice q' (k + 1) d')); have HAP : Hid (∀ g, (Value.slice q' (k + 1) d').ownBlock = some g → Ap g p2 n c2 ys2 pp2 m cc2) := Lib.hid (fun g' e => by rcases g3 with g3 | g3; exact Ap.over HV8.out.ho (HGE.out.2.1 g' (g3.symm.trans e)); exact Ap.under HV8.out.ho.under (by have e5 := g3.symm.trans e; injection e5 with e5; omega)); have HK9 := Lib.hid (HS8.out.hk.grown g2 (fun e => HS8.out.nq bo e rfl)); clear g1 g2 g3 HS8 HS7 HNW HV7 HV8 HO7 hge7 kK; have kK := HK9.out.c; have fK := HK9.out.f; have lK := HK9.out.lt))
          obtain ⟨w10, hw10⟩ : ∃ y, y = w9.setCell ⟨bo, 5, none⟩ (.slice q' (k + 1) d') := ⟨_, rfl⟩
          rw [← hw10] at HS10 HV9 ⊢
          clear hw10 kK fK lK HK9
          obtain ⟨k2, hk2⟩ : ∃ y, y = k + 1 := ⟨_, rfl⟩
          rw [← hk2] at HS10 HAP ⊢
          clear hk2
          have kB := HV9.out.hk.c
          have kK := HS10.out.hk.c
          have fK := HS10.out.hk.f
          have lK := HS10.out.hk.lt
          have HS11 := Lib.hid (HS10.out.banks (HV9.out.ho.mono (by have h1 := HS10.out.ge; have h2 := HGE.out.1; omega)) (Ap.over HV9.out.ho HGE.out.1) HAP.out)
          go_upto_region 13 with fail
          obtain ⟨w11, hw11⟩ : ∃ y, y = ((w10.setCell ⟨bo, 0, none⟩ (.slice p2 n c2)).setCell ⟨bo, 1, none⟩ (.slice pp2 m cc2)).setCell ⟨bo, 2, none⟩ (.int .i64 B2.lost) := ⟨_, rfl⟩
          rw [← hw11] at HS11 ⊢
          clear hw11 kB kK fK lK HS10 HV9 HAP
          obtain ⟨L2, P2, z2⟩ := B2
          have kK := HS11.out.hk.c
          have kT := HS11.out.ht.c
          have fT := HS11.out.ht.f
          have lT := HS11.out.ht.lt
          go_wp2_with fail
          refine bodyPost_ret (v := .tuple #[.agg #[.slice p2 n c2, .slice pp2 m cc2, .int .i64 z2, .int .i64 wo, .int .i64 sp, .slice q' k2 d'], .int .i64 0]) (by simp [results, Try.results8, go_sem, *]) rfl (HS11.out.out HSS.out 0 HN.out)
    · rw [if_neg hz0]
      have HZ0 := Lib.hid hz0
      clear hz0
      have HN := Lib.hid (HNL.out (by first | rfl | trivial) HZ0.out)
      clear HNL HYF HYY
      go_upto_region 6 with fail
      obtain ⟨w6, hw6⟩ : ∃ y, y = w5.alloc (.cells #[.slice p2 n c2, .slice pp2 m cc2, .int .i64 B2.lost] 25) := ⟨_, rfl⟩
      have HS6 : Hid (SV w w6 (w.heap.size + 1) (w.heap.size + 2) bo p n c ys pp m cc q k d ⟨⟨L, P, z⟩, wo, sp, l⟩) := Lib.hid (by rw [hw6]; exact HS5.out.below ((Below.refl _ _).alloc (Nat.le_refl _) _))
      rw [← hw6]
      clear hw6 HS5 HO5
      have kK := HS6.out.hk.c
      have kT := HS6.out.ht.c
      have fT := HS6.out.ht.f
      have lT := HS6.out.ht.lt
      go_wp2_with fail
      refine bodyPost_ret (v := .tuple #[.agg #[.slice p n c, .slice pp m cc, .int .i64 z, .int .i64 wo, .int .i64 sp, .slice q k d], .int .i64 8]) (by simp [results, Try.results8, go_sem, *]) rfl (HS6.out.out HSS.out 8 HN.out)
end Go.Proofs.Ytflakmabciokbaa
/- Some of a list taken out, in memory of one's own, for two questions: of an interval or a later one, and of an earlier one; no condition but that the list reads. -/
namespace Go.Proofs.Ytflakmabciokbaa
set_option linter.unusedVariables false
set_option linter.unusedSimpArgs false
open Go.ChangeShapes Go.WideShapes Go.ChangeAt Go.RowKit

theorem unC_set (M : List Ud.Un) (i : Nat) (hi : i < M.length) (us ua uv : Int) : (((Ud.unC M).set (i * 3) (.int .i64 us)).set (i * 3 + 1) (.int .i64 ua)).set (i * 3 + 2) (.int .u32 uv) = Ud.unC (M.set i ⟨us, ua, uv⟩) := by
  induction M generalizing i with
  | nil => exact absurd hi (Nat.not_lt_zero _)
  | cons x r ih =>
    cases i with
    | zero => rw [List.set_cons_zero, Ud.unC_cons, Ud.unC_cons]; rfl
    | succ i =>
      rw [List.set_cons_succ, Ud.unC_cons, Ud.unC_cons, ← ih i (by simpa using hi)]
      show (((([_, _, _] ++ Ud.unC r).set ((i + 1) * 3) _).set ((i + 1) * 3 + 1) _).set ((i + 1) * 3 + 2) _ : List Value) = _
      rw [show (i + 1) * 3 = i * 3 + 3 by omega]
      rfl
def keepF (pr : Ud.Un → Bool) (l : List Ud.Un) : List Ud.Un := l.filter fun u => !pr u
theorem keepF_snoc (pr : Ud.Un → Bool) {l : List Ud.Un} {j : Nat} (hj : j < l.length) : keepF pr (l.take (j + 1)) = keepF pr (l.take j) ++ (if pr (l.getD j Ud.zU) then [] else [l.getD j Ud.zU]) := by
  rw [take_snoc hj]
  unfold keepF
  rw [List.filter_append]
  by_cases h : pr (l.getD j Ud.zU) = true
  · rw [if_pos h, List.filter_cons_of_neg (by rw [h]; decide), List.filter_nil]
  · rw [if_neg h, List.filter_cons_of_pos (by simpa using h), List.filter_nil]
def gePr (t : Int) (u : Ud.Un) : Bool := decide (t ≤ u.span)
def ltPr (t : Int) (u : Ud.Un) : Bool := decide (u.span < t)
/-- A list in the midst of it: i are kept of j. -/
structure Mid (pr : Ud.Un → Bool) (l M : List Ud.Un) (n i j : Nat) : Prop where
  len : M.length = n
  ij : i < j
  jn : j ≤ n
  kept : M.take i = keepF pr (l.take j)
  rest : M.drop j = l.drop j
theorem Mid.first {pr : Ud.Un → Bool} {l : List Ud.Un} {n i : Nat} (hl : l.length = n) (hi : i < n) (h1 : pr (l.getD i Ud.zU) = true) (h2 : ∀ j, j < i → pr (l.getD j Ud.zU) = false) : Mid pr l l n i (i + 1) := by
  have hk : ∀ t, t ≤ i → keepF pr (l.take t) = l.take t := fun t ht => by
    unfold keepF
    rw [List.filter_eq_self]
    intro u hu
    obtain ⟨k, hk, rfl⟩ := Ud.mem_idx (l.take t) Ud.zU u hu
    rw [List.length_take] at hk
    have : (l.take t).getD k Ud.zU = l.getD k Ud.zU := by rw [List.getD_eq_getElem?_getD, List.getElem?_take_of_lt (by omega), ← List.getD_eq_getElem?_getD]
    rw [this, h2 k (by omega)]; rfl
  refine ⟨hl, Nat.lt_succ_self _, hi, ?_, rfl⟩
  rw [keepF_snoc pr (by omega), h1, if_pos rfl, List.append_nil, hk i (Nat.le_refl _)]
theorem Mid.at_ {pr : Ud.Un → Bool} {l M : List Ud.Un} {n i j : Nat} (h : Mid pr l M n i j) (hl : l.length = n) (hj : j < n) : M.getD j Ud.zU = l.getD j Ud.zU := by
  have h1 := h.rest
  have : (M.drop j).getD 0 Ud.zU = (l.drop j).getD 0 Ud.zU := by rw [h1]
  simpa [List.getD_eq_getElem?_getD, List.getElem?_drop] using this
theorem Mid.drop {pr : Ud.Un → Bool} {l M : List Ud.Un} {n i j : Nat} (h : Mid pr l M n i j) (hl : l.length = n) (hj : j < n) (hp : pr (l.getD j Ud.zU) = true) : Mid pr l M n i (j + 1) := by
  refine ⟨h.len, by have := h.ij; omega, hj, ?_, ?_⟩
  · rw [keepF_snoc pr (by omega), hp, if_pos rfl, List.append_nil]; exact h.kept
  · rw [← List.drop_drop (i := 1) (j := j), ← List.drop_drop (i := 1) (j := j), h.rest]
theorem Mid.put {pr : Ud.Un → Bool} {l M : List Ud.Un} {n i j : Nat} (h : Mid pr l M n i j) (hl : l.length = n) (hj : j < n) (hp : pr (l.getD j Ud.zU) = false) : Mid pr l (M.set i (l.getD j Ud.zU)) n (i + 1) (j + 1) := by
  have hij := h.ij
  have hlen := h.len
  refine ⟨by rw [List.length_set]; exact h.len, by omega, hj, ?_, ?_⟩
  · rw [keepF_snoc pr (by omega), hp, ← h.kept]
    rw [List.take_succ_eq_append_getElem (by rw [List.length_set]; omega), List.take_set_of_le (Nat.le_refl _)]
    simp
  · rw [List.drop_set_of_lt (by omega), ← List.drop_drop (i := 1) (j := j), ← List.drop_drop (i := 1) (j := j), h.rest]
theorem own_store3 {base g n cap i : Nat} {w : World} {M : List Ud.Un} (h : w.ownsRow base 66 3 (.slice (some ⟨g, 0, none⟩) n cap) n (Ud.unC M)) (hM : M.length = n) (hi : i < n) (us ua uv : Int) :
    (((w.setCell ⟨g, i * 3, none⟩ (.int .i64 us)).setCell ⟨g, i * 3 + 1, none⟩ (.int .i64 ua)).setCell ⟨g, i * 3 + 2, none⟩ (.int .u32 uv)).ownsRow base 66 3 (.slice (some ⟨g, 0, none⟩) n cap) n (Ud.unC (M.set i ⟨us, ua, uv⟩)) ∧ w.grownBy (((w.setCell ⟨g, i * 3, none⟩ (.int .i64 us)).setCell ⟨g, i * 3 + 1, none⟩ (.int .i64 ua)).setCell ⟨g, i * 3 + 2, none⟩ (.int .u32 uv)) (some g) := by
  have h1 := h.stored (i * 3) (.int .i64 us)
  have h2 := h1.1.stored (i * 3 + 1) (.int .i64 ua)
  have h3 := h2.1.stored (i * 3 + 2) (.int .u32 uv)
  refine ⟨?_, grown_trans h1.2 (grown_trans h2.2 h3.2)⟩
  rw [← unC_set M i (by omega)]
  exact h3.1
theorem own_clear {base g n cap i : Nat} {w : World} {M : List Ud.Un} (h : w.ownsRow base 66 3 (.slice (some ⟨g, 0, none⟩) n cap) n (Ud.unC M)) (hM : M.length = n) (hi : i < n) :
    ∃ W2 : World, (∀ ty c, (Builtin.clear_ #[26] ty #[.slice (some ⟨g, i * 3, none⟩) (n - i) c]).run Try.prog w = .ok (.tuple #[]) W2) ∧ W2.ownsRow base 66 3 (.slice (some ⟨g, 0, none⟩) i cap) i (Ud.unC (M.take i)) ∧ w.grownBy W2 (some g) := by
  obtain ⟨hlen, ⟨he, _⟩ | ⟨g', cap', cur, he, hbg, hg, hnc, hcm, hcs, htake⟩⟩ := h
  · injection he with he; cases he
  injection he with e1 e2 e3
  injection e1 with e1
  injection e1 with e1
  subst e1 e3
  refine ⟨_, fun ty c => Ud.clear_row w g (i * 3) (n - i) c cur (by omega) hg (by rw [hcs]; omega) ty, ⟨?_, .inr ⟨g, cap, _, rfl, hbg, setRow_heap w g cur _ _ _ hg, by omega, hcm, ?_, ?_⟩⟩, Ud.row_grown w g _⟩
  · rw [Ud.unC_len, List.length_take]; omega
  · simp only [List.size_toArray, List.length_append, List.length_take, List.length_drop, Array.length_toList, Ud.zrC_len, hcs]
    omega
  · show (cur.toList.take (i * 3) ++ Ud.zrC (n - i) ++ cur.toList.drop (i * 3 + (n - i) * 3)).take (i * 3) = _
    have e1 : (cur.toList.take (i * 3)).length = i * 3 := by rw [List.length_take, Array.length_toList, hcs]; omega
    rw [List.append_assoc, List.take_append_of_le_length (by rw [e1]; exact Nat.le_refl _), List.take_of_length_le (by rw [e1]; exact Nat.le_refl _)]
    rw [Ud.unC_take, ← htake, List.take_take, Nat.min_eq_left (by omega)]
theorem below_grow {w W W' : World} {g : Nat} (h : w.grownBy W (some g)) (hb : Below W.heap.size W W') : w.grownBy W' (some g) :=
  ⟨hb.os.trans h.os, hb.tape.trans h.tape, hb.output.trans h.output, Nat.le_trans h.size hb.size, fun k hk hne => (hb.block k (Nat.lt_of_lt_of_le hk h.size)).trans (h.block k hk hne)⟩

theorem predGe_any (us ua uv t : Int) (X : Nat) (w : World) (hX : w.cell? ⟨X, 0, none⟩ = some (.int .i64 t)) (hl : X < w.heap.size) :
    Calls Try.prog 48 #[.agg #[.int .i64 us, .int .i64 ua, .int .u32 uv], .pointer (some ⟨X, 0, none⟩)] w fun e w' => e = .returned (.bool (decide (t ≤ us))) ∧ Below w.heap.size w w' := by
  have hX2 := (Below.alloc (Below.refl w.heap.size w) (Nat.le_refl _) (.cells #[.int .i64 us, .int .i64 ua, .int .u32 uv] 66)).cell (p := ⟨X, 0, none⟩) hl |>.trans hX
  obtain ⟨b, hb⟩ : ∃ b, b = decide (t ≤ us) := ⟨_, rfl⟩
  rw [← hb]
  have hb' := hb.symm
  clear hb
  go_enter Try.func48, Try.ntmps48
  go_wp2_with fail
  go_ret
  exact ⟨rfl, (Below.refl _ _).alloc (Nat.le_refl _) _⟩

set_option maxHeartbeats 4000000 in
theorem indexGe_any (q : Option Addr) (n x : Nat) (t : Int) (X : Nat) (l : List Ud.Un) (w : World) (hX : w.cell? ⟨X, 0, none⟩ = some (.int .i64 t)) (hxl : X < w.heap.size)
    (hl : l.length = n) (hs : Sl w q n (Ud.unC l)) (hn : n ≤ 10000) :
    Calls Try.prog 86 #[.slice q n x, .func (.func 48) #[] #[.pointer (some ⟨X, 0, none⟩)]] w fun e w' => ((e = .returned (.int .i64 (-1)) ∧ Hid (∀ j, j < n → (gePr t) (l.getD j Ud.zU) = false)) ∨ ∃ i : Nat, e = .returned (.int .i64 i) ∧ i < n ∧ Hid ((gePr t) (l.getD i Ud.zU) = true) ∧ Hid (∀ j, j < i → (gePr t) (l.getD j Ud.zU) = false)) ∧ Below w.heap.size w w' := by
  have HAT : Hid (∀ k, k < n → ∃ b off, q = some ⟨b, off, none⟩ ∧ Ud.UnAt w b off k (l.getD k Ud.zU)) := Lib.hid (fun k hk => Ud.un_at (by rw [hl]; exact hs) k (by omega))
  have HBAD : Hid (∀ W, Below w.heap.size w W → ∀ us ua uv : Int, Calls Try.prog 48 #[.agg #[.int .i64 us, .int .i64 ua, .int .u32 uv], .pointer (some ⟨X, 0, none⟩)] W fun e w' => e = .returned (.bool (decide (t ≤ us))) ∧ Below W.heap.size W w') :=
    Lib.hid (fun W hW us ua uv => predGe_any us ua uv t X W ((hW.cell (p := ⟨X, 0, none⟩) hxl).trans hX) (Nat.lt_of_lt_of_le hxl hW.size))
  clear hs hl hX hxl
  go_enter Try.func86, Try.ntmps86
  go_wp2_with fail
  go_loopw [8] (fun i wr => ∃ k : Nat, k ≤ n ∧ i = .int .i64 k ∧ Hid (∀ j, j < k → (gePr t) (l.getD j Ud.zU) = false) ∧ Below w.heap.size w wr) (fun i _ => n - (intOf i).toNat)
  case atStart => exact ⟨0, Nat.zero_le _, rfl, Lib.hid (fun j hj => absurd hj (Nat.not_lt_zero _)), Below.refl _ _⟩
  case round =>
    obtain ⟨k, hk, rfl, HALL, hb⟩ := hrel
    have HB := Lib.hid hb
    clear hb
    by_cases hlt : k < n
    · obtain ⟨b, off, rfl, hat⟩ := HAT.out k hlt
      obtain ⟨l0, c0, c1, c2⟩ := hat.below HB.out
      have hkI : (k : Int) < (n : Int) := by omega
      obtain ⟨y, hy⟩ : ∃ y, y = l.getD k Ud.zU := ⟨_, rfl⟩
      rw [← hy] at c0 c1 c2
      obtain ⟨us, ua, uv⟩ := y
      dsimp only at c0 c1 c2
      have HC := Lib.hid (HBAD.out wr HB.out us ua uv)
      have HX : Hid ((gePr t) (l.getD k Ud.zU) = decide (t ≤ us)) := Lib.hid (by rw [← hy]; rfl)
      obtain ⟨g, hg⟩ : ∃ g, g = decide (t ≤ us) := ⟨_, rfl⟩
      rw [← hg] at HC HX
      clear hat hy hg
      cases g with
      | true =>
        go_wp2_with fail
        refine HC.out.mono ?_
        rintro e w' ⟨rfl, hb'⟩
        go_wp2_with fail
        go_ret
        exact ⟨.inr ⟨k, rfl, hlt, HX, HALL⟩, HB.out.trans (hb'.mono HB.out.size)⟩
      | false =>
        go_wp2_with fail
        refine HC.out.mono ?_
        rintro e w' ⟨rfl, hb'⟩
        go_wp2_with fail
        go_roundw
        case rel => exact ⟨k + 1, by omega, by go_num, Lib.hid (fun j hj => by
          by_cases e : j = k
          · rw [e]; exact HX.out
          · exact HALL.out j (by omega)), HB.out.trans (hb'.mono HB.out.size)⟩
        case measure => simp [intOf]; omega
    · have hkn : k = n := by omega
      subst hkn
      go_wp2_with fail
      go_ret
      exact ⟨.inl ⟨rfl, HALL⟩, HB.out⟩

set_option maxHeartbeats 4000000 in
theorem deleteGe_any (base : Nat) (q : Option Addr) (n cap : Nat) (t : Int) (X : Nat) (l : List Ud.Un) (w : World) (h : w.ownsRow base 66 3 (.slice q n cap) n (Ud.unC l)) (hl : l.length = n) (hn : n ≤ 10000) (hX : w.cell? ⟨X, 0, none⟩ = some (.int .i64 t)) (hxl : X < w.heap.size) (hxb : X < base) :
    Calls Try.prog 47 #[.slice q n cap, .func (.func 48) #[] #[.pointer (some ⟨X, 0, none⟩)]] w fun e w' => ∃ k, e = .returned (.slice q k cap) ∧ (keepF (gePr t) l).length = k ∧ w'.ownsRow base 66 3 (.slice q k cap) k (Ud.unC (keepF (gePr t) l)) ∧ w.grownBy w' (Value.slice q n cap).ownBlock := by
  have hnc : n ≤ cap := by
    obtain ⟨p2, c2, e2, hc⟩ := own_cap h
    injection e2 with _ _ e2
    omega
  have hs : Sl w q n (Ud.unC l) := by
    obtain ⟨p', c', e, hs⟩ := Sl.own h
    injection e with e1 e2 e3
    subst e1 e3
    exact hs
  have HIX := Lib.hid (indexGe_any q n cap t X l w hX hxl hl hs hn)
  have HO := Lib.hid h
  have HL := Lib.hid hl
  have HXX := Lib.hid (And.intro hX (And.intro hxl hxb))
  clear h hl hs hX hxl hxb
  go_enter Try.func47, Try.ntmps47
  go_wp2_with fail
  refine HIX.out.mono ?_
  clear HIX
  rintro e w1 ⟨⟨rfl, hno⟩ | ⟨i, rfl, hin, hyes, hall⟩, hb⟩
  · have HK : Hid (keepF (gePr t) l = l) := Lib.hid (by
      unfold keepF
      rw [List.filter_eq_self]
      intro u hu
      obtain ⟨k, hk, rfl⟩ := Ud.mem_idx l Ud.zU u hu
      have h9 := hno.out k (by rw [← HL.out]; exact hk)
      rw [h9]; rfl)
    have HB := Lib.hid hb
    clear hno hb
    go_wp2_with fail
    go_ret
    exact ⟨n, rfl, by rw [HK.out]; exact HL.out, by rw [HK.out]; exact own_below HO.out HB.out, ⟨HB.out.os, HB.out.tape, HB.out.output, HB.out.size, fun k hk _ => HB.out.block k hk⟩⟩
  · obtain ⟨g, rfl, -, hcm, hbg, hgl⟩ := own_go HO.out (by omega)
    have HM : Hid (Mid (gePr t) l l n i (i + 1)) := Lib.hid (Mid.first HL.out hin hyes.out hall.out)
    have HW1 : Hid (w1.ownsRow base 66 3 (.slice (some ⟨g, 0, none⟩) n cap) n (Ud.unC l)) := Lib.hid (own_below HO.out hb)
    have HG1 : Hid (w.grownBy w1 (some g)) := Lib.hid ⟨hb.os, hb.tape, hb.output, hb.size, fun k hk _ => hb.block k hk⟩
    have HGB := Lib.hid (And.intro hbg hgl)
    have hne : ((i : Int) == -1) = false := by simp
    have f1 : wrap64 ((i : Int) + 1) = ((i + 1 : Nat) : Int) := by unfold wrap64; omega
    have f2 : IntKind.i64.wrap ((i : Int) + 1) = ((i + 1 : Nat) : Int) := by rw [IntKind.wrap_i64]; omega
    clear hyes hall hb hbg hgl
    go_wp2_with fail
    clear f1 f2
    go_loopw [5, 6] (fun s5 s6 wr => ∃ (i j : Nat) (M : List Ud.Un), s5 = .int .i64 i ∧ s6 = .int .i64 j ∧ Mid (gePr t) l M n i j ∧ wr.ownsRow base 66 3 (.slice (some ⟨g, 0, none⟩) n cap) n (Ud.unC M) ∧ w.grownBy wr (some g)) (fun _ s6 _ => n - (intOf s6).toNat)
    case atStart => exact ⟨i, i + 1, l, rfl, rfl, HM.out, HW1.out, HG1.out⟩
    case round =>
      clear HM HW1 HG1 hne hin
      obtain ⟨i, j, M, rfl, rfl, hm, ho, hg⟩ := hrel
      have HM := Lib.hid hm
      have HOW := Lib.hid ho
      have HG := Lib.hid hg
      have hij := hm.ij
      have hjn := hm.jn
      have hml := hm.len
      have HML := Lib.hid hml
      clear hm ho hg hml
      by_cases hlt : j < n
      · have hltI : decide ((j : Int) < (n : Int)) = true := decide_eq_true (by omega)
        have hjI : (0 : Int) ≤ (j : Int) := by omega
        have hjI2 : (j : Int) < (n : Int) := by omega
        have hiI2 : (i : Int) < (n : Int) := by omega
        have hcell : ∀ r, r < 3 → wr.cell? ⟨g, j * 3 + r, none⟩ = (Ud.unR (M.getD j Ud.zU))[r]? := fun r hr => by
          rw [HOW.out.cellAt (j * 3 + r) (by omega), Ud.unC_at M j r (by rw [HML.out]; exact hlt) hr]
        have hmj := HM.out.at_ HL.out hlt
        obtain ⟨y, hy⟩ : ∃ y, y = l.getD j Ud.zU := ⟨_, rfl⟩
        rw [hmj, ← hy] at hcell
        obtain ⟨us, ua, uv⟩ := y
        have c0 : wr.cell? ⟨g, j * 3, none⟩ = some (.int .i64 us) := hcell 0 (by decide)
        have c1 : wr.cell? ⟨g, j * 3 + 1, none⟩ = some (.int .i64 ua) := hcell 1 (by decide)
        have c2 : wr.cell? ⟨g, j * 3 + 2, none⟩ = some (.int .u32 uv) := hcell 2 (by decide)
        have HY := Lib.hid hy.symm
        have HPD : Hid (∀ W, w.grownBy W (some g) → Calls Try.prog 48 #[.agg #[.int .i64 us, .int .i64 ua, .int .u32 uv], .pointer (some ⟨X, 0, none⟩)] W fun e w' => e = .returned (.bool (decide (t ≤ us))) ∧ Below W.heap.size W w') := Lib.hid (fun W hW => predGe_any us ua uv t X W (by
          have h9 := hW.block X HXX.out.2.1 (fun e => by injection e with e; have := HXX.out.2.2; have := HGB.out.1; omega)
          have h8 := HXX.out.1
          unfold World.cell? at h8 ⊢
          rw [h9]; exact h8) (Nat.lt_of_lt_of_le HXX.out.2.1 hW.size))
        have HPR : Hid ((gePr t) (l.getD j Ud.zU) = decide (t ≤ us)) := Lib.hid (by rw [← hy]; rfl)
        obtain ⟨b, hb⟩ : ∃ b, b = decide (t ≤ us) := ⟨_, rfl⟩
        rw [← hb] at HPD HPR
        clear hb hy hcell hmj
        have f1 : wrap64 ((j : Int) + 1) = ((j + 1 : Nat) : Int) := by unfold wrap64; omega
        have f2 : IntKind.i64.wrap ((j : Int) + 1) = ((j + 1 : Nat) : Int) := by rw [IntKind.wrap_i64]; omega
        have f3 : wrap64 ((i : Int) + 1) = ((i + 1 : Nat) : Int) := by unfold wrap64; omega
        have f4 : IntKind.i64.wrap ((i : Int) + 1) = ((i + 1 : Nat) : Int) := by rw [IntKind.wrap_i64]; omega
        go_upto_region 8 with fail
        obtain ⟨w2, hw2⟩ : ∃ W9, W9 = wr.alloc (.cells #[.int .i64 us, .int .i64 ua, .int .u32 uv] 66) := ⟨_, rfl⟩
        have HX2 : Hid (Blk w2 wr.heap.size #[.int .i64 us, .int .i64 ua, .int .u32 uv]) := Lib.hid (by rw [hw2]; exact Blk.new _ _ _)
        have hb2 : Below wr.heap.size wr w2 := by rw [hw2]; exact (Below.refl _ _).alloc (Nat.le_refl _) _
        have HO2 := Lib.hid (own_below HOW.out hb2)
        have HG2 := Lib.hid (below_grow HG.out hb2)
        rw [← hw2]
        clear hw2 hb2 c0 c1 c2
        have kX := HX2.out.c
        go_wp2_with fail
        refine (HPD.out w2 HG2.out).mono ?_
        rintro e w3 ⟨rfl, hb⟩
        have HX3 := Lib.hid (HX2.out.below hb)
        have HO3 := Lib.hid (own_below HO2.out hb)
        have HG3 := Lib.hid (below_grow HG2.out hb)
        clear hb kX HX2 HO2 HG2
        cases b with
        | true =>
          have HM2 := Lib.hid (HM.out.drop HL.out hlt HPR.out)
          go_wp2_with fail
          go_roundw
          case rel => exact ⟨i, j + 1, M, rfl, rfl, HM2.out, HO3.out, HG3.out⟩
          case measure => simp [intOf]; omega
        | false =>
          have HM2 := Lib.hid (HM.out.put HL.out hlt HPR.out)
          rw [HY.out] at HM2
          have kX := HX3.out.c
          have hcl : ∀ r, r < 3 → ∃ u, w3.cell? ⟨g, i * 3 + r, none⟩ = some u := fun r hr => by
            rw [HO3.out.cellAt (i * 3 + r) (by omega), List.getElem?_eq_getElem (by rw [Ud.unC_len, HML.out]; omega)]
            exact ⟨_, rfl⟩
          obtain ⟨z0, e0⟩ := hcl 0 (by decide)
          obtain ⟨z1, e1⟩ := hcl 1 (by decide)
          obtain ⟨z2, e2⟩ := hcl 2 (by decide)
          have hfz : ∀ r, w3.frozen? ⟨g, r, none⟩ = false := fun r => HO3.out.frozenAt r
          have hglt : g < w3.heap.size := (HO3.out.lt g rfl).2
          rw [Nat.add_zero] at e0
          have HO4 := Lib.hid (own_store3 HO3.out HML.out (by omega : i < n) us ua uv)
          clear hcl
          go_wp2_with fail
          go_roundw
          case rel => exact ⟨i + 1, j + 1, _, rfl, rfl, HM2.out, HO4.out.1, grown_trans HG3.out HO4.out.2⟩
          case measure => simp [intOf]; omega
      · have hltI : decide ((j : Int) < (n : Int)) = false := decide_eq_false (by omega)
        have hin : i < n := by omega
        have HKE : Hid (keepF (gePr t) l = M.take i) := Lib.hid (by rw [HM.out.kept, List.take_of_length_le (by rw [HL.out]; omega)])
        obtain ⟨W2, hclr, how2, hgr2⟩ := own_clear HOW.out HML.out hin
        obtain ⟨a, hsl, ha1, ha2⟩ := Ud.cut_lo (some ⟨g, 0, none⟩) n cap i (by omega) hnc
        have ha3 := ha1 hin g rfl
        subst ha3
        have hcut := cut_hi (some ⟨g, 0, none⟩) n cap i (by omega) hnc
        have HEND := Lib.hid (And.intro how2 (grown_trans HG.out hgr2))
        have HLN : Hid ((M.take i).length = i) := Lib.hid (by rw [List.length_take, HML.out]; omega)
        have hcl0 := hclr 0 (cap - i)
        clear how2 hgr2 ha1 ha2
        go_wp2_with fail
        go_ret
        exact ⟨i, rfl, by rw [HKE.out]; exact HLN.out, by rw [HKE.out]; exact HEND.out.1, HEND.out.2⟩

theorem predLt_any (us ua uv t : Int) (X : Nat) (w : World) (hX : w.cell? ⟨X, 0, none⟩ = some (.int .i64 t)) (hl : X < w.heap.size) :
    Calls Try.prog 50 #[.agg #[.int .i64 us, .int .i64 ua, .int .u32 uv], .pointer (some ⟨X, 0, none⟩)] w fun e w' => e = .returned (.bool (decide (us < t))) ∧ Below w.heap.size w w' := by
  have hX2 := (Below.alloc (Below.refl w.heap.size w) (Nat.le_refl _) (.cells #[.int .i64 us, .int .i64 ua, .int .u32 uv] 66)).cell (p := ⟨X, 0, none⟩) hl |>.trans hX
  obtain ⟨b, hb⟩ : ∃ b, b = decide (us < t) := ⟨_, rfl⟩
  rw [← hb]
  have hb' := hb.symm
  clear hb
  go_enter Try.func50, Try.ntmps50
  go_wp2_with fail
  go_ret
  exact ⟨rfl, (Below.refl _ _).alloc (Nat.le_refl _) _⟩

set_option maxHeartbeats 4000000 in
theorem indexLt_any (q : Option Addr) (n x : Nat) (t : Int) (X : Nat) (l : List Ud.Un) (w : World) (hX : w.cell? ⟨X, 0, none⟩ = some (.int .i64 t)) (hxl : X < w.heap.size)
    (hl : l.length = n) (hs : Sl w q n (Ud.unC l)) (hn : n ≤ 10000) :
    Calls Try.prog 86 #[.slice q n x, .func (.func 50) #[] #[.pointer (some ⟨X, 0, none⟩)]] w fun e w' => ((e = .returned (.int .i64 (-1)) ∧ Hid (∀ j, j < n → (ltPr t) (l.getD j Ud.zU) = false)) ∨ ∃ i : Nat, e = .returned (.int .i64 i) ∧ i < n ∧ Hid ((ltPr t) (l.getD i Ud.zU) = true) ∧ Hid (∀ j, j < i → (ltPr t) (l.getD j Ud.zU) = false)) ∧ Below w.heap.size w w' := by
  have HAT : Hid (∀ k, k < n → ∃ b off, q = some ⟨b, off, none⟩ ∧ Ud.UnAt w b off k (l.getD k Ud.zU)) := Lib.hid (fun k hk => Ud.un_at (by rw [hl]; exact hs) k (by omega))
  have HBAD : Hid (∀ W, Below w.heap.size w W → ∀ us ua uv : Int, Calls Try.prog 50 #[.agg #[.int .i64 us, .int .i64 ua, .int .u32 uv], .pointer (some ⟨X, 0, none⟩)] W fun e w' => e = .returned (.bool (decide (us < t))) ∧ Below W.heap.size W w') :=
    Lib.hid (fun W hW us ua uv => predLt_any us ua uv t X W ((hW.cell (p := ⟨X, 0, none⟩) hxl).trans hX) (Nat.lt_of_lt_of_le hxl hW.size))
  clear hs hl hX hxl
  go_enter Try.func86, Try.ntmps86
  go_wp2_with fail
  go_loopw [8] (fun i wr => ∃ k : Nat, k ≤ n ∧ i = .int .i64 k ∧ Hid (∀ j, j < k → (ltPr t) (l.getD j Ud.zU) = false) ∧ Below w.heap.size w wr) (fun i _ => n - (intOf i).toNat)
  case atStart => exact ⟨0, Nat.zero_le _, rfl, Lib.hid (fun j hj => absurd hj (Nat.not_lt_zero _)), Below.refl _ _⟩
  case round =>
    obtain ⟨k, hk, rfl, HALL, hb⟩ := hrel
    have HB := Lib.hid hb
    clear hb
    by_cases hlt : k < n
    · obtain ⟨b, off, rfl, hat⟩ := HAT.out k hlt
      obtain ⟨l0, c0, c1, c2⟩ := hat.below HB.out
      have hkI : (k : Int) < (n : Int) := by omega
      obtain ⟨y, hy⟩ : ∃ y, y = l.getD k Ud.zU := ⟨_, rfl⟩
      rw [← hy] at c0 c1 c2
      obtain ⟨us, ua, uv⟩ := y
      dsimp only at c0 c1 c2
      have HC := Lib.hid (HBAD.out wr HB.out us ua uv)
      have HX : Hid ((ltPr t) (l.getD k Ud.zU) = decide (us < t)) := Lib.hid (by rw [← hy]; rfl)
      obtain ⟨g, hg⟩ : ∃ g, g = decide (us < t) := ⟨_, rfl⟩
      rw [← hg] at HC HX
      clear hat hy hg
      cases g with
      | true =>
        go_wp2_with fail
        refine HC.out.mono ?_
        rintro e w' ⟨rfl, hb'⟩
        go_wp2_with fail
        go_ret
        exact ⟨.inr ⟨k, rfl, hlt, HX, HALL⟩, HB.out.trans (hb'.mono HB.out.size)⟩
      | false =>
        go_wp2_with fail
        refine HC.out.mono ?_
        rintro e w' ⟨rfl, hb'⟩
        go_wp2_with fail
        go_roundw
        case rel => exact ⟨k + 1, by omega, by go_num, Lib.hid (fun j hj => by
          by_cases e : j = k
          · rw [e]; exact HX.out
          · exact HALL.out j (by omega)), HB.out.trans (hb'.mono HB.out.size)⟩
        case measure => simp [intOf]; omega
    · have hkn : k = n := by omega
      subst hkn
      go_wp2_with fail
      go_ret
      exact ⟨.inl ⟨rfl, HALL⟩, HB.out⟩

set_option maxHeartbeats 4000000 in
theorem deleteLt_any (base : Nat) (q : Option Addr) (n cap : Nat) (t : Int) (X : Nat) (l : List Ud.Un) (w : World) (h : w.ownsRow base 66 3 (.slice q n cap) n (Ud.unC l)) (hl : l.length = n) (hn : n ≤ 10000) (hX : w.cell? ⟨X, 0, none⟩ = some (.int .i64 t)) (hxl : X < w.heap.size) (hxb : X < base) :
    Calls Try.prog 47 #[.slice q n cap, .func (.func 50) #[] #[.pointer (some ⟨X, 0, none⟩)]] w fun e w' => ∃ k, e = .returned (.slice q k cap) ∧ (keepF (ltPr t) l).length = k ∧ w'.ownsRow base 66 3 (.slice q k cap) k (Ud.unC (keepF (ltPr t) l)) ∧ w.grownBy w' (Value.slice q n cap).ownBlock := by
  have hnc : n ≤ cap := by
    obtain ⟨p2, c2, e2, hc⟩ := own_cap h
    injection e2 with _ _ e2
    omega
  have hs : Sl w q n (Ud.unC l) := by
    obtain ⟨p', c', e, hs⟩ := Sl.own h
    injection e with e1 e2 e3
    subst e1 e3
    exact hs
  have HIX := Lib.hid (indexLt_any q n cap t X l w hX hxl hl hs hn)
  have HO := Lib.hid h
  have HL := Lib.hid hl
  have HXX := Lib.hid (And.intro hX (And.intro hxl hxb))
  clear h hl hs hX hxl hxb
  go_enter Try.func47, Try.ntmps47
  go_wp2_with fail
  refine HIX.out.mono ?_
  clear HIX
  rintro e w1 ⟨⟨rfl, hno⟩ | ⟨i, rfl, hin, hyes, hall⟩, hb⟩
  · have HK : Hid (keepF (ltPr t) l = l) := Lib.hid (by
      unfold keepF
      rw [List.filter_eq_self]
      intro u hu
      obtain ⟨k, hk, rfl⟩ := Ud.mem_idx l Ud.zU u hu
      have h9 := hno.out k (by rw [← HL.out]; exact hk)
      rw [h9]; rfl)
    have HB := Lib.hid hb
    clear hno hb
    go_wp2_with fail
    go_ret
    exact ⟨n, rfl, by rw [HK.out]; exact HL.out, by rw [HK.out]; exact own_below HO.out HB.out, ⟨HB.out.os, HB.out.tape, HB.out.output, HB.out.size, fun k hk _ => HB.out.block k hk⟩⟩
  · obtain ⟨g, rfl, -, hcm, hbg, hgl⟩ := own_go HO.out (by omega)
    have HM : Hid (Mid (ltPr t) l l n i (i + 1)) := Lib.hid (Mid.first HL.out hin hyes.out hall.out)
    have HW1 : Hid (w1.ownsRow base 66 3 (.slice (some ⟨g, 0, none⟩) n cap) n (Ud.unC l)) := Lib.hid (own_below HO.out hb)
    have HG1 : Hid (w.grownBy w1 (some g)) := Lib.hid ⟨hb.os, hb.tape, hb.output, hb.size, fun k hk _ => hb.block k hk⟩
    have HGB := Lib.hid (And.intro hbg hgl)
    have hne : ((i : Int) == -1) = false := by simp
    have f1 : wrap64 ((i : Int) + 1) = ((i + 1 : Nat) : Int) := by unfold wrap64; omega
    have f2 : IntKind.i64.wrap ((i : Int) + 1) = ((i + 1 : Nat) : Int) := by rw [IntKind.wrap_i64]; omega
    clear hyes hall hb hbg hgl
    go_wp2_with fail
    clear f1 f2
    go_loopw [5, 6] (fun s5 s6 wr => ∃ (i j : Nat) (M : List Ud.Un), s5 = .int .i64 i ∧ s6 = .int .i64 j ∧ Mid (ltPr t) l M n i j ∧ wr.ownsRow base 66 3 (.slice (some ⟨g, 0, none⟩) n cap) n (Ud.unC M) ∧ w.grownBy wr (some g)) (fun _ s6 _ => n - (intOf s6).toNat)
    case atStart => exact ⟨i, i + 1, l, rfl, rfl, HM.out, HW1.out, HG1.out⟩
    case round =>
      clear HM HW1 HG1 hne hin
      obtain ⟨i, j, M, rfl, rfl, hm, ho, hg⟩ := hrel
      have HM := Lib.hid hm
      have HOW := Lib.hid ho
      have HG := Lib.hid hg
      have hij := hm.ij
      have hjn := hm.jn
      have hml := hm.len
      have HML := Lib.hid hml
      clear hm ho hg hml
      by_cases hlt : j < n
      · have hltI : decide ((j : Int) < (n : Int)) = true := decide_eq_true (by omega)
        have hjI : (0 : Int) ≤ (j : Int) := by omega
        have hjI2 : (j : Int) < (n : Int) := by omega
        have hiI2 : (i : Int) < (n : Int) := by omega
        have hcell : ∀ r, r < 3 → wr.cell? ⟨g, j * 3 + r, none⟩ = (Ud.unR (M.getD j Ud.zU))[r]? := fun r hr => by
          rw [HOW.out.cellAt (j * 3 + r) (by omega), Ud.unC_at M j r (by rw [HML.out]; exact hlt) hr]
        have hmj := HM.out.at_ HL.out hlt
        obtain ⟨y, hy⟩ : ∃ y, y = l.getD j Ud.zU := ⟨_, rfl⟩
        rw [hmj, ← hy] at hcell
        obtain ⟨us, ua, uv⟩ := y
        have c0 : wr.cell? ⟨g, j * 3, none⟩ = some (.int .i64 us) := hcell 0 (by decide)
        have c1 : wr.cell? ⟨g, j * 3 + 1, none⟩ = some (.int .i64 ua) := hcell 1 (by decide)
        have c2 : wr.cell? ⟨g, j * 3 + 2, none⟩ = some (.int .u32 uv) := hcell 2 (by decide)
        have HY := Lib.hid hy.symm
        have HPD : Hid (∀ W, w.grownBy W (some g) → Calls Try.prog 50 #[.agg #[.int .i64 us, .int .i64 ua, .int .u32 uv], .pointer (some ⟨X, 0, none⟩)] W fun e w' => e = .returned (.bool (decide (us < t))) ∧ Below W.heap.size W w') := Lib.hid (fun W hW => predLt_any us ua uv t X W (by
          have h9 := hW.block X HXX.out.2.1 (fun e => by injection e with e; have := HXX.out.2.2; have := HGB.out.1; omega)
          have h8 := HXX.out.1
          unfold World.cell? at h8 ⊢
          rw [h9]; exact h8) (Nat.lt_of_lt_of_le HXX.out.2.1 hW.size))
        have HPR : Hid ((ltPr t) (l.getD j Ud.zU) = decide (us < t)) := Lib.hid (by rw [← hy]; rfl)
        obtain ⟨b, hb⟩ : ∃ b, b = decide (us < t) := ⟨_, rfl⟩
        rw [← hb] at HPD HPR
        clear hb hy hcell hmj
        have f1 : wrap64 ((j : Int) + 1) = ((j + 1 : Nat) : Int) := by unfold wrap64; omega
        have f2 : IntKind.i64.wrap ((j : Int) + 1) = ((j + 1 : Nat) : Int) := by rw [IntKind.wrap_i64]; omega
        have f3 : wrap64 ((i : Int) + 1) = ((i + 1 : Nat) : Int) := by unfold wrap64; omega
        have f4 : IntKind.i64.wrap ((i : Int) + 1) = ((i + 1 : Nat) : Int) := by rw [IntKind.wrap_i64]; omega
        go_upto_region 8 with fail
        obtain ⟨w2, hw2⟩ : ∃ W9, W9 = wr.alloc (.cells #[.int .i64 us, .int .i64 ua, .int .u32 uv] 66) := ⟨_, rfl⟩
        have HX2 : Hid (Blk w2 wr.heap.size #[.int .i64 us, .int .i64 ua, .int .u32 uv]) := Lib.hid (by rw [hw2]; exact Blk.new _ _ _)
        have hb2 : Below wr.heap.size wr w2 := by rw [hw2]; exact (Below.refl _ _).alloc (Nat.le_refl _) _
        have HO2 := Lib.hid (own_below HOW.out hb2)
        have HG2 := Lib.hid (below_grow HG.out hb2)
        rw [← hw2]
        clear hw2 hb2 c0 c1 c2
        have kX := HX2.out.c
        go_wp2_with fail
        refine (HPD.out w2 HG2.out).mono ?_
        rintro e w3 ⟨rfl, hb⟩
        have HX3 := Lib.hid (HX2.out.below hb)
        have HO3 := Lib.hid (own_below HO2.out hb)
        have HG3 := Lib.hid (below_grow HG2.out hb)
        clear hb kX HX2 HO2 HG2
        cases b with
        | true =>
          have HM2 := Lib.hid (HM.out.drop HL.out hlt HPR.out)
          go_wp2_with fail
          go_roundw
          case rel => exact ⟨i, j + 1, M, rfl, rfl, HM2.out, HO3.out, HG3.out⟩
          case measure => simp [intOf]; omega
        | false =>
          have HM2 := Lib.hid (HM.out.put HL.out hlt HPR.out)
          rw [HY.out] at HM2
          have kX := HX3.out.c
          have hcl : ∀ r, r < 3 → ∃ u, w3.cell? ⟨g, i * 3 + r, none⟩ = some u := fun r hr => by
            rw [HO3.out.cellAt (i * 3 + r) (by omega), List.getElem?_eq_getElem (by rw [Ud.unC_len, HML.out]; omega)]
            exact ⟨_, rfl⟩
          obtain ⟨z0, e0⟩ := hcl 0 (by decide)
          obtain ⟨z1, e1⟩ := hcl 1 (by decide)
          obtain ⟨z2, e2⟩ := hcl 2 (by decide)
          have hfz : ∀ r, w3.frozen? ⟨g, r, none⟩ = false := fun r => HO3.out.frozenAt r
          have hglt : g < w3.heap.size := (HO3.out.lt g rfl).2
          rw [Nat.add_zero] at e0
          have HO4 := Lib.hid (own_store3 HO3.out HML.out (by omega : i < n) us ua uv)
          clear hcl
          go_wp2_with fail
          go_roundw
          case rel => exact ⟨i + 1, j + 1, _, rfl, rfl, HM2.out, HO4.out.1, grown_trans HG3.out HO4.out.2⟩
          case measure => simp [intOf]; omega
      · have hltI : decide ((j : Int) < (n : Int)) = false := decide_eq_false (by omega)
        have hin : i < n := by omega
        have HKE : Hid (keepF (ltPr t) l = M.take i) := Lib.hid (by rw [HM.out.kept, List.take_of_length_le (by rw [HL.out]; omega)])
        obtain ⟨W2, hclr, how2, hgr2⟩ := own_clear HOW.out HML.out hin
        obtain ⟨a, hsl, ha1, ha2⟩ := Ud.cut_lo (some ⟨g, 0, none⟩) n cap i (by omega) hnc
        have ha3 := ha1 hin g rfl
        subst ha3
        have hcut := cut_hi (some ⟨g, 0, none⟩) n cap i (by omega) hnc
        have HEND := Lib.hid (And.intro how2 (grown_trans HG.out hgr2))
        have HLN : Hid ((M.take i).length = i) := Lib.hid (by rw [List.length_take, HML.out]; omega)
        have hcl0 := hclr 0 (cap - i)
        clear how2 hgr2 ha1 ha2
        go_wp2_with fail
        go_ret
        exact ⟨i, rfl, by rw [HKE.out]; exact HLN.out, by rw [HKE.out]; exact HEND.out.1, HEND.out.2⟩
end Go.Proofs.Ytflakmabciokbaa
