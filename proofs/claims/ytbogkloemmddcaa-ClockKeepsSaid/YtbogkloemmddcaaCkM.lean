/- What the document's comparisons answer of clocks that are alike, and whether one is short; they write nothing that was there; no condition but that they read. -/
import Derived.Test.YtbogkloemmddcaaCkL
import Derived.DeepKeys
import Derived.BigQuiet
namespace Go.Proofs.Ytbogkloemmddcaa
set_option linter.unusedVariables false
open Go.ChangeShapes Go.WideShapes Go.ChangeAt Go.RowKit
theorem cells_u32 : Try.prog.cellsOf 47 = 1 := by kernel_rfl

/-- The tests one behind the other, as Go holds arrays and structs against each other. -/
def eqC (c d : Cor) : Bool := (c.r 0 == d.r 0) && (c.r 1 == d.r 1) && (c.r 2 == d.r 2) && (c.r 3 == d.r 3) && (c.r 4 == d.r 4) && (c.r 5 == d.r 5) && (c.r 6 == d.r 6) && (c.r 7 == d.r 7) && (c.pc == d.pc) && (c.h == d.h)

theorem eq_step (w : World) (d : Nat) (xs ys : Array Value) (i : Nat) (is : List Nat) (a b : Int) (hx : xs[i]? = some (.int .u32 a)) (hy : ys[i]? = some (.int .u32 b)) (r : Bool) (h : (Op.eqItems (d + 1) 47 1 xs ys is).run Try.prog w = .ok r w) :
    (Op.eqItems (d + 1) 47 1 xs ys (i :: is)).run Try.prog w = .ok (a == b && r) w := by
  have p1 : ∀ (zs : Array Value) (v : Int), zs[i]? = some (.int .u32 v) → (part 47 zs (i * 1)).run Try.prog w = .ok (.int .u32 v) w := fun zs v hz => by
    simp [part, go_sem, hz]
  simp only [Op.eqItems, Sem.run_bind, p1 xs a hx, p1 ys b hy, Result.andThen_ok, run_equalIn_int w d 47 .u32 .u32 a b Try.underlying47]
  cases hab : (a == b) with
  | true => simpa using h
  | false => simp

theorem eq_regs (w : World) (d : Nat) (a0 a1 a2 a3 a4 a5 a6 a7 b0 b1 b2 b3 b4 b5 b6 b7 : Int) :
   (Op.equalIn (d + 2) 48 (.agg #[.int .u32 a0, .int .u32 a1, .int .u32 a2, .int .u32 a3, .int .u32 a4, .int .u32 a5, .int .u32 a6, .int .u32 a7]) (.agg #[.int .u32 b0, .int .u32 b1, .int .u32 b2, .int .u32 b3, .int .u32 b4, .int .u32 b5, .int .u32 b6, .int .u32 b7])).run Try.prog w = .ok (a0 == b0 && (a1 == b1 && (a2 == b2 && (a3 == b3 && (a4 == b4 && (a5 == b5 && (a6 == b6 && (a7 == b7 && true)))))))) w := by
  obtain ⟨i, hi⟩ := info_of_underlying Try.underlying47
  rw [run_equalIn_array w (d + 1) _ _ Try.underlying48 hi, cells_u32]
  show (Op.eqItems (d + 1) 47 1 _ _ [0, 1, 2, 3, 4, 5, 6, 7]).run Try.prog w = _
  exact eq_step w d _ _ 0 _ a0 b0 rfl rfl _ (eq_step w d _ _ 1 _ a1 b1 rfl rfl _ (eq_step w d _ _ 2 _ a2 b2 rfl rfl _ (eq_step w d _ _ 3 _ a3 b3 rfl rfl _ (eq_step w d _ _ 4 _ a4 b4 rfl rfl _ (eq_step w d _ _ 5 _ a5 b5 rfl rfl _ (eq_step w d _ _ 6 _ a6 b6 rfl rfl _ (eq_step w d _ _ 7 _ a7 b7 rfl rfl _ (by simp [Op.eqItems]))))))))

theorem eq_core (w : World) (c d : Cor) : (binOp .eql 50 (.agg c.row) (.agg d.row)).run Try.prog w = .ok (.bool (eqC c d)) w := by
  have e1 : ∀ c : Cor, (part 48 c.row 0).run Try.prog w = .ok (.agg #[.int .u32 (c.r 0), .int .u32 (c.r 1), .int .u32 (c.r 2), .int .u32 (c.r 3), .int .u32 (c.r 4), .int .u32 (c.r 5), .int .u32 (c.r 6), .int .u32 (c.r 7)]) w := fun c => by
    simp [part, go_sem, Cor.row]
  have e2 : ∀ c : Cor, (part 3 c.row 8).run Try.prog w = .ok (.int .i64 c.pc) w := fun c => by
    simp [part, go_sem, Cor.row]
  have e3 : ∀ c : Cor, (part 4 c.row 9).run Try.prog w = .ok (.bool c.h) w := fun c => by
    simp [part, go_sem, Cor.row]
  rw [run_eql_struct, show (10000 : Nat) = 9999 + 1 from rfl, run_equalIn_agg w 9999 50 _ _ (by simp [Program.fieldsOf, Try.underlying50]) Try.stoodInHeld50]
  have n1 : ("Regs" ≠ "_") = True := by simp
  have n2 : ("PC" ≠ "_") = True := by simp
  have n3 : ("Halted" ≠ "_") = True := by simp
  have q1 := eq_regs w 9997 (c.r 0) (c.r 1) (c.r 2) (c.r 3) (c.r 4) (c.r 5) (c.r 6) (c.r 7) (d.r 0) (d.r 1) (d.r 2) (d.r 3) (d.r 4) (d.r 5) (d.r 6) (d.r 7)
  have q2 := run_equalIn_int w 9998 3 .i64 .i64 c.pc d.pc Try.underlying3
  have q3 := run_equalIn_bool' w 9998 4 c.h d.h Try.underlying4
  have e : eqC c d = ((c.r 0 == d.r 0 && (c.r 1 == d.r 1 && (c.r 2 == d.r 2 && (c.r 3 == d.r 3 && (c.r 4 == d.r 4 && (c.r 5 == d.r 5 && (c.r 6 == d.r 6 && (c.r 7 == d.r 7 && true)))))))) && ((c.pc == d.pc) && (c.h == d.h))) := by
    unfold eqC; simp only [Bool.and_assoc, Bool.true_and]
  rw [e]
  revert q1 q2 q3
  generalize (c.r 0 == d.r 0 && (c.r 1 == d.r 1 && (c.r 2 == d.r 2 && (c.r 3 == d.r 3 && (c.r 4 == d.r 4 && (c.r 5 == d.r 5 && (c.r 6 == d.r 6 && (c.r 7 == d.r 7 && true)))))))) = b1
  generalize (c.pc == d.pc) = b2
  generalize (c.h == d.h) = b3
  intro q1 q2 q3
  simp only [Program.fieldsOf, Try.underlying50, Op.eqFields, n1, n2, n3, if_true, Sem.run_bind, e1, e2, e3, Result.andThen_ok, q1, q2, q3, Sem.run_ite]
  cases b1 <;> cases b2 <;> cases b3 <;> simp
theorem eqC_refl (c : Cor) : eqC c c = true := by unfold eqC; simp

theorem neq_core (w : World) (c d : Cor) : (binOp .neq 50 (.agg c.row) (.agg d.row)).run Try.prog w = .ok (.bool (!eqC c d)) w := by
  have h := eq_core w c d
  rw [run_eql_struct] at h
  rw [run_neq_struct]
  generalize (Op.equalIn 10000 50 (Value.agg c.row) (Value.agg d.row)).run Try.prog w = r at h ⊢
  cases r with
  | ok b w' =>
    simp only [Result.andThen_ok, Result.ok.injEq, Value.bool.injEq] at h ⊢
    exact ⟨by rw [h.1], h.2⟩
  | halt x w' => simp [Result.andThen] at h
set_option maxHeartbeats 1000000 in
theorem cores_same (pa pb : Option Addr) (len ca cb : Nat) (l : List Cor) (w : World) (hl : l.length = len) (hmax : len ≤ maxLen) (ha : Sl w pa len (coresC l)) (hb : Sl w pb len (coresC l)) :
    Calls Try.prog 22 #[.slice pa len ca, .slice pb len cb] w fun e w' => e = .returned (.bool true) ∧ Below w.heap.size w w' := by
  have hmx : len ≤ 9223372036854775807 := hmax
  clear hmax
  have HL := Lib.hid hl
  have HA := Lib.hid ha
  have HB := Lib.hid hb
  clear hl ha hb
  go_enter Try.func22, Try.ntmps22
  go_wp2_with fail
  go_loopw [5] (fun i wr => ∃ k : Nat, k ≤ len ∧ i = .int .i64 k ∧ Below w.heap.size w wr) (fun i _ => len - (intOf i).toNat)
  case atStart => exact ⟨0, Nat.zero_le _, rfl, Below.refl _ _⟩
  case round =>
    obtain ⟨i, hi, rfl, hbel⟩ := hrel
    have HBE := Lib.hid hbel
    clear hbel
    by_cases hlt : i < len
    · obtain ⟨b, off, hb1, rfl, hb3⟩ := HA.out.below HBE.out (by omega)
      obtain ⟨b', off', hb1', rfl, hb3'⟩ := HB.out.below HBE.out (by omega)
      obtain ⟨c, hc⟩ : ∃ c, c = l.getD i zcor := ⟨_, rfl⟩
      have K : ∀ j, j < 10 → (coresC l)[i * 10 + j]? = c.row[j]? := fun j hj => by rw [hc]; exact coresC_at l i j (by rw [HL.out]; exact hlt) hj
      have L : ∀ j, j < 10 → i * 10 + j < (coresC l).length := fun j hj => by rw [coresC_len, HL.out]; omega
      have c0 : wr.cell? ⟨b, off + i * 10, none⟩ = some (.int .u32 (c.r 0)) := (hb3 (i * 10 + 0) (L 0 (by omega))).trans (K 0 (by omega))
      have c1 : wr.cell? ⟨b, off + i * 10 + 1, none⟩ = some (.int .u32 (c.r 1)) := (hb3 (i * 10 + 1) (L 1 (by omega))).trans (K 1 (by omega))
      have c2 : wr.cell? ⟨b, off + i * 10 + 2, none⟩ = some (.int .u32 (c.r 2)) := (hb3 (i * 10 + 2) (L 2 (by omega))).trans (K 2 (by omega))
      have c3 : wr.cell? ⟨b, off + i * 10 + 3, none⟩ = some (.int .u32 (c.r 3)) := (hb3 (i * 10 + 3) (L 3 (by omega))).trans (K 3 (by omega))
      have c4 : wr.cell? ⟨b, off + i * 10 + 4, none⟩ = some (.int .u32 (c.r 4)) := (hb3 (i * 10 + 4) (L 4 (by omega))).trans (K 4 (by omega))
      have c5 : wr.cell? ⟨b, off + i * 10 + 5, none⟩ = some (.int .u32 (c.r 5)) := (hb3 (i * 10 + 5) (L 5 (by omega))).trans (K 5 (by omega))
      have c6 : wr.cell? ⟨b, off + i * 10 + 6, none⟩ = some (.int .u32 (c.r 6)) := (hb3 (i * 10 + 6) (L 6 (by omega))).trans (K 6 (by omega))
      have c7 : wr.cell? ⟨b, off + i * 10 + 7, none⟩ = some (.int .u32 (c.r 7)) := (hb3 (i * 10 + 7) (L 7 (by omega))).trans (K 7 (by omega))
      have c8 : wr.cell? ⟨b, off + i * 10 + 8, none⟩ = some (.int .i64 c.pc) := (hb3 (i * 10 + 8) (L 8 (by omega))).trans (K 8 (by omega))
      have c9 : wr.cell? ⟨b, off + i * 10 + 9, none⟩ = some (.bool c.h) := (hb3 (i * 10 + 9) (L 9 (by omega))).trans (K 9 (by omega))
      have d0 : wr.cell? ⟨b', off' + i * 10, none⟩ = some (.int .u32 (c.r 0)) := (hb3' (i * 10 + 0) (L 0 (by omega))).trans (K 0 (by omega))
      have d1 : wr.cell? ⟨b', off' + i * 10 + 1, none⟩ = some (.int .u32 (c.r 1)) := (hb3' (i * 10 + 1) (L 1 (by omega))).trans (K 1 (by omega))
      have d2 : wr.cell? ⟨b', off' + i * 10 + 2, none⟩ = some (.int .u32 (c.r 2)) := (hb3' (i * 10 + 2) (L 2 (by omega))).trans (K 2 (by omega))
      have d3 : wr.cell? ⟨b', off' + i * 10 + 3, none⟩ = some (.int .u32 (c.r 3)) := (hb3' (i * 10 + 3) (L 3 (by omega))).trans (K 3 (by omega))
      have d4 : wr.cell? ⟨b', off' + i * 10 + 4, none⟩ = some (.int .u32 (c.r 4)) := (hb3' (i * 10 + 4) (L 4 (by omega))).trans (K 4 (by omega))
      have d5 : wr.cell? ⟨b', off' + i * 10 + 5, none⟩ = some (.int .u32 (c.r 5)) := (hb3' (i * 10 + 5) (L 5 (by omega))).trans (K 5 (by omega))
      have d6 : wr.cell? ⟨b', off' + i * 10 + 6, none⟩ = some (.int .u32 (c.r 6)) := (hb3' (i * 10 + 6) (L 6 (by omega))).trans (K 6 (by omega))
      have d7 : wr.cell? ⟨b', off' + i * 10 + 7, none⟩ = some (.int .u32 (c.r 7)) := (hb3' (i * 10 + 7) (L 7 (by omega))).trans (K 7 (by omega))
      have d8 : wr.cell? ⟨b', off' + i * 10 + 8, none⟩ = some (.int .i64 c.pc) := (hb3' (i * 10 + 8) (L 8 (by omega))).trans (K 8 (by omega))
      have d9 : wr.cell? ⟨b', off' + i * 10 + 9, none⟩ = some (.bool c.h) := (hb3' (i * 10 + 9) (L 9 (by omega))).trans (K 9 (by omega))
      clear K L hc
      clear hb3 hb3'
      clear hb1 hb1'
      have hq : ∀ W, (binOp .neq 50 (.agg #[.int .u32 (c.r 0), .int .u32 (c.r 1), .int .u32 (c.r 2), .int .u32 (c.r 3), .int .u32 (c.r 4), .int .u32 (c.r 5), .int .u32 (c.r 6), .int .u32 (c.r 7), .int .i64 c.pc, .bool c.h]) (.agg #[.int .u32 (c.r 0), .int .u32 (c.r 1), .int .u32 (c.r 2), .int .u32 (c.r 3), .int .u32 (c.r 4), .int .u32 (c.r 5), .int .u32 (c.r 6), .int .u32 (c.r 7), .int .i64 c.pc, .bool c.h])).run Try.prog W = .ok (.bool false) W := fun W => (neq_core W c c).trans (by rw [eqC_refl]; rfl)
      go_wp2_with fail
      go_quiet (fail)
      go_wp2
      go_roundw
      case rel => exact ⟨i + 1, by omega, by go_num, drewN_below HBE.out _⟩
      case measure => simp [intOf]; omega
    · go_wp2
      go_ret
      exact ⟨rfl, HBE.out⟩

set_option maxHeartbeats 1000000 in
theorem mark_same (x y : Mv) (w : World) (hx : Mr w x) (hy : Mr w y) (e : x.mk' = y.mk') :
    Calls Try.prog 10 #[.agg #[.int .i64 x.span, .int .i64 x.when, .slice x.q x.m x.c], .agg #[.int .i64 y.span, .int .i64 y.when, .slice y.q y.m y.c]] w fun e w' => e = .returned (.bool true) ∧ Below w.heap.size w w' := by
  obtain ⟨s, t, q, m, c, cs⟩ := x
  obtain ⟨s', t', q', m', c', cs'⟩ := y
  unfold Mv.mk' at e
  injection e with e1 e2 e3
  dsimp only at e1 e2 e3
  subst e1 e2 e3
  have hm : m' = m := by have h1 := hx.ml; have h2 := hy.ml; dsimp only at h1 h2; omega
  subst hm
  have HC : Hid (∀ W, Below w.heap.size w W → Calls Try.prog 22 #[.slice q m' c, .slice q' m' c'] W fun e w' => e = .returned (.bool true) ∧ Below W.heap.size W w') := Lib.hid (fun W hW => cores_same q q' m' c c' cs W hx.ml (by have := hx.mb; unfold maxLen; dsimp only at this; omega) (hx.sl.below hW) (hy.sl.below hW))
  dsimp only
  clear hx hy
  have HB0 : Hid (Below w.heap.size w ((w.alloc (.cells #[.int .i64 s, .int .i64 t, .slice q m' c] 32)).alloc (.cells #[.int .i64 s, .int .i64 t, .slice q' m' c'] 32))) := Lib.hid (((Below.refl _ _).alloc (Nat.le_refl _) _).alloc (by simp) _)
  go_enter Try.func10, Try.ntmps10
  go_wp2_with fail
  refine (HC.out _ HB0.out).mono ?_
  rintro e w1 ⟨rfl, hb⟩
  have HB1 : Hid (Below w.heap.size w w1) := Lib.hid (HB0.out.trans (hb.mono HB0.out.size))
  clear hb
  go_wp2_with fail
  go_ret
  exact ⟨rfl, HB1.out⟩

set_option maxHeartbeats 4000000 in
set_option maxRecDepth 100000 in
theorem same_any {S T : Nat → Prop} (v u : Value) (C : Ck) (w : World) (hv : Ko S w v C) (hu : Ko T w u C) :
    Calls Try.prog 14 #[v, u] w fun e w' => e = .returned (.bool true) ∧ Below w.heap.size w w' := by
  obtain ⟨l, wt⟩ := C
  obtain ⟨p, n, c, xs, rfl, rfl, hc, -⟩ := hv
  obtain ⟨q, m, d, ys, rfl, e2, hd, -⟩ := hu
  dsimp only at e2 ⊢
  have hmn : n = m := by rw [← hc.xl, ← hd.xl, ← mksOf_len xs, e2, mksOf_len]
  subst hmn
  have hn := hc.nb
  have HX : Hid (∀ k, k < n → ∃ b off, p = some ⟨b, off, none⟩ ∧ MkAt w b off k (xs.getD k zV)) := Lib.hid (fun k hk => mk_at hc.sl hc.xl k hk)
  have HY : Hid (∀ k, k < n → ∃ b off, q = some ⟨b, off, none⟩ ∧ MkAt w b off k (ys.getD k zV)) := Lib.hid (fun k hk => mk_at hd.sl hd.xl k hk)
  have HM : Hid (∀ k, k < n → ∀ W, Below w.heap.size w W → Calls Try.prog 10 #[.agg #[.int .i64 (xs.getD k zV).span, .int .i64 (xs.getD k zV).when, .slice (xs.getD k zV).q (xs.getD k zV).m (xs.getD k zV).c], .agg #[.int .i64 (ys.getD k zV).span, .int .i64 (ys.getD k zV).when, .slice (ys.getD k zV).q (ys.getD k zV).m (ys.getD k zV).c]] W fun e w' => e = .returned (.bool true) ∧ Below W.heap.size W w') := Lib.hid (fun k hk W hW =>
    mark_same _ _ W ((hc.rd _ (mem_getD xs zV k (by rw [hc.xl]; exact hk))).below hW) ((hd.rd _ (mem_getD ys zV k (by rw [hd.xl]; exact hk))).below hW) (by rw [← mksOf_at, ← mksOf_at, e2]))
  clear hc hd e2
  obtain ⟨w0, hw0⟩ : ∃ w0, w0 = (w.alloc (.cells #[.slice p n c, .int .i64 wt] 26)).alloc (.cells #[.slice q n d, .int .i64 wt] 26) := ⟨_, rfl⟩
  have HB0 : Hid (Below w.heap.size w w0) := Lib.hid (by rw [hw0]; exact ((Below.refl _ _).alloc (Nat.le_refl _) _).alloc (by simp) _)
  have HA0 : Hid (Blk w0 w.heap.size #[.slice p n c, .int .i64 wt]) := Lib.hid (by rw [hw0]; exact (Blk.new _ _ _).alloc _)
  have HT0 : Hid (Blk w0 (w.heap.size + 1) #[.slice q n d, .int .i64 wt]) := Lib.hid (by
    have := Blk.new (w.alloc (.cells #[.slice p n c, .int .i64 wt] 26)) #[.slice q n d, .int .i64 wt] 26
    rw [World.size_alloc] at this
    rw [hw0]; exact this)
  have HW0 := Lib.hid hw0
  clear hw0
  go_enter Try.func14, Try.ntmps14
  have kA := HA0.out.c
  have kT := HT0.out.c
  go_upto_region 1 with fail
  rw [← HW0.out]
  clear HW0
  go_wp2_with fail
  clear kA kT
  go_loopw [5] (fun i wr => ∃ k : Nat, k ≤ n ∧ i = .int .i64 k ∧ Below w0.heap.size w0 wr) (fun i _ => n - (intOf i).toNat)
  case atStart => exact ⟨0, Nat.zero_le _, rfl, Below.refl _ _⟩
  case round =>
    obtain ⟨k, hk, rfl, hb⟩ := hrel
    have HB := Lib.hid hb
    have HA := Lib.hid (HA0.out.below hb)
    have HT := Lib.hid (HT0.out.below hb)
    have HBW : Hid (Below w.heap.size w wr) := Lib.hid (HB0.out.trans (hb.mono HB0.out.size))
    clear hb
    have kA := HA.out.c
    have kT := HT.out.c
    by_cases hlt : k < n
    · obtain ⟨b, off, rfl, hat⟩ := HX.out k hlt
      obtain ⟨b', off', rfl, hat'⟩ := HY.out k hlt
      have HAT := Lib.hid (hat.below HBW.out)
      have HAT' := Lib.hid (hat'.below HBW.out)
      have hkI : (k : Int) < (n : Int) := by omega
      have HC := Lib.hid (HM.out k hlt)
      obtain ⟨x, hx⟩ : ∃ x, x = xs.getD k zV := ⟨_, rfl⟩
      obtain ⟨y, hy⟩ : ∃ y, y = ys.getD k zV := ⟨_, rfl⟩
      rw [← hx, ← hy] at HC
      rw [← hx] at HAT
      rw [← hy] at HAT'
      obtain ⟨xsp, xt, xq, xm, xc, xcs⟩ := x
      obtain ⟨ysp, yt, yq, ym, yc, ycs⟩ := y
      dsimp only at HC
      clear hat hat' hx hy
      have HS : Hid (∀ W, Below wr.heap.size wr W → ((∀ t, W.cell? ⟨w.heap.size, t, none⟩ = (#[.slice (some ⟨b, off, none⟩) n c, .int .i64 wt] : Array Value)[t]?) ∧ ∀ t, W.cell? ⟨w.heap.size + 1, t, none⟩ = (#[.slice (some ⟨b', off', none⟩) n d, .int .i64 wt] : Array Value)[t]?) ∧ (W.cell? ⟨b, off + k * 3, none⟩ = some (.int .i64 xsp) ∧ W.cell? ⟨b, off + k * 3 + 1, none⟩ = some (.int .i64 xt) ∧ W.cell? ⟨b, off + k * 3 + 2, none⟩ = some (.slice xq xm xc)) ∧ W.cell? ⟨b', off' + k * 3, none⟩ = some (.int .i64 ysp) ∧ W.cell? ⟨b', off' + k * 3 + 1, none⟩ = some (.int .i64 yt) ∧ W.cell? ⟨b', off' + k * 3 + 2, none⟩ = some (.slice yq ym yc)) :=
        Lib.hid (fun W hW => ⟨⟨(HA.out.below hW).c, (HT.out.below hW).c⟩, ⟨(HAT.out.below hW).c0, (HAT.out.below hW).c1, (HAT.out.below hW).c2⟩, (HAT'.out.below hW).c0, (HAT'.out.below hW).c1, (HAT'.out.below hW).c2⟩)
      go_upto_region 6 with fail
      refine region_plan (fun W : World => ((∀ t, W.cell? ⟨w.heap.size, t, none⟩ = (#[.slice (some ⟨b, off, none⟩) n c, .int .i64 wt] : Array Value)[t]?) ∧ ∀ t, W.cell? ⟨w.heap.size + 1, t, none⟩ = (#[.slice (some ⟨b', off', none⟩) n d, .int .i64 wt] : Array Value)[t]?) ∧ (W.cell? ⟨b, off + k * 3, none⟩ = some (.int .i64 xsp) ∧ W.cell? ⟨b, off + k * 3 + 1, none⟩ = some (.int .i64 xt) ∧ W.cell? ⟨b, off + k * 3 + 2, none⟩ = some (.slice xq xm xc)) ∧ W.cell? ⟨b', off' + k * 3, none⟩ = some (.int .i64 ysp) ∧ W.cell? ⟨b', off' + k * 3 + 1, none⟩ = some (.int .i64 yt) ∧ W.cell? ⟨b', off' + k * 3 + 2, none⟩ = some (.slice yq ym yc)) 11 [(0, true), (1, true), (2, true), (3, true), (4, true), (5, true), (6, true), (7, true), (8, true), (9, true), (10, false)] (by kernel_rfl) (by kernel_rfl) (HS.out _ (Below.refl _ _).drew) ?_
      iterate 10
        refine plan_read (v := ?_) rfl (by rfl) ?_ ?_
        rotate_left
        · intro w' hS
          obtain ⟨⟨hS1, hS2⟩, ⟨hS3, hS4, hS5⟩, hS6, hS7, hS8⟩ := hS
          go_simp
          try with_reducible rfl
        try simp only [Act.put, List.setIfInBounds_toArray, List.set_cons_zero, List.set_cons_succ, List.getElem_toArray, List.getElem_cons_zero, List.getElem_cons_succ]
      refine plan_call (F := 10) (args := ?_) rfl (by rfl) ?_ ?_
      rotate_left
      · go_simp
        rfl
      refine (HC.out wr.drew HBW.out.drew).mono ?_
      rintro e w2 ⟨rfl, hb⟩
      have HB12 : Hid (Below wr.heap.size wr w2) := Lib.hid ((Below.refl _ _).drew.trans hb)
      clear hb
      refine ⟨_, rfl, HS.out _ HB12.out, ?_⟩
      try simp only [Act.put, List.setIfInBounds_toArray, List.set_cons_zero, List.set_cons_succ, List.getElem_toArray, List.getElem_cons_zero, List.getElem_cons_succ]
      refine plan_nil ?_
      simp only [List.drop_succ_cons, List.drop_zero]
      have HBZ : Hid (Below w0.heap.size w0 w2) := Lib.hid (HB.out.trans (HB12.out.mono HB.out.size))
      clear HS HAT HAT' HA HT kA kT HC HB12
      go_wp2_with fail
      go_roundw
      case rel => exact ⟨k + 1, by omega, by go_num, HBZ.out⟩
      case measure => simp [intOf]; omega
    · have e : k = n := by omega
      subst e
      go_wp2_with fail
      go_ret
      exact ⟨rfl, HBW.out⟩

/-- A mark, and a clock, of whatever size. -/
structure MrX (w : World) (x : Mv) : Prop where
  ml : x.cs.length = x.m
  mc : x.m ≤ x.c
  mb : x.m ≤ maxLen
  sl : Sl w x.q x.m (coresC x.cs)
structure KcX (w : World) (p : Option Addr) (n c : Nat) (xs : List Mv) : Prop where
  xl : xs.length = n
  nc : n ≤ c
  nb : n ≤ maxLen
  sl : Sl w p n (mvC xs)
  rd : ∀ x ∈ xs, MrX w x
def shortB (xs : List Mv) : Bool := decide (xs.length ≤ 12) && xs.all fun x => decide (x.m ≤ 8)
theorem short_iff {xs : List Mv} : shortB xs = true ↔ xs.length ≤ 12 ∧ ∀ x ∈ xs, x.m ≤ 8 := by
  unfold shortB; simp only [Bool.and_eq_true, decide_eq_true_eq, List.all_eq_true]
theorem KcX.kc {w : World} {p : Option Addr} {n c : Nat} {xs : List Mv} (h : KcX w p n c xs) (hs : shortB xs = true) : Kc w p n c xs := by
  obtain ⟨h1, h2⟩ := short_iff.1 hs
  exact ⟨h.xl, h.nc, by rw [← h.xl]; omega, h.sl, fun x hx => ⟨(h.rd x hx).ml, (h.rd x hx).mc, by have := h2 x hx; omega, (h.rd x hx).sl⟩⟩

set_option maxHeartbeats 2000000 in
set_option maxRecDepth 100000 in
theorem short_any (p : Option Addr) (n c : Nat) (wt : Int) (xs : List Mv) (w : World) (hc : KcX w p n c xs) :
    Calls Try.prog 13 #[.agg #[.slice p n c, .int .i64 wt]] w fun e w' => e = .returned (.bool (shortB xs)) ∧ Below w.heap.size w w' := by
  have hnb : n ≤ 9223372036854775807 := hc.nb
  have HX : Hid (∀ k, k < n → ∃ b off, p = some ⟨b, off, none⟩ ∧ MkAt w b off k (xs.getD k zV) ∧ (xs.getD k zV).m ≤ 9223372036854775807) := Lib.hid (fun k hk => by
    obtain ⟨b, off, h1, h2⟩ := mk_at hc.sl hc.xl k hk
    exact ⟨b, off, h1, h2, (hc.rd _ (mem_getD xs zV k (by rw [hc.xl]; exact hk))).mb⟩)
  have HLONG : Hid (12 < n → shortB xs = false) := Lib.hid (fun h => by
    cases e : shortB xs with
    | false => rfl
    | true => have := (short_iff.1 e).1; rw [hc.xl] at this; omega)
  have HNO : Hid (∀ k, k < n → 8 < (xs.getD k zV).m → shortB xs = false) := Lib.hid (fun k hk h => by
    cases e : shortB xs with
    | false => rfl
    | true => have := (short_iff.1 e).2 _ (mem_getD xs zV k (by rw [hc.xl]; exact hk)); omega)
  have HYES : Hid (n ≤ 12 → (∀ k, k < n → (xs.getD k zV).m ≤ 8) → shortB xs = true) := Lib.hid (fun h h2 => short_iff.2 ⟨by rw [hc.xl]; exact h, fun x hx => by
    obtain ⟨k, hk, rfl⟩ := List.mem_iff_getElem.1 hx
    rw [get_getD xs zV k hk]
    exact h2 k (by rw [← hc.xl]; exact hk)⟩)
  obtain ⟨r, hr⟩ : ∃ r, r = shortB xs := ⟨_, rfl⟩
  rw [← hr] at HLONG HNO HYES ⊢
  clear hr hc
  obtain ⟨w0, hw0⟩ : ∃ w0, w0 = w.alloc (.cells #[.slice p n c, .int .i64 wt] 26) := ⟨_, rfl⟩
  have HK0 : Hid (Blk w0 w.heap.size #[.slice p n c, .int .i64 wt]) := Lib.hid (by rw [hw0]; exact Blk.new _ _ _)
  have HB0 : Hid (Below w.heap.size w w0) := Lib.hid (by rw [hw0]; exact (Below.refl _ _).alloc (Nat.le_refl _) _)
  have HW0 := Lib.hid hw0
  clear hw0
  go_enter Try.func13, Try.ntmps13
  have kA := HK0.out.c
  go_upto_region 1 with fail
  rw [← HW0.out]
  clear HW0
  by_cases h12 : 12 < n
  · have d1 : decide ((12 : Int) < (n : Int)) = true := decide_eq_true (by omega)
    have d1n : decide (12 < n) = true := decide_eq_true h12
    have hR := HLONG.out h12
    subst hR
    go_wp2_with fail
    go_ret
    exact ⟨rfl, HB0.out⟩
  · have d1 : decide ((12 : Int) < (n : Int)) = false := decide_eq_false (by omega)
    have d1n : decide (12 < n) = false := decide_eq_false h12
    have H12 := Lib.hid h12
    clear h12 HLONG
    go_wp2_with fail
    go_loopw [3] (fun i wr => ∃ k : Nat, k ≤ n ∧ i = .int .i64 k ∧ Hid (∀ j, j < k → (xs.getD j zV).m ≤ 8) ∧ wr = w0) (fun i _ => n - (intOf i).toNat)
    case atStart => exact ⟨0, Nat.zero_le _, rfl, Lib.hid (fun j hj => absurd hj (Nat.not_lt_zero _)), rfl⟩
    case round =>
      obtain ⟨k, hk, rfl, HALL, rfl⟩ := hrel
      by_cases hlt : k < n
      · obtain ⟨b, off, rfl, hat, hmx⟩ := HX.out k hlt
        obtain ⟨l0, c0, c1, c2⟩ := hat.below HB0.out
        have hkI : (k : Int) < (n : Int) := by omega
        have HN := Lib.hid (HNO.out k hlt)
        have HAL : Hid ((xs.getD k zV).m ≤ 8 → ∀ j, j < k + 1 → (xs.getD j zV).m ≤ 8) := Lib.hid (fun h j hj => by
          by_cases e : j = k
          · rw [e]; exact h
          · exact HALL.out j (by omega))
        obtain ⟨x, hx⟩ : ∃ x, x = xs.getD k zV := ⟨_, rfl⟩
        rw [← hx] at c0 c1 c2 HN HAL hmx
        obtain ⟨xsp, xt, xq, xm, xc, xcs⟩ := x
        dsimp only at c0 c1 c2 HN HAL hmx
        clear hat hx
        by_cases h8 : 8 < xm
        · have d2 : decide ((8 : Int) < (xm : Int)) = true := decide_eq_true (by omega)
          have d2n : decide (8 < xm) = true := decide_eq_true h8
          have hR := HN.out h8
          subst hR
          go_wp2_with fail
          go_ret
          exact ⟨rfl, HB0.out⟩
        · have d2 : decide ((8 : Int) < (xm : Int)) = false := decide_eq_false (by omega)
          have d2n : decide (8 < xm) = false := decide_eq_false h8
          have HH8 := Lib.hid h8
          clear h8
          go_wp2_with fail
          go_roundw
          case rel => exact ⟨k + 1, by omega, by go_num, Lib.hid (HAL.out (by have := HH8.out; omega)), by first | trivial | rfl⟩
          case measure => simp [intOf]; omega
      · have e : k = n := by omega
        subst e
        have hR := HYES.out (by have := H12.out; omega) HALL.out
        subst hR
        go_wp2_with fail
        go_ret
        exact ⟨rfl, HB0.out⟩
end Go.Proofs.Ytbogkloemmddcaa
