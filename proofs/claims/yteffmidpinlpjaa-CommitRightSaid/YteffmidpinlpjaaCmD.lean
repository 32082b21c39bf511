/- Where a list whose intervals rise comes to one; no condition but that it reads. -/
import Derived.Test.YteffmidpinlpjaaCmB
namespace Go.Proofs.Yteffmidpinlpjaa
set_option linter.unusedVariables false
set_option linter.unusedSimpArgs false
open Go.ChangeShapes Go.WideShapes Go.ChangeAt Go.RowKit

theorem shr_run (ρ : Operand → Value) (w : World) (dst : Option Tmp) (x y : Operand) (ty : TypeId) (pos : String) (after : Array Edge) (guard : Option (Nat × Bool)) (z k : Int) (hz : z / 2 = k) (hx : ρ x = .int .u64 z) (hy : ρ y = .int .u64 1) :
    (execOp ρ { dst, op := .binOp .shr 68 x y 68, type := ty, pos, after, guard }).run Try.prog w = .ok (.value (.int .u64 k)) w := by
  subst hz
  go_simp
theorem conv_run (ρ : Operand → Value) (w : World) (dst : Option Tmp) (x : Operand) (ty : TypeId) (pos : String) (after : Array Edge) (guard : Option (Nat × Bool)) (k : Int) (hk : IntKind.i64.wrap k = k) (hx : ρ x = .int .u64 k) :
    (execOp ρ { dst, op := .convert 68 3 x, type := ty, pos, after, guard }).run Try.prog w = .ok (.value (.int .i64 k)) w := by
  go_simp
theorem wpList_conv {ops : Array Oper} {rest : List Oper} {a : Act} {w : World} {Q : Exit → Act → World → Prop} {dst : Option Tmp} {x : Operand} {ty : TypeId} {pos : String} {after : Array Edge} (k : Int) (hk : IntKind.i64.wrap k = k) (hx : a.eval x = .int .u64 k) (h : wpList Try.prog ops Q rest (a.put dst (.int .i64 k)) w) :
    wpList Try.prog ops Q ({ dst, op := .convert 68 3 x, type := ty, pos, after, guard := none } :: rest) a w :=
  wpList_plain rfl fun K hK => by
    unfold Oper.wp
    rw [conv_run a.eval w dst x ty pos after none k hk hx]
    exact hK _ _ h
theorem wpList_shr {ops : Array Oper} {rest : List Oper} {a : Act} {w : World} {Q : Exit → Act → World → Prop} {dst : Option Tmp} {x y : Operand} {ty : TypeId} {pos : String} {after : Array Edge} (z k : Int) (hz : z / 2 = k) (hx : a.eval x = .int .u64 z) (hy : a.eval y = .int .u64 1) (h : wpList Try.prog ops Q rest (a.put dst (.int .u64 k)) w) :
    wpList Try.prog ops Q ({ dst, op := .binOp .shr 68 x y 68, type := ty, pos, after, guard := none } :: rest) a w :=
  wpList_plain rfl fun K hK => by
    unfold Oper.wp
    rw [shr_run a.eval w dst x y ty pos after none z k hz hx hy]
    exact hK _ _ h

set_option maxHeartbeats 4000000 in
set_option maxRecDepth 100000 in
theorem search_any (q : Option Addr) (n x : Nat) (l : List Hd) (s : Int) (w : World) (hl : l.length = n) (hs : Sl w q n (hdC l)) (hn : n ≤ 10000) (hsort : l.Pairwise fun x y => x.span ≤ y.span) :
    Calls Try.prog 31 #[.slice q n x, .int .i64 s, .func (.func 32) #[] #[]] w fun e w' => ∃ b : Bool, e = .returned (.tuple #[.int .i64 (cutU l s : Nat), .bool b]) ∧ Below w.heap.size w w' := by
  have HCUT : Hid (∀ k, k < n → ((l.getD k zH).span < s ↔ k < cutU l s)) := Lib.hid (fun k hk => cut_lt hsort s k (by omega))
  have HCL : Hid (cutU l s ≤ n) := Lib.hid (by rw [← hl]; exact cut_le l s)
  have HAT : Hid (∀ k, k < n → ∃ b off, q = some ⟨b, off, none⟩ ∧ HdAt w b off k (l.getD k zH)) := Lib.hid (fun k hk => hd_at hs hl k hk)
  obtain ⟨r, hr⟩ : ∃ r, r = cutU l s := ⟨_, rfl⟩
  rw [← hr] at HCUT HCL ⊢
  clear hr hs hl hsort
  have HB0 : Hid (Below w.heap.size w w) := Lib.hid (Below.refl _ _)
  go_enter Try.func31, Try.ntmps31
  go_wp2_with fail
  go_loopw [9, 10] (fun vi vj wr => ∃ i j : Nat, vi = .int .i64 i ∧ vj = .int .i64 j ∧ i ≤ r ∧ r ≤ j ∧ j ≤ n ∧ Below w.heap.size w wr) (fun vi vj _ => (intOf vj).toNat - (intOf vi).toNat)
  case atStart => exact ⟨0, n, rfl, rfl, Nat.zero_le _, HCL.out, Nat.le_refl _, HB0.out⟩
  case round =>
    obtain ⟨i, j, rfl, rfl, hir, hrj, hjn, hb⟩ := hrel
    have HB := Lib.hid hb
    clear hb HB0
    by_cases hlt : i < j
    · have hltI : (i : Int) < (j : Int) := by omega
      obtain ⟨k, hk⟩ : ∃ k, k = (i + j) / 2 := ⟨_, rfl⟩
      have hik : i ≤ k := by omega
      have hkj : k < j := by omega
      have hkn : k < n := by omega
      have hkI : (k : Int) < (n : Int) := by omega
      have f1 : IntKind.i64.wrap ((i : Int) + (j : Int)) = (i : Int) + (j : Int) := by rw [IntKind.wrap_i64]; omega
      have f2 : wrap64 ((i : Int) + (j : Int)) = (i : Int) + (j : Int) := by unfold wrap64; omega
      have f3 : ((i : Int) + (j : Int)) / 2 = (k : Int) := by omega
      have f4 : IntKind.u64.wrap ((i : Int) + (j : Int)) = (i : Int) + (j : Int) := by rw [IntKind.wrap_u64]; omega
      have f5 : IntKind.i64.wrap (k : Int) = (k : Int) := by rw [IntKind.wrap_i64]; omega
      have f6 : wrap64 (k : Int) = (k : Int) := by unfold wrap64; omega
      obtain ⟨b, off, rfl, hat⟩ := HAT.out k hkn
      have hat2 := hat.below HB.out
      have HC := Lib.hid (HCUT.out k hkn)
      obtain ⟨y, hy⟩ : ∃ y, y = l.getD k zH := ⟨_, rfl⟩
      rw [← hy] at hat2 HC
      have HS : Hid (∀ V, Below wr.heap.size wr V → V.cell? ⟨b, off + k * 3, none⟩ = some (.int .i64 y.td.core) ∧ V.cell? ⟨b, off + k * 3 + 1, none⟩ = some (.int .u32 y.td.val) ∧ V.cell? ⟨b, off + k * 3 + 2, none⟩ = some (.int .i64 y.span)) := Lib.hid (fun V hV => ⟨(hat2.below hV).c0, (hat2.below hV).c1, (hat2.below hV).c2⟩)
      obtain ⟨⟨ya, yv⟩, ys⟩ := y
      dsimp only at HS HC
      have F3 := Lib.hid f3
      have F5 := Lib.hid f5
      clear hat hat2 hy hk f3 f5 f6
      go_upto_region 5 with (first | (refine wpList_shr ((i : Int) + (j : Int)) (k : Int) F3.out rfl rfl ?_; simp only [Act.put, List.setIfInBounds_toArray, List.set_cons_zero, List.set_cons_succ]) | (refine wpList_conv (k : Int) F5.out rfl ?_; simp only [Act.put, List.setIfInBounds_toArray, List.set_cons_zero, List.set_cons_succ]))
      have kc := HS.out wr (Below.refl _ _)
      obtain ⟨kc0, kc1, kc2⟩ := kc
      go_wp2_with fail
      refine (byspan_any ⟨⟨ya, yv⟩, ys⟩ s wr).mono ?_
      rintro e w2 ⟨rfl, hb2⟩
      have HB2 : Hid (Below wr.heap.size wr w2) := Lib.hid hb2
      dsimp only
      clear hb2 kc0 kc1 kc2
      have HBW : Hid (Below w.heap.size w w2) := Lib.hid (HB.out.trans (HB2.out.mono HB.out.size))
      by_cases hc : ys < s
      · have dc : decide (cmpI ys s < 0) = true := by rw [cmp_neg]; exact decide_eq_true hc
        have hkr : k < r := HC.out.1 hc
        have f7 : IntKind.i64.wrap ((k : Int) + 1) = (k : Int) + 1 := by rw [IntKind.wrap_i64]; omega
        have f8 : wrap64 ((k : Int) + 1) = (k : Int) + 1 := by unfold wrap64; omega
        clear hc f1 f2 f4
        go_wp2_with fail
        go_roundw
        case rel => exact ⟨k + 1, j, by first | rfl | simp, rfl, by omega, hrj, hjn, HBW.out⟩
        case measure => simp [intOf]; omega
      · have dc : decide (cmpI ys s < 0) = false := by rw [cmp_neg]; exact decide_eq_false hc
        have hkr : ¬ k < r := fun h => hc (HC.out.2 h)
        clear hc f1 f2 f4
        go_wp2_with fail
        go_roundw
        case rel => exact ⟨i, k, rfl, rfl, hir, by omega, by omega, HBW.out⟩
        case measure => simp [intOf]; omega
    · have hij : i = r := by omega
      subst hij
      have dlt : decide ((i : Int) < (j : Int)) = false := decide_eq_false (by omega)
      go_upto_region 8 with fail
      by_cases hin : i < n
      · have hinI : (i : Int) < (n : Int) := by omega
        obtain ⟨b, off, rfl, hat⟩ := HAT.out i hin
        have hat2 := hat.below HB.out
        obtain ⟨y, hy⟩ : ∃ y, y = l.getD i zH := ⟨_, rfl⟩
        rw [← hy] at hat2
        have HS : Hid (∀ V, Below wr.heap.size wr V → V.cell? ⟨b, off + i * 3, none⟩ = some (.int .i64 y.td.core) ∧ V.cell? ⟨b, off + i * 3 + 1, none⟩ = some (.int .u32 y.td.val) ∧ V.cell? ⟨b, off + i * 3 + 2, none⟩ = some (.int .i64 y.span)) := Lib.hid (fun V hV => ⟨(hat2.below hV).c0, (hat2.below hV).c1, (hat2.below hV).c2⟩)
        obtain ⟨⟨ya, yv⟩, ys⟩ := y
        dsimp only at HS
        clear hat hat2 hy
        obtain ⟨kc0, kc1, kc2⟩ := HS.out wr (Below.refl _ _)
        go_wp2_with fail
        refine (byspan_any ⟨⟨ya, yv⟩, ys⟩ s wr).mono ?_
        rintro e w2 ⟨rfl, hb2⟩
        have HB2 : Hid (Below wr.heap.size wr w2) := Lib.hid hb2
        dsimp only
        clear hb2 kc0 kc1 kc2
        obtain ⟨z, hz⟩ : ∃ z, z = cmpI ys s := ⟨_, rfl⟩
        rw [← hz]
        clear hz
        go_wp2_with fail
        exact bodyPost_ret (v := .tuple #[.int .i64 (i : Int), .bool _]) (by simp [results, Try.results31, go_sem]; rfl) rfl ⟨_, rfl, HB.out.trans (HB2.out.mono HB.out.size)⟩
      · have dnn : decide ((i : Int) < (n : Int)) = false := decide_eq_false (by omega)
        go_wp2_with fail
        exact bodyPost_ret (v := .tuple #[.int .i64 (i : Int), .bool false]) (by simp [results, Try.results31, go_sem]) rfl ⟨_, rfl, HB.out⟩

set_option maxHeartbeats 2000000 in
theorem below_any (q : Option Addr) (n x : Nat) (l : List Hd) (s : Int) (w : World) (hl : l.length = n) (hs : Sl w q n (hdC l)) (hn : n ≤ 10000) (hsort : l.Pairwise fun x y => x.span ≤ y.span) :
    Calls Try.prog 23 #[.slice q n x, .int .i64 s] w fun e w' => e = .returned (.int .i64 (cutU l s : Nat)) ∧ Below w.heap.size w w' := by
  have HQ := Lib.hid (search_any q n x l s w hl hs hn hsort)
  obtain ⟨r, hr⟩ : ∃ r, r = cutU l s := ⟨_, rfl⟩
  rw [← hr] at HQ ⊢
  clear hr hs hl hsort
  go_enter Try.func23, Try.ntmps23
  go_wp2_with fail
  refine HQ.out.mono ?_
  rintro e w' ⟨b, rfl, hb⟩
  go_wp2_with fail
  go_ret
  exact ⟨rfl, hb⟩
end Go.Proofs.Yteffmidpinlpjaa
