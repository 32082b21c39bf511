/- Where a list whose intervals rise comes to one; room; whether there was an interval; new logs; no condition but that they read. -/
import Derived.Test.YtbgllkjhgjoodaaUnG
namespace Go.Proofs.Ytbgllkjhgjoodaa
set_option linter.unusedVariables false
open Go.ChangeShapes Go.WideShapes Go.ChangeAt Go.RowKit

theorem shr_run (ρ : Operand → Value) (w : World) (dst : Option Tmp) (x y : Operand) (ty : TypeId) (pos : String) (after : Array Edge) (guard : Option (Nat × Bool)) (z k : Int) (hz : z / 2 = k) (hx : ρ x = .int .u64 z) (hy : ρ y = .int .u64 1) :
    (execOp ρ { dst, op := .binOp .shr 77 x y 77, type := ty, pos, after, guard }).run Try.prog w = .ok (.value (.int .u64 k)) w := by
  subst hz
  go_simp
theorem conv_run (ρ : Operand → Value) (w : World) (dst : Option Tmp) (x : Operand) (ty : TypeId) (pos : String) (after : Array Edge) (guard : Option (Nat × Bool)) (k : Int) (hk : IntKind.i64.wrap k = k) (hx : ρ x = .int .u64 k) :
    (execOp ρ { dst, op := .convert 77 3 x, type := ty, pos, after, guard }).run Try.prog w = .ok (.value (.int .i64 k)) w := by
  go_simp
theorem wpList_conv {ops : Array Oper} {rest : List Oper} {a : Act} {w : World} {Q : Exit → Act → World → Prop} {dst : Option Tmp} {x : Operand} {ty : TypeId} {pos : String} {after : Array Edge} (k : Int) (hk : IntKind.i64.wrap k = k) (hx : a.eval x = .int .u64 k) (h : wpList Try.prog ops Q rest (a.put dst (.int .i64 k)) w) :
    wpList Try.prog ops Q ({ dst, op := .convert 77 3 x, type := ty, pos, after, guard := none } :: rest) a w :=
  wpList_plain rfl fun K hK => by
    unfold Oper.wp
    rw [conv_run a.eval w dst x ty pos after none k hk hx]
    exact hK _ _ h
theorem wpList_shr {ops : Array Oper} {rest : List Oper} {a : Act} {w : World} {Q : Exit → Act → World → Prop} {dst : Option Tmp} {x y : Operand} {ty : TypeId} {pos : String} {after : Array Edge} (z k : Int) (hz : z / 2 = k) (hx : a.eval x = .int .u64 z) (hy : a.eval y = .int .u64 1) (h : wpList Try.prog ops Q rest (a.put dst (.int .u64 k)) w) :
    wpList Try.prog ops Q ({ dst, op := .binOp .shr 77 x y 77, type := ty, pos, after, guard := none } :: rest) a w :=
  wpList_plain rfl fun K hK => by
    unfold Oper.wp
    rw [shr_run a.eval w dst x y ty pos after none z k hz hx hy]
    exact hK _ _ h

set_option maxHeartbeats 4000000 in
set_option maxRecDepth 100000 in
theorem search_any (q : Option Addr) (n x : Nat) (l : List Un) (s a v : Int) (w : World) (hl : l.length = n) (hs : Sl w q n (unC l)) (hn : n ≤ 10000) (hsort : l.Pairwise fun x y => x.span ≤ y.span) :
    Calls Try.prog 36 #[.slice q n x, .agg #[.int .i64 s, .int .i64 a, .int .u32 v], .func (.func 33) #[] #[]] w fun e w' => ∃ b : Bool, e = .returned (.tuple #[.int .i64 (cutU l s : Nat), .bool b]) ∧ Below w.heap.size w w' := by
  have HCUT : Hid (∀ k, k < n → ((l.getD k zU).span < s ↔ k < cutU l s)) := Lib.hid (fun k hk => cut_lt hsort s k (by omega))
  have HCL : Hid (cutU l s ≤ n) := Lib.hid (by rw [← hl]; exact cut_le l s)
  have HAT : Hid (∀ k, k < n → ∃ b off, q = some ⟨b, off, none⟩ ∧ UnAt w b off k (l.getD k zU)) := Lib.hid (fun k hk => un_at (by rw [hl]; exact hs) k (by omega))
  obtain ⟨r, hr⟩ : ∃ r, r = cutU l s := ⟨_, rfl⟩
  rw [← hr] at HCUT HCL ⊢
  clear hr hs hl hsort
  have HB0 : Hid (Below w.heap.size w (w.alloc (.cells #[.int .i64 s, .int .i64 a, .int .u32 v] 51))) := Lib.hid ((Below.refl _ _).alloc (Nat.le_refl _) _)
  have HA0 : Hid (Blk (w.alloc (.cells #[.int .i64 s, .int .i64 a, .int .u32 v] 51)) w.heap.size #[.int .i64 s, .int .i64 a, .int .u32 v]) := Lib.hid (Blk.new _ _ _)
  go_enter Try.func36, Try.ntmps36
  go_wp2_with fail
  go_loopw [9, 10] (fun vi vj wr => ∃ i j : Nat, vi = .int .i64 i ∧ vj = .int .i64 j ∧ i ≤ r ∧ r ≤ j ∧ j ≤ n ∧ Blk wr w.heap.size #[.int .i64 s, .int .i64 a, .int .u32 v] ∧ Below w.heap.size w wr) (fun vi vj _ => (intOf vj).toNat - (intOf vi).toNat)
  case atStart => exact ⟨0, n, rfl, rfl, Nat.zero_le _, HCL.out, Nat.le_refl _, HA0.out, HB0.out⟩
  case round =>
    obtain ⟨i, j, rfl, rfl, hir, hrj, hjn, ha, hb⟩ := hrel
    have HB := Lib.hid hb
    have HA := Lib.hid ha
    clear hb ha HB0 HA0
    by_cases hlt : i < j
    · have hltI : (i : Int) < (j : Int) := by omega
      obtain ⟨k, hk⟩ : ∃ k, k = (i + j) / 2 := ⟨_, rfl⟩
      have hik : i ≤ k := by omega
      have hkj : k < j := by omega
      have hkn : k < n := by omega
      have hkI : (k : Int) < (n : Int) := by omega
      have f1 : IntKind.i64.wrap ((i : Int) + (j : Int)) = (i : Int) + (j : Int) := by rw [IntKind.wrap_i64]; omega
      have f2 : wrap64 ((i : Int) + (j : Int)) = (i : Int) + (j : Int) := by unfold wrap64; omega
      have f3 : ((i : Int) + (j : Int)) / 2 = (k : Int) := by omega
      have f4 : IntKind.u64.wrap ((i : Int) + (j : Int)) = (i : Int) + (j : Int) := by rw [IntKind.wrap_u64]; omega
      have f5 : IntKind.i64.wrap (k : Int) = (k : Int) := by rw [IntKind.wrap_i64]; omega
      have f6 : wrap64 (k : Int) = (k : Int) := by unfold wrap64; omega
      obtain ⟨b, off, rfl, hat⟩ := HAT.out k hkn
      have hat2 := hat.below HB.out
      have HC := Lib.hid (HCUT.out k hkn)
      obtain ⟨y, hy⟩ : ∃ y, y = l.getD k zU := ⟨_, rfl⟩
      rw [← hy] at hat2 HC
      have HS : Hid (∀ V, Below wr.heap.size wr V → (V.cell? ⟨b, off + k * 3, none⟩ = some (.int .i64 y.span) ∧ V.cell? ⟨b, off + k * 3 + 1, none⟩ = some (.int .i64 y.at_) ∧ V.cell? ⟨b, off + k * 3 + 2, none⟩ = some (.int .u32 y.val)) ∧ ∀ t, V.cell? ⟨w.heap.size, t, none⟩ = (#[.int .i64 s, .int .i64 a, .int .u32 v] : Array Value)[t]?) := Lib.hid (fun V hV => ⟨⟨(hat2.below hV).c0, (hat2.below hV).c1, (hat2.below hV).c2⟩, (HA.out.below hV).c⟩)
      obtain ⟨ys, ya, yv⟩ := y
      dsimp only at HS HC
      have F3 := Lib.hid f3
      have F5 := Lib.hid f5
      clear hat hat2 hy hk f3 f5 f6
      go_upto_region 5 with (first | (refine wpList_shr ((i : Int) + (j : Int)) (k : Int) F3.out rfl rfl ?_; simp only [Act.put, List.setIfInBounds_toArray, List.set_cons_zero, List.set_cons_succ]) | (refine wpList_conv (k : Int) F5.out rfl ?_; simp only [Act.put, List.setIfInBounds_toArray, List.set_cons_zero, List.set_cons_succ]))
      refine region_plan (fun V : World => (V.cell? ⟨b, off + k * 3, none⟩ = some (.int .i64 ys) ∧ V.cell? ⟨b, off + k * 3 + 1, none⟩ = some (.int .i64 ya) ∧ V.cell? ⟨b, off + k * 3 + 2, none⟩ = some (.int .u32 yv)) ∧ ∀ t, V.cell? ⟨w.heap.size, t, none⟩ = (#[.int .i64 s, .int .i64 a, .int .u32 v] : Array Value)[t]?) 7 [(0, true), (1, true), (2, true), (3, true), (4, true), (5, true), (6, false)] (by kernel_rfl) (by kernel_rfl) (HS.out _ (Below.refl _ _).drew) ?_
      iterate 6
        refine plan_read (v := ?_) rfl (by rfl) ?_ ?_
        rotate_left
        · intro w' hS
          try dsimp only at hS
          go_simp
          try with_reducible rfl
        try simp only [Act.put, List.setIfInBounds_toArray, List.set_cons_zero, List.set_cons_succ, List.getElem_toArray, List.getElem_cons_zero, List.getElem_cons_succ]
      refine plan_call (F := 33) (args := ?_) rfl (by rfl) ?_ ?_
      rotate_left
      · go_simp
        rfl
      refine (bySpan_any ys ya yv s a v wr.drew).mono ?_
      rintro e w2 ⟨rfl, hb2⟩
      have HB2 : Hid (Below wr.heap.size wr w2) := Lib.hid ((Below.refl _ _).drew.trans hb2)
      clear hb2
      refine ⟨_, rfl, HS.out _ HB2.out, ?_⟩
      try simp only [Act.put, List.setIfInBounds_toArray, List.set_cons_zero, List.set_cons_succ, List.getElem_toArray, List.getElem_cons_zero, List.getElem_cons_succ]
      refine plan_nil ?_
      simp only [List.drop_succ_cons, List.drop_zero]
      have HBW : Hid (Below w.heap.size w w2) := Lib.hid (HB.out.trans (HB2.out.mono HB.out.size))
      have HA2 := Lib.hid (HA.out.below HB2.out)
      by_cases hc : ys < s
      · have dc : decide (cmpI ys s < 0) = true := by rw [cmp_neg]; exact decide_eq_true hc
        have hkr : k < r := HC.out.1 hc
        have f7 : IntKind.i64.wrap ((k : Int) + 1) = (k : Int) + 1 := by rw [IntKind.wrap_i64]; omega
        have f8 : wrap64 ((k : Int) + 1) = (k : Int) + 1 := by unfold wrap64; omega
        clear hc f1 f2 f4
        go_wp2_with fail
        go_roundw
        case rel => exact ⟨k + 1, j, by first | rfl | simp, rfl, by omega, hrj, hjn, HA2.out, HBW.out⟩
        case measure => simp [intOf]; omega
      · have dc : decide (cmpI ys s < 0) = false := by rw [cmp_neg]; exact decide_eq_false hc
        have hkr : ¬ k < r := fun h => hc (HC.out.2 h)
        clear hc f1 f2 f4
        go_wp2_with fail
        go_roundw
        case rel => exact ⟨i, k, rfl, rfl, hir, by omega, by omega, HA2.out, HBW.out⟩
        case measure => simp [intOf]; omega
    · have hij : i = r := by omega
      subst hij
      have dlt : decide ((i : Int) < (j : Int)) = false := decide_eq_false (by omega)
      go_upto_region 8 with fail
      by_cases hin : i < n
      · have hinI : (i : Int) < (n : Int) := by omega
        obtain ⟨b, off, rfl, hat⟩ := HAT.out i hin
        have hat2 := hat.below HB.out
        obtain ⟨y, hy⟩ : ∃ y, y = l.getD i zU := ⟨_, rfl⟩
        rw [← hy] at hat2
        have HS : Hid (∀ V, Below wr.heap.size wr V → (V.cell? ⟨b, off + i * 3, none⟩ = some (.int .i64 y.span) ∧ V.cell? ⟨b, off + i * 3 + 1, none⟩ = some (.int .i64 y.at_) ∧ V.cell? ⟨b, off + i * 3 + 2, none⟩ = some (.int .u32 y.val)) ∧ ∀ t, V.cell? ⟨w.heap.size, t, none⟩ = (#[.int .i64 s, .int .i64 a, .int .u32 v] : Array Value)[t]?) := Lib.hid (fun V hV => ⟨⟨(hat2.below hV).c0, (hat2.below hV).c1, (hat2.below hV).c2⟩, (HA.out.below hV).c⟩)
        obtain ⟨ys, ya, yv⟩ := y
        dsimp only at HS
        clear hat hat2 hy
        refine region_plan (fun V : World => (V.cell? ⟨b, off + i * 3, none⟩ = some (.int .i64 ys) ∧ V.cell? ⟨b, off + i * 3 + 1, none⟩ = some (.int .i64 ya) ∧ V.cell? ⟨b, off + i * 3 + 2, none⟩ = some (.int .u32 yv)) ∧ ∀ t, V.cell? ⟨w.heap.size, t, none⟩ = (#[.int .i64 s, .int .i64 a, .int .u32 v] : Array Value)[t]?) 15 [(0, true), (1, true), (2, true), (3, true), (4, true), (5, true), (6, true), (7, true), (8, true), (9, true), (10, true), (11, false), (14, true), (12, true), (13, true)] (by kernel_rfl) (by kernel_rfl) (HS.out _ (Below.refl _ _).drew) ?_
        iterate 11
          refine plan_read (v := ?_) rfl (by rfl) ?_ ?_
          rotate_left
          · intro w' hS
            try dsimp only at hS
            go_simp
            try with_reducible rfl
          try simp only [Act.put, List.setIfInBounds_toArray, List.set_cons_zero, List.set_cons_succ, List.getElem_toArray, List.getElem_cons_zero, List.getElem_cons_succ]
        refine plan_call (F := 33) (args := ?_) rfl (by rfl) ?_ ?_
        rotate_left
        · go_simp
          rfl
        refine (bySpan_any ys ya yv s a v wr.drew).mono ?_
        rintro e w2 ⟨rfl, hb2⟩
        have HB2 : Hid (Below wr.heap.size wr w2) := Lib.hid ((Below.refl _ _).drew.trans hb2)
        clear hb2
        refine ⟨_, rfl, HS.out _ HB2.out, ?_⟩
        try simp only [Act.put, List.setIfInBounds_toArray, List.set_cons_zero, List.set_cons_succ, List.getElem_toArray, List.getElem_cons_zero, List.getElem_cons_succ]
        obtain ⟨z, hz⟩ : ∃ z, z = cmpI ys s := ⟨_, rfl⟩
        rw [← hz]
        clear hz
        iterate 3
          refine plan_read (v := ?_) rfl (by rfl) ?_ ?_
          rotate_left
          · intro w' hS
            try dsimp only at hS
            go_simp
            try with_reducible rfl
          try simp only [Act.put, List.setIfInBounds_toArray, List.set_cons_zero, List.set_cons_succ, List.getElem_toArray, List.getElem_cons_zero, List.getElem_cons_succ]
        refine plan_nil ?_
        simp only [List.drop_succ_cons, List.drop_zero]
        go_wp2_with fail
        exact bodyPost_ret (v := .tuple #[.int .i64 (i : Int), .bool _]) (by simp [results, Try.results36, go_sem]; rfl) rfl ⟨_, rfl, HB.out.trans (HB2.out.mono HB.out.size)⟩
      · have dnn : decide ((i : Int) < (n : Int)) = false := decide_eq_false (by omega)
        refine region_plan (fun V : World => V = wr.drew) 15 [(0, true), (1, true), (2, true), (3, true), (4, true), (5, true), (6, true), (7, true), (8, true), (9, true), (10, true), (11, false), (14, true), (12, true), (13, true)] (by kernel_rfl) (by kernel_rfl) rfl ?_
        iterate 5
          refine plan_read (v := ?_) rfl (by rfl) ?_ ?_
          rotate_left
          · intro w' hS
            try dsimp only at hS
            go_simp
            try with_reducible rfl
          try simp only [Act.put, List.setIfInBounds_toArray, List.set_cons_zero, List.set_cons_succ, List.getElem_toArray, List.getElem_cons_zero, List.getElem_cons_succ]
        refine plan_skip rfl (by rfl) ?_
        try simp only [Act.put, List.setIfInBounds_toArray, List.set_cons_zero, List.set_cons_succ, List.getElem_toArray, List.getElem_cons_zero, List.getElem_cons_succ]
        refine plan_skip rfl (by rfl) ?_
        try simp only [Act.put, List.setIfInBounds_toArray, List.set_cons_zero, List.set_cons_succ, List.getElem_toArray, List.getElem_cons_zero, List.getElem_cons_succ]
        refine plan_skip rfl (by rfl) ?_
        try simp only [Act.put, List.setIfInBounds_toArray, List.set_cons_zero, List.set_cons_succ, List.getElem_toArray, List.getElem_cons_zero, List.getElem_cons_succ]
        refine plan_skip rfl (by rfl) ?_
        try simp only [Act.put, List.setIfInBounds_toArray, List.set_cons_zero, List.set_cons_succ, List.getElem_toArray, List.getElem_cons_zero, List.getElem_cons_succ]
        refine plan_skip rfl (by rfl) ?_
        try simp only [Act.put, List.setIfInBounds_toArray, List.set_cons_zero, List.set_cons_succ, List.getElem_toArray, List.getElem_cons_zero, List.getElem_cons_succ]
        refine plan_skip rfl (by rfl) ?_
        try simp only [Act.put, List.setIfInBounds_toArray, List.set_cons_zero, List.set_cons_succ, List.getElem_toArray, List.getElem_cons_zero, List.getElem_cons_succ]
        refine plan_skipc rfl (by rfl) rfl ?_
        try simp only [Act.put, List.setIfInBounds_toArray, List.set_cons_zero, List.set_cons_succ, List.getElem_toArray, List.getElem_cons_zero, List.getElem_cons_succ]
        iterate 1
          refine plan_read (v := ?_) rfl (by rfl) ?_ ?_
          rotate_left
          · intro w' hS
            try dsimp only at hS
            go_simp
            try with_reducible rfl
          try simp only [Act.put, List.setIfInBounds_toArray, List.set_cons_zero, List.set_cons_succ, List.getElem_toArray, List.getElem_cons_zero, List.getElem_cons_succ]
        refine plan_skip rfl (by rfl) ?_
        try simp only [Act.put, List.setIfInBounds_toArray, List.set_cons_zero, List.set_cons_succ, List.getElem_toArray, List.getElem_cons_zero, List.getElem_cons_succ]
        iterate 1
          refine plan_read (v := ?_) rfl (by rfl) ?_ ?_
          rotate_left
          · intro w' hS
            try dsimp only at hS
            go_simp
            try with_reducible rfl
          try simp only [Act.put, List.setIfInBounds_toArray, List.set_cons_zero, List.set_cons_succ, List.getElem_toArray, List.getElem_cons_zero, List.getElem_cons_succ]
        refine plan_nil ?_
        simp only [List.drop_succ_cons, List.drop_zero]
        go_wp2_with fail
        exact bodyPost_ret (v := .tuple #[.int .i64 (i : Int), .bool false]) (by simp [results, Try.results36, go_sem]) rfl ⟨_, rfl, HB.out.drew⟩
end Go.Proofs.Ytbgllkjhgjoodaa
