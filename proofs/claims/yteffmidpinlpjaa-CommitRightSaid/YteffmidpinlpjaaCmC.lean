/- Whether the last one of a list is of a later interval, whether a gate is right, and may be asked, by the program; no condition but that they read. -/
import Derived.Test.YteffmidpinlpjaaCmB
import Derived.Test.YteffmidpinlpjaaPlan
namespace Go.Proofs.Yteffmidpinlpjaa
set_option linter.unusedVariables false
set_option linter.unusedSimpArgs false
open Go.ChangeShapes Go.WideShapes Go.ChangeAt Go.RowKit

theorem Sl.take {w : World} {p : Option Addr} {n k : Nat} {xs : List Hd} (h : Sl w p n (hdC xs)) (hk : k ≤ n) (hl : xs.length = n) : Sl w p k (hdC (xs.take k)) := fun h0 => by
  obtain ⟨b, off, h1, h2, h3⟩ := h (by omega)
  refine ⟨b, off, h1, h2, fun j hj => ?_⟩
  rw [hdC_len, List.length_take] at hj
  rw [h3 j (by rw [hdC_len]; omega), hdC_take, List.getElem?_take_of_lt (by omega)]
theorem sizeH (W : World) : (sizeOf (Try.prog.elem 22)).run Try.prog W = .ok 3 W := by
  obtain ⟨i0, hi, _, hz1, _⟩ := info_parts infoH
  have e : Try.prog.elem 22 = 52 := by kernel_rfl
  rw [e]
  simp [sizeOf, typeInfo, hi, hz1]
theorem cut_hi (p : Option Addr) (x c h : Nat) (hl : h ≤ c) (hp : p = none → h = 0) (W : World) : ∃ a, (Instr.slice 22 (.slice p x c) none (some (.int .i64 (h : Int))) none).run Try.prog W = .ok (.slice a h c) W ∧ a = p := by
  have he : Try.prog.underlying 22 = some (.slice (Try.prog.elem 22)) := by kernel_rfl
  rw [run_slice_h W 22 _ x c he .i64 h (by omega) (by omega), sizeH]
  cases p with
  | none => exact ⟨none, by simp [Result.andThen, sliced], rfl⟩
  | some a => obtain ⟨b, off, sp⟩ := a; exact ⟨_, by simp [Result.andThen, sliced, Addr.add]; rfl, by cases sp <;> rfl⟩
set_option maxHeartbeats 2000000 in
theorem late_any (p : Option Addr) (n c : Nat) (l : List Hd) (s : Int) (w : World) (hl : l.length = n) (hs : Sl w p n (hdC l)) (hn : n ≤ 10000) :
    Calls Try.prog 21 #[.slice p n c, .int .i64 s] w fun e w' => e = .returned (.bool (lateB l s)) ∧ w = w' := by
  have HM : Hid (lateB l s = (decide (0 < n) && decide (s < (l.getD (n - 1) zH).span))) := Lib.hid (by unfold lateB lastH; rw [hl])
  obtain ⟨r, hr⟩ : ∃ r, r = lateB l s := ⟨_, rfl⟩
  rw [← hr] at HM ⊢
  clear hr
  by_cases h0 : n = 0
  · subst h0
    clear hs hl
    go_enter Try.func21, Try.ntmps21
    go_wp2_with fail
    go_ret
    exact ⟨by rw [HM.out]; rfl, rfl⟩
  · obtain ⟨b, off, rfl, hat⟩ := hd_at hs hl (n - 1) (by omega)
    obtain ⟨l0, c0, c1, c2⟩ := hat
    obtain ⟨y, hy⟩ : ∃ y, y = l.getD (n - 1) zH := ⟨_, rfl⟩
    rw [← hy] at c0 c1 c2 HM
    obtain ⟨⟨yc, yv⟩, ys⟩ := y
    dsimp only at c0 c1 c2 HM
    obtain ⟨k, hk⟩ : ∃ k, n = k + 1 := ⟨n - 1, by omega⟩
    have hk1 : n - 1 = k := by omega
    rw [hk1] at c0 c1 c2
    have f1 : IntKind.i64.wrap ((n : Int) - 1) = (k : Int) := by rw [IntKind.wrap_i64]; omega
    have f2 : wrap64 ((n : Int) - 1) = (k : Int) := by unfold wrap64; omega
    have hkn : k < n := by omega
    have hkI : (k : Int) < (n : Int) := by omega
    have h0n : 0 < n := by omega
    have d0 : decide ((0 : Int) < (n : Int)) = true := decide_eq_true (by omega)
    have d0n : decide (0 < n) = true := decide_eq_true (by omega)
    rw [d0n] at HM
    obtain ⟨g, hg⟩ : ∃ g, decide (s < ys) = g := ⟨_, rfl⟩
    rw [hg] at HM
    clear hs hl hy hk hk1 h0
    cases g <;>
    · go_enter Try.func21, Try.ntmps21
      go_wp2_with fail
      go_ret
      exact ⟨by rw [HM.out]; rfl, rfl⟩
theorem fit_eq {l : List Hd} {k n : Nat} : fitB (l.take k) (l.getD k zH) = (spanB (l.getD k zH).span && !lateB (l.take k) (l.getD k zH).span) := rfl

set_option maxHeartbeats 4000000 in
set_option maxRecDepth 100000 in
theorem right_any (S : Nat → Prop) (v : Value) (L : Gt) (w : World) (h : Lo S w v L) : Calls Try.prog 14 #[v] w fun e w' => e = .returned (.bool (rightG L)) ∧ Below w.heap.size w w' := by
  obtain ⟨p, n, c, q, m, d, rfl, hc, -⟩ := h
  have hn := hc.m10
  have hnc := hc.mc
  have HM : Hid (rightG L = (decide (n ≤ 64) && allB L.held n)) := Lib.hid (by unfold rightG; rw [hc.ml])
  obtain ⟨l, hl⟩ : ∃ l, l = L.held := ⟨_, rfl⟩
  have hll : l.length = n := by rw [hl]; exact hc.ml
  have hsl : Sl w p n (hdC l) := by rw [hl]; exact hc.ms
  rw [← hl] at HM
  have HLT : Hid (∀ k, k < n → ∀ W, Below w.heap.size w W → Calls Try.prog 21 #[.slice p k c, .int .i64 (l.getD k zH).span] W fun e w' => e = .returned (.bool (lateB (l.take k) (l.getD k zH).span)) ∧ W = w') := Lib.hid (fun k hk W hW =>
    late_any p k c (l.take k) _ W (by rw [List.length_take, hll]; omega) ((hsl.below hW).take (by omega) hll) (by omega))
  have HAT : Hid (∀ k, k < n → ∃ b off, p = some ⟨b, off, none⟩ ∧ HdAt w b off k (l.getD k zH)) := Lib.hid (fun k hk => hd_at hsl hll k hk)
  have HYES : Hid ((∀ j, j < n → fitB (l.take j) (l.getD j zH) = true) → allB l n = true) := Lib.hid (fun h => allB_iff.2 h)
  have HNO : Hid (∀ j, j < n → fitB (l.take j) (l.getD j zH) = false → allB l n = false) := Lib.hid (fun j hj h => by
    cases e : allB l n with
    | false => rfl
    | true => rw [allB_iff.1 e j hj] at h; cases h)
  obtain ⟨r, hr⟩ : ∃ r, r = rightG L := ⟨_, rfl⟩
  rw [← hr] at HM ⊢
  clear hr hc hll hsl hl
  have HK0 : Hid (Blk (w.alloc (.cells #[.slice p n c, .slice q m d] 25)) w.heap.size #[.slice p n c, .slice q m d]) := Lib.hid (Blk.new _ _ _)
  have HB0 : Hid (Below w.heap.size w (w.alloc (.cells #[.slice p n c, .slice q m d] 25))) := Lib.hid ((Below.refl _ _).alloc (Nat.le_refl _) _)
  obtain ⟨w0, hw0⟩ : ∃ w0, w0 = w.alloc (.cells #[.slice p n c, .slice q m d] 25) := ⟨_, rfl⟩
  rw [← hw0] at HK0 HB0
  have HW0 := Lib.hid hw0
  clear hw0
  by_cases h2 : 64 < n
  · have d2 : decide ((64 : Int) < (n : Int)) = true := decide_eq_true (by omega)
    have d2n : decide (64 < n) = true := decide_eq_true (by omega)
    go_enter Try.func14, Try.ntmps14
    have kA := HK0.out.c
    go_upto_region 1 with fail
    rw [← HW0.out]
    clear HW0
    go_wp2_with fail
    go_ret
    exact ⟨by rw [HM.out, decide_eq_false (show ¬ n ≤ 64 by omega)]; simp, HB0.out⟩
  have d2 : decide ((64 : Int) < (n : Int)) = false := decide_eq_false (by omega)
  have d2n : decide (64 < n) = false := decide_eq_false (by omega)
  have HM2 : Hid (r = allB l n) := Lib.hid (by rw [HM.out, decide_eq_true (show n ≤ 64 by omega)]; rfl)
  clear HM h2
  go_enter Try.func14, Try.ntmps14
  have kA := HK0.out.c
  go_upto_region 1 with fail
  rw [← HW0.out]
  clear HW0
  go_upto_region 4 with fail
  go_loopw [12] (fun i wr => ∃ k : Nat, k ≤ n ∧ i = .int .i64 k ∧ Hid (∀ j, j < k → fitB (l.take j) (l.getD j zH) = true) ∧ Below w0.heap.size w0 wr) (fun i _ => n - (intOf i).toNat)
  case atStart => exact ⟨0, Nat.zero_le _, rfl, Lib.hid (fun j hj => absurd hj (Nat.not_lt_zero _)), Below.refl _ _⟩
  case round =>
    obtain ⟨k, hk, rfl, HALL, hb⟩ := hrel
    have HB := Lib.hid hb
    have HK := Lib.hid (HK0.out.below hb)
    have HBW : Hid (Below w.heap.size w wr) := Lib.hid (HB0.out.trans (hb.mono HB0.out.size))
    clear hb kA
    by_cases hlt : k < n
    · obtain ⟨b, off, rfl, hat⟩ := HAT.out k hlt
      obtain ⟨l0, c0, c1, c2⟩ := hat.below HBW.out
      have hkI : (k : Int) < (n : Int) := by omega
      have HC := Lib.hid (HLT.out k hlt)
      have HF : Hid (fitB (l.take k) (l.getD k zH) = (spanB (l.getD k zH).span && !lateB (l.take k) (l.getD k zH).span)) := Lib.hid rfl
      obtain ⟨y, hy⟩ : ∃ y, y = l.getD k zH := ⟨_, rfl⟩
      rw [← hy] at c0 c1 c2 HC HF
      obtain ⟨⟨yc, yv⟩, ys⟩ := y
      dsimp only at c0 c1 c2 HC HF
      obtain ⟨g1, hg1⟩ : ∃ g, spanB ys = g := ⟨_, rfl⟩
      obtain ⟨g2, hg2⟩ : ∃ g, lateB (l.take k) ys = g := ⟨_, rfl⟩
      have HMB := Lib.hid (fun W => mayBe_any ys W)
      rw [hg1] at HMB HF
      rw [hg2] at HC HF
      have HG : Hid (fitB (l.take k) (l.getD k zH) = (g1 && !g2)) := Lib.hid (by rw [← hy]; exact HF.out)
      have hcut : ∀ W, (Instr.slice 22 (.slice (some ⟨b, off, none⟩) n c) none (some (.int .i64 (k : Int))) none).run Try.prog W = .ok (.slice (some ⟨b, off, none⟩) k c) W := fun W => by
        obtain ⟨a, h1, h2⟩ := cut_hi (some ⟨b, off, none⟩) n c k (by omega) (fun e => by cases e) W
        rw [h1, h2]
      clear hat hg1 hg2 hy HF
      go_upto_region 6 with fail
      have HX : Hid (Blk (wr.alloc (.cells #[.int .i64 yc, .int .u32 yv, .int .i64 ys] 52)) wr.heap.size #[.int .i64 yc, .int .u32 yv, .int .i64 ys]) := Lib.hid (Blk.new _ _ _)
      have HKX := Lib.hid (HK.out.alloc (.cells #[.int .i64 yc, .int .u32 yv, .int .i64 ys] 52))
      have HBX : Hid (Below w.heap.size w (wr.alloc (.cells #[.int .i64 yc, .int .u32 yv, .int .i64 ys] 52))) := Lib.hid (HBW.out.alloc HBW.out.size _)
      have HBY : Hid (Below w0.heap.size w0 (wr.alloc (.cells #[.int .i64 yc, .int .u32 yv, .int .i64 ys] 52))) := Lib.hid (HB.out.alloc HB.out.size _)
      obtain ⟨bx, hbx⟩ : ∃ z, z = wr.heap.size := ⟨_, rfl⟩
      obtain ⟨w1, hw1⟩ : ∃ z, z = wr.alloc (.cells #[.int .i64 yc, .int .u32 yv, .int .i64 ys] 52) := ⟨_, rfl⟩
      rw [← hbx] at HX ⊢
      rw [← hw1] at HX HKX HBX HBY ⊢
      clear hbx hw1 c0 c1 c2
      have HS : Hid ((∀ t, w1.drew.cell? ⟨bx, t, none⟩ = (#[.int .i64 yc, .int .u32 yv, .int .i64 ys] : Array Value)[t]?) ∧ ∀ t, w1.drew.cell? ⟨w.heap.size, t, none⟩ = (#[.slice (some ⟨b, off, none⟩) n c, .slice q m d] : Array Value)[t]?) := Lib.hid ⟨HX.out.c, HKX.out.c⟩
      cases g1 with
      | false =>
        refine region_plan (fun V : World => V = w1.drew ∧ (∀ t, w1.drew.cell? ⟨bx, t, none⟩ = (#[.int .i64 yc, .int .u32 yv, .int .i64 ys] : Array Value)[t]?) ∧ ∀ t, w1.drew.cell? ⟨w.heap.size, t, none⟩ = (#[.slice (some ⟨b, off, none⟩) n c, .slice q m d] : Array Value)[t]?) 12 [(0, true), (1, true), (2, false), (3, true), (4, true), (5, true), (6, true), (7, true), (8, true), (9, true), (10, true), (11, false)] (by kernel_rfl) (by kernel_rfl) ⟨rfl, HS.out⟩ ?_
        iterate 2
          refine plan_read (v := ?_) rfl (by rfl) ?_ ?_
          rotate_left
          · intro w' hS
            try dsimp only at hS
            go_simp
            try with_reducible rfl
          try simp only [Act.put, List.setIfInBounds_toArray, List.set_cons_zero, List.set_cons_succ, List.getElem_toArray, List.getElem_cons_zero, List.getElem_cons_succ]
        refine plan_call (F := 27) (args := ?_) rfl (by rfl) ?_ ?_
        rotate_left
        · go_simp
          rfl
        refine (HMB.out w1.drew).mono ?_
        rintro e w2 ⟨rfl, rfl⟩
        refine ⟨_, rfl, ⟨rfl, HS.out⟩, ?_⟩
        try simp only [Act.put, List.setIfInBounds_toArray, List.set_cons_zero, List.set_cons_succ, List.getElem_toArray, List.getElem_cons_zero, List.getElem_cons_succ]
        iterate 2
          refine plan_read (v := ?_) rfl (by rfl) ?_ ?_
          rotate_left
          · intro w' hS
            try dsimp only at hS
            go_simp
            try with_reducible rfl
          try simp only [Act.put, List.setIfInBounds_toArray, List.set_cons_zero, List.set_cons_succ, List.getElem_toArray, List.getElem_cons_zero, List.getElem_cons_succ]
        refine plan_skip rfl (by rfl) ?_
        try simp only [Act.put, List.setIfInBounds_toArray, List.set_cons_zero, List.set_cons_succ, List.getElem_toArray, List.getElem_cons_zero, List.getElem_cons_succ]
        refine plan_skip rfl (by rfl) ?_
        try simp only [Act.put, List.setIfInBounds_toArray, List.set_cons_zero, List.set_cons_succ, List.getElem_toArray, List.getElem_cons_zero, List.getElem_cons_succ]
        refine plan_skip rfl (by rfl) ?_
        try simp only [Act.put, List.setIfInBounds_toArray, List.set_cons_zero, List.set_cons_succ, List.getElem_toArray, List.getElem_cons_zero, List.getElem_cons_succ]
        refine plan_skip rfl (by rfl) ?_
        try simp only [Act.put, List.setIfInBounds_toArray, List.set_cons_zero, List.set_cons_succ, List.getElem_toArray, List.getElem_cons_zero, List.getElem_cons_succ]
        refine plan_skip rfl (by rfl) ?_
        try simp only [Act.put, List.setIfInBounds_toArray, List.set_cons_zero, List.set_cons_succ, List.getElem_toArray, List.getElem_cons_zero, List.getElem_cons_succ]
        refine plan_skip rfl (by rfl) ?_
        try simp only [Act.put, List.setIfInBounds_toArray, List.set_cons_zero, List.set_cons_succ, List.getElem_toArray, List.getElem_cons_zero, List.getElem_cons_succ]
        refine plan_skipc rfl (by rfl) ⟨rfl, HS.out⟩ ?_
        try simp only [Act.put, List.setIfInBounds_toArray, List.set_cons_zero, List.set_cons_succ, List.getElem_toArray, List.getElem_cons_zero, List.getElem_cons_succ]
        refine plan_nil ?_
        simp only [List.drop_succ_cons, List.drop_zero]
        go_wp2_with fail
        go_ret
        exact ⟨by rw [HM2.out, HNO.out k hlt (by rw [HG.out]; rfl)]; rfl, HBX.out.drew⟩
      | true =>
        cases g2 with
        | true =>
          refine region_plan (fun V : World => V = w1.drew ∧ (∀ t, w1.drew.cell? ⟨bx, t, none⟩ = (#[.int .i64 yc, .int .u32 yv, .int .i64 ys] : Array Value)[t]?) ∧ ∀ t, w1.drew.cell? ⟨w.heap.size, t, none⟩ = (#[.slice (some ⟨b, off, none⟩) n c, .slice q m d] : Array Value)[t]?) 12 [(0, true), (1, true), (2, false), (3, true), (4, true), (5, true), (6, true), (7, true), (8, true), (9, true), (10, true), (11, false)] (by kernel_rfl) (by kernel_rfl) ⟨rfl, HS.out⟩ ?_
          iterate 2
            refine plan_read (v := ?_) rfl (by rfl) ?_ ?_
            rotate_left
            · intro w' hS
              try dsimp only at hS
              go_simp
              try with_reducible rfl
            try simp only [Act.put, List.setIfInBounds_toArray, List.set_cons_zero, List.set_cons_succ, List.getElem_toArray, List.getElem_cons_zero, List.getElem_cons_succ]
          refine plan_call (F := 27) (args := ?_) rfl (by rfl) ?_ ?_
          rotate_left
          · go_simp
            rfl
          refine (HMB.out w1.drew).mono ?_
          rintro e w2 ⟨rfl, rfl⟩
          refine ⟨_, rfl, ⟨rfl, HS.out⟩, ?_⟩
          try simp only [Act.put, List.setIfInBounds_toArray, List.set_cons_zero, List.set_cons_succ, List.getElem_toArray, List.getElem_cons_zero, List.getElem_cons_succ]
          iterate 8
            refine plan_read (v := ?_) rfl (by rfl) ?_ ?_
            rotate_left
            · intro w' hS
              try dsimp only at hS
              go_simp
              try with_reducible rfl
            try simp only [Act.put, List.setIfInBounds_toArray, List.set_cons_zero, List.set_cons_succ, List.getElem_toArray, List.getElem_cons_zero, List.getElem_cons_succ]
          refine plan_call (F := 21) (args := ?_) rfl (by rfl) ?_ ?_
          rotate_left
          · go_simp
            rfl
          refine (HC.out w1.drew HBX.out.drew).mono ?_
          rintro e w2 ⟨rfl, rfl⟩
          refine ⟨_, rfl, ⟨rfl, HS.out⟩, ?_⟩
          try simp only [Act.put, List.setIfInBounds_toArray, List.set_cons_zero, List.set_cons_succ, List.getElem_toArray, List.getElem_cons_zero, List.getElem_cons_succ]
          refine plan_nil ?_
          simp only [List.drop_succ_cons, List.drop_zero]
          go_wp2_with fail
          go_ret
          exact ⟨by rw [HM2.out, HNO.out k hlt (by rw [HG.out]; rfl)]; rfl, HBX.out.drew⟩
        | false =>
          refine region_plan (fun V : World => V = w1.drew ∧ (∀ t, w1.drew.cell? ⟨bx, t, none⟩ = (#[.int .i64 yc, .int .u32 yv, .int .i64 ys] : Array Value)[t]?) ∧ ∀ t, w1.drew.cell? ⟨w.heap.size, t, none⟩ = (#[.slice (some ⟨b, off, none⟩) n c, .slice q m d] : Array Value)[t]?) 12 [(0, true), (1, true), (2, false), (3, true), (4, true), (5, true), (6, true), (7, true), (8, true), (9, true), (10, true), (11, false)] (by kernel_rfl) (by kernel_rfl) ⟨rfl, HS.out⟩ ?_
          iterate 2
            refine plan_read (v := ?_) rfl (by rfl) ?_ ?_
            rotate_left
            · intro w' hS
              try dsimp only at hS
              go_simp
              try with_reducible rfl
            try simp only [Act.put, List.setIfInBounds_toArray, List.set_cons_zero, List.set_cons_succ, List.getElem_toArray, List.getElem_cons_zero, List.getElem_cons_succ]
          refine plan_call (F := 27) (args := ?_) rfl (by rfl) ?_ ?_
          rotate_left
          · go_simp
            rfl
          refine (HMB.out w1.drew).mono ?_
          rintro e w2 ⟨rfl, rfl⟩
          refine ⟨_, rfl, ⟨rfl, HS.out⟩, ?_⟩
          try simp only [Act.put, List.setIfInBounds_toArray, List.set_cons_zero, List.set_cons_succ, List.getElem_toArray, List.getElem_cons_zero, List.getElem_cons_succ]
          iterate 8
            refine plan_read (v := ?_) rfl (by rfl) ?_ ?_
            rotate_left
            · intro w' hS
              try dsimp only at hS
              go_simp
              try with_reducible rfl
            try simp only [Act.put, List.setIfInBounds_toArray, List.set_cons_zero, List.set_cons_succ, List.getElem_toArray, List.getElem_cons_zero, List.getElem_cons_succ]
          refine plan_call (F := 21) (args := ?_) rfl (by rfl) ?_ ?_
          rotate_left
          · go_simp
            rfl
          refine (HC.out w1.drew HBX.out.drew).mono ?_
          rintro e w2 ⟨rfl, rfl⟩
          refine ⟨_, rfl, ⟨rfl, HS.out⟩, ?_⟩
          try simp only [Act.put, List.setIfInBounds_toArray, List.set_cons_zero, List.set_cons_succ, List.getElem_toArray, List.getElem_cons_zero, List.getElem_cons_succ]
          refine plan_nil ?_
          simp only [List.drop_succ_cons, List.drop_zero]
          go_wp2_with fail
          go_round
          case rel => exact ⟨k + 1, by omega, by go_num, Lib.hid (fun j hj => by
            by_cases e : j = k
            · rw [e]; exact HG.out
            · exact HALL.out j (by omega)), HBY.out.drew⟩
          case measure => simp [intOf]; omega
    · have hkn : k = n := by omega
      have hltI : ¬ (k : Int) < (n : Int) := by omega
      have HKN := Lib.hid hkn
      clear hkn
      go_wp2_with fail
      go_ret
      exact ⟨by rw [HM2.out, HYES.out (fun j hj => HALL.out j (by have := HKN.out; omega))]; rfl, HBW.out⟩

set_option maxHeartbeats 2000000 in
theorem mayAsk_any (S : Nat → Prop) (v : Value) (L : Gt) (t : Int) (w : World) (h : Lo S w v L) : Calls Try.prog 20 #[v, .int .i64 t] w fun e w' => e = .returned (.bool (okG L t)) ∧ Below w.heap.size w w' := by
  have HRT : Hid (∀ W, Below w.heap.size w W → Calls Try.prog 14 #[v] W fun e w' => e = .returned (.bool (rightG L)) ∧ Below W.heap.size W w') := Lib.hid (fun W hW => right_any S v L W (h.below hW))
  have HE : Hid (okG L t = (rightG L && spanB t)) := Lib.hid rfl
  obtain ⟨p, m, c, q, n, d, rfl, hc, -⟩ := h
  obtain ⟨r, hr⟩ : ∃ r, r = rightG L := ⟨_, rfl⟩
  obtain ⟨o, ho⟩ : ∃ o, o = okG L t := ⟨_, rfl⟩
  rw [← hr] at HRT HE
  rw [← ho] at HE ⊢
  clear hr ho hc
  obtain ⟨u, hu⟩ : ∃ u, spanB t = u := ⟨_, rfl⟩
  have HU := Lib.hid (fun W => mayBe_any t W)
  rw [hu] at HE HU
  clear hu
  have HB0 : Hid (Below w.heap.size w (w.alloc (.cells #[.slice p m c, .slice q n d] 25))) := Lib.hid ((Below.refl _ _).alloc (Nat.le_refl _) _)
  have HK0 : Hid (Blk (w.alloc (.cells #[.slice p m c, .slice q n d] 25)) w.heap.size #[.slice p m c, .slice q n d]) := Lib.hid (Blk.new _ _ _)
  obtain ⟨w0, hw0⟩ : ∃ w0, w0 = w.alloc (.cells #[.slice p m c, .slice q n d] 25) := ⟨_, rfl⟩
  rw [← hw0] at HB0 HK0
  have HW0 := Lib.hid hw0
  clear hw0
  go_enter Try.func20, Try.ntmps20
  have kA := HK0.out.c
  go_upto_region 1 with fail
  rw [← HW0.out]
  clear HW0
  go_wp2_with fail
  refine (HRT.out _ HB0.out).mono ?_
  rintro e w1 ⟨rfl, hb⟩
  have HB1 : Hid (Below w.heap.size w w1) := Lib.hid (HB0.out.trans (hb.mono HB0.out.size))
  clear hb kA HK0 HB0 HRT
  cases r with
  | false =>
    go_wp2_with fail
    go_ret
    exact ⟨by rw [HE.out]; rfl, HB1.out⟩
  | true =>
    go_wp2_with fail
    refine (HU.out w1).mono ?_
    rintro e w2 ⟨rfl, rfl⟩
    go_wp2_with fail
    go_ret
    exact ⟨by rw [HE.out]; rfl, HB1.out⟩
end Go.Proofs.Yteffmidpinlpjaa
