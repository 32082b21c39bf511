/- CacheLast: the walk of the statement's function; no condition but that the bytes read. -/
import Derived.Test.YtoddmgaihggkjaaCacheL0
namespace Go.Proofs.Ytoddmgaihggkjaa
set_option linter.unusedVariables false
open Go.ChangeShapes Go.WideShapes Go.ChangeAt Go.RowKit

set_option maxHeartbeats 16000000 in
set_option maxRecDepth 100000 in
theorem last_main (A D : Nat) (p0 : Option Addr) (len cap : Nat) (q : List Nat) (w : World) (hA : A < 256) (hD : D < 256) (hz : q.length = len) (hmx : len ≤ maxLen) (hq : Nb w p0 q) :
    Calls Try.prog 5 #[.int .u8 A, .int .u8 D, .slice p0 len cap] w fun e w' => e = .returned (.bool true) ∧ Below w.heap.size w w' := by
  have HQ := Lib.hid hq
  have HZ := Lib.hid hz
  unfold maxLen at hmx
  clear hq hz
  go_enter Try.func5, Try.ntmps5
  go_wp2_with fail
  refine (awake_any _).mono ?_
  rintro e w1 ⟨rfl, hb1⟩
  have HB1 : Hid (Below w.heap.size w w1) := Lib.hid hb1
  clear hb1
  go_upto_region 4 with fail
  obtain ⟨n, hn⟩ : ∃ n : Nat, n = A % 8 + 1 := ⟨_, rfl⟩
  obtain ⟨m, hm⟩ : ∃ m : Nat, m = D % 8 + 1 := ⟨_, rfl⟩
  have en : (A : Int) % 8 + 1 = (n : Int) := by omega
  have em : (D : Int) % 8 + 1 = (m : Int) := by omega
  rw [en, em]
  have hn1 : 1 ≤ n := by omega
  have hn8 : n ≤ 8 := by omega
  have hm1 : 1 ≤ m := by omega
  have hm8 : m ≤ 8 := by omega
  clear hn hm en em
  obtain ⟨hls, hE⟩ := Ls.new hn1 hn8 hm1 hm8
  have hnew := new_any (n : Int) (m : Int) w1
  rw [hE] at hnew
  obtain ⟨C0, hC0⟩ : ∃ C, C = newC (n : Int) (m : Int) := ⟨_, rfl⟩
  rw [← hC0] at hls hnew
  have HLS := Lib.hid hls
  clear hC0 hE hls
  go_wp2_with fail
  refine hnew.mono ?_
  clear hnew
  rintro e w2 ⟨v, rfl, ⟨p, n', c, xs, rfl, hcc, hoff⟩, hb⟩
  have HB2 : Hid (Below w.heap.size w w2) := Lib.hid (HB1.out.trans (hb.mono HB1.out.size))
  have HC := Lib.hid hcc
  clear hoff hb hcc HB1
  go_upto_region 5 with fail
  obtain ⟨b, hbe⟩ : ∃ b, b = w2.heap.size := ⟨_, rfl⟩
  obtain ⟨w3, hw3⟩ : ∃ w3, w3 = w2.alloc (.cells #[.int .i64 C0.sets, .int .i64 C0.ways, .int .i64 C0.clock, .slice p n' c] 24) := ⟨_, rfl⟩
  have HV3 : Hid (Var (fun R => R = b) w3 b C0) := Lib.hid (by
    rw [hw3, hbe]
    exact ⟨_, _, _, _, Blk.new _ _ _, HC.out.below ((Below.refl _ _).alloc (Nat.le_refl _) _), fun R hR => HC.out.off (by rw [hR]; exact Nat.le_refl _)⟩)
  have HB3 : Hid (Below w.heap.size w w3) := Lib.hid (by rw [hw3]; exact HB2.out.alloc HB2.out.size _)
  have HBG : Hid (w.heap.size ≤ b) := Lib.hid (by rw [hbe]; exact HB2.out.size)
  rw [← hw3, ← hbe]
  clear hw3 hbe HC HB2
  by_cases hlen : 100 < len
  · have hlenI : decide (100 < (len : Int)) = true := decide_eq_true (by omega)
    go_wp2_with fail
    go_ret
    exact ⟨rfl, HB3.out⟩
  · have hlenI : decide (100 < (len : Int)) = false := decide_eq_false (by omega)
    have hl100 : len ≤ 100 := by omega
    clear hlen
    go_upto_region 8 with fail
    go_wp2_with fail
    go_loopw [11] (fun s wr => ∃ i : Nat, i ≤ len ∧ s = .int .i64 i ∧ ∃ C, Ls C n m i (q.take i).reverse ∧ Var (fun R => R = b) wr b C ∧ Below w.heap.size w wr) (fun s _ => len - (intOf s).toNat)
    case atStart => exact ⟨0, Nat.zero_le _, rfl, C0, HLS.out, HV3.out, HB3.out⟩
    case round =>
      clear HLS HV3 HB3
      obtain ⟨i, hi, rfl, C, hls, hv, hb⟩ := hrel
      have HLS := Lib.hid hls
      have HV := Lib.hid hv
      have HBW := Lib.hid hb
      clear hls hv hb
      by_cases hlt : i < len
      · have hltI : decide ((i : Int) < len) = true := decide_eq_true (by omega)
        obtain ⟨bq, off, hbq, rfl, hcq⟩ := HQ.out.c (by rw [HZ.out]; omega)
        obtain ⟨x, hx⟩ : ∃ x, x = q.getD i 0 := ⟨_, rfl⟩
        have hx256 : x < 256 := by rw [hx]; exact HQ.out.lt _ (mem_getD q 0 i (by rw [HZ.out]; exact hlt))
        have hcx := hcq i (by rw [HZ.out]; exact hlt)
        rw [← hx] at hcx
        have hcx' : wr.cell? ⟨bq, off + i, none⟩ = some (.int .u8 (x : Int)) := (HBW.out.cell (p := ⟨bq, off + i, none⟩) hbq).trans hcx
        have HCX := Lib.hid hcx'
        have HBQ : Hid (bq < wr.heap.size) := Lib.hid (Nat.lt_of_lt_of_le hbq HBW.out.size)
        have HX := Lib.hid hx
        have hwi : IntKind.u32.wrap (i : Int) = (i : Int) := by rw [IntKind.wrap_u32]; omega
        have hwx : IntKind.i64.wrap (x : Int) = (x : Int) := by rw [IntKind.wrap_i64]; omega
        clear hcq hcx hcx' hx
        obtain ⟨hE, hput⟩ := HLS.out.put x i (by omega)
        obtain ⟨p, n', c, xs, hk, hcc, hoff⟩ := HV.out
        have HKB := Lib.hid hk
        have HC := Lib.hid hcc
        have HOFF := Lib.hid hoff
        have HVB : Hid (wr.heap.size > b) := Lib.hid hk.lt
        obtain ⟨C1, hC1⟩ : ∃ C1, C1 = putC C x 1 i := ⟨_, rfl⟩
        obtain ⟨O1, hO1⟩ : ∃ O1, O1 = putO C x 1 := ⟨_, rfl⟩
        have hw : ∀ (S : Nat → Prop) (W : World), Below wr.heap.size wr W → (∀ R, S R → R < W.heap.size) → (∀ R, S R → R = b ∨ wr.heap.size ≤ R) →
            Calls Try.prog 18 #[.agg #[.int .i64 C.sets, .int .i64 C.ways, .int .i64 C.clock, .slice p n' c], .int .i64 x, .int .i64 1, .int .u32 i] W fun e w' => OutP S W w' e C1 O1 0 := fun S W hb hS hS2 => by
          rw [hC1, hO1, ← hE]
          exact put_any S _ C x 1 i W ((Co.later (S' := S) ⟨_, _, _, _, rfl, HC.out, HOFF.out⟩ hS2).below hb) hS (by omega)
        have HW := Lib.hid hw
        have HP : Hid (Ls C1 n m (i + 1) (q.take (i + 1)).reverse) := Lib.hid (by
          rw [take_getD q 0 i (by rw [HZ.out]; exact hlt), ← HX.out, List.reverse_append, hC1]; exact hput)
        clear hw hput hE hk hcc hoff HV HLS hC1 hO1
        go_upto_region 10 with fail
        go_cut [12, 13, 14] (fun s12 s13 s14 wd => ∃ d12 d13, s12 = .pointer (some ⟨d12, 0, none⟩) ∧ s13 = .pointer (some ⟨d13, 0, none⟩) ∧ s14 = .int .i64 0 ∧ Var (fun R => R = b) wd d12 C1 ∧ Blk wd b #[.int .i64 C.sets, .int .i64 C.ways, .int .i64 C.clock, .slice p n' c] ∧ d12 ≠ b ∧ Below wr.heap.size wr wd)
        case first =>
          have hS0 : ∀ W, Below wr.heap.size wr W → ((∀ j, W.cell? ⟨b, j, none⟩ = (#[.int .i64 C.sets, .int .i64 C.ways, .int .i64 C.clock, .slice p n' c] : Array Value)[j]?) ∧ W.cell? ⟨bq, off + i, none⟩ = some (.int .u8 (x : Int))) ∧ Below wr.heap.size wr W := fun W hb => ⟨⟨(HKB.out.below hb).c, (hb.cell (p := ⟨bq, off + i, none⟩) HBQ.out).trans HCX.out⟩, hb⟩
          have HS0 := Lib.hid hS0
          clear hS0
          refine region_plan3 (fun W : World => ((∀ j, W.cell? ⟨b, j, none⟩ = (#[.int .i64 C.sets, .int .i64 C.ways, .int .i64 C.clock, .slice p n' c] : Array Value)[j]?) ∧ W.cell? ⟨bq, off + i, none⟩ = some (.int .u8 (x : Int))) ∧ Below wr.heap.size wr W) 17 (.read 0 (.read 1 (.read 2 (.read 3 (.read 4 (.read 5 (.read 6 (.read 7 (.three 8 13 14 (.read 9 (.read 10 (.read 11 (.read 12 (.two 13 14 (.one 14 (.one 15 (.one 16 .stop))) (.one 13 (.one 15 (.one 16 .stop)))))))) (.two 8 14 (.read 9 (.read 10 (.read 11 (.read 12 (.one 14 (.one 15 (.one 16 .stop))))))) (.one 8 (.read 9 (.read 10 (.read 11 (.read 12 (.one 15 (.one 16 .stop)))))))) (.two 8 13 (.read 9 (.read 10 (.read 11 (.read 12 (.one 13 (.one 15 (.one 16 .stop))))))) (.one 8 (.read 9 (.read 10 (.read 11 (.read 12 (.one 15 (.one 16 .stop))))))))))))))))) (by kernel_rfl) (by kernel_rfl) (HS0.out _ (Below.refl _ _).drew) ?_
          have HB : Hid (Below wr.heap.size wr wr.drew) := Lib.hid (Below.refl _ _).drew
          obtain ⟨u0, hu0⟩ : ∃ z, z = wr.drew := ⟨_, rfl⟩
          rw [← hu0] at HB ⊢
          clear hu0
          iterate 8
            refine plan3_read (v := ?_) rfl (by rfl) ?_ ?_
            rotate_left
            · intro w' hS
              try dsimp only at hS
              obtain ⟨⟨hS1, hS2⟩, hS3⟩ := hS
              go_simp
              try with_reducible rfl
            try simp only [Act.put, List.setIfInBounds_toArray, List.set_cons_zero, List.set_cons_succ, List.getElem_toArray, List.getElem_cons_zero, List.getElem_cons_succ]
          refine plan3_three ?_ ?_ ?_
          · skip
            have hcall := HW.out (fun R => R = b) u0 HB.out (fun R hR => by rw [hR]; exact Nat.lt_of_lt_of_le HKB.out.lt HB.out.size) (fun R hR => .inl hR)
            refine op_call (F := 18) (args := ?_) rfl (by rfl) ?_ ?_
            rotate_left
            · go_simp
              rfl
            refine (hcall).mono ?_
            rintro e u1 ⟨v, rfl, ⟨p1, n1, c1, xs1, rfl, hcc, hoff⟩, hb⟩
            have HBn : Hid (Below wr.heap.size wr u1) := Lib.hid (HB.out.trans (hb.mono HB.out.size))
            have HO1 : Hid (Co (fun R => R = b) u1 (.agg #[.int .i64 C1.sets, .int .i64 C1.ways, .int .i64 C1.clock, .slice p1 n1 c1]) C1) := Lib.hid ⟨_, _, _, _, rfl, hcc, hoff⟩
            have HKV := Lib.hid (HKB.out.below HBn.out)
            refine ⟨_, rfl, HS0.out _ HBn.out, ?_⟩
            try simp only [Act.put, List.setIfInBounds_toArray, List.set_cons_zero, List.set_cons_succ, List.getElem_toArray, List.getElem_cons_zero, List.getElem_cons_succ]
            iterate 4
              refine plan3_read (v := ?_) rfl (by rfl) ?_ ?_
              rotate_left
              · intro w' hS
                try dsimp only at hS
                go_simp
                try with_reducible rfl
              try simp only [Act.put, List.setIfInBounds_toArray, List.set_cons_zero, List.set_cons_succ, List.getElem_toArray, List.getElem_cons_zero, List.getElem_cons_succ]
            clear hb hcc hoff hcall HB
            have HB := Lib.hid HBn.out
            clear HBn
            refine plan3_two ?_ ?_
            · skip
              refine op_make (v := .pointer (some ⟨u1.heap.size, 0, none⟩)) (w1 := u1.alloc (.cells #[.int .i64 0, .int .i64 0, .int .i64 0, .slice none 0 0] 24)) rfl (by rfl) (by go_simp) ⟨HS0.out _ (HB.out.alloc HB.out.size _), ?_⟩
              try simp only [Act.put, List.setIfInBounds_toArray, List.set_cons_zero, List.set_cons_succ, List.getElem_toArray, List.getElem_cons_zero, List.getElem_cons_succ]
              have HBn : Hid (Below wr.heap.size wr (u1.alloc (.cells #[.int .i64 0, .int .i64 0, .int .i64 0, .slice none 0 0] 24))) := Lib.hid (HB.out.alloc HB.out.size _)
              have HZ12 : Hid (Blk (u1.alloc (.cells #[.int .i64 0, .int .i64 0, .int .i64 0, .slice none 0 0] 24)) u1.heap.size #[.int .i64 0, .int .i64 0, .int .i64 0, .slice none 0 0]) := Lib.hid (Blk.new _ _ _)
              have HD12 : Hid (wr.heap.size ≤ u1.heap.size) := Lib.hid HB.out.size
              have HNB12 : Hid (u1.heap.size ≠ b) := Lib.hid (by have := HD12.out; have := HKB.out.lt; omega)

              have HO1n : Hid (Co (fun R => R = b ∨ R = u1.heap.size) (u1.alloc (.cells #[.int .i64 0, .int .i64 0, .int .i64 0, .slice none 0 0] 24)) (.agg #[.int .i64 C1.sets, .int .i64 C1.ways, .int .i64 C1.clock, .slice p1 n1 c1]) C1) := Lib.hid ((HO1.out.later (fun R hR => by
                rcases hR with hR | hR
                · exact .inl (by simp [hR])
                · exact .inr (by rw [hR]; exact Nat.le_refl _))).below ((Below.refl _ _).alloc (Nat.le_refl _) _))
              have HKVn := Lib.hid (HKV.out.alloc (.cells #[.int .i64 0, .int .i64 0, .int .i64 0, .slice none 0 0] 24))
              clear HO1 HKV
              have HO1 := Lib.hid HO1n.out
              have HKV := Lib.hid HKVn.out
              clear HO1n HKVn
              obtain ⟨u2, hu2⟩ : ∃ z, z = u1.alloc (.cells #[.int .i64 0, .int .i64 0, .int .i64 0, .slice none 0 0] 24) := ⟨_, rfl⟩
              obtain ⟨d12, hd12⟩ : ∃ z, z = u1.heap.size := ⟨_, rfl⟩
              rw [← hu2] at HBn HZ12 ⊢
              rw [← hu2] at HO1 HKV
              rw [← hd12] at HZ12 HD12 HNB12 HO1 ⊢
              clear hu2 hd12 HB
              have HB := Lib.hid HBn.out
              clear HBn
              refine plan3_one ?_
              refine op_make (v := .pointer (some ⟨u2.heap.size, 0, none⟩)) (w1 := u2.alloc (.cells #[.int .i64 0, .int .i64 0, .int .u32 0, .int .i64 0] 30)) rfl (by rfl) (by go_simp) ⟨HS0.out _ (HB.out.alloc HB.out.size _), ?_⟩
              try simp only [Act.put, List.setIfInBounds_toArray, List.set_cons_zero, List.set_cons_succ, List.getElem_toArray, List.getElem_cons_zero, List.getElem_cons_succ]
              have HBn : Hid (Below wr.heap.size wr (u2.alloc (.cells #[.int .i64 0, .int .i64 0, .int .u32 0, .int .i64 0] 30))) := Lib.hid (HB.out.alloc HB.out.size _)
              have HZ13 : Hid (Blk (u2.alloc (.cells #[.int .i64 0, .int .i64 0, .int .u32 0, .int .i64 0] 30)) u2.heap.size #[.int .i64 0, .int .i64 0, .int .u32 0, .int .i64 0]) := Lib.hid (Blk.new _ _ _)
              have HD13 : Hid (wr.heap.size ≤ u2.heap.size) := Lib.hid HB.out.size
              have HNB13 : Hid (u2.heap.size ≠ b) := Lib.hid (by have := HD13.out; have := HKB.out.lt; omega)

              have HZ12n := Lib.hid (HZ12.out.alloc (.cells #[.int .i64 0, .int .i64 0, .int .u32 0, .int .i64 0] 30))
              have HNE : Hid (d12 ≠ u2.heap.size) := Lib.hid (by have := HZ12.out.lt; omega)
              clear HZ12
              have HZ12 := Lib.hid HZ12n.out
              clear HZ12n
              have HO1n : Hid (Co (fun R => R = b ∨ R = d12 ∨ R = u2.heap.size) (u2.alloc (.cells #[.int .i64 0, .int .i64 0, .int .u32 0, .int .i64 0] 30)) (.agg #[.int .i64 C1.sets, .int .i64 C1.ways, .int .i64 C1.clock, .slice p1 n1 c1]) C1) := Lib.hid ((HO1.out.later (fun R hR => by
                rcases hR with hR | hR | hR
                · exact .inl (by simp [hR])
                · exact .inl (by simp [hR])
                · exact .inr (by rw [hR]; exact Nat.le_refl _))).below ((Below.refl _ _).alloc (Nat.le_refl _) _))
              have HKVn := Lib.hid (HKV.out.alloc (.cells #[.int .i64 0, .int .i64 0, .int .u32 0, .int .i64 0] 30))
              clear HO1 HKV
              have HO1 := Lib.hid HO1n.out
              have HKV := Lib.hid HKVn.out
              clear HO1n HKVn
              obtain ⟨u3, hu3⟩ : ∃ z, z = u2.alloc (.cells #[.int .i64 0, .int .i64 0, .int .u32 0, .int .i64 0] 30) := ⟨_, rfl⟩
              obtain ⟨d13, hd13⟩ : ∃ z, z = u2.heap.size := ⟨_, rfl⟩
              rw [← hu3] at HBn HZ13 ⊢
              rw [← hu3] at HZ12
              rw [← hu3] at HO1 HKV
              rw [← hd13] at HZ13 HD13 HNB13 HNE HO1 ⊢
              clear hu3 hd13 HB
              have HB := Lib.hid HBn.out
              clear HBn
              have cZ := HZ12.out.c
              have fZ := HZ12.out.f
              have lZ := HZ12.out.lt
              refine plan3_one (op_store (w1 := (((u3.setCell ⟨d12, 0, none⟩ (.int .i64 C1.sets)).setCell ⟨d12, 1, none⟩ (.int .i64 C1.ways)).setCell ⟨d12, 2, none⟩ (.int .i64 C1.clock)).setCell ⟨d12, 3, none⟩ (.slice p1 n1 c1)) rfl (by rfl) (by go_simp) ⟨HS0.out _ (set4_below HB.out HD12.out _ _ _ _), ?_⟩)
              try simp only [Act.put, List.setIfInBounds_toArray, List.set_cons_zero, List.set_cons_succ, List.getElem_toArray, List.getElem_cons_zero, List.getElem_cons_succ]
              clear cZ fZ lZ
              obtain ⟨y1, hy1⟩ : ∃ y1, y1 = (((u3.setCell ⟨d12, 0, none⟩ (.int .i64 C1.sets)).setCell ⟨d12, 1, none⟩ (.int .i64 C1.ways)).setCell ⟨d12, 2, none⟩ (.int .i64 C1.clock)).setCell ⟨d12, 3, none⟩ (.slice p1 n1 c1) := ⟨_, rfl⟩
              have HY : Hid (Blk y1 d13 #[.int .i64 0, .int .i64 0, .int .u32 0, .int .i64 0]) := Lib.hid (by rw [hy1]; exact set4_other HZ13.out HNE.out _ _ _ _)
              have cZ := HY.out.c
              have fZ := HY.out.f
              have lZ := HY.out.lt
              rw [← hy1]
              have HY1 := Lib.hid hy1
              clear hy1
              refine plan3_one (op_store (w1 := (((y1.setCell ⟨d13, 0, none⟩ (.int .i64 O1.addr)).setCell ⟨d13, 1, none⟩ (.int .i64 O1.state)).setCell ⟨d13, 2, none⟩ (.int .u32 O1.val)).setCell ⟨d13, 3, none⟩ (.int .i64 O1.used)) rfl (by rfl) (by go_simp) ⟨HS0.out _ (set4_below (by rw [HY1.out]; exact set4_below HB.out HD12.out _ _ _ _) HD13.out _ _ _ _), ?_⟩)
              try simp only [Act.put, List.setIfInBounds_toArray, List.set_cons_zero, List.set_cons_succ, List.getElem_toArray, List.getElem_cons_zero, List.getElem_cons_succ]
              clear cZ fZ lZ HY
              refine plan3_stop ?_
              simp only [List.drop_succ_cons, List.drop_zero]
              have HFIN := Lib.hid (put_done (u0 := .int .i64 O1.addr) (u1 := .int .i64 O1.state) (u2 := .int .u32 O1.val) (u3 := .int .i64 O1.used) HZ12.out HZ13.out HO1.out HKV.out HB.out HD12.out HD13.out HNE.out HNB12.out HNB13.out (by simp) (by simp) (by simp) y1 HY1.out _ rfl)
              clear HY1
              go_wp2_with fail
              go_meet
              case rel => exact ⟨d12, d13, rfl, rfl, rfl, HFIN.out⟩
            · skip
              refine op_make (v := .pointer (some ⟨u1.heap.size, 0, none⟩)) (w1 := u1.alloc (.cells #[.int .i64 0, .int .i64 0, .int .u32 0, .int .i64 0] 30)) rfl (by rfl) (by go_simp) ⟨HS0.out _ (HB.out.alloc HB.out.size _), ?_⟩
              try simp only [Act.put, List.setIfInBounds_toArray, List.set_cons_zero, List.set_cons_succ, List.getElem_toArray, List.getElem_cons_zero, List.getElem_cons_succ]
              have HBn : Hid (Below wr.heap.size wr (u1.alloc (.cells #[.int .i64 0, .int .i64 0, .int .u32 0, .int .i64 0] 30))) := Lib.hid (HB.out.alloc HB.out.size _)
              have HZ13 : Hid (Blk (u1.alloc (.cells #[.int .i64 0, .int .i64 0, .int .u32 0, .int .i64 0] 30)) u1.heap.size #[.int .i64 0, .int .i64 0, .int .u32 0, .int .i64 0]) := Lib.hid (Blk.new _ _ _)
              have HD13 : Hid (wr.heap.size ≤ u1.heap.size) := Lib.hid HB.out.size
              have HNB13 : Hid (u1.heap.size ≠ b) := Lib.hid (by have := HD13.out; have := HKB.out.lt; omega)

              have HO1n : Hid (Co (fun R => R = b ∨ R = u1.heap.size) (u1.alloc (.cells #[.int .i64 0, .int .i64 0, .int .u32 0, .int .i64 0] 30)) (.agg #[.int .i64 C1.sets, .int .i64 C1.ways, .int .i64 C1.clock, .slice p1 n1 c1]) C1) := Lib.hid ((HO1.out.later (fun R hR => by
                rcases hR with hR | hR
                · exact .inl (by simp [hR])
                · exact .inr (by rw [hR]; exact Nat.le_refl _))).below ((Below.refl _ _).alloc (Nat.le_refl _) _))
              have HKVn := Lib.hid (HKV.out.alloc (.cells #[.int .i64 0, .int .i64 0, .int .u32 0, .int .i64 0] 30))
              clear HO1 HKV
              have HO1 := Lib.hid HO1n.out
              have HKV := Lib.hid HKVn.out
              clear HO1n HKVn
              obtain ⟨u2, hu2⟩ : ∃ z, z = u1.alloc (.cells #[.int .i64 0, .int .i64 0, .int .u32 0, .int .i64 0] 30) := ⟨_, rfl⟩
              obtain ⟨d13, hd13⟩ : ∃ z, z = u1.heap.size := ⟨_, rfl⟩
              rw [← hu2] at HBn HZ13 ⊢
              rw [← hu2] at HO1 HKV
              rw [← hd13] at HZ13 HD13 HNB13 HO1 ⊢
              clear hu2 hd13 HB
              have HB := Lib.hid HBn.out
              clear HBn
              refine plan3_one ?_
              refine op_make (v := .pointer (some ⟨u2.heap.size, 0, none⟩)) (w1 := u2.alloc (.cells #[.int .i64 0, .int .i64 0, .int .i64 0, .slice none 0 0] 24)) rfl (by rfl) (by go_simp) ⟨HS0.out _ (HB.out.alloc HB.out.size _), ?_⟩
              try simp only [Act.put, List.setIfInBounds_toArray, List.set_cons_zero, List.set_cons_succ, List.getElem_toArray, List.getElem_cons_zero, List.getElem_cons_succ]
              have HBn : Hid (Below wr.heap.size wr (u2.alloc (.cells #[.int .i64 0, .int .i64 0, .int .i64 0, .slice none 0 0] 24))) := Lib.hid (HB.out.alloc HB.out.size _)
              have HZ12 : Hid (Blk (u2.alloc (.cells #[.int .i64 0, .int .i64 0, .int .i64 0, .slice none 0 0] 24)) u2.heap.size #[.int .i64 0, .int .i64 0, .int .i64 0, .slice none 0 0]) := Lib.hid (Blk.new _ _ _)
              have HD12 : Hid (wr.heap.size ≤ u2.heap.size) := Lib.hid HB.out.size
              have HNB12 : Hid (u2.heap.size ≠ b) := Lib.hid (by have := HD12.out; have := HKB.out.lt; omega)

              have HZ13n := Lib.hid (HZ13.out.alloc (.cells #[.int .i64 0, .int .i64 0, .int .i64 0, .slice none 0 0] 24))
              have HNE : Hid (d13 ≠ u2.heap.size) := Lib.hid (by have := HZ13.out.lt; omega)
              clear HZ13
              have HZ13 := Lib.hid HZ13n.out
              clear HZ13n
              have HO1n : Hid (Co (fun R => R = b ∨ R = d13 ∨ R = u2.heap.size) (u2.alloc (.cells #[.int .i64 0, .int .i64 0, .int .i64 0, .slice none 0 0] 24)) (.agg #[.int .i64 C1.sets, .int .i64 C1.ways, .int .i64 C1.clock, .slice p1 n1 c1]) C1) := Lib.hid ((HO1.out.later (fun R hR => by
                rcases hR with hR | hR | hR
                · exact .inl (by simp [hR])
                · exact .inl (by simp [hR])
                · exact .inr (by rw [hR]; exact Nat.le_refl _))).below ((Below.refl _ _).alloc (Nat.le_refl _) _))
              have HKVn := Lib.hid (HKV.out.alloc (.cells #[.int .i64 0, .int .i64 0, .int .i64 0, .slice none 0 0] 24))
              clear HO1 HKV
              have HO1 := Lib.hid HO1n.out
              have HKV := Lib.hid HKVn.out
              clear HO1n HKVn
              obtain ⟨u3, hu3⟩ : ∃ z, z = u2.alloc (.cells #[.int .i64 0, .int .i64 0, .int .i64 0, .slice none 0 0] 24) := ⟨_, rfl⟩
              obtain ⟨d12, hd12⟩ : ∃ z, z = u2.heap.size := ⟨_, rfl⟩
              rw [← hu3] at HBn HZ12 ⊢
              rw [← hu3] at HZ13
              rw [← hu3] at HO1 HKV
              rw [← hd12] at HZ12 HD12 HNB12 HNE HO1 ⊢
              clear hu3 hd12 HB
              have HB := Lib.hid HBn.out
              clear HBn
              have HNEx := Lib.hid (Ne.symm HNE.out)
              clear HNE
              have HNE := Lib.hid HNEx.out
              clear HNEx
              have cZ := HZ12.out.c
              have fZ := HZ12.out.f
              have lZ := HZ12.out.lt
              refine plan3_one (op_store (w1 := (((u3.setCell ⟨d12, 0, none⟩ (.int .i64 C1.sets)).setCell ⟨d12, 1, none⟩ (.int .i64 C1.ways)).setCell ⟨d12, 2, none⟩ (.int .i64 C1.clock)).setCell ⟨d12, 3, none⟩ (.slice p1 n1 c1)) rfl (by rfl) (by go_simp) ⟨HS0.out _ (set4_below HB.out HD12.out _ _ _ _), ?_⟩)
              try simp only [Act.put, List.setIfInBounds_toArray, List.set_cons_zero, List.set_cons_succ, List.getElem_toArray, List.getElem_cons_zero, List.getElem_cons_succ]
              clear cZ fZ lZ
              obtain ⟨y1, hy1⟩ : ∃ y1, y1 = (((u3.setCell ⟨d12, 0, none⟩ (.int .i64 C1.sets)).setCell ⟨d12, 1, none⟩ (.int .i64 C1.ways)).setCell ⟨d12, 2, none⟩ (.int .i64 C1.clock)).setCell ⟨d12, 3, none⟩ (.slice p1 n1 c1) := ⟨_, rfl⟩
              have HY : Hid (Blk y1 d13 #[.int .i64 0, .int .i64 0, .int .u32 0, .int .i64 0]) := Lib.hid (by rw [hy1]; exact set4_other HZ13.out HNE.out _ _ _ _)
              have cZ := HY.out.c
              have fZ := HY.out.f
              have lZ := HY.out.lt
              rw [← hy1]
              have HY1 := Lib.hid hy1
              clear hy1
              refine plan3_one (op_store (w1 := (((y1.setCell ⟨d13, 0, none⟩ (.int .i64 O1.addr)).setCell ⟨d13, 1, none⟩ (.int .i64 O1.state)).setCell ⟨d13, 2, none⟩ (.int .u32 O1.val)).setCell ⟨d13, 3, none⟩ (.int .i64 O1.used)) rfl (by rfl) (by go_simp) ⟨HS0.out _ (set4_below (by rw [HY1.out]; exact set4_below HB.out HD12.out _ _ _ _) HD13.out _ _ _ _), ?_⟩)
              try simp only [Act.put, List.setIfInBounds_toArray, List.set_cons_zero, List.set_cons_succ, List.getElem_toArray, List.getElem_cons_zero, List.getElem_cons_succ]
              clear cZ fZ lZ HY
              refine plan3_stop ?_
              simp only [List.drop_succ_cons, List.drop_zero]
              have HFIN := Lib.hid (put_done (u0 := .int .i64 O1.addr) (u1 := .int .i64 O1.state) (u2 := .int .u32 O1.val) (u3 := .int .i64 O1.used) HZ12.out HZ13.out HO1.out HKV.out HB.out HD12.out HD13.out HNE.out HNB12.out HNB13.out (by simp) (by simp) (by simp) y1 HY1.out _ rfl)
              clear HY1
              go_wp2_with fail
              go_meet
              case rel => exact ⟨d12, d13, rfl, rfl, rfl, HFIN.out⟩
          · skip
            refine op_make (v := .pointer (some ⟨u0.heap.size, 0, none⟩)) (w1 := u0.alloc (.cells #[.int .i64 0, .int .i64 0, .int .i64 0, .slice none 0 0] 24)) rfl (by rfl) (by go_simp) ⟨HS0.out _ (HB.out.alloc HB.out.size _), ?_⟩
            try simp only [Act.put, List.setIfInBounds_toArray, List.set_cons_zero, List.set_cons_succ, List.getElem_toArray, List.getElem_cons_zero, List.getElem_cons_succ]
            have HBn : Hid (Below wr.heap.size wr (u0.alloc (.cells #[.int .i64 0, .int .i64 0, .int .i64 0, .slice none 0 0] 24))) := Lib.hid (HB.out.alloc HB.out.size _)
            have HZ12 : Hid (Blk (u0.alloc (.cells #[.int .i64 0, .int .i64 0, .int .i64 0, .slice none 0 0] 24)) u0.heap.size #[.int .i64 0, .int .i64 0, .int .i64 0, .slice none 0 0]) := Lib.hid (Blk.new _ _ _)
            have HD12 : Hid (wr.heap.size ≤ u0.heap.size) := Lib.hid HB.out.size
            have HNB12 : Hid (u0.heap.size ≠ b) := Lib.hid (by have := HD12.out; have := HKB.out.lt; omega)
            obtain ⟨u1, hu1⟩ : ∃ z, z = u0.alloc (.cells #[.int .i64 0, .int .i64 0, .int .i64 0, .slice none 0 0] 24) := ⟨_, rfl⟩
            obtain ⟨d12, hd12⟩ : ∃ z, z = u0.heap.size := ⟨_, rfl⟩
            rw [← hu1] at HBn HZ12 ⊢
            rw [← hd12] at HZ12 HD12 HNB12 ⊢
            clear hu1 hd12 HB
            have HB := Lib.hid HBn.out
            clear HBn
            refine plan3_two ?_ ?_
            · skip
              have hcall := HW.out (fun R => R = b ∨ R = d12) u1 HB.out (fun R hR => by
                rcases hR with hR | hR
                · rw [hR]; exact Nat.lt_of_lt_of_le HKB.out.lt HB.out.size
                · rw [hR]; exact HZ12.out.lt
                ) (fun R hR => by
                rcases hR with hR | hR
                · exact .inl hR
                · exact .inr (by rw [hR]; exact HD12.out)
                )
              refine op_call (F := 18) (args := ?_) rfl (by rfl) ?_ ?_
              rotate_left
              · go_simp
                rfl
              refine (hcall).mono ?_
              rintro e u2 ⟨v, rfl, ⟨p1, n1, c1, xs1, rfl, hcc, hoff⟩, hb⟩
              have HBn : Hid (Below wr.heap.size wr u2) := Lib.hid (HB.out.trans (hb.mono HB.out.size))
              have HO1 : Hid (Co (fun R => R = b ∨ R = d12) u2 (.agg #[.int .i64 C1.sets, .int .i64 C1.ways, .int .i64 C1.clock, .slice p1 n1 c1]) C1) := Lib.hid ⟨_, _, _, _, rfl, hcc, hoff⟩
              have HKV := Lib.hid (HKB.out.below HBn.out)
              refine ⟨_, rfl, HS0.out _ HBn.out, ?_⟩
              try simp only [Act.put, List.setIfInBounds_toArray, List.set_cons_zero, List.set_cons_succ, List.getElem_toArray, List.getElem_cons_zero, List.getElem_cons_succ]
              iterate 4
                refine plan3_read (v := ?_) rfl (by rfl) ?_ ?_
                rotate_left
                · intro w' hS
                  try dsimp only at hS
                  go_simp
                  try with_reducible rfl
                try simp only [Act.put, List.setIfInBounds_toArray, List.set_cons_zero, List.set_cons_succ, List.getElem_toArray, List.getElem_cons_zero, List.getElem_cons_succ]
              have HZ12n := Lib.hid (HZ12.out.below hb)
              clear HZ12
              have HZ12 := Lib.hid HZ12n.out
              clear HZ12n
              clear hb hcc hoff hcall HB
              have HB := Lib.hid HBn.out
              clear HBn
              refine plan3_one ?_
              refine op_make (v := .pointer (some ⟨u2.heap.size, 0, none⟩)) (w1 := u2.alloc (.cells #[.int .i64 0, .int .i64 0, .int .u32 0, .int .i64 0] 30)) rfl (by rfl) (by go_simp) ⟨HS0.out _ (HB.out.alloc HB.out.size _), ?_⟩
              try simp only [Act.put, List.setIfInBounds_toArray, List.set_cons_zero, List.set_cons_succ, List.getElem_toArray, List.getElem_cons_zero, List.getElem_cons_succ]
              have HBn : Hid (Below wr.heap.size wr (u2.alloc (.cells #[.int .i64 0, .int .i64 0, .int .u32 0, .int .i64 0] 30))) := Lib.hid (HB.out.alloc HB.out.size _)
              have HZ13 : Hid (Blk (u2.alloc (.cells #[.int .i64 0, .int .i64 0, .int .u32 0, .int .i64 0] 30)) u2.heap.size #[.int .i64 0, .int .i64 0, .int .u32 0, .int .i64 0]) := Lib.hid (Blk.new _ _ _)
              have HD13 : Hid (wr.heap.size ≤ u2.heap.size) := Lib.hid HB.out.size
              have HNB13 : Hid (u2.heap.size ≠ b) := Lib.hid (by have := HD13.out; have := HKB.out.lt; omega)

              have HZ12n := Lib.hid (HZ12.out.alloc (.cells #[.int .i64 0, .int .i64 0, .int .u32 0, .int .i64 0] 30))
              have HNE : Hid (d12 ≠ u2.heap.size) := Lib.hid (by have := HZ12.out.lt; omega)
              clear HZ12
              have HZ12 := Lib.hid HZ12n.out
              clear HZ12n
              have HO1n : Hid (Co (fun R => R = b ∨ R = d12 ∨ R = u2.heap.size) (u2.alloc (.cells #[.int .i64 0, .int .i64 0, .int .u32 0, .int .i64 0] 30)) (.agg #[.int .i64 C1.sets, .int .i64 C1.ways, .int .i64 C1.clock, .slice p1 n1 c1]) C1) := Lib.hid ((HO1.out.later (fun R hR => by
                rcases hR with hR | hR | hR
                · exact .inl (by simp [hR])
                · exact .inl (by simp [hR])
                · exact .inr (by rw [hR]; exact Nat.le_refl _))).below ((Below.refl _ _).alloc (Nat.le_refl _) _))
              have HKVn := Lib.hid (HKV.out.alloc (.cells #[.int .i64 0, .int .i64 0, .int .u32 0, .int .i64 0] 30))
              clear HO1 HKV
              have HO1 := Lib.hid HO1n.out
              have HKV := Lib.hid HKVn.out
              clear HO1n HKVn
              obtain ⟨u3, hu3⟩ : ∃ z, z = u2.alloc (.cells #[.int .i64 0, .int .i64 0, .int .u32 0, .int .i64 0] 30) := ⟨_, rfl⟩
              obtain ⟨d13, hd13⟩ : ∃ z, z = u2.heap.size := ⟨_, rfl⟩
              rw [← hu3] at HBn HZ13 ⊢
              rw [← hu3] at HZ12
              rw [← hu3] at HO1 HKV
              rw [← hd13] at HZ13 HD13 HNB13 HNE HO1 ⊢
              clear hu3 hd13 HB
              have HB := Lib.hid HBn.out
              clear HBn
              have cZ := HZ12.out.c
              have fZ := HZ12.out.f
              have lZ := HZ12.out.lt
              refine plan3_one (op_store (w1 := (((u3.setCell ⟨d12, 0, none⟩ (.int .i64 C1.sets)).setCell ⟨d12, 1, none⟩ (.int .i64 C1.ways)).setCell ⟨d12, 2, none⟩ (.int .i64 C1.clock)).setCell ⟨d12, 3, none⟩ (.slice p1 n1 c1)) rfl (by rfl) (by go_simp) ⟨HS0.out _ (set4_below HB.out HD12.out _ _ _ _), ?_⟩)
              try simp only [Act.put, List.setIfInBounds_toArray, List.set_cons_zero, List.set_cons_succ, List.getElem_toArray, List.getElem_cons_zero, List.getElem_cons_succ]
              clear cZ fZ lZ
              obtain ⟨y1, hy1⟩ : ∃ y1, y1 = (((u3.setCell ⟨d12, 0, none⟩ (.int .i64 C1.sets)).setCell ⟨d12, 1, none⟩ (.int .i64 C1.ways)).setCell ⟨d12, 2, none⟩ (.int .i64 C1.clock)).setCell ⟨d12, 3, none⟩ (.slice p1 n1 c1) := ⟨_, rfl⟩
              have HY : Hid (Blk y1 d13 #[.int .i64 0, .int .i64 0, .int .u32 0, .int .i64 0]) := Lib.hid (by rw [hy1]; exact set4_other HZ13.out HNE.out _ _ _ _)
              have cZ := HY.out.c
              have fZ := HY.out.f
              have lZ := HY.out.lt
              rw [← hy1]
              have HY1 := Lib.hid hy1
              clear hy1
              refine plan3_one (op_store (w1 := (((y1.setCell ⟨d13, 0, none⟩ (.int .i64 O1.addr)).setCell ⟨d13, 1, none⟩ (.int .i64 O1.state)).setCell ⟨d13, 2, none⟩ (.int .u32 O1.val)).setCell ⟨d13, 3, none⟩ (.int .i64 O1.used)) rfl (by rfl) (by go_simp) ⟨HS0.out _ (set4_below (by rw [HY1.out]; exact set4_below HB.out HD12.out _ _ _ _) HD13.out _ _ _ _), ?_⟩)
              try simp only [Act.put, List.setIfInBounds_toArray, List.set_cons_zero, List.set_cons_succ, List.getElem_toArray, List.getElem_cons_zero, List.getElem_cons_succ]
              clear cZ fZ lZ HY
              refine plan3_stop ?_
              simp only [List.drop_succ_cons, List.drop_zero]
              have HFIN := Lib.hid (put_done (u0 := .int .i64 O1.addr) (u1 := .int .i64 O1.state) (u2 := .int .u32 O1.val) (u3 := .int .i64 O1.used) HZ12.out HZ13.out HO1.out HKV.out HB.out HD12.out HD13.out HNE.out HNB12.out HNB13.out (by simp) (by simp) (by simp) y1 HY1.out _ rfl)
              clear HY1
              go_wp2_with fail
              go_meet
              case rel => exact ⟨d12, d13, rfl, rfl, rfl, HFIN.out⟩
            · skip
              refine op_make (v := .pointer (some ⟨u1.heap.size, 0, none⟩)) (w1 := u1.alloc (.cells #[.int .i64 0, .int .i64 0, .int .u32 0, .int .i64 0] 30)) rfl (by rfl) (by go_simp) ⟨HS0.out _ (HB.out.alloc HB.out.size _), ?_⟩
              try simp only [Act.put, List.setIfInBounds_toArray, List.set_cons_zero, List.set_cons_succ, List.getElem_toArray, List.getElem_cons_zero, List.getElem_cons_succ]
              have HBn : Hid (Below wr.heap.size wr (u1.alloc (.cells #[.int .i64 0, .int .i64 0, .int .u32 0, .int .i64 0] 30))) := Lib.hid (HB.out.alloc HB.out.size _)
              have HZ13 : Hid (Blk (u1.alloc (.cells #[.int .i64 0, .int .i64 0, .int .u32 0, .int .i64 0] 30)) u1.heap.size #[.int .i64 0, .int .i64 0, .int .u32 0, .int .i64 0]) := Lib.hid (Blk.new _ _ _)
              have HD13 : Hid (wr.heap.size ≤ u1.heap.size) := Lib.hid HB.out.size
              have HNB13 : Hid (u1.heap.size ≠ b) := Lib.hid (by have := HD13.out; have := HKB.out.lt; omega)
              have HZ12n := Lib.hid (HZ12.out.alloc (.cells #[.int .i64 0, .int .i64 0, .int .u32 0, .int .i64 0] 30))
              have HNE : Hid (d12 ≠ u1.heap.size) := Lib.hid (by have := HZ12.out.lt; omega)
              clear HZ12
              have HZ12 := Lib.hid HZ12n.out
              clear HZ12n
              obtain ⟨u2, hu2⟩ : ∃ z, z = u1.alloc (.cells #[.int .i64 0, .int .i64 0, .int .u32 0, .int .i64 0] 30) := ⟨_, rfl⟩
              obtain ⟨d13, hd13⟩ : ∃ z, z = u1.heap.size := ⟨_, rfl⟩
              rw [← hu2] at HBn HZ13 ⊢
              rw [← hu2] at HZ12
              rw [← hd13] at HZ13 HD13 HNB13 HNE ⊢
              clear hu2 hd13 HB
              have HB := Lib.hid HBn.out
              clear HBn
              refine plan3_one ?_
              have hcall := HW.out (fun R => R = b ∨ R = d12 ∨ R = d13) u2 HB.out (fun R hR => by
                rcases hR with hR | hR | hR
                · rw [hR]; exact Nat.lt_of_lt_of_le HKB.out.lt HB.out.size
                · rw [hR]; exact HZ12.out.lt
                · rw [hR]; exact HZ13.out.lt
                ) (fun R hR => by
                rcases hR with hR | hR | hR
                · exact .inl hR
                · exact .inr (by rw [hR]; exact HD12.out)
                · exact .inr (by rw [hR]; exact HD13.out)
                )
              refine op_call (F := 18) (args := ?_) rfl (by rfl) ?_ ?_
              rotate_left
              · go_simp
                rfl
              refine (hcall).mono ?_
              rintro e u3 ⟨v, rfl, ⟨p1, n1, c1, xs1, rfl, hcc, hoff⟩, hb⟩
              have HBn : Hid (Below wr.heap.size wr u3) := Lib.hid (HB.out.trans (hb.mono HB.out.size))
              have HO1 : Hid (Co (fun R => R = b ∨ R = d12 ∨ R = d13) u3 (.agg #[.int .i64 C1.sets, .int .i64 C1.ways, .int .i64 C1.clock, .slice p1 n1 c1]) C1) := Lib.hid ⟨_, _, _, _, rfl, hcc, hoff⟩
              have HKV := Lib.hid (HKB.out.below HBn.out)
              refine ⟨_, rfl, HS0.out _ HBn.out, ?_⟩
              try simp only [Act.put, List.setIfInBounds_toArray, List.set_cons_zero, List.set_cons_succ, List.getElem_toArray, List.getElem_cons_zero, List.getElem_cons_succ]
              iterate 4
                refine plan3_read (v := ?_) rfl (by rfl) ?_ ?_
                rotate_left
                · intro w' hS
                  try dsimp only at hS
                  go_simp
                  try with_reducible rfl
                try simp only [Act.put, List.setIfInBounds_toArray, List.set_cons_zero, List.set_cons_succ, List.getElem_toArray, List.getElem_cons_zero, List.getElem_cons_succ]
              have HZ12n := Lib.hid (HZ12.out.below hb)
              clear HZ12
              have HZ12 := Lib.hid HZ12n.out
              clear HZ12n
              have HZ13n := Lib.hid (HZ13.out.below hb)
              clear HZ13
              have HZ13 := Lib.hid HZ13n.out
              clear HZ13n
              clear hb hcc hoff hcall HB
              have HB := Lib.hid HBn.out
              clear HBn
              have cZ := HZ12.out.c
              have fZ := HZ12.out.f
              have lZ := HZ12.out.lt
              refine plan3_one (op_store (w1 := (((u3.setCell ⟨d12, 0, none⟩ (.int .i64 C1.sets)).setCell ⟨d12, 1, none⟩ (.int .i64 C1.ways)).setCell ⟨d12, 2, none⟩ (.int .i64 C1.clock)).setCell ⟨d12, 3, none⟩ (.slice p1 n1 c1)) rfl (by rfl) (by go_simp) ⟨HS0.out _ (set4_below HB.out HD12.out _ _ _ _), ?_⟩)
              try simp only [Act.put, List.setIfInBounds_toArray, List.set_cons_zero, List.set_cons_succ, List.getElem_toArray, List.getElem_cons_zero, List.getElem_cons_succ]
              clear cZ fZ lZ
              obtain ⟨y1, hy1⟩ : ∃ y1, y1 = (((u3.setCell ⟨d12, 0, none⟩ (.int .i64 C1.sets)).setCell ⟨d12, 1, none⟩ (.int .i64 C1.ways)).setCell ⟨d12, 2, none⟩ (.int .i64 C1.clock)).setCell ⟨d12, 3, none⟩ (.slice p1 n1 c1) := ⟨_, rfl⟩
              have HY : Hid (Blk y1 d13 #[.int .i64 0, .int .i64 0, .int .u32 0, .int .i64 0]) := Lib.hid (by rw [hy1]; exact set4_other HZ13.out HNE.out _ _ _ _)
              have cZ := HY.out.c
              have fZ := HY.out.f
              have lZ := HY.out.lt
              rw [← hy1]
              have HY1 := Lib.hid hy1
              clear hy1
              refine plan3_one (op_store (w1 := (((y1.setCell ⟨d13, 0, none⟩ (.int .i64 O1.addr)).setCell ⟨d13, 1, none⟩ (.int .i64 O1.state)).setCell ⟨d13, 2, none⟩ (.int .u32 O1.val)).setCell ⟨d13, 3, none⟩ (.int .i64 O1.used)) rfl (by rfl) (by go_simp) ⟨HS0.out _ (set4_below (by rw [HY1.out]; exact set4_below HB.out HD12.out _ _ _ _) HD13.out _ _ _ _), ?_⟩)
              try simp only [Act.put, List.setIfInBounds_toArray, List.set_cons_zero, List.set_cons_succ, List.getElem_toArray, List.getElem_cons_zero, List.getElem_cons_succ]
              clear cZ fZ lZ HY
              refine plan3_stop ?_
              simp only [List.drop_succ_cons, List.drop_zero]
              have HFIN := Lib.hid (put_done (u0 := .int .i64 O1.addr) (u1 := .int .i64 O1.state) (u2 := .int .u32 O1.val) (u3 := .int .i64 O1.used) HZ12.out HZ13.out HO1.out HKV.out HB.out HD12.out HD13.out HNE.out HNB12.out HNB13.out (by simp) (by simp) (by simp) y1 HY1.out _ rfl)
              clear HY1
              go_wp2_with fail
              go_meet
              case rel => exact ⟨d12, d13, rfl, rfl, rfl, HFIN.out⟩
          · skip
            refine op_make (v := .pointer (some ⟨u0.heap.size, 0, none⟩)) (w1 := u0.alloc (.cells #[.int .i64 0, .int .i64 0, .int .u32 0, .int .i64 0] 30)) rfl (by rfl) (by go_simp) ⟨HS0.out _ (HB.out.alloc HB.out.size _), ?_⟩
            try simp only [Act.put, List.setIfInBounds_toArray, List.set_cons_zero, List.set_cons_succ, List.getElem_toArray, List.getElem_cons_zero, List.getElem_cons_succ]
            have HBn : Hid (Below wr.heap.size wr (u0.alloc (.cells #[.int .i64 0, .int .i64 0, .int .u32 0, .int .i64 0] 30))) := Lib.hid (HB.out.alloc HB.out.size _)
            have HZ13 : Hid (Blk (u0.alloc (.cells #[.int .i64 0, .int .i64 0, .int .u32 0, .int .i64 0] 30)) u0.heap.size #[.int .i64 0, .int .i64 0, .int .u32 0, .int .i64 0]) := Lib.hid (Blk.new _ _ _)
            have HD13 : Hid (wr.heap.size ≤ u0.heap.size) := Lib.hid HB.out.size
            have HNB13 : Hid (u0.heap.size ≠ b) := Lib.hid (by have := HD13.out; have := HKB.out.lt; omega)
            obtain ⟨u1, hu1⟩ : ∃ z, z = u0.alloc (.cells #[.int .i64 0, .int .i64 0, .int .u32 0, .int .i64 0] 30) := ⟨_, rfl⟩
            obtain ⟨d13, hd13⟩ : ∃ z, z = u0.heap.size := ⟨_, rfl⟩
            rw [← hu1] at HBn HZ13 ⊢
            rw [← hd13] at HZ13 HD13 HNB13 ⊢
            clear hu1 hd13 HB
            have HB := Lib.hid HBn.out
            clear HBn
            refine plan3_two ?_ ?_
            · skip
              have hcall := HW.out (fun R => R = b ∨ R = d13) u1 HB.out (fun R hR => by
                rcases hR with hR | hR
                · rw [hR]; exact Nat.lt_of_lt_of_le HKB.out.lt HB.out.size
                · rw [hR]; exact HZ13.out.lt
                ) (fun R hR => by
                rcases hR with hR | hR
                · exact .inl hR
                · exact .inr (by rw [hR]; exact HD13.out)
                )
              refine op_call (F := 18) (args := ?_) rfl (by rfl) ?_ ?_
              rotate_left
              · go_simp
                rfl
              refine (hcall).mono ?_
              rintro e u2 ⟨v, rfl, ⟨p1, n1, c1, xs1, rfl, hcc, hoff⟩, hb⟩
              have HBn : Hid (Below wr.heap.size wr u2) := Lib.hid (HB.out.trans (hb.mono HB.out.size))
              have HO1 : Hid (Co (fun R => R = b ∨ R = d13) u2 (.agg #[.int .i64 C1.sets, .int .i64 C1.ways, .int .i64 C1.clock, .slice p1 n1 c1]) C1) := Lib.hid ⟨_, _, _, _, rfl, hcc, hoff⟩
              have HKV := Lib.hid (HKB.out.below HBn.out)
              refine ⟨_, rfl, HS0.out _ HBn.out, ?_⟩
              try simp only [Act.put, List.setIfInBounds_toArray, List.set_cons_zero, List.set_cons_succ, List.getElem_toArray, List.getElem_cons_zero, List.getElem_cons_succ]
              iterate 4
                refine plan3_read (v := ?_) rfl (by rfl) ?_ ?_
                rotate_left
                · intro w' hS
                  try dsimp only at hS
                  go_simp
                  try with_reducible rfl
                try simp only [Act.put, List.setIfInBounds_toArray, List.set_cons_zero, List.set_cons_succ, List.getElem_toArray, List.getElem_cons_zero, List.getElem_cons_succ]
              have HZ13n := Lib.hid (HZ13.out.below hb)
              clear HZ13
              have HZ13 := Lib.hid HZ13n.out
              clear HZ13n
              clear hb hcc hoff hcall HB
              have HB := Lib.hid HBn.out
              clear HBn
              refine plan3_one ?_
              refine op_make (v := .pointer (some ⟨u2.heap.size, 0, none⟩)) (w1 := u2.alloc (.cells #[.int .i64 0, .int .i64 0, .int .i64 0, .slice none 0 0] 24)) rfl (by rfl) (by go_simp) ⟨HS0.out _ (HB.out.alloc HB.out.size _), ?_⟩
              try simp only [Act.put, List.setIfInBounds_toArray, List.set_cons_zero, List.set_cons_succ, List.getElem_toArray, List.getElem_cons_zero, List.getElem_cons_succ]
              have HBn : Hid (Below wr.heap.size wr (u2.alloc (.cells #[.int .i64 0, .int .i64 0, .int .i64 0, .slice none 0 0] 24))) := Lib.hid (HB.out.alloc HB.out.size _)
              have HZ12 : Hid (Blk (u2.alloc (.cells #[.int .i64 0, .int .i64 0, .int .i64 0, .slice none 0 0] 24)) u2.heap.size #[.int .i64 0, .int .i64 0, .int .i64 0, .slice none 0 0]) := Lib.hid (Blk.new _ _ _)
              have HD12 : Hid (wr.heap.size ≤ u2.heap.size) := Lib.hid HB.out.size
              have HNB12 : Hid (u2.heap.size ≠ b) := Lib.hid (by have := HD12.out; have := HKB.out.lt; omega)

              have HZ13n := Lib.hid (HZ13.out.alloc (.cells #[.int .i64 0, .int .i64 0, .int .i64 0, .slice none 0 0] 24))
              have HNE : Hid (d13 ≠ u2.heap.size) := Lib.hid (by have := HZ13.out.lt; omega)
              clear HZ13
              have HZ13 := Lib.hid HZ13n.out
              clear HZ13n
              have HO1n : Hid (Co (fun R => R = b ∨ R = d13 ∨ R = u2.heap.size) (u2.alloc (.cells #[.int .i64 0, .int .i64 0, .int .i64 0, .slice none 0 0] 24)) (.agg #[.int .i64 C1.sets, .int .i64 C1.ways, .int .i64 C1.clock, .slice p1 n1 c1]) C1) := Lib.hid ((HO1.out.later (fun R hR => by
                rcases hR with hR | hR | hR
                · exact .inl (by simp [hR])
                · exact .inl (by simp [hR])
                · exact .inr (by rw [hR]; exact Nat.le_refl _))).below ((Below.refl _ _).alloc (Nat.le_refl _) _))
              have HKVn := Lib.hid (HKV.out.alloc (.cells #[.int .i64 0, .int .i64 0, .int .i64 0, .slice none 0 0] 24))
              clear HO1 HKV
              have HO1 := Lib.hid HO1n.out
              have HKV := Lib.hid HKVn.out
              clear HO1n HKVn
              obtain ⟨u3, hu3⟩ : ∃ z, z = u2.alloc (.cells #[.int .i64 0, .int .i64 0, .int .i64 0, .slice none 0 0] 24) := ⟨_, rfl⟩
              obtain ⟨d12, hd12⟩ : ∃ z, z = u2.heap.size := ⟨_, rfl⟩
              rw [← hu3] at HBn HZ12 ⊢
              rw [← hu3] at HZ13
              rw [← hu3] at HO1 HKV
              rw [← hd12] at HZ12 HD12 HNB12 HNE HO1 ⊢
              clear hu3 hd12 HB
              have HB := Lib.hid HBn.out
              clear HBn
              have HNEx := Lib.hid (Ne.symm HNE.out)
              clear HNE
              have HNE := Lib.hid HNEx.out
              clear HNEx
              have cZ := HZ12.out.c
              have fZ := HZ12.out.f
              have lZ := HZ12.out.lt
              refine plan3_one (op_store (w1 := (((u3.setCell ⟨d12, 0, none⟩ (.int .i64 C1.sets)).setCell ⟨d12, 1, none⟩ (.int .i64 C1.ways)).setCell ⟨d12, 2, none⟩ (.int .i64 C1.clock)).setCell ⟨d12, 3, none⟩ (.slice p1 n1 c1)) rfl (by rfl) (by go_simp) ⟨HS0.out _ (set4_below HB.out HD12.out _ _ _ _), ?_⟩)
              try simp only [Act.put, List.setIfInBounds_toArray, List.set_cons_zero, List.set_cons_succ, List.getElem_toArray, List.getElem_cons_zero, List.getElem_cons_succ]
              clear cZ fZ lZ
              obtain ⟨y1, hy1⟩ : ∃ y1, y1 = (((u3.setCell ⟨d12, 0, none⟩ (.int .i64 C1.sets)).setCell ⟨d12, 1, none⟩ (.int .i64 C1.ways)).setCell ⟨d12, 2, none⟩ (.int .i64 C1.clock)).setCell ⟨d12, 3, none⟩ (.slice p1 n1 c1) := ⟨_, rfl⟩
              have HY : Hid (Blk y1 d13 #[.int .i64 0, .int .i64 0, .int .u32 0, .int .i64 0]) := Lib.hid (by rw [hy1]; exact set4_other HZ13.out HNE.out _ _ _ _)
              have cZ := HY.out.c
              have fZ := HY.out.f
              have lZ := HY.out.lt
              rw [← hy1]
              have HY1 := Lib.hid hy1
              clear hy1
              refine plan3_one (op_store (w1 := (((y1.setCell ⟨d13, 0, none⟩ (.int .i64 O1.addr)).setCell ⟨d13, 1, none⟩ (.int .i64 O1.state)).setCell ⟨d13, 2, none⟩ (.int .u32 O1.val)).setCell ⟨d13, 3, none⟩ (.int .i64 O1.used)) rfl (by rfl) (by go_simp) ⟨HS0.out _ (set4_below (by rw [HY1.out]; exact set4_below HB.out HD12.out _ _ _ _) HD13.out _ _ _ _), ?_⟩)
              try simp only [Act.put, List.setIfInBounds_toArray, List.set_cons_zero, List.set_cons_succ, List.getElem_toArray, List.getElem_cons_zero, List.getElem_cons_succ]
              clear cZ fZ lZ HY
              refine plan3_stop ?_
              simp only [List.drop_succ_cons, List.drop_zero]
              have HFIN := Lib.hid (put_done (u0 := .int .i64 O1.addr) (u1 := .int .i64 O1.state) (u2 := .int .u32 O1.val) (u3 := .int .i64 O1.used) HZ12.out HZ13.out HO1.out HKV.out HB.out HD12.out HD13.out HNE.out HNB12.out HNB13.out (by simp) (by simp) (by simp) y1 HY1.out _ rfl)
              clear HY1
              go_wp2_with fail
              go_meet
              case rel => exact ⟨d12, d13, rfl, rfl, rfl, HFIN.out⟩
            · skip
              refine op_make (v := .pointer (some ⟨u1.heap.size, 0, none⟩)) (w1 := u1.alloc (.cells #[.int .i64 0, .int .i64 0, .int .i64 0, .slice none 0 0] 24)) rfl (by rfl) (by go_simp) ⟨HS0.out _ (HB.out.alloc HB.out.size _), ?_⟩
              try simp only [Act.put, List.setIfInBounds_toArray, List.set_cons_zero, List.set_cons_succ, List.getElem_toArray, List.getElem_cons_zero, List.getElem_cons_succ]
              have HBn : Hid (Below wr.heap.size wr (u1.alloc (.cells #[.int .i64 0, .int .i64 0, .int .i64 0, .slice none 0 0] 24))) := Lib.hid (HB.out.alloc HB.out.size _)
              have HZ12 : Hid (Blk (u1.alloc (.cells #[.int .i64 0, .int .i64 0, .int .i64 0, .slice none 0 0] 24)) u1.heap.size #[.int .i64 0, .int .i64 0, .int .i64 0, .slice none 0 0]) := Lib.hid (Blk.new _ _ _)
              have HD12 : Hid (wr.heap.size ≤ u1.heap.size) := Lib.hid HB.out.size
              have HNB12 : Hid (u1.heap.size ≠ b) := Lib.hid (by have := HD12.out; have := HKB.out.lt; omega)
              have HZ13n := Lib.hid (HZ13.out.alloc (.cells #[.int .i64 0, .int .i64 0, .int .i64 0, .slice none 0 0] 24))
              have HNE : Hid (d13 ≠ u1.heap.size) := Lib.hid (by have := HZ13.out.lt; omega)
              clear HZ13
              have HZ13 := Lib.hid HZ13n.out
              clear HZ13n
              obtain ⟨u2, hu2⟩ : ∃ z, z = u1.alloc (.cells #[.int .i64 0, .int .i64 0, .int .i64 0, .slice none 0 0] 24) := ⟨_, rfl⟩
              obtain ⟨d12, hd12⟩ : ∃ z, z = u1.heap.size := ⟨_, rfl⟩
              rw [← hu2] at HBn HZ12 ⊢
              rw [← hu2] at HZ13
              rw [← hd12] at HZ12 HD12 HNB12 HNE ⊢
              clear hu2 hd12 HB
              have HB := Lib.hid HBn.out
              clear HBn
              have HNEx := Lib.hid (Ne.symm HNE.out)
              clear HNE
              have HNE := Lib.hid HNEx.out
              clear HNEx
              refine plan3_one ?_
              have hcall := HW.out (fun R => R = b ∨ R = d13 ∨ R = d12) u2 HB.out (fun R hR => by
                rcases hR with hR | hR | hR
                · rw [hR]; exact Nat.lt_of_lt_of_le HKB.out.lt HB.out.size
                · rw [hR]; exact HZ13.out.lt
                · rw [hR]; exact HZ12.out.lt
                ) (fun R hR => by
                rcases hR with hR | hR | hR
                · exact .inl hR
                · exact .inr (by rw [hR]; exact HD13.out)
                · exact .inr (by rw [hR]; exact HD12.out)
                )
              refine op_call (F := 18) (args := ?_) rfl (by rfl) ?_ ?_
              rotate_left
              · go_simp
                rfl
              refine (hcall).mono ?_
              rintro e u3 ⟨v, rfl, ⟨p1, n1, c1, xs1, rfl, hcc, hoff⟩, hb⟩
              have HBn : Hid (Below wr.heap.size wr u3) := Lib.hid (HB.out.trans (hb.mono HB.out.size))
              have HO1 : Hid (Co (fun R => R = b ∨ R = d13 ∨ R = d12) u3 (.agg #[.int .i64 C1.sets, .int .i64 C1.ways, .int .i64 C1.clock, .slice p1 n1 c1]) C1) := Lib.hid ⟨_, _, _, _, rfl, hcc, hoff⟩
              have HKV := Lib.hid (HKB.out.below HBn.out)
              refine ⟨_, rfl, HS0.out _ HBn.out, ?_⟩
              try simp only [Act.put, List.setIfInBounds_toArray, List.set_cons_zero, List.set_cons_succ, List.getElem_toArray, List.getElem_cons_zero, List.getElem_cons_succ]
              iterate 4
                refine plan3_read (v := ?_) rfl (by rfl) ?_ ?_
                rotate_left
                · intro w' hS
                  try dsimp only at hS
                  go_simp
                  try with_reducible rfl
                try simp only [Act.put, List.setIfInBounds_toArray, List.set_cons_zero, List.set_cons_succ, List.getElem_toArray, List.getElem_cons_zero, List.getElem_cons_succ]
              have HZ13n := Lib.hid (HZ13.out.below hb)
              clear HZ13
              have HZ13 := Lib.hid HZ13n.out
              clear HZ13n
              have HZ12n := Lib.hid (HZ12.out.below hb)
              clear HZ12
              have HZ12 := Lib.hid HZ12n.out
              clear HZ12n
              clear hb hcc hoff hcall HB
              have HB := Lib.hid HBn.out
              clear HBn
              have cZ := HZ12.out.c
              have fZ := HZ12.out.f
              have lZ := HZ12.out.lt
              refine plan3_one (op_store (w1 := (((u3.setCell ⟨d12, 0, none⟩ (.int .i64 C1.sets)).setCell ⟨d12, 1, none⟩ (.int .i64 C1.ways)).setCell ⟨d12, 2, none⟩ (.int .i64 C1.clock)).setCell ⟨d12, 3, none⟩ (.slice p1 n1 c1)) rfl (by rfl) (by go_simp) ⟨HS0.out _ (set4_below HB.out HD12.out _ _ _ _), ?_⟩)
              try simp only [Act.put, List.setIfInBounds_toArray, List.set_cons_zero, List.set_cons_succ, List.getElem_toArray, List.getElem_cons_zero, List.getElem_cons_succ]
              clear cZ fZ lZ
              obtain ⟨y1, hy1⟩ : ∃ y1, y1 = (((u3.setCell ⟨d12, 0, none⟩ (.int .i64 C1.sets)).setCell ⟨d12, 1, none⟩ (.int .i64 C1.ways)).setCell ⟨d12, 2, none⟩ (.int .i64 C1.clock)).setCell ⟨d12, 3, none⟩ (.slice p1 n1 c1) := ⟨_, rfl⟩
              have HY : Hid (Blk y1 d13 #[.int .i64 0, .int .i64 0, .int .u32 0, .int .i64 0]) := Lib.hid (by rw [hy1]; exact set4_other HZ13.out HNE.out _ _ _ _)
              have cZ := HY.out.c
              have fZ := HY.out.f
              have lZ := HY.out.lt
              rw [← hy1]
              have HY1 := Lib.hid hy1
              clear hy1
              refine plan3_one (op_store (w1 := (((y1.setCell ⟨d13, 0, none⟩ (.int .i64 O1.addr)).setCell ⟨d13, 1, none⟩ (.int .i64 O1.state)).setCell ⟨d13, 2, none⟩ (.int .u32 O1.val)).setCell ⟨d13, 3, none⟩ (.int .i64 O1.used)) rfl (by rfl) (by go_simp) ⟨HS0.out _ (set4_below (by rw [HY1.out]; exact set4_below HB.out HD12.out _ _ _ _) HD13.out _ _ _ _), ?_⟩)
              try simp only [Act.put, List.setIfInBounds_toArray, List.set_cons_zero, List.set_cons_succ, List.getElem_toArray, List.getElem_cons_zero, List.getElem_cons_succ]
              clear cZ fZ lZ HY
              refine plan3_stop ?_
              simp only [List.drop_succ_cons, List.drop_zero]
              have HFIN := Lib.hid (put_done (u0 := .int .i64 O1.addr) (u1 := .int .i64 O1.state) (u2 := .int .u32 O1.val) (u3 := .int .i64 O1.used) HZ12.out HZ13.out HO1.out HKV.out HB.out HD12.out HD13.out HNE.out HNB12.out HNB13.out (by simp) (by simp) (by simp) y1 HY1.out _ rfl)
              clear HY1
              go_wp2_with fail
              go_meet
              case rel => exact ⟨d12, d13, rfl, rfl, rfl, HFIN.out⟩
        case rest =>
          obtain ⟨d12, d13, rfl, rfl, rfl, hv, hk, hne, hb⟩ := hcut
          obtain ⟨p1, n1, c1, xs1, hk1, hcc1, hoff1⟩ := hv
          have HV1 : Hid (Co (fun R => R = b) wc (.agg #[.int .i64 C1.sets, .int .i64 C1.ways, .int .i64 C1.clock, .slice p1 n1 c1]) C1) := Lib.hid ⟨_, _, _, _, rfl, hcc1, hoff1⟩
          have HK := Lib.hid hk
          have HB1 : Hid (Below w.heap.size w wc) := Lib.hid (HBW.out.trans (hb.mono HBW.out.size))
          have kc1 := hk1.c
          have kc := hk.c
          have kf := hk.f
          have kl := hk.lt
          clear hk hk1 hcc1 hoff1 hb HW HKB HC HOFF
          go_upto_region 9 with fail
          obtain ⟨h1, h2, h3, h4⟩ := var_use HK.out HV1.out HB1.out HBG.out rfl _ rfl
          have HVN := Lib.hid (Var.of h1 h2)
          have HBN := Lib.hid h3
          clear h1 h2 h3 h4 kc1 kc kf kl
          go_wp2_with fail
          go_roundw
          case rel => exact ⟨i + 1, by omega, by go_num, C1, HP.out, HVN.out, HBN.out⟩
          case measure => simp [intOf]; omega
      · have hltI : decide ((i : Int) < len) = false := decide_eq_false (by omega)
        obtain rfl : i = len := by omega
        rw [List.take_of_length_le (by rw [HZ.out]; exact Nat.le_refl _)] at HLS
        clear hlt
        go_upto_region 15 with fail
        go_wp2_with fail
        obtain ⟨W2, hW2⟩ : ∃ W, W = wr := ⟨_, rfl⟩
        rw [← hW2] at HV HBW ⊢
        clear hW2
        go_loopw [15] (fun s wr => ∃ a : Nat, a ≤ 256 ∧ s = .int .i64 a ∧ Var (fun R => R = b) wr b C ∧ Below w.heap.size w wr) (fun s _ => 256 - (intOf s).toNat)
        case atStart => exact ⟨0, by decide, rfl, HV.out, HBW.out⟩
        case round =>
          clear HV HBW
          obtain ⟨a, ha, rfl, hv, hb⟩ := hrel
          have HV := Lib.hid hv
          have HBW := Lib.hid hb
          clear hv hb
          by_cases hlt : a < 256
          · have hltI : decide ((a : Int) < 256) = true := decide_eq_true (by omega)
            have hz49 := zero49
            go_upto_region 18 with fail
            clear hz49
            obtain ⟨bs, hbs⟩ : ∃ bs, bs = wr.heap.size := ⟨_, rfl⟩
            obtain ⟨w4, hw4⟩ : ∃ w4, w4 = wr.alloc (.cells (arrB fun _ => false) 49) := ⟨_, rfl⟩
            have HS4 : Hid (Blk w4 bs (arrB fun _ => false)) := Lib.hid (by rw [hw4, hbs]; exact Blk.new _ _ _)
            have HV4 : Hid (Var (fun R => R = b ∨ R = bs) w4 b C) := Lib.hid (by
              rw [hw4]
              exact (HV.out.later (fun R hR => hR.elim .inl fun h => .inr (by rw [h, hbs]; exact Nat.le_refl _))).below ((Below.refl _ _).alloc (Nat.le_refl _) _))
            have HB4 : Hid (Below w.heap.size w w4) := Lib.hid (by rw [hw4]; exact HBW.out.alloc HBW.out.size _)
            have HGS : Hid (w.heap.size ≤ bs) := Lib.hid (by rw [hbs]; exact HBW.out.size)
            have HNB : Hid (bs ≠ b) := Lib.hid (by obtain ⟨_, _, _, _, hk, _⟩ := HV.out; have := hk.lt; omega)
            rw [← hw4, ← hbs]
            clear hw4 hbs HV HBW
            go_wp2_with fail
            go_loopw [17, 18, 19] (fun s17 s18 s19 wr => ∃ sn : Nat → Bool, Blk wr bs (arrB sn) ∧ Var (fun R => R = b ∨ R = bs) wr b C ∧ Below w.heap.size w wr ∧
              ((∃ t : Nat, t ≤ i ∧ s19 = .int .i64 ((t : Int) - 1) ∧ s18 = .bool false ∧ s17 = .int .i64 (cntS n a (q.drop t).reverse) ∧ a ∉ (q.drop t).reverse ∧ ∀ k, k < 256 → sn k = decide (k ∈ (q.drop t).reverse ∧ k % n = a % n)) ∨
               (∃ (z : Int) (p r : List Nat), -2 < z ∧ z < 1000 ∧ s19 = .int .i64 z ∧ s18 = .bool true ∧ q.reverse = p ++ a :: r ∧ a ∉ p ∧ s17 = .int .i64 (cntS n a p))))
              (fun _ s18 s19 _ => match s18 with | .bool true => 0 | _ => (intOf s19 + 2).toNat)
            case atStart =>
              refine ⟨fun _ => false, HS4.out, HV4.out, HB4.out, .inl ⟨i, Nat.le_refl _, rfl, rfl, ?_, ?_, ?_⟩⟩
              · rw [List.drop_eq_nil_of_le (by rw [HZ.out]; exact Nat.le_refl _)]; rfl
              · rw [List.drop_eq_nil_of_le (by rw [HZ.out]; exact Nat.le_refl _)]; exact List.not_mem_nil
              · rw [List.drop_eq_nil_of_le (by rw [HZ.out]; exact Nat.le_refl _)]; intro k _; exact (decide_eq_false (fun h => List.not_mem_nil h.1)).symm
            case round =>
              obtain ⟨sn, hs, hv, hb, hcase⟩ := hrel
              have HS := Lib.hid hs
              have HV := Lib.hid hv
              have HBW := Lib.hid hb
              clear hs hv hb HS4 HV4 HB4
              rcases hcase with ⟨t, ht, rfl, rfl, rfl, hna, hsn⟩ | ⟨z, p', r', hz1, hz2, rfl, rfl, hqe, hna, rfl⟩
              · have HNA := Lib.hid hna
                have HSN := Lib.hid hsn
                clear hna hsn
                cases t with
                | zero =>
                  have h0 : decide ((0 : Int) ≤ ((0 : Nat) : Int) - 1) = false := by decide
                  have HHAS : Hid (hasC C a = false) := Lib.hid (by
                    rw [HLS.out.has a]
                    exact decide_eq_false (scan_none n m a q.reverse (by have h1 := HNA.out; rwa [List.drop_zero] at h1)))
                  clear HSN HNA
                  obtain ⟨p1, n1, c1, xs1, hk1, hcc1, hoff1⟩ := HV.out
                  have kc1 := hk1.c
                  have hlook := look_any (fun R => R = b ∨ R = bs) _ C a wr ⟨_, _, _, _, rfl, hcc1, hoff1⟩
                  rw [HHAS.out] at hlook
                  have HLOOK := Lib.hid hlook
                  clear hk1 hcc1 hoff1 hlook
                  go_wp2_with fail
                  refine HLOOK.out.mono ?_
                  clear HLOOK kc1
                  rintro e w6 ⟨rfl, hb6⟩
                  have HV6 := Lib.hid ((HV.out.below hb6).later (S' := fun R => R = b) (fun R hR => .inl (.inl hR)))
                  have HB6 : Hid (Below w.heap.size w w6) := Lib.hid (HBW.out.trans (hb6.mono HBW.out.size))
                  clear hb6 HV HBW HS
                  go_upto_region 30 with fail
                  have HA6 : Hid (Below w6.heap.size w6 (w6.alloc (.cells #[.int .i64 (lookC C a).addr, .int .i64 (lookC C a).state, .int .u32 (lookC C a).val, .int .i64 (lookC C a).used] 30))) := Lib.hid ((Below.refl _ _).alloc (Nat.le_refl _) _)
                  have HV7 := Lib.hid (HV6.out.below HA6.out)
                  have HB7 : Hid (Below w.heap.size w (w6.alloc (.cells #[.int .i64 (lookC C a).addr, .int .i64 (lookC C a).state, .int .u32 (lookC C a).val, .int .i64 (lookC C a).used] 30))) := Lib.hid (HB6.out.trans (HA6.out.mono HB6.out.size))
                  clear HV6 HB6 HA6
                  go_wp2_with fail
                  go_roundw
                  case rel => exact ⟨a + 1, by omega, by go_num, HV7.out, HB7.out⟩
                  case measure => simp [intOf]; omega
                | succ t =>
                  rw [show (((t + 1 : Nat) : Int) - 1) = (t : Int) by omega]
                  have h0 : decide ((0 : Int) ≤ (t : Int)) = true := decide_eq_true (by omega)
                  obtain ⟨bq, off, hbq, rfl, hcq⟩ := HQ.out.c (by rw [HZ.out]; omega)
                  obtain ⟨y, hy⟩ : ∃ y, y = q.getD t 0 := ⟨_, rfl⟩
                  have hy256 : y < 256 := by rw [hy]; exact HQ.out.lt _ (mem_getD q 0 t (by rw [HZ.out]; omega))
                  have hcx := hcq t (by rw [HZ.out]; omega)
                  rw [← hy] at hcx
                  have hcx' : wr.cell? ⟨bq, off + t, none⟩ = some (.int .u8 (y : Int)) := (HBW.out.cell (p := ⟨bq, off + t, none⟩) hbq).trans hcx
                  have HY := Lib.hid hy
                  have hdr := drop_getD q 0 t (by rw [HZ.out]; omega)
                  rw [← hy] at hdr
                  have HDR : Hid ((q.drop t).reverse = (q.drop (t + 1)).reverse ++ [y]) := Lib.hid (by rw [hdr, List.reverse_cons])
                  have hwy : IntKind.i64.wrap (y : Int) = (y : Int) := by rw [IntKind.wrap_i64]; omega
                  clear hcq hcx hy hdr
                  by_cases hya : y = a
                  · have e0 : ((y : Int) == (a : Int)) = true := by rw [hya]; simp
                    have HYA := Lib.hid hya
                    clear hya
                    go_wp2_with fail
                    go_roundw
                    case rel =>
                      refine ⟨sn, HS.out, HV.out, HBW.out, .inr ⟨_, (q.drop (t + 1)).reverse, (q.take t).reverse, ?_, ?_, rfl, rfl, ?_, HNA.out, rfl⟩⟩
                      · omega
                      · omega
                      · have h1 := List.take_append_drop t q
                        rw [← congrArg List.reverse h1, List.reverse_append, HDR.out, HYA.out, List.append_assoc]
                        rfl
                    case measure => simp [intOf]; omega
                  · have e0 : ((y : Int) == (a : Int)) = false := by simp; omega
                    have hn0 : ¬ n = 0 := by omega
                    have hyI : (0 : Int) ≤ (y : Int) := by omega
                    have hyI2 : (y : Int) < 256 := by omega
                    obtain ⟨ky, hky⟩ : ∃ k, k = y % n := ⟨_, rfl⟩
                    obtain ⟨ka, hka⟩ : ∃ k, k = a % n := ⟨_, rfl⟩
                    have hty : ((y : Int)).tmod (n : Int) = (ky : Int) := by rw [Int.tmod_eq_emod_of_nonneg (by omega), hky]; exact (Int.natCast_emod y n).symm
                    have hta : ((a : Int)).tmod (n : Int) = (ka : Int) := by rw [Int.tmod_eq_emod_of_nonneg (by omega), hka]; exact (Int.natCast_emod a n).symm
                    have hcs : wr.cell? ⟨bs, y, none⟩ = some (.bool (sn y)) := (HS.out.c y).trans (arrB_at sn y hy256)
                    have hsy := HSN.out y hy256
                    have hcnt := cntS_step n a (q.drop (t + 1)).reverse y
                    rw [← HDR.out] at hcnt
                    have HNA2 : Hid (a ∉ (q.drop t).reverse) := Lib.hid (by
                      rw [HDR.out, List.mem_append]
                      rintro (h | h)
                      · exact HNA.out h
                      · exact hya (List.mem_singleton.1 h).symm)
                    have HKY := Lib.hid hky
                    have HKA := Lib.hid hka
                    have HYA := Lib.hid hya
                    clear hya hky hka
                    have HMEM : Hid (∀ k, k ∈ (q.drop t).reverse ↔ k ∈ (q.drop (t + 1)).reverse ∨ k = y) := Lib.hid (fun k => by rw [HDR.out, List.mem_append, List.mem_singleton])
                    by_cases hym : ky = ka
                    · have e1 : ((ky : Int) == (ka : Int)) = true := by simp; omega
                      have HYM : Hid (y % n = a % n) := Lib.hid (by rw [← HKY.out, ← HKA.out]; exact hym)
                      clear hym
                      by_cases hyp : y ∈ (q.drop (t + 1)).reverse
                      · have e2 : sn y = true := by rw [hsy]; exact decide_eq_true ⟨hyp, HYM.out⟩
                        rw [e2] at hcs
                        rw [if_neg (fun h => h.2 hyp)] at hcnt
                        have HYP := Lib.hid hyp
                        have HCNT := Lib.hid hcnt
                        clear hsy e2 hyp hcnt
                        go_upto_region 26 with fail
                        go_quiet (fail)
                        have HBQ : Hid (Below wr.heap.size wr (wr.drewN nq)) := Lib.hid (drewN_below (Below.refl _ _) _)
                        go_wp2_with fail
                        go_roundw
                        case rel =>
                          refine ⟨sn, HS.out.below HBQ.out, HV.out.below HBQ.out, HBW.out.trans (HBQ.out.mono HBW.out.size), .inl ⟨t, by omega, by go_num, rfl, by rw [HCNT.out], HNA2.out, fun k hk => ?_⟩⟩
                          rw [HSN.out k hk]
                          refine decide_eq_decide.2 ⟨fun h => ⟨(HMEM.out k).2 (.inl h.1), h.2⟩, fun h => ⟨?_, h.2⟩⟩
                          rcases (HMEM.out k).1 h.1 with h1 | h1
                          · exact h1
                          · rw [h1]; exact HYP.out
                        case measure => simp [intOf]; omega
                      · have e2 : sn y = false := by rw [hsy]; exact decide_eq_false (fun h => hyp h.1)
                        rw [e2] at hcs
                        rw [if_pos ⟨HYM.out, hyp⟩] at hcnt
                        have HCNT := Lib.hid hcnt
                        clear hsy e2 hyp hcnt
                        go_upto_region 26 with fail
                        go_quiet (fail)
                        have HBQ : Hid (Below wr.heap.size wr (wr.drewN nq)) := Lib.hid (drewN_below (Below.refl _ _) _)
                        go_upto_region 27 with fail
                        obtain ⟨w5, hw5⟩ : ∃ w5, w5 = wr.drewN nq := ⟨_, rfl⟩
                        rw [← hw5] at HBQ ⊢
                        have HS5 := Lib.hid (HS.out.below HBQ.out)
                        have HV5 := Lib.hid (HV.out.below HBQ.out)
                        have HB5 : Hid (Below w.heap.size w w5) := Lib.hid (HBW.out.trans (HBQ.out.mono HBW.out.size))
                        have ks := (HS5.out.c y).trans (arrB_at sn y hy256)
                        have kf := HS5.out.f y
                        have kl := HS5.out.lt
                        clear hw5 HBQ hcs
                        go_upto_region 28 with fail
                        have HSX : Hid (Blk (w5.setCell ⟨bs, y, none⟩ (.bool true)) bs (arrB (upd sn y true))) := Lib.hid ((HS5.out.set (n := y) (.bool true) (by unfold arrB; rw [arr_size]; exact hy256)).cast (arrB_set sn y true))
                        have HVX := Lib.hid (HV5.out.set (R := bs) (.inr rfl) HNB.out y (.bool true))
                        have HBX := Lib.hid (HB5.out.setCell (p := ⟨bs, y, none⟩) HGS.out (.bool true))
                        clear ks kf kl
                        have hw1 : IntKind.i64.wrap ((cntS n a (q.drop (t + 1)).reverse : Int) + 1) = ((cntS n a (q.drop t).reverse : Nat) : Int) := by
                          have := cntS_le n a (q.drop t).reverse
                          rw [List.length_reverse, List.length_drop, HZ.out] at this
                          have h3 := HCNT.out
                          rw [IntKind.wrap_i64]; omega
                        go_wp2_with fail
                        go_roundw
                        case rel =>
                          refine ⟨_, HSX.out, HVX.out, HBX.out, .inl ⟨t, by omega, by go_num, rfl, ?_, HNA2.out, fun k hk => ?_⟩⟩
                          · rfl
                          · unfold upd
                            by_cases hky : k = y
                            · rw [if_pos hky]
                              exact (decide_eq_true ⟨(HMEM.out k).2 (.inr hky), by rw [hky]; exact HYM.out⟩).symm
                            · rw [if_neg hky, HSN.out k hk]
                              exact decide_eq_decide.2 ⟨fun h => ⟨(HMEM.out k).2 (.inl h.1), h.2⟩, fun h => ⟨((HMEM.out k).1 h.1).resolve_right hky, h.2⟩⟩
                        case measure => simp [intOf]; omega
                    · have e1 : ((ky : Int) == (ka : Int)) = false := by simp; omega
                      have HYM : Hid (y % n ≠ a % n) := Lib.hid (by rw [← HKY.out, ← HKA.out]; exact hym)
                      rw [if_neg (fun h => HYM.out h.1)] at hcnt
                      have HCNT := Lib.hid hcnt
                      clear hym hsy hcnt
                      go_upto_region 26 with fail
                      go_quiet (fail)
                      have HBQ : Hid (Below wr.heap.size wr (wr.drewN nq)) := Lib.hid (drewN_below (Below.refl _ _) _)
                      go_wp2_with fail
                      go_roundw
                      case rel =>
                        refine ⟨sn, HS.out.below HBQ.out, HV.out.below HBQ.out, HBW.out.trans (HBQ.out.mono HBW.out.size), .inl ⟨t, by omega, by go_num, rfl, by rw [HCNT.out], HNA2.out, fun k hk => ?_⟩⟩
                        rw [HSN.out k hk]
                        refine decide_eq_decide.2 ⟨fun h => ⟨(HMEM.out k).2 (.inl h.1), h.2⟩, fun h => ⟨?_, h.2⟩⟩
                        rcases (HMEM.out k).1 h.1 with h1 | h1
                        · exact h1
                        · exact absurd (h1 ▸ h.2) HYM.out
                      case measure => simp [intOf]; omega
              · have HQE := Lib.hid hqe
                have HNA := Lib.hid hna
                clear hqe hna
                have hcl : cntS n a p' ≤ 100 := by
                  have h1 := cntS_le n a p'
                  have h2 := congrArg List.length HQE.out
                  rw [List.length_reverse, HZ.out, List.length_append] at h2
                  omega
                obtain ⟨u, hu⟩ : ∃ u, u = cntS n a p' := ⟨_, rfl⟩
                rw [← hu] at hcl ⊢
                have HSC : Hid (hasC C a = decide (u < m)) := Lib.hid (by
                  rw [HLS.out.has a, HQE.out, hu]
                  exact decide_eq_decide.2 (scan_found n m a p' r' HNA.out))
                clear hu HQE HNA
                by_cases hz0 : 0 ≤ z
                · have hzI : decide (0 ≤ z) = true := decide_eq_true hz0
                  by_cases hum : u < m
                  · have HHAS : Hid (hasC C a = true) := Lib.hid (by rw [HSC.out]; exact decide_eq_true hum)
                    have humI : decide ((u : Int) < (m : Int)) = true := decide_eq_true (by omega)
                    have humN : decide (u < m) = true := decide_eq_true hum
                    clear HSC hum
                    obtain ⟨p1, n1, c1, xs1, hk1, hcc1, hoff1⟩ := HV.out
                    have kc1 := hk1.c
                    have hlook := look_any (fun R => R = b ∨ R = bs) _ C a wr ⟨_, _, _, _, rfl, hcc1, hoff1⟩
                    rw [HHAS.out] at hlook
                    have HLOOK := Lib.hid hlook
                    clear hk1 hcc1 hoff1 hlook
                    go_wp2_with fail
                    refine HLOOK.out.mono ?_
                    clear HLOOK kc1
                    rintro e w6 ⟨rfl, hb6⟩
                    have HV6 := Lib.hid ((HV.out.below hb6).later (S' := fun R => R = b) (fun R hR => .inl (.inl hR)))
                    have HB6 : Hid (Below w.heap.size w w6) := Lib.hid (HBW.out.trans (hb6.mono HBW.out.size))
                    clear hb6 HV HBW HS
                    go_upto_region 30 with fail
                    have HA6 : Hid (Below w6.heap.size w6 (w6.alloc (.cells #[.int .i64 (lookC C a).addr, .int .i64 (lookC C a).state, .int .u32 (lookC C a).val, .int .i64 (lookC C a).used] 30))) := Lib.hid ((Below.refl _ _).alloc (Nat.le_refl _) _)
                    have HV7 := Lib.hid (HV6.out.below HA6.out)
                    have HB7 : Hid (Below w.heap.size w (w6.alloc (.cells #[.int .i64 (lookC C a).addr, .int .i64 (lookC C a).state, .int .u32 (lookC C a).val, .int .i64 (lookC C a).used] 30))) := Lib.hid (HB6.out.trans (HA6.out.mono HB6.out.size))
                    clear HV6 HB6 HA6
                    go_wp2_with fail
                    go_roundw
                    case rel => exact ⟨a + 1, by omega, by go_num, HV7.out, HB7.out⟩
                    case measure => simp [intOf]; omega
                  · have HHAS : Hid (hasC C a = false) := Lib.hid (by rw [HSC.out]; exact decide_eq_false hum)
                    have humI : decide ((u : Int) < (m : Int)) = false := decide_eq_false (by omega)
                    have humN : decide (u < m) = false := decide_eq_false hum
                    clear HSC hum
                    obtain ⟨p1, n1, c1, xs1, hk1, hcc1, hoff1⟩ := HV.out
                    have kc1 := hk1.c
                    have hlook := look_any (fun R => R = b ∨ R = bs) _ C a wr ⟨_, _, _, _, rfl, hcc1, hoff1⟩
                    rw [HHAS.out] at hlook
                    have HLOOK := Lib.hid hlook
                    clear hk1 hcc1 hoff1 hlook
                    go_wp2_with fail
                    refine HLOOK.out.mono ?_
                    clear HLOOK kc1
                    rintro e w6 ⟨rfl, hb6⟩
                    have HV6 := Lib.hid ((HV.out.below hb6).later (S' := fun R => R = b) (fun R hR => .inl (.inl hR)))
                    have HB6 : Hid (Below w.heap.size w w6) := Lib.hid (HBW.out.trans (hb6.mono HBW.out.size))
                    clear hb6 HV HBW HS
                    go_upto_region 30 with fail
                    have HA6 : Hid (Below w6.heap.size w6 (w6.alloc (.cells #[.int .i64 (lookC C a).addr, .int .i64 (lookC C a).state, .int .u32 (lookC C a).val, .int .i64 (lookC C a).used] 30))) := Lib.hid ((Below.refl _ _).alloc (Nat.le_refl _) _)
                    have HV7 := Lib.hid (HV6.out.below HA6.out)
                    have HB7 : Hid (Below w.heap.size w (w6.alloc (.cells #[.int .i64 (lookC C a).addr, .int .i64 (lookC C a).state, .int .u32 (lookC C a).val, .int .i64 (lookC C a).used] 30))) := Lib.hid (HB6.out.trans (HA6.out.mono HB6.out.size))
                    clear HV6 HB6 HA6
                    go_wp2_with fail
                    go_roundw
                    case rel => exact ⟨a + 1, by omega, by go_num, HV7.out, HB7.out⟩
                    case measure => simp [intOf]; omega
                · have hzI : decide (0 ≤ z) = false := decide_eq_false hz0
                  by_cases hum : u < m
                  · have HHAS : Hid (hasC C a = true) := Lib.hid (by rw [HSC.out]; exact decide_eq_true hum)
                    have humI : decide ((u : Int) < (m : Int)) = true := decide_eq_true (by omega)
                    have humN : decide (u < m) = true := decide_eq_true hum
                    clear HSC hum
                    obtain ⟨p1, n1, c1, xs1, hk1, hcc1, hoff1⟩ := HV.out
                    have kc1 := hk1.c
                    have hlook := look_any (fun R => R = b ∨ R = bs) _ C a wr ⟨_, _, _, _, rfl, hcc1, hoff1⟩
                    rw [HHAS.out] at hlook
                    have HLOOK := Lib.hid hlook
                    clear hk1 hcc1 hoff1 hlook
                    go_wp2_with fail
                    refine HLOOK.out.mono ?_
                    clear HLOOK kc1
                    rintro e w6 ⟨rfl, hb6⟩
                    have HV6 := Lib.hid ((HV.out.below hb6).later (S' := fun R => R = b) (fun R hR => .inl (.inl hR)))
                    have HB6 : Hid (Below w.heap.size w w6) := Lib.hid (HBW.out.trans (hb6.mono HBW.out.size))
                    clear hb6 HV HBW HS
                    go_upto_region 30 with fail
                    have HA6 : Hid (Below w6.heap.size w6 (w6.alloc (.cells #[.int .i64 (lookC C a).addr, .int .i64 (lookC C a).state, .int .u32 (lookC C a).val, .int .i64 (lookC C a).used] 30))) := Lib.hid ((Below.refl _ _).alloc (Nat.le_refl _) _)
                    have HV7 := Lib.hid (HV6.out.below HA6.out)
                    have HB7 : Hid (Below w.heap.size w (w6.alloc (.cells #[.int .i64 (lookC C a).addr, .int .i64 (lookC C a).state, .int .u32 (lookC C a).val, .int .i64 (lookC C a).used] 30))) := Lib.hid (HB6.out.trans (HA6.out.mono HB6.out.size))
                    clear HV6 HB6 HA6
                    go_wp2_with fail
                    go_roundw
                    case rel => exact ⟨a + 1, by omega, by go_num, HV7.out, HB7.out⟩
                    case measure => simp [intOf]; omega
                  · have HHAS : Hid (hasC C a = false) := Lib.hid (by rw [HSC.out]; exact decide_eq_false hum)
                    have humI : decide ((u : Int) < (m : Int)) = false := decide_eq_false (by omega)
                    have humN : decide (u < m) = false := decide_eq_false hum
                    clear HSC hum
                    obtain ⟨p1, n1, c1, xs1, hk1, hcc1, hoff1⟩ := HV.out
                    have kc1 := hk1.c
                    have hlook := look_any (fun R => R = b ∨ R = bs) _ C a wr ⟨_, _, _, _, rfl, hcc1, hoff1⟩
                    rw [HHAS.out] at hlook
                    have HLOOK := Lib.hid hlook
                    clear hk1 hcc1 hoff1 hlook
                    go_wp2_with fail
                    refine HLOOK.out.mono ?_
                    clear HLOOK kc1
                    rintro e w6 ⟨rfl, hb6⟩
                    have HV6 := Lib.hid ((HV.out.below hb6).later (S' := fun R => R = b) (fun R hR => .inl (.inl hR)))
                    have HB6 : Hid (Below w.heap.size w w6) := Lib.hid (HBW.out.trans (hb6.mono HBW.out.size))
                    clear hb6 HV HBW HS
                    go_upto_region 30 with fail
                    have HA6 : Hid (Below w6.heap.size w6 (w6.alloc (.cells #[.int .i64 (lookC C a).addr, .int .i64 (lookC C a).state, .int .u32 (lookC C a).val, .int .i64 (lookC C a).used] 30))) := Lib.hid ((Below.refl _ _).alloc (Nat.le_refl _) _)
                    have HV7 := Lib.hid (HV6.out.below HA6.out)
                    have HB7 : Hid (Below w.heap.size w (w6.alloc (.cells #[.int .i64 (lookC C a).addr, .int .i64 (lookC C a).state, .int .u32 (lookC C a).val, .int .i64 (lookC C a).used] 30))) := Lib.hid (HB6.out.trans (HA6.out.mono HB6.out.size))
                    clear HV6 HB6 HA6
                    go_wp2_with fail
                    go_roundw
                    case rel => exact ⟨a + 1, by omega, by go_num, HV7.out, HB7.out⟩
                    case measure => simp [intOf]; omega
          · have hltI : decide ((a : Int) < 256) = false := decide_eq_false (by omega)
            go_wp2_with fail
            go_ret
            exact ⟨rfl, HBW.out⟩
end Go.Proofs.Ytoddmgaihggkjaa
