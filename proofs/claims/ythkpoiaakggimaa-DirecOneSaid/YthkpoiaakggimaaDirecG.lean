/- Two lists of numbers that read alike; the statements' fixed answer, awake; no condition. -/
import Derived.Test.YthkpoiaakggimaaDirecF
namespace Go.Proofs.Ythkpoiaakggimaa
set_option linter.unusedVariables false
open Go.ChangeShapes Go.WideShapes Go.ChangeAt Go.RowKit

theorem sl_int {w : World} {p : Option Addr} {T : List Nat} (h : Sl w p T.length (inC T)) (k : Nat) (hk : k < T.length) : ∃ b off, p = some ⟨b, off, none⟩ ∧ b < w.heap.size ∧ w.cell? ⟨b, off + k, none⟩ = some (.int .i64 (T.getD k 0 : Nat)) := by
  obtain ⟨b, off, h1, h2, h3⟩ := h (by omega)
  exact ⟨b, off, h2, h1, by rw [h3 k (by rw [inC_len]; exact hk), inC_at _ k hk]⟩

set_option maxHeartbeats 2000000 in
theorem ints_any (p q : Option Addr) (c d : Nat) (T : List Nat) (w : World) (hp : Sl w p T.length (inC T)) (hq : Sl w q T.length (inC T)) (hm : T.length ≤ 100) :
    Calls Try.prog 12 #[.slice p T.length c, .slice q T.length d] w fun e w' => e = .returned (.bool true) ∧ Below w.heap.size w w' := by
  have HP := Lib.hid (fun k hk => sl_int hp k hk)
  have HQ := Lib.hid (fun k hk => sl_int hq k hk)
  obtain ⟨n, hn⟩ : ∃ n, n = T.length := ⟨_, rfl⟩
  rw [← hn] at hm HP HQ ⊢
  clear hp hq hn
  have eN : ((n : Int) != (n : Int)) = false := by simp
  go_enter Try.func12, Try.ntmps12
  go_wp2_with fail
  go_loopw [5] (fun i wr => ∃ k : Nat, k ≤ n ∧ i = .int .i64 k ∧ Below w.heap.size w wr) (fun i _ => n - (intOf i).toNat)
  case atStart => exact ⟨0, Nat.zero_le _, rfl, Below.refl _ _⟩
  case round =>
    obtain ⟨k, hk, rfl, hb⟩ := hrel
    have HB := Lib.hid hb
    clear hb
    by_cases hlt : k < n
    · obtain ⟨b, off, rfl, hl1, h1⟩ := HP.out k hlt
      obtain ⟨b2, off2, rfl, hl2, h2⟩ := HQ.out k hlt
      have c1 := (HB.out.cell (p := ⟨b, off + k, none⟩) hl1).trans h1
      have c2 := (HB.out.cell (p := ⟨b2, off2 + k, none⟩) hl2).trans h2
      obtain ⟨x, hx⟩ : ∃ x, x = T.getD k 0 := ⟨_, rfl⟩
      rw [← hx] at c1 c2
      have eX : ((x : Int) != (x : Int)) = false := by simp
      have hkI : (k : Int) < (n : Int) := by omega
      clear h1 h2 hx hl1 hl2 eN
      go_upto_region 6 with fail
      go_quiet (fail)
      go_wp2_with fail
      go_roundw
      case rel => exact ⟨k + 1, by omega, by go_num, drewN_below HB.out _⟩
      case measure => simp [intOf]; omega
    · have hkn : k = n := by omega
      subst hkn
      go_wp2_with fail
      go_ret
      exact ⟨rfl, HB.out⟩

theorem var_use {S : Nat → Prop} {s b : Nat} {w0 v : World} {a0 a1 u0 u1 : Value} {E : En} (hk : Blk v b #[a0, a1]) (ho : Eo S v (.agg #[u0, u1]) E) (hb : Below s w0 v) (hs : s ≤ b) (hS : S b) (w3 : World)
    (e : w3 = (v.setCell ⟨b, 0, none⟩ u0).setCell ⟨b, 1, none⟩ u1) : Blk w3 b #[u0, u1] ∧ Eo S w3 (.agg #[u0, u1]) E ∧ Below s w0 w3 := by
  subst e
  exact ⟨set2_same hk _ _, ho.set2 hS _ _, set2_below hb hs _ _⟩

def aw0 : En := ⟨0, [false, false, false]⟩
def aw1 : En := ⟨1, [false, false, false]⟩
def aw2 : En := ⟨1, [false, true, false]⟩
def aw3 : En := ⟨3, [false, false, false]⟩
theorem aw_0 : newC 3 = aw0 ∧ newX 3 = 0 := ⟨rfl, rfl⟩
theorem aw_1 : readC aw0 0 = aw1 ∧ readF aw0 0 = 0 ∧ askX aw0 0 = 0 := ⟨rfl, rfl, rfl⟩
theorem aw_2 : readC aw1 1 = aw2 ∧ readF aw1 1 = 1 ∧ askX aw1 1 = 0 := ⟨rfl, rfl, rfl⟩
theorem aw_3 : writeC aw2 2 = aw3 ∧ readF aw2 2 = 1 ∧ writeT aw2 2 = [1] ∧ askX aw2 2 = 0 := ⟨rfl, rfl, rfl, rfl⟩
theorem aw_4 : aloneE aw1 = true ∧ mayE aw3 3 = true := ⟨rfl, rfl⟩

set_option maxHeartbeats 2000000 in
set_option maxRecDepth 100000 in
theorem awake_any (w : World) : Calls Try.prog 6 #[] w fun e w' => e = .returned (.bool true) ∧ Below w.heap.size w w' := by
  have h0 := new_any 3 w
  rw [aw_0.1, aw_0.2] at h0
  have H0 := Lib.hid h0
  clear h0
  go_enter Try.func6, Try.ntmps6
  go_upto_region 1 with fail
  go_wp2_with fail
  refine H0.out.mono ?_
  clear H0
  rintro e w1 ⟨v, rfl, ⟨p, n, c, rfl, hcc, hoff⟩, hb⟩
  have HB : Hid (Below w.heap.size w w1) := Lib.hid hb
  have HC := Lib.hid hcc
  clear hoff hb hcc
  go_upto_region 2 with fail
  obtain ⟨b, hbe⟩ : ∃ b, b = w1.heap.size := ⟨_, rfl⟩
  obtain ⟨w2, hw2⟩ : ∃ w2, w2 = w1.alloc (.cells #[.int .i64 aw0.owner, .slice p n c] 24) := ⟨_, rfl⟩
  have HK1 : Hid (Blk w2 b #[.int .i64 aw0.owner, .slice p n c]) := Lib.hid (by rw [hw2, hbe]; exact Blk.new _ _ _)
  have HO1 : Hid (Eo (fun R => R = b) w2 (.agg #[.int .i64 aw0.owner, .slice p n c]) aw0) := Lib.hid (by
    have h1 : Eo (fun R => R = b) w1 (.agg #[.int .i64 aw0.owner, .slice p n c]) aw0 := ⟨_, _, _, rfl, HC.out, fun R hR => HC.out.off (by rw [hR, hbe]; exact Nat.le_refl _)⟩
    rw [hw2]; exact h1.below ((Below.refl _ _).alloc (Nat.le_refl _) _))
  have HW1 : Hid (Below w.heap.size w w2) := Lib.hid (by rw [hw2]; exact HB.out.alloc HB.out.size _)
  have HBG : Hid (w.heap.size ≤ b) := Lib.hid (by rw [hbe]; exact HB.out.size)
  rw [← hw2, ← hbe]
  clear hw2 hbe HC HB
  have hq := read_any (fun R => R = b) _ aw0 0 w2 HO1.out (fun R hR => by rw [hR]; exact HK1.out.lt)
  rw [aw_1.1, aw_1.2.1, aw_1.2.2] at hq
  have HQ := Lib.hid hq
  clear hq
  have kc := HK1.out.c
  go_wp2_with fail
  refine HQ.out.mono ?_
  clear HQ kc
  rintro e v2 ⟨v, rfl, ⟨p2, n2, c2, rfl, hcc, hoff⟩, hb⟩
  have HKv := Lib.hid (HK1.out.below hb)
  have HOv : Hid (Eo (fun R => R = b) v2 (.agg #[.int .i64 aw1.owner, .slice p2 n2 c2]) aw1) := Lib.hid ⟨_, _, _, rfl, hcc, hoff⟩
  have HWv : Hid (Below w.heap.size w v2) := Lib.hid (HW1.out.trans (hb.mono HW1.out.size))
  clear hb hcc hoff HK1 HO1 HW1
  have kc := HKv.out.c
  have kf := HKv.out.f
  have kl := HKv.out.lt
  go_upto_region 3 with fail
  obtain ⟨x2, hx2⟩ : ∃ x2, x2 = (v2.setCell ⟨b, 0, none⟩ (.int .i64 aw1.owner)).setCell ⟨b, 1, none⟩ (.slice p2 n2 c2) := ⟨_, rfl⟩
  obtain ⟨h1, h2, h3⟩ := var_use HKv.out HOv.out HWv.out HBG.out rfl x2 hx2
  have HK2 := Lib.hid h1
  have HO2 := Lib.hid h2
  have HW2 := Lib.hid h3
  rw [← hx2]
  clear hx2 h1 h2 h3 kc kf kl HKv HOv HWv
  have hq := alone_any (fun R => R = b) _ aw1 x2 HO2.out
  rw [aw_4.1] at hq
  have HQ := Lib.hid hq
  clear hq
  have kc := HK2.out.c
  go_wp2_with fail
  refine HQ.out.mono ?_
  clear HQ kc
  rintro e v3 ⟨rfl, hb⟩
  have HK3 := Lib.hid (HK2.out.below hb)
  have HO3 := Lib.hid (HO2.out.below hb)
  have HW3 : Hid (Below w.heap.size w v3) := Lib.hid (HW2.out.trans (hb.mono HW2.out.size))
  clear hb HK2 HO2 HW2
  have hq := read_any (fun R => R = b) _ aw1 1 v3 HO3.out (fun R hR => by rw [hR]; exact HK3.out.lt)
  rw [aw_2.1, aw_2.2.1, aw_2.2.2] at hq
  have HQ := Lib.hid hq
  clear hq
  have kc := HK3.out.c
  go_wp2_with fail
  refine HQ.out.mono ?_
  clear HQ kc
  rintro e v4 ⟨v, rfl, ⟨p4, n4, c4, rfl, hcc, hoff⟩, hb⟩
  have HKv := Lib.hid (HK3.out.below hb)
  have HOv : Hid (Eo (fun R => R = b) v4 (.agg #[.int .i64 aw2.owner, .slice p4 n4 c4]) aw2) := Lib.hid ⟨_, _, _, rfl, hcc, hoff⟩
  have HWv : Hid (Below w.heap.size w v4) := Lib.hid (HW3.out.trans (hb.mono HW3.out.size))
  clear hb hcc hoff HK3 HO3 HW3
  have kc := HKv.out.c
  have kf := HKv.out.f
  have kl := HKv.out.lt
  go_upto_region 5 with fail
  obtain ⟨x4, hx4⟩ : ∃ x, x = (v4.setCell ⟨b, 0, none⟩ (.int .i64 aw2.owner)).setCell ⟨b, 1, none⟩ (.slice p4 n4 c4) := ⟨_, rfl⟩
  obtain ⟨h1, h2, h3⟩ := var_use HKv.out HOv.out HWv.out HBG.out rfl x4 hx4
  have HK4 := Lib.hid h1
  have HO4 := Lib.hid h2
  have HW4 := Lib.hid h3
  rw [← hx4]
  clear hx4 h1 h2 h3 kc kf kl HKv HOv HWv
  have hq := write_any (fun R => R = b) _ aw2 2 x4 HO4.out (fun R hR => by rw [hR]; exact HK4.out.lt)
  rw [aw_3.1, aw_3.2.1, aw_3.2.2.1, aw_3.2.2.2] at hq
  have HQ := Lib.hid hq
  clear hq
  have kc := HK4.out.c
  go_wp2_with fail
  refine HQ.out.mono ?_
  clear HQ kc
  rintro e v5 ⟨v, q, d, rfl, ⟨p5, n5, c5, rfl, hcc, hoff⟩, hsq, hoq, -, hb⟩
  have HKv := Lib.hid (HK4.out.below hb)
  have HOv : Hid (Eo (fun R => R = b) v5 (.agg #[.int .i64 aw3.owner, .slice p5 n5 c5]) aw3) := Lib.hid ⟨_, _, _, rfl, hcc, hoff⟩
  have HWv : Hid (Below w.heap.size w v5) := Lib.hid (HW4.out.trans (hb.mono HW4.out.size))
  have HQS : Hid (∀ j u, Sl (v5.setCell ⟨b, j, none⟩ u) q 1 (inC [1])) := Lib.hid (fun j u => hsq.set (hoq b rfl) j u)
  have HQ2 : Hid (Sl ((v5.setCell ⟨b, 0, none⟩ (.int .i64 aw3.owner)).setCell ⟨b, 1, none⟩ (.slice p5 n5 c5)) q 1 (inC [1])) := Lib.hid ((hsq.set (hoq b rfl) 0 _).set (hoq b rfl) 1 _)
  clear hb hcc hoff HK4 HO4 HW4 hsq hoq HQS
  have kc := HKv.out.c
  have kf := HKv.out.f
  have kl := HKv.out.lt
  go_upto_region 6 with fail
  obtain ⟨x5, hx5⟩ : ∃ x, x = (v5.setCell ⟨b, 0, none⟩ (.int .i64 aw3.owner)).setCell ⟨b, 1, none⟩ (.slice p5 n5 c5) := ⟨_, rfl⟩
  obtain ⟨h1, h2, h3⟩ := var_use HKv.out HOv.out HWv.out HBG.out rfl x5 hx5
  have HK5 := Lib.hid h1
  have HO5 := Lib.hid h2
  have HW5 := Lib.hid h3
  rw [← hx5] at HQ2 ⊢
  clear hx5 h1 h2 h3 kc kf kl HKv HOv HWv
  have HBA : Hid (Below x5.heap.size x5 (x5.alloc (.cells #[.int .i64 1] 3))) := Lib.hid ((Below.refl _ _).alloc (Nat.le_refl _) _)
  have HNW : Hid (Blk (x5.alloc (.cells #[.int .i64 1] 3)) x5.heap.size [Value.int .i64 1].toArray) := Lib.hid (Blk.new _ _ _)
  have hi := ints_any q (some ⟨x5.heap.size, 0, none⟩) d 1 [1] (x5.alloc (.cells #[.int .i64 1] 3)) (HQ2.out.below HBA.out) (blk_sl HNW.out) (by decide)
  have HI := Lib.hid hi
  have hm := fun W hW => may_any (fun R => R = b) _ aw3 3 W (HO5.out.below (w := x5) (w' := W) hW)
  rw [aw_4.2] at hm
  have HM := Lib.hid hm
  clear hi hm HQ2 HNW
  have kc := HK5.out.c
  go_wp2_with fail
  refine HI.out.mono ?_
  clear HI kc
  rintro e v6 ⟨rfl, hb⟩
  have HB6 : Hid (Below x5.heap.size x5 v6) := Lib.hid (HBA.out.trans (hb.mono HBA.out.size))
  have HK6 := Lib.hid (HK5.out.below HB6.out)
  have HW6 : Hid (Below w.heap.size w v6) := Lib.hid (HW5.out.trans (HB6.out.mono HW5.out.size))
  clear hb HBA HK5 HW5 HO5
  have kc := HK6.out.c
  go_wp2_with fail
  refine (HM.out _ HB6.out).mono ?_
  rintro e v7 ⟨rfl, hb⟩
  have HW7 : Hid (Below w.heap.size w v7) := Lib.hid (HW6.out.trans (hb.mono HW6.out.size))
  clear hb
  go_wp2_with fail
  go_ret
  exact ⟨rfl, HW7.out⟩
end Go.Proofs.Ythkpoiaakggimaa
