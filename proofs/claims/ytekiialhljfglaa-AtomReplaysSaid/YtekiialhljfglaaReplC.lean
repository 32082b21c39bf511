/- For all programs, any number of words and any picks the statement AtomReplays answers true and leaves its arguments as they were; no condition. -/
import Derived.Test.YtekiialhljfglaaZl
import Derived.WalkKit
import Derived.ProofKit
import Derived.OpenShut
import Derived.ShutString
import Derived.ChangeOld
import Derived.Below
/- AtomRuns: a run of any picks is the document's, step by step: the walk of the statement's function. -/
namespace Go.Proofs.Ytekiialhljfglaa
set_option linter.unusedVariables false
open Go.ChangeShapes Go.WideShapes Go.ChangeAt Go.RowKit

/-- A machine's three lists, as they are handed about. -/
theorem Mach.form {w : World} {v : Value} {a : Atm} (h : Mach w v a) : ∃ pm cm pc cc po co, v = .agg #[.slice pm a.mem.length cm, .slice pc a.cores.length cc, .slice po a.outs.length co] := by
  obtain ⟨pm, cm, pc, cc, po, co, e, _⟩ := h
  exact ⟨pm, cm, pc, cc, po, co, e⟩

set_option maxHeartbeats 1000000 in
theorem runs_out (p pp : Option Addr) (np cap len pcap : Nat) (words : Int) (P : List (List I5)) (w : World) (hl : P.length = np) (hp : Prgs w p P) (h : shortB P = false ∨ 300 < len) :
    Calls Try.prog 4 #[.slice p np cap, .int .i64 words, .slice pp len pcap] w fun e w' => e = .returned (.bool true) ∧ Below w.heap.size w w' := by
  have HL := Lib.hid hl
  have HP := Lib.hid hp
  have H := Lib.hid h
  clear hl hp h
  cases hs : shortB P with
  | false =>
    have HS := Lib.hid hs
    clear hs
    go_enter Try.func4, Try.ntmps4
    go_wp2_with fail
    refine (awake_any _).mono ?_
    rintro e w1 ⟨rfl, hb1⟩
    have HB1 := Lib.hid hb1
    clear hb1
    go_wp2_with fail
    have hsh := short_any p cap P w1 (HP.out.below HB1.out)
    rw [HL.out, HS.out] at hsh
    refine hsh.mono ?_
    clear hsh
    rintro e w2 ⟨rfl, rfl⟩
    go_wp2
    go_ret
    exact ⟨rfl, HB1.out⟩
  | true =>
    have d1 : decide (300 < (len : Int)) = true := decide_eq_true (by
      rcases H.out with h | h
      · rw [hs] at h; cases h
      · omega)
    have HS := Lib.hid hs
    clear hs
    go_enter Try.func4, Try.ntmps4
    go_wp2_with fail
    refine (awake_any _).mono ?_
    rintro e w1 ⟨rfl, hb1⟩
    have HB1 := Lib.hid hb1
    clear hb1
    go_wp2_with fail
    have hsh := short_any p cap P w1 (HP.out.below HB1.out)
    rw [HL.out, HS.out] at hsh
    refine hsh.mono ?_
    clear hsh
    rintro e w2 ⟨rfl, rfl⟩
    go_wp2
    go_ret
    exact ⟨rfl, HB1.out⟩

set_option maxHeartbeats 1000000 in
theorem runs_no (p pp : Option Addr) (np cap len pcap : Nat) (words : Int) (P : List (List I5)) (w : World) (hl : P.length = np) (hp : Prgs w p P) (hs : shortB P = true) (hlen : len ≤ 300) (h : newOk P words = false) :
    Calls Try.prog 4 #[.slice p np cap, .int .i64 words, .slice pp len pcap] w fun e w' => e = .returned (.bool true) ∧ Below w.heap.size w w' := by
  have HL := Lib.hid hl
  have HP := Lib.hid hp
  have HN := Lib.hid h
  have HS := Lib.hid hs
  have d1 : decide (300 < (len : Int)) = false := decide_eq_false (by omega)
  clear hl hp h hs
  go_enter Try.func4, Try.ntmps4
  go_wp2_with fail
  refine (awake_any _).mono ?_
  rintro e w1 ⟨rfl, hb1⟩
  have HB1 := Lib.hid hb1
  clear hb1
  go_wp2_with fail
  have hsh := short_any p cap P w1 (HP.out.below HB1.out)
  rw [HL.out, HS.out] at hsh
  refine hsh.mono ?_
  clear hsh
  rintro e w2 ⟨rfl, rfl⟩
  go_wp2_with fail
  refine (run_no p pp np cap len pcap words P _ HL.out (HP.out.below HB1.out) HN.out).mono ?_
  rintro e w3 ⟨rfl, hb3⟩
  have HB3 : Hid (Below w.heap.size w w3) := HB1.out.trans (hb3.mono HB1.out.size)
  clear hb3
  go_wp2_with fail
  have HB4 : Hid (Below w.heap.size w (w3.alloc (.cells #[.slice none 0 0, .slice none 0 0, .slice none 0 0] 27))) := HB3.out.alloc HB3.out.size _
  refine (newR_no p np cap words P _ HL.out (short_few HS.out) (HP.out.below HB4.out) (newOk_not HN.out)).mono ?_
  rintro e w5 ⟨rfl, hb5⟩
  have k5 : Hid (Blk w5 w3.heap.size #[.slice none 0 0, .slice none 0 0, .slice none 0 0]) := Blk.track1 hb5
  have HB5 : Hid (Below w.heap.size w w5) := HB4.out.trans (hb5.mono HB4.out.size)
  clear hb5
  have c := k5.out.c
  have lt := k5.out.lt
  go_wp2_with fail
  have HB6 : Hid (Below w.heap.size w (w5.alloc (.cells #[.slice none 0 0, .slice none 0 0, .slice none 0 0] 27))) := HB5.out.alloc HB5.out.size _
  refine (same_any _ _ nilA _ (by decide) (by decide) (by decide) (Mach.nil _) (Mach.nil _)).mono ?_
  rintro e w7 ⟨rfl, hb7⟩
  have HB7 : Hid (Below w.heap.size w w7) := HB6.out.trans (hb7.mono HB6.out.size)
  clear hb7 c lt
  go_wp2
  go_ret
  exact ⟨rfl, HB7.out⟩

theorem OwnM.machR {N : Nat → Prop} {w : World} {base : Nat} {vm vc vo : Value} {a : Atm} (h : OwnM w base vm vc vo a) (hN : ∀ b, base ≤ b → b < w.heap.size → N b) : MachN N w (.agg #[vm, vc, vo]) a := by
  have hr := h.rows
  obtain ⟨pm, cm, e1, h1⟩ := Sl.own h.m
  obtain ⟨pc, cc, e2, h2⟩ := Sl.own h.c
  obtain ⟨po, co, e3, h3⟩ := Sl.own h.o
  subst e1 e2 e3
  refine ⟨pm, cm, pc, cc, po, co, rfl, ⟨h1, h2, h3⟩, fun _ b o e => ?_, fun _ b o e => ?_, fun _ b o e => ?_⟩
  · have := hr b (.inl (by rw [e]; rfl)); exact hN b this.1 this.2
  · have := hr b (.inr (.inl (by rw [e]; rfl))); exact hN b this.1 this.2
  · have := hr b (.inr (.inr (by rw [e]; rfl))); exact hN b this.1 this.2
theorem MachN.form {N : Nat → Prop} {w : World} {v : Value} {a : Atm} (h : MachN N w v a) : ∃ pm lm cm pc lc cc po lo co, v = .agg #[.slice pm lm cm, .slice pc lc cc, .slice po lo co] := by
  obtain ⟨pm, cm, pc, cc, po, co, e, _⟩ := h
  exact ⟨pm, _, cm, pc, _, cc, po, _, co, e⟩
theorem MachN.imp {N M : Nat → Prop} {w : World} {v : Value} {a : Atm} (h : MachN N w v a) (hN : ∀ b, N b → M b) : MachN M w v a := by
  obtain ⟨pm, cm, pc, cc, po, co, e, hs, h1, h2, h3⟩ := h
  exact ⟨pm, cm, pc, cc, po, co, e, hs, fun h0 b o e => hN b (h1 h0 b o e), fun h0 b o e => hN b (h2 h0 b o e), fun h0 b o e => hN b (h3 h0 b o e)⟩
theorem kstepR (N : Nat → Prop) (p : Option Addr) (np cap : Nat) (P : List (List I5)) (u0 u1 u2 : Value) (a : Atm) (n words : Nat) (b i off B k : Nat) (x : Int) (W1 W : World) (hN : Hid (∀ b, W1.heap.size ≤ b → N b)) (hl : Hid (P.length = np)) (hp : Hid (Prgs W1 p P)) (hn : n < np) (hu : Hid (MachN N W1 (.agg #[u0, u1, u2]) a)) (hg : Hid (Good P words k a)) (hk : k ≤ 300) (h64 : words ≤ 64) (h6 : Hid (P.length ≤ 6))
    (h1 : Hid (Blk W1 B #[u0, u1, u2])) (h2 : Hid (W1.cell? ⟨b, off + i, none⟩ = some (.int .i64 x))) (l2 : Hid (b < W1.heap.size)) (hb : Below W1.heap.size W1 W) :
    Calls Try.prog 20 #[.slice p np cap, .agg #[u0, u1, u2], .int .i64 n] W fun e w' => ∃ pm lm cm pc lc cc po lo co, e = .returned (.agg #[.slice pm lm cm, .slice pc lc cc, .slice po lo co]) ∧ ((∀ j, w'.cell? ⟨B, j, none⟩ = (#[u0, u1, u2] : Array Value)[j]?) ∧ w'.cell? ⟨b, off + i, none⟩ = some (.int .i64 x)) ∧ MachN N w' (.agg #[.slice pm lm cm, .slice pc lc cc, .slice po lo co]) (stepA P a n) ∧ Below W1.heap.size W1 w' := by
  have hh := stepR_anyN N p cap P (.agg #[u0, u1, u2]) a n W (fun b hbb => hN.out b (Nat.le_trans hb.size hbb)) (hp.out.below hb) (by rw [hl.out]; exact hn) (hu.out.below hb) hg.out.c hg.out.f (by rw [hg.out.m]; exact h64) h6.out (by have := hg.out.o; omega)
  rw [hl.out] at hh
  refine hh.mono fun e w' ⟨u', e1, hm, hb'⟩ => ?_
  have hb2 := hb.trans (hb'.mono hb.size)
  obtain ⟨pm, lm, cm, pc, lc, cc, po, lo, co, rfl⟩ := hm.form
  exact ⟨_, _, _, _, _, _, _, _, _, e1, ⟨(h1.out.below hb2).c, (hb2.cell (p := ⟨b, off + i, none⟩) l2.out).trans h2.out⟩, hm, hb2⟩

set_option maxHeartbeats 2000000 in
theorem runs_main (p pp : Option Addr) (np cap len pcap words : Nat) (P : List (List I5)) (l : List Int) (w : World) (hl : P.length = np) (hp : Prgs w p P) (hs : shortB P = true) (hlen : len ≤ 300) (h : newOk P words = true) (hll : l.length = len) (hpp : Sl w pp len (intC l)) :
    Calls Try.prog 4 #[.slice p np cap, .int .i64 words, .slice pp len pcap] w fun e w' => e = .returned (.bool true) ∧ Below w.heap.size w w' := by
  have HL := Lib.hid hl
  have HP := Lib.hid hp
  have HN := Lib.hid h
  have HS := Lib.hid hs
  have HLL := Lib.hid hll
  have HPP := Lib.hid hpp
  have HPF := Lib.hid (prgs_fits hp)
  have d1 : decide (300 < (len : Int)) = false := decide_eq_false (by omega)
  have hno := newOk_has h
  have hw1 : 1 ≤ words := by omega
  have hw2 : words ≤ 64 := by omega
  have HA := Lib.hid hno.2.2
  have hal := all_len hno.2.2
  rw [hl] at hal
  clear hl hp h hs hll hpp hno
  go_enter Try.func4, Try.ntmps4
  go_wp2_with fail
  refine (awake_any _).mono ?_
  rintro e w1 ⟨rfl, hb1⟩
  have HB1 := Lib.hid hb1
  clear hb1
  go_wp2_with fail
  have hsh := short_any p cap P w1 (HP.out.below HB1.out)
  rw [HL.out, HS.out] at hsh
  refine hsh.mono ?_
  clear hsh
  rintro e w2 ⟨rfl, rfl⟩
  go_wp2_with fail
  refine (run_yes p pp np cap len pcap words P l _ HL.out (HP.out.below HB1.out) HN.out HLL.out (by omega) (HPP.out.below HB1.out)).mono ?_
  rintro e w3 ⟨vm, vc, vo, rfl, hown, hb3⟩
  have HM3 : Hid (MachN (fun b => b < w3.heap.size) w3 (.agg #[vm, vc, vo]) (runA P words l)) := hown.machR (fun b _ h => h)
  have HB3 : Hid (Below w.heap.size w w3) := HB1.out.trans (hb3.mono HB1.out.size)
  obtain ⟨e1, ⟨cm, e2⟩, e3⟩ : True ∧ (∃ x : Nat, True) ∧ True := ⟨trivial, ⟨0, trivial⟩, trivial⟩
  obtain ⟨q1, n1, k1, rfl⟩ := form_of hown.m
  obtain ⟨q2, n2, k2, rfl⟩ := form_of hown.c
  obtain ⟨q3, n3, k3, rfl⟩ := form_of hown.o
  clear hb3 hown e1 e2 e3
  go_wp2_with fail
  have HK4 : Hid (Blk (w3.alloc (.cells #[.slice q1 n1 k1, .slice q2 n2 k2, .slice q3 n3 k3] 27)) w3.heap.size #[.slice q1 n1 k1, .slice q2 n2 k2, .slice q3 n3 k3]) := Blk.new w3 _ 27
  have HB4 : Hid (Below w.heap.size w (w3.alloc (.cells #[.slice q1 n1 k1, .slice q2 n2 k2, .slice q3 n3 k3] 27))) := HB3.out.alloc HB3.out.size _
  have HM4 : Hid (MachN (fun b => b < w3.heap.size) (w3.alloc (.cells #[.slice q1 n1 k1, .slice q2 n2 k2, .slice q3 n3 k3] 27)) (.agg #[.slice q1 n1 k1, .slice q2 n2 k2, .slice q3 n3 k3]) (runA P words l)) := HM3.out.below ((Below.refl _ _).alloc (Nat.le_refl _) _)
  refine (newR_yes p np cap words P _ HL.out (HP.out.below HB4.out) hw1 hw2 HA.out hal.2).mono ?_
  rintro e w5 ⟨um, uc, uo, rfl, hown, hb5⟩
  have HU5 : Hid (MachN (fun b => b < w5.heap.size) w5 (.agg #[um, uc, uo]) (newA np words)) := hown.machR (fun b _ h => h)
  have HB5 : Hid (Below w.heap.size w w5) := HB4.out.trans (hb5.mono HB4.out.size)
  have HK5 := Lib.hid (HK4.out.below hb5)
  have HM5 := Lib.hid (HM4.out.below hb5)
  obtain ⟨r1, m1, j1, rfl⟩ := form_of hown.m
  obtain ⟨r2, m2, j2, rfl⟩ := form_of hown.c
  obtain ⟨r3, m3, j3, rfl⟩ := form_of hown.o
  clear hb5 hown HK4 HB4 HM4 HM3 HB3
  go_wp2_with fail
  have HNE : Hid (w3.heap.size < w5.heap.size) := HK5.out.lt
  have HQ6 : Hid (MachN (fun b => b ≠ w5.heap.size) (w5.alloc (.cells #[.slice r1 m1 j1, .slice r2 m2 j2, .slice r3 m3 j3] 27)) (.agg #[.slice q1 n1 k1, .slice q2 n2 k2, .slice q3 n3 k3]) (runA P words l)) := (HM5.out.imp (fun b h => by have := HNE.out; omega)).below ((Below.refl _ _).alloc (Nat.le_refl _) _)
  have HU6 : Hid (MachN (fun b => b ≠ w5.heap.size) (w5.alloc (.cells #[.slice r1 m1 j1, .slice r2 m2 j2, .slice r3 m3 j3] 27)) (.agg #[.slice r1 m1 j1, .slice r2 m2 j2, .slice r3 m3 j3]) (runA P words (l.take 0))) := by
    have e : runA P words (l.take 0) = newA np words := by rw [List.take_zero, ← HL.out]; rfl
    rw [e]
    exact (HU5.out.imp (fun b h => by omega)).below ((Below.refl _ _).alloc (Nat.le_refl _) _)
  have HK6 : Hid (Blk (w5.alloc (.cells #[.slice r1 m1 j1, .slice r2 m2 j2, .slice r3 m3 j3] 27)) w3.heap.size #[.slice q1 n1 k1, .slice q2 n2 k2, .slice q3 n3 k3]) := HK5.out.alloc _
  have HZ6 : Hid (Blk (w5.alloc (.cells #[.slice r1 m1 j1, .slice r2 m2 j2, .slice r3 m3 j3] 27)) w5.heap.size #[.slice r1 m1 j1, .slice r2 m2 j2, .slice r3 m3 j3]) := Blk.new w5 _ 27
  have HB6 : Hid (Below w.heap.size w (w5.alloc (.cells #[.slice r1 m1 j1, .slice r2 m2 j2, .slice r3 m3 j3] 27))) := HB5.out.alloc HB5.out.size _
  go_loopw [11] (fun i wr => ∃ k : Nat, k ≤ len ∧ i = .int .i64 k ∧ ∃ r1 m1 j1 r2 m2 j2 r3 m3 j3, Blk wr w5.heap.size #[.slice r1 m1 j1, .slice r2 m2 j2, .slice r3 m3 j3] ∧ Blk wr w3.heap.size #[.slice q1 n1 k1, .slice q2 n2 k2, .slice q3 n3 k3] ∧ MachN (fun b => b ≠ w5.heap.size) wr (.agg #[.slice r1 m1 j1, .slice r2 m2 j2, .slice r3 m3 j3]) (runA P words (l.take k)) ∧ MachN (fun b => b ≠ w5.heap.size) wr (.agg #[.slice q1 n1 k1, .slice q2 n2 k2, .slice q3 n3 k3]) (runA P words l) ∧ Below w.heap.size w wr) (fun i _ => len - (intOf i).toNat)
  case atStart => exact ⟨0, Nat.zero_le _, rfl, r1, m1, j1, r2, m2, j2, r3, m3, j3, HZ6.out, HK6.out, HU6.out, HQ6.out, HB6.out⟩
  case round =>
    obtain ⟨i, hi, rfl, r1', m1', j1', r2', m2', j2', r3', m3', j3', hz, hk, hu, hq, hbel⟩ := hrel
    clear HQ6 HU6 HK6 HZ6 HB6
    have HZ := Lib.hid hz
    have HK := Lib.hid hk
    have HU := Lib.hid hu
    have HQ := Lib.hid hq
    have HBE := Lib.hid hbel
    clear hz hk hu hq hbel
    by_cases hlt : i < len
    · obtain ⟨b, off, hb1, rfl, hb3⟩ := HPP.out.below HBE.out (by omega)
      obtain ⟨n, hn⟩ : ∃ n, n = l.getD i 0 := ⟨_, rfl⟩
      have c0 : wr.cell? ⟨b, off + i, none⟩ = some (.int .i64 n) := (hb3 i (by rw [intC_len, HLL.out]; exact hlt)).trans (by rw [hn]; exact intC_at l i (by rw [HLL.out]; exact hlt))
      have HTK : Hid (runA P words (l.take (i + 1)) = pickA P (runA P words (l.take i)) n) := by rw [hn]; exact runA_take (by rw [HLL.out]; exact hlt)
      have HC0 := Lib.hid c0
      have HLB := Lib.hid hb1
      have HGD : Hid (Good P words i (runA P words (l.take i))) := runA_good HPF.out l i (by rw [HLL.out]; omega)
      clear hn hb3 hb1
      by_cases h0 : 0 ≤ n
      · have e0 : decide (0 ≤ n) = true := decide_eq_true h0
        obtain ⟨m, rfl⟩ := Int.eq_ofNat_of_zero_le h0
        by_cases h1 : m < np
        · have e1 : decide ((m : Int) < (np : Int)) = true := decide_eq_true (by omega)
          have i0 : (0 : Int) ≤ (i : Int) := by omega
          have i1 : (i : Int) < (len : Int) := by omega
          go_upto_region 13 with fail
          refine region_plan (fun w' : World => (∀ j, w'.cell? ⟨w5.heap.size, j, none⟩ = (#[.slice r1' m1' j1', .slice r2' m2' j2', .slice r3' m3' j3'] : Array Value)[j]?) ∧ w'.cell? ⟨b, off + i, none⟩ = some (.int .i64 m)) 7 [(0, true), (1, true), (2, true), (3, true), (4, true), (5, true), (6, false)] (by kernel_rfl) (by kernel_rfl) ⟨HZ.out.c, HC0.out⟩ ?_
          iterate 6
            refine plan_read (v := ?_) rfl (by rfl) ?_ ?_
            rotate_left
            · intro w' hS
              try dsimp only at hS
              go_simp
              try with_reducible rfl
            try simp only [Act.put, List.setIfInBounds_toArray, List.set_cons_zero, List.set_cons_succ, List.getElem_toArray, List.getElem_cons_zero, List.getElem_cons_succ]
          refine plan_call (F := 20) (args := ?_) rfl (by rfl) ?_ ?_
          rotate_left
          · go_simp
            rfl
          have HLR : Hid (b < wr.heap.size) := HLB.out
          refine (kstepR (fun b => b ≠ w5.heap.size) p np cap P _ _ _ (runA P words (l.take i)) m words b i off w5.heap.size i m wr wr.drew (fun b hb => by have := HZ.out.lt; omega) HL (HP.out.below HBE.out) h1 HU HGD (by omega) hw2 (short_few HS.out) HZ HC0 HLR (Below.refl _ _).drew).mono ?_
          rintro e w6 ⟨pm, lm, cm, pc, lc, cc, po, lo, co, rfl, s6, hu6, hb6⟩
          refine ⟨_, rfl, s6, ?_⟩
          refine plan_nil ?_
          try simp only [Act.put, List.setIfInBounds_toArray, List.set_cons_zero, List.set_cons_succ, List.getElem_toArray, List.getElem_cons_zero, List.getElem_cons_succ]
          simp only [List.drop_succ_cons, List.drop_zero]
          have HZ7 := Lib.hid (HZ.out.below hb6)
          have HK7 := Lib.hid (HK.out.below hb6)
          have HQ7 := Lib.hid (HQ.out.below hb6)
          have HU7 := Lib.hid hu6
          have HB7 : Hid (Below w.heap.size w w6) := HBE.out.trans (hb6.mono HBE.out.size)
          clear s6 hu6 hb6 c0
          have cZ := HZ7.out.c
          have fZ := HZ7.out.f
          have lZ := HZ7.out.lt
          go_wp2
          go_roundw
          case rel =>
            have nN : ¬ (fun b => b ≠ w5.heap.size) w5.heap.size := fun h => h rfl
            refine ⟨i + 1, by omega, by go_num, pm, lm, cm, pc, lc, cc, po, lo, co, store3 HZ7.out, HK7.out.other3 (by have := HNE.out; omega) _ _ _, ?_, ((HQ7.out.set nN _ _).set nN _ _).set nN _ _, below_set3 HB7.out HB5.out.size _ _ _⟩
            rw [HTK.out, pick_in (by rw [HGD.out.c, HL.out]; exact h1)]
            exact ((HU7.out.set nN _ _).set nN _ _).set nN _ _
          case measure => simp [intOf]; omega
        · have e1 : decide ((m : Int) < (np : Int)) = false := decide_eq_false (by omega)
          go_wp2
          go_roundw
          case rel =>
            refine ⟨i + 1, by omega, by go_num, r1', m1', j1', r2', m2', j2', r3', m3', j3', HZ.out, HK.out, ?_, HQ.out, HBE.out⟩
            rw [HTK.out, pick_out (by rw [HGD.out.c, HL.out]; omega)]
            exact HU.out
          case measure => simp [intOf]; omega
      · have e0 : decide (0 ≤ n) = false := decide_eq_false h0
        go_wp2
        go_roundw
        case rel =>
          refine ⟨i + 1, by omega, by go_num, r1', m1', j1', r2', m2', j2', r3', m3', j3', HZ.out, HK.out, ?_, HQ.out, HBE.out⟩
          rw [HTK.out, pick_out (by omega)]
          exact HU.out
        case measure => simp [intOf]; omega
    · have e : l.take i = l := List.take_of_length_le (by rw [HLL.out]; omega)
      have HUU : Hid (MachN (fun b => b ≠ w5.heap.size) wr (.agg #[.slice r1' m1' j1', .slice r2' m2' j2', .slice r3' m3' j3']) (runA P words l)) := by have h := HU.out; rw [e] at h; exact h
      have HG := Lib.hid (runA_good_all (words := words) HPF.out l)
      have HR := Lib.hid (runA_right_all HPF.out hw1 hw2 HA.out l)
      clear e
      have cZ := HZ.out.c
      have cK := HK.out.c
      go_wp2_with fail
      refine (same_any _ _ (runA P words l) wr (by rw [HG.out.m]; unfold maxLen; omega) (by rw [HG.out.c, HL.out]; unfold maxLen; omega) (by have := HG.out.o; rw [HLL.out] at this; unfold maxLen; omega) HQ.out.mach HUU.out.mach).mono ?_
      rintro e w6 ⟨rfl, hb6⟩
      have HK7 := Lib.hid (HK.out.below hb6)
      have HQ7 := Lib.hid (HQ.out.below hb6)
      have HB7 : Hid (Below w.heap.size w w6) := HBE.out.trans (hb6.mono HBE.out.size)
      clear hb6 cZ cK
      have cK := HK7.out.c
      go_wp2_with fail
      have hr := right_any4 p cap P (.agg #[.slice q1 n1 k1, .slice q2 n2 k2, .slice q3 n3 k3]) (runA P words l) w6 (HP.out.below HB7.out) HQ7.out.mach
      rw [HL.out, HR.out] at hr
      refine hr.mono ?_
      clear hr
      rintro e w8 ⟨rfl, hb8⟩
      have HB8 : Hid (Below w.heap.size w w8) := HB7.out.trans (hb8.mono HB7.out.size)
      clear hb8 cK
      go_wp2
      go_ret
      exact ⟨rfl, HB8.out⟩

theorem runs_walk (p pp : Option Addr) (cap pcap : Nat) (words : Int) (P : List (List I5)) (l : List Int) (w : World) (hp : Prgs w p P) (hpp : Sl w pp l.length (intC l)) :
    Calls Try.prog 4 #[.slice p P.length cap, .int .i64 words, .slice pp l.length pcap] w fun e w' => e = .returned (.bool true) ∧ Below w.heap.size w w' := by
  by_cases h : shortB P = false ∨ 300 < l.length
  · exact runs_out p pp _ cap _ pcap words P w rfl hp h
  · have hs : shortB P = true := by
      cases hh : shortB P with
      | true => rfl
      | false => exact (h (.inl hh)).elim
    have hl : l.length ≤ 300 := by omega
    cases hn : newOk P words with
    | false => exact runs_no p pp _ cap _ pcap words P w rfl hp hs hl hn
    | true =>
      have := newOk_has hn
      obtain ⟨k, rfl⟩ := Int.eq_ofNat_of_zero_le (show 0 ≤ words by omega)
      exact runs_main p pp _ cap _ pcap k P l w rfl hp hs hl hn rfl hpp
end Go.Proofs.Ytekiialhljfglaa
/- AtomRight: the walk of the statement's function. -/
namespace Go.Proofs.Ytekiialhljfglaa
set_option linter.unusedVariables false
open Go.ChangeShapes Go.WideShapes Go.ChangeAt Go.RowKit

def newRes (P : List (List I5)) (words : Int) : Atm := if newOk P words then newA P.length words.toNat else nilA
def newErr (P : List (List I5)) (words : Int) : Int := if newOk P words then 0 else 1
theorem newRes_small (P : List (List I5)) (words : Int) (h6 : P.length ≤ 6) : (newRes P words).mem.length ≤ maxLen ∧ (newRes P words).cores.length ≤ maxLen ∧ (newRes P words).outs.length ≤ maxLen := by
  unfold newRes
  cases h : newOk P words with
  | false =>
    rw [if_neg (by simp)]
    exact ⟨by decide, by decide, by decide⟩
  | true =>
    have hn := newOk_has h
    rw [if_pos rfl, newA_mem, newA_cores]
    exact ⟨by unfold maxLen; omega, by unfold maxLen; omega, by unfold newA maxLen; simp⟩
theorem OwnM.form9 {w : World} {base : Nat} {vm vc vo : Value} {a : Atm} (h : OwnM w base vm vc vo a) : ∃ pm lm cm pc lc cc po lo co, vm = .slice pm lm cm ∧ vc = .slice pc lc cc ∧ vo = .slice po lo co := by
  obtain ⟨pm, lm, cm, e1⟩ := form_of h.m
  obtain ⟨pc, lc, cc, e2⟩ := form_of h.c
  obtain ⟨po, lo, co, e3⟩ := form_of h.o
  exact ⟨pm, lm, cm, pc, lc, cc, po, lo, co, e1, e2, e3⟩
theorem New_res (p : Option Addr) (cap : Nat) (words : Int) (P : List (List I5)) (w : World) (hp : Prgs w p P) :
    Calls Try.prog 14 #[.slice p P.length cap, .int .i64 words] w fun e w' => ∃ pm lm cm pc lc cc po lo co, e = .returned (.tuple #[.agg #[.slice pm lm cm, .slice pc lc cc, .slice po lo co], .int .i64 (newErr P words)]) ∧ Mach w' (.agg #[.slice pm lm cm, .slice pc lc cc, .slice po lo co]) (newRes P words) ∧ Below w.heap.size w w' := by
  cases h : newOk P words with
  | false =>
    refine (new_no p _ cap words P w rfl hp (newOk_not h)).mono fun e w' ⟨he, hb⟩ => ⟨none, 0, 0, none, 0, 0, none, 0, 0, ?_, ?_, hb⟩
    · rw [he]; unfold newErr; rw [h]; rfl
    · unfold newRes; rw [h]; exact Mach.nil _
  | true =>
    have hn := newOk_has h
    obtain ⟨k, rfl⟩ := Int.eq_ofNat_of_zero_le (show 0 ≤ words by omega)
    have hal := all_len hn.2.2
    refine (new_yes p _ cap k P w rfl hp (by omega) (by omega) hn.2.2 hal.2).mono fun e w' ⟨vm, vc, vo, he, ho, hb⟩ => ?_
    obtain ⟨pm, lm, cm, pc, lc, cc, po, lo, co, rfl, rfl, rfl⟩ := ho.form9
    refine ⟨pm, lm, cm, pc, lc, cc, po, lo, co, ?_, ?_, hb⟩
    · rw [he]; unfold newErr; rw [h]; rfl
    · unfold newRes; rw [h]; exact ho.mach
theorem NewR_res (p : Option Addr) (cap : Nat) (words : Int) (P : List (List I5)) (w : World) (h6 : P.length ≤ 6) (hp : Prgs w p P) :
    Calls Try.prog 15 #[.slice p P.length cap, .int .i64 words] w fun e w' => ∃ pm lm cm pc lc cc po lo co, e = .returned (.tuple #[.agg #[.slice pm lm cm, .slice pc lc cc, .slice po lo co], .int .i64 (newErr P words)]) ∧ Mach w' (.agg #[.slice pm lm cm, .slice pc lc cc, .slice po lo co]) (newRes P words) ∧ Below w.heap.size w w' := by
  cases h : newOk P words with
  | false =>
    refine (newR_no p _ cap words P w rfl h6 hp (newOk_not h)).mono fun e w' ⟨he, hb⟩ => ⟨none, 0, 0, none, 0, 0, none, 0, 0, ?_, ?_, hb⟩
    · rw [he]; unfold newErr; rw [h]; rfl
    · unfold newRes; rw [h]; exact Mach.nil _
  | true =>
    have hn := newOk_has h
    obtain ⟨k, rfl⟩ := Int.eq_ofNat_of_zero_le (show 0 ≤ words by omega)
    have hal := all_len hn.2.2
    refine (newR_yes p _ cap k P w rfl hp (by omega) (by omega) hn.2.2 hal.2).mono fun e w' ⟨vm, vc, vo, he, ho, hb⟩ => ?_
    obtain ⟨pm, lm, cm, pc, lc, cc, po, lo, co, rfl, rfl, rfl⟩ := ho.form9
    refine ⟨pm, lm, cm, pc, lc, cc, po, lo, co, ?_, ?_, hb⟩
    · rw [he]; unfold newErr; rw [h]; rfl
    · unfold newRes; rw [h]; exact ho.mach
theorem Step_res (p : Option Addr) (cap : Nat) (v : Value) (n : Int) (P : List (List I5)) (a : Atm) (w : World) (hp : Prgs w p P) (hv : Mach w v a) (m1 : a.mem.length * 4 ≤ 140737488355328) (m2 : a.cores.length * 48 ≤ 140737488355328) (m3 : (a.outs.length + 1) * 16 ≤ 140737488355328) (hf : rightA P a = true → a.Fits) :
    Calls Try.prog 19 #[.slice p P.length cap, v, .int .i64 n] w fun e w' => ∃ pm lm cm pc lc cc po lo co, e = .returned (.tuple #[.agg #[.slice pm lm cm, .slice pc lc cc, .slice po lo co], .int .i64 (stepErr P a n)]) ∧ OwnM w' w.heap.size (.slice pm lm cm) (.slice pc lc cc) (.slice po lo co) (stepRes P a n) ∧ Below w.heap.size w w' :=
  (Step_any p cap v n P a w hp hv m1 m2 m3 hf).mono fun e w' ⟨vm, vc, vo, he, ho, hb⟩ => by
    obtain ⟨pm, lm, cm, pc, lc, cc, po, lo, co, rfl, rfl, rfl⟩ := ho.form9
    exact ⟨_, _, _, _, _, _, _, _, _, he, ho, hb⟩

set_option maxHeartbeats 1000000 in
theorem right_out (p pm pc po : Option Addr) (np cap lm cm lc cc lo co : Nat) (n words k at_ v o : Int) (P : List (List I5)) (w : World) (hl : P.length = np) (hp : Prgs w p P) (h : shortB P = false ∨ 100 < lm ∨ 6 < lc) :
    Calls Try.prog 3 #[.slice p np cap, .agg #[.slice pm lm cm, .slice pc lc cc, .slice po lo co], .int .i64 n, .int .i64 words, .agg #[.int .i64 k, .int .i64 at_, .int .u32 v, .int .u32 o]] w fun e w' => e = .returned (.bool true) ∧ Below w.heap.size w w' := by
  have HL := Lib.hid hl
  have HP := Lib.hid hp
  have H := Lib.hid h
  obtain ⟨t, ht⟩ : ∃ t, t = shortB P := ⟨_, rfl⟩
  have HT := Lib.hid ht
  clear hl hp h ht
  go_enter Try.func3, Try.ntmps3
  go_wp2_with fail
  have HB0 : Hid (Below w.heap.size w ((w.alloc (.cells #[.slice pm lm cm, .slice pc lc cc, .slice po lo co] 27)).alloc (.cells #[.int .i64 k, .int .i64 at_, .int .u32 v, .int .u32 o] 30))) := ((Below.refl _ _).alloc (Nat.le_refl _) _).alloc (by simp) _
  refine (awake_any _).mono ?_
  rintro e w1 ⟨rfl, hb1⟩
  have HK1 : Hid (Blk w1 w.heap.size #[.slice pm lm cm, .slice pc lc cc, .slice po lo co]) := Blk.track2 hb1
  have HB1 : Hid (Below w.heap.size w w1) := HB0.out.trans (hb1.mono HB0.out.size)
  clear hb1
  have cB := HK1.out.c
  go_wp2_with fail
  have hsh := short_any p cap P w1 (HP.out.below HB1.out)
  rw [HL.out, ← HT.out] at hsh
  refine hsh.mono ?_
  clear hsh
  rintro e w2 ⟨rfl, rfl⟩
  cases t with
  | false =>
    go_wp2
    go_ret
    exact ⟨rfl, HB1.out⟩
  | true =>
    by_cases h1 : 100 < lm
    · have d1 : decide (100 < (lm : Int)) = true := decide_eq_true (by omega)
      clear h1
      go_wp2
      go_ret
      exact ⟨rfl, HB1.out⟩
    · have d1 : decide (100 < (lm : Int)) = false := decide_eq_false (by omega)
      have d2 : decide (6 < (lc : Int)) = true := decide_eq_true (by
        rcases H.out with h | h | h
        · rw [← HT.out] at h; cases h
        · omega
        · omega)
      clear h1
      go_wp2
      go_ret
      exact ⟨rfl, HB1.out⟩

set_option maxHeartbeats 2000000 in
theorem right_main (p pm pc po : Option Addr) (np cap lm cm lc cc lo co : Nat) (n words k at_ v o : Int) (P : List (List I5)) (a : Atm) (w : World) (hl : P.length = np) (hp : Prgs w p P) (hs : shortB P = true) (h100 : lm ≤ 100) (h6 : lc ≤ 6) (hM : Mach w (.agg #[.slice pm lm cm, .slice pc lc cc, .slice po lo co]) a) (h1 : a.mem.length = lm) (h2 : a.cores.length = lc) (h3 : a.outs.length = lo) (s1 : Sl w pm lm (memC a.mem)) (s2 : Sl w pc lc (coresC a.cores)) (hf : a.Fits) (hmo : (lo + 1) * 16 ≤ 140737488355328) :
    Calls Try.prog 3 #[.slice p np cap, .agg #[.slice pm lm cm, .slice pc lc cc, .slice po lo co], .int .i64 n, .int .i64 words, .agg #[.int .i64 k, .int .i64 at_, .int .u32 v, .int .u32 o]] w fun e w' => e = .returned (.bool true) ∧ Below w.heap.size w w' := by
  have HL := Lib.hid hl
  have HP := Lib.hid hp
  have HS := Lib.hid hs
  have HM := Lib.hid hM
  have H1 := Lib.hid h1
  have H2 := Lib.hid h2
  have H3 := Lib.hid h3
  have S1 := Lib.hid s1
  have S2 := Lib.hid s2
  have HF := Lib.hid hf
  have HMO := Lib.hid hmo
  have d1 : decide (100 < (lm : Int)) = false := decide_eq_false (by omega)
  have d2 : decide (6 < (lc : Int)) = false := decide_eq_false (by omega)
  clear hl hp hs hM h1 h2 h3 s1 s2 hf hmo
  go_enter Try.func3, Try.ntmps3
  go_wp2_with fail
  have HB0 : Hid (Below w.heap.size w ((w.alloc (.cells #[.slice pm lm cm, .slice pc lc cc, .slice po lo co] 27)).alloc (.cells #[.int .i64 k, .int .i64 at_, .int .u32 v, .int .u32 o] 30))) := ((Below.refl _ _).alloc (Nat.le_refl _) _).alloc (by simp) _
  refine (awake_any _).mono ?_
  rintro e w1 ⟨rfl, hb1⟩
  have HK1 : Hid (Blk w1 w.heap.size #[.slice pm lm cm, .slice pc lc cc, .slice po lo co]) := Blk.track2 hb1
  have HW1 : Hid (Blk w1 (w.heap.size + 1) #[.int .i64 k, .int .i64 at_, .int .u32 v, .int .u32 o]) := by
    have h := (Blk.new (w.alloc (.cells #[.slice pm lm cm, .slice pc lc cc, .slice po lo co] 27)) #[.int .i64 k, .int .i64 at_, .int .u32 v, .int .u32 o] 30).below hb1
    rw [World.size_alloc] at h
    exact h
  have HB1 : Hid (Below w.heap.size w w1) := HB0.out.trans (hb1.mono HB0.out.size)
  clear hb1
  have cB := HK1.out.c
  go_wp2_with fail
  have hsh := short_any p cap P w1 (HP.out.below HB1.out)
  rw [HL.out, HS.out] at hsh
  refine hsh.mono ?_
  clear hsh
  rintro e w2 ⟨rfl, rfl⟩
  have x0 : w1.cell? ⟨w.heap.size + 1, 0, none⟩ = some (.int .i64 k) := HW1.out.c 0
  have x1 : w1.cell? ⟨w.heap.size + 1, 1, none⟩ = some (.int .i64 at_) := HW1.out.c 1
  have x2 : w1.cell? ⟨w.heap.size + 1, 2, none⟩ = some (.int .u32 v) := HW1.out.c 2
  have x3 : w1.cell? ⟨w.heap.size + 1, 3, none⟩ = some (.int .u32 o) := HW1.out.c 3
  go_wp2_with fail
  refine (Act_any pm lm cm a.mem ⟨k, at_, v, o⟩ w1 H1.out (by omega) (S1.out.below HB1.out)).mono ?_
  rintro e w3 ⟨q3, c3, rfl, hs3, hb3⟩
  have HS3 := Lib.hid hs3
  have HK3 := Lib.hid (HK1.out.below hb3)
  have HW3 := Lib.hid (HW1.out.below hb3)
  have HB3 : Hid (Below w.heap.size w w3) := HB1.out.trans (hb3.mono HB1.out.size)
  clear hs3 hb3 cB x0 x1 x2 x3 HK1 HW1
  have cB := HK3.out.c
  have x0 : w3.cell? ⟨w.heap.size + 1, 0, none⟩ = some (.int .i64 k) := HW3.out.c 0
  have x1 : w3.cell? ⟨w.heap.size + 1, 1, none⟩ = some (.int .i64 at_) := HW3.out.c 1
  have x2 : w3.cell? ⟨w.heap.size + 1, 2, none⟩ = some (.int .u32 v) := HW3.out.c 2
  have x3 : w3.cell? ⟨w.heap.size + 1, 3, none⟩ = some (.int .u32 o) := HW3.out.c 3
  go_wp2_with fail
  have hact := actR_any pm cm a.mem ⟨k, at_, v, o⟩ w3 (by rw [H1.out]; omega) (by rw [H1.out]; exact S1.out.below HB3.out)
  rw [H1.out] at hact
  refine hact.mono ?_
  clear hact
  rintro e w4 ⟨q4, c4, rfl, hs4, _, hb4⟩
  have HS4 := Lib.hid hs4
  have HS34 := Lib.hid (HS3.out.below hb4)
  have HK4 := Lib.hid (HK3.out.below hb4)
  have HB4 : Hid (Below w.heap.size w w4) := HB3.out.trans (hb4.mono HB3.out.size)
  clear hs4 hb4 cB x0 x1 x2 x3 HK3 HW3 HS3
  obtain ⟨was, hwas⟩ : ∃ was, was = actWas a.mem ⟨k, at_, v, o⟩ := ⟨_, rfl⟩
  rw [← hwas]
  obtain ⟨mem', hmem'⟩ : ∃ m, m = actMem a.mem ⟨k, at_, v, o⟩ := ⟨_, rfl⟩
  rw [← hmem'] at HS4 HS34
  have HLM : Hid (mem'.length = lm) := by show mem'.length = lm; rw [hmem', actMem_len, H1.out]
  clear hwas hmem'
  have ew : (was != was) = false := by simp
  obtain ⟨ov, hov⟩ : ∃ ov, ov = overA a.cores := ⟨_, rfl⟩
  have HOV := Lib.hid hov
  clear hov
  go_wp2_with fail
  refine region_plan (fun w' : World => ∀ j, w'.cell? ⟨w.heap.size, j, none⟩ = (#[.slice pm lm cm, .slice pc lc cc, .slice po lo co] : Array Value)[j]?) 15 [(0, true), (1, true), (2, false), (3, true), (4, true), (5, true), (6, true), (7, true), (8, true), (9, true), (10, true), (12, true), (13, true), (11, false), (14, false)] (by kernel_rfl) (by kernel_rfl) HK4.out.c ?_
  iterate 2
    refine plan_read (v := ?_) rfl (by rfl) ?_ ?_
    rotate_left
    · intro w' hS
      try dsimp only at hS
      go_simp
      try with_reducible rfl
    try simp only [Act.put, List.setIfInBounds_toArray, List.set_cons_zero, List.set_cons_succ, List.getElem_toArray, List.getElem_cons_zero, List.getElem_cons_succ]
  refine plan_call (F := 11) (args := ?_) rfl (by rfl) ?_ ?_
  rotate_left
  · go_simp
    rfl
  refine (words_same q3 q4 lm c3 c4 mem' w4.drew HLM.out (by unfold maxLen; omega) (HS34.out.below (Below.refl _ _).drew) (HS4.out.below (Below.refl _ _).drew)).mono ?_
  rintro e w5 ⟨rfl, hb5⟩
  have HB5 : Hid (Below w4.heap.size w4 w5) := (Below.refl _ _).drew.trans hb5
  refine ⟨_, rfl, (HK4.out.below HB5.out).c, ?_⟩
  clear hb5
  try simp only [Act.put, List.setIfInBounds_toArray, List.set_cons_zero, List.set_cons_succ, List.getElem_toArray, List.getElem_cons_zero, List.getElem_cons_succ]
  iterate 10
    refine plan_read (v := ?_) rfl (by rfl) ?_ ?_
    rotate_left
    · intro w' hS
      try dsimp only at hS
      go_simp
      try with_reducible rfl
    try simp only [Act.put, List.setIfInBounds_toArray, List.set_cons_zero, List.set_cons_succ, List.getElem_toArray, List.getElem_cons_zero, List.getElem_cons_succ]
  refine plan_call (F := 12) (args := ?_) rfl (by rfl) ?_ ?_
  rotate_left
  · go_simp
    rfl
  refine (over_any pm pc po lm cm lc cc lo co a.cores w5 H2.out (by unfold maxLen; omega) ((S2.out.below HB4.out).below HB5.out)).mono ?_
  rintro e w6 ⟨rfl, hb6⟩
  rw [← HOV.out]
  have HB6 : Hid (Below w4.heap.size w4 w6) := HB5.out.trans (hb6.mono HB5.out.size)
  refine ⟨_, rfl, (HK4.out.below HB6.out).c, ?_⟩
  clear hb6
  try simp only [Act.put, List.setIfInBounds_toArray, List.set_cons_zero, List.set_cons_succ, List.getElem_toArray, List.getElem_cons_zero, List.getElem_cons_succ]
  refine plan_call (F := 13) (args := ?_) rfl (by rfl) ?_ ?_
  rotate_left
  · go_simp
    rfl
  refine (overR_any pm pc po lm cm lc cc lo co a.cores w6 H2.out (by unfold maxLen; omega) ((S2.out.below HB4.out).below HB6.out)).mono ?_
  rintro e w7 ⟨rfl, hb7⟩
  rw [← HOV.out]
  have HB7' : Hid (Below w4.heap.size w4 w7) := HB6.out.trans (hb7.mono HB6.out.size)
  refine ⟨_, rfl, (HK4.out.below HB7'.out).c, ?_⟩
  refine plan_nil ?_
  clear hb7
  try simp only [Act.put, List.setIfInBounds_toArray, List.set_cons_zero, List.set_cons_succ, List.getElem_toArray, List.getElem_cons_zero, List.getElem_cons_succ]
  simp only [List.drop_succ_cons, List.drop_zero]
  have HK7 := Lib.hid (HK4.out.below HB7'.out)
  have HB7 : Hid (Below w.heap.size w w7) := HB4.out.trans (HB7'.out.mono HB4.out.size)
  clear HB5 HB6 HB7' HK4 HS4 HS34
  have eo : (ov != ov) = false := by simp
  go_wp2_with fail
  have hnw := New_res p cap words P w7 (HP.out.below HB7.out)
  rw [HL.out] at hnw
  refine hnw.mono ?_
  clear hnw
  rintro e w8 ⟨a1, a2, a3, a4, a5, a6, a7, a8, a9, rfl, hm8, hb8⟩
  have HM8 := Lib.hid hm8
  have HK8 := Lib.hid (HK7.out.below hb8)
  have HB8 : Hid (Below w.heap.size w w8) := HB7.out.trans (hb8.mono HB7.out.size)
  clear hm8 hb8
  obtain ⟨er, her⟩ : ∃ er, er = newErr P words := ⟨_, rfl⟩
  have HER := Lib.hid her
  rw [← her]
  clear her
  go_wp2_with fail
  have HX9 : Hid (Blk (w8.alloc (.cells #[.slice a1 a2 a3, .slice a4 a5 a6, .slice a7 a8 a9] 27)) w8.heap.size #[.slice a1 a2 a3, .slice a4 a5 a6, .slice a7 a8 a9]) := Blk.new w8 _ 27
  have HA9 : Hid (Below w8.heap.size w8 (w8.alloc (.cells #[.slice a1 a2 a3, .slice a4 a5 a6, .slice a7 a8 a9] 27))) := (Below.refl _ _).alloc (Nat.le_refl _) _
  have HB9 : Hid (Below w.heap.size w (w8.alloc (.cells #[.slice a1 a2 a3, .slice a4 a5 a6, .slice a7 a8 a9] 27))) := HB8.out.alloc HB8.out.size _
  have hnw := NewR_res p cap words P (w8.alloc (.cells #[.slice a1 a2 a3, .slice a4 a5 a6, .slice a7 a8 a9] 27)) (short_few HS.out) (HP.out.below HB9.out)
  rw [HL.out, ← HER.out] at hnw
  refine hnw.mono ?_
  clear hnw
  rintro e w10 ⟨b1, b2, b3, b4, b5, b6, b7, b8, b9, rfl, hm10, hb10⟩
  have HX10 := Lib.hid (HX9.out.below hb10)
  have HN10 := Lib.hid ((HM8.out.below HA9.out).below hb10)
  have HK10 := Lib.hid ((HK8.out.below HA9.out).below hb10)
  have HM10 := Lib.hid hm10
  have HB10 : Hid (Below w.heap.size w w10) := HB9.out.trans (hb10.mono HB9.out.size)
  clear hm10 hb10 HX9 HA9 HB9 HM8 HK8
  go_upto_region 11 with fail
  obtain ⟨W, hW⟩ : ∃ W, W = w10.alloc (.cells #[.slice b1 b2 b3, .slice b4 b5 b6, .slice b7 b8 b9] 27) := ⟨_, rfl⟩
  have HA11 : Hid (Below w10.heap.size w10 W) := by rw [hW]; exact (Below.refl _ _).alloc (Nat.le_refl _) _
  have HY11 : Hid (Blk W w10.heap.size #[.slice b1 b2 b3, .slice b4 b5 b6, .slice b7 b8 b9]) := by rw [hW]; exact Blk.new w10 _ 27
  rw [← hW]
  clear hW
  have HX11 := Lib.hid (HX10.out.below HA11.out)
  have HN11 := Lib.hid (HN10.out.below HA11.out)
  have HM11 := Lib.hid (HM10.out.below HA11.out)
  have HK11 := Lib.hid (HK10.out.below HA11.out)
  have HB11 : Hid (Below w.heap.size w W) := HB10.out.trans (HA11.out.mono HB10.out.size)
  clear HA11 HX10 HN10 HM10 HK10
  have HSM := Lib.hid (newRes_small P words (short_few HS.out))
  obtain ⟨tr, htr⟩ : ∃ tr, tr = rightA P a := ⟨_, rfl⟩
  have HTR := Lib.hid htr
  clear htr
  have et : (tr != tr) = false := by simp
  have ee : (er != er) = false := by simp
  refine region_plan (fun w' : World => (∀ j, w'.cell? ⟨w8.heap.size, j, none⟩ = (#[.slice a1 a2 a3, .slice a4 a5 a6, .slice a7 a8 a9] : Array Value)[j]?) ∧ (∀ j, w'.cell? ⟨w10.heap.size, j, none⟩ = (#[.slice b1 b2 b3, .slice b4 b5 b6, .slice b7 b8 b9] : Array Value)[j]?) ∧ (∀ j, w'.cell? ⟨w.heap.size, j, none⟩ = (#[.slice pm lm cm, .slice pc lc cc, .slice po lo co] : Array Value)[j]?)) 16 [(0, true), (1, true), (2, false), (3, true), (4, true), (5, true), (6, true), (7, true), (8, true), (9, true), (10, true), (11, true), (13, true), (14, true), (12, false), (15, false)] (by kernel_rfl) (by kernel_rfl) ⟨HX11.out.c, HY11.out.c, HK11.out.c⟩ ?_
  iterate 2
    refine plan_read (v := ?_) rfl (by rfl) ?_ ?_
    rotate_left
    · intro w' hS
      try dsimp only at hS
      go_simp
      try with_reducible rfl
    try simp only [Act.put, List.setIfInBounds_toArray, List.set_cons_zero, List.set_cons_succ, List.getElem_toArray, List.getElem_cons_zero, List.getElem_cons_succ]
  refine plan_call (F := 16) (args := ?_) rfl (by rfl) ?_ ?_
  rotate_left
  · go_simp
    rfl
  refine (same_any _ _ (newRes P words) W.drew HSM.out.1 HSM.out.2.1 HSM.out.2.2 (HN11.out.below (Below.refl _ _).drew) (HM11.out.below (Below.refl _ _).drew)).mono ?_
  rintro e w12 ⟨rfl, hb12⟩
  have HB12 : Hid (Below W.heap.size W w12) := (Below.refl _ _).drew.trans hb12
  refine ⟨_, rfl, ⟨(HX11.out.below HB12.out).c, (HY11.out.below HB12.out).c, (HK11.out.below HB12.out).c⟩, ?_⟩
  clear hb12
  try simp only [Act.put, List.setIfInBounds_toArray, List.set_cons_zero, List.set_cons_succ, List.getElem_toArray, List.getElem_cons_zero, List.getElem_cons_succ]
  iterate 11
    refine plan_read (v := ?_) rfl (by rfl) ?_ ?_
    rotate_left
    · intro w' hS
      try dsimp only at hS
      go_simp
      try with_reducible rfl
    try simp only [Act.put, List.setIfInBounds_toArray, List.set_cons_zero, List.set_cons_succ, List.getElem_toArray, List.getElem_cons_zero, List.getElem_cons_succ]
  refine plan_call (F := 17) (args := ?_) rfl (by rfl) ?_ ?_
  rotate_left
  · go_simp
    rfl
  have hr := right_any4 p cap P (.agg #[.slice pm lm cm, .slice pc lc cc, .slice po lo co]) a w12 ((HP.out.below HB11.out).below HB12.out) ((HM.out.below HB11.out).below HB12.out)
  rw [HL.out, ← HTR.out] at hr
  refine hr.mono ?_
  clear hr
  rintro e w13 ⟨rfl, hb13⟩
  have HB13 : Hid (Below W.heap.size W w13) := HB12.out.trans (hb13.mono HB12.out.size)
  refine ⟨_, rfl, ⟨(HX11.out.below HB13.out).c, (HY11.out.below HB13.out).c, (HK11.out.below HB13.out).c⟩, ?_⟩
  clear hb13
  try simp only [Act.put, List.setIfInBounds_toArray, List.set_cons_zero, List.set_cons_succ, List.getElem_toArray, List.getElem_cons_zero, List.getElem_cons_succ]
  refine plan_call (F := 18) (args := ?_) rfl (by rfl) ?_ ?_
  rotate_left
  · go_simp
    rfl
  have hr := rightR4_any p cap P (.agg #[.slice pm lm cm, .slice pc lc cc, .slice po lo co]) a w13 (short_few HS.out) ((HP.out.below HB11.out).below HB13.out) ((HM.out.below HB11.out).below HB13.out)
  rw [HL.out, ← HTR.out] at hr
  refine hr.mono ?_
  clear hr
  rintro e w14 ⟨rfl, hb14⟩
  have HB14' : Hid (Below W.heap.size W w14) := HB13.out.trans (hb14.mono HB13.out.size)
  refine ⟨_, rfl, ⟨(HX11.out.below HB14'.out).c, (HY11.out.below HB14'.out).c, (HK11.out.below HB14'.out).c⟩, ?_⟩
  refine plan_nil ?_
  clear hb14
  try simp only [Act.put, List.setIfInBounds_toArray, List.set_cons_zero, List.set_cons_succ, List.getElem_toArray, List.getElem_cons_zero, List.getElem_cons_succ]
  simp only [List.drop_succ_cons, List.drop_zero]
  have HK14 := Lib.hid (HK11.out.below HB14'.out)
  have HB14 : Hid (Below w.heap.size w w14) := HB11.out.trans (HB14'.out.mono HB11.out.size)
  clear HB12 HB13 HB14' HX11 HY11 HN11 HM11 HK11
  have cB := HK14.out.c
  go_wp2_with fail
  have hst := Step_res p cap (.agg #[.slice pm lm cm, .slice pc lc cc, .slice po lo co]) n P a w14 (HP.out.below HB14.out) (HM.out.below HB14.out) (by rw [H1.out]; omega) (by rw [H2.out]; omega) (by rw [H3.out]; exact HMO.out) (fun _ => HF.out)
  rw [HL.out] at hst
  refine hst.mono ?_
  clear hst
  rintro e w15 ⟨g1, g2, g3, g4, g5, g6, g7, g8, g9, rfl, ho15, hb15⟩
  have HD15 := Lib.hid ho15.mach
  have HK15 := Lib.hid (HK14.out.below hb15)
  have HB15 : Hid (Below w.heap.size w w15) := HB14.out.trans (hb15.mono HB14.out.size)
  clear ho15 hb15 cB HK14
  obtain ⟨es, hes⟩ : ∃ es, es = stepErr P a n := ⟨_, rfl⟩
  have HES := Lib.hid hes
  rw [← hes]
  clear hes
  go_upto_region 14 with fail
  obtain ⟨V, hV⟩ : ∃ V, V = w15.alloc (.cells #[.slice g1 g2 g3, .slice g4 g5 g6, .slice g7 g8 g9] 27) := ⟨_, rfl⟩
  have HA16 : Hid (Below w15.heap.size w15 V) := by rw [hV]; exact (Below.refl _ _).alloc (Nat.le_refl _) _
  have HZ16 : Hid (Blk V w15.heap.size #[.slice g1 g2 g3, .slice g4 g5 g6, .slice g7 g8 g9]) := by rw [hV]; exact Blk.new w15 _ 27
  rw [← hV]
  clear hV
  have HD16 := Lib.hid (HD15.out.below HA16.out)
  have HK16 := Lib.hid (HK15.out.below HA16.out)
  have HB16 : Hid (Below w.heap.size w V) := HB15.out.trans (HA16.out.mono HB15.out.size)
  clear HA16 HD15 HK15
  have cB := HK16.out.c
  go_wp2_with fail
  have hr := rightR4_any p cap P (.agg #[.slice pm lm cm, .slice pc lc cc, .slice po lo co]) a V (short_few HS.out) (HP.out.below HB16.out) (HM.out.below HB16.out)
  rw [HL.out, ← HTR.out] at hr
  refine hr.mono ?_
  clear hr
  rintro e w17 ⟨rfl, hb17⟩
  have HD17 := Lib.hid (HD16.out.below hb17)
  have HZ17 := Lib.hid (HZ16.out.below hb17)
  have HK17 := Lib.hid (HK16.out.below hb17)
  have HB17 : Hid (Below w.heap.size w w17) := HB16.out.trans (hb17.mono HB16.out.size)
  clear hb17 cB HD16 HZ16 HK16
  have cB := HK17.out.c
  have cZ := HZ17.out.c
  have HLN : Hid (a.mem.length ≤ maxLen ∧ a.cores.length ≤ maxLen ∧ a.outs.length ≤ maxLen) := ⟨by rw [H1.out]; unfold maxLen; omega, by rw [H2.out]; unfold maxLen; omega, by have := HMO.out; rw [H3.out]; unfold maxLen; omega⟩
  have bad : Hid (stepOk P a n = false → es = 1 ∧ stepRes P a n = a) := fun h => ⟨by rw [HES.out]; unfold stepErr; rw [h]; rfl, by unfold stepRes; rw [h]; rfl⟩
  have HSB : Hid (∀ W' : World, Below w17.heap.size w17 W' → stepOk P a n = false → Calls Try.prog 16 #[.agg #[.slice g1 g2 g3, .slice g4 g5 g6, .slice g7 g8 g9], .agg #[.slice pm lm cm, .slice pc lc cc, .slice po lo co]] W' fun e w' => e = .returned (.bool true) ∧ Below W'.heap.size W' w') := fun W' hb' h => by
    have hd := HD17.out.below hb'
    rw [(bad.out h).2] at hd
    exact same_any _ _ a W' HLN.out.1 HLN.out.2.1 HLN.out.2.2 hd ((HM.out.below HB17.out).below hb')
  cases tr with
  | false =>
    have hb0 : stepOk P a n = false := by unfold stepOk; rw [← HTR.out]; simp
    have he := (bad.out hb0).1
    subst he
    have HB0' := Lib.hid hb0
    clear hb0
    go_wp2_with fail
    refine (HSB.out _ (Below.refl _ _) HB0'.out).mono ?_
    rintro e w18 ⟨rfl, hb18⟩
    have HB18 : Hid (Below w.heap.size w w18) := HB17.out.trans (hb18.mono HB17.out.size)
    clear hb18 cB cZ
    go_wp2
    go_ret
    exact ⟨rfl, HB18.out⟩
  | true =>
    have hra := right_all HTR.out.symm
    by_cases hn0 : n < 0
    · have hb0 : stepOk P a n = false := by unfold stepOk; rw [decide_eq_false (p := 0 ≤ n) (by omega)]; rfl
      have e0 : decide (n < 0) = true := decide_eq_true hn0
      have he := (bad.out hb0).1
      subst he
      have HB0' := Lib.hid hb0
      clear hb0 hra hn0
      go_wp2_with fail
      refine (HSB.out _ (Below.refl _ _) HB0'.out).mono ?_
      rintro e w18 ⟨rfl, hb18⟩
      have HB18 : Hid (Below w.heap.size w w18) := HB17.out.trans (hb18.mono HB17.out.size)
      clear hb18 cB cZ
      go_wp2
      go_ret
      exact ⟨rfl, HB18.out⟩
    · have e0 : decide (n < 0) = false := decide_eq_false hn0
      by_cases hn1 : (np : Int) ≤ n
      · have hb0 : stepOk P a n = false := by unfold stepOk; rw [decide_eq_false (p := n < (a.cores.length : Int)) (by rw [hra.2.2.1, HL.out]; omega)]; simp
        have e1 : decide ((np : Int) ≤ n) = true := decide_eq_true hn1
        have he := (bad.out hb0).1
        subst he
        have HB0' := Lib.hid hb0
        clear hb0 hra hn0 hn1
        go_wp2_with fail
        refine (HSB.out _ (Below.refl _ _) HB0'.out).mono ?_
        rintro e w18 ⟨rfl, hb18⟩
        have HB18 : Hid (Below w.heap.size w w18) := HB17.out.trans (hb18.mono HB17.out.size)
        clear hb18 cB cZ
        go_wp2
        go_ret
        exact ⟨rfl, HB18.out⟩
      · have e1 : decide ((np : Int) ≤ n) = false := decide_eq_false hn1
        obtain ⟨m, rfl⟩ := Int.eq_ofNat_of_zero_le (show 0 ≤ n by omega)
        have hok : stepOk P a m = true := by
          unfold stepOk
          rw [decide_eq_true (show (0 : Int) ≤ (m : Int) by omega), decide_eq_true (show (m : Int) < (a.cores.length : Int) by rw [hra.2.2.1, HL.out]; omega), ← HTR.out]; rfl
        obtain ⟨he, hsr⟩ : es = 0 ∧ stepRes P a m = stepA P a m := ⟨by rw [HES.out]; unfold stepErr; rw [if_pos hok], by unfold stepRes; rw [if_pos hok]; rfl⟩
        subst he
        have HSR := Lib.hid hsr
        have hmP : m < P.length := by rw [HL.out]; omega
        have e2 : decide (np ≤ m) = false := decide_eq_false (by omega)
        have hlt : m < np := by omega
        clear hok hn0 hn1 hsr
        go_upto_region 16 with fail
        refine region_plan (fun w' : World => (∀ j, w'.cell? ⟨w15.heap.size, j, none⟩ = (#[.slice g1 g2 g3, .slice g4 g5 g6, .slice g7 g8 g9] : Array Value)[j]?) ∧ (∀ j, w'.cell? ⟨w.heap.size, j, none⟩ = (#[.slice pm lm cm, .slice pc lc cc, .slice po lo co] : Array Value)[j]?)) 9 [(0, true), (1, true), (2, true), (3, true), (4, true), (5, true), (6, true), (7, false), (8, false)] (by kernel_rfl) (by kernel_rfl) ⟨HZ17.out.c, HK17.out.c⟩ ?_
        iterate 7
          refine plan_read (v := ?_) rfl (by rfl) ?_ ?_
          rotate_left
          · intro w' hS
            try dsimp only at hS
            go_simp
            try with_reducible rfl
          try simp only [Act.put, List.setIfInBounds_toArray, List.set_cons_zero, List.set_cons_succ, List.getElem_toArray, List.getElem_cons_zero, List.getElem_cons_succ]
        refine plan_call (F := 20) (args := ?_) rfl (by rfl) ?_ ?_
        rotate_left
        · go_simp
          rfl
        have hst := stepR_any p cap P (.agg #[.slice pm lm cm, .slice pc lc cc, .slice po lo co]) a m w17.drew ((HP.out.below HB17.out).below (Below.refl _ _).drew) hmP ((HM.out.below HB17.out).below (Below.refl _ _).drew) hra.2.2.1 HF.out hra.2.1 (short_few HS.out) (by rw [H3.out]; exact HMO.out)
        rw [HL.out] at hst
        refine hst.mono ?_
        clear hst
        rintro e w18 ⟨u18, rfl, hm18, hb18⟩
        have HB18 : Hid (Below w17.heap.size w17 w18) := (Below.refl _ _).drew.trans hb18
        have HM18 := Lib.hid hm18
        refine ⟨_, rfl, ⟨(HZ17.out.below HB18.out).c, (HK17.out.below HB18.out).c⟩, ?_⟩
        clear hb18 hm18
        try simp only [Act.put, List.setIfInBounds_toArray, List.set_cons_zero, List.set_cons_succ, List.getElem_toArray, List.getElem_cons_zero, List.getElem_cons_succ]
        refine plan_call (F := 16) (args := ?_) rfl (by rfl) ?_ ?_
        rotate_left
        · go_simp
          rfl
        refine (same_any _ _ (stepA P a m) w18 (by rw [stepA_mem]; exact HLN.out.1) (by rw [stepA_cores]; exact HLN.out.2.1) (by have := stepA_outs P a m; have h2 := HMO.out; rw [← H3.out] at h2; unfold maxLen; omega) (by have h := HD17.out.below HB18.out; rw [HSR.out] at h; exact h) HM18.out).mono ?_
        rintro e w19 ⟨rfl, hb19⟩
        have HB19' : Hid (Below w17.heap.size w17 w19) := HB18.out.trans (hb19.mono HB18.out.size)
        refine ⟨_, rfl, ⟨(HZ17.out.below HB19'.out).c, (HK17.out.below HB19'.out).c⟩, ?_⟩
        refine plan_nil ?_
        clear hb19
        try simp only [Act.put, List.setIfInBounds_toArray, List.set_cons_zero, List.set_cons_succ, List.getElem_toArray, List.getElem_cons_zero, List.getElem_cons_succ]
        simp only [List.drop_succ_cons, List.drop_zero]
        have HB19 : Hid (Below w.heap.size w w19) := HB17.out.trans (HB19'.out.mono HB17.out.size)
        clear HB18 HB19' cB cZ
        go_wp2
        go_ret
        exact ⟨rfl, HB19.out⟩

theorem right_walk (p : Option Addr) (cap : Nat) (P : List (List I5)) (v0 v1 v2 : Value) (a : Atm) (n words : Int) (x : Wnt) (w : World) (hp : Prgs w p P) (hM : Mach w (.agg #[v0, v1, v2]) a) (hf : a.Fits) (hmo : (a.outs.length + 1) * 16 ≤ 140737488355328) :
    Calls Try.prog 3 #[.slice p P.length cap, .agg #[v0, v1, v2], .int .i64 n, .int .i64 words, .agg x.row] w fun e w' => e = .returned (.bool true) ∧ Below w.heap.size w w' := by
  obtain ⟨k, at_, v, o⟩ := x
  have hM' := hM
  obtain ⟨pm, cm, pc, cc, po, co, e, s1, s2, s3⟩ := hM
  injection e with e
  have e' : [v0, v1, v2] = [.slice pm a.mem.length cm, .slice pc a.cores.length cc, .slice po a.outs.length co] := Array.toList_inj.2 e
  injection e' with e1 e'
  injection e' with e2 e'
  injection e' with e3 _
  subst e1 e2 e3
  by_cases h : shortB P = false ∨ 100 < a.mem.length ∨ 6 < a.cores.length
  · exact right_out p pm pc po _ cap _ cm _ cc _ co n words k at_ v o P w rfl hp h
  · have hs : shortB P = true := by
      cases hh : shortB P with
      | true => rfl
      | false => exact (h (.inl hh)).elim
    exact right_main p pm pc po _ cap _ cm _ cc _ co n words k at_ v o P a w rfl hp hs (by omega) (by omega) hM' rfl rfl rfl s1 s2 hf hmo
end Go.Proofs.Ytekiialhljfglaa
/- Two cores, neither of which touches a word that the other one writes, make their steps in either order alike: a fact on lists, without any program. -/
namespace Go.Proofs.Ytekiialhljfglaa
set_option linter.unusedVariables false

def memKind (k : Int) : Bool := decide (1 ≤ k) && decide (k ≤ 3)
def wrKind (k : Int) : Bool := decide (k = 2) || decide (k = 3)
theorem actMem_id {m : List Int} {x : Wnt} (h : wrKind x.kind = false) : actMem m x = m := by
  unfold wrKind at h
  simp only [Bool.or_eq_false_iff, decide_eq_false_iff_not] at h
  unfold actMem
  rw [if_neg]
  simp [h.1, h.2]
theorem actWas_none {m : List Int} {x : Wnt} (h : memKind x.kind = false) : actWas m x = 0 := by
  unfold memKind at h
  unfold actWas
  rw [if_neg]
  rw [h]; simp
theorem actHit_len {m m' : List Int} {x : Wnt} (h : m.length = m'.length) : actHit m x = actHit m' x := by unfold actHit; rw [h]
theorem actMem_get {m : List Int} {x : Wnt} {i : Nat} (h : actHit m x = true → x.at_.toNat ≠ i) : (actMem m x).getD i 0 = m.getD i 0 := by
  unfold actMem
  split
  · rename_i hc
    simp only [Bool.and_eq_true] at hc
    simp only [List.getD, List.getElem?_set_ne (h hc.1)]
  · rfl
theorem act_miss {m : List Int} {x : Wnt} (h : actHit m x = false) : actMem m x = m ∧ actWas m x = 0 := by
  unfold actMem actWas
  rw [h]
  exact ⟨rfl, rfl⟩
theorem act_apart {m : List Int} {v w : Wnt} (h : v.at_ ≠ w.at_) : actWas (actMem m v) w = actWas m w ∧ actMem (actMem m v) w = actMem (actMem m w) v := by
  have hw : actHit (actMem m v) w = actHit m w := actHit_len (actMem_len m v)
  have hv : actHit (actMem m w) v = actHit m v := actHit_len (actMem_len m w)
  cases h1 : actHit m w with
  | false =>
    rw [(act_miss h1).1, (act_miss h1).2]
    rw [h1] at hw
    exact ⟨(act_miss hw).2, (act_miss hw).1⟩
  | true =>
    cases h2 : actHit m v with
    | false =>
      rw [(act_miss h2).1]
      rw [h2] at hv
      exact ⟨rfl, (act_miss hv).1.symm⟩
    | true =>
      have a1 : 0 ≤ w.at_ := by unfold actHit at h1; simp only [Bool.and_eq_true, decide_eq_true_eq] at h1; exact h1.1
      have a2 : 0 ≤ v.at_ := by unfold actHit at h2; simp only [Bool.and_eq_true, decide_eq_true_eq] at h2; exact h2.1
      have hne : v.at_.toNat ≠ w.at_.toNat := by omega
      have gw : (actMem m v).getD w.at_.toNat 0 = m.getD w.at_.toNat 0 := actMem_get (fun _ => hne)
      have gv : (actMem m w).getD v.at_.toNat 0 = m.getD v.at_.toNat 0 := actMem_get (fun _ => hne.symm)
      refine ⟨?_, ?_⟩
      · unfold actWas
        rw [hw, gw]
      · have e1 : actMem (actMem m v) w = if actHit m w && (decide (w.kind = 2) || decide (w.kind = 3) && decide (m.getD w.at_.toNat 0 = w.old)) then (actMem m v).set w.at_.toNat w.val else actMem m v := by
          rw [show actMem (actMem m v) w = if actHit (actMem m v) w && (decide (w.kind = 2) || decide (w.kind = 3) && decide ((actMem m v).getD w.at_.toNat 0 = w.old)) then (actMem m v).set w.at_.toNat w.val else actMem m v from rfl, hw, gw]
        have e2 : actMem (actMem m w) v = if actHit m v && (decide (v.kind = 2) || decide (v.kind = 3) && decide (m.getD v.at_.toNat 0 = v.old)) then (actMem m w).set v.at_.toNat v.val else actMem m w := by
          rw [show actMem (actMem m w) v = if actHit (actMem m w) v && (decide (v.kind = 2) || decide (v.kind = 3) && decide ((actMem m w).getD v.at_.toNat 0 = v.old)) then (actMem m w).set v.at_.toNat v.val else actMem m w from rfl, hv, gv]
        rw [e1, e2]
        have fw : actMem m w = if actHit m w && (decide (w.kind = 2) || decide (w.kind = 3) && decide (m.getD w.at_.toNat 0 = w.old)) then m.set w.at_.toNat w.val else m := rfl
        have fv : actMem m v = if actHit m v && (decide (v.kind = 2) || decide (v.kind = 3) && decide (m.getD v.at_.toNat 0 = v.old)) then m.set v.at_.toNat v.val else m := rfl
        generalize (actHit m w && (decide (w.kind = 2) || decide (w.kind = 3) && decide (m.getD w.at_.toNat 0 = w.old))) = cw at *
        generalize (actHit m v && (decide (v.kind = 2) || decide (v.kind = 3) && decide (m.getD v.at_.toNat 0 = v.old))) = cv at *
        rw [fw, fv]
        cases cw <;> cases cv <;> simp
        exact List.set_comm _ _ hne
theorem act_turn {m : List Int} {v w : Wnt} (h : ¬ (memKind v.kind = true ∧ memKind w.kind = true ∧ v.at_ = w.at_ ∧ (wrKind v.kind = true ∨ wrKind w.kind = true))) :
    actWas (actMem m v) w = actWas m w ∧ actWas (actMem m w) v = actWas m v ∧ actMem (actMem m v) w = actMem (actMem m w) v := by
  by_cases hat : v.at_ = w.at_
  · have wm : ∀ k, wrKind k = true → memKind k = true := fun k hk => by
      unfold wrKind at hk; unfold memKind
      simp only [Bool.or_eq_true, decide_eq_true_eq] at hk
      simp only [Bool.and_eq_true, decide_eq_true_eq]
      omega
    cases hv : wrKind v.kind with
    | true =>
      have hw : memKind w.kind = false := by
        cases hh : memKind w.kind with
        | false => rfl
        | true => exact (h ⟨wm _ hv, hh, hat, .inl hv⟩).elim
      have hw2 : wrKind w.kind = false := by
        cases hh : wrKind w.kind with
        | false => rfl
        | true => rw [wm _ hh] at hw; cases hw
      rw [actMem_id hw2, actMem_id hw2]
      exact ⟨by rw [actWas_none hw, actWas_none hw], rfl, rfl⟩
    | false =>
      rw [actMem_id hv, actMem_id hv]
      cases hw : wrKind w.kind with
      | false =>
        rw [actMem_id hw]
        exact ⟨rfl, rfl, rfl⟩
      | true =>
        have hv2 : memKind v.kind = false := by
          cases hh : memKind v.kind with
          | false => rfl
          | true => exact (h ⟨hh, wm _ hw, hat, .inr hw⟩).elim
        exact ⟨rfl, by rw [actWas_none hv2, actWas_none hv2], rfl⟩
  · exact ⟨(act_apart hat).1, (act_apart (fun e => hat e.symm)).1, (act_apart hat).2⟩

/-- What core n of a machine wants. -/
def wantA (P : List (List I5)) (a : Atm) (n : Nat) : Wnt := wantOf (atP P n) (coreAt a.cores n) a.mem.length
theorem step_turn {P : List (List I5)} {a : Atm} {n k : Nat} (hnk : n ≠ k)
    (h : ¬ (memKind (wantA P a n).kind = true ∧ memKind (wantA P a k).kind = true ∧ (wantA P a n).at_ = (wantA P a k).at_ ∧ (wrKind (wantA P a n).kind = true ∨ wrKind (wantA P a k).kind = true)))
    (h4 : ¬ ((wantA P a n).kind = 4 ∧ (wantA P a k).kind = 4)) : stepA P (stepA P a n) k = stepA P (stepA P a k) n := by
  obtain ⟨t1, t2, t3⟩ := act_turn (m := a.mem) h
  have wk : wantA P (stepA P a n) k = wantA P a k := by
    unfold wantA
    rw [stepA_mem, show coreAt (stepA P a n).cores k = coreAt a.cores k from coreAt_set_other _ _ _ _ (fun e => hnk e.symm)]
  have wn : wantA P (stepA P a k) n = wantA P a n := by
    unfold wantA
    rw [stepA_mem, show coreAt (stepA P a k).cores n = coreAt a.cores n from coreAt_set_other _ _ _ _ hnk]
  have e : ∀ (b : Atm) (i : Nat), stepA P b i = ⟨actMem b.mem (wantA P b i), b.cores.set i (doneOf (atP P i) (coreAt b.cores i) (actWas b.mem (wantA P b i))), if (wantA P b i).kind = 4 then b.outs ++ [((i : Int), (wantA P b i).val)] else b.outs⟩ := fun _ _ => rfl
  have ck : coreAt (stepA P a n).cores k = coreAt a.cores k := coreAt_set_other _ _ _ _ (fun e => hnk e.symm)
  have cn : coreAt (stepA P a k).cores n = coreAt a.cores n := coreAt_set_other _ _ _ _ hnk
  rw [e (stepA P a n) k, e (stepA P a k) n, wk, wn, ck, cn]
  have m1 : (stepA P a n).mem = actMem a.mem (wantA P a n) := rfl
  have m2 : (stepA P a k).mem = actMem a.mem (wantA P a k) := rfl
  have c1 : (stepA P a n).cores = a.cores.set n (doneOf (atP P n) (coreAt a.cores n) (actWas a.mem (wantA P a n))) := rfl
  have c2 : (stepA P a k).cores = a.cores.set k (doneOf (atP P k) (coreAt a.cores k) (actWas a.mem (wantA P a k))) := rfl
  have o1 : (stepA P a n).outs = if (wantA P a n).kind = 4 then a.outs ++ [((n : Int), (wantA P a n).val)] else a.outs := rfl
  have o2 : (stepA P a k).outs = if (wantA P a k).kind = 4 then a.outs ++ [((k : Int), (wantA P a k).val)] else a.outs := rfl
  rw [m1, m2, c1, c2, o1, o2, t1, t2, t3]
  congr 1
  · exact List.set_comm _ _ hnk
  · by_cases a1 : (wantA P a n).kind = 4
    · have a2 : ¬ (wantA P a k).kind = 4 := fun h => h4 ⟨a1, h⟩
      simp [a1, a2]
    · by_cases a2 : (wantA P a k).kind = 4
      · simp [a1, a2]
      · simp [a1, a2]
end Go.Proofs.Ytekiialhljfglaa
/- What a step leaves: what was told, all cores but the one, all words but one, and all of it, once that core has halted; facts on lists, without any program. -/
namespace Go.Proofs.Ytekiialhljfglaa
set_option linter.unusedVariables false

theorem getD_in' {l : List Cor} {i : Nat} (hi : i < l.length) : l.getD i zcor = l[i] := by simp [List.getD, hi]
theorem step_halted {P : List (List I5)} {a : Atm} {n : Nat} (hn : n < a.cores.length) (h : (coreAt a.cores n).h = true) : stepA P a n = a := by
  have hw : wantA P a n = ⟨5, 0, 0, 0⟩ := by
    unfold wantA wantOf
    rw [h]; rfl
  have hd : ∀ was, doneOf (atP P n) (coreAt a.cores n) was = coreAt a.cores n := fun was => by
    unfold doneOf
    rw [h]; rfl
  have e : stepA P a n = ⟨actMem a.mem (wantA P a n), a.cores.set n (doneOf (atP P n) (coreAt a.cores n) (actWas a.mem (wantA P a n))), if (wantA P a n).kind = 4 then a.outs ++ [((n : Int), (wantA P a n).val)] else a.outs⟩ := rfl
  rw [e, hd, hw, actMem_id (by decide)]
  have hc : a.cores.set n (coreAt a.cores n) = a.cores := by
    unfold coreAt
    rw [getD_in' hn]
    exact List.set_getElem_self hn
  rw [hc, if_neg (by decide)]
theorem over_at {l : List Cor} (h : overA l = true) {i : Nat} (hi : i < l.length) : (coreAt l i).h = true := by
  unfold overA at h
  rw [List.all_eq_true] at h
  unfold coreAt
  rw [getD_in' hi]
  exact h _ (List.getElem_mem hi)
theorem step_over {P : List (List I5)} {a : Atm} {n : Nat} (hn : n < a.cores.length) (h : overA a.cores = true) : stepA P a n = a := step_halted hn (over_at h hn)
theorem step_outs_ge {P : List (List I5)} {a : Atm} {n : Nat} : a.outs.length ≤ (stepA P a n).outs.length := by
  unfold stepA
  simp only
  split
  · rw [List.length_append]; omega
  · exact Nat.le_refl _
theorem step_outs_take {P : List (List I5)} {a : Atm} {n : Nat} : (stepA P a n).outs.take a.outs.length = a.outs := by
  unfold stepA
  simp only
  split
  · rw [List.take_append_of_le_length (Nat.le_refl _), List.take_length]
  · exact List.take_length
theorem step_core {P : List (List I5)} {a : Atm} {n k : Nat} (h : k ≠ n) : coreAt (stepA P a n).cores k = coreAt a.cores k := coreAt_set_other _ _ _ _ h
/-- How many of the first k words are turned. -/
def turned (m m' : List Int) : Nat → Nat
  | 0 => 0
  | k + 1 => turned m m' k + (if m.getD k 0 = m'.getD k 0 then 0 else 1)
theorem turned_le (m m' : List Int) (k : Nat) : turned m m' k ≤ k := by
  induction k with
  | zero => exact Nat.le_refl _
  | succ k ih => unfold turned; split <;> omega
theorem turned_same {m m' : List Int} {k : Nat} (h : ∀ i, i < k → m.getD i 0 = m'.getD i 0) : turned m m' k = 0 := by
  induction k with
  | zero => rfl
  | succ k ih => unfold turned; rw [ih (fun i hi => h i (by omega)), if_pos (h k (by omega))]
theorem turned_one {m m' : List Int} {j : Nat} (h : ∀ i, i ≠ j → m.getD i 0 = m'.getD i 0) (k : Nat) : turned m m' k ≤ 1 := by
  induction k with
  | zero => exact Nat.zero_le _
  | succ k ih =>
    unfold turned
    by_cases hk : k = j
    · have : turned m m' k = 0 := turned_same (fun i hi => h i (by omega))
      rw [this]; split <;> omega
    · rw [if_pos (h k hk)]; exact ih
theorem step_turned {P : List (List I5)} {a : Atm} {n : Nat} (k : Nat) : turned a.mem (stepA P a n).mem k ≤ 1 := by
  refine turned_one (j := (wantA P a n).at_.toNat) (fun i hi => ?_) k
  show a.mem.getD i 0 = (actMem a.mem (wantA P a n)).getD i 0
  exact (actMem_get (fun _ e => hi e.symm)).symm
theorem step_ok {P : List (List I5)} {a : Atm} {i : Nat} (h : rightA P a = true) (hi : i < P.length) : stepOk P a i = true := by
  have hr := right_all h
  unfold stepOk
  rw [decide_eq_true (show (0 : Int) ≤ (i : Int) by omega), decide_eq_true (show (i : Int) < (a.cores.length : Int) by rw [hr.2.2.1]; omega), h]; rfl
end Go.Proofs.Ytekiialhljfglaa
/- AtomReplays: the walk of the statement's function. -/
namespace Go.Proofs.Ytekiialhljfglaa
set_option linter.unusedVariables false
open Go.ChangeShapes Go.WideShapes Go.ChangeAt Go.RowKit

theorem wrap_small {n : Int} (h0 : 0 ≤ n) (h1 : n ≤ 9223372036854775807) : IntKind.i64.wrap n = n := by
  simp [IntKind.wrap, IntKind.bits, IntKind.signed]
  omega
theorem info3 : (Try.prog.info? 3).map (fun i => (i.zero, i.size, i.bytes)) = some (some (.int .i64 0), 1, 8) := by kernel_rfl
theorem u8C_len (l : List Int) : (u8C l).length = l.length := by unfold u8C; simp
theorem u8C_at (l : List Int) (i : Nat) (hi : i < l.length) : (u8C l)[i]? = some (.int .u8 (l.getD i 0)) := by unfold u8C; simp [List.getD, hi]
/-- What a row of one's own is cut to, from the first on. -/
theorem reslice {w : World} {base : Nat} {p : Option Addr} {l c n k : Nat} {xs : List Value} (h : w.ownsRow base 63 2 (.slice p l c) n xs) (hk : k ≤ n) (W : World) :
    (Instr.slice 25 (.slice p l c) none (some (.int .i64 (k : Int))) none).run Try.prog W = .ok (.slice p k c) W := by
  obtain ⟨i0, hi, _, hz1, _⟩ := info_parts info63
  have he : Try.prog.underlying 25 = some (.slice (Try.prog.elem 25)) := by kernel_rfl
  have hs : ∀ W, (sizeOf (Try.prog.elem 25)).run Try.prog W = .ok 2 W := fun W => by
    have e : Try.prog.elem 25 = 63 := by kernel_rfl
    rw [e]
    simp [sizeOf, typeInfo, hi, hz1]
  have hkc : (k : Int) ≤ c := by
    obtain ⟨_, ⟨e, rfl⟩ | ⟨g, cap, cur, e, _, _, h1, _⟩⟩ := h
    · injection e with _ _ e; omega
    · injection e with _ _ e; omega
  rw [run_slice_h W 25 p l c he .i64 k (by omega) hkc, hs]
  obtain ⟨_, ⟨e, rfl⟩ | ⟨g, cap, cur, e, _, _, h1, _⟩⟩ := h
  · injection e with e1 e2 e3
    subst e1
    simp [Result.andThen, sliced]
  · injection e with e1 e2 e3
    subst e1
    simp [Result.andThen, sliced, Addr.add]
theorem own_len {w : World} {base : Nat} {e : TypeId} {size : Nat} {p : Option Addr} {l c n : Nat} {xs : List Value} (h : w.ownsRow base e size (.slice p l c) n xs) : l = n := by
  obtain ⟨_, ⟨e, rfl⟩ | ⟨g, cap, cur, e, _⟩⟩ := h
  · injection e with _ e _
  · injection e with _ e _
theorem sl_prefix {w : World} {p : Option Addr} {k : Nat} {l m : List (Int × Int)} (h : Sl w p m.length (outsC m)) (h1 : l.length ≤ m.length) (h2 : m.take l.length = l) (hk : k = l.length) : Sl w p k (outsC l) := fun h0 => by
  obtain ⟨b, off, g1, g2, g3⟩ := h (by omega)
  refine ⟨b, off, g1, g2, fun j hj => ?_⟩
  have e : outsC m = outsC l ++ outsC (m.drop l.length) := by
    rw [← outsC_app]
    have := List.take_append_drop l.length m
    rw [h2] at this
    rw [this]
  rw [g3 j (by rw [e, List.length_append]; omega), e, List.getElem?_append_left hj]
section
variable {P : Program} {ops : Array Oper} {Q : Exit → Act → World → Prop} {S : World → Prop}
theorem plan_skip {K : Act → World → Prop} {i : Nat} {r : List (Nat × Bool)} {a : Act} {w : World} {o : Oper} (ho : ops[i]? = some o) (hw : Region.wanted o (yielded ops a.tmps) = false) (h : wpPlan P ops Q S K r (a.put o.dst undef) w) : wpPlan P ops Q S K ((i, true) :: r) a w :=
  ⟨o, undef, ho, .inr ⟨hw, rfl⟩, h⟩
theorem plan_skipc {K : Act → World → Prop} {i : Nat} {r : List (Nat × Bool)} {a : Act} {w : World} {o : Oper} (ho : ops[i]? = some o) (hw : Region.wanted o (yielded ops a.tmps) = false) (hS : S w) (h : wpPlan P ops Q S K r (a.put o.dst undef) w) : wpPlan P ops Q S K ((i, false) :: r) a w := by
  show wpOp P ops Q i _ a w
  unfold wpOp
  simp only [ho, hw, Bool.false_eq_true, if_false]
  exact ⟨hS, h⟩
end
def ns (np : Nat) (l : List Int) : List Int := l.map fun v => ((v.toNat % np : Nat) : Int)
theorem ns_len (np : Nat) (l : List Int) : (ns np l).length = l.length := by unfold ns; simp
theorem ns_at (np : Nat) (l : List Int) (i : Nat) (hi : i < l.length) : (ns np l).getD i 0 = (((l.getD i 0).toNat % np : Nat) : Int) := by unfold ns; simp [List.getD, hi]

set_option maxRecDepth 1000000 in
set_option maxHeartbeats 16000000 in
theorem repl_main (p pp : Option Addr) (np cap len pcap : Nat) (wd : Nat) (P : List (List I5)) (l : List Int) (w : World) (hl : P.length = np) (hp : Prgs w p P) (hs : shortB P = true) (hlen : len ≤ 150) (hw : wd ≤ 255) (h : newOk P ((wd % 64 + 1 : Nat) : Int) = true) (hll : l.length = len) (hbd : ∀ i, i < len → 0 ≤ l.getD i 0 ∧ l.getD i 0 ≤ 255) (hpp : Sl w pp len (u8C l)) :
    Calls Try.prog 5 #[.slice p np cap, .int .u8 (wd : Int), .slice pp len pcap] w fun e w' => e = .returned (.bool true) ∧ Below w.heap.size w w' := by
  have HL := Lib.hid hl
  have HP := Lib.hid hp
  have HS := Lib.hid hs
  have HN := Lib.hid h
  have HLL := Lib.hid hll
  have HPP := Lib.hid hpp
  have HBD := Lib.hid hbd
  have d1 : decide (150 < (len : Int)) = false := decide_eq_false (by omega)
  clear hl hp hs h hll hpp hbd
  go_enter Try.func5, Try.ntmps5
  go_wp2_with fail
  refine (awake_any _).mono ?_
  rintro e w1 ⟨rfl, hb1⟩
  have HB1 := Lib.hid hb1
  clear hb1
  go_wp2_with fail
  have hsh := short_any p cap P w1 (HP.out.below HB1.out)
  rw [HL.out, HS.out] at hsh
  refine hsh.mono ?_
  clear hsh
  rintro e w2 ⟨rfl, rfl⟩
  go_wp2_with fail
  have HPF := Lib.hid (prgs_fits HP.out)
  have hno := newOk_has HN.out
  have hal := all_len hno.2.2
  rw [HL.out] at hal
  obtain ⟨words, hwd⟩ : ∃ words : Nat, words = wd % 64 + 1 := ⟨_, rfl⟩
  have ewd : (wd : Int) % 64 + 1 = (words : Int) := by rw [hwd]; omega
  have hw1 : 1 ≤ words := by omega
  have hw2 : words ≤ 64 := by omega
  have HNW : Hid (newOk P (words : Int) = true) := by rw [hwd]; exact HN.out
  have HALL := Lib.hid hno.2.2
  rw [ewd]
  have hrun := new_yes p np cap words P w1 HL.out (HP.out.below HB1.out) hw1 hw2 hno.2.2 hal.2
  refine hrun.mono ?_
  clear hrun hno hwd HN
  rintro e w3 ⟨vm, vc, vo, rfl, hown, hb3⟩
  have HB3 : Hid (Below w.heap.size w w3) := HB1.out.trans (hb3.mono HB1.out.size)
  obtain ⟨a1, a2, a3, a4, a5, a6, a7, a8, a9, rfl, rfl, rfl⟩ := hown.form9
  have hrows : ∀ j, rows3 (.slice a1 a2 a3) (.slice a4 a5 a6) (.slice a7 a8 a9) j → j < w3.heap.size := fun j hj => (hown.rows j hj).2
  have HO3 : Hid (OwnM w3 w.heap.size (.slice a1 a2 a3) (.slice a4 a5 a6) (.slice a7 a8 a9) (runA P words ((ns np l).take 0))) := by
    have e : runA P words ((ns np l).take 0) = newA np words := by rw [List.take_zero, ← HL.out]; rfl
    rw [e]
    exact ⟨Joins.ownsRow_le hown.m HB1.out.size, Joins.ownsRow_le hown.c HB1.out.size, Joins.ownsRow_le hown.o HB1.out.size⟩
  have HR3 := Lib.hid hrows
  clear hb3 hown hrows
  go_wp2_with fail
  go_loopw [9, 10] (fun s9 i wr => ∃ k : Nat, k ≤ len ∧ i = .int .i64 k ∧ ∃ q9 n9 c9 a1 a2 a3 a4 a5 a6 a7 a8 a9, s9 = .slice q9 n9 c9 ∧ wr.ownsRow (w3.heap.size + 1) 3 1 (.slice q9 n9 c9) k (intC ((ns np l).take k)) ∧ Blk wr w3.heap.size #[.slice a1 a2 a3, .slice a4 a5 a6, .slice a7 a8 a9] ∧ ¬ rows3 (.slice a1 a2 a3) (.slice a4 a5 a6) (.slice a7 a8 a9) w3.heap.size ∧ OwnM wr w.heap.size (.slice a1 a2 a3) (.slice a4 a5 a6) (.slice a7 a8 a9) (runA P words ((ns np l).take k)) ∧ Below w.heap.size w wr) (fun _ i _ => len - (intOf i).toNat)
  case atStart =>
    refine ⟨0, Nat.zero_le _, rfl, none, 0, 0, a1, a2, a3, a4, a5, a6, a7, a8, a9, rfl, World.ownsRow_nil _ _ _ _, Blk.new w3 _ 27, fun h => Nat.lt_irrefl _ (HR3.out _ h), HO3.out.below ((Below.refl _ _).alloc (Nat.le_refl _) _), HB3.out.alloc HB3.out.size _⟩
  case round =>
    obtain ⟨i, hi, rfl, q9, n9, c9, b1, b2, b3, b4, b5, b6, b7, b8, b9, rfl, hrow, hbx, hnr, ho, hbel⟩ := hrel
    have HROW := Lib.hid hrow
    have HBX := Lib.hid hbx
    have HNR := Lib.hid hnr
    have HO := Lib.hid ho
    have HBE := Lib.hid hbel
    clear hrow hbx hnr ho hbel HO3 HR3
    by_cases hlt : i < len
    · obtain ⟨b, off, hb0, rfl, hb3⟩ := HPP.out.below HBE.out (by omega)
      have hz := HBD.out i hlt
      obtain ⟨zz, hzz⟩ := Int.eq_ofNat_of_zero_le hz.1
      have c0 : wr.cell? ⟨b, off + i, none⟩ = some (.int .u8 (zz : Int)) := (hb3 i (by rw [u8C_len, HLL.out]; exact hlt)).trans (by rw [← hzz]; exact u8C_at l i (by rw [HLL.out]; exact hlt))
      obtain ⟨n, hn⟩ : ∃ n, n = zz % np := ⟨_, rfl⟩
      have hnp : n < np := by rw [hn]; exact Nat.mod_lt _ (by omega)
      have en : (zz : Int) % (np : Int) = (n : Int) := by rw [hn]; push_cast; rfl
      have hz2 : zz ≤ 255 := by omega
      have HNS : Hid ((ns np l).take (i + 1) = (ns np l).take i ++ [(n : Int)]) := by
        show _ = _
        rw [List.take_add_one]
        have hl2 : i < (ns np l).length := by rw [ns_len, HLL.out]; exact hlt
        have e2 := ns_at np l i (by rw [HLL.out]; exact hlt)
        rw [hzz] at e2
        rw [List.getElem?_eq_getElem hl2]
        have e3 : (ns np l)[i] = (n : Int) := by
          have : (ns np l).getD i 0 = (ns np l)[i] := by simp [List.getD, hl2]
          rw [← this, e2, hn]; rfl
        rw [e3]; rfl
      have HNP := Lib.hid hnp
      have np0 : ((np : Int) == 0) = false := by simp; omega
      have np1 : (np : Int) ≠ 0 := by omega
      obtain ⟨i3, hi3, hz30, hz31, hz32⟩ := info_parts info3
      clear hb3 hb0 hz hzz hn
      go_wp2_with (at_builtin; refine wpList_append_own_at _ rfl _ _ 48 rfl (w3.heap.size + 1) 3 i3 (.int .i64 0) 1 8 Try.underlying48 hi3 hz30 hz31 hz32 rfl (by decide) _ i _ rfl (HROW.out.alloc _) ⟨wr.heap.size, 0, none⟩ 1 1 [.int .i64 n] rfl rfl ?qc2 ?qc3 ?qc4 ?qc5 ?qc6 ?_)
      case qc2 =>
        intro j u hj
        rw [Addr.add_lit, Nat.zero_add, World.cell?_alloc_new]
        simpa using hj
      case qc3 => intro u hu; simp at hu; subst hu; rfl
      case qc4 => unfold maxLen; omega
      case qc5 => omega
      case qc6 => rw [World.size_alloc]; exact Nat.succ_le_succ (by have := HBX.out.lt; omega)
      intro v' w4 hown hgrow hnil hblk
      clear hnil hblk
      obtain ⟨g9, k9, rfl⟩ := Joins.ownsRow_form hown (Nat.succ_pos _)
      have hne : (Value.slice q9 n9 c9).ownBlock ≠ some w3.heap.size := fun e => by have := (HROW.out.lt _ e).1; omega
      have HROW4 : Hid (w4.ownsRow (w3.heap.size + 1) 3 1 (.slice (some ⟨g9, 0, none⟩) (i + 1) k9) (i + 1) (intC ((ns np l).take (i + 1)))) := by
        show World.ownsRow _ _ _ _ _ _ _
        rw [HNS.out]
        have e : intC ((ns np l).take i ++ [(n : Int)]) = intC ((ns np l).take i) ++ [.int .i64 (n : Int)] := by unfold intC; simp
        rw [e]
        exact hown
      have HBX4 := Lib.hid ((HBX.out.alloc (.cells #[.int .i64 n] 3)).grown hgrow hne)
      have HO4 : Hid (OwnM w4 w.heap.size (.slice b1 b2 b3) (.slice b4 b5 b6) (.slice b7 b8 b9) (runA P words ((ns np l).take i))) :=
        ⟨(HO.out.m.alloc _).kept hgrow (own_diff HO.out.m HROW.out (by decide)), (HO.out.c.alloc _).kept hgrow (own_diff HO.out.c HROW.out (by decide)), (HO.out.o.alloc _).kept hgrow (own_diff HO.out.o HROW.out (by decide))⟩
      have HB4 : Hid (Below w.heap.size w w4) := (HBE.out.alloc HBE.out.size _).grown hgrow (by rw [World.size_alloc]; exact Nat.le_succ_of_le HBE.out.size) (fun j hj => by have := (HROW.out.lt j hj).1; have := HB3.out.size; omega)
      clear hown hgrow hne HROW HBX HO HBE c0
      obtain ⟨A, hA⟩ : ∃ A, A = runA P words ((ns np l).take i) := ⟨_, rfl⟩
      rw [← hA] at HO4
      have HGD : Hid (Good P words i A) := by rw [hA]; exact runA_good HPF.out (ns np l) i (by rw [ns_len, HLL.out]; omega)
      have HRA : Hid (rightA P A = true) := by rw [hA]; exact runA_right HPF.out hw1 hw2 HALL.out (ns np l) i (by rw [ns_len, HLL.out]; omega)
      have HAS : Hid (runA P words ((ns np l).take (i + 1)) = stepA P A n) := by
        show _ = _
        rw [runA_take (by rw [ns_len, HLL.out]; exact hlt), ← hA]
        have hl2 : i < (ns np l).length := by rw [ns_len, HLL.out]; exact hlt
        have h3 := HNS.out
        rw [List.take_add_one, List.getElem?_eq_getElem hl2] at h3
        have h4 := List.append_cancel_left h3
        have h5 : (ns np l)[i] = (n : Int) := by simpa using h4
        have h6 : (ns np l).getD i 0 = (n : Int) := by rw [← h5]; simp [List.getD, hl2]
        rw [h6, pick_in (by rw [HGD.out.c, HL.out]; exact hnp)]
      clear hA
      have HNPP : Hid (n < P.length) := by rw [HL.out]; exact hnp
      have cB := HBX4.out.c
      have lB := HBX4.out.lt
      go_wp2_with fail
      have hst := Step_res p cap (.agg #[.slice b1 b2 b3, .slice b4 b5 b6, .slice b7 b8 b9]) n P A w4 (HP.out.below HB4.out) HO4.out.mach (by rw [HGD.out.m]; omega) (by rw [HGD.out.c, HL.out]; omega) (by have := HGD.out.o; omega) (fun _ => HGD.out.f)
      have e1 : stepRes P A n = stepA P A n := by unfold stepRes; rw [if_pos (step_ok HRA.out HNPP.out)]; rfl
      have e2 : stepErr P A n = 0 := by unfold stepErr; rw [if_pos (step_ok HRA.out HNPP.out)]
      rw [HL.out, e1, e2] at hst
      refine hst.mono ?_
      clear hst e1 e2
      rintro e w5 ⟨d1, d2, d3, d4, d5, d6, d7, d8, d9, rfl, ho5, hb5⟩
      have HD5 := Lib.hid ho5
      have HB5 : Hid (Below w.heap.size w w5) := HB4.out.trans (hb5.mono HB4.out.size)
      have HBX5 := Lib.hid (HBX4.out.below hb5)
      have HO5 := Lib.hid (HO4.out.below hb5)
      have HROW5 := Lib.hid (own_below HROW4.out hb5)
      have HS5 : Hid (w4.heap.size ≤ w5.heap.size ∧ w3.heap.size < w4.heap.size) := ⟨hb5.size, HBX4.out.lt⟩
      clear ho5 hb5 HB4 HBX4 HO4 HROW4 cB lB
      go_upto_region 15 with fail
      obtain ⟨W, hW⟩ : ∃ W, W = w5.alloc (.cells #[.slice d1 d2 d3, .slice d4 d5 d6, .slice d7 d8 d9] 27) := ⟨_, rfl⟩
      have HA5 : Hid (Below w5.heap.size w5 W) := by rw [hW]; exact (Below.refl _ _).alloc (Nat.le_refl _) _
      have HDX : Hid (Blk W w5.heap.size #[.slice d1 d2 d3, .slice d4 d5 d6, .slice d7 d8 d9]) := by rw [hW]; exact Blk.new w5 _ 27
      rw [← hW]
      clear hW
      have HDW := Lib.hid (HD5.out.below HA5.out)
      have HBW := Lib.hid (HBX5.out.below HA5.out)
      have HOW := Lib.hid (HO5.out.below HA5.out)
      have HRW := Lib.hid (own_below HROW5.out HA5.out)
      have HWW : Hid (Below w.heap.size w W) := HB5.out.trans (HA5.out.mono HB5.out.size)
      clear HA5 HD5 HBX5 HO5 HROW5 HB5
      have lo : b8 = A.outs.length := own_len HOW.out.o
      have ld : d8 = (stepA P A n).outs.length := own_len HDW.out.o
      have hge : b8 ≤ d8 := by rw [lo, ld]; exact step_outs_ge
      have hle : d8 ≤ b8 + 1 := by rw [lo, ld]; exact stepA_outs _ _ _
      have hsm : b8 ≤ 150 := by rw [lo]; have := HGD.out.o; omega
      have f1 : decide ((d8 : Int) < (b8 : Int)) = false := decide_eq_false (by omega)
      have f2 : decide ((b8 : Int) + 1 < (d8 : Int)) = false := decide_eq_false (by omega)
      have f3 : decide (d8 < b8) = false := decide_eq_false (by omega)
      have f4 : decide (b8 + 1 < d8) = false := decide_eq_false (by omega)
      have f5 : IntKind.i64.wrap ((b8 : Int) + 1) = (b8 : Int) + 1 := wrap_small (by omega) (by omega)
      have LO := Lib.hid lo
      have LD := Lib.hid ld
      have HGE := Lib.hid hge
      have hsl : ∀ V, (Instr.slice 25 (.slice d7 d8 d9) none (some (.int .i64 (b8 : Int))) none).run Try.prog V = .ok (.slice d7 b8 d9) V := fun V => reslice HDW.out.o (by rw [← LD.out]; exact HGE.out) V
      clear lo ld
      obtain ⟨ov, hov⟩ : ∃ ov, ov = overA A.cores := ⟨_, rfl⟩
      have HOV := Lib.hid hov
      clear hov
      have HLC : Hid (A.cores.length = b5) := (own_len HOW.out.c).symm
      have HSO : Hid (Sl W b7 b8 (outsC A.outs)) := by
        obtain ⟨p0, k0, e0, hs0⟩ := Sl.own HOW.out.o
        injection e0 with e1 e2 e3
        rw [e1, e2]; exact hs0
      have HSD : Hid (Sl W d7 b8 (outsC A.outs)) := by
        obtain ⟨p0, k0, e0, hs0⟩ := Sl.own HDW.out.o
        injection e0 with e1 e2 e3
        rw [e1]
        exact sl_prefix hs0 step_outs_ge step_outs_take LO.out
      have HSC : Hid (Sl W b4 b5 (coresC A.cores)) := by
        obtain ⟨p0, k0, e0, hs0⟩ := Sl.own HOW.out.c
        injection e0 with e1 e2 e3
        rw [e1, e2]; exact hs0
      go_cut [111] (fun s111 wd => s111 = .bool false ∧ Below W.heap.size W wd)
      case first =>
        refine region_plan (fun w' : World => (∀ j, w'.cell? ⟨w3.heap.size, j, none⟩ = (#[.slice b1 b2 b3, .slice b4 b5 b6, .slice b7 b8 b9] : Array Value)[j]?) ∧ (∀ j, w'.cell? ⟨w5.heap.size, j, none⟩ = (#[.slice d1 d2 d3, .slice d4 d5 d6, .slice d7 d8 d9] : Array Value)[j]?)) 41 [(0, true), (1, true), (2, true), (3, true), (4, true), (5, true), (6, true), (7, true), (8, true), (9, true), (10, true), (11, true), (12, true), (13, true), (14, true), (15, true), (16, true), (17, true), (18, true), (19, true), (20, true), (21, true), (22, true), (23, true), (24, true), (25, true), (26, true), (27, true), (28, true), (29, true), (30, false), (31, true), (32, true), (33, true), (34, true), (35, false), (36, true), (37, true), (38, true), (39, false), (40, true)] (by kernel_rfl) (by kernel_rfl) ⟨HBW.out.c, HDX.out.c⟩ ?_
        iterate 30
          refine plan_read (v := ?_) rfl (by rfl) ?_ ?_
          rotate_left
          · intro w' hS
            try dsimp only at hS
            go_simp
            try with_reducible rfl
          try simp only [Act.put, List.setIfInBounds_toArray, List.set_cons_zero, List.set_cons_succ, List.getElem_toArray, List.getElem_cons_zero, List.getElem_cons_succ, f5, f1, f2, f3, f4]
        refine plan_call (F := 22) (args := ?_) rfl (by rfl) ?_ ?_
        rotate_left
        · go_simp
          rfl
        refine (outs_same b7 d7 b8 b9 d9 A.outs W.drew LO.out.symm (by unfold maxLen; omega) (HSO.out.below (Below.refl _ _).drew) (HSD.out.below (Below.refl _ _).drew)).mono ?_
        rintro e w6 ⟨rfl, hb6⟩
        have HB6 : Hid (Below W.heap.size W w6) := (Below.refl _ _).drew.trans hb6
        refine ⟨_, rfl, ⟨(HBW.out.below HB6.out).c, (HDX.out.below HB6.out).c⟩, ?_⟩
        clear hb6
        try simp only [Act.put, List.setIfInBounds_toArray, List.set_cons_zero, List.set_cons_succ, List.getElem_toArray, List.getElem_cons_zero, List.getElem_cons_succ, f5, f1, f2, f3, f4]
        iterate 4
          refine plan_read (v := ?_) rfl (by rfl) ?_ ?_
          rotate_left
          · intro w' hS
            try dsimp only at hS
            go_simp
            try with_reducible rfl
          try simp only [Act.put, List.setIfInBounds_toArray, List.set_cons_zero, List.set_cons_succ, List.getElem_toArray, List.getElem_cons_zero, List.getElem_cons_succ, f5, f1, f2, f3, f4]
        refine plan_call (F := 12) (args := ?_) rfl (by rfl) ?_ ?_
        rotate_left
        · go_simp
          rfl
        refine (over_any b1 b4 b7 b2 b3 b5 b6 b8 b9 A.cores w6 HLC.out (by have := HGD.out.c; rw [HLC.out, HL.out] at this; unfold maxLen; omega) (HSC.out.below HB6.out)).mono ?_
        rintro e w7 ⟨rfl, hb7⟩
        rw [← HOV.out]
        have HB7 : Hid (Below W.heap.size W w7) := HB6.out.trans (hb7.mono HB6.out.size)
        refine ⟨_, rfl, ⟨(HBW.out.below HB7.out).c, (HDX.out.below HB7.out).c⟩, ?_⟩
        clear hb7
        try simp only [Act.put, List.setIfInBounds_toArray, List.set_cons_zero, List.set_cons_succ, List.getElem_toArray, List.getElem_cons_zero, List.getElem_cons_succ, f5, f1, f2, f3, f4]
        iterate 1
          refine plan_read (v := ?_) rfl (by rfl) ?_ ?_
          rotate_left
          · intro w' hS
            try dsimp only at hS
            go_simp
            try with_reducible rfl
          try simp only [Act.put, List.setIfInBounds_toArray, List.set_cons_zero, List.set_cons_succ, List.getElem_toArray, List.getElem_cons_zero, List.getElem_cons_succ, f5, f1, f2, f3, f4]
        cases ov with
        | true =>
          iterate 2
            refine plan_read (v := ?_) rfl (by rfl) ?_ ?_
            rotate_left
            · intro w' hS
              try dsimp only at hS
              go_simp
              try with_reducible rfl
            try simp only [Act.put, List.setIfInBounds_toArray, List.set_cons_zero, List.set_cons_succ, List.getElem_toArray, List.getElem_cons_zero, List.getElem_cons_succ, f5, f1, f2, f3, f4]
          refine plan_call (F := 16) (args := ?_) rfl (by rfl) ?_ ?_
          rotate_left
          · go_simp
            rfl
          have es : stepA P A n = A := step_over (by rw [HLC.out]; have := HGD.out.c; rw [HLC.out, HL.out] at this; omega) HOV.out.symm
          refine (same_any _ _ A w7 (by rw [HGD.out.m]; unfold maxLen; omega) (by rw [HGD.out.c, HL.out]; unfold maxLen; omega) (by have := HGD.out.o; unfold maxLen; omega) (HOW.out.below HB7.out).mach (by have h := (HDW.out.below HB7.out).mach; rw [es] at h; exact h)).mono ?_
          rintro e w8 ⟨rfl, hb8⟩
          have HB8 : Hid (Below W.heap.size W w8) := HB7.out.trans (hb8.mono HB7.out.size)
          refine ⟨_, rfl, ⟨(HBW.out.below HB8.out).c, (HDX.out.below HB8.out).c⟩, ?_⟩
          clear hb8
          try simp only [Act.put, List.setIfInBounds_toArray, List.set_cons_zero, List.set_cons_succ, List.getElem_toArray, List.getElem_cons_zero, List.getElem_cons_succ, f5, f1, f2, f3, f4]
          iterate 1
            refine plan_read (v := ?_) rfl (by rfl) ?_ ?_
            rotate_left
            · intro w' hS
              try dsimp only at hS
              go_simp
              try with_reducible rfl
            try simp only [Act.put, List.setIfInBounds_toArray, List.set_cons_zero, List.set_cons_succ, List.getElem_toArray, List.getElem_cons_zero, List.getElem_cons_succ, f5, f1, f2, f3, f4]
          refine plan_nil ?_
          simp only [List.drop_succ_cons, List.drop_zero]
          go_wp2_with fail
          go_meet
          case rel => exact ⟨rfl, HB8.out⟩
        | false =>
          iterate 2
            refine plan_skip rfl (by rfl) ?_
            try simp only [Act.put, List.setIfInBounds_toArray, List.set_cons_zero, List.set_cons_succ, List.getElem_toArray, List.getElem_cons_zero, List.getElem_cons_succ, f5, f1, f2, f3, f4]
          refine plan_skipc rfl (by rfl) ⟨(HBW.out.below HB7.out).c, (HDX.out.below HB7.out).c⟩ ?_
          try simp only [Act.put, List.setIfInBounds_toArray, List.set_cons_zero, List.set_cons_succ, List.getElem_toArray, List.getElem_cons_zero, List.getElem_cons_succ, f5, f1, f2, f3, f4]
          refine plan_skip rfl (by rfl) ?_
          try simp only [Act.put, List.setIfInBounds_toArray, List.set_cons_zero, List.set_cons_succ, List.getElem_toArray, List.getElem_cons_zero, List.getElem_cons_succ, f5, f1, f2, f3, f4]
          refine plan_nil ?_
          simp only [List.drop_succ_cons, List.drop_zero]
          go_wp2_with fail
          go_meet
          case rel => exact ⟨rfl, HB7.out⟩
      case rest =>
        obtain ⟨rfl, hbc⟩ := hcut
        obtain ⟨W7, hW7⟩ : ∃ W7, W7 = wc := ⟨_, rfl⟩
        subst hW7
        have HWC : Hid (Below w.heap.size w W7) := HWW.out.trans (hbc.mono HWW.out.size)
        have HB7 := Lib.hid (HBW.out.below hbc)
        have HD7 := Lib.hid (HDX.out.below hbc)
        have HO7 := Lib.hid (HOW.out.below hbc)
        have HE7 := Lib.hid (HDW.out.below hbc)
        have HR7 := Lib.hid (own_below HRW.out hbc)
        have HS7 : Hid (w5.heap.size < W7.heap.size) := HD7.out.lt
        clear hbc HBW HDX HOW HDW HRW HSO HSD HSC f1 f2 f3 f4 f5 hsl
        have lm : b2 = A.mem.length := own_len HO7.out.m
        have lc : b5 = A.cores.length := own_len HO7.out.c
        have lm2 : d2 = b2 := by rw [own_len HE7.out.m, stepA_mem]; exact lm.symm
        have lc2 : d5 = b5 := by rw [own_len HE7.out.c, stepA_cores]; exact lc.symm
        subst lm2 lc2
        obtain ⟨gm, gmc, egm⟩ := Joins.ownsRow_form HO7.out.m (by rw [HGD.out.m]; omega)
        obtain ⟨gc, gcc, egc⟩ := Joins.ownsRow_form HO7.out.c (by rw [HGD.out.c, HL.out]; omega)
        obtain ⟨hm, hmc, ehm⟩ := Joins.ownsRow_form HE7.out.m (by rw [stepA_mem, HGD.out.m]; omega)
        obtain ⟨hc', hcc, ehc⟩ := Joins.ownsRow_form HE7.out.c (by rw [stepA_cores, HGD.out.c, HL.out]; omega)
        injection egm with egm q1 q2
        clear q1 q2
        injection egc with egc q1 q2
        clear q1 q2
        injection ehm with ehm q1 q2
        clear q1 q2
        injection ehc with ehc q1 q2
        clear q1 q2
        subst egm egc ehm ehc
        have HLM := Lib.hid lm
        have HLCC := Lib.hid lc
        have HW64 : Hid (d2 ≤ 64 ∧ d5 ≤ 4) := ⟨by rw [lm, HGD.out.m]; exact hw2, by rw [lc, HGD.out.c, HL.out]; exact hal.2⟩
        clear lm lc hge hle hsm
        have mcell : Hid (∀ k, k < d2 → W7.cell? ⟨gm, k, none⟩ = some (.int .u32 (A.mem.getD k 0)) ∧ W7.cell? ⟨hm, k, none⟩ = some (.int .u32 ((stepA P A n).mem.getD k 0))) := fun k hk => by
          have h1 := HO7.out.m
          rw [← HLM.out] at h1
          have h2 := HE7.out.m
          rw [stepA_mem, ← HLM.out] at h2
          exact ⟨(h1.cellAt k (by omega)).trans (memC_at _ _ (by rw [← HLM.out]; exact hk)), (h2.cellAt k (by omega)).trans (memC_at _ _ (by rw [stepA_mem, ← HLM.out]; exact hk))⟩
        have ccell : Hid (∀ k, k < d5 → (∀ j, j < 10 → W7.cell? ⟨gc, k * 10 + j, none⟩ = (coreAt A.cores k).row[j]?) ∧ (∀ j, j < 10 → W7.cell? ⟨hc', k * 10 + j, none⟩ = (coreAt (stepA P A n).cores k).row[j]?)) := fun k hk => by
          have h1 := HO7.out.c
          rw [← HLCC.out] at h1
          have h2 := HE7.out.c
          rw [stepA_cores, ← HLCC.out] at h2
          exact ⟨fun j hj => by rw [h1.cellAt (k * 10 + j) (by omega), coresC_at _ _ _ (by rw [← HLCC.out]; exact hk) hj], fun j hj => by rw [h2.cellAt (k * 10 + j) (by omega), coresC_at _ _ _ (by rw [stepA_cores, ← HLCC.out]; exact hk) hj]⟩
        have HLTS : Hid (gm < W7.heap.size ∧ gc < W7.heap.size ∧ hm < W7.heap.size ∧ hc' < W7.heap.size) := ⟨(HO7.out.m.lt gm rfl).2, (HO7.out.c.lt gc rfl).2, (HE7.out.m.lt hm rfl).2, (HE7.out.c.lt hc' rfl).2⟩
        have HN5 : Hid (n < d5) := by show n < d5; rw [HLCC.out, HGD.out.c, HL.out]; exact HNP.out
        go_upto_region 18 with fail
        go_wp2_with fail
        go_loopw [14, 15] (fun s14 i wr => ∃ k : Nat, k ≤ d2 ∧ i = .int .i64 k ∧ s14 = .int .i64 (turned A.mem (stepA P A n).mem k : Nat) ∧ Below W7.heap.size W7 wr) (fun _ i _ => d2 - (intOf i).toNat)
        case atStart => exact ⟨0, Nat.zero_le _, rfl, rfl, Below.refl _ _⟩
        case round =>
          obtain ⟨k, hk, rfl, rfl, hbr⟩ := hrel
          have HBR := Lib.hid hbr
          clear hbr
          have cB := (HB7.out.below HBR.out).c
          by_cases hkl : k < d2
          · have cD := (HD7.out.below HBR.out).c
            obtain ⟨x, hx⟩ : ∃ x, x = A.mem.getD k 0 := ⟨_, rfl⟩
            obtain ⟨y, hy⟩ : ∃ y, y = (stepA P A n).mem.getD k 0 := ⟨_, rfl⟩
            have m0 : wr.cell? ⟨gm, k, none⟩ = some (.int .u32 x) := by rw [hx]; exact (HBR.out.cell (p := ⟨gm, k, none⟩) HLTS.out.1).trans (mcell.out k hkl).1
            have m1 : wr.cell? ⟨hm, k, none⟩ = some (.int .u32 y) := by rw [hy]; exact (HBR.out.cell (p := ⟨hm, k, none⟩) HLTS.out.2.2.1).trans (mcell.out k hkl).2
            have htl := turned_le A.mem (stepA P A n).mem k
            have htk : turned A.mem (stepA P A n).mem (k + 1) = turned A.mem (stepA P A n).mem k + (if x = y then 0 else 1) := by rw [hx, hy]; rfl
            obtain ⟨t, ht⟩ : ∃ t, t = turned A.mem (stepA P A n).mem k := ⟨_, rfl⟩
            rw [← ht] at htl htk ⊢
            have HTK := Lib.hid htk
            have hw64 := HW64.out.1
            clear hx hy ht htk
            by_cases hxy : x = y
            · subst hxy
              have e1 : (x != x) = false := by simp
              go_wp2_with fail
              go_quiet (fail)
              go_wp2
              go_roundw
              case rel => exact ⟨k + 1, by omega, by go_num, by rw [HTK.out]; simp, below_drewN HBR.out _⟩
              case measure => simp [intOf]; omega
            · have e1 : (x != y) = true := by simpa using hxy
              have ew : IntKind.i64.wrap ((t : Int) + 1) = (t : Int) + 1 := wrap_small (by omega) (by omega)
              have HXY := Lib.hid hxy
              clear hxy
              go_wp2_with fail
              go_quiet (fail)
              go_wp2
              go_roundw
              case rel => exact ⟨k + 1, by omega, by go_num, by rw [HTK.out, if_neg HXY.out]; simp, below_drewN HBR.out _⟩
              case measure => simp [intOf]; omega
          · have ht1 := step_turned (P := P) (a := A) (n := n) k
            obtain ⟨t, ht⟩ : ∃ t, t = turned A.mem (stepA P A n).mem k := ⟨_, rfl⟩
            rw [← ht] at ht1 ⊢
            clear ht
            have HT1 := Lib.hid ht1
            clear ht1 mcell
            have f9 : decide (1 < (t : Int)) = false := decide_eq_false (by have := HT1.out; omega)
            go_wp2_with fail
            go_loopw [16] (fun i wr => ∃ k : Nat, k ≤ d5 ∧ i = .int .i64 k ∧ Below W7.heap.size W7 wr) (fun i _ => d5 - (intOf i).toNat)
            case atStart => exact ⟨0, Nat.zero_le _, rfl, HBR.out⟩
            case round =>
              clear HBR cB
              obtain ⟨k, hk, rfl, hbr⟩ := hrel
              have HBR := Lib.hid hbr
              clear hbr
              have cB := (HB7.out.below HBR.out).c
              have cD := (HD7.out.below HBR.out).c
              have hw4 := HW64.out.2
              by_cases hkl : k < d5
              · go_upto_region 26 with fail
                go_cut [154] (fun s154 wd => s154 = .bool false ∧ Below wr.heap.size wr wd)
                case first =>
                  by_cases hkn : k = n
                  · subst hkn
                    have e1 : (((k : Nat) : Int) != (k : Int)) = false := by simp
                    refine region_plan (fun w' : World => w' = wr.drew) 15 [(0, true), (1, true), (2, true), (3, true), (4, true), (5, true), (6, true), (7, true), (8, true), (9, true), (10, true), (11, true), (12, true), (13, true), (14, true)] (by kernel_rfl) (by kernel_rfl) rfl ?_
                    iterate 4
                      refine plan_read (v := ?_) rfl (by rfl) ?_ ?_
                      rotate_left
                      · intro w' hS
                        subst hS
                        go_simp
                        try with_reducible rfl
                      try simp only [Act.put, List.setIfInBounds_toArray, List.set_cons_zero, List.set_cons_succ, List.getElem_toArray, List.getElem_cons_zero, List.getElem_cons_succ, e1]
                    iterate 11
                      refine plan_skip rfl (by rfl) ?_
                      try simp only [Act.put, List.setIfInBounds_toArray, List.set_cons_zero, List.set_cons_succ, List.getElem_toArray, List.getElem_cons_zero, List.getElem_cons_succ]
                    refine plan_nil ?_
                    simp only [List.drop_succ_cons, List.drop_zero]
                    go_wp2_with fail
                    go_meet
                    case rel => exact ⟨rfl, (Below.refl _ _).drew⟩
                  · have e1 : (((k : Nat) : Int) != (n : Int)) = true := by simp; omega
                    obtain ⟨c, hc⟩ : ∃ c, c = coreAt A.cores k := ⟨_, rfl⟩
                    have K1 : ∀ j, j < 10 → wr.cell? ⟨gc, k * 10 + j, none⟩ = c.row[j]? := fun j hj => by rw [hc]; exact (HBR.out.cell (p := ⟨gc, k * 10 + j, none⟩) HLTS.out.2.1).trans ((ccell.out k hkl).1 j hj)
                    have K2 : ∀ j, j < 10 → wr.cell? ⟨hc', k * 10 + j, none⟩ = c.row[j]? := fun j hj => by rw [hc, ← step_core (P := P) (n := n) hkn]; exact (HBR.out.cell (p := ⟨hc', k * 10 + j, none⟩) HLTS.out.2.2.2).trans ((ccell.out k hkl).2 j hj)
                    have c0 : wr.cell? ⟨gc, k * 10, none⟩ = some (.int .u32 (c.r 0)) := K1 0 (by omega)
                    have c1 : wr.cell? ⟨gc, k * 10 + 1, none⟩ = some (.int .u32 (c.r 1)) := K1 1 (by omega)
                    have c2 : wr.cell? ⟨gc, k * 10 + 2, none⟩ = some (.int .u32 (c.r 2)) := K1 2 (by omega)
                    have c3 : wr.cell? ⟨gc, k * 10 + 3, none⟩ = some (.int .u32 (c.r 3)) := K1 3 (by omega)
                    have c4 : wr.cell? ⟨gc, k * 10 + 4, none⟩ = some (.int .u32 (c.r 4)) := K1 4 (by omega)
                    have c5 : wr.cell? ⟨gc, k * 10 + 5, none⟩ = some (.int .u32 (c.r 5)) := K1 5 (by omega)
                    have c6 : wr.cell? ⟨gc, k * 10 + 6, none⟩ = some (.int .u32 (c.r 6)) := K1 6 (by omega)
                    have c7 : wr.cell? ⟨gc, k * 10 + 7, none⟩ = some (.int .u32 (c.r 7)) := K1 7 (by omega)
                    have c8 : wr.cell? ⟨gc, k * 10 + 8, none⟩ = some (.int .i64 c.pc) := K1 8 (by omega)
                    have c9 : wr.cell? ⟨gc, k * 10 + 9, none⟩ = some (.bool c.h) := K1 9 (by omega)
                    have g0 : wr.cell? ⟨hc', k * 10, none⟩ = some (.int .u32 (c.r 0)) := K2 0 (by omega)
                    have g1 : wr.cell? ⟨hc', k * 10 + 1, none⟩ = some (.int .u32 (c.r 1)) := K2 1 (by omega)
                    have g2 : wr.cell? ⟨hc', k * 10 + 2, none⟩ = some (.int .u32 (c.r 2)) := K2 2 (by omega)
                    have g3 : wr.cell? ⟨hc', k * 10 + 3, none⟩ = some (.int .u32 (c.r 3)) := K2 3 (by omega)
                    have g4 : wr.cell? ⟨hc', k * 10 + 4, none⟩ = some (.int .u32 (c.r 4)) := K2 4 (by omega)
                    have g5 : wr.cell? ⟨hc', k * 10 + 5, none⟩ = some (.int .u32 (c.r 5)) := K2 5 (by omega)
                    have g6 : wr.cell? ⟨hc', k * 10 + 6, none⟩ = some (.int .u32 (c.r 6)) := K2 6 (by omega)
                    have g7 : wr.cell? ⟨hc', k * 10 + 7, none⟩ = some (.int .u32 (c.r 7)) := K2 7 (by omega)
                    have g8 : wr.cell? ⟨hc', k * 10 + 8, none⟩ = some (.int .i64 c.pc) := K2 8 (by omega)
                    have g9 : wr.cell? ⟨hc', k * 10 + 9, none⟩ = some (.bool c.h) := K2 9 (by omega)
                    clear K1 K2 hc
                    have hq : ∀ W, (binOp .neq 55 (.agg #[.int .u32 (c.r 0), .int .u32 (c.r 1), .int .u32 (c.r 2), .int .u32 (c.r 3), .int .u32 (c.r 4), .int .u32 (c.r 5), .int .u32 (c.r 6), .int .u32 (c.r 7), .int .i64 c.pc, .bool c.h]) (.agg #[.int .u32 (c.r 0), .int .u32 (c.r 1), .int .u32 (c.r 2), .int .u32 (c.r 3), .int .u32 (c.r 4), .int .u32 (c.r 5), .int .u32 (c.r 6), .int .u32 (c.r 7), .int .i64 c.pc, .bool c.h])).run Try.prog W = .ok (.bool false) W := fun W => (neq_core W c c).trans (by rw [eqC_refl]; rfl)
                    refine region_plan (fun w' : World => w' = wr.drew) 15 [(0, true), (1, true), (2, true), (3, true), (4, true), (5, true), (6, true), (7, true), (8, true), (9, true), (10, true), (11, true), (12, true), (13, true), (14, true)] (by kernel_rfl) (by kernel_rfl) rfl ?_
                    iterate 15
                      refine plan_read (v := ?_) rfl (by rfl) ?_ ?_
                      rotate_left
                      · intro w' hS
                        subst hS
                        go_simp
                        try with_reducible rfl
                      try simp only [Act.put, List.setIfInBounds_toArray, List.set_cons_zero, List.set_cons_succ, List.getElem_toArray, List.getElem_cons_zero, List.getElem_cons_succ, e1]
                    refine plan_nil ?_
                    simp only [List.drop_succ_cons, List.drop_zero]
                    go_wp2_with fail
                    go_meet
                    case rel => exact ⟨rfl, (Below.refl _ _).drew⟩
                case rest =>
                  obtain ⟨rfl, hbx⟩ := hcut
                  have HBX : Hid (Below W7.heap.size W7 wc) := HBR.out.trans (hbx.mono HBR.out.size)
                  clear hbx cB cD
                  go_wp2_with fail
                  go_roundw
                  case rel => exact ⟨k + 1, by omega, by go_num, HBX.out⟩
                  case measure => simp [intOf]; omega
              · have hn5 := HN5.out
                obtain ⟨c, hc⟩ : ∃ c, c = coreAt A.cores n := ⟨_, rfl⟩
                have K1 : ∀ j, j < 10 → wr.cell? ⟨gc, n * 10 + j, none⟩ = c.row[j]? := fun j hj => by rw [hc]; exact (HBR.out.cell (p := ⟨gc, n * 10 + j, none⟩) HLTS.out.2.1).trans ((ccell.out n hn5).1 j hj)
                have K2 : c.h = true → ∀ j, j < 10 → wr.cell? ⟨hc', n * 10 + j, none⟩ = c.row[j]? := fun hh j hj => by
                  have e := (HBR.out.cell (p := ⟨hc', n * 10 + j, none⟩) HLTS.out.2.2.2).trans ((ccell.out n hn5).2 j hj)
                  rw [step_halted (by rw [← HLCC.out]; exact hn5) (by rw [← hc]; exact hh), ← hc] at e
                  exact e
                have c0 : wr.cell? ⟨gc, n * 10, none⟩ = some (.int .u32 (c.r 0)) := K1 0 (by omega)
                have c1 : wr.cell? ⟨gc, n * 10 + 1, none⟩ = some (.int .u32 (c.r 1)) := K1 1 (by omega)
                have c2 : wr.cell? ⟨gc, n * 10 + 2, none⟩ = some (.int .u32 (c.r 2)) := K1 2 (by omega)
                have c3 : wr.cell? ⟨gc, n * 10 + 3, none⟩ = some (.int .u32 (c.r 3)) := K1 3 (by omega)
                have c4 : wr.cell? ⟨gc, n * 10 + 4, none⟩ = some (.int .u32 (c.r 4)) := K1 4 (by omega)
                have c5 : wr.cell? ⟨gc, n * 10 + 5, none⟩ = some (.int .u32 (c.r 5)) := K1 5 (by omega)
                have c6 : wr.cell? ⟨gc, n * 10 + 6, none⟩ = some (.int .u32 (c.r 6)) := K1 6 (by omega)
                have c7 : wr.cell? ⟨gc, n * 10 + 7, none⟩ = some (.int .u32 (c.r 7)) := K1 7 (by omega)
                have c8 : wr.cell? ⟨gc, n * 10 + 8, none⟩ = some (.int .i64 c.pc) := K1 8 (by omega)
                have c9 : wr.cell? ⟨gc, n * 10 + 9, none⟩ = some (.bool c.h) := K1 9 (by omega)
                clear K1 hc
                have hq : ∀ W, (binOp .neq 55 (.agg #[.int .u32 (c.r 0), .int .u32 (c.r 1), .int .u32 (c.r 2), .int .u32 (c.r 3), .int .u32 (c.r 4), .int .u32 (c.r 5), .int .u32 (c.r 6), .int .u32 (c.r 7), .int .i64 c.pc, .bool c.h]) (.agg #[.int .u32 (c.r 0), .int .u32 (c.r 1), .int .u32 (c.r 2), .int .u32 (c.r 3), .int .u32 (c.r 4), .int .u32 (c.r 5), .int .u32 (c.r 6), .int .u32 (c.r 7), .int .i64 c.pc, .bool c.h])).run Try.prog W = .ok (.bool false) W := fun W => (neq_core W c c).trans (by rw [eqC_refl]; rfl)
                have K2h := Lib.hid K2
                clear K2
                go_upto_region 28 with fail
                go_cut [177] (fun s177 wd => s177 = .bool false ∧ Below wr.heap.size wr wd)
                case first =>
                  by_cases hch : c.h = true
                  · have K2 := K2h.out hch
                    have h0 : wr.cell? ⟨hc', n * 10, none⟩ = some (.int .u32 (c.r 0)) := K2 0 (by omega)
                    have h1 : wr.cell? ⟨hc', n * 10 + 1, none⟩ = some (.int .u32 (c.r 1)) := K2 1 (by omega)
                    have h2 : wr.cell? ⟨hc', n * 10 + 2, none⟩ = some (.int .u32 (c.r 2)) := K2 2 (by omega)
                    have h3 : wr.cell? ⟨hc', n * 10 + 3, none⟩ = some (.int .u32 (c.r 3)) := K2 3 (by omega)
                    have h4 : wr.cell? ⟨hc', n * 10 + 4, none⟩ = some (.int .u32 (c.r 4)) := K2 4 (by omega)
                    have h5 : wr.cell? ⟨hc', n * 10 + 5, none⟩ = some (.int .u32 (c.r 5)) := K2 5 (by omega)
                    have h6 : wr.cell? ⟨hc', n * 10 + 6, none⟩ = some (.int .u32 (c.r 6)) := K2 6 (by omega)
                    have h7 : wr.cell? ⟨hc', n * 10 + 7, none⟩ = some (.int .u32 (c.r 7)) := K2 7 (by omega)
                    have h8 : wr.cell? ⟨hc', n * 10 + 8, none⟩ = some (.int .i64 c.pc) := K2 8 (by omega)
                    have g9' : wr.cell? ⟨hc', n * 10 + 9, none⟩ = some (.bool c.h) := K2 9 (by omega)
                    rw [hch] at c9 g9'
                    rw [hch] at hq
                    clear K2 K2h
                    refine region_plan (fun w' : World => w' = wr.drew) 22 [(0, true), (1, true), (2, true), (3, true), (4, true), (5, true), (6, true), (7, true), (8, true), (9, true), (10, true), (11, true), (12, true), (13, true), (14, true), (15, true), (16, true), (17, true), (18, true), (19, true), (20, true), (21, true)] (by kernel_rfl) (by kernel_rfl) rfl ?_
                    iterate 22
                      refine plan_read (v := ?_) rfl (by rfl) ?_ ?_
                      rotate_left
                      · intro w' hS
                        subst hS
                        go_simp
                        try with_reducible rfl
                      try simp only [Act.put, List.setIfInBounds_toArray, List.set_cons_zero, List.set_cons_succ, List.getElem_toArray, List.getElem_cons_zero, List.getElem_cons_succ, f9]
                    refine plan_nil ?_
                    simp only [List.drop_succ_cons, List.drop_zero]
                    go_wp2_with fail
                    go_meet
                    case rel => exact ⟨rfl, (Below.refl _ _).drew⟩
                  · have hch : c.h = false := by simpa using hch
                    rw [hch] at c9
                    clear K2h hq
                    refine region_plan (fun w' : World => w' = wr.drew) 22 [(0, true), (1, true), (2, true), (3, true), (4, true), (5, true), (6, true), (7, true), (8, true), (9, true), (10, true), (11, true), (12, true), (13, true), (14, true), (15, true), (16, true), (17, true), (18, true), (19, true), (20, true), (21, true)] (by kernel_rfl) (by kernel_rfl) rfl ?_
                    iterate 10
                      refine plan_read (v := ?_) rfl (by rfl) ?_ ?_
                      rotate_left
                      · intro w' hS
                        subst hS
                        go_simp
                        try with_reducible rfl
                      try simp only [Act.put, List.setIfInBounds_toArray, List.set_cons_zero, List.set_cons_succ, List.getElem_toArray, List.getElem_cons_zero, List.getElem_cons_succ, f9]
                    iterate 11
                      refine plan_skip rfl (by rfl) ?_
                      try simp only [Act.put, List.setIfInBounds_toArray, List.set_cons_zero, List.set_cons_succ, List.getElem_toArray, List.getElem_cons_zero, List.getElem_cons_succ]
                    iterate 1
                      refine plan_read (v := ?_) rfl (by rfl) ?_ ?_
                      rotate_left
                      · intro w' hS
                        subst hS
                        go_simp
                        try with_reducible rfl
                      try simp only [Act.put, List.setIfInBounds_toArray, List.set_cons_zero, List.set_cons_succ, List.getElem_toArray, List.getElem_cons_zero, List.getElem_cons_succ]
                    refine plan_nil ?_
                    simp only [List.drop_succ_cons, List.drop_zero]
                    go_wp2_with fail
                    go_meet
                    case rel => exact ⟨rfl, (Below.refl _ _).drew⟩
                case rest =>
                  obtain ⟨rfl, hbx⟩ := hcut
                  have HBX : Hid (Below W7.heap.size W7 wc) := HBR.out.trans (hbx.mono HBR.out.size)
                  clear hbx cB cD c0 c1 c2 c3 c4 c5 c6 c7 c8 c9 hq K2h HBR
                  have HB8 := Lib.hid (HB7.out.below HBX.out)
                  have HD8 := Lib.hid (HD7.out.below HBX.out)
                  have HE8 := Lib.hid (HE7.out.below HBX.out)
                  have HR8 := Lib.hid (own_below HR7.out HBX.out)
                  have HWX : Hid (Below w.heap.size w wc) := HWC.out.trans (HBX.out.mono HWC.out.size)
                  have cB := HB8.out.c
                  have fB := HB8.out.f
                  have lB := HB8.out.lt
                  have cD := HD8.out.c
                  go_upto_region 11 with fail
                  obtain ⟨u, hu⟩ : ∃ u, u = ((wc.setCell ⟨w3.heap.size, 0, none⟩ (.slice (some ⟨hm, 0, none⟩) d2 d3)).setCell ⟨w3.heap.size, 1, none⟩ (.slice (some ⟨hc', 0, none⟩) d5 d6)).setCell ⟨w3.heap.size, 2, none⟩ (.slice d7 d8 d9) := ⟨_, rfl⟩
                  have hbe := HB3.out.size
                  have hs5 := HS5.out.2
                  have hN : ¬ rows3 (.slice (some ⟨hm, 0, none⟩) d2 d3) (.slice (some ⟨hc', 0, none⟩) d5 d6) (.slice d7 d8 d9) w3.heap.size := fun h => by have := (HE8.out.rows _ h).1; omega
                  have hne : (Value.slice (some ⟨g9, 0, none⟩) (i + 1) k9).ownBlock ≠ some w3.heap.size := fun e => by have := (HR8.out.lt _ e).1; omega
                  have HKU : Hid (Blk u w3.heap.size #[.slice (some ⟨hm, 0, none⟩) d2 d3, .slice (some ⟨hc', 0, none⟩) d5 d6, .slice d7 d8 d9]) := by rw [hu]; exact store3 HB8.out
                  have HBU : Hid (Below w.heap.size w u) := by rw [hu]; exact below_set3 HWX.out hbe _ _ _
                  have HOU : Hid (OwnM u w.heap.size (.slice (some ⟨hm, 0, none⟩) d2 d3) (.slice (some ⟨hc', 0, none⟩) d5 d6) (.slice d7 d8 d9) (runA P words ((ns np l).take (i + 1)))) := by
                    rw [HAS.out, hu]
                    have h := own3_set HE8.out hN (.slice (some ⟨hm, 0, none⟩) d2 d3) (.slice (some ⟨hc', 0, none⟩) d5 d6) (.slice d7 d8 d9)
                    exact ⟨Joins.ownsRow_le h.m (by omega), Joins.ownsRow_le h.c (by omega), Joins.ownsRow_le h.o (by omega)⟩
                  have HRU : Hid (u.ownsRow (w3.heap.size + 1) 3 1 (.slice (some ⟨g9, 0, none⟩) (i + 1) k9) (i + 1) (intC ((ns np l).take (i + 1)))) := by
                    rw [hu]
                    exact own_diff_set (own_diff_set (own_diff_set HR8.out (.inr hne)) (.inr hne)) (.inr hne)
                  have HNU := Lib.hid hN
                  rw [← hu]
                  clear hu cB fB lB cD hN hne
                  go_wp2_with fail
                  go_roundw
                  case rel => exact ⟨i + 1, by omega, by go_num, _, _, _, _, _, _, _, _, _, _, _, _, rfl, HRU.out, HKU.out, HNU.out, HOU.out, HBU.out⟩
                  case measure => simp [intOf]; omega
    · have hil : i = len := by omega
      subst hil
      have et : (ns np l).take i = ns np l := List.take_of_length_le (by rw [ns_len, HLL.out]; exact Nat.le_refl _)
      rw [et] at HROW HO
      clear et
      have hn9 : n9 = i := own_len HROW.out
      subst hn9
      have HSL : Hid (Sl wr q9 n9 (intC (ns np l))) := by
        obtain ⟨p0, k0, e0, hs0⟩ := Sl.own HROW.out
        injection e0 with e1 e2 e3
        rw [e1]; exact hs0
      have HG := Lib.hid (runA_good_all (words := words) HPF.out (ns np l))
      have HMA := Lib.hid HO.out.mach
      clear HROW HO
      have cB := HBX.out.c
      have lB := HBX.out.lt
      go_wp2_with fail
      refine (run_yes p q9 np cap n9 c9 words P (ns np l) wr HL.out (HP.out.below HBE.out) HNW.out (by rw [ns_len]; exact HLL.out) (by omega) HSL.out).mono ?_
      rintro e w4 ⟨vm, vc, vo, rfl, hown, hb4⟩
      obtain ⟨e1, e2, e3, e4, e5, e6, e7, e8, e9, rfl, rfl, rfl⟩ := hown.form9
      have HM4 := Lib.hid hown.mach
      have HA4 := Lib.hid (HMA.out.below hb4)
      have HX4 := Lib.hid (HBX.out.below hb4)
      have HB4 : Hid (Below w.heap.size w w4) := HBE.out.trans (hb4.mono HBE.out.size)
      clear hown hb4 HMA HBX HBE cB lB HSL
      go_upto_region 32 with fail
      obtain ⟨W, hW⟩ : ∃ W, W = w4.alloc (.cells #[.slice e1 e2 e3, .slice e4 e5 e6, .slice e7 e8 e9] 27) := ⟨_, rfl⟩
      have HBW : Hid (Below w4.heap.size w4 W) := by rw [hW]; exact (Below.refl _ _).alloc (Nat.le_refl _) _
      have HEX : Hid (Blk W w4.heap.size #[.slice e1 e2 e3, .slice e4 e5 e6, .slice e7 e8 e9]) := by rw [hW]; exact Blk.new w4 _ 27
      rw [← hW]
      clear hW
      have HM5 := Lib.hid (HM4.out.below HBW.out)
      have HA5 := Lib.hid (HA4.out.below HBW.out)
      have HX5 := Lib.hid (HX4.out.below HBW.out)
      have HB5 : Hid (Below w.heap.size w W) := HB4.out.trans (HBW.out.mono HB4.out.size)
      clear HM4 HA4 HX4 HBW HB4
      have cB := HX5.out.c
      have cE := HEX.out.c
      go_wp2_with fail
      refine (same_any _ _ (runA P words (ns np l)) W (by rw [HG.out.m]; unfold maxLen; omega) (by rw [HG.out.c, HL.out]; unfold maxLen; omega) (by have := HG.out.o; rw [ns_len, HLL.out] at this; unfold maxLen; omega) HA5.out HM5.out).mono ?_
      rintro e w6 ⟨rfl, hb6⟩
      have HB6 : Hid (Below w.heap.size w w6) := HB5.out.trans (hb6.mono HB5.out.size)
      clear hb6 cB cE
      go_wp2
      go_ret
      exact ⟨rfl, HB6.out⟩
end Go.Proofs.Ytekiialhljfglaa
/- AtomReplays: the walk where there is too much, or no machine; and whole. -/
namespace Go.Proofs.Ytekiialhljfglaa
set_option linter.unusedVariables false
open Go.ChangeShapes Go.WideShapes Go.ChangeAt Go.RowKit

set_option maxRecDepth 1000000 in
set_option maxHeartbeats 1000000 in
theorem repl_out (p pp : Option Addr) (np cap len pcap : Nat) (wd : Int) (P : List (List I5)) (w : World) (hl : P.length = np) (hp : Prgs w p P) (h : shortB P = false ∨ 150 < len) :
    Calls Try.prog 5 #[.slice p np cap, .int .u8 wd, .slice pp len pcap] w fun e w' => e = .returned (.bool true) ∧ Below w.heap.size w w' := by
  have HL := Lib.hid hl
  have HP := Lib.hid hp
  have H := Lib.hid h
  clear hl hp h
  cases hs : shortB P with
  | false =>
    have HS := Lib.hid hs
    clear hs
    go_enter Try.func5, Try.ntmps5
    go_wp2_with fail
    refine (awake_any _).mono ?_
    rintro e w1 ⟨rfl, hb1⟩
    have HB1 := Lib.hid hb1
    clear hb1
    go_wp2_with fail
    have hsh := short_any p cap P w1 (HP.out.below HB1.out)
    rw [HL.out, HS.out] at hsh
    refine hsh.mono ?_
    clear hsh
    rintro e w2 ⟨rfl, rfl⟩
    go_wp2
    go_ret
    exact ⟨rfl, HB1.out⟩
  | true =>
    have d1 : decide (150 < (len : Int)) = true := decide_eq_true (by
      rcases H.out with h | h
      · rw [hs] at h; cases h
      · omega)
    have HS := Lib.hid hs
    clear hs
    go_enter Try.func5, Try.ntmps5
    go_wp2_with fail
    refine (awake_any _).mono ?_
    rintro e w1 ⟨rfl, hb1⟩
    have HB1 := Lib.hid hb1
    clear hb1
    go_wp2_with fail
    have hsh := short_any p cap P w1 (HP.out.below HB1.out)
    rw [HL.out, HS.out] at hsh
    refine hsh.mono ?_
    clear hsh
    rintro e w2 ⟨rfl, rfl⟩
    go_wp2
    go_ret
    exact ⟨rfl, HB1.out⟩

set_option maxRecDepth 1000000 in
set_option maxHeartbeats 1000000 in
theorem repl_no (p pp : Option Addr) (np cap len pcap : Nat) (wd : Nat) (P : List (List I5)) (w : World) (hl : P.length = np) (hp : Prgs w p P) (hs : shortB P = true) (hlen : len ≤ 150) (hw : wd ≤ 255) (h : newOk P ((wd % 64 + 1 : Nat) : Int) = false) :
    Calls Try.prog 5 #[.slice p np cap, .int .u8 (wd : Int), .slice pp len pcap] w fun e w' => e = .returned (.bool true) ∧ Below w.heap.size w w' := by
  have HL := Lib.hid hl
  have HP := Lib.hid hp
  have HS := Lib.hid hs
  have HN := Lib.hid h
  have d1 : decide (150 < (len : Int)) = false := decide_eq_false (by omega)
  clear hl hp hs h
  go_enter Try.func5, Try.ntmps5
  go_wp2_with fail
  refine (awake_any _).mono ?_
  rintro e w1 ⟨rfl, hb1⟩
  have HB1 := Lib.hid hb1
  clear hb1
  go_wp2_with fail
  have hsh := short_any p cap P w1 (HP.out.below HB1.out)
  rw [HL.out, HS.out] at hsh
  refine hsh.mono ?_
  clear hsh
  rintro e w2 ⟨rfl, rfl⟩
  go_wp2_with fail
  obtain ⟨words, hwd⟩ : ∃ words : Nat, words = wd % 64 + 1 := ⟨_, rfl⟩
  have ewd : (wd : Int) % 64 + 1 = (words : Int) := by rw [hwd]; omega
  have HNW : Hid (newOk P (words : Int) = false) := by rw [hwd]; exact HN.out
  clear hwd HN
  rw [ewd]
  refine (new_no p np cap _ P _ HL.out (HP.out.below HB1.out) (fun hh => ?_)).mono ?_
  · have := HNW.out
    unfold newOk at this
    simp [hh] at this
  rintro e w3 ⟨rfl, hb3⟩
  have HB3 : Hid (Below w.heap.size w w3) := HB1.out.trans (hb3.mono HB1.out.size)
  clear hb3
  go_wp2
  go_ret
  exact ⟨rfl, HB3.out.alloc HB3.out.size _⟩

theorem repl_walk (p pp : Option Addr) (cap pcap : Nat) (wd : Int) (P : List (List I5)) (l : List Int) (w : World) (hp : Prgs w p P) (hpp : Sl w pp l.length (u8C l)) (hw : 0 ≤ wd ∧ wd ≤ 255) (hb : ∀ i, i < l.length → 0 ≤ l.getD i 0 ∧ l.getD i 0 ≤ 255) :
    Calls Try.prog 5 #[.slice p P.length cap, .int .u8 wd, .slice pp l.length pcap] w fun e w' => e = .returned (.bool true) ∧ Below w.heap.size w w' := by
  by_cases h : shortB P = false ∨ 150 < l.length
  · exact repl_out p pp _ cap _ pcap wd P w rfl hp h
  · have hs : shortB P = true := by
      cases hh : shortB P with
      | true => rfl
      | false => exact (h (.inl hh)).elim
    have hl : l.length ≤ 150 := by omega
    obtain ⟨wd, rfl⟩ := Int.eq_ofNat_of_zero_le hw.1
    cases hn : newOk P ((wd % 64 + 1 : Nat) : Int) with
    | false => exact repl_no p pp _ cap _ pcap wd P w rfl hp hs hl (by omega) hn
    | true => exact repl_main p pp _ cap _ pcap wd P l w rfl hp hs hl (by omega) hn rfl hb hpp
end Go.Proofs.Ytekiialhljfglaa
namespace Go.Proofs.Ytekiialhljfglaa.atomReplays
open Go.ChangeShapes Go.WideShapes Go.ChangeAt Go.RowKit
open Go.ChangeMaps (open_string shut_string)
set_option linter.unusedVariables false

theorem own : ownKnob Try.prog.godebug = none := by kernel_rfl
theorem laidOut : laidOutB Try.prog = true := by kernel_rfl

set_option maxRecDepth 100000 in
theorem lifted (os : Os) (started : os.Started) (H : Type) (enc : TypeId × Value → H) :
    ReturnsInHanded {} Try.checked os 5 .any (Rows.atomReplaysSpec.pre6 enc Try.prog Try.f5 Rows.atomReplaysRow.domain false) (Rows.atomReplaysSpec.post enc Try.prog Try.f5 false true false false) := by
  refine returnsInHanded_of_change (C := Try.checked) own started (by kernel_rfl) Try.func5
    (ChangeSpec.witness6 (enc := enc) (C := Try.checked) false ⟨#[], #[.slice none 0 0, .int .u8 0, .slice none 0 0], []⟩ 8 (by kernel_rfl) (by kernel_rfl) (by kernel_rfl) (by kernel_rfl)) ?_
  intro W base args ds gs before hval0 hW hcnd _
  have hval : ∀ (j : Nat) t v, Try.f5.params[j]? = some t → args[j]? = some v → Value.okWide Try.prog W .any base t v := hval0
  have hW' := hW
  obtain ⟨p, q, hA0, hV, rfl, hfz, hnd⟩ := hW
  have hA : DataW.TrodAll enc Try.prog W 0 (fun _ => true) true Try.f5.params.toList args.toList ds p := hA0
  rw [Try.params5] at hA hval
  obtain ⟨v0, vs0, d0, ds0, p0, q0, hargs, rfl, rfl, h0, r0⟩ := trodAll_cons hA
  obtain ⟨v1, vs1, d1, ds1, p1, q1, rfl, rfl, rfl, h1, r1⟩ := trodAll_cons r0
  obtain ⟨v2, vs2, d2, ds2, p2, q2, rfl, rfl, rfl, h2, r2⟩ := trodAll_cons r1
  obtain ⟨rfl, rfl, rfl⟩ := trodAll_nil r2
  obtain rfl : args = #[v0, v1, v2] := by cases args; simp_all
  obtain ⟨rfl, rfl⟩ := trodVars_none hV
  have k0 := h0
  have lt0 : ∀ x ∈ p0, x.block < W.heap.size := by obtain ⟨m, hm⟩ := k0; exact DataW.trod_lt m _ _ _ hm
  have k1 := h1
  have lt1 : ∀ x ∈ p1, x.block < W.heap.size := by obtain ⟨m, hm⟩ := k1; exact DataW.trod_lt m _ _ _ hm
  have k2 := h2
  have lt2 : ∀ x ∈ p2, x.block < W.heap.size := by obtain ⟨m, hm⟩ := k2; exact DataW.trod_lt m _ _ _ hm
  obtain ⟨s0, len0, cap0, rfl⟩ := okWide_slice Try.underlying22 (hval 0 22 v0 rfl rfl)
  obtain ⟨l0, hl0, _, _, hp0⟩ : ∃ l : List (List I5), l.length = len0 ∧ len0 ≤ maxLen ∧ (∀ i, i < len0 → (atP l i).length ≤ maxLen) ∧ Prgs W s0 l := by
    obtain ⟨fuel, hf⟩ := h0
    exact prgs_of_cells hf
  subst hl0
  obtain ⟨a1, rfl, rfl, rfl, w1⟩ := open_int Try.underlying5 (hval 1 5 v1 rfl rfl) h1
  have b1 := bounds_u8 w1
  obtain ⟨s2, len2, cap2, rfl⟩ := okWide_slice Try.underlying51 (hval 2 51 v2 rfl rfl)
  obtain ⟨l2, hl2, _, b2, hp2⟩ : ∃ l : List Int, l.length = len2 ∧ len2 ≤ maxLen ∧ (∀ i, i < len2 → 0 ≤ l.getD i 0 ∧ l.getD i 0 ≤ 255) ∧ Sl W s2 len2 (u8C l) := by
    obtain ⟨fuel, hf⟩ := h2
    exact bytes_of_cells hf
  subst hl2
  clear hA0 hval0
  refine (repl_walk s0 s2 cap0 cap2 a1 l0 l2 W hp0 hp2 b1 b2).mono fun e W' ⟨he, bel⟩ => ?_
  subst he
  exact ⟨_, rfl, _, _, _, [], _, [], hW', trodAll_mk1 (shut_bool Try.underlying4 _), (trodAll_cons_mk (Below.trod laidOut (by kernel_rfl) (of_decide_eq_true (by kernel_rfl)) k0 bel lt0) (trodAll_cons_mk (Below.trod laidOut (by kernel_rfl) (of_decide_eq_true (by kernel_rfl)) k1 bel lt1) (trodAll_cons_mk (Below.trod laidOut (by kernel_rfl) (of_decide_eq_true (by kernel_rfl)) k2 bel lt2) trodAll_mk0))), rfl, bel.frame _, fun h => by cases h⟩

theorem over : Rows.atomReplaysRow.holds Try.pinned (OpenSpec.ofChange Rows.atomReplaysSpec) :=
  OpenClaim.holds_of_wide 5 Try.f5 rfl rfl rfl rfl rfl rfl rfl ⟨rfl, rfl, rfl, rfl, rfl⟩ rfl rfl rfl rfl rfl (by kernel_rfl) Try.func5 (by kernel_rfl)
    (of_decide_eq_true (by kernel_rfl)) (by unfold Func.isWrapper; first | (rw [if_pos (by decide +kernel)]; kernel_rfl) | (rw [if_neg (by decide +kernel)]; exact ⟨rfl, rfl⟩))
    (fun os started H enc _ => lifted os started H enc)

/-- The statement. -/
theorem proved : Rows.AtomReplaysSaid := over
#print axioms proved
end Go.Proofs.Ytekiialhljfglaa.atomReplays
