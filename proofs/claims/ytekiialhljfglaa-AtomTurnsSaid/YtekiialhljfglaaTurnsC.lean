/- For all programs, any number of words, any picks and any two cores the statement AtomTurns answers true and leaves its arguments as they were; no condition. -/
import Derived.Test.YtekiialhljfglaaZl
import Derived.WalkKit
import Derived.ProofKit
import Derived.OpenShut
import Derived.ShutString
import Derived.ChangeOld
import Derived.Below
/- AtomRuns: a run of any picks is the document's, step by step: the walk of the statement's function. -/
namespace Go.Proofs.Ytekiialhljfglaa
set_option linter.unusedVariables false
open Go.ChangeShapes Go.WideShapes Go.ChangeAt Go.RowKit

/-- A machine's three lists, as they are handed about. -/
theorem Mach.form {w : World} {v : Value} {a : Atm} (h : Mach w v a) : ∃ pm cm pc cc po co, v = .agg #[.slice pm a.mem.length cm, .slice pc a.cores.length cc, .slice po a.outs.length co] := by
  obtain ⟨pm, cm, pc, cc, po, co, e, _⟩ := h
  exact ⟨pm, cm, pc, cc, po, co, e⟩

set_option maxHeartbeats 1000000 in
theorem runs_out (p pp : Option Addr) (np cap len pcap : Nat) (words : Int) (P : List (List I5)) (w : World) (hl : P.length = np) (hp : Prgs w p P) (h : shortB P = false ∨ 300 < len) :
    Calls Try.prog 4 #[.slice p np cap, .int .i64 words, .slice pp len pcap] w fun e w' => e = .returned (.bool true) ∧ Below w.heap.size w w' := by
  have HL := Lib.hid hl
  have HP := Lib.hid hp
  have H := Lib.hid h
  clear hl hp h
  cases hs : shortB P with
  | false =>
    have HS := Lib.hid hs
    clear hs
    go_enter Try.func4, Try.ntmps4
    go_wp2_with fail
    refine (awake_any _).mono ?_
    rintro e w1 ⟨rfl, hb1⟩
    have HB1 := Lib.hid hb1
    clear hb1
    go_wp2_with fail
    have hsh := short_any p cap P w1 (HP.out.below HB1.out)
    rw [HL.out, HS.out] at hsh
    refine hsh.mono ?_
    clear hsh
    rintro e w2 ⟨rfl, rfl⟩
    go_wp2
    go_ret
    exact ⟨rfl, HB1.out⟩
  | true =>
    have d1 : decide (300 < (len : Int)) = true := decide_eq_true (by
      rcases H.out with h | h
      · rw [hs] at h; cases h
      · omega)
    have HS := Lib.hid hs
    clear hs
    go_enter Try.func4, Try.ntmps4
    go_wp2_with fail
    refine (awake_any _).mono ?_
    rintro e w1 ⟨rfl, hb1⟩
    have HB1 := Lib.hid hb1
    clear hb1
    go_wp2_with fail
    have hsh := short_any p cap P w1 (HP.out.below HB1.out)
    rw [HL.out, HS.out] at hsh
    refine hsh.mono ?_
    clear hsh
    rintro e w2 ⟨rfl, rfl⟩
    go_wp2
    go_ret
    exact ⟨rfl, HB1.out⟩

set_option maxHeartbeats 1000000 in
theorem runs_no (p pp : Option Addr) (np cap len pcap : Nat) (words : Int) (P : List (List I5)) (w : World) (hl : P.length = np) (hp : Prgs w p P) (hs : shortB P = true) (hlen : len ≤ 300) (h : newOk P words = false) :
    Calls Try.prog 4 #[.slice p np cap, .int .i64 words, .slice pp len pcap] w fun e w' => e = .returned (.bool true) ∧ Below w.heap.size w w' := by
  have HL := Lib.hid hl
  have HP := Lib.hid hp
  have HN := Lib.hid h
  have HS := Lib.hid hs
  have d1 : decide (300 < (len : Int)) = false := decide_eq_false (by omega)
  clear hl hp h hs
  go_enter Try.func4, Try.ntmps4
  go_wp2_with fail
  refine (awake_any _).mono ?_
  rintro e w1 ⟨rfl, hb1⟩
  have HB1 := Lib.hid hb1
  clear hb1
  go_wp2_with fail
  have hsh := short_any p cap P w1 (HP.out.below HB1.out)
  rw [HL.out, HS.out] at hsh
  refine hsh.mono ?_
  clear hsh
  rintro e w2 ⟨rfl, rfl⟩
  go_wp2_with fail
  refine (run_no p pp np cap len pcap words P _ HL.out (HP.out.below HB1.out) HN.out).mono ?_
  rintro e w3 ⟨rfl, hb3⟩
  have HB3 : Hid (Below w.heap.size w w3) := HB1.out.trans (hb3.mono HB1.out.size)
  clear hb3
  go_wp2_with fail
  have HB4 : Hid (Below w.heap.size w (w3.alloc (.cells #[.slice none 0 0, .slice none 0 0, .slice none 0 0] 27))) := HB3.out.alloc HB3.out.size _
  refine (newR_no p np cap words P _ HL.out (short_few HS.out) (HP.out.below HB4.out) (newOk_not HN.out)).mono ?_
  rintro e w5 ⟨rfl, hb5⟩
  have k5 : Hid (Blk w5 w3.heap.size #[.slice none 0 0, .slice none 0 0, .slice none 0 0]) := Blk.track1 hb5
  have HB5 : Hid (Below w.heap.size w w5) := HB4.out.trans (hb5.mono HB4.out.size)
  clear hb5
  have c := k5.out.c
  have lt := k5.out.lt
  go_wp2_with fail
  have HB6 : Hid (Below w.heap.size w (w5.alloc (.cells #[.slice none 0 0, .slice none 0 0, .slice none 0 0] 27))) := HB5.out.alloc HB5.out.size _
  refine (same_any _ _ nilA _ (by decide) (by decide) (by decide) (Mach.nil _) (Mach.nil _)).mono ?_
  rintro e w7 ⟨rfl, hb7⟩
  have HB7 : Hid (Below w.heap.size w w7) := HB6.out.trans (hb7.mono HB6.out.size)
  clear hb7 c lt
  go_wp2
  go_ret
  exact ⟨rfl, HB7.out⟩

theorem OwnM.machR {N : Nat → Prop} {w : World} {base : Nat} {vm vc vo : Value} {a : Atm} (h : OwnM w base vm vc vo a) (hN : ∀ b, base ≤ b → b < w.heap.size → N b) : MachN N w (.agg #[vm, vc, vo]) a := by
  have hr := h.rows
  obtain ⟨pm, cm, e1, h1⟩ := Sl.own h.m
  obtain ⟨pc, cc, e2, h2⟩ := Sl.own h.c
  obtain ⟨po, co, e3, h3⟩ := Sl.own h.o
  subst e1 e2 e3
  refine ⟨pm, cm, pc, cc, po, co, rfl, ⟨h1, h2, h3⟩, fun _ b o e => ?_, fun _ b o e => ?_, fun _ b o e => ?_⟩
  · have := hr b (.inl (by rw [e]; rfl)); exact hN b this.1 this.2
  · have := hr b (.inr (.inl (by rw [e]; rfl))); exact hN b this.1 this.2
  · have := hr b (.inr (.inr (by rw [e]; rfl))); exact hN b this.1 this.2
theorem MachN.form {N : Nat → Prop} {w : World} {v : Value} {a : Atm} (h : MachN N w v a) : ∃ pm lm cm pc lc cc po lo co, v = .agg #[.slice pm lm cm, .slice pc lc cc, .slice po lo co] := by
  obtain ⟨pm, cm, pc, cc, po, co, e, _⟩ := h
  exact ⟨pm, _, cm, pc, _, cc, po, _, co, e⟩
theorem MachN.imp {N M : Nat → Prop} {w : World} {v : Value} {a : Atm} (h : MachN N w v a) (hN : ∀ b, N b → M b) : MachN M w v a := by
  obtain ⟨pm, cm, pc, cc, po, co, e, hs, h1, h2, h3⟩ := h
  exact ⟨pm, cm, pc, cc, po, co, e, hs, fun h0 b o e => hN b (h1 h0 b o e), fun h0 b o e => hN b (h2 h0 b o e), fun h0 b o e => hN b (h3 h0 b o e)⟩
theorem kstepR (N : Nat → Prop) (p : Option Addr) (np cap : Nat) (P : List (List I5)) (u0 u1 u2 : Value) (a : Atm) (n words : Nat) (b i off B k : Nat) (x : Int) (W1 W : World) (hN : Hid (∀ b, W1.heap.size ≤ b → N b)) (hl : Hid (P.length = np)) (hp : Hid (Prgs W1 p P)) (hn : n < np) (hu : Hid (MachN N W1 (.agg #[u0, u1, u2]) a)) (hg : Hid (Good P words k a)) (hk : k ≤ 300) (h64 : words ≤ 64) (h6 : Hid (P.length ≤ 6))
    (h1 : Hid (Blk W1 B #[u0, u1, u2])) (h2 : Hid (W1.cell? ⟨b, off + i, none⟩ = some (.int .i64 x))) (l2 : Hid (b < W1.heap.size)) (hb : Below W1.heap.size W1 W) :
    Calls Try.prog 20 #[.slice p np cap, .agg #[u0, u1, u2], .int .i64 n] W fun e w' => ∃ pm lm cm pc lc cc po lo co, e = .returned (.agg #[.slice pm lm cm, .slice pc lc cc, .slice po lo co]) ∧ ((∀ j, w'.cell? ⟨B, j, none⟩ = (#[u0, u1, u2] : Array Value)[j]?) ∧ w'.cell? ⟨b, off + i, none⟩ = some (.int .i64 x)) ∧ MachN N w' (.agg #[.slice pm lm cm, .slice pc lc cc, .slice po lo co]) (stepA P a n) ∧ Below W1.heap.size W1 w' := by
  have hh := stepR_anyN N p cap P (.agg #[u0, u1, u2]) a n W (fun b hbb => hN.out b (Nat.le_trans hb.size hbb)) (hp.out.below hb) (by rw [hl.out]; exact hn) (hu.out.below hb) hg.out.c hg.out.f (by rw [hg.out.m]; exact h64) h6.out (by have := hg.out.o; omega)
  rw [hl.out] at hh
  refine hh.mono fun e w' ⟨u', e1, hm, hb'⟩ => ?_
  have hb2 := hb.trans (hb'.mono hb.size)
  obtain ⟨pm, lm, cm, pc, lc, cc, po, lo, co, rfl⟩ := hm.form
  exact ⟨_, _, _, _, _, _, _, _, _, e1, ⟨(h1.out.below hb2).c, (hb2.cell (p := ⟨b, off + i, none⟩) l2.out).trans h2.out⟩, hm, hb2⟩

set_option maxHeartbeats 2000000 in
theorem runs_main (p pp : Option Addr) (np cap len pcap words : Nat) (P : List (List I5)) (l : List Int) (w : World) (hl : P.length = np) (hp : Prgs w p P) (hs : shortB P = true) (hlen : len ≤ 300) (h : newOk P words = true) (hll : l.length = len) (hpp : Sl w pp len (intC l)) :
    Calls Try.prog 4 #[.slice p np cap, .int .i64 words, .slice pp len pcap] w fun e w' => e = .returned (.bool true) ∧ Below w.heap.size w w' := by
  have HL := Lib.hid hl
  have HP := Lib.hid hp
  have HN := Lib.hid h
  have HS := Lib.hid hs
  have HLL := Lib.hid hll
  have HPP := Lib.hid hpp
  have HPF := Lib.hid (prgs_fits hp)
  have d1 : decide (300 < (len : Int)) = false := decide_eq_false (by omega)
  have hno := newOk_has h
  have hw1 : 1 ≤ words := by omega
  have hw2 : words ≤ 64 := by omega
  have HA := Lib.hid hno.2.2
  have hal := all_len hno.2.2
  rw [hl] at hal
  clear hl hp h hs hll hpp hno
  go_enter Try.func4, Try.ntmps4
  go_wp2_with fail
  refine (awake_any _).mono ?_
  rintro e w1 ⟨rfl, hb1⟩
  have HB1 := Lib.hid hb1
  clear hb1
  go_wp2_with fail
  have hsh := short_any p cap P w1 (HP.out.below HB1.out)
  rw [HL.out, HS.out] at hsh
  refine hsh.mono ?_
  clear hsh
  rintro e w2 ⟨rfl, rfl⟩
  go_wp2_with fail
  refine (run_yes p pp np cap len pcap words P l _ HL.out (HP.out.below HB1.out) HN.out HLL.out (by omega) (HPP.out.below HB1.out)).mono ?_
  rintro e w3 ⟨vm, vc, vo, rfl, hown, hb3⟩
  have HM3 : Hid (MachN (fun b => b < w3.heap.size) w3 (.agg #[vm, vc, vo]) (runA P words l)) := hown.machR (fun b _ h => h)
  have HB3 : Hid (Below w.heap.size w w3) := HB1.out.trans (hb3.mono HB1.out.size)
  obtain ⟨e1, ⟨cm, e2⟩, e3⟩ : True ∧ (∃ x : Nat, True) ∧ True := ⟨trivial, ⟨0, trivial⟩, trivial⟩
  obtain ⟨q1, n1, k1, rfl⟩ := form_of hown.m
  obtain ⟨q2, n2, k2, rfl⟩ := form_of hown.c
  obtain ⟨q3, n3, k3, rfl⟩ := form_of hown.o
  clear hb3 hown e1 e2 e3
  go_wp2_with fail
  have HK4 : Hid (Blk (w3.alloc (.cells #[.slice q1 n1 k1, .slice q2 n2 k2, .slice q3 n3 k3] 27)) w3.heap.size #[.slice q1 n1 k1, .slice q2 n2 k2, .slice q3 n3 k3]) := Blk.new w3 _ 27
  have HB4 : Hid (Below w.heap.size w (w3.alloc (.cells #[.slice q1 n1 k1, .slice q2 n2 k2, .slice q3 n3 k3] 27))) := HB3.out.alloc HB3.out.size _
  have HM4 : Hid (MachN (fun b => b < w3.heap.size) (w3.alloc (.cells #[.slice q1 n1 k1, .slice q2 n2 k2, .slice q3 n3 k3] 27)) (.agg #[.slice q1 n1 k1, .slice q2 n2 k2, .slice q3 n3 k3]) (runA P words l)) := HM3.out.below ((Below.refl _ _).alloc (Nat.le_refl _) _)
  refine (newR_yes p np cap words P _ HL.out (HP.out.below HB4.out) hw1 hw2 HA.out hal.2).mono ?_
  rintro e w5 ⟨um, uc, uo, rfl, hown, hb5⟩
  have HU5 : Hid (MachN (fun b => b < w5.heap.size) w5 (.agg #[um, uc, uo]) (newA np words)) := hown.machR (fun b _ h => h)
  have HB5 : Hid (Below w.heap.size w w5) := HB4.out.trans (hb5.mono HB4.out.size)
  have HK5 := Lib.hid (HK4.out.below hb5)
  have HM5 := Lib.hid (HM4.out.below hb5)
  obtain ⟨r1, m1, j1, rfl⟩ := form_of hown.m
  obtain ⟨r2, m2, j2, rfl⟩ := form_of hown.c
  obtain ⟨r3, m3, j3, rfl⟩ := form_of hown.o
  clear hb5 hown HK4 HB4 HM4 HM3 HB3
  go_wp2_with fail
  have HNE : Hid (w3.heap.size < w5.heap.size) := HK5.out.lt
  have HQ6 : Hid (MachN (fun b => b ≠ w5.heap.size) (w5.alloc (.cells #[.slice r1 m1 j1, .slice r2 m2 j2, .slice r3 m3 j3] 27)) (.agg #[.slice q1 n1 k1, .slice q2 n2 k2, .slice q3 n3 k3]) (runA P words l)) := (HM5.out.imp (fun b h => by have := HNE.out; omega)).below ((Below.refl _ _).alloc (Nat.le_refl _) _)
  have HU6 : Hid (MachN (fun b => b ≠ w5.heap.size) (w5.alloc (.cells #[.slice r1 m1 j1, .slice r2 m2 j2, .slice r3 m3 j3] 27)) (.agg #[.slice r1 m1 j1, .slice r2 m2 j2, .slice r3 m3 j3]) (runA P words (l.take 0))) := by
    have e : runA P words (l.take 0) = newA np words := by rw [List.take_zero, ← HL.out]; rfl
    rw [e]
    exact (HU5.out.imp (fun b h => by omega)).below ((Below.refl _ _).alloc (Nat.le_refl _) _)
  have HK6 : Hid (Blk (w5.alloc (.cells #[.slice r1 m1 j1, .slice r2 m2 j2, .slice r3 m3 j3] 27)) w3.heap.size #[.slice q1 n1 k1, .slice q2 n2 k2, .slice q3 n3 k3]) := HK5.out.alloc _
  have HZ6 : Hid (Blk (w5.alloc (.cells #[.slice r1 m1 j1, .slice r2 m2 j2, .slice r3 m3 j3] 27)) w5.heap.size #[.slice r1 m1 j1, .slice r2 m2 j2, .slice r3 m3 j3]) := Blk.new w5 _ 27
  have HB6 : Hid (Below w.heap.size w (w5.alloc (.cells #[.slice r1 m1 j1, .slice r2 m2 j2, .slice r3 m3 j3] 27))) := HB5.out.alloc HB5.out.size _
  go_loopw [11] (fun i wr => ∃ k : Nat, k ≤ len ∧ i = .int .i64 k ∧ ∃ r1 m1 j1 r2 m2 j2 r3 m3 j3, Blk wr w5.heap.size #[.slice r1 m1 j1, .slice r2 m2 j2, .slice r3 m3 j3] ∧ Blk wr w3.heap.size #[.slice q1 n1 k1, .slice q2 n2 k2, .slice q3 n3 k3] ∧ MachN (fun b => b ≠ w5.heap.size) wr (.agg #[.slice r1 m1 j1, .slice r2 m2 j2, .slice r3 m3 j3]) (runA P words (l.take k)) ∧ MachN (fun b => b ≠ w5.heap.size) wr (.agg #[.slice q1 n1 k1, .slice q2 n2 k2, .slice q3 n3 k3]) (runA P words l) ∧ Below w.heap.size w wr) (fun i _ => len - (intOf i).toNat)
  case atStart => exact ⟨0, Nat.zero_le _, rfl, r1, m1, j1, r2, m2, j2, r3, m3, j3, HZ6.out, HK6.out, HU6.out, HQ6.out, HB6.out⟩
  case round =>
    obtain ⟨i, hi, rfl, r1', m1', j1', r2', m2', j2', r3', m3', j3', hz, hk, hu, hq, hbel⟩ := hrel
    clear HQ6 HU6 HK6 HZ6 HB6
    have HZ := Lib.hid hz
    have HK := Lib.hid hk
    have HU := Lib.hid hu
    have HQ := Lib.hid hq
    have HBE := Lib.hid hbel
    clear hz hk hu hq hbel
    by_cases hlt : i < len
    · obtain ⟨b, off, hb1, rfl, hb3⟩ := HPP.out.below HBE.out (by omega)
      obtain ⟨n, hn⟩ : ∃ n, n = l.getD i 0 := ⟨_, rfl⟩
      have c0 : wr.cell? ⟨b, off + i, none⟩ = some (.int .i64 n) := (hb3 i (by rw [intC_len, HLL.out]; exact hlt)).trans (by rw [hn]; exact intC_at l i (by rw [HLL.out]; exact hlt))
      have HTK : Hid (runA P words (l.take (i + 1)) = pickA P (runA P words (l.take i)) n) := by rw [hn]; exact runA_take (by rw [HLL.out]; exact hlt)
      have HC0 := Lib.hid c0
      have HLB := Lib.hid hb1
      have HGD : Hid (Good P words i (runA P words (l.take i))) := runA_good HPF.out l i (by rw [HLL.out]; omega)
      clear hn hb3 hb1
      by_cases h0 : 0 ≤ n
      · have e0 : decide (0 ≤ n) = true := decide_eq_true h0
        obtain ⟨m, rfl⟩ := Int.eq_ofNat_of_zero_le h0
        by_cases h1 : m < np
        · have e1 : decide ((m : Int) < (np : Int)) = true := decide_eq_true (by omega)
          have i0 : (0 : Int) ≤ (i : Int) := by omega
          have i1 : (i : Int) < (len : Int) := by omega
          go_upto_region 13 with fail
          refine region_plan (fun w' : World => (∀ j, w'.cell? ⟨w5.heap.size, j, none⟩ = (#[.slice r1' m1' j1', .slice r2' m2' j2', .slice r3' m3' j3'] : Array Value)[j]?) ∧ w'.cell? ⟨b, off + i, none⟩ = some (.int .i64 m)) 7 [(0, true), (1, true), (2, true), (3, true), (4, true), (5, true), (6, false)] (by kernel_rfl) (by kernel_rfl) ⟨HZ.out.c, HC0.out⟩ ?_
          iterate 6
            refine plan_read (v := ?_) rfl (by rfl) ?_ ?_
            rotate_left
            · intro w' hS
              try dsimp only at hS
              go_simp
              try with_reducible rfl
            try simp only [Act.put, List.setIfInBounds_toArray, List.set_cons_zero, List.set_cons_succ, List.getElem_toArray, List.getElem_cons_zero, List.getElem_cons_succ]
          refine plan_call (F := 20) (args := ?_) rfl (by rfl) ?_ ?_
          rotate_left
          · go_simp
            rfl
          have HLR : Hid (b < wr.heap.size) := HLB.out
          refine (kstepR (fun b => b ≠ w5.heap.size) p np cap P _ _ _ (runA P words (l.take i)) m words b i off w5.heap.size i m wr wr.drew (fun b hb => by have := HZ.out.lt; omega) HL (HP.out.below HBE.out) h1 HU HGD (by omega) hw2 (short_few HS.out) HZ HC0 HLR (Below.refl _ _).drew).mono ?_
          rintro e w6 ⟨pm, lm, cm, pc, lc, cc, po, lo, co, rfl, s6, hu6, hb6⟩
          refine ⟨_, rfl, s6, ?_⟩
          refine plan_nil ?_
          try simp only [Act.put, List.setIfInBounds_toArray, List.set_cons_zero, List.set_cons_succ, List.getElem_toArray, List.getElem_cons_zero, List.getElem_cons_succ]
          simp only [List.drop_succ_cons, List.drop_zero]
          have HZ7 := Lib.hid (HZ.out.below hb6)
          have HK7 := Lib.hid (HK.out.below hb6)
          have HQ7 := Lib.hid (HQ.out.below hb6)
          have HU7 := Lib.hid hu6
          have HB7 : Hid (Below w.heap.size w w6) := HBE.out.trans (hb6.mono HBE.out.size)
          clear s6 hu6 hb6 c0
          have cZ := HZ7.out.c
          have fZ := HZ7.out.f
          have lZ := HZ7.out.lt
          go_wp2
          go_roundw
          case rel =>
            have nN : ¬ (fun b => b ≠ w5.heap.size) w5.heap.size := fun h => h rfl
            refine ⟨i + 1, by omega, by go_num, pm, lm, cm, pc, lc, cc, po, lo, co, store3 HZ7.out, HK7.out.other3 (by have := HNE.out; omega) _ _ _, ?_, ((HQ7.out.set nN _ _).set nN _ _).set nN _ _, below_set3 HB7.out HB5.out.size _ _ _⟩
            rw [HTK.out, pick_in (by rw [HGD.out.c, HL.out]; exact h1)]
            exact ((HU7.out.set nN _ _).set nN _ _).set nN _ _
          case measure => simp [intOf]; omega
        · have e1 : decide ((m : Int) < (np : Int)) = false := decide_eq_false (by omega)
          go_wp2
          go_roundw
          case rel =>
            refine ⟨i + 1, by omega, by go_num, r1', m1', j1', r2', m2', j2', r3', m3', j3', HZ.out, HK.out, ?_, HQ.out, HBE.out⟩
            rw [HTK.out, pick_out (by rw [HGD.out.c, HL.out]; omega)]
            exact HU.out
          case measure => simp [intOf]; omega
      · have e0 : decide (0 ≤ n) = false := decide_eq_false h0
        go_wp2
        go_roundw
        case rel =>
          refine ⟨i + 1, by omega, by go_num, r1', m1', j1', r2', m2', j2', r3', m3', j3', HZ.out, HK.out, ?_, HQ.out, HBE.out⟩
          rw [HTK.out, pick_out (by omega)]
          exact HU.out
        case measure => simp [intOf]; omega
    · have e : l.take i = l := List.take_of_length_le (by rw [HLL.out]; omega)
      have HUU : Hid (MachN (fun b => b ≠ w5.heap.size) wr (.agg #[.slice r1' m1' j1', .slice r2' m2' j2', .slice r3' m3' j3']) (runA P words l)) := by have h := HU.out; rw [e] at h; exact h
      have HG := Lib.hid (runA_good_all (words := words) HPF.out l)
      have HR := Lib.hid (runA_right_all HPF.out hw1 hw2 HA.out l)
      clear e
      have cZ := HZ.out.c
      have cK := HK.out.c
      go_wp2_with fail
      refine (same_any _ _ (runA P words l) wr (by rw [HG.out.m]; unfold maxLen; omega) (by rw [HG.out.c, HL.out]; unfold maxLen; omega) (by have := HG.out.o; rw [HLL.out] at this; unfold maxLen; omega) HQ.out.mach HUU.out.mach).mono ?_
      rintro e w6 ⟨rfl, hb6⟩
      have HK7 := Lib.hid (HK.out.below hb6)
      have HQ7 := Lib.hid (HQ.out.below hb6)
      have HB7 : Hid (Below w.heap.size w w6) := HBE.out.trans (hb6.mono HBE.out.size)
      clear hb6 cZ cK
      have cK := HK7.out.c
      go_wp2_with fail
      have hr := right_any4 p cap P (.agg #[.slice q1 n1 k1, .slice q2 n2 k2, .slice q3 n3 k3]) (runA P words l) w6 (HP.out.below HB7.out) HQ7.out.mach
      rw [HL.out, HR.out] at hr
      refine hr.mono ?_
      clear hr
      rintro e w8 ⟨rfl, hb8⟩
      have HB8 : Hid (Below w.heap.size w w8) := HB7.out.trans (hb8.mono HB7.out.size)
      clear hb8 cK
      go_wp2
      go_ret
      exact ⟨rfl, HB8.out⟩

theorem runs_walk (p pp : Option Addr) (cap pcap : Nat) (words : Int) (P : List (List I5)) (l : List Int) (w : World) (hp : Prgs w p P) (hpp : Sl w pp l.length (intC l)) :
    Calls Try.prog 4 #[.slice p P.length cap, .int .i64 words, .slice pp l.length pcap] w fun e w' => e = .returned (.bool true) ∧ Below w.heap.size w w' := by
  by_cases h : shortB P = false ∨ 300 < l.length
  · exact runs_out p pp _ cap _ pcap words P w rfl hp h
  · have hs : shortB P = true := by
      cases hh : shortB P with
      | true => rfl
      | false => exact (h (.inl hh)).elim
    have hl : l.length ≤ 300 := by omega
    cases hn : newOk P words with
    | false => exact runs_no p pp _ cap _ pcap words P w rfl hp hs hl hn
    | true =>
      have := newOk_has hn
      obtain ⟨k, rfl⟩ := Int.eq_ofNat_of_zero_le (show 0 ≤ words by omega)
      exact runs_main p pp _ cap _ pcap k P l w rfl hp hs hl hn rfl hpp
end Go.Proofs.Ytekiialhljfglaa
/- AtomRight: the walk of the statement's function. -/
namespace Go.Proofs.Ytekiialhljfglaa
set_option linter.unusedVariables false
open Go.ChangeShapes Go.WideShapes Go.ChangeAt Go.RowKit

def newRes (P : List (List I5)) (words : Int) : Atm := if newOk P words then newA P.length words.toNat else nilA
def newErr (P : List (List I5)) (words : Int) : Int := if newOk P words then 0 else 1
theorem newRes_small (P : List (List I5)) (words : Int) (h6 : P.length ≤ 6) : (newRes P words).mem.length ≤ maxLen ∧ (newRes P words).cores.length ≤ maxLen ∧ (newRes P words).outs.length ≤ maxLen := by
  unfold newRes
  cases h : newOk P words with
  | false =>
    rw [if_neg (by simp)]
    exact ⟨by decide, by decide, by decide⟩
  | true =>
    have hn := newOk_has h
    rw [if_pos rfl, newA_mem, newA_cores]
    exact ⟨by unfold maxLen; omega, by unfold maxLen; omega, by unfold newA maxLen; simp⟩
theorem OwnM.form9 {w : World} {base : Nat} {vm vc vo : Value} {a : Atm} (h : OwnM w base vm vc vo a) : ∃ pm lm cm pc lc cc po lo co, vm = .slice pm lm cm ∧ vc = .slice pc lc cc ∧ vo = .slice po lo co := by
  obtain ⟨pm, lm, cm, e1⟩ := form_of h.m
  obtain ⟨pc, lc, cc, e2⟩ := form_of h.c
  obtain ⟨po, lo, co, e3⟩ := form_of h.o
  exact ⟨pm, lm, cm, pc, lc, cc, po, lo, co, e1, e2, e3⟩
theorem New_res (p : Option Addr) (cap : Nat) (words : Int) (P : List (List I5)) (w : World) (hp : Prgs w p P) :
    Calls Try.prog 14 #[.slice p P.length cap, .int .i64 words] w fun e w' => ∃ pm lm cm pc lc cc po lo co, e = .returned (.tuple #[.agg #[.slice pm lm cm, .slice pc lc cc, .slice po lo co], .int .i64 (newErr P words)]) ∧ Mach w' (.agg #[.slice pm lm cm, .slice pc lc cc, .slice po lo co]) (newRes P words) ∧ Below w.heap.size w w' := by
  cases h : newOk P words with
  | false =>
    refine (new_no p _ cap words P w rfl hp (newOk_not h)).mono fun e w' ⟨he, hb⟩ => ⟨none, 0, 0, none, 0, 0, none, 0, 0, ?_, ?_, hb⟩
    · rw [he]; unfold newErr; rw [h]; rfl
    · unfold newRes; rw [h]; exact Mach.nil _
  | true =>
    have hn := newOk_has h
    obtain ⟨k, rfl⟩ := Int.eq_ofNat_of_zero_le (show 0 ≤ words by omega)
    have hal := all_len hn.2.2
    refine (new_yes p _ cap k P w rfl hp (by omega) (by omega) hn.2.2 hal.2).mono fun e w' ⟨vm, vc, vo, he, ho, hb⟩ => ?_
    obtain ⟨pm, lm, cm, pc, lc, cc, po, lo, co, rfl, rfl, rfl⟩ := ho.form9
    refine ⟨pm, lm, cm, pc, lc, cc, po, lo, co, ?_, ?_, hb⟩
    · rw [he]; unfold newErr; rw [h]; rfl
    · unfold newRes; rw [h]; exact ho.mach
theorem NewR_res (p : Option Addr) (cap : Nat) (words : Int) (P : List (List I5)) (w : World) (h6 : P.length ≤ 6) (hp : Prgs w p P) :
    Calls Try.prog 15 #[.slice p P.length cap, .int .i64 words] w fun e w' => ∃ pm lm cm pc lc cc po lo co, e = .returned (.tuple #[.agg #[.slice pm lm cm, .slice pc lc cc, .slice po lo co], .int .i64 (newErr P words)]) ∧ Mach w' (.agg #[.slice pm lm cm, .slice pc lc cc, .slice po lo co]) (newRes P words) ∧ Below w.heap.size w w' := by
  cases h : newOk P words with
  | false =>
    refine (newR_no p _ cap words P w rfl h6 hp (newOk_not h)).mono fun e w' ⟨he, hb⟩ => ⟨none, 0, 0, none, 0, 0, none, 0, 0, ?_, ?_, hb⟩
    · rw [he]; unfold newErr; rw [h]; rfl
    · unfold newRes; rw [h]; exact Mach.nil _
  | true =>
    have hn := newOk_has h
    obtain ⟨k, rfl⟩ := Int.eq_ofNat_of_zero_le (show 0 ≤ words by omega)
    have hal := all_len hn.2.2
    refine (newR_yes p _ cap k P w rfl hp (by omega) (by omega) hn.2.2 hal.2).mono fun e w' ⟨vm, vc, vo, he, ho, hb⟩ => ?_
    obtain ⟨pm, lm, cm, pc, lc, cc, po, lo, co, rfl, rfl, rfl⟩ := ho.form9
    refine ⟨pm, lm, cm, pc, lc, cc, po, lo, co, ?_, ?_, hb⟩
    · rw [he]; unfold newErr; rw [h]; rfl
    · unfold newRes; rw [h]; exact ho.mach
theorem Step_res (p : Option Addr) (cap : Nat) (v : Value) (n : Int) (P : List (List I5)) (a : Atm) (w : World) (hp : Prgs w p P) (hv : Mach w v a) (m1 : a.mem.length * 4 ≤ 140737488355328) (m2 : a.cores.length * 48 ≤ 140737488355328) (m3 : (a.outs.length + 1) * 16 ≤ 140737488355328) (hf : rightA P a = true → a.Fits) :
    Calls Try.prog 19 #[.slice p P.length cap, v, .int .i64 n] w fun e w' => ∃ pm lm cm pc lc cc po lo co, e = .returned (.tuple #[.agg #[.slice pm lm cm, .slice pc lc cc, .slice po lo co], .int .i64 (stepErr P a n)]) ∧ OwnM w' w.heap.size (.slice pm lm cm) (.slice pc lc cc) (.slice po lo co) (stepRes P a n) ∧ Below w.heap.size w w' :=
  (Step_any p cap v n P a w hp hv m1 m2 m3 hf).mono fun e w' ⟨vm, vc, vo, he, ho, hb⟩ => by
    obtain ⟨pm, lm, cm, pc, lc, cc, po, lo, co, rfl, rfl, rfl⟩ := ho.form9
    exact ⟨_, _, _, _, _, _, _, _, _, he, ho, hb⟩

set_option maxHeartbeats 1000000 in
theorem right_out (p pm pc po : Option Addr) (np cap lm cm lc cc lo co : Nat) (n words k at_ v o : Int) (P : List (List I5)) (w : World) (hl : P.length = np) (hp : Prgs w p P) (h : shortB P = false ∨ 100 < lm ∨ 6 < lc) :
    Calls Try.prog 3 #[.slice p np cap, .agg #[.slice pm lm cm, .slice pc lc cc, .slice po lo co], .int .i64 n, .int .i64 words, .agg #[.int .i64 k, .int .i64 at_, .int .u32 v, .int .u32 o]] w fun e w' => e = .returned (.bool true) ∧ Below w.heap.size w w' := by
  have HL := Lib.hid hl
  have HP := Lib.hid hp
  have H := Lib.hid h
  obtain ⟨t, ht⟩ : ∃ t, t = shortB P := ⟨_, rfl⟩
  have HT := Lib.hid ht
  clear hl hp h ht
  go_enter Try.func3, Try.ntmps3
  go_wp2_with fail
  have HB0 : Hid (Below w.heap.size w ((w.alloc (.cells #[.slice pm lm cm, .slice pc lc cc, .slice po lo co] 27)).alloc (.cells #[.int .i64 k, .int .i64 at_, .int .u32 v, .int .u32 o] 30))) := ((Below.refl _ _).alloc (Nat.le_refl _) _).alloc (by simp) _
  refine (awake_any _).mono ?_
  rintro e w1 ⟨rfl, hb1⟩
  have HK1 : Hid (Blk w1 w.heap.size #[.slice pm lm cm, .slice pc lc cc, .slice po lo co]) := Blk.track2 hb1
  have HB1 : Hid (Below w.heap.size w w1) := HB0.out.trans (hb1.mono HB0.out.size)
  clear hb1
  have cB := HK1.out.c
  go_wp2_with fail
  have hsh := short_any p cap P w1 (HP.out.below HB1.out)
  rw [HL.out, ← HT.out] at hsh
  refine hsh.mono ?_
  clear hsh
  rintro e w2 ⟨rfl, rfl⟩
  cases t with
  | false =>
    go_wp2
    go_ret
    exact ⟨rfl, HB1.out⟩
  | true =>
    by_cases h1 : 100 < lm
    · have d1 : decide (100 < (lm : Int)) = true := decide_eq_true (by omega)
      clear h1
      go_wp2
      go_ret
      exact ⟨rfl, HB1.out⟩
    · have d1 : decide (100 < (lm : Int)) = false := decide_eq_false (by omega)
      have d2 : decide (6 < (lc : Int)) = true := decide_eq_true (by
        rcases H.out with h | h | h
        · rw [← HT.out] at h; cases h
        · omega
        · omega)
      clear h1
      go_wp2
      go_ret
      exact ⟨rfl, HB1.out⟩

set_option maxHeartbeats 2000000 in
theorem right_main (p pm pc po : Option Addr) (np cap lm cm lc cc lo co : Nat) (n words k at_ v o : Int) (P : List (List I5)) (a : Atm) (w : World) (hl : P.length = np) (hp : Prgs w p P) (hs : shortB P = true) (h100 : lm ≤ 100) (h6 : lc ≤ 6) (hM : Mach w (.agg #[.slice pm lm cm, .slice pc lc cc, .slice po lo co]) a) (h1 : a.mem.length = lm) (h2 : a.cores.length = lc) (h3 : a.outs.length = lo) (s1 : Sl w pm lm (memC a.mem)) (s2 : Sl w pc lc (coresC a.cores)) (hf : a.Fits) (hmo : (lo + 1) * 16 ≤ 140737488355328) :
    Calls Try.prog 3 #[.slice p np cap, .agg #[.slice pm lm cm, .slice pc lc cc, .slice po lo co], .int .i64 n, .int .i64 words, .agg #[.int .i64 k, .int .i64 at_, .int .u32 v, .int .u32 o]] w fun e w' => e = .returned (.bool true) ∧ Below w.heap.size w w' := by
  have HL := Lib.hid hl
  have HP := Lib.hid hp
  have HS := Lib.hid hs
  have HM := Lib.hid hM
  have H1 := Lib.hid h1
  have H2 := Lib.hid h2
  have H3 := Lib.hid h3
  have S1 := Lib.hid s1
  have S2 := Lib.hid s2
  have HF := Lib.hid hf
  have HMO := Lib.hid hmo
  have d1 : decide (100 < (lm : Int)) = false := decide_eq_false (by omega)
  have d2 : decide (6 < (lc : Int)) = false := decide_eq_false (by omega)
  clear hl hp hs hM h1 h2 h3 s1 s2 hf hmo
  go_enter Try.func3, Try.ntmps3
  go_wp2_with fail
  have HB0 : Hid (Below w.heap.size w ((w.alloc (.cells #[.slice pm lm cm, .slice pc lc cc, .slice po lo co] 27)).alloc (.cells #[.int .i64 k, .int .i64 at_, .int .u32 v, .int .u32 o] 30))) := ((Below.refl _ _).alloc (Nat.le_refl _) _).alloc (by simp) _
  refine (awake_any _).mono ?_
  rintro e w1 ⟨rfl, hb1⟩
  have HK1 : Hid (Blk w1 w.heap.size #[.slice pm lm cm, .slice pc lc cc, .slice po lo co]) := Blk.track2 hb1
  have HW1 : Hid (Blk w1 (w.heap.size + 1) #[.int .i64 k, .int .i64 at_, .int .u32 v, .int .u32 o]) := by
    have h := (Blk.new (w.alloc (.cells #[.slice pm lm cm, .slice pc lc cc, .slice po lo co] 27)) #[.int .i64 k, .int .i64 at_, .int .u32 v, .int .u32 o] 30).below hb1
    rw [World.size_alloc] at h
    exact h
  have HB1 : Hid (Below w.heap.size w w1) := HB0.out.trans (hb1.mono HB0.out.size)
  clear hb1
  have cB := HK1.out.c
  go_wp2_with fail
  have hsh := short_any p cap P w1 (HP.out.below HB1.out)
  rw [HL.out, HS.out] at hsh
  refine hsh.mono ?_
  clear hsh
  rintro e w2 ⟨rfl, rfl⟩
  have x0 : w1.cell? ⟨w.heap.size + 1, 0, none⟩ = some (.int .i64 k) := HW1.out.c 0
  have x1 : w1.cell? ⟨w.heap.size + 1, 1, none⟩ = some (.int .i64 at_) := HW1.out.c 1
  have x2 : w1.cell? ⟨w.heap.size + 1, 2, none⟩ = some (.int .u32 v) := HW1.out.c 2
  have x3 : w1.cell? ⟨w.heap.size + 1, 3, none⟩ = some (.int .u32 o) := HW1.out.c 3
  go_wp2_with fail
  refine (Act_any pm lm cm a.mem ⟨k, at_, v, o⟩ w1 H1.out (by omega) (S1.out.below HB1.out)).mono ?_
  rintro e w3 ⟨q3, c3, rfl, hs3, hb3⟩
  have HS3 := Lib.hid hs3
  have HK3 := Lib.hid (HK1.out.below hb3)
  have HW3 := Lib.hid (HW1.out.below hb3)
  have HB3 : Hid (Below w.heap.size w w3) := HB1.out.trans (hb3.mono HB1.out.size)
  clear hs3 hb3 cB x0 x1 x2 x3 HK1 HW1
  have cB := HK3.out.c
  have x0 : w3.cell? ⟨w.heap.size + 1, 0, none⟩ = some (.int .i64 k) := HW3.out.c 0
  have x1 : w3.cell? ⟨w.heap.size + 1, 1, none⟩ = some (.int .i64 at_) := HW3.out.c 1
  have x2 : w3.cell? ⟨w.heap.size + 1, 2, none⟩ = some (.int .u32 v) := HW3.out.c 2
  have x3 : w3.cell? ⟨w.heap.size + 1, 3, none⟩ = some (.int .u32 o) := HW3.out.c 3
  go_wp2_with fail
  have hact := actR_any pm cm a.mem ⟨k, at_, v, o⟩ w3 (by rw [H1.out]; omega) (by rw [H1.out]; exact S1.out.below HB3.out)
  rw [H1.out] at hact
  refine hact.mono ?_
  clear hact
  rintro e w4 ⟨q4, c4, rfl, hs4, _, hb4⟩
  have HS4 := Lib.hid hs4
  have HS34 := Lib.hid (HS3.out.below hb4)
  have HK4 := Lib.hid (HK3.out.below hb4)
  have HB4 : Hid (Below w.heap.size w w4) := HB3.out.trans (hb4.mono HB3.out.size)
  clear hs4 hb4 cB x0 x1 x2 x3 HK3 HW3 HS3
  obtain ⟨was, hwas⟩ : ∃ was, was = actWas a.mem ⟨k, at_, v, o⟩ := ⟨_, rfl⟩
  rw [← hwas]
  obtain ⟨mem', hmem'⟩ : ∃ m, m = actMem a.mem ⟨k, at_, v, o⟩ := ⟨_, rfl⟩
  rw [← hmem'] at HS4 HS34
  have HLM : Hid (mem'.length = lm) := by show mem'.length = lm; rw [hmem', actMem_len, H1.out]
  clear hwas hmem'
  have ew : (was != was) = false := by simp
  obtain ⟨ov, hov⟩ : ∃ ov, ov = overA a.cores := ⟨_, rfl⟩
  have HOV := Lib.hid hov
  clear hov
  go_wp2_with fail
  refine region_plan (fun w' : World => ∀ j, w'.cell? ⟨w.heap.size, j, none⟩ = (#[.slice pm lm cm, .slice pc lc cc, .slice po lo co] : Array Value)[j]?) 15 [(0, true), (1, true), (2, false), (3, true), (4, true), (5, true), (6, true), (7, true), (8, true), (9, true), (10, true), (12, true), (13, true), (11, false), (14, false)] (by kernel_rfl) (by kernel_rfl) HK4.out.c ?_
  iterate 2
    refine plan_read (v := ?_) rfl (by rfl) ?_ ?_
    rotate_left
    · intro w' hS
      try dsimp only at hS
      go_simp
      try with_reducible rfl
    try simp only [Act.put, List.setIfInBounds_toArray, List.set_cons_zero, List.set_cons_succ, List.getElem_toArray, List.getElem_cons_zero, List.getElem_cons_succ]
  refine plan_call (F := 11) (args := ?_) rfl (by rfl) ?_ ?_
  rotate_left
  · go_simp
    rfl
  refine (words_same q3 q4 lm c3 c4 mem' w4.drew HLM.out (by unfold maxLen; omega) (HS34.out.below (Below.refl _ _).drew) (HS4.out.below (Below.refl _ _).drew)).mono ?_
  rintro e w5 ⟨rfl, hb5⟩
  have HB5 : Hid (Below w4.heap.size w4 w5) := (Below.refl _ _).drew.trans hb5
  refine ⟨_, rfl, (HK4.out.below HB5.out).c, ?_⟩
  clear hb5
  try simp only [Act.put, List.setIfInBounds_toArray, List.set_cons_zero, List.set_cons_succ, List.getElem_toArray, List.getElem_cons_zero, List.getElem_cons_succ]
  iterate 10
    refine plan_read (v := ?_) rfl (by rfl) ?_ ?_
    rotate_left
    · intro w' hS
      try dsimp only at hS
      go_simp
      try with_reducible rfl
    try simp only [Act.put, List.setIfInBounds_toArray, List.set_cons_zero, List.set_cons_succ, List.getElem_toArray, List.getElem_cons_zero, List.getElem_cons_succ]
  refine plan_call (F := 12) (args := ?_) rfl (by rfl) ?_ ?_
  rotate_left
  · go_simp
    rfl
  refine (over_any pm pc po lm cm lc cc lo co a.cores w5 H2.out (by unfold maxLen; omega) ((S2.out.below HB4.out).below HB5.out)).mono ?_
  rintro e w6 ⟨rfl, hb6⟩
  rw [← HOV.out]
  have HB6 : Hid (Below w4.heap.size w4 w6) := HB5.out.trans (hb6.mono HB5.out.size)
  refine ⟨_, rfl, (HK4.out.below HB6.out).c, ?_⟩
  clear hb6
  try simp only [Act.put, List.setIfInBounds_toArray, List.set_cons_zero, List.set_cons_succ, List.getElem_toArray, List.getElem_cons_zero, List.getElem_cons_succ]
  refine plan_call (F := 13) (args := ?_) rfl (by rfl) ?_ ?_
  rotate_left
  · go_simp
    rfl
  refine (overR_any pm pc po lm cm lc cc lo co a.cores w6 H2.out (by unfold maxLen; omega) ((S2.out.below HB4.out).below HB6.out)).mono ?_
  rintro e w7 ⟨rfl, hb7⟩
  rw [← HOV.out]
  have HB7' : Hid (Below w4.heap.size w4 w7) := HB6.out.trans (hb7.mono HB6.out.size)
  refine ⟨_, rfl, (HK4.out.below HB7'.out).c, ?_⟩
  refine plan_nil ?_
  clear hb7
  try simp only [Act.put, List.setIfInBounds_toArray, List.set_cons_zero, List.set_cons_succ, List.getElem_toArray, List.getElem_cons_zero, List.getElem_cons_succ]
  simp only [List.drop_succ_cons, List.drop_zero]
  have HK7 := Lib.hid (HK4.out.below HB7'.out)
  have HB7 : Hid (Below w.heap.size w w7) := HB4.out.trans (HB7'.out.mono HB4.out.size)
  clear HB5 HB6 HB7' HK4 HS4 HS34
  have eo : (ov != ov) = false := by simp
  go_wp2_with fail
  have hnw := New_res p cap words P w7 (HP.out.below HB7.out)
  rw [HL.out] at hnw
  refine hnw.mono ?_
  clear hnw
  rintro e w8 ⟨a1, a2, a3, a4, a5, a6, a7, a8, a9, rfl, hm8, hb8⟩
  have HM8 := Lib.hid hm8
  have HK8 := Lib.hid (HK7.out.below hb8)
  have HB8 : Hid (Below w.heap.size w w8) := HB7.out.trans (hb8.mono HB7.out.size)
  clear hm8 hb8
  obtain ⟨er, her⟩ : ∃ er, er = newErr P words := ⟨_, rfl⟩
  have HER := Lib.hid her
  rw [← her]
  clear her
  go_wp2_with fail
  have HX9 : Hid (Blk (w8.alloc (.cells #[.slice a1 a2 a3, .slice a4 a5 a6, .slice a7 a8 a9] 27)) w8.heap.size #[.slice a1 a2 a3, .slice a4 a5 a6, .slice a7 a8 a9]) := Blk.new w8 _ 27
  have HA9 : Hid (Below w8.heap.size w8 (w8.alloc (.cells #[.slice a1 a2 a3, .slice a4 a5 a6, .slice a7 a8 a9] 27))) := (Below.refl _ _).alloc (Nat.le_refl _) _
  have HB9 : Hid (Below w.heap.size w (w8.alloc (.cells #[.slice a1 a2 a3, .slice a4 a5 a6, .slice a7 a8 a9] 27))) := HB8.out.alloc HB8.out.size _
  have hnw := NewR_res p cap words P (w8.alloc (.cells #[.slice a1 a2 a3, .slice a4 a5 a6, .slice a7 a8 a9] 27)) (short_few HS.out) (HP.out.below HB9.out)
  rw [HL.out, ← HER.out] at hnw
  refine hnw.mono ?_
  clear hnw
  rintro e w10 ⟨b1, b2, b3, b4, b5, b6, b7, b8, b9, rfl, hm10, hb10⟩
  have HX10 := Lib.hid (HX9.out.below hb10)
  have HN10 := Lib.hid ((HM8.out.below HA9.out).below hb10)
  have HK10 := Lib.hid ((HK8.out.below HA9.out).below hb10)
  have HM10 := Lib.hid hm10
  have HB10 : Hid (Below w.heap.size w w10) := HB9.out.trans (hb10.mono HB9.out.size)
  clear hm10 hb10 HX9 HA9 HB9 HM8 HK8
  go_upto_region 11 with fail
  obtain ⟨W, hW⟩ : ∃ W, W = w10.alloc (.cells #[.slice b1 b2 b3, .slice b4 b5 b6, .slice b7 b8 b9] 27) := ⟨_, rfl⟩
  have HA11 : Hid (Below w10.heap.size w10 W) := by rw [hW]; exact (Below.refl _ _).alloc (Nat.le_refl _) _
  have HY11 : Hid (Blk W w10.heap.size #[.slice b1 b2 b3, .slice b4 b5 b6, .slice b7 b8 b9]) := by rw [hW]; exact Blk.new w10 _ 27
  rw [← hW]
  clear hW
  have HX11 := Lib.hid (HX10.out.below HA11.out)
  have HN11 := Lib.hid (HN10.out.below HA11.out)
  have HM11 := Lib.hid (HM10.out.below HA11.out)
  have HK11 := Lib.hid (HK10.out.below HA11.out)
  have HB11 : Hid (Below w.heap.size w W) := HB10.out.trans (HA11.out.mono HB10.out.size)
  clear HA11 HX10 HN10 HM10 HK10
  have HSM := Lib.hid (newRes_small P words (short_few HS.out))
  obtain ⟨tr, htr⟩ : ∃ tr, tr = rightA P a := ⟨_, rfl⟩
  have HTR := Lib.hid htr
  clear htr
  have et : (tr != tr) = false := by simp
  have ee : (er != er) = false := by simp
  refine region_plan (fun w' : World => (∀ j, w'.cell? ⟨w8.heap.size, j, none⟩ = (#[.slice a1 a2 a3, .slice a4 a5 a6, .slice a7 a8 a9] : Array Value)[j]?) ∧ (∀ j, w'.cell? ⟨w10.heap.size, j, none⟩ = (#[.slice b1 b2 b3, .slice b4 b5 b6, .slice b7 b8 b9] : Array Value)[j]?) ∧ (∀ j, w'.cell? ⟨w.heap.size, j, none⟩ = (#[.slice pm lm cm, .slice pc lc cc, .slice po lo co] : Array Value)[j]?)) 16 [(0, true), (1, true), (2, false), (3, true), (4, true), (5, true), (6, true), (7, true), (8, true), (9, true), (10, true), (11, true), (13, true), (14, true), (12, false), (15, false)] (by kernel_rfl) (by kernel_rfl) ⟨HX11.out.c, HY11.out.c, HK11.out.c⟩ ?_
  iterate 2
    refine plan_read (v := ?_) rfl (by rfl) ?_ ?_
    rotate_left
    · intro w' hS
      try dsimp only at hS
      go_simp
      try with_reducible rfl
    try simp only [Act.put, List.setIfInBounds_toArray, List.set_cons_zero, List.set_cons_succ, List.getElem_toArray, List.getElem_cons_zero, List.getElem_cons_succ]
  refine plan_call (F := 16) (args := ?_) rfl (by rfl) ?_ ?_
  rotate_left
  · go_simp
    rfl
  refine (same_any _ _ (newRes P words) W.drew HSM.out.1 HSM.out.2.1 HSM.out.2.2 (HN11.out.below (Below.refl _ _).drew) (HM11.out.below (Below.refl _ _).drew)).mono ?_
  rintro e w12 ⟨rfl, hb12⟩
  have HB12 : Hid (Below W.heap.size W w12) := (Below.refl _ _).drew.trans hb12
  refine ⟨_, rfl, ⟨(HX11.out.below HB12.out).c, (HY11.out.below HB12.out).c, (HK11.out.below HB12.out).c⟩, ?_⟩
  clear hb12
  try simp only [Act.put, List.setIfInBounds_toArray, List.set_cons_zero, List.set_cons_succ, List.getElem_toArray, List.getElem_cons_zero, List.getElem_cons_succ]
  iterate 11
    refine plan_read (v := ?_) rfl (by rfl) ?_ ?_
    rotate_left
    · intro w' hS
      try dsimp only at hS
      go_simp
      try with_reducible rfl
    try simp only [Act.put, List.setIfInBounds_toArray, List.set_cons_zero, List.set_cons_succ, List.getElem_toArray, List.getElem_cons_zero, List.getElem_cons_succ]
  refine plan_call (F := 17) (args := ?_) rfl (by rfl) ?_ ?_
  rotate_left
  · go_simp
    rfl
  have hr := right_any4 p cap P (.agg #[.slice pm lm cm, .slice pc lc cc, .slice po lo co]) a w12 ((HP.out.below HB11.out).below HB12.out) ((HM.out.below HB11.out).below HB12.out)
  rw [HL.out, ← HTR.out] at hr
  refine hr.mono ?_
  clear hr
  rintro e w13 ⟨rfl, hb13⟩
  have HB13 : Hid (Below W.heap.size W w13) := HB12.out.trans (hb13.mono HB12.out.size)
  refine ⟨_, rfl, ⟨(HX11.out.below HB13.out).c, (HY11.out.below HB13.out).c, (HK11.out.below HB13.out).c⟩, ?_⟩
  clear hb13
  try simp only [Act.put, List.setIfInBounds_toArray, List.set_cons_zero, List.set_cons_succ, List.getElem_toArray, List.getElem_cons_zero, List.getElem_cons_succ]
  refine plan_call (F := 18) (args := ?_) rfl (by rfl) ?_ ?_
  rotate_left
  · go_simp
    rfl
  have hr := rightR4_any p cap P (.agg #[.slice pm lm cm, .slice pc lc cc, .slice po lo co]) a w13 (short_few HS.out) ((HP.out.below HB11.out).below HB13.out) ((HM.out.below HB11.out).below HB13.out)
  rw [HL.out, ← HTR.out] at hr
  refine hr.mono ?_
  clear hr
  rintro e w14 ⟨rfl, hb14⟩
  have HB14' : Hid (Below W.heap.size W w14) := HB13.out.trans (hb14.mono HB13.out.size)
  refine ⟨_, rfl, ⟨(HX11.out.below HB14'.out).c, (HY11.out.below HB14'.out).c, (HK11.out.below HB14'.out).c⟩, ?_⟩
  refine plan_nil ?_
  clear hb14
  try simp only [Act.put, List.setIfInBounds_toArray, List.set_cons_zero, List.set_cons_succ, List.getElem_toArray, List.getElem_cons_zero, List.getElem_cons_succ]
  simp only [List.drop_succ_cons, List.drop_zero]
  have HK14 := Lib.hid (HK11.out.below HB14'.out)
  have HB14 : Hid (Below w.heap.size w w14) := HB11.out.trans (HB14'.out.mono HB11.out.size)
  clear HB12 HB13 HB14' HX11 HY11 HN11 HM11 HK11
  have cB := HK14.out.c
  go_wp2_with fail
  have hst := Step_res p cap (.agg #[.slice pm lm cm, .slice pc lc cc, .slice po lo co]) n P a w14 (HP.out.below HB14.out) (HM.out.below HB14.out) (by rw [H1.out]; omega) (by rw [H2.out]; omega) (by rw [H3.out]; exact HMO.out) (fun _ => HF.out)
  rw [HL.out] at hst
  refine hst.mono ?_
  clear hst
  rintro e w15 ⟨g1, g2, g3, g4, g5, g6, g7, g8, g9, rfl, ho15, hb15⟩
  have HD15 := Lib.hid ho15.mach
  have HK15 := Lib.hid (HK14.out.below hb15)
  have HB15 : Hid (Below w.heap.size w w15) := HB14.out.trans (hb15.mono HB14.out.size)
  clear ho15 hb15 cB HK14
  obtain ⟨es, hes⟩ : ∃ es, es = stepErr P a n := ⟨_, rfl⟩
  have HES := Lib.hid hes
  rw [← hes]
  clear hes
  go_upto_region 14 with fail
  obtain ⟨V, hV⟩ : ∃ V, V = w15.alloc (.cells #[.slice g1 g2 g3, .slice g4 g5 g6, .slice g7 g8 g9] 27) := ⟨_, rfl⟩
  have HA16 : Hid (Below w15.heap.size w15 V) := by rw [hV]; exact (Below.refl _ _).alloc (Nat.le_refl _) _
  have HZ16 : Hid (Blk V w15.heap.size #[.slice g1 g2 g3, .slice g4 g5 g6, .slice g7 g8 g9]) := by rw [hV]; exact Blk.new w15 _ 27
  rw [← hV]
  clear hV
  have HD16 := Lib.hid (HD15.out.below HA16.out)
  have HK16 := Lib.hid (HK15.out.below HA16.out)
  have HB16 : Hid (Below w.heap.size w V) := HB15.out.trans (HA16.out.mono HB15.out.size)
  clear HA16 HD15 HK15
  have cB := HK16.out.c
  go_wp2_with fail
  have hr := rightR4_any p cap P (.agg #[.slice pm lm cm, .slice pc lc cc, .slice po lo co]) a V (short_few HS.out) (HP.out.below HB16.out) (HM.out.below HB16.out)
  rw [HL.out, ← HTR.out] at hr
  refine hr.mono ?_
  clear hr
  rintro e w17 ⟨rfl, hb17⟩
  have HD17 := Lib.hid (HD16.out.below hb17)
  have HZ17 := Lib.hid (HZ16.out.below hb17)
  have HK17 := Lib.hid (HK16.out.below hb17)
  have HB17 : Hid (Below w.heap.size w w17) := HB16.out.trans (hb17.mono HB16.out.size)
  clear hb17 cB HD16 HZ16 HK16
  have cB := HK17.out.c
  have cZ := HZ17.out.c
  have HLN : Hid (a.mem.length ≤ maxLen ∧ a.cores.length ≤ maxLen ∧ a.outs.length ≤ maxLen) := ⟨by rw [H1.out]; unfold maxLen; omega, by rw [H2.out]; unfold maxLen; omega, by have := HMO.out; rw [H3.out]; unfold maxLen; omega⟩
  have bad : Hid (stepOk P a n = false → es = 1 ∧ stepRes P a n = a) := fun h => ⟨by rw [HES.out]; unfold stepErr; rw [h]; rfl, by unfold stepRes; rw [h]; rfl⟩
  have HSB : Hid (∀ W' : World, Below w17.heap.size w17 W' → stepOk P a n = false → Calls Try.prog 16 #[.agg #[.slice g1 g2 g3, .slice g4 g5 g6, .slice g7 g8 g9], .agg #[.slice pm lm cm, .slice pc lc cc, .slice po lo co]] W' fun e w' => e = .returned (.bool true) ∧ Below W'.heap.size W' w') := fun W' hb' h => by
    have hd := HD17.out.below hb'
    rw [(bad.out h).2] at hd
    exact same_any _ _ a W' HLN.out.1 HLN.out.2.1 HLN.out.2.2 hd ((HM.out.below HB17.out).below hb')
  cases tr with
  | false =>
    have hb0 : stepOk P a n = false := by unfold stepOk; rw [← HTR.out]; simp
    have he := (bad.out hb0).1
    subst he
    have HB0' := Lib.hid hb0
    clear hb0
    go_wp2_with fail
    refine (HSB.out _ (Below.refl _ _) HB0'.out).mono ?_
    rintro e w18 ⟨rfl, hb18⟩
    have HB18 : Hid (Below w.heap.size w w18) := HB17.out.trans (hb18.mono HB17.out.size)
    clear hb18 cB cZ
    go_wp2
    go_ret
    exact ⟨rfl, HB18.out⟩
  | true =>
    have hra := right_all HTR.out.symm
    by_cases hn0 : n < 0
    · have hb0 : stepOk P a n = false := by unfold stepOk; rw [decide_eq_false (p := 0 ≤ n) (by omega)]; rfl
      have e0 : decide (n < 0) = true := decide_eq_true hn0
      have he := (bad.out hb0).1
      subst he
      have HB0' := Lib.hid hb0
      clear hb0 hra hn0
      go_wp2_with fail
      refine (HSB.out _ (Below.refl _ _) HB0'.out).mono ?_
      rintro e w18 ⟨rfl, hb18⟩
      have HB18 : Hid (Below w.heap.size w w18) := HB17.out.trans (hb18.mono HB17.out.size)
      clear hb18 cB cZ
      go_wp2
      go_ret
      exact ⟨rfl, HB18.out⟩
    · have e0 : decide (n < 0) = false := decide_eq_false hn0
      by_cases hn1 : (np : Int) ≤ n
      · have hb0 : stepOk P a n = false := by unfold stepOk; rw [decide_eq_false (p := n < (a.cores.length : Int)) (by rw [hra.2.2.1, HL.out]; omega)]; simp
        have e1 : decide ((np : Int) ≤ n) = true := decide_eq_true hn1
        have he := (bad.out hb0).1
        subst he
        have HB0' := Lib.hid hb0
        clear hb0 hra hn0 hn1
        go_wp2_with fail
        refine (HSB.out _ (Below.refl _ _) HB0'.out).mono ?_
        rintro e w18 ⟨rfl, hb18⟩
        have HB18 : Hid (Below w.heap.size w w18) := HB17.out.trans (hb18.mono HB17.out.size)
        clear hb18 cB cZ
        go_wp2
        go_ret
        exact ⟨rfl, HB18.out⟩
      · have e1 : decide ((np : Int) ≤ n) = false := decide_eq_false hn1
        obtain ⟨m, rfl⟩ := Int.eq_ofNat_of_zero_le (show 0 ≤ n by omega)
        have hok : stepOk P a m = true := by
          unfold stepOk
          rw [decide_eq_true (show (0 : Int) ≤ (m : Int) by omega), decide_eq_true (show (m : Int) < (a.cores.length : Int) by rw [hra.2.2.1, HL.out]; omega), ← HTR.out]; rfl
        obtain ⟨he, hsr⟩ : es = 0 ∧ stepRes P a m = stepA P a m := ⟨by rw [HES.out]; unfold stepErr; rw [if_pos hok], by unfold stepRes; rw [if_pos hok]; rfl⟩
        subst he
        have HSR := Lib.hid hsr
        have hmP : m < P.length := by rw [HL.out]; omega
        have e2 : decide (np ≤ m) = false := decide_eq_false (by omega)
        have hlt : m < np := by omega
        clear hok hn0 hn1 hsr
        go_upto_region 16 with fail
        refine region_plan (fun w' : World => (∀ j, w'.cell? ⟨w15.heap.size, j, none⟩ = (#[.slice g1 g2 g3, .slice g4 g5 g6, .slice g7 g8 g9] : Array Value)[j]?) ∧ (∀ j, w'.cell? ⟨w.heap.size, j, none⟩ = (#[.slice pm lm cm, .slice pc lc cc, .slice po lo co] : Array Value)[j]?)) 9 [(0, true), (1, true), (2, true), (3, true), (4, true), (5, true), (6, true), (7, false), (8, false)] (by kernel_rfl) (by kernel_rfl) ⟨HZ17.out.c, HK17.out.c⟩ ?_
        iterate 7
          refine plan_read (v := ?_) rfl (by rfl) ?_ ?_
          rotate_left
          · intro w' hS
            try dsimp only at hS
            go_simp
            try with_reducible rfl
          try simp only [Act.put, List.setIfInBounds_toArray, List.set_cons_zero, List.set_cons_succ, List.getElem_toArray, List.getElem_cons_zero, List.getElem_cons_succ]
        refine plan_call (F := 20) (args := ?_) rfl (by rfl) ?_ ?_
        rotate_left
        · go_simp
          rfl
        have hst := stepR_any p cap P (.agg #[.slice pm lm cm, .slice pc lc cc, .slice po lo co]) a m w17.drew ((HP.out.below HB17.out).below (Below.refl _ _).drew) hmP ((HM.out.below HB17.out).below (Below.refl _ _).drew) hra.2.2.1 HF.out hra.2.1 (short_few HS.out) (by rw [H3.out]; exact HMO.out)
        rw [HL.out] at hst
        refine hst.mono ?_
        clear hst
        rintro e w18 ⟨u18, rfl, hm18, hb18⟩
        have HB18 : Hid (Below w17.heap.size w17 w18) := (Below.refl _ _).drew.trans hb18
        have HM18 := Lib.hid hm18
        refine ⟨_, rfl, ⟨(HZ17.out.below HB18.out).c, (HK17.out.below HB18.out).c⟩, ?_⟩
        clear hb18 hm18
        try simp only [Act.put, List.setIfInBounds_toArray, List.set_cons_zero, List.set_cons_succ, List.getElem_toArray, List.getElem_cons_zero, List.getElem_cons_succ]
        refine plan_call (F := 16) (args := ?_) rfl (by rfl) ?_ ?_
        rotate_left
        · go_simp
          rfl
        refine (same_any _ _ (stepA P a m) w18 (by rw [stepA_mem]; exact HLN.out.1) (by rw [stepA_cores]; exact HLN.out.2.1) (by have := stepA_outs P a m; have h2 := HMO.out; rw [← H3.out] at h2; unfold maxLen; omega) (by have h := HD17.out.below HB18.out; rw [HSR.out] at h; exact h) HM18.out).mono ?_
        rintro e w19 ⟨rfl, hb19⟩
        have HB19' : Hid (Below w17.heap.size w17 w19) := HB18.out.trans (hb19.mono HB18.out.size)
        refine ⟨_, rfl, ⟨(HZ17.out.below HB19'.out).c, (HK17.out.below HB19'.out).c⟩, ?_⟩
        refine plan_nil ?_
        clear hb19
        try simp only [Act.put, List.setIfInBounds_toArray, List.set_cons_zero, List.set_cons_succ, List.getElem_toArray, List.getElem_cons_zero, List.getElem_cons_succ]
        simp only [List.drop_succ_cons, List.drop_zero]
        have HB19 : Hid (Below w.heap.size w w19) := HB17.out.trans (HB19'.out.mono HB17.out.size)
        clear HB18 HB19' cB cZ
        go_wp2
        go_ret
        exact ⟨rfl, HB19.out⟩

theorem right_walk (p : Option Addr) (cap : Nat) (P : List (List I5)) (v0 v1 v2 : Value) (a : Atm) (n words : Int) (x : Wnt) (w : World) (hp : Prgs w p P) (hM : Mach w (.agg #[v0, v1, v2]) a) (hf : a.Fits) (hmo : (a.outs.length + 1) * 16 ≤ 140737488355328) :
    Calls Try.prog 3 #[.slice p P.length cap, .agg #[v0, v1, v2], .int .i64 n, .int .i64 words, .agg x.row] w fun e w' => e = .returned (.bool true) ∧ Below w.heap.size w w' := by
  obtain ⟨k, at_, v, o⟩ := x
  have hM' := hM
  obtain ⟨pm, cm, pc, cc, po, co, e, s1, s2, s3⟩ := hM
  injection e with e
  have e' : [v0, v1, v2] = [.slice pm a.mem.length cm, .slice pc a.cores.length cc, .slice po a.outs.length co] := Array.toList_inj.2 e
  injection e' with e1 e'
  injection e' with e2 e'
  injection e' with e3 _
  subst e1 e2 e3
  by_cases h : shortB P = false ∨ 100 < a.mem.length ∨ 6 < a.cores.length
  · exact right_out p pm pc po _ cap _ cm _ cc _ co n words k at_ v o P w rfl hp h
  · have hs : shortB P = true := by
      cases hh : shortB P with
      | true => rfl
      | false => exact (h (.inl hh)).elim
    exact right_main p pm pc po _ cap _ cm _ cc _ co n words k at_ v o P a w rfl hp hs (by omega) (by omega) hM' rfl rfl rfl s1 s2 hf hmo
end Go.Proofs.Ytekiialhljfglaa
/- Two cores, neither of which touches a word that the other one writes, make their steps in either order alike: a fact on lists, without any program. -/
namespace Go.Proofs.Ytekiialhljfglaa
set_option linter.unusedVariables false

def memKind (k : Int) : Bool := decide (1 ≤ k) && decide (k ≤ 3)
def wrKind (k : Int) : Bool := decide (k = 2) || decide (k = 3)
theorem actMem_id {m : List Int} {x : Wnt} (h : wrKind x.kind = false) : actMem m x = m := by
  unfold wrKind at h
  simp only [Bool.or_eq_false_iff, decide_eq_false_iff_not] at h
  unfold actMem
  rw [if_neg]
  simp [h.1, h.2]
theorem actWas_none {m : List Int} {x : Wnt} (h : memKind x.kind = false) : actWas m x = 0 := by
  unfold memKind at h
  unfold actWas
  rw [if_neg]
  rw [h]; simp
theorem actHit_len {m m' : List Int} {x : Wnt} (h : m.length = m'.length) : actHit m x = actHit m' x := by unfold actHit; rw [h]
theorem actMem_get {m : List Int} {x : Wnt} {i : Nat} (h : actHit m x = true → x.at_.toNat ≠ i) : (actMem m x).getD i 0 = m.getD i 0 := by
  unfold actMem
  split
  · rename_i hc
    simp only [Bool.and_eq_true] at hc
    simp only [List.getD, List.getElem?_set_ne (h hc.1)]
  · rfl
theorem act_miss {m : List Int} {x : Wnt} (h : actHit m x = false) : actMem m x = m ∧ actWas m x = 0 := by
  unfold actMem actWas
  rw [h]
  exact ⟨rfl, rfl⟩
theorem act_apart {m : List Int} {v w : Wnt} (h : v.at_ ≠ w.at_) : actWas (actMem m v) w = actWas m w ∧ actMem (actMem m v) w = actMem (actMem m w) v := by
  have hw : actHit (actMem m v) w = actHit m w := actHit_len (actMem_len m v)
  have hv : actHit (actMem m w) v = actHit m v := actHit_len (actMem_len m w)
  cases h1 : actHit m w with
  | false =>
    rw [(act_miss h1).1, (act_miss h1).2]
    rw [h1] at hw
    exact ⟨(act_miss hw).2, (act_miss hw).1⟩
  | true =>
    cases h2 : actHit m v with
    | false =>
      rw [(act_miss h2).1]
      rw [h2] at hv
      exact ⟨rfl, (act_miss hv).1.symm⟩
    | true =>
      have a1 : 0 ≤ w.at_ := by unfold actHit at h1; simp only [Bool.and_eq_true, decide_eq_true_eq] at h1; exact h1.1
      have a2 : 0 ≤ v.at_ := by unfold actHit at h2; simp only [Bool.and_eq_true, decide_eq_true_eq] at h2; exact h2.1
      have hne : v.at_.toNat ≠ w.at_.toNat := by omega
      have gw : (actMem m v).getD w.at_.toNat 0 = m.getD w.at_.toNat 0 := actMem_get (fun _ => hne)
      have gv : (actMem m w).getD v.at_.toNat 0 = m.getD v.at_.toNat 0 := actMem_get (fun _ => hne.symm)
      refine ⟨?_, ?_⟩
      · unfold actWas
        rw [hw, gw]
      · have e1 : actMem (actMem m v) w = if actHit m w && (decide (w.kind = 2) || decide (w.kind = 3) && decide (m.getD w.at_.toNat 0 = w.old)) then (actMem m v).set w.at_.toNat w.val else actMem m v := by
          rw [show actMem (actMem m v) w = if actHit (actMem m v) w && (decide (w.kind = 2) || decide (w.kind = 3) && decide ((actMem m v).getD w.at_.toNat 0 = w.old)) then (actMem m v).set w.at_.toNat w.val else actMem m v from rfl, hw, gw]
        have e2 : actMem (actMem m w) v = if actHit m v && (decide (v.kind = 2) || decide (v.kind = 3) && decide (m.getD v.at_.toNat 0 = v.old)) then (actMem m w).set v.at_.toNat v.val else actMem m w := by
          rw [show actMem (actMem m w) v = if actHit (actMem m w) v && (decide (v.kind = 2) || decide (v.kind = 3) && decide ((actMem m w).getD v.at_.toNat 0 = v.old)) then (actMem m w).set v.at_.toNat v.val else actMem m w from rfl, hv, gv]
        rw [e1, e2]
        have fw : actMem m w = if actHit m w && (decide (w.kind = 2) || decide (w.kind = 3) && decide (m.getD w.at_.toNat 0 = w.old)) then m.set w.at_.toNat w.val else m := rfl
        have fv : actMem m v = if actHit m v && (decide (v.kind = 2) || decide (v.kind = 3) && decide (m.getD v.at_.toNat 0 = v.old)) then m.set v.at_.toNat v.val else m := rfl
        generalize (actHit m w && (decide (w.kind = 2) || decide (w.kind = 3) && decide (m.getD w.at_.toNat 0 = w.old))) = cw at *
        generalize (actHit m v && (decide (v.kind = 2) || decide (v.kind = 3) && decide (m.getD v.at_.toNat 0 = v.old))) = cv at *
        rw [fw, fv]
        cases cw <;> cases cv <;> simp
        exact List.set_comm _ _ hne
theorem act_turn {m : List Int} {v w : Wnt} (h : ¬ (memKind v.kind = true ∧ memKind w.kind = true ∧ v.at_ = w.at_ ∧ (wrKind v.kind = true ∨ wrKind w.kind = true))) :
    actWas (actMem m v) w = actWas m w ∧ actWas (actMem m w) v = actWas m v ∧ actMem (actMem m v) w = actMem (actMem m w) v := by
  by_cases hat : v.at_ = w.at_
  · have wm : ∀ k, wrKind k = true → memKind k = true := fun k hk => by
      unfold wrKind at hk; unfold memKind
      simp only [Bool.or_eq_true, decide_eq_true_eq] at hk
      simp only [Bool.and_eq_true, decide_eq_true_eq]
      omega
    cases hv : wrKind v.kind with
    | true =>
      have hw : memKind w.kind = false := by
        cases hh : memKind w.kind with
        | false => rfl
        | true => exact (h ⟨wm _ hv, hh, hat, .inl hv⟩).elim
      have hw2 : wrKind w.kind = false := by
        cases hh : wrKind w.kind with
        | false => rfl
        | true => rw [wm _ hh] at hw; cases hw
      rw [actMem_id hw2, actMem_id hw2]
      exact ⟨by rw [actWas_none hw, actWas_none hw], rfl, rfl⟩
    | false =>
      rw [actMem_id hv, actMem_id hv]
      cases hw : wrKind w.kind with
      | false =>
        rw [actMem_id hw]
        exact ⟨rfl, rfl, rfl⟩
      | true =>
        have hv2 : memKind v.kind = false := by
          cases hh : memKind v.kind with
          | false => rfl
          | true => exact (h ⟨hh, wm _ hw, hat, .inr hw⟩).elim
        exact ⟨rfl, by rw [actWas_none hv2, actWas_none hv2], rfl⟩
  · exact ⟨(act_apart hat).1, (act_apart (fun e => hat e.symm)).1, (act_apart hat).2⟩

/-- What core n of a machine wants. -/
def wantA (P : List (List I5)) (a : Atm) (n : Nat) : Wnt := wantOf (atP P n) (coreAt a.cores n) a.mem.length
theorem step_turn {P : List (List I5)} {a : Atm} {n k : Nat} (hnk : n ≠ k)
    (h : ¬ (memKind (wantA P a n).kind = true ∧ memKind (wantA P a k).kind = true ∧ (wantA P a n).at_ = (wantA P a k).at_ ∧ (wrKind (wantA P a n).kind = true ∨ wrKind (wantA P a k).kind = true)))
    (h4 : ¬ ((wantA P a n).kind = 4 ∧ (wantA P a k).kind = 4)) : stepA P (stepA P a n) k = stepA P (stepA P a k) n := by
  obtain ⟨t1, t2, t3⟩ := act_turn (m := a.mem) h
  have wk : wantA P (stepA P a n) k = wantA P a k := by
    unfold wantA
    rw [stepA_mem, show coreAt (stepA P a n).cores k = coreAt a.cores k from coreAt_set_other _ _ _ _ (fun e => hnk e.symm)]
  have wn : wantA P (stepA P a k) n = wantA P a n := by
    unfold wantA
    rw [stepA_mem, show coreAt (stepA P a k).cores n = coreAt a.cores n from coreAt_set_other _ _ _ _ hnk]
  have e : ∀ (b : Atm) (i : Nat), stepA P b i = ⟨actMem b.mem (wantA P b i), b.cores.set i (doneOf (atP P i) (coreAt b.cores i) (actWas b.mem (wantA P b i))), if (wantA P b i).kind = 4 then b.outs ++ [((i : Int), (wantA P b i).val)] else b.outs⟩ := fun _ _ => rfl
  have ck : coreAt (stepA P a n).cores k = coreAt a.cores k := coreAt_set_other _ _ _ _ (fun e => hnk e.symm)
  have cn : coreAt (stepA P a k).cores n = coreAt a.cores n := coreAt_set_other _ _ _ _ hnk
  rw [e (stepA P a n) k, e (stepA P a k) n, wk, wn, ck, cn]
  have m1 : (stepA P a n).mem = actMem a.mem (wantA P a n) := rfl
  have m2 : (stepA P a k).mem = actMem a.mem (wantA P a k) := rfl
  have c1 : (stepA P a n).cores = a.cores.set n (doneOf (atP P n) (coreAt a.cores n) (actWas a.mem (wantA P a n))) := rfl
  have c2 : (stepA P a k).cores = a.cores.set k (doneOf (atP P k) (coreAt a.cores k) (actWas a.mem (wantA P a k))) := rfl
  have o1 : (stepA P a n).outs = if (wantA P a n).kind = 4 then a.outs ++ [((n : Int), (wantA P a n).val)] else a.outs := rfl
  have o2 : (stepA P a k).outs = if (wantA P a k).kind = 4 then a.outs ++ [((k : Int), (wantA P a k).val)] else a.outs := rfl
  rw [m1, m2, c1, c2, o1, o2, t1, t2, t3]
  congr 1
  · exact List.set_comm _ _ hnk
  · by_cases a1 : (wantA P a n).kind = 4
    · have a2 : ¬ (wantA P a k).kind = 4 := fun h => h4 ⟨a1, h⟩
      simp [a1, a2]
    · by_cases a2 : (wantA P a k).kind = 4
      · simp [a1, a2]
      · simp [a1, a2]
end Go.Proofs.Ytekiialhljfglaa
/- A region that draws its order, of which a plan with branches of up to three is given. No program in sight. -/
namespace Go.Proofs.Ytekiialhljfglaa
set_option linter.unusedVariables false

inductive Plan3 where
  | stop
  | read (i : Nat) (p : Plan3)
  | one (i : Nat) (p : Plan3)
  | two (i j : Nat) (p q : Plan3)
  | three (i j k : Nat) (p q r : Plan3)

section
variable {P : Program} {ops : Array Oper} {md : Region.Mode} {Q : Exit → Act → World → Prop} {S : World → Prop}

def plan3B (md : Region.Mode) (ops : Array Oper) (g n : Nat) : Nat → Plan3 → Array Bool → Bool
  | 0, .stop, listed => Region.seqB md ops g n listed
  | d + 1, .read i p, listed => (Region.ready md ops listed).contains i && Region.free md ops listed i && decide (i < n) && plan3B md ops g n d p (listed.setIfInBounds i true)
  | d + 1, .one i p, listed => decide (Region.ready md ops listed = [i]) && decide (i < n) && plan3B md ops g n d p (listed.setIfInBounds i true)
  | d + 1, .two i j p q, listed => decide (Region.ready md ops listed = [i, j]) && (decide (i < n) && decide (j < n)) && (plan3B md ops g n d p (listed.setIfInBounds i true) && plan3B md ops g n d q (listed.setIfInBounds j true))
  | d + 1, .three i j k p q r, listed => decide (Region.ready md ops listed = [i, j, k]) && (decide (i < n) && (decide (j < n) && decide (k < n))) && (plan3B md ops g n d p (listed.setIfInBounds i true) && (plan3B md ops g n d q (listed.setIfInBounds j true) && plan3B md ops g n d r (listed.setIfInBounds k true)))
  | _, _, _ => false
def plan3Ok (ops : Array Oper) (n : Nat) (plan : Plan3) : Bool :=
  Region.noSelect ops && decide (n < ops.size) && Region.sinkB .any ops n && Region.chainB .any ops n && plan3B .any ops (ops.size - n) n n plan (Array.replicate ops.size false)

def wpPlan3 (P : Program) (ops : Array Oper) (Q : Exit → Act → World → Prop) (S : World → Prop) (K : Act → World → Prop) : Plan3 → Act → World → Prop
  | .stop, a, w => K a w
  | .read i p, a, w => ∃ o v, ops[i]? = some o ∧ YieldsIf P ops S o v a ∧ wpPlan3 P ops Q S K p (a.put o.dst v) w
  | .one i p, a, w => wpOp P ops Q i (fun a' w' => S w' ∧ wpPlan3 P ops Q S K p a' w') a w
  | .two i j p q, a, w => wpOp P ops Q i (fun a' w' => S w' ∧ wpPlan3 P ops Q S K p a' w') a w ∧ wpOp P ops Q j (fun a' w' => S w' ∧ wpPlan3 P ops Q S K q a' w') a w
  | .three i j k p q r, a, w => wpOp P ops Q i (fun a' w' => S w' ∧ wpPlan3 P ops Q S K p a' w') a w ∧ wpOp P ops Q j (fun a' w' => S w' ∧ wpPlan3 P ops Q S K q a' w') a w ∧ wpOp P ops Q k (fun a' w' => S w' ∧ wpPlan3 P ops Q S K r a' w') a w

theorem anyHL_plan3 {n g : Nat} {K : Act → World → Prop} (hsel : Region.noSelect ops = true) (hs : Region.sinkB md ops n = true) (hc : Region.chainB md ops n = true) (hn : n < ops.size) (hQ : ∀ d v c a w, Q (.panic c) (a.put d v) w → Q (.panic c) a w) :
    ∀ (d : Nat) (l : Plan3) (listed : Array Bool) (a : Act) (w : World), HeadInv md ops n listed → plan3B md ops g n d l listed = true → S w → wpPlan3 P ops Q S K l a w →
      anyHL P md ops Q S n (fun listed' a' w' => Region.seqB md ops g n listed' = true ∧ K a' w') d listed a w
  | 0, .stop, listed, a, w, _, hB, _, h => ⟨hB, h⟩
  | d + 1, .read i p, listed, a, w, inv, hB, hS, h => by
    simp only [plan3B, Bool.and_eq_true, decide_eq_true_eq] at hB
    obtain ⟨⟨⟨hr, hf⟩, hin⟩, hB'⟩ := hB
    obtain ⟨o, v, ho, hy, hK⟩ := h
    have hr' : i ∈ Region.ready md ops listed := by simpa using hr
    exact anyHL_first ho (Region.noSelect_spec hsel) hs hc hn hin (fun c a w => hQ _ _ c a w) (fun listed' a' w' hL => seqB_ready hL.1) d listed a w inv (Region.free_spec ho hf) hr' hy hS
      (anyHL_plan3 hsel hs hc hn hQ d p _ _ w (inv.set hr' hin) hB' hS hK)
  | d + 1, .one i p, listed, a, w, inv, hB, hS, h => by
    simp only [plan3B, Bool.and_eq_true, decide_eq_true_eq] at hB
    obtain ⟨⟨hr, hin⟩, hB'⟩ := hB
    have hr' : i ∈ Region.ready md ops listed := by rw [hr]; exact List.mem_singleton.2 rfl
    refine ⟨by rw [hr]; simp, fun j hj => ?_⟩
    rw [hr] at hj
    have hji : j = i := by simpa using hj
    subst hji
    exact ⟨hin, wpOp_mono (fun a' w' h' => ⟨h'.1, anyHL_plan3 hsel hs hc hn hQ d p _ a' w' (inv.set hr' hin) hB' h'.1 h'.2⟩) h⟩
  | d + 1, .two i j p q, listed, a, w, inv, hB, hS, h => by
    simp only [plan3B, Bool.and_eq_true, decide_eq_true_eq] at hB
    obtain ⟨⟨hr, hin, hjn⟩, hB1, hB2⟩ := hB
    have hr1 : i ∈ Region.ready md ops listed := by rw [hr]; simp
    have hr2 : j ∈ Region.ready md ops listed := by rw [hr]; simp
    refine ⟨by rw [hr]; simp, fun k hk => ?_⟩
    rw [hr] at hk
    have hki : k = i ∨ k = j := by simpa using hk
    rcases hki with rfl | rfl
    · exact ⟨hin, wpOp_mono (fun a' w' h' => ⟨h'.1, anyHL_plan3 hsel hs hc hn hQ d p _ a' w' (inv.set hr1 hin) hB1 h'.1 h'.2⟩) h.1⟩
    · exact ⟨hjn, wpOp_mono (fun a' w' h' => ⟨h'.1, anyHL_plan3 hsel hs hc hn hQ d q _ a' w' (inv.set hr2 hjn) hB2 h'.1 h'.2⟩) h.2⟩
  | d + 1, .three i j l p q r, listed, a, w, inv, hB, hS, h => by
    simp only [plan3B, Bool.and_eq_true, decide_eq_true_eq] at hB
    obtain ⟨⟨hr, hin, hjn, hln⟩, hB1, hB2, hB3⟩ := hB
    have hr1 : i ∈ Region.ready md ops listed := by rw [hr]; simp
    have hr2 : j ∈ Region.ready md ops listed := by rw [hr]; simp
    have hr3 : l ∈ Region.ready md ops listed := by rw [hr]; simp
    refine ⟨by rw [hr]; simp, fun k hk => ?_⟩
    rw [hr] at hk
    have hki : k = i ∨ k = j ∨ k = l := by simpa using hk
    rcases hki with rfl | rfl | rfl
    · exact ⟨hin, wpOp_mono (fun a' w' h' => ⟨h'.1, anyHL_plan3 hsel hs hc hn hQ d p _ a' w' (inv.set hr1 hin) hB1 h'.1 h'.2⟩) h.1⟩
    · exact ⟨hjn, wpOp_mono (fun a' w' h' => ⟨h'.1, anyHL_plan3 hsel hs hc hn hQ d q _ a' w' (inv.set hr2 hjn) hB2 h'.1 h'.2⟩) h.2.1⟩
    · exact ⟨hln, wpOp_mono (fun a' w' h' => ⟨h'.1, anyHL_plan3 hsel hs hc hn hQ d r _ a' w' (inv.set hr3 hln) hB3 h'.1 h'.2⟩) h.2.2⟩
  | 0, .three _ _ _ _ _ _, _, _, _, _, hB, _, _ => by simp [plan3B] at hB
  | 0, .read _ _, _, _, _, _, hB, _, _ => by simp [plan3B] at hB
  | 0, .one _ _, _, _, _, _, hB, _, _ => by simp [plan3B] at hB
  | 0, .two _ _ _ _, _, _, _, _, hB, _, _ => by simp [plan3B] at hB
  | _ + 1, .stop, _, _, _, _, hB, _, _ => by simp [plan3B] at hB

/-- A region by its plan. -/
theorem region_plan3 {id : Nat} {a : Act} {w : World} {l : List Oper} (S : World → Prop) (n : Nat) (plan : Plan3) (hm : P.follows .mixedOrders = true) (hB : plan3Ok l.toArray n plan = true) (hS : S w.drew)
    (h : wpPlan3 P l.toArray (NoPanic Q) S (fun a' w' => wpList P l.toArray Q (l.drop n) a' w') plan a w.drew) : (Code.region id l.toArray true).wp P Q a w := by
  simp only [plan3Ok, Bool.and_eq_true, decide_eq_true_eq] at hB
  obtain ⟨⟨⟨⟨hsel, hn⟩, hs⟩, hc⟩, hplan⟩ := hB
  have hn' : n < l.length := by simpa using hn
  have hdl : (l.drop n).length = l.toArray.size - n := by simp
  have inv0 : HeadInv .any l.toArray n (Array.replicate l.toArray.size false) :=
    ⟨by simp, fun j oj _ hl => (by rw [getD_replicate_false] at hl; cases hl), fun t _ ht => getD_in (by simpa using ht) (getD_replicate_false _ _)⟩
  have H := anyHL_plan3 (P := P) (Q := NoPanic Q) (S := S) hsel hs hc hn (fun _ _ _ _ _ h => h) n plan _ a w.drew inv0 hplan hS h
  refine wp_region_any hm ?_
  have := any_of_headH (Q := Q) (g := l.toArray.size - n) (fun listed a' w' hL => by
    have := wpAny_of_seq (md := .any) (Q' := Q) (l.drop n) n listed a' w' (fun j => by simp [List.getElem?_drop]) (by rw [hdl]; exact hL.1) hL.2
    rwa [hdl] at this) _ _ _ _ H
  rw [show n + (l.toArray.size - n) = l.toArray.size by omega] at this
  exact this

variable {K : Act → World → Prop} {i j l : Nat} {p q r : Plan3} {a : Act} {w : World} {o : Oper}
theorem plan3_read {v : Value} (ho : ops[i]? = some o) (hw : Region.wanted o (yielded ops a.tmps) = true) (hy : ∀ w, S w → (execOp a.eval o).run P w = .ok (.value v) w) (h : wpPlan3 P ops Q S K p (a.put o.dst v) w) : wpPlan3 P ops Q S K (.read i p) a w :=
  ⟨o, v, ho, .inl ⟨hw, hy⟩, h⟩
theorem plan3_one (h : wpOp P ops Q i (fun a' w' => S w' ∧ wpPlan3 P ops Q S K p a' w') a w) : wpPlan3 P ops Q S K (.one i p) a w := h
theorem plan3_two (h1 : wpOp P ops Q i (fun a' w' => S w' ∧ wpPlan3 P ops Q S K p a' w') a w) (h2 : wpOp P ops Q j (fun a' w' => S w' ∧ wpPlan3 P ops Q S K q a' w') a w) : wpPlan3 P ops Q S K (.two i j p q) a w := ⟨h1, h2⟩
theorem plan3_three (h1 : wpOp P ops Q i (fun a' w' => S w' ∧ wpPlan3 P ops Q S K p a' w') a w) (h2 : wpOp P ops Q j (fun a' w' => S w' ∧ wpPlan3 P ops Q S K q a' w') a w) (h3 : wpOp P ops Q l (fun a' w' => S w' ∧ wpPlan3 P ops Q S K r a' w') a w) : wpPlan3 P ops Q S K (.three i j l p q r) a w := ⟨h1, h2, h3⟩
theorem plan3_stop (h : K a w) : wpPlan3 P ops Q S K .stop a w := h
end
end Go.Proofs.Ytekiialhljfglaa
/- AtomTurns: the walk of the statement's function. -/
namespace Go.Proofs.Ytekiialhljfglaa
set_option linter.unusedVariables false
open Go.ChangeShapes Go.WideShapes Go.ChangeAt Go.RowKit

theorem stepRes_ok {P : List (List I5)} {a : Atm} {i : Nat} (h : rightA P a = true) (hi : i < P.length) : stepRes P a i = stepA P a i ∧ stepErr P a i = 0 := by
  have hr := right_all h
  have hok : stepOk P a i = true := by
    unfold stepOk
    rw [decide_eq_true (show (0 : Int) ≤ (i : Int) by omega), decide_eq_true (show (i : Int) < (a.cores.length : Int) by rw [hr.2.2.1]; omega), h]; rfl
  exact ⟨by unfold stepRes; rw [if_pos hok]; rfl, by unfold stepErr; rw [if_pos hok]⟩
theorem sTwo {W1 w' : World} {b off i1 i2 B gc m1 m2 c1 c2 : Nat} {q1 q2 : Option Addr} {bs : Array Value} {x1 x2 : Cor} (h : Hid (W1.cell? ⟨b, off + i1, none⟩ = some (.slice q1 m1 c1) ∧ W1.cell? ⟨b, off + i2, none⟩ = some (.slice q2 m2 c2) ∧ (∀ j, W1.cell? ⟨B, j, none⟩ = bs[j]?) ∧ (W1.cell? ⟨gc, i1 * 10, none⟩ = some (.int .u32 (x1.r 0)) ∧ W1.cell? ⟨gc, i1 * 10 + 1, none⟩ = some (.int .u32 (x1.r 1)) ∧ W1.cell? ⟨gc, i1 * 10 + 2, none⟩ = some (.int .u32 (x1.r 2)) ∧ W1.cell? ⟨gc, i1 * 10 + 3, none⟩ = some (.int .u32 (x1.r 3)) ∧ W1.cell? ⟨gc, i1 * 10 + 4, none⟩ = some (.int .u32 (x1.r 4)) ∧ W1.cell? ⟨gc, i1 * 10 + 5, none⟩ = some (.int .u32 (x1.r 5)) ∧ W1.cell? ⟨gc, i1 * 10 + 6, none⟩ = some (.int .u32 (x1.r 6)) ∧ W1.cell? ⟨gc, i1 * 10 + 7, none⟩ = some (.int .u32 (x1.r 7)) ∧ W1.cell? ⟨gc, i1 * 10 + 8, none⟩ = some (.int .i64 x1.pc) ∧ W1.cell? ⟨gc, i1 * 10 + 9, none⟩ = some (.bool x1.h)) ∧ (W1.cell? ⟨gc, i2 * 10, none⟩ = some (.int .u32 (x2.r 0)) ∧ W1.cell? ⟨gc, i2 * 10 + 1, none⟩ = some (.int .u32 (x2.r 1)) ∧ W1.cell? ⟨gc, i2 * 10 + 2, none⟩ = some (.int .u32 (x2.r 2)) ∧ W1.cell? ⟨gc, i2 * 10 + 3, none⟩ = some (.int .u32 (x2.r 3)) ∧ W1.cell? ⟨gc, i2 * 10 + 4, none⟩ = some (.int .u32 (x2.r 4)) ∧ W1.cell? ⟨gc, i2 * 10 + 5, none⟩ = some (.int .u32 (x2.r 5)) ∧ W1.cell? ⟨gc, i2 * 10 + 6, none⟩ = some (.int .u32 (x2.r 6)) ∧ W1.cell? ⟨gc, i2 * 10 + 7, none⟩ = some (.int .u32 (x2.r 7)) ∧ W1.cell? ⟨gc, i2 * 10 + 8, none⟩ = some (.int .i64 x2.pc) ∧ W1.cell? ⟨gc, i2 * 10 + 9, none⟩ = some (.bool x2.h)))) (l1 : Hid (b < W1.heap.size)) (l2 : Hid (B < W1.heap.size)) (l3 : Hid (gc < W1.heap.size)) (hb : Below W1.heap.size W1 w') :
    w'.cell? ⟨b, off + i1, none⟩ = some (.slice q1 m1 c1) ∧ w'.cell? ⟨b, off + i2, none⟩ = some (.slice q2 m2 c2) ∧ (∀ j, w'.cell? ⟨B, j, none⟩ = bs[j]?) ∧ (w'.cell? ⟨gc, i1 * 10, none⟩ = some (.int .u32 (x1.r 0)) ∧ w'.cell? ⟨gc, i1 * 10 + 1, none⟩ = some (.int .u32 (x1.r 1)) ∧ w'.cell? ⟨gc, i1 * 10 + 2, none⟩ = some (.int .u32 (x1.r 2)) ∧ w'.cell? ⟨gc, i1 * 10 + 3, none⟩ = some (.int .u32 (x1.r 3)) ∧ w'.cell? ⟨gc, i1 * 10 + 4, none⟩ = some (.int .u32 (x1.r 4)) ∧ w'.cell? ⟨gc, i1 * 10 + 5, none⟩ = some (.int .u32 (x1.r 5)) ∧ w'.cell? ⟨gc, i1 * 10 + 6, none⟩ = some (.int .u32 (x1.r 6)) ∧ w'.cell? ⟨gc, i1 * 10 + 7, none⟩ = some (.int .u32 (x1.r 7)) ∧ w'.cell? ⟨gc, i1 * 10 + 8, none⟩ = some (.int .i64 x1.pc) ∧ w'.cell? ⟨gc, i1 * 10 + 9, none⟩ = some (.bool x1.h)) ∧ (w'.cell? ⟨gc, i2 * 10, none⟩ = some (.int .u32 (x2.r 0)) ∧ w'.cell? ⟨gc, i2 * 10 + 1, none⟩ = some (.int .u32 (x2.r 1)) ∧ w'.cell? ⟨gc, i2 * 10 + 2, none⟩ = some (.int .u32 (x2.r 2)) ∧ w'.cell? ⟨gc, i2 * 10 + 3, none⟩ = some (.int .u32 (x2.r 3)) ∧ w'.cell? ⟨gc, i2 * 10 + 4, none⟩ = some (.int .u32 (x2.r 4)) ∧ w'.cell? ⟨gc, i2 * 10 + 5, none⟩ = some (.int .u32 (x2.r 5)) ∧ w'.cell? ⟨gc, i2 * 10 + 6, none⟩ = some (.int .u32 (x2.r 6)) ∧ w'.cell? ⟨gc, i2 * 10 + 7, none⟩ = some (.int .u32 (x2.r 7)) ∧ w'.cell? ⟨gc, i2 * 10 + 8, none⟩ = some (.int .i64 x2.pc) ∧ w'.cell? ⟨gc, i2 * 10 + 9, none⟩ = some (.bool x2.h)) :=
  ⟨(hb.cell (p := ⟨b, off + i1, none⟩) l1.out).trans h.out.1, (hb.cell (p := ⟨b, off + i2, none⟩) l1.out).trans h.out.2.1, fun j => (hb.cell (p := ⟨B, j, none⟩) l2.out).trans (h.out.2.2.1 j), ⟨(hb.cell (p := ⟨gc, i1 * 10, none⟩) l3.out).trans h.out.2.2.2.1.1, (hb.cell (p := ⟨gc, i1 * 10 + 1, none⟩) l3.out).trans h.out.2.2.2.1.2.1, (hb.cell (p := ⟨gc, i1 * 10 + 2, none⟩) l3.out).trans h.out.2.2.2.1.2.2.1, (hb.cell (p := ⟨gc, i1 * 10 + 3, none⟩) l3.out).trans h.out.2.2.2.1.2.2.2.1, (hb.cell (p := ⟨gc, i1 * 10 + 4, none⟩) l3.out).trans h.out.2.2.2.1.2.2.2.2.1, (hb.cell (p := ⟨gc, i1 * 10 + 5, none⟩) l3.out).trans h.out.2.2.2.1.2.2.2.2.2.1, (hb.cell (p := ⟨gc, i1 * 10 + 6, none⟩) l3.out).trans h.out.2.2.2.1.2.2.2.2.2.2.1, (hb.cell (p := ⟨gc, i1 * 10 + 7, none⟩) l3.out).trans h.out.2.2.2.1.2.2.2.2.2.2.2.1, (hb.cell (p := ⟨gc, i1 * 10 + 8, none⟩) l3.out).trans h.out.2.2.2.1.2.2.2.2.2.2.2.2.1, (hb.cell (p := ⟨gc, i1 * 10 + 9, none⟩) l3.out).trans h.out.2.2.2.1.2.2.2.2.2.2.2.2.2⟩, ⟨(hb.cell (p := ⟨gc, i2 * 10, none⟩) l3.out).trans h.out.2.2.2.2.1, (hb.cell (p := ⟨gc, i2 * 10 + 1, none⟩) l3.out).trans h.out.2.2.2.2.2.1, (hb.cell (p := ⟨gc, i2 * 10 + 2, none⟩) l3.out).trans h.out.2.2.2.2.2.2.1, (hb.cell (p := ⟨gc, i2 * 10 + 3, none⟩) l3.out).trans h.out.2.2.2.2.2.2.2.1, (hb.cell (p := ⟨gc, i2 * 10 + 4, none⟩) l3.out).trans h.out.2.2.2.2.2.2.2.2.1, (hb.cell (p := ⟨gc, i2 * 10 + 5, none⟩) l3.out).trans h.out.2.2.2.2.2.2.2.2.2.1, (hb.cell (p := ⟨gc, i2 * 10 + 6, none⟩) l3.out).trans h.out.2.2.2.2.2.2.2.2.2.2.1, (hb.cell (p := ⟨gc, i2 * 10 + 7, none⟩) l3.out).trans h.out.2.2.2.2.2.2.2.2.2.2.2.1, (hb.cell (p := ⟨gc, i2 * 10 + 8, none⟩) l3.out).trans h.out.2.2.2.2.2.2.2.2.2.2.2.2.1, (hb.cell (p := ⟨gc, i2 * 10 + 9, none⟩) l3.out).trans h.out.2.2.2.2.2.2.2.2.2.2.2.2.2⟩⟩
theorem sTwo' {W1 w' : World} {b off i1 i2 B gc m1 m2 c1 c2 : Nat} {q1 q2 : Option Addr} {bs : Array Value} {x1 x2 : Cor} (h : Hid (W1.cell? ⟨b, off + i1, none⟩ = some (.slice q1 m1 c1) ∧ W1.cell? ⟨b, off + i2, none⟩ = some (.slice q2 m2 c2) ∧ (∀ j, W1.cell? ⟨B, j, none⟩ = bs[j]?) ∧ (W1.cell? ⟨gc, i1 * 10, none⟩ = some (.int .u32 (x1.r 0)) ∧ W1.cell? ⟨gc, i1 * 10 + 1, none⟩ = some (.int .u32 (x1.r 1)) ∧ W1.cell? ⟨gc, i1 * 10 + 2, none⟩ = some (.int .u32 (x1.r 2)) ∧ W1.cell? ⟨gc, i1 * 10 + 3, none⟩ = some (.int .u32 (x1.r 3)) ∧ W1.cell? ⟨gc, i1 * 10 + 4, none⟩ = some (.int .u32 (x1.r 4)) ∧ W1.cell? ⟨gc, i1 * 10 + 5, none⟩ = some (.int .u32 (x1.r 5)) ∧ W1.cell? ⟨gc, i1 * 10 + 6, none⟩ = some (.int .u32 (x1.r 6)) ∧ W1.cell? ⟨gc, i1 * 10 + 7, none⟩ = some (.int .u32 (x1.r 7)) ∧ W1.cell? ⟨gc, i1 * 10 + 8, none⟩ = some (.int .i64 x1.pc) ∧ W1.cell? ⟨gc, i1 * 10 + 9, none⟩ = some (.bool x1.h)) ∧ (W1.cell? ⟨gc, i2 * 10, none⟩ = some (.int .u32 (x2.r 0)) ∧ W1.cell? ⟨gc, i2 * 10 + 1, none⟩ = some (.int .u32 (x2.r 1)) ∧ W1.cell? ⟨gc, i2 * 10 + 2, none⟩ = some (.int .u32 (x2.r 2)) ∧ W1.cell? ⟨gc, i2 * 10 + 3, none⟩ = some (.int .u32 (x2.r 3)) ∧ W1.cell? ⟨gc, i2 * 10 + 4, none⟩ = some (.int .u32 (x2.r 4)) ∧ W1.cell? ⟨gc, i2 * 10 + 5, none⟩ = some (.int .u32 (x2.r 5)) ∧ W1.cell? ⟨gc, i2 * 10 + 6, none⟩ = some (.int .u32 (x2.r 6)) ∧ W1.cell? ⟨gc, i2 * 10 + 7, none⟩ = some (.int .u32 (x2.r 7)) ∧ W1.cell? ⟨gc, i2 * 10 + 8, none⟩ = some (.int .i64 x2.pc) ∧ W1.cell? ⟨gc, i2 * 10 + 9, none⟩ = some (.bool x2.h)))) (l1 : Hid (b < W1.heap.size)) (l2 : Hid (B < W1.heap.size)) (l3 : Hid (gc < W1.heap.size)) (hb : Below W1.heap.size W1 w') :
    (w'.cell? ⟨b, off + i1, none⟩ = some (.slice q1 m1 c1) ∧ w'.cell? ⟨b, off + i2, none⟩ = some (.slice q2 m2 c2) ∧ (∀ j, w'.cell? ⟨B, j, none⟩ = bs[j]?) ∧ (w'.cell? ⟨gc, i1 * 10, none⟩ = some (.int .u32 (x1.r 0)) ∧ w'.cell? ⟨gc, i1 * 10 + 1, none⟩ = some (.int .u32 (x1.r 1)) ∧ w'.cell? ⟨gc, i1 * 10 + 2, none⟩ = some (.int .u32 (x1.r 2)) ∧ w'.cell? ⟨gc, i1 * 10 + 3, none⟩ = some (.int .u32 (x1.r 3)) ∧ w'.cell? ⟨gc, i1 * 10 + 4, none⟩ = some (.int .u32 (x1.r 4)) ∧ w'.cell? ⟨gc, i1 * 10 + 5, none⟩ = some (.int .u32 (x1.r 5)) ∧ w'.cell? ⟨gc, i1 * 10 + 6, none⟩ = some (.int .u32 (x1.r 6)) ∧ w'.cell? ⟨gc, i1 * 10 + 7, none⟩ = some (.int .u32 (x1.r 7)) ∧ w'.cell? ⟨gc, i1 * 10 + 8, none⟩ = some (.int .i64 x1.pc) ∧ w'.cell? ⟨gc, i1 * 10 + 9, none⟩ = some (.bool x1.h)) ∧ (w'.cell? ⟨gc, i2 * 10, none⟩ = some (.int .u32 (x2.r 0)) ∧ w'.cell? ⟨gc, i2 * 10 + 1, none⟩ = some (.int .u32 (x2.r 1)) ∧ w'.cell? ⟨gc, i2 * 10 + 2, none⟩ = some (.int .u32 (x2.r 2)) ∧ w'.cell? ⟨gc, i2 * 10 + 3, none⟩ = some (.int .u32 (x2.r 3)) ∧ w'.cell? ⟨gc, i2 * 10 + 4, none⟩ = some (.int .u32 (x2.r 4)) ∧ w'.cell? ⟨gc, i2 * 10 + 5, none⟩ = some (.int .u32 (x2.r 5)) ∧ w'.cell? ⟨gc, i2 * 10 + 6, none⟩ = some (.int .u32 (x2.r 6)) ∧ w'.cell? ⟨gc, i2 * 10 + 7, none⟩ = some (.int .u32 (x2.r 7)) ∧ w'.cell? ⟨gc, i2 * 10 + 8, none⟩ = some (.int .i64 x2.pc) ∧ w'.cell? ⟨gc, i2 * 10 + 9, none⟩ = some (.bool x2.h))) ∧ Below W1.heap.size W1 w' := ⟨sTwo h l1 l2 l3 hb, hb⟩
theorem kw1 (l : List I5) (lm : Nat) (k t v o : Int) (W : World) {W1 : World} {b off i1 i2 B gc m1 m2 c1 c2 : Nat} {q1 q2 : Option Addr} {bs : Array Value} {x1 x2 : Cor} (hm : Hid (l.length = m1)) (HP : Hid (Prg W1 q1 l)) (HF : Hid x1.Fits) (HW : Hid (wantOf l x1 lm = ⟨k, t, v, o⟩)) (hlm : lm ≤ 64) (h : Hid (W1.cell? ⟨b, off + i1, none⟩ = some (.slice q1 m1 c1) ∧ W1.cell? ⟨b, off + i2, none⟩ = some (.slice q2 m2 c2) ∧ (∀ j, W1.cell? ⟨B, j, none⟩ = bs[j]?) ∧ (W1.cell? ⟨gc, i1 * 10, none⟩ = some (.int .u32 (x1.r 0)) ∧ W1.cell? ⟨gc, i1 * 10 + 1, none⟩ = some (.int .u32 (x1.r 1)) ∧ W1.cell? ⟨gc, i1 * 10 + 2, none⟩ = some (.int .u32 (x1.r 2)) ∧ W1.cell? ⟨gc, i1 * 10 + 3, none⟩ = some (.int .u32 (x1.r 3)) ∧ W1.cell? ⟨gc, i1 * 10 + 4, none⟩ = some (.int .u32 (x1.r 4)) ∧ W1.cell? ⟨gc, i1 * 10 + 5, none⟩ = some (.int .u32 (x1.r 5)) ∧ W1.cell? ⟨gc, i1 * 10 + 6, none⟩ = some (.int .u32 (x1.r 6)) ∧ W1.cell? ⟨gc, i1 * 10 + 7, none⟩ = some (.int .u32 (x1.r 7)) ∧ W1.cell? ⟨gc, i1 * 10 + 8, none⟩ = some (.int .i64 x1.pc) ∧ W1.cell? ⟨gc, i1 * 10 + 9, none⟩ = some (.bool x1.h)) ∧ (W1.cell? ⟨gc, i2 * 10, none⟩ = some (.int .u32 (x2.r 0)) ∧ W1.cell? ⟨gc, i2 * 10 + 1, none⟩ = some (.int .u32 (x2.r 1)) ∧ W1.cell? ⟨gc, i2 * 10 + 2, none⟩ = some (.int .u32 (x2.r 2)) ∧ W1.cell? ⟨gc, i2 * 10 + 3, none⟩ = some (.int .u32 (x2.r 3)) ∧ W1.cell? ⟨gc, i2 * 10 + 4, none⟩ = some (.int .u32 (x2.r 4)) ∧ W1.cell? ⟨gc, i2 * 10 + 5, none⟩ = some (.int .u32 (x2.r 5)) ∧ W1.cell? ⟨gc, i2 * 10 + 6, none⟩ = some (.int .u32 (x2.r 6)) ∧ W1.cell? ⟨gc, i2 * 10 + 7, none⟩ = some (.int .u32 (x2.r 7)) ∧ W1.cell? ⟨gc, i2 * 10 + 8, none⟩ = some (.int .i64 x2.pc) ∧ W1.cell? ⟨gc, i2 * 10 + 9, none⟩ = some (.bool x2.h)))) (l1 : Hid (b < W1.heap.size)) (l2 : Hid (B < W1.heap.size)) (l3 : Hid (gc < W1.heap.size)) (hb : Below W1.heap.size W1 W) :
    Calls Try.prog 23 #[.slice q1 m1 c1, .agg #[.int .u32 (x1.r 0), .int .u32 (x1.r 1), .int .u32 (x1.r 2), .int .u32 (x1.r 3), .int .u32 (x1.r 4), .int .u32 (x1.r 5), .int .u32 (x1.r 6), .int .u32 (x1.r 7), .int .i64 x1.pc, .bool x1.h], .int .i64 lm] W fun e w' => e = .returned (.agg #[.int .i64 k, .int .i64 t, .int .u32 v, .int .u32 o]) ∧ (w'.cell? ⟨b, off + i1, none⟩ = some (.slice q1 m1 c1) ∧ w'.cell? ⟨b, off + i2, none⟩ = some (.slice q2 m2 c2) ∧ (∀ j, w'.cell? ⟨B, j, none⟩ = bs[j]?) ∧ (w'.cell? ⟨gc, i1 * 10, none⟩ = some (.int .u32 (x1.r 0)) ∧ w'.cell? ⟨gc, i1 * 10 + 1, none⟩ = some (.int .u32 (x1.r 1)) ∧ w'.cell? ⟨gc, i1 * 10 + 2, none⟩ = some (.int .u32 (x1.r 2)) ∧ w'.cell? ⟨gc, i1 * 10 + 3, none⟩ = some (.int .u32 (x1.r 3)) ∧ w'.cell? ⟨gc, i1 * 10 + 4, none⟩ = some (.int .u32 (x1.r 4)) ∧ w'.cell? ⟨gc, i1 * 10 + 5, none⟩ = some (.int .u32 (x1.r 5)) ∧ w'.cell? ⟨gc, i1 * 10 + 6, none⟩ = some (.int .u32 (x1.r 6)) ∧ w'.cell? ⟨gc, i1 * 10 + 7, none⟩ = some (.int .u32 (x1.r 7)) ∧ w'.cell? ⟨gc, i1 * 10 + 8, none⟩ = some (.int .i64 x1.pc) ∧ w'.cell? ⟨gc, i1 * 10 + 9, none⟩ = some (.bool x1.h)) ∧ (w'.cell? ⟨gc, i2 * 10, none⟩ = some (.int .u32 (x2.r 0)) ∧ w'.cell? ⟨gc, i2 * 10 + 1, none⟩ = some (.int .u32 (x2.r 1)) ∧ w'.cell? ⟨gc, i2 * 10 + 2, none⟩ = some (.int .u32 (x2.r 2)) ∧ w'.cell? ⟨gc, i2 * 10 + 3, none⟩ = some (.int .u32 (x2.r 3)) ∧ w'.cell? ⟨gc, i2 * 10 + 4, none⟩ = some (.int .u32 (x2.r 4)) ∧ w'.cell? ⟨gc, i2 * 10 + 5, none⟩ = some (.int .u32 (x2.r 5)) ∧ w'.cell? ⟨gc, i2 * 10 + 6, none⟩ = some (.int .u32 (x2.r 6)) ∧ w'.cell? ⟨gc, i2 * 10 + 7, none⟩ = some (.int .u32 (x2.r 7)) ∧ w'.cell? ⟨gc, i2 * 10 + 8, none⟩ = some (.int .i64 x2.pc) ∧ w'.cell? ⟨gc, i2 * 10 + 9, none⟩ = some (.bool x2.h))) ∧ Below W1.heap.size W1 w' ∧ Below W.heap.size W w' := by
  have hh := wants_any q1 c1 l x1 lm W (HP.out.below hb) HF.out (by omega)
  rw [hm.out, HW.out] at hh
  exact hh.mono fun e w' he => ⟨he.1, sTwo h l1 l2 l3 (hb.trans (he.2.mono hb.size)), hb.trans (he.2.mono hb.size), he.2⟩
theorem kw2 (l : List I5) (lm : Nat) (k t v o : Int) (W : World) {W1 : World} {b off i1 i2 B gc m1 m2 c1 c2 : Nat} {q1 q2 : Option Addr} {bs : Array Value} {x1 x2 : Cor} (hm : Hid (l.length = m2)) (HP : Hid (Prg W1 q2 l)) (HF : Hid x2.Fits) (HW : Hid (wantOf l x2 lm = ⟨k, t, v, o⟩)) (hlm : lm ≤ 64) (h : Hid (W1.cell? ⟨b, off + i1, none⟩ = some (.slice q1 m1 c1) ∧ W1.cell? ⟨b, off + i2, none⟩ = some (.slice q2 m2 c2) ∧ (∀ j, W1.cell? ⟨B, j, none⟩ = bs[j]?) ∧ (W1.cell? ⟨gc, i1 * 10, none⟩ = some (.int .u32 (x1.r 0)) ∧ W1.cell? ⟨gc, i1 * 10 + 1, none⟩ = some (.int .u32 (x1.r 1)) ∧ W1.cell? ⟨gc, i1 * 10 + 2, none⟩ = some (.int .u32 (x1.r 2)) ∧ W1.cell? ⟨gc, i1 * 10 + 3, none⟩ = some (.int .u32 (x1.r 3)) ∧ W1.cell? ⟨gc, i1 * 10 + 4, none⟩ = some (.int .u32 (x1.r 4)) ∧ W1.cell? ⟨gc, i1 * 10 + 5, none⟩ = some (.int .u32 (x1.r 5)) ∧ W1.cell? ⟨gc, i1 * 10 + 6, none⟩ = some (.int .u32 (x1.r 6)) ∧ W1.cell? ⟨gc, i1 * 10 + 7, none⟩ = some (.int .u32 (x1.r 7)) ∧ W1.cell? ⟨gc, i1 * 10 + 8, none⟩ = some (.int .i64 x1.pc) ∧ W1.cell? ⟨gc, i1 * 10 + 9, none⟩ = some (.bool x1.h)) ∧ (W1.cell? ⟨gc, i2 * 10, none⟩ = some (.int .u32 (x2.r 0)) ∧ W1.cell? ⟨gc, i2 * 10 + 1, none⟩ = some (.int .u32 (x2.r 1)) ∧ W1.cell? ⟨gc, i2 * 10 + 2, none⟩ = some (.int .u32 (x2.r 2)) ∧ W1.cell? ⟨gc, i2 * 10 + 3, none⟩ = some (.int .u32 (x2.r 3)) ∧ W1.cell? ⟨gc, i2 * 10 + 4, none⟩ = some (.int .u32 (x2.r 4)) ∧ W1.cell? ⟨gc, i2 * 10 + 5, none⟩ = some (.int .u32 (x2.r 5)) ∧ W1.cell? ⟨gc, i2 * 10 + 6, none⟩ = some (.int .u32 (x2.r 6)) ∧ W1.cell? ⟨gc, i2 * 10 + 7, none⟩ = some (.int .u32 (x2.r 7)) ∧ W1.cell? ⟨gc, i2 * 10 + 8, none⟩ = some (.int .i64 x2.pc) ∧ W1.cell? ⟨gc, i2 * 10 + 9, none⟩ = some (.bool x2.h)))) (l1 : Hid (b < W1.heap.size)) (l2 : Hid (B < W1.heap.size)) (l3 : Hid (gc < W1.heap.size)) (hb : Below W1.heap.size W1 W) :
    Calls Try.prog 23 #[.slice q2 m2 c2, .agg #[.int .u32 (x2.r 0), .int .u32 (x2.r 1), .int .u32 (x2.r 2), .int .u32 (x2.r 3), .int .u32 (x2.r 4), .int .u32 (x2.r 5), .int .u32 (x2.r 6), .int .u32 (x2.r 7), .int .i64 x2.pc, .bool x2.h], .int .i64 lm] W fun e w' => e = .returned (.agg #[.int .i64 k, .int .i64 t, .int .u32 v, .int .u32 o]) ∧ (w'.cell? ⟨b, off + i1, none⟩ = some (.slice q1 m1 c1) ∧ w'.cell? ⟨b, off + i2, none⟩ = some (.slice q2 m2 c2) ∧ (∀ j, w'.cell? ⟨B, j, none⟩ = bs[j]?) ∧ (w'.cell? ⟨gc, i1 * 10, none⟩ = some (.int .u32 (x1.r 0)) ∧ w'.cell? ⟨gc, i1 * 10 + 1, none⟩ = some (.int .u32 (x1.r 1)) ∧ w'.cell? ⟨gc, i1 * 10 + 2, none⟩ = some (.int .u32 (x1.r 2)) ∧ w'.cell? ⟨gc, i1 * 10 + 3, none⟩ = some (.int .u32 (x1.r 3)) ∧ w'.cell? ⟨gc, i1 * 10 + 4, none⟩ = some (.int .u32 (x1.r 4)) ∧ w'.cell? ⟨gc, i1 * 10 + 5, none⟩ = some (.int .u32 (x1.r 5)) ∧ w'.cell? ⟨gc, i1 * 10 + 6, none⟩ = some (.int .u32 (x1.r 6)) ∧ w'.cell? ⟨gc, i1 * 10 + 7, none⟩ = some (.int .u32 (x1.r 7)) ∧ w'.cell? ⟨gc, i1 * 10 + 8, none⟩ = some (.int .i64 x1.pc) ∧ w'.cell? ⟨gc, i1 * 10 + 9, none⟩ = some (.bool x1.h)) ∧ (w'.cell? ⟨gc, i2 * 10, none⟩ = some (.int .u32 (x2.r 0)) ∧ w'.cell? ⟨gc, i2 * 10 + 1, none⟩ = some (.int .u32 (x2.r 1)) ∧ w'.cell? ⟨gc, i2 * 10 + 2, none⟩ = some (.int .u32 (x2.r 2)) ∧ w'.cell? ⟨gc, i2 * 10 + 3, none⟩ = some (.int .u32 (x2.r 3)) ∧ w'.cell? ⟨gc, i2 * 10 + 4, none⟩ = some (.int .u32 (x2.r 4)) ∧ w'.cell? ⟨gc, i2 * 10 + 5, none⟩ = some (.int .u32 (x2.r 5)) ∧ w'.cell? ⟨gc, i2 * 10 + 6, none⟩ = some (.int .u32 (x2.r 6)) ∧ w'.cell? ⟨gc, i2 * 10 + 7, none⟩ = some (.int .u32 (x2.r 7)) ∧ w'.cell? ⟨gc, i2 * 10 + 8, none⟩ = some (.int .i64 x2.pc) ∧ w'.cell? ⟨gc, i2 * 10 + 9, none⟩ = some (.bool x2.h))) ∧ Below W1.heap.size W1 w' ∧ Below W.heap.size W w' := by
  have hh := wants_any q2 c2 l x2 lm W (HP.out.below hb) HF.out (by omega)
  rw [hm.out, HW.out] at hh
  exact hh.mono fun e w' he => ⟨he.1, sTwo h l1 l2 l3 (hb.trans (he.2.mono hb.size)), hb.trans (he.2.mono hb.size), he.2⟩
theorem blkS4 {w : World} {X : Nat} {k t v o : Int} (hb : Blk w X #[.int .i64 0, .int .i64 0, .int .u32 0, .int .u32 0]) : Blk ((((w.setCell ⟨X, 0, none⟩ (.int .i64 k)).setCell ⟨X, 1, none⟩ (.int .i64 t)).setCell ⟨X, 2, none⟩ (.int .u32 v)).setCell ⟨X, 3, none⟩ (.int .u32 o)) X #[.int .i64 k, .int .i64 t, .int .u32 v, .int .u32 o] = True := storeW hb
theorem blkO4 {w : World} {X Y : Nat} {cs : Array Value} {v0 v1 v2 v3 : Value} (hne : Y ≠ X) (h : Blk w X cs) : Blk ((((w.setCell ⟨Y, 0, none⟩ v0).setCell ⟨Y, 1, none⟩ v1).setCell ⟨Y, 2, none⟩ v2).setCell ⟨Y, 3, none⟩ v3) X cs = True := eq_true ((((h.other _ hne).other _ hne).other _ hne).other _ hne)

theorem twoS1 {u : World} {X Y : Nat} {a0 a1 a2 a3 b0 b1 b2 b3 p0 p1 p2 p3 q0 q1 q2 q3 : Value} (hX : Blk u X #[a0, a1, a2, a3]) (hY : Blk u Y #[b0, b1, b2, b3]) (hne : X ≠ Y) :
    Blk ((((((((u.setCell ⟨X, 0, none⟩ p0).setCell ⟨X, 1, none⟩ p1).setCell ⟨X, 2, none⟩ p2).setCell ⟨X, 3, none⟩ p3).setCell ⟨Y, 0, none⟩ q0).setCell ⟨Y, 1, none⟩ q1).setCell ⟨Y, 2, none⟩ q2).setCell ⟨Y, 3, none⟩ q3) X #[p0, p1, p2, p3] :=
  (((((((((hX.set (n := 0) p0 (by simp)).set (n := 1) p1 (by simp)).set (n := 2) p2 (by simp)).set (n := 3) p3 (by simp)).cast (by simp) : Blk _ X #[p0, p1, p2, p3]).other q0 hne.symm).other q1 hne.symm).other q2 hne.symm).other q3 hne.symm)
theorem twoS2 {u : World} {X Y : Nat} {a0 a1 a2 a3 b0 b1 b2 b3 p0 p1 p2 p3 q0 q1 q2 q3 : Value} (hX : Blk u X #[a0, a1, a2, a3]) (hY : Blk u Y #[b0, b1, b2, b3]) (hne : X ≠ Y) :
    Blk ((((((((u.setCell ⟨X, 0, none⟩ p0).setCell ⟨X, 1, none⟩ p1).setCell ⟨X, 2, none⟩ p2).setCell ⟨X, 3, none⟩ p3).setCell ⟨Y, 0, none⟩ q0).setCell ⟨Y, 1, none⟩ q1).setCell ⟨Y, 2, none⟩ q2).setCell ⟨Y, 3, none⟩ q3) Y #[q0, q1, q2, q3] :=
  (((((((((hY.other p0 hne).other p1 hne).other p2 hne).other p3 hne).set (n := 0) q0 (by simp)).set (n := 1) q1 (by simp)).set (n := 2) q2 (by simp)).set (n := 3) q3 (by simp)).cast (by simp))
theorem twoB {u w0 : World} {X Y : Nat} {p0 p1 p2 p3 q0 q1 q2 q3 : Value} (h : Below w0.heap.size w0 u) (hX : w0.heap.size ≤ X) (hY : w0.heap.size ≤ Y) : Below w0.heap.size w0 ((((((((u.setCell ⟨X, 0, none⟩ p0).setCell ⟨X, 1, none⟩ p1).setCell ⟨X, 2, none⟩ p2).setCell ⟨X, 3, none⟩ p3).setCell ⟨Y, 0, none⟩ q0).setCell ⟨Y, 1, none⟩ q1).setCell ⟨Y, 2, none⟩ q2).setCell ⟨Y, 3, none⟩ q3) :=
  (((((((h.setCell hX _).setCell hX _).setCell hX _).setCell hX _).setCell hY _).setCell hY _).setCell hY _).setCell hY _
set_option maxRecDepth 100000 in
set_option maxHeartbeats 16000000 in
theorem turns_main (p pp : Option Addr) (np cap len pcap : Nat) (wd x y : Nat) (P : List (List I5)) (l : List Int) (w : World) (hl : P.length = np) (hp : Prgs w p P) (hs : shortB P = true) (hlen : len ≤ 100) (hw : wd ≤ 255) (hx : x ≤ 255) (hy : y ≤ 255) (h : newOk P ((wd % 64 + 1 : Nat) : Int) = true) (hll : l.length = len) (hpp : Sl w pp len (intC l)) :
    Calls Try.prog 6 #[.slice p np cap, .int .u8 (wd : Int), .slice pp len pcap, .int .u8 (x : Int), .int .u8 (y : Int)] w fun e w' => e = .returned (.bool true) ∧ Below w.heap.size w w' := by
  have HL := Lib.hid hl
  have HP := Lib.hid hp
  have HS := Lib.hid hs
  have HN := Lib.hid h
  have HLL := Lib.hid hll
  have HPP := Lib.hid hpp
  have d1 : decide (100 < (len : Int)) = false := decide_eq_false (by omega)
  clear hl hp hs h hll hpp
  go_enter Try.func6, Try.ntmps6
  go_wp2_with fail
  refine (awake_any _).mono ?_
  rintro e w1 ⟨rfl, hb1⟩
  have HB1 := Lib.hid hb1
  clear hb1
  go_wp2_with fail
  have hsh := short_any p cap P w1 (HP.out.below HB1.out)
  rw [HL.out, HS.out] at hsh
  refine hsh.mono ?_
  clear hsh
  rintro e w2 ⟨rfl, rfl⟩
  go_wp2_with fail
  have HPF := Lib.hid (prgs_fits HP.out)
  have hno := newOk_has HN.out
  have hal := all_len hno.2.2
  rw [HL.out] at hal
  obtain ⟨words, hwd⟩ : ∃ words : Nat, words = wd % 64 + 1 := ⟨_, rfl⟩
  have ewd : (wd : Int) % 64 + 1 = (words : Int) := by rw [hwd]; omega
  have hw1 : 1 ≤ words := by omega
  have hw2 : words ≤ 64 := by omega
  have HNW : Hid (newOk P (words : Int) = true) := by rw [hwd]; exact HN.out
  have HR := Lib.hid (runA_right_all HPF.out hw1 hw2 hno.2.2 l)
  have HG := Lib.hid (runA_good_all (words := words) HPF.out l)
  obtain ⟨a, ha⟩ : ∃ a, a = runA P words l := ⟨_, rfl⟩
  rw [ewd]
  have hrun := run_yes p pp np cap len pcap words P l w1 HL.out (HP.out.below HB1.out) HNW.out HLL.out (by omega) (HPP.out.below HB1.out)
  rw [← ha] at hrun HR HG
  refine hrun.mono ?_
  clear hrun hno ha hwd HN HNW
  rintro e w3 ⟨vm, vc, vo, rfl, hown, hb3⟩
  have HB3 : Hid (Below w.heap.size w w3) := HB1.out.trans (hb3.mono HB1.out.size)
  have hlt := hown.rows
  obtain ⟨a1, a2, a3, a4, a5, a6, a7, a8, a9, rfl, rfl, rfl⟩ := hown.form9
  have HM3 := Lib.hid hown.mach
  have ea : a2 = words ∧ a5 = np := by
    obtain ⟨gm, cm, gc, cc, po, lo, co, e1, e2, _⟩ := hown.forms (by rw [HG.out.m]; omega) (by rw [HG.out.c, HL.out]; omega)
    injection e1 with _ e1 _
    injection e2 with _ e2 _
    exact ⟨e1.trans HG.out.m, e2.trans (HG.out.c.trans HL.out)⟩
  obtain ⟨gc, hgc⟩ : ∃ gc, a4 = some ⟨gc, 0, none⟩ := by
    obtain ⟨g, c, e⟩ := Joins.ownsRow_form hown.c (by rw [HG.out.c, HL.out]; omega)
    injection e with e
    exact ⟨g, e⟩
  obtain ⟨ea1, ea2⟩ := ea
  subst hgc ea1 ea2
  have hcell : ∀ i, i < a5 → ∀ j, j < 10 → w3.cell? ⟨gc, i * 10 + j, none⟩ = (coreAt a.cores i).row[j]? := fun i hi j hj => by
    have hoc := hown.c
    rw [HG.out.c, HL.out] at hoc
    rw [hoc.cellAt (i * 10 + j) (by omega), coresC_at _ _ _ (by rw [HG.out.c, HL.out]; exact hi) hj]
  have HCL := Lib.hid hcell
  have HGC : Hid (gc < w3.heap.size) := (hown.c.lt gc rfl).2
  clear hb3 hown hlt hcell
  go_upto_region 8 with fail
  obtain ⟨W1, hW1⟩ : ∃ W1, W1 = w3.alloc (.cells #[.slice a1 a2 a3, .slice (some ⟨gc, 0, none⟩) a5 a6, .slice a7 a8 a9] 27) := ⟨_, rfl⟩
  have HA1 : Hid (Below w3.heap.size w3 W1) := by rw [hW1]; exact (Below.refl _ _).alloc (Nat.le_refl _) _
  have HK1 : Hid (Blk W1 w3.heap.size #[.slice a1 a2 a3, .slice (some ⟨gc, 0, none⟩) a5 a6, .slice a7 a8 a9]) := by rw [hW1]; exact Blk.new w3 _ 27
  rw [← hW1]
  clear hW1
  have np0 : ((a5 : Int) == 0) = false := by simp; omega
  have np1 : (a5 : Int) ≠ 0 := by omega
  go_cut [13, 14] (fun s13 s14 wc => ∃ n k : Nat, n < a5 ∧ k < a5 ∧ s13 = .int .i64 n ∧ s14 = .int .i64 k ∧ Below W1.heap.size W1 wc)
  case first =>
    go_region
    all_goals (try go_wp2_with fail)
    all_goals
      go_meet
      case rel => exact ⟨x % a5, y % a5, Nat.mod_lt _ (by omega), Nat.mod_lt _ (by omega), by push_cast; rfl, by push_cast; rfl, (Below.refl _ _).drew⟩
  case rest =>
    obtain ⟨i1, i2, hi1, hi2, rfl, rfl, hbc⟩ := hcut
    have HWC : Hid (Below w.heap.size w wc) := HB3.out.trans ((HA1.out.mono HB3.out.size).trans (hbc.mono (Nat.le_trans HB3.out.size HA1.out.size)))
    have HB31 : Hid (Below w3.heap.size w3 wc) := HA1.out.trans (hbc.mono HA1.out.size)
    have HK2 := Lib.hid (HK1.out.below hbc)
    clear hbc HK1 HA1
    obtain ⟨b, off, hb0, rfl, hx⟩ := HP.out (by rw [HL.out]; omega)
    obtain ⟨q1, c1, hq1, hp1⟩ := hx i1 (by rw [HL.out]; exact hi1)
    obtain ⟨q2, c2, hq2, hp2⟩ := hx i2 (by rw [HL.out]; exact hi2)
    obtain ⟨m1, hm1⟩ : ∃ m1, (atP P i1).length = m1 := ⟨_, rfl⟩
    obtain ⟨m2, hm2⟩ : ∃ m2, (atP P i2).length = m2 := ⟨_, rfl⟩
    rw [hm1] at hq1
    rw [hm2] at hq2
    have E1 := Lib.hid hm1
    have E2 := Lib.hid hm2
    have HP1 : Hid (Prg wc q1 (atP P i1)) := hp1.below HWC.out
    have HP2 : Hid (Prg wc q2 (atP P i2)) := hp2.below HWC.out
    obtain ⟨x1, hx1⟩ : ∃ c, c = coreAt a.cores i1 := ⟨_, rfl⟩
    obtain ⟨x2, hx2⟩ : ∃ c, c = coreAt a.cores i2 := ⟨_, rfl⟩
    have F1 : Hid x1.Fits := by rw [hx1]; exact HG.out.f.c i1 (by rw [HG.out.c, HL.out]; exact hi1)
    have F2 : Hid x2.Fits := by rw [hx2]; exact HG.out.f.c i2 (by rw [HG.out.c, HL.out]; exact hi2)
    have hr1 : ∀ j, j < 10 → wc.cell? ⟨gc, i1 * 10 + j, none⟩ = x1.row[j]? := fun j hj => by rw [hx1, ← HCL.out i1 hi1 j hj]; exact HB31.out.cell (p := ⟨gc, i1 * 10 + j, none⟩) HGC.out
    have hr2 : ∀ j, j < 10 → wc.cell? ⟨gc, i2 * 10 + j, none⟩ = x2.row[j]? := fun j hj => by rw [hx2, ← HCL.out i2 hi2 j hj]; exact HB31.out.cell (p := ⟨gc, i2 * 10 + j, none⟩) HGC.out
    have L1 : Hid (b < wc.heap.size) := Nat.lt_of_lt_of_le hb0 HWC.out.size
    have L2 : Hid (w3.heap.size < wc.heap.size) := HK2.out.lt
    have L3 : Hid (gc < wc.heap.size) := Nat.lt_of_lt_of_le HGC.out HB31.out.size
    have HS0 : Hid (wc.cell? ⟨b, off + i1, none⟩ = some (.slice q1 m1 c1) ∧ wc.cell? ⟨b, off + i2, none⟩ = some (.slice q2 m2 c2) ∧ (∀ j, wc.cell? ⟨w3.heap.size, j, none⟩ = (#[.slice a1 a2 a3, .slice (some ⟨gc, 0, none⟩) a5 a6, .slice a7 a8 a9] : Array Value)[j]?) ∧ (wc.cell? ⟨gc, i1 * 10, none⟩ = some (.int .u32 (x1.r 0)) ∧ wc.cell? ⟨gc, i1 * 10 + 1, none⟩ = some (.int .u32 (x1.r 1)) ∧ wc.cell? ⟨gc, i1 * 10 + 2, none⟩ = some (.int .u32 (x1.r 2)) ∧ wc.cell? ⟨gc, i1 * 10 + 3, none⟩ = some (.int .u32 (x1.r 3)) ∧ wc.cell? ⟨gc, i1 * 10 + 4, none⟩ = some (.int .u32 (x1.r 4)) ∧ wc.cell? ⟨gc, i1 * 10 + 5, none⟩ = some (.int .u32 (x1.r 5)) ∧ wc.cell? ⟨gc, i1 * 10 + 6, none⟩ = some (.int .u32 (x1.r 6)) ∧ wc.cell? ⟨gc, i1 * 10 + 7, none⟩ = some (.int .u32 (x1.r 7)) ∧ wc.cell? ⟨gc, i1 * 10 + 8, none⟩ = some (.int .i64 x1.pc) ∧ wc.cell? ⟨gc, i1 * 10 + 9, none⟩ = some (.bool x1.h)) ∧ (wc.cell? ⟨gc, i2 * 10, none⟩ = some (.int .u32 (x2.r 0)) ∧ wc.cell? ⟨gc, i2 * 10 + 1, none⟩ = some (.int .u32 (x2.r 1)) ∧ wc.cell? ⟨gc, i2 * 10 + 2, none⟩ = some (.int .u32 (x2.r 2)) ∧ wc.cell? ⟨gc, i2 * 10 + 3, none⟩ = some (.int .u32 (x2.r 3)) ∧ wc.cell? ⟨gc, i2 * 10 + 4, none⟩ = some (.int .u32 (x2.r 4)) ∧ wc.cell? ⟨gc, i2 * 10 + 5, none⟩ = some (.int .u32 (x2.r 5)) ∧ wc.cell? ⟨gc, i2 * 10 + 6, none⟩ = some (.int .u32 (x2.r 6)) ∧ wc.cell? ⟨gc, i2 * 10 + 7, none⟩ = some (.int .u32 (x2.r 7)) ∧ wc.cell? ⟨gc, i2 * 10 + 8, none⟩ = some (.int .i64 x2.pc) ∧ wc.cell? ⟨gc, i2 * 10 + 9, none⟩ = some (.bool x2.h))) := ⟨(HWC.out.cell (p := ⟨b, off + i1, none⟩) hb0).trans hq1, (HWC.out.cell (p := ⟨b, off + i2, none⟩) hb0).trans hq2, HK2.out.c, ⟨hr1 0 (by omega), hr1 1 (by omega), hr1 2 (by omega), hr1 3 (by omega), hr1 4 (by omega), hr1 5 (by omega), hr1 6 (by omega), hr1 7 (by omega), hr1 8 (by omega), hr1 9 (by omega)⟩, ⟨hr2 0 (by omega), hr2 1 (by omega), hr2 2 (by omega), hr2 3 (by omega), hr2 4 (by omega), hr2 5 (by omega), hr2 6 (by omega), hr2 7 (by omega), hr2 8 (by omega), hr2 9 (by omega)⟩⟩
    obtain ⟨k1, t1, v1, o1, hwa1⟩ : ∃ k t v o, wantA P a i1 = ⟨k, t, v, o⟩ := ⟨_, _, _, _, rfl⟩
    obtain ⟨k2, t2, v2, o2, hwa2⟩ : ∃ k t v o, wantA P a i2 = ⟨k, t, v, o⟩ := ⟨_, _, _, _, rfl⟩
    have HW1 : Hid (wantOf (atP P i1) x1 a2 = ⟨k1, t1, v1, o1⟩) := by rw [hx1, ← hwa1]; unfold wantA; rw [HG.out.m]; exact rfl
    have HW2 : Hid (wantOf (atP P i2) x2 a2 = ⟨k2, t2, v2, o2⟩) := by rw [hx2, ← hwa2]; unfold wantA; rw [HG.out.m]; exact rfl
    have HWA1 := Lib.hid hwa1
    have HWA2 := Lib.hid hwa2
    have j0 : (0 : Int) ≤ (i1 : Int) := by omega
    have j1 : (i1 : Int) < (a5 : Int) := by omega
    have j2 : (0 : Int) ≤ (i2 : Int) := by omega
    have j3 : (i2 : Int) < (a5 : Int) := by omega
    clear hq1 hq2 hp1 hp2 hx hm1 hm2 hx1 hx2 hr1 hr2 hwa1 hwa2 HCL
    go_upto_region 9 with fail
    go_cut [15, 16] (fun s15 s16 wd => ∃ X Y, s15 = .pointer (some ⟨X, 0, none⟩) ∧ s16 = .pointer (some ⟨Y, 0, none⟩) ∧ Blk wd X #[.int .i64 k1, .int .i64 t1, .int .u32 v1, .int .u32 o1] ∧ Blk wd Y #[.int .i64 k2, .int .i64 t2, .int .u32 v2, .int .u32 o2] ∧ Below wc.heap.size wc wd)
    case first =>
      refine region_plan3 (fun w' : World => (w'.cell? ⟨b, off + i1, none⟩ = some (.slice q1 m1 c1) ∧ w'.cell? ⟨b, off + i2, none⟩ = some (.slice q2 m2 c2) ∧ (∀ j, w'.cell? ⟨w3.heap.size, j, none⟩ = (#[.slice a1 a2 a3, .slice (some ⟨gc, 0, none⟩) a5 a6, .slice a7 a8 a9] : Array Value)[j]?) ∧ (w'.cell? ⟨gc, i1 * 10, none⟩ = some (.int .u32 (x1.r 0)) ∧ w'.cell? ⟨gc, i1 * 10 + 1, none⟩ = some (.int .u32 (x1.r 1)) ∧ w'.cell? ⟨gc, i1 * 10 + 2, none⟩ = some (.int .u32 (x1.r 2)) ∧ w'.cell? ⟨gc, i1 * 10 + 3, none⟩ = some (.int .u32 (x1.r 3)) ∧ w'.cell? ⟨gc, i1 * 10 + 4, none⟩ = some (.int .u32 (x1.r 4)) ∧ w'.cell? ⟨gc, i1 * 10 + 5, none⟩ = some (.int .u32 (x1.r 5)) ∧ w'.cell? ⟨gc, i1 * 10 + 6, none⟩ = some (.int .u32 (x1.r 6)) ∧ w'.cell? ⟨gc, i1 * 10 + 7, none⟩ = some (.int .u32 (x1.r 7)) ∧ w'.cell? ⟨gc, i1 * 10 + 8, none⟩ = some (.int .i64 x1.pc) ∧ w'.cell? ⟨gc, i1 * 10 + 9, none⟩ = some (.bool x1.h)) ∧ (w'.cell? ⟨gc, i2 * 10, none⟩ = some (.int .u32 (x2.r 0)) ∧ w'.cell? ⟨gc, i2 * 10 + 1, none⟩ = some (.int .u32 (x2.r 1)) ∧ w'.cell? ⟨gc, i2 * 10 + 2, none⟩ = some (.int .u32 (x2.r 2)) ∧ w'.cell? ⟨gc, i2 * 10 + 3, none⟩ = some (.int .u32 (x2.r 3)) ∧ w'.cell? ⟨gc, i2 * 10 + 4, none⟩ = some (.int .u32 (x2.r 4)) ∧ w'.cell? ⟨gc, i2 * 10 + 5, none⟩ = some (.int .u32 (x2.r 5)) ∧ w'.cell? ⟨gc, i2 * 10 + 6, none⟩ = some (.int .u32 (x2.r 6)) ∧ w'.cell? ⟨gc, i2 * 10 + 7, none⟩ = some (.int .u32 (x2.r 7)) ∧ w'.cell? ⟨gc, i2 * 10 + 8, none⟩ = some (.int .i64 x2.pc) ∧ w'.cell? ⟨gc, i2 * 10 + 9, none⟩ = some (.bool x2.h))) ∧ Below wc.heap.size wc w') 28 (.read 0 (.read 1 (.read 2 (.read 3 (.read 4 (.read 5 (.read 6 (.read 7 (.read 8 (.read 9 (.read 10 (.read 11 (.read 13 (.read 14 (.read 15 (.read 16 (.read 17 (.read 18 (.read 19 (.read 20 (.read 21 (.read 22 (.read 23 (.read 24 ((.three 12 26 27 (.three 25 26 27 (.two 26 27 (.one 27 .stop) (.one 26 .stop)) (.two 25 27 (.one 27 .stop) (.one 25 .stop)) (.two 25 26 (.one 26 .stop) (.one 25 .stop))) (.two 12 27 (.two 25 27 (.one 27 .stop) (.one 25 .stop)) (.one 12 (.one 25 .stop))) (.two 12 26 (.two 25 26 (.one 26 .stop) (.one 25 .stop)) (.one 12 (.one 25 .stop))))))))))))))))))))))))))))) (by kernel_rfl) (by kernel_rfl) (sTwo' HS0 L1 L2 L3 (Below.refl _ _).drew) ?_
      iterate 24
        refine plan3_read (v := ?_) rfl (by rfl) ?_ ?_
        rotate_left
        · intro w' hS
          try dsimp only at hS
          go_simp
          try with_reducible rfl
        try simp only [Act.put, List.setIfInBounds_toArray, List.set_cons_zero, List.set_cons_succ, List.getElem_toArray, List.getElem_cons_zero, List.getElem_cons_succ]
      have Hu0 : Hid (Below wc.heap.size wc wc.drew) := Lib.hid (Below.refl _ _).drew
      refine plan3_three ?_ ?_ ?_
      · refine op_call (F := 23) (args := ?_) rfl (by rfl) ?_ ?_
        rotate_left
        · go_simp
          rfl
        refine (kw1 (atP P i1) a2 k1 t1 v1 o1 _ E1 HP1 F1 HW1 hw2 HS0 L1 L2 L3 Hu0.out).mono ?_
        rintro e u1 ⟨rfl, s4, hb4, hd4⟩
        have Hu1 := Lib.hid hb4
        refine ⟨_, rfl, ⟨s4, hb4⟩, ?_⟩
        clear s4 hb4 hd4
        try simp only [Act.put, List.setIfInBounds_toArray, List.set_cons_zero, List.set_cons_succ, List.getElem_toArray, List.getElem_cons_zero, List.getElem_cons_succ]
        refine plan3_three ?_ ?_ ?_
        · refine op_call (F := 23) (args := ?_) rfl (by rfl) ?_ ?_
          rotate_left
          · go_simp
            rfl
          refine (kw2 (atP P i2) a2 k2 t2 v2 o2 _ E2 HP2 F2 HW2 hw2 HS0 L1 L2 L3 Hu1.out).mono ?_
          rintro e u2 ⟨rfl, s4, hb4, hd4⟩
          have Hu2 := Lib.hid hb4
          refine ⟨_, rfl, ⟨s4, hb4⟩, ?_⟩
          clear s4 hb4 hd4
          try simp only [Act.put, List.setIfInBounds_toArray, List.set_cons_zero, List.set_cons_succ, List.getElem_toArray, List.getElem_cons_zero, List.getElem_cons_succ]
          refine plan3_two ?_ ?_
          · obtain ⟨B5, hB5⟩ : ∃ n, n = u2.heap.size := ⟨_, rfl⟩
            refine op_make (v := .pointer (some ⟨B5, 0, none⟩)) (w1 := (u2.alloc (.cells #[.int .i64 0, .int .i64 0, .int .u32 0, .int .u32 0] 30))) rfl (by rfl) ?_ ?_
            · rw [hB5]
              go_simp
            obtain ⟨u3, hu3⟩ : ∃ u, u = (u2.alloc (.cells #[.int .i64 0, .int .i64 0, .int .u32 0, .int .u32 0] 30)) := ⟨_, rfl⟩
            have K4 : Hid (Blk u3 B5 #[.int .i64 0, .int .i64 0, .int .u32 0, .int .u32 0]) := Lib.hid (by rw [hu3, hB5]; exact Blk.new _ _ 30)
            have Hu3 : Hid (Below wc.heap.size wc u3) := Lib.hid (by rw [hu3]; exact Hu2.out.alloc Hu2.out.size _)
            have GB5 : Hid (wc.heap.size ≤ B5) := Lib.hid (by rw [hB5]; exact Hu2.out.size)
            rw [← hu3]
            clear hu3 hB5
            refine ⟨sTwo' HS0 L1 L2 L3 Hu3.out, ?_⟩
            try simp only [Act.put, List.setIfInBounds_toArray, List.set_cons_zero, List.set_cons_succ, List.getElem_toArray, List.getElem_cons_zero, List.getElem_cons_succ]
            refine plan3_one ?_
            obtain ⟨B8, hB8⟩ : ∃ n, n = u3.heap.size := ⟨_, rfl⟩
            refine op_make (v := .pointer (some ⟨B8, 0, none⟩)) (w1 := (u3.alloc (.cells #[.int .i64 0, .int .i64 0, .int .u32 0, .int .u32 0] 30))) rfl (by rfl) ?_ ?_
            · rw [hB8]
              go_simp
            obtain ⟨u6, hu6⟩ : ∃ u, u = (u3.alloc (.cells #[.int .i64 0, .int .i64 0, .int .u32 0, .int .u32 0] 30)) := ⟨_, rfl⟩
            have K7 : Hid (Blk u6 B8 #[.int .i64 0, .int .i64 0, .int .u32 0, .int .u32 0]) := Lib.hid (by rw [hu6, hB8]; exact Blk.new _ _ 30)
            have Hu6 : Hid (Below wc.heap.size wc u6) := Lib.hid (by rw [hu6]; exact Hu3.out.alloc Hu3.out.size _)
            have GB8 : Hid (wc.heap.size ≤ B8) := Lib.hid (by rw [hB8]; exact Hu3.out.size)
            rw [← hu6]
            have K9 : Hid (Blk u6 B5 #[.int .i64 0, .int .i64 0, .int .u32 0, .int .u32 0]) := Lib.hid (by rw [hu6]; exact K4.out.alloc _)
            have N10 : Hid (B5 ≠ B8) := Lib.hid (by rw [hB8]; exact Nat.ne_of_lt K4.out.lt)
            clear hu6 hB8
            refine ⟨sTwo' HS0 L1 L2 L3 Hu6.out, ?_⟩
            try simp only [Act.put, List.setIfInBounds_toArray, List.set_cons_zero, List.set_cons_succ, List.getElem_toArray, List.getElem_cons_zero, List.getElem_cons_succ]
            refine plan3_stop ?_
            simp only [List.drop_succ_cons, List.drop_zero]
            have cX := K9.out.c
            have fX := K9.out.f
            have lX := K9.out.lt
            have cY := K7.out.c
            have fY := K7.out.f
            have lY := K7.out.lt
            have nXY : B5 ≠ B8 := N10.out
            have nYX := nXY.symm
            go_wp2_with fail
            go_meet
            case rel => exact ⟨_, _, rfl, rfl, twoS1 K9.out K7.out nXY, twoS2 K9.out K7.out nXY, twoB Hu6.out GB5.out GB8.out⟩
          · obtain ⟨B13, hB13⟩ : ∃ n, n = u2.heap.size := ⟨_, rfl⟩
            refine op_make (v := .pointer (some ⟨B13, 0, none⟩)) (w1 := (u2.alloc (.cells #[.int .i64 0, .int .i64 0, .int .u32 0, .int .u32 0] 30))) rfl (by rfl) ?_ ?_
            · rw [hB13]
              go_simp
            obtain ⟨u11, hu11⟩ : ∃ u, u = (u2.alloc (.cells #[.int .i64 0, .int .i64 0, .int .u32 0, .int .u32 0] 30)) := ⟨_, rfl⟩
            have K12 : Hid (Blk u11 B13 #[.int .i64 0, .int .i64 0, .int .u32 0, .int .u32 0]) := Lib.hid (by rw [hu11, hB13]; exact Blk.new _ _ 30)
            have Hu11 : Hid (Below wc.heap.size wc u11) := Lib.hid (by rw [hu11]; exact Hu2.out.alloc Hu2.out.size _)
            have GB13 : Hid (wc.heap.size ≤ B13) := Lib.hid (by rw [hB13]; exact Hu2.out.size)
            rw [← hu11]
            clear hu11 hB13
            refine ⟨sTwo' HS0 L1 L2 L3 Hu11.out, ?_⟩
            try simp only [Act.put, List.setIfInBounds_toArray, List.set_cons_zero, List.set_cons_succ, List.getElem_toArray, List.getElem_cons_zero, List.getElem_cons_succ]
            refine plan3_one ?_
            obtain ⟨B16, hB16⟩ : ∃ n, n = u11.heap.size := ⟨_, rfl⟩
            refine op_make (v := .pointer (some ⟨B16, 0, none⟩)) (w1 := (u11.alloc (.cells #[.int .i64 0, .int .i64 0, .int .u32 0, .int .u32 0] 30))) rfl (by rfl) ?_ ?_
            · rw [hB16]
              go_simp
            obtain ⟨u14, hu14⟩ : ∃ u, u = (u11.alloc (.cells #[.int .i64 0, .int .i64 0, .int .u32 0, .int .u32 0] 30)) := ⟨_, rfl⟩
            have K15 : Hid (Blk u14 B16 #[.int .i64 0, .int .i64 0, .int .u32 0, .int .u32 0]) := Lib.hid (by rw [hu14, hB16]; exact Blk.new _ _ 30)
            have Hu14 : Hid (Below wc.heap.size wc u14) := Lib.hid (by rw [hu14]; exact Hu11.out.alloc Hu11.out.size _)
            have GB16 : Hid (wc.heap.size ≤ B16) := Lib.hid (by rw [hB16]; exact Hu11.out.size)
            rw [← hu14]
            have K17 : Hid (Blk u14 B13 #[.int .i64 0, .int .i64 0, .int .u32 0, .int .u32 0]) := Lib.hid (by rw [hu14]; exact K12.out.alloc _)
            have N18 : Hid (B13 ≠ B16) := Lib.hid (by rw [hB16]; exact Nat.ne_of_lt K12.out.lt)
            clear hu14 hB16
            refine ⟨sTwo' HS0 L1 L2 L3 Hu14.out, ?_⟩
            try simp only [Act.put, List.setIfInBounds_toArray, List.set_cons_zero, List.set_cons_succ, List.getElem_toArray, List.getElem_cons_zero, List.getElem_cons_succ]
            refine plan3_stop ?_
            simp only [List.drop_succ_cons, List.drop_zero]
            have cX := K15.out.c
            have fX := K15.out.f
            have lX := K15.out.lt
            have cY := K17.out.c
            have fY := K17.out.f
            have lY := K17.out.lt
            have nXY : B16 ≠ B13 := (Ne.symm N18.out)
            have nYX := nXY.symm
            go_wp2_with fail
            go_meet
            case rel => exact ⟨_, _, rfl, rfl, twoS1 K15.out K17.out nXY, twoS2 K15.out K17.out nXY, twoB Hu14.out GB16.out GB13.out⟩
        · obtain ⟨B21, hB21⟩ : ∃ n, n = u1.heap.size := ⟨_, rfl⟩
          refine op_make (v := .pointer (some ⟨B21, 0, none⟩)) (w1 := (u1.alloc (.cells #[.int .i64 0, .int .i64 0, .int .u32 0, .int .u32 0] 30))) rfl (by rfl) ?_ ?_
          · rw [hB21]
            go_simp
          obtain ⟨u19, hu19⟩ : ∃ u, u = (u1.alloc (.cells #[.int .i64 0, .int .i64 0, .int .u32 0, .int .u32 0] 30)) := ⟨_, rfl⟩
          have K20 : Hid (Blk u19 B21 #[.int .i64 0, .int .i64 0, .int .u32 0, .int .u32 0]) := Lib.hid (by rw [hu19, hB21]; exact Blk.new _ _ 30)
          have Hu19 : Hid (Below wc.heap.size wc u19) := Lib.hid (by rw [hu19]; exact Hu1.out.alloc Hu1.out.size _)
          have GB21 : Hid (wc.heap.size ≤ B21) := Lib.hid (by rw [hB21]; exact Hu1.out.size)
          rw [← hu19]
          clear hu19 hB21
          refine ⟨sTwo' HS0 L1 L2 L3 Hu19.out, ?_⟩
          try simp only [Act.put, List.setIfInBounds_toArray, List.set_cons_zero, List.set_cons_succ, List.getElem_toArray, List.getElem_cons_zero, List.getElem_cons_succ]
          refine plan3_two ?_ ?_
          · refine op_call (F := 23) (args := ?_) rfl (by rfl) ?_ ?_
            rotate_left
            · go_simp
              rfl
            refine (kw2 (atP P i2) a2 k2 t2 v2 o2 _ E2 HP2 F2 HW2 hw2 HS0 L1 L2 L3 Hu19.out).mono ?_
            rintro e u22 ⟨rfl, s4, hb4, hd4⟩
            have Hu22 := Lib.hid hb4
            have K23 := Lib.hid (K20.out.below hd4)
            refine ⟨_, rfl, ⟨s4, hb4⟩, ?_⟩
            clear s4 hb4 hd4
            try simp only [Act.put, List.setIfInBounds_toArray, List.set_cons_zero, List.set_cons_succ, List.getElem_toArray, List.getElem_cons_zero, List.getElem_cons_succ]
            refine plan3_one ?_
            obtain ⟨B26, hB26⟩ : ∃ n, n = u22.heap.size := ⟨_, rfl⟩
            refine op_make (v := .pointer (some ⟨B26, 0, none⟩)) (w1 := (u22.alloc (.cells #[.int .i64 0, .int .i64 0, .int .u32 0, .int .u32 0] 30))) rfl (by rfl) ?_ ?_
            · rw [hB26]
              go_simp
            obtain ⟨u24, hu24⟩ : ∃ u, u = (u22.alloc (.cells #[.int .i64 0, .int .i64 0, .int .u32 0, .int .u32 0] 30)) := ⟨_, rfl⟩
            have K25 : Hid (Blk u24 B26 #[.int .i64 0, .int .i64 0, .int .u32 0, .int .u32 0]) := Lib.hid (by rw [hu24, hB26]; exact Blk.new _ _ 30)
            have Hu24 : Hid (Below wc.heap.size wc u24) := Lib.hid (by rw [hu24]; exact Hu22.out.alloc Hu22.out.size _)
            have GB26 : Hid (wc.heap.size ≤ B26) := Lib.hid (by rw [hB26]; exact Hu22.out.size)
            rw [← hu24]
            have K27 : Hid (Blk u24 B21 #[.int .i64 0, .int .i64 0, .int .u32 0, .int .u32 0]) := Lib.hid (by rw [hu24]; exact K23.out.alloc _)
            have N28 : Hid (B21 ≠ B26) := Lib.hid (by rw [hB26]; exact Nat.ne_of_lt K23.out.lt)
            clear hu24 hB26
            refine ⟨sTwo' HS0 L1 L2 L3 Hu24.out, ?_⟩
            try simp only [Act.put, List.setIfInBounds_toArray, List.set_cons_zero, List.set_cons_succ, List.getElem_toArray, List.getElem_cons_zero, List.getElem_cons_succ]
            refine plan3_stop ?_
            simp only [List.drop_succ_cons, List.drop_zero]
            have cX := K27.out.c
            have fX := K27.out.f
            have lX := K27.out.lt
            have cY := K25.out.c
            have fY := K25.out.f
            have lY := K25.out.lt
            have nXY : B21 ≠ B26 := N28.out
            have nYX := nXY.symm
            go_wp2_with fail
            go_meet
            case rel => exact ⟨_, _, rfl, rfl, twoS1 K27.out K25.out nXY, twoS2 K27.out K25.out nXY, twoB Hu24.out GB21.out GB26.out⟩
          · obtain ⟨B31, hB31⟩ : ∃ n, n = u19.heap.size := ⟨_, rfl⟩
            refine op_make (v := .pointer (some ⟨B31, 0, none⟩)) (w1 := (u19.alloc (.cells #[.int .i64 0, .int .i64 0, .int .u32 0, .int .u32 0] 30))) rfl (by rfl) ?_ ?_
            · rw [hB31]
              go_simp
            obtain ⟨u29, hu29⟩ : ∃ u, u = (u19.alloc (.cells #[.int .i64 0, .int .i64 0, .int .u32 0, .int .u32 0] 30)) := ⟨_, rfl⟩
            have K30 : Hid (Blk u29 B31 #[.int .i64 0, .int .i64 0, .int .u32 0, .int .u32 0]) := Lib.hid (by rw [hu29, hB31]; exact Blk.new _ _ 30)
            have Hu29 : Hid (Below wc.heap.size wc u29) := Lib.hid (by rw [hu29]; exact Hu19.out.alloc Hu19.out.size _)
            have GB31 : Hid (wc.heap.size ≤ B31) := Lib.hid (by rw [hB31]; exact Hu19.out.size)
            rw [← hu29]
            have K32 : Hid (Blk u29 B21 #[.int .i64 0, .int .i64 0, .int .u32 0, .int .u32 0]) := Lib.hid (by rw [hu29]; exact K20.out.alloc _)
            have N33 : Hid (B21 ≠ B31) := Lib.hid (by rw [hB31]; exact Nat.ne_of_lt K20.out.lt)
            clear hu29 hB31
            refine ⟨sTwo' HS0 L1 L2 L3 Hu29.out, ?_⟩
            try simp only [Act.put, List.setIfInBounds_toArray, List.set_cons_zero, List.set_cons_succ, List.getElem_toArray, List.getElem_cons_zero, List.getElem_cons_succ]
            refine plan3_one ?_
            refine op_call (F := 23) (args := ?_) rfl (by rfl) ?_ ?_
            rotate_left
            · go_simp
              rfl
            refine (kw2 (atP P i2) a2 k2 t2 v2 o2 _ E2 HP2 F2 HW2 hw2 HS0 L1 L2 L3 Hu29.out).mono ?_
            rintro e u34 ⟨rfl, s4, hb4, hd4⟩
            have Hu34 := Lib.hid hb4
            have K35 := Lib.hid (K32.out.below hd4)
            have K36 := Lib.hid (K30.out.below hd4)
            refine ⟨_, rfl, ⟨s4, hb4⟩, ?_⟩
            clear s4 hb4 hd4
            try simp only [Act.put, List.setIfInBounds_toArray, List.set_cons_zero, List.set_cons_succ, List.getElem_toArray, List.getElem_cons_zero, List.getElem_cons_succ]
            refine plan3_stop ?_
            simp only [List.drop_succ_cons, List.drop_zero]
            have cX := K35.out.c
            have fX := K35.out.f
            have lX := K35.out.lt
            have cY := K36.out.c
            have fY := K36.out.f
            have lY := K36.out.lt
            have nXY : B21 ≠ B31 := N33.out
            have nYX := nXY.symm
            go_wp2_with fail
            go_meet
            case rel => exact ⟨_, _, rfl, rfl, twoS1 K35.out K36.out nXY, twoS2 K35.out K36.out nXY, twoB Hu34.out GB21.out GB31.out⟩
        · obtain ⟨B39, hB39⟩ : ∃ n, n = u1.heap.size := ⟨_, rfl⟩
          refine op_make (v := .pointer (some ⟨B39, 0, none⟩)) (w1 := (u1.alloc (.cells #[.int .i64 0, .int .i64 0, .int .u32 0, .int .u32 0] 30))) rfl (by rfl) ?_ ?_
          · rw [hB39]
            go_simp
          obtain ⟨u37, hu37⟩ : ∃ u, u = (u1.alloc (.cells #[.int .i64 0, .int .i64 0, .int .u32 0, .int .u32 0] 30)) := ⟨_, rfl⟩
          have K38 : Hid (Blk u37 B39 #[.int .i64 0, .int .i64 0, .int .u32 0, .int .u32 0]) := Lib.hid (by rw [hu37, hB39]; exact Blk.new _ _ 30)
          have Hu37 : Hid (Below wc.heap.size wc u37) := Lib.hid (by rw [hu37]; exact Hu1.out.alloc Hu1.out.size _)
          have GB39 : Hid (wc.heap.size ≤ B39) := Lib.hid (by rw [hB39]; exact Hu1.out.size)
          rw [← hu37]
          clear hu37 hB39
          refine ⟨sTwo' HS0 L1 L2 L3 Hu37.out, ?_⟩
          try simp only [Act.put, List.setIfInBounds_toArray, List.set_cons_zero, List.set_cons_succ, List.getElem_toArray, List.getElem_cons_zero, List.getElem_cons_succ]
          refine plan3_two ?_ ?_
          · refine op_call (F := 23) (args := ?_) rfl (by rfl) ?_ ?_
            rotate_left
            · go_simp
              rfl
            refine (kw2 (atP P i2) a2 k2 t2 v2 o2 _ E2 HP2 F2 HW2 hw2 HS0 L1 L2 L3 Hu37.out).mono ?_
            rintro e u40 ⟨rfl, s4, hb4, hd4⟩
            have Hu40 := Lib.hid hb4
            have K41 := Lib.hid (K38.out.below hd4)
            refine ⟨_, rfl, ⟨s4, hb4⟩, ?_⟩
            clear s4 hb4 hd4
            try simp only [Act.put, List.setIfInBounds_toArray, List.set_cons_zero, List.set_cons_succ, List.getElem_toArray, List.getElem_cons_zero, List.getElem_cons_succ]
            refine plan3_one ?_
            obtain ⟨B44, hB44⟩ : ∃ n, n = u40.heap.size := ⟨_, rfl⟩
            refine op_make (v := .pointer (some ⟨B44, 0, none⟩)) (w1 := (u40.alloc (.cells #[.int .i64 0, .int .i64 0, .int .u32 0, .int .u32 0] 30))) rfl (by rfl) ?_ ?_
            · rw [hB44]
              go_simp
            obtain ⟨u42, hu42⟩ : ∃ u, u = (u40.alloc (.cells #[.int .i64 0, .int .i64 0, .int .u32 0, .int .u32 0] 30)) := ⟨_, rfl⟩
            have K43 : Hid (Blk u42 B44 #[.int .i64 0, .int .i64 0, .int .u32 0, .int .u32 0]) := Lib.hid (by rw [hu42, hB44]; exact Blk.new _ _ 30)
            have Hu42 : Hid (Below wc.heap.size wc u42) := Lib.hid (by rw [hu42]; exact Hu40.out.alloc Hu40.out.size _)
            have GB44 : Hid (wc.heap.size ≤ B44) := Lib.hid (by rw [hB44]; exact Hu40.out.size)
            rw [← hu42]
            have K45 : Hid (Blk u42 B39 #[.int .i64 0, .int .i64 0, .int .u32 0, .int .u32 0]) := Lib.hid (by rw [hu42]; exact K41.out.alloc _)
            have N46 : Hid (B39 ≠ B44) := Lib.hid (by rw [hB44]; exact Nat.ne_of_lt K41.out.lt)
            clear hu42 hB44
            refine ⟨sTwo' HS0 L1 L2 L3 Hu42.out, ?_⟩
            try simp only [Act.put, List.setIfInBounds_toArray, List.set_cons_zero, List.set_cons_succ, List.getElem_toArray, List.getElem_cons_zero, List.getElem_cons_succ]
            refine plan3_stop ?_
            simp only [List.drop_succ_cons, List.drop_zero]
            have cX := K43.out.c
            have fX := K43.out.f
            have lX := K43.out.lt
            have cY := K45.out.c
            have fY := K45.out.f
            have lY := K45.out.lt
            have nXY : B44 ≠ B39 := (Ne.symm N46.out)
            have nYX := nXY.symm
            go_wp2_with fail
            go_meet
            case rel => exact ⟨_, _, rfl, rfl, twoS1 K43.out K45.out nXY, twoS2 K43.out K45.out nXY, twoB Hu42.out GB44.out GB39.out⟩
          · obtain ⟨B49, hB49⟩ : ∃ n, n = u37.heap.size := ⟨_, rfl⟩
            refine op_make (v := .pointer (some ⟨B49, 0, none⟩)) (w1 := (u37.alloc (.cells #[.int .i64 0, .int .i64 0, .int .u32 0, .int .u32 0] 30))) rfl (by rfl) ?_ ?_
            · rw [hB49]
              go_simp
            obtain ⟨u47, hu47⟩ : ∃ u, u = (u37.alloc (.cells #[.int .i64 0, .int .i64 0, .int .u32 0, .int .u32 0] 30)) := ⟨_, rfl⟩
            have K48 : Hid (Blk u47 B49 #[.int .i64 0, .int .i64 0, .int .u32 0, .int .u32 0]) := Lib.hid (by rw [hu47, hB49]; exact Blk.new _ _ 30)
            have Hu47 : Hid (Below wc.heap.size wc u47) := Lib.hid (by rw [hu47]; exact Hu37.out.alloc Hu37.out.size _)
            have GB49 : Hid (wc.heap.size ≤ B49) := Lib.hid (by rw [hB49]; exact Hu37.out.size)
            rw [← hu47]
            have K50 : Hid (Blk u47 B39 #[.int .i64 0, .int .i64 0, .int .u32 0, .int .u32 0]) := Lib.hid (by rw [hu47]; exact K38.out.alloc _)
            have N51 : Hid (B39 ≠ B49) := Lib.hid (by rw [hB49]; exact Nat.ne_of_lt K38.out.lt)
            clear hu47 hB49
            refine ⟨sTwo' HS0 L1 L2 L3 Hu47.out, ?_⟩
            try simp only [Act.put, List.setIfInBounds_toArray, List.set_cons_zero, List.set_cons_succ, List.getElem_toArray, List.getElem_cons_zero, List.getElem_cons_succ]
            refine plan3_one ?_
            refine op_call (F := 23) (args := ?_) rfl (by rfl) ?_ ?_
            rotate_left
            · go_simp
              rfl
            refine (kw2 (atP P i2) a2 k2 t2 v2 o2 _ E2 HP2 F2 HW2 hw2 HS0 L1 L2 L3 Hu47.out).mono ?_
            rintro e u52 ⟨rfl, s4, hb4, hd4⟩
            have Hu52 := Lib.hid hb4
            have K53 := Lib.hid (K48.out.below hd4)
            have K54 := Lib.hid (K50.out.below hd4)
            refine ⟨_, rfl, ⟨s4, hb4⟩, ?_⟩
            clear s4 hb4 hd4
            try simp only [Act.put, List.setIfInBounds_toArray, List.set_cons_zero, List.set_cons_succ, List.getElem_toArray, List.getElem_cons_zero, List.getElem_cons_succ]
            refine plan3_stop ?_
            simp only [List.drop_succ_cons, List.drop_zero]
            have cX := K53.out.c
            have fX := K53.out.f
            have lX := K53.out.lt
            have cY := K54.out.c
            have fY := K54.out.f
            have lY := K54.out.lt
            have nXY : B49 ≠ B39 := (Ne.symm N51.out)
            have nYX := nXY.symm
            go_wp2_with fail
            go_meet
            case rel => exact ⟨_, _, rfl, rfl, twoS1 K53.out K54.out nXY, twoS2 K53.out K54.out nXY, twoB Hu52.out GB49.out GB39.out⟩
      · obtain ⟨B57, hB57⟩ : ∃ n, n = wc.drew.heap.size := ⟨_, rfl⟩
        refine op_make (v := .pointer (some ⟨B57, 0, none⟩)) (w1 := (wc.drew.alloc (.cells #[.int .i64 0, .int .i64 0, .int .u32 0, .int .u32 0] 30))) rfl (by rfl) ?_ ?_
        · rw [hB57]
          go_simp
        obtain ⟨u55, hu55⟩ : ∃ u, u = (wc.drew.alloc (.cells #[.int .i64 0, .int .i64 0, .int .u32 0, .int .u32 0] 30)) := ⟨_, rfl⟩
        have K56 : Hid (Blk u55 B57 #[.int .i64 0, .int .i64 0, .int .u32 0, .int .u32 0]) := Lib.hid (by rw [hu55, hB57]; exact Blk.new _ _ 30)
        have Hu55 : Hid (Below wc.heap.size wc u55) := Lib.hid (by rw [hu55]; exact Hu0.out.alloc Hu0.out.size _)
        have GB57 : Hid (wc.heap.size ≤ B57) := Lib.hid (by rw [hB57]; exact Hu0.out.size)
        rw [← hu55]
        clear hu55 hB57
        refine ⟨sTwo' HS0 L1 L2 L3 Hu55.out, ?_⟩
        try simp only [Act.put, List.setIfInBounds_toArray, List.set_cons_zero, List.set_cons_succ, List.getElem_toArray, List.getElem_cons_zero, List.getElem_cons_succ]
        refine plan3_two ?_ ?_
        · refine op_call (F := 23) (args := ?_) rfl (by rfl) ?_ ?_
          rotate_left
          · go_simp
            rfl
          refine (kw1 (atP P i1) a2 k1 t1 v1 o1 _ E1 HP1 F1 HW1 hw2 HS0 L1 L2 L3 Hu55.out).mono ?_
          rintro e u58 ⟨rfl, s4, hb4, hd4⟩
          have Hu58 := Lib.hid hb4
          have K59 := Lib.hid (K56.out.below hd4)
          refine ⟨_, rfl, ⟨s4, hb4⟩, ?_⟩
          clear s4 hb4 hd4
          try simp only [Act.put, List.setIfInBounds_toArray, List.set_cons_zero, List.set_cons_succ, List.getElem_toArray, List.getElem_cons_zero, List.getElem_cons_succ]
          refine plan3_two ?_ ?_
          · refine op_call (F := 23) (args := ?_) rfl (by rfl) ?_ ?_
            rotate_left
            · go_simp
              rfl
            refine (kw2 (atP P i2) a2 k2 t2 v2 o2 _ E2 HP2 F2 HW2 hw2 HS0 L1 L2 L3 Hu58.out).mono ?_
            rintro e u60 ⟨rfl, s4, hb4, hd4⟩
            have Hu60 := Lib.hid hb4
            have K61 := Lib.hid (K59.out.below hd4)
            refine ⟨_, rfl, ⟨s4, hb4⟩, ?_⟩
            clear s4 hb4 hd4
            try simp only [Act.put, List.setIfInBounds_toArray, List.set_cons_zero, List.set_cons_succ, List.getElem_toArray, List.getElem_cons_zero, List.getElem_cons_succ]
            refine plan3_one ?_
            obtain ⟨B64, hB64⟩ : ∃ n, n = u60.heap.size := ⟨_, rfl⟩
            refine op_make (v := .pointer (some ⟨B64, 0, none⟩)) (w1 := (u60.alloc (.cells #[.int .i64 0, .int .i64 0, .int .u32 0, .int .u32 0] 30))) rfl (by rfl) ?_ ?_
            · rw [hB64]
              go_simp
            obtain ⟨u62, hu62⟩ : ∃ u, u = (u60.alloc (.cells #[.int .i64 0, .int .i64 0, .int .u32 0, .int .u32 0] 30)) := ⟨_, rfl⟩
            have K63 : Hid (Blk u62 B64 #[.int .i64 0, .int .i64 0, .int .u32 0, .int .u32 0]) := Lib.hid (by rw [hu62, hB64]; exact Blk.new _ _ 30)
            have Hu62 : Hid (Below wc.heap.size wc u62) := Lib.hid (by rw [hu62]; exact Hu60.out.alloc Hu60.out.size _)
            have GB64 : Hid (wc.heap.size ≤ B64) := Lib.hid (by rw [hB64]; exact Hu60.out.size)
            rw [← hu62]
            have K65 : Hid (Blk u62 B57 #[.int .i64 0, .int .i64 0, .int .u32 0, .int .u32 0]) := Lib.hid (by rw [hu62]; exact K61.out.alloc _)
            have N66 : Hid (B57 ≠ B64) := Lib.hid (by rw [hB64]; exact Nat.ne_of_lt K61.out.lt)
            clear hu62 hB64
            refine ⟨sTwo' HS0 L1 L2 L3 Hu62.out, ?_⟩
            try simp only [Act.put, List.setIfInBounds_toArray, List.set_cons_zero, List.set_cons_succ, List.getElem_toArray, List.getElem_cons_zero, List.getElem_cons_succ]
            refine plan3_stop ?_
            simp only [List.drop_succ_cons, List.drop_zero]
            have cX := K65.out.c
            have fX := K65.out.f
            have lX := K65.out.lt
            have cY := K63.out.c
            have fY := K63.out.f
            have lY := K63.out.lt
            have nXY : B57 ≠ B64 := N66.out
            have nYX := nXY.symm
            go_wp2_with fail
            go_meet
            case rel => exact ⟨_, _, rfl, rfl, twoS1 K65.out K63.out nXY, twoS2 K65.out K63.out nXY, twoB Hu62.out GB57.out GB64.out⟩
          · obtain ⟨B69, hB69⟩ : ∃ n, n = u58.heap.size := ⟨_, rfl⟩
            refine op_make (v := .pointer (some ⟨B69, 0, none⟩)) (w1 := (u58.alloc (.cells #[.int .i64 0, .int .i64 0, .int .u32 0, .int .u32 0] 30))) rfl (by rfl) ?_ ?_
            · rw [hB69]
              go_simp
            obtain ⟨u67, hu67⟩ : ∃ u, u = (u58.alloc (.cells #[.int .i64 0, .int .i64 0, .int .u32 0, .int .u32 0] 30)) := ⟨_, rfl⟩
            have K68 : Hid (Blk u67 B69 #[.int .i64 0, .int .i64 0, .int .u32 0, .int .u32 0]) := Lib.hid (by rw [hu67, hB69]; exact Blk.new _ _ 30)
            have Hu67 : Hid (Below wc.heap.size wc u67) := Lib.hid (by rw [hu67]; exact Hu58.out.alloc Hu58.out.size _)
            have GB69 : Hid (wc.heap.size ≤ B69) := Lib.hid (by rw [hB69]; exact Hu58.out.size)
            rw [← hu67]
            have K70 : Hid (Blk u67 B57 #[.int .i64 0, .int .i64 0, .int .u32 0, .int .u32 0]) := Lib.hid (by rw [hu67]; exact K59.out.alloc _)
            have N71 : Hid (B57 ≠ B69) := Lib.hid (by rw [hB69]; exact Nat.ne_of_lt K59.out.lt)
            clear hu67 hB69
            refine ⟨sTwo' HS0 L1 L2 L3 Hu67.out, ?_⟩
            try simp only [Act.put, List.setIfInBounds_toArray, List.set_cons_zero, List.set_cons_succ, List.getElem_toArray, List.getElem_cons_zero, List.getElem_cons_succ]
            refine plan3_one ?_
            refine op_call (F := 23) (args := ?_) rfl (by rfl) ?_ ?_
            rotate_left
            · go_simp
              rfl
            refine (kw2 (atP P i2) a2 k2 t2 v2 o2 _ E2 HP2 F2 HW2 hw2 HS0 L1 L2 L3 Hu67.out).mono ?_
            rintro e u72 ⟨rfl, s4, hb4, hd4⟩
            have Hu72 := Lib.hid hb4
            have K73 := Lib.hid (K70.out.below hd4)
            have K74 := Lib.hid (K68.out.below hd4)
            refine ⟨_, rfl, ⟨s4, hb4⟩, ?_⟩
            clear s4 hb4 hd4
            try simp only [Act.put, List.setIfInBounds_toArray, List.set_cons_zero, List.set_cons_succ, List.getElem_toArray, List.getElem_cons_zero, List.getElem_cons_succ]
            refine plan3_stop ?_
            simp only [List.drop_succ_cons, List.drop_zero]
            have cX := K73.out.c
            have fX := K73.out.f
            have lX := K73.out.lt
            have cY := K74.out.c
            have fY := K74.out.f
            have lY := K74.out.lt
            have nXY : B57 ≠ B69 := N71.out
            have nYX := nXY.symm
            go_wp2_with fail
            go_meet
            case rel => exact ⟨_, _, rfl, rfl, twoS1 K73.out K74.out nXY, twoS2 K73.out K74.out nXY, twoB Hu72.out GB57.out GB69.out⟩
        · obtain ⟨B77, hB77⟩ : ∃ n, n = u55.heap.size := ⟨_, rfl⟩
          refine op_make (v := .pointer (some ⟨B77, 0, none⟩)) (w1 := (u55.alloc (.cells #[.int .i64 0, .int .i64 0, .int .u32 0, .int .u32 0] 30))) rfl (by rfl) ?_ ?_
          · rw [hB77]
            go_simp
          obtain ⟨u75, hu75⟩ : ∃ u, u = (u55.alloc (.cells #[.int .i64 0, .int .i64 0, .int .u32 0, .int .u32 0] 30)) := ⟨_, rfl⟩
          have K76 : Hid (Blk u75 B77 #[.int .i64 0, .int .i64 0, .int .u32 0, .int .u32 0]) := Lib.hid (by rw [hu75, hB77]; exact Blk.new _ _ 30)
          have Hu75 : Hid (Below wc.heap.size wc u75) := Lib.hid (by rw [hu75]; exact Hu55.out.alloc Hu55.out.size _)
          have GB77 : Hid (wc.heap.size ≤ B77) := Lib.hid (by rw [hB77]; exact Hu55.out.size)
          rw [← hu75]
          have K78 : Hid (Blk u75 B57 #[.int .i64 0, .int .i64 0, .int .u32 0, .int .u32 0]) := Lib.hid (by rw [hu75]; exact K56.out.alloc _)
          have N79 : Hid (B57 ≠ B77) := Lib.hid (by rw [hB77]; exact Nat.ne_of_lt K56.out.lt)
          clear hu75 hB77
          refine ⟨sTwo' HS0 L1 L2 L3 Hu75.out, ?_⟩
          try simp only [Act.put, List.setIfInBounds_toArray, List.set_cons_zero, List.set_cons_succ, List.getElem_toArray, List.getElem_cons_zero, List.getElem_cons_succ]
          refine plan3_one ?_
          refine op_call (F := 23) (args := ?_) rfl (by rfl) ?_ ?_
          rotate_left
          · go_simp
            rfl
          refine (kw1 (atP P i1) a2 k1 t1 v1 o1 _ E1 HP1 F1 HW1 hw2 HS0 L1 L2 L3 Hu75.out).mono ?_
          rintro e u80 ⟨rfl, s4, hb4, hd4⟩
          have Hu80 := Lib.hid hb4
          have K81 := Lib.hid (K78.out.below hd4)
          have K82 := Lib.hid (K76.out.below hd4)
          refine ⟨_, rfl, ⟨s4, hb4⟩, ?_⟩
          clear s4 hb4 hd4
          try simp only [Act.put, List.setIfInBounds_toArray, List.set_cons_zero, List.set_cons_succ, List.getElem_toArray, List.getElem_cons_zero, List.getElem_cons_succ]
          refine plan3_one ?_
          refine op_call (F := 23) (args := ?_) rfl (by rfl) ?_ ?_
          rotate_left
          · go_simp
            rfl
          refine (kw2 (atP P i2) a2 k2 t2 v2 o2 _ E2 HP2 F2 HW2 hw2 HS0 L1 L2 L3 Hu80.out).mono ?_
          rintro e u83 ⟨rfl, s4, hb4, hd4⟩
          have Hu83 := Lib.hid hb4
          have K84 := Lib.hid (K81.out.below hd4)
          have K85 := Lib.hid (K82.out.below hd4)
          refine ⟨_, rfl, ⟨s4, hb4⟩, ?_⟩
          clear s4 hb4 hd4
          try simp only [Act.put, List.setIfInBounds_toArray, List.set_cons_zero, List.set_cons_succ, List.getElem_toArray, List.getElem_cons_zero, List.getElem_cons_succ]
          refine plan3_stop ?_
          simp only [List.drop_succ_cons, List.drop_zero]
          have cX := K84.out.c
          have fX := K84.out.f
          have lX := K84.out.lt
          have cY := K85.out.c
          have fY := K85.out.f
          have lY := K85.out.lt
          have nXY : B57 ≠ B77 := N79.out
          have nYX := nXY.symm
          go_wp2_with fail
          go_meet
          case rel => exact ⟨_, _, rfl, rfl, twoS1 K84.out K85.out nXY, twoS2 K84.out K85.out nXY, twoB Hu83.out GB57.out GB77.out⟩
      · obtain ⟨B88, hB88⟩ : ∃ n, n = wc.drew.heap.size := ⟨_, rfl⟩
        refine op_make (v := .pointer (some ⟨B88, 0, none⟩)) (w1 := (wc.drew.alloc (.cells #[.int .i64 0, .int .i64 0, .int .u32 0, .int .u32 0] 30))) rfl (by rfl) ?_ ?_
        · rw [hB88]
          go_simp
        obtain ⟨u86, hu86⟩ : ∃ u, u = (wc.drew.alloc (.cells #[.int .i64 0, .int .i64 0, .int .u32 0, .int .u32 0] 30)) := ⟨_, rfl⟩
        have K87 : Hid (Blk u86 B88 #[.int .i64 0, .int .i64 0, .int .u32 0, .int .u32 0]) := Lib.hid (by rw [hu86, hB88]; exact Blk.new _ _ 30)
        have Hu86 : Hid (Below wc.heap.size wc u86) := Lib.hid (by rw [hu86]; exact Hu0.out.alloc Hu0.out.size _)
        have GB88 : Hid (wc.heap.size ≤ B88) := Lib.hid (by rw [hB88]; exact Hu0.out.size)
        rw [← hu86]
        clear hu86 hB88
        refine ⟨sTwo' HS0 L1 L2 L3 Hu86.out, ?_⟩
        try simp only [Act.put, List.setIfInBounds_toArray, List.set_cons_zero, List.set_cons_succ, List.getElem_toArray, List.getElem_cons_zero, List.getElem_cons_succ]
        refine plan3_two ?_ ?_
        · refine op_call (F := 23) (args := ?_) rfl (by rfl) ?_ ?_
          rotate_left
          · go_simp
            rfl
          refine (kw1 (atP P i1) a2 k1 t1 v1 o1 _ E1 HP1 F1 HW1 hw2 HS0 L1 L2 L3 Hu86.out).mono ?_
          rintro e u89 ⟨rfl, s4, hb4, hd4⟩
          have Hu89 := Lib.hid hb4
          have K90 := Lib.hid (K87.out.below hd4)
          refine ⟨_, rfl, ⟨s4, hb4⟩, ?_⟩
          clear s4 hb4 hd4
          try simp only [Act.put, List.setIfInBounds_toArray, List.set_cons_zero, List.set_cons_succ, List.getElem_toArray, List.getElem_cons_zero, List.getElem_cons_succ]
          refine plan3_two ?_ ?_
          · refine op_call (F := 23) (args := ?_) rfl (by rfl) ?_ ?_
            rotate_left
            · go_simp
              rfl
            refine (kw2 (atP P i2) a2 k2 t2 v2 o2 _ E2 HP2 F2 HW2 hw2 HS0 L1 L2 L3 Hu89.out).mono ?_
            rintro e u91 ⟨rfl, s4, hb4, hd4⟩
            have Hu91 := Lib.hid hb4
            have K92 := Lib.hid (K90.out.below hd4)
            refine ⟨_, rfl, ⟨s4, hb4⟩, ?_⟩
            clear s4 hb4 hd4
            try simp only [Act.put, List.setIfInBounds_toArray, List.set_cons_zero, List.set_cons_succ, List.getElem_toArray, List.getElem_cons_zero, List.getElem_cons_succ]
            refine plan3_one ?_
            obtain ⟨B95, hB95⟩ : ∃ n, n = u91.heap.size := ⟨_, rfl⟩
            refine op_make (v := .pointer (some ⟨B95, 0, none⟩)) (w1 := (u91.alloc (.cells #[.int .i64 0, .int .i64 0, .int .u32 0, .int .u32 0] 30))) rfl (by rfl) ?_ ?_
            · rw [hB95]
              go_simp
            obtain ⟨u93, hu93⟩ : ∃ u, u = (u91.alloc (.cells #[.int .i64 0, .int .i64 0, .int .u32 0, .int .u32 0] 30)) := ⟨_, rfl⟩
            have K94 : Hid (Blk u93 B95 #[.int .i64 0, .int .i64 0, .int .u32 0, .int .u32 0]) := Lib.hid (by rw [hu93, hB95]; exact Blk.new _ _ 30)
            have Hu93 : Hid (Below wc.heap.size wc u93) := Lib.hid (by rw [hu93]; exact Hu91.out.alloc Hu91.out.size _)
            have GB95 : Hid (wc.heap.size ≤ B95) := Lib.hid (by rw [hB95]; exact Hu91.out.size)
            rw [← hu93]
            have K96 : Hid (Blk u93 B88 #[.int .i64 0, .int .i64 0, .int .u32 0, .int .u32 0]) := Lib.hid (by rw [hu93]; exact K92.out.alloc _)
            have N97 : Hid (B88 ≠ B95) := Lib.hid (by rw [hB95]; exact Nat.ne_of_lt K92.out.lt)
            clear hu93 hB95
            refine ⟨sTwo' HS0 L1 L2 L3 Hu93.out, ?_⟩
            try simp only [Act.put, List.setIfInBounds_toArray, List.set_cons_zero, List.set_cons_succ, List.getElem_toArray, List.getElem_cons_zero, List.getElem_cons_succ]
            refine plan3_stop ?_
            simp only [List.drop_succ_cons, List.drop_zero]
            have cX := K94.out.c
            have fX := K94.out.f
            have lX := K94.out.lt
            have cY := K96.out.c
            have fY := K96.out.f
            have lY := K96.out.lt
            have nXY : B95 ≠ B88 := (Ne.symm N97.out)
            have nYX := nXY.symm
            go_wp2_with fail
            go_meet
            case rel => exact ⟨_, _, rfl, rfl, twoS1 K94.out K96.out nXY, twoS2 K94.out K96.out nXY, twoB Hu93.out GB95.out GB88.out⟩
          · obtain ⟨B100, hB100⟩ : ∃ n, n = u89.heap.size := ⟨_, rfl⟩
            refine op_make (v := .pointer (some ⟨B100, 0, none⟩)) (w1 := (u89.alloc (.cells #[.int .i64 0, .int .i64 0, .int .u32 0, .int .u32 0] 30))) rfl (by rfl) ?_ ?_
            · rw [hB100]
              go_simp
            obtain ⟨u98, hu98⟩ : ∃ u, u = (u89.alloc (.cells #[.int .i64 0, .int .i64 0, .int .u32 0, .int .u32 0] 30)) := ⟨_, rfl⟩
            have K99 : Hid (Blk u98 B100 #[.int .i64 0, .int .i64 0, .int .u32 0, .int .u32 0]) := Lib.hid (by rw [hu98, hB100]; exact Blk.new _ _ 30)
            have Hu98 : Hid (Below wc.heap.size wc u98) := Lib.hid (by rw [hu98]; exact Hu89.out.alloc Hu89.out.size _)
            have GB100 : Hid (wc.heap.size ≤ B100) := Lib.hid (by rw [hB100]; exact Hu89.out.size)
            rw [← hu98]
            have K101 : Hid (Blk u98 B88 #[.int .i64 0, .int .i64 0, .int .u32 0, .int .u32 0]) := Lib.hid (by rw [hu98]; exact K90.out.alloc _)
            have N102 : Hid (B88 ≠ B100) := Lib.hid (by rw [hB100]; exact Nat.ne_of_lt K90.out.lt)
            clear hu98 hB100
            refine ⟨sTwo' HS0 L1 L2 L3 Hu98.out, ?_⟩
            try simp only [Act.put, List.setIfInBounds_toArray, List.set_cons_zero, List.set_cons_succ, List.getElem_toArray, List.getElem_cons_zero, List.getElem_cons_succ]
            refine plan3_one ?_
            refine op_call (F := 23) (args := ?_) rfl (by rfl) ?_ ?_
            rotate_left
            · go_simp
              rfl
            refine (kw2 (atP P i2) a2 k2 t2 v2 o2 _ E2 HP2 F2 HW2 hw2 HS0 L1 L2 L3 Hu98.out).mono ?_
            rintro e u103 ⟨rfl, s4, hb4, hd4⟩
            have Hu103 := Lib.hid hb4
            have K104 := Lib.hid (K99.out.below hd4)
            have K105 := Lib.hid (K101.out.below hd4)
            refine ⟨_, rfl, ⟨s4, hb4⟩, ?_⟩
            clear s4 hb4 hd4
            try simp only [Act.put, List.setIfInBounds_toArray, List.set_cons_zero, List.set_cons_succ, List.getElem_toArray, List.getElem_cons_zero, List.getElem_cons_succ]
            refine plan3_stop ?_
            simp only [List.drop_succ_cons, List.drop_zero]
            have cX := K104.out.c
            have fX := K104.out.f
            have lX := K104.out.lt
            have cY := K105.out.c
            have fY := K105.out.f
            have lY := K105.out.lt
            have nXY : B100 ≠ B88 := (Ne.symm N102.out)
            have nYX := nXY.symm
            go_wp2_with fail
            go_meet
            case rel => exact ⟨_, _, rfl, rfl, twoS1 K104.out K105.out nXY, twoS2 K104.out K105.out nXY, twoB Hu103.out GB100.out GB88.out⟩
        · obtain ⟨B108, hB108⟩ : ∃ n, n = u86.heap.size := ⟨_, rfl⟩
          refine op_make (v := .pointer (some ⟨B108, 0, none⟩)) (w1 := (u86.alloc (.cells #[.int .i64 0, .int .i64 0, .int .u32 0, .int .u32 0] 30))) rfl (by rfl) ?_ ?_
          · rw [hB108]
            go_simp
          obtain ⟨u106, hu106⟩ : ∃ u, u = (u86.alloc (.cells #[.int .i64 0, .int .i64 0, .int .u32 0, .int .u32 0] 30)) := ⟨_, rfl⟩
          have K107 : Hid (Blk u106 B108 #[.int .i64 0, .int .i64 0, .int .u32 0, .int .u32 0]) := Lib.hid (by rw [hu106, hB108]; exact Blk.new _ _ 30)
          have Hu106 : Hid (Below wc.heap.size wc u106) := Lib.hid (by rw [hu106]; exact Hu86.out.alloc Hu86.out.size _)
          have GB108 : Hid (wc.heap.size ≤ B108) := Lib.hid (by rw [hB108]; exact Hu86.out.size)
          rw [← hu106]
          have K109 : Hid (Blk u106 B88 #[.int .i64 0, .int .i64 0, .int .u32 0, .int .u32 0]) := Lib.hid (by rw [hu106]; exact K87.out.alloc _)
          have N110 : Hid (B88 ≠ B108) := Lib.hid (by rw [hB108]; exact Nat.ne_of_lt K87.out.lt)
          clear hu106 hB108
          refine ⟨sTwo' HS0 L1 L2 L3 Hu106.out, ?_⟩
          try simp only [Act.put, List.setIfInBounds_toArray, List.set_cons_zero, List.set_cons_succ, List.getElem_toArray, List.getElem_cons_zero, List.getElem_cons_succ]
          refine plan3_one ?_
          refine op_call (F := 23) (args := ?_) rfl (by rfl) ?_ ?_
          rotate_left
          · go_simp
            rfl
          refine (kw1 (atP P i1) a2 k1 t1 v1 o1 _ E1 HP1 F1 HW1 hw2 HS0 L1 L2 L3 Hu106.out).mono ?_
          rintro e u111 ⟨rfl, s4, hb4, hd4⟩
          have Hu111 := Lib.hid hb4
          have K112 := Lib.hid (K107.out.below hd4)
          have K113 := Lib.hid (K109.out.below hd4)
          refine ⟨_, rfl, ⟨s4, hb4⟩, ?_⟩
          clear s4 hb4 hd4
          try simp only [Act.put, List.setIfInBounds_toArray, List.set_cons_zero, List.set_cons_succ, List.getElem_toArray, List.getElem_cons_zero, List.getElem_cons_succ]
          refine plan3_one ?_
          refine op_call (F := 23) (args := ?_) rfl (by rfl) ?_ ?_
          rotate_left
          · go_simp
            rfl
          refine (kw2 (atP P i2) a2 k2 t2 v2 o2 _ E2 HP2 F2 HW2 hw2 HS0 L1 L2 L3 Hu111.out).mono ?_
          rintro e u114 ⟨rfl, s4, hb4, hd4⟩
          have Hu114 := Lib.hid hb4
          have K115 := Lib.hid (K112.out.below hd4)
          have K116 := Lib.hid (K113.out.below hd4)
          refine ⟨_, rfl, ⟨s4, hb4⟩, ?_⟩
          clear s4 hb4 hd4
          try simp only [Act.put, List.setIfInBounds_toArray, List.set_cons_zero, List.set_cons_succ, List.getElem_toArray, List.getElem_cons_zero, List.getElem_cons_succ]
          refine plan3_stop ?_
          simp only [List.drop_succ_cons, List.drop_zero]
          have cX := K115.out.c
          have fX := K115.out.f
          have lX := K115.out.lt
          have cY := K116.out.c
          have fY := K116.out.f
          have lY := K116.out.lt
          have nXY : B108 ≠ B88 := (Ne.symm N110.out)
          have nYX := nXY.symm
          go_wp2_with fail
          go_meet
          case rel => exact ⟨_, _, rfl, rfl, twoS1 K115.out K116.out nXY, twoS2 K115.out K116.out nXY, twoB Hu114.out GB108.out GB88.out⟩
    case rest =>
      as_aux_lemma =>
        obtain ⟨X, Y, rfl, rfl, kX, kY, hbd⟩ := hcut
        have HKX := Lib.hid kX
        have HKY := Lib.hid kY
        have HBD := Lib.hid hbd
        have HK3 := Lib.hid (HK2.out.below hbd)
        have HWD : Hid (Below w.heap.size w wc) := HWC.out.trans (hbd.mono HWC.out.size)
        have HMD : Hid (Mach wc (.agg #[.slice a1 a2 a3, .slice (some ⟨gc, 0, none⟩) a5 a6, .slice a7 a8 a9]) a) := (HM3.out.below HB31.out).below hbd
        clear kX kY hbd HS0 L1 L2 L3 HP1 HP2 HK2 HM3
        have x0 : wc.cell? ⟨X, 0, none⟩ = some (.int .i64 k1) := HKX.out.c 0
        have x1 : wc.cell? ⟨X, 1, none⟩ = some (.int .i64 t1) := HKX.out.c 1
        have z0 : wc.cell? ⟨Y, 0, none⟩ = some (.int .i64 k2) := HKY.out.c 0
        have z1 : wc.cell? ⟨Y, 1, none⟩ = some (.int .i64 t2) := HKY.out.c 1
        go_upto_region 10 with fail
        go_cut [17] (fun s17 we => s17 = .bool (wrKind k1 || wrKind k2) ∧ we = wc)
        case first =>
          as_aux_lemma =>
            cases y0 : (k1 == 2) with
            | true =>
              skip
              go_wp2_with fail
              go_meet
              case rel => exact ⟨by (simp only [beq_iff_eq, beq_eq_false_iff_ne, decide_eq_true_eq, decide_eq_false_iff_not] at *; unfold wrKind; simp [*]), rfl⟩
            | false =>
              cases y1 : (k1 == 3) with
              | true =>
                skip
                go_wp2_with fail
                go_meet
                case rel => exact ⟨by (simp only [beq_iff_eq, beq_eq_false_iff_ne, decide_eq_true_eq, decide_eq_false_iff_not] at *; unfold wrKind; simp [*]), rfl⟩
              | false =>
                cases y2 : (k2 == 2) with
                | true =>
                  skip
                  go_wp2_with fail
                  go_meet
                  case rel => exact ⟨by (simp only [beq_iff_eq, beq_eq_false_iff_ne, decide_eq_true_eq, decide_eq_false_iff_not] at *; unfold wrKind; simp [*]), rfl⟩
                | false =>
                  cases y3 : (k2 == 3) with
                  | true =>
                    skip
                    go_wp2_with fail
                    go_meet
                    case rel => exact ⟨by (simp only [beq_iff_eq, beq_eq_false_iff_ne, decide_eq_true_eq, decide_eq_false_iff_not] at *; unfold wrKind; simp [*]), rfl⟩
                  | false =>
                    skip
                    go_wp2_with fail
                    go_meet
                    case rel => exact ⟨by (simp only [beq_iff_eq, beq_eq_false_iff_ne, decide_eq_true_eq, decide_eq_false_iff_not] at *; unfold wrKind; simp [*]), rfl⟩
        case rest =>
          as_aux_lemma =>
            obtain ⟨rfl, rfl⟩ := hcut
            obtain ⟨wb, hwb⟩ : ∃ wb, wb = (wrKind k1 || wrKind k2) := ⟨_, rfl⟩
            rw [← hwb]
            have HWB := Lib.hid hwb
            clear hwb
            go_upto_region 11 with fail
            go_cut [18] (fun s18 we => s18 = .bool ((memKind k1 && memKind k2) && (t1 == t2)) ∧ we = wc)
            case first =>
              as_aux_lemma =>
                cases y0 : decide (1 ≤ k1) with
                | true =>
                  cases y1 : decide (k1 ≤ 3) with
                  | true =>
                    cases y2 : decide (1 ≤ k2) with
                    | true =>
                      cases y3 : decide (k2 ≤ 3) with
                      | true =>
                        cases y4 : (t1 == t2) with
                        | true =>
                          skip
                          go_wp2_with fail
                          go_meet
                          case rel => exact ⟨by (simp only [beq_iff_eq, beq_eq_false_iff_ne, decide_eq_true_eq, decide_eq_false_iff_not] at *; unfold memKind; simp [*]), rfl⟩
                        | false =>
                          skip
                          go_wp2_with fail
                          go_meet
                          case rel => exact ⟨by (simp only [beq_iff_eq, beq_eq_false_iff_ne, decide_eq_true_eq, decide_eq_false_iff_not] at *; unfold memKind; simp [*]), rfl⟩
                      | false =>
                        skip
                        go_wp2_with fail
                        go_meet
                        case rel => exact ⟨by (simp only [beq_iff_eq, beq_eq_false_iff_ne, decide_eq_true_eq, decide_eq_false_iff_not] at *; unfold memKind; simp [*]), rfl⟩
                    | false =>
                      skip
                      go_wp2_with fail
                      go_meet
                      case rel => exact ⟨by (simp only [beq_iff_eq, beq_eq_false_iff_ne, decide_eq_true_eq, decide_eq_false_iff_not] at *; unfold memKind; simp [*]), rfl⟩
                  | false =>
                    skip
                    go_wp2_with fail
                    go_meet
                    case rel => exact ⟨by (simp only [beq_iff_eq, beq_eq_false_iff_ne, decide_eq_true_eq, decide_eq_false_iff_not] at *; unfold memKind; simp [*]), rfl⟩
                | false =>
                  skip
                  go_wp2_with fail
                  go_meet
                  case rel => exact ⟨by (simp only [beq_iff_eq, beq_eq_false_iff_ne, decide_eq_true_eq, decide_eq_false_iff_not] at *; unfold memKind; simp [*]), rfl⟩
            case rest =>
              as_aux_lemma =>
                obtain ⟨rfl, rfl⟩ := hcut
                obtain ⟨tb, htb⟩ : ∃ tb, tb = ((memKind k1 && memKind k2) && (t1 == t2)) := ⟨_, rfl⟩
                rw [← htb]
                have HTB := Lib.hid htb
                clear htb
                go_upto_region 12 with fail
                go_cut [17, 18, 142] (fun s17 s18 s142 we => s17 = .bool wb ∧ s18 = .bool tb ∧ s142 = .bool ((decide (i1 = i2) || (tb && wb)) || ((k1 == 4) && (k2 == 4))) ∧ we = wc)
                case first =>
                  as_aux_lemma =>
                    by_cases hi : i1 = i2
                    · subst hi
                      go_wp2_with fail
                      go_meet
                      case rel => exact ⟨rfl, rfl, by simp, rfl⟩
                    · have hie : ((i1 : Int) == (i2 : Int)) = false := by simp; omega
                      have hie2 : (i1 == i2) = false := by simp; omega
                      cases y0 : tb with
                      | false =>
                        cases y2 : (k1 == 4) with
                        | false =>
                          go_wp2_with fail
                          go_meet
                          case rel => exact ⟨by first | rfl | rw [y1], by first | rfl | rw [y0], by (simp [*]), rfl⟩
                        | true =>
                          cases y3 : (k2 == 4) with
                          | false =>
                            go_wp2_with fail
                            go_meet
                            case rel => exact ⟨by first | rfl | rw [y1], by first | rfl | rw [y0], by (simp [*]), rfl⟩
                          | true =>
                            go_wp2_with fail
                            go_meet
                            case rel => exact ⟨by first | rfl | rw [y1], by first | rfl | rw [y0], by (simp [*]), rfl⟩
                      | true =>
                        cases y1 : wb with
                        | true =>
                          go_wp2_with fail
                          go_meet
                          case rel => exact ⟨by first | rfl | rw [y1], by first | rfl | rw [y0], by (simp [*]), rfl⟩
                        | false =>
                          cases y2 : (k1 == 4) with
                          | false =>
                            go_wp2_with fail
                            go_meet
                            case rel => exact ⟨by first | rfl | rw [y1], by first | rfl | rw [y0], by (simp [*]), rfl⟩
                          | true =>
                            cases y3 : (k2 == 4) with
                            | false =>
                              go_wp2_with fail
                              go_meet
                              case rel => exact ⟨by first | rfl | rw [y1], by first | rfl | rw [y0], by (simp [*]), rfl⟩
                            | true =>
                              go_wp2_with fail
                              go_meet
                              case rel => exact ⟨by first | rfl | rw [y1], by first | rfl | rw [y0], by (simp [*]), rfl⟩
                case rest =>
                  as_aux_lemma =>
                    obtain ⟨rfl, rfl, rfl, rfl⟩ := hcut
                    cases hC : ((decide (i1 = i2) || (tb && wb)) || ((k1 == 4) && (k2 == 4))) with
                    | true =>
                      go_wp2
                      go_ret
                      exact ⟨rfl, HWD.out⟩
                    | false =>
                      simp only [Bool.or_eq_false_iff, decide_eq_false_iff_not] at hC
                      have hturn : stepA P (stepA P a i1) i2 = stepA P (stepA P a i2) i1 := by
                        refine step_turn hC.1.1 ?_ ?_
                        · rw [HWA1.out, HWA2.out]
                          rintro ⟨g1, g2, g3, g4⟩
                          have e1 : tb = true := by rw [HTB.out]; simp only at g1 g2 g3; rw [g1, g2, g3]; simp
                          have e2 : wb = true := by rw [HWB.out]; simp only at g4; rcases g4 with g | g <;> rw [g] <;> simp
                          have := hC.1.2
                          rw [e1, e2] at this
                          cases this
                        · rw [HWA1.out, HWA2.out]
                          rintro ⟨g1, g2⟩
                          have := hC.2
                          simp only at g1 g2
                          rw [g1, g2] at this
                          cases this
                      have HTN := Lib.hid hturn
                      clear hC hturn HTB HWB HWA1 HWA2
                      have HRR := Lib.hid (right_all HR.out)
                      have HM2 : Hid (a.mem.length * 4 ≤ 140737488355328 ∧ a.cores.length * 48 ≤ 140737488355328 ∧ (a.outs.length + 2) * 16 ≤ 140737488355328) := ⟨by rw [HG.out.m]; omega, by rw [HG.out.c, HL.out]; omega, by have := HG.out.o; rw [HLL.out] at this; omega⟩
                      have i1P : i1 < P.length := by rw [HL.out]; exact hi1
                      have i2P : i2 < P.length := by rw [HL.out]; exact hi2
                      have HI1 := Lib.hid i1P
                      have HI2 := Lib.hid i2P
                      have cA := HK3.out.c
                      have HPW : Hid (Prgs wc (some ⟨b, off, none⟩) P) := HP.out.below HWD.out
                      clear x0 x1 z0 z1 i1P i2P
                      go_wp2_with fail
                      have hst := Step_res (some ⟨b, off, none⟩) cap (.agg #[.slice a1 a2 a3, .slice (some ⟨gc, 0, none⟩) a5 a6, .slice a7 a8 a9]) i1 P a wc HPW.out HMD.out HM2.out.1 HM2.out.2.1 (by have := HM2.out.2.2; omega) (fun _ => HG.out.f)
                      rw [HL.out, (stepRes_ok HR.out HI1.out).1, (stepRes_ok HR.out HI1.out).2] at hst
                      refine hst.mono ?_
                      clear hst
                      rintro e w4 ⟨b1, b2, b3, b4, b5, b6, b7, b8, b9, rfl, ho4, hb4⟩
                      have HB4 := Lib.hid hb4
                      have HM4 := Lib.hid ho4.mach
                      clear hb4 ho4 cA
                      go_wp2_with fail
                      have HB5 : Hid (Below wc.heap.size wc (w4.alloc (.cells #[.slice b1 b2 b3, .slice b4 b5 b6, .slice b7 b8 b9] 27))) := HB4.out.alloc HB4.out.size _
                      have HB45 : Hid (Below w4.heap.size w4 (w4.alloc (.cells #[.slice b1 b2 b3, .slice b4 b5 b6, .slice b7 b8 b9] 27))) := (Below.refl _ _).alloc (Nat.le_refl _) _
                      have hr1 := stepA_right HR.out HPF.out HI1.out
                      have hst := Step_res (some ⟨b, off, none⟩) cap (.agg #[.slice b1 b2 b3, .slice b4 b5 b6, .slice b7 b8 b9]) i2 P (stepA P a i1) (w4.alloc (.cells #[.slice b1 b2 b3, .slice b4 b5 b6, .slice b7 b8 b9] 27)) (HPW.out.below HB5.out) (HM4.out.below HB45.out) (by rw [stepA_mem]; exact HM2.out.1) (by rw [stepA_cores]; exact HM2.out.2.1) (by have := HM2.out.2.2; have := stepA_outs P a i1; omega) (fun _ => stepA_fits HG.out.f HPF.out HI1.out HG.out.c)
                      rw [HL.out, (stepRes_ok hr1 HI2.out).1, (stepRes_ok hr1 HI2.out).2] at hst
                      refine hst.mono ?_
                      clear hst hr1
                      rintro e w5 ⟨d1, d2, d3, d4, d5, d6, d7, d8, d9, rfl, ho5, hb5⟩
                      have HO5 := Lib.hid ho5
                      have HK5 : Hid (Blk w5 w4.heap.size #[.slice b1 b2 b3, .slice b4 b5 b6, .slice b7 b8 b9]) := (Blk.new w4 _ 27).below hb5
                      have HB6 : Hid (Below wc.heap.size wc w5) := HB5.out.trans (hb5.mono HB5.out.size)
                      clear ho5 hb5 HB5 HB45 HM4
                      have cB := HK5.out.c
                      have fB := HK5.out.f
                      have lB := HK5.out.lt
                      have cA := (HK3.out.below HB6.out).c
                      have nA : w4.heap.size ≠ w3.heap.size := by have := HB4.out.size; have := HK3.out.lt; omega
                      go_upto_region 16 with fail
                      obtain ⟨w6, hw6⟩ : ∃ w6, w6 = ((w5.setCell ⟨w4.heap.size, 0, none⟩ (.slice d1 d2 d3)).setCell ⟨w4.heap.size, 1, none⟩ (.slice d4 d5 d6)).setCell ⟨w4.heap.size, 2, none⟩ (.slice d7 d8 d9) := ⟨_, rfl⟩
                      have HK6 : Hid (Blk w6 w4.heap.size #[.slice d1 d2 d3, .slice d4 d5 d6, .slice d7 d8 d9]) := by rw [hw6]; exact store3 HK5.out
                      have HB7 : Hid (Below wc.heap.size wc w6) := by rw [hw6]; exact below_set3 HB6.out HB4.out.size _ _ _
                      have HM6 : Hid (Mach w6 (.agg #[.slice d1 d2 d3, .slice d4 d5 d6, .slice d7 d8 d9]) (stepA P (stepA P a i1) i2)) := by
                        rw [hw6]
                        refine (own3_set HO5.out (fun h => ?_) _ _ _).mach
                        have := (HO5.out.rows _ h).1
                        rw [World.size_alloc] at this
                        omega
                      rw [← hw6]
                      clear hw6 cB fB lB cA nA HK5 HB6 HO5
                      have cA := (HK3.out.below HB7.out).c
                      go_wp2_with fail
                      have hst := Step_res (some ⟨b, off, none⟩) cap (.agg #[.slice a1 a2 a3, .slice (some ⟨gc, 0, none⟩) a5 a6, .slice a7 a8 a9]) i2 P a w6 (HPW.out.below HB7.out) (HMD.out.below HB7.out) HM2.out.1 HM2.out.2.1 (by have := HM2.out.2.2; omega) (fun _ => HG.out.f)
                      rw [HL.out, (stepRes_ok HR.out HI2.out).1, (stepRes_ok HR.out HI2.out).2] at hst
                      refine hst.mono ?_
                      clear hst
                      rintro e w7 ⟨e1, e2, e3, e4, e5, e6, e7, e8, e9, rfl, ho7, hb7⟩
                      have HB67 := Lib.hid hb7
                      have HM7 := Lib.hid ho7.mach
                      clear hb7 ho7 cA
                      go_wp2_with fail
                      have HB8 : Hid (Below w6.heap.size w6 (w7.alloc (.cells #[.slice e1 e2 e3, .slice e4 e5 e6, .slice e7 e8 e9] 27))) := HB67.out.alloc HB67.out.size _
                      have HB78 : Hid (Below w7.heap.size w7 (w7.alloc (.cells #[.slice e1 e2 e3, .slice e4 e5 e6, .slice e7 e8 e9] 27))) := (Below.refl _ _).alloc (Nat.le_refl _) _
                      have hr2 := stepA_right HR.out HPF.out HI2.out
                      have hst := Step_res (some ⟨b, off, none⟩) cap (.agg #[.slice e1 e2 e3, .slice e4 e5 e6, .slice e7 e8 e9]) i1 P (stepA P a i2) (w7.alloc (.cells #[.slice e1 e2 e3, .slice e4 e5 e6, .slice e7 e8 e9] 27)) ((HPW.out.below HB7.out).below HB8.out) (HM7.out.below HB78.out) (by rw [stepA_mem]; exact HM2.out.1) (by rw [stepA_cores]; exact HM2.out.2.1) (by have := HM2.out.2.2; have := stepA_outs P a i2; omega) (fun _ => stepA_fits HG.out.f HPF.out HI2.out HG.out.c)
                      rw [HL.out, (stepRes_ok hr2 HI1.out).1, (stepRes_ok hr2 HI1.out).2, ← HTN.out] at hst
                      refine hst.mono ?_
                      clear hst hr2
                      rintro e w9 ⟨g1, g2, g3, g4, g5, g6, g7, g8, g9, rfl, ho9, hb9⟩
                      have HO9 := Lib.hid ho9
                      have HK9 : Hid (Blk w9 w7.heap.size #[.slice e1 e2 e3, .slice e4 e5 e6, .slice e7 e8 e9]) := (Blk.new w7 _ 27).below hb9
                      have HB9 : Hid (Below w6.heap.size w6 w9) := HB8.out.trans (hb9.mono HB8.out.size)
                      clear ho9 hb9 HB8 HB78 HM7
                      have cB := HK9.out.c
                      have fB := HK9.out.f
                      have lB := HK9.out.lt
                      go_upto_region 18 with fail
                      obtain ⟨u, hu⟩ : ∃ u, u = ((w9.setCell ⟨w7.heap.size, 0, none⟩ (.slice g1 g2 g3)).setCell ⟨w7.heap.size, 1, none⟩ (.slice g4 g5 g6)).setCell ⟨w7.heap.size, 2, none⟩ (.slice g7 g8 g9) := ⟨_, rfl⟩
                      have HKU : Hid (Blk u w7.heap.size #[.slice g1 g2 g3, .slice g4 g5 g6, .slice g7 g8 g9]) := by rw [hu]; exact store3 HK9.out
                      have HBU : Hid (Below w6.heap.size w6 u) := by rw [hu]; exact below_set3 HB9.out HB67.out.size _ _ _
                      have HMU : Hid (Mach u (.agg #[.slice g1 g2 g3, .slice g4 g5 g6, .slice g7 g8 g9]) (stepA P (stepA P a i1) i2)) := by
                        rw [hu]
                        refine (own3_set HO9.out (fun h => ?_) _ _ _).mach
                        have := (HO9.out.rows _ h).1
                        rw [World.size_alloc] at this
                        omega
                      rw [← hu]
                      clear hu cB fB lB HK9 HB9 HO9
                      have cB := HKU.out.c
                      have cC := (HK6.out.below HBU.out).c
                      go_wp2_with fail
                      refine (same_any _ _ (stepA P (stepA P a i1) i2) u (by rw [stepA_mem, stepA_mem]; have := HM2.out.1; unfold maxLen; omega) (by rw [stepA_cores, stepA_cores]; have := HM2.out.2.1; unfold maxLen; omega) (by have := stepA_outs P (stepA P a i1) i2; have := stepA_outs P a i1; have := HM2.out.2.2; unfold maxLen; omega) (HM6.out.below HBU.out) HMU.out).mono ?_
                      rintro e w10 ⟨rfl, hb10⟩
                      have HB10 : Hid (Below w.heap.size w w10) := HWD.out.trans ((HB7.out.mono HWD.out.size).trans ((HBU.out.mono (Nat.le_trans HWD.out.size HB7.out.size)).trans (hb10.mono (Nat.le_trans HWD.out.size (Nat.le_trans HB7.out.size HBU.out.size)))))
                      clear hb10 cB cC
                      go_wp2
                      go_ret
                      exact ⟨rfl, HB10.out⟩
end Go.Proofs.Ytekiialhljfglaa
/- AtomTurns: the walk where there is too much, or no machine; and whole. -/
namespace Go.Proofs.Ytekiialhljfglaa
set_option linter.unusedVariables false
open Go.ChangeShapes Go.WideShapes Go.ChangeAt Go.RowKit

set_option maxRecDepth 1000000 in
set_option maxHeartbeats 1000000 in
theorem turns_out (p pp : Option Addr) (np cap len pcap : Nat) (wd x y : Int) (P : List (List I5)) (w : World) (hl : P.length = np) (hp : Prgs w p P) (h : shortB P = false ∨ 100 < len) :
    Calls Try.prog 6 #[.slice p np cap, .int .u8 wd, .slice pp len pcap, .int .u8 x, .int .u8 y] w fun e w' => e = .returned (.bool true) ∧ Below w.heap.size w w' := by
  have HL := Lib.hid hl
  have HP := Lib.hid hp
  have H := Lib.hid h
  clear hl hp h
  cases hs : shortB P with
  | false =>
    have HS := Lib.hid hs
    clear hs
    go_enter Try.func6, Try.ntmps6
    go_wp2_with fail
    refine (awake_any _).mono ?_
    rintro e w1 ⟨rfl, hb1⟩
    have HB1 := Lib.hid hb1
    clear hb1
    go_wp2_with fail
    have hsh := short_any p cap P w1 (HP.out.below HB1.out)
    rw [HL.out, HS.out] at hsh
    refine hsh.mono ?_
    clear hsh
    rintro e w2 ⟨rfl, rfl⟩
    go_wp2
    go_ret
    exact ⟨rfl, HB1.out⟩
  | true =>
    have d1 : decide (100 < (len : Int)) = true := decide_eq_true (by
      rcases H.out with h | h
      · rw [hs] at h; cases h
      · omega)
    have HS := Lib.hid hs
    clear hs
    go_enter Try.func6, Try.ntmps6
    go_wp2_with fail
    refine (awake_any _).mono ?_
    rintro e w1 ⟨rfl, hb1⟩
    have HB1 := Lib.hid hb1
    clear hb1
    go_wp2_with fail
    have hsh := short_any p cap P w1 (HP.out.below HB1.out)
    rw [HL.out, HS.out] at hsh
    refine hsh.mono ?_
    clear hsh
    rintro e w2 ⟨rfl, rfl⟩
    go_wp2
    go_ret
    exact ⟨rfl, HB1.out⟩

set_option maxRecDepth 1000000 in
set_option maxHeartbeats 1000000 in
theorem turns_no (p pp : Option Addr) (np cap len pcap : Nat) (wd x y : Nat) (P : List (List I5)) (w : World) (hl : P.length = np) (hp : Prgs w p P) (hs : shortB P = true) (hlen : len ≤ 100) (hw : wd ≤ 255) (hx : x ≤ 255) (hy : y ≤ 255) (h : newOk P ((wd % 64 + 1 : Nat) : Int) = false) :
    Calls Try.prog 6 #[.slice p np cap, .int .u8 (wd : Int), .slice pp len pcap, .int .u8 (x : Int), .int .u8 (y : Int)] w fun e w' => e = .returned (.bool true) ∧ Below w.heap.size w w' := by
  have HL := Lib.hid hl
  have HP := Lib.hid hp
  have HS := Lib.hid hs
  have HN := Lib.hid h
  have d1 : decide (100 < (len : Int)) = false := decide_eq_false (by omega)
  clear hl hp hs h
  go_enter Try.func6, Try.ntmps6
  go_wp2_with fail
  refine (awake_any _).mono ?_
  rintro e w1 ⟨rfl, hb1⟩
  have HB1 := Lib.hid hb1
  clear hb1
  go_wp2_with fail
  have hsh := short_any p cap P w1 (HP.out.below HB1.out)
  rw [HL.out, HS.out] at hsh
  refine hsh.mono ?_
  clear hsh
  rintro e w2 ⟨rfl, rfl⟩
  go_wp2_with fail
  obtain ⟨words, hwd⟩ : ∃ words : Nat, words = wd % 64 + 1 := ⟨_, rfl⟩
  have ewd : (wd : Int) % 64 + 1 = (words : Int) := by rw [hwd]; omega
  have HNW : Hid (newOk P (words : Int) = false) := by rw [hwd]; exact HN.out
  clear hwd HN
  rw [ewd]
  refine (run_no p pp np cap len pcap _ P _ HL.out (HP.out.below HB1.out) HNW.out).mono ?_
  rintro e w3 ⟨rfl, hb3⟩
  have HB3 : Hid (Below w.heap.size w w3) := HB1.out.trans (hb3.mono HB1.out.size)
  clear hb3
  go_wp2
  go_ret
  exact ⟨rfl, HB3.out.alloc HB3.out.size _⟩

theorem turns_walk (p pp : Option Addr) (cap pcap : Nat) (wd x y : Int) (P : List (List I5)) (l : List Int) (w : World) (hp : Prgs w p P) (hpp : Sl w pp l.length (intC l)) (hw : 0 ≤ wd ∧ wd ≤ 255) (hx : 0 ≤ x ∧ x ≤ 255) (hy : 0 ≤ y ∧ y ≤ 255) :
    Calls Try.prog 6 #[.slice p P.length cap, .int .u8 wd, .slice pp l.length pcap, .int .u8 x, .int .u8 y] w fun e w' => e = .returned (.bool true) ∧ Below w.heap.size w w' := by
  by_cases h : shortB P = false ∨ 100 < l.length
  · exact turns_out p pp _ cap _ pcap wd x y P w rfl hp h
  · have hs : shortB P = true := by
      cases hh : shortB P with
      | true => rfl
      | false => exact (h (.inl hh)).elim
    have hl : l.length ≤ 100 := by omega
    obtain ⟨wd, rfl⟩ := Int.eq_ofNat_of_zero_le hw.1
    obtain ⟨x, rfl⟩ := Int.eq_ofNat_of_zero_le hx.1
    obtain ⟨y, rfl⟩ := Int.eq_ofNat_of_zero_le hy.1
    cases hn : newOk P ((wd % 64 + 1 : Nat) : Int) with
    | false => exact turns_no p pp _ cap _ pcap wd x y P w rfl hp hs hl (by omega) (by omega) (by omega) hn
    | true => exact turns_main p pp _ cap _ pcap wd x y P l w rfl hp hs hl (by omega) (by omega) (by omega) hn rfl hpp
end Go.Proofs.Ytekiialhljfglaa
namespace Go.Proofs.Ytekiialhljfglaa.atomTurns
open Go.ChangeShapes Go.WideShapes Go.ChangeAt Go.RowKit
open Go.ChangeMaps (open_string shut_string)
set_option linter.unusedVariables false

theorem own : ownKnob Try.prog.godebug = none := by kernel_rfl
theorem laidOut : laidOutB Try.prog = true := by kernel_rfl

set_option maxRecDepth 100000 in
theorem lifted (os : Os) (started : os.Started) (H : Type) (enc : TypeId × Value → H) :
    ReturnsInHanded {} Try.checked os 6 .any (Rows.atomTurnsSpec.pre6 enc Try.prog Try.f6 Rows.atomTurnsRow.domain false) (Rows.atomTurnsSpec.post enc Try.prog Try.f6 false true false false) := by
  refine returnsInHanded_of_change (C := Try.checked) own started (by kernel_rfl) Try.func6
    (ChangeSpec.witness6 (enc := enc) (C := Try.checked) false ⟨#[], #[.slice none 0 0, .int .u8 0, .slice none 0 0, .int .u8 0, .int .u8 0], []⟩ 8 (by kernel_rfl) (by kernel_rfl) (by kernel_rfl) (by kernel_rfl)) ?_
  intro W base args ds gs before hval0 hW hcnd _
  have hval : ∀ (j : Nat) t v, Try.f6.params[j]? = some t → args[j]? = some v → Value.okWide Try.prog W .any base t v := hval0
  have hW' := hW
  obtain ⟨p, q, hA0, hV, rfl, hfz, hnd⟩ := hW
  have hA : DataW.TrodAll enc Try.prog W 0 (fun _ => true) true Try.f6.params.toList args.toList ds p := hA0
  rw [Try.params6] at hA hval
  obtain ⟨v0, vs0, d0, ds0, p0, q0, hargs, rfl, rfl, h0, r0⟩ := trodAll_cons hA
  obtain ⟨v1, vs1, d1, ds1, p1, q1, rfl, rfl, rfl, h1, r1⟩ := trodAll_cons r0
  obtain ⟨v2, vs2, d2, ds2, p2, q2, rfl, rfl, rfl, h2, r2⟩ := trodAll_cons r1
  obtain ⟨v3, vs3, d3, ds3, p3, q3, rfl, rfl, rfl, h3, r3⟩ := trodAll_cons r2
  obtain ⟨v4, vs4, d4, ds4, p4, q4, rfl, rfl, rfl, h4, r4⟩ := trodAll_cons r3
  obtain ⟨rfl, rfl, rfl⟩ := trodAll_nil r4
  obtain rfl : args = #[v0, v1, v2, v3, v4] := by cases args; simp_all
  obtain ⟨rfl, rfl⟩ := trodVars_none hV
  have k0 := h0
  have lt0 : ∀ x ∈ p0, x.block < W.heap.size := by obtain ⟨m, hm⟩ := k0; exact DataW.trod_lt m _ _ _ hm
  have k1 := h1
  have lt1 : ∀ x ∈ p1, x.block < W.heap.size := by obtain ⟨m, hm⟩ := k1; exact DataW.trod_lt m _ _ _ hm
  have k2 := h2
  have lt2 : ∀ x ∈ p2, x.block < W.heap.size := by obtain ⟨m, hm⟩ := k2; exact DataW.trod_lt m _ _ _ hm
  have k3 := h3
  have lt3 : ∀ x ∈ p3, x.block < W.heap.size := by obtain ⟨m, hm⟩ := k3; exact DataW.trod_lt m _ _ _ hm
  have k4 := h4
  have lt4 : ∀ x ∈ p4, x.block < W.heap.size := by obtain ⟨m, hm⟩ := k4; exact DataW.trod_lt m _ _ _ hm
  obtain ⟨s0, len0, cap0, rfl⟩ := okWide_slice Try.underlying22 (hval 0 22 v0 rfl rfl)
  obtain ⟨l0, hl0, _, _, hp0⟩ : ∃ l : List (List I5), l.length = len0 ∧ len0 ≤ maxLen ∧ (∀ i, i < len0 → (atP l i).length ≤ maxLen) ∧ Prgs W s0 l := by
    obtain ⟨fuel, hf⟩ := h0
    exact prgs_of_cells hf
  subst hl0
  obtain ⟨a1, rfl, rfl, rfl, w1⟩ := open_int Try.underlying5 (hval 1 5 v1 rfl rfl) h1
  obtain ⟨s2, len2, cap2, rfl⟩ := okWide_slice Try.underlying48 (hval 2 48 v2 rfl rfl)
  obtain ⟨l2, hl2, _, hp2⟩ : ∃ l : List Int, l.length = len2 ∧ len2 ≤ maxLen ∧ Sl W s2 len2 (intC l) := by
    obtain ⟨fuel, hf⟩ := h2
    exact ints_of_cells hf
  subst hl2
  obtain ⟨a3, rfl, rfl, rfl, w3⟩ := open_int Try.underlying5 (hval 3 5 v3 rfl rfl) h3
  obtain ⟨a4, rfl, rfl, rfl, w4⟩ := open_int Try.underlying5 (hval 4 5 v4 rfl rfl) h4
  have b1 := bounds_u8 w1
  have b3 := bounds_u8 w3
  have b4 := bounds_u8 w4
  clear hA0 hval0
  refine (turns_walk s0 s2 cap0 cap2 a1 a3 a4 l0 l2 W hp0 hp2 b1 b3 b4).mono fun e W' ⟨he, bel⟩ => ?_
  subst he
  exact ⟨_, rfl, _, _, _, [], _, [], hW', trodAll_mk1 (shut_bool Try.underlying4 _), (trodAll_cons_mk (Below.trod laidOut (by kernel_rfl) (of_decide_eq_true (by kernel_rfl)) k0 bel lt0) (trodAll_cons_mk (Below.trod laidOut (by kernel_rfl) (of_decide_eq_true (by kernel_rfl)) k1 bel lt1) (trodAll_cons_mk (Below.trod laidOut (by kernel_rfl) (of_decide_eq_true (by kernel_rfl)) k2 bel lt2) (trodAll_cons_mk (Below.trod laidOut (by kernel_rfl) (of_decide_eq_true (by kernel_rfl)) k3 bel lt3) (trodAll_cons_mk (Below.trod laidOut (by kernel_rfl) (of_decide_eq_true (by kernel_rfl)) k4 bel lt4) trodAll_mk0))))), rfl, bel.frame _, fun h => by cases h⟩

theorem over : Rows.atomTurnsRow.holds Try.pinned (OpenSpec.ofChange Rows.atomTurnsSpec) :=
  OpenClaim.holds_of_wide 6 Try.f6 rfl rfl rfl rfl rfl rfl rfl ⟨rfl, rfl, rfl, rfl, rfl⟩ rfl rfl rfl rfl rfl (by kernel_rfl) Try.func6 (by kernel_rfl)
    (of_decide_eq_true (by kernel_rfl)) (by unfold Func.isWrapper; first | (rw [if_pos (by decide +kernel)]; kernel_rfl) | (rw [if_neg (by decide +kernel)]; exact ⟨rfl, rfl⟩))
    (fun os started H enc _ => lifted os started H enc)

/-- The statement. -/
theorem proved : Rows.AtomTurnsSaid := over
#print axioms proved
end Go.Proofs.Ytekiialhljfglaa.atomTurns
