/- For all programs, any number of words and any picks the statement AtomRuns answers true and leaves its arguments as they were; no condition. -/
import Derived.Test.YtekiialhljfglaaZl
import Derived.WalkKit
import Derived.ProofKit
import Derived.OpenShut
import Derived.ShutString
import Derived.ChangeOld
import Derived.Below
/- AtomRuns: a run of any picks is the document's, step by step: the walk of the statement's function. -/
namespace Go.Proofs.Ytekiialhljfglaa
set_option linter.unusedVariables false
open Go.ChangeShapes Go.WideShapes Go.ChangeAt Go.RowKit

/-- A machine's three lists, as they are handed about. -/
theorem Mach.form {w : World} {v : Value} {a : Atm} (h : Mach w v a) : ∃ pm cm pc cc po co, v = .agg #[.slice pm a.mem.length cm, .slice pc a.cores.length cc, .slice po a.outs.length co] := by
  obtain ⟨pm, cm, pc, cc, po, co, e, _⟩ := h
  exact ⟨pm, cm, pc, cc, po, co, e⟩

set_option maxHeartbeats 1000000 in
theorem runs_out (p pp : Option Addr) (np cap len pcap : Nat) (words : Int) (P : List (List I5)) (w : World) (hl : P.length = np) (hp : Prgs w p P) (h : shortB P = false ∨ 300 < len) :
    Calls Try.prog 4 #[.slice p np cap, .int .i64 words, .slice pp len pcap] w fun e w' => e = .returned (.bool true) ∧ Below w.heap.size w w' := by
  have HL := Lib.hid hl
  have HP := Lib.hid hp
  have H := Lib.hid h
  clear hl hp h
  cases hs : shortB P with
  | false =>
    have HS := Lib.hid hs
    clear hs
    go_enter Try.func4, Try.ntmps4
    go_wp2_with fail
    refine (awake_any _).mono ?_
    rintro e w1 ⟨rfl, hb1⟩
    have HB1 := Lib.hid hb1
    clear hb1
    go_wp2_with fail
    have hsh := short_any p cap P w1 (HP.out.below HB1.out)
    rw [HL.out, HS.out] at hsh
    refine hsh.mono ?_
    clear hsh
    rintro e w2 ⟨rfl, rfl⟩
    go_wp2
    go_ret
    exact ⟨rfl, HB1.out⟩
  | true =>
    have d1 : decide (300 < (len : Int)) = true := decide_eq_true (by
      rcases H.out with h | h
      · rw [hs] at h; cases h
      · omega)
    have HS := Lib.hid hs
    clear hs
    go_enter Try.func4, Try.ntmps4
    go_wp2_with fail
    refine (awake_any _).mono ?_
    rintro e w1 ⟨rfl, hb1⟩
    have HB1 := Lib.hid hb1
    clear hb1
    go_wp2_with fail
    have hsh := short_any p cap P w1 (HP.out.below HB1.out)
    rw [HL.out, HS.out] at hsh
    refine hsh.mono ?_
    clear hsh
    rintro e w2 ⟨rfl, rfl⟩
    go_wp2
    go_ret
    exact ⟨rfl, HB1.out⟩

set_option maxHeartbeats 1000000 in
theorem runs_no (p pp : Option Addr) (np cap len pcap : Nat) (words : Int) (P : List (List I5)) (w : World) (hl : P.length = np) (hp : Prgs w p P) (hs : shortB P = true) (hlen : len ≤ 300) (h : newOk P words = false) :
    Calls Try.prog 4 #[.slice p np cap, .int .i64 words, .slice pp len pcap] w fun e w' => e = .returned (.bool true) ∧ Below w.heap.size w w' := by
  have HL := Lib.hid hl
  have HP := Lib.hid hp
  have HN := Lib.hid h
  have HS := Lib.hid hs
  have d1 : decide (300 < (len : Int)) = false := decide_eq_false (by omega)
  clear hl hp h hs
  go_enter Try.func4, Try.ntmps4
  go_wp2_with fail
  refine (awake_any _).mono ?_
  rintro e w1 ⟨rfl, hb1⟩
  have HB1 := Lib.hid hb1
  clear hb1
  go_wp2_with fail
  have hsh := short_any p cap P w1 (HP.out.below HB1.out)
  rw [HL.out, HS.out] at hsh
  refine hsh.mono ?_
  clear hsh
  rintro e w2 ⟨rfl, rfl⟩
  go_wp2_with fail
  refine (run_no p pp np cap len pcap words P _ HL.out (HP.out.below HB1.out) HN.out).mono ?_
  rintro e w3 ⟨rfl, hb3⟩
  have HB3 : Hid (Below w.heap.size w w3) := HB1.out.trans (hb3.mono HB1.out.size)
  clear hb3
  go_wp2_with fail
  have HB4 : Hid (Below w.heap.size w (w3.alloc (.cells #[.slice none 0 0, .slice none 0 0, .slice none 0 0] 27))) := HB3.out.alloc HB3.out.size _
  refine (newR_no p np cap words P _ HL.out (short_few HS.out) (HP.out.below HB4.out) (newOk_not HN.out)).mono ?_
  rintro e w5 ⟨rfl, hb5⟩
  have k5 : Hid (Blk w5 w3.heap.size #[.slice none 0 0, .slice none 0 0, .slice none 0 0]) := Blk.track1 hb5
  have HB5 : Hid (Below w.heap.size w w5) := HB4.out.trans (hb5.mono HB4.out.size)
  clear hb5
  have c := k5.out.c
  have lt := k5.out.lt
  go_wp2_with fail
  have HB6 : Hid (Below w.heap.size w (w5.alloc (.cells #[.slice none 0 0, .slice none 0 0, .slice none 0 0] 27))) := HB5.out.alloc HB5.out.size _
  refine (same_any _ _ nilA _ (by decide) (by decide) (by decide) (Mach.nil _) (Mach.nil _)).mono ?_
  rintro e w7 ⟨rfl, hb7⟩
  have HB7 : Hid (Below w.heap.size w w7) := HB6.out.trans (hb7.mono HB6.out.size)
  clear hb7 c lt
  go_wp2
  go_ret
  exact ⟨rfl, HB7.out⟩

theorem OwnM.machR {N : Nat → Prop} {w : World} {base : Nat} {vm vc vo : Value} {a : Atm} (h : OwnM w base vm vc vo a) (hN : ∀ b, base ≤ b → b < w.heap.size → N b) : MachN N w (.agg #[vm, vc, vo]) a := by
  have hr := h.rows
  obtain ⟨pm, cm, e1, h1⟩ := Sl.own h.m
  obtain ⟨pc, cc, e2, h2⟩ := Sl.own h.c
  obtain ⟨po, co, e3, h3⟩ := Sl.own h.o
  subst e1 e2 e3
  refine ⟨pm, cm, pc, cc, po, co, rfl, ⟨h1, h2, h3⟩, fun _ b o e => ?_, fun _ b o e => ?_, fun _ b o e => ?_⟩
  · have := hr b (.inl (by rw [e]; rfl)); exact hN b this.1 this.2
  · have := hr b (.inr (.inl (by rw [e]; rfl))); exact hN b this.1 this.2
  · have := hr b (.inr (.inr (by rw [e]; rfl))); exact hN b this.1 this.2
theorem MachN.form {N : Nat → Prop} {w : World} {v : Value} {a : Atm} (h : MachN N w v a) : ∃ pm lm cm pc lc cc po lo co, v = .agg #[.slice pm lm cm, .slice pc lc cc, .slice po lo co] := by
  obtain ⟨pm, cm, pc, cc, po, co, e, _⟩ := h
  exact ⟨pm, _, cm, pc, _, cc, po, _, co, e⟩
theorem MachN.imp {N M : Nat → Prop} {w : World} {v : Value} {a : Atm} (h : MachN N w v a) (hN : ∀ b, N b → M b) : MachN M w v a := by
  obtain ⟨pm, cm, pc, cc, po, co, e, hs, h1, h2, h3⟩ := h
  exact ⟨pm, cm, pc, cc, po, co, e, hs, fun h0 b o e => hN b (h1 h0 b o e), fun h0 b o e => hN b (h2 h0 b o e), fun h0 b o e => hN b (h3 h0 b o e)⟩
theorem kstepR (N : Nat → Prop) (p : Option Addr) (np cap : Nat) (P : List (List I5)) (u0 u1 u2 : Value) (a : Atm) (n words : Nat) (b i off B k : Nat) (x : Int) (W1 W : World) (hN : Hid (∀ b, W1.heap.size ≤ b → N b)) (hl : Hid (P.length = np)) (hp : Hid (Prgs W1 p P)) (hn : n < np) (hu : Hid (MachN N W1 (.agg #[u0, u1, u2]) a)) (hg : Hid (Good P words k a)) (hk : k ≤ 300) (h64 : words ≤ 64) (h6 : Hid (P.length ≤ 6))
    (h1 : Hid (Blk W1 B #[u0, u1, u2])) (h2 : Hid (W1.cell? ⟨b, off + i, none⟩ = some (.int .i64 x))) (l2 : Hid (b < W1.heap.size)) (hb : Below W1.heap.size W1 W) :
    Calls Try.prog 20 #[.slice p np cap, .agg #[u0, u1, u2], .int .i64 n] W fun e w' => ∃ pm lm cm pc lc cc po lo co, e = .returned (.agg #[.slice pm lm cm, .slice pc lc cc, .slice po lo co]) ∧ ((∀ j, w'.cell? ⟨B, j, none⟩ = (#[u0, u1, u2] : Array Value)[j]?) ∧ w'.cell? ⟨b, off + i, none⟩ = some (.int .i64 x)) ∧ MachN N w' (.agg #[.slice pm lm cm, .slice pc lc cc, .slice po lo co]) (stepA P a n) ∧ Below W1.heap.size W1 w' := by
  have hh := stepR_anyN N p cap P (.agg #[u0, u1, u2]) a n W (fun b hbb => hN.out b (Nat.le_trans hb.size hbb)) (hp.out.below hb) (by rw [hl.out]; exact hn) (hu.out.below hb) hg.out.c hg.out.f (by rw [hg.out.m]; exact h64) h6.out (by have := hg.out.o; omega)
  rw [hl.out] at hh
  refine hh.mono fun e w' ⟨u', e1, hm, hb'⟩ => ?_
  have hb2 := hb.trans (hb'.mono hb.size)
  obtain ⟨pm, lm, cm, pc, lc, cc, po, lo, co, rfl⟩ := hm.form
  exact ⟨_, _, _, _, _, _, _, _, _, e1, ⟨(h1.out.below hb2).c, (hb2.cell (p := ⟨b, off + i, none⟩) l2.out).trans h2.out⟩, hm, hb2⟩

set_option maxHeartbeats 2000000 in
theorem runs_main (p pp : Option Addr) (np cap len pcap words : Nat) (P : List (List I5)) (l : List Int) (w : World) (hl : P.length = np) (hp : Prgs w p P) (hs : shortB P = true) (hlen : len ≤ 300) (h : newOk P words = true) (hll : l.length = len) (hpp : Sl w pp len (intC l)) :
    Calls Try.prog 4 #[.slice p np cap, .int .i64 words, .slice pp len pcap] w fun e w' => e = .returned (.bool true) ∧ Below w.heap.size w w' := by
  have HL := Lib.hid hl
  have HP := Lib.hid hp
  have HN := Lib.hid h
  have HS := Lib.hid hs
  have HLL := Lib.hid hll
  have HPP := Lib.hid hpp
  have HPF := Lib.hid (prgs_fits hp)
  have d1 : decide (300 < (len : Int)) = false := decide_eq_false (by omega)
  have hno := newOk_has h
  have hw1 : 1 ≤ words := by omega
  have hw2 : words ≤ 64 := by omega
  have HA := Lib.hid hno.2.2
  have hal := all_len hno.2.2
  rw [hl] at hal
  clear hl hp h hs hll hpp hno
  go_enter Try.func4, Try.ntmps4
  go_wp2_with fail
  refine (awake_any _).mono ?_
  rintro e w1 ⟨rfl, hb1⟩
  have HB1 := Lib.hid hb1
  clear hb1
  go_wp2_with fail
  have hsh := short_any p cap P w1 (HP.out.below HB1.out)
  rw [HL.out, HS.out] at hsh
  refine hsh.mono ?_
  clear hsh
  rintro e w2 ⟨rfl, rfl⟩
  go_wp2_with fail
  refine (run_yes p pp np cap len pcap words P l _ HL.out (HP.out.below HB1.out) HN.out HLL.out (by omega) (HPP.out.below HB1.out)).mono ?_
  rintro e w3 ⟨vm, vc, vo, rfl, hown, hb3⟩
  have HM3 : Hid (MachN (fun b => b < w3.heap.size) w3 (.agg #[vm, vc, vo]) (runA P words l)) := hown.machR (fun b _ h => h)
  have HB3 : Hid (Below w.heap.size w w3) := HB1.out.trans (hb3.mono HB1.out.size)
  obtain ⟨e1, ⟨cm, e2⟩, e3⟩ : True ∧ (∃ x : Nat, True) ∧ True := ⟨trivial, ⟨0, trivial⟩, trivial⟩
  obtain ⟨q1, n1, k1, rfl⟩ := form_of hown.m
  obtain ⟨q2, n2, k2, rfl⟩ := form_of hown.c
  obtain ⟨q3, n3, k3, rfl⟩ := form_of hown.o
  clear hb3 hown e1 e2 e3
  go_wp2_with fail
  have HK4 : Hid (Blk (w3.alloc (.cells #[.slice q1 n1 k1, .slice q2 n2 k2, .slice q3 n3 k3] 27)) w3.heap.size #[.slice q1 n1 k1, .slice q2 n2 k2, .slice q3 n3 k3]) := Blk.new w3 _ 27
  have HB4 : Hid (Below w.heap.size w (w3.alloc (.cells #[.slice q1 n1 k1, .slice q2 n2 k2, .slice q3 n3 k3] 27))) := HB3.out.alloc HB3.out.size _
  have HM4 : Hid (MachN (fun b => b < w3.heap.size) (w3.alloc (.cells #[.slice q1 n1 k1, .slice q2 n2 k2, .slice q3 n3 k3] 27)) (.agg #[.slice q1 n1 k1, .slice q2 n2 k2, .slice q3 n3 k3]) (runA P words l)) := HM3.out.below ((Below.refl _ _).alloc (Nat.le_refl _) _)
  refine (newR_yes p np cap words P _ HL.out (HP.out.below HB4.out) hw1 hw2 HA.out hal.2).mono ?_
  rintro e w5 ⟨um, uc, uo, rfl, hown, hb5⟩
  have HU5 : Hid (MachN (fun b => b < w5.heap.size) w5 (.agg #[um, uc, uo]) (newA np words)) := hown.machR (fun b _ h => h)
  have HB5 : Hid (Below w.heap.size w w5) := HB4.out.trans (hb5.mono HB4.out.size)
  have HK5 := Lib.hid (HK4.out.below hb5)
  have HM5 := Lib.hid (HM4.out.below hb5)
  obtain ⟨r1, m1, j1, rfl⟩ := form_of hown.m
  obtain ⟨r2, m2, j2, rfl⟩ := form_of hown.c
  obtain ⟨r3, m3, j3, rfl⟩ := form_of hown.o
  clear hb5 hown HK4 HB4 HM4 HM3 HB3
  go_wp2_with fail
  have HNE : Hid (w3.heap.size < w5.heap.size) := HK5.out.lt
  have HQ6 : Hid (MachN (fun b => b ≠ w5.heap.size) (w5.alloc (.cells #[.slice r1 m1 j1, .slice r2 m2 j2, .slice r3 m3 j3] 27)) (.agg #[.slice q1 n1 k1, .slice q2 n2 k2, .slice q3 n3 k3]) (runA P words l)) := (HM5.out.imp (fun b h => by have := HNE.out; omega)).below ((Below.refl _ _).alloc (Nat.le_refl _) _)
  have HU6 : Hid (MachN (fun b => b ≠ w5.heap.size) (w5.alloc (.cells #[.slice r1 m1 j1, .slice r2 m2 j2, .slice r3 m3 j3] 27)) (.agg #[.slice r1 m1 j1, .slice r2 m2 j2, .slice r3 m3 j3]) (runA P words (l.take 0))) := by
    have e : runA P words (l.take 0) = newA np words := by rw [List.take_zero, ← HL.out]; rfl
    rw [e]
    exact (HU5.out.imp (fun b h => by omega)).below ((Below.refl _ _).alloc (Nat.le_refl _) _)
  have HK6 : Hid (Blk (w5.alloc (.cells #[.slice r1 m1 j1, .slice r2 m2 j2, .slice r3 m3 j3] 27)) w3.heap.size #[.slice q1 n1 k1, .slice q2 n2 k2, .slice q3 n3 k3]) := HK5.out.alloc _
  have HZ6 : Hid (Blk (w5.alloc (.cells #[.slice r1 m1 j1, .slice r2 m2 j2, .slice r3 m3 j3] 27)) w5.heap.size #[.slice r1 m1 j1, .slice r2 m2 j2, .slice r3 m3 j3]) := Blk.new w5 _ 27
  have HB6 : Hid (Below w.heap.size w (w5.alloc (.cells #[.slice r1 m1 j1, .slice r2 m2 j2, .slice r3 m3 j3] 27))) := HB5.out.alloc HB5.out.size _
  go_loopw [11] (fun i wr => ∃ k : Nat, k ≤ len ∧ i = .int .i64 k ∧ ∃ r1 m1 j1 r2 m2 j2 r3 m3 j3, Blk wr w5.heap.size #[.slice r1 m1 j1, .slice r2 m2 j2, .slice r3 m3 j3] ∧ Blk wr w3.heap.size #[.slice q1 n1 k1, .slice q2 n2 k2, .slice q3 n3 k3] ∧ MachN (fun b => b ≠ w5.heap.size) wr (.agg #[.slice r1 m1 j1, .slice r2 m2 j2, .slice r3 m3 j3]) (runA P words (l.take k)) ∧ MachN (fun b => b ≠ w5.heap.size) wr (.agg #[.slice q1 n1 k1, .slice q2 n2 k2, .slice q3 n3 k3]) (runA P words l) ∧ Below w.heap.size w wr) (fun i _ => len - (intOf i).toNat)
  case atStart => exact ⟨0, Nat.zero_le _, rfl, r1, m1, j1, r2, m2, j2, r3, m3, j3, HZ6.out, HK6.out, HU6.out, HQ6.out, HB6.out⟩
  case round =>
    obtain ⟨i, hi, rfl, r1', m1', j1', r2', m2', j2', r3', m3', j3', hz, hk, hu, hq, hbel⟩ := hrel
    clear HQ6 HU6 HK6 HZ6 HB6
    have HZ := Lib.hid hz
    have HK := Lib.hid hk
    have HU := Lib.hid hu
    have HQ := Lib.hid hq
    have HBE := Lib.hid hbel
    clear hz hk hu hq hbel
    by_cases hlt : i < len
    · obtain ⟨b, off, hb1, rfl, hb3⟩ := HPP.out.below HBE.out (by omega)
      obtain ⟨n, hn⟩ : ∃ n, n = l.getD i 0 := ⟨_, rfl⟩
      have c0 : wr.cell? ⟨b, off + i, none⟩ = some (.int .i64 n) := (hb3 i (by rw [intC_len, HLL.out]; exact hlt)).trans (by rw [hn]; exact intC_at l i (by rw [HLL.out]; exact hlt))
      have HTK : Hid (runA P words (l.take (i + 1)) = pickA P (runA P words (l.take i)) n) := by rw [hn]; exact runA_take (by rw [HLL.out]; exact hlt)
      have HC0 := Lib.hid c0
      have HLB := Lib.hid hb1
      have HGD : Hid (Good P words i (runA P words (l.take i))) := runA_good HPF.out l i (by rw [HLL.out]; omega)
      clear hn hb3 hb1
      by_cases h0 : 0 ≤ n
      · have e0 : decide (0 ≤ n) = true := decide_eq_true h0
        obtain ⟨m, rfl⟩ := Int.eq_ofNat_of_zero_le h0
        by_cases h1 : m < np
        · have e1 : decide ((m : Int) < (np : Int)) = true := decide_eq_true (by omega)
          have i0 : (0 : Int) ≤ (i : Int) := by omega
          have i1 : (i : Int) < (len : Int) := by omega
          go_upto_region 13 with fail
          refine region_plan (fun w' : World => (∀ j, w'.cell? ⟨w5.heap.size, j, none⟩ = (#[.slice r1' m1' j1', .slice r2' m2' j2', .slice r3' m3' j3'] : Array Value)[j]?) ∧ w'.cell? ⟨b, off + i, none⟩ = some (.int .i64 m)) 7 [(0, true), (1, true), (2, true), (3, true), (4, true), (5, true), (6, false)] (by kernel_rfl) (by kernel_rfl) ⟨HZ.out.c, HC0.out⟩ ?_
          iterate 6
            refine plan_read (v := ?_) rfl (by rfl) ?_ ?_
            rotate_left
            · intro w' hS
              try dsimp only at hS
              go_simp
              try with_reducible rfl
            try simp only [Act.put, List.setIfInBounds_toArray, List.set_cons_zero, List.set_cons_succ, List.getElem_toArray, List.getElem_cons_zero, List.getElem_cons_succ]
          refine plan_call (F := 20) (args := ?_) rfl (by rfl) ?_ ?_
          rotate_left
          · go_simp
            rfl
          have HLR : Hid (b < wr.heap.size) := HLB.out
          refine (kstepR (fun b => b ≠ w5.heap.size) p np cap P _ _ _ (runA P words (l.take i)) m words b i off w5.heap.size i m wr wr.drew (fun b hb => by have := HZ.out.lt; omega) HL (HP.out.below HBE.out) h1 HU HGD (by omega) hw2 (short_few HS.out) HZ HC0 HLR (Below.refl _ _).drew).mono ?_
          rintro e w6 ⟨pm, lm, cm, pc, lc, cc, po, lo, co, rfl, s6, hu6, hb6⟩
          refine ⟨_, rfl, s6, ?_⟩
          refine plan_nil ?_
          try simp only [Act.put, List.setIfInBounds_toArray, List.set_cons_zero, List.set_cons_succ, List.getElem_toArray, List.getElem_cons_zero, List.getElem_cons_succ]
          simp only [List.drop_succ_cons, List.drop_zero]
          have HZ7 := Lib.hid (HZ.out.below hb6)
          have HK7 := Lib.hid (HK.out.below hb6)
          have HQ7 := Lib.hid (HQ.out.below hb6)
          have HU7 := Lib.hid hu6
          have HB7 : Hid (Below w.heap.size w w6) := HBE.out.trans (hb6.mono HBE.out.size)
          clear s6 hu6 hb6 c0
          have cZ := HZ7.out.c
          have fZ := HZ7.out.f
          have lZ := HZ7.out.lt
          go_wp2
          go_roundw
          case rel =>
            have nN : ¬ (fun b => b ≠ w5.heap.size) w5.heap.size := fun h => h rfl
            refine ⟨i + 1, by omega, by go_num, pm, lm, cm, pc, lc, cc, po, lo, co, store3 HZ7.out, HK7.out.other3 (by have := HNE.out; omega) _ _ _, ?_, ((HQ7.out.set nN _ _).set nN _ _).set nN _ _, below_set3 HB7.out HB5.out.size _ _ _⟩
            rw [HTK.out, pick_in (by rw [HGD.out.c, HL.out]; exact h1)]
            exact ((HU7.out.set nN _ _).set nN _ _).set nN _ _
          case measure => simp [intOf]; omega
        · have e1 : decide ((m : Int) < (np : Int)) = false := decide_eq_false (by omega)
          go_wp2
          go_roundw
          case rel =>
            refine ⟨i + 1, by omega, by go_num, r1', m1', j1', r2', m2', j2', r3', m3', j3', HZ.out, HK.out, ?_, HQ.out, HBE.out⟩
            rw [HTK.out, pick_out (by rw [HGD.out.c, HL.out]; omega)]
            exact HU.out
          case measure => simp [intOf]; omega
      · have e0 : decide (0 ≤ n) = false := decide_eq_false h0
        go_wp2
        go_roundw
        case rel =>
          refine ⟨i + 1, by omega, by go_num, r1', m1', j1', r2', m2', j2', r3', m3', j3', HZ.out, HK.out, ?_, HQ.out, HBE.out⟩
          rw [HTK.out, pick_out (by omega)]
          exact HU.out
        case measure => simp [intOf]; omega
    · have e : l.take i = l := List.take_of_length_le (by rw [HLL.out]; omega)
      have HUU : Hid (MachN (fun b => b ≠ w5.heap.size) wr (.agg #[.slice r1' m1' j1', .slice r2' m2' j2', .slice r3' m3' j3']) (runA P words l)) := by have h := HU.out; rw [e] at h; exact h
      have HG := Lib.hid (runA_good_all (words := words) HPF.out l)
      have HR := Lib.hid (runA_right_all HPF.out hw1 hw2 HA.out l)
      clear e
      have cZ := HZ.out.c
      have cK := HK.out.c
      go_wp2_with fail
      refine (same_any _ _ (runA P words l) wr (by rw [HG.out.m]; unfold maxLen; omega) (by rw [HG.out.c, HL.out]; unfold maxLen; omega) (by have := HG.out.o; rw [HLL.out] at this; unfold maxLen; omega) HQ.out.mach HUU.out.mach).mono ?_
      rintro e w6 ⟨rfl, hb6⟩
      have HK7 := Lib.hid (HK.out.below hb6)
      have HQ7 := Lib.hid (HQ.out.below hb6)
      have HB7 : Hid (Below w.heap.size w w6) := HBE.out.trans (hb6.mono HBE.out.size)
      clear hb6 cZ cK
      have cK := HK7.out.c
      go_wp2_with fail
      have hr := right_any4 p cap P (.agg #[.slice q1 n1 k1, .slice q2 n2 k2, .slice q3 n3 k3]) (runA P words l) w6 (HP.out.below HB7.out) HQ7.out.mach
      rw [HL.out, HR.out] at hr
      refine hr.mono ?_
      clear hr
      rintro e w8 ⟨rfl, hb8⟩
      have HB8 : Hid (Below w.heap.size w w8) := HB7.out.trans (hb8.mono HB7.out.size)
      clear hb8 cK
      go_wp2
      go_ret
      exact ⟨rfl, HB8.out⟩

theorem runs_walk (p pp : Option Addr) (cap pcap : Nat) (words : Int) (P : List (List I5)) (l : List Int) (w : World) (hp : Prgs w p P) (hpp : Sl w pp l.length (intC l)) :
    Calls Try.prog 4 #[.slice p P.length cap, .int .i64 words, .slice pp l.length pcap] w fun e w' => e = .returned (.bool true) ∧ Below w.heap.size w w' := by
  by_cases h : shortB P = false ∨ 300 < l.length
  · exact runs_out p pp _ cap _ pcap words P w rfl hp h
  · have hs : shortB P = true := by
      cases hh : shortB P with
      | true => rfl
      | false => exact (h (.inl hh)).elim
    have hl : l.length ≤ 300 := by omega
    cases hn : newOk P words with
    | false => exact runs_no p pp _ cap _ pcap words P w rfl hp hs hl hn
    | true =>
      have := newOk_has hn
      obtain ⟨k, rfl⟩ := Int.eq_ofNat_of_zero_le (show 0 ≤ words by omega)
      exact runs_main p pp _ cap _ pcap k P l w rfl hp hs hl hn rfl hpp
end Go.Proofs.Ytekiialhljfglaa
namespace Go.Proofs.Ytekiialhljfglaa.atomRuns
open Go.ChangeShapes Go.WideShapes Go.ChangeAt Go.RowKit
open Go.ChangeMaps (open_string shut_string)
set_option linter.unusedVariables false

theorem own : ownKnob Try.prog.godebug = none := by kernel_rfl
theorem laidOut : laidOutB Try.prog = true := by kernel_rfl

set_option maxRecDepth 100000 in
theorem lifted (os : Os) (started : os.Started) (H : Type) (enc : TypeId × Value → H) :
    ReturnsInHanded {} Try.checked os 4 .any (Rows.atomRunsSpec.pre6 enc Try.prog Try.f4 Rows.atomRunsRow.domain false) (Rows.atomRunsSpec.post enc Try.prog Try.f4 false true false false) := by
  refine returnsInHanded_of_change (C := Try.checked) own started (by kernel_rfl) Try.func4
    (ChangeSpec.witness6 (enc := enc) (C := Try.checked) false ⟨#[], #[.slice none 0 0, .int .i64 0, .slice none 0 0], []⟩ 8 (by kernel_rfl) (by kernel_rfl) (by kernel_rfl) (by kernel_rfl)) ?_
  intro W base args ds gs before hval0 hW hcnd _
  have hval : ∀ (j : Nat) t v, Try.f4.params[j]? = some t → args[j]? = some v → Value.okWide Try.prog W .any base t v := hval0
  have hW' := hW
  obtain ⟨p, q, hA0, hV, rfl, hfz, hnd⟩ := hW
  have hA : DataW.TrodAll enc Try.prog W 0 (fun _ => true) true Try.f4.params.toList args.toList ds p := hA0
  rw [Try.params4] at hA hval
  obtain ⟨v0, vs0, d0, ds0, p0, q0, hargs, rfl, rfl, h0, r0⟩ := trodAll_cons hA
  obtain ⟨v1, vs1, d1, ds1, p1, q1, rfl, rfl, rfl, h1, r1⟩ := trodAll_cons r0
  obtain ⟨v2, vs2, d2, ds2, p2, q2, rfl, rfl, rfl, h2, r2⟩ := trodAll_cons r1
  obtain ⟨rfl, rfl, rfl⟩ := trodAll_nil r2
  obtain rfl : args = #[v0, v1, v2] := by cases args; simp_all
  obtain ⟨rfl, rfl⟩ := trodVars_none hV
  have k0 := h0
  have lt0 : ∀ x ∈ p0, x.block < W.heap.size := by obtain ⟨m, hm⟩ := k0; exact DataW.trod_lt m _ _ _ hm
  have k1 := h1
  have lt1 : ∀ x ∈ p1, x.block < W.heap.size := by obtain ⟨m, hm⟩ := k1; exact DataW.trod_lt m _ _ _ hm
  have k2 := h2
  have lt2 : ∀ x ∈ p2, x.block < W.heap.size := by obtain ⟨m, hm⟩ := k2; exact DataW.trod_lt m _ _ _ hm
  obtain ⟨s0, len0, cap0, rfl⟩ := okWide_slice Try.underlying22 (hval 0 22 v0 rfl rfl)
  obtain ⟨l0, hl0, _, _, hp0⟩ : ∃ l : List (List I5), l.length = len0 ∧ len0 ≤ maxLen ∧ (∀ i, i < len0 → (atP l i).length ≤ maxLen) ∧ Prgs W s0 l := by
    obtain ⟨fuel, hf⟩ := h0
    exact prgs_of_cells hf
  subst hl0
  obtain ⟨a1, rfl, rfl, rfl, w1⟩ := open_int Try.underlying3 (hval 1 3 v1 rfl rfl) h1
  obtain ⟨s2, len2, cap2, rfl⟩ := okWide_slice Try.underlying48 (hval 2 48 v2 rfl rfl)
  obtain ⟨l2, hl2, _, hp2⟩ : ∃ l : List Int, l.length = len2 ∧ len2 ≤ maxLen ∧ Sl W s2 len2 (intC l) := by
    obtain ⟨fuel, hf⟩ := h2
    exact ints_of_cells hf
  subst hl2
  clear hA0 hval0
  refine (runs_walk s0 s2 cap0 cap2 a1 l0 l2 W hp0 hp2).mono fun e W' ⟨he, bel⟩ => ?_
  subst he
  exact ⟨_, rfl, _, _, _, [], _, [], hW', trodAll_mk1 (shut_bool Try.underlying4 _), (trodAll_cons_mk (Below.trod laidOut (by kernel_rfl) (of_decide_eq_true (by kernel_rfl)) k0 bel lt0) (trodAll_cons_mk (Below.trod laidOut (by kernel_rfl) (of_decide_eq_true (by kernel_rfl)) k1 bel lt1) (trodAll_cons_mk (Below.trod laidOut (by kernel_rfl) (of_decide_eq_true (by kernel_rfl)) k2 bel lt2) trodAll_mk0))), rfl, bel.frame _, fun h => by cases h⟩

theorem over : Rows.atomRunsRow.holds Try.pinned (OpenSpec.ofChange Rows.atomRunsSpec) :=
  OpenClaim.holds_of_wide 4 Try.f4 rfl rfl rfl rfl rfl rfl rfl ⟨rfl, rfl, rfl, rfl, rfl⟩ rfl rfl rfl rfl rfl (by kernel_rfl) Try.func4 (by kernel_rfl)
    (of_decide_eq_true (by kernel_rfl)) (by unfold Func.isWrapper; first | (rw [if_pos (by decide +kernel)]; kernel_rfl) | (rw [if_neg (by decide +kernel)]; exact ⟨rfl, rfl⟩))
    (fun os started H enc _ => lifted os started H enc)

/-- The statement. -/
theorem proved : Rows.AtomRunsSaid := over
#print axioms proved
end Go.Proofs.Ytekiialhljfglaa.atomRuns
