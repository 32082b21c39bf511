/- For all programs, any machine, core's number, number of words and anything wanted the statement AtomRight answers true and leaves its arguments as they were; no condition but the form's own reach. -/
import Derived.Test.YtekiialhljfglaaZl
import Derived.WalkKit
import Derived.ProofKit
import Derived.OpenShut
import Derived.ShutString
import Derived.ChangeOld
import Derived.Below
import Derived.SizedLaws
/- AtomRuns: a run of any picks is the document's, step by step: the walk of the statement's function. -/
namespace Go.Proofs.Ytekiialhljfglaa
set_option linter.unusedVariables false
open Go.ChangeShapes Go.WideShapes Go.ChangeAt Go.RowKit

/-- A machine's three lists, as they are handed about. -/
theorem Mach.form {w : World} {v : Value} {a : Atm} (h : Mach w v a) : ∃ pm cm pc cc po co, v = .agg #[.slice pm a.mem.length cm, .slice pc a.cores.length cc, .slice po a.outs.length co] := by
  obtain ⟨pm, cm, pc, cc, po, co, e, _⟩ := h
  exact ⟨pm, cm, pc, cc, po, co, e⟩

set_option maxHeartbeats 1000000 in
theorem runs_out (p pp : Option Addr) (np cap len pcap : Nat) (words : Int) (P : List (List I5)) (w : World) (hl : P.length = np) (hp : Prgs w p P) (h : shortB P = false ∨ 300 < len) :
    Calls Try.prog 4 #[.slice p np cap, .int .i64 words, .slice pp len pcap] w fun e w' => e = .returned (.bool true) ∧ Below w.heap.size w w' := by
  have HL := Lib.hid hl
  have HP := Lib.hid hp
  have H := Lib.hid h
  clear hl hp h
  cases hs : shortB P with
  | false =>
    have HS := Lib.hid hs
    clear hs
    go_enter Try.func4, Try.ntmps4
    go_wp2_with fail
    refine (awake_any _).mono ?_
    rintro e w1 ⟨rfl, hb1⟩
    have HB1 := Lib.hid hb1
    clear hb1
    go_wp2_with fail
    have hsh := short_any p cap P w1 (HP.out.below HB1.out)
    rw [HL.out, HS.out] at hsh
    refine hsh.mono ?_
    clear hsh
    rintro e w2 ⟨rfl, rfl⟩
    go_wp2
    go_ret
    exact ⟨rfl, HB1.out⟩
  | true =>
    have d1 : decide (300 < (len : Int)) = true := decide_eq_true (by
      rcases H.out with h | h
      · rw [hs] at h; cases h
      · omega)
    have HS := Lib.hid hs
    clear hs
    go_enter Try.func4, Try.ntmps4
    go_wp2_with fail
    refine (awake_any _).mono ?_
    rintro e w1 ⟨rfl, hb1⟩
    have HB1 := Lib.hid hb1
    clear hb1
    go_wp2_with fail
    have hsh := short_any p cap P w1 (HP.out.below HB1.out)
    rw [HL.out, HS.out] at hsh
    refine hsh.mono ?_
    clear hsh
    rintro e w2 ⟨rfl, rfl⟩
    go_wp2
    go_ret
    exact ⟨rfl, HB1.out⟩

set_option maxHeartbeats 1000000 in
theorem runs_no (p pp : Option Addr) (np cap len pcap : Nat) (words : Int) (P : List (List I5)) (w : World) (hl : P.length = np) (hp : Prgs w p P) (hs : shortB P = true) (hlen : len ≤ 300) (h : newOk P words = false) :
    Calls Try.prog 4 #[.slice p np cap, .int .i64 words, .slice pp len pcap] w fun e w' => e = .returned (.bool true) ∧ Below w.heap.size w w' := by
  have HL := Lib.hid hl
  have HP := Lib.hid hp
  have HN := Lib.hid h
  have HS := Lib.hid hs
  have d1 : decide (300 < (len : Int)) = false := decide_eq_false (by omega)
  clear hl hp h hs
  go_enter Try.func4, Try.ntmps4
  go_wp2_with fail
  refine (awake_any _).mono ?_
  rintro e w1 ⟨rfl, hb1⟩
  have HB1 := Lib.hid hb1
  clear hb1
  go_wp2_with fail
  have hsh := short_any p cap P w1 (HP.out.below HB1.out)
  rw [HL.out, HS.out] at hsh
  refine hsh.mono ?_
  clear hsh
  rintro e w2 ⟨rfl, rfl⟩
  go_wp2_with fail
  refine (run_no p pp np cap len pcap words P _ HL.out (HP.out.below HB1.out) HN.out).mono ?_
  rintro e w3 ⟨rfl, hb3⟩
  have HB3 : Hid (Below w.heap.size w w3) := HB1.out.trans (hb3.mono HB1.out.size)
  clear hb3
  go_wp2_with fail
  have HB4 : Hid (Below w.heap.size w (w3.alloc (.cells #[.slice none 0 0, .slice none 0 0, .slice none 0 0] 27))) := HB3.out.alloc HB3.out.size _
  refine (newR_no p np cap words P _ HL.out (short_few HS.out) (HP.out.below HB4.out) (newOk_not HN.out)).mono ?_
  rintro e w5 ⟨rfl, hb5⟩
  have k5 : Hid (Blk w5 w3.heap.size #[.slice none 0 0, .slice none 0 0, .slice none 0 0]) := Blk.track1 hb5
  have HB5 : Hid (Below w.heap.size w w5) := HB4.out.trans (hb5.mono HB4.out.size)
  clear hb5
  have c := k5.out.c
  have lt := k5.out.lt
  go_wp2_with fail
  have HB6 : Hid (Below w.heap.size w (w5.alloc (.cells #[.slice none 0 0, .slice none 0 0, .slice none 0 0] 27))) := HB5.out.alloc HB5.out.size _
  refine (same_any _ _ nilA _ (by decide) (by decide) (by decide) (Mach.nil _) (Mach.nil _)).mono ?_
  rintro e w7 ⟨rfl, hb7⟩
  have HB7 : Hid (Below w.heap.size w w7) := HB6.out.trans (hb7.mono HB6.out.size)
  clear hb7 c lt
  go_wp2
  go_ret
  exact ⟨rfl, HB7.out⟩

theorem OwnM.machR {N : Nat → Prop} {w : World} {base : Nat} {vm vc vo : Value} {a : Atm} (h : OwnM w base vm vc vo a) (hN : ∀ b, base ≤ b → b < w.heap.size → N b) : MachN N w (.agg #[vm, vc, vo]) a := by
  have hr := h.rows
  obtain ⟨pm, cm, e1, h1⟩ := Sl.own h.m
  obtain ⟨pc, cc, e2, h2⟩ := Sl.own h.c
  obtain ⟨po, co, e3, h3⟩ := Sl.own h.o
  subst e1 e2 e3
  refine ⟨pm, cm, pc, cc, po, co, rfl, ⟨h1, h2, h3⟩, fun _ b o e => ?_, fun _ b o e => ?_, fun _ b o e => ?_⟩
  · have := hr b (.inl (by rw [e]; rfl)); exact hN b this.1 this.2
  · have := hr b (.inr (.inl (by rw [e]; rfl))); exact hN b this.1 this.2
  · have := hr b (.inr (.inr (by rw [e]; rfl))); exact hN b this.1 this.2
theorem MachN.form {N : Nat → Prop} {w : World} {v : Value} {a : Atm} (h : MachN N w v a) : ∃ pm lm cm pc lc cc po lo co, v = .agg #[.slice pm lm cm, .slice pc lc cc, .slice po lo co] := by
  obtain ⟨pm, cm, pc, cc, po, co, e, _⟩ := h
  exact ⟨pm, _, cm, pc, _, cc, po, _, co, e⟩
theorem MachN.imp {N M : Nat → Prop} {w : World} {v : Value} {a : Atm} (h : MachN N w v a) (hN : ∀ b, N b → M b) : MachN M w v a := by
  obtain ⟨pm, cm, pc, cc, po, co, e, hs, h1, h2, h3⟩ := h
  exact ⟨pm, cm, pc, cc, po, co, e, hs, fun h0 b o e => hN b (h1 h0 b o e), fun h0 b o e => hN b (h2 h0 b o e), fun h0 b o e => hN b (h3 h0 b o e)⟩
theorem kstepR (N : Nat → Prop) (p : Option Addr) (np cap : Nat) (P : List (List I5)) (u0 u1 u2 : Value) (a : Atm) (n words : Nat) (b i off B k : Nat) (x : Int) (W1 W : World) (hN : Hid (∀ b, W1.heap.size ≤ b → N b)) (hl : Hid (P.length = np)) (hp : Hid (Prgs W1 p P)) (hn : n < np) (hu : Hid (MachN N W1 (.agg #[u0, u1, u2]) a)) (hg : Hid (Good P words k a)) (hk : k ≤ 300) (h64 : words ≤ 64) (h6 : Hid (P.length ≤ 6))
    (h1 : Hid (Blk W1 B #[u0, u1, u2])) (h2 : Hid (W1.cell? ⟨b, off + i, none⟩ = some (.int .i64 x))) (l2 : Hid (b < W1.heap.size)) (hb : Below W1.heap.size W1 W) :
    Calls Try.prog 20 #[.slice p np cap, .agg #[u0, u1, u2], .int .i64 n] W fun e w' => ∃ pm lm cm pc lc cc po lo co, e = .returned (.agg #[.slice pm lm cm, .slice pc lc cc, .slice po lo co]) ∧ ((∀ j, w'.cell? ⟨B, j, none⟩ = (#[u0, u1, u2] : Array Value)[j]?) ∧ w'.cell? ⟨b, off + i, none⟩ = some (.int .i64 x)) ∧ MachN N w' (.agg #[.slice pm lm cm, .slice pc lc cc, .slice po lo co]) (stepA P a n) ∧ Below W1.heap.size W1 w' := by
  have hh := stepR_anyN N p cap P (.agg #[u0, u1, u2]) a n W (fun b hbb => hN.out b (Nat.le_trans hb.size hbb)) (hp.out.below hb) (by rw [hl.out]; exact hn) (hu.out.below hb) hg.out.c hg.out.f (by rw [hg.out.m]; exact h64) h6.out (by have := hg.out.o; omega)
  rw [hl.out] at hh
  refine hh.mono fun e w' ⟨u', e1, hm, hb'⟩ => ?_
  have hb2 := hb.trans (hb'.mono hb.size)
  obtain ⟨pm, lm, cm, pc, lc, cc, po, lo, co, rfl⟩ := hm.form
  exact ⟨_, _, _, _, _, _, _, _, _, e1, ⟨(h1.out.below hb2).c, (hb2.cell (p := ⟨b, off + i, none⟩) l2.out).trans h2.out⟩, hm, hb2⟩

set_option maxHeartbeats 2000000 in
theorem runs_main (p pp : Option Addr) (np cap len pcap words : Nat) (P : List (List I5)) (l : List Int) (w : World) (hl : P.length = np) (hp : Prgs w p P) (hs : shortB P = true) (hlen : len ≤ 300) (h : newOk P words = true) (hll : l.length = len) (hpp : Sl w pp len (intC l)) :
    Calls Try.prog 4 #[.slice p np cap, .int .i64 words, .slice pp len pcap] w fun e w' => e = .returned (.bool true) ∧ Below w.heap.size w w' := by
  have HL := Lib.hid hl
  have HP := Lib.hid hp
  have HN := Lib.hid h
  have HS := Lib.hid hs
  have HLL := Lib.hid hll
  have HPP := Lib.hid hpp
  have HPF := Lib.hid (prgs_fits hp)
  have d1 : decide (300 < (len : Int)) = false := decide_eq_false (by omega)
  have hno := newOk_has h
  have hw1 : 1 ≤ words := by omega
  have hw2 : words ≤ 64 := by omega
  have HA := Lib.hid hno.2.2
  have hal := all_len hno.2.2
  rw [hl] at hal
  clear hl hp h hs hll hpp hno
  go_enter Try.func4, Try.ntmps4
  go_wp2_with fail
  refine (awake_any _).mono ?_
  rintro e w1 ⟨rfl, hb1⟩
  have HB1 := Lib.hid hb1
  clear hb1
  go_wp2_with fail
  have hsh := short_any p cap P w1 (HP.out.below HB1.out)
  rw [HL.out, HS.out] at hsh
  refine hsh.mono ?_
  clear hsh
  rintro e w2 ⟨rfl, rfl⟩
  go_wp2_with fail
  refine (run_yes p pp np cap len pcap words P l _ HL.out (HP.out.below HB1.out) HN.out HLL.out (by omega) (HPP.out.below HB1.out)).mono ?_
  rintro e w3 ⟨vm, vc, vo, rfl, hown, hb3⟩
  have HM3 : Hid (MachN (fun b => b < w3.heap.size) w3 (.agg #[vm, vc, vo]) (runA P words l)) := hown.machR (fun b _ h => h)
  have HB3 : Hid (Below w.heap.size w w3) := HB1.out.trans (hb3.mono HB1.out.size)
  obtain ⟨e1, ⟨cm, e2⟩, e3⟩ : True ∧ (∃ x : Nat, True) ∧ True := ⟨trivial, ⟨0, trivial⟩, trivial⟩
  obtain ⟨q1, n1, k1, rfl⟩ := form_of hown.m
  obtain ⟨q2, n2, k2, rfl⟩ := form_of hown.c
  obtain ⟨q3, n3, k3, rfl⟩ := form_of hown.o
  clear hb3 hown e1 e2 e3
  go_wp2_with fail
  have HK4 : Hid (Blk (w3.alloc (.cells #[.slice q1 n1 k1, .slice q2 n2 k2, .slice q3 n3 k3] 27)) w3.heap.size #[.slice q1 n1 k1, .slice q2 n2 k2, .slice q3 n3 k3]) := Blk.new w3 _ 27
  have HB4 : Hid (Below w.heap.size w (w3.alloc (.cells #[.slice q1 n1 k1, .slice q2 n2 k2, .slice q3 n3 k3] 27))) := HB3.out.alloc HB3.out.size _
  have HM4 : Hid (MachN (fun b => b < w3.heap.size) (w3.alloc (.cells #[.slice q1 n1 k1, .slice q2 n2 k2, .slice q3 n3 k3] 27)) (.agg #[.slice q1 n1 k1, .slice q2 n2 k2, .slice q3 n3 k3]) (runA P words l)) := HM3.out.below ((Below.refl _ _).alloc (Nat.le_refl _) _)
  refine (newR_yes p np cap words P _ HL.out (HP.out.below HB4.out) hw1 hw2 HA.out hal.2).mono ?_
  rintro e w5 ⟨um, uc, uo, rfl, hown, hb5⟩
  have HU5 : Hid (MachN (fun b => b < w5.heap.size) w5 (.agg #[um, uc, uo]) (newA np words)) := hown.machR (fun b _ h => h)
  have HB5 : Hid (Below w.heap.size w w5) := HB4.out.trans (hb5.mono HB4.out.size)
  have HK5 := Lib.hid (HK4.out.below hb5)
  have HM5 := Lib.hid (HM4.out.below hb5)
  obtain ⟨r1, m1, j1, rfl⟩ := form_of hown.m
  obtain ⟨r2, m2, j2, rfl⟩ := form_of hown.c
  obtain ⟨r3, m3, j3, rfl⟩ := form_of hown.o
  clear hb5 hown HK4 HB4 HM4 HM3 HB3
  go_wp2_with fail
  have HNE : Hid (w3.heap.size < w5.heap.size) := HK5.out.lt
  have HQ6 : Hid (MachN (fun b => b ≠ w5.heap.size) (w5.alloc (.cells #[.slice r1 m1 j1, .slice r2 m2 j2, .slice r3 m3 j3] 27)) (.agg #[.slice q1 n1 k1, .slice q2 n2 k2, .slice q3 n3 k3]) (runA P words l)) := (HM5.out.imp (fun b h => by have := HNE.out; omega)).below ((Below.refl _ _).alloc (Nat.le_refl _) _)
  have HU6 : Hid (MachN (fun b => b ≠ w5.heap.size) (w5.alloc (.cells #[.slice r1 m1 j1, .slice r2 m2 j2, .slice r3 m3 j3] 27)) (.agg #[.slice r1 m1 j1, .slice r2 m2 j2, .slice r3 m3 j3]) (runA P words (l.take 0))) := by
    have e : runA P words (l.take 0) = newA np words := by rw [List.take_zero, ← HL.out]; rfl
    rw [e]
    exact (HU5.out.imp (fun b h => by omega)).below ((Below.refl _ _).alloc (Nat.le_refl _) _)
  have HK6 : Hid (Blk (w5.alloc (.cells #[.slice r1 m1 j1, .slice r2 m2 j2, .slice r3 m3 j3] 27)) w3.heap.size #[.slice q1 n1 k1, .slice q2 n2 k2, .slice q3 n3 k3]) := HK5.out.alloc _
  have HZ6 : Hid (Blk (w5.alloc (.cells #[.slice r1 m1 j1, .slice r2 m2 j2, .slice r3 m3 j3] 27)) w5.heap.size #[.slice r1 m1 j1, .slice r2 m2 j2, .slice r3 m3 j3]) := Blk.new w5 _ 27
  have HB6 : Hid (Below w.heap.size w (w5.alloc (.cells #[.slice r1 m1 j1, .slice r2 m2 j2, .slice r3 m3 j3] 27))) := HB5.out.alloc HB5.out.size _
  go_loopw [11] (fun i wr => ∃ k : Nat, k ≤ len ∧ i = .int .i64 k ∧ ∃ r1 m1 j1 r2 m2 j2 r3 m3 j3, Blk wr w5.heap.size #[.slice r1 m1 j1, .slice r2 m2 j2, .slice r3 m3 j3] ∧ Blk wr w3.heap.size #[.slice q1 n1 k1, .slice q2 n2 k2, .slice q3 n3 k3] ∧ MachN (fun b => b ≠ w5.heap.size) wr (.agg #[.slice r1 m1 j1, .slice r2 m2 j2, .slice r3 m3 j3]) (runA P words (l.take k)) ∧ MachN (fun b => b ≠ w5.heap.size) wr (.agg #[.slice q1 n1 k1, .slice q2 n2 k2, .slice q3 n3 k3]) (runA P words l) ∧ Below w.heap.size w wr) (fun i _ => len - (intOf i).toNat)
  case atStart => exact ⟨0, Nat.zero_le _, rfl, r1, m1, j1, r2, m2, j2, r3, m3, j3, HZ6.out, HK6.out, HU6.out, HQ6.out, HB6.out⟩
  case round =>
    obtain ⟨i, hi, rfl, r1', m1', j1', r2', m2', j2', r3', m3', j3', hz, hk, hu, hq, hbel⟩ := hrel
    clear HQ6 HU6 HK6 HZ6 HB6
    have HZ := Lib.hid hz
    have HK := Lib.hid hk
    have HU := Lib.hid hu
    have HQ := Lib.hid hq
    have HBE := Lib.hid hbel
    clear hz hk hu hq hbel
    by_cases hlt : i < len
    · obtain ⟨b, off, hb1, rfl, hb3⟩ := HPP.out.below HBE.out (by omega)
      obtain ⟨n, hn⟩ : ∃ n, n = l.getD i 0 := ⟨_, rfl⟩
      have c0 : wr.cell? ⟨b, off + i, none⟩ = some (.int .i64 n) := (hb3 i (by rw [intC_len, HLL.out]; exact hlt)).trans (by rw [hn]; exact intC_at l i (by rw [HLL.out]; exact hlt))
      have HTK : Hid (runA P words (l.take (i + 1)) = pickA P (runA P words (l.take i)) n) := by rw [hn]; exact runA_take (by rw [HLL.out]; exact hlt)
      have HC0 := Lib.hid c0
      have HLB := Lib.hid hb1
      have HGD : Hid (Good P words i (runA P words (l.take i))) := runA_good HPF.out l i (by rw [HLL.out]; omega)
      clear hn hb3 hb1
      by_cases h0 : 0 ≤ n
      · have e0 : decide (0 ≤ n) = true := decide_eq_true h0
        obtain ⟨m, rfl⟩ := Int.eq_ofNat_of_zero_le h0
        by_cases h1 : m < np
        · have e1 : decide ((m : Int) < (np : Int)) = true := decide_eq_true (by omega)
          have i0 : (0 : Int) ≤ (i : Int) := by omega
          have i1 : (i : Int) < (len : Int) := by omega
          go_upto_region 13 with fail
          refine region_plan (fun w' : World => (∀ j, w'.cell? ⟨w5.heap.size, j, none⟩ = (#[.slice r1' m1' j1', .slice r2' m2' j2', .slice r3' m3' j3'] : Array Value)[j]?) ∧ w'.cell? ⟨b, off + i, none⟩ = some (.int .i64 m)) 7 [(0, true), (1, true), (2, true), (3, true), (4, true), (5, true), (6, false)] (by kernel_rfl) (by kernel_rfl) ⟨HZ.out.c, HC0.out⟩ ?_
          iterate 6
            refine plan_read (v := ?_) rfl (by rfl) ?_ ?_
            rotate_left
            · intro w' hS
              try dsimp only at hS
              go_simp
              try with_reducible rfl
            try simp only [Act.put, List.setIfInBounds_toArray, List.set_cons_zero, List.set_cons_succ, List.getElem_toArray, List.getElem_cons_zero, List.getElem_cons_succ]
          refine plan_call (F := 20) (args := ?_) rfl (by rfl) ?_ ?_
          rotate_left
          · go_simp
            rfl
          have HLR : Hid (b < wr.heap.size) := HLB.out
          refine (kstepR (fun b => b ≠ w5.heap.size) p np cap P _ _ _ (runA P words (l.take i)) m words b i off w5.heap.size i m wr wr.drew (fun b hb => by have := HZ.out.lt; omega) HL (HP.out.below HBE.out) h1 HU HGD (by omega) hw2 (short_few HS.out) HZ HC0 HLR (Below.refl _ _).drew).mono ?_
          rintro e w6 ⟨pm, lm, cm, pc, lc, cc, po, lo, co, rfl, s6, hu6, hb6⟩
          refine ⟨_, rfl, s6, ?_⟩
          refine plan_nil ?_
          try simp only [Act.put, List.setIfInBounds_toArray, List.set_cons_zero, List.set_cons_succ, List.getElem_toArray, List.getElem_cons_zero, List.getElem_cons_succ]
          simp only [List.drop_succ_cons, List.drop_zero]
          have HZ7 := Lib.hid (HZ.out.below hb6)
          have HK7 := Lib.hid (HK.out.below hb6)
          have HQ7 := Lib.hid (HQ.out.below hb6)
          have HU7 := Lib.hid hu6
          have HB7 : Hid (Below w.heap.size w w6) := HBE.out.trans (hb6.mono HBE.out.size)
          clear s6 hu6 hb6 c0
          have cZ := HZ7.out.c
          have fZ := HZ7.out.f
          have lZ := HZ7.out.lt
          go_wp2
          go_roundw
          case rel =>
            have nN : ¬ (fun b => b ≠ w5.heap.size) w5.heap.size := fun h => h rfl
            refine ⟨i + 1, by omega, by go_num, pm, lm, cm, pc, lc, cc, po, lo, co, store3 HZ7.out, HK7.out.other3 (by have := HNE.out; omega) _ _ _, ?_, ((HQ7.out.set nN _ _).set nN _ _).set nN _ _, below_set3 HB7.out HB5.out.size _ _ _⟩
            rw [HTK.out, pick_in (by rw [HGD.out.c, HL.out]; exact h1)]
            exact ((HU7.out.set nN _ _).set nN _ _).set nN _ _
          case measure => simp [intOf]; omega
        · have e1 : decide ((m : Int) < (np : Int)) = false := decide_eq_false (by omega)
          go_wp2
          go_roundw
          case rel =>
            refine ⟨i + 1, by omega, by go_num, r1', m1', j1', r2', m2', j2', r3', m3', j3', HZ.out, HK.out, ?_, HQ.out, HBE.out⟩
            rw [HTK.out, pick_out (by rw [HGD.out.c, HL.out]; omega)]
            exact HU.out
          case measure => simp [intOf]; omega
      · have e0 : decide (0 ≤ n) = false := decide_eq_false h0
        go_wp2
        go_roundw
        case rel =>
          refine ⟨i + 1, by omega, by go_num, r1', m1', j1', r2', m2', j2', r3', m3', j3', HZ.out, HK.out, ?_, HQ.out, HBE.out⟩
          rw [HTK.out, pick_out (by omega)]
          exact HU.out
        case measure => simp [intOf]; omega
    · have e : l.take i = l := List.take_of_length_le (by rw [HLL.out]; omega)
      have HUU : Hid (MachN (fun b => b ≠ w5.heap.size) wr (.agg #[.slice r1' m1' j1', .slice r2' m2' j2', .slice r3' m3' j3']) (runA P words l)) := by have h := HU.out; rw [e] at h; exact h
      have HG := Lib.hid (runA_good_all (words := words) HPF.out l)
      have HR := Lib.hid (runA_right_all HPF.out hw1 hw2 HA.out l)
      clear e
      have cZ := HZ.out.c
      have cK := HK.out.c
      go_wp2_with fail
      refine (same_any _ _ (runA P words l) wr (by rw [HG.out.m]; unfold maxLen; omega) (by rw [HG.out.c, HL.out]; unfold maxLen; omega) (by have := HG.out.o; rw [HLL.out] at this; unfold maxLen; omega) HQ.out.mach HUU.out.mach).mono ?_
      rintro e w6 ⟨rfl, hb6⟩
      have HK7 := Lib.hid (HK.out.below hb6)
      have HQ7 := Lib.hid (HQ.out.below hb6)
      have HB7 : Hid (Below w.heap.size w w6) := HBE.out.trans (hb6.mono HBE.out.size)
      clear hb6 cZ cK
      have cK := HK7.out.c
      go_wp2_with fail
      have hr := right_any4 p cap P (.agg #[.slice q1 n1 k1, .slice q2 n2 k2, .slice q3 n3 k3]) (runA P words l) w6 (HP.out.below HB7.out) HQ7.out.mach
      rw [HL.out, HR.out] at hr
      refine hr.mono ?_
      clear hr
      rintro e w8 ⟨rfl, hb8⟩
      have HB8 : Hid (Below w.heap.size w w8) := HB7.out.trans (hb8.mono HB7.out.size)
      clear hb8 cK
      go_wp2
      go_ret
      exact ⟨rfl, HB8.out⟩

theorem runs_walk (p pp : Option Addr) (cap pcap : Nat) (words : Int) (P : List (List I5)) (l : List Int) (w : World) (hp : Prgs w p P) (hpp : Sl w pp l.length (intC l)) :
    Calls Try.prog 4 #[.slice p P.length cap, .int .i64 words, .slice pp l.length pcap] w fun e w' => e = .returned (.bool true) ∧ Below w.heap.size w w' := by
  by_cases h : shortB P = false ∨ 300 < l.length
  · exact runs_out p pp _ cap _ pcap words P w rfl hp h
  · have hs : shortB P = true := by
      cases hh : shortB P with
      | true => rfl
      | false => exact (h (.inl hh)).elim
    have hl : l.length ≤ 300 := by omega
    cases hn : newOk P words with
    | false => exact runs_no p pp _ cap _ pcap words P w rfl hp hs hl hn
    | true =>
      have := newOk_has hn
      obtain ⟨k, rfl⟩ := Int.eq_ofNat_of_zero_le (show 0 ≤ words by omega)
      exact runs_main p pp _ cap _ pcap k P l w rfl hp hs hl hn rfl hpp
end Go.Proofs.Ytekiialhljfglaa
/- AtomRight: the walk of the statement's function. -/
namespace Go.Proofs.Ytekiialhljfglaa
set_option linter.unusedVariables false
open Go.ChangeShapes Go.WideShapes Go.ChangeAt Go.RowKit

def newRes (P : List (List I5)) (words : Int) : Atm := if newOk P words then newA P.length words.toNat else nilA
def newErr (P : List (List I5)) (words : Int) : Int := if newOk P words then 0 else 1
theorem newRes_small (P : List (List I5)) (words : Int) (h6 : P.length ≤ 6) : (newRes P words).mem.length ≤ maxLen ∧ (newRes P words).cores.length ≤ maxLen ∧ (newRes P words).outs.length ≤ maxLen := by
  unfold newRes
  cases h : newOk P words with
  | false =>
    rw [if_neg (by simp)]
    exact ⟨by decide, by decide, by decide⟩
  | true =>
    have hn := newOk_has h
    rw [if_pos rfl, newA_mem, newA_cores]
    exact ⟨by unfold maxLen; omega, by unfold maxLen; omega, by unfold newA maxLen; simp⟩
theorem OwnM.form9 {w : World} {base : Nat} {vm vc vo : Value} {a : Atm} (h : OwnM w base vm vc vo a) : ∃ pm lm cm pc lc cc po lo co, vm = .slice pm lm cm ∧ vc = .slice pc lc cc ∧ vo = .slice po lo co := by
  obtain ⟨pm, lm, cm, e1⟩ := form_of h.m
  obtain ⟨pc, lc, cc, e2⟩ := form_of h.c
  obtain ⟨po, lo, co, e3⟩ := form_of h.o
  exact ⟨pm, lm, cm, pc, lc, cc, po, lo, co, e1, e2, e3⟩
theorem New_res (p : Option Addr) (cap : Nat) (words : Int) (P : List (List I5)) (w : World) (hp : Prgs w p P) :
    Calls Try.prog 14 #[.slice p P.length cap, .int .i64 words] w fun e w' => ∃ pm lm cm pc lc cc po lo co, e = .returned (.tuple #[.agg #[.slice pm lm cm, .slice pc lc cc, .slice po lo co], .int .i64 (newErr P words)]) ∧ Mach w' (.agg #[.slice pm lm cm, .slice pc lc cc, .slice po lo co]) (newRes P words) ∧ Below w.heap.size w w' := by
  cases h : newOk P words with
  | false =>
    refine (new_no p _ cap words P w rfl hp (newOk_not h)).mono fun e w' ⟨he, hb⟩ => ⟨none, 0, 0, none, 0, 0, none, 0, 0, ?_, ?_, hb⟩
    · rw [he]; unfold newErr; rw [h]; rfl
    · unfold newRes; rw [h]; exact Mach.nil _
  | true =>
    have hn := newOk_has h
    obtain ⟨k, rfl⟩ := Int.eq_ofNat_of_zero_le (show 0 ≤ words by omega)
    have hal := all_len hn.2.2
    refine (new_yes p _ cap k P w rfl hp (by omega) (by omega) hn.2.2 hal.2).mono fun e w' ⟨vm, vc, vo, he, ho, hb⟩ => ?_
    obtain ⟨pm, lm, cm, pc, lc, cc, po, lo, co, rfl, rfl, rfl⟩ := ho.form9
    refine ⟨pm, lm, cm, pc, lc, cc, po, lo, co, ?_, ?_, hb⟩
    · rw [he]; unfold newErr; rw [h]; rfl
    · unfold newRes; rw [h]; exact ho.mach
theorem NewR_res (p : Option Addr) (cap : Nat) (words : Int) (P : List (List I5)) (w : World) (h6 : P.length ≤ 6) (hp : Prgs w p P) :
    Calls Try.prog 15 #[.slice p P.length cap, .int .i64 words] w fun e w' => ∃ pm lm cm pc lc cc po lo co, e = .returned (.tuple #[.agg #[.slice pm lm cm, .slice pc lc cc, .slice po lo co], .int .i64 (newErr P words)]) ∧ Mach w' (.agg #[.slice pm lm cm, .slice pc lc cc, .slice po lo co]) (newRes P words) ∧ Below w.heap.size w w' := by
  cases h : newOk P words with
  | false =>
    refine (newR_no p _ cap words P w rfl h6 hp (newOk_not h)).mono fun e w' ⟨he, hb⟩ => ⟨none, 0, 0, none, 0, 0, none, 0, 0, ?_, ?_, hb⟩
    · rw [he]; unfold newErr; rw [h]; rfl
    · unfold newRes; rw [h]; exact Mach.nil _
  | true =>
    have hn := newOk_has h
    obtain ⟨k, rfl⟩ := Int.eq_ofNat_of_zero_le (show 0 ≤ words by omega)
    have hal := all_len hn.2.2
    refine (newR_yes p _ cap k P w rfl hp (by omega) (by omega) hn.2.2 hal.2).mono fun e w' ⟨vm, vc, vo, he, ho, hb⟩ => ?_
    obtain ⟨pm, lm, cm, pc, lc, cc, po, lo, co, rfl, rfl, rfl⟩ := ho.form9
    refine ⟨pm, lm, cm, pc, lc, cc, po, lo, co, ?_, ?_, hb⟩
    · rw [he]; unfold newErr; rw [h]; rfl
    · unfold newRes; rw [h]; exact ho.mach
theorem Step_res (p : Option Addr) (cap : Nat) (v : Value) (n : Int) (P : List (List I5)) (a : Atm) (w : World) (hp : Prgs w p P) (hv : Mach w v a) (m1 : a.mem.length * 4 ≤ 140737488355328) (m2 : a.cores.length * 48 ≤ 140737488355328) (m3 : (a.outs.length + 1) * 16 ≤ 140737488355328) (hf : rightA P a = true → a.Fits) :
    Calls Try.prog 19 #[.slice p P.length cap, v, .int .i64 n] w fun e w' => ∃ pm lm cm pc lc cc po lo co, e = .returned (.tuple #[.agg #[.slice pm lm cm, .slice pc lc cc, .slice po lo co], .int .i64 (stepErr P a n)]) ∧ OwnM w' w.heap.size (.slice pm lm cm) (.slice pc lc cc) (.slice po lo co) (stepRes P a n) ∧ Below w.heap.size w w' :=
  (Step_any p cap v n P a w hp hv m1 m2 m3 hf).mono fun e w' ⟨vm, vc, vo, he, ho, hb⟩ => by
    obtain ⟨pm, lm, cm, pc, lc, cc, po, lo, co, rfl, rfl, rfl⟩ := ho.form9
    exact ⟨_, _, _, _, _, _, _, _, _, he, ho, hb⟩

set_option maxHeartbeats 1000000 in
theorem right_out (p pm pc po : Option Addr) (np cap lm cm lc cc lo co : Nat) (n words k at_ v o : Int) (P : List (List I5)) (w : World) (hl : P.length = np) (hp : Prgs w p P) (h : shortB P = false ∨ 100 < lm ∨ 6 < lc) :
    Calls Try.prog 3 #[.slice p np cap, .agg #[.slice pm lm cm, .slice pc lc cc, .slice po lo co], .int .i64 n, .int .i64 words, .agg #[.int .i64 k, .int .i64 at_, .int .u32 v, .int .u32 o]] w fun e w' => e = .returned (.bool true) ∧ Below w.heap.size w w' := by
  have HL := Lib.hid hl
  have HP := Lib.hid hp
  have H := Lib.hid h
  obtain ⟨t, ht⟩ : ∃ t, t = shortB P := ⟨_, rfl⟩
  have HT := Lib.hid ht
  clear hl hp h ht
  go_enter Try.func3, Try.ntmps3
  go_wp2_with fail
  have HB0 : Hid (Below w.heap.size w ((w.alloc (.cells #[.slice pm lm cm, .slice pc lc cc, .slice po lo co] 27)).alloc (.cells #[.int .i64 k, .int .i64 at_, .int .u32 v, .int .u32 o] 30))) := ((Below.refl _ _).alloc (Nat.le_refl _) _).alloc (by simp) _
  refine (awake_any _).mono ?_
  rintro e w1 ⟨rfl, hb1⟩
  have HK1 : Hid (Blk w1 w.heap.size #[.slice pm lm cm, .slice pc lc cc, .slice po lo co]) := Blk.track2 hb1
  have HB1 : Hid (Below w.heap.size w w1) := HB0.out.trans (hb1.mono HB0.out.size)
  clear hb1
  have cB := HK1.out.c
  go_wp2_with fail
  have hsh := short_any p cap P w1 (HP.out.below HB1.out)
  rw [HL.out, ← HT.out] at hsh
  refine hsh.mono ?_
  clear hsh
  rintro e w2 ⟨rfl, rfl⟩
  cases t with
  | false =>
    go_wp2
    go_ret
    exact ⟨rfl, HB1.out⟩
  | true =>
    by_cases h1 : 100 < lm
    · have d1 : decide (100 < (lm : Int)) = true := decide_eq_true (by omega)
      clear h1
      go_wp2
      go_ret
      exact ⟨rfl, HB1.out⟩
    · have d1 : decide (100 < (lm : Int)) = false := decide_eq_false (by omega)
      have d2 : decide (6 < (lc : Int)) = true := decide_eq_true (by
        rcases H.out with h | h | h
        · rw [← HT.out] at h; cases h
        · omega
        · omega)
      clear h1
      go_wp2
      go_ret
      exact ⟨rfl, HB1.out⟩

set_option maxHeartbeats 2000000 in
theorem right_main (p pm pc po : Option Addr) (np cap lm cm lc cc lo co : Nat) (n words k at_ v o : Int) (P : List (List I5)) (a : Atm) (w : World) (hl : P.length = np) (hp : Prgs w p P) (hs : shortB P = true) (h100 : lm ≤ 100) (h6 : lc ≤ 6) (hM : Mach w (.agg #[.slice pm lm cm, .slice pc lc cc, .slice po lo co]) a) (h1 : a.mem.length = lm) (h2 : a.cores.length = lc) (h3 : a.outs.length = lo) (s1 : Sl w pm lm (memC a.mem)) (s2 : Sl w pc lc (coresC a.cores)) (hf : a.Fits) (hmo : (lo + 1) * 16 ≤ 140737488355328) :
    Calls Try.prog 3 #[.slice p np cap, .agg #[.slice pm lm cm, .slice pc lc cc, .slice po lo co], .int .i64 n, .int .i64 words, .agg #[.int .i64 k, .int .i64 at_, .int .u32 v, .int .u32 o]] w fun e w' => e = .returned (.bool true) ∧ Below w.heap.size w w' := by
  have HL := Lib.hid hl
  have HP := Lib.hid hp
  have HS := Lib.hid hs
  have HM := Lib.hid hM
  have H1 := Lib.hid h1
  have H2 := Lib.hid h2
  have H3 := Lib.hid h3
  have S1 := Lib.hid s1
  have S2 := Lib.hid s2
  have HF := Lib.hid hf
  have HMO := Lib.hid hmo
  have d1 : decide (100 < (lm : Int)) = false := decide_eq_false (by omega)
  have d2 : decide (6 < (lc : Int)) = false := decide_eq_false (by omega)
  clear hl hp hs hM h1 h2 h3 s1 s2 hf hmo
  go_enter Try.func3, Try.ntmps3
  go_wp2_with fail
  have HB0 : Hid (Below w.heap.size w ((w.alloc (.cells #[.slice pm lm cm, .slice pc lc cc, .slice po lo co] 27)).alloc (.cells #[.int .i64 k, .int .i64 at_, .int .u32 v, .int .u32 o] 30))) := ((Below.refl _ _).alloc (Nat.le_refl _) _).alloc (by simp) _
  refine (awake_any _).mono ?_
  rintro e w1 ⟨rfl, hb1⟩
  have HK1 : Hid (Blk w1 w.heap.size #[.slice pm lm cm, .slice pc lc cc, .slice po lo co]) := Blk.track2 hb1
  have HW1 : Hid (Blk w1 (w.heap.size + 1) #[.int .i64 k, .int .i64 at_, .int .u32 v, .int .u32 o]) := by
    have h := (Blk.new (w.alloc (.cells #[.slice pm lm cm, .slice pc lc cc, .slice po lo co] 27)) #[.int .i64 k, .int .i64 at_, .int .u32 v, .int .u32 o] 30).below hb1
    rw [World.size_alloc] at h
    exact h
  have HB1 : Hid (Below w.heap.size w w1) := HB0.out.trans (hb1.mono HB0.out.size)
  clear hb1
  have cB := HK1.out.c
  go_wp2_with fail
  have hsh := short_any p cap P w1 (HP.out.below HB1.out)
  rw [HL.out, HS.out] at hsh
  refine hsh.mono ?_
  clear hsh
  rintro e w2 ⟨rfl, rfl⟩
  have x0 : w1.cell? ⟨w.heap.size + 1, 0, none⟩ = some (.int .i64 k) := HW1.out.c 0
  have x1 : w1.cell? ⟨w.heap.size + 1, 1, none⟩ = some (.int .i64 at_) := HW1.out.c 1
  have x2 : w1.cell? ⟨w.heap.size + 1, 2, none⟩ = some (.int .u32 v) := HW1.out.c 2
  have x3 : w1.cell? ⟨w.heap.size + 1, 3, none⟩ = some (.int .u32 o) := HW1.out.c 3
  go_wp2_with fail
  refine (Act_any pm lm cm a.mem ⟨k, at_, v, o⟩ w1 H1.out (by omega) (S1.out.below HB1.out)).mono ?_
  rintro e w3 ⟨q3, c3, rfl, hs3, hb3⟩
  have HS3 := Lib.hid hs3
  have HK3 := Lib.hid (HK1.out.below hb3)
  have HW3 := Lib.hid (HW1.out.below hb3)
  have HB3 : Hid (Below w.heap.size w w3) := HB1.out.trans (hb3.mono HB1.out.size)
  clear hs3 hb3 cB x0 x1 x2 x3 HK1 HW1
  have cB := HK3.out.c
  have x0 : w3.cell? ⟨w.heap.size + 1, 0, none⟩ = some (.int .i64 k) := HW3.out.c 0
  have x1 : w3.cell? ⟨w.heap.size + 1, 1, none⟩ = some (.int .i64 at_) := HW3.out.c 1
  have x2 : w3.cell? ⟨w.heap.size + 1, 2, none⟩ = some (.int .u32 v) := HW3.out.c 2
  have x3 : w3.cell? ⟨w.heap.size + 1, 3, none⟩ = some (.int .u32 o) := HW3.out.c 3
  go_wp2_with fail
  have hact := actR_any pm cm a.mem ⟨k, at_, v, o⟩ w3 (by rw [H1.out]; omega) (by rw [H1.out]; exact S1.out.below HB3.out)
  rw [H1.out] at hact
  refine hact.mono ?_
  clear hact
  rintro e w4 ⟨q4, c4, rfl, hs4, _, hb4⟩
  have HS4 := Lib.hid hs4
  have HS34 := Lib.hid (HS3.out.below hb4)
  have HK4 := Lib.hid (HK3.out.below hb4)
  have HB4 : Hid (Below w.heap.size w w4) := HB3.out.trans (hb4.mono HB3.out.size)
  clear hs4 hb4 cB x0 x1 x2 x3 HK3 HW3 HS3
  obtain ⟨was, hwas⟩ : ∃ was, was = actWas a.mem ⟨k, at_, v, o⟩ := ⟨_, rfl⟩
  rw [← hwas]
  obtain ⟨mem', hmem'⟩ : ∃ m, m = actMem a.mem ⟨k, at_, v, o⟩ := ⟨_, rfl⟩
  rw [← hmem'] at HS4 HS34
  have HLM : Hid (mem'.length = lm) := by show mem'.length = lm; rw [hmem', actMem_len, H1.out]
  clear hwas hmem'
  have ew : (was != was) = false := by simp
  obtain ⟨ov, hov⟩ : ∃ ov, ov = overA a.cores := ⟨_, rfl⟩
  have HOV := Lib.hid hov
  clear hov
  go_wp2_with fail
  refine region_plan (fun w' : World => ∀ j, w'.cell? ⟨w.heap.size, j, none⟩ = (#[.slice pm lm cm, .slice pc lc cc, .slice po lo co] : Array Value)[j]?) 15 [(0, true), (1, true), (2, false), (3, true), (4, true), (5, true), (6, true), (7, true), (8, true), (9, true), (10, true), (12, true), (13, true), (11, false), (14, false)] (by kernel_rfl) (by kernel_rfl) HK4.out.c ?_
  iterate 2
    refine plan_read (v := ?_) rfl (by rfl) ?_ ?_
    rotate_left
    · intro w' hS
      try dsimp only at hS
      go_simp
      try with_reducible rfl
    try simp only [Act.put, List.setIfInBounds_toArray, List.set_cons_zero, List.set_cons_succ, List.getElem_toArray, List.getElem_cons_zero, List.getElem_cons_succ]
  refine plan_call (F := 11) (args := ?_) rfl (by rfl) ?_ ?_
  rotate_left
  · go_simp
    rfl
  refine (words_same q3 q4 lm c3 c4 mem' w4.drew HLM.out (by unfold maxLen; omega) (HS34.out.below (Below.refl _ _).drew) (HS4.out.below (Below.refl _ _).drew)).mono ?_
  rintro e w5 ⟨rfl, hb5⟩
  have HB5 : Hid (Below w4.heap.size w4 w5) := (Below.refl _ _).drew.trans hb5
  refine ⟨_, rfl, (HK4.out.below HB5.out).c, ?_⟩
  clear hb5
  try simp only [Act.put, List.setIfInBounds_toArray, List.set_cons_zero, List.set_cons_succ, List.getElem_toArray, List.getElem_cons_zero, List.getElem_cons_succ]
  iterate 10
    refine plan_read (v := ?_) rfl (by rfl) ?_ ?_
    rotate_left
    · intro w' hS
      try dsimp only at hS
      go_simp
      try with_reducible rfl
    try simp only [Act.put, List.setIfInBounds_toArray, List.set_cons_zero, List.set_cons_succ, List.getElem_toArray, List.getElem_cons_zero, List.getElem_cons_succ]
  refine plan_call (F := 12) (args := ?_) rfl (by rfl) ?_ ?_
  rotate_left
  · go_simp
    rfl
  refine (over_any pm pc po lm cm lc cc lo co a.cores w5 H2.out (by unfold maxLen; omega) ((S2.out.below HB4.out).below HB5.out)).mono ?_
  rintro e w6 ⟨rfl, hb6⟩
  rw [← HOV.out]
  have HB6 : Hid (Below w4.heap.size w4 w6) := HB5.out.trans (hb6.mono HB5.out.size)
  refine ⟨_, rfl, (HK4.out.below HB6.out).c, ?_⟩
  clear hb6
  try simp only [Act.put, List.setIfInBounds_toArray, List.set_cons_zero, List.set_cons_succ, List.getElem_toArray, List.getElem_cons_zero, List.getElem_cons_succ]
  refine plan_call (F := 13) (args := ?_) rfl (by rfl) ?_ ?_
  rotate_left
  · go_simp
    rfl
  refine (overR_any pm pc po lm cm lc cc lo co a.cores w6 H2.out (by unfold maxLen; omega) ((S2.out.below HB4.out).below HB6.out)).mono ?_
  rintro e w7 ⟨rfl, hb7⟩
  rw [← HOV.out]
  have HB7' : Hid (Below w4.heap.size w4 w7) := HB6.out.trans (hb7.mono HB6.out.size)
  refine ⟨_, rfl, (HK4.out.below HB7'.out).c, ?_⟩
  refine plan_nil ?_
  clear hb7
  try simp only [Act.put, List.setIfInBounds_toArray, List.set_cons_zero, List.set_cons_succ, List.getElem_toArray, List.getElem_cons_zero, List.getElem_cons_succ]
  simp only [List.drop_succ_cons, List.drop_zero]
  have HK7 := Lib.hid (HK4.out.below HB7'.out)
  have HB7 : Hid (Below w.heap.size w w7) := HB4.out.trans (HB7'.out.mono HB4.out.size)
  clear HB5 HB6 HB7' HK4 HS4 HS34
  have eo : (ov != ov) = false := by simp
  go_wp2_with fail
  have hnw := New_res p cap words P w7 (HP.out.below HB7.out)
  rw [HL.out] at hnw
  refine hnw.mono ?_
  clear hnw
  rintro e w8 ⟨a1, a2, a3, a4, a5, a6, a7, a8, a9, rfl, hm8, hb8⟩
  have HM8 := Lib.hid hm8
  have HK8 := Lib.hid (HK7.out.below hb8)
  have HB8 : Hid (Below w.heap.size w w8) := HB7.out.trans (hb8.mono HB7.out.size)
  clear hm8 hb8
  obtain ⟨er, her⟩ : ∃ er, er = newErr P words := ⟨_, rfl⟩
  have HER := Lib.hid her
  rw [← her]
  clear her
  go_wp2_with fail
  have HX9 : Hid (Blk (w8.alloc (.cells #[.slice a1 a2 a3, .slice a4 a5 a6, .slice a7 a8 a9] 27)) w8.heap.size #[.slice a1 a2 a3, .slice a4 a5 a6, .slice a7 a8 a9]) := Blk.new w8 _ 27
  have HA9 : Hid (Below w8.heap.size w8 (w8.alloc (.cells #[.slice a1 a2 a3, .slice a4 a5 a6, .slice a7 a8 a9] 27))) := (Below.refl _ _).alloc (Nat.le_refl _) _
  have HB9 : Hid (Below w.heap.size w (w8.alloc (.cells #[.slice a1 a2 a3, .slice a4 a5 a6, .slice a7 a8 a9] 27))) := HB8.out.alloc HB8.out.size _
  have hnw := NewR_res p cap words P (w8.alloc (.cells #[.slice a1 a2 a3, .slice a4 a5 a6, .slice a7 a8 a9] 27)) (short_few HS.out) (HP.out.below HB9.out)
  rw [HL.out, ← HER.out] at hnw
  refine hnw.mono ?_
  clear hnw
  rintro e w10 ⟨b1, b2, b3, b4, b5, b6, b7, b8, b9, rfl, hm10, hb10⟩
  have HX10 := Lib.hid (HX9.out.below hb10)
  have HN10 := Lib.hid ((HM8.out.below HA9.out).below hb10)
  have HK10 := Lib.hid ((HK8.out.below HA9.out).below hb10)
  have HM10 := Lib.hid hm10
  have HB10 : Hid (Below w.heap.size w w10) := HB9.out.trans (hb10.mono HB9.out.size)
  clear hm10 hb10 HX9 HA9 HB9 HM8 HK8
  go_upto_region 11 with fail
  obtain ⟨W, hW⟩ : ∃ W, W = w10.alloc (.cells #[.slice b1 b2 b3, .slice b4 b5 b6, .slice b7 b8 b9] 27) := ⟨_, rfl⟩
  have HA11 : Hid (Below w10.heap.size w10 W) := by rw [hW]; exact (Below.refl _ _).alloc (Nat.le_refl _) _
  have HY11 : Hid (Blk W w10.heap.size #[.slice b1 b2 b3, .slice b4 b5 b6, .slice b7 b8 b9]) := by rw [hW]; exact Blk.new w10 _ 27
  rw [← hW]
  clear hW
  have HX11 := Lib.hid (HX10.out.below HA11.out)
  have HN11 := Lib.hid (HN10.out.below HA11.out)
  have HM11 := Lib.hid (HM10.out.below HA11.out)
  have HK11 := Lib.hid (HK10.out.below HA11.out)
  have HB11 : Hid (Below w.heap.size w W) := HB10.out.trans (HA11.out.mono HB10.out.size)
  clear HA11 HX10 HN10 HM10 HK10
  have HSM := Lib.hid (newRes_small P words (short_few HS.out))
  obtain ⟨tr, htr⟩ : ∃ tr, tr = rightA P a := ⟨_, rfl⟩
  have HTR := Lib.hid htr
  clear htr
  have et : (tr != tr) = false := by simp
  have ee : (er != er) = false := by simp
  refine region_plan (fun w' : World => (∀ j, w'.cell? ⟨w8.heap.size, j, none⟩ = (#[.slice a1 a2 a3, .slice a4 a5 a6, .slice a7 a8 a9] : Array Value)[j]?) ∧ (∀ j, w'.cell? ⟨w10.heap.size, j, none⟩ = (#[.slice b1 b2 b3, .slice b4 b5 b6, .slice b7 b8 b9] : Array Value)[j]?) ∧ (∀ j, w'.cell? ⟨w.heap.size, j, none⟩ = (#[.slice pm lm cm, .slice pc lc cc, .slice po lo co] : Array Value)[j]?)) 16 [(0, true), (1, true), (2, false), (3, true), (4, true), (5, true), (6, true), (7, true), (8, true), (9, true), (10, true), (11, true), (13, true), (14, true), (12, false), (15, false)] (by kernel_rfl) (by kernel_rfl) ⟨HX11.out.c, HY11.out.c, HK11.out.c⟩ ?_
  iterate 2
    refine plan_read (v := ?_) rfl (by rfl) ?_ ?_
    rotate_left
    · intro w' hS
      try dsimp only at hS
      go_simp
      try with_reducible rfl
    try simp only [Act.put, List.setIfInBounds_toArray, List.set_cons_zero, List.set_cons_succ, List.getElem_toArray, List.getElem_cons_zero, List.getElem_cons_succ]
  refine plan_call (F := 16) (args := ?_) rfl (by rfl) ?_ ?_
  rotate_left
  · go_simp
    rfl
  refine (same_any _ _ (newRes P words) W.drew HSM.out.1 HSM.out.2.1 HSM.out.2.2 (HN11.out.below (Below.refl _ _).drew) (HM11.out.below (Below.refl _ _).drew)).mono ?_
  rintro e w12 ⟨rfl, hb12⟩
  have HB12 : Hid (Below W.heap.size W w12) := (Below.refl _ _).drew.trans hb12
  refine ⟨_, rfl, ⟨(HX11.out.below HB12.out).c, (HY11.out.below HB12.out).c, (HK11.out.below HB12.out).c⟩, ?_⟩
  clear hb12
  try simp only [Act.put, List.setIfInBounds_toArray, List.set_cons_zero, List.set_cons_succ, List.getElem_toArray, List.getElem_cons_zero, List.getElem_cons_succ]
  iterate 11
    refine plan_read (v := ?_) rfl (by rfl) ?_ ?_
    rotate_left
    · intro w' hS
      try dsimp only at hS
      go_simp
      try with_reducible rfl
    try simp only [Act.put, List.setIfInBounds_toArray, List.set_cons_zero, List.set_cons_succ, List.getElem_toArray, List.getElem_cons_zero, List.getElem_cons_succ]
  refine plan_call (F := 17) (args := ?_) rfl (by rfl) ?_ ?_
  rotate_left
  · go_simp
    rfl
  have hr := right_any4 p cap P (.agg #[.slice pm lm cm, .slice pc lc cc, .slice po lo co]) a w12 ((HP.out.below HB11.out).below HB12.out) ((HM.out.below HB11.out).below HB12.out)
  rw [HL.out, ← HTR.out] at hr
  refine hr.mono ?_
  clear hr
  rintro e w13 ⟨rfl, hb13⟩
  have HB13 : Hid (Below W.heap.size W w13) := HB12.out.trans (hb13.mono HB12.out.size)
  refine ⟨_, rfl, ⟨(HX11.out.below HB13.out).c, (HY11.out.below HB13.out).c, (HK11.out.below HB13.out).c⟩, ?_⟩
  clear hb13
  try simp only [Act.put, List.setIfInBounds_toArray, List.set_cons_zero, List.set_cons_succ, List.getElem_toArray, List.getElem_cons_zero, List.getElem_cons_succ]
  refine plan_call (F := 18) (args := ?_) rfl (by rfl) ?_ ?_
  rotate_left
  · go_simp
    rfl
  have hr := rightR4_any p cap P (.agg #[.slice pm lm cm, .slice pc lc cc, .slice po lo co]) a w13 (short_few HS.out) ((HP.out.below HB11.out).below HB13.out) ((HM.out.below HB11.out).below HB13.out)
  rw [HL.out, ← HTR.out] at hr
  refine hr.mono ?_
  clear hr
  rintro e w14 ⟨rfl, hb14⟩
  have HB14' : Hid (Below W.heap.size W w14) := HB13.out.trans (hb14.mono HB13.out.size)
  refine ⟨_, rfl, ⟨(HX11.out.below HB14'.out).c, (HY11.out.below HB14'.out).c, (HK11.out.below HB14'.out).c⟩, ?_⟩
  refine plan_nil ?_
  clear hb14
  try simp only [Act.put, List.setIfInBounds_toArray, List.set_cons_zero, List.set_cons_succ, List.getElem_toArray, List.getElem_cons_zero, List.getElem_cons_succ]
  simp only [List.drop_succ_cons, List.drop_zero]
  have HK14 := Lib.hid (HK11.out.below HB14'.out)
  have HB14 : Hid (Below w.heap.size w w14) := HB11.out.trans (HB14'.out.mono HB11.out.size)
  clear HB12 HB13 HB14' HX11 HY11 HN11 HM11 HK11
  have cB := HK14.out.c
  go_wp2_with fail
  have hst := Step_res p cap (.agg #[.slice pm lm cm, .slice pc lc cc, .slice po lo co]) n P a w14 (HP.out.below HB14.out) (HM.out.below HB14.out) (by rw [H1.out]; omega) (by rw [H2.out]; omega) (by rw [H3.out]; exact HMO.out) (fun _ => HF.out)
  rw [HL.out] at hst
  refine hst.mono ?_
  clear hst
  rintro e w15 ⟨g1, g2, g3, g4, g5, g6, g7, g8, g9, rfl, ho15, hb15⟩
  have HD15 := Lib.hid ho15.mach
  have HK15 := Lib.hid (HK14.out.below hb15)
  have HB15 : Hid (Below w.heap.size w w15) := HB14.out.trans (hb15.mono HB14.out.size)
  clear ho15 hb15 cB HK14
  obtain ⟨es, hes⟩ : ∃ es, es = stepErr P a n := ⟨_, rfl⟩
  have HES := Lib.hid hes
  rw [← hes]
  clear hes
  go_upto_region 14 with fail
  obtain ⟨V, hV⟩ : ∃ V, V = w15.alloc (.cells #[.slice g1 g2 g3, .slice g4 g5 g6, .slice g7 g8 g9] 27) := ⟨_, rfl⟩
  have HA16 : Hid (Below w15.heap.size w15 V) := by rw [hV]; exact (Below.refl _ _).alloc (Nat.le_refl _) _
  have HZ16 : Hid (Blk V w15.heap.size #[.slice g1 g2 g3, .slice g4 g5 g6, .slice g7 g8 g9]) := by rw [hV]; exact Blk.new w15 _ 27
  rw [← hV]
  clear hV
  have HD16 := Lib.hid (HD15.out.below HA16.out)
  have HK16 := Lib.hid (HK15.out.below HA16.out)
  have HB16 : Hid (Below w.heap.size w V) := HB15.out.trans (HA16.out.mono HB15.out.size)
  clear HA16 HD15 HK15
  have cB := HK16.out.c
  go_wp2_with fail
  have hr := rightR4_any p cap P (.agg #[.slice pm lm cm, .slice pc lc cc, .slice po lo co]) a V (short_few HS.out) (HP.out.below HB16.out) (HM.out.below HB16.out)
  rw [HL.out, ← HTR.out] at hr
  refine hr.mono ?_
  clear hr
  rintro e w17 ⟨rfl, hb17⟩
  have HD17 := Lib.hid (HD16.out.below hb17)
  have HZ17 := Lib.hid (HZ16.out.below hb17)
  have HK17 := Lib.hid (HK16.out.below hb17)
  have HB17 : Hid (Below w.heap.size w w17) := HB16.out.trans (hb17.mono HB16.out.size)
  clear hb17 cB HD16 HZ16 HK16
  have cB := HK17.out.c
  have cZ := HZ17.out.c
  have HLN : Hid (a.mem.length ≤ maxLen ∧ a.cores.length ≤ maxLen ∧ a.outs.length ≤ maxLen) := ⟨by rw [H1.out]; unfold maxLen; omega, by rw [H2.out]; unfold maxLen; omega, by have := HMO.out; rw [H3.out]; unfold maxLen; omega⟩
  have bad : Hid (stepOk P a n = false → es = 1 ∧ stepRes P a n = a) := fun h => ⟨by rw [HES.out]; unfold stepErr; rw [h]; rfl, by unfold stepRes; rw [h]; rfl⟩
  have HSB : Hid (∀ W' : World, Below w17.heap.size w17 W' → stepOk P a n = false → Calls Try.prog 16 #[.agg #[.slice g1 g2 g3, .slice g4 g5 g6, .slice g7 g8 g9], .agg #[.slice pm lm cm, .slice pc lc cc, .slice po lo co]] W' fun e w' => e = .returned (.bool true) ∧ Below W'.heap.size W' w') := fun W' hb' h => by
    have hd := HD17.out.below hb'
    rw [(bad.out h).2] at hd
    exact same_any _ _ a W' HLN.out.1 HLN.out.2.1 HLN.out.2.2 hd ((HM.out.below HB17.out).below hb')
  cases tr with
  | false =>
    have hb0 : stepOk P a n = false := by unfold stepOk; rw [← HTR.out]; simp
    have he := (bad.out hb0).1
    subst he
    have HB0' := Lib.hid hb0
    clear hb0
    go_wp2_with fail
    refine (HSB.out _ (Below.refl _ _) HB0'.out).mono ?_
    rintro e w18 ⟨rfl, hb18⟩
    have HB18 : Hid (Below w.heap.size w w18) := HB17.out.trans (hb18.mono HB17.out.size)
    clear hb18 cB cZ
    go_wp2
    go_ret
    exact ⟨rfl, HB18.out⟩
  | true =>
    have hra := right_all HTR.out.symm
    by_cases hn0 : n < 0
    · have hb0 : stepOk P a n = false := by unfold stepOk; rw [decide_eq_false (p := 0 ≤ n) (by omega)]; rfl
      have e0 : decide (n < 0) = true := decide_eq_true hn0
      have he := (bad.out hb0).1
      subst he
      have HB0' := Lib.hid hb0
      clear hb0 hra hn0
      go_wp2_with fail
      refine (HSB.out _ (Below.refl _ _) HB0'.out).mono ?_
      rintro e w18 ⟨rfl, hb18⟩
      have HB18 : Hid (Below w.heap.size w w18) := HB17.out.trans (hb18.mono HB17.out.size)
      clear hb18 cB cZ
      go_wp2
      go_ret
      exact ⟨rfl, HB18.out⟩
    · have e0 : decide (n < 0) = false := decide_eq_false hn0
      by_cases hn1 : (np : Int) ≤ n
      · have hb0 : stepOk P a n = false := by unfold stepOk; rw [decide_eq_false (p := n < (a.cores.length : Int)) (by rw [hra.2.2.1, HL.out]; omega)]; simp
        have e1 : decide ((np : Int) ≤ n) = true := decide_eq_true hn1
        have he := (bad.out hb0).1
        subst he
        have HB0' := Lib.hid hb0
        clear hb0 hra hn0 hn1
        go_wp2_with fail
        refine (HSB.out _ (Below.refl _ _) HB0'.out).mono ?_
        rintro e w18 ⟨rfl, hb18⟩
        have HB18 : Hid (Below w.heap.size w w18) := HB17.out.trans (hb18.mono HB17.out.size)
        clear hb18 cB cZ
        go_wp2
        go_ret
        exact ⟨rfl, HB18.out⟩
      · have e1 : decide ((np : Int) ≤ n) = false := decide_eq_false hn1
        obtain ⟨m, rfl⟩ := Int.eq_ofNat_of_zero_le (show 0 ≤ n by omega)
        have hok : stepOk P a m = true := by
          unfold stepOk
          rw [decide_eq_true (show (0 : Int) ≤ (m : Int) by omega), decide_eq_true (show (m : Int) < (a.cores.length : Int) by rw [hra.2.2.1, HL.out]; omega), ← HTR.out]; rfl
        obtain ⟨he, hsr⟩ : es = 0 ∧ stepRes P a m = stepA P a m := ⟨by rw [HES.out]; unfold stepErr; rw [if_pos hok], by unfold stepRes; rw [if_pos hok]; rfl⟩
        subst he
        have HSR := Lib.hid hsr
        have hmP : m < P.length := by rw [HL.out]; omega
        have e2 : decide (np ≤ m) = false := decide_eq_false (by omega)
        have hlt : m < np := by omega
        clear hok hn0 hn1 hsr
        go_upto_region 16 with fail
        refine region_plan (fun w' : World => (∀ j, w'.cell? ⟨w15.heap.size, j, none⟩ = (#[.slice g1 g2 g3, .slice g4 g5 g6, .slice g7 g8 g9] : Array Value)[j]?) ∧ (∀ j, w'.cell? ⟨w.heap.size, j, none⟩ = (#[.slice pm lm cm, .slice pc lc cc, .slice po lo co] : Array Value)[j]?)) 9 [(0, true), (1, true), (2, true), (3, true), (4, true), (5, true), (6, true), (7, false), (8, false)] (by kernel_rfl) (by kernel_rfl) ⟨HZ17.out.c, HK17.out.c⟩ ?_
        iterate 7
          refine plan_read (v := ?_) rfl (by rfl) ?_ ?_
          rotate_left
          · intro w' hS
            try dsimp only at hS
            go_simp
            try with_reducible rfl
          try simp only [Act.put, List.setIfInBounds_toArray, List.set_cons_zero, List.set_cons_succ, List.getElem_toArray, List.getElem_cons_zero, List.getElem_cons_succ]
        refine plan_call (F := 20) (args := ?_) rfl (by rfl) ?_ ?_
        rotate_left
        · go_simp
          rfl
        have hst := stepR_any p cap P (.agg #[.slice pm lm cm, .slice pc lc cc, .slice po lo co]) a m w17.drew ((HP.out.below HB17.out).below (Below.refl _ _).drew) hmP ((HM.out.below HB17.out).below (Below.refl _ _).drew) hra.2.2.1 HF.out hra.2.1 (short_few HS.out) (by rw [H3.out]; exact HMO.out)
        rw [HL.out] at hst
        refine hst.mono ?_
        clear hst
        rintro e w18 ⟨u18, rfl, hm18, hb18⟩
        have HB18 : Hid (Below w17.heap.size w17 w18) := (Below.refl _ _).drew.trans hb18
        have HM18 := Lib.hid hm18
        refine ⟨_, rfl, ⟨(HZ17.out.below HB18.out).c, (HK17.out.below HB18.out).c⟩, ?_⟩
        clear hb18 hm18
        try simp only [Act.put, List.setIfInBounds_toArray, List.set_cons_zero, List.set_cons_succ, List.getElem_toArray, List.getElem_cons_zero, List.getElem_cons_succ]
        refine plan_call (F := 16) (args := ?_) rfl (by rfl) ?_ ?_
        rotate_left
        · go_simp
          rfl
        refine (same_any _ _ (stepA P a m) w18 (by rw [stepA_mem]; exact HLN.out.1) (by rw [stepA_cores]; exact HLN.out.2.1) (by have := stepA_outs P a m; have h2 := HMO.out; rw [← H3.out] at h2; unfold maxLen; omega) (by have h := HD17.out.below HB18.out; rw [HSR.out] at h; exact h) HM18.out).mono ?_
        rintro e w19 ⟨rfl, hb19⟩
        have HB19' : Hid (Below w17.heap.size w17 w19) := HB18.out.trans (hb19.mono HB18.out.size)
        refine ⟨_, rfl, ⟨(HZ17.out.below HB19'.out).c, (HK17.out.below HB19'.out).c⟩, ?_⟩
        refine plan_nil ?_
        clear hb19
        try simp only [Act.put, List.setIfInBounds_toArray, List.set_cons_zero, List.set_cons_succ, List.getElem_toArray, List.getElem_cons_zero, List.getElem_cons_succ]
        simp only [List.drop_succ_cons, List.drop_zero]
        have HB19 : Hid (Below w.heap.size w w19) := HB17.out.trans (HB19'.out.mono HB17.out.size)
        clear HB18 HB19' cB cZ
        go_wp2
        go_ret
        exact ⟨rfl, HB19.out⟩

theorem right_walk (p : Option Addr) (cap : Nat) (P : List (List I5)) (v0 v1 v2 : Value) (a : Atm) (n words : Int) (x : Wnt) (w : World) (hp : Prgs w p P) (hM : Mach w (.agg #[v0, v1, v2]) a) (hf : a.Fits) (hmo : (a.outs.length + 1) * 16 ≤ 140737488355328) :
    Calls Try.prog 3 #[.slice p P.length cap, .agg #[v0, v1, v2], .int .i64 n, .int .i64 words, .agg x.row] w fun e w' => e = .returned (.bool true) ∧ Below w.heap.size w w' := by
  obtain ⟨k, at_, v, o⟩ := x
  have hM' := hM
  obtain ⟨pm, cm, pc, cc, po, co, e, s1, s2, s3⟩ := hM
  injection e with e
  have e' : [v0, v1, v2] = [.slice pm a.mem.length cm, .slice pc a.cores.length cc, .slice po a.outs.length co] := Array.toList_inj.2 e
  injection e' with e1 e'
  injection e' with e2 e'
  injection e' with e3 _
  subst e1 e2 e3
  by_cases h : shortB P = false ∨ 100 < a.mem.length ∨ 6 < a.cores.length
  · exact right_out p pm pc po _ cap _ cm _ cc _ co n words k at_ v o P w rfl hp h
  · have hs : shortB P = true := by
      cases hh : shortB P with
      | true => rfl
      | false => exact (h (.inl hh)).elim
    exact right_main p pm pc po _ cap _ cm _ cc _ co n words k at_ v o P a w rfl hp hs (by omega) (by omega) hM' rfl rfl rfl s1 s2 hf hmo
end Go.Proofs.Ytekiialhljfglaa
namespace Go.Proofs.Ytekiialhljfglaa.atomRight
open Go.ChangeShapes Go.WideShapes Go.ChangeAt Go.RowKit
open Go.ChangeMaps (open_string shut_string)
set_option linter.unusedVariables false

theorem own : ownKnob Try.prog.godebug = none := by kernel_rfl
theorem laidOut : laidOutB Try.prog = true := by kernel_rfl

set_option maxRecDepth 100000 in
theorem lifted (os : Os) (started : os.Started) (H : Type) (enc : TypeId × Value → H) :
    ReturnsInHanded {} Try.checked os 3 .any (Rows.atomRightSpec.pre6 enc Try.prog Try.f3 Rows.atomRightRow.domain false) (Rows.atomRightSpec.post enc Try.prog Try.f3 false true false false) := by
  refine returnsInHanded_of_change_sized (C := Try.checked) own started (by kernel_rfl) Try.func3
    (ChangeSpec.witness6 (enc := enc) (C := Try.checked) false ⟨#[], #[.slice none 0 0, .agg #[.slice none 0 0, .slice none 0 0, .slice none 0 0], .int .i64 0, .int .i64 0, .agg #[.int .i64 0, .int .i64 0, .int .u32 0, .int .u32 0]], []⟩ 8 (by kernel_rfl) (by kernel_rfl) (by kernel_rfl) (by kernel_rfl)) ?_
  intro W base args ds gs before hval0 hW hcnd hsz0 _
  have hval : ∀ (j : Nat) t v, Try.f3.params[j]? = some t → args[j]? = some v → Value.okWide Try.prog W .any base t v := hval0
  have hW' := hW
  obtain ⟨p, q, hA0, hV, rfl, hfz, hnd⟩ := hW
  have hA : DataW.TrodAll enc Try.prog W 0 (fun _ => true) true Try.f3.params.toList args.toList ds p := hA0
  have hsz : (DataW.weightsEach Try.prog (Try.f3.params.toList ++ Rows.atomRightSpec.plain.varTypes Try.prog) (ds ++ gs)).all (· ≤ reachBytes) = true := hsz0
  rw [Try.params3] at hA hval hsz
  obtain ⟨v0, vs0, d0, ds0, p0, q0, hargs, rfl, rfl, h0, r0⟩ := trodAll_cons hA
  obtain ⟨v1, vs1, d1, ds1, p1, q1, rfl, rfl, rfl, h1, r1⟩ := trodAll_cons r0
  obtain ⟨v2, vs2, d2, ds2, p2, q2, rfl, rfl, rfl, h2, r2⟩ := trodAll_cons r1
  obtain ⟨v3, vs3, d3, ds3, p3, q3, rfl, rfl, rfl, h3, r3⟩ := trodAll_cons r2
  obtain ⟨v4, vs4, d4, ds4, p4, q4, rfl, rfl, rfl, h4, r4⟩ := trodAll_cons r3
  obtain ⟨rfl, rfl, rfl⟩ := trodAll_nil r4
  obtain rfl : args = #[v0, v1, v2, v3, v4] := by cases args; simp_all
  obtain ⟨rfl, rfl⟩ := trodVars_none hV
  have k0 := h0
  have lt0 : ∀ x ∈ p0, x.block < W.heap.size := by obtain ⟨m, hm⟩ := k0; exact DataW.trod_lt m _ _ _ hm
  have k1 := h1
  have lt1 : ∀ x ∈ p1, x.block < W.heap.size := by obtain ⟨m, hm⟩ := k1; exact DataW.trod_lt m _ _ _ hm
  have k2 := h2
  have lt2 : ∀ x ∈ p2, x.block < W.heap.size := by obtain ⟨m, hm⟩ := k2; exact DataW.trod_lt m _ _ _ hm
  have k3 := h3
  have lt3 : ∀ x ∈ p3, x.block < W.heap.size := by obtain ⟨m, hm⟩ := k3; exact DataW.trod_lt m _ _ _ hm
  have k4 := h4
  have lt4 : ∀ x ∈ p4, x.block < W.heap.size := by obtain ⟨m, hm⟩ := k4; exact DataW.trod_lt m _ _ _ hm
  obtain ⟨s0, len0, cap0, rfl⟩ := okWide_slice Try.underlying22 (hval 0 22 v0 rfl rfl)
  obtain ⟨l0, hl0, _, _, hp0⟩ : ∃ l : List (List I5), l.length = len0 ∧ len0 ≤ maxLen ∧ (∀ i, i < len0 → (atP l i).length ≤ maxLen) ∧ Prgs W s0 l := by
    obtain ⟨fuel, hf⟩ := h0
    exact prgs_of_cells hf
  subst hl0
  obtain ⟨cs1, rfl, _⟩ := okWide_struct Try.underlying27 (hval 1 27 v1 rfl rfl)
  obtain ⟨x1, e1a, e1b, e1c, ec1, hm1, fx1, _, _, _, dd1a, dd1b, dd1c, hx1, ho1⟩ : ∃ (a : Atm) (u0 u1 u2 : Value), cs1 = #[u0, u1, u2] ∧ Mach W (.agg #[u0, u1, u2]) a ∧ a.Fits ∧ a.mem.length ≤ maxLen ∧ a.cores.length ≤ maxLen ∧ a.outs.length ≤ maxLen ∧ ∃ f0 f1 f2 : DataW H, d1 = .agg [f0, f1, f2] ∧ (a.outs.length = 0 ∨ ∃ elems sp, f2 = .slice elems sp ∧ elems.length = a.outs.length) := by
    obtain ⟨fuel, hf⟩ := h1
    obtain ⟨a, u0, u1, u2, hc, r⟩ := atom_of_cells hf
    exact ⟨a, u0, u1, u2, Array.toList_inj.1 (by simpa [Value.cells] using hc), r⟩
  subst ec1
  obtain ⟨a2, rfl, rfl, rfl, w2⟩ := open_int Try.underlying3 (hval 2 3 v2 rfl rfl) h2
  obtain ⟨a3, rfl, rfl, rfl, w3⟩ := open_int Try.underlying3 (hval 3 3 v3 rfl rfl) h3
  obtain ⟨cs4, rfl, _⟩ := okWide_struct Try.underlying30 (hval 4 30 v4 rfl rfl)
  obtain ⟨x4, hx4⟩ : ∃ y : Wnt, cs4 = y.row := by
    obtain ⟨fuel, hf⟩ := h4
    obtain ⟨y, hy⟩ := want_of_cells hf
    exact ⟨y, Array.toList_inj.1 (by simpa [Value.cells] using hy)⟩
  subst hx4
  have hmo := outs_sized hsz (j := 1) rfl (by rw [hx1]; rfl) ho1
  clear hA0 hval0
  refine (right_walk s0 cap0 l0 e1a e1b e1c x1 a2 a3 x4 W hp0 hm1 fx1 hmo).mono fun e W' ⟨he, bel⟩ => ?_
  subst he
  exact ⟨_, rfl, _, _, _, [], _, [], hW', trodAll_mk1 (shut_bool Try.underlying4 _), (trodAll_cons_mk (Below.trod laidOut (by kernel_rfl) (of_decide_eq_true (by kernel_rfl)) k0 bel lt0) (trodAll_cons_mk (Below.trod laidOut (by kernel_rfl) (of_decide_eq_true (by kernel_rfl)) k1 bel lt1) (trodAll_cons_mk (Below.trod laidOut (by kernel_rfl) (of_decide_eq_true (by kernel_rfl)) k2 bel lt2) (trodAll_cons_mk (Below.trod laidOut (by kernel_rfl) (of_decide_eq_true (by kernel_rfl)) k3 bel lt3) (trodAll_cons_mk (Below.trod laidOut (by kernel_rfl) (of_decide_eq_true (by kernel_rfl)) k4 bel lt4) trodAll_mk0))))), rfl, bel.frame _, fun h => by cases h⟩

theorem over : Rows.atomRightRow.holds Try.pinned (OpenSpec.ofChange Rows.atomRightSpec) :=
  OpenClaim.holds_of_wide 3 Try.f3 rfl rfl rfl rfl rfl rfl rfl ⟨rfl, rfl, rfl, rfl, rfl⟩ rfl rfl rfl rfl rfl (by kernel_rfl) Try.func3 (by kernel_rfl)
    (of_decide_eq_true (by kernel_rfl)) (by unfold Func.isWrapper; first | (rw [if_pos (by decide +kernel)]; kernel_rfl) | (rw [if_neg (by decide +kernel)]; exact ⟨rfl, rfl⟩))
    (fun os started H enc _ => lifted os started H enc)

/-- The statement. -/
theorem proved : Rows.AtomRightSaid := over
#print axioms proved
end Go.Proofs.Ytekiialhljfglaa.atomRight
