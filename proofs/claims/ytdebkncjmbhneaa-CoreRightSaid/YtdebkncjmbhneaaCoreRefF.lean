/- What the reference's Wants and Done of layer 3 answer, whole: for every program, core, count of words and word what the program answers; they write nothing that was there. -/
import Derived.Test.YtdebkncjmbhneaaCoreRefB
import Derived.Test.YtdebkncjmbhneaaCoreRefD
import Derived.Test.YtdebkncjmbhneaaCoreRefE
import Derived.Test.YtdebkncjmbhneaaCoreF
namespace Go.Proofs.Ytdebkncjmbhneaa
set_option linter.unusedVariables false
open Go.ChangeShapes Go.WideShapes Go.ChangeAt Go.RowKit

theorem wantsR_any (p : Option Addr) (cap : Nat) (l : List I5) (c : Cor) (words : Int) (w : World) (hp : Prg w p l) (hc : c.Fits) (hw : words ≤ 9223372036854775807) :
    Calls Try.prog 10 #[.slice p l.length cap, .agg c.row, .int .i64 words] w fun e w' => e = .returned (.agg (wantOf l c words).row) ∧ Below w.heap.size w w' := by
  obtain ⟨r, pc, h⟩ := c
  cases h with
  | true =>
    refine (wantsR_halted p _ cap l r pc words w rfl hp _ rfl).mono fun e w' he => ⟨he.1.trans (ret_want (a := ⟨5, 0, 0, 0⟩) ?_), he.2⟩
    unfold wantOf; rfl
  | false =>
    cases hr : coreB l ⟨r, pc, false⟩ with
    | false =>
      refine (wantsR_wrong p _ cap l r pc words w rfl hp hr).mono fun e w' he => ⟨he.1.trans (ret_want (a := ⟨5, 0, 0, 0⟩) ?_), he.2⟩
      unfold wantOf; rw [hr]; rfl
    | true =>
      obtain ⟨h0, h1, h2⟩ := core_has hr
      simp only at h0 h1
      obtain ⟨n, rfl⟩ := Int.eq_ofNat_of_zero_le h0
      have hlen := right_has h2
      obtain ⟨b, off, hlt, rfl, hx⟩ := hp (by omega)
      have hn : n < l.length := by omega
      have hxn := hx n hn
      have hm := may_regs (core_ins hr)
      have hins : insAt l ⟨r, n, false⟩ = at5 l n := rfl
      have hW : wantOf l ⟨r, n, false⟩ words = wantX (at5 l n) ⟨r, n, false⟩ words := by unfold wantOf; rw [hr]; rfl
      rw [hins] at hm
      rw [hW]
      obtain ⟨op, a, bb, cc, k, hat⟩ : ∃ op a bb cc k, at5 l n = ⟨op, a, bb, cc, k⟩ := ⟨_, _, _, _, _, rfl⟩
      rw [hat] at hxn hm ⊢
      simp only at hm
      have f0 := hc.r0
      have f1 := hc.r1
      simp only at f0 f1
      by_cases o9 : op = 9
      · subst o9
        obtain ⟨nb, rfl⟩ := Int.eq_ofNat_of_zero_le hm.2.2.1
        have hb : nb < 8 := by omega
        exact (wantsR_read b off _ cap n l nb a cc k r words w rfl hp hr hn hlen.2.1 hlt hxn hb (f0 nb hb) (f1 nb hb) hw).mono fun e w' he => ⟨he.1.trans (ret_want (a := ⟨1, placeN (r nb) words, 0, 0⟩) rfl), he.2⟩
      by_cases o10 : op = 10
      · subst o10
        obtain ⟨na, rfl⟩ := Int.eq_ofNat_of_zero_le hm.1
        obtain ⟨nb, rfl⟩ := Int.eq_ofNat_of_zero_le hm.2.2.1
        have ha : na < 8 := by omega
        have hb : nb < 8 := by omega
        exact (wantsR_write b off _ cap n l na nb cc k r words w rfl hp hr hn hlen.2.1 hlt hxn ha (f0 na ha) (f1 na ha) hb (f0 nb hb) (f1 nb hb) hw).mono fun e w' he => ⟨he.1.trans (ret_want (a := ⟨2, placeN (r nb) words, r na, 0⟩) rfl), he.2⟩
      by_cases o11 : op = 11
      · subst o11
        obtain ⟨na, rfl⟩ := Int.eq_ofNat_of_zero_le hm.1
        obtain ⟨nb, rfl⟩ := Int.eq_ofNat_of_zero_le hm.2.2.1
        obtain ⟨nc, rfl⟩ := Int.eq_ofNat_of_zero_le hm.2.2.2.2.1
        have ha : na < 8 := by omega
        have hb : nb < 8 := by omega
        have hcc : nc < 8 := by omega
        exact (wantsR_trade b off _ cap n l na nb nc k r words w rfl hp hr hn hlen.2.1 hlt hxn ha (f0 na ha) (f1 na ha) hb (f0 nb hb) (f1 nb hb) hcc (f0 nc hcc) (f1 nc hcc) hw).mono fun e w' he => ⟨he.1.trans (ret_want (a := ⟨3, placeN (r nb) words, r nc, r na⟩) rfl), he.2⟩
      by_cases o15 : op = 15
      · subst o15
        obtain ⟨na, rfl⟩ := Int.eq_ofNat_of_zero_le hm.1
        have ha : na < 8 := by omega
        exact (wantsR_tell b off _ cap n l na bb cc k r words w rfl hp hr hn hlen.2.1 hlt hxn ha (f0 na ha) (f1 na ha)).mono fun e w' he => ⟨he.1.trans (ret_want (a := ⟨4, 0, r na, 0⟩) rfl), he.2⟩
      by_cases o16 : op = 16
      · subst o16
        exact (wantsR_rest b off _ cap n l a bb cc k r words w rfl hp hr hn hlen.2.1 hlt hxn).mono fun e w' he => ⟨he.1.trans (ret_want (a := ⟨5, 0, 0, 0⟩) rfl), he.2⟩
      refine (wantsR_nothing b off _ cap n l op a bb cc k r words w rfl hp hr hn hlen.2.1 hlt hxn (by simpa using o9) (by simpa using o10) (by simpa using o11) (by simpa using o15) (by simpa using o16)).mono fun e w' he => ⟨he.1.trans (ret_want (a := ⟨0, 0, 0, 0⟩) ?_), he.2⟩
      unfold wantX
      rw [if_neg o9, if_neg o10, if_neg o11, if_neg o15, if_neg o16]

theorem doneR_any (p : Option Addr) (cap : Nat) (l : List I5) (c : Cor) (was : Int) (w : World) (hp : Prg w p l) (hc : c.Fits) :
    Calls Try.prog 12 #[.slice p l.length cap, .agg c.row, .int .u32 was] w fun e w' => e = .returned (.agg (doneOf l c was).row) ∧ Below w.heap.size w w' := by
  obtain ⟨r, pc, h⟩ := c
  cases h with
  | true =>
    refine (doneR_halted p _ cap l r pc was w rfl hp _ rfl).mono fun e w' he => ⟨he.1.trans (ret_core (a := ⟨r, pc, true⟩) ?_), he.2⟩
    unfold doneOf; rfl
  | false =>
    cases hr : coreB l ⟨r, pc, false⟩ with
    | false =>
      refine (doneR_wrong p _ cap l r pc was w rfl hp hr).mono fun e w' he => ⟨he.1.trans (ret_core (a := ⟨r, pc, false⟩) ?_), he.2⟩
      unfold doneOf; rw [hr]; rfl
    | true =>
      obtain ⟨h0, h1, h2⟩ := core_has hr
      simp only at h0 h1
      obtain ⟨n, rfl⟩ := Int.eq_ofNat_of_zero_le h0
      have hlen := right_has h2
      obtain ⟨b, off, hlt, rfl, hx⟩ := hp (by omega)
      have hn : n < l.length := by omega
      have hxn := hx n hn
      have hm := may_regs (core_ins hr)
      have hins : insAt l ⟨r, n, false⟩ = at5 l n := rfl
      have hD : doneOf l ⟨r, n, false⟩ was = doneX (at5 l n) ⟨r, n, false⟩ was := by unfold doneOf; rw [hr]; rfl
      rw [hins] at hm
      rw [hD]
      obtain ⟨op, a, bb, cc, k, hat⟩ : ∃ op a bb cc k, at5 l n = ⟨op, a, bb, cc, k⟩ := ⟨_, _, _, _, _, rfl⟩
      rw [hat] at hxn hm ⊢
      simp only at hm
      have f0 := hc.r0
      have f1 := hc.r1
      simp only at f0 f1
      obtain ⟨na, rfl⟩ := Int.eq_ofNat_of_zero_le hm.1
      have ha : na < 8 := by omega
      have nx : ∀ (q : op ≠ 13) (q' : op ≠ 14), nextX ⟨op, na, bb, cc, k⟩ ⟨r, n, false⟩ = n + 1 := fun q q' => by unfold nextX; rw [if_neg (by simp only; omega)]
      by_cases o16 : op = 16
      · subst o16
        exact (doneR_stop b off _ cap n l na bb cc k r was w rfl hp hr hn hlen.2.1 hlt hxn).mono fun e w' he => ⟨he.1.trans (ret_core (a := ⟨r, n, true⟩) rfl), he.2⟩
      by_cases o13 : op = 13
      · subst o13
        exact (doneR_jump b off _ cap n l na bb cc k r was w rfl hp hr hn hlen.2.1 hlt hxn).mono fun e w' he => ⟨he.1.trans (ret_core (a := ⟨r, k, false⟩) rfl), he.2⟩
      by_cases o14 : op = 14
      · subst o14
        by_cases hz : r na = 0
        · refine (doneR_zero b off _ cap n l na bb cc k r was w rfl hp hr hn hlen.2.1 hlt hxn ha (by simpa using hz)).mono fun e w' he => ⟨he.1.trans (ret_core (a := ⟨r, k, false⟩) ?_), he.2⟩
          show _ = Cor.go _ (nextX _ _)
          unfold nextX; rw [if_pos (Or.inr ⟨rfl, hz⟩)]; rfl
        · refine (doneR_pass b off _ cap n l na bb cc k r was w rfl hp hr hn hlen.2.1 hlt hxn ha (by simpa using hz)).mono fun e w' he => ⟨he.1.trans (ret_core (a := ⟨r, n + 1, false⟩) ?_), he.2⟩
          show _ = Cor.go _ (nextX _ _)
          unfold nextX; rw [if_neg (by simp; exact hz)]; rfl
      by_cases o1 : op = 1
      · subst o1
        exact (doneR_set b off _ cap n l na bb cc k r was w rfl hp hr hn hlen.2.1 hlt hxn ha (fun i => if i = na then k else r i) (fun i => rfl)).mono fun e w' he => ⟨he.1.trans (ret_core (a := ⟨fun i => if i = na then k else r i, n + 1, false⟩) rfl), he.2⟩
      by_cases o9 : op = 9
      · subst o9
        exact (doneR_read9 b off _ cap n l na bb cc k r was w rfl hp hr hn hlen.2.1 hlt hxn ha (fun i => if i = na then was else r i) (fun i => rfl)).mono fun e w' he => ⟨he.1.trans (ret_core (a := ⟨fun i => if i = na then was else r i, n + 1, false⟩) rfl), he.2⟩
      by_cases o11 : op = 11
      · subst o11
        exact (doneR_read11 b off _ cap n l na bb cc k r was w rfl hp hr hn hlen.2.1 hlt hxn ha (fun i => if i = na then was else r i) (fun i => rfl)).mono fun e w' he => ⟨he.1.trans (ret_core (a := ⟨fun i => if i = na then was else r i, n + 1, false⟩) rfl), he.2⟩
      have e16 : (op == 16) = false := by simpa using o16
      have e13 : (op == 13) = false := by simpa using o13
      have e14 : (op == 14) = false := by simpa using o14
      have e1 : (op == 1) = false := by simpa using o1
      have e9 : (op == 9) = false := by simpa using o9
      have e11 : (op == 11) = false := by simpa using o11
      have e2 : decide (2 ≤ op) = true := decide_eq_true (by omega)
      by_cases o8 : op ≤ 8
      · obtain ⟨nb, rfl⟩ := Int.eq_ofNat_of_zero_le hm.2.2.1
        obtain ⟨nc, rfl⟩ := Int.eq_ofNat_of_zero_le hm.2.2.2.2.1
        have hb : nb < 8 := by omega
        have hcc : nc < 8 := by omega
        refine (doneR_do b off _ cap n l na nb nc op k r was w rfl hp hr hn hlen.2.1 hlt hxn ha hb (f0 nb hb) (f1 nb hb) hcc (f0 nc hcc) (f1 nc hcc) e16 e13 e14 e1 e2 (decide_eq_true o8) e9 e11 (fun i => if i = na then doV op (r nb) (r nc) else r i) (fun i => rfl)).mono fun e w' he => ⟨he.1.trans (ret_core (a := ⟨fun i => if i = na then doV op (r nb) (r nc) else r i, n + 1, false⟩) ?_), he.2⟩
        have ok : madeOk ⟨op, na, nb, nc, k⟩ = true := decide_eq_true (by simp only; omega)
        unfold doneX madeV
        rw [if_neg o16, ok, if_pos rfl, if_neg o1, if_neg (by simp only; omega), nx o13 o14]
        rfl
      · refine (doneR_plain b off _ cap n l op na bb cc k r was w rfl hp hr hn hlen.2.1 hlt hxn e16 e13 e14 e1 e2 (decide_eq_false o8) e9 e11).mono fun e w' he => ⟨he.1.trans (ret_core (a := ⟨r, n + 1, false⟩) ?_), he.2⟩
        have ok : madeOk ⟨op, na, bb, cc, k⟩ = false := decide_eq_false (by simp only; omega)
        unfold doneX
        rw [if_neg o16, ok, if_neg (by decide), nx o13 o14]
        rfl
end Go.Proofs.Ytdebkncjmbhneaa
