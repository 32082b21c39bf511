/- A core as eight numbers, a place and a yes or no; when one may be, what it wants, and how it goes on: plain definitions and facts on them, no program in sight. -/
import Derived.Test.YtdebkncjmbhneaaIsaNum
import Derived.Test.YtdebkncjmbhneaaRefNum
namespace Go.Proofs.Ytdebkncjmbhneaa

structure Cor where
  r : Nat → Int
  pc : Int
  h : Bool

/-- Each register's number fits, and so does the place. -/
structure Cor.Fits (c : Cor) : Prop where
  r0 : ∀ i, i < 8 → 0 ≤ c.r i
  r1 : ∀ i, i < 8 → c.r i ≤ 4294967295

def Cor.set (c : Cor) (n : Nat) (v : Int) : Cor := ⟨fun i => if i = n then v else c.r i, c.pc, c.h⟩
def Cor.go (c : Cor) (p : Int) : Cor := ⟨c.r, p, c.h⟩
def Cor.stop (c : Cor) : Cor := ⟨c.r, c.pc, true⟩

structure Wnt where
  kind : Int
  at_ : Int
  val : Int
  old : Int

def coreB (l : List I5) (c : Cor) : Bool := decide (0 ≤ c.pc) && (decide (c.pc < l.length) && rightB l)
/-- The instruction at the core's place. -/
def insAt (l : List I5) (c : Cor) : I5 := at5 l c.pc.toNat
def placeN (n words : Int) : Int := if words < 1 then 0 else n % words
def wantX (x : I5) (c : Cor) (words : Int) : Wnt :=
  if x.op = 9 then ⟨1, placeN (c.r x.b.toNat) words, 0, 0⟩
  else if x.op = 10 then ⟨2, placeN (c.r x.b.toNat) words, c.r x.a.toNat, 0⟩
  else if x.op = 11 then ⟨3, placeN (c.r x.b.toNat) words, c.r x.c.toNat, c.r x.a.toNat⟩
  else if x.op = 15 then ⟨4, 0, c.r x.a.toNat, 0⟩
  else if x.op = 16 then ⟨5, 0, 0, 0⟩
  else ⟨0, 0, 0, 0⟩
def wantOf (l : List I5) (c : Cor) (words : Int) : Wnt := if c.h || !coreB l c then ⟨5, 0, 0, 0⟩ else wantX (insAt l c) c words
def nextX (x : I5) (c : Cor) : Int := if x.op = 13 ∨ x.op = 14 ∧ c.r x.a.toNat = 0 then x.k else c.pc + 1
def madeV (x : I5) (c : Cor) (was : Int) : Int := if x.op = 1 then x.k else if x.op = 9 ∨ x.op = 11 then was else doV x.op (c.r x.b.toNat) (c.r x.c.toNat)
def madeOk (x : I5) : Bool := decide (1 ≤ x.op ∧ x.op ≤ 9 ∨ x.op = 11)
def doneX (x : I5) (c : Cor) (was : Int) : Cor :=
  if x.op = 16 then c.stop else if madeOk x then (c.go (nextX x c)).set x.a.toNat (madeV x c was) else c.go (nextX x c)
def doneOf (l : List I5) (c : Cor) (was : Int) : Cor := if c.h || !coreB l c then c else doneX (insAt l c) c was

/-- All that the walks need of an instruction of a program that may be: its registers are there. -/
theorem may_regs {x : I5} {n : Int} (h : mayB x n = true) : 0 ≤ x.a ∧ x.a < 8 ∧ 0 ≤ x.b ∧ x.b < 8 ∧ 0 ≤ x.c ∧ x.c < 8 ∧ 1 ≤ x.op ∧ x.op ≤ 16 := by
  unfold mayB at h
  simp only [Bool.and_eq_true] at h
  obtain ⟨h0, h1, h2, h3, _⟩ := h
  have ho := of_decide_eq_true h0
  have reg : ∀ (r : Int) (u : Bool), regB r u = true → 0 ≤ r ∧ r < 8 := fun r u hr => by
    unfold regB at hr
    cases u with
    | true => rw [if_pos rfl] at hr; exact of_decide_eq_true hr
    | false => rw [if_neg (by decide)] at hr; have := of_decide_eq_true hr; omega
  have a := reg _ _ h1
  have b := reg _ _ h2
  have c := reg _ _ h3
  omega

theorem core_has {l : List I5} {c : Cor} (h : coreB l c = true) : 0 ≤ c.pc ∧ c.pc < l.length ∧ rightB l = true := by
  unfold coreB at h
  simp only [Bool.and_eq_true, decide_eq_true_eq] at h
  exact h
theorem core_ins {l : List I5} {c : Cor} (h : coreB l c = true) : mayB (insAt l c) l.length = true := by
  obtain ⟨h0, h1, h2⟩ := core_has h
  exact (right_has h2).2.2.2 c.pc.toNat (by omega)
end Go.Proofs.Ytdebkncjmbhneaa
