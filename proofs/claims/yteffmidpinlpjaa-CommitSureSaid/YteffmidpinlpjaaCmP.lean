/- CommitSure: what its walk holds of the variable that a call's answer is stored in; no condition. -/
import Derived.Test.YteffmidpinlpjaaCmM
namespace Go.Proofs.Yteffmidpinlpjaa
set_option linter.unusedVariables false
set_option linter.unusedSimpArgs false
open Go.ChangeShapes Go.WideShapes Go.ChangeAt Go.RowKit

/-- The answer's variable, apart from the gate's and from the two lists. -/
structure Hv (W : World) (bg bh : Nat) (p : Option Addr) (m c : Nat) (q : Option Addr) (n d : Nat) (G : Gt) (a : Option Addr) (x : Nat) (b : Option Addr) (y k : Nat) : Prop where
  hk : Blk W bh #[.slice p m c, .slice q n d]
  hc : Lc W p m c q n d G
  ob : Off bg p m ∧ Off bg q n
  ot : ∀ g, (Value.slice a k x).ownBlock = some g → Off g p m ∧ Off g q n
  ow : ∀ g, (Value.slice b k y).ownBlock = some g → Off g p m ∧ Off g q n
theorem Hv.below {W W' : World} {bg bh : Nat} {p : Option Addr} {m c : Nat} {q : Option Addr} {n d : Nat} {G : Gt} {a : Option Addr} {x : Nat} {b : Option Addr} {y k : Nat} (h : Hv W bg bh p m c q n d G a x b y k) (hb : Below W.heap.size W W') : Hv W' bg bh p m c q n d G a x b y k := ⟨h.hk.below hb, h.hc.below hb, h.ob, h.ot, h.ow⟩
theorem Hv.pop {W : World} {bg bh : Nat} {p : Option Addr} {m c : Nat} {q : Option Addr} {n d : Nat} {G : Gt} {a : Option Addr} {x : Nat} {b : Option Addr} {y k : Nat} (h : Hv W bg bh p m c q n d G a x b y k) (j : Nat) : Hv W bg bh p m c q n d G a x b y j :=
  ⟨h.hk, h.hc, h.ob, fun g e => h.ot g (by rw [own_blk a k j x]; exact e), fun g e => h.ow g (by rw [own_blk b k j y]; exact e)⟩
theorem Hv.lo {W : World} {bg bh : Nat} {p : Option Addr} {m c : Nat} {q : Option Addr} {n d : Nat} {G : Gt} {a : Option Addr} {x : Nat} {b : Option Addr} {y k : Nat} (h : Hv W bg bh p m c q n d G a x b y k) : Lo (fun _ => False) W (.agg #[.slice p m c, .slice q n d]) G := ⟨_, _, _, _, _, _, rfl, h.hc, fun R h => h.elim⟩
/-- A call's answer is stored in it. -/
theorem Hv.put {W : World} {bg bh : Nat} {p : Option Addr} {m c : Nat} {q : Option Addr} {n d : Nat} {G : Gt} {a : Option Addr} {x : Nat} {b : Option Addr} {y k : Nat} {a0 a1 : Value} (hk : Blk W bh #[a0, a1]) (hc : Lc W p m c q n d G) {N : Nat} (ho : ∀ R, R < N → Off R p m ∧ Off R q n) (h1 : bg < N) (h2 : bh < N) (h3 : ∀ g, (Value.slice a k x).ownBlock = some g → g < N) (h4 : ∀ g, (Value.slice b k y).ownBlock = some g → g < N) :
    Hv ((W.setCell ⟨bh, 0, none⟩ (.slice p m c)).setCell ⟨bh, 1, none⟩ (.slice q n d)) bg bh p m c q n d G a x b y k :=
  ⟨set2_same hk _ _, (hc.set (ho bh h2).1 (ho bh h2).2 0 _).set (ho bh h2).1 (ho bh h2).2 1 _, ho bg h1, fun g e => ho g (h3 g e), fun g e => ho g (h4 g e)⟩
/-- The two lists have grown. -/
theorem Hv.more {W W1 W2 W3 : World} {bg bh : Nat} {p : Option Addr} {m c : Nat} {q : Option Addr} {n d : Nat} {G : Gt} {a : Option Addr} {x : Nat} {b : Option Addr} {y k : Nat} (h : Hv W bg bh p m c q n d G a x b y k) {a' b' : Option Addr} {x' y' : Nat}
    (hba : ∀ g, (Value.slice a k x).ownBlock = some g → g ≠ bh) (hbb : ∀ g, (Value.slice b k y).ownBlock = some g → g ≠ bh)
    (g1 : W.grownBy W1 (Value.slice a k x).ownBlock) (b1 : (Value.slice a' (k + 1) x').ownBlock = (Value.slice a k x).ownBlock ∨ (Value.slice a' (k + 1) x').ownBlock = some W.heap.size)
    (hb : Below W1.heap.size W1 W2) (g2 : W2.grownBy W3 (Value.slice b k y).ownBlock) (b2 : (Value.slice b' (k + 1) y').ownBlock = (Value.slice b k y).ownBlock ∨ (Value.slice b' (k + 1) y').ownBlock = some W2.heap.size) : Hv W3 bg bh p m c q n d G a' x' b' y' (k + 1) := by
  have hs1 : W.heap.size ≤ W1.heap.size := g1.size
  have hs2 : W1.heap.size ≤ W2.heap.size := hb.size
  have c1 : Lc W1 p m c q n d G := ⟨h.hc.ml, h.hc.ll, h.hc.ms.grown g1 (fun R e => (h.ot R e).1), h.hc.ls.grown g1 (fun R e => (h.ot R e).2), h.hc.mc, h.hc.nd, h.hc.m10, h.hc.n10⟩
  have c2 := c1.below hb
  have c3 : Lc W3 p m c q n d G := ⟨c2.ml, c2.ll, c2.ms.grown g2 (fun R e => (h.ow R e).1), c2.ls.grown g2 (fun R e => (h.ow R e).2), c2.mc, c2.nd, c2.m10, c2.n10⟩
  refine ⟨((h.hk.grown g1 (fun e => hba _ e rfl)).below hb).grown g2 (fun e => hbb _ e rfl), c3, h.ob, fun g e => ?_, fun g e => ?_⟩
  · rcases b1 with b1 | b1
    · exact h.ot g (by rw [← b1]; exact e)
    · rw [b1] at e; injection e with e; exact ⟨h.hc.ms.off (by omega), h.hc.ls.off (by omega)⟩
  · rcases b2 with b2 | b2
    · exact h.ow g (by rw [← b2]; exact e)
    · rw [b2] at e; injection e with e; exact ⟨c2.ms.off (by omega), c2.ls.off (by omega)⟩
theorem Sl.takeT {w : World} {p : Option Addr} {n k : Nat} {xs : List Td} (h : Sl w p n (tdC xs)) (hk : k ≤ n) (hl : xs.length = n) : Sl w p k (tdC (xs.take k)) := fun h0 => by
  obtain ⟨b, off, h1, h2, h3⟩ := h (by omega)
  refine ⟨b, off, h1, h2, fun j hj => ?_⟩
  rw [tdC_len, List.length_take] at hj
  rw [h3 j (by rw [tdC_len]; omega), tdC_take, List.getElem?_take_of_lt (by omega)]
theorem sizeT (W : World) : (sizeOf (Try.prog.elem 23)).run Try.prog W = .ok 2 W := by
  obtain ⟨i0, hi, _, hz1, _⟩ := info_parts infoT
  have e : Try.prog.elem 23 = 28 := by kernel_rfl
  rw [e]
  simp [sizeOf, typeInfo, hi, hz1]
theorem cut_hiT (p : Option Addr) (x c h : Nat) (hl : h ≤ c) (W : World) : (Instr.slice 23 (.slice p x c) none (some (.int .i64 (h : Int))) none).run Try.prog W = .ok (.slice p h c) W := by
  have he : Try.prog.underlying 23 = some (.slice (Try.prog.elem 23)) := by kernel_rfl
  rw [run_slice_h W 23 _ x c he .i64 h (by omega) (by omega), sizeT]
  cases p with
  | none => simp [Result.andThen, sliced]
  | some a => obtain ⟨b, off, sp⟩ := a; cases sp <;> simp [Result.andThen, sliced, Addr.add]
theorem sizeI (W : World) : (sizeOf (Try.prog.elem 43)).run Try.prog W = .ok 1 W := by
  obtain ⟨i0, hi, _, hz1, _⟩ := info_parts infoI
  have e : Try.prog.elem 43 = 3 := by kernel_rfl
  rw [e]
  simp [sizeOf, typeInfo, hi, hz1]
theorem cut_hiI (p : Option Addr) (x c h : Nat) (hl : h ≤ c) (W : World) : (Instr.slice 43 (.slice p x c) none (some (.int .i64 (h : Int))) none).run Try.prog W = .ok (.slice p h c) W := by
  have he : Try.prog.underlying 43 = some (.slice (Try.prog.elem 43)) := by kernel_rfl
  rw [run_slice_h W 43 _ x c he .i64 h (by omega) (by omega), sizeI]
  cases p with
  | none => simp [Result.andThen, sliced]
  | some a => obtain ⟨b, off, sp⟩ := a; cases sp <;> simp [Result.andThen, sliced, Addr.add]
/-- Where a number is drawn from the interval that is sure to the one that is. -/
theorem rem_facts {sp su to_ : Nat} (hle : su ≤ sp) (h60 : sp ≤ 60) (ht : to_ < 256) : ∃ r : Nat, su ≤ su + r ∧ su + r ≤ sp ∧ IntKind.i64.wrap ((sp : Int) - (su : Int)) = ((sp - su : Nat) : Int) ∧ wrap64 ((sp : Int) - (su : Int)) = ((sp - su : Nat) : Int) ∧ IntKind.i64.wrap (((sp - su : Nat) : Int) + 1) = ((sp - su + 1 : Nat) : Int) ∧ wrap64 (((sp - su : Nat) : Int) + 1) = ((sp - su + 1 : Nat) : Int) ∧ (to_ : Int) % ((sp - su + 1 : Nat) : Int) = (r : Int) ∧ (to_ : Int).tmod ((sp - su + 1 : Nat) : Int) = (r : Int) ∧ IntKind.i64.wrap (r : Int) = (r : Int) ∧ wrap64 (r : Int) = (r : Int) ∧ IntKind.i64.wrap ((su : Int) + (r : Int)) = ((su + r : Nat) : Int) ∧ wrap64 ((su : Int) + (r : Int)) = ((su + r : Nat) : Int) ∧ IntKind.i64.wrap (to_ : Int) = (to_ : Int) ∧ wrap64 (to_ : Int) = (to_ : Int) := by
  have hr : to_ % (sp - su + 1) < sp - su + 1 := Nat.mod_lt _ (by omega)
  have e1 : (to_ : Int) % ((sp - su + 1 : Nat) : Int) = ((to_ % (sp - su + 1) : Nat) : Int) := (Int.natCast_emod _ _).symm
  have e2 : (to_ : Int).tmod ((sp - su + 1 : Nat) : Int) = ((to_ % (sp - su + 1) : Nat) : Int) := by rw [Int.tmod_eq_emod_of_nonneg (by omega), e1]
  generalize to_ % (sp - su + 1) = r at hr e1 e2
  refine ⟨r, by omega, by omega, ?_, ?_, ?_, ?_, e1, e2, ?_, ?_, ?_, ?_, ?_, ?_⟩
  · rw [IntKind.wrap_i64]; omega
  · unfold wrap64; omega
  · rw [IntKind.wrap_i64]; omega
  · unfold wrap64; omega
  · rw [IntKind.wrap_i64]; omega
  · unfold wrap64; omega
  · rw [IntKind.wrap_i64]; omega
  · unfold wrap64; omega
  · rw [IntKind.wrap_i64]; omega
  · unfold wrap64; omega
theorem rem_letters {sp su to_ : Nat} (hle : su ≤ sp) (h60 : sp ≤ 60) (ht : to_ < 256) : ∃ r dm dn s2 : Nat, (su ≤ s2 ∧ s2 ≤ sp) ∧ (¬ dn = 0 ∧ ¬ (dn : Int) = 0) ∧ IntKind.i64.wrap ((sp : Int) - (su : Int)) = (dm : Int) ∧ wrap64 ((sp : Int) - (su : Int)) = (dm : Int) ∧ IntKind.i64.wrap ((dm : Int) + 1) = (dn : Int) ∧ wrap64 ((dm : Int) + 1) = (dn : Int) ∧ (to_ : Int) % (dn : Int) = (r : Int) ∧ (to_ : Int).tmod (dn : Int) = (r : Int) ∧ IntKind.i64.wrap (r : Int) = (r : Int) ∧ wrap64 (r : Int) = (r : Int) ∧ IntKind.i64.wrap ((su : Int) + (r : Int)) = (s2 : Int) ∧ wrap64 ((su : Int) + (r : Int)) = (s2 : Int) ∧ IntKind.i64.wrap (to_ : Int) = (to_ : Int) ∧ wrap64 (to_ : Int) = (to_ : Int) := by
  obtain ⟨r, h1, h2, h⟩ := rem_facts hle h60 ht
  exact ⟨r, sp - su, sp - su + 1, su + r, ⟨h1, h2⟩, ⟨by omega, by omega⟩, h⟩
end Go.Proofs.Yteffmidpinlpjaa
