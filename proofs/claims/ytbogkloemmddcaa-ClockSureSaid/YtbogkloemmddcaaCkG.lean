/- A list from its end on, as the library goes through it; no condition but that the list reads, and that each round leaves it. -/
import Derived.Test.YtbogkloemmddcaaCkF
import Derived.RangeFuncNested
import Derived.RangeFuncBound
import Derived.RangeFuncCalls
import Derived.RangeFuncLeaves
import Derived.Shelf.Abstract
import Derived.Shelf.RegionOpen
import Derived.OwnWalkIn
import Derived.TacticsInMore
import Derived.LoopNIn
import Derived.LoopIn
namespace Go.Proofs.Ytbogkloemmddcaa
set_option linter.unusedVariables false
open Go.ChangeShapes Go.WideShapes Go.ChangeAt Go.RowKit Go.Shelf
attribute [local go_sem] Oper.semAt_some

theorem take_fin {N k : Nat} (h : k < N) : (List.finRange N).take (k + 1) = (List.finRange N).take k ++ [⟨k, h⟩] := by
  rw [List.take_succ_eq_append_getElem (by rw [List.length_finRange]; exact h)]
  simp
theorem len_fin {N k : Nat} (h : k ≤ N) : ((List.finRange N).take k).length = k := by rw [List.length_take, List.length_finRange]; omega
/-- What comes in round j. -/
def encB (ls : List Mv) (j : Fin ls.length) : Array Value := #[.int .i64 ((ls.length - 1 - j.val : Nat) : Int), .agg (mvR (ls.getD (ls.length - 1 - j.val) zV))]
/-- What a round leaves as it was. -/
structure KpB (Bs : Nat) (a : Option Addr) (W W' : World) : Prop where
  size : W.heap.size ≤ W'.heap.size
  box : W'.heap[Bs]? = W.heap[Bs]?
  row : ∀ A, a = some A → W'.heap[A.block]? = W.heap[A.block]?
theorem KpB.refl (Bs : Nat) (a : Option Addr) (W : World) : KpB Bs a W W := ⟨Nat.le_refl _, rfl, fun _ _ => rfl⟩
theorem KpB.trans {Bs : Nat} {a : Option Addr} {A B C : World} (h : KpB Bs a A B) (k : KpB Bs a B C) : KpB Bs a A C := ⟨Nat.le_trans h.size k.size, k.box.trans h.box, fun X e => (k.row X e).trans (h.row X e)⟩
theorem KpB.cell {Bs : Nat} {a : Option Addr} {A B : World} (h : KpB Bs a A B) (j : Nat) : B.cell? ⟨Bs, j, none⟩ = A.cell? ⟨Bs, j, none⟩ := by unfold World.cell?; rw [h.box]
theorem KpB.sl {Bs : Nat} {a : Option Addr} {A B : World} (h : KpB Bs a A B) {n : Nat} {cs : List Value} (hs : Sl A a n cs) : Sl B a n cs := fun h0 => by
  obtain ⟨b, off, h1, rfl, h3⟩ := hs h0
  refine ⟨b, off, Nat.lt_of_lt_of_le h1 h.size, rfl, fun j hj => ?_⟩
  rw [← h3 j hj]
  unfold World.cell?
  rw [h.row _ rfl]
theorem KpB.of_below {Bs : Nat} {a : Option Addr} {A B : World} {M : Nat} (h : Below M A B) (hB : Bs < M) (ha : ∀ X, a = some X → X.block < M) : KpB Bs a A B := ⟨h.size, h.block Bs hB, fun X e => h.block _ (ha X e)⟩

set_option maxRecDepth 100000 in
set_option maxHeartbeats 4000000 in
theorem backward1_in (F : Fence) (n : Nat) (h7 : F.fn 26) (hro : F.round = none) (hn : 1 ≤ n) (y Bs : Nat) (a : Option Addr) (cap : Nat) (ls : List Mv) (hN : ls.length ≤ 10000) (J Jx : List (Fin ls.length) → World → Prop)
    (hY : ∀ pre x W, J pre W → pre.length < ls.length → YieldAt F (n - 1) Try.prog y (encB ls x) W fun e W' =>
      (e = .returned (.bool true) ∧ J (pre ++ [x]) W' ∧ KpB Bs a W W') ∨ (e = .returned (.bool false) ∧ Jx (pre ++ [x]) W'))
    (W : World) (hBs : W.cell? ⟨Bs, 0, none⟩ = some (.slice a ls.length cap)) (hs : Sl W a ls.length (mvC ls)) (h0 : J [] W) :
    CallsIn F n Try.prog 26 #[.func (.yield y) #[] #[], .pointer (some ⟨Bs, 0, none⟩)] W fun e W' => (∃ v, e = .returned v) ∧
      ((∃ ys, ys = List.finRange ls.length ∧ J ys W') ∨ (∃ pre, (∃ k, k < ls.length ∧ pre = (List.finRange ls.length).take (k + 1)) ∧ Jx pre W')) := by
  obtain ⟨N, hNe⟩ : ∃ N, N = ls.length := ⟨_, rfl⟩
  have HNE := Lib.hid hNe
  have HSL := Lib.hid hs
  have hw0 : wrap64 ((N : Int) - 1) = (N : Int) - 1 := by unfold wrap64; omega
  have hw1 : IntKind.i64.wrap ((N : Int) - 1) = (N : Int) - 1 := by rw [IntKind.wrap_i64]; omega
  have HBS := Lib.hid hBs
  have hbs : W.cell? ⟨Bs, 0, none⟩ = some (.slice a N cap) := by rw [hNe]; exact hBs
  have HBN := Lib.hid hbs
  have HY := Lib.hid hY
  clear hs hBs hY hNe
  refine callsIn_of_wp Try.func26 rfl h7 ?_ hro
  simp only [Try.ntmps26, List.size_toArray, List.length_cons, List.length_nil, Nat.reduceAdd, Nat.reduceSub, Array.replicate_succ, Array.replicate_zero, List.push_toArray, List.append_toArray, List.nil_append, List.cons_append]
  gi_wp2
  gi_loopw [3] (fun i wr => ∃ (k : Nat) (iz : Int), k ≤ N ∧ i = .int .i64 iz ∧ iz = (N : Int) - 1 - k ∧ J ((List.finRange ls.length).take k) wr ∧ KpB Bs a W wr)
    (fun i _ => (intOf i + 1).toNat)
  case atStart => exact ⟨0, (N : Int) - 1, Nat.zero_le _, rfl, by omega, h0, KpB.refl _ _ _⟩
  case round =>
    obtain ⟨k, iz, hk, rfl, hiz, hJs, hkp⟩ := hrel
    have hbw := (hkp.cell 0).trans HBN.out
    clear hbs hw0 hw1
    by_cases hlt : k < N
    · obtain ⟨t, ht⟩ : ∃ t : Nat, t = N - 1 - k := ⟨_, rfl⟩
      have e : iz = (t : Int) := by omega
      subst e
      have htN : t < N := by omega
      have htI : (t : Int) < (N : Int) := by omega
      have htl : t < ls.length := by rw [← HNE.out]; exact htN
      have hkl : k < ls.length := by rw [← HNE.out]; exact hlt
      obtain ⟨fn, tmps, assign, body, hy, hR⟩ := HY.out _ ⟨k, hkl⟩ wr hJs (by rw [len_fin (by omega)]; exact hkl)
      have hen : encB ls ⟨k, hkl⟩ = #[.int .i64 (t : Int), .agg (mvR (ls.getD t zV))] := by unfold encB; rw [ht, HNE.out]
      rw [hen] at hy
      clear hen
      obtain ⟨b, off, rfl, hat⟩ := mk_at (hkp.sl HSL.out) rfl t htl
      obtain ⟨l0, c0, c1, c2⟩ := hat
      obtain ⟨u, hu⟩ : ∃ u, u = ls.getD t zV := ⟨_, rfl⟩
      rw [← hu] at c0 c1 c2 hy
      obtain ⟨us, ua, uq, um, uc, ucs⟩ := u
      have hy2 : (Instr.yield y #[.int .i64 (t : Int), .agg #[.int .i64 us, .int .i64 ua, .slice uq um uc]]).run Try.prog wr = .ok (.round y fn tmps assign body) wr := hy
      dsimp only at c0 c1 c2
      have f1 : wrap64 ((t : Int) - 1) = (t : Int) - 1 := by unfold wrap64; omega
      have f2 : IntKind.i64.wrap ((t : Int) - 1) = (t : Int) - 1 := by rw [IntKind.wrap_i64]; omega
      have HHIZ := Lib.hid hiz
      have HHT := Lib.hid ht
      clear hy hu hiz ht
      have HJ := Lib.hid hJs
      clear hJs
      gi_wp2
      refine hR.mono ?_
      rintro e W3 (⟨rfl, hJ3, hk3⟩ | ⟨rfl, hJx3⟩)
      · have HJ3 := Lib.hid hJ3
        have HK3 := Lib.hid (hkp.trans hk3)
        clear hJ3 hk3 hR
        gi_wp2
        go_roundw
        case rel => exact ⟨k + 1, (t : Int) - 1, by omega, rfl, by have := HHIZ.out; omega, by rw [take_fin hkl]; exact HJ3.out, HK3.out⟩
        case measure => have := HHIZ.out; simp [intOf] <;> omega
      · have HJX := Lib.hid hJx3
        clear hJx3 hR
        gi_wp2
        refine bodyPost_ret (results_none rfl _ _ _) rfl ?_
        exact ⟨⟨_, rfl⟩, .inr ⟨_, ⟨k, hkl, (take_fin hkl).symm⟩, HJX.out⟩⟩
    · have hkN : k = N := by omega
      have hz : decide (0 ≤ iz) = false := decide_eq_false (by omega)
      have HJ : Hid (J (List.finRange ls.length) wr) := Lib.hid (by
        rw [List.take_of_length_le (by rw [List.length_finRange, ← HNE.out]; omega)] at hJs; exact hJs)
      clear hJs hkN hiz
      gi_wp2
      go_end0
      exact ⟨⟨_, rfl⟩, .inl ⟨_, rfl, HJ.out⟩⟩

theorem backward_stops (F : Fence) (n : Nat) (h7 : F.fn 26) (hro : F.round = none) (hn : 1 ≤ n) (Bs : Nat) (a : Option Addr) (cap : Nat) (ls : List Mv) (hN : ls.length ≤ 10000) (w : World) (hBs : Bs < w.heap.size)
    (hc : w.cell? ⟨Bs, 0, none⟩ = some (.slice a ls.length cap)) (hs : Sl w a ls.length (mvC ls)) :
    SeqStopsK F n Try.prog 26 #[.pointer (some ⟨Bs, 0, none⟩)] (encB ls) (KpB Bs a) (fun ys => ys = List.finRange ls.length) (fun pre => ∃ k, k < ls.length ∧ pre = (List.finRange ls.length).take (k + 1)) ls.length w := fun y J Jx W hW _ _ hY h0 =>
  backward1_in F n h7 hro hn y Bs a cap ls hN J Jx hY W ((hW.cell (p := ⟨Bs, 0, none⟩) hBs).trans hc) (hs.below hW) h0
theorem backward_any (a : Option Addr) (n c : Nat) (w : World) : Calls Try.prog 25 #[.slice a n c] w fun e w' => e = .returned (.func (.func 26) #[] #[.pointer (some ⟨w.heap.size, 0, none⟩)]) ∧ w' = w.alloc (.cells #[.slice a n c] 24) := by
  go_enter Try.func25, Try.ntmps25
  go_wp2_with fail
  go_ret
  exact ⟨rfl, rfl⟩
end Go.Proofs.Ytbogkloemmddcaa
