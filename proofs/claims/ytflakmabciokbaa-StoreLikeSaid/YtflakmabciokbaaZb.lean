/- Laid together, in this order: UnE, UnF, UnG, UnH, UnI, UnJ, UnK, UnL, UnM, UnN. -/
import Derived.Test.YtflakmabciokbaaZa
import Derived.Maps.OwnSet
import Derived.WideKeyArr2
import Derived.RangeFuncNested
import Derived.RangeFuncBound
import Derived.RangeFuncCalls
import Derived.RangeFuncLeaves
import Derived.Shelf.Abstract
import Derived.Shelf.RegionOpen
import Derived.OwnWalkIn
import Derived.TacticsInMore
import Derived.LoopNIn
import Derived.LoopIn
import Derived.DeepKeys
set_option linter.unusedSimpArgs false
set_option linter.unusedVariables false
/- What was there by interval and word, as a map; no condition but that the list reads, and that its numbers are Go's. -/
namespace Go.Proofs.Ytflakmabciokbaa.Ud
set_option linter.unusedVariables false
open Go.ChangeShapes Go.WideShapes Go.ChangeAt Go.RowKit Go.Maps

theorem arr58 : WideMaps.ArrKey Try.prog 105 3 2 := ⟨Try.underlying105, by kernel_rfl, by kernel_rfl, by kernel_rfl⟩
theorem law58 : Keyed Try.prog 105 := Keyed.of_law arr58.law
def keyU (s a : Int) : Lit := .string (keyBytes [.int .i64 s, .int .i64 a])
theorem key_lit {s a : Int} (hs : (Lit.int .i64 s).wf = true) (ha : (Lit.int .i64 a).wf = true) : keyOf Try.prog 105 (.agg #[.int .i64 s, .int .i64 a]) = some (keyU s a) := by
  have hsz : ∃ m, Try.prog.types.size = m + 1 := ⟨Try.prog.types.size - 1, by kernel_rfl⟩
  have hkt := arr58.keyType hsz
  obtain ⟨m0, hm0⟩ := hsz
  have hk : ∀ D n, (Lit.int .i64 n).wf = true → Try.prog.keyLits (D + 1) 3 [.int .i64 n] = some [.int .i64 n] := fun D n hn => by
    unfold Program.keyLits
    simp only [Try.underlying3]
    rw [if_pos ⟨trivial, hn⟩]
  unfold keyOf
  simp only [arr58.hu]
  rw [if_pos (by simp [hkt, Value.formed, arr58.hu, arr58.size]), hm0]
  unfold Program.keyLits
  simp only [arr58.hu, Value.cells]
  rw [if_pos (by rw [arr58.size]; rfl), show List.range 2 = [0, 1] from rfl, List.mapM_cons, List.mapM_cons, List.mapM_nil, arr58.one]
  simp [hk _ _ hs, hk _ _ ha, keyU]
theorem key_inj {s a t b : Int} (hs : (Lit.int .i64 s).wf = true) (ha : (Lit.int .i64 a).wf = true) (ht : (Lit.int .i64 t).wf = true) (hb : (Lit.int .i64 b).wf = true) (h : keyU s a = keyU t b) : s = t ∧ a = b := by
  have := law58.inj (key_lit hs ha) (by rw [h]; exact key_lit ht hb)
  injection this with this
  simp at this
  exact this
theorem key_is (s a : Int) : WideAt.IsKeyLit (keyU s a) := by simp [WideAt.IsKeyLit, keyU]
theorem zero26 (w : World) : (zeroValue 29).run Try.prog w = .ok (.int .u32 0) w := by kernel_rfl
theorem run_makeHint (m : Int) (w : World) : (Instr.makeMap 103 (some (.int .i64 m))).run Try.prog w = .ok (.map (some w.heap.size)) (w.alloc (.map #[] 0)) := by
  simp [Instr.makeMap, run_underlying Try.underlying103, go_sem, asInt]
/-- An element as it reads. -/
def rawE (v : Value) : Option (DataW Unit × List MemPlace) := match v with
  | .int .u32 a => some (.lit (.int .u32 a), [])
  | _ => none
theorem rawE_inv {v : Value} {z : DataW Unit × List MemPlace} (h : rawE v = some z) : ∃ a, v = .int .u32 a := by
  unfold rawE at h
  split at h
  · exact ⟨_, rfl⟩
  · cases h
def beM (l : List Un) (k : Nat) : DataW Unit := (l.take k).foldl (fun D u => D.put (keyU u.span u.at_) (.lit (.int .u32 u.val))) (.map [])
theorem beM_zero (l : List Un) : beM l 0 = .map [] := rfl
theorem beM_step (l : List Un) (k : Nat) (hk : k < l.length) : beM l (k + 1) = (beM l k).put (keyU (l.getD k zU).span (l.getD k zU).at_) (.lit (.int .u32 (l.getD k zU).val)) := by
  unfold beM
  rw [take_getD l zU k hk, List.foldl_append]
  rfl
def wfU (u : Un) : Prop := (Lit.int .i64 u.span).wf = true ∧ (Lit.int .i64 u.at_).wf = true
def wfL (l : List Un) : Prop := ∀ u ∈ l, wfU u
theorem wfL_at {l : List Un} (h : wfL l) (k : Nat) : wfU (l.getD k zU) := by
  by_cases hk : k < l.length
  · exact h _ (mem_getD l zU k hk)
  · rw [List.getD_eq_getElem?_getD, List.getElem?_eq_none (by omega)]; exact ⟨rfl, rfl⟩
theorem be_tidy (l : List Un) (k : Nat) (hk : k ≤ l.length) : Tidy (beM l k) := by
  induction k with
  | zero => exact tidy_empty
  | succ k ih => rw [beM_step l k hk]; exact (ih (by omega)).put (key_is _ _) _
theorem be_has {l : List Un} (hw : wfL l) (k : Nat) (hk : k ≤ l.length) {s a : Int} (hs : (Lit.int .i64 s).wf = true) (ha : (Lit.int .i64 a).wf = true) : Maps.has (beM l k) (keyU s a) = true ↔ ∃ j, j < k ∧ (l.getD j zU).span = s ∧ (l.getD j zU).at_ = a := by
  induction k with
  | zero => exact ⟨fun h => by simp [beM_zero, Maps.has] at h, fun ⟨j, hj, _⟩ => absurd hj (Nat.not_lt_zero _)⟩
  | succ k ih =>
    rw [beM_step l k hk]
    have hi := ih (by omega)
    have hm := (be_tidy l k (by omega)).isMap
    have hwk := wfL_at hw k
    by_cases e : (l.getD k zU).span = s ∧ (l.getD k zU).at_ = a
    · rw [e.1, e.2, has_put_same hm (key_is s a)]
      exact ⟨fun _ => ⟨k, by omega, e⟩, fun _ => rfl⟩
    · rw [has_put_other (fun e2 => e (by have := key_inj hs ha hwk.1 hwk.2 e2; exact ⟨this.1.symm, this.2.symm⟩)), hi]
      constructor
      · rintro ⟨j, hj, h⟩; exact ⟨j, by omega, h⟩
      · rintro ⟨j, hj, h⟩
        by_cases ejk : j = k
        · rw [ejk] at h; exact absurd h e
        · exact ⟨j, by omega, h⟩
theorem be_size {l : List Un} (hw : wfL l) (k : Nat) (hk : k ≤ l.length) : Maps.size (beM l k) ≤ k ∧ (Maps.size (beM l k) = k ↔ ∀ i j, i < j → j < k → ApartU (l.getD i zU) (l.getD j zU)) := by
  induction k with
  | zero => exact ⟨Nat.le_refl _, fun _ i j _ hj => absurd hj (Nat.not_lt_zero _), fun _ => rfl⟩
  | succ k ih =>
    rw [beM_step l k hk]
    obtain ⟨h1, h2⟩ := ih (by omega)
    have ht := be_tidy l k (by omega)
    have hh := be_has hw k (by omega) (wfL_at hw k).1 (wfL_at hw k).2
    rw [size_put ht]
    by_cases e : Maps.has (beM l k) (keyU (l.getD k zU).span (l.getD k zU).at_) = true
    · rw [if_pos e]
      obtain ⟨j, hj, he⟩ := hh.1 e
      exact ⟨by omega, fun h => by omega, fun h => absurd he (h j k hj (Nat.lt_succ_self _))⟩
    · rw [if_neg e]
      refine ⟨by omega, fun h i j hij hj => ?_, fun h => ?_⟩
      · by_cases ejk : j = k
        · subst ejk; exact fun e2 => e (hh.2 ⟨i, hij, e2⟩)
        · exact h2.1 (by omega) i j hij (by omega)
      · rw [h2.2 (fun i j hij hj => h i j hij (by omega))]
theorem be_len {l : List Un} (hw : wfL l) : ((Maps.size (beM l l.length) : Int) == (l.length : Int)) = decide (l.Pairwise ApartU) := by
  rw [Bool.eq_iff_iff, beq_iff_eq, decide_eq_true_eq, List.pairwise_iff_getElem]
  have h := (be_size hw l.length (Nat.le_refl _)).2
  constructor
  · intro e i j hi hj hij
    rw [get_getD l zU, get_getD l zU]
    exact h.1 (by omega) i j hij hj
  · intro e
    have := h.2 (fun i j hij hj => by
      have := e i j (by omega) hj hij
      rwa [get_getD l zU, get_getD l zU] at this)
    omega
theorem be_hasU {l : List Un} (hw : wfL l) {s a : Int} (hs : (Lit.int .i64 s).wf = true) (ha : (Lit.int .i64 a).wf = true) : Maps.has (beM l l.length) (keyU s a) = hasU l s a := by
  rw [Bool.eq_iff_iff, be_has hw l.length (Nat.le_refl _) hs ha]
  unfold hasU
  rw [List.any_eq_true]
  constructor
  · rintro ⟨j, hj, h⟩; exact ⟨_, mem_getD l zU j hj, decide_eq_true h⟩
  · rintro ⟨u, hu, h⟩
    obtain ⟨k, hk, rfl⟩ := mem_idx l zU u hu
    exact ⟨k, hk, of_decide_eq_true h⟩

theorem own_map {w w' : World} {b n : Nat} {D : DataW Unit} (h : w.ownsMap Try.prog 105 rawE b n D) (hb : Below w.heap.size w w') : w'.ownsMap Try.prog 105 rawE b n D := by
  have hl := h.lt
  obtain ⟨es, clock, h1, Ft, hs, hD⟩ := h
  exact ⟨es, clock, (hb.block b hl).trans h1, Ft, hs, hD⟩

set_option maxHeartbeats 2000000 in
set_option maxRecDepth 100000 in
theorem before_any (q : Option Addr) (n x : Nat) (l : List Un) (w : World) (hl : l.length = n) (hs : Sl w q n (unC l)) (hn : n ≤ 10000) (hw : wfL l) :
    Calls Try.prog 73 #[.slice q n x] w fun e w' => e = .returned (.map (some w.heap.size)) ∧ w'.ownsMap Try.prog 105 rawE w.heap.size n (beM l n) ∧ Below w.heap.size w w' := by
  have HAT : Hid (∀ k, k < n → ∃ b off, q = some ⟨b, off, none⟩ ∧ UnAt w b off k (l.getD k zU)) := Lib.hid (fun k hk => un_at (by rw [hl]; exact hs) k (by omega))
  have HW := Lib.hid hw
  have HST : Hid (∀ k, k < n → beM l (k + 1) = (beM l k).put (keyU (l.getD k zU).span (l.getD k zU).at_) (.lit (.int .u32 (l.getD k zU).val))) := Lib.hid (fun k hk => beM_step l k (by omega))
  clear hs hl hw
  have hmm := fun w => run_makeHint n w
  go_enter Try.func73, Try.ntmps73
  go_wp2_with fail
  go_loopw [11] (fun i wr => ∃ k : Nat, k ≤ n ∧ i = .int .i64 k ∧ wr.ownsMap Try.prog 105 rawE w.heap.size k (beM l k) ∧ Below w.heap.size w wr) (fun i _ => n - (intOf i).toNat)
  case atStart => exact ⟨0, Nat.zero_le _, rfl, World.ownsMap_made _ _ _ _, (Below.refl _ _).alloc (Nat.le_refl _) _⟩
  case round =>
    obtain ⟨k, hk, rfl, hown, hb⟩ := hrel
    by_cases hlt : k < n
    · obtain ⟨b, off, rfl, hat⟩ := HAT.out k hlt
      obtain ⟨l0, c0, c1, c2⟩ := hat.below hb
      have hwf := wfL_at HW.out k
      have hst := HST.out k hlt
      obtain ⟨y, hy⟩ : ∃ y, y = l.getD k zU := ⟨_, rfl⟩
      rw [← hy] at c0 c1 c2 hwf hst
      obtain ⟨ys, ya, yv⟩ := y
      dsimp only at c0 c1 c2 hst
      have HST2 := Lib.hid hst
      have HO := Lib.hid hown
      have HB := Lib.hid hb
      have HK : Hid (keyOf Try.prog 105 (.agg #[.int .i64 ys, .int .i64 ya]) = some (keyU ys ya)) := Lib.hid (key_lit hwf.1 hwf.2)
      clear hst hown hb hwf hat hy
      go_wp2_with (first
        | (at_mapUpdate; refine wpList_mapUpdate_own _ rfl _ _ _ 103 rfl 105 29 law58 Try.underlying103 _ w.heap.size k _ rfl (HO.out.alloc _) (by unfold maxLen; omega) _ _ _ rfl rfl HK.out _ [] (show rawE (.int .u32 yv) = some (.lit (.int .u32 yv), []) from rfl) ?_; intro w1 hown1 hgrow1))
      have HO1 := Lib.hid hown1
      have HB1 : Hid (Below w.heap.size w w1) := Lib.hid ((HB.out.alloc HB.out.size _).grown hgrow1 (by have := HB.out.size; simp; omega) (fun j hj => by cases hj; exact Nat.le_refl _))
      clear hown1 hgrow1
      go_roundw
      case rel => exact ⟨k + 1, by omega, by go_num, by rw [HST2.out]; exact HO1.out, HB1.out⟩
      case measure => simp [intOf]; omega
    · have : k = n := by omega
      subst this
      have HO := Lib.hid hown
      have HB := Lib.hid hb
      clear hown hb
      go_wp2_with fail
      go_ret
      exact ⟨rfl, HO.out, HB.out⟩
end Go.Proofs.Ytflakmabciokbaa.Ud
/- Whether a log is right, how much room it has, and a copy of it, by the program; no condition but that it reads. -/
namespace Go.Proofs.Ytflakmabciokbaa.Ud
set_option linter.unusedVariables false
open Go.ChangeShapes Go.WideShapes Go.ChangeAt Go.RowKit Go.Maps


set_option maxHeartbeats 2000000 in
theorem cloneM_any (p : Option Addr) (n c : Nat) (l : List Int) (w : World) (hl : l.length = n) (hs : Sl w p n (wdC l)) (hm : n ≤ 10000) (hcn : n ≤ c) :
    Calls Try.prog 79 #[.slice p n c] w fun e w' => ∃ r, e = .returned r ∧ w'.ownsRow w.heap.size 29 1 r n (wdC l) ∧ Below w.heap.size w w' := by
  obtain ⟨i0, hi, hz0, hz1, hz2⟩ := info_parts info26
  have HI := Lib.hid (And.intro hi (And.intro hz0 (And.intro hz1 hz2)))
  have HS := Lib.hid hs
  have HL := Lib.hid hl
  clear hs hl hi hz0 hz1 hz2
  have hq : ∀ W, (binOp .eql 23 (.slice p n c) (.slice none 0 0)).run Try.prog W = .ok (.bool p.isNone) W := fun W => Lib.run_eql_slice_nil W _ 29 _ _ _ _ _ Try.underlying23
  cases p with
  | none =>
    have h0 : n = 0 := by
      rcases Nat.eq_zero_or_pos n with h0 | h0
      · exact h0
      · obtain ⟨b, off, _, h2, _⟩ := HS.out h0
        cases h2
    subst h0
    have hl : l = [] := List.eq_nil_of_length_eq_zero HL.out
    subst hl
    clear HS HL hcn HI
    simp only [Option.isNone_none, Option.isNone_some] at hq
    go_enter Try.func79, Try.ntmps79
    go_wp2
    go_ret
    exact ⟨_, rfl, World.ownsRow_nil _ _ _ _, Below.refl _ _⟩
  | some a =>
    simp only [Option.isNone_none, Option.isNone_some] at hq
    go_enter Try.func79, Try.ntmps79
    go_wp2_with (first | (at_builtin; refine wpList_append_sl rfl _ _ 23 rfl w.heap.size 29 i0 _ 1 4 Try.underlying23 HI.out.1 HI.out.2.1 HI.out.2.2.1 HI.out.2.2.2 rfl (by decide) _ 0 [] rfl (fresh_made (Nat.le_refl _)) (some a) n c (wdC l) rfl (by rw [wdC_len, HL.out]; omega) (HS.out.below ((Below.refl _ _).alloc (Nat.le_refl _) _)) (wdC_one _) (by unfold maxLen; omega) (by omega) (by simp) ?_))
    intro v' w' g1 g2 g3
    have HG : Hid (w'.ownsRow w.heap.size 29 1 v' n (wdC l)) := Lib.hid (by simpa using g1)
    have HB : Hid (Below w.heap.size w w') := Lib.hid (((Below.refl w.heap.size w).alloc (Nat.le_refl _) _).grown g2 (by simp) (fun k hk => by simp [Value.ownBlock] at hk; omega))
    clear g1 g2 g3
    go_wp2
    go_ret
    exact ⟨_, rfl, HG.out, HB.out⟩

set_option maxHeartbeats 2000000 in
theorem cloneU_any (p : Option Addr) (n c : Nat) (l : List Un) (w : World) (hl : l.length = n) (hs : Sl w p n (unC l)) (hm : n ≤ 10000) (hcn : n ≤ c) :
    Calls Try.prog 80 #[.slice p n c] w fun e w' => ∃ r, e = .returned r ∧ w'.ownsRow w.heap.size 66 3 r n (unC l) ∧ Below w.heap.size w w' := by
  obtain ⟨i0, hi, hz0, hz1, hz2⟩ := info_parts info51
  have HI := Lib.hid (And.intro hi (And.intro hz0 (And.intro hz1 hz2)))
  have HS := Lib.hid hs
  have HL := Lib.hid hl
  clear hs hl hi hz0 hz1 hz2
  have hq : ∀ W, (binOp .eql 26 (.slice p n c) (.slice none 0 0)).run Try.prog W = .ok (.bool p.isNone) W := fun W => Lib.run_eql_slice_nil W _ 66 _ _ _ _ _ Try.underlying26
  cases p with
  | none =>
    have h0 : n = 0 := by
      rcases Nat.eq_zero_or_pos n with h0 | h0
      · exact h0
      · obtain ⟨b, off, _, h2, _⟩ := HS.out h0
        cases h2
    subst h0
    have hl : l = [] := List.eq_nil_of_length_eq_zero HL.out
    subst hl
    clear HS HL hcn HI
    simp only [Option.isNone_none, Option.isNone_some] at hq
    go_enter Try.func80, Try.ntmps80
    go_wp2
    go_ret
    exact ⟨_, rfl, World.ownsRow_nil _ _ _ _, Below.refl _ _⟩
  | some a =>
    simp only [Option.isNone_none, Option.isNone_some] at hq
    go_enter Try.func80, Try.ntmps80
    go_wp2_with (first | (at_builtin; refine wpList_append_sl rfl _ _ 26 rfl w.heap.size 66 i0 _ 3 24 Try.underlying26 HI.out.1 HI.out.2.1 HI.out.2.2.1 HI.out.2.2.2 rfl (by decide) _ 0 [] rfl (fresh_made (Nat.le_refl _)) (some a) n c (unC l) rfl (by rw [unC_len, HL.out]) (HS.out.below ((Below.refl _ _).alloc (Nat.le_refl _) _)) (unC_oneCell _) (by unfold maxLen; omega) (by omega) (by simp) ?_))
    intro v' w' g1 g2 g3
    have HG : Hid (w'.ownsRow w.heap.size 66 3 v' n (unC l)) := Lib.hid (by simpa using g1)
    have HB : Hid (Below w.heap.size w w') := Lib.hid (((Below.refl w.heap.size w).alloc (Nat.le_refl _) _).grown g2 (by simp) (fun k hk => by simp [Value.ownBlock] at hk; omega))
    clear g1 g2 g3
    go_wp2
    go_ret
    exact ⟨_, rfl, HG.out, HB.out⟩

set_option maxHeartbeats 4000000 in
theorem copied_any (p q : Option Addr) (m c n d : Nat) (L : Lg) (w : World) (h : Lc w p m c q n d L) :
    Calls Try.prog 70 #[.agg #[.slice p m c, .int .i64 L.span, .slice q n d]] w fun e w' => ∃ p' c' q' d', e = .returned (.agg #[.slice p' m c', .int .i64 L.span, .slice q' n d']) ∧ OwnL (w.heap.size + 2) w' p' m c' q' n d' L ∧ Below w.heap.size w w' := by
  have HC := Lib.hid h
  have HCM := Lib.hid (fun W hW => cloneM_any p m c L.mem W h.ml (h.ms.below (w := w) (w' := W) hW) h.m10 h.mc)
  have HCU := Lib.hid (fun W hW => cloneU_any q n d L.list W h.ll (h.ls.below (w := w) (w' := W) hW) h.n10 h.nd)
  have HFIN : Hid (∀ w' p' c' q' d', w'.ownsRow (w.heap.size + 2) 29 1 (.slice p' m c') m (wdC L.mem) → w'.ownsRow (w.heap.size + 2) 66 3 (.slice q' n d') n (unC L.list) → (∀ g, (Value.slice p' m c').ownBlock = some g → (Value.slice q' n d').ownBlock ≠ some g) → OwnL (w.heap.size + 2) w' p' m c' q' n d' L) := Lib.hid (fun w' p' c' q' d' h1 h2 h3 => ⟨h1, h2, h3, h.m10, h.n10⟩)
  obtain ⟨s, hs⟩ : ∃ s, s = L.span := ⟨_, rfl⟩
  rw [← hs]
  obtain ⟨A, hA⟩ : ∃ A, A = wdC L.mem := ⟨_, rfl⟩
  rw [← hA] at HCM HFIN
  obtain ⟨B, hB⟩ : ∃ B, B = unC L.list := ⟨_, rfl⟩
  rw [← hB] at HCU HFIN
  clear hs hA hB h HC
  obtain ⟨w0, hw0⟩ : ∃ w0, w0 = (w.alloc (.cells #[.slice p m c, .int .i64 s, .slice q n d] 59)).alloc (.cells #[.slice none 0 0, .int .i64 0, .slice none 0 0] 59) := ⟨_, rfl⟩
  have HB0 : Hid (Below w.heap.size w w0) := Lib.hid (by rw [hw0]; exact ((Below.refl _ _).alloc (Nat.le_refl _) _).alloc (by simp) _)
  have HA0 : Hid (Blk w0 w.heap.size #[.slice p m c, .int .i64 s, .slice q n d]) := Lib.hid (by rw [hw0]; exact (Blk.new _ _ _).alloc _)
  have HT0 : Hid (Blk w0 (w.heap.size + 1) #[.slice none 0 0, .int .i64 0, .slice none 0 0]) := Lib.hid (by
    have := Blk.new (w.alloc (.cells #[.slice p m c, .int .i64 s, .slice q n d] 59)) #[.slice none 0 0, .int .i64 0, .slice none 0 0] 59
    rw [World.size_alloc] at this
    rw [hw0]; exact this)
  have HSZ : Hid (w0.heap.size = w.heap.size + 2) := Lib.hid (by rw [hw0, World.size_alloc, World.size_alloc])
  have HW0 := Lib.hid hw0
  clear hw0
  have HS : Hid (∀ V, Below w0.heap.size w0 V → ∀ t, V.cell? ⟨w.heap.size, t, none⟩ = (#[.slice p m c, .int .i64 s, .slice q n d] : Array Value)[t]?) := Lib.hid (fun V hV => (HA0.out.below hV).c)
  go_enter Try.func70, Try.ntmps70
  go_upto_region 1 with fail
  rw [← HW0.out]
  clear HW0
  refine region_plan (fun V : World => ∀ t, V.cell? ⟨w.heap.size, t, none⟩ = (#[.slice p m c, .int .i64 s, .slice q n d] : Array Value)[t]?) 8 [(0, true), (1, true), (3, true), (4, true), (5, true), (6, true), (2, false), (7, false)] (by kernel_rfl) (by kernel_rfl) (HS.out _ (Below.refl _ _).drew) ?_
  iterate 6
    refine plan_read (v := ?_) rfl (by rfl) ?_ ?_
    rotate_left
    · intro w' hS
      try dsimp only at hS
      go_simp
      try with_reducible rfl
    try simp only [Act.put, List.setIfInBounds_toArray, List.set_cons_zero, List.set_cons_succ, List.getElem_toArray, List.getElem_cons_zero, List.getElem_cons_succ]
  refine plan_call (F := 79) (args := ?_) rfl (by rfl) ?_ ?_
  rotate_left
  · go_simp
    rfl
  refine (HCM.out w0.drew HB0.out.drew).mono ?_
  rintro e w1 ⟨r, rfl, hr, hb⟩
  have HB1 : Hid (Below w0.heap.size w0 w1) := Lib.hid ((Below.refl _ _).drew.trans hb)
  have HR : Hid (w1.ownsRow (w.heap.size + 2) 29 1 r m A) := Lib.hid (own_base hr (by show w.heap.size + 2 ≤ w0.heap.size; rw [HSZ.out]; exact Nat.le_refl _))
  have HRL : Hid (∀ g, r.ownBlock = some g → g < w1.heap.size) := Lib.hid (fun g e => (hr.lt g e).2)
  clear hr hb
  obtain ⟨p', c', rfl, -⟩ := own_cap HR.out
  refine ⟨_, rfl, HS.out _ HB1.out, ?_⟩
  try simp only [Act.put, List.setIfInBounds_toArray, List.set_cons_zero, List.set_cons_succ, List.getElem_toArray, List.getElem_cons_zero, List.getElem_cons_succ]
  refine plan_call (F := 80) (args := ?_) rfl (by rfl) ?_ ?_
  rotate_left
  · go_simp
    rfl
  refine (HCU.out w1 (HB0.out.trans (HB1.out.mono HB0.out.size))).mono ?_
  rintro e w2 ⟨r, rfl, hr, hb⟩
  have HB2 : Hid (Below w0.heap.size w0 w2) := Lib.hid (HB1.out.trans (hb.mono HB1.out.size))
  have HR2 := Lib.hid (own_below HR.out hb)
  have HU : Hid (w2.ownsRow (w.heap.size + 2) 66 3 r n B) := Lib.hid (own_base hr (by have := HB1.out.size; have := HSZ.out; omega))
  have HUL : Hid (∀ g, r.ownBlock = some g → w1.heap.size ≤ g) := Lib.hid (fun g e => (hr.lt g e).1)
  clear hr hb
  obtain ⟨q', d', rfl, -⟩ := own_cap HU.out
  refine ⟨_, rfl, HS.out _ HB2.out, ?_⟩
  try simp only [Act.put, List.setIfInBounds_toArray, List.set_cons_zero, List.set_cons_succ, List.getElem_toArray, List.getElem_cons_zero, List.getElem_cons_succ]
  refine plan_nil ?_
  simp only [List.drop_succ_cons, List.drop_zero]
  have HT1 := Lib.hid (HT0.out.below HB2.out)
  have HBW : Hid (Below w.heap.size w w2) := Lib.hid (HB0.out.trans (HB2.out.mono HB0.out.size))
  have HOL := Lib.hid (HFIN.out w2 p' c' q' d' HR2.out HU.out (fun g e e2 => by have h1 := HRL.out g e; have h2 := HUL.out g e2; omega))
  clear HS HT0 HB0 HB1 HA0 HCM HCU HSZ HFIN HR HR2 HU HUL HRL HB2
  have cT := HT1.out.c
  have fT := HT1.out.f
  have lT := HT1.out.lt
  go_wp2_with fail
  exact bodyPost_ret (v := .agg #[.slice p' m c', .int .i64 s, .slice q' n d']) (by simp [results, Try.results70, go_sem, *]) rfl ⟨_, _, _, _, rfl, HOL.out.setOff3 (by omega) _ _ _, set3_below HBW.out (by omega) _ _ _⟩

theorem bad_iff {m : Nat} {s : Int} {l : List Un} : anyBad m s l = false ↔ ∀ u ∈ l, FitU m s u := by
  unfold anyBad
  rw [List.any_eq_false]
  exact ⟨fun h u hu => fitB_iff.1 (by simpa using h u hu), fun h u hu => by rw [fitB_iff.2 (h u hu)]; decide⟩
theorem right_eq (L : Lg) : rightL L = (sizeB (L.mem.length : Int) && (upB L.span topS && (decide ((L.list.length : Int) ≤ 256) && (!anyBad L.mem.length L.span L.list && (sortB L.list && decide (L.list.Pairwise ApartU)))))) := by
  rw [Bool.eq_iff_iff, right_iff, rt_iff]
  unfold sortB
  simp only [Bool.and_eq_true, up_iff, decide_eq_true_eq, Bool.not_eq_true', bad_iff]
  unfold sizeB
  rw [decide_eq_true_eq]
  constructor
  · rintro ⟨h1, h2, h3, h4, h5, h6, h7, h8⟩
    exact ⟨⟨by omega, by omega⟩, ⟨h3, h4⟩, by omega, h6, h7, h8⟩
  · rintro ⟨⟨h1, h2⟩, ⟨h3, h4⟩, h5, h6, h7, h8⟩
    exact ⟨by omega, by omega, h3, h4, by omega, h6, h7, h8⟩
theorem wf_fit {m : Nat} {s : Int} {l : List Un} (hs : s ≤ topS) (hm : m ≤ 64) (h : anyBad m s l = false) : wfL l := fun u hu => by
  have h1 := List.any_eq_false.1 h u hu
  have h2 : FitU m s u := fitB_iff.1 (by simpa using h1)
  unfold FitU at h2
  unfold topS at hs
  exact ⟨WalkArith.wf_i64 (by omega), WalkArith.wf_i64 (by omega)⟩

set_option maxHeartbeats 4000000 in
set_option maxRecDepth 100000 in
theorem right_any (S : Nat → Prop) (v : Value) (L : Lg) (w : World) (h : Lo S w v L) : Calls Try.prog 71 #[v] w fun e w' => e = .returned (.bool (rightL L)) ∧ Below w.heap.size w w' := by
  have HFI : Hid (∀ W, Below w.heap.size w W → Calls Try.prog 93 #[v] W fun e w' => e = .returned (.bool (!anyBad L.mem.length L.span L.list)) ∧ Below W.heap.size W w') := Lib.hid (fun W hW => fits_any S v L W (h.below hW))
  obtain ⟨p, m, c, q, n, d, rfl, hc, -⟩ := h
  have HSO : Hid (∀ W, Below w.heap.size w W → Calls Try.prog 94 #[.slice q n d, .func (.func 95) #[] #[]] W fun e w' => e = .returned (.bool (sortB L.list)) ∧ Below W.heap.size W w') := Lib.hid (fun W hW => sorted_any q n d L.list W hc.ll (hc.ls.below hW) hc.n10)
  have HBE : Hid (wfL L.list → ∀ W, Below w.heap.size w W → Calls Try.prog 73 #[.slice q n d] W fun e w' => e = .returned (.map (some W.heap.size)) ∧ w'.ownsMap Try.prog 105 rawE W.heap.size n (beM L.list n) ∧ Below W.heap.size W w') := Lib.hid (fun hw W hW => before_any q n d L.list W hc.ll (hc.ls.below hW) hc.n10 hw)
  have HLEN : Hid (wfL L.list → ((Maps.size (beM L.list n) : Int) == (n : Int)) = decide (L.list.Pairwise ApartU)) := Lib.hid (fun hw => by have := be_len hw; rw [hc.ll] at this; exact this)
  have HWF : Hid (sizeB (m : Int) = true → upB L.span topS = true → anyBad m L.span L.list = false → wfL L.list) := Lib.hid (fun h1 h2 h3 => wf_fit (up_iff.1 h2).2 (by have := of_decide_eq_true h1; omega) h3)
  have HR := Lib.hid (right_eq L)
  rw [hc.ml, hc.ll] at HR
  rw [hc.ml] at HFI
  obtain ⟨r, hr⟩ : ∃ r, r = rightL L := ⟨_, rfl⟩
  rw [← hr] at HR ⊢
  obtain ⟨s, hs⟩ : ∃ s, s = L.span := ⟨_, rfl⟩
  obtain ⟨l, hl⟩ : ∃ l, l = L.list := ⟨_, rfl⟩
  rw [← hl] at HR HFI HSO HBE HLEN HWF
  rw [← hs] at HR HFI HWF ⊢
  have hn := hc.n10
  clear hr hs hl hc
  obtain ⟨b0, d0⟩ : ∃ b, sizeB (m : Int) = b := ⟨_, rfl⟩
  obtain ⟨b1, d1⟩ : ∃ b, upB s topS = b := ⟨_, rfl⟩
  obtain ⟨b3, d3⟩ : ∃ b, anyBad m s l = b := ⟨_, rfl⟩
  obtain ⟨b4, d4⟩ : ∃ b, sortB l = b := ⟨_, rfl⟩
  rw [d0, d1, d3] at HWF
  rw [d0, d1, d3, d4] at HR
  rw [d3] at HFI
  rw [d4] at HSO
  have HM := Lib.hid (fun W => mayBe_any (m : Int) W)
  rw [d0] at HM
  have HU := Lib.hid (fun W => upTo_any s topS W)
  rw [d1] at HU
  clear d0 d1 d3 d4
  obtain ⟨w0, hw0⟩ : ∃ w0, w0 = w.alloc (.cells #[.slice p m c, .int .i64 s, .slice q n d] 59) := ⟨_, rfl⟩
  have HB0 : Hid (Below w.heap.size w w0) := Lib.hid (by rw [hw0]; exact (Below.refl _ _).alloc (Nat.le_refl _) _)
  have HA0 : Hid (Blk w0 w.heap.size #[.slice p m c, .int .i64 s, .slice q n d]) := Lib.hid (by rw [hw0]; exact Blk.new _ _ _)
  have HW0 := Lib.hid hw0
  clear hw0
  have HS : Hid (∀ V, Below w0.heap.size w0 V → ∀ t, V.cell? ⟨w.heap.size, t, none⟩ = (#[.slice p m c, .int .i64 s, .slice q n d] : Array Value)[t]?) := Lib.hid (fun V hV => (HA0.out.below hV).c)
  go_enter Try.func71, Try.ntmps71
  go_upto_region 1 with fail
  rw [← HW0.out]
  clear HW0
  have kA := HA0.out.c
  go_wp2_with fail
  refine (HM.out _).mono ?_
  rintro e w' ⟨rfl, rfl⟩
  cases b0 with
  | false =>
    go_wp2_with fail
    go_ret
    exact ⟨by rw [HR.out]; rfl, HB0.out⟩
  | true =>
  go_wp2_with fail
  refine (HU.out _).mono ?_
  rintro e w' ⟨rfl, rfl⟩
  cases b1 with
  | false =>
    go_wp2_with fail
    go_ret
    exact ⟨by rw [HR.out]; rfl, HB0.out⟩
  | true =>
  by_cases h2 : (n : Int) ≤ 256
  · have d2 : decide ((256 : Int) < (n : Int)) = false := decide_eq_false (by omega)
    have d2' : decide ((n : Int) ≤ 256) = true := decide_eq_true h2
    rw [d2'] at HR
    clear h2 d2'
    go_upto_region 3 with fail
    clear kA
    cases b3 with
    | true =>
      refine region_plan (fun V : World => ∀ t, V.cell? ⟨w.heap.size, t, none⟩ = (#[.slice p m c, .int .i64 s, .slice q n d] : Array Value)[t]?) 15 [(0, true), (1, false), (2, true), (3, true), (4, true), (5, false), (6, true), (7, true), (8, true), (9, true), (12, true), (13, true), (14, true), (10, false), (11, false)] (by kernel_rfl) (by kernel_rfl) (HS.out _ (Below.refl _ _).drew) ?_
      iterate 1
        refine plan_read (v := ?_) rfl (by rfl) ?_ ?_
        rotate_left
        · intro w' hS
          try dsimp only at hS
          go_simp
          try with_reducible rfl
        try simp only [Act.put, List.setIfInBounds_toArray, List.set_cons_zero, List.set_cons_succ, List.getElem_toArray, List.getElem_cons_zero, List.getElem_cons_succ]
      refine plan_call (F := 93) (args := ?_) rfl (by rfl) ?_ ?_
      rotate_left
      · go_simp
        rfl
      refine (HFI.out w0.drew HB0.out.drew).mono ?_
      rintro e w1 ⟨rfl, hb⟩
      have HB1 : Hid (Below w0.heap.size w0 w1) := Lib.hid ((Below.refl _ _).drew.trans hb)
      clear hb
      refine ⟨_, rfl, HS.out _ HB1.out, ?_⟩
      try simp only [Act.put, List.setIfInBounds_toArray, List.set_cons_zero, List.set_cons_succ, List.getElem_toArray, List.getElem_cons_zero, List.getElem_cons_succ]
      iterate 1
        refine plan_read (v := ?_) rfl (by rfl) ?_ ?_
        rotate_left
        · intro w' hS
          try dsimp only at hS
          go_simp
          try with_reducible rfl
        try simp only [Act.put, List.setIfInBounds_toArray, List.set_cons_zero, List.set_cons_succ, List.getElem_toArray, List.getElem_cons_zero, List.getElem_cons_succ]
      refine plan_skip rfl (by rfl) ?_
      try simp only [Act.put, List.setIfInBounds_toArray, List.set_cons_zero, List.set_cons_succ, List.getElem_toArray, List.getElem_cons_zero, List.getElem_cons_succ]
      refine plan_skip rfl (by rfl) ?_
      try simp only [Act.put, List.setIfInBounds_toArray, List.set_cons_zero, List.set_cons_succ, List.getElem_toArray, List.getElem_cons_zero, List.getElem_cons_succ]
      refine plan_skipc rfl (by rfl) (HS.out _ HB1.out) ?_
      try simp only [Act.put, List.setIfInBounds_toArray, List.set_cons_zero, List.set_cons_succ, List.getElem_toArray, List.getElem_cons_zero, List.getElem_cons_succ]
      iterate 2
        refine plan_read (v := ?_) rfl (by rfl) ?_ ?_
        rotate_left
        · intro w' hS
          try dsimp only at hS
          go_simp
          try with_reducible rfl
        try simp only [Act.put, List.setIfInBounds_toArray, List.set_cons_zero, List.set_cons_succ, List.getElem_toArray, List.getElem_cons_zero, List.getElem_cons_succ]
      refine plan_skip rfl (by rfl) ?_
      try simp only [Act.put, List.setIfInBounds_toArray, List.set_cons_zero, List.set_cons_succ, List.getElem_toArray, List.getElem_cons_zero, List.getElem_cons_succ]
      refine plan_skip rfl (by rfl) ?_
      try simp only [Act.put, List.setIfInBounds_toArray, List.set_cons_zero, List.set_cons_succ, List.getElem_toArray, List.getElem_cons_zero, List.getElem_cons_succ]
      refine plan_skip rfl (by rfl) ?_
      try simp only [Act.put, List.setIfInBounds_toArray, List.set_cons_zero, List.set_cons_succ, List.getElem_toArray, List.getElem_cons_zero, List.getElem_cons_succ]
      refine plan_skip rfl (by rfl) ?_
      try simp only [Act.put, List.setIfInBounds_toArray, List.set_cons_zero, List.set_cons_succ, List.getElem_toArray, List.getElem_cons_zero, List.getElem_cons_succ]
      refine plan_skip rfl (by rfl) ?_
      try simp only [Act.put, List.setIfInBounds_toArray, List.set_cons_zero, List.set_cons_succ, List.getElem_toArray, List.getElem_cons_zero, List.getElem_cons_succ]
      refine plan_skipc rfl (by rfl) (HS.out _ HB1.out) ?_
      try simp only [Act.put, List.setIfInBounds_toArray, List.set_cons_zero, List.set_cons_succ, List.getElem_toArray, List.getElem_cons_zero, List.getElem_cons_succ]
      refine plan_skipc rfl (by rfl) (HS.out _ HB1.out) ?_
      try simp only [Act.put, List.setIfInBounds_toArray, List.set_cons_zero, List.set_cons_succ, List.getElem_toArray, List.getElem_cons_zero, List.getElem_cons_succ]
      refine plan_nil ?_
      simp only [List.drop_succ_cons, List.drop_zero]
      go_wp2_with fail
      go_ret
      exact ⟨by rw [HR.out]; rfl, HB0.out.trans (HB1.out.mono HB0.out.size)⟩
    | false =>
    have hwf := HWF.out (by first | rfl | trivial) (by first | rfl | trivial) (by first | rfl | trivial)
    have HBW := Lib.hid (HBE.out hwf)
    have HLW := Lib.hid (HLEN.out hwf)
    clear HBE HLEN HWF hwf
    cases b4 with
    | false =>
      refine region_plan (fun V : World => ∀ t, V.cell? ⟨w.heap.size, t, none⟩ = (#[.slice p m c, .int .i64 s, .slice q n d] : Array Value)[t]?) 15 [(0, true), (1, false), (2, true), (3, true), (4, true), (5, false), (6, true), (7, true), (8, true), (9, true), (12, true), (13, true), (14, true), (10, false), (11, false)] (by kernel_rfl) (by kernel_rfl) (HS.out _ (Below.refl _ _).drew) ?_
      iterate 1
        refine plan_read (v := ?_) rfl (by rfl) ?_ ?_
        rotate_left
        · intro w' hS
          try dsimp only at hS
          go_simp
          try with_reducible rfl
        try simp only [Act.put, List.setIfInBounds_toArray, List.set_cons_zero, List.set_cons_succ, List.getElem_toArray, List.getElem_cons_zero, List.getElem_cons_succ]
      refine plan_call (F := 93) (args := ?_) rfl (by rfl) ?_ ?_
      rotate_left
      · go_simp
        rfl
      refine (HFI.out w0.drew HB0.out.drew).mono ?_
      rintro e w1 ⟨rfl, hb⟩
      have HB1 : Hid (Below w0.heap.size w0 w1) := Lib.hid ((Below.refl _ _).drew.trans hb)
      clear hb
      refine ⟨_, rfl, HS.out _ HB1.out, ?_⟩
      try simp only [Act.put, List.setIfInBounds_toArray, List.set_cons_zero, List.set_cons_succ, List.getElem_toArray, List.getElem_cons_zero, List.getElem_cons_succ]
      iterate 3
        refine plan_read (v := ?_) rfl (by rfl) ?_ ?_
        rotate_left
        · intro w' hS
          try dsimp only at hS
          go_simp
          try with_reducible rfl
        try simp only [Act.put, List.setIfInBounds_toArray, List.set_cons_zero, List.set_cons_succ, List.getElem_toArray, List.getElem_cons_zero, List.getElem_cons_succ]
      refine plan_call (F := 94) (args := ?_) rfl (by rfl) ?_ ?_
      rotate_left
      · go_simp
        rfl
      refine (HSO.out w1 (HB0.out.trans (HB1.out.mono HB0.out.size))).mono ?_
      rintro e w2 ⟨rfl, hb⟩
      have HB2 : Hid (Below w0.heap.size w0 w2) := Lib.hid (HB1.out.trans (hb.mono HB1.out.size))
      clear hb
      refine ⟨_, rfl, HS.out _ HB2.out, ?_⟩
      try simp only [Act.put, List.setIfInBounds_toArray, List.set_cons_zero, List.set_cons_succ, List.getElem_toArray, List.getElem_cons_zero, List.getElem_cons_succ]
      iterate 2
        refine plan_read (v := ?_) rfl (by rfl) ?_ ?_
        rotate_left
        · intro w' hS
          try dsimp only at hS
          go_simp
          try with_reducible rfl
        try simp only [Act.put, List.setIfInBounds_toArray, List.set_cons_zero, List.set_cons_succ, List.getElem_toArray, List.getElem_cons_zero, List.getElem_cons_succ]
      refine plan_skip rfl (by rfl) ?_
      try simp only [Act.put, List.setIfInBounds_toArray, List.set_cons_zero, List.set_cons_succ, List.getElem_toArray, List.getElem_cons_zero, List.getElem_cons_succ]
      refine plan_skip rfl (by rfl) ?_
      try simp only [Act.put, List.setIfInBounds_toArray, List.set_cons_zero, List.set_cons_succ, List.getElem_toArray, List.getElem_cons_zero, List.getElem_cons_succ]
      refine plan_skip rfl (by rfl) ?_
      try simp only [Act.put, List.setIfInBounds_toArray, List.set_cons_zero, List.set_cons_succ, List.getElem_toArray, List.getElem_cons_zero, List.getElem_cons_succ]
      refine plan_skip rfl (by rfl) ?_
      try simp only [Act.put, List.setIfInBounds_toArray, List.set_cons_zero, List.set_cons_succ, List.getElem_toArray, List.getElem_cons_zero, List.getElem_cons_succ]
      refine plan_skip rfl (by rfl) ?_
      try simp only [Act.put, List.setIfInBounds_toArray, List.set_cons_zero, List.set_cons_succ, List.getElem_toArray, List.getElem_cons_zero, List.getElem_cons_succ]
      refine plan_skipc rfl (by rfl) (HS.out _ HB2.out) ?_
      try simp only [Act.put, List.setIfInBounds_toArray, List.set_cons_zero, List.set_cons_succ, List.getElem_toArray, List.getElem_cons_zero, List.getElem_cons_succ]
      refine plan_skipc rfl (by rfl) (HS.out _ HB2.out) ?_
      try simp only [Act.put, List.setIfInBounds_toArray, List.set_cons_zero, List.set_cons_succ, List.getElem_toArray, List.getElem_cons_zero, List.getElem_cons_succ]
      refine plan_nil ?_
      simp only [List.drop_succ_cons, List.drop_zero]
      go_wp2_with fail
      go_ret
      exact ⟨by rw [HR.out]; rfl, HB0.out.trans (HB2.out.mono HB0.out.size)⟩
    | true =>
      refine region_plan (fun V : World => ∀ t, V.cell? ⟨w.heap.size, t, none⟩ = (#[.slice p m c, .int .i64 s, .slice q n d] : Array Value)[t]?) 15 [(0, true), (1, false), (2, true), (3, true), (4, true), (5, false), (6, true), (7, true), (8, true), (9, true), (12, true), (13, true), (14, true), (10, false), (11, false)] (by kernel_rfl) (by kernel_rfl) (HS.out _ (Below.refl _ _).drew) ?_
      iterate 1
        refine plan_read (v := ?_) rfl (by rfl) ?_ ?_
        rotate_left
        · intro w' hS
          try dsimp only at hS
          go_simp
          try with_reducible rfl
        try simp only [Act.put, List.setIfInBounds_toArray, List.set_cons_zero, List.set_cons_succ, List.getElem_toArray, List.getElem_cons_zero, List.getElem_cons_succ]
      refine plan_call (F := 93) (args := ?_) rfl (by rfl) ?_ ?_
      rotate_left
      · go_simp
        rfl
      refine (HFI.out w0.drew HB0.out.drew).mono ?_
      rintro e w1 ⟨rfl, hb⟩
      have HB1 : Hid (Below w0.heap.size w0 w1) := Lib.hid ((Below.refl _ _).drew.trans hb)
      clear hb
      refine ⟨_, rfl, HS.out _ HB1.out, ?_⟩
      try simp only [Act.put, List.setIfInBounds_toArray, List.set_cons_zero, List.set_cons_succ, List.getElem_toArray, List.getElem_cons_zero, List.getElem_cons_succ]
      iterate 3
        refine plan_read (v := ?_) rfl (by rfl) ?_ ?_
        rotate_left
        · intro w' hS
          try dsimp only at hS
          go_simp
          try with_reducible rfl
        try simp only [Act.put, List.setIfInBounds_toArray, List.set_cons_zero, List.set_cons_succ, List.getElem_toArray, List.getElem_cons_zero, List.getElem_cons_succ]
      refine plan_call (F := 94) (args := ?_) rfl (by rfl) ?_ ?_
      rotate_left
      · go_simp
        rfl
      refine (HSO.out w1 (HB0.out.trans (HB1.out.mono HB0.out.size))).mono ?_
      rintro e w2 ⟨rfl, hb⟩
      have HB2 : Hid (Below w0.heap.size w0 w2) := Lib.hid (HB1.out.trans (hb.mono HB1.out.size))
      clear hb
      refine ⟨_, rfl, HS.out _ HB2.out, ?_⟩
      try simp only [Act.put, List.setIfInBounds_toArray, List.set_cons_zero, List.set_cons_succ, List.getElem_toArray, List.getElem_cons_zero, List.getElem_cons_succ]
      iterate 7
        refine plan_read (v := ?_) rfl (by rfl) ?_ ?_
        rotate_left
        · intro w' hS
          try dsimp only at hS
          go_simp
          try with_reducible rfl
        try simp only [Act.put, List.setIfInBounds_toArray, List.set_cons_zero, List.set_cons_succ, List.getElem_toArray, List.getElem_cons_zero, List.getElem_cons_succ]
      refine plan_call (F := 73) (args := ?_) rfl (by rfl) ?_ ?_
      rotate_left
      · go_simp
        rfl
      refine (HBW.out w2 (HB0.out.trans (HB2.out.mono HB0.out.size))).mono ?_
      rintro e w3 ⟨rfl, ho, hb⟩
      have HB3 : Hid (Below w0.heap.size w0 w3) := Lib.hid (HB2.out.trans (hb.mono HB2.out.size))
      have HO := Lib.hid ho
      clear hb ho
      refine ⟨_, rfl, HS.out _ HB3.out, ?_⟩
      try simp only [Act.put, List.setIfInBounds_toArray, List.set_cons_zero, List.set_cons_succ, List.getElem_toArray, List.getElem_cons_zero, List.getElem_cons_succ]
      refine plan_make (v := .int .i64 (Maps.size (beM l n))) (w1 := w3) rfl (by rfl) ?_ (HS.out _ HB3.out) ?_
      · have hl := HO.out.len Try.underlying103 3
        go_simp
      try simp only [Act.put, List.setIfInBounds_toArray, List.set_cons_zero, List.set_cons_succ, List.getElem_toArray, List.getElem_cons_zero, List.getElem_cons_succ]
      refine plan_nil ?_
      simp only [List.drop_succ_cons, List.drop_zero]
      obtain ⟨z, hz⟩ : ∃ z, z = decide (l.Pairwise ApartU) := ⟨_, rfl⟩
      rw [← hz] at HR HLW
      have hlw := HLW.out
      clear hz
      go_wp2_with fail
      go_ret
      exact ⟨by rw [HR.out]; rfl, HB0.out.trans (HB3.out.mono HB0.out.size)⟩
  · have d2 : decide ((256 : Int) < (n : Int)) = true := decide_eq_true (by omega)
    have d2' : decide ((n : Int) ≤ 256) = false := decide_eq_false h2
    rw [d2'] at HR
    clear h2 d2'
    go_wp2_with fail
    go_ret
    exact ⟨by rw [HR.out]; rfl, HB0.out⟩
end Go.Proofs.Ytflakmabciokbaa.Ud
/- Some of a list taken out, in memory of one's own; where a list's intervals come to one; no condition but that these are there. -/
namespace Go.Proofs.Ytflakmabciokbaa.Ud
set_option linter.unusedVariables false
open Go.ChangeShapes Go.WideShapes Go.ChangeAt Go.RowKit

def zrC (c : Nat) : List Value := (Builtin.zeroCells (Value.cells (.agg #[.int .i64 0, .int .i64 0, .int .u32 0])) c).toList
theorem zrC_len (c : Nat) : (zrC c).length = c * 3 := by unfold zrC; rw [Array.length_toList, size_zeroCells]; rfl
theorem zrC_one (c : Nat) : ∀ u ∈ zrC c, u.oneCell' = true := by
  intro u hu
  unfold zrC Builtin.zeroCells at hu
  rw [Array.toList_map, List.mem_map] at hu
  obtain ⟨i, _, rfl⟩ := hu
  have h3 : (Value.cells (.agg #[.int .i64 0, .int .i64 0, .int .u32 0])).size = 3 := rfl
  rw [h3]
  have h : i % 3 < 3 := Nat.mod_lt _ (by decide)
  generalize i % 3 = t at h
  have : t = 0 ∨ t = 1 ∨ t = 2 := by omega
  rcases this with rfl | rfl | rfl <;> rfl
theorem row_grown (w : World) (g : Nat) (cs : Array Value) : w.grownBy (w.setRow g cs) (some g) :=
  ⟨rfl, rfl, rfl, by simp, fun k _ hk => setRow_other w g k _ (fun e => hk (by rw [e]))⟩
theorem clear_row (w : World) (g o cnt c : Nat) (cur : Array Value) (hc : 0 < cnt) (hg : w.heap[g]? = some (.cells cur 66 (0, 0))) (hfit : o + cnt * 3 ≤ cur.size) : ∀ ty, (Builtin.clear_ #[26] ty #[.slice (some ⟨g, o, none⟩) cnt c]).run Try.prog w =
    .ok (.tuple #[]) (w.setRow g (cur.toList.take o ++ zrC cnt ++ cur.toList.drop (o + cnt * 3)).toArray) := fun ty => by
  have hst := run_storeCells_at Try.prog g o 66 (zrC cnt) 0 cur w hg (by rw [zrC_len]; simpa using hfit) (zrC_one cnt)
  simp only [Nat.add_zero, zrC_len] at hst
  obtain ⟨c1, rfl⟩ : ∃ c1, cnt = c1 + 1 := ⟨cnt - 1, by omega⟩
  have hz : zrC (c1 + 1) = (Builtin.zeroCells (Value.cells (.agg #[.int .i64 0, .int .i64 0, .int .u32 0])) (c1 + 1)).toList := rfl
  rw [hz] at hst
  simp [Builtin.clear_, run_underlying Try.underlying26, Try.zeroValue66, hst, hz]

theorem cut_eq {α : Type} (l : List α) (k j : Nat) (h : k = j) : l.take k ++ l.drop j = l := by rw [h]; exact List.take_append_drop _ _
set_option maxHeartbeats 4000000 in
set_option maxRecDepth 100000 in
theorem delete_at (base g n cap k j q : Nat) (l : List Un) (w : World) (h : w.ownsRow base 66 3 (.slice (some ⟨g, 0, none⟩) n cap) n (unC l)) (hn : l.length = n) (hj : k < j) (hjn : j ≤ n) (hq : q + (j - k) = n) (hm : n ≤ 10000) :
    Calls Try.prog 77 #[.slice (some ⟨g, 0, none⟩) n cap, .int .i64 (k : Int), .int .i64 (j : Int)] w fun e w' => e = .returned (.slice (some ⟨g, 0, none⟩) q cap) ∧ w'.ownsRow base 66 3 (.slice (some ⟨g, 0, none⟩) q cap) q (unC (l.take k ++ l.drop j)) ∧ w.grownBy w' (some g) := by
  obtain ⟨hlen, ⟨he, _⟩ | ⟨g', cap', cur, he, hbg, hg, hnc, hcm, hcs, htake⟩⟩ := h
  · injection he with he; cases he
  injection he with e1 e2 e3
  injection e1 with e1
  injection e1 with e1
  subst e1 e3
  obtain ⟨i0, hi, hz0, hz1, hz2⟩ := info_parts info51
  obtain ⟨news, hnews⟩ : ∃ news, news = unC (l.drop j) := ⟨_, rfl⟩
  have hnl : news.length = (n - j) * 3 := by rw [hnews, unC_len, List.length_drop, hn]
  have hcur : ∀ t, t < n * 3 → cur[t]? = (unC l)[t]? := fun t ht => by
    rw [← htake, List.getElem?_take_of_lt ht, Array.getElem?_toList]
  have hsrc : ∃ A : Addr, (if cap = j then some (⟨g, 0, none⟩ : Addr) else some ⟨g, j * 3, none⟩) = some A ∧ ∀ t u, news[t]? = some u → w.drew.cell? (A.add t) = some u := by
    by_cases hc : cap = j
    · refine ⟨⟨g, 0, none⟩, by simp [hc], fun t u hu => ?_⟩
      have h0 : news.length = 0 := by rw [hnl]; omega
      rw [List.length_eq_zero_iff.1 h0] at hu
      simp at hu
    · refine ⟨⟨g, j * 3, none⟩, by simp [hc], fun t u hu => ?_⟩
      have ht : t < (n - j) * 3 := by
        have := (List.getElem?_eq_some_iff.1 hu).1
        rwa [hnl] at this
      rw [Addr.add_lit]
      show w.cell? ⟨g, j * 3 + t, none⟩ = some u
      have e0 : w.cell? ⟨g, j * 3 + t, none⟩ = cur[j * 3 + t]? := by simp [World.cell?, hg]
      rw [e0, hcur _ (by omega), ← hu, hnews, unC_drop l j, List.getElem?_drop]
  obtain ⟨A, hA, hAs⟩ := hsrc
  have hap := fun ty => run_append_room (P := Try.prog) w.drew 26 ty 66 i0 Try.underlying26 hi g k cap cur hg A (n - j) (cap - j) news (by rw [hnl, hz1]) hAs (by rw [hnews]; exact unC_oneCell _) (by omega) (by rw [hz1, hnl, hcs]; omega)
  rw [hz1, show k + (n - j) = q by omega] at hap
  obtain ⟨cur1, hcur1⟩ : ∃ cur1, cur1 = (cur.toList.take (k * 3) ++ news ++ cur.toList.drop (k * 3 + news.length)).toArray := ⟨_, rfl⟩
  obtain ⟨W1, hW1⟩ : ∃ W1, W1 = w.drew.setRow g cur1 := ⟨_, rfl⟩
  rw [← hcur1, ← hW1] at hap
  have hg1 : W1.heap[g]? = some (.cells cur1 66 (0, 0)) := by rw [hW1]; exact setRow_heap w.drew g cur _ _ _ hg
  have hs1 : cur1.size = cap * 3 := by
    rw [hcur1]
    simp only [List.size_toArray, List.length_append, List.length_take, List.length_drop, Array.length_toList, hnl, hcs]
    omega
  have htl : cur.toList.take (k * 3) = unC (l.take k) := by
    rw [unC_take l k, ← htake, List.take_take, Nat.min_eq_left (by omega)]
  have ht1 : cur1.toList.take (q * 3) = unC (l.take k ++ l.drop j) := by
    rw [hcur1, unC_app, ← htl, ← hnews]
    show (cur.toList.take (k * 3) ++ news ++ cur.toList.drop (k * 3 + news.length)).take (q * 3) = _
    have e1 : (cur.toList.take (k * 3) ++ news).length = q * 3 := by
      rw [List.length_append, List.length_take, Array.length_toList, hcs, hnl]; omega
    rw [← e1, List.take_left]
  obtain ⟨cnt, hcnt⟩ : ∃ cnt, cnt = j - k := ⟨_, rfl⟩
  have hcl := clear_row W1 g (q * 3) cnt (cap - q) cur1 (by omega) hg1 (by rw [hs1]; omega)
  obtain ⟨cur2, hcur2⟩ : ∃ cur2, cur2 = (cur1.toList.take (q * 3) ++ zrC cnt ++ cur1.toList.drop (q * 3 + cnt * 3)).toArray := ⟨_, rfl⟩
  obtain ⟨W2, hW2⟩ : ∃ W2, W2 = W1.setRow g cur2 := ⟨_, rfl⟩
  rw [← hcur2, ← hW2] at hcl
  have hEND : Hid (W2.ownsRow base 66 3 (.slice (some ⟨g, 0, none⟩) q cap) q (unC (l.take k ++ l.drop j)) ∧ w.grownBy W2 (some g)) := Lib.hid (by
    refine ⟨⟨?_, .inr ⟨g, cap, cur2, rfl, hbg, by rw [hW2]; exact setRow_heap W1 g cur1 _ _ _ hg1, by omega, hcm, ?_, ?_⟩⟩, ?_⟩
    · rw [unC_len, List.length_append, List.length_take, List.length_drop]; omega
    · rw [hcur2]
      simp only [List.size_toArray, List.length_append, List.length_take, List.length_drop, Array.length_toList, zrC_len, hs1]
      omega
    · rw [hcur2]
      show (cur1.toList.take (q * 3) ++ zrC cnt ++ cur1.toList.drop (q * 3 + cnt * 3)).take (q * 3) = _
      have e1 : (cur1.toList.take (q * 3)).length = q * 3 := by rw [List.length_take, Array.length_toList, hs1]; omega
      rw [List.append_assoc]
      rw [List.take_append_of_le_length (by rw [e1]; exact Nat.le_refl _), List.take_of_length_le (by rw [e1]; exact Nat.le_refl _), ht1]
    · rw [hW2, hW1]
      exact ⟨rfl, rfl, rfl, by simp, fun k _ hk => (setRow_other _ g k _ (fun e => hk (by rw [e]))).trans (setRow_other w.drew g k _ (fun e => hk (by rw [e])))⟩)
  have HAP := Lib.hid hap
  have HCL := Lib.hid hcl
  have HJ := Lib.hid hj
  have HQ := Lib.hid hq
  clear hap hcl hAs htl ht1 hs1 hg1 hW1 hW2 hcur1 hcur2 hcur hnews hnl htake hcs hg hlen hi hz0 hz1 hz2 hn
  have hkn : k ≤ n := by omega
  have hkj : k ≤ j := by omega
  have hne : ((k : Int) == (j : Int)) = false := by simp; omega
  have hcq : ¬ cap = q := by omega
  have hnq : n - q = cnt := by omega
  have hqn : q ≤ n := by omega
  have hqc : q ≤ cap := by omega
  have hkj' : ¬ k = j := by omega
  clear hj hq e2 hcnt
  have hkc : k ≤ cap := by omega
  have hjc : j ≤ cap := by omega
  unfold maxLen at hcm
  go_enter Try.func77, Try.ntmps77
  go_upto_region 5 with fail
  refine region_plan (fun w' : World => w' = w.drew) 6 [(0, true), (1, true), (2, true), (3, true), (4, true), (5, true)] (by kernel_rfl) (by kernel_rfl) rfl ?_
  iterate 6
    refine plan_read (v := ?_) rfl (by rfl) ?_ ?_
    rotate_left
    · intro w' hS
      try dsimp only at hS
      go_simp
      try with_reducible rfl
    try simp only [Act.put, List.setIfInBounds_toArray, List.set_cons_zero, List.set_cons_succ, List.getElem_toArray, List.getElem_cons_zero, List.getElem_cons_succ]
  refine plan_nil ?_
  simp only [List.drop_succ_cons, List.drop_zero]
  go_wp2_with (at_builtin; refine Lib.wpList_append_run _ rfl _ _ _ _ rfl _ _ rfl (by first | rfl | (rw [← hA]; rfl)) _ _ (HAP.out _) ?_)
  clear hA
  have hcl := HCL.out 0
  go_wp2_with fail
  rw [hcl]
  go_wp2_with fail
  go_ret
  exact ⟨rfl, hEND.out.1, hEND.out.2⟩
set_option maxHeartbeats 1000000 in
theorem delete_none (p : Option Addr) (n c k : Nat) (w : World) (hk : k ≤ n) (hnc : n ≤ c) (hm : n ≤ 10000) :
    Calls Try.prog 77 #[.slice p n c, .int .i64 (k : Int), .int .i64 (k : Int)] w fun e w' => e = .returned (.slice p n c) ∧ w = w' := by
  have hkc : k ≤ c := by omega
  cases p with
  | none =>
    go_enter Try.func77, Try.ntmps77
    go_wp2_with fail
    go_ret
    exact ⟨rfl, rfl⟩
  | some a =>
    go_enter Try.func77, Try.ntmps77
    go_wp2_with fail
    all_goals
      go_ret
      exact ⟨rfl, rfl⟩
theorem delete_any (base n cap k j : Nat) (p : Option Addr) (l : List Un) (w : World) (h : w.ownsRow base 66 3 (.slice p n cap) n (unC l)) (hn : l.length = n) (hj : k ≤ j) (hjn : j ≤ n) (hm : n ≤ 10000) :
    Calls Try.prog 77 #[.slice p n cap, .int .i64 (k : Int), .int .i64 (j : Int)] w fun e w' => e = .returned (.slice p (l.take k ++ l.drop j).length cap) ∧ w'.ownsRow base 66 3 (.slice p (l.take k ++ l.drop j).length cap) (l.take k ++ l.drop j).length (unC (l.take k ++ l.drop j)) ∧ w.grownBy w' (Value.slice p n cap).ownBlock := by
  rcases Nat.lt_or_ge k j with h1 | h1
  · obtain ⟨g, rfl, -, -, -, -⟩ := own_go h (by omega)
    have hl : (l.take k ++ l.drop j).length = n - (j - k) := by rw [List.length_append, List.length_take, List.length_drop]; omega
    rw [hl]
    exact delete_at base g n cap k j (n - (j - k)) l w h hn h1 hjn (by omega) hm
  · have e : k = j := by omega
    subst e
    obtain ⟨p', c', e2, hc⟩ := own_cap h
    injection e2 with _ _ e2
    subst e2
    rw [List.take_append_drop, hn]
    exact (delete_none p n cap k w hjn hc hm).mono fun _ _ ⟨h1, h2⟩ => ⟨h1, h2 ▸ h, h2 ▸ World.grownBy.refl _ _⟩
end Go.Proofs.Ytflakmabciokbaa.Ud
/- Where a list whose intervals rise comes to one; room; whether there was an interval; new logs; no condition but that they read. -/
namespace Go.Proofs.Ytflakmabciokbaa.Ud
set_option linter.unusedVariables false
open Go.ChangeShapes Go.WideShapes Go.ChangeAt Go.RowKit

theorem shr_run (ρ : Operand → Value) (w : World) (dst : Option Tmp) (x y : Operand) (ty : TypeId) (pos : String) (after : Array Edge) (guard : Option (Nat × Bool)) (z k : Int) (hz : z / 2 = k) (hx : ρ x = .int .u64 z) (hy : ρ y = .int .u64 1) :
    (execOp ρ { dst, op := .binOp .shr 130 x y 130, type := ty, pos, after, guard }).run Try.prog w = .ok (.value (.int .u64 k)) w := by
  subst hz
  go_simp
theorem conv_run (ρ : Operand → Value) (w : World) (dst : Option Tmp) (x : Operand) (ty : TypeId) (pos : String) (after : Array Edge) (guard : Option (Nat × Bool)) (k : Int) (hk : IntKind.i64.wrap k = k) (hx : ρ x = .int .u64 k) :
    (execOp ρ { dst, op := .convert 130 3 x, type := ty, pos, after, guard }).run Try.prog w = .ok (.value (.int .i64 k)) w := by
  go_simp
theorem wpList_conv {ops : Array Oper} {rest : List Oper} {a : Act} {w : World} {Q : Exit → Act → World → Prop} {dst : Option Tmp} {x : Operand} {ty : TypeId} {pos : String} {after : Array Edge} (k : Int) (hk : IntKind.i64.wrap k = k) (hx : a.eval x = .int .u64 k) (h : wpList Try.prog ops Q rest (a.put dst (.int .i64 k)) w) :
    wpList Try.prog ops Q ({ dst, op := .convert 130 3 x, type := ty, pos, after, guard := none } :: rest) a w :=
  wpList_plain rfl fun K hK => by
    unfold Oper.wp
    rw [conv_run a.eval w dst x ty pos after none k hk hx]
    exact hK _ _ h
theorem wpList_shr {ops : Array Oper} {rest : List Oper} {a : Act} {w : World} {Q : Exit → Act → World → Prop} {dst : Option Tmp} {x y : Operand} {ty : TypeId} {pos : String} {after : Array Edge} (z k : Int) (hz : z / 2 = k) (hx : a.eval x = .int .u64 z) (hy : a.eval y = .int .u64 1) (h : wpList Try.prog ops Q rest (a.put dst (.int .u64 k)) w) :
    wpList Try.prog ops Q ({ dst, op := .binOp .shr 130 x y 130, type := ty, pos, after, guard := none } :: rest) a w :=
  wpList_plain rfl fun K hK => by
    unfold Oper.wp
    rw [shr_run a.eval w dst x y ty pos after none z k hz hx hy]
    exact hK _ _ h

set_option maxHeartbeats 4000000 in
set_option maxRecDepth 100000 in
theorem search_any (q : Option Addr) (n x : Nat) (l : List Un) (s a v : Int) (w : World) (hl : l.length = n) (hs : Sl w q n (unC l)) (hn : n ≤ 10000) (hsort : l.Pairwise fun x y => x.span ≤ y.span) :
    Calls Try.prog 96 #[.slice q n x, .agg #[.int .i64 s, .int .i64 a, .int .u32 v], .func (.func 95) #[] #[]] w fun e w' => ∃ b : Bool, e = .returned (.tuple #[.int .i64 (cutU l s : Nat), .bool b]) ∧ Below w.heap.size w w' := by
  have HCUT : Hid (∀ k, k < n → ((l.getD k zU).span < s ↔ k < cutU l s)) := Lib.hid (fun k hk => cut_lt hsort s k (by omega))
  have HCL : Hid (cutU l s ≤ n) := Lib.hid (by rw [← hl]; exact cut_le l s)
  have HAT : Hid (∀ k, k < n → ∃ b off, q = some ⟨b, off, none⟩ ∧ UnAt w b off k (l.getD k zU)) := Lib.hid (fun k hk => un_at (by rw [hl]; exact hs) k (by omega))
  obtain ⟨r, hr⟩ : ∃ r, r = cutU l s := ⟨_, rfl⟩
  rw [← hr] at HCUT HCL ⊢
  clear hr hs hl hsort
  have HB0 : Hid (Below w.heap.size w (w.alloc (.cells #[.int .i64 s, .int .i64 a, .int .u32 v] 66))) := Lib.hid ((Below.refl _ _).alloc (Nat.le_refl _) _)
  have HA0 : Hid (Blk (w.alloc (.cells #[.int .i64 s, .int .i64 a, .int .u32 v] 66)) w.heap.size #[.int .i64 s, .int .i64 a, .int .u32 v]) := Lib.hid (Blk.new _ _ _)
  go_enter Try.func96, Try.ntmps96
  go_wp2_with fail
  go_loopw [9, 10] (fun vi vj wr => ∃ i j : Nat, vi = .int .i64 i ∧ vj = .int .i64 j ∧ i ≤ r ∧ r ≤ j ∧ j ≤ n ∧ Blk wr w.heap.size #[.int .i64 s, .int .i64 a, .int .u32 v] ∧ Below w.heap.size w wr) (fun vi vj _ => (intOf vj).toNat - (intOf vi).toNat)
  case atStart => exact ⟨0, n, rfl, rfl, Nat.zero_le _, HCL.out, Nat.le_refl _, HA0.out, HB0.out⟩
  case round =>
    obtain ⟨i, j, rfl, rfl, hir, hrj, hjn, ha, hb⟩ := hrel
    have HB := Lib.hid hb
    have HA := Lib.hid ha
    clear hb ha HB0 HA0
    by_cases hlt : i < j
    · have hltI : (i : Int) < (j : Int) := by omega
      obtain ⟨k, hk⟩ : ∃ k, k = (i + j) / 2 := ⟨_, rfl⟩
      have hik : i ≤ k := by omega
      have hkj : k < j := by omega
      have hkn : k < n := by omega
      have hkI : (k : Int) < (n : Int) := by omega
      have f1 : IntKind.i64.wrap ((i : Int) + (j : Int)) = (i : Int) + (j : Int) := by rw [IntKind.wrap_i64]; omega
      have f2 : wrap64 ((i : Int) + (j : Int)) = (i : Int) + (j : Int) := by unfold wrap64; omega
      have f3 : ((i : Int) + (j : Int)) / 2 = (k : Int) := by omega
      have f4 : IntKind.u64.wrap ((i : Int) + (j : Int)) = (i : Int) + (j : Int) := by rw [IntKind.wrap_u64]; omega
      have f5 : IntKind.i64.wrap (k : Int) = (k : Int) := by rw [IntKind.wrap_i64]; omega
      have f6 : wrap64 (k : Int) = (k : Int) := by unfold wrap64; omega
      obtain ⟨b, off, rfl, hat⟩ := HAT.out k hkn
      have hat2 := hat.below HB.out
      have HC := Lib.hid (HCUT.out k hkn)
      obtain ⟨y, hy⟩ : ∃ y, y = l.getD k zU := ⟨_, rfl⟩
      rw [← hy] at hat2 HC
      have HS : Hid (∀ V, Below wr.heap.size wr V → (V.cell? ⟨b, off + k * 3, none⟩ = some (.int .i64 y.span) ∧ V.cell? ⟨b, off + k * 3 + 1, none⟩ = some (.int .i64 y.at_) ∧ V.cell? ⟨b, off + k * 3 + 2, none⟩ = some (.int .u32 y.val)) ∧ ∀ t, V.cell? ⟨w.heap.size, t, none⟩ = (#[.int .i64 s, .int .i64 a, .int .u32 v] : Array Value)[t]?) := Lib.hid (fun V hV => ⟨⟨(hat2.below hV).c0, (hat2.below hV).c1, (hat2.below hV).c2⟩, (HA.out.below hV).c⟩)
      obtain ⟨ys, ya, yv⟩ := y
      dsimp only at HS HC
      have F3 := Lib.hid f3
      have F5 := Lib.hid f5
      clear hat hat2 hy hk f3 f5 f6
      go_upto_region 5 with (first | (refine wpList_shr ((i : Int) + (j : Int)) (k : Int) F3.out rfl rfl ?_; simp only [Act.put, List.setIfInBounds_toArray, List.set_cons_zero, List.set_cons_succ]) | (refine wpList_conv (k : Int) F5.out rfl ?_; simp only [Act.put, List.setIfInBounds_toArray, List.set_cons_zero, List.set_cons_succ]))
      refine region_plan (fun V : World => (V.cell? ⟨b, off + k * 3, none⟩ = some (.int .i64 ys) ∧ V.cell? ⟨b, off + k * 3 + 1, none⟩ = some (.int .i64 ya) ∧ V.cell? ⟨b, off + k * 3 + 2, none⟩ = some (.int .u32 yv)) ∧ ∀ t, V.cell? ⟨w.heap.size, t, none⟩ = (#[.int .i64 s, .int .i64 a, .int .u32 v] : Array Value)[t]?) 7 [(0, true), (1, true), (2, true), (3, true), (4, true), (5, true), (6, false)] (by kernel_rfl) (by kernel_rfl) (HS.out _ (Below.refl _ _).drew) ?_
      iterate 6
        refine plan_read (v := ?_) rfl (by rfl) ?_ ?_
        rotate_left
        · intro w' hS
          try dsimp only at hS
          go_simp
          try with_reducible rfl
        try simp only [Act.put, List.setIfInBounds_toArray, List.set_cons_zero, List.set_cons_succ, List.getElem_toArray, List.getElem_cons_zero, List.getElem_cons_succ]
      refine plan_call (F := 95) (args := ?_) rfl (by rfl) ?_ ?_
      rotate_left
      · go_simp
        rfl
      refine (bySpan_any ys ya yv s a v wr.drew).mono ?_
      rintro e w2 ⟨rfl, hb2⟩
      have HB2 : Hid (Below wr.heap.size wr w2) := Lib.hid ((Below.refl _ _).drew.trans hb2)
      clear hb2
      refine ⟨_, rfl, HS.out _ HB2.out, ?_⟩
      try simp only [Act.put, List.setIfInBounds_toArray, List.set_cons_zero, List.set_cons_succ, List.getElem_toArray, List.getElem_cons_zero, List.getElem_cons_succ]
      refine plan_nil ?_
      simp only [List.drop_succ_cons, List.drop_zero]
      have HBW : Hid (Below w.heap.size w w2) := Lib.hid (HB.out.trans (HB2.out.mono HB.out.size))
      have HA2 := Lib.hid (HA.out.below HB2.out)
      by_cases hc : ys < s
      · have dc : decide (cmpI ys s < 0) = true := by rw [cmp_neg]; exact decide_eq_true hc
        have hkr : k < r := HC.out.1 hc
        have f7 : IntKind.i64.wrap ((k : Int) + 1) = (k : Int) + 1 := by rw [IntKind.wrap_i64]; omega
        have f8 : wrap64 ((k : Int) + 1) = (k : Int) + 1 := by unfold wrap64; omega
        clear hc f1 f2 f4
        go_wp2_with fail
        go_roundw
        case rel => exact ⟨k + 1, j, by first | rfl | simp, rfl, by omega, hrj, hjn, HA2.out, HBW.out⟩
        case measure => simp [intOf]; omega
      · have dc : decide (cmpI ys s < 0) = false := by rw [cmp_neg]; exact decide_eq_false hc
        have hkr : ¬ k < r := fun h => hc (HC.out.2 h)
        clear hc f1 f2 f4
        go_wp2_with fail
        go_roundw
        case rel => exact ⟨i, k, rfl, rfl, hir, by omega, by omega, HA2.out, HBW.out⟩
        case measure => simp [intOf]; omega
    · have hij : i = r := by omega
      subst hij
      have dlt : decide ((i : Int) < (j : Int)) = false := decide_eq_false (by omega)
      go_upto_region 8 with fail
      by_cases hin : i < n
      · have hinI : (i : Int) < (n : Int) := by omega
        obtain ⟨b, off, rfl, hat⟩ := HAT.out i hin
        have hat2 := hat.below HB.out
        obtain ⟨y, hy⟩ : ∃ y, y = l.getD i zU := ⟨_, rfl⟩
        rw [← hy] at hat2
        have HS : Hid (∀ V, Below wr.heap.size wr V → (V.cell? ⟨b, off + i * 3, none⟩ = some (.int .i64 y.span) ∧ V.cell? ⟨b, off + i * 3 + 1, none⟩ = some (.int .i64 y.at_) ∧ V.cell? ⟨b, off + i * 3 + 2, none⟩ = some (.int .u32 y.val)) ∧ ∀ t, V.cell? ⟨w.heap.size, t, none⟩ = (#[.int .i64 s, .int .i64 a, .int .u32 v] : Array Value)[t]?) := Lib.hid (fun V hV => ⟨⟨(hat2.below hV).c0, (hat2.below hV).c1, (hat2.below hV).c2⟩, (HA.out.below hV).c⟩)
        obtain ⟨ys, ya, yv⟩ := y
        dsimp only at HS
        clear hat hat2 hy
        refine region_plan (fun V : World => (V.cell? ⟨b, off + i * 3, none⟩ = some (.int .i64 ys) ∧ V.cell? ⟨b, off + i * 3 + 1, none⟩ = some (.int .i64 ya) ∧ V.cell? ⟨b, off + i * 3 + 2, none⟩ = some (.int .u32 yv)) ∧ ∀ t, V.cell? ⟨w.heap.size, t, none⟩ = (#[.int .i64 s, .int .i64 a, .int .u32 v] : Array Value)[t]?) 15 [(0, true), (1, true), (2, true), (3, true), (4, true), (5, true), (6, true), (7, true), (8, true), (9, true), (10, true), (11, false), (14, true), (12, true), (13, true)] (by kernel_rfl) (by kernel_rfl) (HS.out _ (Below.refl _ _).drew) ?_
        iterate 11
          refine plan_read (v := ?_) rfl (by rfl) ?_ ?_
          rotate_left
          · intro w' hS
            try dsimp only at hS
            go_simp
            try with_reducible rfl
          try simp only [Act.put, List.setIfInBounds_toArray, List.set_cons_zero, List.set_cons_succ, List.getElem_toArray, List.getElem_cons_zero, List.getElem_cons_succ]
        refine plan_call (F := 95) (args := ?_) rfl (by rfl) ?_ ?_
        rotate_left
        · go_simp
          rfl
        refine (bySpan_any ys ya yv s a v wr.drew).mono ?_
        rintro e w2 ⟨rfl, hb2⟩
        have HB2 : Hid (Below wr.heap.size wr w2) := Lib.hid ((Below.refl _ _).drew.trans hb2)
        clear hb2
        refine ⟨_, rfl, HS.out _ HB2.out, ?_⟩
        try simp only [Act.put, List.setIfInBounds_toArray, List.set_cons_zero, List.set_cons_succ, List.getElem_toArray, List.getElem_cons_zero, List.getElem_cons_succ]
        obtain ⟨z, hz⟩ : ∃ z, z = cmpI ys s := ⟨_, rfl⟩
        rw [← hz]
        clear hz
        iterate 3
          refine plan_read (v := ?_) rfl (by rfl) ?_ ?_
          rotate_left
          · intro w' hS
            try dsimp only at hS
            go_simp
            try with_reducible rfl
          try simp only [Act.put, List.setIfInBounds_toArray, List.set_cons_zero, List.set_cons_succ, List.getElem_toArray, List.getElem_cons_zero, List.getElem_cons_succ]
        refine plan_nil ?_
        simp only [List.drop_succ_cons, List.drop_zero]
        go_wp2_with fail
        exact bodyPost_ret (v := .tuple #[.int .i64 (i : Int), .bool _]) (by simp [results, Try.results96, go_sem]; rfl) rfl ⟨_, rfl, HB.out.trans (HB2.out.mono HB.out.size)⟩
      · have dnn : decide ((i : Int) < (n : Int)) = false := decide_eq_false (by omega)
        refine region_plan (fun V : World => V = wr.drew) 15 [(0, true), (1, true), (2, true), (3, true), (4, true), (5, true), (6, true), (7, true), (8, true), (9, true), (10, true), (11, false), (14, true), (12, true), (13, true)] (by kernel_rfl) (by kernel_rfl) rfl ?_
        iterate 5
          refine plan_read (v := ?_) rfl (by rfl) ?_ ?_
          rotate_left
          · intro w' hS
            try dsimp only at hS
            go_simp
            try with_reducible rfl
          try simp only [Act.put, List.setIfInBounds_toArray, List.set_cons_zero, List.set_cons_succ, List.getElem_toArray, List.getElem_cons_zero, List.getElem_cons_succ]
        refine plan_skip rfl (by rfl) ?_
        try simp only [Act.put, List.setIfInBounds_toArray, List.set_cons_zero, List.set_cons_succ, List.getElem_toArray, List.getElem_cons_zero, List.getElem_cons_succ]
        refine plan_skip rfl (by rfl) ?_
        try simp only [Act.put, List.setIfInBounds_toArray, List.set_cons_zero, List.set_cons_succ, List.getElem_toArray, List.getElem_cons_zero, List.getElem_cons_succ]
        refine plan_skip rfl (by rfl) ?_
        try simp only [Act.put, List.setIfInBounds_toArray, List.set_cons_zero, List.set_cons_succ, List.getElem_toArray, List.getElem_cons_zero, List.getElem_cons_succ]
        refine plan_skip rfl (by rfl) ?_
        try simp only [Act.put, List.setIfInBounds_toArray, List.set_cons_zero, List.set_cons_succ, List.getElem_toArray, List.getElem_cons_zero, List.getElem_cons_succ]
        refine plan_skip rfl (by rfl) ?_
        try simp only [Act.put, List.setIfInBounds_toArray, List.set_cons_zero, List.set_cons_succ, List.getElem_toArray, List.getElem_cons_zero, List.getElem_cons_succ]
        refine plan_skip rfl (by rfl) ?_
        try simp only [Act.put, List.setIfInBounds_toArray, List.set_cons_zero, List.set_cons_succ, List.getElem_toArray, List.getElem_cons_zero, List.getElem_cons_succ]
        refine plan_skipc rfl (by rfl) rfl ?_
        try simp only [Act.put, List.setIfInBounds_toArray, List.set_cons_zero, List.set_cons_succ, List.getElem_toArray, List.getElem_cons_zero, List.getElem_cons_succ]
        iterate 1
          refine plan_read (v := ?_) rfl (by rfl) ?_ ?_
          rotate_left
          · intro w' hS
            try dsimp only at hS
            go_simp
            try with_reducible rfl
          try simp only [Act.put, List.setIfInBounds_toArray, List.set_cons_zero, List.set_cons_succ, List.getElem_toArray, List.getElem_cons_zero, List.getElem_cons_succ]
        refine plan_skip rfl (by rfl) ?_
        try simp only [Act.put, List.setIfInBounds_toArray, List.set_cons_zero, List.set_cons_succ, List.getElem_toArray, List.getElem_cons_zero, List.getElem_cons_succ]
        iterate 1
          refine plan_read (v := ?_) rfl (by rfl) ?_ ?_
          rotate_left
          · intro w' hS
            try dsimp only at hS
            go_simp
            try with_reducible rfl
          try simp only [Act.put, List.setIfInBounds_toArray, List.set_cons_zero, List.set_cons_succ, List.getElem_toArray, List.getElem_cons_zero, List.getElem_cons_succ]
        refine plan_nil ?_
        simp only [List.drop_succ_cons, List.drop_zero]
        go_wp2_with fail
        exact bodyPost_ret (v := .tuple #[.int .i64 (i : Int), .bool false]) (by simp [results, Try.results96, go_sem]) rfl ⟨_, rfl, HB.out.drew⟩
end Go.Proofs.Ytflakmabciokbaa.Ud
/- Where a list comes to an interval; room; whether there was an interval; new logs; the next interval; no condition but that the log reads. -/
namespace Go.Proofs.Ytflakmabciokbaa.Ud
set_option linter.unusedVariables false
open Go.ChangeShapes Go.WideShapes Go.ChangeAt Go.RowKit

set_option maxHeartbeats 2000000 in
theorem below_any (q : Option Addr) (n x : Nat) (l : List Un) (s : Int) (w : World) (hl : l.length = n) (hs : Sl w q n (unC l)) (hn : n ≤ 10000) (hsort : l.Pairwise fun x y => x.span ≤ y.span) :
    Calls Try.prog 75 #[.slice q n x, .int .i64 s] w fun e w' => e = .returned (.int .i64 (cutU l s : Nat)) ∧ Below w.heap.size w w' := by
  have HQ := Lib.hid (search_any q n x l s 0 0 w hl hs hn hsort)
  obtain ⟨r, hr⟩ : ∃ r, r = cutU l s := ⟨_, rfl⟩
  rw [← hr] at HQ ⊢
  clear hr hs hl hsort
  go_enter Try.func75, Try.ntmps75
  go_wp2_with fail
  refine HQ.out.mono ?_
  rintro e w' ⟨b, rfl, hb⟩
  go_wp2_with fail
  go_ret
  exact ⟨rfl, hb⟩
theorem okB_eq (L : Lg) (s : Int) : okB L s = (rightL L && upB s L.span) := by
  unfold okB
  congr 1
  rw [Bool.eq_iff_iff, up_iff, decide_eq_true_eq]
set_option maxHeartbeats 2000000 in
theorem hadSpan_any (S : Nat → Prop) (v : Value) (L : Lg) (t : Int) (w : World) (h : Lo S w v L) : Calls Try.prog 74 #[v, .int .i64 t] w fun e w' => e = .returned (.bool (okB L t)) ∧ Below w.heap.size w w' := by
  have HRT : Hid (∀ W, Below w.heap.size w W → Calls Try.prog 71 #[v] W fun e w' => e = .returned (.bool (rightL L)) ∧ Below W.heap.size W w') := Lib.hid (fun W hW => right_any S v L W (h.below hW))
  have HE := Lib.hid (okB_eq L t)
  obtain ⟨p, m, c, q, n, d, rfl, hc, -⟩ := h
  obtain ⟨r, hr⟩ : ∃ r, r = rightL L := ⟨_, rfl⟩
  obtain ⟨o, ho⟩ : ∃ o, o = okB L t := ⟨_, rfl⟩
  rw [← hr] at HRT HE
  rw [← ho] at HE ⊢
  obtain ⟨s, hs⟩ : ∃ s, s = L.span := ⟨_, rfl⟩
  rw [← hs] at HRT HE ⊢
  clear hr ho hs hc
  obtain ⟨u, hu⟩ : ∃ u, upB t s = u := ⟨_, rfl⟩
  have HU := Lib.hid hu
  rw [hu] at HE
  clear hu
  have HB0 : Hid (Below w.heap.size w (w.alloc (.cells #[.slice p m c, .int .i64 s, .slice q n d] 59))) := Lib.hid ((Below.refl _ _).alloc (Nat.le_refl _) _)
  have HK0 : Hid (Blk (w.alloc (.cells #[.slice p m c, .int .i64 s, .slice q n d] 59)) w.heap.size #[.slice p m c, .int .i64 s, .slice q n d]) := Lib.hid (Blk.new _ _ _)
  obtain ⟨w0, hw0⟩ : ∃ w0, w0 = w.alloc (.cells #[.slice p m c, .int .i64 s, .slice q n d] 59) := ⟨_, rfl⟩
  rw [← hw0] at HB0 HK0
  have HW0 := Lib.hid hw0
  clear hw0
  go_enter Try.func74, Try.ntmps74
  have kA := HK0.out.c
  go_upto_region 1 with fail
  rw [← HW0.out]
  clear HW0
  go_wp2_with fail
  refine (HRT.out _ HB0.out).mono ?_
  rintro e w1 ⟨rfl, hb⟩
  have HK1 := Lib.hid (HK0.out.below hb)
  have HB1 : Hid (Below w.heap.size w w1) := Lib.hid (HB0.out.trans (hb.mono HB0.out.size))
  clear hb kA HK0 HB0 HRT
  cases r with
  | false =>
    go_wp2_with fail
    go_ret
    exact ⟨by rw [HE.out]; rfl, HB1.out⟩
  | true =>
    have kA := HK1.out.c
    go_wp2_with fail
    refine (upTo_any t s w1).mono ?_
    rintro e w2 ⟨rfl, rfl⟩
    rw [HU.out]
    go_wp2_with fail
    go_ret
    exact ⟨by rw [HE.out]; rfl, HB1.out⟩
set_option maxHeartbeats 2000000 in
theorem new_any (S : Nat → Prop) (k : Int) (w : World) (hS : ∀ R, S R → R < w.heap.size) : Calls Try.prog 30 #[.int .i64 k] w fun e w' => OutL S w w' e (newL k) (newE k) := by
  have HM := Lib.hid (fun W => mayBe_any k W)
  obtain ⟨b, hb⟩ : ∃ b, b = sizeB k := ⟨_, rfl⟩
  have HC : Hid (newL k = if b = true then ⟨List.replicate k.toNat 0, 0, []⟩ else ⟨[], 0, []⟩) := Lib.hid (by rw [hb]; rfl)
  have HE : Hid (newE k = if b = true then 0 else 1) := Lib.hid (by rw [hb]; rfl)
  rw [← hb] at HM
  have HN : Hid (b = true → 1 ≤ k ∧ k ≤ 64) := Lib.hid (fun e => by
    rw [hb] at e
    exact of_decide_eq_true (p := 1 ≤ k ∧ k ≤ 64) e)
  obtain ⟨L, hL⟩ : ∃ L, L = newL k := ⟨_, rfl⟩
  obtain ⟨E, hE⟩ : ∃ E, E = newE k := ⟨_, rfl⟩
  rw [← hL] at HC ⊢
  rw [← hE] at HE ⊢
  clear hL hE hb
  obtain ⟨i0, hi, hz0, hz1, hz2⟩ := info_parts info26
  have HI := Lib.hid (And.intro hi (And.intro hz0 (And.intro hz1 hz2)))
  clear hi hz0 hz1 hz2
  obtain ⟨w0, hw0⟩ : ∃ w0, w0 = w.alloc (.cells #[.slice none 0 0, .int .i64 0, .slice none 0 0] 59) := ⟨_, rfl⟩
  have HB0 : Hid (Below w.heap.size w w0) := Lib.hid (by rw [hw0]; exact (Below.refl _ _).alloc (Nat.le_refl _) _)
  have HK0 : Hid (Blk w0 w.heap.size #[.slice none 0 0, .int .i64 0, .slice none 0 0]) := Lib.hid (by rw [hw0]; exact Blk.new _ _ _)
  have HSZ : Hid (w0.heap.size = w.heap.size + 1) := Lib.hid (by rw [hw0]; exact World.size_alloc _ _)
  have HW0 := Lib.hid hw0
  clear hw0
  go_enter Try.func30, Try.ntmps30
  go_upto_region 1 with fail
  rw [← HW0.out]
  clear HW0
  go_wp2_with fail
  refine (HM.out _).mono ?_
  rintro e w' ⟨rfl, rfl⟩
  cases b with
  | false =>
    have hC : L = ⟨[], 0, []⟩ := HC.out
    have hE : E = 1 := HE.out
    subst hC hE
    clear HC HE HN HI HM
    have kK := HK0.out.c
    have fK := HK0.out.f
    have lK := HK0.out.lt
    go_wp2_with fail
    refine bodyPost_ret (v := .tuple #[.agg #[.slice none 0 0, .int .i64 0, .slice none 0 0], .int .i64 1]) (by simp [results, Try.results30, go_sem, *]) rfl ⟨_, rfl, OwnL.out (base := w.heap.size + 1) (p := none) (m := 0) (c := 0) (q := none) (n := 0) (d := 0) (L := ⟨[], 0, []⟩) ⟨World.ownsRow_nil _ _ _ _, World.ownsRow_nil _ _ _ _, fun g e => (by cases e), Nat.zero_le _, Nat.zero_le _⟩ (fun R hR => by have := hS R hR; omega), ?_⟩
    exact set3_below HB0.out (Nat.le_refl _) _ _ _
  | true =>
    obtain ⟨h1, h8⟩ := HN.out rfl
    obtain ⟨N, rfl⟩ := Int.eq_ofNat_of_zero_le (show 0 ≤ k by omega)
    have hC : L = ⟨List.replicate N 0, 0, []⟩ := HC.out
    have hE : E = 0 := HE.out
    subst hC hE
    have hN8 : N ≤ 64 := by omega
    clear HC HE HN HM h1 h8
    have kK := HK0.out.c
    have fK := HK0.out.f
    have lK := HK0.out.lt
    go_wp2_with (first | (refine wpList_make_full _ rfl _ _ 23 rfl w0.heap.size 29 i0 (.int .u32 0) 1 Try.underlying23 HI.out.1 HI.out.2.1 HI.out.2.2.1 .i64 .i64 N N N rfl rfl rfl rfl (by rw [HI.out.2.2.2]; omega) (by unfold maxLen; omega) (Nat.le_refl _) ?_))
    intro w1 g1 g2
    have e1 : (madeCells #[Value.int .u32 0] N).toList = List.replicate N (.int .u32 0) := toList_madeCells_one _ _
    have HO : Hid (w1.ownsRow (w.heap.size + 1) 29 1 (.slice (some ⟨w0.heap.size, 0, none⟩) N N) N (wdC (List.replicate N 0))) := Lib.hid (by rw [← wdC_rep, ← e1]; exact own_base g1 (by rw [HSZ.out]; exact Nat.le_refl _))
    have HB1 : Hid (Below w0.heap.size w0 w1) := Lib.hid ((Below.refl _ _).grown g2 (Nat.le_refl _) (fun k hk => by cases hk))
    have HK1 := Lib.hid (HK0.out.below HB1.out)
    have HBW : Hid (Below w.heap.size w w1) := Lib.hid (HB0.out.trans (HB1.out.mono HB0.out.size))
    obtain ⟨g, hg⟩ : ∃ g, g = w0.heap.size := ⟨_, rfl⟩
    rw [← hg] at HO ⊢
    clear g1 g2 e1 hg HB1 HK0 HSZ HB0 kK fK lK
    have kK := HK1.out.c
    have fK := HK1.out.f
    have lK := HK1.out.lt
    go_wp2_with fail
    refine bodyPost_ret (v := .tuple #[.agg #[.slice (some ⟨g, 0, none⟩) N N, .int .i64 0, .slice none 0 0], .int .i64 0]) (by simp [results, Try.results30, go_sem, *]) rfl ⟨_, rfl, OwnL.out (base := w.heap.size + 1) (OwnL.setOff3 (L := ⟨List.replicate N 0, 0, []⟩) ⟨HO.out, World.ownsRow_nil _ _ _ _, fun g e => (by intro e2; cases e2), by omega, Nat.zero_le _⟩ (by omega) _ _ _) (fun R hR => by have := hS R hR; omega), ?_⟩
    exact set3_below HBW.out (Nat.le_refl _) _ _ _

/-- A call's own copy of a log, in a variable, beside the result's. -/
structure St (w W : World) (bo : Nat) (p : Option Addr) (m c : Nat) (s : Int) (q : Option Addr) (n d : Nat) (M : List Int) (l : List Un) : Prop where
  ht : Blk W (w.heap.size + 1) #[.slice none 0 0, .int .i64 0, .slice none 0 0]
  hk : Blk W bo #[.slice p m c, .int .i64 s, .slice q n d]
  ho : OwnL (w.heap.size + 2) W p m c q n d ⟨M, s, l⟩
  hb : Below w.heap.size w W
  ge : w.heap.size + 2 ≤ bo
  np : ∀ g, (Value.slice p m c).ownBlock = some g → g ≠ bo
  nq : ∀ g, (Value.slice q n d).ownBlock = some g → g ≠ bo
theorem St.below {w W W' : World} {bo : Nat} {p q : Option Addr} {m c n d : Nat} {s : Int} {M : List Int} {l : List Un} (h : St w W bo p m c s q n d M l) (hb : Below W.heap.size W W') : St w W' bo p m c s q n d M l :=
  ⟨h.ht.below hb, h.hk.below hb, h.ho.below hb, h.hb.trans (hb.mono h.hb.size), h.ge, h.np, h.nq⟩
theorem St.make {w w1 : World} {p q : Option Addr} {m c n d : Nat} {s : Int} {M : List Int} {l : List Un} (h : OwnL (w.heap.size + 2) w1 p m c q n d ⟨M, s, l⟩) (hb : Below w.heap.size w w1) (ht : Blk w1 (w.heap.size + 1) #[.slice none 0 0, .int .i64 0, .slice none 0 0]) (hs : w.heap.size + 2 ≤ w1.heap.size) :
    St w (w1.alloc (.cells #[.slice p m c, .int .i64 s, .slice q n d] 59)) w1.heap.size p m c s q n d M l :=
  ⟨ht.alloc _, Blk.new _ _ _, h.below ((Below.refl _ _).alloc (Nat.le_refl _) _), hb.alloc hb.size _, hs, fun g e => by have := (h.mo.lt g e).2; omega, fun g e => by have := (h.lo.lt g e).2; omega⟩
theorem St.lo {w W : World} {bo : Nat} {p q : Option Addr} {m c n d : Nat} {s : Int} {M : List Int} {l : List Un} (h : St w W bo p m c s q n d M l) : Lo (fun R => R < w.heap.size + 2) W (.agg #[.slice p m c, .int .i64 s, .slice q n d]) ⟨M, s, l⟩ := h.ho.out (fun R hR => hR)
theorem St.span {w W : World} {bo : Nat} {p q : Option Addr} {m c n d : Nat} {s : Int} {M : List Int} {l : List Un} (h : St w W bo p m c s q n d M l) (t : Int) : St w (W.setCell ⟨bo, 1, none⟩ (.int .i64 t)) bo p m c t q n d M l :=
  ⟨h.ht.other _ (by have := h.ge; omega), h.hk.set (n := 1) _ (by simp), ⟨own_off h.ho.mo h.np _ _, own_off h.ho.lo h.nq _ _, h.ho.sep, h.ho.m10, h.ho.n10⟩, h.hb.setCell (p := ⟨bo, 1, none⟩) (by show w.heap.size ≤ bo; have := h.ge; omega) _, h.ge, h.np, h.nq⟩
theorem St.out {S : Nat → Prop} {w W : World} {bo : Nat} {p q : Option Addr} {m c n d : Nat} {s : Int} {M : List Int} {l : List Un} (h : St w W bo p m c s q n d M l) (hS : ∀ R, S R → R < w.heap.size) (X : Int) {L : Lg} {E : Int} (hL : L = ⟨M, s, l⟩) (hE : E = X) :
    OutL S w (((W.setCell ⟨w.heap.size + 1, 0, none⟩ (.slice p m c)).setCell ⟨w.heap.size + 1, 1, none⟩ (.int .i64 s)).setCell ⟨w.heap.size + 1, 2, none⟩ (.slice q n d)) (.returned (.tuple #[.agg #[.slice p m c, .int .i64 s, .slice q n d], .int .i64 X])) L E := by
  subst hL hE
  exact ⟨_, rfl, (h.ho.setOff3 (by omega) _ _ _).out (fun R hR => by have := hS R hR; omega), set3_below h.hb (by omega) _ _ _⟩
end Go.Proofs.Ytflakmabciokbaa.Ud
/- The next interval, a word that is written, what is trimmed, by the program; no condition but that the log reads. -/
namespace Go.Proofs.Ytflakmabciokbaa.Ud
set_option linter.unusedVariables false
open Go.ChangeShapes Go.WideShapes Go.ChangeAt Go.RowKit Go.Maps

theorem St.mem {w W : World} {bo g : Nat} {q : Option Addr} {m c n d : Nat} {s : Int} {M : List Int} {l : List Un} (h : St w W bo (some ⟨g, 0, none⟩) m c s q n d M l) (k : Nat) (v : Int) :
    St w (W.setCell ⟨g, k, none⟩ (.int .u32 v)) bo (some ⟨g, 0, none⟩) m c s q n d (M.set k v) l := by
  have hg := (h.ho.mo.lt g rfl)
  exact ⟨h.ht.other _ (by omega), h.hk.other _ (fun e => h.np g rfl e), ⟨by have := (h.ho.mo.stored k (.int .u32 v)).1; rw [wdC_set] at this; exact this, own_off h.ho.lo (fun g' e e2 => h.ho.sep g rfl (by rw [e, e2])) _ _, h.ho.sep, h.ho.m10, h.ho.n10⟩,
    h.hb.setCell (p := ⟨g, k, none⟩) (by show w.heap.size ≤ g; omega) _, h.ge, h.np, h.nq⟩
/-- A list of one's own has become another one, and is stored. -/
theorem St.list {w W W' : World} {bo : Nat} {p q q' : Option Addr} {m c n d n' d' : Nat} {s : Int} {M : List Int} {l l' : List Un} (h : St w W bo p m c s q n d M l) (hn : n' ≤ 10000)
    (ho : W'.ownsRow (w.heap.size + 2) 66 3 (.slice q' n' d') n' (unC l')) (hg : W.grownBy W' (Value.slice q n d).ownBlock) (hb : (Value.slice q' n' d').ownBlock = (Value.slice q n d).ownBlock ∨ (∀ g, (Value.slice q' n' d').ownBlock = some g → W.heap.size ≤ g)) :
    St w (W'.setCell ⟨bo, 2, none⟩ (.slice q' n' d')) bo p m c s q' n' d' M l' := by
  have hk' : Blk W' bo #[.slice p m c, .int .i64 s, .slice q n d] := h.hk.grown hg (fun e => h.nq bo e rfl)
  have hlt := h.hk.lt
  have nq' : ∀ g, (Value.slice q' n' d').ownBlock = some g → g ≠ bo := fun g e => by
    rcases hb with hb | hb
    · exact h.nq g (by rw [← hb]; exact e)
    · have := hb g e; omega
  have hmo : W'.ownsRow (w.heap.size + 2) 29 1 (.slice p m c) m (wdC M) := by
    refine h.ho.mo.kept hg ?_
    cases hv : (Value.slice p m c).ownBlock with
    | none => exact .inl rfl
    | some b => exact .inr (fun e => h.ho.sep b hv e.symm)
  refine ⟨(h.ht.grown hg (fun e => by have := (h.ho.lo.lt _ e).1; omega)).other _ (by have := h.ge; omega), hk'.set (n := 2) _ (by simp), ⟨own_off hmo h.np _ _, own_off ho nq' _ _, fun g e e2 => ?_, h.ho.m10, hn⟩, ?_, h.ge, h.np, nq'⟩
  · rcases hb with hb | hb
    · exact h.ho.sep g e (by rw [← hb]; exact e2)
    · have := hb g e2
      have := (h.ho.mo.lt g e).2
      omega
  · exact (h.hb.grown hg h.hb.size (fun g e => by have := (h.ho.lo.lt g e).1; omega)).setCell (p := ⟨bo, 2, none⟩) (by show w.heap.size ≤ bo; have := h.ge; omega) _

set_option maxHeartbeats 4000000 in
set_option maxRecDepth 100000 in
theorem next_any {T : Nat → Prop} (S : Nat → Prop) (v : Value) (L : Lg) (w : World) (h : Lo T w v L) (hS : ∀ R, S R → R < w.heap.size) : Calls Try.prog 32 #[v] w fun e w' => OutL S w w' e (nextL L) (nextE L) := by
  obtain ⟨M, s, l⟩ := L
  obtain ⟨p0, m, c0, q0, n, d0, rfl, hc, -⟩ := h
  have hm := hc.m10
  have hn := hc.n10
  have HML : Hid (M.length = m) := Lib.hid hc.ml
  have HLL : Hid (l.length = n) := Lib.hid hc.ll
  have HSS := Lib.hid hS
  have HCP : Hid (∀ W, Below w.heap.size w W → Calls Try.prog 70 #[.agg #[.slice p0 m c0, .int .i64 s, .slice q0 n d0]] W fun e w' => ∃ p' c' q' d', e = .returned (.agg #[.slice p' m c', .int .i64 s, .slice q' n d']) ∧ OwnL (W.heap.size + 2) w' p' m c' q' n d' ⟨M, s, l⟩ ∧ Below W.heap.size W w') := Lib.hid (fun W hW => copied_any p0 q0 m c0 n d0 ⟨M, s, l⟩ W (hc.below hW))
  have HNO : Hid (okN ⟨M, s, l⟩ = false → nextL ⟨M, s, l⟩ = ⟨M, s, l⟩ ∧ nextE ⟨M, s, l⟩ = 1) := Lib.hid (fun e => by unfold nextL nextE; rw [e]; exact ⟨rfl, rfl⟩)
  have HYES : Hid (okN ⟨M, s, l⟩ = true → nextL ⟨M, s, l⟩ = ⟨M, s + 1, l⟩ ∧ nextE ⟨M, s, l⟩ = 0) := Lib.hid (fun e => by unfold nextL nextE; rw [e]; exact ⟨rfl, rfl⟩)
  have HOK : Hid (okN ⟨M, s, l⟩ = (rightL ⟨M, s, l⟩ && decide (s < topS))) := Lib.hid rfl
  dsimp only
  clear hc hS
  obtain ⟨w0, hw0⟩ : ∃ w0, w0 = (w.alloc (.cells #[.slice p0 m c0, .int .i64 s, .slice q0 n d0] 59)).alloc (.cells #[.slice none 0 0, .int .i64 0, .slice none 0 0] 59) := ⟨_, rfl⟩
  have HB0 : Hid (Below w.heap.size w w0) := Lib.hid (by rw [hw0]; exact ((Below.refl _ _).alloc (Nat.le_refl _) _).alloc (by simp) _)
  have HA0 : Hid (Blk w0 w.heap.size #[.slice p0 m c0, .int .i64 s, .slice q0 n d0]) := Lib.hid (by rw [hw0]; exact (Blk.new _ _ _).alloc _)
  have HT0 : Hid (Blk w0 (w.heap.size + 1) #[.slice none 0 0, .int .i64 0, .slice none 0 0]) := Lib.hid (by
    have := Blk.new (w.alloc (.cells #[.slice p0 m c0, .int .i64 s, .slice q0 n d0] 59)) #[.slice none 0 0, .int .i64 0, .slice none 0 0] 59
    rw [World.size_alloc] at this
    rw [hw0]; exact this)
  have HSZ : Hid (w0.heap.size = w.heap.size + 2) := Lib.hid (by rw [hw0, World.size_alloc, World.size_alloc])
  have HW0 := Lib.hid hw0
  clear hw0
  go_enter Try.func32, Try.ntmps32
  have kA := HA0.out.c
  go_upto_region 1 with fail
  rw [← HW0.out]
  clear HW0
  go_wp2_with fail
  refine (HCP.out w0 HB0.out).mono ?_
  rintro e w1 ⟨p, c, q, d, rfl, ho, hb⟩
  have HO1 : Hid (OwnL (w.heap.size + 2) w1 p m c q n d ⟨M, s, l⟩) := Lib.hid (ho.mono (by rw [HSZ.out]; omega))
  have HT1 := Lib.hid (HT0.out.below hb)
  have HB1 : Hid (Below w.heap.size w w1) := Lib.hid (HB0.out.trans (hb.mono HB0.out.size))
  have HGE : Hid (w.heap.size + 2 ≤ w1.heap.size) := Lib.hid (by rw [← HSZ.out]; exact hb.size)
  clear ho hb kA HA0 HT0 HB0 HSZ HCP
  go_upto_region 2 with fail
  have HST : Hid (St w (w1.alloc (.cells #[.slice p m c, .int .i64 s, .slice q n d] 59)) w1.heap.size p m c s q n d M l) := Lib.hid (St.make HO1.out HB1.out HT1.out HGE.out)
  obtain ⟨bo, hbo⟩ : ∃ b, b = w1.heap.size := ⟨_, rfl⟩
  obtain ⟨w2, hw2⟩ : ∃ z, z = w1.alloc (.cells #[.slice p m c, .int .i64 s, .slice q n d] 59) := ⟨_, rfl⟩
  rw [← hw2, ← hbo] at HST ⊢
  clear hw2 hbo HO1 HT1 HB1 HGE
  have HQ := Lib.hid (right_any _ _ _ w2 HST.out.lo)
  have HRT : Hid (rightL ⟨M, s, l⟩ = true → 0 ≤ s ∧ s ≤ topS) := Lib.hid (fun e => ⟨(right_iff.1 e).s0, (right_iff.1 e).st⟩)
  obtain ⟨r, hr⟩ : ∃ r, r = rightL ⟨M, s, l⟩ := ⟨_, rfl⟩
  rw [← hr] at HQ HOK HRT
  clear hr
  have kK := HST.out.hk.c
  go_wp2_with fail
  refine HQ.out.mono ?_
  rintro e w3 ⟨rfl, hb⟩
  have HS3 := Lib.hid (HST.out.below hb)
  clear hb kK HST HQ
  cases r with
  | false =>
    have HN := Lib.hid (HNO.out (by rw [HOK.out]; rfl))
    clear HNO HYES HOK HRT
    have kK := HS3.out.hk.c
    have fK := HS3.out.hk.f
    have lK := HS3.out.hk.lt
    have kT := HS3.out.ht.c
    have fT := HS3.out.ht.f
    have lT := HS3.out.ht.lt
    go_wp2_with fail
    exact bodyPost_ret (v := .tuple #[.agg #[.slice p m c, .int .i64 s, .slice q n d], .int .i64 1]) (by simp [results, Try.results32, go_sem, *]) rfl (HS3.out.out HSS.out 1 HN.out.1 HN.out.2)
  | true =>
    obtain ⟨h0, ht⟩ := HRT.out (by first | rfl | trivial)
    unfold topS at ht
    by_cases hs : s = 1099511627776
    · have d1 : (s == 1099511627776) = true := by simp [hs]
      have HN := Lib.hid (HNO.out (by rw [HOK.out, hs]; rfl))
      clear HNO HYES HOK HRT hs h0 ht
      have kK := HS3.out.hk.c
      have fK := HS3.out.hk.f
      have lK := HS3.out.hk.lt
      have kT := HS3.out.ht.c
      have fT := HS3.out.ht.f
      have lT := HS3.out.ht.lt
      go_wp2_with fail
      exact bodyPost_ret (v := .tuple #[.agg #[.slice p m c, .int .i64 s, .slice q n d], .int .i64 1]) (by simp [results, Try.results32, go_sem, *]) rfl (HS3.out.out HSS.out 1 HN.out.1 HN.out.2)
    · have d1 : (s == 1099511627776) = false := by simp [hs]
      have HN := Lib.hid (HYES.out (by rw [HOK.out, decide_eq_true (show s < topS by unfold topS; omega)]; rfl))
      have f1 : IntKind.i64.wrap (s + 1) = s + 1 := by rw [IntKind.wrap_i64]; omega
      have f2 : wrap64 (s + 1) = s + 1 := by unfold wrap64; omega
      have HS4 := Lib.hid (HS3.out.span (s + 1))
      clear HNO HYES HOK HRT hs h0 ht
      have kK := HS3.out.hk.c
      have fK := HS3.out.hk.f
      have lK := HS3.out.hk.lt
      go_upto_region 5 with fail
      obtain ⟨w4, hw4⟩ : ∃ z, z = w3.setCell ⟨bo, 1, none⟩ (.int .i64 (s + 1)) := ⟨_, rfl⟩
      rw [← hw4] at HS4 ⊢
      clear hw4 kK fK lK HS3
      have kK := HS4.out.hk.c
      have fK := HS4.out.hk.f
      have lK := HS4.out.hk.lt
      have kT := HS4.out.ht.c
      have fT := HS4.out.ht.f
      have lT := HS4.out.ht.lt
      go_wp2_with fail
      exact bodyPost_ret (v := .tuple #[.agg #[.slice p m c, .int .i64 (s + 1), .slice q n d], .int .i64 0]) (by simp [results, Try.results32, go_sem, *]) rfl (HS4.out.out HSS.out 0 HN.out.1 HN.out.2)

set_option maxHeartbeats 4000000 in
set_option maxRecDepth 100000 in
theorem trim_any {T : Nat → Prop} (S : Nat → Prop) (v : Value) (L : Lg) (t : Int) (w : World) (h : Lo T w v L) (hS : ∀ R, S R → R < w.heap.size) : Calls Try.prog 34 #[v, .int .i64 t] w fun e w' => OutL S w w' e (trimL L t) (backE L t) := by
  obtain ⟨M, s, l⟩ := L
  obtain ⟨p0, m, c0, q0, n, d0, rfl, hc, -⟩ := h
  have hm := hc.m10
  have hn := hc.n10
  have HML : Hid (M.length = m) := Lib.hid hc.ml
  have HLL : Hid (l.length = n) := Lib.hid hc.ll
  have HSS := Lib.hid hS
  have HCP : Hid (∀ W, Below w.heap.size w W → Calls Try.prog 70 #[.agg #[.slice p0 m c0, .int .i64 s, .slice q0 n d0]] W fun e w' => ∃ p' c' q' d', e = .returned (.agg #[.slice p' m c', .int .i64 s, .slice q' n d']) ∧ OwnL (W.heap.size + 2) w' p' m c' q' n d' ⟨M, s, l⟩ ∧ Below W.heap.size W w') := Lib.hid (fun W hW => copied_any p0 q0 m c0 n d0 ⟨M, s, l⟩ W (hc.below hW))
  have HNO : Hid (okB ⟨M, s, l⟩ t = false → trimL ⟨M, s, l⟩ t = ⟨M, s, l⟩ ∧ backE ⟨M, s, l⟩ t = 1) := Lib.hid (fun e => by unfold trimL backE; rw [e]; exact ⟨rfl, rfl⟩)
  have HYES : Hid (okB ⟨M, s, l⟩ t = true → trimL ⟨M, s, l⟩ t = ⟨M, s, l.drop (cutU l t)⟩ ∧ backE ⟨M, s, l⟩ t = 0) := Lib.hid (fun e => by
    have hr : Rt ⟨M, s, l⟩ := by rw [okB_eq, Bool.and_eq_true] at e; exact right_iff.1 e.1
    unfold trimL backE; rw [e]; exact ⟨by rw [← (cut_split hr.sort t).2]; rfl, rfl⟩)
  have HSO : Hid (okB ⟨M, s, l⟩ t = true → l.Pairwise fun x y => x.span ≤ y.span) := Lib.hid (fun e => by
    have hr : Rt ⟨M, s, l⟩ := by rw [okB_eq, Bool.and_eq_true] at e; exact right_iff.1 e.1
    exact hr.sort)
  dsimp only
  clear hc hS
  obtain ⟨w0, hw0⟩ : ∃ w0, w0 = (w.alloc (.cells #[.slice p0 m c0, .int .i64 s, .slice q0 n d0] 59)).alloc (.cells #[.slice none 0 0, .int .i64 0, .slice none 0 0] 59) := ⟨_, rfl⟩
  have HB0 : Hid (Below w.heap.size w w0) := Lib.hid (by rw [hw0]; exact ((Below.refl _ _).alloc (Nat.le_refl _) _).alloc (by simp) _)
  have HA0 : Hid (Blk w0 w.heap.size #[.slice p0 m c0, .int .i64 s, .slice q0 n d0]) := Lib.hid (by rw [hw0]; exact (Blk.new _ _ _).alloc _)
  have HT0 : Hid (Blk w0 (w.heap.size + 1) #[.slice none 0 0, .int .i64 0, .slice none 0 0]) := Lib.hid (by
    have := Blk.new (w.alloc (.cells #[.slice p0 m c0, .int .i64 s, .slice q0 n d0] 59)) #[.slice none 0 0, .int .i64 0, .slice none 0 0] 59
    rw [World.size_alloc] at this
    rw [hw0]; exact this)
  have HSZ : Hid (w0.heap.size = w.heap.size + 2) := Lib.hid (by rw [hw0, World.size_alloc, World.size_alloc])
  have HW0 := Lib.hid hw0
  clear hw0
  go_enter Try.func34, Try.ntmps34
  have kA := HA0.out.c
  go_upto_region 1 with fail
  rw [← HW0.out]
  clear HW0
  go_wp2_with fail
  refine (HCP.out w0 HB0.out).mono ?_
  rintro e w1 ⟨p, c, q, d, rfl, ho, hb⟩
  have HO1 : Hid (OwnL (w.heap.size + 2) w1 p m c q n d ⟨M, s, l⟩) := Lib.hid (ho.mono (by rw [HSZ.out]; omega))
  have HT1 := Lib.hid (HT0.out.below hb)
  have HB1 : Hid (Below w.heap.size w w1) := Lib.hid (HB0.out.trans (hb.mono HB0.out.size))
  have HGE : Hid (w.heap.size + 2 ≤ w1.heap.size) := Lib.hid (by rw [← HSZ.out]; exact hb.size)
  clear ho hb kA HA0 HT0 HB0 HSZ HCP
  go_upto_region 2 with fail
  have HST : Hid (St w (w1.alloc (.cells #[.slice p m c, .int .i64 s, .slice q n d] 59)) w1.heap.size p m c s q n d M l) := Lib.hid (St.make HO1.out HB1.out HT1.out HGE.out)
  obtain ⟨bo, hbo⟩ : ∃ b, b = w1.heap.size := ⟨_, rfl⟩
  obtain ⟨w2, hw2⟩ : ∃ z, z = w1.alloc (.cells #[.slice p m c, .int .i64 s, .slice q n d] 59) := ⟨_, rfl⟩
  rw [← hw2, ← hbo] at HST ⊢
  clear hw2 hbo HO1 HT1 HB1 HGE
  have HQ := Lib.hid (hadSpan_any _ _ _ t w2 HST.out.lo)
  obtain ⟨r, hr⟩ : ∃ r, r = okB ⟨M, s, l⟩ t := ⟨_, rfl⟩
  rw [← hr] at HQ HSO HNO HYES
  clear hr
  have kK := HST.out.hk.c
  go_wp2_with fail
  refine HQ.out.mono ?_
  rintro e w3 ⟨rfl, hb⟩
  have HS3 := Lib.hid (HST.out.below hb)
  clear hb kK HST HQ
  cases r with
  | false =>
    have HN := Lib.hid (HNO.out (by first | rfl | trivial))
    clear HNO HYES HSO
    have kK := HS3.out.hk.c
    have fK := HS3.out.hk.f
    have lK := HS3.out.hk.lt
    have kT := HS3.out.ht.c
    have fT := HS3.out.ht.f
    have lT := HS3.out.ht.lt
    go_wp2_with fail
    exact bodyPost_ret (v := .tuple #[.agg #[.slice p m c, .int .i64 s, .slice q n d], .int .i64 1]) (by simp [results, Try.results34, go_sem, *]) rfl (HS3.out.out HSS.out 1 HN.out.1 HN.out.2)
  | true =>
    have HN := Lib.hid (HYES.out (by first | rfl | trivial))
    have HBE : Hid (∀ W, Below w3.heap.size w3 W → Calls Try.prog 75 #[.slice q n d, .int .i64 t] W fun e w' => e = .returned (.int .i64 (cutU l t : Nat)) ∧ Below W.heap.size W w') := Lib.hid (fun W hW => below_any q n d l t W HLL.out (HS3.out.ho.lc.ls.below hW) hn (HSO.out (by first | rfl | trivial)))
    have HCL : Hid (cutU l t ≤ n) := Lib.hid (by rw [← HLL.out]; exact cut_le l t)
    obtain ⟨k, hk⟩ : ∃ k, k = cutU l t := ⟨_, rfl⟩
    rw [← hk] at HN HBE HCL
    clear hk HNO HYES HSO
    have HS : Hid (∀ V, Below w3.heap.size w3 V → ∀ j, V.cell? ⟨bo, j, none⟩ = (#[.slice p m c, .int .i64 s, .slice q n d] : Array Value)[j]?) := Lib.hid (fun V hV => (HS3.out.below hV).hk.c)
    have kK := HS3.out.hk.c
    go_upto_region 4 with fail
    clear kK
    refine region_plan (fun V : World => ∀ j, V.cell? ⟨bo, j, none⟩ = (#[.slice p m c, .int .i64 s, .slice q n d] : Array Value)[j]?) 6 [(0, true), (2, true), (3, true), (4, true), (1, true), (5, false)] (by kernel_rfl) (by kernel_rfl) (HS.out _ (Below.refl _ _).drew) ?_
    iterate 5
      refine plan_read (v := ?_) rfl (by rfl) ?_ ?_
      rotate_left
      · intro w' hS
        try dsimp only at hS
        go_simp
        try with_reducible rfl
      try simp only [Act.put, List.setIfInBounds_toArray, List.set_cons_zero, List.set_cons_succ, List.getElem_toArray, List.getElem_cons_zero, List.getElem_cons_succ]
    refine plan_call (F := 75) (args := ?_) rfl (by rfl) ?_ ?_
    rotate_left
    · go_simp
      rfl
    refine (HBE.out w3.drew (Below.refl _ _).drew).mono ?_
    rintro e w4 ⟨rfl, hb⟩
    have HB4 : Hid (Below w3.heap.size w3 w4) := Lib.hid ((Below.refl _ _).drew.trans hb)
    clear hb
    refine ⟨_, rfl, HS.out _ HB4.out, ?_⟩
    try simp only [Act.put, List.setIfInBounds_toArray, List.set_cons_zero, List.set_cons_succ, List.getElem_toArray, List.getElem_cons_zero, List.getElem_cons_succ]
    refine plan_nil ?_
    simp only [List.drop_succ_cons, List.drop_zero]
    have HS4 := Lib.hid (HS3.out.below HB4.out)
    have HD := Lib.hid (delete_any (w.heap.size + 2) n d 0 k q l w4 HS4.out.ho.lo HLL.out (Nat.zero_le _) HCL.out hn)
    have HLE : Hid ((l.take 0 ++ l.drop k).length ≤ 10000) := Lib.hid (by rw [List.length_append, List.length_take, List.length_drop, HLL.out]; omega)
    have e0 : l.take 0 ++ l.drop k = l.drop k := by simp
    rw [e0] at HD HLE
    obtain ⟨x, hx⟩ : ∃ x, x = (l.drop k).length := ⟨_, rfl⟩
    rw [← hx] at HD HLE
    clear hx
    clear e0 HS HB4 HS3 HBE
    go_wp2_with fail
    refine HD.out.mono ?_
    rintro e w5 ⟨rfl, ho, hg⟩
    have HS5 := Lib.hid (HS4.out.list HLE.out ho hg (.inl (by cases q <;> rfl)))
    have HK5 := Lib.hid (HS4.out.hk.grown hg (fun e => HS4.out.nq bo e rfl))
    clear ho hg HD HS4
    have kK := HK5.out.c
    have fK := HK5.out.f
    have lK := HK5.out.lt
    go_upto_region 5 with fail
    obtain ⟨w6, hw6⟩ : ∃ z, z = w5.setCell ⟨bo, 2, none⟩ (.slice q x d) := ⟨_, rfl⟩
    rw [← hw6] at HS5 ⊢
    clear hw6 kK fK lK HK5
    have kK := HS5.out.hk.c
    have fK := HS5.out.hk.f
    have lK := HS5.out.hk.lt
    have kT := HS5.out.ht.c
    have fT := HS5.out.ht.f
    have lT := HS5.out.ht.lt
    go_wp2_with fail
    exact bodyPost_ret (v := .tuple #[.agg #[.slice p m c, .int .i64 s, .slice q x d], .int .i64 0]) (by simp [results, Try.results34, go_sem, *]) rfl (HS5.out.out HSS.out 0 HN.out.1 HN.out.2)
end Go.Proofs.Ytflakmabciokbaa.Ud
/- A word that is written, by the program; no condition but that the log reads. -/
namespace Go.Proofs.Ytflakmabciokbaa.Ud
set_option linter.unusedVariables false
open Go.ChangeShapes Go.WideShapes Go.ChangeAt Go.RowKit Go.Maps

theorem hasU_at {l : List Un} (hw : wfL l) {n : Nat} (hl : l.length = n) {s a : Int} (hs : (Lit.int .i64 s).wf = true) (ha : (Lit.int .i64 a).wf = true) : Maps.has (beM l n) (keyU s a) = hasU l s a := by rw [← hl]; exact be_hasU hw hs ha
theorem rt_wf {L : Lg} (h : Rt L) : wfL L.list := fun u hu => by
  have h2 := h.fit u hu
  have h3 := h.st
  have h4 := h.m64
  unfold FitU at h2
  unfold topS at h3
  exact ⟨WalkArith.wf_i64 (by omega), WalkArith.wf_i64 (by omega)⟩
theorem rt_wfs {L : Lg} (h : Rt L) : (Lit.int .i64 L.span).wf = true := by
  have h2 := h.s0
  have h3 := h.st
  unfold topS at h3
  exact WalkArith.wf_i64 (by omega)

set_option maxHeartbeats 4000000 in
set_option maxRecDepth 100000 in
theorem write_any {T : Nat → Prop} (S : Nat → Prop) (v : Value) (L : Lg) (a x : Int) (w : World) (h : Lo T w v L) (hS : ∀ R, S R → R < w.heap.size) : Calls Try.prog 31 #[v, .int .i64 a, .int .u32 x] w fun e w' => OutL S w w' e (writeL L a x) (writeE L a) := by
  obtain ⟨M, s, l⟩ := L
  obtain ⟨p0, m, c0, q0, n, d0, rfl, hc, -⟩ := h
  have hm := hc.m10
  have hn := hc.n10
  have HML : Hid (M.length = m) := Lib.hid hc.ml
  have HLL : Hid (l.length = n) := Lib.hid hc.ll
  have HSS := Lib.hid hS
  have HCP : Hid (∀ W, Below w.heap.size w W → Calls Try.prog 70 #[.agg #[.slice p0 m c0, .int .i64 s, .slice q0 n d0]] W fun e w' => ∃ p' c' q' d', e = .returned (.agg #[.slice p' m c', .int .i64 s, .slice q' n d']) ∧ OwnL (W.heap.size + 2) w' p' m c' q' n d' ⟨M, s, l⟩ ∧ Below W.heap.size W w') := Lib.hid (fun W hW => copied_any p0 q0 m c0 n d0 ⟨M, s, l⟩ W (hc.below hW))
  have HNO : Hid (okW ⟨M, s, l⟩ a = false → writeL ⟨M, s, l⟩ a x = ⟨M, s, l⟩ ∧ writeE ⟨M, s, l⟩ a = 1) := Lib.hid (fun e => by unfold writeL writeE; rw [e]; exact ⟨rfl, rfl⟩)
  have HOK : Hid (okW ⟨M, s, l⟩ a = (rightL ⟨M, s, l⟩ && hasW ⟨M, s, l⟩ a)) := Lib.hid rfl
  have HOLD : Hid (okW ⟨M, s, l⟩ a = true → hasU l s a = true → writeL ⟨M, s, l⟩ a x = ⟨M.set a.toNat x, s, l⟩ ∧ writeE ⟨M, s, l⟩ a = 0) := Lib.hid (fun e e2 => by unfold writeL writeE fullW putL setM; dsimp only; rw [e, e2]; exact ⟨rfl, rfl⟩)
  have HFULL : Hid (okW ⟨M, s, l⟩ a = true → hasU l s a = false → n = 256 → writeL ⟨M, s, l⟩ a x = ⟨M, s, l⟩ ∧ writeE ⟨M, s, l⟩ a = 6) := Lib.hid (fun e e2 e3 => by
    have hll := hc.ll
    dsimp only at hll
    unfold writeL writeE fullW; dsimp only; rw [e, e2, hll, e3]; exact ⟨rfl, rfl⟩)
  have HNEW : Hid (okW ⟨M, s, l⟩ a = true → hasU l s a = false → ¬ n = 256 → writeL ⟨M, s, l⟩ a x = ⟨M.set a.toNat x, s, l ++ [⟨s, a, M.getD a.toNat 0⟩]⟩ ∧ writeE ⟨M, s, l⟩ a = 0) := Lib.hid (fun e e2 e3 => by
    have hll := hc.ll
    dsimp only at hll
    unfold writeL writeE fullW putL setM; dsimp only; rw [e, e2, hll, decide_eq_false e3]; exact ⟨rfl, rfl⟩)
  dsimp only
  clear hc hS
  obtain ⟨w0, hw0⟩ : ∃ w0, w0 = (w.alloc (.cells #[.slice p0 m c0, .int .i64 s, .slice q0 n d0] 59)).alloc (.cells #[.slice none 0 0, .int .i64 0, .slice none 0 0] 59) := ⟨_, rfl⟩
  have HB0 : Hid (Below w.heap.size w w0) := Lib.hid (by rw [hw0]; exact ((Below.refl _ _).alloc (Nat.le_refl _) _).alloc (by simp) _)
  have HA0 : Hid (Blk w0 w.heap.size #[.slice p0 m c0, .int .i64 s, .slice q0 n d0]) := Lib.hid (by rw [hw0]; exact (Blk.new _ _ _).alloc _)
  have HT0 : Hid (Blk w0 (w.heap.size + 1) #[.slice none 0 0, .int .i64 0, .slice none 0 0]) := Lib.hid (by
    have := Blk.new (w.alloc (.cells #[.slice p0 m c0, .int .i64 s, .slice q0 n d0] 59)) #[.slice none 0 0, .int .i64 0, .slice none 0 0] 59
    rw [World.size_alloc] at this
    rw [hw0]; exact this)
  have HSZ : Hid (w0.heap.size = w.heap.size + 2) := Lib.hid (by rw [hw0, World.size_alloc, World.size_alloc])
  have HW0 := Lib.hid hw0
  clear hw0
  go_enter Try.func31, Try.ntmps31
  have kA := HA0.out.c
  go_upto_region 1 with fail
  rw [← HW0.out]
  clear HW0
  go_wp2_with fail
  refine (HCP.out w0 HB0.out).mono ?_
  rintro e w1 ⟨p, c, q, d, rfl, ho, hb⟩
  have HO1 : Hid (OwnL (w.heap.size + 2) w1 p m c q n d ⟨M, s, l⟩) := Lib.hid (ho.mono (by rw [HSZ.out]; omega))
  have HT1 := Lib.hid (HT0.out.below hb)
  have HB1 : Hid (Below w.heap.size w w1) := Lib.hid (HB0.out.trans (hb.mono HB0.out.size))
  have HGE : Hid (w.heap.size + 2 ≤ w1.heap.size) := Lib.hid (by rw [← HSZ.out]; exact hb.size)
  clear ho hb kA HA0 HT0 HB0 HSZ HCP
  go_upto_region 2 with fail
  have HST : Hid (St w (w1.alloc (.cells #[.slice p m c, .int .i64 s, .slice q n d] 59)) w1.heap.size p m c s q n d M l) := Lib.hid (St.make HO1.out HB1.out HT1.out HGE.out)
  obtain ⟨bo, hbo⟩ : ∃ b, b = w1.heap.size := ⟨_, rfl⟩
  obtain ⟨w2, hw2⟩ : ∃ z, z = w1.alloc (.cells #[.slice p m c, .int .i64 s, .slice q n d] 59) := ⟨_, rfl⟩
  rw [← hw2, ← hbo] at HST ⊢
  clear hw2 hbo HO1 HT1 HB1 HGE
  have HQ := Lib.hid (right_any _ _ _ w2 HST.out.lo)
  have HRT : Hid (rightL ⟨M, s, l⟩ = true → wfL l ∧ (Lit.int .i64 s).wf = true ∧ n ≤ 256) := Lib.hid (fun e => ⟨rt_wf (right_iff.1 e), rt_wfs (right_iff.1 e), by rw [← HLL.out]; exact (right_iff.1 e).n256⟩)
  obtain ⟨r, hr⟩ : ∃ r, r = rightL ⟨M, s, l⟩ := ⟨_, rfl⟩
  rw [← hr] at HQ HOK HRT
  clear hr
  have kK := HST.out.hk.c
  go_wp2_with fail
  refine HQ.out.mono ?_
  rintro e w3 ⟨rfl, hb⟩
  have HS3 := Lib.hid (HST.out.below hb)
  clear hb kK HST HQ
  cases r with
  | false =>
    have HN := Lib.hid (HNO.out (by rw [HOK.out]; rfl))
    clear HNO HOLD HFULL HNEW HOK HRT
    have kK := HS3.out.hk.c
    have fK := HS3.out.hk.f
    have lK := HS3.out.hk.lt
    have kT := HS3.out.ht.c
    have fT := HS3.out.ht.f
    have lT := HS3.out.ht.lt
    go_wp2_with fail
    exact bodyPost_ret (v := .tuple #[.agg #[.slice p m c, .int .i64 s, .slice q n d], .int .i64 1]) (by simp [results, Try.results31, go_sem, *]) rfl (HS3.out.out HSS.out 1 HN.out.1 HN.out.2)
  | true =>
    have HQ := Lib.hid (hasWord_any _ _ _ a w3 HS3.out.lo)
    have HHW : Hid (hasW ⟨M, s, l⟩ a = true → ∃ k : Nat, a = k ∧ k < m) := Lib.hid (fun e => by
      have := of_decide_eq_true (p := 0 ≤ a ∧ a < (M.length : Int)) e
      rw [HML.out] at this
      exact ⟨a.toNat, by omega, by omega⟩)
    obtain ⟨r, hr⟩ : ∃ r, r = hasW ⟨M, s, l⟩ a := ⟨_, rfl⟩
    rw [← hr] at HQ HOK HHW
    clear hr
    have kK := HS3.out.hk.c
    go_wp2_with fail
    refine HQ.out.mono ?_
    rintro e w4 ⟨rfl, hb⟩
    have HS4 := Lib.hid (HS3.out.below hb)
    clear hb kK HS3 HQ
    cases r with
    | false =>
      have HN := Lib.hid (HNO.out (by rw [HOK.out]; rfl))
      clear HNO HOLD HFULL HNEW HOK HRT HHW
      have kK := HS4.out.hk.c
      have fK := HS4.out.hk.f
      have lK := HS4.out.hk.lt
      have kT := HS4.out.ht.c
      have fT := HS4.out.ht.f
      have lT := HS4.out.ht.lt
      go_wp2_with fail
      exact bodyPost_ret (v := .tuple #[.agg #[.slice p m c, .int .i64 s, .slice q n d], .int .i64 1]) (by simp [results, Try.results31, go_sem, *]) rfl (HS4.out.out HSS.out 1 HN.out.1 HN.out.2)
    | true =>
      obtain ⟨k, rfl, hkm⟩ := HHW.out (by first | rfl | trivial)
      have hok : okW ⟨M, s, l⟩ (k : Int) = true := HOK.out.trans rfl
      have HO1 := Lib.hid (HOLD.out hok)
      have HO2 := Lib.hid (HFULL.out hok)
      have HO3 := Lib.hid (HNEW.out hok)
      rw [Int.toNat_natCast] at HO1 HO3
      have HWF := HRT.out (by first | rfl | trivial)
      have hn256 := HWF.2.2
      have hwk : (Lit.int .i64 (k : Int)).wf = true := WalkArith.wf_i64 (by omega)
      have HKEY : Hid (keyOf Try.prog 105 (.agg #[.int .i64 s, .int .i64 (k : Int)]) = some (keyU s k)) := Lib.hid (key_lit HWF.2.1 hwk)
      have HHAS : Hid (Maps.has (beM l n) (keyU s k) = hasU l s k) := Lib.hid (hasU_at HWF.1 HLL.out HWF.2.1 hwk)
      have HBE : Hid (∀ W, Below w4.heap.size w4 W → Calls Try.prog 73 #[.slice q n d] W fun e w' => e = .returned (.map (some W.heap.size)) ∧ w'.ownsMap Try.prog 105 rawE W.heap.size n (beM l n) ∧ Below W.heap.size W w') := Lib.hid (fun W hW => before_any q n d l W HLL.out (HS4.out.ho.lc.ls.below hW) hn HWF.1)
      obtain ⟨hu, hhu⟩ : ∃ z, z = hasU l s (k : Int) := ⟨_, rfl⟩
      rw [← hhu] at HO1 HO2 HO3 HHAS
      obtain ⟨g, rfl, -, -, -, -⟩ := own_go HS4.out.ho.mo (by omega)
      have hkI : (k : Int) < (m : Int) := by omega
      clear HNO HOLD HFULL HNEW HOK HRT HHW hok hwk hhu HWF
      have HS : Hid (∀ V, Below w4.heap.size w4 V → ∀ j, V.cell? ⟨bo, j, none⟩ = (#[.slice (some ⟨g, 0, none⟩) m c, .int .i64 s, .slice q n d] : Array Value)[j]?) := Lib.hid (fun V hV => (HS4.out.below hV).hk.c)
      have kK := HS4.out.hk.c
      go_upto_region 4 with fail
      clear kK
      refine region_plan (fun V : World => ∀ j, V.cell? ⟨bo, j, none⟩ = (#[.slice (some ⟨g, 0, none⟩) m c, .int .i64 s, .slice q n d] : Array Value)[j]?) 12 [(0, true), (1, true), (3, true), (4, true), (5, true), (6, true), (2, false), (7, false), (8, true), (9, true), (10, true), (11, true)] (by kernel_rfl) (by kernel_rfl) (HS.out _ (Below.refl _ _).drew) ?_
      iterate 6
        refine plan_read (v := ?_) rfl (by rfl) ?_ ?_
        rotate_left
        · intro w' hS
          try dsimp only at hS
          go_simp
          try with_reducible rfl
        try simp only [Act.put, List.setIfInBounds_toArray, List.set_cons_zero, List.set_cons_succ, List.getElem_toArray, List.getElem_cons_zero, List.getElem_cons_succ]
      refine plan_call (F := 73) (args := ?_) rfl (by rfl) ?_ ?_
      rotate_left
      · go_simp
        rfl
      refine (HBE.out w4.drew (Below.refl _ _).drew).mono ?_
      rintro e w5 ⟨rfl, ho, hb⟩
      have HB5 : Hid (Below w4.heap.size w4 w5) := Lib.hid ((Below.refl _ _).drew.trans hb)
      have HM : Hid (w5.ownsMap Try.prog 105 rawE w4.heap.size n (beM l n)) := Lib.hid ho
      clear hb ho
      refine ⟨_, rfl, HS.out _ HB5.out, ?_⟩
      try simp only [Act.put, List.setIfInBounds_toArray, List.set_cons_zero, List.set_cons_succ, List.getElem_toArray, List.getElem_cons_zero, List.getElem_cons_succ]
      obtain ⟨v0, ps, hrun, hv⟩ := HM.out.look_ok law58 Try.underlying103 (zero26 w5) (show rawE (.int .u32 0) = some (.lit (.int .u32 0), []) from rfl) HKEY.out
      obtain ⟨a0, rfl⟩ := rawE_inv hv
      rw [HHAS.out] at hrun
      refine plan_make (v := .tuple #[.int .u32 a0, .bool hu]) (w1 := w5) rfl (by rfl) ?_ (HS.out _ HB5.out) ?_
      · go_simp
      try simp only [Act.put, List.setIfInBounds_toArray, List.set_cons_zero, List.set_cons_succ, List.getElem_toArray, List.getElem_cons_zero, List.getElem_cons_succ]
      clear hrun hv
      iterate 4
        refine plan_read (v := ?_) rfl (by rfl) ?_ ?_
        rotate_left
        · intro w' hS
          try dsimp only at hS
          go_simp
          try with_reducible rfl
        try simp only [Act.put, List.setIfInBounds_toArray, List.set_cons_zero, List.set_cons_succ, List.getElem_toArray, List.getElem_cons_zero, List.getElem_cons_succ]
      refine plan_nil ?_
      simp only [List.drop_succ_cons, List.drop_zero]
      have HS5 := Lib.hid (HS4.out.below HB5.out)
      clear HS HB5 HM HBE HS4 HHAS
      cases hu with
      | true =>
        have HN := Lib.hid (HO1.out (by first | rfl | trivial))
        clear HO1 HO2 HO3
        have HS9 := Lib.hid (HS5.out.mem k x)
        have cM : w5.cell? ⟨g, k, none⟩ = some (.int .u32 (M.getD k 0)) := by rw [HS5.out.ho.mo.cellAt k (by omega), wdC_at M k (by rw [HML.out]; exact hkm)]
        have fM : w5.frozen? ⟨g, k, none⟩ = false := HS5.out.ho.mo.frozenAt k
        have kK := HS5.out.hk.c
        go_upto_region 10 with fail
        obtain ⟨w9, hw9⟩ : ∃ z, z = w5.setCell ⟨g, k, none⟩ (.int .u32 x) := ⟨_, rfl⟩
        rw [← hw9] at HS9 ⊢
        clear hw9 kK cM fM HS5
        have kK := HS9.out.hk.c
        have fK := HS9.out.hk.f
        have lK := HS9.out.hk.lt
        have kT := HS9.out.ht.c
        have fT := HS9.out.ht.f
        have lT := HS9.out.ht.lt
        go_wp2_with fail
        exact bodyPost_ret (v := .tuple #[.agg #[.slice (some ⟨g, 0, none⟩) m c, .int .i64 s, .slice q n d], .int .i64 0]) (by simp [results, Try.results31, go_sem, *]) rfl (HS9.out.out HSS.out 0 HN.out.1 HN.out.2)
      | false =>
        have kK := HS5.out.hk.c
        by_cases h256 : n = 256
        · have d1 : ((n : Int) == 256) = true := by simp [h256]
          have HN := Lib.hid (HO2.out (by first | rfl | trivial) h256)
          clear HO1 HO2 HO3 h256 kK
          have kK := HS5.out.hk.c
          have fK := HS5.out.hk.f
          have lK := HS5.out.hk.lt
          have kT := HS5.out.ht.c
          have fT := HS5.out.ht.f
          have lT := HS5.out.ht.lt
          go_wp2_with fail
          exact bodyPost_ret (v := .tuple #[.agg #[.slice (some ⟨g, 0, none⟩) m c, .int .i64 s, .slice q n d], .int .i64 6]) (by simp [results, Try.results31, go_sem, *]) rfl (HS5.out.out HSS.out 6 HN.out.1 HN.out.2)
        · have d1 : ((n : Int) == 256) = false := by simp; omega
          have HN := Lib.hid (HO3.out (by first | rfl | trivial) h256)
          clear HO1 HO2 HO3
          obtain ⟨i0, hi, hz0, hz1, hz2⟩ := info_parts info51
          have HI := Lib.hid (And.intro hi (And.intro hz0 (And.intro hz1 hz2)))
          clear hi hz0 hz1 hz2
          have HH6 := Lib.hid h256
          clear h256
          have HS : Hid (∀ V, Below w5.heap.size w5 V → (∀ j, V.cell? ⟨bo, j, none⟩ = (#[.slice (some ⟨g, 0, none⟩) m c, .int .i64 s, .slice q n d] : Array Value)[j]?) ∧ V.cell? ⟨g, k, none⟩ = some (.int .u32 (M.getD k 0))) := Lib.hid (fun V hV => ⟨(HS5.out.below hV).hk.c, by rw [(HS5.out.below hV).ho.mo.cellAt k (by omega), wdC_at M k (by rw [HML.out]; exact hkm)]⟩)
          go_upto_region 8 with fail
          clear kK
          refine region_plan (fun V : World => (∀ j, V.cell? ⟨bo, j, none⟩ = (#[.slice (some ⟨g, 0, none⟩) m c, .int .i64 s, .slice q n d] : Array Value)[j]?) ∧ V.cell? ⟨g, k, none⟩ = some (.int .u32 (M.getD k 0))) 12 [(0, true), (1, true), (2, true), (3, true), (4, true), (5, true), (6, true), (7, true), (8, true), (9, true), (10, true), (11, false)] (by kernel_rfl) (by kernel_rfl) (HS.out _ (Below.refl _ _).drew) ?_
          obtain ⟨y, hy⟩ : ∃ y, y = M.getD k 0 := ⟨_, rfl⟩
          rw [← hy] at HN HS
          simp only [← hy]
          iterate 11
            refine plan_read (v := ?_) rfl (by rfl) ?_ ?_
            rotate_left
            · intro w' hS
              try dsimp only at hS
              go_simp
              try with_reducible rfl
            try simp only [Act.put, List.setIfInBounds_toArray, List.set_cons_zero, List.set_cons_succ, List.getElem_toArray, List.getElem_cons_zero, List.getElem_cons_succ]
          obtain ⟨w6, hw6⟩ : ∃ z, z = w5.drew.alloc (.cells #[.int .i64 s, .int .i64 (k : Int), .int .u32 y] 66) := ⟨_, rfl⟩
          have HB6 : Hid (Below w5.heap.size w5 w6) := Lib.hid (by rw [hw6]; exact (Below.refl _ _).drew.alloc (Nat.le_refl _) _)
          have HNW : Hid (Blk w6 w5.heap.size (unC [⟨s, k, y⟩]).toArray) := Lib.hid (by rw [hw6]; exact Blk.new w5.drew _ _)
          refine plan_make (v := .slice (some ⟨w5.heap.size, 0, none⟩) 1 1) (w1 := w6) rfl (by rfl) (by rw [hw6]; go_simp) (HS.out _ HB6.out) ?_
          try simp only [Act.put, List.setIfInBounds_toArray, List.set_cons_zero, List.set_cons_succ, List.getElem_toArray, List.getElem_cons_zero, List.getElem_cons_succ]
          refine plan_nil ?_
          simp only [List.drop_succ_cons, List.drop_zero]
          have HS6 := Lib.hid (HS5.out.below HB6.out)
          clear hw6
          have HLE : Hid (n + 1 ≤ 10000) := Lib.hid (by have := HH6.out; omega)
          go_upto_region 9 with (first | (at_builtin; refine wpList_append_sl rfl _ _ 26 rfl (w.heap.size + 2) 66 i0 _ 3 24 Try.underlying26 HI.out.1 HI.out.2.1 HI.out.2.2.1 HI.out.2.2.2 rfl (by decide) _ n (unC l) rfl HS6.out.ho.lo (some ⟨w5.heap.size, 0, none⟩) 1 1 (unC [⟨s, (k : Int), y⟩]) rfl rfl (blk_sl HNW.out) (unC_oneCell _) (by unfold maxLen; omega) (by omega) (by have := HS6.out.hk.lt; have := HS6.out.ge; omega) ?_; intro v' w7 g1 g2 g3; obtain ⟨q', d', rfl, -⟩ := own_cap g1; have HS8 := Lib.hid (HS6.out.list (l' := l ++ [⟨s, (k : Int), y⟩]) HLE.out (by rw [unC_app]; exact g1) g2 (by rcases g3 with g3 | g3; exact .inl g3; exact .inr (fun g' e => by rw [g3] at e; injection e with e; omega))); have HK7 := Lib.hid (HS6.out.hk.grown g2 (fun e => HS6.out.nq bo e rfl)); clear g1 g2 g3 HS6 HS5 HNW; have kK := HK7.out.c; have fK := HK7.out.f; have lK := HK7.out.lt))
          obtain ⟨w8, hw8⟩ : ∃ z, z = w7.setCell ⟨bo, 2, none⟩ (.slice q' (n + 1) d') := ⟨_, rfl⟩
          rw [← hw8] at HS8 ⊢
          clear hw8 kK fK lK HK7
          obtain ⟨n2, hn2⟩ : ∃ z, z = n + 1 := ⟨_, rfl⟩
          rw [← hn2] at HS8 ⊢
          clear hn2
          have HS9 := Lib.hid (HS8.out.mem k x)
          have cM : w8.cell? ⟨g, k, none⟩ = some (.int .u32 (M.getD k 0)) := by rw [HS8.out.ho.mo.cellAt k (by omega), wdC_at M k (by rw [HML.out]; exact hkm)]
          have fM : w8.frozen? ⟨g, k, none⟩ = false := HS8.out.ho.mo.frozenAt k
          have kK := HS8.out.hk.c
          go_upto_region 10 with fail
          obtain ⟨w9, hw9⟩ : ∃ z, z = w8.setCell ⟨g, k, none⟩ (.int .u32 x) := ⟨_, rfl⟩
          rw [← hw9] at HS9 ⊢
          clear hw9 kK cM fM HS8
          have kK := HS9.out.hk.c
          have fK := HS9.out.hk.f
          have lK := HS9.out.hk.lt
          have kT := HS9.out.ht.c
          have fT := HS9.out.ht.f
          have lT := HS9.out.ht.lt
          go_wp2_with fail
          exact bodyPost_ret (v := .tuple #[.agg #[.slice (some ⟨g, 0, none⟩) m c, .int .i64 s, .slice q' n2 d'], .int .i64 0]) (by simp [results, Try.results31, go_sem, *]) rfl (HS9.out.out HSS.out 0 HN.out.1 HN.out.2)
end Go.Proofs.Ytflakmabciokbaa.Ud
/- A list from its end on, as the library goes through it; no condition but that the list reads, and that each round leaves it. -/
namespace Go.Proofs.Ytflakmabciokbaa.Ud
set_option linter.unusedVariables false
open Go.ChangeShapes Go.WideShapes Go.ChangeAt Go.RowKit Go.Shelf
attribute [local go_sem] Oper.semAt_some

theorem take_fin {N k : Nat} (h : k < N) : (List.finRange N).take (k + 1) = (List.finRange N).take k ++ [⟨k, h⟩] := by
  rw [List.take_succ_eq_append_getElem (by rw [List.length_finRange]; exact h)]
  simp
theorem len_fin {N k : Nat} (h : k ≤ N) : ((List.finRange N).take k).length = k := by rw [List.length_take, List.length_finRange]; omega
/-- What comes in round j. -/
def encB (ls : List Un) (j : Fin ls.length) : Array Value := #[.int .i64 ((ls.length - 1 - j.val : Nat) : Int), .agg (unR (ls.getD (ls.length - 1 - j.val) zU))]
/-- What a round leaves as it was. -/
structure KpB (Bs : Nat) (a : Option Addr) (W W' : World) : Prop where
  size : W.heap.size ≤ W'.heap.size
  box : W'.heap[Bs]? = W.heap[Bs]?
  row : ∀ A, a = some A → W'.heap[A.block]? = W.heap[A.block]?
theorem KpB.refl (Bs : Nat) (a : Option Addr) (W : World) : KpB Bs a W W := ⟨Nat.le_refl _, rfl, fun _ _ => rfl⟩
theorem KpB.trans {Bs : Nat} {a : Option Addr} {A B C : World} (h : KpB Bs a A B) (k : KpB Bs a B C) : KpB Bs a A C := ⟨Nat.le_trans h.size k.size, k.box.trans h.box, fun X e => (k.row X e).trans (h.row X e)⟩
theorem KpB.cell {Bs : Nat} {a : Option Addr} {A B : World} (h : KpB Bs a A B) (j : Nat) : B.cell? ⟨Bs, j, none⟩ = A.cell? ⟨Bs, j, none⟩ := by unfold World.cell?; rw [h.box]
theorem KpB.sl {Bs : Nat} {a : Option Addr} {A B : World} (h : KpB Bs a A B) {n : Nat} {cs : List Value} (hs : Sl A a n cs) : Sl B a n cs := fun h0 => by
  obtain ⟨b, off, h1, rfl, h3⟩ := hs h0
  refine ⟨b, off, Nat.lt_of_lt_of_le h1 h.size, rfl, fun j hj => ?_⟩
  rw [← h3 j hj]
  unfold World.cell?
  rw [h.row _ rfl]
theorem KpB.of_below {Bs : Nat} {a : Option Addr} {A B : World} {M : Nat} (h : Below M A B) (hB : Bs < M) (ha : ∀ X, a = some X → X.block < M) : KpB Bs a A B := ⟨h.size, h.block Bs hB, fun X e => h.block _ (ha X e)⟩

set_option maxRecDepth 100000 in
set_option maxHeartbeats 4000000 in
theorem backward1_in (F : Fence) (n : Nat) (h7 : F.fn 97) (hro : F.round = none) (hn : 1 ≤ n) (y Bs : Nat) (a : Option Addr) (cap : Nat) (ls : List Un) (hN : ls.length ≤ 10000) (J Jx : List (Fin ls.length) → World → Prop)
    (hY : ∀ pre x W, J pre W → pre.length < ls.length → YieldAt F (n - 1) Try.prog y (encB ls x) W fun e W' =>
      (e = .returned (.bool true) ∧ J (pre ++ [x]) W' ∧ KpB Bs a W W') ∨ (e = .returned (.bool false) ∧ Jx (pre ++ [x]) W'))
    (W : World) (hBs : W.cell? ⟨Bs, 0, none⟩ = some (.slice a ls.length cap)) (hs : Sl W a ls.length (unC ls)) (h0 : J [] W) :
    CallsIn F n Try.prog 97 #[.func (.yield y) #[] #[], .pointer (some ⟨Bs, 0, none⟩)] W fun e W' => (∃ v, e = .returned v) ∧
      ((∃ ys, ys = List.finRange ls.length ∧ J ys W') ∨ (∃ pre, True ∧ Jx pre W')) := by
  obtain ⟨N, hNe⟩ : ∃ N, N = ls.length := ⟨_, rfl⟩
  have HNE := Lib.hid hNe
  have HSL := Lib.hid hs
  have hw0 : wrap64 ((N : Int) - 1) = (N : Int) - 1 := by unfold wrap64; omega
  have hw1 : IntKind.i64.wrap ((N : Int) - 1) = (N : Int) - 1 := by rw [IntKind.wrap_i64]; omega
  have HBS := Lib.hid hBs
  have hbs : W.cell? ⟨Bs, 0, none⟩ = some (.slice a N cap) := by rw [hNe]; exact hBs
  have HBN := Lib.hid hbs
  have HY := Lib.hid hY
  clear hs hBs hY hNe
  refine callsIn_of_wp Try.func97 rfl h7 ?_ hro
  simp only [Try.ntmps97, List.size_toArray, List.length_cons, List.length_nil, Nat.reduceAdd, Nat.reduceSub, Array.replicate_succ, Array.replicate_zero, List.push_toArray, List.append_toArray, List.nil_append, List.cons_append]
  gi_wp2
  gi_loopw [3] (fun i wr => ∃ (k : Nat) (iz : Int), k ≤ N ∧ i = .int .i64 iz ∧ iz = (N : Int) - 1 - k ∧ J ((List.finRange ls.length).take k) wr ∧ KpB Bs a W wr)
    (fun i _ => (intOf i + 1).toNat)
  case atStart => exact ⟨0, (N : Int) - 1, Nat.zero_le _, rfl, by omega, h0, KpB.refl _ _ _⟩
  case round =>
    obtain ⟨k, iz, hk, rfl, hiz, hJs, hkp⟩ := hrel
    have hbw := (hkp.cell 0).trans HBN.out
    clear hbs hw0 hw1
    by_cases hlt : k < N
    · obtain ⟨t, ht⟩ : ∃ t : Nat, t = N - 1 - k := ⟨_, rfl⟩
      have e : iz = (t : Int) := by omega
      subst e
      have htN : t < N := by omega
      have htI : (t : Int) < (N : Int) := by omega
      have htl : t < ls.length := by rw [← HNE.out]; exact htN
      have hkl : k < ls.length := by rw [← HNE.out]; exact hlt
      obtain ⟨fn, tmps, assign, body, hy, hR⟩ := HY.out _ ⟨k, hkl⟩ wr hJs (by rw [len_fin (by omega)]; exact hkl)
      have hen : encB ls ⟨k, hkl⟩ = #[.int .i64 (t : Int), .agg (unR (ls.getD t zU))] := by unfold encB; rw [ht, HNE.out]
      rw [hen] at hy
      clear hen
      obtain ⟨b, off, rfl, hat⟩ := un_at (hkp.sl HSL.out) t htl
      obtain ⟨l0, c0, c1, c2⟩ := hat
      obtain ⟨u, hu⟩ : ∃ u, u = ls.getD t zU := ⟨_, rfl⟩
      rw [← hu] at c0 c1 c2 hy
      obtain ⟨us, ua, uv⟩ := u
      have hy2 : (Instr.yield y #[.int .i64 (t : Int), .agg #[.int .i64 us, .int .i64 ua, .int .u32 uv]]).run Try.prog wr = .ok (.round y fn tmps assign body) wr := hy
      dsimp only at c0 c1 c2
      have f1 : wrap64 ((t : Int) - 1) = (t : Int) - 1 := by unfold wrap64; omega
      have f2 : IntKind.i64.wrap ((t : Int) - 1) = (t : Int) - 1 := by rw [IntKind.wrap_i64]; omega
      have HHIZ := Lib.hid hiz
      have HHT := Lib.hid ht
      clear hy hu hiz ht
      have HJ := Lib.hid hJs
      clear hJs
      gi_wp2
      refine hR.mono ?_
      rintro e W3 (⟨rfl, hJ3, hk3⟩ | ⟨rfl, hJx3⟩)
      · have HJ3 := Lib.hid hJ3
        have HK3 := Lib.hid (hkp.trans hk3)
        clear hJ3 hk3 hR
        gi_wp2
        go_roundw
        case rel => exact ⟨k + 1, (t : Int) - 1, by omega, rfl, by have := HHIZ.out; omega, by rw [take_fin hkl]; exact HJ3.out, HK3.out⟩
        case measure => have := HHIZ.out; simp [intOf] <;> omega
      · have HJX := Lib.hid hJx3
        clear hJx3 hR
        gi_wp2
        refine bodyPost_ret (results_none rfl _ _ _) rfl ?_
        exact ⟨⟨_, rfl⟩, .inr ⟨_, trivial, HJX.out⟩⟩
    · have hkN : k = N := by omega
      have hz : decide (0 ≤ iz) = false := decide_eq_false (by omega)
      have HJ : Hid (J (List.finRange ls.length) wr) := Lib.hid (by
        rw [List.take_of_length_le (by rw [List.length_finRange, ← HNE.out]; omega)] at hJs; exact hJs)
      clear hJs hkN hiz
      gi_wp2
      go_end0
      exact ⟨⟨_, rfl⟩, .inl ⟨_, rfl, HJ.out⟩⟩

theorem backward_stops (F : Fence) (n : Nat) (h7 : F.fn 97) (hro : F.round = none) (hn : 1 ≤ n) (Bs : Nat) (a : Option Addr) (cap : Nat) (ls : List Un) (hN : ls.length ≤ 10000) (w : World) (hBs : Bs < w.heap.size)
    (hc : w.cell? ⟨Bs, 0, none⟩ = some (.slice a ls.length cap)) (hs : Sl w a ls.length (unC ls)) :
    SeqStopsK F n Try.prog 97 #[.pointer (some ⟨Bs, 0, none⟩)] (encB ls) (KpB Bs a) (fun ys => ys = List.finRange ls.length) (fun _ => True) ls.length w := fun y J Jx W hW _ _ hY h0 =>
  backward1_in F n h7 hro hn y Bs a cap ls hN J Jx hY W ((hW.cell (p := ⟨Bs, 0, none⟩) hBs).trans hc) (hs.below hW) h0
theorem backward_any (a : Option Addr) (n c : Nat) (w : World) : Calls Try.prog 76 #[.slice a n c] w fun e w' => e = .returned (.func (.func 97) #[] #[.pointer (some ⟨w.heap.size, 0, none⟩)]) ∧ w' = w.alloc (.cells #[.slice a n c] 26) := by
  go_enter Try.func76, Try.ntmps76
  go_wp2_with fail
  go_ret
  exact ⟨rfl, rfl⟩
end Go.Proofs.Ytflakmabciokbaa.Ud
/- A log gone back to an interval, by the program; no condition but that the log reads. -/
namespace Go.Proofs.Ytflakmabciokbaa.Ud
set_option linter.unusedVariables false
open Go.ChangeShapes Go.WideShapes Go.ChangeAt Go.RowKit Go.Maps
attribute [local go_sem] Oper.semAt_some

def stepB (ls : List Un) (M : List Int) (j : Fin ls.length) : List Int := setM M (ls.getD (ls.length - 1 - j.val) zU).at_ (ls.getD (ls.length - 1 - j.val) zU).val
def memB (ls : List Un) (pre : List (Fin ls.length)) (M : List Int) : List Int := pre.foldl (stepB ls) M
theorem memB_snoc (ls : List Un) (pre : List (Fin ls.length)) (x : Fin ls.length) (M : List Int) : memB ls (pre ++ [x]) M = setM (memB ls pre M) (ls.getD (ls.length - 1 - x.val) zU).at_ (ls.getD (ls.length - 1 - x.val) zU).val := by
  unfold memB; rw [List.foldl_append]; rfl
theorem memB_all (ls : List Un) (M : List Int) : memB ls (List.finRange ls.length) M = undoM ls M := by
  have e : (List.finRange ls.length).map (fun j => ls.getD (ls.length - 1 - j.val) zU) = ls.reverse := by
    apply List.ext_getElem
    · simp
    · intro i h1 h2
      simp at h1
      rw [List.getElem_map, List.getElem_reverse, List.getElem_finRange, get_getD ls zU]
      rfl
  have e2 : memB ls (List.finRange ls.length) M = ((List.finRange ls.length).map (fun j => ls.getD (ls.length - 1 - j.val) zU)).foldl (fun M u => setM M u.at_ u.val) M := by
    unfold memB
    rw [List.foldl_map]
    rfl
  rw [e2, e, List.foldl_reverse]
  rfl
theorem len_memB (ls : List Un) (pre : List (Fin ls.length)) (M : List Int) : (memB ls pre M).length = M.length := by
  unfold memB
  induction pre generalizing M with
  | nil => rfl
  | cons x pre ih => rw [List.foldl_cons, ih]; unfold stepB; rw [len_setM]

theorem blk_cells {W : World} {B : Nat} {cs : Array Value} (h : Blk W B cs) (h0 : 0 < cs.size) : ∃ o : Obj, W.heap[B]? = some o ∧ o.isCells = true :=
  cells_of_cell (a := ⟨B, 0, none⟩) ((h.c 0).trans (Array.getElem?_eq_getElem h0))
theorem own_cells {W : World} {base : Nat} {e : TypeId} {z n : Nat} {v : Value} {xs : List Value} (h : W.ownsRow base e z v n xs) {g : Nat} (hv : v.ownBlock = some g) : ∃ o : Obj, W.heap[g]? = some o ∧ o.isCells = true := by
  obtain ⟨h1, ⟨h2, _⟩ | ⟨g', cap, cur, e1, e2, e3, _⟩⟩ := h
  · subst h2; cases hv
  · subst e1; injection hv with hv; subst hv; exact ⟨_, e3, rfl⟩
/-- What is said of a copy abides what is no cells. -/
theorem St.own {w : World} {bo : Nat} {p q : Option Addr} {m c n d : Nat} {s : Int} {l : List Un} {α : Type} (f : α → List Int) {B : Nat} (hB : w.heap.size ≤ B) : OwnFrom B (fun x W => St w W bo p m c s q n d (f x) l) := by
  intro x W W' row h hg hr
  have hne : ∀ g o, W.heap[g]? = some o → o.isCells = true → row ≠ some g := fun g o h1 h2 e => by
    obtain ⟨_, o', h3, h4⟩ := hr g e
    rw [h1] at h3; injection h3 with h3; subst h3; rw [h2] at h4; cases h4
  obtain ⟨o1, a1, b1⟩ := blk_cells h.ht (by simp)
  obtain ⟨o2, a2, b2⟩ := blk_cells h.hk (by simp)
  refine ⟨h.ht.grown hg (hne _ _ a1 b1), h.hk.grown hg (hne _ _ a2 b2), ⟨h.ho.mo.kept hg ?_, h.ho.lo.kept hg ?_, h.ho.sep, h.ho.m10, h.ho.n10⟩, h.hb.grown hg h.hb.size (fun g e => Nat.le_trans hB (hr g e).1), h.ge, h.np, h.nq⟩
  · cases hv : (Value.slice p m c).ownBlock with
    | none => exact .inl rfl
    | some g => obtain ⟨o, a3, b3⟩ := own_cells h.ho.mo hv; exact .inr (fun e => hne g o a3 b3 e.symm)
  · cases hv : (Value.slice q n d).ownBlock with
    | none => exact .inl rfl
    | some g => obtain ⟨o, a3, b3⟩ := own_cells h.ho.lo hv; exact .inr (fun e => hne g o a3 b3 e.symm)
theorem size51 (W : World) : (sizeOf (Try.prog.elem 26)).run Try.prog W = .ok 3 W := by
  obtain ⟨i0, hi, _, hz1, _⟩ := info_parts info51
  have e : Try.prog.elem 26 = 66 := by kernel_rfl
  rw [e]
  simp [sizeOf, typeInfo, hi, hz1]
theorem cut_lo (q : Option Addr) (n d k : Nat) (hk : k ≤ n) (hd : n ≤ d) : ∃ a, (∀ W, (Instr.slice 26 (.slice q n d) (some (.int .i64 (k : Int))) none none).run Try.prog W = .ok (.slice a (n - k) (d - k)) W) ∧ (k < n → ∀ b, q = some ⟨b, 0, none⟩ → a = some ⟨b, k * 3, none⟩) ∧ (∀ X, a = some X → ∃ Y, q = some Y ∧ Y.block = X.block) := by
  have he : Try.prog.underlying 26 = some (.slice (Try.prog.elem 26)) := by kernel_rfl
  refine ⟨if d = k then q else q.map (fun A => A.add (k * 3)), fun W => ?_, fun h b e => ?_, fun X e => ?_⟩
  · rw [run_slice_l W 26 _ n d he .i64 k (by omega) (by omega), size51]
    simp [Result.andThen, sliced]
  · rw [if_neg (by omega), e]
    show some (Addr.add ⟨b, 0, none⟩ (k * 3)) = _
    unfold Addr.add
    by_cases h2 : k * 3 = 0
    · rw [h2]; rfl
    · simp [h2]
  · by_cases h1 : d = k
    · rw [if_pos h1] at e; exact ⟨X, e, rfl⟩
    · rw [if_neg h1] at e
      cases q with
      | none => cases e
      | some Y =>
        injection e with e
        subst e
        refine ⟨Y, rfl, ?_⟩
        unfold Addr.add
        dsimp only
        split <;> rfl
theorem cut_sl {W : World} {base : Nat} {q a : Option Addr} {n d k : Nat} {l : List Un} (h : W.ownsRow base 66 3 (.slice q n d) n (unC l)) (hl : l.length = n) (ha : k < n → ∀ b, q = some ⟨b, 0, none⟩ → a = some ⟨b, k * 3, none⟩) : Sl W a (n - k) (unC (l.drop k)) := fun h0 => by
  obtain ⟨b, rfl, -, -, -, hb⟩ := own_go h (by omega)
  refine ⟨b, k * 3, hb, ha (by omega) b rfl, fun j hj => ?_⟩
  rw [unC_len, List.length_drop] at hj
  rw [h.cellAt (k * 3 + j) (by omega), unC_drop, List.getElem?_drop]
theorem St.outM {S : Nat → Prop} {w W : World} {bo : Nat} {p q : Option Addr} {m c n d : Nat} {s : Int} {M : List Int} {l : List Un} (h : St w W bo p m c s q n d M l) (hS : ∀ R, S R → R < w.heap.size) (X : Int) {L : Lg} {E : Int} (hL : L = ⟨M, s, l⟩) (hE : E = X) {D : Nat} (hD : w.heap.size ≤ D) (hK : W.heap[D]? = some (.deferred (some []))) (Y : World)
    (hY : Y = (((W.setCell ⟨w.heap.size + 1, 0, none⟩ (.slice p m c)).setCell ⟨w.heap.size + 1, 1, none⟩ (.int .i64 s)).setCell ⟨w.heap.size + 1, 2, none⟩ (.slice q n d)).putObj D (.deferred none)) :
    OutL S w Y (.returned (.tuple #[.agg #[.slice p m c, .int .i64 s, .slice q n d], .int .i64 X])) L E ∧ Blk Y (w.heap.size + 1) #[.slice p m c, .int .i64 s, .slice q n d] := by
  subst hL hE
  have hne : ∀ g o, W.heap[g]? = some o → o.isCells = true → some D ≠ some g := fun g o h1 h2 e => by
    injection e with e
    rw [← e, hK] at h1
    injection h1 with h1
    subst h1
    cases h2
  obtain ⟨V, hV⟩ : ∃ V, V = (((W.setCell ⟨w.heap.size + 1, 0, none⟩ (.slice p m c)).setCell ⟨w.heap.size + 1, 1, none⟩ (.int .i64 s)).setCell ⟨w.heap.size + 1, 2, none⟩ (.slice q n d)) := ⟨_, rfl⟩
  have ho : OwnL (w.heap.size + 2) V p m c q n d ⟨M, s, l⟩ := by rw [hV]; exact h.ho.setOff3 (by omega) _ _ _
  have hb : Below w.heap.size w V := by rw [hV]; exact set3_below h.hb (by omega) _ _ _
  have ht : Blk V (w.heap.size + 1) #[.slice p m c, .int .i64 s, .slice q n d] := by rw [hV]; exact set3_same h.ht _ _ _
  rw [← hV] at hY
  have hg : V.grownBy Y (some D) := by rw [hY]; exact grownBy_putObj' V D _
  obtain ⟨o1, a1, b1⟩ := blk_cells h.ht (by simp)
  have hT : some D ≠ some (w.heap.size + 1) := hne _ _ a1 b1
  refine ⟨⟨_, rfl, OwnL.out (base := w.heap.size + 2) ⟨ho.mo.kept hg ?_, ho.lo.kept hg ?_, ho.sep, ho.m10, ho.n10⟩ (fun R hR => by have := hS R hR; omega), hb.grown hg hb.size (fun g e => by injection e with e; omega)⟩, ht.grown hg hT⟩
  · cases hv : (Value.slice p m c).ownBlock with
    | none => exact .inl rfl
    | some g => obtain ⟨o, a3, b3⟩ := own_cells h.ho.mo hv; exact .inr (fun e => hne g o a3 b3 e.symm)
  · cases hv : (Value.slice q n d).ownBlock with
    | none => exact .inl rfl
    | some g => obtain ⟨o, a3, b3⟩ := own_cells h.ho.lo hv; exact .inr (fun e => hne g o a3 b3 e.symm)
theorem dk_grown {W W' : World} {D : Nat} {row : Option Nat} (hK : W.heap[D]? = some (.deferred (some []))) (hg : W.grownBy W' row) (hr : ∀ g, row = some g → ∃ o : Obj, W.heap[g]? = some o ∧ o.isCells = true) : W'.heap[D]? = some (.deferred (some [])) := by
  refine (hg.block D (Array.getElem?_eq_some_iff.1 hK).1 (fun e => ?_)).trans hK
  obtain ⟨o, h1, h2⟩ := hr D e.symm
  rw [hK] at h1; injection h1 with h1; subst h1; cases h2
theorem dk_set {W : World} {D B j : Nat} {v : Value} {cs : Array Value} (hK : W.heap[D]? = some (.deferred (some []))) (hB : Blk W B cs) (h0 : 0 < cs.size) : (W.setCell ⟨B, j, none⟩ v).heap[D]? = some (.deferred (some [])) := by
  obtain ⟨o, h1, h2⟩ := blk_cells hB h0
  refine (heap_setCell_other W ⟨B, j, none⟩ D v (fun e => ?_)).trans hK
  rw [e] at hK
  rw [hK] at h1; injection h1 with h1; subst h1; cases h2
theorem retM_nil {F : Fence} {n : Nat} {P : Program} {fn : Func} {R : Ending → World → Prop} {a : Act} {w : World} {v : Value} (hr : (results fn a.tmps).run P w = .ok v w) (hd : a.defers = []) (hR : R (.returned v) w) : bodyPostM F n P fn R .ret a w := by
  show LeavesInM F n P fn a.tmps R a.defers .returning w
  rw [hd]
  exact ⟨v, hr, hR⟩
theorem retM_mark {F : Fence} {n : Nat} {P : Program} {fn : Func} {R : Ending → World → Prop} {a : Act} {w : World} {v : Value} {D : Nat} {args : Array Value} (hd : a.defers = [{ target := .collected D, args := args }]) (hK : w.heap[D]? = some (.deferred (some [])))
    (hr : (results fn a.tmps).run P (w.putObj D (.deferred none)) = .ok v (w.putObj D (.deferred none))) (hR : R (.returned v) (w.putObj D (.deferred none))) : bodyPostM F n P fn R .ret a w := by
  show LeavesInM F n P fn a.tmps R a.defers .returning w
  rw [hd]
  exact ⟨by simp, .inl ⟨_, _, rfl, run_takeDeferred hK, v, hr, hR⟩⟩

set_option maxHeartbeats 4000000 in
set_option maxRecDepth 100000 in
theorem back_any {T : Nat → Prop} (S : Nat → Prop) (v : Value) (L : Lg) (t : Int) (w : World) (h : Lo T w v L) (hS : ∀ R, S R → R < w.heap.size) : Calls Try.prog 33 #[v, .int .i64 t] w fun e w' => OutL S w w' e (backL L t) (backE L t) := by
  obtain ⟨M, s, l⟩ := L
  obtain ⟨p0, m, c0, q0, n, d0, rfl, hc, -⟩ := h
  have hm := hc.m10
  have hn := hc.n10
  have HML : Hid (M.length = m) := Lib.hid hc.ml
  have HLL : Hid (l.length = n) := Lib.hid hc.ll
  have HSS := Lib.hid hS
  have HCP : Hid (∀ W, Below w.heap.size w W → Calls Try.prog 70 #[.agg #[.slice p0 m c0, .int .i64 s, .slice q0 n d0]] W fun e w' => ∃ p' c' q' d', e = .returned (.agg #[.slice p' m c', .int .i64 s, .slice q' n d']) ∧ OwnL (W.heap.size + 2) w' p' m c' q' n d' ⟨M, s, l⟩ ∧ Below W.heap.size W w') := Lib.hid (fun W hW => copied_any p0 q0 m c0 n d0 ⟨M, s, l⟩ W (hc.below hW))
  have HNO : Hid (okB ⟨M, s, l⟩ t = false → backL ⟨M, s, l⟩ t = ⟨M, s, l⟩ ∧ backE ⟨M, s, l⟩ t = 1) := Lib.hid (fun e => by unfold backL backE; rw [e]; exact ⟨rfl, rfl⟩)
  have HRT : Hid (okB ⟨M, s, l⟩ t = true → Rt ⟨M, s, l⟩) := Lib.hid (fun e => by rw [okB_eq, Bool.and_eq_true] at e; exact right_iff.1 e.1)
  have HYES : Hid (okB ⟨M, s, l⟩ t = true → backL ⟨M, s, l⟩ t = ⟨undoM (l.drop (cutU l t)) M, t, l.take (cutU l t)⟩ ∧ backE ⟨M, s, l⟩ t = 0) := Lib.hid (fun e => by
    have hr : Rt ⟨M, s, l⟩ := by rw [okB_eq, Bool.and_eq_true] at e; exact right_iff.1 e.1
    obtain ⟨e1, e2⟩ := cut_split hr.sort t
    dsimp only at e1 e2
    unfold backL backE; rw [e]; exact ⟨by rw [← e1, ← e2]; rfl, rfl⟩)
  dsimp only
  clear hc hS
  obtain ⟨w0, hw0⟩ : ∃ w0, w0 = (w.alloc (.cells #[.slice p0 m c0, .int .i64 s, .slice q0 n d0] 59)).alloc (.cells #[.slice none 0 0, .int .i64 0, .slice none 0 0] 59) := ⟨_, rfl⟩
  have HB0 : Hid (Below w.heap.size w w0) := Lib.hid (by rw [hw0]; exact ((Below.refl _ _).alloc (Nat.le_refl _) _).alloc (by simp) _)
  have HA0 : Hid (Blk w0 w.heap.size #[.slice p0 m c0, .int .i64 s, .slice q0 n d0]) := Lib.hid (by rw [hw0]; exact (Blk.new _ _ _).alloc _)
  have HT0 : Hid (Blk w0 (w.heap.size + 1) #[.slice none 0 0, .int .i64 0, .slice none 0 0]) := Lib.hid (by
    have := Blk.new (w.alloc (.cells #[.slice p0 m c0, .int .i64 s, .slice q0 n d0] 59)) #[.slice none 0 0, .int .i64 0, .slice none 0 0] 59
    rw [World.size_alloc] at this
    rw [hw0]; exact this)
  have HSZ : Hid (w0.heap.size = w.heap.size + 2) := Lib.hid (by rw [hw0, World.size_alloc, World.size_alloc])
  have HW0 := Lib.hid hw0
  clear hw0
  refine (callsIn_wide (n := 5)).1 ?_
  refine callsIn_of_wp_marks Try.func33 rfl trivial ?_ rfl
  simp only [Try.ntmps33, List.size_toArray, List.length_cons, List.length_nil, Nat.reduceAdd, Nat.reduceSub, Array.replicate_succ, Array.replicate_zero, List.push_toArray, List.append_toArray, List.nil_append, List.cons_append]
  refine wpIn_wide.2 ?_
  have kA := HA0.out.c
  go_upto_region 1 with fail
  rw [← HW0.out]
  clear HW0
  go_wp2_with fail
  refine (HCP.out w0 HB0.out).mono ?_
  rintro e w1 ⟨p, c, q, d, rfl, ho, hb⟩
  have HO1 : Hid (OwnL (w.heap.size + 2) w1 p m c q n d ⟨M, s, l⟩) := Lib.hid (ho.mono (by rw [HSZ.out]; omega))
  have HT1 := Lib.hid (HT0.out.below hb)
  have HB1 : Hid (Below w.heap.size w w1) := Lib.hid (HB0.out.trans (hb.mono HB0.out.size))
  have HGE : Hid (w.heap.size + 2 ≤ w1.heap.size) := Lib.hid (by rw [← HSZ.out]; exact hb.size)
  clear ho hb kA HA0 HT0 HB0 HSZ HCP
  go_upto_region 2 with fail
  have HST : Hid (St w (w1.alloc (.cells #[.slice p m c, .int .i64 s, .slice q n d] 59)) w1.heap.size p m c s q n d M l) := Lib.hid (St.make HO1.out HB1.out HT1.out HGE.out)
  obtain ⟨bo, hbo⟩ : ∃ b, b = w1.heap.size := ⟨_, rfl⟩
  obtain ⟨w2, hw2⟩ : ∃ z, z = w1.alloc (.cells #[.slice p m c, .int .i64 s, .slice q n d] 59) := ⟨_, rfl⟩
  rw [← hw2, ← hbo] at HST ⊢
  clear hw2 hbo HO1 HT1 HB1 HGE
  have HQ := Lib.hid (hadSpan_any _ _ _ t w2 HST.out.lo)
  obtain ⟨r, hr⟩ : ∃ r, r = okB ⟨M, s, l⟩ t := ⟨_, rfl⟩
  rw [← hr] at HQ HRT HNO HYES
  clear hr
  have kK := HST.out.hk.c
  go_wp2_with fail
  refine HQ.out.mono ?_
  rintro e w3 ⟨rfl, hb⟩
  have HS3 := Lib.hid (HST.out.below hb)
  clear hb kK HST HQ
  cases r with
  | false =>
    have HN := Lib.hid (HNO.out (by first | rfl | trivial))
    clear HNO HYES HRT
    have kK := HS3.out.hk.c
    have fK := HS3.out.hk.f
    have lK := HS3.out.hk.lt
    have kT := HS3.out.ht.c
    have fT := HS3.out.ht.f
    have lT := HS3.out.ht.lt
    go_wp2_with fail
    exact retM_nil (v := .tuple #[.agg #[.slice p m c, .int .i64 s, .slice q n d], .int .i64 1]) (by simp [results, Try.results33, go_sem, *]) rfl (HS3.out.out HSS.out 1 HN.out.1 HN.out.2)
  | true =>
    have HN := Lib.hid (HYES.out (by first | rfl | trivial))
    have HR := Lib.hid (HRT.out (by first | rfl | trivial))
    have HBE : Hid (∀ W, Below w3.heap.size w3 W → Calls Try.prog 75 #[.slice q n d, .int .i64 t] W fun e w' => e = .returned (.int .i64 (cutU l t : Nat)) ∧ Below W.heap.size W w') := Lib.hid (fun W hW => below_any q n d l t W HLL.out (HS3.out.ho.lc.ls.below hW) hn HR.out.sort)
    have HCL : Hid (cutU l t ≤ n) := Lib.hid (by rw [← HLL.out]; exact cut_le l t)
    obtain ⟨k, hk⟩ : ∃ k, k = cutU l t := ⟨_, rfl⟩
    rw [← hk] at HN HBE HCL
    have hkn := HCL.out
    have hnd := HS3.out.ho.lc.nd
    have hkd : k ≤ d := by omega
    clear hk HNO HYES HRT
    have hm1 : 0 < m := by rw [← HML.out]; exact HR.out.m1
    obtain ⟨g, rfl, -, -, -, -⟩ := own_go HS3.out.ho.mo hm1
    have kK := HS3.out.hk.c
    go_upto_region 4 with fail
    go_wp2_with fail
    refine (HBE.out w3 (Below.refl _ _)).mono ?_
    rintro e w4 ⟨rfl, hb⟩
    have HS4 := Lib.hid (HS3.out.below hb)
    clear hb kK HS3 HBE
    have kK := HS4.out.hk.c
    obtain ⟨a, hsl, ha1, ha2⟩ := cut_lo q n d k hkn hnd
    have HSL := Lib.hid (cut_sl HS4.out.ho.lo HLL.out ha1)
    have HA2 := Lib.hid ha2
    have HKN := Lib.hid hkn
    have HND := Lib.hid hnd
    clear ha1 ha2 hkn hnd hkd
    go_upto_region 5 with fail
    go_wp2_with fail
    refine (backward_any a (n - k) (d - k) w4).mono ?_
    rintro e w5 ⟨rfl, hw5⟩
    obtain ⟨Bs, hBs⟩ : ∃ z, z = w4.heap.size := ⟨_, rfl⟩
    rw [← hBs]
    have HB5 : Hid (Below w4.heap.size w4 w5) := Lib.hid (by rw [hw5]; exact (Below.refl _ _).alloc (Nat.le_refl _) _)
    have HK5 : Hid (Blk w5 Bs #[.slice a (n - k) (d - k)]) := Lib.hid (by rw [hw5, hBs]; exact Blk.new _ _ _)
    have HBS : Hid (Bs = w4.heap.size ∧ w5.heap.size = Bs + 1) := Lib.hid (by rw [hw5, hBs]; exact ⟨rfl, by simp⟩)
    have HS5 := Lib.hid (HS4.out.below HB5.out)
    have HB5' := HB5
    clear hw5 hBs kK hsl
    go_wp2_with fail
    obtain ⟨ls, hls⟩ : ∃ z, z = l.drop k := ⟨_, rfl⟩
    have HLN : Hid (ls.length = n - k) := Lib.hid (by rw [hls, List.length_drop, HLL.out])
    rw [← hls] at HSL
    have HLS := Lib.hid hls
    have HFIT : Hid (∀ x : Fin ls.length, ∃ i : Nat, (ls.getD (ls.length - 1 - x.val) zU).at_ = (i : Int) ∧ i < m) := Lib.hid (fun x => by
      have hx := x.isLt
      have hmem : ls.getD (ls.length - 1 - x.val) zU ∈ l := by
        have h1 := mem_getD ls zU (ls.length - 1 - x.val) (by omega)
        have h2 : ∀ u ∈ ls, u ∈ l := fun u hu => by rw [hls] at hu; exact List.mem_of_mem_drop hu
        exact h2 _ h1
      have hf := HR.out.fit _ hmem
      unfold FitU at hf
      have hml := HML.out
      dsimp only at hf
      exact ⟨(ls.getD (ls.length - 1 - x.val) zU).at_.toNat, by omega, by omega⟩)
    have HAB : Hid (∀ X, a = some X → X.block < w5.heap.size ∧ X.block ≠ g) := Lib.hid (fun X e => by
      obtain ⟨Y, hY, e2⟩ := HA2.out X e
      have hob : (Value.slice q n d).ownBlock = some X.block := by rw [hY, ← e2]; rfl
      exact ⟨(HS5.out.ho.lo.lt _ hob).2, fun e3 => HS5.out.ho.sep g rfl (by rw [hob, e3])⟩)
    have HGB : Hid (g ≠ Bs ∧ g < w5.heap.size) := Lib.hid ⟨by have := (HS4.out.ho.mo.lt g rfl).2; have := HBS.out.1; omega, (HS5.out.ho.mo.lt g rfl).2⟩
    have HML' : Hid (∀ pre, (memB ls pre M).length = m) := Lib.hid (fun pre => by rw [len_memB, HML.out])
    have HBSL : Hid (Bs < w5.heap.size) := Lib.hid (by have := HBS.out.2; omega)
    have HBOL : Hid (bo < w5.heap.size) := Lib.hid HS5.out.hk.lt
    have HWB : Hid (w.heap.size ≤ w5.heap.size) := Lib.hid HS5.out.hb.size
    clear hls HA2 HBS HS4 HB5
    refine (wpIn_wide (n := 5)).1 ?_
    refine wpIn_rangeFunc_ownH rfl (by decide) (gf := 97) (lb := #[.pointer (some ⟨Bs, 0, none⟩)]) rfl trivial (enters_of Try.func97 (by kernel_rfl) rfl)
      (backward_stops Fence.wide 4 trivial rfl (by decide) Bs a (d - k) ls (by rw [HLN.out]; omega) w5 HBSL.out (by rw [HLN.out]; exact HK5.out.c 0) (by rw [HLN.out]; exact HSL.out.below (HB5'.out))) KpB.trans ?hKb (Below.refl _ _) (fun _ => rfl)
      (fun pre W => St w W bo (some ⟨g, 0, none⟩) m c s q n d (memB ls pre M) l ∧ w5.heap.size ≤ W.heap.size) (fun _ _ _ => False) (OwnFrom.and (St.own _ HWB.out) (fun _ _ _ _ h hg _ => Nat.le_trans h hg.size)) (fun _ _ _ _ _ hs _ _ => hs) ⟨HS5.out, Nat.le_refl _⟩
      (fun x a' W => ∃ Bx, w5.heap.size ≤ Bx ∧ Blk W Bx (unR (ls.getD (ls.length - 1 - x.val) zU)) ∧ a' = { tmps := #[Value.agg #[Value.slice p0 m c0, Value.int IntKind.i64 s, Value.slice q0 n d0], Value.int IntKind.i64 t, Value.pointer (some { block := w.heap.size, off := 0 }), undef, Value.pointer (some { block := w.heap.size + 1, off := 0 }), Value.int IntKind.i64 0, Value.pointer (some { block := bo, off := 0 }), Value.int IntKind.i64 (k : Int), undef, Value.pointer (some { block := Bx, off := 0 }), Value.agg #[Value.slice p0 m c0, Value.int IntKind.i64 s, Value.slice q0 n d0], Value.agg #[Value.slice (some { block := g, off := 0 }) m c, Value.int IntKind.i64 s, Value.slice q n d], Value.agg #[Value.slice (some { block := g, off := 0 }) m c, Value.int IntKind.i64 s, Value.slice q n d], Value.int IntKind.i64 t, Value.bool true, Value.bool false, undef, Value.pointer (some { block := bo, off := 2 }), Value.slice q n d, Value.int IntKind.i64 t, Value.int IntKind.i64 (k : Int), Value.pointer (some { block := bo, off := 2 }), Value.slice q n d, Value.int IntKind.i64 (k : Int), Value.slice a (n - k) (d - k), Value.func (Fn.func 97) #[] #[Value.pointer (some { block := Bs, off := 0 })], Value.int IntKind.i64 ((ls.length - 1 - x.val : Nat) : Int), Value.agg (unR (ls.getD (ls.length - 1 - x.val) zU)), undef, undef, undef, undef, undef, undef, undef, undef, undef, undef, undef, undef, undef, undef, undef, undef, undef, undef], defers := [] }) ?hAx ?assign ?body ?done ?stop
    case hKb =>
      intro W y o o' hy _ _ _
      exact ⟨by simp, World.putObj_heap_other (by have := HBSL.out; omega), fun X e => World.putObj_heap_other (by have := (HAB.out X e).1; omega)⟩
    case hAx =>
      intro x a' _ W W' row h hg hr
      obtain ⟨Bx, hBx, hk, he⟩ := h
      obtain ⟨o, h1, h2⟩ := blk_cells hk (by unfold unR; simp)
      refine ⟨Bx, hBx, hk.grown hg (fun e => ?_), he⟩
      obtain ⟨_, o', h3, h4⟩ := hr Bx e
      rw [h1] at h3; injection h3 with h3; subst h3; rw [h2] at h4; cases h4
    case assign =>
      rintro y pre x W K ⟨hi, hsz⟩ hK
      have HI := Lib.hid hi
      have HZ := Lib.hid hsz
      have HKK := Lib.hid hK
      clear hi hK
      unfold encB
      obtain ⟨u, hu⟩ : ∃ u, u = ls.getD (ls.length - 1 - x.val) zU := ⟨_, rfl⟩
      rw [← hu] at HKK ⊢
      obtain ⟨us, ua, uv⟩ := u
      unfold unR at HKK ⊢
      dsimp only at HKK ⊢
      obtain ⟨z, hz⟩ : ∃ z : Int, z = ((ls.length - 1 - x.val : Nat) : Int) := ⟨_, rfl⟩
      rw [← hz] at HKK ⊢
      clear hz hu
      gi_wp2
      refine HKK.out _ _ ((KeepsOthers.alloc _ _).from _) (KpB.of_below (M := W.heap.size) ((Below.refl _ W).alloc (Nat.le_refl _) _) (by have := HZ.out; have := HBSL.out; omega) (fun X e => by have := (HAB.out X e).1; have := HZ.out; omega)) ⟨HI.out.below ((Below.refl _ W).alloc (Nat.le_refl _) _), by have := HZ.out; simp; omega⟩ ⟨W.heap.size, HZ.out, Blk.new _ _ _, rfl⟩
    case body =>
      rintro y pre x a' W hyl hyr ⟨hI, hsz⟩ ⟨Bx, hBx, hX, rfl⟩ hpre
      have HZ := Lib.hid hsz
      clear hsz
      have HI := Lib.hid hI
      obtain ⟨i, hi, him⟩ := HFIT.out x
      have HX := Lib.hid hX
      have HSN := Lib.hid (memB_snoc ls pre x M)
      obtain ⟨u, hu⟩ : ∃ u, u = ls.getD (ls.length - 1 - x.val) zU := ⟨_, rfl⟩
      rw [← hu] at hi HX HSN ⊢
      obtain ⟨us, ua, uv⟩ := u
      dsimp only at hi HSN
      subst hi
      obtain ⟨z, hz⟩ : ∃ z : Int, z = ((ls.length - 1 - x.val : Nat) : Int) := ⟨_, rfl⟩
      rw [← hz]
      have HE : Hid (memB ls (pre ++ [x]) M = (memB ls pre M).set i uv) := Lib.hid (by rw [HSN.out]; unfold setM; rw [Int.toNat_natCast])
      have cM : W.cell? ⟨g, i, none⟩ = some (.int .u32 ((memB ls pre M).getD i 0)) := by rw [HI.out.ho.mo.cellAt i (by omega), wdC_at _ i (by rw [HML'.out]; exact him)]
      have fM : W.frozen? ⟨g, i, none⟩ = false := HI.out.ho.mo.frozenAt i
      have kK := HI.out.hk.c
      have kX := HX.out.c
      have hiI : (i : Int) < (m : Int) := by omega
      unfold unR at kX ⊢
      dsimp only at kX ⊢
      have HIM := Lib.hid him
      clear hz hu hI hX HSN hyl hyr hpre hBx him
      gi_wp2
      refine ⟨(KeepsOthers.setCell _ _ _).from _, ⟨by simp, heap_setCell_other W ⟨g, i, none⟩ Bs _ (fun e => HGB.out.1 e.symm), fun X e => heap_setCell_other W ⟨g, i, none⟩ X.block _ (fun e2 => (HAB.out X e).2 e2)⟩, ?_⟩
      have hm := HI.out.mem i uv
      rw [← HE.out] at hm
      exact ⟨hm, by have := HZ.out; simpa using this⟩
    case done =>
      rintro D ys W hD rfl ⟨hI, hsz⟩ hK
      rw [memB_all] at hI
      have HI := Lib.hid hI
      have HZ := Lib.hid hsz
      have HK := Lib.hid hK
      have HDL := Lib.hid hD
      clear hI hsz hK hD
      have kK := HI.out.hk.c
      go_upto_region 8 with fail
      go_wp2_with fail
      have e0 : l.take k ++ l.drop n = l.take k := by rw [List.drop_of_length_le (by rw [HLL.out]; exact Nat.le_refl _), List.append_nil]
      have HD := Lib.hid (delete_any (w.heap.size + 2) n d k n q l W HI.out.ho.lo HLL.out HKN.out (Nat.le_refl _) hn)
      have HLE : Hid ((l.take k ++ l.drop n).length ≤ 10000) := Lib.hid (by rw [e0, List.length_take]; have := HKN.out; omega)
      rw [e0] at HD HLE
      obtain ⟨x, hx⟩ : ∃ x, x = (l.take k).length := ⟨_, rfl⟩
      rw [← hx] at HD HLE
      clear e0 hx kK
      refine HD.out.mono ?_
      rintro e w6 ⟨rfl, ho, hg⟩
      have HS6 := Lib.hid (HI.out.list HLE.out ho hg (.inl (by cases q <;> rfl)))
      have HK6 := Lib.hid (HI.out.hk.grown hg (fun e => HI.out.nq bo e rfl))
      have HD6 := Lib.hid (dk_grown HK.out hg (fun g' e => own_cells HI.out.ho.lo e))
      have HD7 := Lib.hid (dk_set (j := 2) (v := .slice q x d) HD6.out HK6.out (by simp))
      clear ho hg HD HI HK HD6
      have kK := HK6.out.c
      have fK := HK6.out.f
      have lK := HK6.out.lt
      go_upto_region 9 with fail
      obtain ⟨w7, hw7⟩ : ∃ z, z = w6.setCell ⟨bo, 2, none⟩ (.slice q x d) := ⟨_, rfl⟩
      rw [← hw7] at HS6 HD7 ⊢
      clear hw7 kK fK lK HK6
      have HS8 := Lib.hid (HS6.out.span t)
      have HD8 := Lib.hid (dk_set (j := 1) (v := .int .i64 t) HD7.out HS6.out.hk (by simp))
      have kK := HS6.out.hk.c
      have fK := HS6.out.hk.f
      have lK := HS6.out.hk.lt
      go_upto_region 10 with fail
      obtain ⟨w8, hw8⟩ : ∃ z, z = w7.setCell ⟨bo, 1, none⟩ (.int .i64 t) := ⟨_, rfl⟩
      rw [← hw8] at HS8 HD8 ⊢
      clear hw8 kK fK lK HS6 HD7
      have kK := HS8.out.hk.c
      have fK := HS8.out.hk.f
      have lK := HS8.out.hk.lt
      have kT := HS8.out.ht.c
      have fT := HS8.out.ht.f
      have lT := HS8.out.ht.lt
      go_wp2_with fail
      obtain ⟨Y, hY⟩ : ∃ Y, Y = (((w8.setCell ⟨w.heap.size + 1, 0, none⟩ (.slice (some ⟨g, 0, none⟩) m c)).setCell ⟨w.heap.size + 1, 1, none⟩ (.int .i64 t)).setCell ⟨w.heap.size + 1, 2, none⟩ (.slice q x d)).putObj D (.deferred none) := ⟨_, rfl⟩
      obtain ⟨hout, hblk⟩ := HS8.out.outM HSS.out 0 (HN.out.1.trans (by rw [HLS.out])) HN.out.2 (D := D) (by have := HWB.out; have := HDL.out; omega) HD8.out Y hY
      have hc := hblk.c
      have HOUT := Lib.hid hout
      clear hout
      refine retM_mark (D := D) (v := .tuple #[.agg #[.slice (some ⟨g, 0, none⟩) m c, .int .i64 t, .slice q x d], .int .i64 0]) rfl ?_ ?_ ?_
      · exact dk_set (dk_set (dk_set HD8.out HS8.out.ht (by simp)) (HS8.out.ht.set (n := 0) _ (by simp)) (by simp)) ((HS8.out.ht.set (n := 0) _ (by simp)).set (n := 1) _ (by simp)) (by simp)
      · rw [← hY]
        simp [results, Try.results33, go_sem, hc]
      · rw [← hY]
        exact HOUT.out
    case stop =>
      rintro D c pre W _ _ h _
      exact h.elim
end Go.Proofs.Ytflakmabciokbaa.Ud
/- Logs and words that read alike; the statements' fixed answer, awake; no condition. -/
namespace Go.Proofs.Ytflakmabciokbaa.Ud
set_option linter.unusedVariables false
open Go.ChangeShapes Go.WideShapes Go.ChangeAt Go.RowKit

def eqN (x y : Un) : Bool := (x.span == y.span) && ((x.at_ == y.at_) && (x.val == y.val))
theorem eqN_iff (x y : Un) : eqN x y = true ↔ x = y := by
  obtain ⟨a, b, c⟩ := x
  obtain ⟨a', b', c'⟩ := y
  unfold eqN
  simp only [Bool.and_eq_true, beq_iff_eq, Un.mk.injEq]
set_option maxHeartbeats 1000000 in
theorem eq_line (w : World) (x y : Un) : (binOp .eql 66 (.agg #[.int .i64 x.span, .int .i64 x.at_, .int .u32 x.val]) (.agg #[.int .i64 y.span, .int .i64 y.at_, .int .u32 y.val])).run Try.prog w = .ok (.bool (eqN x y)) w := by
  have e1 : ∀ x : Un, (part 3 #[.int .i64 x.span, .int .i64 x.at_, .int .u32 x.val] 0).run Try.prog w = .ok (.int .i64 x.span) w := fun x => by simp [part, go_sem]
  have e2 : ∀ x : Un, (part 3 #[.int .i64 x.span, .int .i64 x.at_, .int .u32 x.val] 1).run Try.prog w = .ok (.int .i64 x.at_) w := fun x => by simp [part, go_sem]
  have e3 : ∀ x : Un, (part 29 #[.int .i64 x.span, .int .i64 x.at_, .int .u32 x.val] 2).run Try.prog w = .ok (.int .u32 x.val) w := fun x => by simp [part, go_sem]
  rw [run_eql_struct, show (10000 : Nat) = 9999 + 1 from rfl, run_equalIn_agg w 9999 66 _ _ (by simp [Program.fieldsOf, Try.underlying66]) Try.stoodInHeld66]
  have n1 : ("Span" ≠ "_") = True := by simp
  have n2 : ("At" ≠ "_") = True := by simp
  have n3 : ("Val" ≠ "_") = True := by simp
  have q1 := run_equalIn_int w 9998 3 .i64 .i64 x.span y.span Try.underlying3
  have q2 := run_equalIn_int w 9998 3 .i64 .i64 x.at_ y.at_ Try.underlying3
  have q3 := run_equalIn_int w 9998 29 .u32 .u32 x.val y.val Try.underlying29
  unfold eqN
  revert q1 q2 q3
  generalize (x.span == y.span) = b1
  generalize (x.at_ == y.at_) = b2
  generalize (x.val == y.val) = b3
  intro q1 q2 q3
  simp only [Program.fieldsOf, Try.underlying66, Op.eqFields, n1, n2, n3, if_true, Sem.run_bind, e1, e2, e3, Result.andThen_ok, q1, q2, q3, Sem.run_ite]
  cases b1 <;> cases b2 <;> cases b3 <;> simp
theorem neq_line (w : World) (x y : Un) : (binOp .neq 66 (.agg #[.int .i64 x.span, .int .i64 x.at_, .int .u32 x.val]) (.agg #[.int .i64 y.span, .int .i64 y.at_, .int .u32 y.val])).run Try.prog w = .ok (.bool (!eqN x y)) w := by
  have h := eq_line w x y
  rw [run_eql_struct] at h
  rw [run_neq_struct]
  generalize (Op.equalIn 10000 66 (Value.agg #[.int .i64 x.span, .int .i64 x.at_, .int .u32 x.val]) (Value.agg #[.int .i64 y.span, .int .i64 y.at_, .int .u32 y.val])).run Try.prog w = r at h ⊢
  cases r with
  | ok b w' =>
    simp only [Result.andThen_ok, Result.ok.injEq, Value.bool.injEq] at h ⊢
    exact ⟨by rw [h.1], h.2⟩
  | halt x w' => simp [Result.andThen] at h

set_option maxHeartbeats 2000000 in
theorem words_any (p q : Option Addr) (c d : Nat) (T : List Int) (w : World) (hp : Sl w p T.length (wdC T)) (hq : Sl w q T.length (wdC T)) (hm : T.length ≤ 10000) :
    Calls Try.prog 21 #[.slice p T.length c, .slice q T.length d] w fun e w' => e = .returned (.bool true) ∧ Below w.heap.size w w' := by
  have HP := Lib.hid (fun k hk => wd_at hp k hk)
  have HQ := Lib.hid (fun k hk => wd_at hq k hk)
  obtain ⟨n, hn⟩ : ∃ n, n = T.length := ⟨_, rfl⟩
  rw [← hn] at hm HP HQ ⊢
  clear hp hq hn
  have eN : ((n : Int) != (n : Int)) = false := by simp
  go_enter Try.func21, Try.ntmps21
  go_wp2_with fail
  go_loopw [5] (fun i wr => ∃ k : Nat, k ≤ n ∧ i = .int .i64 k ∧ Below w.heap.size w wr) (fun i _ => n - (intOf i).toNat)
  case atStart => exact ⟨0, Nat.zero_le _, rfl, Below.refl _ _⟩
  case round =>
    obtain ⟨k, hk, rfl, hb⟩ := hrel
    have HB := Lib.hid hb
    clear hb
    by_cases hlt : k < n
    · obtain ⟨b, off, rfl, hl1, h1⟩ := HP.out k hlt
      obtain ⟨b2, off2, rfl, hl2, h2⟩ := HQ.out k hlt
      have c1 := (HB.out.cell (p := ⟨b, off + k, none⟩) hl1).trans h1
      have c2 := (HB.out.cell (p := ⟨b2, off2 + k, none⟩) hl2).trans h2
      obtain ⟨x, hx⟩ : ∃ x, x = T.getD k 0 := ⟨_, rfl⟩
      rw [← hx] at c1 c2
      have eX : (x != x) = false := by simp
      have hkI : (k : Int) < (n : Int) := by omega
      clear h1 h2 hx hl1 hl2 eN
      go_upto_region 6 with fail
      go_quiet (fail)
      go_wp2_with fail
      go_roundw
      case rel => exact ⟨k + 1, by omega, by go_num, drewN_below HB.out _⟩
      case measure => simp [intOf]; omega
    · have hkn : k = n := by omega
      subst hkn
      go_wp2_with fail
      go_ret
      exact ⟨rfl, HB.out⟩

set_option maxHeartbeats 4000000 in
set_option maxRecDepth 100000 in
theorem same_any (S T : Nat → Prop) (v u : Value) (L : Lg) (w : World) (h1 : Lo S w v L) (h2 : Lo T w u L) :
    Calls Try.prog 44 #[v, u] w fun e w' => e = .returned (.bool true) ∧ Below w.heap.size w w' := by
  obtain ⟨p, m, c, q, n, d, rfl, hc, -⟩ := h1
  obtain ⟨p', m', c', q', n', d', rfl, hc', -⟩ := h2
  obtain rfl : m' = m := hc'.ml.symm.trans hc.ml
  obtain rfl : n' = n := hc'.ll.symm.trans hc.ll
  have hm := hc.m10
  have hn := hc.n10
  have H1 := Lib.hid (fun k hk => hc.wdAt k hk)
  have H2 := Lib.hid (fun k hk => hc'.wdAt k hk)
  have H3 := Lib.hid (fun k hk => hc.unAt k hk)
  have H4 := Lib.hid (fun k hk => hc'.unAt k hk)
  obtain ⟨s, hs⟩ : ∃ s, s = L.span := ⟨_, rfl⟩
  rw [← hs]
  clear hc hc' hs
  obtain ⟨w0, hw0⟩ : ∃ w0, w0 = (w.alloc (.cells #[.slice p m' c, .int .i64 s, .slice q n' d] 59)).alloc (.cells #[.slice p' m' c', .int .i64 s, .slice q' n' d'] 59) := ⟨_, rfl⟩
  have HB0 : Hid (Below w.heap.size w w0) := Lib.hid (by rw [hw0]; exact ((Below.refl _ _).alloc (Nat.le_refl _) _).alloc (by simp) _)
  have HA0 : Hid (Blk w0 w.heap.size #[.slice p m' c, .int .i64 s, .slice q n' d]) := Lib.hid (by rw [hw0]; exact (Blk.new _ _ _).alloc _)
  have HC0 : Hid (Blk w0 (w.heap.size + 1) #[.slice p' m' c', .int .i64 s, .slice q' n' d']) := Lib.hid (by
    have := Blk.new (w.alloc (.cells #[.slice p m' c, .int .i64 s, .slice q n' d] 59)) #[.slice p' m' c', .int .i64 s, .slice q' n' d'] 59
    rw [World.size_alloc] at this
    rw [hw0]; exact this)
  have HW0 := Lib.hid hw0
  clear hw0
  have eA : (s != s) = false := by simp
  have eM : ((m' : Int) != (m' : Int)) = false := by simp
  have eN : ((n' : Int) != (n' : Int)) = false := by simp
  go_enter Try.func44, Try.ntmps44
  have kA0 := HA0.out.c
  have kC0 := HC0.out.c
  go_upto_region 3 with fail
  rw [← HW0.out]
  clear HW0 eA eN eM kA0 kC0
  go_wp2_with fail
  go_loopw [5] (fun i wr => ∃ k : Nat, k ≤ m' ∧ i = .int .i64 k ∧ Blk wr w.heap.size #[.slice p m' c, .int .i64 s, .slice q n' d] ∧ Blk wr (w.heap.size + 1) #[.slice p' m' c', .int .i64 s, .slice q' n' d'] ∧ Below w.heap.size w wr) (fun i _ => m' - (intOf i).toNat)
  case atStart => exact ⟨0, Nat.zero_le _, rfl, HA0.out, HC0.out, HB0.out⟩
  case round =>
    obtain ⟨k, hk, rfl, ha, hc, hb⟩ := hrel
    have HAA := Lib.hid ha
    have HCC := Lib.hid hc
    have HB := Lib.hid hb
    clear ha hc hb HA0 HC0 HB0
    have kA := HAA.out.c
    have kC := HCC.out.c
    by_cases hlt : k < m'
    · obtain ⟨b, off, rfl, hb1, hc1⟩ := H1.out k hlt
      obtain ⟨b2, off2, rfl, hb2, hc2⟩ := H2.out k hlt
      have hkI : (k : Int) < (m' : Int) := by omega
      have c1 := (HB.out.cell (p := ⟨b, off + k, none⟩) hb1).trans hc1
      have c2 := (HB.out.cell (p := ⟨b2, off2 + k, none⟩) hb2).trans hc2
      obtain ⟨x, hx⟩ : ∃ x, x = L.mem.getD k 0 := ⟨_, rfl⟩
      rw [← hx] at c1 c2
      have eX : (x != x) = false := by simp
      clear hb1 hb2 hc1 hc2 hx
      go_upto_region 6 with fail
      go_quiet (fail)
      go_wp2_with fail
      go_roundw
      case rel => exact ⟨k + 1, by omega, by go_num, HAA.out.drewN _, HCC.out.drewN _, drewN_below HB.out _⟩
      case measure => simp [intOf]; omega
    · have hkn : k = m' := by omega
      subst hkn
      go_wp2_with fail
      obtain ⟨wo, hwo⟩ : ∃ wo, wo = wr := ⟨_, rfl⟩
      subst hwo
      clear kA kC
      go_loopw [6] (fun i wr => ∃ j : Nat, j ≤ n' ∧ i = .int .i64 j ∧ Blk wr w.heap.size #[.slice p k c, .int .i64 s, .slice q n' d] ∧ Blk wr (w.heap.size + 1) #[.slice p' k c', .int .i64 s, .slice q' n' d'] ∧ Below w.heap.size w wr) (fun i _ => n' - (intOf i).toNat)
      case atStart => exact ⟨0, Nat.zero_le _, rfl, HAA.out, HCC.out, HB.out⟩
      case round =>
        obtain ⟨j, hj, rfl, ha, hc, hb⟩ := hrel
        have HAB := Lib.hid ha
        have HCB := Lib.hid hc
        have HBB := Lib.hid hb
        clear ha hc hb HAA HCC HB
        have kA := HAB.out.c
        have kC := HCB.out.c
        by_cases hlt : j < n'
        · obtain ⟨b, off, rfl, hat⟩ := H3.out j hlt
          obtain ⟨b2, off2, rfl, hat2⟩ := H4.out j hlt
          have hjI : (j : Int) < (n' : Int) := by omega
          obtain ⟨l1, c0, c1, c2⟩ := hat.below HBB.out
          obtain ⟨l2, d0, d1, d2⟩ := hat2.below HBB.out
          obtain ⟨x, hx⟩ : ∃ x, x = L.list.getD j zU := ⟨_, rfl⟩
          rw [← hx] at c0 c1 c2 d0 d1 d2
          have hne : ∀ W, (binOp .neq 66 (.agg #[.int .i64 x.span, .int .i64 x.at_, .int .u32 x.val]) (.agg #[.int .i64 x.span, .int .i64 x.at_, .int .u32 x.val])).run Try.prog W = .ok (.bool false) W := fun W => by
            rw [neq_line, (eqN_iff x x).2 rfl]; rfl
          clear hat hat2 hx
          go_upto_region 11 with fail
          go_quiet (fail)
          go_wp2_with fail
          go_roundw
          case rel => exact ⟨j + 1, by omega, by go_num, HAB.out.drewN _, HCB.out.drewN _, drewN_below HBB.out _⟩
          case measure => simp [intOf]; omega
        · have hjn : j = n' := by omega
          subst hjn
          go_wp2_with fail
          go_ret
          exact ⟨rfl, HBB.out⟩

def aw0 : Lg := ⟨[0, 0], 0, []⟩
def aw1 : Lg := ⟨[5, 0], 0, [⟨0, 0, 0⟩]⟩
def aw2 : Lg := ⟨[5, 0], 1, [⟨0, 0, 0⟩]⟩
def aw3 : Lg := ⟨[6, 0], 1, [⟨0, 0, 0⟩, ⟨1, 0, 5⟩]⟩
def aw4 : Lg := ⟨[7, 0], 1, [⟨0, 0, 0⟩, ⟨1, 0, 5⟩]⟩
theorem aw_0 : newL 2 = aw0 ∧ newE 2 = 0 := ⟨rfl, rfl⟩
theorem aw_1 : writeL aw0 0 5 = aw1 ∧ writeE aw0 0 = 0 := ⟨by kernel_rfl, by kernel_rfl⟩
theorem aw_2 : nextL aw1 = aw2 ∧ nextE aw1 = 0 := ⟨by kernel_rfl, by kernel_rfl⟩
theorem aw_3 : writeL aw2 0 6 = aw3 ∧ writeE aw2 0 = 0 := ⟨by kernel_rfl, by kernel_rfl⟩
theorem aw_4 : writeL aw3 0 7 = aw4 ∧ writeE aw3 0 = 0 := ⟨by kernel_rfl, by kernel_rfl⟩
theorem aw_5 : backL aw4 1 = aw2 ∧ backE aw4 1 = 0 := ⟨by kernel_rfl, by kernel_rfl⟩
theorem aw_6 : roomL aw2 = 255 := by kernel_rfl
end Go.Proofs.Ytflakmabciokbaa.Ud
