/- What was there by interval and word, as a map; no condition but that the list reads, and that its numbers are Go's. -/
import Derived.Test.YtbgllkjhgjoodaaUnD
import Derived.Maps.OwnSet
import Derived.WideKeyArr2
namespace Go.Proofs.Ytbgllkjhgjoodaa
set_option linter.unusedVariables false
open Go.ChangeShapes Go.WideShapes Go.ChangeAt Go.RowKit Go.Maps

theorem arr58 : WideMaps.ArrKey Try.prog 58 3 2 := ⟨Try.underlying58, by kernel_rfl, by kernel_rfl, by kernel_rfl⟩
theorem law58 : Keyed Try.prog 58 := Keyed.of_law arr58.law
def keyU (s a : Int) : Lit := .string (keyBytes [.int .i64 s, .int .i64 a])
theorem key_lit {s a : Int} (hs : (Lit.int .i64 s).wf = true) (ha : (Lit.int .i64 a).wf = true) : keyOf Try.prog 58 (.agg #[.int .i64 s, .int .i64 a]) = some (keyU s a) := by
  have hsz : ∃ m, Try.prog.types.size = m + 1 := ⟨Try.prog.types.size - 1, by kernel_rfl⟩
  have hkt := arr58.keyType hsz
  obtain ⟨m0, hm0⟩ := hsz
  have hk : ∀ D n, (Lit.int .i64 n).wf = true → Try.prog.keyLits (D + 1) 3 [.int .i64 n] = some [.int .i64 n] := fun D n hn => by
    unfold Program.keyLits
    simp only [Try.underlying3]
    rw [if_pos ⟨trivial, hn⟩]
  unfold keyOf
  simp only [arr58.hu]
  rw [if_pos (by simp [hkt, Value.formed, arr58.hu, arr58.size]), hm0]
  unfold Program.keyLits
  simp only [arr58.hu, Value.cells]
  rw [if_pos (by rw [arr58.size]; rfl), show List.range 2 = [0, 1] from rfl, List.mapM_cons, List.mapM_cons, List.mapM_nil, arr58.one]
  simp [hk _ _ hs, hk _ _ ha, keyU]
theorem key_inj {s a t b : Int} (hs : (Lit.int .i64 s).wf = true) (ha : (Lit.int .i64 a).wf = true) (ht : (Lit.int .i64 t).wf = true) (hb : (Lit.int .i64 b).wf = true) (h : keyU s a = keyU t b) : s = t ∧ a = b := by
  have := law58.inj (key_lit hs ha) (by rw [h]; exact key_lit ht hb)
  injection this with this
  simp at this
  exact this
theorem key_is (s a : Int) : WideAt.IsKeyLit (keyU s a) := by simp [WideAt.IsKeyLit, keyU]
theorem zero26 (w : World) : (zeroValue 26).run Try.prog w = .ok (.int .u32 0) w := by kernel_rfl
theorem run_makeHint (m : Int) (w : World) : (Instr.makeMap 56 (some (.int .i64 m))).run Try.prog w = .ok (.map (some w.heap.size)) (w.alloc (.map #[] 0)) := by
  simp [Instr.makeMap, run_underlying Try.underlying56, go_sem, asInt]
/-- An element as it reads. -/
def rawE (v : Value) : Option (DataW Unit × List MemPlace) := match v with
  | .int .u32 a => some (.lit (.int .u32 a), [])
  | _ => none
theorem rawE_inv {v : Value} {z : DataW Unit × List MemPlace} (h : rawE v = some z) : ∃ a, v = .int .u32 a := by
  unfold rawE at h
  split at h
  · exact ⟨_, rfl⟩
  · cases h
def beM (l : List Un) (k : Nat) : DataW Unit := (l.take k).foldl (fun D u => D.put (keyU u.span u.at_) (.lit (.int .u32 u.val))) (.map [])
theorem beM_zero (l : List Un) : beM l 0 = .map [] := rfl
theorem beM_step (l : List Un) (k : Nat) (hk : k < l.length) : beM l (k + 1) = (beM l k).put (keyU (l.getD k zU).span (l.getD k zU).at_) (.lit (.int .u32 (l.getD k zU).val)) := by
  unfold beM
  rw [take_getD l zU k hk, List.foldl_append]
  rfl
def wfU (u : Un) : Prop := (Lit.int .i64 u.span).wf = true ∧ (Lit.int .i64 u.at_).wf = true
def wfL (l : List Un) : Prop := ∀ u ∈ l, wfU u
theorem wfL_at {l : List Un} (h : wfL l) (k : Nat) : wfU (l.getD k zU) := by
  by_cases hk : k < l.length
  · exact h _ (mem_getD l zU k hk)
  · rw [List.getD_eq_getElem?_getD, List.getElem?_eq_none (by omega)]; exact ⟨rfl, rfl⟩
theorem be_tidy (l : List Un) (k : Nat) (hk : k ≤ l.length) : Tidy (beM l k) := by
  induction k with
  | zero => exact tidy_empty
  | succ k ih => rw [beM_step l k hk]; exact (ih (by omega)).put (key_is _ _) _
theorem be_has {l : List Un} (hw : wfL l) (k : Nat) (hk : k ≤ l.length) {s a : Int} (hs : (Lit.int .i64 s).wf = true) (ha : (Lit.int .i64 a).wf = true) : Maps.has (beM l k) (keyU s a) = true ↔ ∃ j, j < k ∧ (l.getD j zU).span = s ∧ (l.getD j zU).at_ = a := by
  induction k with
  | zero => exact ⟨fun h => by simp [beM_zero, Maps.has] at h, fun ⟨j, hj, _⟩ => absurd hj (Nat.not_lt_zero _)⟩
  | succ k ih =>
    rw [beM_step l k hk]
    have hi := ih (by omega)
    have hm := (be_tidy l k (by omega)).isMap
    have hwk := wfL_at hw k
    by_cases e : (l.getD k zU).span = s ∧ (l.getD k zU).at_ = a
    · rw [e.1, e.2, has_put_same hm (key_is s a)]
      exact ⟨fun _ => ⟨k, by omega, e⟩, fun _ => rfl⟩
    · rw [has_put_other (fun e2 => e (by have := key_inj hs ha hwk.1 hwk.2 e2; exact ⟨this.1.symm, this.2.symm⟩)), hi]
      constructor
      · rintro ⟨j, hj, h⟩; exact ⟨j, by omega, h⟩
      · rintro ⟨j, hj, h⟩
        by_cases ejk : j = k
        · rw [ejk] at h; exact absurd h e
        · exact ⟨j, by omega, h⟩
theorem be_size {l : List Un} (hw : wfL l) (k : Nat) (hk : k ≤ l.length) : Maps.size (beM l k) ≤ k ∧ (Maps.size (beM l k) = k ↔ ∀ i j, i < j → j < k → ApartU (l.getD i zU) (l.getD j zU)) := by
  induction k with
  | zero => exact ⟨Nat.le_refl _, fun _ i j _ hj => absurd hj (Nat.not_lt_zero _), fun _ => rfl⟩
  | succ k ih =>
    rw [beM_step l k hk]
    obtain ⟨h1, h2⟩ := ih (by omega)
    have ht := be_tidy l k (by omega)
    have hh := be_has hw k (by omega) (wfL_at hw k).1 (wfL_at hw k).2
    rw [size_put ht]
    by_cases e : Maps.has (beM l k) (keyU (l.getD k zU).span (l.getD k zU).at_) = true
    · rw [if_pos e]
      obtain ⟨j, hj, he⟩ := hh.1 e
      exact ⟨by omega, fun h => by omega, fun h => absurd he (h j k hj (Nat.lt_succ_self _))⟩
    · rw [if_neg e]
      refine ⟨by omega, fun h i j hij hj => ?_, fun h => ?_⟩
      · by_cases ejk : j = k
        · subst ejk; exact fun e2 => e (hh.2 ⟨i, hij, e2⟩)
        · exact h2.1 (by omega) i j hij (by omega)
      · rw [h2.2 (fun i j hij hj => h i j hij (by omega))]
theorem be_len {l : List Un} (hw : wfL l) : ((Maps.size (beM l l.length) : Int) == (l.length : Int)) = decide (l.Pairwise ApartU) := by
  rw [Bool.eq_iff_iff, beq_iff_eq, decide_eq_true_eq, List.pairwise_iff_getElem]
  have h := (be_size hw l.length (Nat.le_refl _)).2
  constructor
  · intro e i j hi hj hij
    rw [get_getD l zU, get_getD l zU]
    exact h.1 (by omega) i j hij hj
  · intro e
    have := h.2 (fun i j hij hj => by
      have := e i j (by omega) hj hij
      rwa [get_getD l zU, get_getD l zU] at this)
    omega
theorem be_hasU {l : List Un} (hw : wfL l) {s a : Int} (hs : (Lit.int .i64 s).wf = true) (ha : (Lit.int .i64 a).wf = true) : Maps.has (beM l l.length) (keyU s a) = hasU l s a := by
  rw [Bool.eq_iff_iff, be_has hw l.length (Nat.le_refl _) hs ha]
  unfold hasU
  rw [List.any_eq_true]
  constructor
  · rintro ⟨j, hj, h⟩; exact ⟨_, mem_getD l zU j hj, decide_eq_true h⟩
  · rintro ⟨u, hu, h⟩
    obtain ⟨k, hk, rfl⟩ := mem_idx l zU u hu
    exact ⟨k, hk, of_decide_eq_true h⟩

theorem own_map {w w' : World} {b n : Nat} {D : DataW Unit} (h : w.ownsMap Try.prog 58 rawE b n D) (hb : Below w.heap.size w w') : w'.ownsMap Try.prog 58 rawE b n D := by
  have hl := h.lt
  obtain ⟨es, clock, h1, Ft, hs, hD⟩ := h
  exact ⟨es, clock, (hb.block b hl).trans h1, Ft, hs, hD⟩

set_option maxHeartbeats 2000000 in
set_option maxRecDepth 100000 in
theorem before_any (q : Option Addr) (n x : Nat) (l : List Un) (w : World) (hl : l.length = n) (hs : Sl w q n (unC l)) (hn : n ≤ 10000) (hw : wfL l) :
    Calls Try.prog 23 #[.slice q n x] w fun e w' => e = .returned (.map (some w.heap.size)) ∧ w'.ownsMap Try.prog 58 rawE w.heap.size n (beM l n) ∧ Below w.heap.size w w' := by
  have HAT : Hid (∀ k, k < n → ∃ b off, q = some ⟨b, off, none⟩ ∧ UnAt w b off k (l.getD k zU)) := Lib.hid (fun k hk => un_at (by rw [hl]; exact hs) k (by omega))
  have HW := Lib.hid hw
  have HST : Hid (∀ k, k < n → beM l (k + 1) = (beM l k).put (keyU (l.getD k zU).span (l.getD k zU).at_) (.lit (.int .u32 (l.getD k zU).val))) := Lib.hid (fun k hk => beM_step l k (by omega))
  clear hs hl hw
  have hmm := fun w => run_makeHint n w
  go_enter Try.func23, Try.ntmps23
  go_wp2_with fail
  go_loopw [11] (fun i wr => ∃ k : Nat, k ≤ n ∧ i = .int .i64 k ∧ wr.ownsMap Try.prog 58 rawE w.heap.size k (beM l k) ∧ Below w.heap.size w wr) (fun i _ => n - (intOf i).toNat)
  case atStart => exact ⟨0, Nat.zero_le _, rfl, World.ownsMap_made _ _ _ _, (Below.refl _ _).alloc (Nat.le_refl _) _⟩
  case round =>
    obtain ⟨k, hk, rfl, hown, hb⟩ := hrel
    by_cases hlt : k < n
    · obtain ⟨b, off, rfl, hat⟩ := HAT.out k hlt
      obtain ⟨l0, c0, c1, c2⟩ := hat.below hb
      have hwf := wfL_at HW.out k
      have hst := HST.out k hlt
      obtain ⟨y, hy⟩ : ∃ y, y = l.getD k zU := ⟨_, rfl⟩
      rw [← hy] at c0 c1 c2 hwf hst
      obtain ⟨ys, ya, yv⟩ := y
      dsimp only at c0 c1 c2 hst
      have HST2 := Lib.hid hst
      have HO := Lib.hid hown
      have HB := Lib.hid hb
      have HK : Hid (keyOf Try.prog 58 (.agg #[.int .i64 ys, .int .i64 ya]) = some (keyU ys ya)) := Lib.hid (key_lit hwf.1 hwf.2)
      clear hst hown hb hwf hat hy
      go_wp2_with (first
        | (at_mapUpdate; refine wpList_mapUpdate_own _ rfl _ _ _ 56 rfl 58 26 law58 Try.underlying56 _ w.heap.size k _ rfl (HO.out.alloc _) (by unfold maxLen; omega) _ _ _ rfl rfl HK.out _ [] (show rawE (.int .u32 yv) = some (.lit (.int .u32 yv), []) from rfl) ?_; intro w1 hown1 hgrow1))
      have HO1 := Lib.hid hown1
      have HB1 : Hid (Below w.heap.size w w1) := Lib.hid ((HB.out.alloc HB.out.size _).grown hgrow1 (by have := HB.out.size; simp; omega) (fun j hj => by cases hj; exact Nat.le_refl _))
      clear hown1 hgrow1
      go_roundw
      case rel => exact ⟨k + 1, by omega, by go_num, by rw [HST2.out]; exact HO1.out, HB1.out⟩
      case measure => simp [intOf]; omega
    · have : k = n := by omega
      subst this
      have HO := Lib.hid hown
      have HB := Lib.hid hb
      clear hown hb
      go_wp2_with fail
      go_ret
      exact ⟨rfl, HO.out, HB.out⟩
end Go.Proofs.Ytbgllkjhgjoodaa
