/- UndoOnce in plain numbers, and what its walk carries along; no condition. -/
import Derived.Test.YtbgllkjhgjoodaaUnQ
import Derived.Laws.OwnMore
namespace Go.Proofs.Ytbgllkjhgjoodaa
set_option linter.unusedVariables false
open Go.ChangeShapes Go.WideShapes Go.ChangeAt Go.RowKit

theorem undo_get {l : List Un} {a : Nat} (h : ∀ u ∈ l, u.at_.toNat ≠ a) (m : List Int) : (undoM l m).getD a 0 = m.getD a 0 := by
  induction l with
  | nil => rfl
  | cons u l ih =>
    rw [undoM_cons]
    unfold setM
    rw [List.getD_eq_getElem?_getD, List.getElem?_set_ne (h u (List.mem_cons_self ..)), ← List.getD_eq_getElem?_getD]
    exact ih fun v hv => h v (List.mem_cons_of_mem _ hv)
theorem rt_again {L : Lg} (h : Rt L) {a : Nat} (ha : a < L.mem.length) (hu : hasU L.list L.span a = true) (v : Int) : writeL L a v = ⟨L.mem.set a v, L.span, L.list⟩ ∧ writeE L a = 0 ∧ Rt (writeL L a v) := by
  have hok : okW L (a : Int) = true := by unfold okW hasW; rw [right_iff.2 h, decide_eq_true (show 0 ≤ (a : Int) ∧ (a : Int) < (L.mem.length : Int) by omega)]; rfl
  have hfu : fullW L (a : Int) = false := by unfold fullW; rw [hu]; rfl
  have hp : putL L (a : Int) = L.list := by unfold putL; rw [if_pos hu]
  have hw : writeL L a v = ⟨L.mem.set a v, L.span, L.list⟩ := by unfold writeL; rw [hok, hfu, hp]; unfold setM; rw [Int.toNat_natCast]; rfl
  refine ⟨hw, by unfold writeE; rw [hok, hfu]; rfl, ?_⟩
  rw [hw]
  exact ⟨by simpa using h.m1, by simpa using h.m64, h.s0, h.st, h.n256, by simpa using h.fit, h.sort, h.ap⟩
theorem getD_set_same (l : List Bool) (a : Nat) (h : a < l.length) (b : Bool) : (l.set a b).getD a false = b := by
  rw [List.getD_eq_getElem?_getD, List.getElem?_set_self h]; rfl
theorem getD_set_other (l : List Bool) (a c : Nat) (h : a ≠ c) (b : Bool) : (l.set a b).getD c false = l.getD c false := by
  rw [List.getD_eq_getElem?_getD, List.getElem?_set_ne h, ← List.getD_eq_getElem?_getD]

/-- Words that were written in one interval. -/
structure On (m n : Lg) (ext : List Un) (seen : List Bool) : Prop where
  rm : Rt m
  rt : Rt n
  sp : n.span = m.span
  ml : n.mem.length = m.mem.length
  ls : n.list = m.list ++ ext
  lt : ∀ u ∈ m.list, u.span < m.span
  room : m.list.length ≤ 192
  ex : ∀ u ∈ ext, u.span = m.span ∧ ∃ a : Nat, u.at_ = (a : Int) ∧ a < m.mem.length ∧ seen.getD a false = true ∧ u.val = m.mem.getD a 0
  sn : ∀ a : Nat, a < m.mem.length → seen.getD a false = true → ∃ u ∈ ext, u.at_ = (a : Int)
  sl : seen.length = m.mem.length
  cnt : ext.length = seen.countP id
  bk : undoM ext n.mem = m.mem
theorem On.has {m n : Lg} {ext : List Un} {seen : List Bool} (h : On m n ext seen) {a : Nat} (ha : a < m.mem.length) : hasU n.list n.span a = seen.getD a false := by
  rw [Bool.eq_iff_iff]
  unfold hasU
  rw [List.any_eq_true, h.ls, h.sp]
  constructor
  · rintro ⟨u, hu, hc⟩
    obtain ⟨h1, h2⟩ := of_decide_eq_true hc
    rcases List.mem_append.1 hu with hu | hu
    · have := h.lt u hu; omega
    · obtain ⟨_, c, h3, h4, h5, _⟩ := h.ex u hu
      have : c = a := by omega
      subst this
      exact h5
  · intro hs
    obtain ⟨u, hu, h1⟩ := h.sn a ha hs
    exact ⟨u, List.mem_append_right _ hu, decide_eq_true ⟨(h.ex u hu).1, h1⟩⟩
theorem On.new {L : Lg} (hE : nextE L = 0) (hR : 64 ≤ roomL (nextL L)) : On (nextL L) (nextL L) [] (List.replicate (nextL L).mem.length false) := by
  have hok : okN L = true := by
    unfold nextE at hE
    cases h : okN L
    · rw [h] at hE; exact absurd hE (by decide)
    · rfl
  have hrs : Rt L ∧ L.span < topS := by
    unfold okN at hok
    rw [Bool.and_eq_true] at hok
    exact ⟨right_iff.1 hok.1, of_decide_eq_true hok.2⟩
  obtain ⟨hw, _, hr⟩ := rt_next hrs.1 hrs.2
  have h1 : (nextL L).list.length ≤ 192 := by
    unfold roomL at hR
    rw [right_iff.2 hr] at hR
    have : 64 ≤ 256 - ((nextL L).list.length : Int) := hR
    omega
  refine ⟨hr, hr, rfl, rfl, by simp, fun u hu => ?_, h1, fun u hu => (by cases hu), fun a ha hs => ?_, by simp, by simp [List.countP_replicate], rfl⟩
  · rw [hw] at hu ⊢
    have := (hrs.1.fit u hu).1.2
    show u.span < L.span + 1
    omega
  · rw [List.getD_eq_getElem?_getD, List.getElem?_replicate] at hs
    split at hs <;> simp at hs
theorem On.again {m n : Lg} {ext : List Un} {seen : List Bool} (h : On m n ext seen) {a : Nat} (ha : a < m.mem.length) (hs : seen.getD a false = true) (v : Int) : writeE n a = 0 ∧ On m (writeL n a v) ext seen := by
  obtain ⟨hw, he, hr⟩ := rt_again h.rt (a := a) (by rw [h.ml]; exact ha) ((h.has ha).trans hs) v
  refine ⟨he, ?_⟩
  rw [hw] at hr ⊢
  exact ⟨h.rm, hr, h.sp, by show (n.mem.set a v).length = _; rw [List.length_set, h.ml], h.ls, h.lt, h.room, h.ex, h.sn, h.sl, h.cnt, by
    show undoM ext (n.mem.set a v) = m.mem
    rw [undo_set (h.sn a ha hs), h.bk]⟩
theorem On.less {m n : Lg} {ext : List Un} {seen : List Bool} (h : On m n ext seen) {a : Nat} (ha : a < m.mem.length) (hs : seen.getD a false = false) : ext.length < m.mem.length := by
  rw [h.cnt, ← h.sl]
  rcases Nat.lt_or_ge (seen.countP id) seen.length with hl | hl
  · exact hl
  · have := List.countP_eq_length.1 (Nat.le_antisymm List.countP_le_length hl)
    have h1 : seen.getD a false = seen[a]'(by rw [h.sl]; exact ha) := by rw [List.getD_eq_getElem?_getD, List.getElem?_eq_getElem (by rw [h.sl]; exact ha)]; rfl
    have h2 := this _ (List.getElem_mem (l := seen) (n := a) (by rw [h.sl]; exact ha))
    rw [← h1, hs] at h2
    exact absurd h2 (by decide)
theorem On.first {m n : Lg} {ext : List Un} {seen : List Bool} (h : On m n ext seen) {a : Nat} (ha : a < m.mem.length) (hs : seen.getD a false = false) (v : Int) :
    writeE n a = 0 ∧ On m (writeL n a v) (ext ++ [⟨m.span, a, m.mem.getD a 0⟩]) (seen.set a true) := by
  have hl := h.less ha hs
  have h64 := h.rm.m64
  have hrm := h.room
  have hno : ∀ u ∈ ext, u.at_.toNat ≠ a := fun u hu e => by
    obtain ⟨_, c, h3, h4, h5, _⟩ := h.ex u hu
    have : c = a := by omega
    subst this
    rw [hs] at h5; cases h5
  have hval : n.mem.getD a 0 = m.mem.getD a 0 := by rw [← h.bk, undo_get hno]
  obtain ⟨hw, he, hr⟩ := rt_write h.rt (a := a) (by rw [h.ml]; exact ha) (by rw [h.ls, List.length_append]; omega) v
  have hput : putL n (a : Int) = n.list ++ [⟨m.span, a, m.mem.getD a 0⟩] := by
    unfold putL
    rw [if_neg (by rw [h.has ha, hs]; decide), Int.toNat_natCast, h.sp, hval]
  refine ⟨he, ?_⟩
  rw [hw] at hr ⊢
  rw [hput] at hr ⊢
  have hsl : a < seen.length := by rw [h.sl]; exact ha
  refine ⟨h.rm, hr, h.sp, by show (n.mem.set a v).length = _; rw [List.length_set, h.ml], by show n.list ++ _ = _; rw [h.ls, List.append_assoc], h.lt, h.room, fun u hu => ?_, fun c hc hcs => ?_, by rw [List.length_set, h.sl], ?_, ?_⟩
  · rcases List.mem_append.1 hu with hu | hu
    · obtain ⟨h1, c, h3, h4, h5, h6⟩ := h.ex u hu
      refine ⟨h1, c, h3, h4, ?_, h6⟩
      rw [getD_set_other _ _ _ (fun e => hno u hu (by omega)), h5]
    · rw [List.mem_singleton] at hu
      subst hu
      exact ⟨rfl, a, rfl, ha, getD_set_same _ _ hsl _, rfl⟩
  · by_cases e : a = c
    · subst e
      exact ⟨_, List.mem_append_right _ (List.mem_singleton_self _), rfl⟩
    · rw [getD_set_other _ _ _ e] at hcs
      obtain ⟨u, hu, h1⟩ := h.sn c hc hcs
      exact ⟨u, List.mem_append_left _ hu, h1⟩
  · have h1 : seen[a]'hsl = false := by rw [← hs, List.getD_eq_getElem?_getD, List.getElem?_eq_getElem hsl]; rfl
    rw [List.length_append, h.cnt, List.countP_set hsl, h1]
    simp
  · show undoM (ext ++ _) (n.mem.set a v) = m.mem
    rw [undoM_app, undoM_cons]
    show undoM _ (setM (n.mem.set a v) (a : Int) (m.mem.getD a 0)) = _
    unfold setM
    rw [Int.toNat_natCast, set_twice, ← hval, setM_self _ _ (by rw [h.ml]; exact ha)]
    exact h.bk
theorem On.back {m n : Lg} {ext : List Un} {seen : List Bool} (h : On m n ext seen) : backE n m.span = 0 ∧ backL n m.span = m := by
  have hs := h.sp
  have h0 := h.rm.s0
  obtain ⟨hw, he, _⟩ := rt_back h.rt (t := m.span) h0 (by omega)
  refine ⟨he, ?_⟩
  have e1 : fromL n.list m.span = ext := by
    rw [h.ls, fromL_app]
    have e2 : fromL m.list m.span = [] := by
      unfold fromL
      rw [List.filter_eq_nil_iff]
      intro u hu
      have := h.lt u hu
      simp; omega
    have e3 : fromL ext m.span = ext := by
      unfold fromL
      rw [List.filter_eq_self]
      intro u hu
      have := (h.ex u hu).1
      simp; omega
    rw [e2, e3]; rfl
  have e4 : belowL n.list m.span = m.list := by
    rw [h.ls]
    unfold belowL
    rw [List.filter_append]
    have e2 : m.list.filter (fun u => decide (u.span < m.span)) = m.list := by
      rw [List.filter_eq_self]
      intro u hu
      have := h.lt u hu
      simp; omega
    have e3 : ext.filter (fun u => decide (u.span < m.span)) = [] := by
      rw [List.filter_eq_nil_iff]
      intro u hu
      have := (h.ex u hu).1
      simp; omega
    rw [e2, e3, List.append_nil]
  rw [hw, e1, e4, h.bk]

def bl (l : List Bool) : List Value := l.map Value.bool
theorem bl_at (l : List Bool) (k : Nat) (hk : k < l.length) : (bl l).toArray[k]? = some (.bool (l.getD k false)) := by
  unfold bl
  rw [List.getElem?_toArray, List.getElem?_map, List.getD_eq_getElem?_getD, List.getElem?_eq_getElem hk]
  rfl
theorem infoB : (Try.prog.info? 4).map (fun i => (i.zero, i.size, i.bytes)) = some (some (.bool false), 1, 1) := by kernel_rfl
theorem mk_seen (k : Nat) (hk : k ≤ 1000) (w : World) : (Instr.makeSlice 49 (.int .i64 (k : Int)) (.int .i64 (k : Int))).run Try.prog w = .ok (.slice (some ⟨w.heap.size, 0, none⟩) k k) (w.alloc (.cells (bl (List.replicate k false)).toArray 4)) := by
  obtain ⟨i, hi, hz, hs, hb⟩ := info_parts infoB
  have h := run_makeSlice (P := Try.prog) w 49 4 i (.bool false) Try.underlying49 hi hz .i64 .i64 (k : Int) (k : Int) (by omega) (Int.le_refl _) (by rw [hs]; simp; omega) (by rw [hb]; omega) (by omega)
  rw [h]
  have e1 : madeCells (Value.bool false).cells ((k : Int).toNat * i.size) = (bl (List.replicate k false)).toArray := by
    rw [hs, Int.toNat_natCast, Nat.mul_one]
    have := toList_madeCells_one (.bool false) k
    apply Array.toList_inj.1
    rw [show (Value.bool false).cells = #[Value.bool false] from rfl, this]
    unfold bl
    rw [List.map_replicate]
  rw [e1, Int.toNat_natCast]

theorem mk_op (k : Nat) (hk : k ≤ 1000) (w : World) {ρ : Operand → Value} {o : Oper} {l c : Operand} (hop : o.op = Op.makeSlice 49 l c) (hl : ρ l = .int .i64 (k : Int)) (hc : ρ c = .int .i64 (k : Int)) : (execOp ρ o).run Try.prog w = .ok (.value (.slice (some ⟨w.heap.size, 0, none⟩) k k)) (w.alloc (.cells (bl (List.replicate k false)).toArray 4)) := by
  simp [execOp, hop, hl, hc, mk_seen k hk w, Result.andThen]
/-- The walk's state. -/
structure UO (w W : World) (bm bn bs : Nat) (pm : Option Addr) (k cm : Nat) (s : Int) (qm : Option Addr) (nm dm : Nat) (m N : Lg) (seen : List Bool) : Prop where
  hm : Blk W bm #[.slice pm k cm, .int .i64 s, .slice qm nm dm]
  lm : Lo (fun R => R = bn ∨ R = bs) W (.agg #[.slice pm k cm, .int .i64 s, .slice qm nm dm]) m
  vn : Var (fun R => R = bn ∨ R = bs) W bn N
  hs : Blk W bs (bl seen).toArray
  hb : Below w.heap.size w W
  gn : w.heap.size ≤ bn
  gs : w.heap.size ≤ bs
  ns : bn ≠ bs
  mn : bm ≠ bn
  ms : bm ≠ bs
theorem UO.below {w W W' : World} {bm bn bs : Nat} {pm : Option Addr} {k cm : Nat} {s : Int} {qm : Option Addr} {nm dm : Nat} {m N : Lg} {seen : List Bool} (h : UO w W bm bn bs pm k cm s qm nm dm m N seen) (hb : Below W.heap.size W W') : UO w W' bm bn bs pm k cm s qm nm dm m N seen :=
  ⟨h.hm.below hb, h.lm.below hb, h.vn.below hb, h.hs.below hb, h.hb.trans (hb.mono h.hb.size), h.gn, h.gs, h.ns, h.mn, h.ms⟩
theorem UO.put {w W : World} {bm bn bs : Nat} {pm : Option Addr} {k cm : Nat} {s : Int} {qm : Option Addr} {nm dm : Nat} {m N N' : Lg} {seen : List Bool} (h : UO w W bm bn bs pm k cm s qm nm dm m N seen) {u0 u1 u2 : Value} (hl : Lo (fun R => R = bn ∨ R = bs) W (.agg #[u0, u1, u2]) N') :
    UO w (((W.setCell ⟨bn, 0, none⟩ u0).setCell ⟨bn, 1, none⟩ u1).setCell ⟨bn, 2, none⟩ u2) bm bn bs pm k cm s qm nm dm m N' seen := by
  obtain ⟨p, m', c', q', n', d, hk, _⟩ := h.vn
  exact ⟨set3_other h.hm (fun e => h.mn e.symm) _ _ _, h.lm.set3 (.inl rfl) _ _ _, Var.put hk hl (.inl rfl), set3_other h.hs h.ns _ _ _, set3_below h.hb h.gn _ _ _, h.gn, h.gs, h.ns, h.mn, h.ms⟩
theorem bl_set (seen : List Bool) (a : Nat) (b : Bool) : (bl seen).toArray.setIfInBounds a (.bool b) = (bl (seen.set a b)).toArray := by
  unfold bl
  rw [List.map_set, List.setIfInBounds_toArray]
theorem UO.mark {w W : World} {bm bn bs : Nat} {pm : Option Addr} {k cm : Nat} {s : Int} {qm : Option Addr} {nm dm : Nat} {m N : Lg} {seen : List Bool} (h : UO w W bm bn bs pm k cm s qm nm dm m N seen) {a : Nat} (ha : a < seen.length) :
    UO w (W.setCell ⟨bs, a, none⟩ (.bool true)) bm bn bs pm k cm s qm nm dm m N (seen.set a true) :=
  ⟨h.hm.other _ (fun e => h.ms e.symm), h.lm.set (.inr rfl) _ _, h.vn.set (.inr rfl) (fun e => h.ns e.symm) _ _, (h.hs.set (.bool true) (n := a) (by simpa [bl] using ha)).cast (bl_set _ _ _), h.hb.setCell h.gs _, h.gn, h.gs, h.ns, h.mn, h.ms⟩
theorem UO.lt {w W : World} {bm bn bs : Nat} {pm : Option Addr} {k cm : Nat} {s : Int} {qm : Option Addr} {nm dm : Nat} {m N : Lg} {seen : List Bool} (h : UO w W bm bn bs pm k cm s qm nm dm m N seen) : ∀ R, (fun R => R = bn ∨ R = bs) R → R < W.heap.size := by
  rintro R (rfl | rfl)
  · exact h.vn.lt
  · exact h.hs.lt
theorem UO.make {w w5 W : World} {bm bn bs : Nat} {pm : Option Addr} {k cm : Nat} {s : Int} {qm : Option Addr} {nm dm : Nat} {m : Lg} {seen : List Bool}
    (hm : Blk w5 bm #[.slice pm k cm, .int .i64 s, .slice qm nm dm]) (hl : Lo (fun _ => False) w5 (.agg #[.slice pm k cm, .int .i64 s, .slice qm nm dm]) m) (hb : Below w.heap.size w w5) (hW : Below w5.heap.size w5 W)
    (hn : Blk W bn #[.slice pm k cm, .int .i64 s, .slice qm nm dm]) (hs : Blk W bs (bl seen).toArray) (gn : w5.heap.size ≤ bn) (gs : w5.heap.size ≤ bs) (ns : bn ≠ bs) : UO w W bm bn bs pm k cm s qm nm dm m m seen := by
  have hl2 : Lo (fun R => R = bn ∨ R = bs) w5 (.agg #[.slice pm k cm, .int .i64 s, .slice qm nm dm]) m := hl.later (fun R hR => .inr (by rcases hR with rfl | rfl <;> assumption))
  have hv := hl2.below hW
  refine ⟨hm.below hW, hv, ?_, hs, hb.trans (hW.mono hb.size), Nat.le_trans hb.size gn, Nat.le_trans hb.size gs, ns, fun e => by have := hm.lt; omega, fun e => by have := hm.lt; omega⟩
  obtain ⟨p, m', c, q, n, d, e, hc, ho⟩ := hv
  injection e with e
  simp at e
  obtain ⟨⟨rfl, rfl, rfl⟩, rfl, rfl, rfl, rfl⟩ := e
  exact ⟨pm, k, cm, qm, nm, dm, hn, hc, ho⟩
/-- A log in memory, of whatever size. -/
structure LcX (w : World) (p : Option Addr) (m c : Nat) (q : Option Addr) (n d : Nat) (L : Lg) : Prop where
  ml : L.mem.length = m
  ll : L.list.length = n
  ms : Sl w p m (wdC L.mem)
  ls : Sl w q n (unC L.list)
  mc : m ≤ c
  nd : n ≤ d
  m63 : m ≤ maxLen
  n63 : n ≤ maxLen
theorem LcX.lc {w : World} {p q : Option Addr} {m c n d : Nat} {L : Lg} (h : LcX w p m c q n d L) (h1 : m ≤ 10000) (h2 : n ≤ 10000) : Lc w p m c q n d L := ⟨h.ml, h.ll, h.ms, h.ls, h.mc, h.nd, h1, h2⟩
/-- Bytes in memory. -/
structure Nb (w : World) (p : Option Addr) (l : List Nat) : Prop where
  lt : ∀ x ∈ l, x < 256
  at_ : 0 < l.length → ∃ b off, b < w.heap.size ∧ p = some ⟨b, off, none⟩ ∧ ∀ i, i < l.length → w.cell? ⟨b, off + i, none⟩ = some (.int .u8 (l.getD i 0 : Nat))
/-- A log that a call has just answered, in a variable. -/
def FreshS (S : Nat → Prop) (w0 w : World) (b2 : Nat) (p : Option Addr) (m c : Nat) (s : Int) (q : Option Addr) (n d : Nat) (L : Lg) : Prop := w0.heap.size ≤ b2 ∧ Blk w b2 #[.slice p m c, .int .i64 s, .slice q n d] ∧ Lo S w (.agg #[.slice p m c, .int .i64 s, .slice q n d]) L ∧ Below w0.heap.size w0 w
theorem FreshS.first {S : Nat → Prop} {w0 w1 : World} {p q : Option Addr} {m c n d : Nat} {s : Int} {L : Lg} (hl : Lo S w1 (.agg #[.slice p m c, .int .i64 s, .slice q n d]) L) (hb : Below w0.heap.size w0 w1) : FreshS S w0 (w1.alloc (.cells #[.slice p m c, .int .i64 s, .slice q n d] 25)) w1.heap.size p m c s q n d L :=
  ⟨hb.size, Blk.new _ _ _, hl.below ((Below.refl _ _).alloc (Nat.le_refl _) _), hb.alloc hb.size _⟩
theorem FreshS.later {S : Nat → Prop} {w0 w1 w2 : World} {p q : Option Addr} {m c n d : Nat} {s : Int} {L : Lg} {a0 a1 a2 : Value} (h1 : w1 = w0.alloc (.cells #[a0, a1, a2] 25)) (hl : Lo (fun R => R < w1.heap.size) w2 (.agg #[.slice p m c, .int .i64 s, .slice q n d]) L) (hb : Below w1.heap.size w1 w2) (hbb : ∀ R, S R → R < w0.heap.size) :
    FreshS S w0 (((w2.setCell ⟨w0.heap.size, 0, none⟩ (.slice p m c)).setCell ⟨w0.heap.size, 1, none⟩ (.int .i64 s)).setCell ⟨w0.heap.size, 2, none⟩ (.slice q n d)) w0.heap.size p m c s q n d L := by
  have hs : w1.heap.size = w0.heap.size + 1 := by rw [h1, size_new]
  have hk : Blk w2 w0.heap.size #[a0, a1, a2] := by
    have := (Blk.new w0 #[a0, a1, a2] 25)
    rw [← h1] at this
    exact this.below hb
  have hb0 : Below w0.heap.size w0 w2 := by
    have : Below w0.heap.size w0 w1 := by rw [h1]; exact (Below.refl _ _).alloc (Nat.le_refl _) _
    exact this.trans (hb.mono this.size)
  exact ⟨Nat.le_refl _, set3_same hk _ _ _, (hl.set3 (by show w0.heap.size < w1.heap.size; omega) _ _ _).weak (fun R hR => by have := hbb R hR; show R < w1.heap.size; omega), set3_below hb0 (Nat.le_refl _) _ _ _⟩
theorem FreshS.drew {S : Nat → Prop} {w0 w : World} {b2 : Nat} {p q : Option Addr} {m c n d : Nat} {s : Int} {L : Lg} (h : FreshS S w0.drew w b2 p m c s q n d L) : FreshS S w0 w b2 p m c s q n d L :=
  ⟨h.1, h.2.1, h.2.2.1, (Below.refl w0.heap.size w0).drew.trans h.2.2.2⟩
end Go.Proofs.Ytbgllkjhgjoodaa
