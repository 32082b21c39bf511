/- CommitRight: the walk of the statement's function; no condition but that the gate reads. -/
import Derived.Test.YteffmidpinlpjaaCmT
import Derived.Test.YteffmidpinlpjaaCmU
import Derived.Test.YteffmidpinlpjaaCmJ
import Derived.Test.YteffmidpinlpjaaCmL
import Derived.Test.YteffmidpinlpjaaPlan3
namespace Go.Proofs.Yteffmidpinlpjaa
set_option linter.unusedVariables false
set_option linter.unusedSimpArgs false
open Go.ChangeShapes Go.WideShapes Go.ChangeAt Go.RowKit

theorem own_grown {w w' : World} {base : Nat} {e : TypeId} {size : Nat} {v : Value} {n : Nat} {xs : List Value} {row : Option Nat} (h : w.ownsRow base e size v n xs) (hg : w.grownBy w' row) (hne : ∀ b, v.ownBlock = some b → row ≠ some b) : w'.ownsRow base e size v n xs := by
  refine h.kept hg ?_
  cases hv : v.ownBlock with
  | none => exact .inl rfl
  | some b => exact .inr (fun e => hne b hv e.symm)
/-- What a region that makes a copy has made so far. -/
structure P3 (w0 W : World) (a : Value) (n : Nat) (xs : List Value) (b : Value) (k : Nat) (ys : List Value) (z : Option Nat) : Prop where
  hb : Below w0.heap.size w0 W
  ha : W.ownsRow w0.heap.size 52 3 a n xs
  hc : W.ownsRow w0.heap.size 28 2 b k ys
  sep : ∀ g, a.ownBlock = some g → b.ownBlock ≠ some g
  hz : ∀ g, z = some g → w0.heap.size ≤ g ∧ Blk W g #[.slice none 0 0, .slice none 0 0] ∧ a.ownBlock ≠ some g ∧ b.ownBlock ≠ some g
theorem P3.new (w0 : World) : P3 w0 w0.drew (.slice none 0 0) 0 [] (.slice none 0 0) 0 [] none :=
  ⟨(Below.refl _ _).drew, World.ownsRow_nil _ _ _ _, World.ownsRow_nil _ _ _ _, (fun g e => by cases e), (fun g e => by cases e)⟩
theorem P3.mkA {w0 W : World} {a : Value} {n : Nat} {xs : List Value} {b : Value} {k : Nat} {ys : List Value} {z : Option Nat} (h : P3 w0 W a n xs b k ys z) : P3 w0 (W.alloc (.cells #[] 52)) (.slice (some ⟨W.heap.size, 0, none⟩) 0 0) 0 [] b k ys z := by
  have hw := (Below.refl W.heap.size W).alloc (Nat.le_refl _) (.cells #[] 52)
  refine ⟨h.hb.alloc h.hb.size _, fresh_made h.hb.size, own_below h.hc hw, fun g e e2 => ?_, fun g e => ?_⟩
  · have e3 : W.heap.size = g := Option.some.inj e; have := (h.hc.lt g e2).2; omega
  · obtain ⟨h1, h2, h3, h4⟩ := h.hz g e
    exact ⟨h1, h2.alloc _, fun e2 => (by have e3 : W.heap.size = g := Option.some.inj e2; have := h2.lt; omega), h4⟩
theorem P3.mkB {w0 W : World} {a : Value} {n : Nat} {xs : List Value} {b : Value} {k : Nat} {ys : List Value} {z : Option Nat} (h : P3 w0 W a n xs b k ys z) : P3 w0 (W.alloc (.cells #[] 28)) a n xs (.slice (some ⟨W.heap.size, 0, none⟩) 0 0) 0 [] z := by
  have hw := (Below.refl W.heap.size W).alloc (Nat.le_refl _) (.cells #[] 28)
  refine ⟨h.hb.alloc h.hb.size _, own_below h.ha hw, fresh_made h.hb.size, fun g e e2 => ?_, fun g e => ?_⟩
  · have e3 : W.heap.size = g := Option.some.inj e2; have := (h.ha.lt g e).2; omega
  · obtain ⟨h1, h2, h3, h4⟩ := h.hz g e
    exact ⟨h1, h2.alloc _, h3, fun e2 => (by have e3 : W.heap.size = g := Option.some.inj e2; have := h2.lt; omega)⟩
theorem P3.mkZ {w0 W : World} {a : Value} {n : Nat} {xs : List Value} {b : Value} {k : Nat} {ys : List Value} {z : Option Nat} (h : P3 w0 W a n xs b k ys z) : P3 w0 (W.alloc (.cells #[.slice none 0 0, .slice none 0 0] 25)) a n xs b k ys (some W.heap.size) := by
  have hw := (Below.refl W.heap.size W).alloc (Nat.le_refl _) (.cells #[.slice none 0 0, .slice none 0 0] 25)
  refine ⟨h.hb.alloc h.hb.size _, own_below h.ha hw, own_below h.hc hw, h.sep, fun g e => ?_⟩
  injection e with e
  subst e
  exact ⟨h.hb.size, Blk.new _ _ _, fun e2 => by have := (h.ha.lt _ e2).2; omega, fun e2 => by have := (h.hc.lt _ e2).2; omega⟩
theorem P3.growA {w0 W W' : World} {a : Value} {n : Nat} {xs : List Value} {b : Value} {k : Nat} {ys : List Value} {z : Option Nat} (h : P3 w0 W a n xs b k ys z) {a' : Value} {n' : Nat} {xs' : List Value}
    (g1 : W'.ownsRow w0.heap.size 52 3 a' n' xs') (g2 : W.grownBy W' a.ownBlock) (g3 : a'.ownBlock = a.ownBlock ∨ a'.ownBlock = some W.heap.size) : P3 w0 W' a' n' xs' b k ys z := by
  refine ⟨h.hb.grown g2 h.hb.size (fun g e => (h.ha.lt g e).1), g1, own_grown h.hc g2 (fun g e e2 => h.sep g e2 e), fun g e e2 => ?_, fun g e => ?_⟩
  · rcases g3 with g3 | g3
    · exact h.sep g (g3 ▸ e) e2
    · rw [g3] at e; injection e with e; have := (h.hc.lt g e2).2; omega
  · obtain ⟨h1, h2, h3, h4⟩ := h.hz g e
    refine ⟨h1, h2.grown g2 h3, fun e2 => ?_, h4⟩
    rcases g3 with g3 | g3
    · exact h3 (g3 ▸ e2)
    · rw [g3] at e2; injection e2 with e2; have := h2.lt; omega
theorem P3.growB {w0 W W' : World} {a : Value} {n : Nat} {xs : List Value} {b : Value} {k : Nat} {ys : List Value} {z : Option Nat} (h : P3 w0 W a n xs b k ys z) {b' : Value} {k' : Nat} {ys' : List Value}
    (g1 : W'.ownsRow w0.heap.size 28 2 b' k' ys') (g2 : W.grownBy W' b.ownBlock) (g3 : b'.ownBlock = b.ownBlock ∨ b'.ownBlock = some W.heap.size) : P3 w0 W' a n xs b' k' ys' z := by
  refine ⟨h.hb.grown g2 h.hb.size (fun g e => (h.hc.lt g e).1), own_grown h.ha g2 (fun g e e2 => h.sep g e e2), g1, fun g e e2 => ?_, fun g e => ?_⟩
  · rcases g3 with g3 | g3
    · exact h.sep g e (g3 ▸ e2)
    · rw [g3] at e2; injection e2 with e2; have := (h.ha.lt g e).2; omega
  · obtain ⟨h1, h2, h3, h4⟩ := h.hz g e
    refine ⟨h1, h2.grown g2 h4, h3, fun e2 => ?_⟩
    rcases g3 with g3 | g3
    · exact h4 (g3 ▸ e2)
    · rw [g3] at e2; injection e2 with e2; have := h2.lt; omega
/-- The copy, stored. -/
theorem P3.lo {w0 W : World} {p1 : Option Addr} {m c1 : Nat} {q1 : Option Addr} {n d1 : Nat} {L : Gt} {g : Nat} (h : P3 w0 W (.slice p1 m c1) m (hdC L.held) (.slice q1 n d1) n (tdC L.out) (some g)) (hm : m ≤ 10000) (hn : n ≤ 10000) (S : Nat → Prop) (hS : ∀ R, S R → R < w0.heap.size) :
    w0.heap.size ≤ g ∧ Blk ((W.setCell ⟨g, 0, none⟩ (.slice p1 m c1)).setCell ⟨g, 1, none⟩ (.slice q1 n d1)) g #[.slice p1 m c1, .slice q1 n d1] ∧ Lo S ((W.setCell ⟨g, 0, none⟩ (.slice p1 m c1)).setCell ⟨g, 1, none⟩ (.slice q1 n d1)) (.agg #[.slice p1 m c1, .slice q1 n d1]) L ∧ Below w0.heap.size w0 ((W.setCell ⟨g, 0, none⟩ (.slice p1 m c1)).setCell ⟨g, 1, none⟩ (.slice q1 n d1)) := by
  obtain ⟨h1, h2, h3, h4⟩ := h.hz g rfl
  have ho : OwnL w0.heap.size W p1 m c1 q1 n d1 L := ⟨h.ha, h.hc, h.sep, hm, hn⟩
  have hlo := ho.lc
  refine ⟨h1, set2_same h2 _ _, ?_, set2_below h.hb h1 _ _⟩
  have hx : Lo (fun R => S R ∨ R = g) W (.agg #[.slice p1 m c1, .slice q1 n d1]) L := by
    refine ⟨p1, m, c1, q1, n, d1, rfl, hlo, fun R hR => ?_⟩
    rcases hR with hR | rfl
    · exact ho.off (hS R hR)
    · exact ⟨fun _ a e e2 => h3 (by rw [e]; exact congrArg some e2), fun _ a e e2 => h4 (by rw [e]; exact congrArg some e2)⟩
  exact (hx.set2 (R := g) (.inr rfl) _ _).weak (fun R hR => .inl hR)
/-- The walk's state: the gate, the copy of it, and what is told. -/
structure Rw (w W : World) (S : Nat → Prop) (bm : Nat) (p : Option Addr) (m c : Nat) (q : Option Addr) (n d : Nat) (p1 : Option Addr) (c1 : Nat) (q1 : Option Addr) (d1 : Nat) (tc tv : Int) (L : Gt) : Prop where
  hl : Blk W w.heap.size #[.slice p m c, .slice q n d]
  hm : Blk W bm #[.slice p1 m c1, .slice q1 n d1]
  ht : Blk W (w.heap.size + 1) #[.int .i64 tc, .int .u32 tv]
  ll : Lo S W (.agg #[.slice p m c, .slice q n d]) L
  lm : Lo S W (.agg #[.slice p1 m c1, .slice q1 n d1]) L
  hb : Below w.heap.size w W
theorem Rw.below {w W : World} {S : Nat → Prop} {bm : Nat} {p : Option Addr} {m c : Nat} {q : Option Addr} {n d : Nat} {p1 : Option Addr} {c1 : Nat} {q1 : Option Addr} {d1 : Nat} {tc tv : Int} {L : Gt} {W' : World} (h : Rw w W S bm p m c q n d p1 c1 q1 d1 tc tv L) (hb : Below W.heap.size W W') : Rw w W' S bm p m c q n d p1 c1 q1 d1 tc tv L :=
  ⟨h.hl.below hb, h.hm.below hb, h.ht.below hb, h.ll.below hb, h.lm.below hb, h.hb.trans (hb.mono h.hb.size)⟩
theorem Rw.set2 {w W : World} {S : Nat → Prop} {bm : Nat} {p : Option Addr} {m c : Nat} {q : Option Addr} {n d : Nat} {p1 : Option Addr} {c1 : Nat} {q1 : Option Addr} {d1 : Nat} {tc tv : Int} {L : Gt} (h : Rw w W S bm p m c q n d p1 c1 q1 d1 tc tv L) {R : Nat} (hS : S R) (h1 : w.heap.size + 1 < R) (h2 : R ≠ bm) (u0 u1 : Value) : Rw w ((W.setCell ⟨R, 0, none⟩ u0).setCell ⟨R, 1, none⟩ u1) S bm p m c q n d p1 c1 q1 d1 tc tv L :=
  ⟨set2_other h.hl (by omega) _ _, set2_other h.hm h2 _ _, set2_other h.ht (by omega) _ _, h.ll.set2 hS _ _, h.lm.set2 hS _ _, set2_below h.hb (by omega) _ _⟩
theorem Rw.later {w W : World} {S : Nat → Prop} {bm : Nat} {p : Option Addr} {m c : Nat} {q : Option Addr} {n d : Nat} {p1 : Option Addr} {c1 : Nat} {q1 : Option Addr} {d1 : Nat} {tc tv : Int} {L : Gt} {S' : Nat → Prop} (h : Rw w W S bm p m c q n d p1 c1 q1 d1 tc tv L) (hs : ∀ R, S' R → S R ∨ W.heap.size ≤ R) : Rw w W S' bm p m c q n d p1 c1 q1 d1 tc tv L :=
  ⟨h.hl, h.hm, h.ht, h.ll.later hs, h.lm.later hs, h.hb⟩

set_option maxHeartbeats 16000000 in
set_option maxRecDepth 100000 in
theorem right_main (p : Option Addr) (m c : Nat) (q : Option Addr) (n d : Nat) (L : Gt) (t : Int) (T0 : Td) (w : World) (hL : LcX w p m c q n d L) :
    Calls Try.prog 3 #[.agg #[.slice p m c, .slice q n d], .int .i64 t, .agg #[.int .i64 T0.core, .int .u32 T0.val]] w fun e w' => e = .returned (.bool true) ∧ Below w.heap.size w w' := by
  obtain ⟨tc, tv⟩ := T0
  dsimp only
  have HL := Lib.hid hL
  clear hL
  obtain ⟨w0, hw0⟩ : ∃ z, z = (w.alloc (.cells #[.slice p m c, .slice q n d] 25)).alloc (.cells #[.int .i64 tc, .int .u32 tv] 28) := ⟨_, rfl⟩
  have HB0 : Hid (Below w.heap.size w w0) := Lib.hid (by rw [hw0]; exact ((Below.refl _ _).alloc (Nat.le_refl _) _).alloc (by simp) _)
  have HK0 : Hid (Blk w0 w.heap.size #[.slice p m c, .slice q n d]) := Lib.hid (by rw [hw0]; exact (Blk.new _ _ _).alloc _)
  have HT0 : Hid (Blk w0 (w.heap.size + 1) #[.int .i64 tc, .int .u32 tv]) := Lib.hid (by
    have := Blk.new (w.alloc (.cells #[.slice p m c, .slice q n d] 25)) #[.int .i64 tc, .int .u32 tv] 28
    rw [World.size_alloc] at this
    rw [hw0]; exact this)
  have HW0 := Lib.hid hw0
  clear hw0
  go_enter Try.func3, Try.ntmps3
  go_upto_region 1 with fail
  rw [← HW0.out]
  clear HW0
  go_wp2_with fail
  refine (awake_any w0).mono ?_
  rintro e w1 ⟨rfl, hb1⟩
  have HB1 : Hid (Below w.heap.size w w1) := Lib.hid (HB0.out.trans (hb1.mono HB0.out.size))
  have HK1 := Lib.hid (HK0.out.below hb1)
  have HT1 := Lib.hid (HT0.out.below hb1)
  clear hb1 HB0 HK0 HT0
  have kK := HK1.out.c
  go_upto_region 3 with fail
  by_cases g1 : 80 < m
  · have e1 : decide ((80 : Int) < (m : Int)) = true := decide_eq_true (by omega)
    have e1n : decide (80 < m) = true := decide_eq_true g1
    go_wp2_with fail
    go_ret
    exact ⟨rfl, HB1.out⟩
  have e1 : decide ((80 : Int) < (m : Int)) = false := decide_eq_false (by omega)
  have e1n : decide (80 < m) = false := decide_eq_false g1
  by_cases g2 : 100 < n
  · have e2 : decide ((100 : Int) < (n : Int)) = true := decide_eq_true (by omega)
    have e2n : decide (100 < n) = true := decide_eq_true g2
    go_wp2_with fail
    go_ret
    exact ⟨rfl, HB1.out⟩
  have e2 : decide ((100 : Int) < (n : Int)) = false := decide_eq_false (by omega)
  have e2n : decide (100 < n) = false := decide_eq_false g2
  have HC : Hid (Lc w1 p m c q n d L) := Lib.hid ((HL.out.lc (by omega) (by omega)).below HB1.out)
  have HML : Hid (L.held.length = m) := Lib.hid HC.out.ml
  have HLL : Hid (L.out.length = n) := Lib.hid HC.out.ll
  obtain ⟨i0, hi, hz0, hz1, hz2⟩ := info_parts infoH
  have HI := Lib.hid (And.intro hi (And.intro hz0 (And.intro hz1 hz2)))
  clear hi hz0 hz1 hz2
  obtain ⟨i1, hi, hz0, hz1, hz2⟩ := info_parts infoT
  have HJ := Lib.hid (And.intro hi (And.intro hz0 (And.intro hz1 hz2)))
  clear hi hz0 hz1 hz2
  have HS0 : Hid (∀ W, Below w1.heap.size w1 W → (∀ j, W.cell? ⟨w.heap.size, j, none⟩ = (#[.slice p m c, .slice q n d] : Array Value)[j]?) ∧ Below w1.heap.size w1 W) := Lib.hid (fun W hb => ⟨(HK1.out.below hb).c, hb⟩)
  go_upto_region 5 with fail
  clear e1 e2 e1n e2n kK
  have HBD : Hid (m ≤ 80 ∧ n ≤ 100) := Lib.hid ⟨by omega, by omega⟩
  go_cut [7] (fun s7 wd => ∃ bm p1 c1 q1 d1, s7 = .pointer (some ⟨bm, 0, none⟩) ∧ w1.heap.size ≤ bm ∧ Rw w wd (fun _ => False) bm p m c q n d p1 c1 q1 d1 tc tv L)
  case first =>
    refine region_plan3 (fun W : World => (∀ j, W.cell? ⟨w.heap.size, j, none⟩ = (#[.slice p m c, .slice q n d] : Array Value)[j]?) ∧ Below w1.heap.size w1 W) 10 (.read 1 (.read 2 (.read 5 (.read 6 (.three 0 4 9 (.three 3 4 9 (.two 4 9 (.two 7 9 (.read 8 (.one 9 .stop)) (.one 7 (.read 8 .stop))) (.one 4 (.one 7 (.read 8 .stop)))) (.two 3 9 (.two 7 9 (.read 8 (.one 9 .stop)) (.one 7 (.read 8 .stop))) (.one 3 (.one 7 (.read 8 .stop)))) (.two 3 4 (.one 4 (.one 7 (.read 8 .stop))) (.one 3 (.one 7 (.read 8 .stop))))) (.two 0 9 (.two 3 9 (.two 7 9 (.read 8 (.one 9 .stop)) (.one 7 (.read 8 .stop))) (.one 3 (.one 7 (.read 8 .stop)))) (.one 0 (.one 3 (.one 7 (.read 8 .stop))))) (.two 0 4 (.two 3 4 (.one 4 (.one 7 (.read 8 .stop))) (.one 3 (.one 7 (.read 8 .stop)))) (.one 0 (.one 3 (.one 7 (.read 8 .stop)))))))))) (by kernel_rfl) (by kernel_rfl) (HS0.out _ (Below.refl _ _).drew) ?_
    iterate 4
      refine plan3_read (v := ?_) rfl (by rfl) ?_ ?_
      rotate_left
      · intro w' hS
        try dsimp only at hS
        obtain ⟨hS1, hS2⟩ := hS
        go_simp
        try with_reducible rfl
      try simp only [Act.put, List.setIfInBounds_toArray, List.set_cons_zero, List.set_cons_succ, List.getElem_toArray, List.getElem_cons_zero, List.getElem_cons_succ]
    obtain ⟨wd0, hwd0⟩ : ∃ z, z = w1.drew := ⟨_, rfl⟩
    have HP := Lib.hid (P3.new w1)
    rw [← hwd0] at HP ⊢
    clear hwd0
    refine plan3_three ?_ ?_ ?_
    · as_aux_lemma =>
        obtain ⟨x1, hx1⟩ : ∃ z, z = wd0.alloc (.cells #[] 52) := ⟨_, rfl⟩
        have HP2 := Lib.hid HP.out.mkA
        rw [← hx1] at HP2
        clear HP
        refine op_make (v := .slice (some ⟨wd0.heap.size, 0, none⟩) 0 0) (w1 := x1) rfl (by rfl) (by rw [hx1]; go_simp) ⟨HS0.out _ HP2.out.hb, ?_⟩
        try simp only [Act.put, List.setIfInBounds_toArray, List.set_cons_zero, List.set_cons_succ, List.getElem_toArray, List.getElem_cons_zero, List.getElem_cons_succ]
        clear hx1
        have HP := HP2
        clear HP2
        refine plan3_three ?_ ?_ ?_
        · as_aux_lemma =>
            refine op_wp rfl (by rfl) ?_
            try simp only [List.getElem_toArray, List.getElem_cons_zero, List.getElem_cons_succ]
            refine (wp_append_sl _ _ 22 rfl w1.heap.size 52 i0 _ 3 24 Try.underlying22 HI.out.1 HI.out.2.1 HI.out.2.2.1 HI.out.2.2.2 rfl (by decide) _ 0 [] rfl HP.out.ha p m c (hdC L.held) rfl (by rw [hdC_len, HML.out]) (HC.out.ms.below HP.out.hb) (hdC_one _) (by unfold maxLen; omega) (by omega) HP.out.hb.size ?_)
            intro v5 x2 g1 g2 g3
            have hrr : x2.ownsRow w1.heap.size 52 3 v5 m (hdC L.held) := by simpa using g1
            have HP2 := Lib.hid (HP.out.growA hrr g2 g3)
            clear HP
            obtain ⟨p5, c5, rfl, _⟩ := own_cap hrr
            clear g1 g2 g3 hrr
            refine ⟨HS0.out _ HP2.out.hb, ?_⟩
            try simp only [Act.put, List.setIfInBounds_toArray, List.set_cons_zero, List.set_cons_succ, List.getElem_toArray, List.getElem_cons_zero, List.getElem_cons_succ]
            have HP := HP2
            clear HP2
            refine plan3_two ?_ ?_
            · as_aux_lemma =>
                obtain ⟨x3, hx3⟩ : ∃ z, z = x2.alloc (.cells #[] 28) := ⟨_, rfl⟩
                have HP2 := Lib.hid HP.out.mkB
                rw [← hx3] at HP2
                clear HP
                refine op_make (v := .slice (some ⟨x2.heap.size, 0, none⟩) 0 0) (w1 := x3) rfl (by rfl) (by rw [hx3]; go_simp) ⟨HS0.out _ HP2.out.hb, ?_⟩
                try simp only [Act.put, List.setIfInBounds_toArray, List.set_cons_zero, List.set_cons_succ, List.getElem_toArray, List.getElem_cons_zero, List.getElem_cons_succ]
                clear hx3
                have HP := HP2
                clear HP2
                refine plan3_two ?_ ?_
                · as_aux_lemma =>
                    refine op_wp rfl (by rfl) ?_
                    try simp only [List.getElem_toArray, List.getElem_cons_zero, List.getElem_cons_succ]
                    refine (wp_append_sl _ _ 23 rfl w1.heap.size 28 i1 _ 2 16 Try.underlying23 HJ.out.1 HJ.out.2.1 HJ.out.2.2.1 HJ.out.2.2.2 rfl (by decide) _ 0 [] rfl HP.out.hc q n d (tdC L.out) rfl (by rw [tdC_len, HLL.out]) (HC.out.ls.below HP.out.hb) (tdC_one _) (by unfold maxLen; omega) (by omega) HP.out.hb.size ?_)
                    intro v6 x4 g1 g2 g3
                    have hrr : x4.ownsRow w1.heap.size 28 2 v6 n (tdC L.out) := by simpa using g1
                    have HP2 := Lib.hid (HP.out.growB hrr g2 g3)
                    clear HP
                    obtain ⟨q5, d5, rfl, _⟩ := own_cap hrr
                    clear g1 g2 g3 hrr
                    refine ⟨HS0.out _ HP2.out.hb, ?_⟩
                    try simp only [Act.put, List.setIfInBounds_toArray, List.set_cons_zero, List.set_cons_succ, List.getElem_toArray, List.getElem_cons_zero, List.getElem_cons_succ]
                    have HP := HP2
                    clear HP2
                    refine plan3_read (v := .agg #[.slice p5 m c5, .slice q5 n d5]) rfl (by rfl) (by intro w' hS; go_simp) ?_
                    try simp only [Act.put, List.setIfInBounds_toArray, List.set_cons_zero, List.set_cons_succ, List.getElem_toArray, List.getElem_cons_zero, List.getElem_cons_succ]
                    refine plan3_one ?_
                    obtain ⟨x5, hx5⟩ : ∃ z, z = x4.alloc (.cells #[.slice none 0 0, .slice none 0 0] 25) := ⟨_, rfl⟩
                    have HP2 := Lib.hid HP.out.mkZ
                    rw [← hx5] at HP2
                    clear HP
                    refine op_make (v := .pointer (some ⟨x4.heap.size, 0, none⟩)) (w1 := x5) rfl (by rfl) (by rw [hx5]; go_simp) ⟨HS0.out _ HP2.out.hb, ?_⟩
                    try simp only [Act.put, List.setIfInBounds_toArray, List.set_cons_zero, List.set_cons_succ, List.getElem_toArray, List.getElem_cons_zero, List.getElem_cons_succ]
                    clear hx5
                    have HP := HP2
                    clear HP2
                    refine plan3_stop ?_
                    simp only [List.drop_succ_cons, List.drop_zero]
                    have HZ := Lib.hid (HP.out.hz _ rfl)
                    have HLO := Lib.hid (HP.out.lo (by omega) (by omega) (fun _ => False) (fun R h => h.elim))
                    have cZ := HZ.out.2.1.c
                    have fZ := HZ.out.2.1.f
                    have lZ := HZ.out.2.1.lt
                    clear HP
                    go_wp2_with fail
                    go_meet
                    case rel => exact ⟨_, _, _, _, _, rfl, HLO.out.1, HK1.out.below HLO.out.2.2.2, HLO.out.2.1, HT1.out.below HLO.out.2.2.2, Lo.below ⟨p, m, c, q, n, d, rfl, HC.out, fun _ h => h.elim⟩ HLO.out.2.2.2, HLO.out.2.2.1, HB1.out.trans (HLO.out.2.2.2.mono HB1.out.size)⟩
                · as_aux_lemma =>
                    obtain ⟨x6, hx6⟩ : ∃ z, z = x3.alloc (.cells #[.slice none 0 0, .slice none 0 0] 25) := ⟨_, rfl⟩
                    have HP2 := Lib.hid HP.out.mkZ
                    rw [← hx6] at HP2
                    clear HP
                    refine op_make (v := .pointer (some ⟨x3.heap.size, 0, none⟩)) (w1 := x6) rfl (by rfl) (by rw [hx6]; go_simp) ⟨HS0.out _ HP2.out.hb, ?_⟩
                    try simp only [Act.put, List.setIfInBounds_toArray, List.set_cons_zero, List.set_cons_succ, List.getElem_toArray, List.getElem_cons_zero, List.getElem_cons_succ]
                    clear hx6
                    have HP := HP2
                    clear HP2
                    refine plan3_one ?_
                    refine op_wp rfl (by rfl) ?_
                    try simp only [List.getElem_toArray, List.getElem_cons_zero, List.getElem_cons_succ]
                    refine (wp_append_sl _ _ 23 rfl w1.heap.size 28 i1 _ 2 16 Try.underlying23 HJ.out.1 HJ.out.2.1 HJ.out.2.2.1 HJ.out.2.2.2 rfl (by decide) _ 0 [] rfl HP.out.hc q n d (tdC L.out) rfl (by rw [tdC_len, HLL.out]) (HC.out.ls.below HP.out.hb) (tdC_one _) (by unfold maxLen; omega) (by omega) HP.out.hb.size ?_)
                    intro v6 x7 g1 g2 g3
                    have hrr : x7.ownsRow w1.heap.size 28 2 v6 n (tdC L.out) := by simpa using g1
                    have HP2 := Lib.hid (HP.out.growB hrr g2 g3)
                    clear HP
                    obtain ⟨q5, d5, rfl, _⟩ := own_cap hrr
                    clear g1 g2 g3 hrr
                    refine ⟨HS0.out _ HP2.out.hb, ?_⟩
                    try simp only [Act.put, List.setIfInBounds_toArray, List.set_cons_zero, List.set_cons_succ, List.getElem_toArray, List.getElem_cons_zero, List.getElem_cons_succ]
                    have HP := HP2
                    clear HP2
                    refine plan3_read (v := .agg #[.slice p5 m c5, .slice q5 n d5]) rfl (by rfl) (by intro w' hS; go_simp) ?_
                    try simp only [Act.put, List.setIfInBounds_toArray, List.set_cons_zero, List.set_cons_succ, List.getElem_toArray, List.getElem_cons_zero, List.getElem_cons_succ]
                    refine plan3_stop ?_
                    simp only [List.drop_succ_cons, List.drop_zero]
                    have HZ := Lib.hid (HP.out.hz _ rfl)
                    have HLO := Lib.hid (HP.out.lo (by omega) (by omega) (fun _ => False) (fun R h => h.elim))
                    have cZ := HZ.out.2.1.c
                    have fZ := HZ.out.2.1.f
                    have lZ := HZ.out.2.1.lt
                    clear HP
                    go_wp2_with fail
                    go_meet
                    case rel => exact ⟨_, _, _, _, _, rfl, HLO.out.1, HK1.out.below HLO.out.2.2.2, HLO.out.2.1, HT1.out.below HLO.out.2.2.2, Lo.below ⟨p, m, c, q, n, d, rfl, HC.out, fun _ h => h.elim⟩ HLO.out.2.2.2, HLO.out.2.2.1, HB1.out.trans (HLO.out.2.2.2.mono HB1.out.size)⟩
            · as_aux_lemma =>
                obtain ⟨x8, hx8⟩ : ∃ z, z = x2.alloc (.cells #[.slice none 0 0, .slice none 0 0] 25) := ⟨_, rfl⟩
                have HP2 := Lib.hid HP.out.mkZ
                rw [← hx8] at HP2
                clear HP
                refine op_make (v := .pointer (some ⟨x2.heap.size, 0, none⟩)) (w1 := x8) rfl (by rfl) (by rw [hx8]; go_simp) ⟨HS0.out _ HP2.out.hb, ?_⟩
                try simp only [Act.put, List.setIfInBounds_toArray, List.set_cons_zero, List.set_cons_succ, List.getElem_toArray, List.getElem_cons_zero, List.getElem_cons_succ]
                clear hx8
                have HP := HP2
                clear HP2
                refine plan3_one ?_
                obtain ⟨x9, hx9⟩ : ∃ z, z = x8.alloc (.cells #[] 28) := ⟨_, rfl⟩
                have HP2 := Lib.hid HP.out.mkB
                rw [← hx9] at HP2
                clear HP
                refine op_make (v := .slice (some ⟨x8.heap.size, 0, none⟩) 0 0) (w1 := x9) rfl (by rfl) (by rw [hx9]; go_simp) ⟨HS0.out _ HP2.out.hb, ?_⟩
                try simp only [Act.put, List.setIfInBounds_toArray, List.set_cons_zero, List.set_cons_succ, List.getElem_toArray, List.getElem_cons_zero, List.getElem_cons_succ]
                clear hx9
                have HP := HP2
                clear HP2
                refine plan3_one ?_
                refine op_wp rfl (by rfl) ?_
                try simp only [List.getElem_toArray, List.getElem_cons_zero, List.getElem_cons_succ]
                refine (wp_append_sl _ _ 23 rfl w1.heap.size 28 i1 _ 2 16 Try.underlying23 HJ.out.1 HJ.out.2.1 HJ.out.2.2.1 HJ.out.2.2.2 rfl (by decide) _ 0 [] rfl HP.out.hc q n d (tdC L.out) rfl (by rw [tdC_len, HLL.out]) (HC.out.ls.below HP.out.hb) (tdC_one _) (by unfold maxLen; omega) (by omega) HP.out.hb.size ?_)
                intro v6 x10 g1 g2 g3
                have hrr : x10.ownsRow w1.heap.size 28 2 v6 n (tdC L.out) := by simpa using g1
                have HP2 := Lib.hid (HP.out.growB hrr g2 g3)
                clear HP
                obtain ⟨q5, d5, rfl, _⟩ := own_cap hrr
                clear g1 g2 g3 hrr
                refine ⟨HS0.out _ HP2.out.hb, ?_⟩
                try simp only [Act.put, List.setIfInBounds_toArray, List.set_cons_zero, List.set_cons_succ, List.getElem_toArray, List.getElem_cons_zero, List.getElem_cons_succ]
                have HP := HP2
                clear HP2
                refine plan3_read (v := .agg #[.slice p5 m c5, .slice q5 n d5]) rfl (by rfl) (by intro w' hS; go_simp) ?_
                try simp only [Act.put, List.setIfInBounds_toArray, List.set_cons_zero, List.set_cons_succ, List.getElem_toArray, List.getElem_cons_zero, List.getElem_cons_succ]
                refine plan3_stop ?_
                simp only [List.drop_succ_cons, List.drop_zero]
                have HZ := Lib.hid (HP.out.hz _ rfl)
                have HLO := Lib.hid (HP.out.lo (by omega) (by omega) (fun _ => False) (fun R h => h.elim))
                have cZ := HZ.out.2.1.c
                have fZ := HZ.out.2.1.f
                have lZ := HZ.out.2.1.lt
                clear HP
                go_wp2_with fail
                go_meet
                case rel => exact ⟨_, _, _, _, _, rfl, HLO.out.1, HK1.out.below HLO.out.2.2.2, HLO.out.2.1, HT1.out.below HLO.out.2.2.2, Lo.below ⟨p, m, c, q, n, d, rfl, HC.out, fun _ h => h.elim⟩ HLO.out.2.2.2, HLO.out.2.2.1, HB1.out.trans (HLO.out.2.2.2.mono HB1.out.size)⟩
        · as_aux_lemma =>
            obtain ⟨x11, hx11⟩ : ∃ z, z = x1.alloc (.cells #[] 28) := ⟨_, rfl⟩
            have HP2 := Lib.hid HP.out.mkB
            rw [← hx11] at HP2
            clear HP
            refine op_make (v := .slice (some ⟨x1.heap.size, 0, none⟩) 0 0) (w1 := x11) rfl (by rfl) (by rw [hx11]; go_simp) ⟨HS0.out _ HP2.out.hb, ?_⟩
            try simp only [Act.put, List.setIfInBounds_toArray, List.set_cons_zero, List.set_cons_succ, List.getElem_toArray, List.getElem_cons_zero, List.getElem_cons_succ]
            clear hx11
            have HP := HP2
            clear HP2
            refine plan3_two ?_ ?_
            · as_aux_lemma =>
                refine op_wp rfl (by rfl) ?_
                try simp only [List.getElem_toArray, List.getElem_cons_zero, List.getElem_cons_succ]
                refine (wp_append_sl _ _ 22 rfl w1.heap.size 52 i0 _ 3 24 Try.underlying22 HI.out.1 HI.out.2.1 HI.out.2.2.1 HI.out.2.2.2 rfl (by decide) _ 0 [] rfl HP.out.ha p m c (hdC L.held) rfl (by rw [hdC_len, HML.out]) (HC.out.ms.below HP.out.hb) (hdC_one _) (by unfold maxLen; omega) (by omega) HP.out.hb.size ?_)
                intro v5 x12 g1 g2 g3
                have hrr : x12.ownsRow w1.heap.size 52 3 v5 m (hdC L.held) := by simpa using g1
                have HP2 := Lib.hid (HP.out.growA hrr g2 g3)
                clear HP
                obtain ⟨p5, c5, rfl, _⟩ := own_cap hrr
                clear g1 g2 g3 hrr
                refine ⟨HS0.out _ HP2.out.hb, ?_⟩
                try simp only [Act.put, List.setIfInBounds_toArray, List.set_cons_zero, List.set_cons_succ, List.getElem_toArray, List.getElem_cons_zero, List.getElem_cons_succ]
                have HP := HP2
                clear HP2
                refine plan3_two ?_ ?_
                · as_aux_lemma =>
                    refine op_wp rfl (by rfl) ?_
                    try simp only [List.getElem_toArray, List.getElem_cons_zero, List.getElem_cons_succ]
                    refine (wp_append_sl _ _ 23 rfl w1.heap.size 28 i1 _ 2 16 Try.underlying23 HJ.out.1 HJ.out.2.1 HJ.out.2.2.1 HJ.out.2.2.2 rfl (by decide) _ 0 [] rfl HP.out.hc q n d (tdC L.out) rfl (by rw [tdC_len, HLL.out]) (HC.out.ls.below HP.out.hb) (tdC_one _) (by unfold maxLen; omega) (by omega) HP.out.hb.size ?_)
                    intro v6 x13 g1 g2 g3
                    have hrr : x13.ownsRow w1.heap.size 28 2 v6 n (tdC L.out) := by simpa using g1
                    have HP2 := Lib.hid (HP.out.growB hrr g2 g3)
                    clear HP
                    obtain ⟨q5, d5, rfl, _⟩ := own_cap hrr
                    clear g1 g2 g3 hrr
                    refine ⟨HS0.out _ HP2.out.hb, ?_⟩
                    try simp only [Act.put, List.setIfInBounds_toArray, List.set_cons_zero, List.set_cons_succ, List.getElem_toArray, List.getElem_cons_zero, List.getElem_cons_succ]
                    have HP := HP2
                    clear HP2
                    refine plan3_read (v := .agg #[.slice p5 m c5, .slice q5 n d5]) rfl (by rfl) (by intro w' hS; go_simp) ?_
                    try simp only [Act.put, List.setIfInBounds_toArray, List.set_cons_zero, List.set_cons_succ, List.getElem_toArray, List.getElem_cons_zero, List.getElem_cons_succ]
                    refine plan3_one ?_
                    obtain ⟨x14, hx14⟩ : ∃ z, z = x13.alloc (.cells #[.slice none 0 0, .slice none 0 0] 25) := ⟨_, rfl⟩
                    have HP2 := Lib.hid HP.out.mkZ
                    rw [← hx14] at HP2
                    clear HP
                    refine op_make (v := .pointer (some ⟨x13.heap.size, 0, none⟩)) (w1 := x14) rfl (by rfl) (by rw [hx14]; go_simp) ⟨HS0.out _ HP2.out.hb, ?_⟩
                    try simp only [Act.put, List.setIfInBounds_toArray, List.set_cons_zero, List.set_cons_succ, List.getElem_toArray, List.getElem_cons_zero, List.getElem_cons_succ]
                    clear hx14
                    have HP := HP2
                    clear HP2
                    refine plan3_stop ?_
                    simp only [List.drop_succ_cons, List.drop_zero]
                    have HZ := Lib.hid (HP.out.hz _ rfl)
                    have HLO := Lib.hid (HP.out.lo (by omega) (by omega) (fun _ => False) (fun R h => h.elim))
                    have cZ := HZ.out.2.1.c
                    have fZ := HZ.out.2.1.f
                    have lZ := HZ.out.2.1.lt
                    clear HP
                    go_wp2_with fail
                    go_meet
                    case rel => exact ⟨_, _, _, _, _, rfl, HLO.out.1, HK1.out.below HLO.out.2.2.2, HLO.out.2.1, HT1.out.below HLO.out.2.2.2, Lo.below ⟨p, m, c, q, n, d, rfl, HC.out, fun _ h => h.elim⟩ HLO.out.2.2.2, HLO.out.2.2.1, HB1.out.trans (HLO.out.2.2.2.mono HB1.out.size)⟩
                · as_aux_lemma =>
                    obtain ⟨x15, hx15⟩ : ∃ z, z = x12.alloc (.cells #[.slice none 0 0, .slice none 0 0] 25) := ⟨_, rfl⟩
                    have HP2 := Lib.hid HP.out.mkZ
                    rw [← hx15] at HP2
                    clear HP
                    refine op_make (v := .pointer (some ⟨x12.heap.size, 0, none⟩)) (w1 := x15) rfl (by rfl) (by rw [hx15]; go_simp) ⟨HS0.out _ HP2.out.hb, ?_⟩
                    try simp only [Act.put, List.setIfInBounds_toArray, List.set_cons_zero, List.set_cons_succ, List.getElem_toArray, List.getElem_cons_zero, List.getElem_cons_succ]
                    clear hx15
                    have HP := HP2
                    clear HP2
                    refine plan3_one ?_
                    refine op_wp rfl (by rfl) ?_
                    try simp only [List.getElem_toArray, List.getElem_cons_zero, List.getElem_cons_succ]
                    refine (wp_append_sl _ _ 23 rfl w1.heap.size 28 i1 _ 2 16 Try.underlying23 HJ.out.1 HJ.out.2.1 HJ.out.2.2.1 HJ.out.2.2.2 rfl (by decide) _ 0 [] rfl HP.out.hc q n d (tdC L.out) rfl (by rw [tdC_len, HLL.out]) (HC.out.ls.below HP.out.hb) (tdC_one _) (by unfold maxLen; omega) (by omega) HP.out.hb.size ?_)
                    intro v6 x16 g1 g2 g3
                    have hrr : x16.ownsRow w1.heap.size 28 2 v6 n (tdC L.out) := by simpa using g1
                    have HP2 := Lib.hid (HP.out.growB hrr g2 g3)
                    clear HP
                    obtain ⟨q5, d5, rfl, _⟩ := own_cap hrr
                    clear g1 g2 g3 hrr
                    refine ⟨HS0.out _ HP2.out.hb, ?_⟩
                    try simp only [Act.put, List.setIfInBounds_toArray, List.set_cons_zero, List.set_cons_succ, List.getElem_toArray, List.getElem_cons_zero, List.getElem_cons_succ]
                    have HP := HP2
                    clear HP2
                    refine plan3_read (v := .agg #[.slice p5 m c5, .slice q5 n d5]) rfl (by rfl) (by intro w' hS; go_simp) ?_
                    try simp only [Act.put, List.setIfInBounds_toArray, List.set_cons_zero, List.set_cons_succ, List.getElem_toArray, List.getElem_cons_zero, List.getElem_cons_succ]
                    refine plan3_stop ?_
                    simp only [List.drop_succ_cons, List.drop_zero]
                    have HZ := Lib.hid (HP.out.hz _ rfl)
                    have HLO := Lib.hid (HP.out.lo (by omega) (by omega) (fun _ => False) (fun R h => h.elim))
                    have cZ := HZ.out.2.1.c
                    have fZ := HZ.out.2.1.f
                    have lZ := HZ.out.2.1.lt
                    clear HP
                    go_wp2_with fail
                    go_meet
                    case rel => exact ⟨_, _, _, _, _, rfl, HLO.out.1, HK1.out.below HLO.out.2.2.2, HLO.out.2.1, HT1.out.below HLO.out.2.2.2, Lo.below ⟨p, m, c, q, n, d, rfl, HC.out, fun _ h => h.elim⟩ HLO.out.2.2.2, HLO.out.2.2.1, HB1.out.trans (HLO.out.2.2.2.mono HB1.out.size)⟩
            · as_aux_lemma =>
                obtain ⟨x17, hx17⟩ : ∃ z, z = x11.alloc (.cells #[.slice none 0 0, .slice none 0 0] 25) := ⟨_, rfl⟩
                have HP2 := Lib.hid HP.out.mkZ
                rw [← hx17] at HP2
                clear HP
                refine op_make (v := .pointer (some ⟨x11.heap.size, 0, none⟩)) (w1 := x17) rfl (by rfl) (by rw [hx17]; go_simp) ⟨HS0.out _ HP2.out.hb, ?_⟩
                try simp only [Act.put, List.setIfInBounds_toArray, List.set_cons_zero, List.set_cons_succ, List.getElem_toArray, List.getElem_cons_zero, List.getElem_cons_succ]
                clear hx17
                have HP := HP2
                clear HP2
                refine plan3_one ?_
                refine op_wp rfl (by rfl) ?_
                try simp only [List.getElem_toArray, List.getElem_cons_zero, List.getElem_cons_succ]
                refine (wp_append_sl _ _ 22 rfl w1.heap.size 52 i0 _ 3 24 Try.underlying22 HI.out.1 HI.out.2.1 HI.out.2.2.1 HI.out.2.2.2 rfl (by decide) _ 0 [] rfl HP.out.ha p m c (hdC L.held) rfl (by rw [hdC_len, HML.out]) (HC.out.ms.below HP.out.hb) (hdC_one _) (by unfold maxLen; omega) (by omega) HP.out.hb.size ?_)
                intro v5 x18 g1 g2 g3
                have hrr : x18.ownsRow w1.heap.size 52 3 v5 m (hdC L.held) := by simpa using g1
                have HP2 := Lib.hid (HP.out.growA hrr g2 g3)
                clear HP
                obtain ⟨p5, c5, rfl, _⟩ := own_cap hrr
                clear g1 g2 g3 hrr
                refine ⟨HS0.out _ HP2.out.hb, ?_⟩
                try simp only [Act.put, List.setIfInBounds_toArray, List.set_cons_zero, List.set_cons_succ, List.getElem_toArray, List.getElem_cons_zero, List.getElem_cons_succ]
                have HP := HP2
                clear HP2
                refine plan3_one ?_
                refine op_wp rfl (by rfl) ?_
                try simp only [List.getElem_toArray, List.getElem_cons_zero, List.getElem_cons_succ]
                refine (wp_append_sl _ _ 23 rfl w1.heap.size 28 i1 _ 2 16 Try.underlying23 HJ.out.1 HJ.out.2.1 HJ.out.2.2.1 HJ.out.2.2.2 rfl (by decide) _ 0 [] rfl HP.out.hc q n d (tdC L.out) rfl (by rw [tdC_len, HLL.out]) (HC.out.ls.below HP.out.hb) (tdC_one _) (by unfold maxLen; omega) (by omega) HP.out.hb.size ?_)
                intro v6 x19 g1 g2 g3
                have hrr : x19.ownsRow w1.heap.size 28 2 v6 n (tdC L.out) := by simpa using g1
                have HP2 := Lib.hid (HP.out.growB hrr g2 g3)
                clear HP
                obtain ⟨q5, d5, rfl, _⟩ := own_cap hrr
                clear g1 g2 g3 hrr
                refine ⟨HS0.out _ HP2.out.hb, ?_⟩
                try simp only [Act.put, List.setIfInBounds_toArray, List.set_cons_zero, List.set_cons_succ, List.getElem_toArray, List.getElem_cons_zero, List.getElem_cons_succ]
                have HP := HP2
                clear HP2
                refine plan3_read (v := .agg #[.slice p5 m c5, .slice q5 n d5]) rfl (by rfl) (by intro w' hS; go_simp) ?_
                try simp only [Act.put, List.setIfInBounds_toArray, List.set_cons_zero, List.set_cons_succ, List.getElem_toArray, List.getElem_cons_zero, List.getElem_cons_succ]
                refine plan3_stop ?_
                simp only [List.drop_succ_cons, List.drop_zero]
                have HZ := Lib.hid (HP.out.hz _ rfl)
                have HLO := Lib.hid (HP.out.lo (by omega) (by omega) (fun _ => False) (fun R h => h.elim))
                have cZ := HZ.out.2.1.c
                have fZ := HZ.out.2.1.f
                have lZ := HZ.out.2.1.lt
                clear HP
                go_wp2_with fail
                go_meet
                case rel => exact ⟨_, _, _, _, _, rfl, HLO.out.1, HK1.out.below HLO.out.2.2.2, HLO.out.2.1, HT1.out.below HLO.out.2.2.2, Lo.below ⟨p, m, c, q, n, d, rfl, HC.out, fun _ h => h.elim⟩ HLO.out.2.2.2, HLO.out.2.2.1, HB1.out.trans (HLO.out.2.2.2.mono HB1.out.size)⟩
        · as_aux_lemma =>
            obtain ⟨x20, hx20⟩ : ∃ z, z = x1.alloc (.cells #[.slice none 0 0, .slice none 0 0] 25) := ⟨_, rfl⟩
            have HP2 := Lib.hid HP.out.mkZ
            rw [← hx20] at HP2
            clear HP
            refine op_make (v := .pointer (some ⟨x1.heap.size, 0, none⟩)) (w1 := x20) rfl (by rfl) (by rw [hx20]; go_simp) ⟨HS0.out _ HP2.out.hb, ?_⟩
            try simp only [Act.put, List.setIfInBounds_toArray, List.set_cons_zero, List.set_cons_succ, List.getElem_toArray, List.getElem_cons_zero, List.getElem_cons_succ]
            clear hx20
            have HP := HP2
            clear HP2
            refine plan3_two ?_ ?_
            · as_aux_lemma =>
                refine op_wp rfl (by rfl) ?_
                try simp only [List.getElem_toArray, List.getElem_cons_zero, List.getElem_cons_succ]
                refine (wp_append_sl _ _ 22 rfl w1.heap.size 52 i0 _ 3 24 Try.underlying22 HI.out.1 HI.out.2.1 HI.out.2.2.1 HI.out.2.2.2 rfl (by decide) _ 0 [] rfl HP.out.ha p m c (hdC L.held) rfl (by rw [hdC_len, HML.out]) (HC.out.ms.below HP.out.hb) (hdC_one _) (by unfold maxLen; omega) (by omega) HP.out.hb.size ?_)
                intro v5 x21 g1 g2 g3
                have hrr : x21.ownsRow w1.heap.size 52 3 v5 m (hdC L.held) := by simpa using g1
                have HP2 := Lib.hid (HP.out.growA hrr g2 g3)
                clear HP
                obtain ⟨p5, c5, rfl, _⟩ := own_cap hrr
                clear g1 g2 g3 hrr
                refine ⟨HS0.out _ HP2.out.hb, ?_⟩
                try simp only [Act.put, List.setIfInBounds_toArray, List.set_cons_zero, List.set_cons_succ, List.getElem_toArray, List.getElem_cons_zero, List.getElem_cons_succ]
                have HP := HP2
                clear HP2
                refine plan3_one ?_
                obtain ⟨x22, hx22⟩ : ∃ z, z = x21.alloc (.cells #[] 28) := ⟨_, rfl⟩
                have HP2 := Lib.hid HP.out.mkB
                rw [← hx22] at HP2
                clear HP
                refine op_make (v := .slice (some ⟨x21.heap.size, 0, none⟩) 0 0) (w1 := x22) rfl (by rfl) (by rw [hx22]; go_simp) ⟨HS0.out _ HP2.out.hb, ?_⟩
                try simp only [Act.put, List.setIfInBounds_toArray, List.set_cons_zero, List.set_cons_succ, List.getElem_toArray, List.getElem_cons_zero, List.getElem_cons_succ]
                clear hx22
                have HP := HP2
                clear HP2
                refine plan3_one ?_
                refine op_wp rfl (by rfl) ?_
                try simp only [List.getElem_toArray, List.getElem_cons_zero, List.getElem_cons_succ]
                refine (wp_append_sl _ _ 23 rfl w1.heap.size 28 i1 _ 2 16 Try.underlying23 HJ.out.1 HJ.out.2.1 HJ.out.2.2.1 HJ.out.2.2.2 rfl (by decide) _ 0 [] rfl HP.out.hc q n d (tdC L.out) rfl (by rw [tdC_len, HLL.out]) (HC.out.ls.below HP.out.hb) (tdC_one _) (by unfold maxLen; omega) (by omega) HP.out.hb.size ?_)
                intro v6 x23 g1 g2 g3
                have hrr : x23.ownsRow w1.heap.size 28 2 v6 n (tdC L.out) := by simpa using g1
                have HP2 := Lib.hid (HP.out.growB hrr g2 g3)
                clear HP
                obtain ⟨q5, d5, rfl, _⟩ := own_cap hrr
                clear g1 g2 g3 hrr
                refine ⟨HS0.out _ HP2.out.hb, ?_⟩
                try simp only [Act.put, List.setIfInBounds_toArray, List.set_cons_zero, List.set_cons_succ, List.getElem_toArray, List.getElem_cons_zero, List.getElem_cons_succ]
                have HP := HP2
                clear HP2
                refine plan3_read (v := .agg #[.slice p5 m c5, .slice q5 n d5]) rfl (by rfl) (by intro w' hS; go_simp) ?_
                try simp only [Act.put, List.setIfInBounds_toArray, List.set_cons_zero, List.set_cons_succ, List.getElem_toArray, List.getElem_cons_zero, List.getElem_cons_succ]
                refine plan3_stop ?_
                simp only [List.drop_succ_cons, List.drop_zero]
                have HZ := Lib.hid (HP.out.hz _ rfl)
                have HLO := Lib.hid (HP.out.lo (by omega) (by omega) (fun _ => False) (fun R h => h.elim))
                have cZ := HZ.out.2.1.c
                have fZ := HZ.out.2.1.f
                have lZ := HZ.out.2.1.lt
                clear HP
                go_wp2_with fail
                go_meet
                case rel => exact ⟨_, _, _, _, _, rfl, HLO.out.1, HK1.out.below HLO.out.2.2.2, HLO.out.2.1, HT1.out.below HLO.out.2.2.2, Lo.below ⟨p, m, c, q, n, d, rfl, HC.out, fun _ h => h.elim⟩ HLO.out.2.2.2, HLO.out.2.2.1, HB1.out.trans (HLO.out.2.2.2.mono HB1.out.size)⟩
            · as_aux_lemma =>
                obtain ⟨x24, hx24⟩ : ∃ z, z = x20.alloc (.cells #[] 28) := ⟨_, rfl⟩
                have HP2 := Lib.hid HP.out.mkB
                rw [← hx24] at HP2
                clear HP
                refine op_make (v := .slice (some ⟨x20.heap.size, 0, none⟩) 0 0) (w1 := x24) rfl (by rfl) (by rw [hx24]; go_simp) ⟨HS0.out _ HP2.out.hb, ?_⟩
                try simp only [Act.put, List.setIfInBounds_toArray, List.set_cons_zero, List.set_cons_succ, List.getElem_toArray, List.getElem_cons_zero, List.getElem_cons_succ]
                clear hx24
                have HP := HP2
                clear HP2
                refine plan3_one ?_
                refine op_wp rfl (by rfl) ?_
                try simp only [List.getElem_toArray, List.getElem_cons_zero, List.getElem_cons_succ]
                refine (wp_append_sl _ _ 22 rfl w1.heap.size 52 i0 _ 3 24 Try.underlying22 HI.out.1 HI.out.2.1 HI.out.2.2.1 HI.out.2.2.2 rfl (by decide) _ 0 [] rfl HP.out.ha p m c (hdC L.held) rfl (by rw [hdC_len, HML.out]) (HC.out.ms.below HP.out.hb) (hdC_one _) (by unfold maxLen; omega) (by omega) HP.out.hb.size ?_)
                intro v5 x25 g1 g2 g3
                have hrr : x25.ownsRow w1.heap.size 52 3 v5 m (hdC L.held) := by simpa using g1
                have HP2 := Lib.hid (HP.out.growA hrr g2 g3)
                clear HP
                obtain ⟨p5, c5, rfl, _⟩ := own_cap hrr
                clear g1 g2 g3 hrr
                refine ⟨HS0.out _ HP2.out.hb, ?_⟩
                try simp only [Act.put, List.setIfInBounds_toArray, List.set_cons_zero, List.set_cons_succ, List.getElem_toArray, List.getElem_cons_zero, List.getElem_cons_succ]
                have HP := HP2
                clear HP2
                refine plan3_one ?_
                refine op_wp rfl (by rfl) ?_
                try simp only [List.getElem_toArray, List.getElem_cons_zero, List.getElem_cons_succ]
                refine (wp_append_sl _ _ 23 rfl w1.heap.size 28 i1 _ 2 16 Try.underlying23 HJ.out.1 HJ.out.2.1 HJ.out.2.2.1 HJ.out.2.2.2 rfl (by decide) _ 0 [] rfl HP.out.hc q n d (tdC L.out) rfl (by rw [tdC_len, HLL.out]) (HC.out.ls.below HP.out.hb) (tdC_one _) (by unfold maxLen; omega) (by omega) HP.out.hb.size ?_)
                intro v6 x26 g1 g2 g3
                have hrr : x26.ownsRow w1.heap.size 28 2 v6 n (tdC L.out) := by simpa using g1
                have HP2 := Lib.hid (HP.out.growB hrr g2 g3)
                clear HP
                obtain ⟨q5, d5, rfl, _⟩ := own_cap hrr
                clear g1 g2 g3 hrr
                refine ⟨HS0.out _ HP2.out.hb, ?_⟩
                try simp only [Act.put, List.setIfInBounds_toArray, List.set_cons_zero, List.set_cons_succ, List.getElem_toArray, List.getElem_cons_zero, List.getElem_cons_succ]
                have HP := HP2
                clear HP2
                refine plan3_read (v := .agg #[.slice p5 m c5, .slice q5 n d5]) rfl (by rfl) (by intro w' hS; go_simp) ?_
                try simp only [Act.put, List.setIfInBounds_toArray, List.set_cons_zero, List.set_cons_succ, List.getElem_toArray, List.getElem_cons_zero, List.getElem_cons_succ]
                refine plan3_stop ?_
                simp only [List.drop_succ_cons, List.drop_zero]
                have HZ := Lib.hid (HP.out.hz _ rfl)
                have HLO := Lib.hid (HP.out.lo (by omega) (by omega) (fun _ => False) (fun R h => h.elim))
                have cZ := HZ.out.2.1.c
                have fZ := HZ.out.2.1.f
                have lZ := HZ.out.2.1.lt
                clear HP
                go_wp2_with fail
                go_meet
                case rel => exact ⟨_, _, _, _, _, rfl, HLO.out.1, HK1.out.below HLO.out.2.2.2, HLO.out.2.1, HT1.out.below HLO.out.2.2.2, Lo.below ⟨p, m, c, q, n, d, rfl, HC.out, fun _ h => h.elim⟩ HLO.out.2.2.2, HLO.out.2.2.1, HB1.out.trans (HLO.out.2.2.2.mono HB1.out.size)⟩
    · as_aux_lemma =>
        obtain ⟨x27, hx27⟩ : ∃ z, z = wd0.alloc (.cells #[] 28) := ⟨_, rfl⟩
        have HP2 := Lib.hid HP.out.mkB
        rw [← hx27] at HP2
        clear HP
        refine op_make (v := .slice (some ⟨wd0.heap.size, 0, none⟩) 0 0) (w1 := x27) rfl (by rfl) (by rw [hx27]; go_simp) ⟨HS0.out _ HP2.out.hb, ?_⟩
        try simp only [Act.put, List.setIfInBounds_toArray, List.set_cons_zero, List.set_cons_succ, List.getElem_toArray, List.getElem_cons_zero, List.getElem_cons_succ]
        clear hx27
        have HP := HP2
        clear HP2
        refine plan3_two ?_ ?_
        · as_aux_lemma =>
            obtain ⟨x28, hx28⟩ : ∃ z, z = x27.alloc (.cells #[] 52) := ⟨_, rfl⟩
            have HP2 := Lib.hid HP.out.mkA
            rw [← hx28] at HP2
            clear HP
            refine op_make (v := .slice (some ⟨x27.heap.size, 0, none⟩) 0 0) (w1 := x28) rfl (by rfl) (by rw [hx28]; go_simp) ⟨HS0.out _ HP2.out.hb, ?_⟩
            try simp only [Act.put, List.setIfInBounds_toArray, List.set_cons_zero, List.set_cons_succ, List.getElem_toArray, List.getElem_cons_zero, List.getElem_cons_succ]
            clear hx28
            have HP := HP2
            clear HP2
            refine plan3_two ?_ ?_
            · as_aux_lemma =>
                refine op_wp rfl (by rfl) ?_
                try simp only [List.getElem_toArray, List.getElem_cons_zero, List.getElem_cons_succ]
                refine (wp_append_sl _ _ 22 rfl w1.heap.size 52 i0 _ 3 24 Try.underlying22 HI.out.1 HI.out.2.1 HI.out.2.2.1 HI.out.2.2.2 rfl (by decide) _ 0 [] rfl HP.out.ha p m c (hdC L.held) rfl (by rw [hdC_len, HML.out]) (HC.out.ms.below HP.out.hb) (hdC_one _) (by unfold maxLen; omega) (by omega) HP.out.hb.size ?_)
                intro v5 x29 g1 g2 g3
                have hrr : x29.ownsRow w1.heap.size 52 3 v5 m (hdC L.held) := by simpa using g1
                have HP2 := Lib.hid (HP.out.growA hrr g2 g3)
                clear HP
                obtain ⟨p5, c5, rfl, _⟩ := own_cap hrr
                clear g1 g2 g3 hrr
                refine ⟨HS0.out _ HP2.out.hb, ?_⟩
                try simp only [Act.put, List.setIfInBounds_toArray, List.set_cons_zero, List.set_cons_succ, List.getElem_toArray, List.getElem_cons_zero, List.getElem_cons_succ]
                have HP := HP2
                clear HP2
                refine plan3_two ?_ ?_
                · as_aux_lemma =>
                    refine op_wp rfl (by rfl) ?_
                    try simp only [List.getElem_toArray, List.getElem_cons_zero, List.getElem_cons_succ]
                    refine (wp_append_sl _ _ 23 rfl w1.heap.size 28 i1 _ 2 16 Try.underlying23 HJ.out.1 HJ.out.2.1 HJ.out.2.2.1 HJ.out.2.2.2 rfl (by decide) _ 0 [] rfl HP.out.hc q n d (tdC L.out) rfl (by rw [tdC_len, HLL.out]) (HC.out.ls.below HP.out.hb) (tdC_one _) (by unfold maxLen; omega) (by omega) HP.out.hb.size ?_)
                    intro v6 x30 g1 g2 g3
                    have hrr : x30.ownsRow w1.heap.size 28 2 v6 n (tdC L.out) := by simpa using g1
                    have HP2 := Lib.hid (HP.out.growB hrr g2 g3)
                    clear HP
                    obtain ⟨q5, d5, rfl, _⟩ := own_cap hrr
                    clear g1 g2 g3 hrr
                    refine ⟨HS0.out _ HP2.out.hb, ?_⟩
                    try simp only [Act.put, List.setIfInBounds_toArray, List.set_cons_zero, List.set_cons_succ, List.getElem_toArray, List.getElem_cons_zero, List.getElem_cons_succ]
                    have HP := HP2
                    clear HP2
                    refine plan3_read (v := .agg #[.slice p5 m c5, .slice q5 n d5]) rfl (by rfl) (by intro w' hS; go_simp) ?_
                    try simp only [Act.put, List.setIfInBounds_toArray, List.set_cons_zero, List.set_cons_succ, List.getElem_toArray, List.getElem_cons_zero, List.getElem_cons_succ]
                    refine plan3_one ?_
                    obtain ⟨x31, hx31⟩ : ∃ z, z = x30.alloc (.cells #[.slice none 0 0, .slice none 0 0] 25) := ⟨_, rfl⟩
                    have HP2 := Lib.hid HP.out.mkZ
                    rw [← hx31] at HP2
                    clear HP
                    refine op_make (v := .pointer (some ⟨x30.heap.size, 0, none⟩)) (w1 := x31) rfl (by rfl) (by rw [hx31]; go_simp) ⟨HS0.out _ HP2.out.hb, ?_⟩
                    try simp only [Act.put, List.setIfInBounds_toArray, List.set_cons_zero, List.set_cons_succ, List.getElem_toArray, List.getElem_cons_zero, List.getElem_cons_succ]
                    clear hx31
                    have HP := HP2
                    clear HP2
                    refine plan3_stop ?_
                    simp only [List.drop_succ_cons, List.drop_zero]
                    have HZ := Lib.hid (HP.out.hz _ rfl)
                    have HLO := Lib.hid (HP.out.lo (by omega) (by omega) (fun _ => False) (fun R h => h.elim))
                    have cZ := HZ.out.2.1.c
                    have fZ := HZ.out.2.1.f
                    have lZ := HZ.out.2.1.lt
                    clear HP
                    go_wp2_with fail
                    go_meet
                    case rel => exact ⟨_, _, _, _, _, rfl, HLO.out.1, HK1.out.below HLO.out.2.2.2, HLO.out.2.1, HT1.out.below HLO.out.2.2.2, Lo.below ⟨p, m, c, q, n, d, rfl, HC.out, fun _ h => h.elim⟩ HLO.out.2.2.2, HLO.out.2.2.1, HB1.out.trans (HLO.out.2.2.2.mono HB1.out.size)⟩
                · as_aux_lemma =>
                    obtain ⟨x32, hx32⟩ : ∃ z, z = x29.alloc (.cells #[.slice none 0 0, .slice none 0 0] 25) := ⟨_, rfl⟩
                    have HP2 := Lib.hid HP.out.mkZ
                    rw [← hx32] at HP2
                    clear HP
                    refine op_make (v := .pointer (some ⟨x29.heap.size, 0, none⟩)) (w1 := x32) rfl (by rfl) (by rw [hx32]; go_simp) ⟨HS0.out _ HP2.out.hb, ?_⟩
                    try simp only [Act.put, List.setIfInBounds_toArray, List.set_cons_zero, List.set_cons_succ, List.getElem_toArray, List.getElem_cons_zero, List.getElem_cons_succ]
                    clear hx32
                    have HP := HP2
                    clear HP2
                    refine plan3_one ?_
                    refine op_wp rfl (by rfl) ?_
                    try simp only [List.getElem_toArray, List.getElem_cons_zero, List.getElem_cons_succ]
                    refine (wp_append_sl _ _ 23 rfl w1.heap.size 28 i1 _ 2 16 Try.underlying23 HJ.out.1 HJ.out.2.1 HJ.out.2.2.1 HJ.out.2.2.2 rfl (by decide) _ 0 [] rfl HP.out.hc q n d (tdC L.out) rfl (by rw [tdC_len, HLL.out]) (HC.out.ls.below HP.out.hb) (tdC_one _) (by unfold maxLen; omega) (by omega) HP.out.hb.size ?_)
                    intro v6 x33 g1 g2 g3
                    have hrr : x33.ownsRow w1.heap.size 28 2 v6 n (tdC L.out) := by simpa using g1
                    have HP2 := Lib.hid (HP.out.growB hrr g2 g3)
                    clear HP
                    obtain ⟨q5, d5, rfl, _⟩ := own_cap hrr
                    clear g1 g2 g3 hrr
                    refine ⟨HS0.out _ HP2.out.hb, ?_⟩
                    try simp only [Act.put, List.setIfInBounds_toArray, List.set_cons_zero, List.set_cons_succ, List.getElem_toArray, List.getElem_cons_zero, List.getElem_cons_succ]
                    have HP := HP2
                    clear HP2
                    refine plan3_read (v := .agg #[.slice p5 m c5, .slice q5 n d5]) rfl (by rfl) (by intro w' hS; go_simp) ?_
                    try simp only [Act.put, List.setIfInBounds_toArray, List.set_cons_zero, List.set_cons_succ, List.getElem_toArray, List.getElem_cons_zero, List.getElem_cons_succ]
                    refine plan3_stop ?_
                    simp only [List.drop_succ_cons, List.drop_zero]
                    have HZ := Lib.hid (HP.out.hz _ rfl)
                    have HLO := Lib.hid (HP.out.lo (by omega) (by omega) (fun _ => False) (fun R h => h.elim))
                    have cZ := HZ.out.2.1.c
                    have fZ := HZ.out.2.1.f
                    have lZ := HZ.out.2.1.lt
                    clear HP
                    go_wp2_with fail
                    go_meet
                    case rel => exact ⟨_, _, _, _, _, rfl, HLO.out.1, HK1.out.below HLO.out.2.2.2, HLO.out.2.1, HT1.out.below HLO.out.2.2.2, Lo.below ⟨p, m, c, q, n, d, rfl, HC.out, fun _ h => h.elim⟩ HLO.out.2.2.2, HLO.out.2.2.1, HB1.out.trans (HLO.out.2.2.2.mono HB1.out.size)⟩
            · as_aux_lemma =>
                obtain ⟨x34, hx34⟩ : ∃ z, z = x28.alloc (.cells #[.slice none 0 0, .slice none 0 0] 25) := ⟨_, rfl⟩
                have HP2 := Lib.hid HP.out.mkZ
                rw [← hx34] at HP2
                clear HP
                refine op_make (v := .pointer (some ⟨x28.heap.size, 0, none⟩)) (w1 := x34) rfl (by rfl) (by rw [hx34]; go_simp) ⟨HS0.out _ HP2.out.hb, ?_⟩
                try simp only [Act.put, List.setIfInBounds_toArray, List.set_cons_zero, List.set_cons_succ, List.getElem_toArray, List.getElem_cons_zero, List.getElem_cons_succ]
                clear hx34
                have HP := HP2
                clear HP2
                refine plan3_one ?_
                refine op_wp rfl (by rfl) ?_
                try simp only [List.getElem_toArray, List.getElem_cons_zero, List.getElem_cons_succ]
                refine (wp_append_sl _ _ 22 rfl w1.heap.size 52 i0 _ 3 24 Try.underlying22 HI.out.1 HI.out.2.1 HI.out.2.2.1 HI.out.2.2.2 rfl (by decide) _ 0 [] rfl HP.out.ha p m c (hdC L.held) rfl (by rw [hdC_len, HML.out]) (HC.out.ms.below HP.out.hb) (hdC_one _) (by unfold maxLen; omega) (by omega) HP.out.hb.size ?_)
                intro v5 x35 g1 g2 g3
                have hrr : x35.ownsRow w1.heap.size 52 3 v5 m (hdC L.held) := by simpa using g1
                have HP2 := Lib.hid (HP.out.growA hrr g2 g3)
                clear HP
                obtain ⟨p5, c5, rfl, _⟩ := own_cap hrr
                clear g1 g2 g3 hrr
                refine ⟨HS0.out _ HP2.out.hb, ?_⟩
                try simp only [Act.put, List.setIfInBounds_toArray, List.set_cons_zero, List.set_cons_succ, List.getElem_toArray, List.getElem_cons_zero, List.getElem_cons_succ]
                have HP := HP2
                clear HP2
                refine plan3_one ?_
                refine op_wp rfl (by rfl) ?_
                try simp only [List.getElem_toArray, List.getElem_cons_zero, List.getElem_cons_succ]
                refine (wp_append_sl _ _ 23 rfl w1.heap.size 28 i1 _ 2 16 Try.underlying23 HJ.out.1 HJ.out.2.1 HJ.out.2.2.1 HJ.out.2.2.2 rfl (by decide) _ 0 [] rfl HP.out.hc q n d (tdC L.out) rfl (by rw [tdC_len, HLL.out]) (HC.out.ls.below HP.out.hb) (tdC_one _) (by unfold maxLen; omega) (by omega) HP.out.hb.size ?_)
                intro v6 x36 g1 g2 g3
                have hrr : x36.ownsRow w1.heap.size 28 2 v6 n (tdC L.out) := by simpa using g1
                have HP2 := Lib.hid (HP.out.growB hrr g2 g3)
                clear HP
                obtain ⟨q5, d5, rfl, _⟩ := own_cap hrr
                clear g1 g2 g3 hrr
                refine ⟨HS0.out _ HP2.out.hb, ?_⟩
                try simp only [Act.put, List.setIfInBounds_toArray, List.set_cons_zero, List.set_cons_succ, List.getElem_toArray, List.getElem_cons_zero, List.getElem_cons_succ]
                have HP := HP2
                clear HP2
                refine plan3_read (v := .agg #[.slice p5 m c5, .slice q5 n d5]) rfl (by rfl) (by intro w' hS; go_simp) ?_
                try simp only [Act.put, List.setIfInBounds_toArray, List.set_cons_zero, List.set_cons_succ, List.getElem_toArray, List.getElem_cons_zero, List.getElem_cons_succ]
                refine plan3_stop ?_
                simp only [List.drop_succ_cons, List.drop_zero]
                have HZ := Lib.hid (HP.out.hz _ rfl)
                have HLO := Lib.hid (HP.out.lo (by omega) (by omega) (fun _ => False) (fun R h => h.elim))
                have cZ := HZ.out.2.1.c
                have fZ := HZ.out.2.1.f
                have lZ := HZ.out.2.1.lt
                clear HP
                go_wp2_with fail
                go_meet
                case rel => exact ⟨_, _, _, _, _, rfl, HLO.out.1, HK1.out.below HLO.out.2.2.2, HLO.out.2.1, HT1.out.below HLO.out.2.2.2, Lo.below ⟨p, m, c, q, n, d, rfl, HC.out, fun _ h => h.elim⟩ HLO.out.2.2.2, HLO.out.2.2.1, HB1.out.trans (HLO.out.2.2.2.mono HB1.out.size)⟩
        · as_aux_lemma =>
            obtain ⟨x37, hx37⟩ : ∃ z, z = x27.alloc (.cells #[.slice none 0 0, .slice none 0 0] 25) := ⟨_, rfl⟩
            have HP2 := Lib.hid HP.out.mkZ
            rw [← hx37] at HP2
            clear HP
            refine op_make (v := .pointer (some ⟨x27.heap.size, 0, none⟩)) (w1 := x37) rfl (by rfl) (by rw [hx37]; go_simp) ⟨HS0.out _ HP2.out.hb, ?_⟩
            try simp only [Act.put, List.setIfInBounds_toArray, List.set_cons_zero, List.set_cons_succ, List.getElem_toArray, List.getElem_cons_zero, List.getElem_cons_succ]
            clear hx37
            have HP := HP2
            clear HP2
            refine plan3_one ?_
            obtain ⟨x38, hx38⟩ : ∃ z, z = x37.alloc (.cells #[] 52) := ⟨_, rfl⟩
            have HP2 := Lib.hid HP.out.mkA
            rw [← hx38] at HP2
            clear HP
            refine op_make (v := .slice (some ⟨x37.heap.size, 0, none⟩) 0 0) (w1 := x38) rfl (by rfl) (by rw [hx38]; go_simp) ⟨HS0.out _ HP2.out.hb, ?_⟩
            try simp only [Act.put, List.setIfInBounds_toArray, List.set_cons_zero, List.set_cons_succ, List.getElem_toArray, List.getElem_cons_zero, List.getElem_cons_succ]
            clear hx38
            have HP := HP2
            clear HP2
            refine plan3_one ?_
            refine op_wp rfl (by rfl) ?_
            try simp only [List.getElem_toArray, List.getElem_cons_zero, List.getElem_cons_succ]
            refine (wp_append_sl _ _ 22 rfl w1.heap.size 52 i0 _ 3 24 Try.underlying22 HI.out.1 HI.out.2.1 HI.out.2.2.1 HI.out.2.2.2 rfl (by decide) _ 0 [] rfl HP.out.ha p m c (hdC L.held) rfl (by rw [hdC_len, HML.out]) (HC.out.ms.below HP.out.hb) (hdC_one _) (by unfold maxLen; omega) (by omega) HP.out.hb.size ?_)
            intro v5 x39 g1 g2 g3
            have hrr : x39.ownsRow w1.heap.size 52 3 v5 m (hdC L.held) := by simpa using g1
            have HP2 := Lib.hid (HP.out.growA hrr g2 g3)
            clear HP
            obtain ⟨p5, c5, rfl, _⟩ := own_cap hrr
            clear g1 g2 g3 hrr
            refine ⟨HS0.out _ HP2.out.hb, ?_⟩
            try simp only [Act.put, List.setIfInBounds_toArray, List.set_cons_zero, List.set_cons_succ, List.getElem_toArray, List.getElem_cons_zero, List.getElem_cons_succ]
            have HP := HP2
            clear HP2
            refine plan3_one ?_
            refine op_wp rfl (by rfl) ?_
            try simp only [List.getElem_toArray, List.getElem_cons_zero, List.getElem_cons_succ]
            refine (wp_append_sl _ _ 23 rfl w1.heap.size 28 i1 _ 2 16 Try.underlying23 HJ.out.1 HJ.out.2.1 HJ.out.2.2.1 HJ.out.2.2.2 rfl (by decide) _ 0 [] rfl HP.out.hc q n d (tdC L.out) rfl (by rw [tdC_len, HLL.out]) (HC.out.ls.below HP.out.hb) (tdC_one _) (by unfold maxLen; omega) (by omega) HP.out.hb.size ?_)
            intro v6 x40 g1 g2 g3
            have hrr : x40.ownsRow w1.heap.size 28 2 v6 n (tdC L.out) := by simpa using g1
            have HP2 := Lib.hid (HP.out.growB hrr g2 g3)
            clear HP
            obtain ⟨q5, d5, rfl, _⟩ := own_cap hrr
            clear g1 g2 g3 hrr
            refine ⟨HS0.out _ HP2.out.hb, ?_⟩
            try simp only [Act.put, List.setIfInBounds_toArray, List.set_cons_zero, List.set_cons_succ, List.getElem_toArray, List.getElem_cons_zero, List.getElem_cons_succ]
            have HP := HP2
            clear HP2
            refine plan3_read (v := .agg #[.slice p5 m c5, .slice q5 n d5]) rfl (by rfl) (by intro w' hS; go_simp) ?_
            try simp only [Act.put, List.setIfInBounds_toArray, List.set_cons_zero, List.set_cons_succ, List.getElem_toArray, List.getElem_cons_zero, List.getElem_cons_succ]
            refine plan3_stop ?_
            simp only [List.drop_succ_cons, List.drop_zero]
            have HZ := Lib.hid (HP.out.hz _ rfl)
            have HLO := Lib.hid (HP.out.lo (by omega) (by omega) (fun _ => False) (fun R h => h.elim))
            have cZ := HZ.out.2.1.c
            have fZ := HZ.out.2.1.f
            have lZ := HZ.out.2.1.lt
            clear HP
            go_wp2_with fail
            go_meet
            case rel => exact ⟨_, _, _, _, _, rfl, HLO.out.1, HK1.out.below HLO.out.2.2.2, HLO.out.2.1, HT1.out.below HLO.out.2.2.2, Lo.below ⟨p, m, c, q, n, d, rfl, HC.out, fun _ h => h.elim⟩ HLO.out.2.2.2, HLO.out.2.2.1, HB1.out.trans (HLO.out.2.2.2.mono HB1.out.size)⟩
    · as_aux_lemma =>
        obtain ⟨x41, hx41⟩ : ∃ z, z = wd0.alloc (.cells #[.slice none 0 0, .slice none 0 0] 25) := ⟨_, rfl⟩
        have HP2 := Lib.hid HP.out.mkZ
        rw [← hx41] at HP2
        clear HP
        refine op_make (v := .pointer (some ⟨wd0.heap.size, 0, none⟩)) (w1 := x41) rfl (by rfl) (by rw [hx41]; go_simp) ⟨HS0.out _ HP2.out.hb, ?_⟩
        try simp only [Act.put, List.setIfInBounds_toArray, List.set_cons_zero, List.set_cons_succ, List.getElem_toArray, List.getElem_cons_zero, List.getElem_cons_succ]
        clear hx41
        have HP := HP2
        clear HP2
        refine plan3_two ?_ ?_
        · as_aux_lemma =>
            obtain ⟨x42, hx42⟩ : ∃ z, z = x41.alloc (.cells #[] 52) := ⟨_, rfl⟩
            have HP2 := Lib.hid HP.out.mkA
            rw [← hx42] at HP2
            clear HP
            refine op_make (v := .slice (some ⟨x41.heap.size, 0, none⟩) 0 0) (w1 := x42) rfl (by rfl) (by rw [hx42]; go_simp) ⟨HS0.out _ HP2.out.hb, ?_⟩
            try simp only [Act.put, List.setIfInBounds_toArray, List.set_cons_zero, List.set_cons_succ, List.getElem_toArray, List.getElem_cons_zero, List.getElem_cons_succ]
            clear hx42
            have HP := HP2
            clear HP2
            refine plan3_two ?_ ?_
            · as_aux_lemma =>
                refine op_wp rfl (by rfl) ?_
                try simp only [List.getElem_toArray, List.getElem_cons_zero, List.getElem_cons_succ]
                refine (wp_append_sl _ _ 22 rfl w1.heap.size 52 i0 _ 3 24 Try.underlying22 HI.out.1 HI.out.2.1 HI.out.2.2.1 HI.out.2.2.2 rfl (by decide) _ 0 [] rfl HP.out.ha p m c (hdC L.held) rfl (by rw [hdC_len, HML.out]) (HC.out.ms.below HP.out.hb) (hdC_one _) (by unfold maxLen; omega) (by omega) HP.out.hb.size ?_)
                intro v5 x43 g1 g2 g3
                have hrr : x43.ownsRow w1.heap.size 52 3 v5 m (hdC L.held) := by simpa using g1
                have HP2 := Lib.hid (HP.out.growA hrr g2 g3)
                clear HP
                obtain ⟨p5, c5, rfl, _⟩ := own_cap hrr
                clear g1 g2 g3 hrr
                refine ⟨HS0.out _ HP2.out.hb, ?_⟩
                try simp only [Act.put, List.setIfInBounds_toArray, List.set_cons_zero, List.set_cons_succ, List.getElem_toArray, List.getElem_cons_zero, List.getElem_cons_succ]
                have HP := HP2
                clear HP2
                refine plan3_one ?_
                obtain ⟨x44, hx44⟩ : ∃ z, z = x43.alloc (.cells #[] 28) := ⟨_, rfl⟩
                have HP2 := Lib.hid HP.out.mkB
                rw [← hx44] at HP2
                clear HP
                refine op_make (v := .slice (some ⟨x43.heap.size, 0, none⟩) 0 0) (w1 := x44) rfl (by rfl) (by rw [hx44]; go_simp) ⟨HS0.out _ HP2.out.hb, ?_⟩
                try simp only [Act.put, List.setIfInBounds_toArray, List.set_cons_zero, List.set_cons_succ, List.getElem_toArray, List.getElem_cons_zero, List.getElem_cons_succ]
                clear hx44
                have HP := HP2
                clear HP2
                refine plan3_one ?_
                refine op_wp rfl (by rfl) ?_
                try simp only [List.getElem_toArray, List.getElem_cons_zero, List.getElem_cons_succ]
                refine (wp_append_sl _ _ 23 rfl w1.heap.size 28 i1 _ 2 16 Try.underlying23 HJ.out.1 HJ.out.2.1 HJ.out.2.2.1 HJ.out.2.2.2 rfl (by decide) _ 0 [] rfl HP.out.hc q n d (tdC L.out) rfl (by rw [tdC_len, HLL.out]) (HC.out.ls.below HP.out.hb) (tdC_one _) (by unfold maxLen; omega) (by omega) HP.out.hb.size ?_)
                intro v6 x45 g1 g2 g3
                have hrr : x45.ownsRow w1.heap.size 28 2 v6 n (tdC L.out) := by simpa using g1
                have HP2 := Lib.hid (HP.out.growB hrr g2 g3)
                clear HP
                obtain ⟨q5, d5, rfl, _⟩ := own_cap hrr
                clear g1 g2 g3 hrr
                refine ⟨HS0.out _ HP2.out.hb, ?_⟩
                try simp only [Act.put, List.setIfInBounds_toArray, List.set_cons_zero, List.set_cons_succ, List.getElem_toArray, List.getElem_cons_zero, List.getElem_cons_succ]
                have HP := HP2
                clear HP2
                refine plan3_read (v := .agg #[.slice p5 m c5, .slice q5 n d5]) rfl (by rfl) (by intro w' hS; go_simp) ?_
                try simp only [Act.put, List.setIfInBounds_toArray, List.set_cons_zero, List.set_cons_succ, List.getElem_toArray, List.getElem_cons_zero, List.getElem_cons_succ]
                refine plan3_stop ?_
                simp only [List.drop_succ_cons, List.drop_zero]
                have HZ := Lib.hid (HP.out.hz _ rfl)
                have HLO := Lib.hid (HP.out.lo (by omega) (by omega) (fun _ => False) (fun R h => h.elim))
                have cZ := HZ.out.2.1.c
                have fZ := HZ.out.2.1.f
                have lZ := HZ.out.2.1.lt
                clear HP
                go_wp2_with fail
                go_meet
                case rel => exact ⟨_, _, _, _, _, rfl, HLO.out.1, HK1.out.below HLO.out.2.2.2, HLO.out.2.1, HT1.out.below HLO.out.2.2.2, Lo.below ⟨p, m, c, q, n, d, rfl, HC.out, fun _ h => h.elim⟩ HLO.out.2.2.2, HLO.out.2.2.1, HB1.out.trans (HLO.out.2.2.2.mono HB1.out.size)⟩
            · as_aux_lemma =>
                obtain ⟨x46, hx46⟩ : ∃ z, z = x42.alloc (.cells #[] 28) := ⟨_, rfl⟩
                have HP2 := Lib.hid HP.out.mkB
                rw [← hx46] at HP2
                clear HP
                refine op_make (v := .slice (some ⟨x42.heap.size, 0, none⟩) 0 0) (w1 := x46) rfl (by rfl) (by rw [hx46]; go_simp) ⟨HS0.out _ HP2.out.hb, ?_⟩
                try simp only [Act.put, List.setIfInBounds_toArray, List.set_cons_zero, List.set_cons_succ, List.getElem_toArray, List.getElem_cons_zero, List.getElem_cons_succ]
                clear hx46
                have HP := HP2
                clear HP2
                refine plan3_one ?_
                refine op_wp rfl (by rfl) ?_
                try simp only [List.getElem_toArray, List.getElem_cons_zero, List.getElem_cons_succ]
                refine (wp_append_sl _ _ 22 rfl w1.heap.size 52 i0 _ 3 24 Try.underlying22 HI.out.1 HI.out.2.1 HI.out.2.2.1 HI.out.2.2.2 rfl (by decide) _ 0 [] rfl HP.out.ha p m c (hdC L.held) rfl (by rw [hdC_len, HML.out]) (HC.out.ms.below HP.out.hb) (hdC_one _) (by unfold maxLen; omega) (by omega) HP.out.hb.size ?_)
                intro v5 x47 g1 g2 g3
                have hrr : x47.ownsRow w1.heap.size 52 3 v5 m (hdC L.held) := by simpa using g1
                have HP2 := Lib.hid (HP.out.growA hrr g2 g3)
                clear HP
                obtain ⟨p5, c5, rfl, _⟩ := own_cap hrr
                clear g1 g2 g3 hrr
                refine ⟨HS0.out _ HP2.out.hb, ?_⟩
                try simp only [Act.put, List.setIfInBounds_toArray, List.set_cons_zero, List.set_cons_succ, List.getElem_toArray, List.getElem_cons_zero, List.getElem_cons_succ]
                have HP := HP2
                clear HP2
                refine plan3_one ?_
                refine op_wp rfl (by rfl) ?_
                try simp only [List.getElem_toArray, List.getElem_cons_zero, List.getElem_cons_succ]
                refine (wp_append_sl _ _ 23 rfl w1.heap.size 28 i1 _ 2 16 Try.underlying23 HJ.out.1 HJ.out.2.1 HJ.out.2.2.1 HJ.out.2.2.2 rfl (by decide) _ 0 [] rfl HP.out.hc q n d (tdC L.out) rfl (by rw [tdC_len, HLL.out]) (HC.out.ls.below HP.out.hb) (tdC_one _) (by unfold maxLen; omega) (by omega) HP.out.hb.size ?_)
                intro v6 x48 g1 g2 g3
                have hrr : x48.ownsRow w1.heap.size 28 2 v6 n (tdC L.out) := by simpa using g1
                have HP2 := Lib.hid (HP.out.growB hrr g2 g3)
                clear HP
                obtain ⟨q5, d5, rfl, _⟩ := own_cap hrr
                clear g1 g2 g3 hrr
                refine ⟨HS0.out _ HP2.out.hb, ?_⟩
                try simp only [Act.put, List.setIfInBounds_toArray, List.set_cons_zero, List.set_cons_succ, List.getElem_toArray, List.getElem_cons_zero, List.getElem_cons_succ]
                have HP := HP2
                clear HP2
                refine plan3_read (v := .agg #[.slice p5 m c5, .slice q5 n d5]) rfl (by rfl) (by intro w' hS; go_simp) ?_
                try simp only [Act.put, List.setIfInBounds_toArray, List.set_cons_zero, List.set_cons_succ, List.getElem_toArray, List.getElem_cons_zero, List.getElem_cons_succ]
                refine plan3_stop ?_
                simp only [List.drop_succ_cons, List.drop_zero]
                have HZ := Lib.hid (HP.out.hz _ rfl)
                have HLO := Lib.hid (HP.out.lo (by omega) (by omega) (fun _ => False) (fun R h => h.elim))
                have cZ := HZ.out.2.1.c
                have fZ := HZ.out.2.1.f
                have lZ := HZ.out.2.1.lt
                clear HP
                go_wp2_with fail
                go_meet
                case rel => exact ⟨_, _, _, _, _, rfl, HLO.out.1, HK1.out.below HLO.out.2.2.2, HLO.out.2.1, HT1.out.below HLO.out.2.2.2, Lo.below ⟨p, m, c, q, n, d, rfl, HC.out, fun _ h => h.elim⟩ HLO.out.2.2.2, HLO.out.2.2.1, HB1.out.trans (HLO.out.2.2.2.mono HB1.out.size)⟩
        · as_aux_lemma =>
            obtain ⟨x49, hx49⟩ : ∃ z, z = x41.alloc (.cells #[] 28) := ⟨_, rfl⟩
            have HP2 := Lib.hid HP.out.mkB
            rw [← hx49] at HP2
            clear HP
            refine op_make (v := .slice (some ⟨x41.heap.size, 0, none⟩) 0 0) (w1 := x49) rfl (by rfl) (by rw [hx49]; go_simp) ⟨HS0.out _ HP2.out.hb, ?_⟩
            try simp only [Act.put, List.setIfInBounds_toArray, List.set_cons_zero, List.set_cons_succ, List.getElem_toArray, List.getElem_cons_zero, List.getElem_cons_succ]
            clear hx49
            have HP := HP2
            clear HP2
            refine plan3_one ?_
            obtain ⟨x50, hx50⟩ : ∃ z, z = x49.alloc (.cells #[] 52) := ⟨_, rfl⟩
            have HP2 := Lib.hid HP.out.mkA
            rw [← hx50] at HP2
            clear HP
            refine op_make (v := .slice (some ⟨x49.heap.size, 0, none⟩) 0 0) (w1 := x50) rfl (by rfl) (by rw [hx50]; go_simp) ⟨HS0.out _ HP2.out.hb, ?_⟩
            try simp only [Act.put, List.setIfInBounds_toArray, List.set_cons_zero, List.set_cons_succ, List.getElem_toArray, List.getElem_cons_zero, List.getElem_cons_succ]
            clear hx50
            have HP := HP2
            clear HP2
            refine plan3_one ?_
            refine op_wp rfl (by rfl) ?_
            try simp only [List.getElem_toArray, List.getElem_cons_zero, List.getElem_cons_succ]
            refine (wp_append_sl _ _ 22 rfl w1.heap.size 52 i0 _ 3 24 Try.underlying22 HI.out.1 HI.out.2.1 HI.out.2.2.1 HI.out.2.2.2 rfl (by decide) _ 0 [] rfl HP.out.ha p m c (hdC L.held) rfl (by rw [hdC_len, HML.out]) (HC.out.ms.below HP.out.hb) (hdC_one _) (by unfold maxLen; omega) (by omega) HP.out.hb.size ?_)
            intro v5 x51 g1 g2 g3
            have hrr : x51.ownsRow w1.heap.size 52 3 v5 m (hdC L.held) := by simpa using g1
            have HP2 := Lib.hid (HP.out.growA hrr g2 g3)
            clear HP
            obtain ⟨p5, c5, rfl, _⟩ := own_cap hrr
            clear g1 g2 g3 hrr
            refine ⟨HS0.out _ HP2.out.hb, ?_⟩
            try simp only [Act.put, List.setIfInBounds_toArray, List.set_cons_zero, List.set_cons_succ, List.getElem_toArray, List.getElem_cons_zero, List.getElem_cons_succ]
            have HP := HP2
            clear HP2
            refine plan3_one ?_
            refine op_wp rfl (by rfl) ?_
            try simp only [List.getElem_toArray, List.getElem_cons_zero, List.getElem_cons_succ]
            refine (wp_append_sl _ _ 23 rfl w1.heap.size 28 i1 _ 2 16 Try.underlying23 HJ.out.1 HJ.out.2.1 HJ.out.2.2.1 HJ.out.2.2.2 rfl (by decide) _ 0 [] rfl HP.out.hc q n d (tdC L.out) rfl (by rw [tdC_len, HLL.out]) (HC.out.ls.below HP.out.hb) (tdC_one _) (by unfold maxLen; omega) (by omega) HP.out.hb.size ?_)
            intro v6 x52 g1 g2 g3
            have hrr : x52.ownsRow w1.heap.size 28 2 v6 n (tdC L.out) := by simpa using g1
            have HP2 := Lib.hid (HP.out.growB hrr g2 g3)
            clear HP
            obtain ⟨q5, d5, rfl, _⟩ := own_cap hrr
            clear g1 g2 g3 hrr
            refine ⟨HS0.out _ HP2.out.hb, ?_⟩
            try simp only [Act.put, List.setIfInBounds_toArray, List.set_cons_zero, List.set_cons_succ, List.getElem_toArray, List.getElem_cons_zero, List.getElem_cons_succ]
            have HP := HP2
            clear HP2
            refine plan3_read (v := .agg #[.slice p5 m c5, .slice q5 n d5]) rfl (by rfl) (by intro w' hS; go_simp) ?_
            try simp only [Act.put, List.setIfInBounds_toArray, List.set_cons_zero, List.set_cons_succ, List.getElem_toArray, List.getElem_cons_zero, List.getElem_cons_succ]
            refine plan3_stop ?_
            simp only [List.drop_succ_cons, List.drop_zero]
            have HZ := Lib.hid (HP.out.hz _ rfl)
            have HLO := Lib.hid (HP.out.lo (by omega) (by omega) (fun _ => False) (fun R h => h.elim))
            have cZ := HZ.out.2.1.c
            have fZ := HZ.out.2.1.f
            have lZ := HZ.out.2.1.lt
            clear HP
            go_wp2_with fail
            go_meet
            case rel => exact ⟨_, _, _, _, _, rfl, HLO.out.1, HK1.out.below HLO.out.2.2.2, HLO.out.2.1, HT1.out.below HLO.out.2.2.2, Lo.below ⟨p, m, c, q, n, d, rfl, HC.out, fun _ h => h.elim⟩ HLO.out.2.2.2, HLO.out.2.2.1, HB1.out.trans (HLO.out.2.2.2.mono HB1.out.size)⟩
  case rest =>
    obtain ⟨bm, p1, c1, q1, d1, rfl, hbm, hrw⟩ := hcut
    have HR := Lib.hid hrw
    have HMZ : Hid (w.heap.size + 1 < bm) := Lib.hid (by have := HT1.out.lt; omega)
    clear hrw HS0 HC HK1 HT1 HB1 HI HJ HL hbm g1 g2
    obtain ⟨w2, rfl⟩ : ∃ z, z = wc := ⟨_, rfl⟩
    have HR0 := HR
    obtain ⟨L1, hL1⟩ : ∃ z, z = tellG L t ⟨tc, tv⟩ := ⟨_, rfl⟩
    obtain ⟨E1, hE1⟩ : ∃ z, z = tellE L t := ⟨_, rfl⟩
    have HP1 : Hid (∀ W, Below w2.heap.size w2 W → Calls Try.prog 7 #[.agg #[.slice p1 m c1, .slice q1 n d1], .int .i64 t, .agg #[.int .i64 tc, .int .u32 tv]] W fun e w' => OutL (fun _ => False) W w' e L1 E1) := Lib.hid (fun W hW => by rw [hL1, hE1]; exact tell_any (fun _ => False) _ L t ⟨tc, tv⟩ W (HR0.out.lm.below hW) (fun R h => h.elim))
    have HR1 : Hid (∀ W, Below w2.heap.size w2 W → Calls Try.prog 8 #[.agg #[.slice p m c, .slice q n d], .int .i64 t, .agg #[.int .i64 tc, .int .u32 tv]] W fun e w' => OutL (fun _ => False) W w' e L1 E1) := Lib.hid (fun W hW => by rw [hL1, hE1]; exact rtell_any (fun _ => False) _ L t ⟨tc, tv⟩ W (HR0.out.ll.below hW) (fun R h => h.elim))
    clear hL1 hE1
    have kM := HR.out.hm.c
    have kT := HR.out.ht.c
    go_wp2_with fail
    refine (HP1.out w2 (Below.refl _ _)).mono ?_
    clear HP1 kM kT
    intro e w3 h
    obtain ⟨pa, ma, ca, qa, na, da, rfl, hca, hoa, hb⟩ := h.open
    clear h
    have HB3 := Lib.hid hb
    have HA3 : Hid (Lo (fun _ => False) w3 (.agg #[.slice pa ma ca, .slice qa na da]) L1) := Lib.hid ⟨_, _, _, _, _, _, rfl, hca, hoa⟩
    have HRx := Lib.hid (HR.out.below hb)
    clear HR hb hca hoa
    have HR := HRx
    clear HRx
    go_upto_region 7 with fail
    obtain ⟨ba, hba⟩ : ∃ z, z = w3.heap.size := ⟨_, rfl⟩
    obtain ⟨w4, hw4⟩ : ∃ z, z = w3.alloc (.cells #[.slice pa ma ca, .slice qa na da] 25) := ⟨_, rfl⟩
    have hb4 : Below w3.heap.size w3 w4 := by rw [hw4]; exact (Below.refl _ _).alloc (Nat.le_refl _) _
    have HB4 : Hid (Below w2.heap.size w2 w4) := Lib.hid (HB3.out.trans (hb4.mono HB3.out.size))
    have HVA : Hid (Blk w4 ba #[.slice pa ma ca, .slice qa na da]) := Lib.hid (by rw [hw4, hba]; exact Blk.new _ _ _)
    have HA4 := Lib.hid (HA3.out.below hb4)
    have HBA2 : Hid (w2.heap.size ≤ ba) := Lib.hid (by rw [hba]; exact HB3.out.size)
    have HRx := Lib.hid (HR.out.below hb4)
    rw [← hw4, ← hba]
    clear hw4 hba hb4 HR HB3 HA3
    have HR := HRx
    clear HRx
    have kL := HR.out.hl.c
    have kT := HR.out.ht.c
    go_wp2_with fail
    refine (HR1.out w4 HB4.out).mono ?_
    clear HR1 kL kT
    intro e w5 h
    obtain ⟨pb, mb, cb, qb, nb, db, rfl, hcb, hob, hb⟩ := h.open
    clear h
    have HB5 : Hid (Lo (fun _ => False) w5 (.agg #[.slice pb mb cb, .slice qb nb db]) L1) := Lib.hid ⟨_, _, _, _, _, _, rfl, hcb, hob⟩
    have HA5 := Lib.hid (HA4.out.below hb)
    have HVA5 := Lib.hid (HVA.out.below hb)
    have HB45 : Hid (Below w2.heap.size w2 w5) := Lib.hid (HB4.out.trans (hb.mono HB4.out.size))
    clear HR hb hcb hob HA4 HVA HB4
    go_upto_region 8 with fail
    obtain ⟨bb, hbb⟩ : ∃ z, z = w5.heap.size := ⟨_, rfl⟩
    obtain ⟨w6, hw6⟩ : ∃ z, z = w5.alloc (.cells #[.slice pb mb cb, .slice qb nb db] 25) := ⟨_, rfl⟩
    have hb6 : Below w5.heap.size w5 w6 := by rw [hw6]; exact (Below.refl _ _).alloc (Nat.le_refl _) _
    have HVB : Hid (Blk w6 bb #[.slice pb mb cb, .slice qb nb db]) := Lib.hid (by rw [hw6, hbb]; exact Blk.new _ _ _)
    have HLA := Lib.hid (HA5.out.below hb6)
    have HLB := Lib.hid (HB5.out.below hb6)
    have HVA := Lib.hid (HVA5.out.below hb6)
    have HBM : Hid (w.heap.size + 1 < bm ∧ bm < ba ∧ ba < bb) := Lib.hid (by rw [hbb]; exact ⟨HMZ.out, Nat.lt_of_lt_of_le HR0.out.hm.lt HBA2.out, HVA5.out.lt⟩)
    have HR : Hid (Rw w w6 (fun R => R = ba ∨ R = bb) bm p m c q n d p1 c1 q1 d1 tc tv L) := Lib.hid ((HR0.out.later (S' := fun R => R = ba ∨ R = bb) (fun R hR => .inr (by
      have h1 := HBA2.out
      have h2 := HBM.out
      rcases hR with rfl | rfl <;> omega))).below (HB45.out.trans (hb6.mono HB45.out.size)))
    rw [← hw6, ← hbb]
    clear hw6 hbb hb6 HR0 HB5 HA5 HVA5 HB45 HBA2 HMZ

    have HQ := Lib.hid (same_any _ _ _ _ L1 w6 HLA.out HLB.out)
    have eE : (E1 != E1) = false := by simp
    have kA := HVA.out.c
    have kB := HVB.out.c
    go_wp2_with fail
    refine HQ.out.mono ?_
    clear HQ kA kB HLA HLB
    rintro e w7 ⟨rfl, hb⟩
    have HR2 := Lib.hid (HR.out.below hb)
    have HVA2 := Lib.hid (HVA.out.below hb)
    have HVB2 := Lib.hid (HVB.out.below hb)
    clear HR HVA HVB hb
    have HR := HR2
    have HVA := HVA2
    have HVB := HVB2
    clear HR2 HVA2 HVB2
    obtain ⟨L2, hL2⟩ : ∃ z, z = sureG L t := ⟨_, rfl⟩
    obtain ⟨E2, hE2⟩ : ∃ z, z = okE L t := ⟨_, rfl⟩
    have HEQ : Hid (L2 = sureG L t ∧ E2 = okE L t) := Lib.hid ⟨hL2, hE2⟩
    have HQ : Hid (Calls Try.prog 10 #[.agg #[.slice p1 m c1, .slice q1 n d1], .int .i64 t] w7 fun e w' => OutL (fun R => R = ba ∨ R = bb) w7 w' e L2 E2) := Lib.hid (by rw [hL2, hE2]; exact sure_any (fun R => R = ba ∨ R = bb) _ L t w7 HR.out.lm (fun R hR => by have h1 := HVA.out.lt; have h2 := HVB.out.lt; rcases hR with rfl | rfl <;> assumption) (by rw [HLL.out]; have := HBD.out.2; omega))
    clear hL2 hE2
    have kM := HR.out.hm.c
    go_wp2_with fail
    refine HQ.out.mono ?_
    clear HQ kM
    intro e w8 h
    obtain ⟨pa2, ma2, ca2, qa2, na2, da2, rfl, hcc, hoo, hb⟩ := h.open
    clear h
    have HLX : Hid (Lo (fun R => R = ba ∨ R = bb) w8 (.agg #[.slice pa2 ma2 ca2, .slice qa2 na2 da2]) L2) := Lib.hid ⟨_, _, _, _, _, _, rfl, hcc, hoo⟩
    have HR2 := Lib.hid (HR.out.below hb)
    have HVA2 := Lib.hid (HVA.out.below hb)
    have HVB2 := Lib.hid (HVB.out.below hb)
    clear HR HVA HVB hb hcc hoo
    have HR := HR2
    have HVA := HVA2
    have HVB := HVB2
    clear HR2 HVA2 HVB2
    have kX := HVA.out.c
    have fX := HVA.out.f
    have lX := HVA.out.lt
    go_upto_region 11 with fail
    obtain ⟨w9, hww9⟩ : ∃ z, z = (w8.setCell ⟨ba, 0, none⟩ (.slice pa2 ma2 ca2)).setCell ⟨ba, 1, none⟩ (.slice qa2 na2 da2) := ⟨_, rfl⟩
    have HR2 := Lib.hid (HR.out.set2 (R := ba) (.inl rfl) (by have := HBM.out; omega) (by have := HBM.out; omega) (.slice pa2 ma2 ca2) (.slice qa2 na2 da2))
    have HV2 : Hid (Blk w9 ba #[.slice pa2 ma2 ca2, .slice qa2 na2 da2]) := Lib.hid (by rw [hww9]; exact set2_same HVA.out _ _)
    have HO2 := Lib.hid (set2_other HVB.out (R := ba) (by have := HBM.out; omega) (.slice pa2 ma2 ca2) (.slice qa2 na2 da2))
    have HLX2 := Lib.hid (HLX.out.set2 (R := ba) (.inl rfl) (.slice pa2 ma2 ca2) (.slice qa2 na2 da2))
    rw [← hww9] at HR2 HO2 HLX2 ⊢
    clear hww9 HR HVA HVB HLX kX fX lX
    have HR := HR2
    have HVA := HV2
    have HVB := HO2
    have HLA := HLX2
    clear HR2 HV2 HO2 HLX2
    have HQ : Hid (Calls Try.prog 11 #[.agg #[.slice p m c, .slice q n d], .int .i64 t] w9 fun e w' => OutL (fun R => R = ba ∨ R = bb) w9 w' e L2 E2) := Lib.hid (by rw [HEQ.out.1, HEQ.out.2]; exact rsure_any (fun R => R = ba ∨ R = bb) _ L t w9 HR.out.ll (fun R hR => by have h1 := HVA.out.lt; have h2 := HVB.out.lt; rcases hR with rfl | rfl <;> assumption) ⟨(by rw [HLL.out]; have := HBD.out.2; omega), by rw [HML.out]; have := HBD.out.1; omega⟩)
    clear HEQ
    have kL := HR.out.hl.c
    go_wp2_with fail
    refine HQ.out.mono ?_
    clear HQ kL
    intro e w10 h
    obtain ⟨pb2, mb2, cb2, qb2, nb2, db2, rfl, hcc, hoo, hb⟩ := h.open
    clear h
    have HLX : Hid (Lo (fun R => R = ba ∨ R = bb) w10 (.agg #[.slice pb2 mb2 cb2, .slice qb2 nb2 db2]) L2) := Lib.hid ⟨_, _, _, _, _, _, rfl, hcc, hoo⟩
    have HR2 := Lib.hid (HR.out.below hb)
    have HVA2 := Lib.hid (HVA.out.below hb)
    have HVB2 := Lib.hid (HVB.out.below hb)
    have HLA2 := Lib.hid (HLA.out.below hb)
    clear HLA
    have HLA := HLA2
    clear HLA2
    clear HR HVA HVB hb hcc hoo
    have HR := HR2
    have HVA := HVA2
    have HVB := HVB2
    clear HR2 HVA2 HVB2
    have kX := HVB.out.c
    have fX := HVB.out.f
    have lX := HVB.out.lt
    go_upto_region 12 with fail
    obtain ⟨w11, hww11⟩ : ∃ z, z = (w10.setCell ⟨bb, 0, none⟩ (.slice pb2 mb2 cb2)).setCell ⟨bb, 1, none⟩ (.slice qb2 nb2 db2) := ⟨_, rfl⟩
    have HR2 := Lib.hid (HR.out.set2 (R := bb) (.inr rfl) (by have := HBM.out; omega) (by have := HBM.out; omega) (.slice pb2 mb2 cb2) (.slice qb2 nb2 db2))
    have HV2 : Hid (Blk w11 bb #[.slice pb2 mb2 cb2, .slice qb2 nb2 db2]) := Lib.hid (by rw [hww11]; exact set2_same HVB.out _ _)
    have HO2 := Lib.hid (set2_other HVA.out (R := bb) (by have := HBM.out; omega) (.slice pb2 mb2 cb2) (.slice qb2 nb2 db2))
    have HLX2 := Lib.hid (HLX.out.set2 (R := bb) (.inr rfl) (.slice pb2 mb2 cb2) (.slice qb2 nb2 db2))
    rw [← hww11] at HR2 HO2 HLX2 ⊢
    have HLA2 := Lib.hid (HLA.out.set2 (R := bb) (.inr rfl) (.slice pb2 mb2 cb2) (.slice qb2 nb2 db2))
    rw [← hww11] at HLA2
    clear HLA
    have HLA := HLA2
    clear HLA2
    clear hww11 HR HVA HVB HLX kX fX lX
    have HR := HR2
    have HVB := HV2
    have HVA := HO2
    have HLB := HLX2
    clear HR2 HV2 HO2 HLX2

    have HQ := Lib.hid (same_any _ _ _ _ L2 w11 HLA.out HLB.out)
    have eE : (E2 != E2) = false := by simp
    have kA := HVA.out.c
    have kB := HVB.out.c
    go_wp2_with fail
    refine HQ.out.mono ?_
    clear HQ kA kB HLA HLB
    rintro e w12 ⟨rfl, hb⟩
    have HR2 := Lib.hid (HR.out.below hb)
    have HVA2 := Lib.hid (HVA.out.below hb)
    have HVB2 := Lib.hid (HVB.out.below hb)
    clear HR HVA HVB hb
    have HR := HR2
    have HVA := HVA2
    have HVB := HVB2
    clear HR2 HVA2 HVB2
    obtain ⟨L3, hL3⟩ : ∃ z, z = backG L t := ⟨_, rfl⟩
    obtain ⟨E3, hE3⟩ : ∃ z, z = okE L t := ⟨_, rfl⟩
    have HEQ : Hid (L3 = backG L t ∧ E3 = okE L t) := Lib.hid ⟨hL3, hE3⟩
    have HQ : Hid (Calls Try.prog 12 #[.agg #[.slice p1 m c1, .slice q1 n d1], .int .i64 t] w12 fun e w' => OutL (fun R => R = ba ∨ R = bb) w12 w' e L3 E3) := Lib.hid (by rw [hL3, hE3]; exact back_any (fun R => R = ba ∨ R = bb) _ L t w12 HR.out.lm (fun R hR => by have h1 := HVA.out.lt; have h2 := HVB.out.lt; rcases hR with rfl | rfl <;> assumption))
    clear hL3 hE3
    have kM := HR.out.hm.c
    go_wp2_with fail
    refine HQ.out.mono ?_
    clear HQ kM
    intro e w13 h
    obtain ⟨pa3, ma3, ca3, qa3, na3, da3, rfl, hcc, hoo, hb⟩ := h.open
    clear h
    have HLX : Hid (Lo (fun R => R = ba ∨ R = bb) w13 (.agg #[.slice pa3 ma3 ca3, .slice qa3 na3 da3]) L3) := Lib.hid ⟨_, _, _, _, _, _, rfl, hcc, hoo⟩
    have HR2 := Lib.hid (HR.out.below hb)
    have HVA2 := Lib.hid (HVA.out.below hb)
    have HVB2 := Lib.hid (HVB.out.below hb)
    clear HR HVA HVB hb hcc hoo
    have HR := HR2
    have HVA := HVA2
    have HVB := HVB2
    clear HR2 HVA2 HVB2
    have kX := HVA.out.c
    have fX := HVA.out.f
    have lX := HVA.out.lt
    go_upto_region 15 with fail
    obtain ⟨w14, hww14⟩ : ∃ z, z = (w13.setCell ⟨ba, 0, none⟩ (.slice pa3 ma3 ca3)).setCell ⟨ba, 1, none⟩ (.slice qa3 na3 da3) := ⟨_, rfl⟩
    have HR2 := Lib.hid (HR.out.set2 (R := ba) (.inl rfl) (by have := HBM.out; omega) (by have := HBM.out; omega) (.slice pa3 ma3 ca3) (.slice qa3 na3 da3))
    have HV2 : Hid (Blk w14 ba #[.slice pa3 ma3 ca3, .slice qa3 na3 da3]) := Lib.hid (by rw [hww14]; exact set2_same HVA.out _ _)
    have HO2 := Lib.hid (set2_other HVB.out (R := ba) (by have := HBM.out; omega) (.slice pa3 ma3 ca3) (.slice qa3 na3 da3))
    have HLX2 := Lib.hid (HLX.out.set2 (R := ba) (.inl rfl) (.slice pa3 ma3 ca3) (.slice qa3 na3 da3))
    rw [← hww14] at HR2 HO2 HLX2 ⊢
    clear hww14 HR HVA HVB HLX kX fX lX
    have HR := HR2
    have HVA := HV2
    have HVB := HO2
    have HLA := HLX2
    clear HR2 HV2 HO2 HLX2
    have HQ : Hid (Calls Try.prog 13 #[.agg #[.slice p m c, .slice q n d], .int .i64 t] w14 fun e w' => OutL (fun R => R = ba ∨ R = bb) w14 w' e L3 E3) := Lib.hid (by rw [HEQ.out.1, HEQ.out.2]; exact rback_any (fun R => R = ba ∨ R = bb) _ L t w14 HR.out.ll (fun R hR => by have h1 := HVA.out.lt; have h2 := HVB.out.lt; rcases hR with rfl | rfl <;> assumption))
    clear HEQ
    have kL := HR.out.hl.c
    go_wp2_with fail
    refine HQ.out.mono ?_
    clear HQ kL
    intro e w15 h
    obtain ⟨pb3, mb3, cb3, qb3, nb3, db3, rfl, hcc, hoo, hb⟩ := h.open
    clear h
    have HLX : Hid (Lo (fun R => R = ba ∨ R = bb) w15 (.agg #[.slice pb3 mb3 cb3, .slice qb3 nb3 db3]) L3) := Lib.hid ⟨_, _, _, _, _, _, rfl, hcc, hoo⟩
    have HR2 := Lib.hid (HR.out.below hb)
    have HVA2 := Lib.hid (HVA.out.below hb)
    have HVB2 := Lib.hid (HVB.out.below hb)
    have HLA2 := Lib.hid (HLA.out.below hb)
    clear HLA
    have HLA := HLA2
    clear HLA2
    clear HR HVA HVB hb hcc hoo
    have HR := HR2
    have HVA := HVA2
    have HVB := HVB2
    clear HR2 HVA2 HVB2
    have kX := HVB.out.c
    have fX := HVB.out.f
    have lX := HVB.out.lt
    go_upto_region 16 with fail
    obtain ⟨w16, hww16⟩ : ∃ z, z = (w15.setCell ⟨bb, 0, none⟩ (.slice pb3 mb3 cb3)).setCell ⟨bb, 1, none⟩ (.slice qb3 nb3 db3) := ⟨_, rfl⟩
    have HR2 := Lib.hid (HR.out.set2 (R := bb) (.inr rfl) (by have := HBM.out; omega) (by have := HBM.out; omega) (.slice pb3 mb3 cb3) (.slice qb3 nb3 db3))
    have HV2 : Hid (Blk w16 bb #[.slice pb3 mb3 cb3, .slice qb3 nb3 db3]) := Lib.hid (by rw [hww16]; exact set2_same HVB.out _ _)
    have HO2 := Lib.hid (set2_other HVA.out (R := bb) (by have := HBM.out; omega) (.slice pb3 mb3 cb3) (.slice qb3 nb3 db3))
    have HLX2 := Lib.hid (HLX.out.set2 (R := bb) (.inr rfl) (.slice pb3 mb3 cb3) (.slice qb3 nb3 db3))
    rw [← hww16] at HR2 HO2 HLX2 ⊢
    have HLA2 := Lib.hid (HLA.out.set2 (R := bb) (.inr rfl) (.slice pb3 mb3 cb3) (.slice qb3 nb3 db3))
    rw [← hww16] at HLA2
    clear HLA
    have HLA := HLA2
    clear HLA2
    clear hww16 HR HVA HVB HLX kX fX lX
    have HR := HR2
    have HVB := HV2
    have HVA := HO2
    have HLB := HLX2
    clear HR2 HV2 HO2 HLX2
    have HS : Hid (∀ V, Below w16.heap.size w16 V → (∀ j, V.cell? ⟨w.heap.size, j, none⟩ = (#[.slice p m c, .slice q n d] : Array Value)[j]?) ∧ (∀ j, V.cell? ⟨bm, j, none⟩ = (#[.slice p1 m c1, .slice q1 n d1] : Array Value)[j]?) ∧ (∀ j, V.cell? ⟨ba, j, none⟩ = (#[.slice pa3 ma3 ca3, .slice qa3 na3 da3] : Array Value)[j]?) ∧ (∀ j, V.cell? ⟨bb, j, none⟩ = (#[.slice pb3 mb3 cb3, .slice qb3 nb3 db3] : Array Value)[j]?)) := Lib.hid (fun V hV => ⟨(HR.out.hl.below hV).c, (HR.out.hm.below hV).c, (HVA.out.below hV).c, (HVB.out.below hV).c⟩)
    have HX := Lib.hid (fun V (hV : Below w16.heap.size w16 V) => HR.out.below hV)
    have eE : (E3 == E3) = true := by simp
    have eR : ∀ r : Bool, (r == r) = true := fun r => by simp
    refine region_plan (fun V : World => (∀ j, V.cell? ⟨w.heap.size, j, none⟩ = (#[.slice p m c, .slice q n d] : Array Value)[j]?) ∧ (∀ j, V.cell? ⟨bm, j, none⟩ = (#[.slice p1 m c1, .slice q1 n d1] : Array Value)[j]?) ∧ (∀ j, V.cell? ⟨ba, j, none⟩ = (#[.slice pa3 ma3 ca3, .slice qa3 na3 da3] : Array Value)[j]?) ∧ (∀ j, V.cell? ⟨bb, j, none⟩ = (#[.slice pb3 mb3 cb3, .slice qb3 nb3 db3] : Array Value)[j]?)) 26 [(0, true), (1, true), (2, false), (3, true), (4, true), (5, true), (6, true), (7, true), (8, true), (9, true), (11, true), (10, false), (12, false), (13, true), (14, true), (15, true), (16, true), (18, true), (17, false), (19, false), (20, false), (21, true), (22, true), (23, true), (24, true), (25, false)] (by kernel_rfl) (by kernel_rfl) (HS.out _ (Below.refl _ _).drew) ?_
    iterate 2
      refine plan_read (v := ?_) rfl (by rfl) ?_ ?_
      rotate_left
      · intro w' hS
        try dsimp only at hS
        go_simp
        try with_reducible rfl
      try simp only [Act.put, List.setIfInBounds_toArray, List.set_cons_zero, List.set_cons_succ, List.getElem_toArray, List.getElem_cons_zero, List.getElem_cons_succ]
    refine plan_call (F := 9) (args := ?_) rfl (by rfl) ?_ ?_
    rotate_left
    · go_simp
      rfl
    refine (same_any _ _ _ _ L3 w16.drew (HLA.out.below (Below.refl _ _).drew) (HLB.out.below (Below.refl _ _).drew)).mono ?_
    rintro e u1 ⟨rfl, hb⟩
    have HBu1 : Hid (Below w16.heap.size w16 u1) := Lib.hid ((Below.refl _ _).drew.trans hb)
    refine ⟨_, rfl, HS.out _ HBu1.out, ?_⟩
    try simp only [Act.put, List.setIfInBounds_toArray, List.set_cons_zero, List.set_cons_succ, List.getElem_toArray, List.getElem_cons_zero, List.getElem_cons_succ]
    clear hb
    iterate 8
      refine plan_read (v := ?_) rfl (by rfl) ?_ ?_
      rotate_left
      · intro w' hS
        try dsimp only at hS
        go_simp
        try with_reducible rfl
      try simp only [Act.put, List.setIfInBounds_toArray, List.set_cons_zero, List.set_cons_succ, List.getElem_toArray, List.getElem_cons_zero, List.getElem_cons_succ]
    refine plan_call (F := 14) (args := ?_) rfl (by rfl) ?_ ?_
    rotate_left
    · go_simp
      rfl
    refine (right_any _ _ L u1 (HX.out u1 HBu1.out).lm).mono ?_
    rintro e u2 ⟨rfl, hb⟩
    have HBu2 : Hid (Below w16.heap.size w16 u2) := Lib.hid (HBu1.out.trans (hb.mono HBu1.out.size))
    refine ⟨_, rfl, HS.out _ HBu2.out, ?_⟩
    try simp only [Act.put, List.setIfInBounds_toArray, List.set_cons_zero, List.set_cons_succ, List.getElem_toArray, List.getElem_cons_zero, List.getElem_cons_succ]
    clear hb
    refine plan_call (F := 15) (args := ?_) rfl (by rfl) ?_ ?_
    rotate_left
    · go_simp
      rfl
    refine (rright_any _ _ L u2 (HX.out u2 HBu2.out).ll).mono ?_
    rintro e u3 ⟨rfl, hb⟩
    have HBu3 : Hid (Below w16.heap.size w16 u3) := Lib.hid (HBu2.out.trans (hb.mono HBu2.out.size))
    refine ⟨_, rfl, HS.out _ HBu3.out, ?_⟩
    try simp only [Act.put, List.setIfInBounds_toArray, List.set_cons_zero, List.set_cons_succ, List.getElem_toArray, List.getElem_cons_zero, List.getElem_cons_succ]
    clear hb
    iterate 5
      refine plan_read (v := ?_) rfl (by rfl) ?_ ?_
      rotate_left
      · intro w' hS
        try dsimp only at hS
        go_simp
        try with_reducible rfl
      try simp only [Act.put, List.setIfInBounds_toArray, List.set_cons_zero, List.set_cons_succ, List.getElem_toArray, List.getElem_cons_zero, List.getElem_cons_succ, eR]
    refine plan_call (F := 17) (args := ?_) rfl (by rfl) ?_ ?_
    rotate_left
    · go_simp
      rfl
    refine (all_any _ _ L u3 (HX.out u3 HBu3.out).lm).mono ?_
    rintro e u4 ⟨qx, xx, dx, hxx, rfl, hox, hb⟩
    subst hxx
    obtain ⟨_, _, ex, hsx⟩ := Sl.own hox
    injection ex with ex1 ex2 ex3
    subst ex1
    have HSX := Lib.hid hsx
    clear ex2 ex3 hsx hox
    have HBu4 : Hid (Below w16.heap.size w16 u4) := Lib.hid (HBu3.out.trans (hb.mono HBu3.out.size))
    refine ⟨_, rfl, HS.out _ HBu4.out, ?_⟩
    try simp only [Act.put, List.setIfInBounds_toArray, List.set_cons_zero, List.set_cons_succ, List.getElem_toArray, List.getElem_cons_zero, List.getElem_cons_succ]
    clear hb
    refine plan_call (F := 18) (args := ?_) rfl (by rfl) ?_ ?_
    rotate_left
    · go_simp
      rfl
    refine (rall_any _ _ L u4 (HX.out u4 HBu4.out).ll).mono ?_
    rintro e u5 ⟨qy, dy, rfl, hoy, hb⟩
    obtain ⟨_, _, ex, hsy⟩ := Sl.own hoy
    injection ex with ex1 ex2 ex3
    subst ex1
    have HSY := Lib.hid hsy
    have HSX5 := Lib.hid (HSX.out.below hb)
    clear ex2 ex3 hsy hoy
    have HBu5 : Hid (Below w16.heap.size w16 u5) := Lib.hid (HBu4.out.trans (hb.mono HBu4.out.size))
    refine ⟨_, rfl, HS.out _ HBu5.out, ?_⟩
    try simp only [Act.put, List.setIfInBounds_toArray, List.set_cons_zero, List.set_cons_succ, List.getElem_toArray, List.getElem_cons_zero, List.getElem_cons_succ]
    clear hb
    refine plan_call (F := 16) (args := ?_) rfl (by rfl) ?_ ?_
    rotate_left
    · go_simp
      rfl
    refine (outs_any qx qy (allG L).length dx dy (allG L) u5 rfl HSX5.out HSY.out (by unfold allG; rw [List.length_append, List.length_map, HML.out, HLL.out]; have := HBD.out; omega)).mono ?_
    rintro e u6 ⟨rfl, hb⟩
    have HBu6 : Hid (Below w16.heap.size w16 u6) := Lib.hid (HBu5.out.trans (hb.mono HBu5.out.size))
    refine ⟨_, rfl, HS.out _ HBu6.out, ?_⟩
    try simp only [Act.put, List.setIfInBounds_toArray, List.set_cons_zero, List.set_cons_succ, List.getElem_toArray, List.getElem_cons_zero, List.getElem_cons_succ]
    clear hb
    iterate 4
      refine plan_read (v := ?_) rfl (by rfl) ?_ ?_
      rotate_left
      · intro w' hS
        try dsimp only at hS
        go_simp
        try with_reducible rfl
      try simp only [Act.put, List.setIfInBounds_toArray, List.set_cons_zero, List.set_cons_succ, List.getElem_toArray, List.getElem_cons_zero, List.getElem_cons_succ]
    refine plan_call (F := 9) (args := ?_) rfl (by rfl) ?_ ?_
    rotate_left
    · go_simp
      rfl
    refine (same_any _ _ _ _ L u6 (HX.out u6 HBu6.out).lm (HX.out u6 HBu6.out).ll).mono ?_
    rintro e u7 ⟨rfl, hb⟩
    have HBu7 : Hid (Below w16.heap.size w16 u7) := Lib.hid (HBu6.out.trans (hb.mono HBu6.out.size))
    refine ⟨_, rfl, HS.out _ HBu7.out, ?_⟩
    try simp only [Act.put, List.setIfInBounds_toArray, List.set_cons_zero, List.set_cons_succ, List.getElem_toArray, List.getElem_cons_zero, List.getElem_cons_succ]
    clear hb
    refine plan_nil ?_
    simp only [List.drop_succ_cons, List.drop_zero]
    have HBE : Hid (Below w.heap.size w u7) := Lib.hid (HR.out.hb.trans (HBu7.out.mono HR.out.hb.size))
    go_wp2_with fail
    go_ret
    exact ⟨rfl, HBE.out⟩
end Go.Proofs.Yteffmidpinlpjaa
