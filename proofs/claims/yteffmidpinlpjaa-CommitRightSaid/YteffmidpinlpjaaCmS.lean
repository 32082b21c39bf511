/- The document's own: all that was told, what is held of intervals below one and the rest, and a gate that let out, went back, or was told something; no condition but that they read. -/
import Derived.Test.YteffmidpinlpjaaCmQ
import Derived.Test.YteffmidpinlpjaaPlanT
namespace Go.Proofs.Yteffmidpinlpjaa
set_option linter.unusedVariables false
set_option linter.unusedSimpArgs false
open Go.ChangeShapes Go.WideShapes Go.ChangeAt Go.RowKit

def APT (k : Nat) : Prop := k ≤ 20000
set_option maxHeartbeats 4000000 in
set_option maxRecDepth 100000 in
theorem rall_any (S : Nat → Prop) (v : Value) (L : Gt) (w : World) (h : Lo S w v L) : Calls Try.prog 18 #[v] w fun e w' => ∃ q d, e = .returned (.slice q (allG L).length d) ∧ w'.ownsRow w.heap.size 28 2 (.slice q (allG L).length d) (allG L).length (tdC (allG L)) ∧ Below w.heap.size w w' := by
  obtain ⟨M, l⟩ := L
  obtain ⟨p, m, c, q, n, d, rfl, hc, -⟩ := h
  have hm := hc.m10
  have hn := hc.n10
  have HC := Lib.hid hc
  have HML : Hid (M.length = m) := Lib.hid hc.ml
  have HLL : Hid (l.length = n) := Lib.hid hc.ll
  have HAT : Hid (∀ k, k < m → ∃ b off, p = some ⟨b, off, none⟩ ∧ HdAt w b off k (M.getD k zH)) := Lib.hid (fun k hk => hd_at hc.ms hc.ml k hk)
  have HT : Hid (∀ k, k < m → tdC (l ++ (M.take (k + 1)).map Hd.td) = tdC (l ++ (M.take k).map Hd.td) ++ tdC [(M.getD k zH).td]) := Lib.hid (fun k hk => by rw [map_take_td M k (by rw [HML.out]; exact hk), ← List.append_assoc, tdC_app])
  obtain ⟨i0, hi, hz0, hz1, hz2⟩ := info_parts infoT
  have HI := Lib.hid (And.intro hi (And.intro hz0 (And.intro hz1 hz2)))
  clear hc hi hz0 hz1 hz2
  have HK0 : Hid (Blk (w.alloc (.cells #[.slice p m c, .slice q n d] 25)) w.heap.size #[.slice p m c, .slice q n d]) := Lib.hid (Blk.new _ _ _)
  have HB0 : Hid (Below w.heap.size w (w.alloc (.cells #[.slice p m c, .slice q n d] 25))) := Lib.hid ((Below.refl _ _).alloc (Nat.le_refl _) _)
  obtain ⟨w0, hw0⟩ : ∃ w0, w0 = w.alloc (.cells #[.slice p m c, .slice q n d] 25) := ⟨_, rfl⟩
  rw [← hw0] at HK0 HB0
  have HW0 := Lib.hid hw0
  clear hw0
  go_enter Try.func18, Try.ntmps18
  go_upto_region 1 with fail
  rw [← HW0.out]
  clear HW0
  have kA := HK0.out.c
  have lA := HK0.out.lt
  go_upto_region 2 with (first | (at_builtin; refine wpList_append_sl rfl _ _ 23 rfl w0.heap.size 28 i0 _ 2 16 Try.underlying23 HI.out.1 HI.out.2.1 HI.out.2.2.1 HI.out.2.2.2 rfl (by decide) _ 0 [] rfl (fresh_made (Nat.le_refl _)) q n d (tdC l) rfl (by rw [tdC_len, HLL.out]) ((HC.out.ls.below HB0.out).below ((Below.refl _ _).alloc (Nat.le_refl _) _)) (tdC_one _) (by unfold maxLen; omega) (by omega) (by rw [World.size_alloc]; omega) ?_; intro v' w1 g1 g2 g3; rw [Nat.zero_add, List.nil_append] at g1; obtain ⟨q1, d1, rfl, -⟩ := own_cap g1; have HO1 := Lib.hid g1; have HB1 : Hid (Below w0.heap.size w0 w1) := Lib.hid (((Below.refl _ _).alloc (Nat.le_refl _) _).grown g2 (by simp) (fun k hk => by injection hk with hk; exact Nat.le_of_eq hk)); clear g1 g2 g3 kA lA))
  go_wp2_with fail
  go_loopw [3, 4] (fun s3 s4 wr => ∃ k : Nat, k ≤ m ∧ s4 = .int .i64 k ∧ (∃ q d, s3 = .slice q (n + k) d ∧ wr.ownsRow w0.heap.size 28 2 (.slice q (n + k) d) (n + k) (tdC (l ++ (M.take k).map Hd.td))) ∧ Below w0.heap.size w0 wr) (fun _ s4 _ => m - (intOf s4).toNat)
  case atStart => exact ⟨0, Nat.zero_le _, rfl, ⟨q1, d1, rfl, by rw [List.take_zero, List.map_nil, List.append_nil]; exact HO1.out⟩, HB1.out⟩
  case round =>
    clear HO1 HB1
    obtain ⟨k, hk, rfl, ⟨qk, dk, rfl, ho⟩, hb⟩ := hrel
    have HO := Lib.hid ho
    have HB := Lib.hid hb
    have HK := Lib.hid (HK0.out.below hb)
    have HBW : Hid (Below w.heap.size w wr) := Lib.hid (HB0.out.trans (hb.mono HB0.out.size))
    clear ho hb
    have kA := HK.out.c
    by_cases hlt : k < m
    · obtain ⟨b, off, rfl, hat⟩ := HAT.out k hlt
      obtain ⟨l0, c0, c1, c2⟩ := hat.below HBW.out
      have hkI : (k : Int) < (m : Int) := by omega
      have HTK := Lib.hid (HT.out k hlt)
      obtain ⟨y, hy⟩ : ∃ y, y = M.getD k zH := ⟨_, rfl⟩
      rw [← hy] at c0 c1 c2 HTK
      obtain ⟨⟨yc, yv⟩, ys⟩ := y
      dsimp only at c0 c1 c2 HTK
      obtain ⟨nk, hnk⟩ : ∃ z, z = n + k := ⟨_, rfl⟩
      rw [← hnk] at HO ⊢
      have HNK : Hid (n + (k + 1) = nk + 1) := Lib.hid (by omega)
      have HNB : Hid (nk ≤ 20000) := Lib.hid (by omega)
      have hnb := HNB.out
      clear hat hy hnk
      go_upto_region 5 with fail
      go_upto_region 4 with (first | (at_builtin; refine wpList_append_sl rfl _ _ 23 rfl w0.heap.size 28 i0 _ 2 16 Try.underlying23 HI.out.1 HI.out.2.1 HI.out.2.2.1 HI.out.2.2.2 rfl (by decide) _ nk (tdC (l ++ (M.take k).map Hd.td)) rfl (own_below HO.out ((Below.refl _ _).alloc (Nat.le_refl _) _)) (some ⟨wr.heap.size, 0, none⟩) 1 1 (tdC [⟨yc, yv⟩]) rfl rfl (blk_sl (Blk.new _ _ _)) (tdC_one _) (by unfold maxLen; omega) (by omega) (by have := HB.out.size; rw [World.size_alloc]; omega) ?_; intro v' w2 g1 g2 g3; obtain ⟨q', d', rfl, -⟩ := own_cap g1; have HO2 := Lib.hid g1; have HB2 : Hid (Below w0.heap.size w0 w2) := Lib.hid ((HB.out.alloc HB.out.size _).grown g2 (by have := HB.out.size; rw [World.size_alloc]; omega) (fun k hk => (HO.out.lt k hk).1)); clear g1 g2 g3 kA c0 c1 c2))
      go_wp2_with fail
      go_roundw
      case rel => exact ⟨k + 1, by omega, by go_num, ⟨q', d', by rw [HNK.out], by rw [HTK.out, HNK.out]; exact HO2.out⟩, HB2.out⟩
      case measure => simp [intOf]; omega
    · have hkn : k = m := by omega
      have hkI : ¬ (k : Int) < (m : Int) := by omega
      have HX : Hid (n + k = (allG ⟨M, l⟩).length ∧ l ++ (M.take k).map Hd.td = allG ⟨M, l⟩) := Lib.hid (by
        unfold allG
        dsimp only
        rw [List.length_append, List.length_map, HML.out, HLL.out, hkn]
        refine ⟨rfl, by rw [← HML.out, List.take_length]⟩)
      have HO2 : Hid (wr.ownsRow w.heap.size 28 2 (.slice qk (n + k) dk) (n + k) (tdC (allG ⟨M, l⟩))) := Lib.hid (by rw [← HX.out.2]; exact own_base HO.out HB0.out.size)
      clear hkn
      go_wp2_with fail
      go_ret
      exact ⟨qk, dk, by rw [← HX.out.1]; rfl, by rw [← HX.out.1]; exact HO2.out, HBW.out⟩

theorem from_takeH (l : List Hd) (t : Int) (i : Nat) (hi : i < l.length) : fromL (l.take (i + 1)) t = if (l.getD i zH).span < t then fromL (l.take i) t else fromL (l.take i) t ++ [l.getD i zH] := by
  rw [take_getD l zH i hi]
  unfold fromL
  rw [List.filter_append]
  split
  · rename_i h
    rw [List.filter_cons_of_neg (by rw [decide_eq_true_eq]; omega)]
    simp
  · rename_i h
    rw [List.filter_cons_of_pos (by rw [decide_eq_true_eq]; omega)]
    rfl
theorem below_takeH (l : List Hd) (t : Int) (i : Nat) (hi : i < l.length) : belowL (l.take (i + 1)) t = if (l.getD i zH).span < t then belowL (l.take i) t ++ [l.getD i zH] else belowL (l.take i) t := by
  rw [take_getD l zH i hi]
  unfold belowL
  rw [List.filter_append]
  split
  · rename_i h
    rw [List.filter_cons_of_pos (by simpa using h)]
    rfl
  · rename_i h
    rw [List.filter_cons_of_neg (by simpa using h)]
    simp
/-- Two lists of one's own, that share no block. -/
structure Two (base : Nat) (w : World) (a : Option Addr) (x c : Nat) (b : Option Addr) (y d : Nat) (A B : List Hd) : Prop where
  ao : w.ownsRow base 52 3 (.slice a x c) x (hdC A)
  bo : w.ownsRow base 52 3 (.slice b y d) y (hdC B)
  sep : ∀ g, (Value.slice a x c).ownBlock = some g → (Value.slice b y d).ownBlock ≠ some g
theorem Two.below {base : Nat} {w w' : World} {a : Option Addr} {x c : Nat} {b : Option Addr} {y d : Nat} {A B : List Hd} (h : Two base w a x c b y d A B) (hb : Below w.heap.size w w') : Two base w' a x c b y d A B := ⟨own_below h.ao hb, own_below h.bo hb, h.sep⟩
theorem Two.mono {base base' : Nat} {w : World} {a : Option Addr} {x c : Nat} {b : Option Addr} {y d : Nat} {A B : List Hd} (h : Two base w a x c b y d A B) (hb : base' ≤ base) : Two base' w a x c b y d A B := ⟨own_base h.ao hb, own_base h.bo hb, h.sep⟩
theorem Two.al {base : Nat} {w : World} {a : Option Addr} {x c : Nat} {b : Option Addr} {y d : Nat} {A B : List Hd} (h : Two base w a x c b y d A B) : A.length = x ∧ B.length = y := by
  have h1 := h.ao.1
  have h2 := h.bo.1
  rw [hdC_len] at h1 h2
  omega
theorem Two.moreA {base : Nat} {w w' : World} {a : Option Addr} {x c : Nat} {b : Option Addr} {y d : Nat} {A B A' : List Hd} (h : Two base w a x c b y d A B) {a' : Option Addr} {x' c' : Nat} (o1 : w'.ownsRow base 52 3 (.slice a' x' c') x' (hdC A')) (g1 : w.grownBy w' (Value.slice a x c).ownBlock) (b1 : (Value.slice a' x' c').ownBlock = (Value.slice a x c).ownBlock ∨ (Value.slice a' x' c').ownBlock = some w.heap.size) : Two base w' a' x' c' b y d A' B := by
  refine ⟨o1, h.bo.kept g1 ?_, fun g e e2 => ?_⟩
  · cases hv : (Value.slice b y d).ownBlock with
    | none => exact .inl rfl
    | some g => exact .inr (fun e => h.sep g e.symm hv)
  · rcases b1 with b1 | b1
    · exact h.sep g (by rw [← b1]; exact e) e2
    · rw [b1] at e; injection e with e; have := (h.bo.lt g e2).2; omega
theorem Two.moreB {base : Nat} {w w' : World} {a : Option Addr} {x c : Nat} {b : Option Addr} {y d : Nat} {A B B' : List Hd} (h : Two base w a x c b y d A B) {b' : Option Addr} {y' d' : Nat} (o1 : w'.ownsRow base 52 3 (.slice b' y' d') y' (hdC B')) (g1 : w.grownBy w' (Value.slice b y d).ownBlock) (b1 : (Value.slice b' y' d').ownBlock = (Value.slice b y d).ownBlock ∨ (Value.slice b' y' d').ownBlock = some w.heap.size) : Two base w' a x c b' y' d' A B' := by
  refine ⟨h.ao.kept g1 ?_, o1, fun g e e2 => ?_⟩
  · cases hv : (Value.slice a x c).ownBlock with
    | none => exact .inl rfl
    | some g => exact .inr (fun e => h.sep g hv e.symm)
  · rcases b1 with b1 | b1
    · exact h.sep g e (by rw [← b1]; exact e2)
    · rw [b1] at e2; injection e2 with e2; have := (h.ao.lt g e).2; omega

set_option maxHeartbeats 4000000 in
set_option maxRecDepth 100000 in
theorem rsplit_any (S : Nat → Prop) (v : Value) (L : Gt) (t : Int) (w : World) (h : Lo S w v L) : Calls Try.prog 26 #[v, .int .i64 t] w fun e w' => ∃ a x c b y d, e = .returned (.tuple #[.slice a x c, .slice b y d]) ∧ Two w.heap.size w' a x c b y d (belowL L.held t) (fromL L.held t) ∧ Below w.heap.size w w' := by
  obtain ⟨M, l⟩ := L
  obtain ⟨p, m, c, q, n, d, rfl, hc, -⟩ := h
  have hm := hc.m10
  dsimp only
  have HML : Hid (M.length = m) := Lib.hid hc.ml
  have HAT : Hid (∀ k, k < m → ∃ b off, p = some ⟨b, off, none⟩ ∧ HdAt w b off k (M.getD k zH)) := Lib.hid (fun k hk => hd_at hc.ms hc.ml k hk)
  have HTB : Hid (∀ k, k < m → belowL (M.take (k + 1)) t = if (M.getD k zH).span < t then belowL (M.take k) t ++ [M.getD k zH] else belowL (M.take k) t) := Lib.hid (fun k hk => below_takeH M t k (by rw [HML.out]; exact hk))
  have HTF : Hid (∀ k, k < m → fromL (M.take (k + 1)) t = if (M.getD k zH).span < t then fromL (M.take k) t else fromL (M.take k) t ++ [M.getD k zH]) := Lib.hid (fun k hk => from_takeH M t k (by rw [HML.out]; exact hk))
  obtain ⟨i0, hi, hz0, hz1, hz2⟩ := info_parts infoH
  have HI := Lib.hid (And.intro hi (And.intro hz0 (And.intro hz1 hz2)))
  clear hc hi hz0 hz1 hz2
  have HK0 : Hid (Blk (w.alloc (.cells #[.slice p m c, .slice q n d] 25)) w.heap.size #[.slice p m c, .slice q n d]) := Lib.hid (Blk.new _ _ _)
  have HB0 : Hid (Below w.heap.size w (w.alloc (.cells #[.slice p m c, .slice q n d] 25))) := Lib.hid ((Below.refl _ _).alloc (Nat.le_refl _) _)
  obtain ⟨w0, hw0⟩ : ∃ w0, w0 = w.alloc (.cells #[.slice p m c, .slice q n d] 25) := ⟨_, rfl⟩
  rw [← hw0] at HK0 HB0
  have HW0 := Lib.hid hw0
  clear hw0
  go_enter Try.func26, Try.ntmps26
  go_upto_region 1 with fail
  rw [← HW0.out]
  clear HW0
  go_wp2_with fail
  go_loopw [6, 7, 8] (fun s6 s7 s8 wr => ∃ k : Nat, k ≤ m ∧ s8 = .int .i64 k ∧ (∃ a x c b y d, s6 = .slice a x c ∧ s7 = .slice b y d ∧ Two w0.heap.size wr a x c b y d (belowL (M.take k) t) (fromL (M.take k) t)) ∧ Below w0.heap.size w0 wr) (fun _ _ s8 _ => m - (intOf s8).toNat)
  case atStart => exact ⟨0, Nat.zero_le _, rfl, ⟨none, 0, 0, none, 0, 0, rfl, rfl, ⟨World.ownsRow_nil _ _ _ _, World.ownsRow_nil _ _ _ _, fun g e => (by cases e)⟩⟩, Below.refl _ _⟩
  case round =>
    obtain ⟨k, hk, rfl, ⟨a, x, ca, b, y, cb, rfl, rfl, ho⟩, hb⟩ := hrel
    have HO := Lib.hid ho
    have HB := Lib.hid hb
    have HK := Lib.hid (HK0.out.below hb)
    have HBW : Hid (Below w.heap.size w wr) := Lib.hid (HB0.out.trans (hb.mono HB0.out.size))
    have hx : x ≤ 10000 := by rw [← ho.al.1]; exact Nat.le_trans (List.length_filter_le _ _) (by rw [List.length_take]; omega)
    have hy : y ≤ 10000 := by rw [← ho.al.2]; exact Nat.le_trans (List.length_filter_le _ _) (by rw [List.length_take]; omega)
    clear ho hb
    have kA := HK.out.c
    by_cases hlt : k < m
    · obtain ⟨gb, off, rfl, hat⟩ := HAT.out k hlt
      obtain ⟨l0, c0, c1, c2⟩ := hat.below HBW.out
      have hkI : (k : Int) < (m : Int) := by omega
      have HTBK := Lib.hid (HTB.out k hlt)
      have HTFK := Lib.hid (HTF.out k hlt)
      obtain ⟨z, hz⟩ : ∃ z, z = M.getD k zH := ⟨_, rfl⟩
      rw [← hz] at c0 c1 c2 HTBK HTFK
      obtain ⟨⟨zc, zv⟩, zs⟩ := z
      dsimp only at c0 c1 c2 HTBK HTFK
      obtain ⟨A, hA⟩ : ∃ z, z = belowL (M.take k) t := ⟨_, rfl⟩
      obtain ⟨B, hB⟩ : ∃ z, z = fromL (M.take k) t := ⟨_, rfl⟩
      rw [← hA] at HTBK HO
      rw [← hB] at HTFK HO
      clear hat hz hA hB
      by_cases hc : zs < t
      · have e1 : decide (zs < t) = true := decide_eq_true hc
        have HT1 : Hid (belowL (M.take (k + 1)) t = A ++ [⟨⟨zc, zv⟩, zs⟩]) := Lib.hid (by rw [HTBK.out, if_pos hc])
        have HT2 : Hid (fromL (M.take (k + 1)) t = B) := Lib.hid (by rw [HTFK.out, if_pos hc])
        clear hc HTBK HTFK
        go_upto_region 6 with fail
        go_upto_region 4 with (first | (at_builtin; refine wpList_append_sl rfl _ _ 22 rfl w0.heap.size 52 i0 _ 3 24 Try.underlying22 HI.out.1 HI.out.2.1 HI.out.2.2.1 HI.out.2.2.2 rfl (by decide) _ x (hdC A) rfl (own_below HO.out.ao ((Below.refl _ _).alloc (Nat.le_refl _) _)) (some ⟨wr.heap.size, 0, none⟩) 1 1 (hdC [⟨⟨zc, zv⟩, zs⟩]) rfl rfl (blk_sl (Blk.new _ _ _)) (hdC_one _) (by unfold maxLen; omega) (by omega) (by have := HB.out.size; rw [World.size_alloc]; omega) ?_; intro v' w2 g1 g2 g3; obtain ⟨q', d', rfl, -⟩ := own_cap g1; have HO2 := Lib.hid ((HO.out.below ((Below.refl _ _).alloc (Nat.le_refl _) (.cells #[.int .i64 zc, .int .u32 zv, .int .i64 zs] 52))).moreA (A' := A ++ [⟨⟨zc, zv⟩, zs⟩]) (by rw [hdC_app]; exact g1) g2 g3); have HB2 : Hid (Below w0.heap.size w0 w2) := Lib.hid ((HB.out.alloc HB.out.size _).grown g2 (by have := HB.out.size; rw [World.size_alloc]; omega) (fun k hk => (HO.out.ao.lt k hk).1)); clear g1 g2 g3 kA c0 c1 c2))
        go_wp2_with fail
        go_roundw
        case rel => exact ⟨k + 1, by omega, by go_num, ⟨q', x + 1, d', b, y, cb, rfl, rfl, by rw [HT1.out, HT2.out]; exact HO2.out⟩, HB2.out⟩
        case measure => simp [intOf]; omega
      · have e1 : decide (zs < t) = false := decide_eq_false hc
        have HT1 : Hid (belowL (M.take (k + 1)) t = A) := Lib.hid (by rw [HTBK.out, if_neg hc])
        have HT2 : Hid (fromL (M.take (k + 1)) t = B ++ [⟨⟨zc, zv⟩, zs⟩]) := Lib.hid (by rw [HTFK.out, if_neg hc])
        clear hc HTBK HTFK
        go_upto_region 7 with fail
        go_upto_region 4 with (first | (at_builtin; refine wpList_append_sl rfl _ _ 22 rfl w0.heap.size 52 i0 _ 3 24 Try.underlying22 HI.out.1 HI.out.2.1 HI.out.2.2.1 HI.out.2.2.2 rfl (by decide) _ y (hdC B) rfl (own_below HO.out.bo ((Below.refl _ _).alloc (Nat.le_refl _) _)) (some ⟨wr.heap.size, 0, none⟩) 1 1 (hdC [⟨⟨zc, zv⟩, zs⟩]) rfl rfl (blk_sl (Blk.new _ _ _)) (hdC_one _) (by unfold maxLen; omega) (by omega) (by have := HB.out.size; rw [World.size_alloc]; omega) ?_; intro v' w2 g1 g2 g3; obtain ⟨q', d', rfl, -⟩ := own_cap g1; have HO2 := Lib.hid ((HO.out.below ((Below.refl _ _).alloc (Nat.le_refl _) (.cells #[.int .i64 zc, .int .u32 zv, .int .i64 zs] 52))).moreB (B' := B ++ [⟨⟨zc, zv⟩, zs⟩]) (by rw [hdC_app]; exact g1) g2 g3); have HB2 : Hid (Below w0.heap.size w0 w2) := Lib.hid ((HB.out.alloc HB.out.size _).grown g2 (by have := HB.out.size; rw [World.size_alloc]; omega) (fun k hk => (HO.out.bo.lt k hk).1)); clear g1 g2 g3 kA c0 c1 c2))
        go_wp2_with fail
        go_roundw
        case rel => exact ⟨k + 1, by omega, by go_num, ⟨a, x, ca, q', y + 1, d', rfl, rfl, by rw [HT1.out, HT2.out]; exact HO2.out⟩, HB2.out⟩
        case measure => simp [intOf]; omega
    · have hkn : k = m := by omega
      have hkI : ¬ (k : Int) < (m : Int) := by omega
      have HO2 : Hid (Two w.heap.size wr a x ca b y cb (belowL M t) (fromL M t)) := Lib.hid (by
        have := HO.out.mono HB0.out.size
        rw [hkn, ← HML.out, List.take_length] at this; exact this)
      clear hkn
      go_wp2_with fail
      exact bodyPost_ret (v := .tuple #[.slice a x ca, .slice b y cb]) (by simp [results, Try.results26, go_sem]) rfl ⟨a, x, ca, b, y, cb, rfl, HO2.out, HBW.out⟩
end Go.Proofs.Yteffmidpinlpjaa
