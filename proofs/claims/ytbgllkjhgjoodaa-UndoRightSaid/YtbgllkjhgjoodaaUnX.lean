/- A new log, and a log trimmed, by the document's own; no condition but that they read. -/
import Derived.Test.YtbgllkjhgjoodaaUnT
import Derived.Test.YtbgllkjhgjoodaaUnP
namespace Go.Proofs.Ytbgllkjhgjoodaa
set_option linter.unusedVariables false
set_option linter.unusedSimpArgs false
open Go.ChangeShapes Go.WideShapes Go.ChangeAt Go.RowKit

/-- The blocks that a call makes first are none of S. -/
def Ex (S : Nat → Prop) (w : World) : Nat → Prop := fun R => S R ∨ R = w.heap.size ∨ R = w.heap.size + 1
theorem Lo.ex {S : Nat → Prop} {w : World} {v : Value} {L : Lg} (h : Lo S w v L) : Lo (Ex S w) w v L := h.later (fun R hR => by
  rcases hR with h | h | h
  · exact .inl h
  · exact .inr (by omega)
  · exact .inr (by omega))
theorem Lo.unex {S : Nat → Prop} {w W : World} {v : Value} {L : Lg} (h : Lo (Ex S w) W v L) : Lo S W v L := h.weak (fun R hR => .inl hR)
theorem trim_no {L : Lg} {t : Int} (e : okB L t = false) : trimL L t = L ∧ backL L t = L ∧ backE L t = 1 := by unfold trimL backL backE; rw [e]; exact ⟨rfl, rfl, rfl⟩
theorem trim_yes {L : Lg} {t : Int} (e : okB L t = true) : trimL L t = ⟨L.mem, L.span, fromL L.list t⟩ ∧ backL L t = ⟨undoM (fromL L.list t) L.mem, t, belowL L.list t⟩ ∧ backE L t = 0 := by unfold trimL backL backE; rw [e]; exact ⟨rfl, rfl, rfl⟩
theorem okB_cases (L : Lg) (t : Int) (r : Bool) (hr : r = rightL L) : okB L t = (r && (decide (0 ≤ t) && decide (t ≤ L.span))) := by
  unfold okB
  rw [hr, Bool.decide_and]
theorem from_take (l : List Un) (t : Int) (i : Nat) (hi : i < l.length) : fromL (l.take (i + 1)) t = if t ≤ (l.getD i zU).span then fromL (l.take i) t ++ [l.getD i zU] else fromL (l.take i) t := by
  rw [take_getD l zU i hi, fromL_app]
  split
  · rename_i h
    unfold fromL
    rw [List.filter_cons_of_pos (by simpa using h)]
    rfl
  · rename_i h
    unfold fromL
    rw [List.filter_cons_of_neg (by simpa using h)]
    simp
theorem below_take (l : List Un) (t : Int) (i : Nat) (hi : i < l.length) : belowL (l.take (i + 1)) t = if (l.getD i zU).span < t then belowL (l.take i) t ++ [l.getD i zU] else belowL (l.take i) t := by
  rw [take_getD l zU i hi]
  unfold belowL
  rw [List.filter_append]
  split
  · rename_i h
    rw [List.filter_cons_of_pos (by simpa using h)]
    rfl
  · rename_i h
    rw [List.filter_cons_of_neg (by simpa using h)]
    simp

set_option maxHeartbeats 2000000 in
theorem rnew_any (S : Nat → Prop) (k : Int) (w : World) (hS : ∀ R, S R → R < w.heap.size) : Calls Try.prog 15 #[.int .i64 k] w fun e w' => OutL S w w' e (newL k) (newE k) := by
  have HNO : Hid (¬ (1 ≤ k ∧ k ≤ 64) → newL k = ⟨[], 0, []⟩ ∧ newE k = 1) := Lib.hid (fun h => by
    have : sizeB k = false := decide_eq_false h
    unfold newL newE; rw [this]; exact ⟨rfl, rfl⟩)
  have HYES : Hid ((1 ≤ k ∧ k ≤ 64) → newL k = ⟨List.replicate k.toNat 0, 0, []⟩ ∧ newE k = 0) := Lib.hid (fun h => by
    have : sizeB k = true := decide_eq_true h
    unfold newL newE; rw [this]; exact ⟨rfl, rfl⟩)
  obtain ⟨L, hL⟩ : ∃ L, L = newL k := ⟨_, rfl⟩
  obtain ⟨E, hE⟩ : ∃ E, E = newE k := ⟨_, rfl⟩
  rw [← hL, ← hE] at HNO HYES ⊢
  clear hL hE
  obtain ⟨i0, hi, hz0, hz1, hz2⟩ := info_parts info26
  have HI := Lib.hid (And.intro hi (And.intro hz0 (And.intro hz1 hz2)))
  clear hi hz0 hz1 hz2
  obtain ⟨w0, hw0⟩ : ∃ w0, w0 = w.alloc (.cells #[.slice none 0 0, .int .i64 0, .slice none 0 0] 25) := ⟨_, rfl⟩
  have HB0 : Hid (Below w.heap.size w w0) := Lib.hid (by rw [hw0]; exact (Below.refl _ _).alloc (Nat.le_refl _) _)
  have HK0 : Hid (Blk w0 w.heap.size #[.slice none 0 0, .int .i64 0, .slice none 0 0]) := Lib.hid (by rw [hw0]; exact Blk.new _ _ _)
  have HSZ : Hid (w0.heap.size = w.heap.size + 1) := Lib.hid (by rw [hw0]; exact World.size_alloc _ _)
  have HW0 := Lib.hid hw0
  clear hw0
  go_enter Try.func15, Try.ntmps15
  go_upto_region 1 with fail
  rw [← HW0.out]
  clear HW0
  by_cases g1 : k < 1
  · have e1 : decide (k < 1) = true := decide_eq_true g1
    obtain ⟨hC, hE⟩ := HNO.out (by omega)
    subst hC hE
    clear HNO HYES HI
    have kK := HK0.out.c
    have fK := HK0.out.f
    have lK := HK0.out.lt
    go_wp2_with fail
    refine bodyPost_ret (v := .tuple #[.agg #[.slice none 0 0, .int .i64 0, .slice none 0 0], .int .i64 1]) (by simp [results, Try.results15, go_sem, *]) rfl ⟨_, rfl, OwnL.out (base := w.heap.size + 1) (p := none) (m := 0) (c := 0) (q := none) (n := 0) (d := 0) (L := ⟨[], 0, []⟩) ⟨World.ownsRow_nil _ _ _ _, World.ownsRow_nil _ _ _ _, fun g e => (by cases e), Nat.zero_le _, Nat.zero_le _⟩ (fun R hR => by have := hS R hR; omega), ?_⟩
    exact set3_below HB0.out (Nat.le_refl _) _ _ _
  have e1 : decide (k < 1) = false := decide_eq_false g1
  by_cases g2 : 64 < k
  · have e2 : decide (64 < k) = true := decide_eq_true g2
    obtain ⟨hC, hE⟩ := HNO.out (by omega)
    subst hC hE
    clear HNO HYES HI
    have kK := HK0.out.c
    have fK := HK0.out.f
    have lK := HK0.out.lt
    go_wp2_with fail
    refine bodyPost_ret (v := .tuple #[.agg #[.slice none 0 0, .int .i64 0, .slice none 0 0], .int .i64 1]) (by simp [results, Try.results15, go_sem, *]) rfl ⟨_, rfl, OwnL.out (base := w.heap.size + 1) (p := none) (m := 0) (c := 0) (q := none) (n := 0) (d := 0) (L := ⟨[], 0, []⟩) ⟨World.ownsRow_nil _ _ _ _, World.ownsRow_nil _ _ _ _, fun g e => (by cases e), Nat.zero_le _, Nat.zero_le _⟩ (fun R hR => by have := hS R hR; omega), ?_⟩
    exact set3_below HB0.out (Nat.le_refl _) _ _ _
  have e2 : decide (64 < k) = false := decide_eq_false g2
  obtain ⟨hC, hE⟩ := HYES.out (by omega)
  obtain ⟨N, rfl⟩ := Int.eq_ofNat_of_zero_le (show 0 ≤ k by omega)
  rw [Int.toNat_natCast] at hC
  subst hC hE
  have hN8 : N ≤ 64 := by omega
  clear HNO HYES
  have kK := HK0.out.c
  have fK := HK0.out.f
  have lK := HK0.out.lt
  go_wp2_with (first | (refine wpList_make_full _ rfl _ _ 22 rfl w0.heap.size 26 i0 (.int .u32 0) 1 Try.underlying22 HI.out.1 HI.out.2.1 HI.out.2.2.1 .i64 .i64 N N N rfl rfl rfl rfl (by rw [HI.out.2.2.2]; omega) (by unfold maxLen; omega) (Nat.le_refl _) ?_))
  intro w1 g1 g2
  have e1 : (madeCells #[Value.int .u32 0] N).toList = List.replicate N (.int .u32 0) := toList_madeCells_one _ _
  have HO : Hid (w1.ownsRow (w.heap.size + 1) 26 1 (.slice (some ⟨w0.heap.size, 0, none⟩) N N) N (wdC (List.replicate N 0))) := Lib.hid (by rw [← wdC_rep, ← e1]; exact own_base g1 (by rw [HSZ.out]; exact Nat.le_refl _))
  have HB1 : Hid (Below w0.heap.size w0 w1) := Lib.hid ((Below.refl _ _).grown g2 (Nat.le_refl _) (fun k hk => by cases hk))
  have HK1 := Lib.hid (HK0.out.below HB1.out)
  have HBW : Hid (Below w.heap.size w w1) := Lib.hid (HB0.out.trans (HB1.out.mono HB0.out.size))
  obtain ⟨g, hg⟩ : ∃ g, g = w0.heap.size := ⟨_, rfl⟩
  rw [← hg] at HO ⊢
  clear g1 g2 e1 hg HB1 HK0 HSZ HB0 kK fK lK
  have kK := HK1.out.c
  have fK := HK1.out.f
  have lK := HK1.out.lt
  go_wp2_with fail
  refine bodyPost_ret (v := .tuple #[.agg #[.slice (some ⟨g, 0, none⟩) N N, .int .i64 0, .slice none 0 0], .int .i64 0]) (by simp [results, Try.results15, go_sem, *]) rfl ⟨_, rfl, OwnL.out (base := w.heap.size + 1) (OwnL.setOff3 (L := ⟨List.replicate N 0, 0, []⟩) ⟨HO.out, World.ownsRow_nil _ _ _ _, fun g e => (by intro e2; cases e2), by omega, Nat.zero_le _⟩ (by omega) _ _ _) (fun R hR => by have := hS R hR; omega), ?_⟩
  exact set3_below HBW.out (Nat.le_refl _) _ _ _

set_option maxHeartbeats 16000000 in
set_option maxRecDepth 100000 in
theorem rtrim_any (S : Nat → Prop) (v : Value) (L : Lg) (t : Int) (w : World) (h : Lo S w v L) (hS : ∀ R, S R → R < w.heap.size) : Calls Try.prog 13 #[v, .int .i64 t] w fun e w' => OutL S w w' e (trimL L t) (backE L t) := by
  have HSS := Lib.hid hS
  have hx := h.ex
  have HR := Lib.hid (fun W (hW : Below w.heap.size w W) => rright_any S v L W (h.below hW))
  obtain ⟨p, m, c, q, n, d, rfl, hc, -⟩ := h
  have HC := Lib.hid hc
  have HX := Lib.hid hx
  have hm := hc.m10
  have hn := hc.n10
  have HML : Hid (L.mem.length = m) := Lib.hid hc.ml
  have HLL : Hid (L.list.length = n) := Lib.hid hc.ll
  have HOK := Lib.hid (fun r (hr : r = rightL L) => okB_cases L t r hr)
  have HNO : Hid ((!okB L t) = true → trimL L t = L ∧ backE L t = 1) := Lib.hid (fun e => ⟨(trim_no (by simpa using e)).1, (trim_no (by simpa using e)).2.2⟩)
  have HYES : Hid ((!okB L t) = false → trimL L t = ⟨L.mem, L.span, fromL L.list t⟩ ∧ backE L t = 0) := Lib.hid (fun e => ⟨(trim_yes (by simpa using e)).1, (trim_yes (by simpa using e)).2.2⟩)
  obtain ⟨r, hr⟩ : ∃ z, z = rightL L := ⟨_, rfl⟩
  obtain ⟨o, ho⟩ : ∃ z, z = !okB L t := ⟨_, rfl⟩
  have hok := HOK.out r hr
  rw [← hr] at HR
  have hok : (!okB L t) = !(r && (decide (0 ≤ t) && decide (t ≤ L.span))) := by rw [hok]
  rw [← ho] at HNO HYES hok
  obtain ⟨s, hs⟩ : ∃ z, z = L.span := ⟨_, rfl⟩
  rw [← hs] at HR HX hok ⊢
  have HS : Hid (L.span = s) := Lib.hid hs.symm
  have HO := Lib.hid hok
  clear hr ho hok HOK hs hc hx hS
  obtain ⟨w0, hw0⟩ : ∃ w0, w0 = (w.alloc (.cells #[.slice p m c, .int .i64 s, .slice q n d] 25)).alloc (.cells #[.slice none 0 0, .int .i64 0, .slice none 0 0] 25) := ⟨_, rfl⟩
  have HB0 : Hid (Below w.heap.size w w0) := Lib.hid (by rw [hw0]; exact ((Below.refl _ _).alloc (Nat.le_refl _) _).alloc (by simp) _)
  have HA0 : Hid (Blk w0 w.heap.size #[.slice p m c, .int .i64 s, .slice q n d]) := Lib.hid (by rw [hw0]; exact (Blk.new _ _ _).alloc _)
  have HT0 : Hid (Blk w0 (w.heap.size + 1) #[.slice none 0 0, .int .i64 0, .slice none 0 0]) := Lib.hid (by
    have := Blk.new (w.alloc (.cells #[.slice p m c, .int .i64 s, .slice q n d] 25)) #[.slice none 0 0, .int .i64 0, .slice none 0 0] 25
    rw [World.size_alloc] at this
    rw [hw0]; exact this)
  have HSZ : Hid (w0.heap.size = w.heap.size + 2) := Lib.hid (by rw [hw0, World.size_alloc, World.size_alloc])
  have HW0 := Lib.hid hw0
  clear hw0
  go_enter Try.func13, Try.ntmps13
  have kA := HA0.out.c
  go_upto_region 1 with fail
  rw [← HW0.out]
  clear HW0
  go_cut [20] (fun s20 wd => s20 = .bool o ∧ Below w0.heap.size w0 wd)
  case first =>
    go_wp2_with fail
    refine (HR.out w0 HB0.out).mono ?_
    rintro e w3 ⟨rfl, hb⟩
    have HBB := Lib.hid hb
    have HA := Lib.hid (HA0.out.below hb)
    clear hb kA
    have kA := HA.out.c
    cases r with
    | false =>
      have HE : Hid (o = true) := Lib.hid (by rw [HO.out]; rfl)
      go_wp2_with fail
      go_meet
      case rel => exact ⟨by rw [HE.out], HBB.out⟩
    | true =>
      by_cases g1 : t < 0
      · have e1 : decide (t < 0) = true := decide_eq_true g1
        have HE : Hid (o = true) := Lib.hid (by rw [HO.out, decide_eq_false (show ¬ 0 ≤ t by omega)]; rfl)
        go_wp2_with fail
        go_meet
        case rel => exact ⟨by rw [HE.out], HBB.out⟩
      · have e1 : decide (t < 0) = false := decide_eq_false g1
        by_cases g2 : s < t
        · have e2 : decide (s < t) = true := decide_eq_true g2
          have HE : Hid (o = true) := Lib.hid (by rw [HO.out, decide_eq_true (show 0 ≤ t by omega), decide_eq_false (show ¬ t ≤ s by omega)]; rfl)
          go_wp2_with fail
          go_meet
          case rel => exact ⟨by rw [HE.out], HBB.out⟩
        · have e2 : decide (s < t) = false := decide_eq_false g2
          have HE : Hid (o = false) := Lib.hid (by rw [HO.out, decide_eq_true (show 0 ≤ t by omega), decide_eq_true (show t ≤ s by omega)]; rfl)
          go_wp2_with fail
          go_meet
          case rel => exact ⟨by rw [HE.out], HBB.out⟩
  case rest =>
    obtain ⟨rfl, hb⟩ := hcut
    obtain ⟨w3, rfl⟩ : ∃ z, z = wc := ⟨_, rfl⟩
    have HA := Lib.hid (HA0.out.below hb)
    have HT := Lib.hid (HT0.out.below hb)
    have HB : Hid (Below w.heap.size w w3) := Lib.hid (HB0.out.trans (hb.mono HB0.out.size))
    have HZ : Hid (w.heap.size + 2 ≤ w3.heap.size) := Lib.hid (by rw [← HSZ.out]; exact hb.size)
    clear hb kA HA0 HT0 HB0 HSZ HR
    have kA := HA.out.c
    cases o with
    | true =>
      have HN := Lib.hid (HNO.out (by first | rfl | trivial))
      have kT := HT.out.c
      have fT := HT.out.f
      have lT := HT.out.lt
      clear HNO HYES HO
      go_wp2_with fail
      refine bodyPost_ret (v := .tuple #[.agg #[.slice p m c, .int .i64 s, .slice q n d], .int .i64 1]) (by simp [results, Try.results13, go_sem, *]) rfl ⟨_, by rw [HN.out.2], by rw [HN.out.1]; exact ((HX.out.below HB.out).set3 (R := w.heap.size + 1) (.inr (.inr rfl)) _ _ _).unex, set3_below HB.out (Nat.le_succ _) _ _ _⟩
    | false =>
      have HN := Lib.hid (HYES.out (by first | rfl | trivial))
      clear HNO HYES HO kA
      obtain ⟨i0, hi, hz0, hz1, hz2⟩ := info_parts info51
      have HI := Lib.hid (And.intro hi (And.intro hz0 (And.intro hz1 hz2)))
      clear hi hz0 hz1 hz2
      go_wp2_with fail
      go_loopw [6, 7] (fun s6 s7 wr => ∃ (i : Nat) (q' : Option Addr) (n' d' : Nat), i ≤ n ∧ s7 = .int .i64 i ∧ s6 = .slice q' n' d' ∧ n' ≤ i ∧ wr.ownsRow (w.heap.size + 2) 51 3 (.slice q' n' d') n' (unC (fromL (L.list.take i) t)) ∧ Blk wr w.heap.size #[.slice p m c, .int .i64 s, .slice q n d] ∧ Blk wr (w.heap.size + 1) #[.slice none 0 0, .int .i64 0, .slice none 0 0] ∧ Below w.heap.size w wr ∧ w.heap.size + 2 ≤ wr.heap.size) (fun _ s7 _ => n - (intOf s7).toNat)
      case atStart => exact ⟨0, none, 0, 0, Nat.zero_le _, rfl, rfl, Nat.le_refl _, World.ownsRow_nil _ _ _ _, HA.out, HT.out, HB.out, HZ.out⟩
      case round =>
        clear HA HT HB HZ
        obtain ⟨i, q', n', d', hi, rfl, rfl, hni, how, ha, ht, hb, hz⟩ := hrel
        have HOW := Lib.hid how
        have HA := Lib.hid ha
        have HT := Lib.hid ht
        have HB := Lib.hid hb
        have HZ := Lib.hid hz
        clear how ha ht hb hz
        have kA := HA.out.c
        by_cases hlt : i < n
        · have hiI : decide ((i : Int) < (n : Int)) = true := decide_eq_true (by omega)
          obtain ⟨gu, ou, rfl, hat⟩ := (HC.out.below HB.out).unAt i hlt
          have HTK := Lib.hid (from_take L.list t i (by rw [HLL.out]; exact hlt))
          obtain ⟨⟨us, ua, uv⟩, hu⟩ : ∃ u, L.list.getD i zU = u := ⟨_, rfl⟩
          rw [hu] at hat HTK
          have c0 := hat.c0
          have c1 := hat.c1
          have c2 := hat.c2
          dsimp only at c0 c1 c2
          have hiI1 : (0 : Int) ≤ (i : Int) := by omega
          have hiI2 : (i : Int) < (n : Int) := by omega
          clear hu hat
          by_cases hge : t ≤ us
          · have e1 : decide (t ≤ us) = true := decide_eq_true hge
            have HT2 : Hid (fromL (L.list.take (i + 1)) t = fromL (L.list.take i) t ++ [⟨us, ua, uv⟩]) := Lib.hid (by rw [HTK.out, if_pos hge])
            clear HTK hge
            go_wp2_with (first | (at_builtin; refine wpList_append_sl rfl _ _ 23 rfl (w.heap.size + 2) 51 i0 _ 3 24 Try.underlying23 HI.out.1 HI.out.2.1 HI.out.2.2.1 HI.out.2.2.2 rfl (by decide) _ n' (unC (fromL (L.list.take i) t)) rfl (own_below HOW.out ((Below.refl _ _).alloc (Nat.le_refl _) _)) (some ⟨wr.heap.size, 0, none⟩) 1 1 (unC [⟨us, ua, uv⟩]) rfl rfl (blk_sl (Blk.new _ _ _)) (unC_oneCell _) (by unfold maxLen; omega) (by omega) (by rw [size_new]; have := HZ.out; omega) ?_))
            intro v' w7 g1 g2 g3
            have hob : ∀ g, (Value.slice q' n' d').ownBlock = some g → w.heap.size + 2 ≤ g := fun g e => (HOW.out.lt g e).1
            have ha7 := (HA.out.alloc (.cells #[.int .i64 us, .int .i64 ua, .int .u32 uv] 51)).grown g2 (fun e => by have := hob _ e; omega)
            have ht7 := (HT.out.alloc (.cells #[.int .i64 us, .int .i64 ua, .int .u32 uv] 51)).grown g2 (fun e => by have := hob _ e; omega)
            have hb7 := (HB.out.alloc HB.out.size (.cells #[.int .i64 us, .int .i64 ua, .int .u32 uv] 51)).grown g2 (Nat.le_trans HB.out.size (by rw [size_new]; omega)) (fun g e => by have := hob g e; omega)
            have hz7 : w.heap.size + 2 ≤ w7.heap.size := Nat.le_trans (Nat.le_trans HZ.out (by rw [size_new]; omega)) g2.size
            obtain ⟨q2, d2, rfl, -⟩ := own_cap g1
            have HOW7 : Hid (w7.ownsRow (w.heap.size + 2) 51 3 (.slice q2 (n' + 1) d2) (n' + 1) (unC (fromL (L.list.take (i + 1)) t))) := Lib.hid (by rw [HT2.out, unC_app]; exact g1)
            have HA7 := Lib.hid ha7
            have HT7 := Lib.hid ht7
            have HB7 := Lib.hid hb7
            have HZ7 := Lib.hid hz7
            clear g1 g2 g3 hob ha7 ht7 hb7 hz7 HT2 HOW HA HT HB HZ kA
            go_wp2_with fail
            go_roundw
            case rel => exact ⟨i + 1, _, _, _, by omega, by go_num, rfl, by omega, HOW7.out, HA7.out, HT7.out, HB7.out, HZ7.out⟩
            case measure => simp [intOf]; omega
          · have e1 : decide (t ≤ us) = false := decide_eq_false hge
            have HT2 : Hid (fromL (L.list.take (i + 1)) t = fromL (L.list.take i) t) := Lib.hid (by rw [HTK.out, if_neg hge])
            clear HTK hge
            go_wp2_with fail
            go_roundw
            case rel => exact ⟨i + 1, _, _, _, by omega, by go_num, rfl, by omega, by rw [HT2.out]; exact HOW.out, HA.out, HT.out, HB.out, HZ.out⟩
            case measure => simp [intOf]; omega
        · have hiI : decide ((i : Int) < (n : Int)) = false := decide_eq_false (by omega)
          have HOW2 : Hid (wr.ownsRow (w.heap.size + 2) 51 3 (.slice q' n' d') n' (unC (fromL L.list t))) := Lib.hid (by
            have h1 := HOW.out
            rwa [show i = L.list.length by rw [HLL.out]; omega, List.take_length] at h1)
          have fA := HA.out.f
          have lA := HA.out.lt
          go_upto_region 10 with fail
          obtain ⟨wx, hwx⟩ : ∃ z, z = wr.setCell ⟨w.heap.size, 2, none⟩ (.slice q' n' d') := ⟨_, rfl⟩
          have HAX : Hid (Blk wx w.heap.size #[.slice p m c, .int .i64 s, .slice q' n' d']) := Lib.hid (by rw [hwx]; exact HA.out.set (n := 2) (.slice q' n' d') (by simp))
          have HTX : Hid (Blk wx (w.heap.size + 1) #[.slice none 0 0, .int .i64 0, .slice none 0 0]) := Lib.hid (by rw [hwx]; exact HT.out.other _ (by omega))
          have HBX : Hid (Below w.heap.size w wx) := Lib.hid (by rw [hwx]; exact HB.out.setCell (Nat.le_refl _) _)
          have HLX : Hid (Lo (Ex S w) wx (.agg #[.slice p m c, .int .i64 s, .slice q' n' d']) ⟨L.mem, L.span, fromL L.list t⟩) := Lib.hid (by
            rw [hwx]
            refine Lo.set (R := w.heap.size) ?_ (.inr (.inl rfl)) _ _
            obtain ⟨p', m', c', q2, n2, d2, e, hcx, hox⟩ := HX.out.below HB.out
            injection e with e
            simp at e
            obtain ⟨⟨rfl, rfl, rfl⟩, _, rfl, rfl, rfl⟩ := e
            obtain ⟨_, _, e, hsl⟩ := Sl.own HOW2.out
            injection e with e1 e2 e3
            subst e1 e3
            obtain ⟨_, _, e, hcap⟩ := own_cap HOW2.out
            injection e with e1 e2 e3
            subst e1 e3
            have hl2 := HOW2.out.1
            rw [unC_len] at hl2
            refine ⟨p, m, c, q', n', d', by rw [HS.out], ⟨hcx.ml, by show (fromL L.list t).length = n'; omega, hcx.ms, hsl, hcx.mc, hcap, hm, by omega⟩, fun R hR => ⟨(hox R hR).1, own_offR HOW2.out ?_⟩⟩
            rcases hR with h | h | h
            · have := HSS.out R h; omega
            · omega
            · omega)
          rw [← hwx]
          clear hwx HA HT HB HOW HOW2 kA fA lA
          have kA := HAX.out.c
          have kT := HTX.out.c
          have fT := HTX.out.f
          have lT := HTX.out.lt
          go_wp2_with fail
          refine bodyPost_ret (v := .tuple #[.agg #[.slice p m c, .int .i64 s, .slice q' n' d'], .int .i64 0]) (by simp [results, Try.results13, go_sem, *]) rfl ⟨_, by rw [HN.out.2], by rw [HN.out.1]; exact (HLX.out.set3 (R := w.heap.size + 1) (.inr (.inr rfl)) _ _ _).unex, set3_below HBX.out (Nat.le_succ _) _ _ _⟩
end Go.Proofs.Ytbgllkjhgjoodaa
