/- Laid together, in this order: PoolA, PoolB, PgB, PoolC, PgC, PgD, PgE, PgF, PgH, PoolD, PoolF, PgP. -/
import Derived.Test.YtmeomdfmljanhaaGreatZe
import Derived.Deep.RegionLaw
import Derived.Lib.SliceRun
import Derived.ArgAppend
set_option linter.unusedSimpArgs false
set_option linter.unusedVariables false
/- What package pool asks of a pool: whether it is right, what room it has, whether there is such a frame; pools in memory, as they read; no condition but that they read and are of 100 frames of 100 bytes at most. -/
namespace Go.Proofs.YtmeomdfmljanhaaGreat
set_option linter.unusedVariables false
open Go.ChangeShapes Go.WideShapes Go.ChangeAt Go.RowKit

def vz : Value := .bool false
/-- A value that reads as a frame. -/
def Fs (w : World) (v : Value) (l : List Nat) : Prop := ∃ p c, v = .slice p l.length c ∧ l.length ≤ c ∧ Byts w p l
theorem Fs.below {w w' : World} {v : Value} {l : List Nat} (h : Fs w v l) (hb : Below w.heap.size w w') : Fs w' v l := by
  obtain ⟨p, c, e, hc, h⟩ := h
  exact ⟨p, c, e, hc, h.below hb⟩
theorem Fs.one {w : World} {v : Value} {l : List Nat} (h : Fs w v l) : v.oneCell' = true := by
  obtain ⟨p, c, rfl, _⟩ := h
  rfl
/-- A pool that reads as these frames. -/
structure Pl (w : World) (p : Option Addr) (xs : List Value) (L : List (List Nat)) : Prop where
  len : xs.length = L.length
  sl : Sl w p L.length xs
  fs : ∀ k, k < L.length → Fs w (xs.getD k vz) (L.getD k [])
  n100 : L.length ≤ 100
  l100 : ∀ l ∈ L, l.length ≤ 100
theorem Pl.below {w w' : World} {p : Option Addr} {xs : List Value} {L : List (List Nat)} (h : Pl w p xs L) (hb : Below w.heap.size w w') : Pl w' p xs L :=
  ⟨h.len, h.sl.below hb, fun k hk => (h.fs k hk).below hb, h.n100, h.l100⟩
theorem Pl.one {w : World} {p : Option Addr} {xs : List Value} {L : List (List Nat)} (h : Pl w p xs L) : ∀ u ∈ xs, u.oneCell' = true := by
  intro u hu
  obtain ⟨k, hk, rfl⟩ := List.getElem_of_mem hu
  have := (h.fs k (by rw [← h.len]; exact hk)).one
  rwa [List.getD_eq_getElem?_getD, List.getElem?_eq_getElem hk] at this
/-- One of its cells. -/
theorem Pl.at_ {w : World} {p : Option Addr} {xs : List Value} {L : List (List Nat)} (h : Pl w p xs L) (h0 : 0 < L.length) : ∃ b off, b < w.heap.size ∧ p = some ⟨b, off, none⟩ ∧ ∀ k, k < L.length → w.cell? ⟨b, off + k, none⟩ = some (xs.getD k vz) := by
  obtain ⟨b, off, h1, h2, h3⟩ := h.sl h0
  refine ⟨b, off, h1, h2, fun k hk => ?_⟩
  rw [h3 k (by rw [h.len]; exact hk), List.getD_eq_getElem?_getD, List.getElem?_eq_getElem (by rw [h.len]; exact hk)]
  rfl
theorem Pl.nil (w : World) (p : Option Addr) : Pl w p [] [] := ⟨rfl, Sl.empty _ _ _, fun k hk => absurd hk (Nat.not_lt_zero _), by decide, fun l hl => by cases hl⟩

theorem wrong_any (p : Option Addr) (len c : Nat) (w : World) (hm : len ≤ 100) : Calls Tryz.prog 93 #[.slice p len c] w fun e w' => e = .returned (.bool (!decide (len = 19))) ∧ w = w' := by
  by_cases h : len = 19
  · subst h
    go_enter Tryz.func93, Tryz.ntmps93
    go_wp2
    go_ret
    exact ⟨rfl, rfl⟩
  · rw [decide_eq_false h]
    have h2 : ((len : Int) != 19) = true := by simp; omega
    clear h
    go_enter Tryz.func93, Tryz.ntmps93
    go_wp2
    go_ret
    exact ⟨rfl, rfl⟩

set_option maxHeartbeats 1000000 in
theorem indexp_any (p : Option Addr) (n c : Nat) (xs : List Value) (L : List (List Nat)) (w : World) (hz : L.length = n) (h : Pl w p xs L) :
    Calls Tryz.prog 124 #[.slice p n c, .func (.func 93) #[] #[]] w fun e w' => e = .returned (.int .i64 (idxP L 0)) ∧ w = w' := by
  have HZ := Lib.hid hz
  have HB := Lib.hid h
  have hm : n ≤ 100 := by rw [← hz]; exact h.n100
  obtain ⟨r, hr⟩ : ∃ r, r = idxP L 0 := ⟨_, rfl⟩
  rw [← hr]
  have HR := Lib.hid hr
  clear h hz hr
  go_enter Tryz.func124, Tryz.ntmps124
  go_wp2
  go_loop [8] (fun i => ∃ k : Nat, k ≤ n ∧ i = .int .i64 k ∧ Hid (r = idxP (L.drop k) k)) (fun i => n - (intOf i).toNat)
  case atStart => exact ⟨0, Nat.zero_le _, rfl, by rw [List.drop_zero]; exact HR⟩
  case round =>
    obtain ⟨k, hk, rfl, hi⟩ := hrel
    by_cases hlt : k < n
    · obtain ⟨b, off, hb, rfl, hcell⟩ := HB.out.at_ (by rw [HZ.out]; omega)
      have hck := hcell k (by rw [HZ.out]; exact hlt)
      have hl := HB.out.l100 _ (mem_getD L [] k (by rw [HZ.out]; exact hlt))
      obtain ⟨q, c2, hv, hc2, hby⟩ := HB.out.fs k (by rw [HZ.out]; exact hlt)
      have hd := drop_getD L [] k (by rw [HZ.out]; exact hlt)
      rw [hd] at hi
      rw [hv] at hck
      obtain ⟨x, hx⟩ : ∃ x, x = L.getD k [] := ⟨_, rfl⟩
      rw [← hx] at hi hck hl
      clear hd hx hv hby hcell hc2 hb
      by_cases hf : x.length = 19
      · have HI : Hid (r = idxP (L.drop (k + 1)) (k + 1)) := Lib.hid (by
          have he := hi.out
          unfold idxP at he
          rw [if_pos hf] at he
          rw [he])
        have HF := Lib.hid hf
        clear hf hi
        go_wp2_with (first | (go_at_call 93; refine (wrong_any _ _ _ _ hl).mono ?_; rintro e w' ⟨rfl, rfl⟩; rw [decide_eq_true HF.out, Bool.not_true]))
        go_round
        case rel => exact ⟨k + 1, by omega, by go_num, HI⟩
        case measure => simp [intOf]; omega
      · have he := hi.out
        unfold idxP at he
        rw [if_neg hf] at he
        have HF := Lib.hid hf
        subst he
        clear hf hi HR
        go_wp2_with (first | (go_at_call 93; refine (wrong_any _ _ _ _ hl).mono ?_; rintro e w' ⟨rfl, rfl⟩; rw [decide_eq_false HF.out, Bool.not_false]))
        go_ret
        exact ⟨rfl, rfl⟩
    · have hd : L.drop k = [] := List.drop_eq_nil_of_le (by rw [HZ.out]; omega)
      rw [hd] at hi
      have he : r = -1 := hi.out
      subst he
      clear hi hd HR
      go_wp2
      go_ret
      exact ⟨rfl, rfl⟩
theorem containsp_any (p : Option Addr) (n c : Nat) (xs : List Value) (L : List (List Nat)) (w : World) (hz : L.length = n) (h : Pl w p xs L) :
    Calls Tryz.prog 92 #[.slice p n c, .func (.func 93) #[] #[]] w fun e w' => e = .returned (.bool (!(L.all fun l => decide (l.length = 19)))) ∧ w = w' := by
  have hi := indexp_any p n c xs L w hz h
  have he := idxP_any L 0
  obtain ⟨r, hr⟩ : ∃ r, r = idxP L 0 := ⟨_, rfl⟩
  rw [← hr] at hi he
  rw [← he]
  have HI := Lib.hid hi
  clear hi he hr h hz
  go_enter Tryz.func92, Tryz.ntmps92
  go_wp2_with (first | (go_at_call 124; refine HI.out.mono ?_; rintro e w' ⟨rfl, rfl⟩))
  go_ret
  exact ⟨rfl, rfl⟩
theorem pright_any (p : Option Addr) (n c : Nat) (xs : List Value) (L : List (List Nat)) (w : World) (hz : L.length = n) (h : Pl w p xs L) :
    Calls Tryz.prog 55 #[.agg #[.slice p n c]] w fun e w' => e = .returned (.bool (rightP L)) ∧ Below w.heap.size w w' := by
  have hm : n ≤ 100 := by rw [← hz]; exact h.n100
  have HC := Lib.hid (fun w' hb => containsp_any p n c xs L w' hz (h.below hb))
  by_cases h64 : (n : Int) ≤ 64
  · have e : rightP L = (L.all fun l => decide (l.length = 19)) := by unfold rightP; rw [decide_eq_true (by omega), Bool.true_and]
    rw [e]
    obtain ⟨b, hb⟩ : ∃ b, b = (L.all fun l => decide (l.length = 19)) := ⟨_, rfl⟩
    rw [← hb] at HC ⊢
    clear e hb h hz
    go_enter Tryz.func55, Tryz.ntmps55
    go_wp2_with fail
    refine (HC.out _ ((Below.refl _ _).alloc (Nat.le_refl _) _)).mono ?_
    rintro e w' ⟨rfl, rfl⟩
    go_wp2
    go_ret
    exact ⟨rfl, (Below.refl _ _).alloc (Nat.le_refl _) _⟩
  · have e : rightP L = false := by unfold rightP; rw [decide_eq_false (by omega), Bool.false_and]
    rw [e]
    clear e h hz HC
    go_enter Tryz.func55, Tryz.ntmps55
    go_wp2_with fail
    go_ret
    exact ⟨rfl, (Below.refl _ _).alloc (Nat.le_refl _) _⟩
theorem room_any (p : Option Addr) (n c : Nat) (xs : List Value) (L : List (List Nat)) (w : World) (hz : L.length = n) (h : Pl w p xs L) :
    Calls Tryz.prog 32 #[.agg #[.slice p n c]] w fun e w' => e = .returned (.int .i64 (roomP L)) ∧ Below w.heap.size w w' := by
  have hm : n ≤ 100 := by rw [← hz]; exact h.n100
  have HC := Lib.hid (fun w' hb => pright_any p n c xs L w' hz (h.below hb))
  unfold roomP
  rw [hz]
  obtain ⟨b, hb⟩ : ∃ b, b = rightP L := ⟨_, rfl⟩
  rw [← hb] at HC ⊢
  clear hb h hz
  cases b with
  | false =>
    rw [if_neg (by decide)]
    go_enter Tryz.func32, Tryz.ntmps32
    go_wp2_with fail
    refine (HC.out _ ((Below.refl _ _).alloc (Nat.le_refl _) _)).mono ?_
    rintro e w' ⟨rfl, hb⟩
    have HB : Hid (Below w.heap.size w w') := ((Below.refl _ _).alloc (Nat.le_refl _) _).trans (hb.mono (by simp))
    clear hb
    go_wp2
    go_ret
    exact ⟨rfl, HB.out⟩
  | true =>
    rw [if_pos rfl]
    go_enter Tryz.func32, Tryz.ntmps32
    go_wp2_with fail
    refine (HC.out _ ((Below.refl _ _).alloc (Nat.le_refl _) _)).mono ?_
    rintro e w' ⟨rfl, hb⟩
    have HB : Hid (Below w.heap.size w w') := ((Below.refl _ _).alloc (Nat.le_refl _) _).trans (hb.mono (by simp))
    have hk := (Blk.track1 hb).c
    clear hb
    go_wp2
    go_ret
    exact ⟨by first | rfl | (go_num; done), HB.out⟩
theorem find_any (p : Option Addr) (n c : Nat) (xs : List Value) (L : List (List Nat)) (k : Int) (w : World) (hz : L.length = n) (h : Pl w p xs L) :
    Calls Tryz.prog 100 #[.agg #[.slice p n c], .int .i64 k] w fun e w' => e = .returned (.int .i64 (checkP L k)) ∧ Below w.heap.size w w' := by
  have hm : n ≤ 100 := by rw [← hz]; exact h.n100
  have HC := Lib.hid (fun w' hb => pright_any p n c xs L w' hz (h.below hb))
  unfold checkP
  rw [hz]
  obtain ⟨b, hb⟩ : ∃ b, b = rightP L := ⟨_, rfl⟩
  rw [← hb] at HC ⊢
  clear hb h hz
  cases b with
  | false =>
    rw [if_neg (by decide)]
    go_enter Tryz.func100, Tryz.ntmps100
    go_wp2_with fail
    refine (HC.out _ ((Below.refl _ _).alloc (Nat.le_refl _) _)).mono ?_
    rintro e w' ⟨rfl, hb⟩
    have HB : Hid (Below w.heap.size w w') := ((Below.refl _ _).alloc (Nat.le_refl _) _).trans (hb.mono (by simp))
    clear hb
    go_wp2
    go_ret
    exact ⟨rfl, HB.out⟩
  | true =>
    rw [if_pos rfl]
    by_cases h0 : k < 0
    · rw [if_pos (.inl h0)]
      go_enter Tryz.func100, Tryz.ntmps100
      go_wp2_with fail
      refine (HC.out _ ((Below.refl _ _).alloc (Nat.le_refl _) _)).mono ?_
      rintro e w' ⟨rfl, hb⟩
      have HB : Hid (Below w.heap.size w w') := ((Below.refl _ _).alloc (Nat.le_refl _) _).trans (hb.mono (by simp))
      have hk := (Blk.track1 hb).c
      clear hb
      go_wp2
      go_ret
      exact ⟨rfl, HB.out⟩
    · by_cases h1 : (n : Int) ≤ k
      · rw [if_pos (.inr h1)]
        go_enter Tryz.func100, Tryz.ntmps100
        go_wp2_with fail
        refine (HC.out _ ((Below.refl _ _).alloc (Nat.le_refl _) _)).mono ?_
        rintro e w' ⟨rfl, hb⟩
        have HB : Hid (Below w.heap.size w w') := ((Below.refl _ _).alloc (Nat.le_refl _) _).trans (hb.mono (by simp))
        have hk := (Blk.track1 hb).c
        clear hb
        go_wp2
        go_ret
        exact ⟨rfl, HB.out⟩
      · rw [if_neg (by omega)]
        have e0 : decide (k < 0) = false := decide_eq_false h0
        have e1 : decide ((n : Int) ≤ k) = false := decide_eq_false h1
        clear h0 h1
        go_enter Tryz.func100, Tryz.ntmps100
        go_wp2_with fail
        refine (HC.out _ ((Below.refl _ _).alloc (Nat.le_refl _) _)).mono ?_
        rintro e w' ⟨rfl, hb⟩
        have HB : Hid (Below w.heap.size w w') := ((Below.refl _ _).alloc (Nat.le_refl _) _).trans (hb.mono (by simp))
        have hk := (Blk.track1 hb).c
        clear hb
        go_wp2
        go_ret
        exact ⟨rfl, HB.out⟩
end Go.Proofs.YtmeomdfmljanhaaGreat
/- slices.Clone of bytes and of frames, slices.Delete of a frame; what a pool in memory of one's own is; no condition but that they read. -/
namespace Go.Proofs.YtmeomdfmljanhaaGreat
set_option linter.unusedVariables false
open Go.ChangeShapes Go.WideShapes Go.ChangeAt Go.RowKit

theorem info30 : (Tryz.prog.info? 104).map (fun i => (i.zero, i.size, i.bytes)) = some (some (.slice none 0 0), 1, 24) := by kernel_rfl
theorem own_below {w w' : World} {base : Nat} {e : TypeId} {size : Nat} {v : Value} {n : Nat} {xs : List Value} (h : w.ownsRow base e size v n xs) (hb : Below w.heap.size w w') : w'.ownsRow base e size v n xs := by
  obtain ⟨h1, h2 | ⟨g', c', cur, e1, e2, e3, e4⟩⟩ := h
  · exact ⟨h1, .inl h2⟩
  · exact ⟨h1, .inr ⟨g', c', cur, e1, e2, by rw [hb.block g' (Array.getElem?_eq_some_iff.1 e3).1]; exact e3, e4⟩⟩
theorem own_cap {w : World} {base : Nat} {e : TypeId} {size : Nat} {v : Value} {n : Nat} {xs : List Value} (h : w.ownsRow base e size v n xs) : ∃ p cap, v = .slice p n cap ∧ n ≤ cap := by
  obtain ⟨h1, ⟨h2, h3⟩ | ⟨g', c', cur, e1, e2, e3, e4, _⟩⟩ := h
  · subst h3; exact ⟨_, _, h2, Nat.le_refl _⟩
  · exact ⟨_, _, e1, e4⟩
theorem own_fs {w : World} {base : Nat} {v : Value} {l : List Nat} (h : w.ownsRow base 5 1 v l.length (u8C l)) (hb : ∀ x ∈ l, x < 256) : Fs w v l := by
  obtain ⟨p, c, rfl, hc⟩ := own_cap h
  exact ⟨p, c, rfl, hc, byts_own h rfl hb⟩
theorem own_go {w : World} {base : Nat} {e : TypeId} {size : Nat} {p : Option Addr} {n c : Nat} {xs : List Value} (h : w.ownsRow base e size (.slice p n c) n xs) (h0 : 0 < n) : ∃ g, p = some ⟨g, 0, none⟩ ∧ n ≤ c ∧ c ≤ maxLen ∧ base ≤ g ∧ g < w.heap.size := by
  obtain ⟨h1, ⟨_, h2⟩ | ⟨g, cap, cur, e1, e2, e3, e4, e5, _⟩⟩ := h
  · omega
  · injection e1 with e1 e6 e7
    subst e7
    exact ⟨g, e1, e4, e5, e2, (Array.getElem?_eq_some_iff.1 e3).1⟩

theorem clone_bytes (v : Value) (l : List Nat) (w : World) (h : Fs w v l) (hm : l.length ≤ 100) :
    Calls Tryz.prog 98 #[v] w fun e w' => ∃ r, e = .returned r ∧ w'.ownsRow w.heap.size 5 1 r l.length (u8C l) ∧ Below w.heap.size w w' := by
  obtain ⟨p, c, rfl, hc, hby⟩ := h
  obtain ⟨i0, hi, hz0, hz1, hz2⟩ := info_parts info5
  have HI := Lib.hid (And.intro hi (And.intro hz0 (And.intro hz1 hz2)))
  have HS : Hid (Sl w p l.length (u8C l)) := fun h0 => by
    obtain ⟨b, off, h1, h2, h3⟩ := hby.c h0
    exact ⟨b, off, h1, h2, fun j hj => by rw [u8C_len] at hj; rw [h3 j hj, u8C_at l j hj]⟩
  clear hby hi hz0 hz1 hz2
  have hq : ∀ W, (binOp .eql 104 (.slice p l.length c) (.slice none 0 0)).run Tryz.prog W = .ok (.bool p.isNone) W := fun W => Lib.run_eql_slice_nil W _ 5 _ _ _ _ _ Tryz.underlying104
  obtain ⟨n, hn⟩ : ∃ n, n = l.length := ⟨_, rfl⟩
  rw [← hn] at HS hm hc hq ⊢
  have HN := Lib.hid hn
  clear hn
  cases p with
  | none =>
    have h0 : n = 0 := by
      rcases Nat.eq_zero_or_pos n with h0 | h0
      · exact h0
      · obtain ⟨b, off, _, h2, _⟩ := HS.out h0
        cases h2
    subst h0
    have hl : l = [] := List.eq_nil_of_length_eq_zero HN.out.symm
    subst hl
    clear HS HN hc HI
    simp only [Option.isNone_none, Option.isNone_some] at hq
    go_enter Tryz.func98, Tryz.ntmps98
    go_wp2
    go_ret
    exact ⟨_, rfl, World.ownsRow_nil _ _ _ _, Below.refl _ _⟩
  | some a =>
    simp only [Option.isNone_none, Option.isNone_some] at hq
    go_enter Tryz.func98, Tryz.ntmps98
    go_wp2_with (first | (at_builtin; refine wpList_append_sl rfl _ _ 104 rfl w.heap.size 5 i0 (.int .u8 0) 1 1 Tryz.underlying104 HI.out.1 HI.out.2.1 HI.out.2.2.1 HI.out.2.2.2 rfl (by decide) _ 0 [] rfl (fresh_made (Nat.le_refl _)) (some a) n c (u8C l) rfl (by rw [u8C_len, HN.out, Nat.mul_one]) (HS.out.below ((Below.refl _ _).alloc (Nat.le_refl _) _)) (u8C_one _) (by unfold maxLen; omega) (by omega) (by simp) ?_))
    intro v' w' g1 g2 g3
    have HG : Hid (w'.ownsRow w.heap.size 5 1 v' n (u8C l)) := Lib.hid g1
    have HB : Hid (Below w.heap.size w w') := Lib.hid (((Below.refl w.heap.size w).alloc (Nat.le_refl _) _).grown g2 (by simp) (fun k hk => by simp [Value.ownBlock] at hk; omega))
    clear g1 g2 g3
    go_wp2
    go_ret
    exact ⟨_, rfl, HG.out, HB.out⟩

theorem clone_rows (p : Option Addr) (n c : Nat) (xs : List Value) (L : List (List Nat)) (w : World) (hz : L.length = n) (h : Pl w p xs L) :
    Calls Tryz.prog 97 #[.slice p n c] w fun e w' => ∃ r, e = .returned r ∧ w'.ownsRow w.heap.size 104 1 r n xs ∧ Below w.heap.size w w' := by
  obtain ⟨i0, hi, hz0, hz1, hz2⟩ := info_parts info30
  have HI := Lib.hid (And.intro hi (And.intro hz0 (And.intro hz1 hz2)))
  have hm : n ≤ 100 := by rw [← hz]; exact h.n100
  have HS : Hid (Sl w p n xs) := by rw [← hz]; exact h.sl
  have HN : Hid (xs.length = n) := by rw [← hz]; exact h.len
  have H1 := Lib.hid h.one
  have hq : ∀ W, (binOp .eql 28 (.slice p n c) (.slice none 0 0)).run Tryz.prog W = .ok (.bool p.isNone) W := fun W => Lib.run_eql_slice_nil W _ 104 _ _ _ _ _ Tryz.underlying28
  clear hi hz0 hz1 hz2 hz h
  cases p with
  | none =>
    have h0 : n = 0 := by
      rcases Nat.eq_zero_or_pos n with h0 | h0
      · exact h0
      · obtain ⟨b, off, _, h2, _⟩ := HS.out h0
        cases h2
    subst h0
    have hl : xs = [] := List.eq_nil_of_length_eq_zero HN.out
    subst hl
    clear HS HN HI H1
    simp only [Option.isNone_none, Option.isNone_some] at hq
    go_enter Tryz.func97, Tryz.ntmps97
    go_wp2
    go_ret
    exact ⟨_, rfl, World.ownsRow_nil _ _ _ _, Below.refl _ _⟩
  | some a =>
    simp only [Option.isNone_none, Option.isNone_some] at hq
    go_enter Tryz.func97, Tryz.ntmps97
    go_wp2_with (first | (at_builtin; refine wpList_append_sl rfl _ _ 28 rfl w.heap.size 104 i0 (.slice none 0 0) 1 24 Tryz.underlying28 HI.out.1 HI.out.2.1 HI.out.2.2.1 HI.out.2.2.2 rfl (by decide) _ 0 [] rfl (fresh_made (Nat.le_refl _)) (some a) n c xs rfl (by rw [HN.out, Nat.mul_one]) (HS.out.below ((Below.refl _ _).alloc (Nat.le_refl _) _)) H1.out (by unfold maxLen; omega) (by omega) (by simp) ?_))
    intro v' w' g1 g2 g3
    have HG : Hid (w'.ownsRow w.heap.size 104 1 v' n xs) := Lib.hid g1
    have HB : Hid (Below w.heap.size w w') := Lib.hid (((Below.refl w.heap.size w).alloc (Nat.le_refl _) _).grown g2 (by simp) (fun k hk => by simp [Value.ownBlock] at hk; omega))
    clear g1 g2 g3
    go_wp2
    go_ret
    exact ⟨_, rfl, HG.out, HB.out⟩

/-- A pool in memory of one's own, of which the first k frames are copied. -/
structure OwnK (base : Nat) (w : World) (v : Value) (xs ys : List Value) (L : List (List Nat)) (k : Nat) : Prop where
  row : w.ownsRow base 104 1 v L.length ys
  fr : ∀ j, j < k → w.ownsRow base 5 1 (ys.getD j vz) (L.getD j []).length (u8C (L.getD j []))
  sep : ∀ j, j < k → ∀ g, (ys.getD j vz).ownBlock = some g → v.ownBlock ≠ some g
  two : ∀ i j, i < k → j < k → i ≠ j → ∀ g, (ys.getD i vz).ownBlock = some g → (ys.getD j vz).ownBlock ≠ some g
  rest : ∀ j, k ≤ j → ys.getD j vz = xs.getD j vz
theorem OwnK.below {base : Nat} {w w' : World} {v : Value} {xs ys : List Value} {L : List (List Nat)} {k : Nat} (h : OwnK base w v xs ys L k) (hb : Below w.heap.size w w') : OwnK base w' v xs ys L k :=
  ⟨own_below h.row hb, fun j hj => own_below (h.fr j hj) hb, h.sep, h.two, h.rest⟩
theorem OwnK.begin {base : Nat} {w : World} {v : Value} {xs : List Value} {L : List (List Nat)} (h : w.ownsRow base 104 1 v L.length xs) : OwnK base w v xs xs L 0 :=
  ⟨h, fun j hj => absurd hj (Nat.not_lt_zero _), fun j hj => absurd hj (Nat.not_lt_zero _), fun i j hi => absurd hi (Nat.not_lt_zero _), fun j _ => rfl⟩
theorem OwnK.step {base g c k : Nat} {w w2 : World} {xs ys : List Value} {L : List (List Nat)} {r : Value} (h : OwnK base w (.slice (some ⟨g, 0, none⟩) L.length c) xs ys L k) (hk : k < L.length) (hbase : base ≤ w.heap.size) (hb : Below w.heap.size w w2)
    (hr : w2.ownsRow w.heap.size 5 1 r (L.getD k []).length (u8C (L.getD k []))) : OwnK base (w2.setCell ⟨g, k, none⟩ r) (.slice (some ⟨g, 0, none⟩) L.length c) xs (ys.set k r) L (k + 1) := by
  have h2 := h.below hb
  have hlen : ys.length = L.length := by rw [h.row.1, Nat.mul_one]
  have hgrow := (h2.row.stored k r).2
  have hgl : g < w.heap.size := (h.row.lt g rfl).2
  have hrg : ∀ b, r.ownBlock = some b → w.heap.size ≤ b := fun b hb => (hr.lt b hb).1
  have gD : ∀ j, (ys.set k r).getD j vz = if j = k then r else ys.getD j vz := fun j => getD_set ys vz r k j (by omega)
  refine ⟨(h2.row.stored k r).1, fun j hj => ?_, fun j hj b hb => ?_, fun i j hi hj hij b hb => ?_, fun j hj => ?_⟩
  · rw [gD]
    by_cases e : j = k
    · subst e
      rw [if_pos rfl]
      refine (own_base hr hbase).kept hgrow ?_
      cases hv : r.ownBlock with
      | none => exact .inl rfl
      | some b => exact .inr (fun e => by injection e with e; have := hrg b hv; omega)
    · rw [if_neg e]
      refine (h2.fr j (by omega)).kept hgrow ?_
      cases hv : (ys.getD j vz).ownBlock with
      | none => exact .inl rfl
      | some b => exact .inr (fun e2 => h.sep j (by omega) b hv (by rw [e2]; rfl))
  · rw [gD] at hb
    by_cases e : j = k
    · subst e
      rw [if_pos rfl] at hb
      have := hrg b hb
      intro e2
      injection e2 with e2
      simp at e2
      omega
    · rw [if_neg e] at hb
      exact h.sep j (by omega) b hb
  · rw [gD] at hb ⊢
    by_cases e : i = k
    · subst e
      rw [if_pos rfl] at hb
      rw [if_neg (fun e => hij e.symm)]
      intro e2
      have h1 := hrg b hb
      have h3 := ((h.fr j (by omega)).lt b e2).2
      omega
    · rw [if_neg e] at hb
      by_cases e' : j = k
      · subst e'
        rw [if_pos rfl]
        intro e2
        have h1 := hrg b e2
        have h3 := ((h.fr i (by omega)).lt b hb).2
        omega
      · rw [if_neg e']
        exact h.two i j (by omega) (by omega) hij b hb
  · rw [gD, if_neg (by omega)]
    exact h.rest j (by omega)
/-- A pool in memory of one's own. -/
def Own (base : Nat) (w : World) (v : Value) (ys : List Value) (L : List (List Nat)) : Prop := OwnK base w v ys ys L L.length
theorem OwnK.done {base : Nat} {w : World} {v : Value} {xs ys : List Value} {L : List (List Nat)} (h : OwnK base w v xs ys L L.length) : Own base w v ys L := ⟨h.row, h.fr, h.sep, h.two, fun _ _ => rfl⟩
theorem Own.below {base : Nat} {w w' : World} {v : Value} {ys : List Value} {L : List (List Nat)} (h : Own base w v ys L) (hb : Below w.heap.size w w') : Own base w' v ys L := OwnK.below h hb
theorem Own.mono {base base' : Nat} {w : World} {v : Value} {ys : List Value} {L : List (List Nat)} (h : Own base w v ys L) (hb : base' ≤ base) : Own base' w v ys L :=
  ⟨own_base h.row hb, fun j hj => own_base (h.fr j hj) hb, h.sep, h.two, h.rest⟩
theorem Own.pl {base : Nat} {w : World} {v : Value} {ys : List Value} {L : List (List Nat)} (h : Own base w v ys L) (hn : L.length ≤ 100) (hl : ∀ l ∈ L, l.length ≤ 100) (hb : ∀ l ∈ L, ∀ x ∈ l, x < 256) : ∃ p c, v = .slice p L.length c ∧ Pl w p ys L := by
  obtain ⟨p, c, rfl, hs⟩ := Sl.own h.row
  exact ⟨p, c, rfl, by rw [h.row.1, Nat.mul_one], hs, fun k hk => own_fs (h.fr k hk) (hb _ (mem_getD L [] k hk)), hn, hl⟩
theorem Pl.lt {w : World} {p : Option Addr} {xs : List Value} {L : List (List Nat)} (h : Pl w p xs L) : ∀ l ∈ L, ∀ x ∈ l, x < 256 := by
  intro l hl
  obtain ⟨k, hk, rfl⟩ := List.getElem_of_mem hl
  obtain ⟨_, _, _, _, hb⟩ := h.fs k hk
  have e : L.getD k [] = L[k] := by rw [List.getD_eq_getElem?_getD, List.getElem?_eq_getElem hk]; rfl
  rw [e] at hb
  exact hb.lt

theorem own_off {w : World} {base : Nat} {e : TypeId} {size : Nat} {v : Value} {n : Nat} {xs : List Value} (h : w.ownsRow base e size v n xs) {R : Nat} (hR : R < base) (j : Nat) (u : Value) : (w.setCell ⟨R, j, none⟩ u).ownsRow base e size v n xs := by
  refine h.kept (row := some R) ⟨rfl, rfl, rfl, by simp, fun k _ hk => heap_setCell_other w ⟨R, j, none⟩ k u (fun e => hk (by simp [e]))⟩ ?_
  cases hv : v.ownBlock with
  | none => exact .inl rfl
  | some b => exact .inr (fun e2 => by injection e2 with e2; have := (h.lt b hv).1; omega)
theorem Own.setOff {base : Nat} {w : World} {v : Value} {ys : List Value} {L : List (List Nat)} (h : Own base w v ys L) {R : Nat} (hR : R < base) (j : Nat) (u : Value) : Own base (w.setCell ⟨R, j, none⟩ u) v ys L :=
  ⟨own_off h.row hR j u, fun i hi => own_off (h.fr i hi) hR j u, h.sep, h.two, h.rest⟩
set_option maxHeartbeats 4000000 in
theorem copied_any (p : Option Addr) (n c : Nat) (xs : List Value) (L : List (List Nat)) (w : World) (hz : L.length = n) (h : Pl w p xs L) :
    Calls Tryz.prog 99 #[.agg #[.slice p n c]] w fun e w' => ∃ v ys, e = .returned (.agg #[v]) ∧ Own w.heap.size w' v ys L ∧ Below w.heap.size w w' := by
  have hm : n ≤ 100 := by rw [← hz]; exact h.n100
  have HZ := Lib.hid hz
  have HP := Lib.hid h
  clear h hz
  go_enter Tryz.func99, Tryz.ntmps99
  go_wp2_with fail
  refine (clone_rows p n c xs L _ HZ.out (HP.out.below (((Below.refl _ _).alloc (Nat.le_refl _) _).alloc (by simp) _))).mono ?_
  rintro e w1 ⟨v, rfl, ho, hb⟩
  obtain ⟨q, cap, rfl, hcap⟩ := own_cap ho
  have HB1 : Hid (Below w.heap.size w w1) := Lib.hid ((((Below.refl _ _).alloc (Nat.le_refl _) _).alloc (by simp) _).trans (hb.mono (by simp; omega)))
  have HR : Hid (Blk w1 (w.heap.size + 1) #[.slice none 0 0]) := Lib.hid (by
    have := Blk.track1 hb
    simpa using this)
  have HO : Hid (OwnK (w.heap.size + 2) w1 (.slice q L.length cap) xs xs L 0) := Lib.hid (OwnK.begin (by rw [HZ.out]; exact own_base ho (by simp)))
  have HG : Hid (∀ g, q = some ⟨g, 0, none⟩ → w.heap.size + 2 ≤ g) := Lib.hid (by
    intro g e
    subst e
    have := (ho.lt g rfl).1
    simpa using this)
  clear hb ho
  go_wp2_with fail
  go_loopw [11] (fun i wr => ∃ k : Nat, k ≤ n ∧ i = .int .i64 k ∧ (∃ ys, OwnK (w.heap.size + 2) wr (.slice q L.length cap) xs ys L k) ∧ Blk wr (w.heap.size + 1) #[.slice none 0 0] ∧ Below w.heap.size w wr) (fun i _ => n - (intOf i).toNat)
  case atStart => exact ⟨0, Nat.zero_le _, rfl, ⟨_, HO.out⟩, HR.out, HB1.out⟩
  case round =>
    obtain ⟨k, hk, rfl, ⟨ys, ho⟩, hr, hb⟩ := hrel
    clear HB1 HR HO
    have HRR := Lib.hid hr
    have HB := Lib.hid hb
    clear hr hb
    by_cases hlt : k < n
    · have hlt' : k < L.length := by rw [HZ.out]; exact hlt
      obtain ⟨g, rfl, hnc, hcm, hbg, hgl⟩ := own_go ho.row (by rw [HZ.out]; omega)
      have hfs : Fs wr (xs.getD k vz) (L.getD k []) := (HP.out.fs k hlt').below HB.out
      have hl := HP.out.l100 _ (mem_getD L [] k hlt')
      obtain ⟨l, hle⟩ : ∃ l, l = L.getD k [] := ⟨_, rfl⟩
      rw [← hle] at hfs hl
      have HFS := Lib.hid hfs
      have HLE := Lib.hid hle
      obtain ⟨pk, ck, hv, _, _⟩ := hfs
      have hck : wr.cell? ⟨g, k, none⟩ = some (.slice pk l.length ck) := by
        rw [ho.row.cellAt k (by omega), ← hv, ← ho.rest k (Nat.le_refl _), List.getD_eq_getElem?_getD, List.getElem?_eq_getElem (by rw [ho.row.1]; omega)]
        rfl
      have HO := Lib.hid ho
      have HV := Lib.hid hv
      have HBG : Hid (w.heap.size + 2 ≤ g) := Lib.hid (HG.out g rfl)
      clear ho hv hbg hgl hnc hcm hle
      go_wp2_with fail
      refine (clone_bytes _ l _ (by rw [← HV.out]; exact HFS.out) hl).mono ?_
      rintro e w2 ⟨r, rfl, hr2, hb2⟩
      have HO2 := Lib.hid (HO.out.step hlt' HRR.out.lt hb2 (by rw [← HLE.out]; exact hr2))
      obtain ⟨q2, c2, rfl, _⟩ := own_cap hr2
      have hc2 : w2.cell? ⟨g, k, none⟩ = some (.slice pk l.length ck) := (hb2.cell (p := ⟨g, k, none⟩) (HO.out.row.lt g rfl).2).trans hck
      have hf2 : w2.frozen? ⟨g, k, none⟩ = false := (OwnK.below HO.out hb2).row.frozenAt k
      have HRR2 := Lib.hid ((HRR.out.below hb2).other (B' := g) (n := k) (.slice q2 l.length c2) (by have := HBG.out; omega))
      have HB2 := Lib.hid ((HB.out.trans (hb2.mono HB.out.size)).setCell (p := ⟨g, k, none⟩) (by show w.heap.size ≤ g; have := HBG.out; omega) (.slice q2 l.length c2))
      clear hb2 hr2 hck
      go_wp2_with fail
      go_roundw
      case rel => exact ⟨k + 1, by omega, by go_num, ⟨_, HO2.out⟩, HRR2.out, HB2.out⟩
      case measure => simp [intOf]; omega
    · have hkn : k = L.length := by rw [HZ.out]; omega
      have HO := Lib.hid (OwnK.done (hkn ▸ ho))
      have cR := HRR.out.c
      have fR := HRR.out.f
      have lR := HRR.out.lt
      clear ho hkn
      go_wp2_with fail
      exact bodyPost_ret (v := .agg #[.slice q n cap]) (by simp [results, Tryz.results99, go_sem, *]) rfl ⟨_, _, rfl, by rw [← HZ.out]; exact (HO.out.setOff (by omega) 0 _).mono (by omega), HB.out.setCell (p := ⟨w.heap.size + 1, 0, none⟩) (by show w.heap.size ≤ w.heap.size + 1; omega) _⟩
end Go.Proofs.YtmeomdfmljanhaaGreat
/- Rows of rows in memory of one's own, and their copies. -/
namespace Go.Proofs.YtmeomdfmljanhaaGreat.Pg
set_option linter.unusedVariables false
open Go.ChangeShapes Go.WideShapes Go.ChangeAt Go.RowKit

/-- Rows of rows in memory of one's own, of which the first k rows are copied. -/
structure OwnR (T1 T2 : TypeId) (base : Nat) (w : World) (v : Value) (m : Nat → Nat) (cs : Nat → List Value) (xs ys : List Value) (n k : Nat) : Prop where
  row : w.ownsRow base T1 1 v n ys
  fr : ∀ j, j < k → w.ownsRow base T2 1 (ys.getD j vz) (m j) (cs j)
  sep : ∀ j, j < k → ∀ g, (ys.getD j vz).ownBlock = some g → v.ownBlock ≠ some g
  two : ∀ i j, i < k → j < k → i ≠ j → ∀ g, (ys.getD i vz).ownBlock = some g → (ys.getD j vz).ownBlock ≠ some g
  rest : ∀ j, k ≤ j → ys.getD j vz = xs.getD j vz
theorem OwnR.below {base : Nat} {w w' : World} {v : Value} {T1 T2 : TypeId} {m : Nat → Nat} {cs : Nat → List Value} {xs ys : List Value} {n k : Nat} (h : OwnR T1 T2 base w v m cs xs ys n k) (hb : Below w.heap.size w w') : OwnR T1 T2 base w' v m cs xs ys n k :=
  ⟨own_below h.row hb, fun j hj => own_below (h.fr j hj) hb, h.sep, h.two, h.rest⟩
theorem OwnR.begin {base : Nat} {w : World} {v : Value} {T1 T2 : TypeId} {m : Nat → Nat} {cs : Nat → List Value} {xs : List Value} {n : Nat} (h : w.ownsRow base T1 1 v n xs) : OwnR T1 T2 base w v m cs xs xs n 0 :=
  ⟨h, fun j hj => absurd hj (Nat.not_lt_zero _), fun j hj => absurd hj (Nat.not_lt_zero _), fun i j hi => absurd hi (Nat.not_lt_zero _), fun j _ => rfl⟩
theorem OwnR.step {base g c k : Nat} {w w2 : World} {T1 T2 : TypeId} {m : Nat → Nat} {cs : Nat → List Value} {xs ys : List Value} {n : Nat} {r : Value} (h : OwnR T1 T2 base w (.slice (some ⟨g, 0, none⟩) n c) m cs xs ys n k) (hk : k < n) (hbase : base ≤ w.heap.size) (hb : Below w.heap.size w w2)
    (hr : w2.ownsRow w.heap.size T2 1 r (m k) (cs k)) : OwnR T1 T2 base (w2.setCell ⟨g, k, none⟩ r) (.slice (some ⟨g, 0, none⟩) n c) m cs xs (ys.set k r) n (k + 1) := by
  have h2 := h.below hb
  have hlen : ys.length = n := by rw [h.row.1, Nat.mul_one]
  have hgrow := (h2.row.stored k r).2
  have hgl : g < w.heap.size := (h.row.lt g rfl).2
  have hrg : ∀ b, r.ownBlock = some b → w.heap.size ≤ b := fun b hb => (hr.lt b hb).1
  have gD : ∀ j, (ys.set k r).getD j vz = if j = k then r else ys.getD j vz := fun j => getD_set ys vz r k j (by omega)
  refine ⟨(h2.row.stored k r).1, fun j hj => ?_, fun j hj b hb => ?_, fun i j hi hj hij b hb => ?_, fun j hj => ?_⟩
  · rw [gD]
    by_cases e : j = k
    · subst e
      rw [if_pos rfl]
      refine (own_base hr hbase).kept hgrow ?_
      cases hv : r.ownBlock with
      | none => exact .inl rfl
      | some b => exact .inr (fun e => by injection e with e; have := hrg b hv; omega)
    · rw [if_neg e]
      refine (h2.fr j (by omega)).kept hgrow ?_
      cases hv : (ys.getD j vz).ownBlock with
      | none => exact .inl rfl
      | some b => exact .inr (fun e2 => h.sep j (by omega) b hv (by rw [e2]; rfl))
  · rw [gD] at hb
    by_cases e : j = k
    · subst e
      rw [if_pos rfl] at hb
      have := hrg b hb
      intro e2
      injection e2 with e2
      simp at e2
      omega
    · rw [if_neg e] at hb
      exact h.sep j (by omega) b hb
  · rw [gD] at hb ⊢
    by_cases e : i = k
    · subst e
      rw [if_pos rfl] at hb
      rw [if_neg (fun e => hij e.symm)]
      intro e2
      have h1 := hrg b hb
      have h3 := ((h.fr j (by omega)).lt b e2).2
      omega
    · rw [if_neg e] at hb
      by_cases e' : j = k
      · subst e'
        rw [if_pos rfl]
        intro e2
        have h1 := hrg b e2
        have h3 := ((h.fr i (by omega)).lt b hb).2
        omega
      · rw [if_neg e']
        exact h.two i j (by omega) (by omega) hij b hb
  · rw [gD, if_neg (by omega)]
    exact h.rest j (by omega)
theorem OwnR.done {T1 T2 : TypeId} {base : Nat} {w : World} {v : Value} {m : Nat → Nat} {cs : Nat → List Value} {xs ys : List Value} {n : Nat} (h : OwnR T1 T2 base w v m cs xs ys n n) : OwnR T1 T2 base w v m cs ys ys n n := ⟨h.row, h.fr, h.sep, h.two, fun _ _ => rfl⟩
theorem OwnR.mono {T1 T2 : TypeId} {base base' : Nat} {w : World} {v : Value} {m : Nat → Nat} {cs : Nat → List Value} {xs ys : List Value} {n k : Nat} (h : OwnR T1 T2 base w v m cs xs ys n k) (hb : base' ≤ base) : OwnR T1 T2 base' w v m cs xs ys n k :=
  ⟨own_base h.row hb, fun j hj => own_base (h.fr j hj) hb, h.sep, h.two, h.rest⟩
theorem OwnR.off {T1 T2 : TypeId} {base : Nat} {w : World} {v : Value} {m : Nat → Nat} {cs : Nat → List Value} {xs ys : List Value} {n k : Nat} (h : OwnR T1 T2 base w v m cs xs ys n k) {R : Nat} (hR : R < base) (j : Nat) (u : Value) : OwnR T1 T2 base (w.setCell ⟨R, j, none⟩ u) v m cs xs ys n k :=
  ⟨own_off h.row hR j u, fun i hi => own_off (h.fr i hi) hR j u, h.sep, h.two, h.rest⟩
/-- A row of rows that reads. -/
structure RR (w : World) (a : Addr) (n l : Nat) (xs : List Value) (cs : Nat → List Value) : Prop where
  len : xs.length = n
  sl : Sl w (some a) n xs
  rows : ∀ j, j < n → ∃ b cc, xs.getD j vz = .slice (some b) l cc ∧ l ≤ cc ∧ Sl w (some b) l (cs j)
  cl : ∀ j, j < n → (cs j).length = l
  one : ∀ j, j < n → ∀ u ∈ cs j, u.oneCell' = true
theorem RR.below {w w' : World} {a : Addr} {n l : Nat} {xs : List Value} {cs : Nat → List Value} (h : RR w a n l xs cs) (hb : Below w.heap.size w w') : RR w' a n l xs cs :=
  ⟨h.len, h.sl.below hb, fun j hj => by obtain ⟨b, cc, h1, h3, h2⟩ := h.rows j hj; exact ⟨b, cc, h1, h3, h2.below hb⟩, h.cl, h.one⟩
theorem RR.cell1 {w : World} {a : Addr} {n l : Nat} {xs : List Value} {cs : Nat → List Value} (h : RR w a n l xs cs) : ∀ u ∈ xs, u.oneCell' = true := by
  intro u hu
  obtain ⟨k, hk, rfl⟩ := List.getElem_of_mem hu
  obtain ⟨b, cc, h1, _⟩ := h.rows k (by rw [← h.len]; exact hk)
  rw [List.getD_eq_getElem?_getD, List.getElem?_eq_getElem hk, Option.getD_some] at h1
  rw [h1]
  rfl

set_option maxHeartbeats 4000000 in
theorem crows_int (a : Addr) (n c l : Nat) (xs : List Value) (cs : Nat → List Value) (w : World) (h : RR w a n l xs cs) (hn : n ≤ 100) (hl : l ≤ 100) :
    Calls Tryz.prog 62 #[.slice (some a) n c] w fun e w' => ∃ v ys, e = .returned v ∧ OwnR 27 3 w.heap.size w' v (fun _ => l) cs ys ys n n ∧ Below w.heap.size w w' := by
  have HP := Lib.hid h
  clear h
  go_enter Tryz.func62, Tryz.ntmps62
  go_wp2_with fail
  refine (clone_ints a n c xs _ hn (by rw [HP.out.len, Nat.mul_one]) HP.out.sl HP.out.cell1).mono ?_
  rintro e w1 ⟨v, rfl, ho, hb⟩
  obtain ⟨q, cap, rfl, hcap⟩ := own_cap ho
  have HB1 : Hid (Below w.heap.size w w1) := Lib.hid hb
  have HO : Hid (OwnR 27 3 w.heap.size w1 (.slice q n cap) (fun _ => l) cs xs xs n 0) := Lib.hid (OwnR.begin ho)
  clear hb ho
  go_wp2_with fail
  go_loopw [10] (fun i wr => ∃ k : Nat, k ≤ n ∧ i = .int .i64 k ∧ (∃ ys, OwnR 27 3 w.heap.size wr (.slice q n cap) (fun _ => l) cs xs ys n k) ∧ Below w.heap.size w wr) (fun i _ => n - (intOf i).toNat)
  case atStart => exact ⟨0, Nat.zero_le _, rfl, ⟨_, HO.out⟩, HB1.out⟩
  case round =>
    obtain ⟨k, hk, rfl, ⟨ys, ho⟩, hb⟩ := hrel
    clear HB1 HO
    have HB := Lib.hid hb
    clear hb
    by_cases hlt : k < n
    · obtain ⟨g, rfl, hnc, hcm, hbg, hgl⟩ := own_go ho.row (by omega)
      obtain ⟨ak, ck, hv, _, hsl⟩ := (HP.out.below HB.out).rows k hlt
      have HFS := Lib.hid hsl
      have hck : wr.cell? ⟨g, k, none⟩ = some (.slice (some ak) l ck) := by
        rw [ho.row.cellAt k (by omega), ← hv, ← ho.rest k (Nat.le_refl _), List.getD_eq_getElem?_getD, List.getElem?_eq_getElem (by rw [ho.row.1]; omega)]
        rfl
      have HO := Lib.hid ho
      have HBG : Hid (w.heap.size ≤ g) := Lib.hid hbg
      clear ho hv hbg hgl hnc hcm hsl
      go_wp2_with fail
      refine (clone_int ak l ck (cs k) _ hl (by rw [HP.out.cl k hlt, Nat.mul_one]) HFS.out (HP.out.one k hlt)).mono ?_
      rintro e w2 ⟨r, rfl, hr2, hb2⟩
      have HO2 := Lib.hid (HO.out.step hlt (HB.out.size) hb2 hr2)
      obtain ⟨q2, c2, rfl, _⟩ := own_cap hr2
      have hc2 : w2.cell? ⟨g, k, none⟩ = some (.slice (some ak) l ck) := (hb2.cell (p := ⟨g, k, none⟩) (HO.out.row.lt g rfl).2).trans hck
      have hf2 : w2.frozen? ⟨g, k, none⟩ = false := (OwnR.below HO.out hb2).row.frozenAt k
      have HB2 := Lib.hid ((HB.out.trans (hb2.mono HB.out.size)).setCell (p := ⟨g, k, none⟩) HBG.out (.slice q2 l c2))
      clear hb2 hr2 hck
      go_wp2_with fail
      go_roundw
      case rel => exact ⟨k + 1, by omega, by go_num, ⟨_, HO2.out⟩, HB2.out⟩
      case measure => simp [intOf]; omega
    · have hkn : k = n := by omega
      have HO := Lib.hid (OwnR.done (hkn ▸ ho))
      clear ho hkn
      go_wp2_with fail
      go_ret
      exact ⟨_, _, rfl, HO.out, HB.out⟩

set_option maxHeartbeats 4000000 in
theorem crows_u32 (a : Addr) (n c l : Nat) (xs : List Value) (cs : Nat → List Value) (w : World) (h : RR w a n l xs cs) (hn : n ≤ 100) (hl : l ≤ 100) :
    Calls Tryz.prog 63 #[.slice (some a) n c] w fun e w' => ∃ v ys, e = .returned v ∧ OwnR 25 33 w.heap.size w' v (fun _ => l) cs ys ys n n ∧ Below w.heap.size w w' := by
  have HP := Lib.hid h
  clear h
  go_enter Tryz.func63, Tryz.ntmps63
  go_wp2_with fail
  refine (clone_u32s a n c xs _ hn (by rw [HP.out.len, Nat.mul_one]) HP.out.sl HP.out.cell1).mono ?_
  rintro e w1 ⟨v, rfl, ho, hb⟩
  obtain ⟨q, cap, rfl, hcap⟩ := own_cap ho
  have HB1 : Hid (Below w.heap.size w w1) := Lib.hid hb
  have HO : Hid (OwnR 25 33 w.heap.size w1 (.slice q n cap) (fun _ => l) cs xs xs n 0) := Lib.hid (OwnR.begin ho)
  clear hb ho
  go_wp2_with fail
  go_loopw [10] (fun i wr => ∃ k : Nat, k ≤ n ∧ i = .int .i64 k ∧ (∃ ys, OwnR 25 33 w.heap.size wr (.slice q n cap) (fun _ => l) cs xs ys n k) ∧ Below w.heap.size w wr) (fun i _ => n - (intOf i).toNat)
  case atStart => exact ⟨0, Nat.zero_le _, rfl, ⟨_, HO.out⟩, HB1.out⟩
  case round =>
    obtain ⟨k, hk, rfl, ⟨ys, ho⟩, hb⟩ := hrel
    clear HB1 HO
    have HB := Lib.hid hb
    clear hb
    by_cases hlt : k < n
    · obtain ⟨g, rfl, hnc, hcm, hbg, hgl⟩ := own_go ho.row (by omega)
      obtain ⟨ak, ck, hv, _, hsl⟩ := (HP.out.below HB.out).rows k hlt
      have HFS := Lib.hid hsl
      have hck : wr.cell? ⟨g, k, none⟩ = some (.slice (some ak) l ck) := by
        rw [ho.row.cellAt k (by omega), ← hv, ← ho.rest k (Nat.le_refl _), List.getD_eq_getElem?_getD, List.getElem?_eq_getElem (by rw [ho.row.1]; omega)]
        rfl
      have HO := Lib.hid ho
      have HBG : Hid (w.heap.size ≤ g) := Lib.hid hbg
      clear ho hv hbg hgl hnc hcm hsl
      go_wp2_with fail
      refine (clone_u32 ak l ck (cs k) _ hl (by rw [HP.out.cl k hlt, Nat.mul_one]) HFS.out (HP.out.one k hlt)).mono ?_
      rintro e w2 ⟨r, rfl, hr2, hb2⟩
      have HO2 := Lib.hid (HO.out.step hlt (HB.out.size) hb2 hr2)
      obtain ⟨q2, c2, rfl, _⟩ := own_cap hr2
      have hc2 : w2.cell? ⟨g, k, none⟩ = some (.slice (some ak) l ck) := (hb2.cell (p := ⟨g, k, none⟩) (HO.out.row.lt g rfl).2).trans hck
      have hf2 : w2.frozen? ⟨g, k, none⟩ = false := (OwnR.below HO.out hb2).row.frozenAt k
      have HB2 := Lib.hid ((HB.out.trans (hb2.mono HB.out.size)).setCell (p := ⟨g, k, none⟩) HBG.out (.slice q2 l c2))
      clear hb2 hr2 hck
      go_wp2_with fail
      go_roundw
      case rel => exact ⟨k + 1, by omega, by go_num, ⟨_, HO2.out⟩, HB2.out⟩
      case measure => simp [intOf]; omega
    · have hkn : k = n := by omega
      have HO := Lib.hid (OwnR.done (hkn ▸ ho))
      clear ho hkn
      go_wp2_with fail
      go_ret
      exact ⟨_, _, rfl, HO.out, HB.out⟩

set_option maxHeartbeats 4000000 in
theorem crows_byt (p : Option Addr) (n c : Nat) (xs : List Value) (L : List (List Nat)) (w : World) (hz : L.length = n) (h : Pl w p xs L) :
    Calls Tryz.prog 68 #[.slice p n c] w fun e w' => ∃ v ys, e = .returned v ∧ Own w.heap.size w' v ys L ∧ Below w.heap.size w w' := by
  have hm : n ≤ 100 := by rw [← hz]; exact h.n100
  have HZ := Lib.hid hz
  have HP := Lib.hid h
  clear h hz
  go_enter Tryz.func68, Tryz.ntmps68
  go_wp2_with fail
  refine (clone_rows p n c xs L _ HZ.out HP.out).mono ?_
  rintro e w1 ⟨v, rfl, ho, hb⟩
  obtain ⟨q, cap, rfl, hcap⟩ := own_cap ho
  have HB1 : Hid (Below w.heap.size w w1) := Lib.hid hb
  have HO : Hid (OwnK w.heap.size w1 (.slice q L.length cap) xs xs L 0) := Lib.hid (OwnK.begin (by rw [HZ.out]; exact ho))
  clear hb ho
  go_wp2_with fail
  go_loopw [10] (fun i wr => ∃ k : Nat, k ≤ n ∧ i = .int .i64 k ∧ (∃ ys, OwnK w.heap.size wr (.slice q L.length cap) xs ys L k) ∧ Below w.heap.size w wr) (fun i _ => n - (intOf i).toNat)
  case atStart => exact ⟨0, Nat.zero_le _, rfl, ⟨_, HO.out⟩, HB1.out⟩
  case round =>
    obtain ⟨k, hk, rfl, ⟨ys, ho⟩, hb⟩ := hrel
    clear HB1 HO
    have HB := Lib.hid hb
    clear hb
    by_cases hlt : k < n
    · have hlt' : k < L.length := by rw [HZ.out]; exact hlt
      obtain ⟨g, rfl, hnc, hcm, hbg, hgl⟩ := own_go ho.row (by rw [HZ.out]; omega)
      have hfs : Fs wr (xs.getD k vz) (L.getD k []) := (HP.out.fs k hlt').below HB.out
      have hl := HP.out.l100 _ (mem_getD L [] k hlt')
      obtain ⟨l, hle⟩ : ∃ l, l = L.getD k [] := ⟨_, rfl⟩
      rw [← hle] at hfs hl
      have HFS := Lib.hid hfs
      have HLE := Lib.hid hle
      obtain ⟨pk, ck, hv, _, _⟩ := hfs
      have hck : wr.cell? ⟨g, k, none⟩ = some (.slice pk l.length ck) := by
        rw [ho.row.cellAt k (by omega), ← hv, ← ho.rest k (Nat.le_refl _), List.getD_eq_getElem?_getD, List.getElem?_eq_getElem (by rw [ho.row.1]; omega)]
        rfl
      have HO := Lib.hid ho
      have HV := Lib.hid hv
      have HBG : Hid (w.heap.size ≤ g) := Lib.hid hbg
      clear ho hv hbg hgl hnc hcm hle
      go_wp2_with fail
      refine (clone_bytes _ l _ (by rw [← HV.out]; exact HFS.out) hl).mono ?_
      rintro e w2 ⟨r, rfl, hr2, hb2⟩
      have HO2 := Lib.hid (HO.out.step hlt' HB.out.size hb2 (by rw [← HLE.out]; exact hr2))
      obtain ⟨q2, c2, rfl, _⟩ := own_cap hr2
      have hc2 : w2.cell? ⟨g, k, none⟩ = some (.slice pk l.length ck) := (hb2.cell (p := ⟨g, k, none⟩) (HO.out.row.lt g rfl).2).trans hck
      have hf2 : w2.frozen? ⟨g, k, none⟩ = false := (OwnK.below HO.out hb2).row.frozenAt k
      have HB2 := Lib.hid ((HB.out.trans (hb2.mono HB.out.size)).setCell (p := ⟨g, k, none⟩) HBG.out (.slice q2 l.length c2))
      clear hb2 hr2 hck
      go_wp2_with fail
      go_roundw
      case rel => exact ⟨k + 1, by omega, by go_num, ⟨_, HO2.out⟩, HB2.out⟩
      case measure => simp [intOf]; omega
    · have hkn : k = L.length := by rw [HZ.out]; omega
      have HO := Lib.hid (OwnK.done (hkn ▸ ho))
      clear ho hkn
      go_wp2_with fail
      go_ret
      exact ⟨_, _, rfl, by rw [← HZ.out]; exact HO.out, HB.out⟩
end Go.Proofs.YtmeomdfmljanhaaGreat.Pg
/- slices.Delete of one frame of a pool in memory of one's own; a frame more behind the last one; no condition but that there is such a frame. -/
namespace Go.Proofs.YtmeomdfmljanhaaGreat
set_option linter.unusedVariables false
open Go.ChangeShapes Go.WideShapes Go.ChangeAt Go.RowKit

theorem grown_trans {w w1 w2 : World} {row : Option Nat} (h : w.grownBy w1 row) (h2 : w1.grownBy w2 row) : w.grownBy w2 row :=
  ⟨h2.os.trans h.os, h2.tape.trans h.tape, h2.output.trans h.output, Nat.le_trans h.size h2.size, fun k hk hr => (h2.block k (Nat.lt_of_lt_of_le hk h.size) hr).trans (h.block k hk hr)⟩
theorem grown_cells (w : World) (g o : Nat) (vs : List Value) : w.grownBy (w.setCells g o vs) (some g) := by
  induction vs generalizing w o with
  | nil => exact ⟨rfl, rfl, rfl, Nat.le_refl _, fun _ _ _ => rfl⟩
  | cons v vs ih =>
    have h : w.grownBy (w.setCell ⟨g, o, none⟩ v) (some g) := ⟨rfl, rfl, rfl, by simp, fun k _ hk => heap_setCell_other w ⟨g, o, none⟩ k v (fun e => hk (by simp [e]))⟩
    exact grown_trans h (ih _ _)

set_option maxHeartbeats 4000000 in
set_option maxRecDepth 1000000 in
theorem delete_cells (g off n cap i j : Nat) (xs : List Value) (w : World) (hlen : xs.length = n) (hc : ∀ t, t < n → w.cell? ⟨g, off + t, none⟩ = xs[t]?) (hf : ∀ t, w.frozen? ⟨g, t, none⟩ = false) (h1 : ∀ u ∈ xs, u.oneCell' = true) (hij : j = i + 1) (hj : j ≤ n) (hnc : n ≤ cap) (hcm : cap ≤ 9223372036854775807) :
    Calls Tryz.prog 101 #[.slice (some ⟨g, off, none⟩) n cap, .int .i64 i, .int .i64 j] w fun e w' => e = .returned (.slice (some ⟨g, off, none⟩) (n - 1) cap) ∧ w.grownBy w' (some g) ∧ ∀ t, t < n - 1 → w'.cell? ⟨g, off + t, none⟩ = (xs.eraseIdx i)[t]? := by
  obtain ⟨i0, hi0, hz0, hz1, hz2⟩ := info_parts info30
  obtain ⟨news, hnews⟩ : ∃ news, news = xs.drop j := ⟨_, rfl⟩
  have hnl : news.length = n - j := by rw [hnews, List.length_drop, hlen]
  have hnx : ∀ t, news[t]? = xs[j + t]? := fun t => by rw [hnews, List.getElem?_drop]
  obtain ⟨A, hA, hsrc⟩ : ∃ A : Addr, (if cap = j then some (⟨g, off, none⟩ : Addr) else some ⟨g, off + j, none⟩) = some A ∧ Hid (∀ t u, news[t]? = some u → w.drew.cell? (A.add t) = some u) := by
    by_cases hcj : cap = j
    · refine ⟨⟨g, off, none⟩, by simp [hcj], fun t u hu => ?_⟩
      have h0 : news.length = 0 := by rw [hnl]; omega
      rw [List.length_eq_zero_iff.1 h0] at hu
      simp at hu
    · refine ⟨⟨g, off + j, none⟩, by simp [hcj], fun t u hu => ?_⟩
      have ht : t < n - j := by
        have := (List.getElem?_eq_some_iff.1 hu).1
        rwa [hnl] at this
      rw [hnx] at hu
      rw [Addr.add_lit, show off + j + t = off + (j + t) by omega]
      exact (hc (j + t) (by omega)).trans hu
  have s1 : Hid (news.length = (n - j) * 1) := by rw [Nat.mul_one]; exact hnl
  have s2 : Hid (∀ u ∈ news, u.oneCell' = true) := by
    intro u hu
    rw [hnews] at hu
    exact h1 u (List.mem_of_mem_drop hu)
  have hsome : ∀ t, t < n → (w.cell? ⟨g, off + t, none⟩).isSome = true := fun t ht => by
    rw [hc t ht, List.getElem?_eq_getElem (by omega)]
    rfl
  have s3 : Hid (∀ t, t < news.length → (w.drew.cell? ⟨g, off + i * 1 + t, none⟩).isSome = true ∧ w.drew.frozen? ⟨g, off + i * 1 + t, none⟩ = false) := by
    intro t ht
    rw [hnl] at ht
    rw [Nat.mul_one, Nat.add_assoc]
    exact ⟨hsome (i + t) (by omega), hf _⟩
  obtain ⟨W1, hW1⟩ : ∃ W1, W1 = w.drew.setCells g (off + i * 1) news := ⟨_, rfl⟩
  have c1 : ∀ t, t < i → W1.cell? ⟨g, off + t, none⟩ = xs[t]? := fun t ht => by
    rw [hW1, World.cell?_setCells_out g news _ _ _ (fun _ _ => .inl (by show off + t < off + i * 1; omega))]
    exact hc t (by omega)
  have c2 : ∀ t, t < n - j → W1.cell? ⟨g, off + (i + t), none⟩ = xs[j + t]? := fun t ht => by
    have := World.cell?_setCells_in g news (off + i * 1) w.drew (fun j hj => by rw [Nat.mul_one, Nat.add_assoc]; exact hsome (i + j) (by omega)) t (by omega)
    rw [Nat.mul_one, Nat.add_assoc] at this
    rw [hW1, Nat.mul_one, this, ← hnx, List.getElem?_eq_getElem]
  have c3 : (W1.cell? ⟨g, off + (n - 1), none⟩).isSome = true := by
    by_cases hl : n - j = 0
    · rw [hW1, World.cell?_setCells_out g news _ _ _ (fun _ _ => .inr (by show off + i * 1 + news.length ≤ off + (n - 1); omega))]
      exact hsome _ (by omega)
    · rw [hW1, World.cell?_setCells_out g news _ _ _ (fun _ _ => .inr (by show off + i * 1 + news.length ≤ off + (n - 1); omega))]
      exact hsome _ (by omega)
  have hfr1 : ∀ t, W1.frozen? ⟨g, t, none⟩ = false := fun t => by rw [hW1, World.frozen?_setCells]; exact hf t
  have hgr1 : Hid (w.grownBy W1 (some g)) := Lib.hid (by
    rw [hW1]
    have h0 : w.grownBy w.drew (some g) := ⟨rfl, rfl, rfl, Nat.le_refl _, fun _ _ _ => rfl⟩
    exact grown_trans h0 (grown_cells _ _ _ _))
  have hone : n - (i + (n - j)) = 1 := by omega
  have hzero : ∀ w, (zeroValue 104).run Tryz.prog w = .ok (.slice none 0 0) w := fun w => by
    simp [zeroValue, typeInfo, hi0, hz0]
  have hcl : ∀ ty, (Builtin.clear_ #[28] ty #[.slice (some ⟨g, off + (i + (n - j)), none⟩) (n - (i + (n - j))) (cap - (i + (n - j)))]).run Tryz.prog W1 = .ok (.tuple #[]) (W1.setCells g (off + (i + (n - j))) (List.replicate (n - (i + (n - j))) (.slice none 0 0))) :=
    fun ty => Lib.run_clear_slice W1 _ _ ty _ Tryz.underlying28 hzero rfl rfl g (off + (i + (n - j))) _ _ (by omega) (fun t ht => by rw [show off + (i + (n - j)) + t = off + (n - 1) by omega]; exact c3) (fun t ht => hfr1 _)
  have hW : Hid (W1 = w.drew.setCells g (off + i * 1) news) := hW1
  have hend : Hid (∀ t, t < n - 1 → (W1.setCells g (off + (i + (n - j))) (List.replicate (n - (i + (n - j))) (.slice none 0 0))).cell? ⟨g, off + t, none⟩ = (xs.eraseIdx i)[t]?) := Lib.hid (by
    intro t ht
    rw [World.cell?_setCells_out g _ _ _ _ (fun _ _ => .inl (by show off + t < off + (i + (n - j)); omega)), List.getElem?_eraseIdx]
    by_cases hti : t < i
    · rw [if_pos hti]; exact c1 t hti
    · rw [if_neg hti, show off + t = off + (i + (t - i)) by omega, c2 (t - i) (by omega)]
      congr 1
      omega)
  have hic : i ≤ cap := by omega
  have hjc : j ≤ cap := by omega
  have hin : i < n := by omega
  have hlt : i < j := by omega
  have HE : Hid (n - 1 = i + (n - j)) := Lib.hid (by omega)
  clear hW1 hc hf hnews hnl hlen c1 c2 c3 hfr1 h1 hone hzero hij hsome hnx
  go_enter Tryz.func101, Tryz.ntmps101
  go_wp2_with fail
  go_region_law (refine step_append_room rfl (.tmp 22) (.tmp 25) 28 rfl 104 i0 1 Tryz.underlying28 hi0 hz1 g off i cap (by simp [Act.eval, Act.put]) A (n - j) (cap - j) news (by simp [Act.eval, Act.put]) s1.out hsrc.out s2.out (by omega) s3.out ?_; rw [← hW.out])
  go_wp2
  go_ret
  refine ⟨by rw [HE.out]; rfl, grown_trans hgr1.out (grown_cells _ _ _ _), hend.out⟩

/-- A pool's frames stay where another block alone was written. -/
theorem Byts.grown {w w' : World} {p : Option Addr} {l : List Nat} {g : Nat} (h : Byts w p l) (hg : w.grownBy w' (some g)) (hne : ∀ a, p = some a → a.block ≠ g) : Byts w' p l :=
  ⟨h.lt, fun h0 => by
    obtain ⟨b, off, h1, h2, h3⟩ := h.c h0
    refine ⟨b, off, Nat.lt_of_lt_of_le h1 hg.size, h2, fun k hk => ?_⟩
    rw [World.cell?_of_block (hg.block b h1 (fun e => by injection e with e; exact hne _ h2 e))]
    exact h3 k hk⟩
theorem own_not {v : Value} {b : Nat} {p : Option Addr} {n c : Nat} (hv : v = .slice p n c) (h : ∀ g, v.ownBlock = some g → g ≠ b) : ∀ a, p = some a → a.block ≠ b := by
  intro a e
  subst e
  subst hv
  exact h a.block rfl
theorem Own.one {base : Nat} {w : World} {v : Value} {ys : List Value} {L : List (List Nat)} (h : Own base w v ys L) : ∀ u ∈ ys, u.oneCell' = true := by
  intro u hu
  obtain ⟨k, hk, rfl⟩ := List.getElem_of_mem hu
  have hkl : k < L.length := by have := h.row.1; omega
  obtain ⟨p, c, e⟩ := own_sl (h.fr k hkl)
  rw [List.getD_eq_getElem?_getD, List.getElem?_eq_getElem hk] at e
  have e' : ys[k] = _ := e
  rw [e']
  rfl
/-- None of the blocks in which a pool lies is one of Z. -/
def Off (Z : Nat → Prop) (p : Option Addr) (xs : List Value) (L : List (List Nat)) : Prop :=
  (0 < L.length → ∀ a, p = some a → ¬ Z a.block) ∧ ∀ k, k < L.length → 0 < (L.getD k []).length → ∀ g, (xs.getD k vz).ownBlock = some g → ¬ Z g
theorem Off.sub {Z Z' : Nat → Prop} {p : Option Addr} {xs : List Value} {L : List (List Nat)} (h : Off Z p xs L) (hz : ∀ b, Z' b → Z b) : Off Z' p xs L :=
  ⟨fun h0 a e hb => h.1 h0 a e (hz _ hb), fun k hk h0 g e hb => h.2 k hk h0 g e (hz _ hb)⟩
theorem Pl.off {Z : Nat → Prop} {w : World} {p : Option Addr} {xs : List Value} {L : List (List Nat)} (h : Pl w p xs L) (hz : ∀ b, Z b → w.heap.size ≤ b) : Off Z p xs L := by
  refine ⟨fun h0 a e hb => ?_, fun k hk h0 g e hb => ?_⟩
  · obtain ⟨b, off, hlt, e2, _⟩ := h.sl h0
    rw [e2] at e
    injection e with e
    subst e
    have := hz b hb
    omega
  · obtain ⟨q, c, e2, _, h2⟩ := h.fs k hk
    obtain ⟨b, off, hlt, e3, _⟩ := h2.c h0
    subst e3
    rw [e2] at e
    injection e with e
    subst e
    have := hz b hb
    omega
theorem Pl.set {w : World} {p : Option Addr} {xs : List Value} {L : List (List Nat)} (h : Pl w p xs L) {R : Nat} (ho : Off (fun b => b = R) p xs L) (j : Nat) (u : Value) : Pl (w.setCell ⟨R, j, none⟩ u) p xs L := by
  refine ⟨h.len, fun h0 => ?_, fun k hk => ?_, h.n100, h.l100⟩
  · obtain ⟨b, off, hlt, e, hc⟩ := h.sl h0
    refine ⟨b, off, by simpa using hlt, e, fun i hi => ?_⟩
    rw [World.cell?_setCell_other _ _ _ _ (by intro e2; injection e2 with e2; exact ho.1 h0 _ e e2.symm)]
    exact hc i hi
  · obtain ⟨q, c, e, h1, h2⟩ := h.fs k hk
    refine ⟨q, c, e, h1, h2.lt, fun h0 => ?_⟩
    obtain ⟨b, off, hlt, e3, hc⟩ := h2.c h0
    refine ⟨b, off, by simpa using hlt, e3, fun i hi => ?_⟩
    rw [World.cell?_setCell_other _ _ _ _ (by intro e2; injection e2 with e2; exact ho.2 k hk h0 b (by rw [e, e3]; rfl) e2.symm)]
    exact hc i hi
theorem Own.off {base : Nat} {w : World} {p : Option Addr} {c : Nat} {ys : List Value} {L : List (List Nat)} (h : Own base w (.slice p L.length c) ys L) : Off (fun b => b < base ∨ w.heap.size ≤ b) p ys L := by
  refine ⟨fun h0 a e hb => ?_, fun k hk h0 g e hb => ?_⟩
  · subst e
    have := h.row.lt a.block rfl
    omega
  · have := (h.fr k hk).lt g e
    omega
theorem delete_any (base i : Nat) (p0 : Option Addr) (c0 : Nat) (ys : List Value) (L : List (List Nat)) (w : World) (h : Own base w (.slice p0 L.length c0) ys L) (hn : L.length ≤ 100) (hl : ∀ l ∈ L, l.length ≤ 100) (hb : ∀ l ∈ L, ∀ x ∈ l, x < 256) (hi : i < L.length) (hbase : base ≤ w.heap.size) :
    Calls Tryz.prog 101 #[.slice p0 L.length c0, .int .i64 i, .int .i64 ((i : Int) + 1)] w fun e w' => ∃ p c, e = .returned (.slice p (L.eraseIdx i).length c) ∧ Pl w' p (ys.eraseIdx i) (L.eraseIdx i) ∧ (∀ Z, Off Z p0 ys L → Off Z p (ys.eraseIdx i) (L.eraseIdx i)) ∧ w.grownBy w' (Value.slice p0 L.length c0).ownBlock := by
  have h0 := h.row
  obtain ⟨p, cap, e0, hpl⟩ := h.pl hn hl hb
  injection e0 with e1 _ e3
  subst e1 e3
  obtain ⟨g, rfl, hnc, hcm, hbg, hgl⟩ := own_go h.row (by omega)
  have hlen : ys.length = L.length := by rw [h.row.1, Nat.mul_one]
  have hd := delete_cells g 0 L.length c0 i (i + 1) ys w hlen (fun t ht => by rw [Nat.zero_add]; exact h.row.cellAt t (by omega)) (fun t => h.row.frozenAt t) h.one rfl (by omega) hnc (by unfold maxLen at hcm; omega)
  rw [show (((i + 1 : Nat)) : Int) = (i : Int) + 1 by omega] at hd
  refine hd.mono fun e w' => ?_
  rintro ⟨rfl, hgr, hc⟩
  have hle : (L.eraseIdx i).length = L.length - 1 := by rw [List.length_eraseIdx, if_pos hi]
  refine ⟨_, c0, by rw [hle], ⟨?_, ?_, ?_, ?_, ?_⟩, fun Z hZ => ⟨fun _ => hZ.1 (by omega), fun k hk => ?_⟩, hgr⟩
  · rw [hle, List.length_eraseIdx, if_pos (by omega), hlen]
  · intro _
    refine ⟨g, 0, Nat.lt_of_lt_of_le hgl hgr.size, rfl, fun j hj => hc j ?_⟩
    rw [List.length_eraseIdx, if_pos (by omega), hlen] at hj
    exact hj
  · intro k hk
    rw [hle] at hk
    have key : ∀ m, m < L.length → Fs w' (ys.getD m vz) (L.getD m []) := fun m hm => by
      obtain ⟨p, c, e, h1, h2⟩ := hpl.fs m hm
      exact ⟨p, c, e, h1, h2.grown hgr (own_not e (fun g' e' e2 => h.sep m hm g' e' (by rw [e2]; rfl)))⟩
    rw [getD_erase, getD_erase]
    split
    · exact key k (by omega)
    · exact key (k + 1) (by omega)
  · rw [hle]; omega
  · exact fun l hm => hl l (List.mem_of_mem_eraseIdx hm)
  · rw [hle] at hk
    rw [getD_erase, getD_erase]
    split
    · exact hZ.2 k (by omega)
    · exact hZ.2 (k + 1) (by omega)

theorem Fs.far {w w' w'' : World} {v : Value} {l : List Nat} (h0 : Fs w v l) (h : Fs w' v l) (hb : Below w.heap.size w' w'') : Fs w'' v l := by
  obtain ⟨p, c, e, h1, h2⟩ := h0
  obtain ⟨p', c', e', h1', h2'⟩ := h
  rw [e] at e'
  injection e' with e1 _ e3
  subst e1
  refine ⟨p, c, e, h1, h2.lt, fun hl => ?_⟩
  obtain ⟨b, off, hlt, ep, _⟩ := h2.c hl
  obtain ⟨b', off', hlt', ep', hc'⟩ := h2'.c hl
  rw [ep] at ep'
  injection ep' with ep'
  injection ep' with e1 e2
  subst e1 e2
  exact ⟨b, off, Nat.lt_of_lt_of_le hlt' hb.size, ep, fun k hk => (hb.cell (p := ⟨b, off + k, none⟩) hlt).trans (hc' k hk)⟩
theorem own_set {w : World} {base : Nat} {e : TypeId} {size : Nat} {v : Value} {n : Nat} {xs : List Value} (h : w.ownsRow base e size v n xs) {R : Nat} (hR : v.ownBlock ≠ some R) (j : Nat) (u : Value) : (w.setCell ⟨R, j, none⟩ u).ownsRow base e size v n xs :=
  h.kept (row := some R) ⟨rfl, rfl, rfl, by simp, fun k _ hk => heap_setCell_other w ⟨R, j, none⟩ k u (fun e => hk (by simp [e]))⟩ (.inr hR)
theorem fs_grown {w w' : World} {v : Value} {l : List Nat} {row : Option Nat} (h : Fs w v l) (hg : w.grownBy w' row) (hne : ∀ g, v.ownBlock = some g → row ≠ some g) : Fs w' v l := by
  obtain ⟨p, c, rfl, h1, h2⟩ := h
  refine ⟨p, c, rfl, h1, h2.lt, fun h0 => ?_⟩
  obtain ⟨b, off, h3, rfl, h4⟩ := h2.c h0
  refine ⟨b, off, Nat.lt_of_lt_of_le h3 hg.size, rfl, fun k hk => ?_⟩
  rw [World.cell?_of_block (hg.block b h3 (fun e => hne b rfl e.symm))]
  exact h4 k hk

/-- What stood in the memory stands there behind an append, but for the spare cells of the row. -/
def Keeps (w w' : World) (ob : Option Nat) (n : Nat) : Prop := ∀ a x, w.cell? a = some x → (ob = some a.block → a.off < n) → w'.cell? a = some x
theorem append_keeps {P : Program} {w w' : World} {base : Nat} {t ty e : TypeId} {i : TypeInfo} {z : Value} {size bytes : Nat} (ht : P.underlying t = some (.slice e)) (hi : P.info? e = some i) (hz : i.zero = some z)
    (hsize : i.size = size) (hby : i.bytes = bytes) (hzs : z.cells.size = size) (hsz : 0 < size)
    {v v' : Value} {n : Nat} {xs : List Value} (hown : w.ownsRow base e size v n xs)
    {ad : Addr} {m c : Nat} {news : List Value} (hl : news.length = m * size) (hnews : ∀ j u, news[j]? = some u → w.cell? (ad.add j) = some u) (h1 : ∀ u ∈ news, u.oneCell' = true)
    (h63 : n + m ≤ maxLen) (hbytes : (n + m) * bytes ≤ 140737488355328) (hg : w.grownBy w' v.ownBlock)
    (hr : (Builtin.append_ #[t, t] ty #[v, .slice (some ad) m c]).run P w = .ok v' w') : Keeps w w' v.ownBlock (n * size) := by
  intro a x hx hlt
  have hspot : a.spot = none := World.cell?_spot hx
  by_cases hb : v.ownBlock = some a.block
  · obtain ⟨hxl, ⟨rfl, _⟩ | ⟨g, cap, cur, rfl, hbg, hgg, hnc, hcm, hcs, htake⟩⟩ := hown
    · cases hb
    · injection hb with hb
      simp at hb
      have hlt' := hlt (by rw [← hb]; rfl)
      have hcell : ∀ j, w.cell? ⟨g, j, none⟩ = cur[j]? := fun j => cell_of_row w g j cur e (0, 0) hgg
      by_cases hroom : n + m ≤ cap
      · have hfit : ∀ j, j < news.length → 0 + n * size + j < cur.size := fun j hj => by
          rw [hcs, Nat.zero_add]
          have : (n + m) * size ≤ cap * size := Nat.mul_le_mul_right _ hroom
          rw [Nat.add_mul, ← hl] at this
          omega
        have h2 := run_append_room_cells (P := P) w t ty e i ht hi g 0 n cap ad m c news (by rw [hsize]; exact hl) hnews h1 hroom (fun j hj => by rw [hsize, hcell, Array.getElem?_eq_getElem (hfit j hj)]; rfl) (fun j hj => frozen_of_row w g _ cur e hgg)
        rw [h2] at hr
        injection hr with _ hr
        rw [← hr, World.cell?_setCells_out g news _ _ _ (fun _ _ => .inl (by rw [hsize]; omega))]
        exact hx
      · obtain ⟨v2, w2, h2, _, h3⟩ := run_append_arg_grows (P := P) w t ty e i z size bytes ht hi hz hsize hby hzs hsz ⟨g, 0, none⟩ n cap xs hxl (fun j u hj => by
          rw [Addr.add_lit, Nat.zero_add, hcell]
          rw [← htake, List.getElem?_take] at hj
          split at hj
          · simpa using hj
          · cases hj) ad m c news hl hnews (by omega) h63 hbytes
        rw [h2] at hr
        injection hr with _ hr
        rw [← hr]
        exact h3.cell hx (by simp)
  · exact hg.cell hx (fun e => hb e.symm)
theorem wpList_append_keeps {P : Program} {ops : Array Oper} {rest : List Oper} {o : Oper} {a : Act} {w : World} {Q : Exit → Act → World → Prop} (hgd : o.guard = none) (s x : Operand) (t : TypeId)
    (ho : o.op = .call { callee := .builtin .append, args := #[s, x], argTypes := #[t, t] })
    (base : Nat) (e : TypeId) (i : TypeInfo) (z : Value) (size bytes : Nat) (ht : P.underlying t = some (.slice e)) (hi : P.info? e = some i) (hz : i.zero = some z)
    (hsize : i.size = size) (hby : i.bytes = bytes) (hzs : z.cells.size = size) (hsz : 0 < size)
    (v : Value) (n : Nat) (xs : List Value) (hs : a.eval s = v) (hown : w.ownsRow base e size v n xs)
    (ad : Addr) (m c : Nat) (news : List Value) (hx : a.eval x = .slice (some ad) m c) (hl : news.length = m * size) (hnews : ∀ j u, news[j]? = some u → w.cell? (ad.add j) = some u) (h1 : ∀ u ∈ news, u.oneCell' = true)
    (h63 : n + m ≤ maxLen) (hbytes : (n + m) * bytes ≤ 140737488355328) (hbase : base ≤ w.heap.size)
    (h : ∀ v' w', w'.ownsRow base e size v' (n + m) (xs ++ news) → w.grownBy w' v.ownBlock → (v'.ownBlock = v.ownBlock ∨ v'.ownBlock = some w.heap.size) → Keeps w w' v.ownBlock (n * size) → wpList P ops Q rest (a.put o.dst v') w') : wpList P ops Q (o :: rest) a w := by
  obtain ⟨v', w', hr, h2, h3, h4, h5⟩ := run_append_own_at (P := P) w base t o.type e i z size bytes ht hi hz hsize hby hzs hsz v n xs hown ad m c news hl hnews h1 h63 hbytes hbase
  have hk := append_keeps (P := P) ht hi hz hsize hby hzs hsz hown hl hnews h1 h63 hbytes h3 hr
  refine wpList_plain hgd fun K hK => ?_
  unfold Oper.wp execOp
  simp only [ho, resolve, invoke, builtin, Sem.run_bind, Sem.run_pure, Result.andThen_ok, List.map_toArray, List.map_cons, List.map_nil, hs, hx, hr]
  exact hK _ _ (h v' w' h2 h3 h5 hk)

set_option maxHeartbeats 2000000 in
theorem added_any (base : Nat) (v : Value) (ys : List Value) (L : List (List Nat)) (f : Value) (l : List Nat) (w : World) (h : Own base w v ys L) (hr : rightP L = true) (hb : ∀ l ∈ L, ∀ x ∈ l, x < 256) (hf : w.ownsRow base 5 1 f 19 (u8C l)) (hfl : l.length = 19) (hfb : ∀ x ∈ l, x < 256)
    (hsep : ∀ g, f.ownBlock = some g → v.ownBlock ≠ some g) (hbase : base ≤ w.heap.size) :
    Calls Tryz.prog 128 #[.agg #[v], f] w fun e w' => ∃ p c xs, e = .returned (.tuple #[.agg #[.slice p (addP L l).length c], .int .i64 (addE L)]) ∧ Pl w' p xs (addP L l) ∧ Off (fun b => b < base) p xs (addP L l) ∧ Below base w w' ∧ Keeps w w' v.ownBlock L.length := by
  obtain ⟨hn, hl⟩ := right_inv hr
  obtain ⟨i0, hi, hz0, hz1, hz2⟩ := info_parts info30
  have HI := Lib.hid (And.intro hi (And.intro hz0 (And.intro hz1 hz2)))
  obtain ⟨p, c, rfl, hpl⟩ := h.pl (by omega) (fun l' hm => by rw [hl l' hm]; omega) hb
  obtain ⟨pf, cf, rfl⟩ := own_sl hf
  have hroom : roomP L = 64 - (L.length : Int) := by unfold roomP; rw [hr, if_pos rfl]
  unfold addP addE
  have HO := Lib.hid h
  have HP := Lib.hid hpl
  have HF := Lib.hid hf
  have HL := Lib.hid hl
  have HBB := Lib.hid hb
  have HFB := Lib.hid hfb
  have HSEP := Lib.hid hsep
  have HR := Lib.hid (fun W hb => room_any p L.length c ys L W rfl (hpl.below hb))
  have HRM := Lib.hid hroom
  obtain ⟨n, hne⟩ : ∃ n, n = L.length := ⟨_, rfl⟩
  rw [← hne] at HR hn ⊢
  have HN := Lib.hid hne
  clear h hpl hf hl hb hi hz0 hz1 hz2 hroom hr hne hfb hsep
  by_cases h64 : 64 ≤ n
  · rw [if_pos h64, if_pos h64]
    have e64 : n = 64 := by omega
    subst e64
    clear h64 hn
    go_enter Tryz.func128, Tryz.ntmps128
    go_wp2_with fail
    refine (HR.out _ (((Below.refl _ _).alloc (Nat.le_refl _) _).alloc (by simp) _)).mono ?_
    rintro e w1 ⟨rfl, hb1⟩
    have HBX : Hid (Below w.heap.size w w1) := Lib.hid ((((Below.refl _ _).alloc (Nat.le_refl _) _).alloc (by simp) _).trans (hb1.mono (by simp; omega)))
    have HK := Blk.track2 hb1
    have HK2 := Blk.track1 hb1
    rw [World.size_alloc] at HK2
    have hk := HK.c
    have hk2 := HK2.c
    have hf2 := HK2.f
    have hl2 := HK2.lt
    have e0 : roomP L = 0 := by rw [HRM.out, ← HN.out]; rfl
    rw [e0]
    clear hb1 HK HK2 e0
    go_wp2_with fail
    exact bodyPost_ret (v := .tuple #[.agg #[.slice p 64 c], .int .i64 6]) (by simp [results, Tryz.results128, go_sem, *]) rfl ⟨p, c, ys, by rw [← HN.out], HP.out.below (HBX.out.setCell (p := ⟨w.heap.size + 1, 0, none⟩) (by show w.heap.size ≤ w.heap.size + 1; omega) _), (Own.off (c := c) HO.out).sub (fun b hb => .inl hb), (HBX.out.mono hbase).setCell (p := ⟨w.heap.size + 1, 0, none⟩) (by show base ≤ w.heap.size + 1; omega) _, fun a x hx _ => ((HBX.out.setCell (p := ⟨w.heap.size + 1, 0, none⟩) (by show w.heap.size ≤ w.heap.size + 1; omega) _).cell (p := a) (World.block_lt_of_cell? w a hx)).trans hx⟩
  · rw [if_neg h64, if_neg h64]
    have e0 : (64 - (n : Int) == 0) = false := by rw [beq_eq_false_iff_ne]; omega
    clear h64
    go_enter Tryz.func128, Tryz.ntmps128
    go_wp2_with fail
    refine (HR.out _ (((Below.refl _ _).alloc (Nat.le_refl _) _).alloc (by simp) _)).mono ?_
    rintro e w1 ⟨rfl, hb1⟩
    have HBX : Hid (Below w.heap.size w w1) := Lib.hid ((((Below.refl _ _).alloc (Nat.le_refl _) _).alloc (by simp) _).trans (hb1.mono (by simp; omega)))
    have HK := Blk.track2 hb1
    have HK2 := Blk.track1 hb1
    rw [World.size_alloc] at HK2
    have HKB := Lib.hid HK
    have HKR := Lib.hid HK2
    have hk := HK.c
    rw [HRM.out, ← HN.out]
    clear hb1 HK HK2
    have HOW : Hid ((w1.alloc (.cells #[.slice pf 19 cf] 104)).ownsRow base 104 1 (.slice p n c) n ys) := Lib.hid (by
      have := (own_below HO.out.row HBX.out).alloc (.cells #[.slice pf 19 cf] 104)
      rw [← HN.out] at this
      exact this)
    go_wp2_with (first | (at_builtin; refine wpList_append_keeps rfl _ _ 28 rfl base 104 i0 (.slice none 0 0) 1 24 Tryz.underlying28 HI.out.1 HI.out.2.1 HI.out.2.2.1 HI.out.2.2.2 rfl (by decide) _ _ _ rfl HOW.out ⟨w1.heap.size, 0, none⟩ 1 1 [.slice pf 19 cf] rfl rfl (fun j u hj => by rw [Addr.add_lit, Nat.zero_add, World.cell?_alloc_new]; simpa using hj) (by intro u hu; rw [List.mem_singleton.1 hu]; rfl) (by unfold maxLen; omega) (by omega) (Nat.le_trans hbase (Nat.le_trans HBX.out.size (by simp))) ?_))
    intro v' w3 g1 g2 g3 g4
    have HKP := Lib.hid g4
    clear g4
    obtain ⟨p3, c3, rfl, hc3⟩ := own_cap g1
    have hsz : w.heap.size + 2 ≤ w1.heap.size := HKR.out.lt
    have hpl : ∀ g, (Value.slice p n c).ownBlock = some g → g < w.heap.size := fun g e => (HO.out.row.lt g (by rw [← HN.out]; exact e)).2
    have hnb : ∀ R, w.heap.size ≤ R → R < w1.heap.size → (Value.slice p3 (n + 1) c3).ownBlock ≠ some R := fun R h1 h2 e => by
      rcases g3 with g3 | g3
      · rw [g3] at e; have := hpl R e; omega
      · rw [g3] at e; simp at e; omega
    have hkb : ∀ R cs, Blk w1 R cs → w.heap.size ≤ R → Blk w3 R cs := fun R cs hK hR => (hK.alloc _).grown g2 (fun e => by have := hpl R e; omega)
    have HKB3 := Lib.hid (hkb _ _ HKB.out (Nat.le_refl _))
    have HKR3 := Lib.hid (hkb _ _ HKR.out (by omega))
    have HOW3 := Lib.hid g1
    have HNB := Lib.hid hnb
    have HSZ := Lib.hid hsz
    have hb3 : Below base w w3 := ((HBX.out.mono hbase).alloc (by have := HBX.out.size; omega) _).grown g2 (by have := HBX.out.size; simp; omega) (fun k hk => (HOW.out.lt k hk).1)
    have hfsA : ∀ k, k < L.length → Fs w3 (ys.getD k vz) (L.getD k []) := fun k hk =>
      fs_grown (((HP.out.fs k hk).below HBX.out).below ((Below.refl _ _).alloc (Nat.le_refl _) _)) g2 (fun g e e2 => HO.out.sep k hk g e (by rw [← HN.out]; exact e2))
    have hf0 : Fs w (.slice pf 19 cf) l := own_fs (by rw [hfl]; exact HF.out) HFB.out
    have hfsB : Fs w3 (.slice pf 19 cf) l :=
      fs_grown ((hf0.below HBX.out).below ((Below.refl _ _).alloc (Nat.le_refl _) _)) g2 (fun g e e2 => HSEP.out g e (by rw [← HN.out]; exact e2))
    have HB3 := Lib.hid hb3
    have HFA := Lib.hid hfsA
    have HFBB := Lib.hid hfsB
    have HF0 := Lib.hid hf0
    clear g1 g2 g3 hpl hnb hkb hb3 hfsA hfsB hf0 hk hsz
    have kB := HKB3.out.c
    have fB := HKB3.out.f
    have lB := HKB3.out.lt
    have kR := HKR3.out.c
    have fR := HKR3.out.f
    have lR := HKR3.out.lt
    go_wp2_with fail
    have hB34 : Below w.heap.size w3 ((w3.setCell ⟨w.heap.size, 0, none⟩ (.slice p3 (n + 1) c3)).setCell ⟨w.heap.size + 1, 0, none⟩ (.slice p3 (n + 1) c3)) := by
      exact ((Below.refl _ _).setCell (p := ⟨w.heap.size, 0, none⟩) (Nat.le_refl _) _).setCell (p := ⟨w.heap.size + 1, 0, none⟩) (Nat.le_succ _) _
    have hrow : ((w3.setCell ⟨w.heap.size, 0, none⟩ (.slice p3 (n + 1) c3)).setCell ⟨w.heap.size + 1, 0, none⟩ (.slice p3 (n + 1) c3)).ownsRow base 104 1 (.slice p3 (n + 1) c3) (n + 1) (ys ++ [.slice pf 19 cf]) := by
      refine own_set (own_set HOW3.out ?_ 0 _) ?_ 0 _
      · exact HNB.out _ (Nat.le_refl _) (by have := HSZ.out; omega)
      · exact HNB.out _ (Nat.le_succ _) (by have := HSZ.out; omega)
    refine bodyPost_ret (v := .tuple #[.agg #[.slice p3 (n + 1) c3], .int .i64 0]) ?_ ?_ ?_
    · simp [results, Tryz.results128, go_sem, *]
    · rfl
    refine ⟨p3, c3, ys ++ [.slice pf 19 cf], by rw [List.length_append, HN.out]; rfl, ?_, ⟨fun _ a e hb => ?_, fun k hk _ g e hb => ?_⟩, HB3.out.trans (hB34.mono hbase), fun a x hx hne => ?_⟩
    rotate_left
    · subst e
      have := (HOW3.out.lt a.block rfl).1
      omega
    · rw [getD_append1] at e
      rw [List.length_append] at hk
      simp at hk
      have hys : ys.length = L.length := HP.out.len
      rw [hys] at e
      by_cases hkl : k < L.length
      · rw [if_pos hkl] at e
        have := ((HO.out.fr k hkl).lt g e).1
        omega
      · rw [if_neg hkl, if_pos (by omega)] at e
        have := (HF.out.lt g e).1
        omega
    · have hb := World.block_lt_of_cell? w a hx
      refine (hB34.cell (p := a) hb).trans (HKP.out a x ?_ (fun e => hne e))
      exact (((HBX.out.alloc HBX.out.size _)).cell (p := a) hb).trans hx
    have hys : ys.length = L.length := HP.out.len
    refine ⟨by simp [hys], ?_, fun k hk => ?_, by rw [List.length_append, ← HN.out]; simp; omega, fun l' hm => ?_⟩
    · rw [List.length_append, ← HN.out]
      obtain ⟨q, cq, e, hs⟩ := Sl.own hrow
      injection e with e _ _
      rw [← e] at hs
      exact hs
    · rw [getD_append1, getD_append1, hys]
      rw [List.length_append] at hk
      simp at hk
      by_cases hkl : k < L.length
      · rw [if_pos hkl, if_pos hkl]
        exact (HP.out.fs k hkl).far (HFA.out k hkl) hB34
      · have e : k = L.length := by omega
        rw [if_neg hkl, if_neg hkl, if_pos e, if_pos e]
        exact HF0.out.far HFBB.out hB34
    · rcases List.mem_append.1 hm with hm | hm
      · rw [HL.out l' hm]; omega
      · rw [List.mem_singleton.1 hm, hfl]; omega
end Go.Proofs.YtmeomdfmljanhaaGreat
/- A system in memory: of each list its block, and of each place of it its value; no two that may be written share a block. -/
namespace Go.Proofs.YtmeomdfmljanhaaGreat.Pg
set_option linter.unusedVariables false
open Go.ChangeShapes Go.WideShapes Go.ChangeAt Go.RowKit

/-- What has a block of its own: the lists of a system, and the system itself where it is a variable. -/
inductive Tg where
  | st
  | sr (n : Nat)
  | va
  | vr (n : Nat)
  | wt
  | ho
  | di
  | sh (k : Nat)
  | bu
  | bx
  deriving DecidableEq
/-- How many cells it has; how many elements. -/
def Tg.sz (bs c l : Nat) : Tg → Nat
  | .st => c
  | .sr n => if n < c then l else 0
  | .va => c
  | .vr n => if n < c then l else 0
  | .wt => c * 9
  | .ho => l
  | .di => l * 2
  | .sh k => if k < l then c else 0
  | .bu => l
  | .bx => bs
def Tg.nm (c l : Nat) : Tg → Nat
  | .st => c
  | .sr _ => l
  | .va => c
  | .vr _ => l
  | .wt => c
  | .ho => l
  | .di => l
  | .sh _ => c
  | .bu => l
  | .bx => 0
def Tg.wr : Tg → Bool
  | .sh _ => false
  | _ => true
structure Pa where
  b : Nat
  o : Nat
  c : Nat
def Pa.sl (x : Pa) (n : Nat) : Value := .slice (some ⟨x.b, x.o, none⟩) n x.c
def wtL (x : Pr.Wt) : List Value := [.int .i64 x.line, .bool x.write, .bool x.back, .bool x.came, .bool x.own, .bool x.keep, .int .i64 x.need, .int .i64 x.got, .int .u32 x.val]
def bxL (c l : Nat) (A : Tg → Pa) (pv f : Value) : List Value := [(A .st).sl c, (A .va).sl c, (A .wt).sl c, (A .ho).sl l, (A .di).sl l, (A .bu).sl l, pv, f]
def ct (c l : Nat) (A : Tg → Pa) (F : Pr.Fs) (pv f : Value) : Tg → Nat → Value
  | .st, j => (A (.sr j)).sl l
  | .sr n, j => .int .i64 (F.st n j)
  | .va, j => (A (.vr j)).sl l
  | .vr n, j => .int .u32 (F.va n j)
  | .wt, j => (wtL (F.wt (j / 9))).getD (j % 9) vz
  | .ho, j => .int .u32 (F.home j)
  | .di, j => if j % 2 = 0 then .int .i64 (F.own (j / 2)) else (A (.sh (j / 2))).sl c
  | .sh k, j => .bool (F.sh k j)
  | .bu, j => .int .i64 (F.busy j)
  | .bx, j => (bxL c l A pv f).getD j vz
structure Mem (w : World) (bs c l : Nat) (A : Tg → Pa) (F : Pr.Fs) (pv f : Value) : Prop where
  lt : ∀ t, 0 < t.sz bs c l → (A t).b < w.heap.size
  cell : ∀ t j, j < t.sz bs c l → w.cell? ⟨(A t).b, (A t).o + j, none⟩ = some (ct c l A F pv f t j)
  fz : ∀ t, t.wr = true → 0 < t.sz bs c l → ∀ j, w.frozen? ⟨(A t).b, j, none⟩ = false
  inj : ∀ t t', t.wr = true → 0 < t.sz bs c l → 0 < t'.sz bs c l → (A t).b = (A t').b → t = t'
  cap : ∀ t, 0 < t.sz bs c l → t.nm c l ≤ (A t).c
  c1 : 1 ≤ c
  c4 : c ≤ 4
  l1 : 1 ≤ l
  l16 : l ≤ 16
/-- The blocks of a system that may be written. -/
def Zs (bs c l : Nat) (A : Tg → Pa) (R : Nat) : Prop := ∃ t : Tg, t.wr = true ∧ 0 < t.sz bs c l ∧ (A t).b = R

theorem Mem.below {w w' : World} {bs c l : Nat} {A : Tg → Pa} {F : Pr.Fs} {pv f : Value} (h : Mem w bs c l A F pv f) (hb : Below w.heap.size w w') : Mem w' bs c l A F pv f where
  lt := fun t h0 => Nat.lt_of_lt_of_le (h.lt t h0) hb.size
  cell := fun t j hj => (hb.cell (p := ⟨(A t).b, (A t).o + j, none⟩) (h.lt t (by omega))).trans (h.cell t j hj)
  fz := fun t ht h0 j => (hb.frozen (p := ⟨(A t).b, j, none⟩) (h.lt t h0)).trans (h.fz t ht h0 j)
  inj := h.inj
  cap := h.cap
  c1 := h.c1
  c4 := h.c4
  l1 := h.l1
  l16 := h.l16
theorem Mem.drew {w : World} {bs c l : Nat} {A : Tg → Pa} {F : Pr.Fs} {pv f : Value} (h : Mem w bs c l A F pv f) : Mem w.drew bs c l A F pv f := ⟨h.lt, h.cell, h.fz, h.inj, h.cap, h.c1, h.c4, h.l1, h.l16⟩
/-- A cell is written. -/
theorem Mem.store {w : World} {bs c l : Nat} {A : Tg → Pa} {F F' : Pr.Fs} {pv pv' f f' : Value} (h : Mem w bs c l A F pv f) (t : Tg) (j : Nat) (u : Value) (ht : t.wr = true) (hj : j < t.sz bs c l)
    (hc : ∀ t' j', j' < t'.sz bs c l → ct c l A F' pv' f' t' j' = if t' = t ∧ j' = j then u else ct c l A F pv f t' j') : Mem (w.setCell ⟨(A t).b, (A t).o + j, none⟩ u) bs c l A F' pv' f' where
  lt := fun t' h0 => by simpa using h.lt t' h0
  cell := fun t' j' hj' => by
    rw [hc t' j' hj']
    by_cases e : t' = t ∧ j' = j
    · obtain ⟨rfl, rfl⟩ := e
      rw [if_pos ⟨rfl, rfl⟩]
      exact World.cell?_setCell_same _ _ _ (h.cell _ _ hj')
    · rw [if_neg e, World.cell?_setCell_other _ _ _ _ (by
        intro e2
        injection e2 with e3 e4
        have := h.inj t t' ht (by omega) (by omega) e3
        subst this
        exact e ⟨rfl, by omega⟩)]
      exact h.cell t' j' hj'
  fz := fun t' ht' h0 i => by simpa using h.fz t' ht' h0 i
  inj := h.inj
  cap := h.cap
  c1 := h.c1
  c4 := h.c4
  l1 := h.l1
  l16 := h.l16
/-- A row of it, as the cells of a list. -/
def rowOf (bs c l : Nat) (A : Tg → Pa) (F : Pr.Fs) (pv f : Value) (t : Tg) : List Value := (List.range (t.sz bs c l)).map (ct c l A F pv f t)
theorem rowOf_len (bs c l : Nat) (A : Tg → Pa) (F : Pr.Fs) (pv f : Value) (t : Tg) : (rowOf bs c l A F pv f t).length = t.sz bs c l := by unfold rowOf; rw [List.length_map, List.length_range]
theorem rowOf_at {bs c l : Nat} {A : Tg → Pa} {F : Pr.Fs} {pv f : Value} {t : Tg} {j : Nat} (hj : j < t.sz bs c l) : (rowOf bs c l A F pv f t)[j]? = some (ct c l A F pv f t j) := by
  unfold rowOf
  rw [List.getElem?_map, List.getElem?_range hj]
  rfl
theorem wtL_one (x : Pr.Wt) (j : Nat) : ((wtL x).getD j vz).oneCell' = true := by
  unfold wtL
  rcases j with _ | _ | _ | _ | _ | _ | _ | _ | _ | j <;> rfl
theorem ct_one {bs c l : Nat} {A : Tg → Pa} {F : Pr.Fs} {pv f : Value} (t : Tg) (j : Nat) (ht : t ≠ .bx) : (ct c l A F pv f t j).oneCell' = true := by
  cases t <;> first | rfl | exact wtL_one _ _ | exact absurd rfl ht | (simp only [ct]; split <;> rfl)
theorem rowOf_one {bs c l : Nat} {A : Tg → Pa} {F : Pr.Fs} {pv f : Value} {t : Tg} (ht : t ≠ .bx) : ∀ u ∈ rowOf bs c l A F pv f t, u.oneCell' = true := by
  intro u hu
  unfold rowOf at hu
  obtain ⟨j, _, rfl⟩ := List.mem_map.1 hu
  exact ct_one (bs := bs) t j ht
theorem Mem.sl {w : World} {bs c l : Nat} {A : Tg → Pa} {F : Pr.Fs} {pv f : Value} (h : Mem w bs c l A F pv f) (t : Tg) (h0 : 0 < t.sz bs c l) (n : Nat) : Sl w (some ⟨(A t).b, (A t).o, none⟩) n (rowOf bs c l A F pv f t) := fun _ =>
  ⟨(A t).b, (A t).o, h.lt t h0, rfl, fun j hj => by
    rw [rowOf_len] at hj
    rw [h.cell t j hj, rowOf_at hj]⟩
/-- Whatever lies otherwise, but says the same. -/
theorem Mem.same {w : World} {bs c l : Nat} {A : Tg → Pa} {F F' : Pr.Fs} {pv pv' f f' : Value} (h : Mem w bs c l A F pv f) (hc : ∀ t j, j < t.sz bs c l → ct c l A F' pv' f' t j = ct c l A F pv f t j) : Mem w bs c l A F' pv' f' :=
  ⟨h.lt, fun t j hj => by rw [hc t j hj]; exact h.cell t j hj, h.fz, h.inj, h.cap, h.c1, h.c4, h.l1, h.l16⟩
theorem Mem.less {w : World} {bs c l : Nat} {A : Tg → Pa} {F : Pr.Fs} {pv f : Value} (h : Mem w bs c l A F pv f) (f' : Value) : Mem w 0 c l A F pv f' where
  lt := fun t h0 => h.lt t (by cases t <;> first | exact h0 | cases h0)
  cell := fun t j hj => by
    rw [h.cell t j (by cases t <;> first | exact hj | cases hj)]
    cases t <;> first | rfl | cases hj
  fz := fun t ht h0 => h.fz t ht (by cases t <;> first | exact h0 | cases h0)
  inj := fun t t' ht h0 h1 => h.inj t t' ht (by cases t <;> first | exact h0 | cases h0) (by cases t' <;> first | exact h1 | cases h1)
  cap := fun t h0 => h.cap t (by cases t <;> first | exact h0 | cases h0)
  c1 := h.c1
  c4 := h.c4
  l1 := h.l1
  l16 := h.l16

/-- A value that reads as a system of c cores and l lines, with these frames under way. -/
def Sv (w : World) (v : Value) (c l : Nat) (F : Pr.Fs) (L : List (List Nat)) : Prop :=
  ∃ A p cp xs, v = .agg #[(A .st).sl c, (A .va).sl c, (A .wt).sl c, (A .ho).sl l, (A .di).sl l, (A .bu).sl l, .slice p L.length cp] ∧ Mem w 0 c l A F vz vz ∧ Pl w p xs L
theorem Sv.below {w w' : World} {v : Value} {c l : Nat} {F : Pr.Fs} {L : List (List Nat)} (h : Sv w v c l F L) (hb : Below w.heap.size w w') : Sv w' v c l F L := by
  obtain ⟨A, p, cp, xs, h1, h2, h3⟩ := h
  exact ⟨A, p, cp, xs, h1, h2.below hb, h3.below hb⟩
/-- The work on a system: a variable at B, all of which lies from base on, and which sends by f. -/
structure Wk (w : World) (base B c l : Nat) (F : Pr.Fs) (L : List (List Nat)) (f : Value) (A : Tg → Pa) (p : Option Addr) (cp : Nat) (xs : List Value) : Prop where
  mem : Mem w 8 c l A F (.slice p L.length cp) f
  at_ : A .bx = ⟨B, 0, 0⟩
  pl : Pl w p xs L
  off : Off (Zs 8 c l A) p xs L
  low : Off (fun b => b < base) p xs L
  base : ∀ t : Tg, t.wr = true → 0 < t.sz 8 c l → base ≤ (A t).b
end Go.Proofs.YtmeomdfmljanhaaGreat.Pg
/- A system that was laid list by list. -/
namespace Go.Proofs.YtmeomdfmljanhaaGreat.Pg
set_option linter.unusedVariables false
open Go.ChangeShapes Go.WideShapes Go.ChangeAt Go.RowKit

def paOf : Value → Pa
  | .slice (some a) _ cc => ⟨a.block, a.off, cc⟩
  | _ => ⟨0, 0, 0⟩
/-- A row in memory of one's own, between two blocks. -/
def GO (T : TypeId) (s lo hi : Nat) (W : World) (v : Value) (n : Nat) (xs : List Value) : Prop := W.ownsRow lo T s v n xs ∧ ∀ g, v.ownBlock = some g → g < hi
theorem GO.below {T : TypeId} {s lo hi : Nat} {W W' : World} {v : Value} {n : Nat} {xs : List Value} (h : GO T s lo hi W v n xs) (hb : Below W.heap.size W W') : GO T s lo hi W' v n xs := ⟨own_below h.1 hb, h.2⟩
theorem GO.of {T : TypeId} {s lo : Nat} {W : World} {v : Value} {n : Nat} {xs : List Value} (h : W.ownsRow lo T s v n xs) : GO T s lo W.heap.size W v n xs := ⟨h, fun g e => (h.lt g e).2⟩
structure Rw (W : World) (x : Pa) (lo hi n m : Nat) (g : Nat → Value) : Prop where
  lo : lo ≤ x.b
  hi : x.b < hi
  lt : x.b < W.heap.size
  cap : n ≤ x.c
  c : ∀ j, j < m → W.cell? ⟨x.b, x.o + j, none⟩ = some (g j)
  f : ∀ j, W.frozen? ⟨x.b, j, none⟩ = false
theorem GO.rw_ {T : TypeId} {s lo hi : Nat} {W : World} {v : Value} {n : Nat} {xs : List Value} (h : GO T s lo hi W v n xs) (h0 : 0 < n) {g : Nat → Value} (hg : ∀ j, j < n * s → xs[j]? = some (g j)) : Rw W (paOf v) lo hi n (n * s) g ∧ v = (paOf v).sl n := by
  obtain ⟨hr, hh⟩ := h
  have hl := hr.1
  obtain ⟨h1, ⟨_, h2⟩ | ⟨b, cap, cur, rfl, e2, e3, e4, e5, _⟩⟩ := hr
  · omega
  · have hr : W.ownsRow lo T s (.slice (some ⟨b, 0, none⟩) n cap) n xs := ⟨h1, .inr ⟨b, cap, cur, rfl, e2, e3, e4, e5, by assumption⟩⟩
    refine ⟨⟨e2, hh b rfl, (Array.getElem?_eq_some_iff.1 e3).1, e4, fun j hj => ?_, fun j => hr.frozenAt j⟩, rfl⟩
    show W.cell? ⟨b, 0 + j, none⟩ = _
    rw [Nat.zero_add, hr.cellAt j (by omega), hg j hj]
/-- Rows of rows likewise. -/
structure GR (T1 T2 : TypeId) (lo hi : Nat) (W : World) (v : Value) (l : Nat) (cs : Nat → List Value) (ys : List Value) (n : Nat) : Prop where
  o : OwnR T1 T2 lo W v (fun _ => l) cs ys ys n n
  h0 : ∀ g, v.ownBlock = some g → g < hi
  h1 : ∀ j, j < n → ∀ g, (ys.getD j vz).ownBlock = some g → g < hi
theorem GR.below {T1 T2 : TypeId} {lo hi : Nat} {W W' : World} {v : Value} {l : Nat} {cs : Nat → List Value} {ys : List Value} {n : Nat} (h : GR T1 T2 lo hi W v l cs ys n) (hb : Below W.heap.size W W') : GR T1 T2 lo hi W' v l cs ys n := ⟨h.o.below hb, h.h0, h.h1⟩
theorem GR.of {T1 T2 : TypeId} {lo : Nat} {W : World} {v : Value} {l : Nat} {cs : Nat → List Value} {ys : List Value} {n : Nat} (h : OwnR T1 T2 lo W v (fun _ => l) cs ys ys n n) : GR T1 T2 lo W.heap.size W v l cs ys n :=
  ⟨h, fun g e => (h.row.lt g e).2, fun j hj g e => ((h.fr j hj).lt g e).2⟩
theorem GR.rows {T1 T2 : TypeId} {lo hi : Nat} {W : World} {v : Value} {l : Nat} {cs : Nat → List Value} {ys : List Value} {n : Nat} (h : GR T1 T2 lo hi W v l cs ys n) {j : Nat} (hj : j < n) : GO T2 1 lo hi W (ys.getD j vz) l (cs j) := ⟨h.o.fr j hj, h.h1 j hj⟩
theorem GR.row {T1 T2 : TypeId} {lo hi : Nat} {W : World} {v : Value} {l : Nat} {cs : Nat → List Value} {ys : List Value} {n : Nat} (h : GR T1 T2 lo hi W v l cs ys n) : GO T1 1 lo hi W v n ys := ⟨h.o.row, h.h0⟩

def gi : Tg → Nat
  | .st => 0 | .sr _ => 0 | .va => 1 | .vr _ => 1 | .wt => 2 | .ho => 3 | .di => 4 | .bu => 5 | .bx => 6 | .sh _ => 7
def mkA (A : Tg → Pa) (v0 v1 v2 v3 v4 v5 : Value) (y0 y1 : List Value) (B : Nat) : Tg → Pa
  | .st => paOf v0
  | .sr j => paOf (y0.getD j vz)
  | .va => paOf v1
  | .vr j => paOf (y1.getD j vz)
  | .wt => paOf v2
  | .ho => paOf v3
  | .di => paOf v4
  | .bu => paOf v5
  | .sh k => A (.sh k)
  | .bx => ⟨B, 0, 0⟩
theorem owb {v : Value} {n : Nat} {g : Nat} (e : v = (paOf v).sl n) (h : (paOf v).b = g) : v.ownBlock = some g := by
  rw [e]
  show some (paOf v).b = some g
  rw [h]
theorem mem_made {w W : World} {c l : Nat} {A : Tg → Pa} {F : Pr.Fs} {v0 v1 v2 v3 v4 v5 pv : Value} {y0 y1 : List Value} {B : Nat} {lo hi : Nat → Nat} {T0 T1 T2 T3 T4 T5 T6 T7 : TypeId} (h : Mem w 0 c l A F vz vz)
    (g0 : GR T0 T1 (lo 0) (hi 0) W v0 l (fun j => rowOf 0 c l A F vz vz (.sr j)) y0 c) (g1 : GR T2 T3 (lo 1) (hi 1) W v1 l (fun j => rowOf 0 c l A F vz vz (.vr j)) y1 c)
    (g2 : GO T4 9 (lo 2) (hi 2) W v2 c (rowOf 0 c l A F vz vz .wt)) (g3 : GO T5 1 (lo 3) (hi 3) W v3 l (rowOf 0 c l A F vz vz .ho)) (g4 : GO T6 2 (lo 4) (hi 4) W v4 l (rowOf 0 c l A F vz vz .di)) (g5 : GO T7 1 (lo 5) (hi 5) W v5 l (rowOf 0 c l A F vz vz .bu))
    (hb : Blk W B #[v0, v1, v2, v3, v4, v5, pv]) (h01 : hi 0 ≤ lo 1) (h12 : hi 1 ≤ lo 2) (h23 : hi 2 ≤ lo 3) (h34 : hi 3 ≤ lo 4) (h45 : hi 4 ≤ lo 5) (hlo : w.heap.size ≤ lo 0) (hlh : ∀ i, i < 6 → lo i ≤ hi i) (hBl : w.heap.size ≤ B) (hB : ∀ i, i < 6 → B < lo i ∨ hi i ≤ B) (hw : Below w.heap.size w W) :
    Mem W 7 c l (mkA A v0 v1 v2 v3 v4 v5 y0 y1 B) F pv vz ∧ v0 = (mkA A v0 v1 v2 v3 v4 v5 y0 y1 B .st).sl c ∧ v1 = (mkA A v0 v1 v2 v3 v4 v5 y0 y1 B .va).sl c ∧ v2 = (mkA A v0 v1 v2 v3 v4 v5 y0 y1 B .wt).sl c ∧ v3 = (mkA A v0 v1 v2 v3 v4 v5 y0 y1 B .ho).sl l ∧ v4 = (mkA A v0 v1 v2 v3 v4 v5 y0 y1 B .di).sl l ∧ v5 = (mkA A v0 v1 v2 v3 v4 v5 y0 y1 B .bu).sl l := by
  have hc1 := h.c1
  have hl1 := h.l1
  have k0 := fun j (hj : j < c) => (g0.rows hj).rw_ hl1 (g := ct c l (mkA A v0 v1 v2 v3 v4 v5 y0 y1 B) F pv vz (.sr j)) (fun i hi => by
    rw [rowOf_at (by show i < if j < c then l else 0; rw [if_pos hj]; omega)]; rfl)
  have k1 := fun j (hj : j < c) => (g1.rows hj).rw_ hl1 (g := ct c l (mkA A v0 v1 v2 v3 v4 v5 y0 y1 B) F pv vz (.vr j)) (fun i hi => by
    rw [rowOf_at (by show i < if j < c then l else 0; rw [if_pos hj]; omega)]; rfl)
  have y0l : y0.length = c := by rw [g0.o.row.1, Nat.mul_one]
  have y1l : y1.length = c := by rw [g1.o.row.1, Nat.mul_one]
  have r0 := g0.row.rw_ hc1 (g := ct c l (mkA A v0 v1 v2 v3 v4 v5 y0 y1 B) F pv vz .st) (fun i hi => by
    have hi : i < c := by omega
    rw [List.getElem?_eq_getElem (by omega)]
    show _ = some ((paOf (y0.getD i vz)).sl l)
    rw [← (k0 i hi).2, List.getD_eq_getElem?_getD, List.getElem?_eq_getElem (by omega)]; rfl)
  have r1 := g1.row.rw_ hc1 (g := ct c l (mkA A v0 v1 v2 v3 v4 v5 y0 y1 B) F pv vz .va) (fun i hi => by
    have hi : i < c := by omega
    rw [List.getElem?_eq_getElem (by omega)]
    show _ = some ((paOf (y1.getD i vz)).sl l)
    rw [← (k1 i hi).2, List.getD_eq_getElem?_getD, List.getElem?_eq_getElem (by omega)]; rfl)
  have r2 := g2.rw_ hc1 (g := ct c l (mkA A v0 v1 v2 v3 v4 v5 y0 y1 B) F pv vz .wt) (fun i hi => by rw [rowOf_at (show i < c * 9 from hi)]; rfl)
  have r3 := g3.rw_ hl1 (g := ct c l (mkA A v0 v1 v2 v3 v4 v5 y0 y1 B) F pv vz .ho) (fun i hi => by rw [rowOf_at (show i < l by omega)]; rfl)
  have r4 := g4.rw_ hl1 (g := ct c l (mkA A v0 v1 v2 v3 v4 v5 y0 y1 B) F pv vz .di) (fun i hi => by rw [rowOf_at (show i < l * 2 from hi)]; rfl)
  have r5 := g5.rw_ hl1 (g := ct c l (mkA A v0 v1 v2 v3 v4 v5 y0 y1 B) F pv vz .bu) (fun i hi => by rw [rowOf_at (show i < l by omega)]; rfl)
  obtain ⟨A', hA'⟩ : ∃ A', A' = mkA A v0 v1 v2 v3 v4 v5 y0 y1 B := ⟨_, rfl⟩
  have e0 : v0 = (A' .st).sl c := by rw [hA']; exact r0.2
  have e1 : v1 = (A' .va).sl c := by rw [hA']; exact r1.2
  have e2 : v2 = (A' .wt).sl c := by rw [hA']; exact r2.2
  have e3 : v3 = (A' .ho).sl l := by rw [hA']; exact r3.2
  have e4 : v4 = (A' .di).sl l := by rw [hA']; exact r4.2
  have e5 : v5 = (A' .bu).sl l := by rw [hA']; exact r5.2
  have kB : ∀ j, j < 7 → W.cell? ⟨B, 0 + j, none⟩ = some (ct c l A' F pv vz .bx j) := fun j hj => by
    rw [Nat.zero_add, hb.c j]
    show _ = some (([(A' .st).sl c, (A' .va).sl c, (A' .wt).sl c, (A' .ho).sl l, (A' .di).sl l, (A' .bu).sl l, pv, vz] : List Value).getD j vz)
    rw [← e0, ← e1, ← e2, ← e3, ← e4, ← e5]
    rcases (by omega : j = 0 ∨ j = 1 ∨ j = 2 ∨ j = 3 ∨ j = 4 ∨ j = 5 ∨ j = 6) with rfl | rfl | rfl | rfl | rfl | rfl | rfl <;> rfl
  have hrw : ∀ t : Tg, t.wr = true → 0 < t.sz 7 c l → t ≠ .bx → Rw W (A' t) (lo (gi t)) (hi (gi t)) (t.nm c l) (t.sz 7 c l) (ct c l A' F pv vz t) := by
    intro t ht h0 hx
    rw [hA']
    cases t with
    | st => have := r0.1; rw [Nat.mul_one] at this; exact this
    | sr j =>
      have hj : j < c := by
        refine Decidable.byContradiction fun hn => ?_
        have h0 : 0 < if j < c then l else 0 := h0
        rw [if_neg hn] at h0; omega
      have := (k0 j hj).1
      rw [Nat.mul_one] at this
      show Rw W (paOf (y0.getD j vz)) _ _ l (if j < c then l else 0) _
      rw [if_pos hj]; exact this
    | va => have := r1.1; rw [Nat.mul_one] at this; exact this
    | vr j =>
      have hj : j < c := by
        refine Decidable.byContradiction fun hn => ?_
        have h0 : 0 < if j < c then l else 0 := h0
        rw [if_neg hn] at h0; omega
      have := (k1 j hj).1
      rw [Nat.mul_one] at this
      show Rw W (paOf (y1.getD j vz)) _ _ l (if j < c then l else 0) _
      rw [if_pos hj]; exact this
    | wt => exact r2.1
    | ho => have := r3.1; rw [Nat.mul_one] at this; exact this
    | di => exact r4.1
    | bu => have := r5.1; rw [Nat.mul_one] at this; exact this
    | sh k => cases ht
    | bx => exact absurd rfl hx
  have hmon : ∀ i j, i < j → j < 6 → hi i ≤ lo j := by
    intro i j hij hj
    have a1 := hlh 1 (by omega); have a2 := hlh 2 (by omega); have a3 := hlh 3 (by omega); have a4 := hlh 4 (by omega)
    rcases (by omega : i = 0 ∨ i = 1 ∨ i = 2 ∨ i = 3 ∨ i = 4) with rfl | rfl | rfl | rfl | rfl <;>
    rcases (by omega : j = 1 ∨ j = 2 ∨ j = 3 ∨ j = 4 ∨ j = 5) with rfl | rfl | rfl | rfl | rfl <;> omega
  have hlow : ∀ i, i < 6 → w.heap.size ≤ lo i := by
    intro i hi6
    have a0 := hlh 0 (by omega)
    by_cases h0 : i = 0
    · subst h0; exact hlo
    · have := hmon 0 i (by omega) hi6; omega
  have hgi : ∀ t : Tg, t.wr = true → t ≠ .bx → gi t < 6 := by
    intro t ht hx
    cases t <;> first | exact absurd rfl hx | exact absurd ht Bool.false_ne_true | exact Nat.le_of_ble_eq_true rfl
  have hbxA : A' .bx = ⟨B, 0, 0⟩ := by rw [hA']; rfl
  have hshA : ∀ k, A' (.sh k) = A (.sh k) := fun k => by rw [hA']; rfl
  have s7 : ∀ k, (Tg.sh k).sz 7 c l = (Tg.sh k).sz 0 c l := fun k => rfl
  rw [← hA']
  refine ⟨⟨?_, ?_, ?_, ?_, ?_, h.c1, h.c4, h.l1, h.l16⟩, e0, e1, e2, e3, e4, e5⟩
  · intro t h0
    by_cases hx : t = .bx
    · subst hx; rw [hbxA]; exact hb.lt
    · cases ht : t.wr with
      | true => exact (hrw t ht h0 hx).lt
      | false =>
        cases t <;> try cases ht
        rw [hshA]
        exact Nat.lt_of_lt_of_le (h.lt _ h0) hw.size
  · intro t j hj
    by_cases hx : t = .bx
    · subst hx; rw [hbxA]; exact kB j hj
    · cases ht : t.wr with
      | true => exact (hrw t ht (by omega) hx).c j hj
      | false =>
        cases t <;> try cases ht
        rename_i k
        rw [hshA]
        have hj0 : j < (Tg.sh k).sz 0 c l := hj
        exact (hw.cell (p := ⟨(A (.sh k)).b, (A (.sh k)).o + j, none⟩) (h.lt _ (by omega))).trans (h.cell _ j hj0)
  · intro t ht h0 j
    by_cases hx : t = .bx
    · subst hx; rw [hbxA]; exact hb.f j
    · exact (hrw t ht h0 hx).f j
  · intro t t' ht h0 h0' e
    by_cases hx : t = .bx
    · subst hx
      rw [hbxA] at e
      by_cases hx' : t' = .bx
      · exact hx'.symm
      · exfalso
        cases ht' : t'.wr with
        | true =>
          have r := hrw t' ht' h0' hx'
          have := hB (gi t') (hgi t' ht' hx')
          have a := r.lo
          have b := r.hi
          have e : B = (A' t').b := e
          omega
        | false =>
          cases t' <;> try cases ht'
          rename_i k
          rw [hshA] at e
          have := h.lt (.sh k) h0'
          have e : B = (A (.sh k)).b := e
          omega
    · have r := hrw t ht h0 hx
      have ga := hgi t ht hx
      by_cases hx' : t' = .bx
      · subst hx'
        exfalso
        rw [hbxA] at e
        have := hB (gi t) ga
        have a := r.lo
        have b := r.hi
        have e : (A' t).b = B := e
        omega
      · cases ht' : t'.wr with
        | false =>
          exfalso
          cases t' <;> try cases ht'
          rename_i k
          rw [hshA] at e
          have := h.lt (.sh k) h0'
          have a := r.lo
          have := hlow (gi t) ga
          omega
        | true =>
          have r' := hrw t' ht' h0' hx'
          have ga' := hgi t' ht' hx'
          by_cases hg : gi t = gi t'
          · have hne : ∀ j, j < c → (A' .st).b ≠ (A' (.sr j)).b := fun j hj => by
              rw [hA']
              intro e
              exact g0.o.sep j hj _ (owb (k0 j hj).2 rfl) (owb r0.2 e)
            have hne1 : ∀ j, j < c → (A' .va).b ≠ (A' (.vr j)).b := fun j hj => by
              rw [hA']
              intro e
              exact g1.o.sep j hj _ (owb (k1 j hj).2 rfl) (owb r1.2 e)
            have dm : ∀ j, 0 < (if j < c then l else 0) → j < c := fun j h => by
              refine Decidable.byContradiction fun hn => ?_
              rw [if_neg hn] at h; omega
            cases t <;> cases t' <;> first | rfl | exact absurd hg (Nat.ne_of_beq_eq_false rfl) | exact absurd ht Bool.false_ne_true | exact absurd ht' Bool.false_ne_true | skip
            · exact absurd e (hne _ (dm _ h0'))
            · exact absurd e.symm (hne _ (dm _ h0))
            · rename_i i j
              by_cases hij : i = j
              · subst hij; rfl
              · exfalso
                rw [hA'] at e
                have e : (paOf (y0.getD i vz)).b = (paOf (y0.getD j vz)).b := e
                exact g0.o.two i j (dm _ h0) (dm _ h0') hij _ (owb (k0 i (dm _ h0)).2 rfl) (owb (k0 j (dm _ h0')).2 e.symm)
            · exact absurd e (hne1 _ (dm _ h0'))
            · exact absurd e.symm (hne1 _ (dm _ h0))
            · rename_i i j
              by_cases hij : i = j
              · subst hij; rfl
              · exfalso
                rw [hA'] at e
                have e : (paOf (y1.getD i vz)).b = (paOf (y1.getD j vz)).b := e
                exact g1.o.two i j (dm _ h0) (dm _ h0') hij _ (owb (k1 i (dm _ h0)).2 rfl) (owb (k1 j (dm _ h0')).2 e.symm)
          · exfalso
            have a := r.lo
            have b := r.hi
            have a' := r'.lo
            have b' := r'.hi
            rcases Nat.lt_or_ge (gi t) (gi t') with hlt | hge
            · have := hmon _ _ hlt ga'; omega
            · have := hmon (gi t') (gi t) (by omega) ga; omega
  · intro t h0
    by_cases hx : t = .bx
    · subst hx; exact Nat.zero_le _
    · cases ht : t.wr with
      | true => exact (hrw t ht h0 hx).cap
      | false =>
        cases t <;> try cases ht
        rw [hshA]
        exact h.cap _ h0
end Go.Proofs.YtmeomdfmljanhaaGreat.Pg
/- The copy of a system. -/
namespace Go.Proofs.YtmeomdfmljanhaaGreat.Pg
set_option linter.unusedVariables false
open Go.ChangeShapes Go.WideShapes Go.ChangeAt Go.RowKit

theorem Mem.rr_st {w : World} {bs c l : Nat} {A : Tg → Pa} {F : Pr.Fs} {pv f : Value} (h : Mem w bs c l A F pv f) : RR w ⟨(A .st).b, (A .st).o, none⟩ c l (rowOf bs c l A F pv f .st) (fun j => rowOf bs c l A F pv f (.sr j)) where
  len := rowOf_len _ _ _ _ _ _ _ _
  sl := h.sl .st h.c1 c
  rows := fun j hj => by
    have s : 0 < (Tg.sr j).sz bs c l := by show 0 < if j < c then l else 0; rw [if_pos hj]; exact h.l1
    exact ⟨_, _, by rw [List.getD_eq_getElem?_getD, rowOf_at (show j < Tg.sz bs c l .st from hj)]; rfl, h.cap (.sr j) s, h.sl (.sr j) s l⟩
  cl := fun j hj => by rw [rowOf_len]; show (if j < c then l else 0) = l; rw [if_pos hj]
  one := fun j hj => rowOf_one (by intro e; cases e)
theorem Mem.rr_va {w : World} {bs c l : Nat} {A : Tg → Pa} {F : Pr.Fs} {pv f : Value} (h : Mem w bs c l A F pv f) : RR w ⟨(A .va).b, (A .va).o, none⟩ c l (rowOf bs c l A F pv f .va) (fun j => rowOf bs c l A F pv f (.vr j)) where
  len := rowOf_len _ _ _ _ _ _ _ _
  sl := h.sl .va h.c1 c
  rows := fun j hj => by
    have s : 0 < (Tg.vr j).sz bs c l := by show 0 < if j < c then l else 0; rw [if_pos hj]; exact h.l1
    exact ⟨_, _, by rw [List.getD_eq_getElem?_getD, rowOf_at (show j < Tg.sz bs c l .va from hj)]; rfl, h.cap (.vr j) s, h.sl (.vr j) s l⟩
  cl := fun j hj => by rw [rowOf_len]; show (if j < c then l else 0) = l; rw [if_pos hj]
  one := fun j hj => rowOf_one (by intro e; cases e)
def upA (A : Tg → Pa) (t : Tg) (x : Pa) : Tg → Pa := fun t' => if t' = t then x else A t'
/-- Another list of who shares a line. -/
theorem Mem.share {w : World} {bs c l : Nat} {A : Tg → Pa} {F : Pr.Fs} {pv f : Value} (h : Mem w bs c l A F pv f) (k : Nat) (x : Pa) (s : Nat → Bool) (hk : k < l) (hx : ∀ j, j < c → w.cell? ⟨x.b, x.o + j, none⟩ = some (.bool (s j))) (hlt : x.b < w.heap.size) (hcap : c ≤ x.c) (hoff : ∀ t : Tg, t.wr = true → 0 < t.sz bs c l → (A t).b ≠ x.b) :
    Mem (w.setCell ⟨(A .di).b, (A .di).o + (k * 2 + 1), none⟩ (x.sl c)) bs c l (upA A (.sh k) x) { F with sh := Pr.upd F.sh k s } pv f := by
  have hA : ∀ t : Tg, t.wr = true → upA A (.sh k) x t = A t := fun t ht => by
    unfold upA
    rw [if_neg]
    intro e; subst e; cases ht
  have hdi : 0 < Tg.sz bs c l .di := by show 0 < l * 2; omega
  have hkd : k * 2 + 1 < Tg.sz bs c l .di := by show k * 2 + 1 < l * 2; omega
  have hox : x.b ≠ (A .di).b := fun e => hoff .di rfl hdi e.symm
  refine ⟨fun t h0 => ?_, fun t j hj => ?_, fun t ht h0 j => ?_, fun t t' ht h0 h0' e => ?_, fun t h0 => ?_, h.c1, h.c4, h.l1, h.l16⟩
  · rw [size_set]
    by_cases e : t = .sh k
    · subst e; unfold upA; rw [if_pos rfl]; exact hlt
    · unfold upA; rw [if_neg e]; exact h.lt t h0
  · by_cases e : t = .sh k
    · subst e
      have hj : j < c := by have hj : j < (if k < l then c else 0) := hj; rw [if_pos hk] at hj; exact hj
      unfold upA
      rw [if_pos rfl, World.cell?_setCell_other _ _ _ _ (by intro e2; injection e2 with e3; exact hox e3.symm), hx j hj]
      show _ = some (Value.bool (Pr.upd F.sh k s k j))
      unfold Pr.upd
      rw [if_pos rfl]
    · have hAt : upA A (.sh k) x t = A t := by unfold upA; rw [if_neg e]
      rw [hAt]
      by_cases e2 : t = .di ∧ j = k * 2 + 1
      · obtain ⟨rfl, rfl⟩ := e2
        rw [World.cell?_setCell_same _ _ _ (h.cell .di _ hj)]
        show _ = some (if (k * 2 + 1) % 2 = 0 then _ else (upA A (.sh k) x (.sh ((k * 2 + 1) / 2))).sl c)
        rw [if_neg (by omega), show (k * 2 + 1) / 2 = k by omega]
        unfold upA
        rw [if_pos rfl]
      · rw [World.cell?_setCell_other _ _ _ _ (by
          intro e3
          injection e3 with e4 e5
          have := h.inj .di t rfl hdi (by omega) e4
          subst this
          exact e2 ⟨rfl, by omega⟩), h.cell t j hj]
        cases t with
        | di =>
          show some (if j % 2 = 0 then _ else (A (.sh (j / 2))).sl c) = some (if j % 2 = 0 then _ else (upA A (.sh k) x (.sh (j / 2))).sl c)
          by_cases h2 : j % 2 = 0
          · rw [if_pos h2, if_pos h2]
          · rw [if_neg h2, if_neg h2]
            unfold upA
            rw [if_neg (by intro e6; injection e6 with e6; exact e2 ⟨rfl, by omega⟩)]
        | sh k' =>
          show some (Value.bool (F.sh k' j)) = some (.bool (Pr.upd F.sh k s k' j))
          unfold Pr.upd
          rw [if_neg (by intro e6; subst e6; exact e rfl)]
        | _ => rfl
  · rw [hA t ht, show (w.setCell ⟨(A .di).b, (A .di).o + (k * 2 + 1), none⟩ (x.sl c)).frozen? ⟨(A t).b, j, none⟩ = w.frozen? ⟨(A t).b, j, none⟩ by simp]
    exact h.fz t ht h0 j
  · rw [hA t ht] at e
    by_cases e2 : t' = .sh k
    · subst e2
      unfold upA at e
      rw [if_pos rfl] at e
      exact absurd e (hoff t ht h0)
    · unfold upA at e
      rw [if_neg e2] at e
      exact h.inj t t' ht h0 h0' e
  · by_cases e : t = .sh k
    · subst e; unfold upA; rw [if_pos rfl]; exact hcap
    · unfold upA; rw [if_neg e]; exact h.cap t h0
theorem Mem.off {w : World} {bs c l : Nat} {A : Tg → Pa} {F : Pr.Fs} {pv f : Value} (h : Mem w bs c l A F pv f) {R : Nat} (hR : ∀ t : Tg, 0 < t.sz bs c l → (A t).b ≠ R) (j : Nat) (u : Value) : Mem (w.setCell ⟨R, j, none⟩ u) bs c l A F pv f :=
  ⟨fun t h0 => by rw [size_set]; exact h.lt t h0, fun t i hi => by rw [World.cell?_setCell_other _ _ _ _ (by intro e; injection e with e; exact hR t (by omega) e.symm)]; exact h.cell t i hi, fun t ht h0 i => by
    rw [show (w.setCell ⟨R, j, none⟩ u).frozen? ⟨(A t).b, i, none⟩ = w.frozen? ⟨(A t).b, i, none⟩ by simp]; exact h.fz t ht h0 i, h.inj, h.cap, h.c1, h.c4, h.l1, h.l16⟩
theorem upd_same (F : Pr.Fs) (k : Nat) : { F with sh := Pr.upd F.sh k (F.sh k) } = F := by
  have : Pr.upd F.sh k (F.sh k) = F.sh := by funext m; unfold Pr.upd; by_cases e : m = k <;> simp [e]
  rw [this]
end Go.Proofs.YtmeomdfmljanhaaGreat.Pg
/- The copy of a system: its walk. -/
namespace Go.Proofs.YtmeomdfmljanhaaGreat.Pg
set_option linter.unusedVariables false
open Go.ChangeShapes Go.WideShapes Go.ChangeAt Go.RowKit

theorem planT_mono {P : Program} {ops : Array Oper} {Q : Exit → Act → World → Prop} {S : World → Prop} {K K' : Act → World → Prop} (h : ∀ a w, K a w → K' a w) : ∀ (p : PlanT) (a : Act) (w : World), wpPlanT P ops Q S K p a w → wpPlanT P ops Q S K' p a w
  | .stop, a, w, hp => h a w hp
  | .read i p, a, w, ⟨o, v, h1, h2, h3⟩ => ⟨o, v, h1, h2, planT_mono h p _ w h3⟩
  | .one i p, a, w, hp => wpOp_mono (fun a' w' h' => ⟨h'.1, planT_mono h p a' w' h'.2⟩) hp
  | .two i j p q, a, w, hp => ⟨wpOp_mono (fun a' w' h' => ⟨h'.1, planT_mono h p a' w' h'.2⟩) hp.1, wpOp_mono (fun a' w' h' => ⟨h'.1, planT_mono h q a' w' h'.2⟩) hp.2⟩
def Keep (V : World) (G : World → Prop) : Prop := ∀ W, Below V.heap.size V W → G W
theorem Keep.mono {V V' : World} {G : World → Prop} (h : Keep V G) (hb : Below V.heap.size V V') : Keep V' G := fun W hW => h W (hb.trans (hW.mono hb.size))
theorem Keep.and {V : World} {G G' : World → Prop} (h : Keep V G) (h' : Keep V G') : Keep V (fun W => G W ∧ G' W) := fun W hW => ⟨h W hW, h' W hW⟩

abbrev sysV (c l : Nat) (A : Tg → Pa) (pv : Value) : Value := .agg #[(A .st).sl c, (A .va).sl c, (A .wt).sl c, (A .ho).sl l, (A .di).sl l, (A .bu).sl l, pv]
/-- All seven lists are laid, and a variable. -/
def Laid (w V : World) (c l : Nat) (A : Tg → Pa) (F : Pr.Fs) (L : List (List Nat)) (v0 v1 v2 v3 v4 v5 v6 : Value) (B : Nat) : Prop :=
  ∃ y0 y1 ys a0 b0 a1 b1 a2 b2 a3 b3 a4 b4 a5 b5 a6 b6,
    GR 27 3 a0 b0 V v0 l (fun j => rowOf 0 c l A F vz vz (.sr j)) y0 c ∧ GR 25 33 a1 b1 V v1 l (fun j => rowOf 0 c l A F vz vz (.vr j)) y1 c ∧
    GO 86 9 a2 b2 V v2 c (rowOf 0 c l A F vz vz .wt) ∧ GO 33 1 a3 b3 V v3 l (rowOf 0 c l A F vz vz .ho) ∧ GO 65 2 a4 b4 V v4 l (rowOf 0 c l A F vz vz .di) ∧ GO 3 1 a5 b5 V v5 l (rowOf 0 c l A F vz vz .bu) ∧
    (∃ p cp, v6 = .slice p L.length cp ∧ Pl V p ys L ∧ Off (fun b => b < a6 ∨ b6 ≤ b) p ys L) ∧
    (∃ t, Blk V B #[.slice none 0 0, .slice none 0 0, .slice none 0 0, .slice none 0 0, .slice none 0 0, .slice none 0 0, .slice none 0 0] ∧ t = B) ∧
    (a0 ≤ b0 ∧ b0 ≤ a1 ∧ a1 ≤ b1 ∧ b1 ≤ a2 ∧ a2 ≤ b2 ∧ b2 ≤ a3 ∧ a3 ≤ b3 ∧ b3 ≤ a4 ∧ a4 ≤ b4 ∧ b4 ≤ a5 ∧ a5 ≤ b5 ∧ b5 ≤ a6 ∧ a6 ≤ b6) ∧
    (w.heap.size + 2 ≤ a0 ∧ w.heap.size + 2 ≤ B ∧ (B < a0 ∨ b0 ≤ B) ∧ (B < a1 ∨ b1 ≤ B) ∧ (B < a2 ∨ b2 ≤ B) ∧ (B < a3 ∨ b3 ≤ B) ∧ (B < a4 ∨ b4 ≤ B) ∧ (B < a5 ∨ b5 ≤ B) ∧ (B < a6 ∨ b6 ≤ B)) ∧ Below w.heap.size w V
/-- What is laid, stored into the variable, is a system. -/
theorem Laid.mem {w V W : World} {c l : Nat} {A : Tg → Pa} {F : Pr.Fs} {L : List (List Nat)} {v0 v1 v2 v3 v4 v5 v6 : Value} {B : Nat} (hm : Mem w 0 c l A F vz vz) (h : Laid w V c l A F L v0 v1 v2 v3 v4 v5 v6 B)
    (hW : W = (((((((V.setCell ⟨B, 0, none⟩ v0).setCell ⟨B, 1, none⟩ v1).setCell ⟨B, 2, none⟩ v2).setCell ⟨B, 3, none⟩ v3).setCell ⟨B, 4, none⟩ v4).setCell ⟨B, 5, none⟩ v5).setCell ⟨B, 6, none⟩ v6)) :
    ∃ A' p cp ys, v6 = .slice p L.length cp ∧ v0 = (A' .st).sl c ∧ v1 = (A' .va).sl c ∧ v2 = (A' .wt).sl c ∧ v3 = (A' .ho).sl l ∧ v4 = (A' .di).sl l ∧ v5 = (A' .bu).sl l ∧ Mem W 7 c l A' F v6 vz ∧ A' .bx = ⟨B, 0, 0⟩ ∧ Pl W p ys L ∧ Off (Zs 7 c l A') p ys L ∧ (∀ t : Tg, t.wr = true → 0 < t.sz 7 c l → w.heap.size + 2 ≤ (A' t).b) ∧ Below w.heap.size w W ∧ (∀ k, A' (.sh k) = A (.sh k)) ∧ Off (fun b => b < w.heap.size + 2) p ys L := by
  obtain ⟨y0, y1, ys, a0, b0, a1, b1, a2, b2, a3, b3, a4, b4, a5, b5, a6, b6, g0, g1, g2, g3, g4, g5, ⟨p, cp, h6, hpl, hoff⟩, ⟨_, hB, _⟩, hn, hq, hb⟩ := h
  have hstep : ∀ (v : Value) (i : Nat), w.heap.size ≤ B := fun _ _ => by omega
  have off : ∀ (j : Nat) (u : Value) (X : World), GR 27 3 a0 b0 X v0 l (fun j => rowOf 0 c l A F vz vz (.sr j)) y0 c ∧ GR 25 33 a1 b1 X v1 l (fun j => rowOf 0 c l A F vz vz (.vr j)) y1 c ∧
      GO 86 9 a2 b2 X v2 c (rowOf 0 c l A F vz vz .wt) ∧ GO 33 1 a3 b3 X v3 l (rowOf 0 c l A F vz vz .ho) ∧ GO 65 2 a4 b4 X v4 l (rowOf 0 c l A F vz vz .di) ∧ GO 3 1 a5 b5 X v5 l (rowOf 0 c l A F vz vz .bu) ∧ Pl X p ys L ∧ Below w.heap.size w X →
      GR 27 3 a0 b0 (X.setCell ⟨B, j, none⟩ u) v0 l (fun j => rowOf 0 c l A F vz vz (.sr j)) y0 c ∧ GR 25 33 a1 b1 (X.setCell ⟨B, j, none⟩ u) v1 l (fun j => rowOf 0 c l A F vz vz (.vr j)) y1 c ∧
      GO 86 9 a2 b2 (X.setCell ⟨B, j, none⟩ u) v2 c (rowOf 0 c l A F vz vz .wt) ∧ GO 33 1 a3 b3 (X.setCell ⟨B, j, none⟩ u) v3 l (rowOf 0 c l A F vz vz .ho) ∧ GO 65 2 a4 b4 (X.setCell ⟨B, j, none⟩ u) v4 l (rowOf 0 c l A F vz vz .di) ∧ GO 3 1 a5 b5 (X.setCell ⟨B, j, none⟩ u) v5 l (rowOf 0 c l A F vz vz .bu) ∧ Pl (X.setCell ⟨B, j, none⟩ u) p ys L ∧ Below w.heap.size w (X.setCell ⟨B, j, none⟩ u) := by
    intro j u X ⟨k0, k1, k2, k3, k4, k5, k6, k7⟩
    have go : ∀ {T : TypeId} {s lo hi : Nat} {v : Value} {n : Nat} {xs : List Value}, GO T s lo hi X v n xs → (B < lo ∨ hi ≤ B) → GO T s lo hi (X.setCell ⟨B, j, none⟩ u) v n xs := by
      intro T s lo hi v n xs k hB
      refine ⟨own_set k.1 (fun e => ?_) j u, k.2⟩
      have := k.2 B e
      have := (k.1.lt B e).1
      omega
    have gr : ∀ {T T' : TypeId} {lo hi : Nat} {v : Value} {n : Nat} {cs : Nat → List Value} {y : List Value}, GR T T' lo hi X v l cs y n → (B < lo ∨ hi ≤ B) → GR T T' lo hi (X.setCell ⟨B, j, none⟩ u) v l cs y n := by
      intro T T' lo hi v n cs y k hB
      exact ⟨⟨(go k.row hB).1, fun i hi => (go (k.rows hi) hB).1, k.o.sep, k.o.two, k.o.rest⟩, k.h0, k.h1⟩
    refine ⟨gr k0 (by omega), gr k1 (by omega), go k2 (by omega), go k3 (by omega), go k4 (by omega), go k5 (by omega), k6.set (hoff.sub (fun b e => by show b < a6 ∨ b6 ≤ b; have e : b = B := e; omega)) j u, k7.setCell (p := ⟨B, j, none⟩) (hstep u j) u⟩
  have h7 := off 6 v6 _ (off 5 v5 _ (off 4 v4 _ (off 3 v3 _ (off 2 v2 _ (off 1 v1 _ (off 0 v0 _ ⟨g0, g1, g2, g3, g4, g5, hpl, hb⟩))))))
  have hBl := (((((((hB.set (n := 0) v0 (by simp)).set (n := 1) v1 (by simp)).set (n := 2) v2 (by simp)).set (n := 3) v3 (by simp)).set (n := 4) v4 (by simp)).set (n := 5) v5 (by simp)).set (n := 6) v6 (by simp))
  rw [← hW] at h7 hBl
  obtain ⟨k0, k1, k2, k3, k4, k5, k6, k7⟩ := h7
  have hmm := mem_made (lo := fun i => [a0, a1, a2, a3, a4, a5].getD i 0) (hi := fun i => [b0, b1, b2, b3, b4, b5].getD i 0) (B := B) (pv := v6) hm k0 k1 k2 k3 k4 k5 hBl
    (by show b0 ≤ a1; omega) (by show b1 ≤ a2; omega) (by show b2 ≤ a3; omega) (by show b3 ≤ a4; omega) (by show b4 ≤ a5; omega) (by show w.heap.size ≤ a0; omega)
    (fun i hi => by rcases (by omega : i = 0 ∨ i = 1 ∨ i = 2 ∨ i = 3 ∨ i = 4 ∨ i = 5) with rfl | rfl | rfl | rfl | rfl | rfl <;> simp <;> omega) (by omega)
    (fun i hi => by rcases (by omega : i = 0 ∨ i = 1 ∨ i = 2 ∨ i = 3 ∨ i = 4 ∨ i = 5) with rfl | rfl | rfl | rfl | rfl | rfl <;> simp <;> omega) k7
  obtain ⟨m, e0, e1, e2, e3, e4, e5⟩ := hmm
  have hr : ∀ {T : TypeId} {s lo hi : Nat} {v : Value} {n : Nat} {xs : List Value} (k : GO T s lo hi W v n xs) (x : Pa) (m : Nat), v = x.sl m → lo ≤ x.b ∧ x.b < hi := fun k x m e => by
    have e2 := congrArg Value.ownBlock e
    exact ⟨(k.1.lt x.b e2).1, k.2 x.b e2⟩
  obtain ⟨A', hA'⟩ : ∃ A', A' = mkA A v0 v1 v2 v3 v4 v5 y0 y1 B := ⟨_, rfl⟩
  have hyl : ∀ {T : TypeId} {lo : Nat} {y : List Value} {v : Value}, W.ownsRow lo T 1 v l y → ∃ x : Pa, v = x.sl l ∧ x = paOf v := fun h => by
    obtain ⟨_, ⟨_, h2⟩ | ⟨b, cap, cur, rfl, _⟩⟩ := h
    · have := hm.l1; omega
    · exact ⟨_, rfl, rfl⟩
  have hlow : ∀ t : Tg, t.wr = true → 0 < t.sz 7 c l → (a0 ≤ (A' t).b ∧ (A' t).b < a6 ∨ (A' t).b = B) := by
    intro t ht h0
    rw [hA']
    cases t with
    | st => have := hr k0.row _ _ e0; exact .inl (by omega)
    | va => have := hr k1.row _ _ e1; exact .inl (by omega)
    | wt => have := hr k2 _ _ e2; exact .inl (by omega)
    | ho => have := hr k3 _ _ e3; exact .inl (by omega)
    | di => have := hr k4 _ _ e4; exact .inl (by omega)
    | bu => have := hr k5 _ _ e5; exact .inl (by omega)
    | bx => exact .inr rfl
    | sh k => cases ht
    | sr j =>
      have hj : j < c := by
        refine Decidable.byContradiction fun hn => ?_
        have h0 : 0 < if j < c then l else 0 := h0
        rw [if_neg hn] at h0; omega
      obtain ⟨x, hx, hx2⟩ := hyl (k0.rows hj).1
      have := hr (k0.rows hj) x l hx
      show a0 ≤ (paOf (y0.getD j vz)).b ∧ (paOf (y0.getD j vz)).b < a6 ∨ _
      rw [← hx2]
      exact .inl (by omega)
    | vr j =>
      have hj : j < c := by
        refine Decidable.byContradiction fun hn => ?_
        have h0 : 0 < if j < c then l else 0 := h0
        rw [if_neg hn] at h0; omega
      obtain ⟨x, hx, hx2⟩ := hyl (k1.rows hj).1
      have := hr (k1.rows hj) x l hx
      show a0 ≤ (paOf (y1.getD j vz)).b ∧ (paOf (y1.getD j vz)).b < a6 ∨ _
      rw [← hx2]
      exact .inl (by omega)
  rw [← hA'] at m e0 e1 e2 e3 e4 e5
  refine ⟨A', p, cp, ys, h6, e0, e1, e2, e3, e4, e5, m, by rw [hA']; rfl, k6, hoff.sub (fun b hz => ?_), fun t ht h0 => ?_, k7, fun k => by rw [hA']; rfl, hoff.sub (fun b (hz : b < w.heap.size + 2) => by show b < a6 ∨ b6 ≤ b; omega)⟩
  · obtain ⟨t, ht, h0, rfl⟩ := hz
    have := hlow t ht h0
    show _ < a6 ∨ b6 ≤ _
    omega
  · have := hlow t ht h0
    omega
end Go.Proofs.YtmeomdfmljanhaaGreat.Pg
/- The work on a system: what is stored into it, what is sent. -/
namespace Go.Proofs.YtmeomdfmljanhaaGreat.Pg
set_option linter.unusedVariables false
open Go.ChangeShapes Go.WideShapes Go.ChangeAt Go.RowKit

theorem Wk.below {w w' : World} {base B c l : Nat} {F : Pr.Fs} {L : List (List Nat)} {f : Value} {A : Tg → Pa} {p : Option Addr} {cp : Nat} {xs : List Value} (h : Wk w base B c l F L f A p cp xs) (hb : Below w.heap.size w w') : Wk w' base B c l F L f A p cp xs :=
  ⟨h.mem.below hb, h.at_, h.pl.below hb, h.off, h.low, h.base⟩
theorem Wk.store {w : World} {base B c l : Nat} {F F' : Pr.Fs} {L : List (List Nat)} {f : Value} {A : Tg → Pa} {p : Option Addr} {cp : Nat} {xs : List Value} (h : Wk w base B c l F L f A p cp xs) (t : Tg) (j : Nat) (u : Value) (ht : t.wr = true) (hj : j < t.sz 8 c l)
    (hc : ∀ t' j', j' < t'.sz 8 c l → ct c l A F' (.slice p L.length cp) f t' j' = if t' = t ∧ j' = j then u else ct c l A F (.slice p L.length cp) f t' j') : Wk (w.setCell ⟨(A t).b, (A t).o + j, none⟩ u) base B c l F' L f A p cp xs :=
  ⟨h.mem.store t j u ht hj hc, h.at_, h.pl.set (h.off.sub (fun b (e : b = (A t).b) => ⟨t, ht, by omega, e.symm⟩)) _ u, h.off, h.low, h.base⟩
/-- Another pool. -/
theorem Wk.pool {w w1 : World} {base B c l : Nat} {F : Pr.Fs} {L L' : List (List Nat)} {f : Value} {A : Tg → Pa} {p p' : Option Addr} {cp cp' : Nat} {xs xs' : List Value} (h : Wk w base B c l F L f A p cp xs) (hb : Below w.heap.size w w1)
    (hp : Pl w1 p' xs' L') (ho : Off (Zs 8 c l A) p' xs' L') (hl : Off (fun b => b < base) p' xs' L') : Wk (w1.setCell ⟨B, 6, none⟩ (.slice p' L'.length cp')) base B c l F L' f A p' cp' xs' := by
  have hm := (h.mem.below hb).store (F' := F) (pv' := .slice p' L'.length cp') (f' := f) .bx 6 (.slice p' L'.length cp') rfl (by show 6 < 8; omega) (fun t' j' hj' => by
    by_cases e : t' = Tg.bx ∧ j' = 6
    · obtain ⟨rfl, rfl⟩ := e
      rw [if_pos ⟨rfl, rfl⟩]
      rfl
    · rw [if_neg e]
      cases t' with
      | bx =>
        have hj : j' < 8 := hj'
        have hn : j' ≠ 6 := fun x => e ⟨rfl, x⟩
        show (bxL c l A _ f).getD j' vz = (bxL c l A _ f).getD j' vz
        rcases (by omega : j' = 0 ∨ j' = 1 ∨ j' = 2 ∨ j' = 3 ∨ j' = 4 ∨ j' = 5 ∨ j' = 7) with rfl | rfl | rfl | rfl | rfl | rfl | rfl <;> rfl
      | _ => rfl)
  rw [h.at_] at hm
  have hz : Off (fun b => b = B) p' xs' L' := ho.sub (fun b (e : b = B) => ⟨.bx, rfl, by show 0 < 8; omega, by rw [h.at_]; exact e.symm⟩)
  refine ⟨?_, h.at_, hp.set hz 6 _, ho, hl, h.base⟩
  have : (6 : Nat) = 0 + 6 := rfl
  rw [this]
  exact hm
theorem Wk.hi {w : World} {base B c l : Nat} {F : Pr.Fs} {L : List (List Nat)} {f : Value} {A : Tg → Pa} {p : Option Addr} {cp : Nat} {xs : List Value} (h : Wk w base B c l F L f A p cp xs) : base ≤ B ∧ B < w.heap.size := by
  have h1 := h.base .bx rfl (by show 0 < 8; omega)
  have h2 := h.mem.lt .bx (by show 0 < 8; omega)
  rw [h.at_] at h1 h2
  exact ⟨h1, h2⟩
theorem Wk.box {w : World} {base B c l : Nat} {F : Pr.Fs} {L : List (List Nat)} {f : Value} {A : Tg → Pa} {p : Option Addr} {cp : Nat} {xs : List Value} (h : Wk w base B c l F L f A p cp xs) (j : Nat) (hj : j < 8) : w.cell? ⟨B, j, none⟩ = some ((bxL c l A (.slice p L.length cp) f).getD j vz) := by
  have := h.mem.cell .bx j hj
  rw [h.at_, Nat.zero_add] at this
  exact this
theorem Wk.boxf {w : World} {base B c l : Nat} {F : Pr.Fs} {L : List (List Nat)} {f : Value} {A : Tg → Pa} {p : Option Addr} {cp : Nat} {xs : List Value} (h : Wk w base B c l F L f A p cp xs) (j : Nat) : w.frozen? ⟨B, j, none⟩ = false := by
  have := h.mem.fz .bx rfl (by show 0 < 8; omega) j
  rw [h.at_] at this
  exact this
/-- A work, wherever its lists lie. -/
def WkX (w : World) (base B c l : Nat) (F : Pr.Fs) (L : List (List Nat)) (f : Value) : Prop := ∃ A p cp xs, Wk w base B c l F L f A p cp xs
theorem WkX.below {w w' : World} {base B c l : Nat} {F : Pr.Fs} {L : List (List Nat)} {f : Value} (h : WkX w base B c l F L f) (hb : Below w.heap.size w w') : WkX w' base B c l F L f := by
  obtain ⟨A, p, cp, xs, h⟩ := h
  exact ⟨A, p, cp, xs, h.below hb⟩
theorem WkX.mono {w : World} {base base' B c l : Nat} {F : Pr.Fs} {L : List (List Nat)} {f : Value} (h : WkX w base B c l F L f) (hb : base' ≤ base) : WkX w base' B c l F L f := by
  obtain ⟨A, p, cp, xs, h⟩ := h
  exact ⟨A, p, cp, xs, h.mem, h.at_, h.pl, h.off, h.low.sub (fun b (e : b < base') => by show b < base; omega), fun t ht h0 => Nat.le_trans hb (h.base t ht h0)⟩
/-- How a work sends. -/
def sndV (B : Nat) (frm line : Int) : Value := .func (.func 72) #[.agg #[.pointer (some ⟨B, 6, none⟩), .int .i64 frm, .int .i64 line]] #[]
/-- What a work's system is, as a value. -/
theorem Wk.sv {w : World} {base B c l : Nat} {F : Pr.Fs} {L : List (List Nat)} {f : Value} {A : Tg → Pa} {p : Option Addr} {cp : Nat} {xs : List Value} (h : Wk w base B c l F L f A p cp xs) : Sv w (sysV c l A (.slice p L.length cp)) c l F L :=
  ⟨A, p, cp, xs, rfl, (h.mem.less vz).same (fun t j hj => by cases t <;> first | rfl | cases hj), h.pl⟩
end Go.Proofs.YtmeomdfmljanhaaGreat.Pg
/- What pool.Drop and pool.Take answer: no condition but that the pool reads. -/
namespace Go.Proofs.YtmeomdfmljanhaaGreat
set_option linter.unusedVariables false
open Go.ChangeShapes Go.WideShapes Go.ChangeAt Go.RowKit

/-- What is answered reads as this pool, and lies in memory of its own. -/
structure Out (w w' : World) (p : Option Addr) (xs : List Value) (L : List (List Nat)) : Prop where
  pl : Pl w' p xs L
  off : Off (fun b => b < w.heap.size) p xs L
  below : Below w.heap.size w w'

set_option maxHeartbeats 4000000 in
theorem drop_any (p : Option Addr) (n c : Nat) (xs : List Value) (L : List (List Nat)) (k : Int) (w : World) (hz : L.length = n) (h : Pl w p xs L) :
    Calls Tryz.prog 70 #[.agg #[.slice p n c], .int .i64 k] w fun e w' => ∃ p' c' xs', e = .returned (.tuple #[.agg #[.slice p' (dropP L k).length c'], .int .i64 (checkP L k)]) ∧ Out w w' p' xs' (dropP L k) := by
  have HC := Lib.hid (fun w' hb => copied_any p n c xs L w' hz (h.below hb))
  have hn := h.n100
  have HL := Lib.hid h.l100
  have HB := Lib.hid h.lt
  have HN := Lib.hid hn
  obtain ⟨D, hD⟩ : ∃ D, D = dropP L k := ⟨_, rfl⟩
  obtain ⟨er, her⟩ : ∃ er, er = checkP L k := ⟨_, rfl⟩
  rw [← hD, ← her]
  have HD := Lib.hid hD
  have HER := Lib.hid her
  clear h hz hn hD her
  go_enter Tryz.func70, Tryz.ntmps70
  go_wp2_with fail
  refine (HC.out _ (((Below.refl _ _).alloc (Nat.le_refl _) _).alloc (by simp) _)).mono ?_
  rintro e w1 ⟨v, ys, rfl, ho, hb1⟩
  have HBX : Hid (Below w.heap.size w w1) := Lib.hid ((((Below.refl _ _).alloc (Nat.le_refl _) _).alloc (by simp) _).trans (hb1.mono (by simp; omega)))
  have HKR := Lib.hid (Blk.track1 hb1)
  have HO := Lib.hid ho
  obtain ⟨p1, c1, rfl, hpl⟩ := ho.pl HN.out HL.out HB.out
  rw [World.size_alloc] at HKR
  have HOO : Hid (Own (w.heap.size + 2) w1 (.slice p1 L.length c1) ys L) := Lib.hid (by simpa using HO.out)
  have HP1 := Lib.hid hpl
  obtain ⟨n1, hn1⟩ : ∃ n1, n1 = L.length := ⟨_, rfl⟩
  rw [← hn1] at HOO ⊢
  have HN1 := Lib.hid hn1
  clear HO ho hpl hb1 hn1 HC
  have hl1 := HKR.out.lt
  have kR := HKR.out.c
  have fR := HKR.out.f
  go_wp2_with fail
  have hfind := find_any p1 n1 c1 ys L k (w1.alloc (.cells #[.slice p1 n1 c1] 30)) HN1.out.symm (HP1.out.below ((Below.refl _ _).alloc (Nat.le_refl _) _))
  rw [← HER.out] at hfind
  refine hfind.mono ?_
  clear hfind
  rintro e w2 ⟨rfl, hb2⟩
  have HKS := Lib.hid (Blk.track1 hb2)
  have HB12 : Hid (Below w1.heap.size w1 w2) := Lib.hid (((Below.refl _ _).alloc (Nat.le_refl _) _).trans (hb2.mono (by simp)))
  have HKR2 := Lib.hid (HKR.out.below HB12.out)
  have HB2 : Hid (Below w.heap.size w w2) := Lib.hid (HBX.out.trans (HB12.out.mono HBX.out.size))
  have HO2 := Lib.hid (HOO.out.below HB12.out)
  have HP2 := Lib.hid (HP1.out.below HB12.out)
  have HOFF : Hid (Off (fun b => b < w.heap.size + 2 ∨ w1.heap.size ≤ b) p1 ys L) := Lib.hid (Own.off (c := c1) (by rw [HN1.out] at HOO; exact HOO.out))
  have kS := HKS.out.c
  have fS := HKS.out.f
  have lS := HKS.out.lt
  have HSZ : Hid (w.heap.size + 1 < w1.heap.size) := Lib.hid hl1
  clear hb2 kR fR hl1 HP1 HOO HKR HBX
  by_cases hk : er = 0
  · subst hk
    have hk : checkP L k = 0 := HER.out.symm
    obtain ⟨hr, h0, h1⟩ := check_inv hk
    obtain ⟨i, rfl⟩ := Int.eq_ofNat_of_zero_le h0
    have hi : i < L.length := by omega
    have hdp : D = L.eraseIdx i := by rw [HD.out]; unfold dropP; rw [if_pos hk, Int.toNat_natCast]
    subst hdp
    have HI := Lib.hid hi
    have hwr : wrap64 ((i : Int) + 1) = (i : Int) + 1 := by have := HN.out; unfold wrap64; omega
    clear hr h0 h1 hk hi
    go_wp2_with fail
    have hdel := delete_any (w.heap.size + 2) i p1 c1 ys L w2 (HN1.out ▸ HO2.out) HN.out HL.out HB.out HI.out (Nat.le_trans HSZ.out HB12.out.size)
    rw [← HN1.out] at hdel
    refine hdel.mono ?_
    clear hdel
    rintro e w3 ⟨p3, c3, rfl, hp3, hoff3, hg3⟩
    have hlt : ∀ g, (Value.slice p1 n1 c1).ownBlock = some g → w.heap.size + 2 ≤ g ∧ g < w1.heap.size := fun g e => by
      rw [HN1.out] at e
      have h1 := HOFF.out.1 (by have := HI.out; omega)
      cases p1 with
      | none => cases e
      | some a => injection e with e; subst e; have := h1 a rfl; omega
    have HP3 := Lib.hid hp3
    have HS3 : Hid (Blk w3 w1.heap.size #[.slice p1 n1 c1]) := Lib.hid (HKS.out.grown hg3 (fun e => by have := (hlt _ e).2; omega))
    have HR3 : Hid (Blk w3 (w.heap.size + 1) #[.slice none 0 0]) := Lib.hid (HKR2.out.grown hg3 (fun e => by have := (hlt _ e).1; omega))
    have HB3 : Hid (Below w.heap.size w w3) := Lib.hid (HB2.out.grown hg3 HB2.out.size (fun g e => by have := (hlt _ e).1; omega))
    have HO3 : Hid (Off (fun b => b < w.heap.size + 2 ∨ w1.heap.size ≤ b) p3 (ys.eraseIdx i) (L.eraseIdx i)) := Lib.hid (hoff3 _ HOFF.out)
    clear hp3 hoff3 hg3 hlt kS fS lS
    have kS := HS3.out.c
    have fS := HS3.out.f
    have lS := HS3.out.lt
    have kR := HR3.out.c
    have fR := HR3.out.f
    have lR := HR3.out.lt
    have HSZ2 := HSZ.out
    go_wp2_with fail
    exact bodyPost_ret (v := .tuple #[.agg #[.slice p3 (L.eraseIdx i).length c3], .int .i64 0]) (by simp [results, Tryz.results70, go_sem, *]) rfl ⟨p3, c3, ys.eraseIdx i, rfl, (HP3.out.set (HO3.out.sub (fun b e => .inr (by omega))) 0 _).set (HO3.out.sub (fun b e => .inl (by omega))) 0 _, HO3.out.sub (fun b e => .inl (by omega)), (HB3.out.setCell (p := ⟨w1.heap.size, 0, none⟩) (by show w.heap.size ≤ w1.heap.size; omega) _).setCell (p := ⟨w.heap.size + 1, 0, none⟩) (by show w.heap.size ≤ w.heap.size + 1; omega) _⟩
  · have hdp : D = L := by rw [HD.out]; unfold dropP; rw [if_neg (by rw [← HER.out]; exact hk)]
    subst hdp
    have e0 : (er == 0) = false := by rw [beq_eq_false_iff_ne]; exact hk
    clear hk
    have kR := HKR2.out.c
    have fR := HKR2.out.f
    have lR := HKR2.out.lt
    go_wp2_with fail
    exact bodyPost_ret (v := .tuple #[.agg #[.slice p1 n1 c1], .int .i64 er]) (by simp [results, Tryz.results70, go_sem, *]) rfl ⟨p1, c1, ys, by rw [HN1.out], HP2.out.set (HOFF.out.sub (fun b e => .inl (by omega))) 0 _, HOFF.out.sub (fun b e => .inl (by omega)), HB2.out.setCell (p := ⟨w.heap.size + 1, 0, none⟩) (by show w.heap.size ≤ w.heap.size + 1; omega) _⟩
end Go.Proofs.YtmeomdfmljanhaaGreat
/- What pool.Send answers: no condition but that the pool reads, and that the message's numbers fit. -/
namespace Go.Proofs.YtmeomdfmljanhaaGreat
set_option linter.unusedVariables false
open Go.ChangeShapes Go.WideShapes Go.ChangeAt Go.RowKit


set_option maxHeartbeats 4000000 in
theorem send_any (p : Option Addr) (n c : Nat) (xs : List Value) (L : List (List Nat)) (m : Msg) (w : World) (hz : L.length = n) (h : Pl w p xs L) (hmn : m.n < 4294967296) (hmv : m.v < 4294967296) :
    Calls Tryz.prog 105 #[.agg #[.slice p n c], .agg m.row] w fun e w' => ∃ p' c' xs', e = .returned (.tuple #[.agg #[.slice p' (sendP L m).length c'], .int .i64 (sendE L m)]) ∧ Out w w' p' xs' (sendP L m) := by
  have HC := Lib.hid (fun w' hb => copied_any p n c xs L w' hz (h.below hb))
  have HP := Lib.hid (fun W => put_any m W hmn hmv)
  have hn := h.n100
  have HL := Lib.hid h.l100
  have HB := Lib.hid h.lt
  have HN := Lib.hid hn
  obtain ⟨D, hD⟩ : ∃ D, D = sendP L m := ⟨_, rfl⟩
  obtain ⟨er, her⟩ : ∃ er, er = sendE L m := ⟨_, rfl⟩
  rw [← hD, ← her]
  have HD := Lib.hid hD
  have HER := Lib.hid her
  obtain ⟨mk, mf, mt, ml, mo, ma, own, mn, mv, hmm⟩ : ∃ k f t l o a own n v, m = ⟨k, f, t, l, o, a, own, n, v⟩ := ⟨_, _, _, _, _, _, _, _, _, rfl⟩
  have hrow : m.row = #[.int .i64 mk, .int .i64 mf, .int .i64 mt, .int .i64 ml, .int .i64 mo, .int .i64 ma, .bool own, .int .u32 mn, .int .u32 mv] := by rw [hmm]; rfl
  rw [hrow] at HP ⊢
  clear h hz hn hD her hrow hmm hmn hmv
  go_enter Tryz.func105, Tryz.ntmps105
  go_wp2_with fail
  refine (HC.out _ ((((Below.refl _ _).alloc (Nat.le_refl _) _).alloc (by simp) _).alloc (by simp; omega) _)).mono ?_
  rintro e w1 ⟨v, ys, rfl, ho, hb1⟩
  have HBX : Hid (Below w.heap.size w w1) := Lib.hid (((((Below.refl _ _).alloc (Nat.le_refl _) _).alloc (by simp) _).alloc (by simp; omega) _).trans (hb1.mono (by simp; omega)))
  have HKR := Lib.hid (Blk.track1 hb1)
  have HKM := Lib.hid (Blk.track2 hb1)
  simp only [World.size_alloc] at HKR HKM
  have HO := Lib.hid ho
  obtain ⟨p1, c1, rfl, hpl⟩ := ho.pl HN.out HL.out HB.out
  have HOO : Hid (Own (w.heap.size + 3) w1 (.slice p1 L.length c1) ys L) := Lib.hid (by simpa using HO.out)
  have HP1 := Lib.hid hpl
  obtain ⟨n1, hn1⟩ : ∃ n1, n1 = L.length := ⟨_, rfl⟩
  rw [← hn1] at HOO ⊢
  have HN1 := Lib.hid hn1
  have hright := pright_any p1 n1 c1 ys L (w1.alloc (.cells #[.slice p1 n1 c1] 30)) hn1.symm (hpl.below ((Below.refl _ _).alloc (Nat.le_refl _) _))
  obtain ⟨rb, hrb⟩ : ∃ rb, rb = rightP L := ⟨_, rfl⟩
  rw [← hrb] at hright
  have HRB := Lib.hid hrb
  have HRT := Lib.hid hright
  clear HO ho hpl hb1 hn1 HC hright hrb
  have hl1 := HKR.out.lt
  have kR := HKR.out.c
  have fR := HKR.out.f
  go_wp2_with fail
  refine HRT.out.mono ?_
  rintro e w2 ⟨rfl, hb2⟩
  have HKS := Lib.hid (Blk.track1 hb2)
  have HB12 : Hid (Below w1.heap.size w1 w2) := Lib.hid (((Below.refl _ _).alloc (Nat.le_refl _) _).trans (hb2.mono (by simp)))
  have HKR2 := Lib.hid (HKR.out.below HB12.out)
  have HKM2 := Lib.hid (HKM.out.below HB12.out)
  have HB2 : Hid (Below w.heap.size w w2) := Lib.hid (HBX.out.trans (HB12.out.mono HBX.out.size))
  have HO2 := Lib.hid (HOO.out.below HB12.out)
  have HP2 := Lib.hid (HP1.out.below HB12.out)
  have HOFF : Hid (Off (fun b => b < w.heap.size + 3 ∨ w1.heap.size ≤ b) p1 ys L) := Lib.hid (Own.off (c := c1) (by rw [HN1.out] at HOO; exact HOO.out))
  have HSZ : Hid (w.heap.size + 1 + 1 < w1.heap.size) := Lib.hid hl1
  clear hb2 kR fR hl1 HP1 HOO HKR HKM HBX HRT
  cases rb with
  | false =>
    have hdp : D = L := by rw [HD.out]; unfold sendP; rw [← HRB.out]; rfl
    have hee : er = 1 := by rw [HER.out]; unfold sendE; rw [← HRB.out]; rfl
    subst hdp hee
    have kS := HKS.out.c
    have kR := HKR2.out.c
    have fR := HKR2.out.f
    have lR := HKR2.out.lt
    go_wp2_with fail
    exact bodyPost_ret (v := .tuple #[.agg #[.slice p1 n1 c1], .int .i64 1]) (by simp [results, Tryz.results105, go_sem, *]) rfl ⟨p1, c1, ys, by rw [HN1.out], HP2.out.set (HOFF.out.sub (fun b e => .inl (by omega))) 0 _, HOFF.out.sub (fun b e => .inl (by omega)), HB2.out.setCell (p := ⟨w.heap.size + 1 + 1, 0, none⟩) (by show w.heap.size ≤ w.heap.size + 1 + 1; omega) _⟩
  | true =>
    have kS := HKS.out.c
    have kM := HKM2.out.c
    go_wp2_with fail
    refine (HP.out w2).mono ?_
    rintro e w3 ⟨r, e2, rfl, hputs, hb3⟩
    have HKS3 := Lib.hid (HKS.out.below hb3)
    have HKR3 := Lib.hid (HKR2.out.below hb3)
    have HB3 : Hid (Below w.heap.size w w3) := Lib.hid (HB2.out.trans (hb3.mono HB2.out.size))
    have HO3 := Lib.hid (HO2.out.below hb3)
    have HP3 := Lib.hid (HP2.out.below hb3)
    have HS3 : Hid (w2.heap.size ≤ w3.heap.size) := Lib.hid hb3.size
    clear hb3 kS kM
    rcases hputs with ⟨hmay, rfl, rfl⟩ | ⟨hmay, rfl, k, f, t, l, o, a, own', nn, vv, hmm, hfit, g, cap, rfl, hfrm⟩
    · have hdp : D = L := by rw [HD.out]; unfold sendP; rw [← HRB.out, hmay]; rfl
      have hee : er = 1 := by rw [HER.out]; unfold sendE; rw [← HRB.out, hmay]; rfl
      subst hdp hee
      clear hmay
      have kS := HKS3.out.c
      have kR := HKR3.out.c
      have fR := HKR3.out.f
      have lR := HKR3.out.lt
      go_wp2_with fail
      exact bodyPost_ret (v := .tuple #[.agg #[.slice p1 n1 c1], .int .i64 1]) (by simp [results, Tryz.results105, go_sem, *]) rfl ⟨p1, c1, ys, by rw [HN1.out], HP3.out.set (HOFF.out.sub (fun b e => .inl (by omega))) 0 _, HOFF.out.sub (fun b e => .inl (by omega)), HB3.out.setCell (p := ⟨w.heap.size + 1 + 1, 0, none⟩) (by show w.heap.size ≤ w.heap.size + 1 + 1; omega) _⟩
    · have hdp : D = addP L (outL m) := by rw [HD.out]; unfold sendP; rw [← HRB.out, hmay]; rfl
      have hee : er = addE L := by rw [HER.out]; unfold sendE; rw [← HRB.out, hmay]; rfl
      have hout : outL m = frameL k f t l o a own' nn vv := by unfold outL; rw [if_pos hmay, hmm]; rfl
      have hadd := added_any (w.heap.size + 3) (.slice p1 n1 c1) ys L (.slice (some ⟨g, 0, none⟩) 19 cap) (outL m) w3 (by exact HO3.out) HRB.out.symm HB.out (by rw [hout]; exact own_base hfrm.1 (by have := HB12.out.size; have := HSZ.out; omega)) (by rw [hout]; rfl) (by rw [hout]; exact frame_lt hfit) (fun g2 e e2 => by
        injection e with e
        simp at e
        have h1 := (HO2.out.row.lt g2 e2).2
        have h2 := hfrm.2.2.1
        omega) (by have := HB12.out.size; have := HSZ.out; have := HS3.out; omega)
      rw [← hdp, ← hee] at hadd
      have HADD := Lib.hid hadd
      clear hadd hdp hee hout hfit hfrm hmm hmay
      have kS := HKS3.out.c
      go_wp2_with fail
      refine HADD.out.mono ?_
      rintro e w4 ⟨p4, c4, zs, rfl, hp4, hoff4, hb4, hkp4⟩
      have HKR4 := Lib.hid (HKR3.out.belowN hb4 (by omega))
      have HP4 := Lib.hid hp4
      have HO4 := Lib.hid hoff4
      have HB4 : Hid (Below w.heap.size w w4) := Lib.hid (HB3.out.trans (hb4.mono (by omega)))
      obtain ⟨d, hd⟩ : ∃ d, d = D.length := ⟨_, rfl⟩
      rw [← hd]
      have HDL := Lib.hid hd
      clear kS hp4 hoff4 hb4 hd hkp4
      have kR := HKR4.out.c
      have fR := HKR4.out.f
      have lR := HKR4.out.lt
      go_wp2_with fail
      exact bodyPost_ret (v := .tuple #[.agg #[.slice p4 d c4], .int .i64 er]) (by simp [results, Tryz.results105, go_sem, *]) rfl ⟨p4, c4, zs, by rw [HDL.out], HP4.out.set (HO4.out.sub (fun b e => by omega)) 0 _, HO4.out.sub (fun b e => by omega), HB4.out.setCell (p := ⟨w.heap.size + 1 + 1, 0, none⟩) (by show w.heap.size ≤ w.heap.size + 1 + 1; omega) _⟩
end Go.Proofs.YtmeomdfmljanhaaGreat
/- A region that draws its order, of which a plan with branches of all its operations is given. No program in sight. -/
namespace Go.Proofs.YtmeomdfmljanhaaGreat.Pg
set_option linter.unusedVariables false

section
variable {P : Program} {ops : Array Oper} {md : Region.Mode} {Q : Exit → Act → World → Prop} {S : World → Prop}
def planFB (md : Region.Mode) (ops : Array Oper) : Nat → PlanT → Array Bool → Bool
  | 0, .stop, listed => decide (Region.ready md ops listed = [])
  | d + 1, .read i p, listed => (Region.ready md ops listed).contains i && Region.free md ops listed i && planFB md ops d p (listed.setIfInBounds i true)
  | d + 1, .one i p, listed => decide (Region.ready md ops listed = [i]) && planFB md ops d p (listed.setIfInBounds i true)
  | d + 1, .two i j p q, listed => decide (Region.ready md ops listed = [i, j]) && (planFB md ops d p (listed.setIfInBounds i true) && planFB md ops d q (listed.setIfInBounds j true))
  | _, _, _ => false
def planFOk (ops : Array Oper) (plan : PlanT) : Bool := Region.noSelect ops && planFB .any ops ops.size plan (Array.replicate ops.size false)
theorem anyH_planF (hsel : Region.noSelect ops = true) (hQ : ∀ d v c a w, Q (.panic c) (a.put d v) w → Q (.panic c) a w) :
    ∀ (d : Nat) (l : PlanT) (listed : Array Bool) (a : Act) (w : World), planFB md ops d l listed = true → S w → wpPlanT P ops Q S (fun a' w' => Q .normal a' w') l a w → wpAnyH P md ops Q S d listed a w
  | 0, .stop, listed, a, w, hB, _, h => by
    simp only [planFB, decide_eq_true_eq] at hB
    exact ⟨hB, h⟩
  | d + 1, .read i p, listed, a, w, hB, hS, h => by
    simp only [planFB, Bool.and_eq_true] at hB
    obtain ⟨⟨hr, hf⟩, hB'⟩ := hB
    obtain ⟨o, v, ho, hy, hK⟩ := h
    exact wpAnyH_take ho hsel hf hr (fun c a w => hQ _ _ c a w) hy hS (anyH_planF hsel hQ d p _ _ w hB' hS hK)
  | d + 1, .one i p, listed, a, w, hB, hS, h => by
    simp only [planFB, Bool.and_eq_true, decide_eq_true_eq] at hB
    refine wpAnyH_all hB.1 (by simp) fun j hj => ?_
    have hj : j = i := by simpa using hj
    subst hj
    exact wpOp_mono (fun a' w' h' => ⟨h'.1, anyH_planF hsel hQ d p _ a' w' hB.2 h'.1 h'.2⟩) h
  | d + 1, .two i j p q, listed, a, w, hB, hS, h => by
    simp only [planFB, Bool.and_eq_true, decide_eq_true_eq] at hB
    refine wpAnyH_all hB.1 (by simp) fun k hk => ?_
    have hk : k = i ∨ k = j := by simpa using hk
    rcases hk with rfl | rfl
    · exact wpOp_mono (fun a' w' h' => ⟨h'.1, anyH_planF hsel hQ d p _ a' w' hB.2.1 h'.1 h'.2⟩) h.1
    · exact wpOp_mono (fun a' w' h' => ⟨h'.1, anyH_planF hsel hQ d q _ a' w' hB.2.2 h'.1 h'.2⟩) h.2
  | 0, .read _ _, _, _, _, hB, _, _ => by simp [planFB] at hB
  | 0, .one _ _, _, _, _, hB, _, _ => by simp [planFB] at hB
  | 0, .two _ _ _ _, _, _, _, hB, _, _ => by simp [planFB] at hB
  | _ + 1, .stop, _, _, _, hB, _, _ => by simp [planFB] at hB
/-- A region by its whole plan. -/
theorem region_planF {id : Nat} {a : Act} {w : World} {ops : Array Oper} (S : World → Prop) (plan : PlanT) (hm : P.follows .mixedOrders = true) (hB : planFOk ops plan = true) (hS : S w.drew)
    (h : wpPlanT P ops (NoPanic Q) S (fun a' w' => NoPanic Q .normal a' w') plan a w.drew) : (Code.region id ops true).wp P Q a w := by
  simp only [planFOk, Bool.and_eq_true] at hB
  refine wp_region_noPanic (wp_region_held (S := S) hm ?_)
  exact anyH_planF hB.1 (fun _ _ _ _ _ h => h) _ _ _ a w.drew hB.2 hS h
theorem op_keep {Q : Exit → Act → World → Prop} {i : Nat} {o : Oper} {K : Act → World → Prop} {a : Act} {w : World} {v : Value} (ho : ops[i]? = some o) (hw : Region.wanted o (yielded ops a.tmps) = true) (hr : (execOp a.eval o).run P w = .ok (.value v) w) (h : K (a.put o.dst v) w) : wpOp P ops Q i K a w := op_make ho hw hr h
theorem op_store {Q : Exit → Act → World → Prop} {i : Nat} {o : Oper} {K : Act → World → Prop} {a : Act} {w w1 : World} (ho : ops[i]? = some o) (hw : Region.wanted o (yielded ops a.tmps) = true) (hr : (execOp a.eval o).run P w = .ok .skip w1) (h : K (a.put o.dst undef) w1) : wpOp P ops Q i K a w := by
  unfold wpOp
  simp only [ho, hw, if_true, Oper.wp, hr, Oper.upon]
  exact .inl h
end
end Go.Proofs.YtmeomdfmljanhaaGreat.Pg
