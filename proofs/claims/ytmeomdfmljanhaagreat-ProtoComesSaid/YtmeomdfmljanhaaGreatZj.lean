/- Laid together, in this order: PgJ, PoolE, PgBf, PgBg, PgDa, PgDb, PgDc, PgDd, PgDe, PgDf, PgDg, PgDh. -/
import Derived.Test.YtmeomdfmljanhaaGreatZi
set_option linter.unusedSimpArgs false
set_option linter.unusedVariables false
/- The work that is begun on a copy. -/
namespace Go.Proofs.YtmeomdfmljanhaaGreat.Pg
set_option linter.unusedVariables false
open Go.ChangeShapes Go.WideShapes Go.ChangeAt Go.RowKit

theorem sv_form {w : World} {v : Value} {c l : Nat} {F : Pr.Fs} {L : List (List Nat)} (h : Sv w v c l F L) : ∃ d0 k0 d1 k1 d2 k2 d3 k3 d4 k4 d5 k5 p cp, v = .agg #[.slice (some d0) c k0, .slice (some d1) c k1, .slice (some d2) c k2, .slice (some d3) l k3, .slice (some d4) l k4, .slice (some d5) l k5, .slice p L.length cp] := by
  obtain ⟨A, p, cp, xs, rfl, _, _⟩ := h
  exact ⟨_, _, _, _, _, _, _, _, _, _, _, _, _, _, rfl⟩
def boxA (A : Tg → Pa) (B : Nat) : Tg → Pa := fun t => if t = .bx then ⟨B, 0, 0⟩ else A t
/-- A system that a value was, laid into a variable of a work. -/
theorem wk_made {W : World} {base B c l : Nat} {F : Pr.Fs} {L : List (List Nat)} {A : Tg → Pa} {p : Option Addr} {cp : Nat} {xs : List Value} {f : Value} (hm : Mem W 0 c l A F vz vz) (hp : Pl W p xs L) (ho : Off (Zs 0 c l A) p xs L) (hbase : ∀ t : Tg, t.wr = true → 0 < t.sz 0 c l → base ≤ (A t).b)
    (hB : Blk W B #[(A .st).sl c, (A .va).sl c, (A .wt).sl c, (A .ho).sl l, (A .di).sl l, (A .bu).sl l, .slice p L.length cp, f]) (hbB : base ≤ B) (hne : ∀ t : Tg, 0 < t.sz 0 c l → (A t).b ≠ B) (hoB : Off (fun b => b = B) p xs L) (hlow : Off (fun b => b < base) p xs L) :
    Wk W base B c l F L f (boxA A B) p cp xs := by
  have hA : ∀ t : Tg, t ≠ .bx → boxA A B t = A t := fun t e => by unfold boxA; rw [if_neg e]
  have hx : boxA A B .bx = ⟨B, 0, 0⟩ := by unfold boxA; rw [if_pos rfl]
  have s0 : ∀ t : Tg, t ≠ .bx → t.sz 8 c l = t.sz 0 c l := fun t e => by cases t <;> first | rfl | exact absurd rfl e
  have hct : ∀ (t : Tg) (j : Nat), t ≠ .bx → ct c l (boxA A B) F (.slice p L.length cp) f t j = ct c l A F vz vz t j := fun t j e => by
    cases t with
    | bx => exact absurd rfl e
    | st => show (boxA A B (.sr j)).sl l = _; rw [hA _ (by intro e; cases e)]; rfl
    | va => show (boxA A B (.vr j)).sl l = _; rw [hA _ (by intro e; cases e)]; rfl
    | di => show (if j % 2 = 0 then _ else (boxA A B (.sh (j / 2))).sl c) = _; rw [hA _ (by intro e; cases e)]; rfl
    | _ => rfl
  refine ⟨⟨fun t h0 => ?_, fun t j hj => ?_, fun t ht h0 j => ?_, fun t t' ht h0 h0' e => ?_, fun t h0 => ?_, hm.c1, hm.c4, hm.l1, hm.l16⟩, hx, hp, ?_, hlow, fun t ht h0 => ?_⟩
  · by_cases e : t = .bx
    · subst e; rw [hx]; exact hB.lt
    · rw [hA t e]; exact hm.lt t (by rw [← s0 t e]; exact h0)
  · by_cases e : t = .bx
    · subst e
      rw [hx, Nat.zero_add]
      have hj : j < 8 := hj
      refine (hB.c j).trans ?_
      show _ = some (([(boxA A B .st).sl c, (boxA A B .va).sl c, (boxA A B .wt).sl c, (boxA A B .ho).sl l, (boxA A B .di).sl l, (boxA A B .bu).sl l, .slice p L.length cp, f] : List Value).getD j vz)
      rw [hA .st (by intro e; cases e), hA .va (by intro e; cases e), hA .wt (by intro e; cases e), hA .ho (by intro e; cases e), hA .di (by intro e; cases e), hA .bu (by intro e; cases e)]
      rcases (by omega : j = 0 ∨ j = 1 ∨ j = 2 ∨ j = 3 ∨ j = 4 ∨ j = 5 ∨ j = 6 ∨ j = 7) with rfl | rfl | rfl | rfl | rfl | rfl | rfl | rfl <;> rfl
    · rw [hA t e, hct t j e]; exact hm.cell t j (by rw [← s0 t e]; exact hj)
  · by_cases e : t = .bx
    · subst e; rw [hx]; exact hB.f j
    · rw [hA t e]; exact hm.fz t ht (by rw [← s0 t e]; exact h0) j
  · by_cases e1 : t = .bx
    · subst e1
      by_cases e2 : t' = .bx
      · exact e2.symm
      · rw [hx, hA t' e2] at e
        exact absurd e.symm (hne t' (by rw [← s0 t' e2]; exact h0'))
    · by_cases e2 : t' = .bx
      · subst e2
        rw [hx, hA t e1] at e
        exact absurd e (hne t (by rw [← s0 t e1]; exact h0))
      · rw [hA t e1, hA t' e2] at e
        exact hm.inj t t' ht (by rw [← s0 t e1]; exact h0) (by rw [← s0 t' e2]; exact h0') e
  · by_cases e : t = .bx
    · subst e; exact Nat.zero_le _
    · rw [hA t e]; exact hm.cap t (by rw [← s0 t e]; exact h0)
  · refine ⟨fun h0 a e hz => ?_, fun k hk h0 g e hz => ?_⟩
    · obtain ⟨t, ht, hs, e2⟩ := hz
      by_cases e3 : t = .bx
      · subst e3; rw [hx] at e2; exact hoB.1 h0 a e e2.symm
      · exact ho.1 h0 a e ⟨t, ht, by rw [← s0 t e3]; exact hs, by rw [← hA t e3]; exact e2⟩
    · obtain ⟨t, ht, hs, e2⟩ := hz
      by_cases e3 : t = .bx
      · subst e3; rw [hx] at e2; exact hoB.2 k hk h0 g e e2.symm
      · exact ho.2 k hk h0 g e ⟨t, ht, by rw [← s0 t e3]; exact hs, by rw [← hA t e3]; exact e2⟩
  · by_cases e : t = .bx
    · subst e; rw [hx]; exact hbB
    · rw [hA t e]; exact hbase t ht (by rw [← s0 t e]; exact h0)
def BegunO (w w' : World) (e : Ending) (c l : Nat) (F : Pr.Fs) (L : List (List Nat)) (frm line : Int) : Prop :=
  ∃ B, e = .returned (.pointer (some ⟨B, 0, none⟩)) ∧ WkX w' w.heap.size B c l F L (sndV B frm line) ∧ Below w.heap.size w w'
set_option maxHeartbeats 4000000 in
set_option maxRecDepth 100000 in
theorem begun_any (v : Value) (c l : Nat) (F : Pr.Fs) (L : List (List Nat)) (frm line : Int) (w : World) (h : Sv w v c l F L) : Calls Tryz.prog 31 #[v, .int .i64 frm, .int .i64 line] w fun e w' => BegunO w w' e c l F L frm line := by
  have HC := Lib.hid (fun W hW => copied_any v c l F L W (h.below (w' := W) hW))
  obtain ⟨d0, k0, d1, k1, d2, k2, d3, k3, d4, k4, d5, k5, p0, cp0, rfl⟩ := sv_form h
  clear h
  go_enter Tryz.func31, Tryz.ntmps31
  go_wp2_with fail
  refine (HC.out _ ((Below.refl _ _).alloc (Nat.le_refl _) _)).mono ?_
  rintro e w1 ⟨A, p, cp, xs, rfl, hm, hp, ho, hlo, hbase, hb⟩
  obtain ⟨⟨b0, o0, c0⟩, e0⟩ : ∃ x, x = A .st := ⟨_, rfl⟩
  obtain ⟨⟨b1, o1, c1⟩, e1⟩ : ∃ x, x = A .va := ⟨_, rfl⟩
  obtain ⟨⟨b2, o2, c2⟩, e2⟩ : ∃ x, x = A .wt := ⟨_, rfl⟩
  obtain ⟨⟨b3, o3, c3⟩, e3⟩ : ∃ x, x = A .ho := ⟨_, rfl⟩
  obtain ⟨⟨b4, o4, c4⟩, e4⟩ : ∃ x, x = A .di := ⟨_, rfl⟩
  obtain ⟨⟨b5, o5, c5⟩, e5⟩ : ∃ x, x = A .bu := ⟨_, rfl⟩
  have HE := Lib.hid (And.intro e0 (And.intro e1 (And.intro e2 (And.intro e3 (And.intro e4 e5)))))
  rw [sysV, ← e0, ← e1, ← e2, ← e3, ← e4, ← e5]
  unfold Pa.sl
  have HM := Lib.hid hm
  have HP := Lib.hid hp
  have HO := Lib.hid ho
  have HLO := Lib.hid hlo
  have HBS := Lib.hid hbase
  have HB := Lib.hid (((Below.refl w.heap.size w).alloc (Nat.le_refl _) (.cells #[.slice (some d0) c k0, .slice (some d1) c k1, .slice (some d2) c k2, .slice (some d3) l k3, .slice (some d4) l k4, .slice (some d5) l k5, .slice p0 L.length cp0] 32)).trans (hb.mono (by simp)))
  have HBA : Hid (w.heap.size ≤ (w.alloc (.cells #[.slice (some d0) c k0, .slice (some d1) c k1, .slice (some d2) c k2, .slice (some d3) l k3, .slice (some d4) l k4, .slice (some d5) l k5, .slice p0 L.length cp0] 32)).heap.size) := Lib.hid (by simp)
  clear hm hp ho hlo hbase hb e0 e1 e2 e3 e4 e5 HC
  have hB8 : Blk (w1.alloc (.cells #[.slice (some ⟨b0, o0, none⟩) c c0, .slice (some ⟨b1, o1, none⟩) c c1, .slice (some ⟨b2, o2, none⟩) c c2, .slice (some ⟨b3, o3, none⟩) l c3, .slice (some ⟨b4, o4, none⟩) l c4, .slice (some ⟨b5, o5, none⟩) l c5, .slice p L.length cp, .nilFunc] 77)) w1.heap.size #[.slice (some ⟨b0, o0, none⟩) c c0, .slice (some ⟨b1, o1, none⟩) c c1, .slice (some ⟨b2, o2, none⟩) c c2, .slice (some ⟨b3, o3, none⟩) l c3, .slice (some ⟨b4, o4, none⟩) l c4, .slice (some ⟨b5, o5, none⟩) l c5, .slice p L.length cp, .nilFunc] := Blk.new _ _ _
  have hst : (store ⟨w1.heap.size, 7, none⟩ (.func (.func 72) #[.agg #[.pointer (some ⟨w1.heap.size, 6, none⟩), .int .i64 frm, .int .i64 line]] #[])).run Tryz.prog (w1.alloc (.cells #[.slice (some ⟨b0, o0, none⟩) c c0, .slice (some ⟨b1, o1, none⟩) c c1, .slice (some ⟨b2, o2, none⟩) c c2, .slice (some ⟨b3, o3, none⟩) l c3, .slice (some ⟨b4, o4, none⟩) l c4, .slice (some ⟨b5, o5, none⟩) l c5, .slice p L.length cp, .nilFunc] 77)) = .ok () ((w1.alloc (.cells #[.slice (some ⟨b0, o0, none⟩) c c0, .slice (some ⟨b1, o1, none⟩) c c1, .slice (some ⟨b2, o2, none⟩) c c2, .slice (some ⟨b3, o3, none⟩) l c3, .slice (some ⟨b4, o4, none⟩) l c4, .slice (some ⟨b5, o5, none⟩) l c5, .slice p L.length cp, .nilFunc] 77)).setCell ⟨w1.heap.size, 7, none⟩ (sndV w1.heap.size frm line)) := by
    rw [run_store _ _ _ _ _ rfl, hB8.c 7, hB8.f 7]
    rfl
  have HB8 := Lib.hid hB8
  clear hB8
  go_wp2_with fail
  go_ret
  obtain ⟨e0, e1, e2, e3, e4, e5⟩ := HE.out
  have hbk : Blk (w1.alloc (.cells #[.slice (some ⟨b0, o0, none⟩) c c0, .slice (some ⟨b1, o1, none⟩) c c1, .slice (some ⟨b2, o2, none⟩) c c2, .slice (some ⟨b3, o3, none⟩) l c3, .slice (some ⟨b4, o4, none⟩) l c4, .slice (some ⟨b5, o5, none⟩) l c5, .slice p L.length cp, sndV w1.heap.size frm line] 77)) w1.heap.size #[.slice (some ⟨b0, o0, none⟩) c c0, .slice (some ⟨b1, o1, none⟩) c c1, .slice (some ⟨b2, o2, none⟩) c c2, .slice (some ⟨b3, o3, none⟩) l c3, .slice (some ⟨b4, o4, none⟩) l c4, .slice (some ⟨b5, o5, none⟩) l c5, .slice p L.length cp, sndV w1.heap.size frm line] := Blk.new _ _ _
  have hb1 : Below w1.heap.size w1 (w1.alloc (.cells #[.slice (some ⟨b0, o0, none⟩) c c0, .slice (some ⟨b1, o1, none⟩) c c1, .slice (some ⟨b2, o2, none⟩) c c2, .slice (some ⟨b3, o3, none⟩) l c3, .slice (some ⟨b4, o4, none⟩) l c4, .slice (some ⟨b5, o5, none⟩) l c5, .slice p L.length cp, sndV w1.heap.size frm line] 77)) := (Below.refl _ _).alloc (Nat.le_refl _) _
  refine ⟨w1.heap.size, rfl, ⟨_, p, cp, xs, wk_made (HM.out.below hb1) (HP.out.below hb1) HO.out (fun t ht h0 => Nat.le_trans HBA.out (HBS.out t ht h0)) ?_ HB.out.size (fun t h0 => Nat.ne_of_lt (HM.out.lt t h0)) (HP.out.off (fun b (e : b = w1.heap.size) => by omega)) (HLO.out.sub (fun b (e : b < w.heap.size) => Nat.lt_of_lt_of_le e HBA.out))⟩, HB.out.trans (hb1.mono HB.out.size)⟩
  rw [← e0, ← e1, ← e2, ← e3, ← e4, ← e5]
  exact hbk
end Go.Proofs.YtmeomdfmljanhaaGreat.Pg
/- What pool.Take answers: no condition but that the pool reads. -/
namespace Go.Proofs.YtmeomdfmljanhaaGreat
set_option linter.unusedVariables false
open Go.ChangeShapes Go.WideShapes Go.ChangeAt Go.RowKit

theorem drop_at {L : List (List Nat)} {k : Int} (h : checkP L k = 0) : ∃ i : Nat, k = i ∧ i < L.length ∧ atP L k = L.getD i [] := by
  obtain ⟨_, h0, h1⟩ := check_inv h
  obtain ⟨i, rfl⟩ := Int.eq_ofNat_of_zero_le h0
  exact ⟨i, rfl, by omega, rfl⟩
theorem msg_parts (m : Msg) : ∃ k f t l o a own n v, m.row = #[.int .i64 k, .int .i64 f, .int .i64 t, .int .i64 l, .int .i64 o, .int .i64 a, .bool own, .int .u32 (n : Nat), .int .u32 (v : Nat)] := by
  obtain ⟨k, f, t, l, o, a, own, n, v⟩ := m
  exact ⟨k, f, t, l, o, a, own, n, v, rfl⟩
theorem pl_store9 {w : World} {p : Option Addr} {xs : List Value} {L : List (List Nat)} (h : Pl w p xs L) {R : Nat} (ho : Off (fun b => b = R) p xs L) (x0 x1 x2 x3 x4 x5 x6 x7 x8 : Value) :
    Pl (((((((((w.setCell ⟨R, 0, none⟩ x0).setCell ⟨R, 1, none⟩ x1).setCell ⟨R, 2, none⟩ x2).setCell ⟨R, 3, none⟩ x3).setCell ⟨R, 4, none⟩ x4).setCell ⟨R, 5, none⟩ x5).setCell ⟨R, 6, none⟩ x6).setCell ⟨R, 7, none⟩ x7).setCell ⟨R, 8, none⟩ x8) p xs L :=
  ((((((((h.set ho 0 x0).set ho 1 x1).set ho 2 x2).set ho 3 x3).set ho 4 x4).set ho 5 x5).set ho 6 x6).set ho 7 x7).set ho 8 x8

set_option maxHeartbeats 4000000 in
theorem take_any (p : Option Addr) (n c : Nat) (xs : List Value) (L : List (List Nat)) (k : Int) (w : World) (hz : L.length = n) (h : Pl w p xs L) :
    Calls Tryz.prog 30 #[.agg #[.slice p n c], .int .i64 k] w fun e w' => ∃ p' c' xs', e = .returned (.tuple #[.agg #[.slice p' (dropP L k).length c'], .agg (takeM L k).row, .int .i64 (takeE L k)]) ∧ Out w w' p' xs' (dropP L k) := by
  have HC := Lib.hid (fun w' hb => drop_any p n c xs L k w' hz (h.below hb))
  have HP := Lib.hid h
  have HZ := Lib.hid hz
  obtain ⟨D, hD⟩ : ∃ D, D = dropP L k := ⟨_, rfl⟩
  obtain ⟨er, her⟩ : ∃ er, er = checkP L k := ⟨_, rfl⟩
  obtain ⟨te, hte⟩ : ∃ te, te = takeE L k := ⟨_, rfl⟩
  obtain ⟨tm, htm⟩ : ∃ tm, tm = (takeM L k).row := ⟨_, rfl⟩
  rw [← hD, ← hte, ← htm]
  rw [← hD, ← her] at HC
  have HD := Lib.hid hD
  have HER := Lib.hid her
  have HTE := Lib.hid hte
  have HTM := Lib.hid htm
  clear h hz hD her hte htm
  go_enter Tryz.func30, Tryz.ntmps30
  go_wp2_with fail
  refine (HC.out _ ((((Below.refl _ _).alloc (Nat.le_refl _) _).alloc (by simp) _).alloc (by simp; omega) _)).mono ?_
  rintro e w1 ⟨p1, c1, ys, rfl, ho⟩
  have HBX : Hid (Below w.heap.size w w1) := Lib.hid (((((Below.refl _ _).alloc (Nat.le_refl _) _).alloc (by simp) _).alloc (by simp; omega) _).trans (ho.below.mono (by simp; omega)))
  have HKM := Lib.hid (Blk.track1 ho.below)
  have HKR := Lib.hid (Blk.track2 ho.below)
  have HKB : Hid (Blk w1 w.heap.size #[.slice p n c]) := Lib.hid ((((Blk.new w #[.slice p n c] 30).alloc _).alloc _).below ho.below)
  simp only [World.size_alloc] at HKM HKR
  have HPL := Lib.hid ho.pl
  have HOFF := Lib.hid ho.off
  simp only [World.size_alloc] at HOFF
  obtain ⟨d, hd⟩ : ∃ d, d = D.length := ⟨_, rfl⟩
  rw [← hd]
  have HDL := Lib.hid hd
  clear ho hd HC
  by_cases hk : er = 0
  · subst hk
    have hk : checkP L k = 0 := HER.out.symm
    obtain ⟨i, rfl, hi, hat⟩ := drop_at hk
    obtain ⟨b, off, hb, rfl, hcell⟩ := HP.out.at_ (by omega)
    have hck := hcell i hi
    have hl := HP.out.l100 _ (mem_getD L [] i hi)
    obtain ⟨q, c2, hv, hc2, hby⟩ := HP.out.fs i hi
    rw [hv] at hck
    obtain ⟨x, hx⟩ : ∃ x, x = L.getD i [] := ⟨_, rfl⟩
    have hte : te = readE x := by rw [HTE.out]; unfold takeE; rw [if_pos hk, hat, hx]
    have htm : tm = (readM x).row := by rw [HTM.out]; unfold takeM; rw [if_pos hk, hat, hx]
    rw [← hx] at hck hl hc2 hby
    obtain ⟨xl, hxl⟩ : ∃ xl, xl = x.length := ⟨_, rfl⟩
    rw [← hxl] at hck hl hc2
    obtain ⟨mk, mf, mt, ml, mo, ma, mown, mn, mv, hrow⟩ := msg_parts (readM x)
    rw [hrow] at htm
    subst hte htm
    have hi' : (i : Int) < (n : Int) := by have := HZ.out; omega
    have HROW := Lib.hid hrow
    have HBY := Lib.hid hby
    have HXL := Lib.hid hxl
    have cB := HKB.out.c
    have cB1 := (HKB.out.alloc (.cells #[.slice p1 d c1] 30)).c
    have hck1 : (w1.alloc (.cells #[.slice p1 d c1] 30)).cell? ⟨b, off + i, none⟩ = some (.slice q xl c2) := (((HBX.out.alloc HBX.out.size _)).cell (p := ⟨b, off + i, none⟩) hb).trans hck
    clear hcell hv hx hby hxl hrow hi hat hk hck cB
    go_wp2_with fail
    have hread := read_any q xl c2 x (w1.alloc (.cells #[.slice p1 d c1] 30)) HXL.out.symm (by unfold maxLen; omega) hc2 (HBY.out.below (HBX.out.alloc HBX.out.size _))
    rw [HROW.out] at hread
    refine hread.mono ?_
    clear hread
    rintro e w2 ⟨rfl, hb2⟩
    have HB12 : Hid (Below w1.heap.size w1 w2) := Lib.hid (((Below.refl _ _).alloc (Nat.le_refl _) _).trans (hb2.mono (by simp)))
    have HKS := Lib.hid (Blk.track1 hb2)
    have HKR2 := Lib.hid (HKR.out.below HB12.out)
    have HKM2 := Lib.hid (HKM.out.below HB12.out)
    have HPL2 := Lib.hid (HPL.out.below HB12.out)
    have HB2 : Hid (Below w.heap.size w w2) := Lib.hid (HBX.out.trans (HB12.out.mono HBX.out.size))
    have HSZ : Hid (w.heap.size + 1 + 1 < w2.heap.size) := Lib.hid HKM2.out.lt
    have HSZ1 : Hid (w.heap.size + 1 + 1 < w1.heap.size) := Lib.hid HKM.out.lt
    clear hb2 cB1 hck1
    go_upto_region 5 with fail
    obtain ⟨W, hW⟩ : ∃ W, W = w2.alloc (.cells #[.int .i64 mk, .int .i64 mf, .int .i64 mt, .int .i64 ml, .int .i64 mo, .int .i64 ma, .bool mown, .int .u32 mn, .int .u32 mv] 70) := ⟨_, rfl⟩
    have HM : Hid (Blk W w2.heap.size #[.int .i64 mk, .int .i64 mf, .int .i64 mt, .int .i64 ml, .int .i64 mo, .int .i64 ma, .bool mown, .int .u32 mn, .int .u32 mv]) := by rw [hW]; exact Blk.new _ _ _
    have HWB : Hid (Below w2.heap.size w2 W) := by rw [hW]; exact (Below.refl _ _).alloc (Nat.le_refl _) _
    rw [← hW]
    clear hW
    have HS0 : Hid (Blk W.drew w1.heap.size #[.slice p1 d c1] ∧ Blk W.drew w2.heap.size #[.int .i64 mk, .int .i64 mf, .int .i64 mt, .int .i64 ml, .int .i64 mo, .int .i64 ma, .bool mown, .int .u32 mn, .int .u32 mv]) := Lib.hid ⟨(HKS.out.below HWB.out).drew, HM.out.drew⟩
    have HR0 := Lib.hid (HKR2.out.below HWB.out)
    have HG0 := Lib.hid (HKM2.out.below HWB.out)
    refine region_plan (fun w' : World => Blk w' w1.heap.size #[.slice p1 d c1] ∧ Blk w' w2.heap.size #[.int .i64 mk, .int .i64 mf, .int .i64 mt, .int .i64 ml, .int .i64 mo, .int .i64 ma, .bool mown, .int .u32 mn, .int .u32 mv]) 5 [(0, true), (1, true), (2, true), (3, false), (4, false)] (by kernel_rfl) (by kernel_rfl) HS0.out ?_
    iterate 3
      refine plan_read (v := ?_) rfl (by rfl) ?_ ?_
      rotate_left
      · intro w' hS
        try dsimp only at hS
        have c1 := hS.1.c
        have c2 := hS.2.c
        go_simp
        try with_reducible rfl
      try simp only [Act.put, List.setIfInBounds_toArray, List.set_cons_zero, List.set_cons_succ, List.getElem_toArray, List.getElem_cons_zero, List.getElem_cons_succ]
    have cR := HR0.out.c
    have fR := HR0.out.f
    refine plan_store (w1 := W.drew.setCell ⟨w.heap.size + 1, 0, none⟩ (.slice p1 d c1)) rfl (by rfl) ?_ ?_ ?_
    · go_simp
    · exact ⟨HS0.out.1.other _ (by have := HSZ1.out; omega), HS0.out.2.other _ (by have := HSZ.out; omega)⟩
    try simp only [Act.put, List.setIfInBounds_toArray, List.set_cons_zero, List.set_cons_succ, List.getElem_toArray, List.getElem_cons_zero, List.getElem_cons_succ]
    have HSS : Hid (Blk (W.drew.setCell ⟨w.heap.size + 1, 0, none⟩ (.slice p1 d c1)) w1.heap.size #[.slice p1 d c1] ∧ Blk (W.drew.setCell ⟨w.heap.size + 1, 0, none⟩ (.slice p1 d c1)) w2.heap.size #[.int .i64 mk, .int .i64 mf, .int .i64 mt, .int .i64 ml, .int .i64 mo, .int .i64 ma, .bool mown, .int .u32 mn, .int .u32 mv]) := Lib.hid ⟨HS0.out.1.other _ (by have := HSZ1.out; omega), HS0.out.2.other _ (by have := HSZ.out; omega)⟩
    have HGG := Lib.hid (HG0.out.drew.other (B' := w.heap.size + 1) (n := 0) (.slice p1 d c1) (by omega))
    have HRR := Lib.hid (HR0.out.drew.set (n := 0) (.slice p1 d c1) (by simp))
    have HPP := Lib.hid (((HPL2.out.below HWB.out).below (Below.refl _ _).drew).set (R := w.heap.size + 1) (HOFF.out.sub (fun b e => by omega)) 0 (.slice p1 d c1))
    have HBB : Hid (Below w.heap.size w (W.drew.setCell ⟨w.heap.size + 1, 0, none⟩ (.slice p1 d c1))) := Lib.hid (((HB2.out.trans (HWB.out.mono HB2.out.size)).drew).setCell (p := ⟨w.heap.size + 1, 0, none⟩) (by show w.heap.size ≤ w.heap.size + 1; omega) _)
    obtain ⟨w6, hw6⟩ : ∃ w6, w6 = W.drew.setCell ⟨w.heap.size + 1, 0, none⟩ (.slice p1 d c1) := ⟨_, rfl⟩
    rw [← hw6] at HSS HGG HRR HPP HBB ⊢
    clear hw6 cR fR HS0 HR0 HG0
    have cG := HGG.out.c
    have fG := HGG.out.f
    refine plan_store (w1 := ?_) rfl (by rfl) ?_ ?_ ?_
    rotate_left
    · go_simp
      rfl
    · exact ⟨blkO9 HSS.out.1 (by have := HSZ1.out; omega), blkO9 HSS.out.2 (by have := HSZ.out; omega)⟩
    try simp only [Act.put, List.setIfInBounds_toArray, List.set_cons_zero, List.set_cons_succ, List.getElem_toArray, List.getElem_cons_zero, List.getElem_cons_succ]
    have HG9 := Lib.hid (blkS9 HGG.out (v0 := .int .i64 mk) (v1 := .int .i64 mf) (v2 := .int .i64 mt) (v3 := .int .i64 ml) (v4 := .int .i64 mo) (v5 := .int .i64 ma) (v6 := .bool mown) (v7 := .int .u32 mn) (v8 := .int .u32 mv))
    have HR9 := Lib.hid (blkO9 (X := w.heap.size + 1 + 1) HRR.out (by omega) (v0 := .int .i64 mk) (v1 := .int .i64 mf) (v2 := .int .i64 mt) (v3 := .int .i64 ml) (v4 := .int .i64 mo) (v5 := .int .i64 ma) (v6 := .bool mown) (v7 := .int .u32 mn) (v8 := .int .u32 mv))
    have HP9 := Lib.hid (pl_store9 (R := w.heap.size + 1 + 1) HPP.out (HOFF.out.sub (fun b e => by omega)) (.int .i64 mk) (.int .i64 mf) (.int .i64 mt) (.int .i64 ml) (.int .i64 mo) (.int .i64 ma) (.bool mown) (.int .u32 mn) (.int .u32 mv))
    have HB9 := Lib.hid (belowS9 (X := w.heap.size + 1 + 1) HBB.out (by omega) (v0 := .int .i64 mk) (v1 := .int .i64 mf) (v2 := .int .i64 mt) (v3 := .int .i64 ml) (v4 := .int .i64 mo) (v5 := .int .i64 ma) (v6 := .bool mown) (v7 := .int .u32 mn) (v8 := .int .u32 mv))
    obtain ⟨w7, hw7⟩ : ∃ w7, w7 = (((((((((w6.setCell ⟨w.heap.size + 1 + 1, 0, none⟩ (.int .i64 mk)).setCell ⟨w.heap.size + 1 + 1, 1, none⟩ (.int .i64 mf)).setCell ⟨w.heap.size + 1 + 1, 2, none⟩ (.int .i64 mt)).setCell ⟨w.heap.size + 1 + 1, 3, none⟩ (.int .i64 ml)).setCell ⟨w.heap.size + 1 + 1, 4, none⟩ (.int .i64 mo)).setCell ⟨w.heap.size + 1 + 1, 5, none⟩ (.int .i64 ma)).setCell ⟨w.heap.size + 1 + 1, 6, none⟩ (.bool mown)).setCell ⟨w.heap.size + 1 + 1, 7, none⟩ (.int .u32 mn)).setCell ⟨w.heap.size + 1 + 1, 8, none⟩ (.int .u32 mv)) := ⟨_, rfl⟩
    rw [← hw7] at HG9 HR9 HP9 HB9 ⊢
    clear hw7 cG fG HSS HGG HRR HPP HBB
    have cG := HG9.out.c
    have cR := HR9.out.c
    refine plan_nil ?_
    simp only [List.drop_succ_cons, List.drop_zero]
    go_wp2_with fail
    exact bodyPost_ret (v := .tuple #[.agg #[.slice p1 d c1], .agg #[.int .i64 mk, .int .i64 mf, .int .i64 mt, .int .i64 ml, .int .i64 mo, .int .i64 ma, .bool mown, .int .u32 mn, .int .u32 mv], .int .i64 (readE x)]) (by simp [results, Tryz.results30, go_sem, *]) rfl ⟨p1, c1, ys, by rw [HDL.out], HP9.out, HOFF.out.sub (fun b e => by omega), HB9.out⟩
  · have hdp : D = L := by rw [HD.out]; unfold dropP; rw [if_neg (by rw [← HER.out]; exact hk)]
    have hte : te = er := by rw [HTE.out, HER.out]; unfold takeE; rw [if_neg (by rw [← HER.out]; exact hk)]
    have htm : tm = #[.int .i64 0, .int .i64 0, .int .i64 0, .int .i64 0, .int .i64 0, .int .i64 0, .bool false, .int .u32 0, .int .u32 0] := by rw [HTM.out]; unfold takeM; rw [if_neg (by rw [← HER.out]; exact hk)]; rfl
    have e0 : (er != 0) = true := by simpa using hk
    subst hte htm
    clear hk
    have cR := HKR.out.c
    have fR := HKR.out.f
    have lR := HKR.out.lt
    have cG := HKM.out.c
    have fG := HKM.out.f
    have lG := HKM.out.lt
    go_wp2_with fail
    exact bodyPost_ret (v := .tuple #[.agg #[.slice p1 d c1], .agg #[.int .i64 0, .int .i64 0, .int .i64 0, .int .i64 0, .int .i64 0, .int .i64 0, .bool false, .int .u32 0, .int .u32 0], .int .i64 te]) (by simp [results, Tryz.results30, go_sem, *]) rfl ⟨p1, c1, ys, by rw [HDL.out], (pl_store9 (HPL.out.set (HOFF.out.sub (fun b e => by omega)) 0 _) (HOFF.out.sub (fun b e => by omega)) _ _ _ _ _ _ _ _ _).below ((Below.refl _ _).alloc (Nat.le_refl _) _), HOFF.out.sub (fun b e => by omega), (belowS9 (HBX.out.setCell (p := ⟨w.heap.size + 1, 0, none⟩) (by show w.heap.size ≤ w.heap.size + 1; omega) _) (by omega)).alloc (by simp; have := HBX.out.size; omega) _⟩
end Go.Proofs.YtmeomdfmljanhaaGreat
/- What a work's system is, laid as a result; Deliver. -/
namespace Go.Proofs.YtmeomdfmljanhaaGreat.Pg
set_option linter.unusedVariables false
open Go.ChangeShapes Go.WideShapes Go.ChangeAt Go.RowKit

/-- A system's value whose two lists of rows lie from base on. -/
def Nw (base : Nat) (v : Value) : Prop := ∃ b0 o0 n0 c0 b1 o1 n1 c1 v2 v3 v4 v5 v6, v = .agg #[.slice (some ⟨b0, o0, none⟩) n0 c0, .slice (some ⟨b1, o1, none⟩) n1 c1, v2, v3, v4, v5, v6] ∧ base ≤ b0 ∧ base ≤ b1
theorem Nw.of {base c l : Nat} {A : Tg → Pa} {P : Value} (h0 : base ≤ (A .st).b) (h1 : base ≤ (A .va).b) : Nw base (sysV c l A P) := ⟨_, _, _, _, _, _, _, _, _, _, _, _, _, rfl, h0, h1⟩
theorem Nw.mono {base base' : Nat} {v : Value} (h : Nw base v) (hb : base' ≤ base) : Nw base' v := by
  obtain ⟨b0, o0, n0, c0, b1, o1, n1, c1, v2, v3, v4, v5, v6, e, h0, h1⟩ := h
  exact ⟨b0, o0, n0, c0, b1, o1, n1, c1, v2, v3, v4, v5, v6, e, Nat.le_trans hb h0, Nat.le_trans hb h1⟩
theorem Nw.wk {w : World} {w0 base B c l : Nat} {F : Pr.Fs} {L : List (List Nat)} {f : Value} {A : Tg → Pa} {p : Option Addr} {cp : Nat} {xs : List Value} {P : Value} (h : Wk w base B c l F L f A p cp xs) (hb : w0 ≤ base) : Nw w0 (sysV c l A P) :=
  Nw.of (Nat.le_trans hb (h.base .st rfl h.mem.c1)) (Nat.le_trans hb (h.base .va rfl h.mem.c1))
/-- A system, and an error. -/
def OutS (w w' : World) (e : Ending) (c l : Nat) (F : Pr.Fs) (L : List (List Nat)) (X : Int) : Prop := ∃ v, e = .returned (.tuple #[v, .int .i64 X]) ∧ Sv w' v c l F L ∧ Nw w.heap.size v ∧ Below w.heap.size w w'
theorem sh_ne {w : World} {bs c l : Nat} {A : Tg → Pa} {F : Pr.Fs} {pv f : Value} (h : Mem w bs c l A F pv f) {R : Nat} (hR : Blk w R #[.slice none 0 0, .slice none 0 0, .slice none 0 0, .slice none 0 0, .slice none 0 0, .slice none 0 0, .slice none 0 0]) {k : Nat} (hk : k < l) : (A (.sh k)).b ≠ R := fun e => by
  have h0 : 0 < (Tg.sh k).sz bs c l := by show 0 < if k < l then c else 0; rw [if_pos hk]; exact h.c1
  have h1 := h.cell (.sh k) 0 h0
  rw [e, hR.c] at h1
  have h2 : ct c l A F pv f (.sh k) 0 = .bool (F.sh k 0) := rfl
  rw [h2] at h1
  rcases (by omega : (A (.sh k)).o + 0 = 0 ∨ (A (.sh k)).o + 0 = 1 ∨ (A (.sh k)).o + 0 = 2 ∨ (A (.sh k)).o + 0 = 3 ∨ (A (.sh k)).o + 0 = 4 ∨ (A (.sh k)).o + 0 = 5 ∨ (A (.sh k)).o + 0 = 6 ∨ 7 ≤ (A (.sh k)).o + 0) with x | x | x | x | x | x | x | x
  · rw [x] at h1; cases h1
  · rw [x] at h1; cases h1
  · rw [x] at h1; cases h1
  · rw [x] at h1; cases h1
  · rw [x] at h1; cases h1
  · rw [x] at h1; cases h1
  · rw [x] at h1; cases h1
  · rw [Array.getElem?_eq_none (by simpa using x)] at h1; cases h1
/-- A work's system, laid as a result. -/
theorem wk_out {w w' : World} {base B c l : Nat} {F : Pr.Fs} {L : List (List Nat)} {f : Value} {A : Tg → Pa} {p : Option Addr} {cp : Nat} {xs : List Value} (h : Wk w base B c l F L f A p cp xs) {R : Nat} (hR : Blk w R #[.slice none 0 0, .slice none 0 0, .slice none 0 0, .slice none 0 0, .slice none 0 0, .slice none 0 0, .slice none 0 0]) (hlt : R < base)
    (hw : w' = (((((((w.setCell ⟨R, 0, none⟩ (.slice (some ⟨(A .st).b, (A .st).o, none⟩) c (A .st).c)).setCell ⟨R, 1, none⟩ (.slice (some ⟨(A .va).b, (A .va).o, none⟩) c (A .va).c)).setCell ⟨R, 2, none⟩ (.slice (some ⟨(A .wt).b, (A .wt).o, none⟩) c (A .wt).c)).setCell ⟨R, 3, none⟩ (.slice (some ⟨(A .ho).b, (A .ho).o, none⟩) l (A .ho).c)).setCell ⟨R, 4, none⟩ (.slice (some ⟨(A .di).b, (A .di).o, none⟩) l (A .di).c)).setCell ⟨R, 5, none⟩ (.slice (some ⟨(A .bu).b, (A .bu).o, none⟩) l (A .bu).c)).setCell ⟨R, 6, none⟩ (.slice p L.length cp))) : Sv w' (sysV c l A (.slice p L.length cp)) c l F L := by
  have hoff : ∀ t : Tg, 0 < t.sz 0 c l → (A t).b ≠ R := fun t h0 => by
    cases ht : t.wr with
    | true =>
      have := h.base t ht (by cases t <;> first | exact h0 | cases h0)
      omega
    | false =>
      cases t <;> try cases ht
      rename_i k
      refine sh_ne h.mem hR ?_
      refine Decidable.byContradiction fun hn => ?_
      have h0 : 0 < if k < l then c else 0 := h0
      rw [if_neg hn] at h0
      omega
  have hm : ∀ (X : World) (j : Nat) (u : Value), Mem X 0 c l A F vz vz ∧ Pl X p xs L → Mem (X.setCell ⟨R, j, none⟩ u) 0 c l A F vz vz ∧ Pl (X.setCell ⟨R, j, none⟩ u) p xs L := fun X j u ⟨x1, x2⟩ =>
    ⟨x1.off hoff j u, x2.set (h.low.sub (fun b (e : b = R) => by show b < base; omega)) j u⟩
  have h0 : Mem w 0 c l A F vz vz := (h.mem.less vz).same (fun t j hj => by cases t <;> first | rfl | cases hj)
  have h7 : Mem w' 0 c l A F vz vz ∧ Pl w' p xs L := by
    rw [hw]
    exact hm _ 6 _ (hm _ 5 _ (hm _ 4 _ (hm _ 3 _ (hm _ 2 _ (hm _ 1 _ (hm _ 0 _ ⟨h0, h.pl⟩))))))
  exact ⟨A, p, cp, xs, rfl, h7.1, h7.2⟩
end Go.Proofs.YtmeomdfmljanhaaGreat.Pg
/- Deliver, of a frame that is read. -/
namespace Go.Proofs.YtmeomdfmljanhaaGreat.Pg
set_option linter.unusedVariables false
open Go.ChangeShapes Go.WideShapes Go.ChangeAt Go.RowKit

set_option maxHeartbeats 4000000 in
set_option maxRecDepth 100000 in
theorem deliver_ok (v : Value) (c l : Nat) (F : Pr.Fs) (L : List (List Nat)) (k : Nat) (m : Pr.Fm) (w : World) (h : Sv w v c l F L) (hg : Rg c l F) (hr : rightP L = true) (hrow : (takeM L k).row = mA m) (he : takeE L k = 0) (hroom : 64 - (((dropP L k).length : Nat) : Int) ≥ c + 1) (hrd : rightP (dropP L k) = true)
    (hml : m.line < l) (hm : m.frm ≤ c ∧ m.to ≤ c ∧ m.fr ≤ c) (hhf : m.to = 0 → 1 ≤ m.frm) (hva : m.val < 4294967296) :
    Calls Tryz.prog 9 #[v, .int .i64 k] w fun e w' => OutS w w' e c l (comeF F c m) (comeS F c m (dropP L k)) 0 := by
  have HSV := Lib.hid (fun W hW => h.below (w' := W) hW)
  obtain ⟨A, p, cp, xs, rfl, hmm, hp⟩ := h
  have hc4 := hmm.c4
  have hl16 := hmm.l16
  obtain ⟨FX, hFX⟩ : ∃ FX, FX = comeF F c m := ⟨_, rfl⟩
  obtain ⟨LX, hLX⟩ : ∃ LX, LX = comeS F c m (dropP L k) := ⟨_, rfl⟩
  rw [← hFX, ← hLX]
  have HFX := Lib.hid hFX
  have HLX := Lib.hid hLX
  clear hFX hLX
  obtain ⟨kd, fr, tt, ln, fo, ac, ow, nu, va⟩ := m
  have HMM := Lib.hid hmm
  have HPP := Lib.hid hp
  obtain ⟨E, hE⟩ : ∃ E, E = w.heap.size := ⟨_, rfl⟩
  obtain ⟨R, hR⟩ : ∃ R, R = w.heap.size + 1 := ⟨_, rfl⟩
  obtain ⟨w1, hw1⟩ : ∃ w1, w1 = (w.alloc (.cells #[.slice (some ⟨(A .st).b, (A .st).o, none⟩) c (A .st).c, .slice (some ⟨(A .va).b, (A .va).o, none⟩) c (A .va).c, .slice (some ⟨(A .wt).b, (A .wt).o, none⟩) c (A .wt).c, .slice (some ⟨(A .ho).b, (A .ho).o, none⟩) l (A .ho).c, .slice (some ⟨(A .di).b, (A .di).o, none⟩) l (A .di).c, .slice (some ⟨(A .bu).b, (A .bu).o, none⟩) l (A .bu).c, .slice p L.length cp] 32)).alloc (.cells #[.slice none 0 0, .slice none 0 0, .slice none 0 0, .slice none 0 0, .slice none 0 0, .slice none 0 0, .slice none 0 0] 32) := ⟨_, rfl⟩
  have hb1 : Below w.heap.size w w1 := by rw [hw1]; exact ((Below.refl _ _).alloc (Nat.le_refl _) _).alloc (by simp) _
  have HKE : Hid (Blk w1 E #[.slice (some ⟨(A .st).b, (A .st).o, none⟩) c (A .st).c, .slice (some ⟨(A .va).b, (A .va).o, none⟩) c (A .va).c, .slice (some ⟨(A .wt).b, (A .wt).o, none⟩) c (A .wt).c, .slice (some ⟨(A .ho).b, (A .ho).o, none⟩) l (A .ho).c, .slice (some ⟨(A .di).b, (A .di).o, none⟩) l (A .di).c, .slice (some ⟨(A .bu).b, (A .bu).o, none⟩) l (A .bu).c, .slice p L.length cp]) := Lib.hid (by rw [hw1, hE]; exact (Blk.new _ _ _).alloc _)
  have HKR : Hid (Blk w1 R #[.slice none 0 0, .slice none 0 0, .slice none 0 0, .slice none 0 0, .slice none 0 0, .slice none 0 0, .slice none 0 0]) := Lib.hid (by rw [hw1, hR]; have := Blk.new (w.alloc (.cells #[.slice (some ⟨(A .st).b, (A .st).o, none⟩) c (A .st).c, .slice (some ⟨(A .va).b, (A .va).o, none⟩) c (A .va).c, .slice (some ⟨(A .wt).b, (A .wt).o, none⟩) c (A .wt).c, .slice (some ⟨(A .ho).b, (A .ho).o, none⟩) l (A .ho).c, .slice (some ⟨(A .di).b, (A .di).o, none⟩) l (A .di).c, .slice (some ⟨(A .bu).b, (A .bu).o, none⟩) l (A .bu).c, .slice p L.length cp] 32)) #[.slice none 0 0, .slice none 0 0, .slice none 0 0, .slice none 0 0, .slice none 0 0, .slice none 0 0, .slice none 0 0] 32; rw [World.size_alloc] at this; exact this)
  have HB1 := Lib.hid hb1
  have HW1 := Lib.hid hw1
  have HEE := Lib.hid hE
  have HRR := Lib.hid hR
  clear hmm hp hw1 hb1 hE hR
  go_enter Tryz.func9, Tryz.ntmps9
  go_upto_region 1 with fail
  simp only [Pa.sl]
  rw [← HRR.out, ← HEE.out, ← HW1.out]
  have kB := HKE.out.c
  go_wp2_with fail
  refine (right_t (HMM.out.below HB1.out) hg p cp xs L (HPP.out.below HB1.out) hr).mono ?_
  rintro e w2 ⟨rfl, hb2⟩
  have HKE2 := Lib.hid (HKE.out.below hb2)
  have HKR2 := Lib.hid (HKR.out.below hb2)
  have HB2 := Lib.hid (HB1.out.trans (hb2.mono HB1.out.size))
  clear hb2 kB
  have kB := HKE2.out.c
  go_wp2_with fail
  refine (take_any p L.length cp xs L k w2 rfl (HPP.out.below HB2.out)).mono ?_
  rintro e w3 ⟨p3, c3, xs3, rfl, hout⟩
  rw [hrow, he]
  have HO3 := Lib.hid hout
  have HKE3 := Lib.hid (HKE2.out.below hout.below)
  have HKR3 := Lib.hid (HKR2.out.below hout.below)
  have HB3 := Lib.hid (HB2.out.trans (hout.below.mono HB2.out.size))
  clear hout kB
  have kB := HKE3.out.c
  obtain ⟨M, hM⟩ : ∃ M, M = w3.heap.size + 1 := ⟨_, rfl⟩
  obtain ⟨G, hG⟩ : ∃ G, G = w3.heap.size := ⟨_, rfl⟩
  obtain ⟨w4, hw4⟩ : ∃ w4, w4 = (w3.alloc (.cells #[.slice p3 (dropP L k).length c3] 30)).alloc (.cells (mA ⟨kd, fr, tt, ln, fo, ac, ow, nu, va⟩) 70) := ⟨_, rfl⟩
  have hb4 : Below w3.heap.size w3 w4 := by rw [hw4]; exact ((Below.refl _ _).alloc (Nat.le_refl _) _).alloc (by simp) _
  have HG4 : Hid (Blk w4 G #[.slice p3 (dropP L k).length c3]) := Lib.hid (by rw [hw4, hG]; exact (Blk.new _ _ _).alloc _)
  have HM4 : Hid (Blk w4 M (mA ⟨kd, fr, tt, ln, fo, ac, ow, nu, va⟩)) := Lib.hid (by rw [hw4, hM]; have := Blk.new (w3.alloc (.cells #[.slice p3 (dropP L k).length c3] 30)) (mA ⟨kd, fr, tt, ln, fo, ac, ow, nu, va⟩) 70; rw [World.size_alloc] at this; exact this)
  have HKE4 := Lib.hid (HKE3.out.below hb4)
  have HKR4 := Lib.hid (HKR3.out.below hb4)
  have HB4 := Lib.hid (HB3.out.trans (hb4.mono HB3.out.size))
  have HP4 := Lib.hid (HO3.out.pl.below hb4)
  have HLE : Hid (w2.heap.size ≤ w4.heap.size) := Lib.hid (Nat.le_trans HO3.out.below.size hb4.size)
  have HW4 := Lib.hid hw4
  have HGG := Lib.hid hG
  have HMMM := Lib.hid hM
  clear hw4 hb4 hG hM
  go_upto_region 4 with fail
  rw [← HMMM.out, ← HGG.out, ← HW4.out]
  clear kB HW4
  have kB := HKE4.out.c
  have kM := HM4.out.c
  go_wp2_with fail
  refine (begun_any _ c l F L (tt : Nat) (ln : Nat) w4 (HSV.out _ HB4.out)).mono ?_
  rintro e w5 ⟨B, rfl, hwk, hb5⟩
  have HKE5 := Lib.hid (HKE4.out.below hb5)
  have HKR5 := Lib.hid (HKR4.out.below hb5)
  have HG5 := Lib.hid (HG4.out.below hb5)
  have HM5 := Lib.hid (HM4.out.below hb5)
  have HP5 := Lib.hid (HP4.out.below hb5)
  have HB5 := Lib.hid (HB4.out.trans (hb5.mono HB4.out.size))
  have HWK := Lib.hid hwk
  have HSP : Hid (∀ V, Below w5.heap.size w5 V → (∀ j, V.cell? ⟨E, j, none⟩ = (#[.slice (some ⟨(A .st).b, (A .st).o, none⟩) c (A .st).c, .slice (some ⟨(A .va).b, (A .va).o, none⟩) c (A .va).c, .slice (some ⟨(A .wt).b, (A .wt).o, none⟩) c (A .wt).c, .slice (some ⟨(A .ho).b, (A .ho).o, none⟩) l (A .ho).c, .slice (some ⟨(A .di).b, (A .di).o, none⟩) l (A .di).c, .slice (some ⟨(A .bu).b, (A .bu).o, none⟩) l (A .bu).c, .slice p L.length cp] : Array Value)[j]?) ∧ (∀ j, V.cell? ⟨G, j, none⟩ = (#[.slice p3 (dropP L k).length c3] : Array Value)[j]?)) := Lib.hid (fun V hV => ⟨(HKE5.out.below hV).c, (HG5.out.below hV).c⟩)
  have hrm : roomP (dropP L k) = 64 - (((dropP L k).length : Nat) : Int) := by unfold roomP; rw [if_pos hrd]
  have HRM := Lib.hid hrm
  have HRO := Lib.hid hroom
  clear kB kM hwk hb5 hrm
  go_upto_region 7 with fail
  refine region_plan (fun V : World => (∀ j, V.cell? ⟨E, j, none⟩ = (#[.slice (some ⟨(A .st).b, (A .st).o, none⟩) c (A .st).c, .slice (some ⟨(A .va).b, (A .va).o, none⟩) c (A .va).c, .slice (some ⟨(A .wt).b, (A .wt).o, none⟩) c (A .wt).c, .slice (some ⟨(A .ho).b, (A .ho).o, none⟩) l (A .ho).c, .slice (some ⟨(A .di).b, (A .di).o, none⟩) l (A .di).c, .slice (some ⟨(A .bu).b, (A .bu).o, none⟩) l (A .bu).c, .slice p L.length cp] : Array Value)[j]?) ∧ (∀ j, V.cell? ⟨G, j, none⟩ = (#[.slice p3 (dropP L k).length c3] : Array Value)[j]?)) 6 [(0, true), (2, true), (3, true), (4, true), (5, true), (1, false)] (by kernel_rfl) (by kernel_rfl) (HSP.out _ ((Below.refl _ _).drew)) ?_
  iterate 5
    refine plan_read (v := ?_) rfl (by rfl) ?_ ?_
    rotate_left
    · intro w' hS
      try dsimp only at hS
      go_simp
      try with_reducible rfl
    try simp only [Act.put, List.setIfInBounds_toArray, List.set_cons_zero, List.set_cons_succ, List.getElem_toArray, List.getElem_cons_zero, List.getElem_cons_succ]
  refine plan_call (F := 32) (args := ?_) rfl (by rfl) ?_ ?_
  rotate_left
  · go_simp
    rfl
  refine (room_any p3 _ c3 xs3 (dropP L k) w5.drew rfl (HP5.out.below ((Below.refl _ _).drew))).mono ?_
  rintro e V6 ⟨rfl, hb6⟩
  rw [HRM.out]
  have HB6 := Lib.hid ((Below.refl _ _).drew.trans hb6 : Below w5.heap.size w5 V6)
  clear hb6
  refine ⟨_, rfl, HSP.out _ HB6.out, ?_⟩
  try simp only [Act.put, List.setIfInBounds_toArray, List.set_cons_zero, List.set_cons_succ, List.getElem_toArray, List.getElem_cons_zero, List.getElem_cons_succ]
  refine plan_nil ?_
  simp only [List.drop_succ_cons, List.drop_zero]
  obtain ⟨A9, p9, c9, xs9, h8⟩ := HWK.out.below HB6.out
  have h9 : Wk V6 w2.heap.size B c l F L (sndV B (tt : Nat) (ln : Nat)) A9 p9 c9 xs9 := ⟨h8.mem, h8.at_, h8.pl, h8.off, h8.low.sub (fun b (e : b < w2.heap.size) => by show b < w4.heap.size; exact Nat.lt_of_lt_of_le e HLE.out), fun t ht h0 => Nat.le_trans HLE.out (h8.base t ht h0)⟩
  have h10 := h9.pool (cp' := c3) (Below.refl _ _) (HP5.out.below HB6.out) (HP4.out.off (fun b ⟨t, ht, h0, e⟩ => by rw [← e]; exact h8.base t ht h0)) HO3.out.off
  have kP := h9.c6
  have fP := h9.boxf 6
  have kG := (HG5.out.below HB6.out).c
  have hbB := h8.hi.1
  have HBB := Lib.hid hbB
  have HM6 := Lib.hid (HM5.out.below HB6.out)
  have HKR6 := Lib.hid (HKR5.out.below HB6.out)
  have H10 := Lib.hid h10
  clear h8 h9 h10 hbB
  have hcnd : decide ((64 : Int) - (((dropP L k).length : Nat) : Int) < (c : Int) + 1) = false := decide_eq_false (by have := HRO.out; omega)
  go_upto_region 10 with fail
  obtain ⟨X7, hX7⟩ : ∃ X7, X7 = V6.setCell ⟨B, 6, none⟩ (.slice p3 (dropP L k).length c3) := ⟨_, rfl⟩
  rw [← hX7]
  have h7 : WkX X7 w2.heap.size B c l F (dropP L k) (sndV B (tt : Nat) (ln : Nat)) := by rw [hX7]; exact ⟨_, _, _, _, H10.out⟩
  have HM7 : Hid (Blk X7 M (mA ⟨kd, fr, tt, ln, fo, ac, ow, nu, va⟩)) := Lib.hid (by rw [hX7]; exact HM6.out.other (B' := B) (n := 6) _ (by have := HBB.out; have := HM4.out.lt; omega))
  have HKR7 : Hid (Blk X7 R #[.slice none 0 0, .slice none 0 0, .slice none 0 0, .slice none 0 0, .slice none 0 0, .slice none 0 0, .slice none 0 0]) := Lib.hid (by rw [hX7]; exact HKR6.out.other (B' := B) (n := 6) _ (by have := HBB.out; have := HKR4.out.lt; omega))
  have HBX : Hid (Below w.heap.size w X7) := Lib.hid (by rw [hX7]; exact (HB5.out.trans (HB6.out.mono HB5.out.size)).setCell (p := ⟨B, 6, none⟩) (Nat.le_trans HB4.out.size HBB.out) _)
  have H7 := Lib.hid h7
  clear kP fP kG hcnd H10 h7 hX7
  have kM := HM7.out.c
  go_wp2_with fail
  refine (comes_wk w2.heap.size B c l F (dropP L k) ⟨kd, fr, tt, ln, fo, ac, ow, nu, va⟩ X7 H7.out hg hml hm hhf hva).mono ?_
  rintro e w8 ⟨rfl, hwk8, hb8⟩
  have HK8 : Hid (Blk w8 R #[.slice none 0 0, .slice none 0 0, .slice none 0 0, .slice none 0 0, .slice none 0 0, .slice none 0 0, .slice none 0 0]) := Lib.hid (HKR7.out.belowN hb8 HKR2.out.lt)
  have HB8 : Hid (Below w.heap.size w w8) := Lib.hid (HBX.out.trans (hb8.mono HB2.out.size))
  have HRB := Lib.hid HKR2.out.lt
  rw [← HFX.out, ← HLX.out] at hwk8
  obtain ⟨A8, p8, c8, xs8, h8⟩ := hwk8
  have q0 := h8.c0
  have q1 := h8.c1
  have q2 := h8.c2
  have q3 := h8.c3
  have q4 := h8.c4
  have q5 := h8.c5
  have q6 := h8.c6
  have kR := HK8.out.c
  have fR := HK8.out.f
  have H8 := Lib.hid h8
  have hne8 : R ≠ B := by have := HRB.out; have := h8.hi.1; omega
  clear hb8 h8 kM
  go_upto_region 12 with fail
  go_wp2_with fail
  have hle : ∀ j, w.heap.size ≤ (⟨R, j, none⟩ : Addr).block := fun j => by show w.heap.size ≤ R; rw [HRR.out]; omega
  exact bodyPost_ret (v := .tuple #[.agg #[.slice (some ⟨(A8 .st).b, (A8 .st).o, none⟩) c (A8 .st).c, .slice (some ⟨(A8 .va).b, (A8 .va).o, none⟩) c (A8 .va).c, .slice (some ⟨(A8 .wt).b, (A8 .wt).o, none⟩) c (A8 .wt).c, .slice (some ⟨(A8 .ho).b, (A8 .ho).o, none⟩) l (A8 .ho).c, .slice (some ⟨(A8 .di).b, (A8 .di).o, none⟩) l (A8 .di).c, .slice (some ⟨(A8 .bu).b, (A8 .bu).o, none⟩) l (A8 .bu).c, .slice p8 LX.length c8], .int .i64 0]) (by simp [results, Tryz.results9, go_sem, *]) rfl ⟨_, rfl, wk_out H8.out HK8.out HRB.out rfl, Nw.wk H8.out HB2.out.size, ((((((HB8.out.setCell (hle 0) _).setCell (hle 1) _).setCell (hle 2) _).setCell (hle 3) _).setCell (hle 4) _).setCell (hle 5) _).setCell (hle 6) _⟩
end Go.Proofs.YtmeomdfmljanhaaGreat.Pg
/- What is under way, as messages: what is sent stands last, what is taken is what was sent; a system, its messages and its lines; no condition but that the numbers are small. -/
namespace Go.Proofs.YtmeomdfmljanhaaGreat.Pg
set_option linter.unusedVariables false
open Go.ChangeShapes Go.WideShapes Go.ChangeAt Go.RowKit

theorem byte_nat (n : Nat) (h : n ≤ 255) : byteB (n : Int) = true := decide_eq_true ⟨by omega, by omega⟩
theorem may_fm {c l : Nat} {f : Pr.Fm} (hc : c ≤ 4) (hl : l ≤ 16) (h : Pr.FB c l f) : mayM (fmM f) = true := by
  have h1 := h.k1
  have h2 := h.k11
  have h3 := h.frm
  have h4 := h.to
  have h5 := h.line
  have h6 := h.fr
  have h7 := h.acks
  unfold mayM fmM
  dsimp only
  rw [byte_nat f.frm (by omega), byte_nat f.to (by omega), byte_nat f.line (by omega), byte_nat f.fr (by omega), byte_nat f.acks h7, decide_eq_true (show (1 : Int) ≤ (f.kind : Int) ∧ (f.kind : Int) ≤ 11 from ⟨by omega, by omega⟩)]
  rfl
theorem fit_fm {c l : Nat} {f : Pr.Fm} (hc : c ≤ 4) (hl : l ≤ 16) (h : Pr.FB c l f) : Fit f.kind f.frm f.to f.line f.fr f.acks f.own f.num f.val :=
  ⟨may_fm hc hl h, by have := h.k11; omega, by have := h.frm; omega, by have := h.to; omega, by have := h.line; omega, by have := h.fr; omega, by have := h.acks; omega, by have := h.num; omega, h.val⟩
/-- A message's frame. -/
def fr (f : Pr.Fm) : List Nat := frameL f.kind f.frm f.to f.line f.fr f.acks f.own f.num f.val
theorem fr_len (f : Pr.Fm) : (fr f).length = 19 := rfl
theorem out_fm {c l : Nat} {f : Pr.Fm} (hc : c ≤ 4) (hl : l ≤ 16) (h : Pr.FB c l f) : outL (fmM f) = fr f := by
  unfold outL
  rw [if_pos (may_fm hc hl h)]
  rfl
theorem right_fr (ms : List Pr.Fm) (h : ms.length ≤ 64) : rightP (ms.map fr) = true := by
  unfold rightP
  rw [List.length_map, decide_eq_true h, Bool.true_and, List.all_eq_true]
  intro x hx
  obtain ⟨f, _, rfl⟩ := List.mem_map.1 hx
  exact decide_eq_true (fr_len f)
theorem send_fm {c l : Nat} {f : Pr.Fm} {ms : List Pr.Fm} (hc : c ≤ 4) (hl : l ≤ 16) (h : Pr.FB c l f) (hlen : ms.length < 64) : sendP (ms.map fr) (fmM f) = (ms ++ [f]).map fr := by
  unfold sendP addP
  rw [right_fr ms (by omega), may_fm hc hl h, Bool.and_self, if_pos rfl, if_neg (by rw [List.length_map]; omega), out_fm hc hl h, List.map_append]
  rfl
theorem puts_fm {c l : Nat} (hc : c ≤ 4) (hl : l ≤ 16) (out : List Pr.Fm) : ∀ ms : List Pr.Fm, Pr.AllB c l out → ms.length + out.length ≤ 64 → puts (ms.map fr) out = (ms ++ out).map fr := by
  induction out with
  | nil => intro ms _ _; rw [puts_nil, List.append_nil]
  | cons f out ih =>
    intro ms h hlen
    rw [List.length_cons] at hlen
    show puts (sendP (ms.map fr) (fmM f)) out = _
    rw [send_fm hc hl (h f (List.mem_cons_self ..)).1 (by omega), ih (ms ++ [f]) (fun g hg => h g (List.mem_cons_of_mem _ hg)) (by rw [List.length_append, List.length_singleton]; omega), List.append_assoc]
    rfl
theorem check_fr {ms : List Pr.Fm} {k : Nat} (h : ms.length ≤ 64) (hk : k < ms.length) : checkP (ms.map fr) (k : Int) = 0 := by
  unfold checkP
  rw [right_fr ms h, if_pos rfl, if_neg (by rw [List.length_map]; omega)]
theorem take_fr {c l : Nat} {a b : List Pr.Fm} {f : Pr.Fm} (hc : c ≤ 4) (hl : l ≤ 16) (hf : Pr.FB c l f) (h : (a ++ f :: b).length ≤ 64) :
    takeE ((a ++ f :: b).map fr) (a.length : Int) = 0 ∧ takeM ((a ++ f :: b).map fr) (a.length : Int) = fmM f ∧ dropP ((a ++ f :: b).map fr) (a.length : Int) = (a ++ b).map fr := by
  have hk : a.length < (a ++ f :: b).length := by rw [List.length_append, List.length_cons]; omega
  have hch := check_fr h hk
  have hat : atP ((a ++ f :: b).map fr) (a.length : Int) = fr f := by
    unfold atP
    rw [Int.toNat_natCast, List.getD_eq_getElem?_getD, List.getElem?_map, List.getElem?_append_right (Nat.le_refl _), Nat.sub_self]
    rfl
  refine ⟨?_, ?_, ?_⟩
  · unfold takeE
    rw [if_pos hch, hat]
    exact frame_readE (fit_fm hc hl hf)
  · unfold takeM
    rw [if_pos hch, hat]
    exact frame_readM (fit_fm hc hl hf)
  · unfold dropP
    rw [if_pos hch, Int.toNat_natCast, List.map_append, List.map_append, List.map_cons, List.eraseIdx_append_of_length_le (by rw [List.length_map]; exact Nat.le_refl _), List.length_map, Nat.sub_self]
    rfl
/-- A system, as a value reads, as its messages and its lines say. -/
structure Sys (w : World) (v : Value) (c l : Nat) (Z : Pr.Zz) : Prop where
  sv : Sv w v c l Z.F (Z.ms.map fr)
  ok : Z.ok c l
theorem Sys.below {w w' : World} {v : Value} {c l : Nat} {Z : Pr.Zz} (h : Sys w v c l Z) (hb : Below w.heap.size w w') : Sys w' v c l Z := ⟨h.sv.below hb, h.ok⟩
theorem ok_few {c l : Nat} {Z : Pr.Zz} (h : Z.ok c l) : Z.ms.length ≤ 20 := by
  rw [Pr.areAll_length h.is_.are]
  exact Pr.msgs_le h.is_.ok h.c4 h.l4 h.is_.small
theorem ok_ap {c l : Nat} {Z : Pr.Zz} (h : Z.ok c l) (k : Nat) (hk : k < l) (n : Nat) (hn : Z.F.sh k n = true) : Z.F.own k ≠ n + 1 := by
  have h1 := h.is_.sim.line k hk
  rw [h1.own]
  rw [h1.sh] at hn
  exact ((h.is_.ok.ok k hk).apart n hn).1
theorem ok_ob {c l : Nat} {Z : Pr.Zz} (h : Z.ok c l) (k : Nat) (hk : k < l) : Z.F.own k = 0 ∨ Z.F.sh k (Z.F.own k - 1) = false := by
  by_cases h0 : Z.F.own k = 0
  · exact .inl h0
  · right
    cases hs : Z.F.sh k (Z.F.own k - 1) with
    | false => rfl
    | true => exact absurd (by omega) (ok_ap h k hk _ hs)
theorem ok_rg {c l : Nat} {Z : Pr.Zz} (h : Z.ok c l) : Rg c l Z.F :=
  ⟨fun n _ k _ => h.bd.st n k, fun n _ k _ => h.bd.va n k, fun n _ => h.bd.line n, fun n _ => h.bd.need n, fun n _ => h.bd.got n, fun k _ => h.bd.home k, fun k _ => h.bd.own k, fun k hk => ok_ob h k hk, fun k _ => h.bd.busy k⟩
theorem ok_right {c l : Nat} {Z : Pr.Zz} (h : Z.ok c l) : rightP (Z.ms.map fr) = true := right_fr Z.ms (by have := ok_few h; omega)
theorem has_is (F : Pr.Fs) (n k : Nat) (wr : Bool) : hasB F n k wr = Pr.hasZ F n k wr := rfl
/-- A system as an answer, and an error. -/
def OutZ (w w' : World) (e : Ending) (c l : Nat) (Z : Pr.Zz) (X : Int) : Prop := ∃ v, e = .returned (.tuple #[v, .int .i64 X]) ∧ Sys w' v c l Z ∧ Nw w.heap.size v ∧ Below w.heap.size w w'
theorem OutZ.of {w w' : World} {e : Ending} {c l : Nat} {Z : Pr.Zz} {F : Pr.Fs} {L : List (List Nat)} {X : Int} (h : OutS w w' e c l F L X) (hF : F = Z.F) (hL : L = Z.ms.map fr) (hz : Z.ok c l) : OutZ w w' e c l Z X := by
  subst hF hL
  obtain ⟨v, e1, h1, h2⟩ := h
  exact ⟨v, e1, ⟨h1, hz⟩, h2⟩
/-- What is asked, as a message. -/
theorem ask_fm (F : Pr.Fs) (n k : Nat) (wr : Bool) : fmM ((F.wait n ((Pr.Rq.get wr).wt k)).asked n) = ⟨askK wr, ((n + 1 : Nat) : Int), 0, k, ((n + 1 : Nat) : Int), 0, false, 0, 0⟩ := by
  have h : (F.wait n ((Pr.Rq.get wr).wt k)).wt n = (Pr.Rq.get wr).wt k := Pr.upd_same _ _ _
  unfold Pr.Fs.asked
  rw [h]
  cases wr <;> rfl
theorem put_fm (F : Pr.Fs) (n k : Nat) : fmM ((F.wait n ((Pr.Rq.put 0).wt k)).asked n) = ⟨8, ((n + 1 : Nat) : Int), 0, k, 0, 0, false, 0, F.va n k⟩ := by
  have h : (F.wait n ((Pr.Rq.put 0).wt k)).wt n = (Pr.Rq.put 0).wt k := Pr.upd_same _ _ _
  unfold Pr.Fs.asked
  rw [h]
  rfl
end Go.Proofs.YtmeomdfmljanhaaGreat.Pg
/- Whether a core has a line, and its word; no condition but that the system is as its lines say. -/
namespace Go.Proofs.YtmeomdfmljanhaaGreat.Pg
set_option linter.unusedVariables false
open Go.ChangeShapes Go.WideShapes Go.ChangeAt Go.RowKit

theorem Mem.v0 {w : World} {bs c l : Nat} {A : Tg → Pa} {F : Pr.Fs} {pv f : Value} (h : Mem w bs c l A F pv f) {n : Nat} (hn : n < c) (k : Nat) (hk : k < l) : w.cell? ⟨(A (.vr n)).b, (A (.vr n)).o + k, none⟩ = some (.int .u32 (F.va n k : Nat)) := h.cell (.vr n) k (by show k < if n < c then l else 0; rw [if_pos hn]; exact hk)
set_option maxHeartbeats 4000000 in
set_option maxRecDepth 100000 in
theorem has_ok (v : Value) (c l : Nat) (Z : Pr.Zz) (n k : Nat) (wr : Bool) (w : World) (h : Sys w v c l Z) (hn : n < c) (hk : k < l) :
    Calls Tryz.prog 20 #[v, .int .i64 n, .int .i64 k, .bool wr] w fun e w' => e = .returned (.bool (hasB Z.F n k wr)) ∧ Below w.heap.size w w' := by
  have hg := ok_rg h.ok
  have hri := ok_right h.ok
  have hfew := ok_few h.ok
  have HOK := Lib.hid h.ok
  have h0 := h.sv
  obtain ⟨L, hL⟩ : ∃ L, L = Z.ms.map fr := ⟨_, rfl⟩
  rw [← hL] at h0 hri
  have HLL := Lib.hid hL
  have HSV := Lib.hid (fun W hW => h0.below (w' := W) hW)
  obtain ⟨A, p, cp, xs, rfl, hmm, hp⟩ := h0
  clear hL
  have hc4 := hmm.c4
  have hl16 := hmm.l16
  have HMM := Lib.hid (fun W hW => hmm.below (w' := W) hW)
  have HPP := Lib.hid (fun W hW => hp.below (w' := W) hW)
  have HRG := Lib.hid hg
  have HRI := Lib.hid hri
  obtain ⟨w1, hw1⟩ : ∃ w1, w1 = w.alloc (.cells #[.slice (some ⟨(A .st).b, (A .st).o, none⟩) c (A .st).c, .slice (some ⟨(A .va).b, (A .va).o, none⟩) c (A .va).c, .slice (some ⟨(A .wt).b, (A .wt).o, none⟩) c (A .wt).c, .slice (some ⟨(A .ho).b, (A .ho).o, none⟩) l (A .ho).c, .slice (some ⟨(A .di).b, (A .di).o, none⟩) l (A .di).c, .slice (some ⟨(A .bu).b, (A .bu).o, none⟩) l (A .bu).c, .slice p L.length cp] 32) := ⟨_, rfl⟩
  have hb1 : Below w.heap.size w w1 := by rw [hw1]; exact (Below.refl _ _).alloc (Nat.le_refl _) _
  have HK1 : Hid (Blk w1 w.heap.size #[.slice (some ⟨(A .st).b, (A .st).o, none⟩) c (A .st).c, .slice (some ⟨(A .va).b, (A .va).o, none⟩) c (A .va).c, .slice (some ⟨(A .wt).b, (A .wt).o, none⟩) c (A .wt).c, .slice (some ⟨(A .ho).b, (A .ho).o, none⟩) l (A .ho).c, .slice (some ⟨(A .di).b, (A .di).o, none⟩) l (A .di).c, .slice (some ⟨(A .bu).b, (A .bu).o, none⟩) l (A .bu).c, .slice p L.length cp]) := Lib.hid (by rw [hw1]; exact Blk.new _ _ _)
  have HB1 := Lib.hid hb1
  have HW1 := Lib.hid hw1
  clear h hg hri hmm hp hw1 hb1
  obtain ⟨b, hb⟩ : ∃ b, b = hasB Z.F n k wr := ⟨_, rfl⟩
  have HH : Hid (∀ W, Below w.heap.size w W → Calls Tryz.prog 42 #[.agg #[.slice (some ⟨(A .st).b, (A .st).o, none⟩) c (A .st).c, .slice (some ⟨(A .va).b, (A .va).o, none⟩) c (A .va).c, .slice (some ⟨(A .wt).b, (A .wt).o, none⟩) c (A .wt).c, .slice (some ⟨(A .ho).b, (A .ho).o, none⟩) l (A .ho).c, .slice (some ⟨(A .di).b, (A .di).o, none⟩) l (A .di).c, .slice (some ⟨(A .bu).b, (A .bu).o, none⟩) l (A .bu).c, .slice p L.length cp], .int .i64 n, .int .i64 k, .bool wr] W fun e w' => e = .returned (.bool b) ∧ Below W.heap.size W w') := Lib.hid (fun W hW => by rw [hb]; exact has_mem (HMM.out W hW) n k wr hn hk p _ cp)
  rw [← hb]
  clear hb
  go_enter Tryz.func20, Tryz.ntmps20
  go_upto_region 1 with fail
  simp only [Pa.sl]
  rw [← HW1.out]
  have kB := HK1.out.c
  go_wp2_with fail
  refine (there_t (HMM.out _ HB1.out) HRG.out p cp xs _ (HPP.out _ HB1.out) HRI.out n k hn hk).mono ?_
  rintro e w2 ⟨rfl, hb2⟩
  have HK2 := Lib.hid (HK1.out.below hb2)
  have HB2 : Hid (Below w.heap.size w w2) := Lib.hid (HB1.out.trans (hb2.mono HB1.out.size))
  clear hb2 kB HW1
  have kB := HK2.out.c
  go_wp2_with fail
  refine (HH.out _ HB2.out).mono ?_
  rintro e w3 ⟨rfl, hb3⟩
  have HB3 : Hid (Below w.heap.size w w3) := Lib.hid (HB2.out.trans (hb3.mono HB2.out.size))
  clear hb3 kB
  go_wp2_with fail
  go_ret
  exact ⟨rfl, HB3.out⟩
set_option maxHeartbeats 4000000 in
set_option maxRecDepth 100000 in
theorem get_ok (v : Value) (c l : Nat) (Z : Pr.Zz) (n k : Nat) (w : World) (h : Sys w v c l Z) (hn : n < c) (hk : k < l) :
    Calls Tryz.prog 18 #[v, .int .i64 n, .int .i64 k] w fun e w' => e = .returned (.tuple #[.int .u32 ((if hasB Z.F n k false then Z.F.va n k else 0 : Nat) : Int), .int .i64 (if hasB Z.F n k false then 0 else 8)]) ∧ Below w.heap.size w w' := by
  have hg := ok_rg h.ok
  have hri := ok_right h.ok
  have hfew := ok_few h.ok
  have HOK := Lib.hid h.ok
  have h0 := h.sv
  obtain ⟨L, hL⟩ : ∃ L, L = Z.ms.map fr := ⟨_, rfl⟩
  rw [← hL] at h0 hri
  have HLL := Lib.hid hL
  have HSV := Lib.hid (fun W hW => h0.below (w' := W) hW)
  obtain ⟨A, p, cp, xs, rfl, hmm, hp⟩ := h0
  clear hL
  have hc4 := hmm.c4
  have hl16 := hmm.l16
  have HMM := Lib.hid (fun W hW => hmm.below (w' := W) hW)
  have HPP := Lib.hid (fun W hW => hp.below (w' := W) hW)
  have HRG := Lib.hid hg
  have HRI := Lib.hid hri
  obtain ⟨w1, hw1⟩ : ∃ w1, w1 = w.alloc (.cells #[.slice (some ⟨(A .st).b, (A .st).o, none⟩) c (A .st).c, .slice (some ⟨(A .va).b, (A .va).o, none⟩) c (A .va).c, .slice (some ⟨(A .wt).b, (A .wt).o, none⟩) c (A .wt).c, .slice (some ⟨(A .ho).b, (A .ho).o, none⟩) l (A .ho).c, .slice (some ⟨(A .di).b, (A .di).o, none⟩) l (A .di).c, .slice (some ⟨(A .bu).b, (A .bu).o, none⟩) l (A .bu).c, .slice p L.length cp] 32) := ⟨_, rfl⟩
  have hb1 : Below w.heap.size w w1 := by rw [hw1]; exact (Below.refl _ _).alloc (Nat.le_refl _) _
  have HK1 : Hid (Blk w1 w.heap.size #[.slice (some ⟨(A .st).b, (A .st).o, none⟩) c (A .st).c, .slice (some ⟨(A .va).b, (A .va).o, none⟩) c (A .va).c, .slice (some ⟨(A .wt).b, (A .wt).o, none⟩) c (A .wt).c, .slice (some ⟨(A .ho).b, (A .ho).o, none⟩) l (A .ho).c, .slice (some ⟨(A .di).b, (A .di).o, none⟩) l (A .di).c, .slice (some ⟨(A .bu).b, (A .bu).o, none⟩) l (A .bu).c, .slice p L.length cp]) := Lib.hid (by rw [hw1]; exact Blk.new _ _ _)
  have HB1 := Lib.hid hb1
  have HW1 := Lib.hid hw1
  clear h hg hri hmm hp hw1 hb1
  obtain ⟨b, hb⟩ : ∃ b, b = hasB Z.F n k false := ⟨_, rfl⟩
  have HH : Hid (∀ W, Below w.heap.size w W → Calls Tryz.prog 42 #[.agg #[.slice (some ⟨(A .st).b, (A .st).o, none⟩) c (A .st).c, .slice (some ⟨(A .va).b, (A .va).o, none⟩) c (A .va).c, .slice (some ⟨(A .wt).b, (A .wt).o, none⟩) c (A .wt).c, .slice (some ⟨(A .ho).b, (A .ho).o, none⟩) l (A .ho).c, .slice (some ⟨(A .di).b, (A .di).o, none⟩) l (A .di).c, .slice (some ⟨(A .bu).b, (A .bu).o, none⟩) l (A .bu).c, .slice p L.length cp], .int .i64 n, .int .i64 k, .bool false] W fun e w' => e = .returned (.bool b) ∧ Below W.heap.size W w') := Lib.hid (fun W hW => by rw [hb]; exact has_mem (HMM.out W hW) n k false hn hk p _ cp)
  rw [← hb]
  clear hb
  go_enter Tryz.func18, Tryz.ntmps18
  go_upto_region 1 with fail
  simp only [Pa.sl]
  rw [← HW1.out]
  have kB := HK1.out.c
  go_wp2_with fail
  refine (there_t (HMM.out _ HB1.out) HRG.out p cp xs _ (HPP.out _ HB1.out) HRI.out n k hn hk).mono ?_
  rintro e w2 ⟨rfl, hb2⟩
  have HK2 := Lib.hid (HK1.out.below hb2)
  have HB2 : Hid (Below w.heap.size w w2) := Lib.hid (HB1.out.trans (hb2.mono HB1.out.size))
  clear hb2 kB HW1
  have kB := HK2.out.c
  go_wp2_with fail
  refine (HH.out _ HB2.out).mono ?_
  rintro e w3 ⟨rfl, hb3⟩
  have HK3 := Lib.hid (HK2.out.below hb3)
  have HB3 : Hid (Below w.heap.size w w3) := Lib.hid (HB2.out.trans (hb3.mono HB2.out.size))
  clear hb3 kB
  cases b with
  | false =>
    go_wp2_with fail
    exact bodyPost_ret (v := .tuple #[.int .u32 0, .int .i64 8]) (by simp [results, Tryz.results18, go_sem, *]) rfl ⟨rfl, HB3.out⟩
  | true =>
    have hM := HMM.out _ HB3.out
    have kB := HK3.out.c
    have kr := hM.va0 n hn
    have kv := hM.v0 hn k hk
    have hnI : (n : Int) < (c : Int) := by omega
    have hkI : (k : Int) < (l : Int) := by omega
    clear hM
    go_wp2_with fail
    exact bodyPost_ret (v := .tuple #[.int .u32 (Z.F.va n k : Nat), .int .i64 0]) (by simp [results, Tryz.results18, go_sem, *]) rfl ⟨rfl, HB3.out⟩
end Go.Proofs.YtmeomdfmljanhaaGreat.Pg
/- Want; no condition but that the system is as its lines say. -/
namespace Go.Proofs.YtmeomdfmljanhaaGreat.Pg
set_option linter.unusedVariables false
open Go.ChangeShapes Go.WideShapes Go.ChangeAt Go.RowKit

theorem wrapB {a b : Int} (e : a = b) (h : -1000000000000000 ≤ b ∧ b ≤ 1000000000000000) : wrap64 a = b := by subst e; unfold wrap64; omega
theorem nine_other {w : World} {B R : Nat} {cs : Array Value} (h : Blk w R cs) (hne : B ≠ R) (a0 a1 a2 a3 a4 a5 a6 a7 a8 : Nat) (v0 v1 v2 v3 v4 v5 v6 v7 v8 : Value) : Blk (((((((((w.setCell ⟨B, a0, none⟩ v0).setCell ⟨B, a1, none⟩ v1).setCell ⟨B, a2, none⟩ v2).setCell ⟨B, a3, none⟩ v3).setCell ⟨B, a4, none⟩ v4).setCell ⟨B, a5, none⟩ v5).setCell ⟨B, a6, none⟩ v6).setCell ⟨B, a7, none⟩ v7).setCell ⟨B, a8, none⟩ v8) R cs :=
  ((((((((h.other v0 hne).other v1 hne).other v2 hne).other v3 hne).other v4 hne).other v5 hne).other v6 hne).other v7 hne).other v8 hne
theorem nine_below {s B : Nat} {w0 w : World} (h : Below s w0 w) (hB : s ≤ B) (a0 a1 a2 a3 a4 a5 a6 a7 a8 : Nat) (v0 v1 v2 v3 v4 v5 v6 v7 v8 : Value) : Below s w0 (((((((((w.setCell ⟨B, a0, none⟩ v0).setCell ⟨B, a1, none⟩ v1).setCell ⟨B, a2, none⟩ v2).setCell ⟨B, a3, none⟩ v3).setCell ⟨B, a4, none⟩ v4).setCell ⟨B, a5, none⟩ v5).setCell ⟨B, a6, none⟩ v6).setCell ⟨B, a7, none⟩ v7).setCell ⟨B, a8, none⟩ v8) :=
  ((((((((h.setCell (p := ⟨B, a0, none⟩) hB v0).setCell (p := ⟨B, a1, none⟩) hB v1).setCell (p := ⟨B, a2, none⟩) hB v2).setCell (p := ⟨B, a3, none⟩) hB v3).setCell (p := ⟨B, a4, none⟩) hB v4).setCell (p := ⟨B, a5, none⟩) hB v5).setCell (p := ⟨B, a6, none⟩) hB v6).setCell (p := ⟨B, a7, none⟩) hB v7).setCell (p := ⟨B, a8, none⟩) hB v8
set_option maxHeartbeats 4000000 in
set_option maxRecDepth 100000 in
theorem want_ok (v : Value) (c l : Nat) (Z : Pr.Zz) (n k : Nat) (wr : Bool) (w : World) (h : Sys w v c l Z) (hn : n < c) (hk : k < l) :
    Calls Tryz.prog 12 #[v, .int .i64 n, .int .i64 k, .bool wr] w fun e w' => OutZ w w' e c l (Pr.wantZ Z n k wr) (Pr.wantX Z n k wr) := by
  have hg := ok_rg h.ok
  have hri := ok_right h.ok
  have hfew := ok_few h.ok
  have HOK := Lib.hid h.ok
  have h0 := h.sv
  obtain ⟨L, hL⟩ : ∃ L, L = Z.ms.map fr := ⟨_, rfl⟩
  rw [← hL] at h0 hri
  have HLL := Lib.hid hL
  have HSV := Lib.hid (fun W hW => h0.below (w' := W) hW)
  obtain ⟨A, p, cp, xs, rfl, hmm, hp⟩ := h0
  clear hL
  have hc4 := hmm.c4
  have hl16 := hmm.l16
  have HMM := Lib.hid (fun W hW => hmm.below (w' := W) hW)
  have HPP := Lib.hid (fun W hW => hp.below (w' := W) hW)
  have HRG := Lib.hid hg
  have HRI := Lib.hid hri
  obtain ⟨E, hE⟩ : ∃ E, E = w.heap.size := ⟨_, rfl⟩
  obtain ⟨R, hR⟩ : ∃ R, R = w.heap.size + 1 := ⟨_, rfl⟩
  obtain ⟨w1, hw1⟩ : ∃ w1, w1 = (w.alloc (.cells #[.slice (some ⟨(A .st).b, (A .st).o, none⟩) c (A .st).c, .slice (some ⟨(A .va).b, (A .va).o, none⟩) c (A .va).c, .slice (some ⟨(A .wt).b, (A .wt).o, none⟩) c (A .wt).c, .slice (some ⟨(A .ho).b, (A .ho).o, none⟩) l (A .ho).c, .slice (some ⟨(A .di).b, (A .di).o, none⟩) l (A .di).c, .slice (some ⟨(A .bu).b, (A .bu).o, none⟩) l (A .bu).c, .slice p L.length cp] 32)).alloc (.cells #[.slice none 0 0, .slice none 0 0, .slice none 0 0, .slice none 0 0, .slice none 0 0, .slice none 0 0, .slice none 0 0] 32) := ⟨_, rfl⟩
  have hb1 : Below w.heap.size w w1 := by rw [hw1]; exact ((Below.refl _ _).alloc (Nat.le_refl _) _).alloc (by simp) _
  have HKE : Hid (Blk w1 E #[.slice (some ⟨(A .st).b, (A .st).o, none⟩) c (A .st).c, .slice (some ⟨(A .va).b, (A .va).o, none⟩) c (A .va).c, .slice (some ⟨(A .wt).b, (A .wt).o, none⟩) c (A .wt).c, .slice (some ⟨(A .ho).b, (A .ho).o, none⟩) l (A .ho).c, .slice (some ⟨(A .di).b, (A .di).o, none⟩) l (A .di).c, .slice (some ⟨(A .bu).b, (A .bu).o, none⟩) l (A .bu).c, .slice p L.length cp]) := Lib.hid (by rw [hw1, hE]; exact (Blk.new _ _ _).alloc _)
  have HKR : Hid (Blk w1 R #[.slice none 0 0, .slice none 0 0, .slice none 0 0, .slice none 0 0, .slice none 0 0, .slice none 0 0, .slice none 0 0]) := Lib.hid (by rw [hw1, hR]; have := Blk.new (w.alloc (.cells #[.slice (some ⟨(A .st).b, (A .st).o, none⟩) c (A .st).c, .slice (some ⟨(A .va).b, (A .va).o, none⟩) c (A .va).c, .slice (some ⟨(A .wt).b, (A .wt).o, none⟩) c (A .wt).c, .slice (some ⟨(A .ho).b, (A .ho).o, none⟩) l (A .ho).c, .slice (some ⟨(A .di).b, (A .di).o, none⟩) l (A .di).c, .slice (some ⟨(A .bu).b, (A .bu).o, none⟩) l (A .bu).c, .slice p L.length cp] 32)) #[.slice none 0 0, .slice none 0 0, .slice none 0 0, .slice none 0 0, .slice none 0 0, .slice none 0 0, .slice none 0 0] 32; rw [World.size_alloc] at this; exact this)
  have HB1 := Lib.hid hb1
  have HSZ : Hid (w1.heap.size = w.heap.size + 2) := Lib.hid (by rw [hw1, World.size_alloc, World.size_alloc])
  have HW1 := Lib.hid hw1
  have HEE := Lib.hid hE
  have HRR := Lib.hid hR
  clear h hg hri hmm hp hw1 hb1 hE hR
  have HOKW : Hid ((Pr.wantZ Z n k wr).ok c l) := Lib.hid (HOK.out.want hn hk wr)
  have HYES : Hid (Pr.wantC Z.F n k wr = true → Pr.wantZ Z n k wr = Z ∧ Pr.wantX Z n k wr = 8) := Lib.hid (fun e => by unfold Pr.wantZ Pr.wantX; rw [e]; exact ⟨rfl, rfl⟩)
  have HNO : Hid (Pr.wantC Z.F n k wr = false → (Pr.wantZ Z n k wr).F = Z.F.wait n ((Pr.Rq.get wr).wt k) ∧ (Pr.wantZ Z n k wr).ms = Z.ms ++ [(Z.F.wait n ((Pr.Rq.get wr).wt k)).asked n] ∧ Pr.wantX Z n k wr = 0) := Lib.hid (fun e => by unfold Pr.wantZ Pr.wantX; rw [e]; exact ⟨rfl, rfl, rfl⟩)
  have HCC : Hid (Pr.wantC Z.F n k wr = (decide (0 < (Z.F.wt n).line) || hasB Z.F n k wr)) := Lib.hid rfl
  have HH : Hid (∀ W, Below w.heap.size w W → Calls Tryz.prog 42 #[.agg #[.slice (some ⟨(A .st).b, (A .st).o, none⟩) c (A .st).c, .slice (some ⟨(A .va).b, (A .va).o, none⟩) c (A .va).c, .slice (some ⟨(A .wt).b, (A .wt).o, none⟩) c (A .wt).c, .slice (some ⟨(A .ho).b, (A .ho).o, none⟩) l (A .ho).c, .slice (some ⟨(A .di).b, (A .di).o, none⟩) l (A .di).c, .slice (some ⟨(A .bu).b, (A .bu).o, none⟩) l (A .bu).c, .slice p L.length cp], .int .i64 n, .int .i64 k, .bool wr] W fun e w' => e = .returned (.bool (hasB Z.F n k wr)) ∧ Below W.heap.size W w') := Lib.hid (fun W hW => has_mem (HMM.out W hW) n k wr hn hk p _ cp)
  obtain ⟨LQ, hLQ⟩ : ∃ LQ, LQ = (Z.ms ++ [(Z.F.wait n ((Pr.Rq.get wr).wt k)).asked n]).map fr := ⟨_, rfl⟩
  have HLB : Hid (sendP L (fmM ((Z.F.wait n ((Pr.Rq.get wr).wt k)).asked n)) = LQ) := Lib.hid (by rw [HLL.out, hLQ]; exact send_fm (c := c) (l := l) hc4 hl16 (Pr.asked_fb (HOK.out.bd.wait n _ (Pr.wb_get l k hk wr)) hn HOK.out.l1).1 (by omega))
  have HLQ := Lib.hid hLQ
  clear hLQ
  obtain ⟨Q, hQ⟩ : ∃ Q, Q = Pr.wantZ Z n k wr := ⟨_, rfl⟩
  obtain ⟨X, hX⟩ : ∃ X, X = Pr.wantX Z n k wr := ⟨_, rfl⟩
  obtain ⟨cc, hcc⟩ : ∃ X, X = Pr.wantC Z.F n k wr := ⟨_, rfl⟩
  obtain ⟨hb, hhb⟩ : ∃ X, X = hasB Z.F n k wr := ⟨_, rfl⟩
  rw [← hQ] at HOKW HYES HNO ⊢
  rw [← hX] at HYES HNO ⊢
  rw [← hcc] at HYES HNO HCC
  rw [← hhb] at HCC HH
  clear hQ hX hcc hhb
  have hnI : (n : Int) < (c : Int) := by omega
  have hkI : (k : Int) < (l : Int) := by omega
  obtain ⟨fr, hfr⟩ : ∃ x : Nat, x = n + 1 := ⟨_, rfl⟩
  have HFR := Lib.hid hfr
  have hfn : fr < 6 := by omega
  have hn1 : wrap64 ((n : Int) + 1) = (fr : Int) := wrapB (by rw [hfr]; rfl) (by omega)
  clear hfr hfn
  go_enter Tryz.func12, Tryz.ntmps12
  go_upto_region 1 with fail
  simp only [Pa.sl]
  rw [← HRR.out, ← HEE.out, ← HW1.out]
  have kB := HKE.out.c
  go_wp2_with fail
  have hfe : (n : Int) + 1 = (fr : Int) := by rw [HFR.out]; rfl
  first | rw [hfe] | skip
  clear hfe
  refine (begun_any _ c l Z.F L (fr : Int) (k : Nat) w1 (HSV.out w1 HB1.out)).mono ?_
  rintro e w2 ⟨B, rfl, hwk, hb2⟩
  clear hn1
  have HKE2 := Lib.hid (HKE.out.below hb2)
  have HKR2 := Lib.hid (HKR.out.below hb2)
  have HB2 : Hid (Below w.heap.size w w2) := Lib.hid (HB1.out.trans (hb2.mono HB1.out.size))
  have HWK2 := Lib.hid hwk
  have HRB : Hid (R < w1.heap.size) := Lib.hid HKR.out.lt
  clear hb2 kB hwk HW1 HKE HKR
  have kB := HKE2.out.c
  go_wp2_with fail
  refine (there_t (HMM.out _ HB2.out) HRG.out p cp xs _ (HPP.out _ HB2.out) HRI.out n k hn hk).mono ?_
  rintro e w3 ⟨rfl, hb3⟩
  have HKE3 := Lib.hid (HKE2.out.below hb3)
  have HKR3 := Lib.hid (HKR2.out.below hb3)
  have HB3 : Hid (Below w.heap.size w w3) := Lib.hid (HB2.out.trans (hb3.mono HB2.out.size))
  have HWK3 := Lib.hid (HWK2.out.below hb3)
  clear hb3 kB HKE2 HKR2 HWK2
  have hw0 : w3.cell? ⟨(A .wt).b, (A .wt).o + n * 9, none⟩ = some (.int .i64 ((Z.F.wt n).line : Nat)) := (HMM.out _ HB3.out).wt_ hn 0 (by omega)
  obtain ⟨ln, hln⟩ : ∃ x, x = (Z.F.wt n).line := ⟨_, rfl⟩
  rw [← hln] at HCC hw0
  clear hln
  have kB := HKE3.out.c
  by_cases h0 : 0 < ln
  · have d0 : decide ((0 : Int) < (ln : Int)) = true := decide_eq_true (by omega)
    have d0n : decide (0 < ln) = true := decide_eq_true h0
    have hct : cc = true := by rw [HCC.out, d0n]; rfl
    obtain ⟨hQ, hX⟩ := HYES.out hct
    subst hQ hX
    have HK8 := HKR3
    have HB8 := HB3
    have hwk8 := HWK3.out
    clear h0 hct
    obtain ⟨A8, p8, c8, xs8, h8⟩ := hwk8
    have q0 := h8.c0
    have q1 := h8.c1
    have q2 := h8.c2
    have q3 := h8.c3
    have q4 := h8.c4
    have q5 := h8.c5
    have q6 := h8.c6
    have kR := HK8.out.c
    have fR := HK8.out.f
    have lR := HK8.out.lt
    have H8 := Lib.hid h8
    have hne8 : R ≠ B := by have := HRB.out; have := h8.hi.1; omega
    have hne9 : B ≠ R := fun e => hne8 e.symm
    clear h8 
    go_wp2_with fail
    have hle : ∀ j, w.heap.size ≤ (⟨R, j, none⟩ : Addr).block := fun j => by show w.heap.size ≤ R; rw [HRR.out]; omega
    exact bodyPost_ret (v := .tuple #[.agg #[.slice (some ⟨(A8 .st).b, (A8 .st).o, none⟩) c (A8 .st).c, .slice (some ⟨(A8 .va).b, (A8 .va).o, none⟩) c (A8 .va).c, .slice (some ⟨(A8 .wt).b, (A8 .wt).o, none⟩) c (A8 .wt).c, .slice (some ⟨(A8 .ho).b, (A8 .ho).o, none⟩) l (A8 .ho).c, .slice (some ⟨(A8 .di).b, (A8 .di).o, none⟩) l (A8 .di).c, .slice (some ⟨(A8 .bu).b, (A8 .bu).o, none⟩) l (A8 .bu).c, .slice p8 L.length c8], .int .i64 8]) (by simp [results, Tryz.results12, go_sem, *]) rfl (OutZ.of (F := Q.F) (L := L) ⟨_, rfl, wk_out H8.out HK8.out HRB.out rfl, Nw.wk H8.out HB1.out.size, ((((((HB8.out.setCell (hle 0) _).setCell (hle 1) _).setCell (hle 2) _).setCell (hle 3) _).setCell (hle 4) _).setCell (hle 5) _).setCell (hle 6) _⟩ rfl HLL.out HOKW.out)
  · have d0 : decide ((0 : Int) < (ln : Int)) = false := decide_eq_false (by omega)
    have d0n : decide (0 < ln) = false := decide_eq_false h0
    rw [d0n, Bool.false_or] at HCC
    clear h0
    go_wp2_with fail
    refine (HH.out w3 HB3.out).mono ?_
    rintro e w4 ⟨rfl, hb4⟩
    have HKE4 := Lib.hid (HKE3.out.below hb4)
    have HKR4 := Lib.hid (HKR3.out.below hb4)
    have HB4 : Hid (Below w.heap.size w w4) := Lib.hid (HB3.out.trans (hb4.mono HB3.out.size))
    have HWK4 := Lib.hid (HWK3.out.below hb4)
    clear hb4 kB hw0 HKE3 HKR3 HWK3 d0 d0n
    cases hb with
    | true =>
      obtain ⟨hQ, hX⟩ := HYES.out HCC.out
      subst hQ hX
      have HK8 := HKR4
      have HB8 := HB4
      have hwk8 := HWK4.out
      obtain ⟨A8, p8, c8, xs8, h8⟩ := hwk8
      have q0 := h8.c0
      have q1 := h8.c1
      have q2 := h8.c2
      have q3 := h8.c3
      have q4 := h8.c4
      have q5 := h8.c5
      have q6 := h8.c6
      have kR := HK8.out.c
      have fR := HK8.out.f
      have lR := HK8.out.lt
      have H8 := Lib.hid h8
      have hne8 : R ≠ B := by have := HRB.out; have := h8.hi.1; omega
      have hne9 : B ≠ R := fun e => hne8 e.symm
      clear h8 
      go_wp2_with fail
      have hle : ∀ j, w.heap.size ≤ (⟨R, j, none⟩ : Addr).block := fun j => by show w.heap.size ≤ R; rw [HRR.out]; omega
      exact bodyPost_ret (v := .tuple #[.agg #[.slice (some ⟨(A8 .st).b, (A8 .st).o, none⟩) c (A8 .st).c, .slice (some ⟨(A8 .va).b, (A8 .va).o, none⟩) c (A8 .va).c, .slice (some ⟨(A8 .wt).b, (A8 .wt).o, none⟩) c (A8 .wt).c, .slice (some ⟨(A8 .ho).b, (A8 .ho).o, none⟩) l (A8 .ho).c, .slice (some ⟨(A8 .di).b, (A8 .di).o, none⟩) l (A8 .di).c, .slice (some ⟨(A8 .bu).b, (A8 .bu).o, none⟩) l (A8 .bu).c, .slice p8 L.length c8], .int .i64 8]) (by simp [results, Tryz.results12, go_sem, *]) rfl (OutZ.of (F := Q.F) (L := L) ⟨_, rfl, wk_out H8.out HK8.out HRB.out rfl, Nw.wk H8.out HB1.out.size, ((((((HB8.out.setCell (hle 0) _).setCell (hle 1) _).setCell (hle 2) _).setCell (hle 3) _).setCell (hle 4) _).setCell (hle 5) _).setCell (hle 6) _⟩ rfl HLL.out HOKW.out)
    | false =>
      obtain ⟨hQF, hQM, hX⟩ := HNO.out HCC.out
      subst hX
      have HQF := Lib.hid hQF
      have HQM := Lib.hid hQM
      clear hQF hQM
      have hrm : roomP L = 64 - ((Z.ms.length : Nat) : Int) := by unfold roomP; rw [if_pos HRI.out, HLL.out, List.length_map]
      have HRM := Lib.hid hrm
      clear hrm
      have kB := HKE4.out.c
      go_upto_region 6 with fail
      go_wp2_with fail
      refine (room_any p _ cp xs L w4 rfl (HPP.out _ HB4.out)).mono ?_
      rintro e w5 ⟨rfl, hb5⟩
      rw [HRM.out]
      have hne0 : ((64 : Int) - ((Z.ms.length : Nat) : Int) == 0) = false := by simp; omega
      have HKR5 := Lib.hid (HKR4.out.below hb5)
      have HB5 : Hid (Below w.heap.size w w5) := Lib.hid (HB4.out.trans (hb5.mono HB4.out.size))
      obtain ⟨A9, p9, c9, xs9, h9⟩ := HWK4.out.below hb5
      have HX9 := Lib.hid (h9.setN hn ((Pr.Rq.get wr).wt k))
      have HBB : Hid (w1.heap.size ≤ B) := Lib.hid h9.hi.1
      have HZB : Hid (∀ t : Tg, t.wr = true → 0 < t.sz 8 c l → w1.heap.size ≤ (A9 t).b) := Lib.hid h9.base
      have k2 := h9.c2
      have kw0 := h9.w0 hn
      have kw1 := h9.w1 hn
      have kw2 := h9.w2 hn
      have kw3 := h9.w3 hn
      have kw4 := h9.w4 hn
      have kw5 := h9.w5 hn
      have kw6 := h9.w6 hn
      have kw7 := h9.w7 hn
      have kw8 := h9.w8 hn
      have fw := h9.fz .wt rfl (by show 0 < c * 9; omega)
      have HBW : Hid (w1.heap.size ≤ (A9 .wt).b) := Lib.hid (h9.base .wt rfl (by show 0 < c * 9; omega))
      obtain ⟨kq, hkq⟩ : ∃ x : Nat, x = k + 1 := ⟨_, rfl⟩
      have HKQ := Lib.hid hkq
      have hfn : kq < 20 := by omega
      have hk1 : wrap64 ((k : Int) + 1) = (kq : Int) := wrapB (by rw [hkq]; rfl) (by omega)
      clear hkq hfn
      clear hb5 kB h9 HKE4 HKR4 HWK4
      go_upto_region 9 with fail
      clear hk1
      have hke : (k : Int) + 1 = (kq : Int) := by rw [HKQ.out]; rfl
      first | rw [hke] | skip
      clear hke
      have e9 : ∀ x : Pr.Wt, x = (Pr.Rq.get wr).wt k → x.line = kq ∧ x.write = wr ∧ x.back = false ∧ x.came = false ∧ x.own = false ∧ x.keep = false ∧ x.need = 0 ∧ x.got = 0 ∧ x.val = 0 := fun x hx => by subst hx; exact ⟨HKQ.out.symm, rfl, rfl, rfl, rfl, rfl, rfl, rfl, rfl⟩
      obtain ⟨y0, y1, y2, y3, y4, y5, y6, y7, y8⟩ := e9 _ rfl
      rw [y0, y1, y2, y3, y4, y5, y6, y7, y8] at HX9
      clear e9 y0 y1 y2 y3 y4 y5 y6 y7 y8 kw0 kw1 kw2 kw3 kw4 kw5 kw6 kw7 kw8 fw k2
      have hz9 : ((0 : Nat) : Int) = 0 := rfl
      rw [hz9] at HX9
      obtain ⟨w6, hw6⟩ : ∃ z, z = (((((((((w5.setCell ⟨(A9 .wt).b, (A9 .wt).o + n * 9, none⟩ (.int .i64 (kq : Int))).setCell ⟨(A9 .wt).b, (A9 .wt).o + n * 9 + 1, none⟩ (.bool wr)).setCell ⟨(A9 .wt).b, (A9 .wt).o + n * 9 + 2, none⟩ (.bool false)).setCell ⟨(A9 .wt).b, (A9 .wt).o + n * 9 + 3, none⟩ (.bool false)).setCell ⟨(A9 .wt).b, (A9 .wt).o + n * 9 + 4, none⟩ (.bool false)).setCell ⟨(A9 .wt).b, (A9 .wt).o + n * 9 + 5, none⟩ (.bool false)).setCell ⟨(A9 .wt).b, (A9 .wt).o + n * 9 + 6, none⟩ (.int .i64 0)).setCell ⟨(A9 .wt).b, (A9 .wt).o + n * 9 + 7, none⟩ (.int .i64 0)).setCell ⟨(A9 .wt).b, (A9 .wt).o + n * 9 + 8, none⟩ (.int .u32 0)) := ⟨_, rfl⟩
      have HKR6 : Hid (Blk w6 R #[.slice none 0 0, .slice none 0 0, .slice none 0 0, .slice none 0 0, .slice none 0 0, .slice none 0 0, .slice none 0 0]) := Lib.hid (by rw [hw6]; exact nine_other HKR5.out (by have := HBW.out; have := HRB.out; omega) _ _ _ _ _ _ _ _ _ _ _ _ _ _ _ _ _ _)
      have HB6 : Hid (Below w.heap.size w w6) := Lib.hid (by rw [hw6]; exact nine_below HB5.out (by have := HBW.out; have := HSZ.out; omega) _ _ _ _ _ _ _ _ _ _ _ _ _ _ _ _ _ _)
      rw [← hw6] at HX9 ⊢
      clear hw6 hz9 HKR5 HB5
      go_wp2_with fail
      refine (asks_wk w1.heap.size B c l _ L (fr : Int) (k : Nat) n w6 ⟨A9, p9, c9, xs9, HX9.out⟩ hn).mono ?_
      rintro e w8 ⟨rfl, hwk8, hb8⟩
      have hse : sendP L ⟨askK ((Z.F.wait n ((Pr.Rq.get wr).wt k)).wt n).write, (fr : Int), 0, (k : Int), (n : Int) + 1, 0, false, 0, 0⟩ = LQ := by
        rw [← HLB.out, ask_fm, wait_at, HFR.out]
        rfl
      rw [hse, ← HQF.out] at hwk8
      have HK8 : Hid (Blk w8 R #[.slice none 0 0, .slice none 0 0, .slice none 0 0, .slice none 0 0, .slice none 0 0, .slice none 0 0, .slice none 0 0]) := Lib.hid (HKR6.out.belowN hb8 HRB.out)
      have HB8 : Hid (Below w.heap.size w w8) := Lib.hid (HB6.out.trans (hb8.mono (by have := HSZ.out; omega)))
      clear hse hb8 HX9 HKR6 HB6
      obtain ⟨A8, p8, c8, xs8, h8⟩ := hwk8
      have q0 := h8.c0
      have q1 := h8.c1
      have q2 := h8.c2
      have q3 := h8.c3
      have q4 := h8.c4
      have q5 := h8.c5
      have q6 := h8.c6
      have kR := HK8.out.c
      have fR := HK8.out.f
      have lR := HK8.out.lt
      have H8 := Lib.hid h8
      have hne8 : R ≠ B := by have := HRB.out; have := h8.hi.1; omega
      have hne9 : B ≠ R := fun e => hne8 e.symm
      clear h8 
      go_wp2_with fail
      have hle : ∀ j, w.heap.size ≤ (⟨R, j, none⟩ : Addr).block := fun j => by show w.heap.size ≤ R; rw [HRR.out]; omega
      exact bodyPost_ret (v := .tuple #[.agg #[.slice (some ⟨(A8 .st).b, (A8 .st).o, none⟩) c (A8 .st).c, .slice (some ⟨(A8 .va).b, (A8 .va).o, none⟩) c (A8 .va).c, .slice (some ⟨(A8 .wt).b, (A8 .wt).o, none⟩) c (A8 .wt).c, .slice (some ⟨(A8 .ho).b, (A8 .ho).o, none⟩) l (A8 .ho).c, .slice (some ⟨(A8 .di).b, (A8 .di).o, none⟩) l (A8 .di).c, .slice (some ⟨(A8 .bu).b, (A8 .bu).o, none⟩) l (A8 .bu).c, .slice p8 LQ.length c8], .int .i64 0]) (by simp [results, Tryz.results12, go_sem, *]) rfl (OutZ.of (F := Q.F) (L := LQ) ⟨_, rfl, wk_out H8.out HK8.out HRB.out rfl, Nw.wk H8.out HB1.out.size, ((((((HB8.out.setCell (hle 0) _).setCell (hle 1) _).setCell (hle 2) _).setCell (hle 3) _).setCell (hle 4) _).setCell (hle 5) _).setCell (hle 6) _⟩ rfl (by rw [HQM.out, HLQ.out]) HOKW.out)
end Go.Proofs.YtmeomdfmljanhaaGreat.Pg
/- Evict; no condition but that the system is as its lines say. -/
namespace Go.Proofs.YtmeomdfmljanhaaGreat.Pg
set_option linter.unusedVariables false
open Go.ChangeShapes Go.WideShapes Go.ChangeAt Go.RowKit

set_option maxHeartbeats 4000000 in
set_option maxRecDepth 100000 in
theorem evict_ok (v : Value) (c l : Nat) (Z : Pr.Zz) (n k : Nat) (w : World) (h : Sys w v c l Z) (hn : n < c) (hk : k < l) :
    Calls Tryz.prog 14 #[v, .int .i64 n, .int .i64 k] w fun e w' => OutZ w w' e c l (Pr.evictZ Z n k) (Pr.evictX Z n k) := by
  have hg := ok_rg h.ok
  have hri := ok_right h.ok
  have hfew := ok_few h.ok
  have HOK := Lib.hid h.ok
  have h0 := h.sv
  obtain ⟨L, hL⟩ : ∃ L, L = Z.ms.map fr := ⟨_, rfl⟩
  rw [← hL] at h0 hri
  have HLL := Lib.hid hL
  have HSV := Lib.hid (fun W hW => h0.below (w' := W) hW)
  obtain ⟨A, p, cp, xs, rfl, hmm, hp⟩ := h0
  clear hL
  have hc4 := hmm.c4
  have hl16 := hmm.l16
  have HMM := Lib.hid (fun W hW => hmm.below (w' := W) hW)
  have HPP := Lib.hid (fun W hW => hp.below (w' := W) hW)
  have HRG := Lib.hid hg
  have HRI := Lib.hid hri
  obtain ⟨E, hE⟩ : ∃ E, E = w.heap.size := ⟨_, rfl⟩
  obtain ⟨R, hR⟩ : ∃ R, R = w.heap.size + 1 := ⟨_, rfl⟩
  obtain ⟨w1, hw1⟩ : ∃ w1, w1 = (w.alloc (.cells #[.slice (some ⟨(A .st).b, (A .st).o, none⟩) c (A .st).c, .slice (some ⟨(A .va).b, (A .va).o, none⟩) c (A .va).c, .slice (some ⟨(A .wt).b, (A .wt).o, none⟩) c (A .wt).c, .slice (some ⟨(A .ho).b, (A .ho).o, none⟩) l (A .ho).c, .slice (some ⟨(A .di).b, (A .di).o, none⟩) l (A .di).c, .slice (some ⟨(A .bu).b, (A .bu).o, none⟩) l (A .bu).c, .slice p L.length cp] 32)).alloc (.cells #[.slice none 0 0, .slice none 0 0, .slice none 0 0, .slice none 0 0, .slice none 0 0, .slice none 0 0, .slice none 0 0] 32) := ⟨_, rfl⟩
  have hb1 : Below w.heap.size w w1 := by rw [hw1]; exact ((Below.refl _ _).alloc (Nat.le_refl _) _).alloc (by simp) _
  have HKE : Hid (Blk w1 E #[.slice (some ⟨(A .st).b, (A .st).o, none⟩) c (A .st).c, .slice (some ⟨(A .va).b, (A .va).o, none⟩) c (A .va).c, .slice (some ⟨(A .wt).b, (A .wt).o, none⟩) c (A .wt).c, .slice (some ⟨(A .ho).b, (A .ho).o, none⟩) l (A .ho).c, .slice (some ⟨(A .di).b, (A .di).o, none⟩) l (A .di).c, .slice (some ⟨(A .bu).b, (A .bu).o, none⟩) l (A .bu).c, .slice p L.length cp]) := Lib.hid (by rw [hw1, hE]; exact (Blk.new _ _ _).alloc _)
  have HKR : Hid (Blk w1 R #[.slice none 0 0, .slice none 0 0, .slice none 0 0, .slice none 0 0, .slice none 0 0, .slice none 0 0, .slice none 0 0]) := Lib.hid (by rw [hw1, hR]; have := Blk.new (w.alloc (.cells #[.slice (some ⟨(A .st).b, (A .st).o, none⟩) c (A .st).c, .slice (some ⟨(A .va).b, (A .va).o, none⟩) c (A .va).c, .slice (some ⟨(A .wt).b, (A .wt).o, none⟩) c (A .wt).c, .slice (some ⟨(A .ho).b, (A .ho).o, none⟩) l (A .ho).c, .slice (some ⟨(A .di).b, (A .di).o, none⟩) l (A .di).c, .slice (some ⟨(A .bu).b, (A .bu).o, none⟩) l (A .bu).c, .slice p L.length cp] 32)) #[.slice none 0 0, .slice none 0 0, .slice none 0 0, .slice none 0 0, .slice none 0 0, .slice none 0 0, .slice none 0 0] 32; rw [World.size_alloc] at this; exact this)
  have HB1 := Lib.hid hb1
  have HSZ : Hid (w1.heap.size = w.heap.size + 2) := Lib.hid (by rw [hw1, World.size_alloc, World.size_alloc])
  have HW1 := Lib.hid hw1
  have HEE := Lib.hid hE
  have HRR := Lib.hid hR
  clear h hg hri hmm hp hw1 hb1 hE hR
  have HOKW : Hid ((Pr.evictZ Z n k).ok c l) := Lib.hid (HOK.out.evict hn hk)
  have HYES : Hid (Pr.evictC Z.F n k = true → Pr.evictZ Z n k = Z ∧ Pr.evictX Z n k = 8) := Lib.hid (fun e => by unfold Pr.evictZ Pr.evictX; rw [e]; exact ⟨rfl, rfl⟩)
  have HNO : Hid (Pr.evictC Z.F n k = false → 1 < Z.F.st n k → (Pr.evictZ Z n k).F = Z.F.wait n ((Pr.Rq.put 0).wt k) ∧ (Pr.evictZ Z n k).ms = Z.ms ++ [(Z.F.wait n ((Pr.Rq.put 0).wt k)).asked n] ∧ Pr.evictX Z n k = 0) := Lib.hid (fun e h2 => by unfold Pr.evictZ Pr.evictX; rw [e]; simp only [if_pos h2]; exact ⟨rfl, rfl, rfl⟩)
  have HNS : Hid (Pr.evictC Z.F n k = false → ¬ 1 < Z.F.st n k → (Pr.evictZ Z n k).F = Z.F.state n k 0 ∧ (Pr.evictZ Z n k).ms = Z.ms ∧ Pr.evictX Z n k = 0) := Lib.hid (fun e h2 => by unfold Pr.evictZ Pr.evictX; rw [e]; simp only [if_neg h2]; exact ⟨rfl, rfl, rfl⟩)
  have HCC : Hid (Pr.evictC Z.F n k = (decide (0 < (Z.F.wt n).line) || decide (Z.F.st n k = 0))) := Lib.hid rfl
  have HVA : Hid ((Z.F.wait n ((Pr.Rq.put 0).wt k)).va n k < 4294967296) := Lib.hid (HOK.out.bd.va n k)
  obtain ⟨LQ, hLQ⟩ : ∃ LQ, LQ = (Z.ms ++ [(Z.F.wait n ((Pr.Rq.put 0).wt k)).asked n]).map fr := ⟨_, rfl⟩
  have HLB : Hid (sendP L (fmM ((Z.F.wait n ((Pr.Rq.put 0).wt k)).asked n)) = LQ) := Lib.hid (by rw [HLL.out, hLQ]; exact send_fm (c := c) (l := l) hc4 hl16 (Pr.asked_fb (HOK.out.bd.wait n _ (Pr.wb_put l k hk)) hn HOK.out.l1).1 (by omega))
  have HLQ := Lib.hid hLQ
  clear hLQ
  have HOW : Hid (∀ W, Below w.heap.size w W → Calls Tryz.prog 47 #[.agg #[.slice (some ⟨(A .st).b, (A .st).o, none⟩) c (A .st).c, .slice (some ⟨(A .va).b, (A .va).o, none⟩) c (A .va).c, .slice (some ⟨(A .wt).b, (A .wt).o, none⟩) c (A .wt).c, .slice (some ⟨(A .ho).b, (A .ho).o, none⟩) l (A .ho).c, .slice (some ⟨(A .di).b, (A .di).o, none⟩) l (A .di).c, .slice (some ⟨(A .bu).b, (A .bu).o, none⟩) l (A .bu).c, .slice p L.length cp], .int .i64 n, .int .i64 k] W fun e w' => e = .returned (.bool (decide (1 < Z.F.st n k))) ∧ Below W.heap.size W w') := Lib.hid (fun W hW => owns_mem (HMM.out W hW) n k hn hk p _ cp)
  obtain ⟨Q, hQ⟩ : ∃ Q, Q = Pr.evictZ Z n k := ⟨_, rfl⟩
  obtain ⟨X, hX⟩ : ∃ X, X = Pr.evictX Z n k := ⟨_, rfl⟩
  obtain ⟨cc, hcc⟩ : ∃ X, X = Pr.evictC Z.F n k := ⟨_, rfl⟩
  rw [← hQ] at HOKW HYES HNO HNS ⊢
  rw [← hX] at HYES HNO HNS ⊢
  rw [← hcc] at HYES HNO HNS HCC
  clear hQ hX hcc
  have hnI : (n : Int) < (c : Int) := by omega
  have hkI : (k : Int) < (l : Int) := by omega
  obtain ⟨fr, hfr⟩ : ∃ x : Nat, x = n + 1 := ⟨_, rfl⟩
  have HFR := Lib.hid hfr
  have hfn : fr < 6 := by omega
  have hn1 : wrap64 ((n : Int) + 1) = (fr : Int) := wrapB (by rw [hfr]; rfl) (by omega)
  clear hfr hfn
  go_enter Tryz.func14, Tryz.ntmps14
  go_upto_region 1 with fail
  simp only [Pa.sl]
  rw [← HRR.out, ← HEE.out, ← HW1.out]
  have kB := HKE.out.c
  go_wp2_with fail
  have hfe : (n : Int) + 1 = (fr : Int) := by rw [HFR.out]; rfl
  first | rw [hfe] | skip
  clear hfe
  refine (begun_any _ c l Z.F L (fr : Int) (k : Nat) w1 (HSV.out w1 HB1.out)).mono ?_
  rintro e w2 ⟨B, rfl, hwk, hb2⟩
  clear hn1
  have HKE2 := Lib.hid (HKE.out.below hb2)
  have HKR2 := Lib.hid (HKR.out.below hb2)
  have HB2 : Hid (Below w.heap.size w w2) := Lib.hid (HB1.out.trans (hb2.mono HB1.out.size))
  have HWK2 := Lib.hid hwk
  have HRB : Hid (R < w1.heap.size) := Lib.hid HKR.out.lt
  clear hb2 kB hwk HW1 HKE HKR
  have kB := HKE2.out.c
  go_wp2_with fail
  refine (there_t (HMM.out _ HB2.out) HRG.out p cp xs _ (HPP.out _ HB2.out) HRI.out n k hn hk).mono ?_
  rintro e w3 ⟨rfl, hb3⟩
  have HKE3 := Lib.hid (HKE2.out.below hb3)
  have HKR3 := Lib.hid (HKR2.out.below hb3)
  have HB3 : Hid (Below w.heap.size w w3) := Lib.hid (HB2.out.trans (hb3.mono HB2.out.size))
  have HWK3 := Lib.hid (HWK2.out.below hb3)
  clear hb3 kB HKE2 HKR2 HWK2
  have hw0 : w3.cell? ⟨(A .wt).b, (A .wt).o + n * 9, none⟩ = some (.int .i64 ((Z.F.wt n).line : Nat)) := (HMM.out _ HB3.out).wt_ hn 0 (by omega)
  have hr0 := (HMM.out _ HB3.out).st0 n hn
  have hs0 := (HMM.out _ HB3.out).s0 hn k hk
  obtain ⟨ln, hln⟩ : ∃ x, x = (Z.F.wt n).line := ⟨_, rfl⟩
  obtain ⟨st, hst⟩ : ∃ x, x = Z.F.st n k := ⟨_, rfl⟩
  rw [← hln] at HCC hw0
  rw [← hst] at HCC HNO HNS hs0 HOW
  clear hln hst
  have kB := HKE3.out.c
  by_cases h0 : 0 < ln ∨ st = 0
  · have hct : cc = true := by
      rw [HCC.out]
      rcases h0 with h0 | h0
      · rw [decide_eq_true h0]; rfl
      · rw [decide_eq_true h0, Bool.or_true]
    obtain ⟨hQ, hX⟩ := HYES.out hct
    subst hQ hX
    have HK8 := HKR3
    have HB8 := HB3
    have hwk8 := HWK3.out
    by_cases h1 : 0 < ln
    · have d0 : decide ((0 : Int) < (ln : Int)) = true := decide_eq_true (by omega)
      have d0n : decide (0 < ln) = true := decide_eq_true h1
      clear h0 h1 hct
      obtain ⟨A8, p8, c8, xs8, h8⟩ := hwk8
      have q0 := h8.c0
      have q1 := h8.c1
      have q2 := h8.c2
      have q3 := h8.c3
      have q4 := h8.c4
      have q5 := h8.c5
      have q6 := h8.c6
      have kR := HK8.out.c
      have fR := HK8.out.f
      have lR := HK8.out.lt
      have H8 := Lib.hid h8
      have hne8 : R ≠ B := by have := HRB.out; have := h8.hi.1; omega
      have hne9 : B ≠ R := fun e => hne8 e.symm
      clear h8 
      go_wp2_with fail
      have hle : ∀ j, w.heap.size ≤ (⟨R, j, none⟩ : Addr).block := fun j => by show w.heap.size ≤ R; rw [HRR.out]; omega
      exact bodyPost_ret (v := .tuple #[.agg #[.slice (some ⟨(A8 .st).b, (A8 .st).o, none⟩) c (A8 .st).c, .slice (some ⟨(A8 .va).b, (A8 .va).o, none⟩) c (A8 .va).c, .slice (some ⟨(A8 .wt).b, (A8 .wt).o, none⟩) c (A8 .wt).c, .slice (some ⟨(A8 .ho).b, (A8 .ho).o, none⟩) l (A8 .ho).c, .slice (some ⟨(A8 .di).b, (A8 .di).o, none⟩) l (A8 .di).c, .slice (some ⟨(A8 .bu).b, (A8 .bu).o, none⟩) l (A8 .bu).c, .slice p8 L.length c8], .int .i64 8]) (by simp [results, Tryz.results14, go_sem, *]) rfl (OutZ.of (F := Q.F) (L := L) ⟨_, rfl, wk_out H8.out HK8.out HRB.out rfl, Nw.wk H8.out HB1.out.size, ((((((HB8.out.setCell (hle 0) _).setCell (hle 1) _).setCell (hle 2) _).setCell (hle 3) _).setCell (hle 4) _).setCell (hle 5) _).setCell (hle 6) _⟩ rfl HLL.out HOKW.out)
    · have d0 : decide ((0 : Int) < (ln : Int)) = false := decide_eq_false (by omega)
      have d0n : decide (0 < ln) = false := decide_eq_false h1
      have d1 : ((st : Int) == 0) = true := by simp; omega
      have d1n : (st == 0) = true := by simp; omega
      clear h0 h1 hct
      obtain ⟨A8, p8, c8, xs8, h8⟩ := hwk8
      have q0 := h8.c0
      have q1 := h8.c1
      have q2 := h8.c2
      have q3 := h8.c3
      have q4 := h8.c4
      have q5 := h8.c5
      have q6 := h8.c6
      have kR := HK8.out.c
      have fR := HK8.out.f
      have lR := HK8.out.lt
      have H8 := Lib.hid h8
      have hne8 : R ≠ B := by have := HRB.out; have := h8.hi.1; omega
      have hne9 : B ≠ R := fun e => hne8 e.symm
      clear h8 
      go_wp2_with fail
      have hle : ∀ j, w.heap.size ≤ (⟨R, j, none⟩ : Addr).block := fun j => by show w.heap.size ≤ R; rw [HRR.out]; omega
      exact bodyPost_ret (v := .tuple #[.agg #[.slice (some ⟨(A8 .st).b, (A8 .st).o, none⟩) c (A8 .st).c, .slice (some ⟨(A8 .va).b, (A8 .va).o, none⟩) c (A8 .va).c, .slice (some ⟨(A8 .wt).b, (A8 .wt).o, none⟩) c (A8 .wt).c, .slice (some ⟨(A8 .ho).b, (A8 .ho).o, none⟩) l (A8 .ho).c, .slice (some ⟨(A8 .di).b, (A8 .di).o, none⟩) l (A8 .di).c, .slice (some ⟨(A8 .bu).b, (A8 .bu).o, none⟩) l (A8 .bu).c, .slice p8 L.length c8], .int .i64 8]) (by simp [results, Tryz.results14, go_sem, *]) rfl (OutZ.of (F := Q.F) (L := L) ⟨_, rfl, wk_out H8.out HK8.out HRB.out rfl, Nw.wk H8.out HB1.out.size, ((((((HB8.out.setCell (hle 0) _).setCell (hle 1) _).setCell (hle 2) _).setCell (hle 3) _).setCell (hle 4) _).setCell (hle 5) _).setCell (hle 6) _⟩ rfl HLL.out HOKW.out)
  · have hl0 : ¬ 0 < ln := fun h => h0 (.inl h)
    have hst0 : ¬ st = 0 := fun h => h0 (.inr h)
    have hct : cc = false := by rw [HCC.out, decide_eq_false hl0, decide_eq_false hst0]; rfl
    have d0 : decide ((0 : Int) < (ln : Int)) = false := decide_eq_false (by omega)
    have d0n : decide (0 < ln) = false := decide_eq_false hl0
    have d1 : ((st : Int) == 0) = false := by simp; omega
    have d1n : (st == 0) = false := by simp; omega
    have HCT := Lib.hid hct
    clear h0 hl0 hst0 hct
    have hrm : roomP L = 64 - ((Z.ms.length : Nat) : Int) := by unfold roomP; rw [if_pos HRI.out, HLL.out, List.length_map]
    have HRM := Lib.hid hrm
    clear hrm
    go_upto_region 6 with fail
    go_wp2_with fail
    refine (room_any p _ cp xs L w3 rfl (HPP.out _ HB3.out)).mono ?_
    rintro e w5 ⟨rfl, hb5⟩
    rw [HRM.out]
    have hne0 : ((64 : Int) - ((Z.ms.length : Nat) : Int) == 0) = false := by simp; omega
    have HKE5 := Lib.hid (HKE3.out.below hb5)
    have HKR5 := Lib.hid (HKR3.out.below hb5)
    have HB5 : Hid (Below w.heap.size w w5) := Lib.hid (HB3.out.trans (hb5.mono HB3.out.size))
    have HWK5 := Lib.hid (HWK3.out.below hb5)
    clear hb5 kB hw0 hr0 hs0 HKE3 HKR3 HWK3 d0 d0n d1 d1n
    have kB := HKE5.out.c
    go_upto_region 8 with fail
    go_wp2_with fail
    refine (HOW.out w5 HB5.out).mono ?_
    rintro e w6 ⟨rfl, hb6⟩
    have HKR6 := Lib.hid (HKR5.out.below hb6)
    have HB6 : Hid (Below w.heap.size w w6) := Lib.hid (HB5.out.trans (hb6.mono HB5.out.size))
    have HWK6 := Lib.hid (HWK5.out.below hb6)
    clear hb6 kB HKE5 HKR5 HWK5 hne0
    by_cases h2 : 1 < st
    · rw [decide_eq_true h2]
      obtain ⟨hQF, hQM, hX⟩ := HNO.out HCT.out h2
      subst hX
      have HQF := Lib.hid hQF
      have HQM := Lib.hid hQM
      clear hQF hQM h2
      obtain ⟨A9, p9, c9, xs9, h9⟩ := HWK6.out
      have HX9 := Lib.hid (h9.setN hn ((Pr.Rq.put 0).wt k))
      have k2 := h9.c2
      have kw0 := h9.w0 hn
      have kw1 := h9.w1 hn
      have kw2 := h9.w2 hn
      have kw3 := h9.w3 hn
      have kw4 := h9.w4 hn
      have kw5 := h9.w5 hn
      have kw6 := h9.w6 hn
      have kw7 := h9.w7 hn
      have kw8 := h9.w8 hn
      have fw := h9.fz .wt rfl (by show 0 < c * 9; omega)
      have HBW : Hid (w1.heap.size ≤ (A9 .wt).b) := Lib.hid (h9.base .wt rfl (by show 0 < c * 9; omega))
      obtain ⟨kq, hkq⟩ : ∃ x : Nat, x = k + 1 := ⟨_, rfl⟩
      have HKQ := Lib.hid hkq
      have hfn : kq < 20 := by omega
      have hk1 : wrap64 ((k : Int) + 1) = (kq : Int) := wrapB (by rw [hkq]; rfl) (by omega)
      clear hkq hfn
      clear h9 HWK6
      go_upto_region 12 with fail
      clear hk1
      have hke : (k : Int) + 1 = (kq : Int) := by rw [HKQ.out]; rfl
      first | rw [hke] | skip
      clear hke
      have e9 : ∀ x : Pr.Wt, x = (Pr.Rq.put 0).wt k → x.line = kq ∧ x.write = false ∧ x.back = true ∧ x.came = false ∧ x.own = false ∧ x.keep = false ∧ x.need = 0 ∧ x.got = 0 ∧ x.val = 0 := fun x hx => by subst hx; exact ⟨HKQ.out.symm, rfl, rfl, rfl, rfl, rfl, rfl, rfl, rfl⟩
      obtain ⟨y0, y1, y2, y3, y4, y5, y6, y7, y8⟩ := e9 _ rfl
      rw [y0, y1, y2, y3, y4, y5, y6, y7, y8] at HX9
      clear e9 y0 y1 y2 y3 y4 y5 y6 y7 y8 kw0 kw1 kw2 kw3 kw4 kw5 kw6 kw7 kw8 fw k2
      have hz9 : ((0 : Nat) : Int) = 0 := rfl
      rw [hz9] at HX9
      obtain ⟨w7, hw7⟩ : ∃ z, z = (((((((((w6.setCell ⟨(A9 .wt).b, (A9 .wt).o + n * 9, none⟩ (.int .i64 (kq : Int))).setCell ⟨(A9 .wt).b, (A9 .wt).o + n * 9 + 1, none⟩ (.bool false)).setCell ⟨(A9 .wt).b, (A9 .wt).o + n * 9 + 2, none⟩ (.bool true)).setCell ⟨(A9 .wt).b, (A9 .wt).o + n * 9 + 3, none⟩ (.bool false)).setCell ⟨(A9 .wt).b, (A9 .wt).o + n * 9 + 4, none⟩ (.bool false)).setCell ⟨(A9 .wt).b, (A9 .wt).o + n * 9 + 5, none⟩ (.bool false)).setCell ⟨(A9 .wt).b, (A9 .wt).o + n * 9 + 6, none⟩ (.int .i64 0)).setCell ⟨(A9 .wt).b, (A9 .wt).o + n * 9 + 7, none⟩ (.int .i64 0)).setCell ⟨(A9 .wt).b, (A9 .wt).o + n * 9 + 8, none⟩ (.int .u32 0)) := ⟨_, rfl⟩
      have HKR7 : Hid (Blk w7 R #[.slice none 0 0, .slice none 0 0, .slice none 0 0, .slice none 0 0, .slice none 0 0, .slice none 0 0, .slice none 0 0]) := Lib.hid (by rw [hw7]; exact nine_other HKR6.out (by have := HBW.out; have := HRB.out; omega) _ _ _ _ _ _ _ _ _ _ _ _ _ _ _ _ _ _)
      have HB7 : Hid (Below w.heap.size w w7) := Lib.hid (by rw [hw7]; exact nine_below HB6.out (by have := HBW.out; have := HSZ.out; omega) _ _ _ _ _ _ _ _ _ _ _ _ _ _ _ _ _ _)
      rw [← hw7] at HX9 ⊢
      clear hw7 hz9 HKR6 HB6
      go_wp2_with fail
      refine (gives_wk w1.heap.size B c l _ L (fr : Int) (k : Nat) n k w7 ⟨A9, p9, c9, xs9, HX9.out⟩ hn hk HVA.out).mono ?_
      rintro e w8 ⟨rfl, hwk8, hb8⟩
      have hse : sendP L ⟨8, (fr : Int), 0, (k : Int), 0, 0, false, 0, (Z.F.wait n ((Pr.Rq.put 0).wt k)).va n k⟩ = LQ := by
        rw [← HLB.out, put_fm, HFR.out]
        rfl
      rw [hse, ← HQF.out] at hwk8
      have HK8 : Hid (Blk w8 R #[.slice none 0 0, .slice none 0 0, .slice none 0 0, .slice none 0 0, .slice none 0 0, .slice none 0 0, .slice none 0 0]) := Lib.hid (HKR7.out.belowN hb8 HRB.out)
      have HB8 : Hid (Below w.heap.size w w8) := Lib.hid (HB7.out.trans (hb8.mono (by have := HSZ.out; omega)))
      clear hse hb8 HX9 HKR7 HB7
      obtain ⟨A8, p8, c8, xs8, h8⟩ := hwk8
      have q0 := h8.c0
      have q1 := h8.c1
      have q2 := h8.c2
      have q3 := h8.c3
      have q4 := h8.c4
      have q5 := h8.c5
      have q6 := h8.c6
      have kR := HK8.out.c
      have fR := HK8.out.f
      have lR := HK8.out.lt
      have H8 := Lib.hid h8
      have hne8 : R ≠ B := by have := HRB.out; have := h8.hi.1; omega
      have hne9 : B ≠ R := fun e => hne8 e.symm
      clear h8 
      go_wp2_with fail
      have hle : ∀ j, w.heap.size ≤ (⟨R, j, none⟩ : Addr).block := fun j => by show w.heap.size ≤ R; rw [HRR.out]; omega
      exact bodyPost_ret (v := .tuple #[.agg #[.slice (some ⟨(A8 .st).b, (A8 .st).o, none⟩) c (A8 .st).c, .slice (some ⟨(A8 .va).b, (A8 .va).o, none⟩) c (A8 .va).c, .slice (some ⟨(A8 .wt).b, (A8 .wt).o, none⟩) c (A8 .wt).c, .slice (some ⟨(A8 .ho).b, (A8 .ho).o, none⟩) l (A8 .ho).c, .slice (some ⟨(A8 .di).b, (A8 .di).o, none⟩) l (A8 .di).c, .slice (some ⟨(A8 .bu).b, (A8 .bu).o, none⟩) l (A8 .bu).c, .slice p8 LQ.length c8], .int .i64 0]) (by simp [results, Tryz.results14, go_sem, *]) rfl (OutZ.of (F := Q.F) (L := LQ) ⟨_, rfl, wk_out H8.out HK8.out HRB.out rfl, Nw.wk H8.out HB1.out.size, ((((((HB8.out.setCell (hle 0) _).setCell (hle 1) _).setCell (hle 2) _).setCell (hle 3) _).setCell (hle 4) _).setCell (hle 5) _).setCell (hle 6) _⟩ rfl (by rw [HQM.out, HLQ.out]) HOKW.out)
    · rw [decide_eq_false h2]
      obtain ⟨hQF, hQM, hX⟩ := HNS.out HCT.out h2
      subst hX
      have HQF := Lib.hid hQF
      have HQM := Lib.hid hQM
      clear hQF hQM h2
      obtain ⟨A9, p9, c9, xs9, h9⟩ := HWK6.out
      have HX9 := Lib.hid (h9.setS 0 hn hk)
      have q0 := h9.c0
      have q1 := h9.sr hn
      have q2 := h9.s hn hk
      have q3 := h9.fz (.sr n) rfl (by show 0 < if n < c then l else 0; rw [if_pos hn]; omega) ((A9 (.sr n)).o + k)
      have HBW : Hid (w1.heap.size ≤ (A9 (.sr n)).b) := Lib.hid (h9.base (.sr n) rfl (by show 0 < if n < c then l else 0; rw [if_pos hn]; omega))
      have hlt := h9.mem.lt (.sr n) (by show 0 < if n < c then l else 0; rw [if_pos hn]; omega)
      clear h9 HWK6
      go_upto_region 10 with fail
      have hz9 : ((0 : Nat) : Int) = 0 := rfl
      rw [hz9] at HX9
      obtain ⟨w7, hw7⟩ : ∃ z, z = w6.setCell ⟨(A9 (.sr n)).b, (A9 (.sr n)).o + k, none⟩ (.int .i64 0) := ⟨_, rfl⟩
      have HK8 : Hid (Blk w7 R #[.slice none 0 0, .slice none 0 0, .slice none 0 0, .slice none 0 0, .slice none 0 0, .slice none 0 0, .slice none 0 0]) := Lib.hid (by rw [hw7]; exact HKR6.out.other _ (by have := HBW.out; have := HRB.out; omega))
      have HB8 : Hid (Below w.heap.size w w7) := Lib.hid (by rw [hw7]; exact HB6.out.setCell (p := ⟨(A9 (.sr n)).b, (A9 (.sr n)).o + k, none⟩) (by show w.heap.size ≤ (A9 (.sr n)).b; have := HBW.out; have := HSZ.out; omega) _)
      rw [← hw7] at HX9 ⊢
      have hwk8 : WkX w7 w1.heap.size B c l Q.F L (sndV B (fr : Int) (k : Nat)) := by rw [HQF.out]; exact ⟨A9, p9, c9, xs9, HX9.out⟩
      clear hw7 hz9 HKR6 HB6 HX9 q0 q1 q2 q3 hlt
      obtain ⟨A8, p8, c8, xs8, h8⟩ := hwk8
      have q0 := h8.c0
      have q1 := h8.c1
      have q2 := h8.c2
      have q3 := h8.c3
      have q4 := h8.c4
      have q5 := h8.c5
      have q6 := h8.c6
      have kR := HK8.out.c
      have fR := HK8.out.f
      have lR := HK8.out.lt
      have H8 := Lib.hid h8
      have hne8 : R ≠ B := by have := HRB.out; have := h8.hi.1; omega
      have hne9 : B ≠ R := fun e => hne8 e.symm
      clear h8 
      go_wp2_with fail
      have hle : ∀ j, w.heap.size ≤ (⟨R, j, none⟩ : Addr).block := fun j => by show w.heap.size ≤ R; rw [HRR.out]; omega
      exact bodyPost_ret (v := .tuple #[.agg #[.slice (some ⟨(A8 .st).b, (A8 .st).o, none⟩) c (A8 .st).c, .slice (some ⟨(A8 .va).b, (A8 .va).o, none⟩) c (A8 .va).c, .slice (some ⟨(A8 .wt).b, (A8 .wt).o, none⟩) c (A8 .wt).c, .slice (some ⟨(A8 .ho).b, (A8 .ho).o, none⟩) l (A8 .ho).c, .slice (some ⟨(A8 .di).b, (A8 .di).o, none⟩) l (A8 .di).c, .slice (some ⟨(A8 .bu).b, (A8 .bu).o, none⟩) l (A8 .bu).c, .slice p8 L.length c8], .int .i64 0]) (by simp [results, Tryz.results14, go_sem, *]) rfl (OutZ.of (F := Q.F) (L := L) ⟨_, rfl, wk_out H8.out HK8.out HRB.out rfl, Nw.wk H8.out HB1.out.size, ((((((HB8.out.setCell (hle 0) _).setCell (hle 1) _).setCell (hle 2) _).setCell (hle 3) _).setCell (hle 4) _).setCell (hle 5) _).setCell (hle 6) _⟩ rfl (by rw [HQM.out, HLL.out]) HOKW.out)
end Go.Proofs.YtmeomdfmljanhaaGreat.Pg
/- Set; no condition but that the system is as its lines say. -/
namespace Go.Proofs.YtmeomdfmljanhaaGreat.Pg
set_option linter.unusedVariables false
open Go.ChangeShapes Go.WideShapes Go.ChangeAt Go.RowKit

theorem Mem.setS {w : World} {bs c l : Nat} {F : Pr.Fs} {A : Tg → Pa} {pv f : Value} (h : Mem w bs c l A F pv f) {n k : Nat} (s : Nat) (hn : n < c) (hk : k < l) :
    Mem (w.setCell ⟨(A (.sr n)).b, (A (.sr n)).o + k, none⟩ (.int .i64 (s : Nat))) bs c l A (F.state n k s) pv f := by
  refine h.store (.sr n) k _ rfl (by show k < if n < c then l else 0; rw [if_pos hn]; exact hk) (fun t' j' hj' => ?_)
  cases t' with
  | sr n' =>
    show Value.int .i64 (Pr.upd2 F.st n k s n' j' : Nat) = if Tg.sr n' = .sr n ∧ j' = k then _ else Value.int .i64 (F.st n' j' : Nat)
    unfold Pr.upd2 Pr.upd
    by_cases e : n' = n
    · subst e
      by_cases e2 : j' = k <;> simp [e2]
    · simp [e]
  | _ => rw [if_neg (by rintro ⟨e, _⟩; cases e)]; rfl
theorem Mem.setV {w : World} {bs c l : Nat} {F : Pr.Fs} {A : Tg → Pa} {pv f : Value} (h : Mem w bs c l A F pv f) {n k : Nat} (s : Nat) (hn : n < c) (hk : k < l) :
    Mem (w.setCell ⟨(A (.vr n)).b, (A (.vr n)).o + k, none⟩ (.int .u32 (s : Nat))) bs c l A (F.value n k s) pv f := by
  refine h.store (.vr n) k _ rfl (by show k < if n < c then l else 0; rw [if_pos hn]; exact hk) (fun t' j' hj' => ?_)
  cases t' with
  | vr n' =>
    show Value.int .u32 (Pr.upd2 F.va n k s n' j' : Nat) = if Tg.vr n' = .vr n ∧ j' = k then _ else Value.int .u32 (F.va n' j' : Nat)
    unfold Pr.upd2 Pr.upd
    by_cases e : n' = n
    · subst e
      by_cases e2 : j' = k <;> simp [e2]
    · simp [e]
  | _ => rw [if_neg (by rintro ⟨e, _⟩; cases e)]; rfl
theorem mem_out {w w' : World} {c l : Nat} {F : Pr.Fs} {L : List (List Nat)} {A : Tg → Pa} {p : Option Addr} {cp : Nat} {xs : List Value} (h : Mem w 0 c l A F vz vz) (hp : Pl w p xs L) {R : Nat} (hR : Blk w R #[.slice none 0 0, .slice none 0 0, .slice none 0 0, .slice none 0 0, .slice none 0 0, .slice none 0 0, .slice none 0 0]) (hb : ∀ t : Tg, t.wr = true → 0 < t.sz 0 c l → (A t).b ≠ R) (ho : Off (fun b => b = R) p xs L)
    (hw : w' = (((((((w.setCell ⟨R, 0, none⟩ (.slice (some ⟨(A .st).b, (A .st).o, none⟩) c (A .st).c)).setCell ⟨R, 1, none⟩ (.slice (some ⟨(A .va).b, (A .va).o, none⟩) c (A .va).c)).setCell ⟨R, 2, none⟩ (.slice (some ⟨(A .wt).b, (A .wt).o, none⟩) c (A .wt).c)).setCell ⟨R, 3, none⟩ (.slice (some ⟨(A .ho).b, (A .ho).o, none⟩) l (A .ho).c)).setCell ⟨R, 4, none⟩ (.slice (some ⟨(A .di).b, (A .di).o, none⟩) l (A .di).c)).setCell ⟨R, 5, none⟩ (.slice (some ⟨(A .bu).b, (A .bu).o, none⟩) l (A .bu).c)).setCell ⟨R, 6, none⟩ (.slice p L.length cp))) : Sv w' (sysV c l A (.slice p L.length cp)) c l F L := by
  have hoff : ∀ t : Tg, 0 < t.sz 0 c l → (A t).b ≠ R := fun t h0 => by
    cases ht : t.wr with
    | true => exact hb t ht h0
    | false =>
      cases t <;> try cases ht
      rename_i k
      refine sh_ne h hR ?_
      refine Decidable.byContradiction fun hn => ?_
      have h0 : 0 < if k < l then c else 0 := h0
      rw [if_neg hn] at h0
      omega
  have hm : ∀ (X : World) (j : Nat) (u : Value), Mem X 0 c l A F vz vz ∧ Pl X p xs L → Mem (X.setCell ⟨R, j, none⟩ u) 0 c l A F vz vz ∧ Pl (X.setCell ⟨R, j, none⟩ u) p xs L := fun X j u ⟨x1, x2⟩ =>
    ⟨x1.off hoff j u, x2.set ho j u⟩
  have h7 : Mem w' 0 c l A F vz vz ∧ Pl w' p xs L := by
    rw [hw]
    exact hm _ 6 _ (hm _ 5 _ (hm _ 4 _ (hm _ 3 _ (hm _ 2 _ (hm _ 1 _ (hm _ 0 _ ⟨h, hp⟩))))))
  exact ⟨A, p, cp, xs, rfl, h7.1, h7.2⟩
set_option maxHeartbeats 4000000 in
set_option maxRecDepth 100000 in
theorem set_ok (v : Value) (c l : Nat) (Z : Pr.Zz) (n k x : Nat) (w : World) (h : Sys w v c l Z) (hn : n < c) (hk : k < l) (hx : x < 4294967296) :
    Calls Tryz.prog 16 #[v, .int .i64 n, .int .i64 k, .int .u32 (x : Nat)] w fun e w' => OutZ w w' e c l (Pr.setZ Z n k x) (Pr.setX Z n k) := by
  have hg := ok_rg h.ok
  have hri := ok_right h.ok
  have hfew := ok_few h.ok
  have HOK := Lib.hid h.ok
  have h0 := h.sv
  obtain ⟨L, hL⟩ : ∃ L, L = Z.ms.map fr := ⟨_, rfl⟩
  rw [← hL] at h0 hri
  have HLL := Lib.hid hL
  have HSV := Lib.hid (fun W hW => h0.below (w' := W) hW)
  obtain ⟨A, p, cp, xs, rfl, hmm, hp⟩ := h0
  clear hL
  have hc4 := hmm.c4
  have hl16 := hmm.l16
  have HMM := Lib.hid (fun W hW => hmm.below (w' := W) hW)
  have HPP := Lib.hid (fun W hW => hp.below (w' := W) hW)
  have HRG := Lib.hid hg
  have HRI := Lib.hid hri
  obtain ⟨E, hE⟩ : ∃ E, E = w.heap.size := ⟨_, rfl⟩
  obtain ⟨R, hR⟩ : ∃ R, R = w.heap.size + 1 := ⟨_, rfl⟩
  obtain ⟨w1, hw1⟩ : ∃ w1, w1 = (w.alloc (.cells #[.slice (some ⟨(A .st).b, (A .st).o, none⟩) c (A .st).c, .slice (some ⟨(A .va).b, (A .va).o, none⟩) c (A .va).c, .slice (some ⟨(A .wt).b, (A .wt).o, none⟩) c (A .wt).c, .slice (some ⟨(A .ho).b, (A .ho).o, none⟩) l (A .ho).c, .slice (some ⟨(A .di).b, (A .di).o, none⟩) l (A .di).c, .slice (some ⟨(A .bu).b, (A .bu).o, none⟩) l (A .bu).c, .slice p L.length cp] 32)).alloc (.cells #[.slice none 0 0, .slice none 0 0, .slice none 0 0, .slice none 0 0, .slice none 0 0, .slice none 0 0, .slice none 0 0] 32) := ⟨_, rfl⟩
  have hb1 : Below w.heap.size w w1 := by rw [hw1]; exact ((Below.refl _ _).alloc (Nat.le_refl _) _).alloc (by simp) _
  have HKE : Hid (Blk w1 E #[.slice (some ⟨(A .st).b, (A .st).o, none⟩) c (A .st).c, .slice (some ⟨(A .va).b, (A .va).o, none⟩) c (A .va).c, .slice (some ⟨(A .wt).b, (A .wt).o, none⟩) c (A .wt).c, .slice (some ⟨(A .ho).b, (A .ho).o, none⟩) l (A .ho).c, .slice (some ⟨(A .di).b, (A .di).o, none⟩) l (A .di).c, .slice (some ⟨(A .bu).b, (A .bu).o, none⟩) l (A .bu).c, .slice p L.length cp]) := Lib.hid (by rw [hw1, hE]; exact (Blk.new _ _ _).alloc _)
  have HKR : Hid (Blk w1 R #[.slice none 0 0, .slice none 0 0, .slice none 0 0, .slice none 0 0, .slice none 0 0, .slice none 0 0, .slice none 0 0]) := Lib.hid (by rw [hw1, hR]; have := Blk.new (w.alloc (.cells #[.slice (some ⟨(A .st).b, (A .st).o, none⟩) c (A .st).c, .slice (some ⟨(A .va).b, (A .va).o, none⟩) c (A .va).c, .slice (some ⟨(A .wt).b, (A .wt).o, none⟩) c (A .wt).c, .slice (some ⟨(A .ho).b, (A .ho).o, none⟩) l (A .ho).c, .slice (some ⟨(A .di).b, (A .di).o, none⟩) l (A .di).c, .slice (some ⟨(A .bu).b, (A .bu).o, none⟩) l (A .bu).c, .slice p L.length cp] 32)) #[.slice none 0 0, .slice none 0 0, .slice none 0 0, .slice none 0 0, .slice none 0 0, .slice none 0 0, .slice none 0 0] 32; rw [World.size_alloc] at this; exact this)
  have HB1 := Lib.hid hb1
  have HSZ : Hid (w1.heap.size = w.heap.size + 2) := Lib.hid (by rw [hw1, World.size_alloc, World.size_alloc])
  have HW1 := Lib.hid hw1
  have HEE := Lib.hid hE
  have HRR := Lib.hid hR
  clear h hg hri hmm hp hw1 hb1 hE hR
  have HOKW : Hid ((Pr.setZ Z n k x).ok c l) := Lib.hid (HOK.out.set hk hx)
  have HYES : Hid (hasB Z.F n k true = true → (Pr.setZ Z n k x).F = (Z.F.value n k x).state n k 3 ∧ (Pr.setZ Z n k x).ms = Z.ms ∧ Pr.setX Z n k = 0) := Lib.hid (fun e => by unfold Pr.setZ Pr.setX; rw [← has_is, e]; exact ⟨rfl, rfl, rfl⟩)
  have HNO : Hid (hasB Z.F n k true = false → Pr.setZ Z n k x = Z ∧ Pr.setX Z n k = 8) := Lib.hid (fun e => by unfold Pr.setZ Pr.setX; rw [← has_is, e]; exact ⟨rfl, rfl⟩)
  obtain ⟨Q, hQ⟩ : ∃ Q, Q = Pr.setZ Z n k x := ⟨_, rfl⟩
  obtain ⟨X, hX⟩ : ∃ X, X = Pr.setX Z n k := ⟨_, rfl⟩
  rw [← hQ] at HOKW HYES HNO ⊢
  rw [← hX] at HYES HNO ⊢
  clear hQ hX
  have HCP : Hid (∀ W, Below w.heap.size w W → Calls Tryz.prog 29 #[.agg #[.slice (some ⟨(A .st).b, (A .st).o, none⟩) c (A .st).c, .slice (some ⟨(A .va).b, (A .va).o, none⟩) c (A .va).c, .slice (some ⟨(A .wt).b, (A .wt).o, none⟩) c (A .wt).c, .slice (some ⟨(A .ho).b, (A .ho).o, none⟩) l (A .ho).c, .slice (some ⟨(A .di).b, (A .di).o, none⟩) l (A .di).c, .slice (some ⟨(A .bu).b, (A .bu).o, none⟩) l (A .bu).c, .slice p L.length cp]] W fun e w' => CopyO W w' e c l Z.F L) := Lib.hid (fun W hW => copied_any _ c l Z.F L W (HSV.out W hW))
  have hnI : (n : Int) < (c : Int) := by omega
  have hkI : (k : Int) < (l : Int) := by omega
  go_enter Tryz.func16, Tryz.ntmps16
  go_upto_region 1 with fail
  simp only [Pa.sl]
  rw [← HRR.out, ← HEE.out, ← HW1.out]
  have kB := HKE.out.c
  go_wp2_with fail
  refine (HCP.out w1 HB1.out).mono ?_
  rintro e w2 ⟨A2, p2, cp2, xs2, rfl, hm2, hp2, ho2, hlo2, hbase2, hb2⟩
  have HM2 := Lib.hid hm2
  have HP2 := Lib.hid hp2
  have HO2 := Lib.hid ho2
  have HLO2 := Lib.hid hlo2
  have HBS2 := Lib.hid hbase2
  have HKR2 := Lib.hid (HKR.out.below hb2)
  have HB2 : Hid (Below w.heap.size w w2) := Lib.hid (HB1.out.trans (hb2.mono HB1.out.size))
  have HRB : Hid (R < w1.heap.size) := Lib.hid HKR.out.lt
  have HS2 : Hid (w1.heap.size ≤ w2.heap.size) := Lib.hid hb2.size
  clear hb2 kB HW1 HKE HKR hm2 hp2 ho2 hlo2 hbase2 HCP
  unfold sysV
  simp only [Pa.sl]
  obtain ⟨B, hB⟩ : ∃ B, B = w2.heap.size := ⟨_, rfl⟩
  obtain ⟨w3, hw3⟩ : ∃ w3, w3 = w2.alloc (.cells #[.slice (some ⟨(A2 .st).b, (A2 .st).o, none⟩) c (A2 .st).c, .slice (some ⟨(A2 .va).b, (A2 .va).o, none⟩) c (A2 .va).c, .slice (some ⟨(A2 .wt).b, (A2 .wt).o, none⟩) c (A2 .wt).c, .slice (some ⟨(A2 .ho).b, (A2 .ho).o, none⟩) l (A2 .ho).c, .slice (some ⟨(A2 .di).b, (A2 .di).o, none⟩) l (A2 .di).c, .slice (some ⟨(A2 .bu).b, (A2 .bu).o, none⟩) l (A2 .bu).c, .slice p2 L.length cp2] 32) := ⟨_, rfl⟩
  have hk3 : Blk w3 B #[.slice (some ⟨(A2 .st).b, (A2 .st).o, none⟩) c (A2 .st).c, .slice (some ⟨(A2 .va).b, (A2 .va).o, none⟩) c (A2 .va).c, .slice (some ⟨(A2 .wt).b, (A2 .wt).o, none⟩) c (A2 .wt).c, .slice (some ⟨(A2 .ho).b, (A2 .ho).o, none⟩) l (A2 .ho).c, .slice (some ⟨(A2 .di).b, (A2 .di).o, none⟩) l (A2 .di).c, .slice (some ⟨(A2 .bu).b, (A2 .bu).o, none⟩) l (A2 .bu).c, .slice p2 L.length cp2] := by
    rw [hw3]
    rw [hB]
    exact Blk.new _ _ _
  have hb3 : Below w2.heap.size w2 w3 := by rw [hw3]; exact (Below.refl _ _).alloc (Nat.le_refl _) _
  have HB3 : Hid (Below w.heap.size w w3) := Lib.hid (HB2.out.trans (hb3.mono HB2.out.size))
  have HM3 := Lib.hid (HM2.out.below hb3)
  have HP3 := Lib.hid (HP2.out.below hb3)
  have HKR3 := Lib.hid (HKR2.out.below hb3)
  have HK3 := Lib.hid hk3
  have HW3 := Lib.hid hw3
  have HBE := Lib.hid hB
  have HLT : Hid (∀ t : Tg, 0 < t.sz 0 c l → (A2 t).b ≠ B) := Lib.hid (fun t h0 => by have := HM2.out.lt t h0; rw [hB]; omega)
  clear hb3 hk3 hw3 hB HM2 HP2 HKR2
  go_upto_region 2 with fail
  rw [← HBE.out]
  first | rw [← HW3.out] | fail "W3"
  clear HW3
  have kB := HK3.out.c
  have hc4x := hc4
  go_wp2_with fail
  refine (there_t HM3.out HRG.out p2 cp2 xs2 _ HP3.out HRI.out n k hn hk).mono ?_
  rintro e w4 ⟨rfl, hb4⟩
  have HK4 := Lib.hid (HK3.out.below hb4)
  have HKR4 := Lib.hid (HKR3.out.below hb4)
  have HB4 : Hid (Below w.heap.size w w4) := Lib.hid (HB3.out.trans (hb4.mono HB3.out.size))
  have HM4 := Lib.hid (HM3.out.below hb4)
  have HP4 := Lib.hid (HP3.out.below hb4)
  clear hb4 kB HK3 HKR3 HM3 HP3
  have kB := HK4.out.c
  obtain ⟨hb, hhb⟩ : ∃ x, x = hasB Z.F n k true := ⟨_, rfl⟩
  have HH : Hid (∀ W, Below w4.heap.size w4 W → Calls Tryz.prog 42 #[.agg #[.slice (some ⟨(A2 .st).b, (A2 .st).o, none⟩) c (A2 .st).c, .slice (some ⟨(A2 .va).b, (A2 .va).o, none⟩) c (A2 .va).c, .slice (some ⟨(A2 .wt).b, (A2 .wt).o, none⟩) c (A2 .wt).c, .slice (some ⟨(A2 .ho).b, (A2 .ho).o, none⟩) l (A2 .ho).c, .slice (some ⟨(A2 .di).b, (A2 .di).o, none⟩) l (A2 .di).c, .slice (some ⟨(A2 .bu).b, (A2 .bu).o, none⟩) l (A2 .bu).c, .slice p2 L.length cp2], .int .i64 n, .int .i64 k, .bool true] W fun e w' => e = .returned (.bool hb) ∧ Below W.heap.size W w') := Lib.hid (fun W hW => by rw [hhb]; exact has_mem (HM4.out.below hW) n k true hn hk p2 _ cp2)
  rw [← hhb] at HYES HNO
  clear hhb
  go_wp2_with fail
  refine (HH.out w4 (Below.refl _ _)).mono ?_
  rintro e w5 ⟨rfl, hb5⟩
  have HK5 := Lib.hid (HK4.out.below hb5)
  have HKR5 := Lib.hid (HKR4.out.below hb5)
  have HB5 : Hid (Below w.heap.size w w5) := Lib.hid (HB4.out.trans (hb5.mono HB4.out.size))
  have HM5 := Lib.hid (HM4.out.below hb5)
  have HP5 := Lib.hid (HP4.out.below hb5)
  clear hb5 kB HK4 HKR4 HM4 HP4 HH
  have hRB : R ≠ B := by have := HRB.out; have := HS2.out; have := HBE.out; omega
  have hBR : B ≠ R := fun e => hRB e.symm
  have HRR2 : Hid (∀ t : Tg, t.wr = true → 0 < t.sz 0 c l → (A2 t).b ≠ R) := Lib.hid (fun t h1 h2 => by have := HBS2.out t h1 h2; have := HRB.out; omega)
  have HOR : Hid (Off (fun b => b = R) p2 xs2 L) := Lib.hid (HLO2.out.sub (fun b (e : b = R) => by have := HRB.out; show b < w1.heap.size; omega))
  cases hb with
  | false =>
    obtain ⟨hQ, hX⟩ := HNO.out rfl
    subst hQ hX
    have kB := HK5.out.c
    have kR := HKR5.out.c
    have fR := HKR5.out.f
    have lR := HKR5.out.lt
    go_wp2_with fail
    have hle : ∀ j, w.heap.size ≤ (⟨R, j, none⟩ : Addr).block := fun j => by show w.heap.size ≤ R; rw [HRR.out]; omega
    exact bodyPost_ret (v := .tuple #[.agg #[.slice (some ⟨(A2 .st).b, (A2 .st).o, none⟩) c (A2 .st).c, .slice (some ⟨(A2 .va).b, (A2 .va).o, none⟩) c (A2 .va).c, .slice (some ⟨(A2 .wt).b, (A2 .wt).o, none⟩) c (A2 .wt).c, .slice (some ⟨(A2 .ho).b, (A2 .ho).o, none⟩) l (A2 .ho).c, .slice (some ⟨(A2 .di).b, (A2 .di).o, none⟩) l (A2 .di).c, .slice (some ⟨(A2 .bu).b, (A2 .bu).o, none⟩) l (A2 .bu).c, .slice p2 L.length cp2], .int .i64 8]) (by simp [results, Tryz.results16, go_sem, *]) rfl (OutZ.of (F := Q.F) (L := L) ⟨_, rfl, mem_out HM5.out HP5.out HKR5.out HRR2.out HOR.out rfl, Nw.of (Nat.le_trans HB1.out.size (HBS2.out .st rfl (by show 0 < c; omega))) (Nat.le_trans HB1.out.size (HBS2.out .va rfl (by show 0 < c; omega))), ((((((HB5.out.setCell (hle 0) _).setCell (hle 1) _).setCell (hle 2) _).setCell (hle 3) _).setCell (hle 4) _).setCell (hle 5) _).setCell (hle 6) _⟩ rfl HLL.out HOKW.out)
  | true =>
    obtain ⟨hQF, hQM, hX⟩ := HYES.out rfl
    subst hX
    have HQF := Lib.hid hQF
    have HQM := Lib.hid hQM
    clear hQF hQM
    have kB := HK5.out.c
    have q1 := HM5.out.va0 n hn
    have q2 := HM5.out.st0 n hn
    have h0v : 0 < (Tg.vr n).sz 0 c l := by show 0 < if n < c then l else 0; rw [if_pos hn]; omega
    have h0s : 0 < (Tg.sr n).sz 0 c l := by show 0 < if n < c then l else 0; rw [if_pos hn]; omega
    have hlv := HM5.out.lt (.vr n) h0v
    have hls := HM5.out.lt (.sr n) h0s
    have q3 := HM5.out.v0 hn k hk
    have q4 := HM5.out.s0 hn k hk
    have q5 := HM5.out.fz (.vr n) rfl h0v ((A2 (.vr n)).o + k)
    have q6 := HM5.out.fz (.sr n) rfl h0s ((A2 (.sr n)).o + k)
    have hin : (A2 (.sr n)).b ≠ (A2 (.vr n)).b := fun e => by
      have := HM5.out.inj (.sr n) (.vr n) rfl h0s h0v e
      cases this
    have hni : (A2 (.vr n)).b ≠ (A2 (.sr n)).b := fun e => hin e.symm
    have HMV : Hid (Mem ((w5.setCell ⟨(A2 (.vr n)).b, (A2 (.vr n)).o + k, none⟩ (.int .u32 (x : Nat))).drew) 0 c l A2 (Z.F.value n k x) vz vz) := Lib.hid (HM5.out.setV x hn hk).drew
    have HM6' : Hid (Mem (((w5.setCell ⟨(A2 (.vr n)).b, (A2 (.vr n)).o + k, none⟩ (.int .u32 (x : Nat))).setCell ⟨(A2 (.sr n)).b, (A2 (.sr n)).o + k, none⟩ (.int .i64 3)).drew) 0 c l A2 ((Z.F.value n k x).state n k 3) vz vz) := Lib.hid ((HM5.out.setV x hn hk).setS 3 hn hk).drew
    have HKV : Hid (Blk ((w5.setCell ⟨(A2 (.vr n)).b, (A2 (.vr n)).o + k, none⟩ (.int .u32 (x : Nat))).drew) B #[.slice (some ⟨(A2 .st).b, (A2 .st).o, none⟩) c (A2 .st).c, .slice (some ⟨(A2 .va).b, (A2 .va).o, none⟩) c (A2 .va).c, .slice (some ⟨(A2 .wt).b, (A2 .wt).o, none⟩) c (A2 .wt).c, .slice (some ⟨(A2 .ho).b, (A2 .ho).o, none⟩) l (A2 .ho).c, .slice (some ⟨(A2 .di).b, (A2 .di).o, none⟩) l (A2 .di).c, .slice (some ⟨(A2 .bu).b, (A2 .bu).o, none⟩) l (A2 .bu).c, .slice p2 L.length cp2]) := Lib.hid (HK5.out.other _ (HLT.out _ h0v)).drew
    have HK6' : Hid (Blk (((w5.setCell ⟨(A2 (.vr n)).b, (A2 (.vr n)).o + k, none⟩ (.int .u32 (x : Nat))).setCell ⟨(A2 (.sr n)).b, (A2 (.sr n)).o + k, none⟩ (.int .i64 3)).drew) B #[.slice (some ⟨(A2 .st).b, (A2 .st).o, none⟩) c (A2 .st).c, .slice (some ⟨(A2 .va).b, (A2 .va).o, none⟩) c (A2 .va).c, .slice (some ⟨(A2 .wt).b, (A2 .wt).o, none⟩) c (A2 .wt).c, .slice (some ⟨(A2 .ho).b, (A2 .ho).o, none⟩) l (A2 .ho).c, .slice (some ⟨(A2 .di).b, (A2 .di).o, none⟩) l (A2 .di).c, .slice (some ⟨(A2 .bu).b, (A2 .bu).o, none⟩) l (A2 .bu).c, .slice p2 L.length cp2]) := Lib.hid ((HK5.out.other _ (HLT.out _ h0v)).other _ (HLT.out _ h0s)).drew
    clear h0v h0s
    go_upto_region 6 with fail
    refine region_planF (fun V : World => V.cell? ⟨B, 0, none⟩ = some (.slice (some ⟨(A2 .st).b, (A2 .st).o, none⟩) c (A2 .st).c) ∧ V.cell? ⟨B, 1, none⟩ = some (.slice (some ⟨(A2 .va).b, (A2 .va).o, none⟩) c (A2 .va).c) ∧ V.cell? ⟨(A2 .va).b, (A2 .va).o + n, none⟩ = some (.slice (some ⟨(A2 (.vr n)).b, (A2 (.vr n)).o, none⟩) l (A2 (.vr n)).c) ∧ V.cell? ⟨(A2 .st).b, (A2 .st).o + n, none⟩ = some (.slice (some ⟨(A2 (.sr n)).b, (A2 (.sr n)).o, none⟩) l (A2 (.sr n)).c)) (.read 0 (.read 1 (.read 2 (.read 3 (.read 4 (.read 5 (.read 6 (.read 7 (.read 8 (.read 9 (.read 10 (.read 11 (.read 12 (.read 13 (.one 14 (.read 15 (.one 16 .stop))))))))))))))))) (by kernel_rfl) (by kernel_rfl) ⟨HK5.out.drew.c 0, HK5.out.drew.c 1, HM5.out.drew.va0 n hn, HM5.out.drew.st0 n hn⟩ ?_
    iterate 14
      refine planT_read (v := ?_) rfl (by rfl) ?_ ?_
      rotate_left
      · intro w' hS
        try dsimp only at hS
        go_simp
        try with_reducible rfl
      try simp only [Act.put, List.setIfInBounds_toArray, List.set_cons_zero, List.set_cons_succ, List.getElem_toArray, List.getElem_cons_zero, List.getElem_cons_succ]
    refine planT_one ?_
    refine op_store (w1 := (w5.setCell ⟨(A2 (.vr n)).b, (A2 (.vr n)).o + k, none⟩ (.int .u32 (x : Nat))).drew) rfl (by rfl) ?_ ?_
    · go_simp
    refine ⟨⟨HKV.out.c 0, HKV.out.c 1, HMV.out.va0 n hn, HMV.out.st0 n hn⟩, ?_⟩
    try simp only [Act.put, List.setIfInBounds_toArray, List.set_cons_zero, List.set_cons_succ, List.getElem_toArray, List.getElem_cons_zero, List.getElem_cons_succ]
    iterate 1
      refine planT_read (v := ?_) rfl (by rfl) ?_ ?_
      rotate_left
      · intro w' hS
        try dsimp only at hS
        go_simp
        try with_reducible rfl
      try simp only [Act.put, List.setIfInBounds_toArray, List.set_cons_zero, List.set_cons_succ, List.getElem_toArray, List.getElem_cons_zero, List.getElem_cons_succ]
    refine planT_one ?_
    refine op_store (w1 := ((w5.setCell ⟨(A2 (.vr n)).b, (A2 (.vr n)).o + k, none⟩ (.int .u32 (x : Nat))).setCell ⟨(A2 (.sr n)).b, (A2 (.sr n)).o + k, none⟩ (.int .i64 3)).drew) rfl (by rfl) ?_ ?_
    · go_simp
    refine ⟨⟨HK6'.out.c 0, HK6'.out.c 1, HM6'.out.va0 n hn, HM6'.out.st0 n hn⟩, ?_⟩
    refine planT_stop ?_
    refine NoPanic.normal ?_
    go_upto_region 7 with fail
    have h0v : 0 < (Tg.vr n).sz 0 c l := by show 0 < if n < c then l else 0; rw [if_pos hn]; omega
    have h0s : 0 < (Tg.sr n).sz 0 c l := by show 0 < if n < c then l else 0; rw [if_pos hn]; omega
    obtain ⟨w6, hw6⟩ : ∃ z, z = ((w5.setCell ⟨(A2 (.vr n)).b, (A2 (.vr n)).o + k, none⟩ (.int .u32 (x : Nat))).setCell ⟨(A2 (.sr n)).b, (A2 (.sr n)).o + k, none⟩ (.int .i64 3)).drew := ⟨_, rfl⟩
    have HM6 : Hid (Mem w6 0 c l A2 Q.F vz vz) := Lib.hid (by rw [hw6, HQF.out]; exact ((HM5.out.setV x hn hk).setS 3 hn hk).drew)
    have hp6 : Pl w6 p2 xs2 L := by
      rw [hw6]
      exact ((HP5.out.set (HO2.out.sub (fun b (e : b = (A2 (.vr n)).b) => ⟨_, rfl, h0v, e.symm⟩)) _ _).set (HO2.out.sub (fun b (e : b = (A2 (.sr n)).b) => ⟨_, rfl, h0s, e.symm⟩)) _ _).below (Below.refl _ _).drew
    have hk6 : Blk w6 B #[.slice (some ⟨(A2 .st).b, (A2 .st).o, none⟩) c (A2 .st).c, .slice (some ⟨(A2 .va).b, (A2 .va).o, none⟩) c (A2 .va).c, .slice (some ⟨(A2 .wt).b, (A2 .wt).o, none⟩) c (A2 .wt).c, .slice (some ⟨(A2 .ho).b, (A2 .ho).o, none⟩) l (A2 .ho).c, .slice (some ⟨(A2 .di).b, (A2 .di).o, none⟩) l (A2 .di).c, .slice (some ⟨(A2 .bu).b, (A2 .bu).o, none⟩) l (A2 .bu).c, .slice p2 L.length cp2] := by
      rw [hw6]
      exact ((HK5.out.other _ (HLT.out _ h0v)).other _ (HLT.out _ h0s)).drew
    have hkr6 : Blk w6 R #[.slice none 0 0, .slice none 0 0, .slice none 0 0, .slice none 0 0, .slice none 0 0, .slice none 0 0, .slice none 0 0] := by
      rw [hw6]
      exact ((HKR5.out.other _ (HRR2.out _ rfl h0v)).other _ (HRR2.out _ rfl h0s)).drew
    have hb6 : Below w.heap.size w w6 := by
      rw [hw6]
      have h1 := HBS2.out (.vr n) rfl h0v
      have h2 := HBS2.out (.sr n) rfl h0s
      have h3 := HSZ.out
      exact ((HB5.out.setCell (p := ⟨(A2 (.vr n)).b, (A2 (.vr n)).o + k, none⟩) (by show w.heap.size ≤ (A2 (.vr n)).b; omega) _).setCell (p := ⟨(A2 (.sr n)).b, (A2 (.sr n)).o + k, none⟩) (by show w.heap.size ≤ (A2 (.sr n)).b; omega) _).drew
    have HP6 := Lib.hid hp6
    have HKR6 := Lib.hid hkr6
    have HB6 := Lib.hid hb6
    rw [← hw6]
    clear hw6 hp6 hb6 HMV HM6' HKV HK6' kB q1 q2 q3 q4 q5 q6 hlv hls hin hni HM5 HP5 HK5 HKR5 HB5 h0v h0s
    have kB := hk6.c
    have kR := hkr6.c
    have fR := hkr6.f
    have lR := hkr6.lt
    clear hk6 hkr6
    go_wp2_with fail
    have hle : ∀ j, w.heap.size ≤ (⟨R, j, none⟩ : Addr).block := fun j => by show w.heap.size ≤ R; rw [HRR.out]; omega
    exact bodyPost_ret (v := .tuple #[.agg #[.slice (some ⟨(A2 .st).b, (A2 .st).o, none⟩) c (A2 .st).c, .slice (some ⟨(A2 .va).b, (A2 .va).o, none⟩) c (A2 .va).c, .slice (some ⟨(A2 .wt).b, (A2 .wt).o, none⟩) c (A2 .wt).c, .slice (some ⟨(A2 .ho).b, (A2 .ho).o, none⟩) l (A2 .ho).c, .slice (some ⟨(A2 .di).b, (A2 .di).o, none⟩) l (A2 .di).c, .slice (some ⟨(A2 .bu).b, (A2 .bu).o, none⟩) l (A2 .bu).c, .slice p2 L.length cp2], .int .i64 0]) (by simp [results, Tryz.results16, go_sem, *]) rfl (OutZ.of (F := Q.F) (L := L) ⟨_, rfl, mem_out HM6.out HP6.out HKR6.out HRR2.out HOR.out rfl, Nw.of (Nat.le_trans HB1.out.size (HBS2.out .st rfl (by show 0 < c; omega))) (Nat.le_trans HB1.out.size (HBS2.out .va rfl (by show 0 < c; omega))), ((((((HB6.out.setCell (hle 0) _).setCell (hle 1) _).setCell (hle 2) _).setCell (hle 3) _).setCell (hle 4) _).setCell (hle 5) _).setCell (hle 6) _⟩ rfl (by rw [HQM.out, HLL.out]) HOKW.out)
end Go.Proofs.YtmeomdfmljanhaaGreat.Pg
/- Deliver, of a system as its lines say, a message of its. -/
namespace Go.Proofs.YtmeomdfmljanhaaGreat.Pg
set_option linter.unusedVariables false

theorem deliv_ok (v : Value) (c l : Nat) (Z : Pr.Zz) (i : Nat) (w : World) (h : Sys w v c l Z) (hi : i < Z.ms.length) :
    Calls Tryz.prog 9 #[v, .int .i64 i] w fun e w' => OutZ w w' e c l (Pr.delivZ c Z i) 0 := by
  have hc4 := h.ok.c4
  have hc1 := h.ok.c1
  have hl4 := h.ok.l4
  have hl1 := h.ok.l1
  have hfew := ok_few h.ok
  have hok := (h.ok.deliv hi).1
  have hfew2 := ok_few hok
  have hhome := h.ok.home hi
  have his := (h.ok.deliv hi).2.2
  obtain ⟨a, b, e1, e2, e3, -, -⟩ := Pr.getD_lt Z.ms Pr.zF i hi
  have hmem : Z.ms.getD i Pr.zF ∈ Z.ms := by
    have : Z.ms.getD i Pr.zF ∈ a ++ Z.ms.getD i Pr.zF :: b := List.mem_append_right _ (List.mem_cons_self ..)
    rwa [← e1] at this
  obtain ⟨q1, q2⟩ := h.ok.fb _ hmem
  have hbd := Pr.act_bd hc4 hl1 h.ok.bd q1 q2 (Pr.is_fr his)
  have hms : (Pr.delivZ c Z i).ms = a ++ b ++ (Z.F.act c (Z.ms.getD i Pr.zF)).2 := by
    show Z.ms.eraseIdx i ++ _ = _
    rw [e3]
  have hF : (Pr.delivZ c Z i).F = (Z.F.act c (Z.ms.getD i Pr.zF)).1 := rfl
  obtain ⟨m, hm⟩ : ∃ m, m = Z.ms.getD i Pr.zF := ⟨_, rfl⟩
  rw [← hm] at e1 q1 q2 hbd hhome hms hF
  have hlen : (a ++ m :: b).length = Z.ms.length := by rw [← e1]
  have htk := take_fr (c := c) (l := l) (a := a) (b := b) (f := m) hc4 (by omega) q1 (by omega)
  rw [← e1, e2] at htk
  obtain ⟨t1, t2, t3⟩ := htk
  have hab : (a ++ b).length ≤ 20 := by
    rw [hms, List.length_append] at hfew2
    omega
  have hca := come_act Z.F c m (dropP (Z.ms.map fr) i) hc1 hc4 (fun x0 x1 x2 x3 => by
    obtain ⟨y1, y2, y3, y4⟩ := hhome x0 x1 x2 x3
    exact ⟨y1, y2, ok_ob h.ok m.line q1.line, y3, y4⟩)
  refine (deliver_ok v c l Z.F (Z.ms.map fr) i m w h.sv (ok_rg h.ok) (ok_right h.ok) (by rw [t2]; rfl) t1 ?_ ?_ q1.line ⟨q1.frm, q1.to, q1.fr⟩ q2 q1.val).mono ?_
  · rw [t3, List.length_map]
    omega
  · rw [t3]
    exact right_fr (a ++ b) (by omega)
  · intro e w' h'
    rw [hca.1, hca.2, t3, puts_fm (c := c) (l := l) hc4 (by omega) _ (a ++ b) hbd.2 (by rw [hms, List.length_append] at hfew2; omega)] at h'
    exact OutZ.of h' hF.symm (by rw [hms]) hok
end Go.Proofs.YtmeomdfmljanhaaGreat.Pg
/- Deliver, where there is no such frame. -/
namespace Go.Proofs.YtmeomdfmljanhaaGreat.Pg
set_option linter.unusedVariables false
open Go.ChangeShapes Go.WideShapes Go.ChangeAt Go.RowKit

set_option maxHeartbeats 4000000 in
set_option maxRecDepth 100000 in
theorem deliver_none (v : Value) (c l : Nat) (F : Pr.Fs) (L : List (List Nat)) (k : Nat) (m : Pr.Fm) (w : World) (h : Sv w v c l F L) (hg : Rg c l F) (hr : rightP L = true) (hrow : (takeM L k).row = mA m) (he : takeE L k = 7) :
    Calls Tryz.prog 9 #[v, .int .i64 k] w fun e w' => OutS w w' e c l F L 7 := by
  have HSV := Lib.hid (fun W hW => h.below (w' := W) hW)
  obtain ⟨A, p, cp, xs, rfl, hmm, hp⟩ := h
  have hc4 := hmm.c4
  have hl16 := hmm.l16
  obtain ⟨kd, fr, tt, ln, fo, ac, ow, nu, va⟩ := m
  have HMM := Lib.hid hmm
  have HPP := Lib.hid hp
  obtain ⟨E, hE⟩ : ∃ E, E = w.heap.size := ⟨_, rfl⟩
  obtain ⟨R, hR⟩ : ∃ R, R = w.heap.size + 1 := ⟨_, rfl⟩
  obtain ⟨w1, hw1⟩ : ∃ w1, w1 = (w.alloc (.cells #[.slice (some ⟨(A .st).b, (A .st).o, none⟩) c (A .st).c, .slice (some ⟨(A .va).b, (A .va).o, none⟩) c (A .va).c, .slice (some ⟨(A .wt).b, (A .wt).o, none⟩) c (A .wt).c, .slice (some ⟨(A .ho).b, (A .ho).o, none⟩) l (A .ho).c, .slice (some ⟨(A .di).b, (A .di).o, none⟩) l (A .di).c, .slice (some ⟨(A .bu).b, (A .bu).o, none⟩) l (A .bu).c, .slice p L.length cp] 32)).alloc (.cells #[.slice none 0 0, .slice none 0 0, .slice none 0 0, .slice none 0 0, .slice none 0 0, .slice none 0 0, .slice none 0 0] 32) := ⟨_, rfl⟩
  have hb1 : Below w.heap.size w w1 := by rw [hw1]; exact ((Below.refl _ _).alloc (Nat.le_refl _) _).alloc (by simp) _
  have HKE : Hid (Blk w1 E #[.slice (some ⟨(A .st).b, (A .st).o, none⟩) c (A .st).c, .slice (some ⟨(A .va).b, (A .va).o, none⟩) c (A .va).c, .slice (some ⟨(A .wt).b, (A .wt).o, none⟩) c (A .wt).c, .slice (some ⟨(A .ho).b, (A .ho).o, none⟩) l (A .ho).c, .slice (some ⟨(A .di).b, (A .di).o, none⟩) l (A .di).c, .slice (some ⟨(A .bu).b, (A .bu).o, none⟩) l (A .bu).c, .slice p L.length cp]) := Lib.hid (by rw [hw1, hE]; exact (Blk.new _ _ _).alloc _)
  have HKR : Hid (Blk w1 R #[.slice none 0 0, .slice none 0 0, .slice none 0 0, .slice none 0 0, .slice none 0 0, .slice none 0 0, .slice none 0 0]) := Lib.hid (by rw [hw1, hR]; have := Blk.new (w.alloc (.cells #[.slice (some ⟨(A .st).b, (A .st).o, none⟩) c (A .st).c, .slice (some ⟨(A .va).b, (A .va).o, none⟩) c (A .va).c, .slice (some ⟨(A .wt).b, (A .wt).o, none⟩) c (A .wt).c, .slice (some ⟨(A .ho).b, (A .ho).o, none⟩) l (A .ho).c, .slice (some ⟨(A .di).b, (A .di).o, none⟩) l (A .di).c, .slice (some ⟨(A .bu).b, (A .bu).o, none⟩) l (A .bu).c, .slice p L.length cp] 32)) #[.slice none 0 0, .slice none 0 0, .slice none 0 0, .slice none 0 0, .slice none 0 0, .slice none 0 0, .slice none 0 0] 32; rw [World.size_alloc] at this; exact this)
  have HB1 := Lib.hid hb1
  have HW1 := Lib.hid hw1
  have HEE := Lib.hid hE
  have HRR := Lib.hid hR
  clear hmm hp hw1 hb1 hE hR
  go_enter Tryz.func9, Tryz.ntmps9
  go_upto_region 1 with fail
  simp only [Pa.sl]
  rw [← HRR.out, ← HEE.out, ← HW1.out]
  have kB := HKE.out.c
  go_wp2_with fail
  refine (right_t (HMM.out.below HB1.out) hg p cp xs L (HPP.out.below HB1.out) hr).mono ?_
  rintro e w2 ⟨rfl, hb2⟩
  have HKE2 := Lib.hid (HKE.out.below hb2)
  have HKR2 := Lib.hid (HKR.out.below hb2)
  have HB2 := Lib.hid (HB1.out.trans (hb2.mono HB1.out.size))
  clear hb2 kB
  have kB := HKE2.out.c
  go_wp2_with fail
  refine (take_any p L.length cp xs L k w2 rfl (HPP.out.below HB2.out)).mono ?_
  rintro e w3 ⟨p3, c3, xs3, rfl, hout⟩
  rw [hrow, he]
  have HO3 := Lib.hid hout
  have HKE3 := Lib.hid (HKE2.out.below hout.below)
  have HKR3 := Lib.hid (HKR2.out.below hout.below)
  have HB3 := Lib.hid (HB2.out.trans (hout.below.mono HB2.out.size))
  clear hout kB
  have kB := HKE3.out.c
  obtain ⟨M, hM⟩ : ∃ M, M = w3.heap.size + 1 := ⟨_, rfl⟩
  obtain ⟨G, hG⟩ : ∃ G, G = w3.heap.size := ⟨_, rfl⟩
  obtain ⟨w4, hw4⟩ : ∃ w4, w4 = (w3.alloc (.cells #[.slice p3 (dropP L k).length c3] 30)).alloc (.cells (mA ⟨kd, fr, tt, ln, fo, ac, ow, nu, va⟩) 70) := ⟨_, rfl⟩
  have hb4 : Below w3.heap.size w3 w4 := by rw [hw4]; exact ((Below.refl _ _).alloc (Nat.le_refl _) _).alloc (by simp) _
  have HG4 : Hid (Blk w4 G #[.slice p3 (dropP L k).length c3]) := Lib.hid (by rw [hw4, hG]; exact (Blk.new _ _ _).alloc _)
  have HM4 : Hid (Blk w4 M (mA ⟨kd, fr, tt, ln, fo, ac, ow, nu, va⟩)) := Lib.hid (by rw [hw4, hM]; have := Blk.new (w3.alloc (.cells #[.slice p3 (dropP L k).length c3] 30)) (mA ⟨kd, fr, tt, ln, fo, ac, ow, nu, va⟩) 70; rw [World.size_alloc] at this; exact this)
  have HKE4 := Lib.hid (HKE3.out.below hb4)
  have HKR4 := Lib.hid (HKR3.out.below hb4)
  have HB4 := Lib.hid (HB3.out.trans (hb4.mono HB3.out.size))
  have HP4 := Lib.hid (HO3.out.pl.below hb4)
  have HLE : Hid (w2.heap.size ≤ w4.heap.size) := Lib.hid (Nat.le_trans HO3.out.below.size hb4.size)
  have HW4 := Lib.hid hw4
  have HGG := Lib.hid hG
  have HMMM := Lib.hid hM
  clear hw4 hb4 hG hM
  go_upto_region 4 with fail
  rw [← HMMM.out, ← HGG.out, ← HW4.out]
  clear kB HW4
  have kB := HKE4.out.c
  have kM := HM4.out.c
  go_wp2_with fail
  refine (begun_any _ c l F L (tt : Nat) (ln : Nat) w4 (HSV.out _ HB4.out)).mono ?_
  rintro e w5 ⟨B, rfl, hwk, hb5⟩
  have HKE5 := Lib.hid (HKE4.out.below hb5)
  have HKR5 := Lib.hid (HKR4.out.below hb5)
  have HG5 := Lib.hid (HG4.out.below hb5)
  have HM5 := Lib.hid (HM4.out.below hb5)
  have HP5 := Lib.hid (HP4.out.below hb5)
  have HB5 := Lib.hid (HB4.out.trans (hb5.mono HB4.out.size))
  have HWK := Lib.hid hwk
  have HRB := Lib.hid (Nat.lt_of_lt_of_le HKR2.out.lt HLE.out)
  clear kB kM hwk hb5 HG5 HM5 HP5 HKE5 HG4 HM4 HP4 HKE4 HO3 HKE3 HKR3 HB3 HKE2
  obtain ⟨A8, p8, c8, xs8, h8⟩ := HWK.out
  have q0 := h8.c0
  have q1 := h8.c1
  have q2 := h8.c2
  have q3 := h8.c3
  have q4 := h8.c4
  have q5 := h8.c5
  have q6 := h8.c6
  have kR := HKR5.out.c
  have fR := HKR5.out.f
  have lR := HKR5.out.lt
  have H8 := Lib.hid h8
  have hne8 : R ≠ B := by have := HRB.out; have := h8.hi.1; omega
  have hne9 : B ≠ R := fun e => hne8 e.symm
  clear h8
  go_wp2_with fail
  have hle : ∀ j, w.heap.size ≤ (⟨R, j, none⟩ : Addr).block := fun j => by show w.heap.size ≤ R; rw [HRR.out]; omega
  exact bodyPost_ret (v := .tuple #[.agg #[.slice (some ⟨(A8 .st).b, (A8 .st).o, none⟩) c (A8 .st).c, .slice (some ⟨(A8 .va).b, (A8 .va).o, none⟩) c (A8 .va).c, .slice (some ⟨(A8 .wt).b, (A8 .wt).o, none⟩) c (A8 .wt).c, .slice (some ⟨(A8 .ho).b, (A8 .ho).o, none⟩) l (A8 .ho).c, .slice (some ⟨(A8 .di).b, (A8 .di).o, none⟩) l (A8 .di).c, .slice (some ⟨(A8 .bu).b, (A8 .bu).o, none⟩) l (A8 .bu).c, .slice p8 L.length c8], .int .i64 7]) (by simp [results, Tryz.results9, go_sem, *]) rfl ⟨_, rfl, wk_out H8.out HKR5.out HRB.out rfl, Nw.wk H8.out HB4.out.size, ((((((HB5.out.setCell (hle 0) _).setCell (hle 1) _).setCell (hle 2) _).setCell (hle 3) _).setCell (hle 4) _).setCell (hle 5) _).setCell (hle 6) _⟩
end Go.Proofs.YtmeomdfmljanhaaGreat.Pg
/- A system that a call answered, stored in a variable that was made ahead of the call. -/
namespace Go.Proofs.YtmeomdfmljanhaaGreat.Pg
set_option linter.unusedVariables false
open Go.ChangeShapes Go.WideShapes Go.ChangeAt Go.RowKit

theorem z7_not {w : World} {R : Nat} (hR : Blk w R #[.slice none 0 0, .slice none 0 0, .slice none 0 0, .slice none 0 0, .slice none 0 0, .slice none 0 0, .slice none 0 0]) (j : Nat) {v : Value} (h : w.cell? ⟨R, j, none⟩ = some v) : v = .slice none 0 0 := by
  rw [hR.c] at h
  rcases (by omega : j = 0 ∨ j = 1 ∨ j = 2 ∨ j = 3 ∨ j = 4 ∨ j = 5 ∨ j = 6 ∨ 7 ≤ j) with x | x | x | x | x | x | x | x
  · subst x; cases h; rfl
  · subst x; cases h; rfl
  · subst x; cases h; rfl
  · subst x; cases h; rfl
  · subst x; cases h; rfl
  · subst x; cases h; rfl
  · subst x; cases h; rfl
  · rw [Array.getElem?_eq_none (by simpa using x)] at h; cases h
theorem Mem.apart {w : World} {c l : Nat} {A : Tg → Pa} {F : Pr.Fs} {pv f : Value} (h : Mem w 0 c l A F pv f) {R : Nat} (hR : Blk w R #[.slice none 0 0, .slice none 0 0, .slice none 0 0, .slice none 0 0, .slice none 0 0, .slice none 0 0, .slice none 0 0]) (t : Tg) (h0 : 0 < t.sz 0 c l) : (A t).b ≠ R := fun e => by
  have h1 := h.cell t 0 h0
  rw [e] at h1
  have h2 := z7_not hR _ h1
  cases t <;> first | cases h2 | cases h0
theorem pl_apart {w : World} {p : Option Addr} {xs : List Value} {L : List (List Nat)} (h : Pl w p xs L) {R : Nat} (hR : Blk w R #[.slice none 0 0, .slice none 0 0, .slice none 0 0, .slice none 0 0, .slice none 0 0, .slice none 0 0, .slice none 0 0]) (hpos : ∀ k, k < L.length → 0 < (L.getD k []).length) : Off (fun b => b = R) p xs L := by
  refine ⟨fun h0 a e hb => ?_, fun k hk h0 g e hb => ?_⟩
  · obtain ⟨b, off, hlt, e2, h3⟩ := h.sl h0
    rw [e2] at e
    injection e with e
    subst e
    have hb : b = R := hb
    subst hb
    obtain ⟨q, c, e4, _, h2⟩ := h.fs 0 h0
    obtain ⟨b2, off2, hlt2, e3, _⟩ := h2.c (hpos 0 h0)
    have hx : 0 < xs.length := by rw [h.len]; exact h0
    have h5 := h3 0 hx
    rw [List.getElem?_eq_getElem hx] at h5
    have h6 := z7_not hR _ h5
    have h7 : xs.getD 0 vz = xs[0] := by rw [List.getD_eq_getElem?_getD, List.getElem?_eq_getElem hx]; rfl
    rw [h7, h6, e3] at e4
    cases e4
  · obtain ⟨q, c, e2, _, h2⟩ := h.fs k hk
    obtain ⟨b, off, hlt, e3, h4⟩ := h2.c h0
    subst e3
    rw [e2] at e
    injection e with e
    subst e
    have hb : b = R := hb
    subst hb
    have h5 := h4 0 h0
    have h6 := z7_not hR _ h5
    cases h6
theorem sys_out {w : World} {v : Value} {c l : Nat} {Z : Pr.Zz} (h : Sys w v c l Z) {R : Nat} (hR : Blk w R #[.slice none 0 0, .slice none 0 0, .slice none 0 0, .slice none 0 0, .slice none 0 0, .slice none 0 0, .slice none 0 0]) :
    ∃ (A : Tg → Pa) (p : Option Addr) (cp : Nat), v = .agg #[.slice (some ⟨(A .st).b, (A .st).o, none⟩) c (A .st).c, .slice (some ⟨(A .va).b, (A .va).o, none⟩) c (A .va).c, .slice (some ⟨(A .wt).b, (A .wt).o, none⟩) c (A .wt).c, .slice (some ⟨(A .ho).b, (A .ho).o, none⟩) l (A .ho).c, .slice (some ⟨(A .di).b, (A .di).o, none⟩) l (A .di).c, .slice (some ⟨(A .bu).b, (A .bu).o, none⟩) l (A .bu).c, .slice p Z.ms.length cp] ∧ ∀ w', w' = (((((((w.setCell ⟨R, 0, none⟩ (.slice (some ⟨(A .st).b, (A .st).o, none⟩) c (A .st).c)).setCell ⟨R, 1, none⟩ (.slice (some ⟨(A .va).b, (A .va).o, none⟩) c (A .va).c)).setCell ⟨R, 2, none⟩ (.slice (some ⟨(A .wt).b, (A .wt).o, none⟩) c (A .wt).c)).setCell ⟨R, 3, none⟩ (.slice (some ⟨(A .ho).b, (A .ho).o, none⟩) l (A .ho).c)).setCell ⟨R, 4, none⟩ (.slice (some ⟨(A .di).b, (A .di).o, none⟩) l (A .di).c)).setCell ⟨R, 5, none⟩ (.slice (some ⟨(A .bu).b, (A .bu).o, none⟩) l (A .bu).c)).setCell ⟨R, 6, none⟩ (.slice p Z.ms.length cp)) → Sys w' v c l Z := by
  have h0 := h.sv
  obtain ⟨A, p, cp, xs, e, hm, hp⟩ := h0
  have hpos : ∀ k, k < (Z.ms.map fr).length → 0 < ((Z.ms.map fr).getD k []).length := fun k hk => by
    rw [List.getD_eq_getElem?_getD, List.getElem?_eq_getElem hk, List.getElem_map]
    exact Nat.succ_pos _
  have ho := pl_apart hp hR hpos
  rw [List.length_map] at e
  refine ⟨A, p, cp, e, fun w' hw => ⟨?_, h.ok⟩⟩
  have := mem_out (w' := w') hm hp hR (fun t _ h0 => hm.apart hR t h0) ho (by rw [hw, List.length_map])
  rw [e]
  rw [List.length_map] at this
  exact this
end Go.Proofs.YtmeomdfmljanhaaGreat.Pg
