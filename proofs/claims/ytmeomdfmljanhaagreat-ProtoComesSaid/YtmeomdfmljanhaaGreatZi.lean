/- Laid together, in this order: PgY, PgZ, PgZa, PgZb, PgCb, PgCc, PgBa, PgBb, PgBc, PgBd, PgG. -/
import Derived.Test.YtmeomdfmljanhaaGreatZh
import Derived.Deep.RegionLaw
set_option linter.unusedSimpArgs false
set_option linter.unusedVariables false
/- What home enters in the directory. -/
namespace Go.Proofs.YtmeomdfmljanhaaGreat.Pg
set_option linter.unusedVariables false
open Go.ChangeShapes Go.WideShapes Go.ChangeAt Go.RowKit

/-- The directory knows it anew. -/
def entF (F : Pr.Fs) (k : Nat) (E : Di.En) : Pr.Fs := { F with own := Pr.upd F.own k E.owner.toNat, sh := Pr.upd F.sh k (fun j => E.share.getD j false) }
theorem write_ok {E : Di.En} {n : Int} (h0 : 0 ≤ n) (ho : 0 ≤ E.owner) : (Di.writeC E n).owner = ((Di.writeC E n).owner.toNat : Nat) ∧ (Di.writeC E n).share.length = E.share.length := by
  unfold Di.writeC
  split
  · exact ⟨by show n + 1 = ((n + 1).toNat : Nat); omega, by simp⟩
  · exact ⟨by omega, rfl⟩
theorem read_ok {E : Di.En} {n : Int} (h0 : 0 ≤ n) (ho : 0 ≤ E.owner) : (Di.readC E n).owner = ((Di.readC E n).owner.toNat : Nat) ∧ (Di.readC E n).share.length = E.share.length := by
  unfold Di.readC
  split
  · split
    · exact ⟨by show n + 1 = ((n + 1).toNat : Nat); omega, by simp⟩
    · split
      · exact ⟨by omega, rfl⟩
      · exact ⟨by show E.owner = (E.owner.toNat : Nat); omega, by simp⟩
  · exact ⟨by omega, rfl⟩
/-- What is entered, from whom the word comes, and who is told off. -/
def EntO (base B c l : Nat) (F : Pr.Fs) (L : List (List Nat)) (f : Value) (A : Tg → Pa) (p : Option Addr) (cp : Nat) (xs : List Value) (src : Int) (T : List Nat) (w : World) (e : Ending) (w' : World) : Prop :=
  ∃ q d A', e = .returned (.tuple #[.int .i64 src, .slice q T.length d]) ∧ Wk w' base B c l F L f A' p cp xs ∧ (∀ t : Tg, t.wr = true → A' t = A t) ∧ Below base w w' ∧ Sl w' q T.length (Di.inC T) ∧ (∀ R, Zs 8 c l A R → Di.Off R q T.length) ∧ T.length ≤ 100 ∧ (∀ b, b < w.heap.size → b ≠ (A .di).b → w'.heap[b]? = w.heap[b]?) ∧ w.heap.size ≤ w'.heap.size
set_option maxHeartbeats 3000000 in
set_option maxRecDepth 100000 in
theorem enteredW_wk (base B c l : Nat) (F : Pr.Fs) (L : List (List Nat)) (f : Value) (A : Tg → Pa) (p : Option Addr) (cp : Nat) (xs : List Value) (m : Pr.Fm) (w : World) (h : Wk w base B c l F L f A p cp xs) (hk : m.line < l) (hfr : 1 ≤ m.frm ∧ m.frm ≤ c) (hkd : m.kind = 2) :
    Calls Tryz.prog 132 #[.pointer (some ⟨B, 0, none⟩), mV m] w fun e w' => EntO base B c l (entF F m.line (Di.writeC (entE F c m.line) ((m.frm : Int) - 1))) L f A p cp xs (Di.readF (entE F c m.line) ((m.frm : Int) - 1)) (Di.writeT (entE F c m.line) ((m.frm : Int) - 1)) w e w' := by
  obtain ⟨kd, fr, tt, k, fo, ac, ow, nu, va⟩ := m
  have hc4 := h.mem.c4
  have hl16 := h.mem.l16
  have hk : k < l := hk
  obtain ⟨E, hE⟩ : ∃ E, E = w.heap.size := ⟨_, rfl⟩
  obtain ⟨w1, hw1⟩ : ∃ w1, w1 = w.alloc (.cells (mA ⟨kd, fr, tt, k, fo, ac, ow, nu, va⟩) 70) := ⟨_, rfl⟩
  have hb1 : Below w.heap.size w w1 := by rw [hw1]; exact (Below.refl _ _).alloc (Nat.le_refl _) _
  have HM1 : Hid (Blk w1 E (mA ⟨kd, fr, tt, k, fo, ac, ow, nu, va⟩)) := Lib.hid (by rw [hw1, hE]; exact Blk.new _ _ _)
  have H1 := Lib.hid (h.below hb1)
  have HC1 := Lib.hid (h.cB hb1)
  have HLT : Hid (∀ t : Tg, 0 < t.sz 8 c l → (A t).b < E) := Lib.hid (by rw [hE]; exact h.mem.lt)
  have HBE : Hid (B < E) := Lib.hid (by rw [hE]; exact h.hi.2)
  have HW1 := Lib.hid hw1
  have HEE := Lib.hid hE
  clear h hw1 hb1 hE
  have hkI : (k : Int) < (l : Int) := by omega
  have hk0 : (0 : Int) ≤ (k : Int) := by omega
  have hfr : 1 ≤ fr ∧ fr ≤ c := hfr
  have hsub : wrap64 ((fr : Int) - 1) = (fr : Int) - 1 := by unfold wrap64; omega
  have hsub2 : IntKind.i64.wrap ((fr : Int) - 1) = (fr : Int) - 1 := by rw [IntKind.wrap_i64]; omega
  have hk2 : ((kd : Int) == 2) = true := eq_num kd 2 hkd
  have hz1 : 0 < Tg.sz 8 c l .di := by show 0 < l * 2; omega
  have kM := HM1.out.c
  have k4 := H1.out.c4
  have kd0 := H1.out.d0 hk
  have kd1 := H1.out.d1 hk
  have fd : ∀ j, w1.frozen? ⟨(A .di).b, j, none⟩ = false := H1.out.fz .di rfl hz1
  clear hkd
  go_enter Tryz.func132, Tryz.ntmps132
  go_upto_region 1 with fail
  rw [← HEE.out, ← HW1.out]
  refine region_plan (fun V : World => V = w1.drew) 8 [(0, true), (1, true), (2, true), (3, true), (4, true), (5, true), (6, true), (7, true)] (by kernel_rfl) (by kernel_rfl) rfl ?_
  iterate 8
    refine plan_read (v := ?_) rfl (by rfl) ?_ ?_
    rotate_left
    · intro w' hS
      try dsimp only at hS
      go_simp
      try with_reducible rfl
    try simp only [Act.put, List.setIfInBounds_toArray, List.set_cons_zero, List.set_cons_succ, List.getElem_toArray, List.getElem_cons_zero, List.getElem_cons_succ]
  refine plan_nil ?_
  simp only [List.drop_succ_cons, List.drop_zero]
  have HM2 : Hid (Blk w1.drew E (mA ⟨kd, fr, tt, k, fo, ac, ow, nu, va⟩)) := Lib.hid HM1.out.drew
  have HEO : Hid (Di.Eo (Zs 8 c l A) w1.drew.drew (.agg #[.int .i64 (F.own k : Nat), .slice (some ⟨(A (.sh k)).b, (A (.sh k)).o, none⟩) c (A (.sh k)).c]) (entE F c k)) := Lib.hid ((H1.out.ent hk).below ((Below.refl _ _).drew.drew))
  have HOS : Hid (∀ R, Zs 8 c l A R → R < w1.drew.drew.heap.size) := Lib.hid (fun R hR => H1.out.off_old R hR)
  have HN : Hid (E ≠ (A .di).b) := Lib.hid (by have := HLT.out .di hz1; omega)
  have HS3 : Hid (∀ V : World, (∀ b, b < w1.heap.size → b ≠ (A .di).b → V.heap[b]? = w1.heap[b]?) → ∀ j, V.cell? ⟨E, j, none⟩ = (mA ⟨kd, fr, tt, k, fo, ac, ow, nu, va⟩ : Array Value)[j]?) := Lib.hid (fun V hV j => (World.cell?_of_block (a := ⟨E, j, none⟩) (hV E HM1.out.lt HN.out)).trans (HM1.out.c j))
  go_upto_region 3 with fail
  refine region_planF (fun V : World => ∀ j, V.cell? ⟨E, j, none⟩ = (mA ⟨kd, fr, tt, k, fo, ac, ow, nu, va⟩ : Array Value)[j]?) (.read 0 (.read 1 (.read 2 (.read 4 (.read 5 (.read 6 (.one 3 (.one 7 (.read 8 (.read 9 (.read 10 (.read 11 (.read 12 (.one 13 (.one 14 (.one 15 (.one 16 .stop))))))))))))))))) (by kernel_rfl) (by kernel_rfl) (HS3.out _ (fun _ _ _ => rfl)) ?_
  iterate 6
    refine planT_read (v := ?_) rfl (by rfl) ?_ ?_
    rotate_left
    · intro w' hS
      try dsimp only at hS
      go_simp
      try with_reducible rfl
    try simp only [Act.put, List.setIfInBounds_toArray, List.set_cons_zero, List.set_cons_succ, List.getElem_toArray, List.getElem_cons_zero, List.getElem_cons_succ]
  refine planT_one ?_
  refine op_keep (v := .agg #[.int .i64 (F.own k : Nat), .slice (some ⟨(A (.sh k)).b, (A (.sh k)).o, none⟩) c (A (.sh k)).c]) rfl (by rfl) ?_ ?_
  · go_simp
  refine ⟨HS3.out _ (fun _ _ _ => rfl), ?_⟩
  try simp only [Act.put, List.setIfInBounds_toArray, List.set_cons_zero, List.set_cons_succ, List.getElem_toArray, List.getElem_cons_zero, List.getElem_cons_succ]
  refine planT_one ?_
  refine op_call (F := 145) (args := ?_) rfl (by rfl) ?_ ?_
  rotate_left
  · go_simp
    rfl
  refine (Di.write_any (Zs 8 c l A) (.agg #[.int .i64 (F.own k : Nat), .slice (some ⟨(A (.sh k)).b, (A (.sh k)).o, none⟩) c (A (.sh k)).c]) (entE F c k) ((fr : Int) - 1) _ HEO.out HOS.out).mono ?_
  rintro e V2 ⟨ve, q, d, rfl, heo, hsl, hoq, htl, hbe⟩
  obtain ⟨EN, hEN⟩ : ∃ EN, EN = (Di.writeC (entE F c k) ((fr : Int) - 1)) := ⟨_, rfl⟩
  have hok := write_ok (E := entE F c k) (n := (fr : Int) - 1) (by omega) (by show (0 : Int) ≤ (F.own k : Nat); omega)
  rw [← hEN] at heo hok
  rw [ent_len] at hok
  obtain ⟨xp, rfl, hxl, hxc, hxs, hxo⟩ := eo_out heo hok.2 H1.out.mem.c1
  rw [hok.1]
  obtain ⟨O, hO⟩ : ∃ O, O = EN.owner.toNat := ⟨_, rfl⟩
  rw [← hO]
  have hb2 : Below w1.heap.size w1 V2 := (Below.refl _ _).drew.drew.trans hbe
  have H2 := Lib.hid (H1.out.below hb2)
  have HC2 := Lib.hid (HC1.out.trans (hb2.mono (Nat.le_trans H1.out.hi.1 (Nat.le_of_lt H1.out.hi.2))))
  have HB2 := Lib.hid hb2
  have HEN := Lib.hid hEN
  have HO := Lib.hid hO
  have HXP := Lib.hid (And.intro hxl (And.intro hxc (And.intro hxs hxo)))
  have HQ := Lib.hid (And.intro hsl (And.intro hoq htl))
  clear hsl hoq htl
  clear heo hok hxl hxc hxs hxo hb2 hbe hEN hO kd0 kd1 fd
  refine ⟨_, rfl, HS3.out _ (fun b hb _ => HB2.out.block b hb), ?_⟩
  try simp only [Act.put, List.setIfInBounds_toArray, List.set_cons_zero, List.set_cons_succ, List.getElem_toArray, List.getElem_cons_zero, List.getElem_cons_succ]
  have kd0 := H2.out.d0 hk
  have kd1 := H2.out.d1 hk
  have fd : ∀ j, V2.frozen? ⟨(A .di).b, j, none⟩ = false := H2.out.fz .di rfl hz1
  iterate 5
    refine planT_read (v := ?_) rfl (by rfl) ?_ ?_
    rotate_left
    · intro w' hS
      try dsimp only at hS
      go_simp
      try with_reducible rfl
    try simp only [Act.put, List.setIfInBounds_toArray, List.set_cons_zero, List.set_cons_succ, List.getElem_toArray, List.getElem_cons_zero, List.getElem_cons_succ]
  refine planT_one ?_
  refine op_keep (v := .pointer (some ⟨(A .di).b, (A .di).o + k * 2, none⟩)) rfl (by rfl) ?_ ?_
  · go_simp
  refine ⟨HS3.out _ (fun b hb _ => HB2.out.block b hb), ?_⟩
  try simp only [Act.put, List.setIfInBounds_toArray, List.set_cons_zero, List.set_cons_succ, List.getElem_toArray, List.getElem_cons_zero, List.getElem_cons_succ]
  refine planT_one ?_
  refine op_store (w1 := (V2.setCell ⟨(A .di).b, (A .di).o + k * 2, none⟩ (.int .i64 (O : Nat))).setCell ⟨(A .di).b, (A .di).o + k * 2 + 1, none⟩ (.slice (some ⟨xp.b, xp.o, none⟩) c xp.c)) rfl (by rfl) ?_ ?_
  · go_simp
  obtain ⟨w8, hw8⟩ : ∃ w8, w8 = (V2.setCell ⟨(A .di).b, (A .di).o + k * 2, none⟩ (.int .i64 (O : Nat))).setCell ⟨(A .di).b, (A .di).o + k * 2 + 1, none⟩ (.slice (some ⟨xp.b, xp.o, none⟩) c xp.c) := ⟨_, rfl⟩
  have hxd : (A .di).b ≠ xp.b := HXP.out.2.2.2 _ ⟨.di, rfl, hz1, rfl⟩
  have h6 := (H2.out.setO O hk).setD xp (fun j => EN.share.getD j false) hk (fun j hj => by rw [World.cell?_setCell_other _ _ _ _ (by intro e; injection e with e; exact hxd e)]; exact HXP.out.2.2.1 j hj) (by rw [size_set]; exact HXP.out.1) HXP.out.2.1 (fun t ht h0 => HXP.out.2.2.2 _ ⟨t, ht, h0, rfl⟩)
  rw [← Nat.add_assoc] at h6
  have H8 : Hid (Wk w8 base B c l (entF F k EN) L f (upA A (.sh k) xp) p cp xs) := Lib.hid (by rw [hw8]; unfold entF; rw [← HO.out]; exact h6)
  have HC8 : Hid (Below base w w8) := Lib.hid (by rw [hw8]; exact (HC2.out.setCell (p := ⟨(A .di).b, _, none⟩) (H1.out.base .di rfl hz1) _).setCell (p := ⟨(A .di).b, _, none⟩) (H1.out.base .di rfl hz1) _)
  have HF8 : Hid (∀ b, b < w1.heap.size → b ≠ (A .di).b → w8.heap[b]? = w1.heap[b]?) := Lib.hid (fun b hb hn => by rw [hw8]; exact (heap_setCell_other _ ⟨(A .di).b, _, none⟩ b _ hn).trans ((heap_setCell_other _ ⟨(A .di).b, _, none⟩ b _ hn).trans (HB2.out.block b hb)))
  have HZ8 : Hid (w1.heap.size ≤ w8.heap.size) := Lib.hid (by rw [hw8]; simpa using HB2.out.size)
  have HSLQ : Hid (Sl w8 q (Di.writeT (entE F c k) ((fr : Int) - 1)).length (Di.inC (Di.writeT (entE F c k) ((fr : Int) - 1)))) := Lib.hid (by rw [hw8]; exact Di.sl_set (Di.sl_set HQ.out.1 (HQ.out.2.1 _ ⟨.di, rfl, hz1, rfl⟩) _ _) (HQ.out.2.1 _ ⟨.di, rfl, hz1, rfl⟩) _ _)
  rw [← hw8]
  clear hw8 h6 kd0 kd1 fd
  refine ⟨HS3.out _ HF8.out, ?_⟩
  try simp only [Act.put, List.setIfInBounds_toArray, List.set_cons_zero, List.set_cons_succ, List.getElem_toArray, List.getElem_cons_zero, List.getElem_cons_succ]
  refine planT_one ?_
  refine op_keep (v := .int .i64 (Di.readF (entE F c k) ((fr : Int) - 1))) rfl (by rfl) ?_ ?_
  · go_simp
  refine ⟨HS3.out _ HF8.out, ?_⟩
  try simp only [Act.put, List.setIfInBounds_toArray, List.set_cons_zero, List.set_cons_succ, List.getElem_toArray, List.getElem_cons_zero, List.getElem_cons_succ]
  refine planT_one ?_
  refine op_keep (v := .slice q (Di.writeT (entE F c k) ((fr : Int) - 1)).length d) rfl (by rfl) ?_ ?_
  · go_simp
  refine ⟨HS3.out _ HF8.out, ?_⟩
  try simp only [Act.put, List.setIfInBounds_toArray, List.set_cons_zero, List.set_cons_succ, List.getElem_toArray, List.getElem_cons_zero, List.getElem_cons_succ]
  refine planT_stop ?_
  refine NoPanic.normal ?_
  have hsz : w.heap.size ≤ w1.heap.size := by rw [HW1.out, World.size_alloc]; omega
  have hf : ∀ b, b < w.heap.size → b ≠ (A .di).b → w8.heap[b]? = w.heap[b]? := fun b hb hn => (HF8.out b (Nat.lt_of_lt_of_le hb hsz) hn).trans (by
    rw [HW1.out]
    exact ((Below.refl w.heap.size w).alloc (Nat.le_refl _) _).block b hb)
  have HFF := Lib.hid hf
  have HSZ := Lib.hid hsz
  clear hf hsz
  go_wp2_with fail
  exact bodyPost_ret (v := .tuple #[.int .i64 (Di.readF (entE F c k) ((fr : Int) - 1)), .slice q (Di.writeT (entE F c k) ((fr : Int) - 1)).length d]) (by simp [results, Tryz.results132, go_sem, *]) rfl ⟨q, d, upA A (.sh k) xp, rfl, by rw [← HEN.out]; exact H8.out, fun t ht => by unfold upA; rw [if_neg (by intro e; subst e; cases ht)], HC8.out, HSLQ.out, HQ.out.2.1, HQ.out.2.2, HFF.out, Nat.le_trans HSZ.out HZ8.out⟩
set_option maxHeartbeats 3000000 in
set_option maxRecDepth 100000 in
theorem enteredR_wk (base B c l : Nat) (F : Pr.Fs) (L : List (List Nat)) (f : Value) (A : Tg → Pa) (p : Option Addr) (cp : Nat) (xs : List Value) (m : Pr.Fm) (w : World) (h : Wk w base B c l F L f A p cp xs) (hk : m.line < l) (hfr : 1 ≤ m.frm ∧ m.frm ≤ c) (hkd : ¬ m.kind = 2) :
    Calls Tryz.prog 132 #[.pointer (some ⟨B, 0, none⟩), mV m] w fun e w' => EntO base B c l (entF F m.line (Di.readC (entE F c m.line) ((m.frm : Int) - 1))) L f A p cp xs (Di.readF (entE F c m.line) ((m.frm : Int) - 1)) [] w e w' := by
  obtain ⟨kd, fr, tt, k, fo, ac, ow, nu, va⟩ := m
  have hc4 := h.mem.c4
  have hl16 := h.mem.l16
  have hk : k < l := hk
  obtain ⟨E, hE⟩ : ∃ E, E = w.heap.size := ⟨_, rfl⟩
  obtain ⟨w1, hw1⟩ : ∃ w1, w1 = w.alloc (.cells (mA ⟨kd, fr, tt, k, fo, ac, ow, nu, va⟩) 70) := ⟨_, rfl⟩
  have hb1 : Below w.heap.size w w1 := by rw [hw1]; exact (Below.refl _ _).alloc (Nat.le_refl _) _
  have HM1 : Hid (Blk w1 E (mA ⟨kd, fr, tt, k, fo, ac, ow, nu, va⟩)) := Lib.hid (by rw [hw1, hE]; exact Blk.new _ _ _)
  have H1 := Lib.hid (h.below hb1)
  have HC1 := Lib.hid (h.cB hb1)
  have HLT : Hid (∀ t : Tg, 0 < t.sz 8 c l → (A t).b < E) := Lib.hid (by rw [hE]; exact h.mem.lt)
  have HBE : Hid (B < E) := Lib.hid (by rw [hE]; exact h.hi.2)
  have HW1 := Lib.hid hw1
  have HEE := Lib.hid hE
  clear h hw1 hb1 hE
  have hkI : (k : Int) < (l : Int) := by omega
  have hk0 : (0 : Int) ≤ (k : Int) := by omega
  have hfr : 1 ≤ fr ∧ fr ≤ c := hfr
  have hsub : wrap64 ((fr : Int) - 1) = (fr : Int) - 1 := by unfold wrap64; omega
  have hsub2 : IntKind.i64.wrap ((fr : Int) - 1) = (fr : Int) - 1 := by rw [IntKind.wrap_i64]; omega
  have hk2 : ((kd : Int) == 2) = false := ne_num kd 2 hkd
  have hz1 : 0 < Tg.sz 8 c l .di := by show 0 < l * 2; omega
  have kM := HM1.out.c
  have k4 := H1.out.c4
  have kd0 := H1.out.d0 hk
  have kd1 := H1.out.d1 hk
  have fd : ∀ j, w1.frozen? ⟨(A .di).b, j, none⟩ = false := H1.out.fz .di rfl hz1
  clear hkd
  go_enter Tryz.func132, Tryz.ntmps132
  go_upto_region 1 with fail
  rw [← HEE.out, ← HW1.out]
  refine region_plan (fun V : World => V = w1.drew) 8 [(0, true), (1, true), (2, true), (3, true), (4, true), (5, true), (6, true), (7, true)] (by kernel_rfl) (by kernel_rfl) rfl ?_
  iterate 8
    refine plan_read (v := ?_) rfl (by rfl) ?_ ?_
    rotate_left
    · intro w' hS
      try dsimp only at hS
      go_simp
      try with_reducible rfl
    try simp only [Act.put, List.setIfInBounds_toArray, List.set_cons_zero, List.set_cons_succ, List.getElem_toArray, List.getElem_cons_zero, List.getElem_cons_succ]
  refine plan_nil ?_
  simp only [List.drop_succ_cons, List.drop_zero]
  have HM2 : Hid (Blk w1.drew E (mA ⟨kd, fr, tt, k, fo, ac, ow, nu, va⟩)) := Lib.hid HM1.out.drew
  have HEO : Hid (Di.Eo (Zs 8 c l A) w1.drew.drew (.agg #[.int .i64 (F.own k : Nat), .slice (some ⟨(A (.sh k)).b, (A (.sh k)).o, none⟩) c (A (.sh k)).c]) (entE F c k)) := Lib.hid ((H1.out.ent hk).below ((Below.refl _ _).drew.drew))
  have HOS : Hid (∀ R, Zs 8 c l A R → R < w1.drew.drew.heap.size) := Lib.hid (fun R hR => H1.out.off_old R hR)
  have HN : Hid (E ≠ (A .di).b) := Lib.hid (by have := HLT.out .di hz1; omega)
  have HS3 : Hid (∀ V : World, (∀ b, b < w1.heap.size → b ≠ (A .di).b → V.heap[b]? = w1.heap[b]?) → ∀ j, V.cell? ⟨E, j, none⟩ = (mA ⟨kd, fr, tt, k, fo, ac, ow, nu, va⟩ : Array Value)[j]?) := Lib.hid (fun V hV j => (World.cell?_of_block (a := ⟨E, j, none⟩) (hV E HM1.out.lt HN.out)).trans (HM1.out.c j))
  go_upto_region 5 with fail
  refine region_planF (fun V : World => ∀ j, V.cell? ⟨E, j, none⟩ = (mA ⟨kd, fr, tt, k, fo, ac, ow, nu, va⟩ : Array Value)[j]?) (.read 0 (.read 1 (.read 2 (.read 4 (.read 5 (.read 6 (.one 3 (.one 7 (.read 8 (.read 9 (.read 10 (.read 11 (.one 12 (.one 13 (.one 14 .stop))))))))))))))) (by kernel_rfl) (by kernel_rfl) (HS3.out _ (fun _ _ _ => rfl)) ?_
  iterate 6
    refine planT_read (v := ?_) rfl (by rfl) ?_ ?_
    rotate_left
    · intro w' hS
      try dsimp only at hS
      go_simp
      try with_reducible rfl
    try simp only [Act.put, List.setIfInBounds_toArray, List.set_cons_zero, List.set_cons_succ, List.getElem_toArray, List.getElem_cons_zero, List.getElem_cons_succ]
  refine planT_one ?_
  refine op_keep (v := .agg #[.int .i64 (F.own k : Nat), .slice (some ⟨(A (.sh k)).b, (A (.sh k)).o, none⟩) c (A (.sh k)).c]) rfl (by rfl) ?_ ?_
  · go_simp
  refine ⟨HS3.out _ (fun _ _ _ => rfl), ?_⟩
  try simp only [Act.put, List.setIfInBounds_toArray, List.set_cons_zero, List.set_cons_succ, List.getElem_toArray, List.getElem_cons_zero, List.getElem_cons_succ]
  refine planT_one ?_
  refine op_call (F := 146) (args := ?_) rfl (by rfl) ?_ ?_
  rotate_left
  · go_simp
    rfl
  refine (Di.read_any (Zs 8 c l A) (.agg #[.int .i64 (F.own k : Nat), .slice (some ⟨(A (.sh k)).b, (A (.sh k)).o, none⟩) c (A (.sh k)).c]) (entE F c k) ((fr : Int) - 1) _ HEO.out HOS.out).mono ?_
  rintro e V2 ⟨ve, rfl, heo, hbe⟩
  obtain ⟨EN, hEN⟩ : ∃ EN, EN = (Di.readC (entE F c k) ((fr : Int) - 1)) := ⟨_, rfl⟩
  have hok := read_ok (E := entE F c k) (n := (fr : Int) - 1) (by omega) (by show (0 : Int) ≤ (F.own k : Nat); omega)
  rw [← hEN] at heo hok
  rw [ent_len] at hok
  obtain ⟨xp, rfl, hxl, hxc, hxs, hxo⟩ := eo_out heo hok.2 H1.out.mem.c1
  rw [hok.1]
  obtain ⟨O, hO⟩ : ∃ O, O = EN.owner.toNat := ⟨_, rfl⟩
  rw [← hO]
  have hb2 : Below w1.heap.size w1 V2 := (Below.refl _ _).drew.drew.trans hbe
  have H2 := Lib.hid (H1.out.below hb2)
  have HC2 := Lib.hid (HC1.out.trans (hb2.mono (Nat.le_trans H1.out.hi.1 (Nat.le_of_lt H1.out.hi.2))))
  have HB2 := Lib.hid hb2
  have HEN := Lib.hid hEN
  have HO := Lib.hid hO
  have HXP := Lib.hid (And.intro hxl (And.intro hxc (And.intro hxs hxo)))
  clear heo hok hxl hxc hxs hxo hb2 hbe hEN hO kd0 kd1 fd
  refine ⟨_, rfl, HS3.out _ (fun b hb _ => HB2.out.block b hb), ?_⟩
  try simp only [Act.put, List.setIfInBounds_toArray, List.set_cons_zero, List.set_cons_succ, List.getElem_toArray, List.getElem_cons_zero, List.getElem_cons_succ]
  have kd0 := H2.out.d0 hk
  have kd1 := H2.out.d1 hk
  have fd : ∀ j, V2.frozen? ⟨(A .di).b, j, none⟩ = false := H2.out.fz .di rfl hz1
  iterate 4
    refine planT_read (v := ?_) rfl (by rfl) ?_ ?_
    rotate_left
    · intro w' hS
      try dsimp only at hS
      go_simp
      try with_reducible rfl
    try simp only [Act.put, List.setIfInBounds_toArray, List.set_cons_zero, List.set_cons_succ, List.getElem_toArray, List.getElem_cons_zero, List.getElem_cons_succ]
  refine planT_one ?_
  refine op_keep (v := .pointer (some ⟨(A .di).b, (A .di).o + k * 2, none⟩)) rfl (by rfl) ?_ ?_
  · go_simp
  refine ⟨HS3.out _ (fun b hb _ => HB2.out.block b hb), ?_⟩
  try simp only [Act.put, List.setIfInBounds_toArray, List.set_cons_zero, List.set_cons_succ, List.getElem_toArray, List.getElem_cons_zero, List.getElem_cons_succ]
  refine planT_one ?_
  refine op_store (w1 := (V2.setCell ⟨(A .di).b, (A .di).o + k * 2, none⟩ (.int .i64 (O : Nat))).setCell ⟨(A .di).b, (A .di).o + k * 2 + 1, none⟩ (.slice (some ⟨xp.b, xp.o, none⟩) c xp.c)) rfl (by rfl) ?_ ?_
  · go_simp
  obtain ⟨w8, hw8⟩ : ∃ w8, w8 = (V2.setCell ⟨(A .di).b, (A .di).o + k * 2, none⟩ (.int .i64 (O : Nat))).setCell ⟨(A .di).b, (A .di).o + k * 2 + 1, none⟩ (.slice (some ⟨xp.b, xp.o, none⟩) c xp.c) := ⟨_, rfl⟩
  have hxd : (A .di).b ≠ xp.b := HXP.out.2.2.2 _ ⟨.di, rfl, hz1, rfl⟩
  have h6 := (H2.out.setO O hk).setD xp (fun j => EN.share.getD j false) hk (fun j hj => by rw [World.cell?_setCell_other _ _ _ _ (by intro e; injection e with e; exact hxd e)]; exact HXP.out.2.2.1 j hj) (by rw [size_set]; exact HXP.out.1) HXP.out.2.1 (fun t ht h0 => HXP.out.2.2.2 _ ⟨t, ht, h0, rfl⟩)
  rw [← Nat.add_assoc] at h6
  have H8 : Hid (Wk w8 base B c l (entF F k EN) L f (upA A (.sh k) xp) p cp xs) := Lib.hid (by rw [hw8]; unfold entF; rw [← HO.out]; exact h6)
  have HC8 : Hid (Below base w w8) := Lib.hid (by rw [hw8]; exact (HC2.out.setCell (p := ⟨(A .di).b, _, none⟩) (H1.out.base .di rfl hz1) _).setCell (p := ⟨(A .di).b, _, none⟩) (H1.out.base .di rfl hz1) _)
  have HF8 : Hid (∀ b, b < w1.heap.size → b ≠ (A .di).b → w8.heap[b]? = w1.heap[b]?) := Lib.hid (fun b hb hn => by rw [hw8]; exact (heap_setCell_other _ ⟨(A .di).b, _, none⟩ b _ hn).trans ((heap_setCell_other _ ⟨(A .di).b, _, none⟩ b _ hn).trans (HB2.out.block b hb)))
  have HZ8 : Hid (w1.heap.size ≤ w8.heap.size) := Lib.hid (by rw [hw8]; simpa using HB2.out.size)
  rw [← hw8]
  clear hw8 h6 kd0 kd1 fd
  refine ⟨HS3.out _ HF8.out, ?_⟩
  try simp only [Act.put, List.setIfInBounds_toArray, List.set_cons_zero, List.set_cons_succ, List.getElem_toArray, List.getElem_cons_zero, List.getElem_cons_succ]
  refine planT_one ?_
  refine op_keep (v := .int .i64 (Di.readF (entE F c k) ((fr : Int) - 1))) rfl (by rfl) ?_ ?_
  · go_simp
  refine ⟨HS3.out _ HF8.out, ?_⟩
  try simp only [Act.put, List.setIfInBounds_toArray, List.set_cons_zero, List.set_cons_succ, List.getElem_toArray, List.getElem_cons_zero, List.getElem_cons_succ]
  refine planT_stop ?_
  refine NoPanic.normal ?_
  have hsz : w.heap.size ≤ w1.heap.size := by rw [HW1.out, World.size_alloc]; omega
  have hf : ∀ b, b < w.heap.size → b ≠ (A .di).b → w8.heap[b]? = w.heap[b]? := fun b hb hn => (HF8.out b (Nat.lt_of_lt_of_le hb hsz) hn).trans (by
    rw [HW1.out]
    exact ((Below.refl w.heap.size w).alloc (Nat.le_refl _) _).block b hb)
  have HFF := Lib.hid hf
  have HSZ := Lib.hid hsz
  clear hf hsz
  go_wp2_with fail
  exact bodyPost_ret (v := .tuple #[.int .i64 (Di.readF (entE F c k) ((fr : Int) - 1)), .slice none 0 0]) (by simp [results, Tryz.results132, go_sem, *]) rfl ⟨none, 0, upA A (.sh k) xp, rfl, by rw [← HEN.out]; exact H8.out, fun t ht => by unfold upA; rw [if_neg (by intro e; subst e; cases ht)], HC8.out, Sl.empty _ _ _, fun R hR h0 => absurd h0 (Nat.lt_irrefl 0), Nat.zero_le _, HFF.out, Nat.le_trans HSZ.out HZ8.out⟩
end Go.Proofs.YtmeomdfmljanhaaGreat.Pg
/- A core asks at home. -/
namespace Go.Proofs.YtmeomdfmljanhaaGreat.Pg
set_option linter.unusedVariables false
open Go.ChangeShapes Go.WideShapes Go.ChangeAt Go.RowKit

/-- Each that is told off. -/
def invs (frm : Int) (k fr : Nat) (T : List Nat) (L : List (List Nat)) : List (List Nat) := T.foldl (fun L (n : Nat) => sendP L ⟨4, frm, (n : Int) + 1, k, fr, 0, false, 0, 0⟩) L
theorem invs_succ (frm : Int) (k fr : Nat) (T : List Nat) (L : List (List Nat)) (i : Nat) (hi : i < T.length) : invs frm k fr (T.take (i + 1)) L = sendP (invs frm k fr (T.take i) L) ⟨4, frm, (T.getD i 0 : Nat) + 1, k, fr, 0, false, 0, 0⟩ := by
  unfold invs
  rw [List.take_add_one, List.getElem?_eq_getElem hi, List.foldl_append, List.getD_eq_getElem?_getD, List.getElem?_eq_getElem hi]
  rfl
theorem sl_frame {w w' : World} {B n : Nat} {p : Option Addr} {cs : List Value} (h : Sl w p n cs) (hs : w.heap.size ≤ w'.heap.size) (hf : ∀ b, b < w.heap.size → b ≠ B → w'.heap[b]? = w.heap[b]?) (hne : Di.Off B p n) : Sl w' p n cs := fun h0 => by
  obtain ⟨b, off, h1, h2, h3⟩ := h h0
  exact ⟨b, off, Nat.lt_of_lt_of_le h1 hs, h2, fun j hj => (World.cell?_of_block (a := ⟨b, off + j, none⟩) (hf b h1 (hne h0 _ h2))).trans (h3 j hj)⟩
theorem writeT_lt {F : Pr.Fs} {c k : Nat} {n : Int} : ∀ x ∈ Di.writeT (entE F c k) n, x < c := by
  intro x hx
  unfold Di.writeT at hx
  split at hx
  · have := (Di.oth_mem.1 hx).1
    rw [ent_len] at this
    exact this
  · cases hx
/-- What home does for an asking of a line that isn't busy: the directory, and who is told off. -/
def askE (F : Pr.Fs) (c : Nat) (m : Pr.Fm) : Di.En := if m.kind = 2 then Di.writeC (entE F c m.line) ((m.frm : Int) - 1) else Di.readC (entE F c m.line) ((m.frm : Int) - 1)
def askT (F : Pr.Fs) (c : Nat) (m : Pr.Fm) : List Nat := if m.kind = 2 then Di.writeT (entE F c m.line) ((m.frm : Int) - 1) else []
def askB (F : Pr.Fs) (m : Pr.Fm) : Pr.Fs := { F with busy := Pr.upd F.busy m.line m.frm }
def askF (F : Pr.Fs) (c : Nat) (m : Pr.Fm) : Pr.Fs := entF (askB F m) m.line (askE (askB F m) c m)
def msgM (frm : Int) (k : Nat) (x : Pr.Fm) : Msg := ⟨x.kind, frm, x.to, k, x.fr, x.acks, x.own, x.num, x.val⟩
def askedF (F : Pr.Fs) (c : Nat) (m : Pr.Fm) : Pr.Fs := if m.fr = m.frm then (if F.busy m.line = 0 then askF F c m else F) else F
def askedS (F : Pr.Fs) (c : Nat) (m : Pr.Fm) (L : List (List Nat)) (frm : Int) : List (List Nat) :=
  if m.fr = m.frm then
    if F.busy m.line = 0 then sendP (invs frm m.line m.frm (askT (askB F m) c m) L) (msgM frm m.line (ansM (askF F c m) c m (F.own m.line) (askT (askB F m) c m).length))
    else sendP L ⟨10, frm, m.frm, m.line, 0, 0, false, 0, 0⟩
  else L
theorem entered_any (base B c l : Nat) (F : Pr.Fs) (L : List (List Nat)) (f : Value) (A : Tg → Pa) (p : Option Addr) (cp : Nat) (xs : List Value) (m : Pr.Fm) (w : World) (h : Wk w base B c l F L f A p cp xs) (hk : m.line < l) (hfr : 1 ≤ m.frm ∧ m.frm ≤ c) :
    Calls Tryz.prog 132 #[.pointer (some ⟨B, 0, none⟩), mV m] w fun e w' => EntO base B c l (entF F m.line (askE F c m)) L f A p cp xs (Di.readF (entE F c m.line) ((m.frm : Int) - 1)) (askT F c m) w e w' := by
  unfold askE askT
  by_cases hkd : m.kind = 2
  · rw [if_pos hkd, if_pos hkd]; exact enteredW_wk base B c l F L f A p cp xs m w h hk hfr hkd
  · rw [if_neg hkd, if_neg hkd]; exact enteredR_wk base B c l F L f A p cp xs m w h hk hfr hkd
theorem askT_lt {F : Pr.Fs} {c : Nat} {m : Pr.Fm} : ∀ x ∈ askT F c m, x < c := by
  unfold askT
  split
  · exact writeT_lt
  · intro x hx; cases hx
theorem ans_form {F : Pr.Fs} {c : Nat} {m : Pr.Fm} {src offs : Nat} (hh : F.home m.line < 4294967296) : (ansM F c m src offs).frm = 0 ∧ (ansM F c m src offs).line = 0 ∧ (ansM F c m src offs).num < 4294967296 ∧ (ansM F c m src offs).val < 4294967296 := by
  unfold ansM
  split
  · exact ⟨rfl, rfl, by show 0 < 4294967296; omega, hh⟩
  · split
    · exact ⟨rfl, rfl, by show 1 < 4294967296; omega, by show 0 < 4294967296; omega⟩
    · split <;> exact ⟨rfl, rfl, by show 0 < 4294967296; omega, by show 0 < 4294967296; omega⟩
set_option maxHeartbeats 1000000 in
set_option maxRecDepth 100000 in
theorem isAsked_wk (base B c l : Nat) (F : Pr.Fs) (L : List (List Nat)) (m : Pr.Fm) (frm : Int) (w : World) (h : WkX w base B c l F L (sndV B frm m.line)) (hk : m.line < l) (hfr : 1 ≤ m.frm ∧ m.frm ≤ c) (hoc : F.own m.line ≤ c) (hob : F.own m.line = 0 ∨ F.sh m.line (F.own m.line - 1) = false) (hhv : ∀ j, j < l → F.home j < 4294967296) :
    Calls Tryz.prog 109 #[.pointer (some ⟨B, 0, none⟩), mV m] w fun e w' => DoneO base B c l (askedF F c m) (askedS F c m L frm) (sndV B frm m.line) w e w' := by
  obtain ⟨kd, fr, tt, k, fo, ac, ow, nu, va⟩ := m
  obtain ⟨A, p, cp, xs, h⟩ := h
  have hc4 := h.mem.c4
  have hl16 := h.mem.l16
  have hk : k < l := hk
  obtain ⟨E, hE⟩ : ∃ E, E = w.heap.size := ⟨_, rfl⟩
  obtain ⟨w1, hw1⟩ : ∃ w1, w1 = w.alloc (.cells (mA ⟨kd, fr, tt, k, fo, ac, ow, nu, va⟩) 70) := ⟨_, rfl⟩
  have hb1 : Below w.heap.size w w1 := by rw [hw1]; exact (Below.refl _ _).alloc (Nat.le_refl _) _
  have HM1 : Hid (Blk w1 E (mA ⟨kd, fr, tt, k, fo, ac, ow, nu, va⟩)) := Lib.hid (by rw [hw1, hE]; exact Blk.new _ _ _)
  have H1 := Lib.hid (h.below hb1)
  have HC1 := Lib.hid (h.cB hb1)
  have HLT : Hid (∀ t : Tg, 0 < t.sz 8 c l → (A t).b < E) := Lib.hid (by rw [hE]; exact h.mem.lt)
  have HBE : Hid (B < E) := Lib.hid (by rw [hE]; exact h.hi.2)
  have HW1 := Lib.hid hw1
  have HEE := Lib.hid hE
  clear h hw1 hb1 hE
  have hkI : (k : Int) < (l : Int) := by omega
  have hk0 : (0 : Int) ≤ (k : Int) := by omega
  have hfr : 1 ≤ fr ∧ fr ≤ c := hfr
  have hoc : F.own k ≤ c := hoc
  have hhv : ∀ j, j < l → F.home j < 4294967296 := hhv
  obtain ⟨FX, e1⟩ : ∃ FX, FX = askedF F c (⟨kd, fr, tt, k, fo, ac, ow, nu, va⟩ : Pr.Fm) := ⟨_, rfl⟩
  obtain ⟨LX, e2⟩ : ∃ LX, LX = askedS F c (⟨kd, fr, tt, k, fo, ac, ow, nu, va⟩ : Pr.Fm) L frm := ⟨_, rfl⟩
  rw [← e1, ← e2]
  unfold askedF at e1
  unfold askedS at e2
  dsimp only at e1 e2
  have kM := HM1.out.c
  have k5 := H1.out.c5
  have kb := H1.out.bu hk
  by_cases hfo : fo = fr
  · rw [if_pos hfo] at e1 e2
    have df : ((fo : Int) == (fr : Int)) = true := by rw [eq_one]; exact decide_eq_true hfo
    have dn : ((fo : Int) != (fr : Int)) = false := by simp [bne, df]
    have df2 : (fo == fr) = true := by simp [hfo]
    have dn2 : (fo != fr) = false := by simp [bne, df2]
    have HFO := Lib.hid hfo
    clear hfo
    by_cases hb0 : F.busy k = 0
    · rw [if_pos hb0] at e1 e2
      rw [hb0] at kb
      have HB0 := Lib.hid hb0
      have E1 := Lib.hid e1
      have EL := Lib.hid e2
      clear e1 e2 hb0
      have fb : ∀ j, w1.frozen? ⟨(A .bu).b, j, none⟩ = false := H1.out.fz .bu rfl (by show 0 < l; omega)
      go_enter Tryz.func109, Tryz.ntmps109
      go_upto_region 1 with fail
      rw [← HEE.out, ← HW1.out]
      go_upto_region 2 with fail
      refine region_plan (fun V : World => V = w1.drew) 10 [(0, true), (1, true), (2, true), (3, true), (4, true), (5, true), (6, true), (7, true), (8, true), (9, true)] (by kernel_rfl) (by kernel_rfl) rfl ?_
      iterate 10
        refine plan_read (v := ?_) rfl (by rfl) ?_ ?_
        rotate_left
        · intro w' hS
          try dsimp only at hS
          go_simp
          try with_reducible rfl
        try simp only [Act.put, List.setIfInBounds_toArray, List.set_cons_zero, List.set_cons_succ, List.getElem_toArray, List.getElem_cons_zero, List.getElem_cons_succ]
      refine plan_nil ?_
      simp only [List.drop_succ_cons, List.drop_zero]
      go_upto_region 4 with fail
      refine region_plan (fun V : World => V = w1.drew.drew) 10 [(0, true), (1, true), (2, true), (3, true), (4, true), (5, true), (6, true), (7, true), (8, true), (9, true)] (by kernel_rfl) (by kernel_rfl) rfl ?_
      iterate 10
        refine plan_read (v := ?_) rfl (by rfl) ?_ ?_
        rotate_left
        · intro w' hS
          try dsimp only at hS
          go_simp
          try with_reducible rfl
        try simp only [Act.put, List.setIfInBounds_toArray, List.set_cons_zero, List.set_cons_succ, List.getElem_toArray, List.getElem_cons_zero, List.getElem_cons_succ]
      refine plan_nil ?_
      simp only [List.drop_succ_cons, List.drop_zero]
      obtain ⟨w2, hw2⟩ : ∃ w2, w2 = (w1.setCell ⟨(A .bu).b, (A .bu).o + k, none⟩ (.int .i64 (fr : Nat))).drew.drew := ⟨_, rfl⟩
      have H2 : Hid (Wk w2 base B c l (askB F (⟨kd, fr, tt, k, fo, ac, ow, nu, va⟩ : Pr.Fm)) L (sndV B frm k) A p cp xs) := Lib.hid (by rw [hw2]; exact (H1.out.setB fr hk).below ((Below.refl _ _).drew.drew))
      have HC2 : Hid (Below base w w2) := Lib.hid (by rw [hw2]; exact (HC1.out.setCell (p := ⟨(A .bu).b, _, none⟩) (H1.out.base .bu rfl (by show 0 < l; omega)) _).drew.drew)
      have hne : (A .bu).b ≠ E := by have := HLT.out .bu (by show 0 < l; omega); omega
      have HM2 : Hid (Blk w2 E (mA (⟨kd, fr, tt, k, fo, ac, ow, nu, va⟩ : Pr.Fm))) := Lib.hid (by rw [hw2]; exact (HM1.out.other _ hne).drew.drew)
      have HW2 := Lib.hid hw2
      clear hw2
      go_upto_region 5 with fail
      rw [← HW2.out]
      clear kM k5 kb fb HW2
      have kM := HM2.out.c
      go_wp2_with fail
      refine (entered_any base B c l (askB F (⟨kd, fr, tt, k, fo, ac, ow, nu, va⟩ : Pr.Fm)) L _ A p cp xs (⟨kd, fr, tt, k, fo, ac, ow, nu, va⟩ : Pr.Fm) w2 H2.out hk hfr).mono ?_
      rintro e w3 ⟨q, d, A3, rfl, h3, hA3, hb3, hsl, hoq, htl, hf3, hz3⟩
      obtain ⟨T, hT⟩ : ∃ T, T = askT (askB F (⟨kd, fr, tt, k, fo, ac, ow, nu, va⟩ : Pr.Fm)) c (⟨kd, fr, tt, k, fo, ac, ow, nu, va⟩ : Pr.Fm) := ⟨_, rfl⟩
      have HTL : Hid (∀ x ∈ T, x < c) := Lib.hid (by rw [hT]; exact askT_lt)
      rw [← hT] at hsl hoq htl EL ⊢
      have H3 := Lib.hid h3
      have HC3 := Lib.hid (HC2.out.trans hb3)
      have hEd : E ≠ (A .di).b := by have := HLT.out .di (by show 0 < l * 2; omega); omega
      have HM3 := Lib.hid (blk_frame HM2.out hz3 hf3 hEd)
      have HQ := Lib.hid (And.intro hsl (And.intro hoq htl))
      have HOB : Hid (Di.Off B q T.length) := Lib.hid (hoq B ⟨.bx, rfl, by show 0 < 8; omega, by rw [H1.out.at_]⟩)
      have HSRC : Hid (Di.readF (entE (askB F (⟨kd, fr, tt, k, fo, ac, ow, nu, va⟩ : Pr.Fm)) c k) ((fr : Int) - 1) = (F.own k : Nat)) := Lib.hid (by
        have hh : Di.hasE (entE (askB F (⟨kd, fr, tt, k, fo, ac, ow, nu, va⟩ : Pr.Fm)) c k) ((fr : Int) - 1) = true := by
          rw [show (fr : Int) - 1 = ((fr - 1 : Nat) : Int) by omega]
          exact ent_has H1.out.mem.c1 hc4 hoc hob (by omega)
        exact (Di.has_yes hh).1)
      have hsr := HSRC.out
      rw [show Di.readF (entE (askB F (⟨kd, fr, tt, k, fo, ac, ow, nu, va⟩ : Pr.Fm)) c (Pr.Fm.line (⟨kd, fr, tt, k, fo, ac, ow, nu, va⟩ : Pr.Fm))) ((((Pr.Fm.frm (⟨kd, fr, tt, k, fo, ac, ow, nu, va⟩ : Pr.Fm)) : Nat) : Int) - 1) = (F.own k : Nat) from hsr]
      have HTE := Lib.hid hT
      clear h3 hb3 hsl hoq htl hf3 hz3 hT hsr kM
      go_wp2_with fail
      have hcnt : T.length ≤ 100 := HQ.out.2.2
      go_loopw [51] (fun i wr => ∃ (j : Nat) (p5 : Option Addr) (cp5 : Nat) (xs5 : List Value), j ≤ T.length ∧ i = .int .i64 j ∧ Wk wr base B c l (askF F c (⟨kd, fr, tt, k, fo, ac, ow, nu, va⟩ : Pr.Fm)) (invs frm k fr (T.take j) L) (sndV B frm k) A3 p5 cp5 xs5 ∧ Blk wr E (mA (⟨kd, fr, tt, k, fo, ac, ow, nu, va⟩ : Pr.Fm)) ∧ Sl wr q T.length (Di.inC T) ∧ Below base w wr) (fun i _ => T.length - (intOf i).toNat)
      case atStart => exact ⟨0, p, cp, xs, Nat.zero_le _, rfl, H3.out, HM3.out, HQ.out.1, HC3.out⟩
      case round =>
        obtain ⟨j, p5, cp5, xs5, hj, rfl, h5, hm5, hs5, hc5⟩ := hrel
        have H5 := Lib.hid h5
        have HM5 := Lib.hid hm5
        have HS5 := Lib.hid hs5
        have HC5 := Lib.hid hc5
        have k7 := h5.c7
        have kM := hm5.c
        unfold sndV at k7
        by_cases hlt : j < T.length
        · obtain ⟨b, off, hbl, rfl, hcell⟩ := hs5 (by omega)
          have hcj : wr.cell? ⟨b, off + j, none⟩ = some (.int .i64 (T.getD j 0 : Nat)) := by rw [hcell j (by rw [Di.inC_len]; exact hlt), Di.inC_at T j hlt]
          have hxl : T.getD j 0 < c := HTL.out _ (by rw [List.getD_eq_getElem?_getD, List.getElem?_eq_getElem hlt]; exact List.getElem_mem hlt)
          obtain ⟨x, hx⟩ : ∃ x, x = T.getD j 0 := ⟨_, rfl⟩
          rw [← hx] at hcj hxl
          have hw9 : IntKind.i64.wrap ((x : Int) + 1) = (x : Int) + 1 := by rw [IntKind.wrap_i64]; omega
          have HX := Lib.hid hx
          clear h5 hm5 hs5 hc5 hcell hx hxl
          go_upto_region 9 with fail
          refine region_plan (fun V : World => V = wr.drew) 9 [(0, true), (1, true), (2, true), (3, true), (4, true), (5, true), (6, true), (7, true), (8, true)] (by kernel_rfl) (by kernel_rfl) rfl ?_
          iterate 9
            refine plan_read (v := ?_) rfl (by rfl) ?_ ?_
            rotate_left
            · intro w' hS
              try dsimp only at hS
              go_simp
              try with_reducible rfl
            try simp only [Act.put, List.setIfInBounds_toArray, List.set_cons_zero, List.set_cons_succ, List.getElem_toArray, List.getElem_cons_zero, List.getElem_cons_succ]
          refine plan_nil ?_
          simp only [List.drop_succ_cons, List.drop_zero]
          go_wp2_with fail
          refine (send_fr base B c l (askF F c (⟨kd, fr, tt, k, fo, ac, ow, nu, va⟩ : Pr.Fm)) _ _ A3 p5 cp5 xs5 frm k 4 ((x : Int) + 1) fr 0 false 0 0 wr.drew (H5.out.below ((Below.refl _ _).drew)) (by omega) (by omega)).mono ?_
          rintro e w6 ⟨rfl, ⟨p6, cp6, xs6, h6⟩, hb6, hz6, hf6⟩
          have H6 := Lib.hid h6
          have HEB : Hid (E ≠ B) := Lib.hid (by have := HBE.out; omega)
          have HM6 := Lib.hid (blk_frame HM5.out.drew hz6 hf6 HEB.out)
          have HS6 := Lib.hid (sl_frame (w := wr.drew) HS5.out hz6 hf6 HOB.out)
          have HC6 := Lib.hid (HC5.out.drew.trans hb6)
          clear h6 hb6 hz6 hf6 k7 kM hcj
          go_wp2_with fail
          go_roundw
          case rel => exact ⟨j + 1, p6, cp6, xs6, by omega, by go_num, by rw [invs_succ _ _ _ _ _ _ hlt, ← HX.out]; exact H6.out, HM6.out, HS6.out, HC6.out⟩
          case measure => simp [intOf]; omega
        · have hjT : j = T.length := by omega
          subst hjT
          clear h5 hm5 hs5 hc5 hlt
          have HS7 : Hid (∀ V, Below wr.heap.size wr V → V.cell? ⟨B, 7, none⟩ = some (.func (.func 72) #[.agg #[.pointer (some ⟨B, 6, none⟩), .int .i64 frm, .int .i64 k]] #[]) ∧ (∀ j, V.cell? ⟨E, j, none⟩ = (mA (⟨kd, fr, tt, k, fo, ac, ow, nu, va⟩ : Pr.Fm) : Array Value)[j]?)) := Lib.hid (fun V hV => ⟨(H5.out.below hV).c7, (HM5.out.below hV).c⟩)
          go_upto_region 11 with fail
          refine region_plan (fun V : World => V.cell? ⟨B, 7, none⟩ = some (.func (.func 72) #[.agg #[.pointer (some ⟨B, 6, none⟩), .int .i64 frm, .int .i64 k]] #[]) ∧ (∀ j, V.cell? ⟨E, j, none⟩ = (mA (⟨kd, fr, tt, k, fo, ac, ow, nu, va⟩ : Pr.Fm) : Array Value)[j]?)) 10 [(0, true), (1, true), (2, true), (3, true), (4, true), (5, true), (6, true), (7, true), (8, true), (9, false)] (by kernel_rfl) (by kernel_rfl) (HS7.out _ ((Below.refl _ _).drew)) ?_
          iterate 9
            refine plan_read (v := ?_) rfl (by rfl) ?_ ?_
            rotate_left
            · intro w' hS
              try dsimp only at hS
              go_simp
              try with_reducible rfl
            try simp only [Act.put, List.setIfInBounds_toArray, List.set_cons_zero, List.set_cons_succ, List.getElem_toArray, List.getElem_cons_zero, List.getElem_cons_succ]
          refine plan_call (F := 133) (args := ?_) rfl (by rfl) ?_ ?_
          rotate_left
          · go_simp
            rfl
          refine (answer_wk base B c l (askF F c (⟨kd, fr, tt, k, fo, ac, ow, nu, va⟩ : Pr.Fm)) _ _ (⟨kd, fr, tt, k, fo, ac, ow, nu, va⟩ : Pr.Fm) (F.own k) T.length wr.drew ⟨A3, p5, cp5, xs5, H5.out.below ((Below.refl _ _).drew)⟩ hk hfr).mono ?_
          rintro e V2 ⟨rfl, hb2⟩
          refine ⟨_, rfl, HS7.out _ ((Below.refl _ _).drew.trans hb2), ?_⟩
          try simp only [Act.put, List.setIfInBounds_toArray, List.set_cons_zero, List.set_cons_succ, List.getElem_toArray, List.getElem_cons_zero, List.getElem_cons_succ]
          have hbx : Below wr.heap.size wr V2 := (Below.refl _ _).drew.trans hb2
          have H8 := Lib.hid (H5.out.below hbx)
          have HC8 := Lib.hid (HC5.out.trans (hbx.mono (Nat.le_trans H5.out.hi.1 (Nat.le_of_lt H5.out.hi.2))))
          obtain ⟨⟨y0, y1, y2, y3, y4, y5, y6, y7, y8⟩, hy⟩ : ∃ y, y = ansM (askF F c (⟨kd, fr, tt, k, fo, ac, ow, nu, va⟩ : Pr.Fm)) c (⟨kd, fr, tt, k, fo, ac, ow, nu, va⟩ : Pr.Fm) (F.own k) T.length := ⟨_, rfl⟩
          have hy0 : y1 = 0 ∧ y3 = 0 ∧ y7 < 4294967296 ∧ y8 < 4294967296 := by
            have := ans_form (F := askF F c (⟨kd, fr, tt, k, fo, ac, ow, nu, va⟩ : Pr.Fm)) (c := c) (m := (⟨kd, fr, tt, k, fo, ac, ow, nu, va⟩ : Pr.Fm)) (src := F.own k) (offs := T.length) (hhv k hk)
            rw [← hy] at this
            exact this
          obtain ⟨rfl, rfl, hy7, hy8⟩ := hy0
          rw [← hy]
          have HY := Lib.hid hy
          clear hb2 hbx hy k7 kM
          refine plan_nil ?_
          simp only [List.drop_succ_cons, List.drop_zero]
          go_wp2_with fail
          refine (send_wk base B c l (askF F c (⟨kd, fr, tt, k, fo, ac, ow, nu, va⟩ : Pr.Fm)) _ _ frm k y0 y2 y4 y5 y6 y7 y8 V2 ⟨A3, p5, cp5, xs5, H8.out⟩ hy7 hy8).mono ?_
          rintro e w9 ⟨rfl, h9, hb9⟩
          have H9 : Hid (WkX w9 base B c l FX LX (sndV B frm k)) := Lib.hid (by
            rw [EL.out, E1.out, ← HY.out]
            rw [List.take_length] at h9
            exact h9)
          have HB9 := Lib.hid hb9
          clear h9 hb9
          go_wp2_with fail
          exact bodyPost_end (v := .tuple #[]) (by simp [results, Tryz.results109, go_sem, *]) rfl ⟨rfl, H9.out, HC8.out.trans HB9.out⟩
    · rw [if_neg hb0] at e1 e2
      subst FX
      have EL := Lib.hid e2
      have d0 : decide ((0 : Int) < (F.busy k : Int)) = true := by rw [gt_zero, decide_eq_false hb0]; rfl
      have d1 : decide (0 < F.busy k) = true := decide_eq_true (Nat.pos_of_ne_zero hb0)
      have d2 : 0 < F.busy k := Nat.pos_of_ne_zero hb0
      clear e2 hb0
      have k7 := H1.out.c7
      unfold sndV at k7
      go_enter Tryz.func109, Tryz.ntmps109
      go_upto_region 1 with fail
      rw [← HEE.out, ← HW1.out]
      go_upto_region 2 with fail
      refine region_plan (fun V : World => V = w1.drew) 10 [(0, true), (1, true), (2, true), (3, true), (4, true), (5, true), (6, true), (7, true), (8, true), (9, true)] (by kernel_rfl) (by kernel_rfl) rfl ?_
      iterate 10
        refine plan_read (v := ?_) rfl (by rfl) ?_ ?_
        rotate_left
        · intro w' hS
          try dsimp only at hS
          go_simp
          try with_reducible rfl
        try simp only [Act.put, List.setIfInBounds_toArray, List.set_cons_zero, List.set_cons_succ, List.getElem_toArray, List.getElem_cons_zero, List.getElem_cons_succ]
      refine plan_nil ?_
      simp only [List.drop_succ_cons, List.drop_zero]
      go_upto_region 3 with fail
      refine region_plan (fun V : World => V = w1.drew.drew) 7 [(0, true), (1, true), (2, true), (3, true), (4, true), (5, true), (6, true)] (by kernel_rfl) (by kernel_rfl) rfl ?_
      iterate 7
        refine plan_read (v := ?_) rfl (by rfl) ?_ ?_
        rotate_left
        · intro w' hS
          try dsimp only at hS
          go_simp
          try with_reducible rfl
        try simp only [Act.put, List.setIfInBounds_toArray, List.set_cons_zero, List.set_cons_succ, List.getElem_toArray, List.getElem_cons_zero, List.getElem_cons_succ]
      refine plan_nil ?_
      simp only [List.drop_succ_cons, List.drop_zero]
      go_wp2_with fail
      refine (send_wk base B c l F L _ frm k 10 fr 0 0 false 0 0 w1.drew.drew ⟨A, p, cp, xs, H1.out.below ((Below.refl _ _).drew.drew)⟩ (by omega) (by omega)).mono ?_
      rintro e w9 ⟨rfl, h9, hb9⟩
      have H9 : Hid (WkX w9 base B c l F LX (sndV B frm k)) := Lib.hid (by rw [EL.out]; exact h9)
      have HB9 := Lib.hid hb9
      clear h9 hb9 k7 kM
      go_wp2_with fail
      exact bodyPost_ret (v := .tuple #[]) (by simp [results, Tryz.results109, go_sem, *]) rfl ⟨rfl, H9.out, HC1.out.drew.drew.trans HB9.out⟩
  · rw [if_neg hfo] at e1 e2
    subst FX LX
    have df : ((fo : Int) == (fr : Int)) = false := by rw [eq_one]; exact decide_eq_false hfo
    have dn : ((fo : Int) != (fr : Int)) = true := by simp [bne, df]
    have df2 : (fo == fr) = false := by simp [hfo]
    have dn2 : (fo != fr) = true := by simp [bne, df2]
    clear hfo
    go_enter Tryz.func109, Tryz.ntmps109
    go_upto_region 1 with fail
    rw [← HEE.out, ← HW1.out]
    go_wp2_with fail
    exact bodyPost_ret (v := .tuple #[]) (by simp [results, Tryz.results109, go_sem, *]) rfl ⟨rfl, ⟨A, p, cp, xs, H1.out⟩, HC1.out⟩
end Go.Proofs.YtmeomdfmljanhaaGreat.Pg
/- Whatever comes home; whatever comes. -/
namespace Go.Proofs.YtmeomdfmljanhaaGreat.Pg
set_option linter.unusedVariables false
open Go.ChangeShapes Go.WideShapes Go.ChangeAt Go.RowKit

/-- What a system's numbers are. -/
structure Rg (c l : Nat) (F : Pr.Fs) : Prop where
  st : ∀ n, n < c → ∀ k, k < l → F.st n k ≤ 4
  va : ∀ n, n < c → ∀ k, k < l → F.va n k < 4294967296
  line : ∀ n, n < c → (F.wt n).line ≤ l
  need : ∀ n, n < c → (F.wt n).need ≤ 255
  got : ∀ n, n < c → (F.wt n).got ≤ 255
  home : ∀ k, k < l → F.home k < 4294967296
  own : ∀ k, k < l → F.own k ≤ c
  ob : ∀ k, k < l → F.own k = 0 ∨ F.sh k (F.own k - 1) = false
  busy : ∀ k, k < l → F.busy k ≤ c
def homeF (F : Pr.Fs) (c : Nat) (m : Pr.Fm) : Pr.Fs :=
  if m.kind = 1 ∨ m.kind = 2 then askedF F c m else if m.kind = 8 then putF F m else if m.kind = 11 then (if F.busy m.line = m.frm then { F with busy := Pr.upd F.busy m.line 0 } else F) else F
def homeS (F : Pr.Fs) (c : Nat) (m : Pr.Fm) (L : List (List Nat)) (frm : Int) : List (List Nat) :=
  if m.kind = 1 ∨ m.kind = 2 then askedS F c m L frm else if m.kind = 8 then putS F m L frm else L
set_option maxHeartbeats 3000000 in
set_option maxRecDepth 100000 in
theorem comesHome_wk (base B c l : Nat) (F : Pr.Fs) (L : List (List Nat)) (m : Pr.Fm) (frm : Int) (w : World) (h : WkX w base B c l F L (sndV B frm m.line)) (hg : Rg c l F) (hk : m.line < l) (hfr : 1 ≤ m.frm ∧ m.frm ≤ c) (hva : m.val < 4294967296) :
    Calls Tryz.prog 74 #[.pointer (some ⟨B, 0, none⟩), mV m] w fun e w' => DoneO base B c l (homeF F c m) (homeS F c m L frm) (sndV B frm m.line) w e w' := by
  obtain ⟨kd, fr, tt, k, fo, ac, ow, nu, va⟩ := m
  obtain ⟨A, p, cp, xs, h⟩ := h
  have hc4 := h.mem.c4
  have hl16 := h.mem.l16
  have hk : k < l := hk
  obtain ⟨E, hE⟩ : ∃ E, E = w.heap.size := ⟨_, rfl⟩
  obtain ⟨w1, hw1⟩ : ∃ w1, w1 = w.alloc (.cells (mA ⟨kd, fr, tt, k, fo, ac, ow, nu, va⟩) 70) := ⟨_, rfl⟩
  have hb1 : Below w.heap.size w w1 := by rw [hw1]; exact (Below.refl _ _).alloc (Nat.le_refl _) _
  have HM1 : Hid (Blk w1 E (mA ⟨kd, fr, tt, k, fo, ac, ow, nu, va⟩)) := Lib.hid (by rw [hw1, hE]; exact Blk.new _ _ _)
  have H1 := Lib.hid (h.below hb1)
  have HC1 := Lib.hid (h.cB hb1)
  have HLT : Hid (∀ t : Tg, 0 < t.sz 8 c l → (A t).b < E) := Lib.hid (by rw [hE]; exact h.mem.lt)
  have HBE : Hid (B < E) := Lib.hid (by rw [hE]; exact h.hi.2)
  have HW1 := Lib.hid hw1
  have HEE := Lib.hid hE
  clear h hw1 hb1 hE
  have hkI : (k : Int) < (l : Int) := by omega
  have hk0 : (0 : Int) ≤ (k : Int) := by omega
  have hfr : 1 ≤ fr ∧ fr ≤ c := hfr
  have hva : va < 4294967296 := hva
  obtain ⟨FX, e1⟩ : ∃ FX, FX = homeF F c (⟨kd, fr, tt, k, fo, ac, ow, nu, va⟩ : Pr.Fm) := ⟨_, rfl⟩
  obtain ⟨LX, e2⟩ : ∃ LX, LX = homeS F c (⟨kd, fr, tt, k, fo, ac, ow, nu, va⟩ : Pr.Fm) L frm := ⟨_, rfl⟩
  rw [← e1, ← e2]
  unfold homeF at e1
  unfold homeS at e2
  dsimp only at e1 e2
  by_cases h1 : kd = 1
  · rw [if_pos (.inl h1)] at e1 e2
    have d1 : ((kd : Int) == 1) = true := eq_num kd 1 h1
    have HH := Lib.hid h1
    clear h1
    have E1 := Lib.hid e1
    have EL := Lib.hid e2
    clear e1 e2
    go_enter Tryz.func74, Tryz.ntmps74
    go_upto_region 1 with fail
    rw [← HEE.out, ← HW1.out]
    have kM := HM1.out.c
    go_wp2_with fail
    refine (isAsked_wk base B c l F L (⟨kd, fr, tt, k, fo, ac, ow, nu, va⟩ : Pr.Fm) frm w1 ⟨A, p, cp, xs, H1.out⟩ hk hfr (hg.own k hk) (hg.ob k hk) hg.home).mono ?_
    rintro e w4 ⟨rfl, h4, hb4⟩
    have H4 : Hid (WkX w4 base B c l FX LX (sndV B frm k)) := Lib.hid (by rw [E1.out, EL.out]; exact h4)
    have HB4 := Lib.hid hb4
    clear h4 hb4 kM
    go_wp2_with fail
    exact bodyPost_end (v := .tuple #[]) (by simp [results, Tryz.results74, go_sem, *]) rfl ⟨rfl, H4.out, HC1.out.trans HB4.out⟩
  by_cases h2 : kd = 2
  · rw [if_pos (.inr h2)] at e1 e2
    have d1 : ((kd : Int) == 1) = false := ne_num kd 1 h1
    have d2 : ((kd : Int) == 2) = true := eq_num kd 2 h2
    have HH := Lib.hid h1
    clear h1 h2
    have E1 := Lib.hid e1
    have EL := Lib.hid e2
    clear e1 e2
    go_enter Tryz.func74, Tryz.ntmps74
    go_upto_region 1 with fail
    rw [← HEE.out, ← HW1.out]
    have kM := HM1.out.c
    go_wp2_with fail
    refine (isAsked_wk base B c l F L (⟨kd, fr, tt, k, fo, ac, ow, nu, va⟩ : Pr.Fm) frm w1 ⟨A, p, cp, xs, H1.out⟩ hk hfr (hg.own k hk) (hg.ob k hk) hg.home).mono ?_
    rintro e w4 ⟨rfl, h4, hb4⟩
    have H4 : Hid (WkX w4 base B c l FX LX (sndV B frm k)) := Lib.hid (by rw [E1.out, EL.out]; exact h4)
    have HB4 := Lib.hid hb4
    clear h4 hb4 kM
    go_wp2_with fail
    exact bodyPost_end (v := .tuple #[]) (by simp [results, Tryz.results74, go_sem, *]) rfl ⟨rfl, H4.out, HC1.out.trans HB4.out⟩
  rw [if_neg (by rintro (e | e); exact h1 e; exact h2 e)] at e1 e2
  by_cases h8 : kd = 8
  · rw [if_pos h8] at e1 e2
    have d1 : ((kd : Int) == 1) = false := ne_num kd 1 h1
    have d2 : ((kd : Int) == 2) = false := ne_num kd 2 h2
    have d8 : ((kd : Int) == 8) = true := eq_num kd 8 h8
    have HH := Lib.hid h1
    clear h1 h2 h8
    have E1 := Lib.hid e1
    have EL := Lib.hid e2
    clear e1 e2
    go_enter Tryz.func74, Tryz.ntmps74
    go_upto_region 1 with fail
    rw [← HEE.out, ← HW1.out]
    have kM := HM1.out.c
    go_wp2_with fail
    refine (isPut_wk base B c l F L (⟨kd, fr, tt, k, fo, ac, ow, nu, va⟩ : Pr.Fm) frm w1 ⟨A, p, cp, xs, H1.out⟩ hk hfr hva (hg.own k hk) (hg.ob k hk)).mono ?_
    rintro e w4 ⟨rfl, h4, hb4⟩
    have H4 : Hid (WkX w4 base B c l FX LX (sndV B frm k)) := Lib.hid (by rw [E1.out, EL.out]; exact h4)
    have HB4 := Lib.hid hb4
    clear h4 hb4 kM
    go_wp2_with fail
    exact bodyPost_end (v := .tuple #[]) (by simp [results, Tryz.results74, go_sem, *]) rfl ⟨rfl, H4.out, HC1.out.trans HB4.out⟩
  rw [if_neg h8] at e1 e2
  subst LX
  by_cases h11 : kd = 11
  · rw [if_pos h11] at e1
    have d1 : ((kd : Int) == 1) = false := ne_num kd 1 h1
    have d2 : ((kd : Int) == 2) = false := ne_num kd 2 h2
    have d8 : ((kd : Int) == 8) = false := ne_num kd 8 h8
    have d11 : ((kd : Int) == 11) = true := eq_num kd 11 h11
    have HH := Lib.hid h1
    clear h1 h2 h8 h11
    have kM := HM1.out.c
    have k5 := H1.out.c5
    have kb := H1.out.bu hk
    have fb : ∀ j, w1.frozen? ⟨(A .bu).b, j, none⟩ = false := H1.out.fz .bu rfl (by show 0 < l; omega)
    by_cases hb : F.busy k = fr
    · rw [if_pos hb] at e1
      have E1 := Lib.hid e1
      have db : ((F.busy k : Int) == (fr : Int)) = true := by rw [eq_one]; exact decide_eq_true hb
      have HBB := Lib.hid hb
      have db2 : decide (F.busy k = fr) = true := decide_eq_true hb
      have db3 : (F.busy k == fr) = true := by simp [hb]
      clear e1 hb
      go_enter Tryz.func74, Tryz.ntmps74
      go_upto_region 1 with fail
      rw [← HEE.out, ← HW1.out]
      go_upto_region 8 with fail
      refine region_plan (fun V : World => V = w1.drew) 11 [(0, true), (1, true), (2, true), (3, true), (4, true), (5, true), (6, true), (7, true), (8, true), (9, true), (10, true)] (by kernel_rfl) (by kernel_rfl) rfl ?_
      iterate 11
        refine plan_read (v := ?_) rfl (by rfl) ?_ ?_
        rotate_left
        · intro w' hS
          try dsimp only at hS
          go_simp
          try with_reducible rfl
        try simp only [Act.put, List.setIfInBounds_toArray, List.set_cons_zero, List.set_cons_succ, List.getElem_toArray, List.getElem_cons_zero, List.getElem_cons_succ]
      refine plan_nil ?_
      simp only [List.drop_succ_cons, List.drop_zero]
      go_upto_region 9 with fail
      refine region_plan (fun V : World => V = w1.drew.drew) 8 [(0, true), (1, true), (2, true), (3, true), (4, true), (5, true), (6, true), (7, true)] (by kernel_rfl) (by kernel_rfl) rfl ?_
      iterate 8
        refine plan_read (v := ?_) rfl (by rfl) ?_ ?_
        rotate_left
        · intro w' hS
          try dsimp only at hS
          go_simp
          try with_reducible rfl
        try simp only [Act.put, List.setIfInBounds_toArray, List.set_cons_zero, List.set_cons_succ, List.getElem_toArray, List.getElem_cons_zero, List.getElem_cons_succ]
      refine plan_nil ?_
      simp only [List.drop_succ_cons, List.drop_zero]
      have HN := Lib.hid (H1.out.setB 0 hk)
      go_wp2_with fail
      exact bodyPost_end (v := .tuple #[]) (by simp [results, Tryz.results74, go_sem, *]) rfl ⟨rfl, ⟨A, p, cp, xs, by rw [E1.out]; exact HN.out.below ((Below.refl _ _).drew.drew)⟩, (HC1.out.setCell (p := ⟨(A .bu).b, _, none⟩) (H1.out.base .bu rfl (by show 0 < l; omega)) _).drew.drew⟩
    · rw [if_neg hb] at e1
      subst FX
      have db : ((F.busy k : Int) == (fr : Int)) = false := by rw [eq_one]; exact decide_eq_false hb
      have db2 : decide (F.busy k = fr) = false := decide_eq_false hb
      have db3 : (F.busy k == fr) = false := by simp [hb]
      have HBB := Lib.hid hb
      clear hb
      go_enter Tryz.func74, Tryz.ntmps74
      go_upto_region 1 with fail
      rw [← HEE.out, ← HW1.out]
      go_upto_region 8 with fail
      refine region_plan (fun V : World => V = w1.drew) 11 [(0, true), (1, true), (2, true), (3, true), (4, true), (5, true), (6, true), (7, true), (8, true), (9, true), (10, true)] (by kernel_rfl) (by kernel_rfl) rfl ?_
      iterate 11
        refine plan_read (v := ?_) rfl (by rfl) ?_ ?_
        rotate_left
        · intro w' hS
          try dsimp only at hS
          go_simp
          try with_reducible rfl
        try simp only [Act.put, List.setIfInBounds_toArray, List.set_cons_zero, List.set_cons_succ, List.getElem_toArray, List.getElem_cons_zero, List.getElem_cons_succ]
      refine plan_nil ?_
      simp only [List.drop_succ_cons, List.drop_zero]
      go_wp2_with fail
      exact bodyPost_end (v := .tuple #[]) (by simp [results, Tryz.results74, go_sem, *]) rfl ⟨rfl, ⟨A, p, cp, xs, H1.out.below ((Below.refl _ _).drew)⟩, HC1.out.drew⟩
  · rw [if_neg h11] at e1
    subst FX
    have d1 : ((kd : Int) == 1) = false := ne_num kd 1 h1
    have d2 : ((kd : Int) == 2) = false := ne_num kd 2 h2
    have d8 : ((kd : Int) == 8) = false := ne_num kd 8 h8
    have d11 : ((kd : Int) == 11) = false := ne_num kd 11 h11
    have HH := Lib.hid h1
    clear h1 h2 h8 h11
    have kM := HM1.out.c
    go_enter Tryz.func74, Tryz.ntmps74
    go_upto_region 1 with fail
    rw [← HEE.out, ← HW1.out]
    go_wp2_with fail
    exact bodyPost_end (v := .tuple #[]) (by simp [results, Tryz.results74, go_sem, *]) rfl ⟨rfl, ⟨A, p, cp, xs, H1.out⟩, HC1.out⟩
end Go.Proofs.YtmeomdfmljanhaaGreat.Pg
/- Whatever comes. -/
namespace Go.Proofs.YtmeomdfmljanhaaGreat.Pg
set_option linter.unusedVariables false
open Go.ChangeShapes Go.WideShapes Go.ChangeAt Go.RowKit

def comeF (F : Pr.Fs) (c : Nat) (m : Pr.Fm) : Pr.Fs := if m.to = 0 then homeF F c m else coreF F (m.to - 1) m
def comeS (F : Pr.Fs) (c : Nat) (m : Pr.Fm) (L : List (List Nat)) : List (List Nat) := if m.to = 0 then homeS F c m L (m.to : Nat) else coreS F (m.to - 1) m L (m.to : Nat)
set_option maxHeartbeats 3000000 in
set_option maxRecDepth 100000 in
theorem comes_wk (base B c l : Nat) (F : Pr.Fs) (L : List (List Nat)) (m : Pr.Fm) (w : World) (h : WkX w base B c l F L (sndV B (m.to : Nat) m.line)) (hg : Rg c l F) (hk : m.line < l) (hm : m.frm ≤ c ∧ m.to ≤ c ∧ m.fr ≤ c) (hhf : m.to = 0 → 1 ≤ m.frm) (hva : m.val < 4294967296) :
    Calls Tryz.prog 33 #[.pointer (some ⟨B, 0, none⟩), mV m] w fun e w' => DoneO base B c l (comeF F c m) (comeS F c m L) (sndV B (m.to : Nat) m.line) w e w' := by
  obtain ⟨kd, fr, tt, k, fo, ac, ow, nu, va⟩ := m
  obtain ⟨A, p, cp, xs, h⟩ := h
  have hc4 := h.mem.c4
  have hl16 := h.mem.l16
  have hk : k < l := hk
  obtain ⟨E, hE⟩ : ∃ E, E = w.heap.size := ⟨_, rfl⟩
  obtain ⟨w1, hw1⟩ : ∃ w1, w1 = w.alloc (.cells (mA ⟨kd, fr, tt, k, fo, ac, ow, nu, va⟩) 70) := ⟨_, rfl⟩
  have hb1 : Below w.heap.size w w1 := by rw [hw1]; exact (Below.refl _ _).alloc (Nat.le_refl _) _
  have HM1 : Hid (Blk w1 E (mA ⟨kd, fr, tt, k, fo, ac, ow, nu, va⟩)) := Lib.hid (by rw [hw1, hE]; exact Blk.new _ _ _)
  have H1 := Lib.hid (h.below hb1)
  have HC1 := Lib.hid (h.cB hb1)
  have HLT : Hid (∀ t : Tg, 0 < t.sz 8 c l → (A t).b < E) := Lib.hid (by rw [hE]; exact h.mem.lt)
  have HBE : Hid (B < E) := Lib.hid (by rw [hE]; exact h.hi.2)
  have HW1 := Lib.hid hw1
  have HEE := Lib.hid hE
  clear h hw1 hb1 hE
  have hkI : (k : Int) < (l : Int) := by omega
  have hk0 : (0 : Int) ≤ (k : Int) := by omega
  have h : True := trivial
  have hm : fr ≤ c ∧ tt ≤ c ∧ fo ≤ c := hm
  have hva : va < 4294967296 := hva
  have hhf : tt = 0 → 1 ≤ fr := hhf
  show Calls Tryz.prog 33 _ w fun e w' => DoneO base B c l (comeF F c (⟨kd, fr, tt, k, fo, ac, ow, nu, va⟩ : Pr.Fm)) (comeS F c (⟨kd, fr, tt, k, fo, ac, ow, nu, va⟩ : Pr.Fm) L) (sndV B (tt : Nat) k) w e w'
  obtain ⟨FX, e1⟩ : ∃ FX, FX = comeF F c (⟨kd, fr, tt, k, fo, ac, ow, nu, va⟩ : Pr.Fm) := ⟨_, rfl⟩
  obtain ⟨LX, e2⟩ : ∃ LX, LX = comeS F c (⟨kd, fr, tt, k, fo, ac, ow, nu, va⟩ : Pr.Fm) L := ⟨_, rfl⟩
  rw [← e1, ← e2]
  unfold comeF at e1
  unfold comeS at e2
  dsimp only at e1 e2
  have kM := HM1.out.c
  have k2 := H1.out.c2
  have k3 := H1.out.c3
  have d1 : decide ((l : Int) ≤ (k : Int)) = false := decide_eq_false (by omega)
  have d2 : decide ((c : Int) < (fr : Int)) = false := decide_eq_false (by omega)
  have d3 : decide ((c : Int) < (tt : Int)) = false := decide_eq_false (by omega)
  have d4 : decide ((c : Int) < (fo : Int)) = false := decide_eq_false (by omega)
  have f1 : decide (l ≤ k) = false := decide_eq_false (by omega)
  have f2 : decide (c < fr) = false := decide_eq_false (by omega)
  have f3 : decide (c < tt) = false := decide_eq_false (by omega)
  have f4 : decide (c < fo) = false := decide_eq_false (by omega)
  by_cases ht : tt = 0
  · rw [if_pos ht] at e1 e2
    have hf1 := hhf ht
    have g1 : decide ((0 : Int) < (tt : Int)) = false := by rw [gt_zero, decide_eq_true ht]; rfl
    have g2 : decide (0 < tt) = false := decide_eq_false (by omega)
    have g3 : decide ((0 : Int) < (fr : Int)) = true := decide_eq_true (by omega)
    have g4 : decide (0 < fr) = true := decide_eq_true (by omega)
    have E1 := Lib.hid e1
    have EL := Lib.hid e2
    have HT := Lib.hid ht
    clear e1 e2 ht
    go_enter Tryz.func33, Tryz.ntmps33
    go_upto_region 1 with fail
    rw [← HEE.out, ← HW1.out]
    go_upto_region 2 with fail
    refine region_plan (fun V : World => V = w1.drew) 26 [(0, true), (1, true), (2, true), (3, true), (4, true), (5, true), (6, true), (7, true), (8, true), (9, true), (10, true), (11, true), (12, true), (13, true), (14, true), (15, true), (16, true), (17, true), (18, true), (19, true), (20, true), (21, true), (22, true), (23, true), (24, true), (25, true)] (by kernel_rfl) (by kernel_rfl) rfl ?_
    iterate 26
      refine plan_read (v := ?_) rfl (by rfl) ?_ ?_
      rotate_left
      · intro w' hS
        try dsimp only at hS
        go_simp
        try with_reducible rfl
      try simp only [Act.put, List.setIfInBounds_toArray, List.set_cons_zero, List.set_cons_succ, List.getElem_toArray, List.getElem_cons_zero, List.getElem_cons_succ, d1, d2, d3, d4, f1, f2, f3, f4]
    refine plan_nil ?_
    simp only [List.drop_succ_cons, List.drop_zero]
    clear k2 k3
    go_wp2_with fail
    refine (comesHome_wk base B c l F L (⟨kd, fr, tt, k, fo, ac, ow, nu, va⟩ : Pr.Fm) (tt : Nat) w1.drew ⟨A, p, cp, xs, H1.out.below ((Below.refl _ _).drew)⟩ hg hk ⟨hf1, hm.1⟩ hva).mono ?_
    rintro e w4 ⟨rfl, h4, hb4⟩
    have H4 : Hid (WkX w4 base B c l FX LX (sndV B (tt : Nat) k)) := Lib.hid (by rw [E1.out, EL.out]; exact h4)
    have HB4 := Lib.hid hb4
    clear h4 hb4 kM
    go_wp2_with fail
    exact bodyPost_end (v := .tuple #[]) (by simp [results, Tryz.results33, go_sem, *]) rfl ⟨rfl, H4.out, HC1.out.drew.trans HB4.out⟩
  · rw [if_neg ht] at e1 e2
    have g1 : decide ((0 : Int) < (tt : Int)) = true := by rw [gt_zero, decide_eq_false ht]; rfl
    have g2 : decide (0 < tt) = true := decide_eq_true (by omega)
    have hw : wrap64 ((tt : Int) - 1) = ((tt - 1 : Nat) : Int) := by unfold wrap64; omega
    have E1 := Lib.hid e1
    have EL := Lib.hid e2
    have hn : tt - 1 < c := by omega
    obtain ⟨n, hn2⟩ : ∃ n, n = tt - 1 := ⟨_, rfl⟩
    rw [← hn2] at hw hn E1 EL
    have HT := Lib.hid ht
    have HW3 : Hid ((tt : Int) - 1 = (n : Nat)) := Lib.hid (by omega)
    clear e1 e2 ht hn2
    go_enter Tryz.func33, Tryz.ntmps33
    go_upto_region 1 with fail
    rw [← HEE.out, ← HW1.out]
    go_upto_region 2 with fail
    refine region_plan (fun V : World => V = w1.drew) 26 [(0, true), (1, true), (2, true), (3, true), (4, true), (5, true), (6, true), (7, true), (8, true), (9, true), (10, true), (11, true), (12, true), (13, true), (14, true), (15, true), (16, true), (17, true), (18, true), (19, true), (20, true), (21, true), (22, true), (23, true), (24, true), (25, true)] (by kernel_rfl) (by kernel_rfl) rfl ?_
    iterate 26
      refine plan_read (v := ?_) rfl (by rfl) ?_ ?_
      rotate_left
      · intro w' hS
        try dsimp only at hS
        go_simp
        try with_reducible rfl
      try simp only [Act.put, List.setIfInBounds_toArray, List.set_cons_zero, List.set_cons_succ, List.getElem_toArray, List.getElem_cons_zero, List.getElem_cons_succ, d1, d2, d3, d4, f1, f2, f3, f4]
    refine plan_nil ?_
    simp only [List.drop_succ_cons, List.drop_zero]
    clear k2 k3
    go_wp2_with fail
    rw [HW3.out]
    refine (comesToCore_wk base B c l F L (⟨kd, fr, tt, k, fo, ac, ow, nu, va⟩ : Pr.Fm) (tt : Nat) n w1.drew ⟨A, p, cp, xs, H1.out.below ((Below.refl _ _).drew)⟩ hn hk (hg.got n hn) (hg.va n hn k hk)).mono ?_
    rintro e w4 ⟨rfl, h4, hb4⟩
    have H4 : Hid (WkX w4 base B c l FX LX (sndV B (tt : Nat) k)) := Lib.hid (by rw [E1.out, EL.out]; exact h4)
    have HB4 := Lib.hid hb4
    clear h4 hb4 kM
    go_wp2_with fail
    exact bodyPost_end (v := .tuple #[]) (by simp [results, Tryz.results33, go_sem, *]) rfl ⟨rfl, H4.out, HC1.out.drew.trans HB4.out⟩
end Go.Proofs.YtmeomdfmljanhaaGreat.Pg
/- What comes to the home, as the system in plain values has it: all but requests. -/
namespace Go.Proofs.YtmeomdfmljanhaaGreat.Pg
set_option linter.unusedVariables false

theorem upd_keep {α : Type} (f : Nat → α) (k : Nat) : Pr.upd f k (f k) = f := by
  funext j
  unfold Pr.upd
  by_cases e : j = k
  · subst e; simp
  · simp [e]
/-- What is given back. -/
theorem put_act (F : Pr.Fs) (c : Nat) (m : Pr.Fm) (L : List (List Nat)) (h8 : m.kind = 8) : putF F m = (F.atHome c m).1 ∧ putS F m L ((0 : Nat) : Int) = puts L (F.atHome c m).2 := by
  have h12 : ¬ (m.kind = 1 ∨ m.kind = 2) := by omega
  unfold putF putS Pr.Fs.atHome
  simp only [if_neg h12, if_pos h8]
  by_cases hb : F.busy m.line = 0
  · simp only [if_pos hb]
    by_cases ho : F.own m.line = m.frm
    · simp only [if_pos ho]
      exact ⟨trivial, rfl⟩
    · simp only [if_neg ho, upd_keep]
      exact ⟨trivial, rfl⟩
  · simp only [if_neg hb]
    exact ⟨trivial, rfl⟩
/-- All that comes to the home but requests. -/
theorem home_act (F : Pr.Fs) (c : Nat) (m : Pr.Fm) (L : List (List Nat)) (h12 : ¬ (m.kind = 1 ∨ m.kind = 2)) : homeF F c m = (F.atHome c m).1 ∧ homeS F c m L ((0 : Nat) : Int) = puts L (F.atHome c m).2 := by
  unfold homeF homeS
  by_cases h8 : m.kind = 8
  · simp only [if_neg h12, if_pos h8]
    exact put_act F c m L h8
  · unfold Pr.Fs.atHome
    by_cases h11 : m.kind = 11
    · by_cases hb : F.busy m.line = m.frm
      · have hk : m.kind = 11 ∧ F.busy m.line = m.frm := ⟨h11, hb⟩
        simp only [if_neg h12, if_neg h8, if_pos h11, if_pos hb, if_pos hk]
        exact ⟨trivial, rfl⟩
      · have hk : ¬ (m.kind = 11 ∧ F.busy m.line = m.frm) := fun h => hb h.2
        simp only [if_neg h12, if_neg h8, if_pos h11, if_neg hb, if_neg hk]
        exact ⟨trivial, rfl⟩
    · have hk : ¬ (m.kind = 11 ∧ F.busy m.line = m.frm) := fun h => h11 h.1
      simp only [if_neg h12, if_neg h8, if_neg h11, if_neg hk]
      exact ⟨trivial, rfl⟩
/-- Who else shares a line. -/
theorem oth_offs (F : Pr.Fs) (c k n : Nat) : Di.othE (entE F c k) ((n : Nat) : Int) = Pr.offs c n (F.sh k) := by
  unfold Di.othE Di.oth Pr.offs
  rw [ent_len]
  refine List.filter_congr fun j hj => ?_
  have hj := List.mem_range.1 hj
  unfold Di.othB
  rw [ent_get F c k j hj, Bool.and_comm]
  by_cases e : j = n
  · subst e; simp
  · have e2 : ¬ ((j : Nat) : Int) = ((n : Nat) : Int) := by omega
    simp [e, e2]
/-- What is sent to those who are to forget. -/
theorem invs_puts (k n : Nat) (T : List Nat) (L : List (List Nat)) : invs ((0 : Nat) : Int) k (n + 1) T L = puts L (T.map (fun m => ⟨4, 0, m + 1, k, n + 1, 0, false, 0, 0⟩)) := by
  unfold invs puts
  rw [List.foldl_map]
  rfl
theorem puts_append (L : List (List Nat)) (a b : List Pr.Fm) : puts L (a ++ b) = puts (puts L a) b := by
  unfold puts
  rw [List.foldl_append]
theorem rep_getD (n j : Nat) : (List.replicate n false).getD j false = false := by
  rw [List.getD_eq_getElem?_getD]
  by_cases h : j < n
  · rw [List.getElem?_replicate, if_pos h]; rfl
  · rw [List.getElem?_replicate, if_neg h]; rfl
/-- A request to write, at home: what the home is then. -/
theorem ask_write (F : Pr.Fs) (c : Nat) (m : Pr.Fm) (h1 : 1 ≤ c) (h4 : c ≤ 4) (h2 : m.kind = 2) (hf : 1 ≤ m.frm ∧ m.frm ≤ c) (ho : F.own m.line ≤ c) (hb : F.own m.line = 0 ∨ F.sh m.line (F.own m.line - 1) = false) :
    askF F c m = (F.writes c (m.frm - 1) m.line).1 ∧ askT (askB F m) c m = Pr.offs c (m.frm - 1) (F.sh m.line) := by
  obtain ⟨n, hn⟩ : ∃ n, m.frm = n + 1 := ⟨m.frm - 1, by omega⟩
  have hh : Di.hasE (entE (askB F m) c m.line) ((n : Nat) : Int) = true := ent_has (F := askB F m) h1 h4 ho hb (by omega)
  have e1 : (m.frm : Int) - 1 = ((n : Nat) : Int) := by omega
  have e2 : (((n : Nat) : Int) + 1).toNat = n + 1 := by omega
  have e4 : m.frm - 1 = n := by omega
  refine ⟨?_, ?_⟩
  · unfold askF askE
    rw [if_pos h2, e1, e4]
    unfold Di.writeC
    rw [if_pos hh]
    unfold entF Pr.Fs.writes askB
    simp only [e2, hn, rep_getD]
  · unfold askT
    rw [if_pos h2, e1, e4]
    unfold Di.writeT
    rw [if_pos hh]
    exact oth_offs (askB F m) c m.line n
theorem writes_ans (F : Pr.Fs) (c n k : Nat) (m : Pr.Fm) (h1 : 1 ≤ c) (h4 : c ≤ 4) (hn : m.frm = n + 1) (hc : n < c) (hk : m.line = k) : ansB (F.writes c n k).1 c m = true := by
  have ho : (F.writes c n k).1.own k = n + 1 := Pr.upd_same _ _ _
  have hs : ∀ j, (F.writes c n k).1.sh k j = false := fun j => by
    show Pr.upd F.sh k (fun _ => false) k j = false
    rw [Pr.upd_same]
  have hm : Di.mayE (entE (F.writes c n k).1 c k) c = true := ent_may h1 h4 (by rw [ho]; omega) (.inr (hs _))
  have hx : (entE (F.writes c n k).1 c k).share.contains true = false := by
    rw [List.contains_eq_any_beq]
    refine List.any_eq_false.2 fun x hx => ?_
    obtain ⟨j, _, rfl⟩ := List.mem_map.1 hx
    rw [hs]
    simp
  unfold ansB Di.aloneE
  rw [hk, hx, ent_len, hm, ho, hn]
  have : (entE (F.writes c n k).1 c k).owner = ((n + 1 : Nat) : Int) := by show (((F.writes c n k).1.own k : Nat) : Int) = _; rw [ho]
  rw [this]
  simp
  try omega
/-- A request to write, at home: what is sent. -/
theorem sent_write (F : Pr.Fs) (c : Nat) (m : Pr.Fm) (L : List (List Nat)) (h1 : 1 ≤ c) (h4 : c ≤ 4) (h2 : m.kind = 2) (hf : 1 ≤ m.frm ∧ m.frm ≤ c) (ho : F.own m.line ≤ c) (hb : F.own m.line = 0 ∨ F.sh m.line (F.own m.line - 1) = false) :
    sendP (invs ((0 : Nat) : Int) m.line m.frm (askT (askB F m) c m) L) (msgM ((0 : Nat) : Int) m.line (ansM (askF F c m) c m (F.own m.line) (askT (askB F m) c m).length)) = puts L (F.writes c (m.frm - 1) m.line).2 := by
  obtain ⟨n, hn⟩ : ∃ n, m.frm = n + 1 := ⟨m.frm - 1, by omega⟩
  have e4 : m.frm - 1 = n := by omega
  obtain ⟨a1, a2⟩ := ask_write F c m h1 h4 h2 hf ho hb
  have a3 := writes_ans F c n m.line m h1 h4 hn (by omega) rfl
  rw [a1, a2, e4, hn, invs_puts]
  unfold ansM
  rw [a3]
  show _ = puts L (_ ++ _)
  rw [puts_append]
  by_cases h0 : F.own m.line = 0
  · rw [if_pos h0, if_pos h0, hn]
    rfl
  · rw [if_neg h0, if_neg h0]
    by_cases h3 : F.own m.line = n + 1
    · rw [if_pos (h3.trans hn.symm), if_pos h3, hn]
      rfl
    · rw [if_neg (fun h => h3 (h.trans hn)), if_neg h3, if_pos h2, hn]
      rfl
theorem ent_set (F : Pr.Fs) (c k n : Nat) (hn : n < c) (hz : ∀ j, c ≤ j → F.sh k j = false) : (fun j => ((entE F c k).share.set n true).getD j false) = Pr.upd (F.sh k) n true := by
  funext j
  rw [List.getD_eq_getElem?_getD, List.getElem?_set, Pr.upd_eq]
  by_cases e : n = j
  · subst e
    rw [if_pos rfl, if_pos rfl, ent_len, if_pos hn]
    rfl
  · rw [if_neg e, if_neg (fun h => e h.symm), ← List.getD_eq_getElem?_getD]
    by_cases hj : j < c
    · exact ent_get F c k j hj
    · rw [hz j (by omega), List.getD_eq_getElem?_getD, List.getElem?_eq_none (by rw [ent_len]; omega)]
      rfl
/-- A request to read, at home: what the home is then. -/
theorem ask_read (F : Pr.Fs) (c : Nat) (m : Pr.Fm) (h1 : 1 ≤ c) (h4 : c ≤ 4) (h2 : ¬ m.kind = 2) (hf : 1 ≤ m.frm ∧ m.frm ≤ c) (ho : F.own m.line ≤ c) (hb : F.own m.line = 0 ∨ F.sh m.line (F.own m.line - 1) = false) (hne : ¬ F.own m.line = m.frm) (hz : ∀ j, c ≤ j → F.sh m.line j = false) :
    askF F c m = (F.reads c (m.frm - 1) m.line).1 := by
  obtain ⟨n, hn⟩ : ∃ n, m.frm = n + 1 := ⟨m.frm - 1, by omega⟩
  have hh : Di.hasE (entE (askB F m) c m.line) ((n : Nat) : Int) = true := ent_has (F := askB F m) h1 h4 ho hb (by omega)
  have e1 : (m.frm : Int) - 1 = ((n : Nat) : Int) := by omega
  have e2 : (((n : Nat) : Int) + 1).toNat = n + 1 := by omega
  have e4 : m.frm - 1 = n := by omega
  have e5 : Di.othE (entE (askB F m) c m.line) ((n : Nat) : Int) = Pr.offs c n (F.sh m.line) := oth_offs (askB F m) c m.line n
  have e6 : (entE (askB F m) c m.line).owner = ((F.own m.line : Nat) : Int) := rfl
  unfold askF askE
  rw [if_neg h2, e1, e4]
  unfold Di.readC
  rw [if_pos hh]
  by_cases hL : F.own m.line = 0 ∧ Pr.offs c n (F.sh m.line) = []
  · have hl : Di.loneE (entE (askB F m) c m.line) ((n : Nat) : Int) = true := by
      unfold Di.loneE
      rw [e5, e6, hL.1, hL.2]
      rfl
    rw [if_pos hl]
    unfold entF Pr.Fs.reads
    rw [if_pos hL]
    unfold askB
    simp only [e2, hn, rep_getD]
  · have hl : ¬ Di.loneE (entE (askB F m) c m.line) ((n : Nat) : Int) = true := by
      unfold Di.loneE
      rw [e5, e6]
      intro h
      rw [Bool.and_eq_true, decide_eq_true_iff, decide_eq_true_iff] at h
      exact hL ⟨by omega, List.length_eq_zero_iff.1 h.2⟩
    have ho2 : ¬ (entE (askB F m) c m.line).owner = ((n : Nat) : Int) + 1 := by rw [e6]; omega
    have es := ent_set (askB F m) c m.line n (by omega) hz
    have eo : Pr.upd F.own m.line (F.own m.line) = F.own := upd_keep _ _
    rw [if_neg hl, if_neg ho2]
    unfold Pr.Fs.reads
    rw [if_neg hL]
    show ({ askB F m with own := Pr.upd F.own m.line ((F.own m.line : Nat) : Int).toNat, sh := Pr.upd F.sh m.line (fun j => ((entE (askB F m) c m.line).share.set n true).getD j false) } : Pr.Fs) = _
    rw [es, Int.toNat_natCast, eo]
    unfold askB
    rw [hn]
end Go.Proofs.YtmeomdfmljanhaaGreat.Pg
/- What comes, as the system in plain values has it. -/
namespace Go.Proofs.YtmeomdfmljanhaaGreat.Pg
set_option linter.unusedVariables false

/-- A request to read, at home: what is sent. -/
theorem sent_read (F : Pr.Fs) (c : Nat) (m : Pr.Fm) (L : List (List Nat)) (h1 : 1 ≤ c) (h4 : c ≤ 4) (h2 : ¬ m.kind = 2) (hf : 1 ≤ m.frm ∧ m.frm ≤ c) (ho : F.own m.line ≤ c) (hb : F.own m.line = 0 ∨ F.sh m.line (F.own m.line - 1) = false) (hne : ¬ F.own m.line = m.frm) (hz : ∀ j, c ≤ j → F.sh m.line j = false) :
    sendP (invs ((0 : Nat) : Int) m.line m.frm (askT (askB F m) c m) L) (msgM ((0 : Nat) : Int) m.line (ansM (askF F c m) c m (F.own m.line) (askT (askB F m) c m).length)) = puts L (F.reads c (m.frm - 1) m.line).2 := by
  obtain ⟨n, hn⟩ : ∃ n, m.frm = n + 1 := ⟨m.frm - 1, by omega⟩
  have e4 : m.frm - 1 = n := by omega
  have a1 := ask_read F c m h1 h4 h2 hf ho hb hne hz
  have a2 : askT (askB F m) c m = [] := by unfold askT; rw [if_neg h2]
  rw [a1, a2, e4, hn]
  show sendP L _ = _
  by_cases hL : F.own m.line = 0 ∧ Pr.offs c n (F.sh m.line) = []
  · have e : F.reads c n m.line = ((F.writes c n m.line).1, [⟨3, 0, n + 1, m.line, 0, 0, true, 0, F.home m.line⟩]) := by
      unfold Pr.Fs.reads
      rw [if_pos hL]
      rfl
    rw [e]
    show sendP L (msgM _ _ (ansM (F.writes c n m.line).1 c m (F.own m.line) 0)) = _
    unfold ansM
    rw [writes_ans F c n m.line m h1 h4 hn (by omega) rfl, if_pos hL.1, hn]
    rfl
  · have e : F.reads c n m.line = ({ F with busy := Pr.upd F.busy m.line (n + 1), sh := Pr.upd F.sh m.line (Pr.upd (F.sh m.line) n true) }, if F.own m.line = 0 then [⟨3, 0, n + 1, m.line, 0, 0, false, 0, F.home m.line⟩] else [⟨6, 0, F.own m.line, m.line, n + 1, 0, false, 0, 0⟩]) := by
      unfold Pr.Fs.reads
      rw [if_neg hL]
    have ea : ansB ({ F with busy := Pr.upd F.busy m.line (n + 1), sh := Pr.upd F.sh m.line (Pr.upd (F.sh m.line) n true) } : Pr.Fs) c m = false := by
      unfold ansB
      show (decide (F.own m.line = m.frm) && _) = false
      rw [decide_eq_false hne]
      rfl
    rw [e]
    show sendP L (msgM _ _ (ansM _ c m (F.own m.line) 0)) = _
    unfold ansM
    rw [ea]
    by_cases h0 : F.own m.line = 0
    · rw [if_pos h0, if_pos h0, hn]
      rfl
    · rw [if_neg h0, if_neg h0, if_neg hne, if_neg h2, hn]
      rfl
/-- All that comes. -/
theorem come_act (F : Pr.Fs) (c : Nat) (m : Pr.Fm) (L : List (List Nat)) (h1 : 1 ≤ c) (h4 : c ≤ 4)
    (hq : m.to = 0 → m.kind = 1 ∨ m.kind = 2 → m.fr = m.frm → F.busy m.line = 0 → (1 ≤ m.frm ∧ m.frm ≤ c) ∧ F.own m.line ≤ c ∧ (F.own m.line = 0 ∨ F.sh m.line (F.own m.line - 1) = false) ∧ (m.kind = 1 → ¬ F.own m.line = m.frm) ∧ (∀ j, c ≤ j → F.sh m.line j = false)) :
    comeF F c m = (F.act c m).1 ∧ comeS F c m L = puts L (F.act c m).2 := by
  unfold comeF comeS Pr.Fs.act
  by_cases ht : m.to = 0
  · rw [if_pos ht, if_pos ht, if_pos ht, ht]
    by_cases h12 : m.kind = 1 ∨ m.kind = 2
    · unfold homeF homeS Pr.Fs.atHome
      simp only [if_pos h12]
      unfold askedF askedS
      by_cases hfr : m.fr = m.frm
      · simp only [if_pos hfr]
        by_cases hbz : F.busy m.line = 0
        · obtain ⟨q1, q2, q3, q4, q5⟩ := hq ht h12 hfr hbz
          simp only [if_pos hbz]
          by_cases h2 : m.kind = 2
          · simp only [if_pos h2]
            exact ⟨(ask_write F c m h1 h4 h2 q1 q2 q3).1, sent_write F c m L h1 h4 h2 q1 q2 q3⟩
          · simp only [if_neg h2]
            exact ⟨ask_read F c m h1 h4 h2 q1 q2 q3 (q4 (by omega)) q5, sent_read F c m L h1 h4 h2 q1 q2 q3 (q4 (by omega)) q5⟩
        · simp only [if_neg hbz]
          exact ⟨trivial, rfl⟩
      · simp only [if_neg hfr]
        exact ⟨trivial, rfl⟩
    · exact home_act F c m L h12
  · rw [if_neg ht, if_neg ht, if_neg ht]
    have e : ((m.to : Nat) : Int) = ((m.to - 1 + 1 : Nat) : Int) := by omega
    rw [e]
    exact core_act F (m.to - 1) m L
end Go.Proofs.YtmeomdfmljanhaaGreat.Pg
/- That a system may be, where it may: its parts. -/
namespace Go.Proofs.YtmeomdfmljanhaaGreat.Pg
set_option linter.unusedVariables false
open Go.ChangeShapes Go.WideShapes Go.ChangeAt Go.RowKit

theorem upTo_t (a b : Nat) (w : World) (h : a ≤ b) : Calls Tryz.prog 85 #[.int .i64 a, .int .i64 b] w fun e w' => e = .returned (.bool true) ∧ w' = w := by
  have d1 : decide ((0 : Int) ≤ (a : Int)) = true := decide_eq_true (by omega)
  have d2 : decide ((a : Int) ≤ (b : Int)) = true := decide_eq_true (by omega)
  have d3 : decide (a ≤ b) = true := decide_eq_true h
  go_enter Tryz.func85, Tryz.ntmps85
  go_wp2_with fail
  go_ret
  exact ⟨rfl, rfl⟩
theorem mayBe_t (c l : Nat) (w : World) (h1 : 1 ≤ c) (h2 : c ≤ 4) (h3 : 1 ≤ l) (h4 : l ≤ 16) : Calls Tryz.prog 51 #[.int .i64 c, .int .i64 l] w fun e w' => e = .returned (.bool true) ∧ w' = w := by
  have d1 : decide ((1 : Int) ≤ (c : Int)) = true := decide_eq_true (by omega)
  have d2 : decide ((c : Int) ≤ 4) = true := decide_eq_true (by omega)
  have d3 : decide ((1 : Int) ≤ (l : Int)) = true := decide_eq_true (by omega)
  have d4 : decide ((l : Int) ≤ 16) = true := decide_eq_true (by omega)
  go_enter Tryz.func51, Tryz.ntmps51
  go_wp2_with fail
  go_ret
  exact ⟨rfl, rfl⟩
theorem stOk_t (x : Nat) (w : World) (h : x ≤ 4) : Calls Tryz.prog 90 #[.int .i64 x] w fun e w' => e = .returned (.bool false) ∧ w' = w := by
  have HU := Lib.hid (fun w => upTo_t x 4 w h)
  go_enter Tryz.func90, Tryz.ntmps90
  go_wp2_with fail
  refine (HU.out w).mono ?_
  rintro e w' ⟨rfl, rfl⟩
  go_wp2_with fail
  go_ret
  exact ⟨rfl, rfl⟩
set_option maxHeartbeats 2000000 in
set_option maxRecDepth 100000 in
theorem index_st (b o n cc : Nat) (g : Nat → Nat) (w : World) (hn : n ≤ 100) (hs : ∀ j, j < n → w.cell? ⟨b, o + j, none⟩ = some (.int .i64 (g j : Nat))) (hg : ∀ j, j < n → g j ≤ 4) :
    Calls Tryz.prog 123 #[.slice (some ⟨b, o, none⟩) n cc, .func (.func 90) #[] #[]] w fun e w' => e = .returned (.int .i64 (-1)) ∧ w' = w := by
  have HS := Lib.hid hs
  clear hs
  go_enter Tryz.func123, Tryz.ntmps123
  go_wp2
  go_loop [8] (fun i => ∃ k : Nat, k ≤ n ∧ i = .int .i64 k) (fun i => n - (intOf i).toNat)
  case atStart => exact ⟨0, Nat.zero_le _, rfl⟩
  case round =>
    obtain ⟨k, hk, rfl⟩ := hrel
    by_cases hlt : k < n
    · have hck := HS.out k hlt
      have h4 := hg k hlt
      obtain ⟨x, hx⟩ : ∃ x, x = g k := ⟨_, rfl⟩
      rw [← hx] at hck h4
      clear hx
      go_wp2_with (first | (go_at_call 90; refine (stOk_t x _ h4).mono ?_; rintro e w' ⟨rfl, rfl⟩))
      go_round
      case rel => exact ⟨k + 1, by omega, by go_num⟩
      case measure => simp [intOf]; omega
    · go_wp2
      go_ret
      exact ⟨rfl, rfl⟩
theorem contains_st (b o n cc : Nat) (g : Nat → Nat) (w : World) (hn : n ≤ 100) (hs : ∀ j, j < n → w.cell? ⟨b, o + j, none⟩ = some (.int .i64 (g j : Nat))) (hg : ∀ j, j < n → g j ≤ 4) :
    Calls Tryz.prog 89 #[.slice (some ⟨b, o, none⟩) n cc, .func (.func 90) #[] #[]] w fun e w' => e = .returned (.bool false) ∧ w' = w := by
  have HI := Lib.hid (index_st b o n cc g w hn hs hg)
  clear hs hg
  go_enter Tryz.func89, Tryz.ntmps89
  go_wp2_with (first | (go_at_call 123; refine HI.out.mono ?_; rintro e w' ⟨rfl, rfl⟩))
  go_ret
  exact ⟨rfl, rfl⟩
theorem rowOk_i (q : Option Addr) (l cc b : Nat) (w : World) (hl : l ≤ 100) (hb : w.cell? ⟨b, 0, none⟩ = some (.int .i64 (l : Nat))) : Calls Tryz.prog 120 #[.slice q l cc, .pointer (some ⟨b, 0, none⟩)] w fun e w' => e = .returned (.bool false) ∧ w' = w := by
  go_enter Tryz.func120, Tryz.ntmps120
  go_wp2_with fail
  go_ret
  exact ⟨rfl, rfl⟩
set_option maxHeartbeats 2000000 in
set_option maxRecDepth 100000 in
theorem indexR_i (b o n cc l bb : Nat) (g : Nat → Pa) (w : World) (hn : n ≤ 100) (hl : l ≤ 100) (hs : ∀ j, j < n → w.cell? ⟨b, o + j, none⟩ = some (.slice (some ⟨(g j).b, (g j).o, none⟩) l (g j).c)) (hb : w.cell? ⟨bb, 0, none⟩ = some (.int .i64 (l : Nat))) :
    Calls Tryz.prog 138 #[.slice (some ⟨b, o, none⟩) n cc, .func (.func 120) #[] #[.pointer (some ⟨bb, 0, none⟩)]] w fun e w' => e = .returned (.int .i64 (-1)) ∧ w' = w := by
  have HS := Lib.hid hs
  clear hs
  go_enter Tryz.func138, Tryz.ntmps138
  go_wp2
  go_loop [8] (fun i => ∃ k : Nat, k ≤ n ∧ i = .int .i64 k) (fun i => n - (intOf i).toNat)
  case atStart => exact ⟨0, Nat.zero_le _, rfl⟩
  case round =>
    obtain ⟨k, hk, rfl⟩ := hrel
    by_cases hlt : k < n
    · have hck := HS.out k hlt
      obtain ⟨x, hx⟩ : ∃ x, x = g k := ⟨_, rfl⟩
      rw [← hx] at hck
      clear hx
      go_wp2_with (first | (go_at_call 120; refine (rowOk_i _ l _ bb _ hl hb).mono ?_; rintro e w' ⟨rfl, rfl⟩))
      go_round
      case rel => exact ⟨k + 1, by omega, by go_num⟩
      case measure => simp [intOf]; omega
    · go_wp2
      go_ret
      exact ⟨rfl, rfl⟩
theorem containsR_i (b o n cc l bb : Nat) (g : Nat → Pa) (w : World) (hn : n ≤ 100) (hl : l ≤ 100) (hs : ∀ j, j < n → w.cell? ⟨b, o + j, none⟩ = some (.slice (some ⟨(g j).b, (g j).o, none⟩) l (g j).c)) (hb : w.cell? ⟨bb, 0, none⟩ = some (.int .i64 (l : Nat))) :
    Calls Tryz.prog 119 #[.slice (some ⟨b, o, none⟩) n cc, .func (.func 120) #[] #[.pointer (some ⟨bb, 0, none⟩)]] w fun e w' => e = .returned (.bool false) ∧ w' = w := by
  have HI := Lib.hid (indexR_i b o n cc l bb g w hn hl hs hb)
  clear hs hb
  go_enter Tryz.func119, Tryz.ntmps119
  go_wp2_with (first | (go_at_call 138; refine HI.out.mono ?_; rintro e w' ⟨rfl, rfl⟩))
  go_ret
  exact ⟨rfl, rfl⟩
set_option maxHeartbeats 2000000 in
theorem hasRows_i (b o n cc l : Nat) (g : Nat → Pa) (w : World) (hn : n ≤ 100) (hl : l ≤ 100) (hs : ∀ j, j < n → w.cell? ⟨b, o + j, none⟩ = some (.slice (some ⟨(g j).b, (g j).o, none⟩) l (g j).c)) (hlt : 0 < n → b < w.heap.size) :
    Calls Tryz.prog 87 #[.slice (some ⟨b, o, none⟩) n cc, .int .i64 n, .int .i64 l] w fun e w' => e = .returned (.bool true) ∧ Below w.heap.size w w' := by
  have hb := (Blk.new w #[.int .i64 (l : Nat)] 3).c 0
  have HC := Lib.hid (containsR_i b o n cc l w.heap.size g (w.alloc (.cells #[.int .i64 (l : Nat)] 3)) hn hl (fun j hj => (((Below.refl w.heap.size w).alloc (Nat.le_refl _) _).cell (p := ⟨b, o + j, none⟩) (hlt (by omega))).trans (hs j hj)) hb)
  clear hs hb
  go_enter Tryz.func87, Tryz.ntmps87
  go_wp2_with fail
  refine HC.out.mono ?_
  rintro e w' ⟨rfl, rfl⟩
  go_wp2_with fail
  go_ret
  exact ⟨rfl, (Below.refl _ _).alloc (Nat.le_refl _) _⟩
theorem rowOk_u (q : Option Addr) (l cc b : Nat) (w : World) (hl : l ≤ 100) (hb : w.cell? ⟨b, 0, none⟩ = some (.int .i64 (l : Nat))) : Calls Tryz.prog 122 #[.slice q l cc, .pointer (some ⟨b, 0, none⟩)] w fun e w' => e = .returned (.bool false) ∧ w' = w := by
  go_enter Tryz.func122, Tryz.ntmps122
  go_wp2_with fail
  go_ret
  exact ⟨rfl, rfl⟩
set_option maxHeartbeats 2000000 in
set_option maxRecDepth 100000 in
theorem indexR_u (b o n cc l bb : Nat) (g : Nat → Pa) (w : World) (hn : n ≤ 100) (hl : l ≤ 100) (hs : ∀ j, j < n → w.cell? ⟨b, o + j, none⟩ = some (.slice (some ⟨(g j).b, (g j).o, none⟩) l (g j).c)) (hb : w.cell? ⟨bb, 0, none⟩ = some (.int .i64 (l : Nat))) :
    Calls Tryz.prog 139 #[.slice (some ⟨b, o, none⟩) n cc, .func (.func 122) #[] #[.pointer (some ⟨bb, 0, none⟩)]] w fun e w' => e = .returned (.int .i64 (-1)) ∧ w' = w := by
  have HS := Lib.hid hs
  clear hs
  go_enter Tryz.func139, Tryz.ntmps139
  go_wp2
  go_loop [8] (fun i => ∃ k : Nat, k ≤ n ∧ i = .int .i64 k) (fun i => n - (intOf i).toNat)
  case atStart => exact ⟨0, Nat.zero_le _, rfl⟩
  case round =>
    obtain ⟨k, hk, rfl⟩ := hrel
    by_cases hlt : k < n
    · have hck := HS.out k hlt
      obtain ⟨x, hx⟩ : ∃ x, x = g k := ⟨_, rfl⟩
      rw [← hx] at hck
      clear hx
      go_wp2_with (first | (go_at_call 122; refine (rowOk_u _ l _ bb _ hl hb).mono ?_; rintro e w' ⟨rfl, rfl⟩))
      go_round
      case rel => exact ⟨k + 1, by omega, by go_num⟩
      case measure => simp [intOf]; omega
    · go_wp2
      go_ret
      exact ⟨rfl, rfl⟩
theorem containsR_u (b o n cc l bb : Nat) (g : Nat → Pa) (w : World) (hn : n ≤ 100) (hl : l ≤ 100) (hs : ∀ j, j < n → w.cell? ⟨b, o + j, none⟩ = some (.slice (some ⟨(g j).b, (g j).o, none⟩) l (g j).c)) (hb : w.cell? ⟨bb, 0, none⟩ = some (.int .i64 (l : Nat))) :
    Calls Tryz.prog 121 #[.slice (some ⟨b, o, none⟩) n cc, .func (.func 122) #[] #[.pointer (some ⟨bb, 0, none⟩)]] w fun e w' => e = .returned (.bool false) ∧ w' = w := by
  have HI := Lib.hid (indexR_u b o n cc l bb g w hn hl hs hb)
  clear hs hb
  go_enter Tryz.func121, Tryz.ntmps121
  go_wp2_with (first | (go_at_call 139; refine HI.out.mono ?_; rintro e w' ⟨rfl, rfl⟩))
  go_ret
  exact ⟨rfl, rfl⟩
set_option maxHeartbeats 2000000 in
theorem hasRows_u (b o n cc l : Nat) (g : Nat → Pa) (w : World) (hn : n ≤ 100) (hl : l ≤ 100) (hs : ∀ j, j < n → w.cell? ⟨b, o + j, none⟩ = some (.slice (some ⟨(g j).b, (g j).o, none⟩) l (g j).c)) (hlt : 0 < n → b < w.heap.size) :
    Calls Tryz.prog 88 #[.slice (some ⟨b, o, none⟩) n cc, .int .i64 n, .int .i64 l] w fun e w' => e = .returned (.bool true) ∧ Below w.heap.size w w' := by
  have hb := (Blk.new w #[.int .i64 (l : Nat)] 3).c 0
  have HC := Lib.hid (containsR_u b o n cc l w.heap.size g (w.alloc (.cells #[.int .i64 (l : Nat)] 3)) hn hl (fun j hj => (((Below.refl w.heap.size w).alloc (Nat.le_refl _) _).cell (p := ⟨b, o + j, none⟩) (hlt (by omega))).trans (hs j hj)) hb)
  clear hs hb
  go_enter Tryz.func88, Tryz.ntmps88
  go_wp2_with fail
  refine HC.out.mono ?_
  rintro e w' ⟨rfl, rfl⟩
  go_wp2_with fail
  go_ret
  exact ⟨rfl, (Below.refl _ _).alloc (Nat.le_refl _) _⟩
end Go.Proofs.YtmeomdfmljanhaaGreat.Pg
/- That a system may be, where it may: Right. -/
namespace Go.Proofs.YtmeomdfmljanhaaGreat.Pg
set_option linter.unusedVariables false
open Go.ChangeShapes Go.WideShapes Go.ChangeAt Go.RowKit

section
set_option maxHeartbeats 4000000
set_option maxRecDepth 100000
theorem Mem.st0 {w : World} {bs c l : Nat} {A : Tg → Pa} {F : Pr.Fs} {pv f : Value} (h : Mem w bs c l A F pv f) (j : Nat) (hj : j < c) : w.cell? ⟨(A .st).b, (A .st).o + j, none⟩ = some (.slice (some ⟨(A (.sr j)).b, (A (.sr j)).o, none⟩) l (A (.sr j)).c) := h.cell .st j hj
theorem Mem.va0 {w : World} {bs c l : Nat} {A : Tg → Pa} {F : Pr.Fs} {pv f : Value} (h : Mem w bs c l A F pv f) (j : Nat) (hj : j < c) : w.cell? ⟨(A .va).b, (A .va).o + j, none⟩ = some (.slice (some ⟨(A (.vr j)).b, (A (.vr j)).o, none⟩) l (A (.vr j)).c) := h.cell .va j hj
theorem Mem.s0 {w : World} {bs c l : Nat} {A : Tg → Pa} {F : Pr.Fs} {pv f : Value} (h : Mem w bs c l A F pv f) {n : Nat} (hn : n < c) (k : Nat) (hk : k < l) : w.cell? ⟨(A (.sr n)).b, (A (.sr n)).o + k, none⟩ = some (.int .i64 (F.st n k : Nat)) := h.cell (.sr n) k (by show k < if n < c then l else 0; rw [if_pos hn]; exact hk)
theorem sized_t {w : World} {bs c l : Nat} {A : Tg → Pa} {F : Pr.Fs} {pv f : Value} (h : Mem w bs c l A F pv f) (p : Option Addr) (m cp : Nat) :
    Calls Tryz.prog 52 #[.agg #[.slice (some ⟨(A .st).b, (A .st).o, none⟩) c (A .st).c, .slice (some ⟨(A .va).b, (A .va).o, none⟩) c (A .va).c, .slice (some ⟨(A .wt).b, (A .wt).o, none⟩) c (A .wt).c, .slice (some ⟨(A .ho).b, (A .ho).o, none⟩) l (A .ho).c, .slice (some ⟨(A .di).b, (A .di).o, none⟩) l (A .di).c, .slice (some ⟨(A .bu).b, (A .bu).o, none⟩) l (A .bu).c, .slice p m cp], .int .i64 c, .int .i64 l] w fun e w' => e = .returned (.bool true) ∧ Below w.heap.size w w' := by
  have hc4 := h.c4
  have hl16 := h.l16
  have HM : Hid (∀ V, Below w.heap.size w V → Mem V bs c l A F pv f) := Lib.hid (fun V hV => h.below hV)
  have hc1 := h.c1
  have hb0 : Below w.heap.size w (w.alloc (.cells #[.slice (some ⟨(A .st).b, (A .st).o, none⟩) c (A .st).c, .slice (some ⟨(A .va).b, (A .va).o, none⟩) c (A .va).c, .slice (some ⟨(A .wt).b, (A .wt).o, none⟩) c (A .wt).c, .slice (some ⟨(A .ho).b, (A .ho).o, none⟩) l (A .ho).c, .slice (some ⟨(A .di).b, (A .di).o, none⟩) l (A .di).c, .slice (some ⟨(A .bu).b, (A .bu).o, none⟩) l (A .bu).c, .slice p m cp] 32)) := (Below.refl _ _).alloc (Nat.le_refl _) _
  have HK : Hid (Blk (w.alloc (.cells #[.slice (some ⟨(A .st).b, (A .st).o, none⟩) c (A .st).c, .slice (some ⟨(A .va).b, (A .va).o, none⟩) c (A .va).c, .slice (some ⟨(A .wt).b, (A .wt).o, none⟩) c (A .wt).c, .slice (some ⟨(A .ho).b, (A .ho).o, none⟩) l (A .ho).c, .slice (some ⟨(A .di).b, (A .di).o, none⟩) l (A .di).c, .slice (some ⟨(A .bu).b, (A .bu).o, none⟩) l (A .bu).c, .slice p m cp] 32)) w.heap.size #[.slice (some ⟨(A .st).b, (A .st).o, none⟩) c (A .st).c, .slice (some ⟨(A .va).b, (A .va).o, none⟩) c (A .va).c, .slice (some ⟨(A .wt).b, (A .wt).o, none⟩) c (A .wt).c, .slice (some ⟨(A .ho).b, (A .ho).o, none⟩) l (A .ho).c, .slice (some ⟨(A .di).b, (A .di).o, none⟩) l (A .di).c, .slice (some ⟨(A .bu).b, (A .bu).o, none⟩) l (A .bu).c, .slice p m cp]) := Lib.hid (Blk.new _ _ _)
  have HB0 := Lib.hid hb0
  clear h hb0
  go_enter Tryz.func52, Tryz.ntmps52
  go_wp2_with fail
  refine (hasRows_i _ _ c _ l (fun j => A (.sr j)) _ (by omega) (by omega) ((HM.out _ HB0.out).st0) (fun _ => (HM.out _ HB0.out).lt .st hc1)).mono ?_
  rintro e w1 ⟨rfl, hb1⟩
  have hbw : Below w.heap.size w w1 := HB0.out.trans (hb1.mono HB0.out.size)
  have kB := (HK.out.below hb1).c
  have HB1 := Lib.hid hbw
  have HK1 := Lib.hid (HK.out.below hb1)
  clear hb1 hbw
  go_wp2_with fail
  refine (hasRows_u _ _ c _ l (fun j => A (.vr j)) _ (by omega) (by omega) ((HM.out _ HB1.out).va0) (fun _ => (HM.out _ HB1.out).lt .va hc1)).mono ?_
  rintro e w2 ⟨rfl, hb2⟩
  have HB2 := Lib.hid (HB1.out.trans (hb2.mono HB1.out.size))
  have HK2 := Lib.hid (HK1.out.below hb2)
  clear hb2 kB
  have kB := HK2.out.c
  go_wp2_with fail
  go_ret
  exact ⟨rfl, HB2.out⟩
theorem cores_t {w : World} {bs c l : Nat} {A : Tg → Pa} {F : Pr.Fs} {pv f : Value} (h : Mem w bs c l A F pv f) (hg : Rg c l F) (p : Option Addr) (m cp : Nat) :
    Calls Tryz.prog 53 #[.agg #[.slice (some ⟨(A .st).b, (A .st).o, none⟩) c (A .st).c, .slice (some ⟨(A .va).b, (A .va).o, none⟩) c (A .va).c, .slice (some ⟨(A .wt).b, (A .wt).o, none⟩) c (A .wt).c, .slice (some ⟨(A .ho).b, (A .ho).o, none⟩) l (A .ho).c, .slice (some ⟨(A .di).b, (A .di).o, none⟩) l (A .di).c, .slice (some ⟨(A .bu).b, (A .bu).o, none⟩) l (A .bu).c, .slice p m cp]] w fun e w' => e = .returned (.bool true) ∧ Below w.heap.size w w' := by
  have hc4 := h.c4
  have hl16 := h.l16
  have HM : Hid (∀ V, Below w.heap.size w V → Mem V bs c l A F pv f) := Lib.hid (fun V hV => h.below hV)
  have hc1 := h.c1
  have hl1 := h.l1
  have hb0 : Below w.heap.size w (w.alloc (.cells #[.slice (some ⟨(A .st).b, (A .st).o, none⟩) c (A .st).c, .slice (some ⟨(A .va).b, (A .va).o, none⟩) c (A .va).c, .slice (some ⟨(A .wt).b, (A .wt).o, none⟩) c (A .wt).c, .slice (some ⟨(A .ho).b, (A .ho).o, none⟩) l (A .ho).c, .slice (some ⟨(A .di).b, (A .di).o, none⟩) l (A .di).c, .slice (some ⟨(A .bu).b, (A .bu).o, none⟩) l (A .bu).c, .slice p m cp] 32)) := (Below.refl _ _).alloc (Nat.le_refl _) _
  have HK : Hid (Blk (w.alloc (.cells #[.slice (some ⟨(A .st).b, (A .st).o, none⟩) c (A .st).c, .slice (some ⟨(A .va).b, (A .va).o, none⟩) c (A .va).c, .slice (some ⟨(A .wt).b, (A .wt).o, none⟩) c (A .wt).c, .slice (some ⟨(A .ho).b, (A .ho).o, none⟩) l (A .ho).c, .slice (some ⟨(A .di).b, (A .di).o, none⟩) l (A .di).c, .slice (some ⟨(A .bu).b, (A .bu).o, none⟩) l (A .bu).c, .slice p m cp] 32)) w.heap.size #[.slice (some ⟨(A .st).b, (A .st).o, none⟩) c (A .st).c, .slice (some ⟨(A .va).b, (A .va).o, none⟩) c (A .va).c, .slice (some ⟨(A .wt).b, (A .wt).o, none⟩) c (A .wt).c, .slice (some ⟨(A .ho).b, (A .ho).o, none⟩) l (A .ho).c, .slice (some ⟨(A .di).b, (A .di).o, none⟩) l (A .di).c, .slice (some ⟨(A .bu).b, (A .bu).o, none⟩) l (A .bu).c, .slice p m cp]) := Lib.hid (Blk.new _ _ _)
  have HB0 := Lib.hid hb0
  clear h hb0
  go_enter Tryz.func53, Tryz.ntmps53
  go_wp2_with fail
  go_loopw [8] (fun i wr => ∃ n : Nat, n ≤ c ∧ i = .int .i64 n ∧ Blk wr w.heap.size #[.slice (some ⟨(A .st).b, (A .st).o, none⟩) c (A .st).c, .slice (some ⟨(A .va).b, (A .va).o, none⟩) c (A .va).c, .slice (some ⟨(A .wt).b, (A .wt).o, none⟩) c (A .wt).c, .slice (some ⟨(A .ho).b, (A .ho).o, none⟩) l (A .ho).c, .slice (some ⟨(A .di).b, (A .di).o, none⟩) l (A .di).c, .slice (some ⟨(A .bu).b, (A .bu).o, none⟩) l (A .bu).c, .slice p m cp] ∧ Below w.heap.size w wr) (fun i _ => c - (intOf i).toNat)
  case atStart => exact ⟨0, Nat.zero_le _, rfl, HK.out, HB0.out⟩
  case round =>
    obtain ⟨n, hnc, rfl, hk0, hb⟩ := hrel
    clear HK HB0
    have HKW := Lib.hid hk0
    have HB := Lib.hid hb
    by_cases hn : n < c
    · have hm := HM.out wr hb
      have kB := hk0.c
      obtain ⟨x0, x1, x2, x3, x4, x5, x6, x7, x8, hx⟩ : ∃ x0 x1 x2 x3 x4 x5 x6 x7 x8, F.wt n = ⟨x0, x1, x2, x3, x4, x5, x6, x7, x8⟩ := ⟨_, _, _, _, _, _, _, _, _, rfl⟩
      have g0 : x0 ≤ l := by have := hg.line n hn; rw [hx] at this; exact this
      have g6 : x6 ≤ 255 := by have := hg.need n hn; rw [hx] at this; exact this
      have g7 : x7 ≤ 255 := by have := hg.got n hn; rw [hx] at this; exact this
      have q0 : wr.cell? ⟨(A .wt).b, (A .wt).o + n * 9, none⟩ = some (.int .i64 (x0 : Nat)) := by have := hm.wt_ hn 0 (by omega); rw [hx] at this; exact this
      have q1 : wr.cell? ⟨(A .wt).b, (A .wt).o + n * 9 + 1, none⟩ = some (.bool x1) := by have := hm.wt_ hn 1 (by omega); rw [hx] at this; exact this
      have q2 : wr.cell? ⟨(A .wt).b, (A .wt).o + n * 9 + 2, none⟩ = some (.bool x2) := by have := hm.wt_ hn 2 (by omega); rw [hx] at this; exact this
      have q3 : wr.cell? ⟨(A .wt).b, (A .wt).o + n * 9 + 3, none⟩ = some (.bool x3) := by have := hm.wt_ hn 3 (by omega); rw [hx] at this; exact this
      have q4 : wr.cell? ⟨(A .wt).b, (A .wt).o + n * 9 + 4, none⟩ = some (.bool x4) := by have := hm.wt_ hn 4 (by omega); rw [hx] at this; exact this
      have q5 : wr.cell? ⟨(A .wt).b, (A .wt).o + n * 9 + 5, none⟩ = some (.bool x5) := by have := hm.wt_ hn 5 (by omega); rw [hx] at this; exact this
      have q6 : wr.cell? ⟨(A .wt).b, (A .wt).o + n * 9 + 6, none⟩ = some (.int .i64 (x6 : Nat)) := by have := hm.wt_ hn 6 (by omega); rw [hx] at this; exact this
      have q7 : wr.cell? ⟨(A .wt).b, (A .wt).o + n * 9 + 7, none⟩ = some (.int .i64 (x7 : Nat)) := by have := hm.wt_ hn 7 (by omega); rw [hx] at this; exact this
      have q8 : wr.cell? ⟨(A .wt).b, (A .wt).o + n * 9 + 8, none⟩ = some (.int .u32 (x8 : Nat)) := by have := hm.wt_ hn 8 (by omega); rw [hx] at this; exact this
      have kr := hm.st0 n hn
      have hlt0 := hm.lt .st hc1
      have hltr := hm.lt (.sr n) (by show 0 < if n < c then l else 0; rw [if_pos hn]; exact hl1)
      have HSR : Hid (∀ V, Below wr.heap.size wr V → ∀ k, k < l → V.cell? ⟨(A (.sr n)).b, (A (.sr n)).o + k, none⟩ = some (.int .i64 (F.st n k : Nat))) := Lib.hid (fun V hV => (hm.below hV).s0 hn)
      have HST := Lib.hid (hg.st n hn)
      obtain ⟨w1, hw1⟩ : ∃ w1, w1 = wr.alloc (.cells #[.int .i64 x0, .bool x1, .bool x2, .bool x3, .bool x4, .bool x5, .int .i64 x6, .int .i64 x7, .int .u32 x8] 86) := ⟨_, rfl⟩
      have hb1 : Below wr.heap.size wr w1 := by rw [hw1]; exact (Below.refl _ _).alloc (Nat.le_refl _) _
      have HE1 : Hid (Blk w1 wr.heap.size #[.int .i64 x0, .bool x1, .bool x2, .bool x3, .bool x4, .bool x5, .int .i64 x6, .int .i64 x7, .int .u32 x8]) := Lib.hid (by rw [hw1]; exact Blk.new _ _ _)
      have HK1 := Lib.hid (hk0.below hb1)
      have HB1 := Lib.hid (hb.trans (hb1.mono hb.size))
      have HBR := Lib.hid hb1
      have kr1 := (hb1.cell (p := ⟨(A .st).b, (A .st).o + n, none⟩) hlt0).trans kr
      have HW1 := Lib.hid hw1
      clear hm hw1 hb1 hb hk0 hx
      go_upto_region 4 with fail
      rw [← HW1.out]
      clear kB kr HW1 q0 q1 q2 q3 q4 q5 q6 q7 q8
      have kB := HK1.out.c
      have kE := HE1.out.c
      go_wp2_with fail
      refine (contains_st _ _ l _ (F.st n) w1 (by omega) (HSR.out _ HBR.out) HST.out).mono ?_
      rintro e w2 ⟨rfl, rfl⟩
      go_wp2_with fail
      refine (upTo_t x0 l _ g0).mono ?_
      rintro e w3 ⟨rfl, rfl⟩
      go_wp2_with fail
      refine (upTo_t x6 255 _ g6).mono ?_
      rintro e w4 ⟨rfl, rfl⟩
      go_wp2_with fail
      refine (upTo_t x7 255 _ g7).mono ?_
      rintro e w5 ⟨rfl, rfl⟩
      go_wp2_with fail
      go_roundw
      case rel => exact ⟨n + 1, by omega, by go_num, HK1.out, HB1.out⟩
      case measure => simp [intOf]; omega
    · go_wp2_with fail
      go_ret
      exact ⟨rfl, HB.out⟩
end
end Go.Proofs.YtmeomdfmljanhaaGreat.Pg
/- That a system may be, where it may: its lines, and all of it. -/
namespace Go.Proofs.YtmeomdfmljanhaaGreat.Pg
set_option linter.unusedVariables false
open Go.ChangeShapes Go.WideShapes Go.ChangeAt Go.RowKit

theorem Mem.ent {w : World} {bs c l : Nat} {A : Tg → Pa} {F : Pr.Fs} {pv f : Value} (h : Mem w bs c l A F pv f) {k : Nat} (hk : k < l) :
    Di.Eo (fun _ => False) w (.agg #[.int .i64 (F.own k : Nat), .slice (some ⟨(A (.sh k)).b, (A (.sh k)).o, none⟩) c (A (.sh k)).c]) (entE F c k) := by
  have hs : 0 < (Tg.sh k).sz bs c l := by show 0 < if k < l then c else 0; rw [if_pos hk]; exact h.c1
  have hc4 := h.c4
  refine ⟨_, c, _, rfl, ⟨ent_len F c k, fun _ => ⟨(A (.sh k)).b, (A (.sh k)).o, h.lt _ hs, rfl, fun j hj => ?_⟩, h.cap _ hs, by omega⟩, fun R hR => hR.elim⟩
  rw [Di.boC_len, ent_len] at hj
  rw [Di.boC_at _ _ (by rw [ent_len]; exact hj), ent_get F c k j hj]
  exact h.cell (.sh k) j (by show j < if k < l then c else 0; rw [if_pos hk]; exact hj)
theorem Mem.d0 {w : World} {bs c l : Nat} {A : Tg → Pa} {F : Pr.Fs} {pv f : Value} (h : Mem w bs c l A F pv f) {k : Nat} (hk : k < l) : w.cell? ⟨(A .di).b, (A .di).o + k * 2, none⟩ = some (.int .i64 (F.own k : Nat)) := by
  refine (h.cell .di (k * 2) (by show k * 2 < l * 2; omega)).trans ?_
  show some (if (k * 2) % 2 = 0 then Value.int .i64 (F.own ((k * 2) / 2) : Nat) else _) = _
  rw [if_pos (by omega), show k * 2 / 2 = k by omega]
theorem Mem.d1 {w : World} {bs c l : Nat} {A : Tg → Pa} {F : Pr.Fs} {pv f : Value} (h : Mem w bs c l A F pv f) {k : Nat} (hk : k < l) : w.cell? ⟨(A .di).b, (A .di).o + k * 2 + 1, none⟩ = some (.slice (some ⟨(A (.sh k)).b, (A (.sh k)).o, none⟩) c (A (.sh k)).c) := by
  refine (h.cell .di (k * 2 + 1) (by show k * 2 + 1 < l * 2; omega)).trans ?_
  show some (if (k * 2 + 1) % 2 = 0 then _ else (A (.sh ((k * 2 + 1) / 2))).sl c) = _
  rw [if_neg (by omega), show (k * 2 + 1) / 2 = k by omega]
  rfl
section
set_option maxHeartbeats 4000000
set_option maxRecDepth 100000
theorem lines_t {w : World} {bs c l : Nat} {A : Tg → Pa} {F : Pr.Fs} {pv f : Value} (h : Mem w bs c l A F pv f) (hg : Rg c l F) (p : Option Addr) (m cp : Nat) :
    Calls Tryz.prog 54 #[.agg #[.slice (some ⟨(A .st).b, (A .st).o, none⟩) c (A .st).c, .slice (some ⟨(A .va).b, (A .va).o, none⟩) c (A .va).c, .slice (some ⟨(A .wt).b, (A .wt).o, none⟩) c (A .wt).c, .slice (some ⟨(A .ho).b, (A .ho).o, none⟩) l (A .ho).c, .slice (some ⟨(A .di).b, (A .di).o, none⟩) l (A .di).c, .slice (some ⟨(A .bu).b, (A .bu).o, none⟩) l (A .bu).c, .slice p m cp]] w fun e w' => e = .returned (.bool true) ∧ Below w.heap.size w w' := by
  have hc4 := h.c4
  have hl16 := h.l16
  have HM : Hid (∀ V, Below w.heap.size w V → Mem V bs c l A F pv f) := Lib.hid (fun V hV => h.below hV)
  have hc1 := h.c1
  have hl1 := h.l1
  have hb0 : Below w.heap.size w (w.alloc (.cells #[.slice (some ⟨(A .st).b, (A .st).o, none⟩) c (A .st).c, .slice (some ⟨(A .va).b, (A .va).o, none⟩) c (A .va).c, .slice (some ⟨(A .wt).b, (A .wt).o, none⟩) c (A .wt).c, .slice (some ⟨(A .ho).b, (A .ho).o, none⟩) l (A .ho).c, .slice (some ⟨(A .di).b, (A .di).o, none⟩) l (A .di).c, .slice (some ⟨(A .bu).b, (A .bu).o, none⟩) l (A .bu).c, .slice p m cp] 32)) := (Below.refl _ _).alloc (Nat.le_refl _) _
  have HK : Hid (Blk (w.alloc (.cells #[.slice (some ⟨(A .st).b, (A .st).o, none⟩) c (A .st).c, .slice (some ⟨(A .va).b, (A .va).o, none⟩) c (A .va).c, .slice (some ⟨(A .wt).b, (A .wt).o, none⟩) c (A .wt).c, .slice (some ⟨(A .ho).b, (A .ho).o, none⟩) l (A .ho).c, .slice (some ⟨(A .di).b, (A .di).o, none⟩) l (A .di).c, .slice (some ⟨(A .bu).b, (A .bu).o, none⟩) l (A .bu).c, .slice p m cp] 32)) w.heap.size #[.slice (some ⟨(A .st).b, (A .st).o, none⟩) c (A .st).c, .slice (some ⟨(A .va).b, (A .va).o, none⟩) c (A .va).c, .slice (some ⟨(A .wt).b, (A .wt).o, none⟩) c (A .wt).c, .slice (some ⟨(A .ho).b, (A .ho).o, none⟩) l (A .ho).c, .slice (some ⟨(A .di).b, (A .di).o, none⟩) l (A .di).c, .slice (some ⟨(A .bu).b, (A .bu).o, none⟩) l (A .bu).c, .slice p m cp]) := Lib.hid (Blk.new _ _ _)
  have HB0 := Lib.hid hb0
  clear h hb0
  go_enter Tryz.func54, Tryz.ntmps54
  go_wp2_with fail
  go_loopw [8] (fun i wr => ∃ n : Nat, n ≤ l ∧ i = .int .i64 n ∧ Blk wr w.heap.size #[.slice (some ⟨(A .st).b, (A .st).o, none⟩) c (A .st).c, .slice (some ⟨(A .va).b, (A .va).o, none⟩) c (A .va).c, .slice (some ⟨(A .wt).b, (A .wt).o, none⟩) c (A .wt).c, .slice (some ⟨(A .ho).b, (A .ho).o, none⟩) l (A .ho).c, .slice (some ⟨(A .di).b, (A .di).o, none⟩) l (A .di).c, .slice (some ⟨(A .bu).b, (A .bu).o, none⟩) l (A .bu).c, .slice p m cp] ∧ Below w.heap.size w wr) (fun i _ => l - (intOf i).toNat)
  case atStart => exact ⟨0, Nat.zero_le _, rfl, HK.out, HB0.out⟩
  case round =>
    obtain ⟨k, hkc, rfl, hk0, hb⟩ := hrel
    clear HK HB0
    have HB := Lib.hid hb
    by_cases hk : k < l
    · have hm := HM.out wr hb
      have kB := hk0.c
      have kd0 := hm.d0 hk
      have kd1 := hm.d1 hk
      have hmay := ent_may hc1 hc4 (hg.own k hk) (hg.ob k hk)
      have hbu := hg.busy k hk
      have hlb := hm.lt .bu hl1
      have hcb : wr.cell? ⟨(A .bu).b, (A .bu).o + k, none⟩ = some (.int .i64 (F.busy k : Nat)) := hm.cell .bu k hk
      obtain ⟨y, hy⟩ : ∃ y, y = F.busy k := ⟨_, rfl⟩
      rw [← hy] at hbu hcb
      obtain ⟨w1, hw1⟩ : ∃ w1, w1 = wr.alloc (.cells #[.int .i64 (F.own k : Nat), .slice (some ⟨(A (.sh k)).b, (A (.sh k)).o, none⟩) c (A (.sh k)).c] 65) := ⟨_, rfl⟩
      have hb1 : Below wr.heap.size wr w1 := by rw [hw1]; exact (Below.refl _ _).alloc (Nat.le_refl _) _
      have hE1 : Blk w1 wr.heap.size #[.int .i64 (F.own k : Nat), .slice (some ⟨(A (.sh k)).b, (A (.sh k)).o, none⟩) c (A (.sh k)).c] := by rw [hw1]; exact Blk.new _ _ _
      have hk1 := hk0.below hb1
      have HK1 := Lib.hid hk1
      have HB1 := Lib.hid (hb.trans (hb1.mono hb.size))
      have HEO := Lib.hid ((hm.ent hk).below (hb1.drew))
      have HMAY := Lib.hid hmay
      have HSP : Hid (∀ V, Below w1.heap.size w1 V → (∀ j, V.cell? ⟨w.heap.size, j, none⟩ = (#[.slice (some ⟨(A .st).b, (A .st).o, none⟩) c (A .st).c, .slice (some ⟨(A .va).b, (A .va).o, none⟩) c (A .va).c, .slice (some ⟨(A .wt).b, (A .wt).o, none⟩) c (A .wt).c, .slice (some ⟨(A .ho).b, (A .ho).o, none⟩) l (A .ho).c, .slice (some ⟨(A .di).b, (A .di).o, none⟩) l (A .di).c, .slice (some ⟨(A .bu).b, (A .bu).o, none⟩) l (A .bu).c, .slice p m cp] : Array Value)[j]?) ∧ (∀ j, V.cell? ⟨wr.heap.size, j, none⟩ = (#[.int .i64 (F.own k : Nat), .slice (some ⟨(A (.sh k)).b, (A (.sh k)).o, none⟩) c (A (.sh k)).c] : Array Value)[j]?) ∧ V.cell? ⟨(A .bu).b, (A .bu).o + k, none⟩ = some (.int .i64 (y : Nat))) := Lib.hid (fun V hV => ⟨(hk1.below hV).c, (hE1.below hV).c, ((hb1.trans (hV.mono hb1.size)).cell (p := ⟨(A .bu).b, (A .bu).o + k, none⟩) hlb).trans hcb⟩)
      have HW1 := Lib.hid hw1
      clear hm hw1 hb1 hE1 hk1 hb hk0 hmay hy hcb hlb
      go_upto_region 4 with fail
      rw [← HW1.out]
      clear kB kd0 kd1 HW1
      refine region_plan (fun V : World => (∀ j, V.cell? ⟨w.heap.size, j, none⟩ = (#[.slice (some ⟨(A .st).b, (A .st).o, none⟩) c (A .st).c, .slice (some ⟨(A .va).b, (A .va).o, none⟩) c (A .va).c, .slice (some ⟨(A .wt).b, (A .wt).o, none⟩) c (A .wt).c, .slice (some ⟨(A .ho).b, (A .ho).o, none⟩) l (A .ho).c, .slice (some ⟨(A .di).b, (A .di).o, none⟩) l (A .di).c, .slice (some ⟨(A .bu).b, (A .bu).o, none⟩) l (A .bu).c, .slice p m cp] : Array Value)[j]?) ∧ (∀ j, V.cell? ⟨wr.heap.size, j, none⟩ = (#[.int .i64 (F.own k : Nat), .slice (some ⟨(A (.sh k)).b, (A (.sh k)).o, none⟩) c (A (.sh k)).c] : Array Value)[j]?) ∧ V.cell? ⟨(A .bu).b, (A .bu).o + k, none⟩ = some (.int .i64 (y : Nat))) 16 [(0, true), (1, true), (2, true), (3, true), (4, false), (5, true), (6, true), (7, true), (8, true), (9, true), (10, true), (11, true), (12, true), (13, true), (14, true), (15, false)] (by kernel_rfl) (by kernel_rfl) (HSP.out _ ((Below.refl _ _).drew)) ?_
      iterate 4
        refine plan_read (v := ?_) rfl (by rfl) ?_ ?_
        rotate_left
        · intro w' hS
          try dsimp only at hS
          go_simp
          try with_reducible rfl
        try simp only [Act.put, List.setIfInBounds_toArray, List.set_cons_zero, List.set_cons_succ, List.getElem_toArray, List.getElem_cons_zero, List.getElem_cons_succ]
      refine plan_call (F := 91) (args := ?_) rfl (by rfl) ?_ ?_
      rotate_left
      · go_simp
        rfl
      refine (Di.may_any (fun _ => False) _ (entE F c k) (c : Int) w1.drew HEO.out).mono ?_
      rintro e V2 ⟨rfl, hb2⟩
      rw [HMAY.out]
      have HB2 := Lib.hid ((Below.refl _ _).drew.trans hb2 : Below w1.heap.size w1 V2)
      clear hb2
      refine ⟨_, rfl, HSP.out _ HB2.out, ?_⟩
      try simp only [Act.put, List.setIfInBounds_toArray, List.set_cons_zero, List.set_cons_succ, List.getElem_toArray, List.getElem_cons_zero, List.getElem_cons_succ]
      iterate 10
        refine plan_read (v := ?_) rfl (by rfl) ?_ ?_
        rotate_left
        · intro w' hS
          try dsimp only at hS
          go_simp
          try with_reducible rfl
        try simp only [Act.put, List.setIfInBounds_toArray, List.set_cons_zero, List.set_cons_succ, List.getElem_toArray, List.getElem_cons_zero, List.getElem_cons_succ]
      refine plan_call (F := 85) (args := ?_) rfl (by rfl) ?_ ?_
      rotate_left
      · go_simp
        rfl
      refine (upTo_t y c V2 hbu).mono ?_
      rintro e V3 ⟨rfl, rfl⟩
      refine ⟨_, rfl, HSP.out _ HB2.out, ?_⟩
      try simp only [Act.put, List.setIfInBounds_toArray, List.set_cons_zero, List.set_cons_succ, List.getElem_toArray, List.getElem_cons_zero, List.getElem_cons_succ]
      refine plan_nil ?_
      simp only [List.drop_succ_cons, List.drop_zero]
      have HK2 := Lib.hid (HK1.out.below HB2.out)
      have HB3 := Lib.hid (HB1.out.trans (HB2.out.mono HB1.out.size))
      go_wp2_with fail
      go_roundw
      case rel => exact ⟨k + 1, by omega, by go_num, HK2.out, HB3.out⟩
      case measure => simp [intOf]; omega
    · go_wp2_with fail
      go_ret
      exact ⟨rfl, HB.out⟩
theorem right_t {w : World} {bs c l : Nat} {A : Tg → Pa} {F : Pr.Fs} {pv f : Value} (h : Mem w bs c l A F pv f) (hg : Rg c l F) (p : Option Addr) (cp : Nat) (xs : List Value) (L : List (List Nat)) (hp : Pl w p xs L) (hr : rightP L = true) :
    Calls Tryz.prog 21 #[.agg #[.slice (some ⟨(A .st).b, (A .st).o, none⟩) c (A .st).c, .slice (some ⟨(A .va).b, (A .va).o, none⟩) c (A .va).c, .slice (some ⟨(A .wt).b, (A .wt).o, none⟩) c (A .wt).c, .slice (some ⟨(A .ho).b, (A .ho).o, none⟩) l (A .ho).c, .slice (some ⟨(A .di).b, (A .di).o, none⟩) l (A .di).c, .slice (some ⟨(A .bu).b, (A .bu).o, none⟩) l (A .bu).c, .slice p L.length cp]] w fun e w' => e = .returned (.bool true) ∧ Below w.heap.size w w' := by
  have hc4 := h.c4
  have hl16 := h.l16
  have hc1 := h.c1
  have hl1 := h.l1
  have HM : Hid (∀ V, Below w.heap.size w V → Mem V bs c l A F pv f) := Lib.hid (fun V hV => h.below hV)
  have HP : Hid (∀ V, Below w.heap.size w V → Pl V p xs L) := Lib.hid (fun V hV => hp.below hV)
  obtain ⟨w1, hw1⟩ : ∃ w1, w1 = w.alloc (.cells #[.slice (some ⟨(A .st).b, (A .st).o, none⟩) c (A .st).c, .slice (some ⟨(A .va).b, (A .va).o, none⟩) c (A .va).c, .slice (some ⟨(A .wt).b, (A .wt).o, none⟩) c (A .wt).c, .slice (some ⟨(A .ho).b, (A .ho).o, none⟩) l (A .ho).c, .slice (some ⟨(A .di).b, (A .di).o, none⟩) l (A .di).c, .slice (some ⟨(A .bu).b, (A .bu).o, none⟩) l (A .bu).c, .slice p L.length cp] 32) := ⟨_, rfl⟩
  have hb1 : Below w.heap.size w w1 := by rw [hw1]; exact (Below.refl _ _).alloc (Nat.le_refl _) _
  have hk1 : Blk w1 w.heap.size #[.slice (some ⟨(A .st).b, (A .st).o, none⟩) c (A .st).c, .slice (some ⟨(A .va).b, (A .va).o, none⟩) c (A .va).c, .slice (some ⟨(A .wt).b, (A .wt).o, none⟩) c (A .wt).c, .slice (some ⟨(A .ho).b, (A .ho).o, none⟩) l (A .ho).c, .slice (some ⟨(A .di).b, (A .di).o, none⟩) l (A .di).c, .slice (some ⟨(A .bu).b, (A .bu).o, none⟩) l (A .bu).c, .slice p L.length cp] := by rw [hw1]; exact Blk.new _ _ _
  have HK1 := Lib.hid hk1
  have HB1 := Lib.hid hb1
  have HW1 := Lib.hid hw1
  have kB := hk1.c
  clear h hp hw1 hb1 hk1
  go_enter Tryz.func21, Tryz.ntmps21
  go_upto_region 1 with fail
  rw [← HW1.out]
  go_region
  have HK2 := Lib.hid HK1.out.drew
  have HB2 := Lib.hid HB1.out.drew
  obtain ⟨w2, hw2⟩ : ∃ w2, w2 = w1.drew := ⟨_, rfl⟩
  rw [← hw2] at HK2 HB2 ⊢
  clear hw2 kB HW1 HK1 HB1
  have kB := HK2.out.c
  go_wp2_with fail
  refine (mayBe_t c l _ hc1 hc4 hl1 hl16).mono ?_
  rintro e w3 ⟨rfl, rfl⟩
  go_wp2_with fail
  refine (sized_t (HM.out _ HB2.out) p L.length cp).mono ?_
  rintro e w3 ⟨rfl, hb3⟩
  have HK3 := Lib.hid (HK2.out.below hb3)
  have HB3 := Lib.hid (HB2.out.trans (hb3.mono HB2.out.size))
  clear hb3 kB
  have kB := HK3.out.c
  go_wp2_with fail
  refine (cores_t (HM.out _ HB3.out) hg p L.length cp).mono ?_
  rintro e w4 ⟨rfl, hb4⟩
  have HK4 := Lib.hid (HK3.out.below hb4)
  have HB4 := Lib.hid (HB3.out.trans (hb4.mono HB3.out.size))
  clear hb4 kB
  have kB := HK4.out.c
  go_wp2_with fail
  refine (lines_t (HM.out _ HB4.out) hg p L.length cp).mono ?_
  rintro e w5 ⟨rfl, hb5⟩
  have HK5 := Lib.hid (HK4.out.below hb5)
  have HB5 := Lib.hid (HB4.out.trans (hb5.mono HB4.out.size))
  clear hb5 kB
  have kB := HK5.out.c
  go_wp2_with fail
  refine (pright_any p L.length cp xs L _ rfl (HP.out _ HB5.out)).mono ?_
  rintro e w6 ⟨rfl, hb6⟩
  rw [hr]
  have HB6 := Lib.hid (HB5.out.trans (hb6.mono HB5.out.size))
  clear hb6 kB
  go_wp2_with fail
  go_ret
  exact ⟨rfl, HB6.out⟩
end
end Go.Proofs.YtmeomdfmljanhaaGreat.Pg
/- Whether a core and a line are there, and what it has. -/
namespace Go.Proofs.YtmeomdfmljanhaaGreat.Pg
set_option linter.unusedVariables false
open Go.ChangeShapes Go.WideShapes Go.ChangeAt Go.RowKit

def hasB (F : Pr.Fs) (n k : Nat) (wr : Bool) : Bool := !decide ((F.wt n).line = k + 1) && (!decide (F.st n k = 0) && (!wr || (decide (F.st n k = 2) || decide (F.st n k = 3))))
section
set_option maxHeartbeats 4000000
set_option maxRecDepth 100000
theorem there_t {w : World} {bs c l : Nat} {A : Tg → Pa} {F : Pr.Fs} {pv f : Value} (h : Mem w bs c l A F pv f) (hg : Rg c l F) (p : Option Addr) (cp : Nat) (xs : List Value) (L : List (List Nat)) (hp : Pl w p xs L) (hr : rightP L = true) (n k : Nat) (hn : n < c) (hk : k < l) :
    Calls Tryz.prog 41 #[.agg #[.slice (some ⟨(A .st).b, (A .st).o, none⟩) c (A .st).c, .slice (some ⟨(A .va).b, (A .va).o, none⟩) c (A .va).c, .slice (some ⟨(A .wt).b, (A .wt).o, none⟩) c (A .wt).c, .slice (some ⟨(A .ho).b, (A .ho).o, none⟩) l (A .ho).c, .slice (some ⟨(A .di).b, (A .di).o, none⟩) l (A .di).c, .slice (some ⟨(A .bu).b, (A .bu).o, none⟩) l (A .bu).c, .slice p L.length cp], .int .i64 n, .int .i64 k] w fun e w' => e = .returned (.bool true) ∧ Below w.heap.size w w' := by
  have hc4 := h.c4
  have hl16 := h.l16
  have HR : Hid (∀ V, Below w.heap.size w V → Calls Tryz.prog 21 #[.agg #[.slice (some ⟨(A .st).b, (A .st).o, none⟩) c (A .st).c, .slice (some ⟨(A .va).b, (A .va).o, none⟩) c (A .va).c, .slice (some ⟨(A .wt).b, (A .wt).o, none⟩) c (A .wt).c, .slice (some ⟨(A .ho).b, (A .ho).o, none⟩) l (A .ho).c, .slice (some ⟨(A .di).b, (A .di).o, none⟩) l (A .di).c, .slice (some ⟨(A .bu).b, (A .bu).o, none⟩) l (A .bu).c, .slice p L.length cp]] V fun e w' => e = .returned (.bool true) ∧ Below V.heap.size V w') := Lib.hid (fun V hV => right_t (h.below hV) hg p cp xs L (hp.below hV) hr)
  have hw1 : wrap64 ((c : Int) - 1) = ((c - 1 : Nat) : Int) := by unfold wrap64; omega
  have hw2 : wrap64 ((l : Int) - 1) = ((l - 1 : Nat) : Int) := by unfold wrap64; omega
  have hc9 : (c : Int) - 1 = ((c - 1 : Nat) : Int) := by omega
  have hl9 : (l : Int) - 1 = ((l - 1 : Nat) : Int) := by omega
  have HC9 := Lib.hid hc9
  have HL9 := Lib.hid hl9
  obtain ⟨w1, hw⟩ : ∃ w1, w1 = w.alloc (.cells #[.slice (some ⟨(A .st).b, (A .st).o, none⟩) c (A .st).c, .slice (some ⟨(A .va).b, (A .va).o, none⟩) c (A .va).c, .slice (some ⟨(A .wt).b, (A .wt).o, none⟩) c (A .wt).c, .slice (some ⟨(A .ho).b, (A .ho).o, none⟩) l (A .ho).c, .slice (some ⟨(A .di).b, (A .di).o, none⟩) l (A .di).c, .slice (some ⟨(A .bu).b, (A .bu).o, none⟩) l (A .bu).c, .slice p L.length cp] 32) := ⟨_, rfl⟩
  have hb1 : Below w.heap.size w w1 := by rw [hw]; exact (Below.refl _ _).alloc (Nat.le_refl _) _
  have hk1 : Blk w1 w.heap.size #[.slice (some ⟨(A .st).b, (A .st).o, none⟩) c (A .st).c, .slice (some ⟨(A .va).b, (A .va).o, none⟩) c (A .va).c, .slice (some ⟨(A .wt).b, (A .wt).o, none⟩) c (A .wt).c, .slice (some ⟨(A .ho).b, (A .ho).o, none⟩) l (A .ho).c, .slice (some ⟨(A .di).b, (A .di).o, none⟩) l (A .di).c, .slice (some ⟨(A .bu).b, (A .bu).o, none⟩) l (A .bu).c, .slice p L.length cp] := by rw [hw]; exact Blk.new _ _ _
  have HK1 := Lib.hid hk1
  have HB1 := Lib.hid hb1
  have HW1 := Lib.hid hw
  have kB := hk1.c
  clear h hp hw hb1 hk1 hc9 hl9 hw1 hw2
  go_enter Tryz.func41, Tryz.ntmps41
  go_wp2_with fail
  rw [← HW1.out]
  refine (HR.out _ HB1.out).mono ?_
  rintro e w2 ⟨rfl, hb2⟩
  have HK2 := Lib.hid (HK1.out.below hb2)
  have HB2 := Lib.hid (HB1.out.trans (hb2.mono HB1.out.size))
  clear hb2 kB
  have kB := HK2.out.c
  go_wp2_with fail
  first | rw [HC9.out] | skip
  refine (upTo_t n (c - 1) _ (by omega)).mono ?_
  rintro e w3 ⟨rfl, rfl⟩
  go_wp2_with fail
  first | rw [HL9.out] | skip
  refine (upTo_t k (l - 1) _ (by omega)).mono ?_
  rintro e w3 ⟨rfl, rfl⟩
  go_wp2_with fail
  go_ret
  exact ⟨rfl, HB2.out⟩
theorem has_mem {w : World} {bs c l : Nat} {A : Tg → Pa} {F : Pr.Fs} {pv f : Value} (h : Mem w bs c l A F pv f) (n k : Nat) (wr : Bool) (hn : n < c) (hk : k < l) (p : Option Addr) (m cp : Nat) :
    Calls Tryz.prog 42 #[.agg #[.slice (some ⟨(A .st).b, (A .st).o, none⟩) c (A .st).c, .slice (some ⟨(A .va).b, (A .va).o, none⟩) c (A .va).c, .slice (some ⟨(A .wt).b, (A .wt).o, none⟩) c (A .wt).c, .slice (some ⟨(A .ho).b, (A .ho).o, none⟩) l (A .ho).c, .slice (some ⟨(A .di).b, (A .di).o, none⟩) l (A .di).c, .slice (some ⟨(A .bu).b, (A .bu).o, none⟩) l (A .bu).c, .slice p m cp], .int .i64 n, .int .i64 k, .bool wr] w fun e w' => e = .returned (.bool (hasB F n k wr)) ∧ Below w.heap.size w w' := by
  have hc4 := h.c4
  have hl16 := h.l16
  have HM : Hid (∀ V, Below w.heap.size w V → Mem V bs c l A F pv f) := Lib.hid (fun V hV => h.below hV)
  have hnI : (n : Int) < (c : Int) := by omega
  have hn0 : (0 : Int) ≤ (n : Int) := by omega
  have hkI : (k : Int) < (l : Int) := by omega
  have hk0 : (0 : Int) ≤ (k : Int) := by omega
  obtain ⟨w1, hw⟩ : ∃ w1, w1 = w.alloc (.cells #[.slice (some ⟨(A .st).b, (A .st).o, none⟩) c (A .st).c, .slice (some ⟨(A .va).b, (A .va).o, none⟩) c (A .va).c, .slice (some ⟨(A .wt).b, (A .wt).o, none⟩) c (A .wt).c, .slice (some ⟨(A .ho).b, (A .ho).o, none⟩) l (A .ho).c, .slice (some ⟨(A .di).b, (A .di).o, none⟩) l (A .di).c, .slice (some ⟨(A .bu).b, (A .bu).o, none⟩) l (A .bu).c, .slice p m cp] 32) := ⟨_, rfl⟩
  have hb1 : Below w.heap.size w w1 := by rw [hw]; exact (Below.refl _ _).alloc (Nat.le_refl _) _
  have hk1 : Blk w1 w.heap.size #[.slice (some ⟨(A .st).b, (A .st).o, none⟩) c (A .st).c, .slice (some ⟨(A .va).b, (A .va).o, none⟩) c (A .va).c, .slice (some ⟨(A .wt).b, (A .wt).o, none⟩) c (A .wt).c, .slice (some ⟨(A .ho).b, (A .ho).o, none⟩) l (A .ho).c, .slice (some ⟨(A .di).b, (A .di).o, none⟩) l (A .di).c, .slice (some ⟨(A .bu).b, (A .bu).o, none⟩) l (A .bu).c, .slice p m cp] := by rw [hw]; exact Blk.new _ _ _
  have HK1 := Lib.hid hk1
  have HB1 := Lib.hid hb1
  have HW1 := Lib.hid hw
  have kB := hk1.c
  have kr := (h.below hb1).st0 n hn
  have ks := (h.below hb1).s0 hn k hk
  obtain ⟨x, hx⟩ : ∃ x, x = F.st n k := ⟨_, rfl⟩
  obtain ⟨b, hb⟩ : ∃ b, b = hasB F n k wr := ⟨_, rfl⟩
  have hbe := hb
  unfold hasB at hbe
  rw [← hx] at ks hbe
  rw [← hb]
  obtain ⟨lw, hlw⟩ : ∃ lw, lw = decide ((F.wt n).line = k + 1) := ⟨_, rfl⟩
  rw [← hlw] at hbe
  have HLW := Lib.hid hlw
  have x0 : ((x : Int) == 0) = decide (x = 0) := eq_one x 0
  have x2 : ((x : Int) == 2) = decide (x = 2) := eq_one x 2
  have x3 : ((x : Int) == 3) = decide (x = 3) := eq_one x 3
  have HBE := Lib.hid hbe
  clear h hw hb1 hk1 hx hb hlw hbe
  go_enter Tryz.func42, Tryz.ntmps42
  go_upto_region 1 with fail
  rw [← HW1.out]
  go_wp2_with fail
  refine (waits_mem (HM.out _ HB1.out) n k hn hk p m cp).mono ?_
  rintro e w2 ⟨rfl, hb2⟩
  rw [← HLW.out]
  have HB2 := Lib.hid (HB1.out.trans (hb2.mono HB1.out.size))
  have hbe := HBE.out
  clear hb2 kB kr ks
  cases lw with
  | true =>
    have hbe : b = false := hbe
    have HB9 := Lib.hid hbe
    clear hbe x0 x2 x3
    go_wp2_with fail
    go_ret
    exact ⟨by rw [HB9.out]; rfl, HB2.out⟩
  | false =>
    obtain ⟨z0, hz0⟩ : ∃ z, z = decide (x = 0) := ⟨_, rfl⟩
    obtain ⟨z2, hz2⟩ : ∃ z, z = decide (x = 2) := ⟨_, rfl⟩
    obtain ⟨z3, hz3⟩ : ∃ z, z = decide (x = 3) := ⟨_, rfl⟩
    rw [← hz0] at hbe x0
    rw [← hz2] at hbe x2
    rw [← hz3] at hbe x3
    have y0 : decide (x = 0) = z0 := hz0.symm
    have y2 : decide (x = 2) = z2 := hz2.symm
    have y3 : decide (x = 3) = z3 := hz3.symm
    have v0 : (x == 0) = z0 := by show decide (x = 0) = z0; exact y0
    have v2 : (x == 2) = z2 := by show decide (x = 2) = z2; exact y2
    have v3 : (x == 3) = z3 := by show decide (x = 3) = z3; exact y3
    clear hz0 hz2 hz3
    cases z0 <;> cases z2 <;> cases z3 <;> cases wr <;> (
      have HB9 := Lib.hid hbe
      clear hbe
      go_wp2_with fail
      go_ret
      exact ⟨by rw [HB9.out]; rfl, HB2.out⟩)
end
end Go.Proofs.YtmeomdfmljanhaaGreat.Pg
/- The copy of a system: the region that lays its seven lists. -/
namespace Go.Proofs.YtmeomdfmljanhaaGreat.Pg
set_option linter.unusedVariables false
open Go.ChangeShapes Go.WideShapes Go.ChangeAt Go.RowKit

/-- What a copy answers: a system alike, all of which lies in new memory. -/
def CopyO (w w' : World) (e : Ending) (c l : Nat) (F : Pr.Fs) (L : List (List Nat)) : Prop :=
  ∃ A p cp xs, e = .returned (sysV c l A (.slice p L.length cp)) ∧ Mem w' 0 c l A F vz vz ∧ Pl w' p xs L ∧ Off (Zs 0 c l A) p xs L ∧ Off (fun b => b < w.heap.size) p xs L ∧ (∀ t : Tg, t.wr = true → 0 < t.sz 0 c l → w.heap.size ≤ (A t).b) ∧ Below w.heap.size w w'
set_option maxHeartbeats 16000000 in
set_option maxRecDepth 100000 in
theorem copied_any (v : Value) (c l : Nat) (F : Pr.Fs) (L : List (List Nat)) (w : World) (h : Sv w v c l F L) : Calls Tryz.prog 29 #[v] w fun e w' => CopyO w w' e c l F L := by
  obtain ⟨A, p, cp, xs, rfl, hm, hp⟩ := h
  have hc4 := hm.c4
  have hl16 := hm.l16
  have HM := Lib.hid hm
  have HP := Lib.hid hp
  obtain ⟨d0, k0, e0⟩ : ∃ d k, Value.slice (some d) c k = (A .st).sl c := ⟨_, _, rfl⟩
  obtain ⟨d1, k1, e1⟩ : ∃ d k, Value.slice (some d) c k = (A .va).sl c := ⟨_, _, rfl⟩
  obtain ⟨d2, k2, e2⟩ : ∃ d k, Value.slice (some d) c k = (A .wt).sl c := ⟨_, _, rfl⟩
  obtain ⟨d3, k3, e3⟩ : ∃ d k, Value.slice (some d) l k = (A .ho).sl l := ⟨_, _, rfl⟩
  obtain ⟨d4, k4, e4⟩ : ∃ d k, Value.slice (some d) l k = (A .di).sl l := ⟨_, _, rfl⟩
  obtain ⟨d5, k5, e5⟩ : ∃ d k, Value.slice (some d) l k = (A .bu).sl l := ⟨_, _, rfl⟩
  obtain ⟨w2, hw2⟩ : ∃ w2, w2 = (w.alloc (.cells #[.slice (some d0) c k0, .slice (some d1) c k1, .slice (some d2) c k2, .slice (some d3) l k3, .slice (some d4) l k4, .slice (some d5) l k5, .slice p L.length cp] 32)).alloc (.cells #[.slice none 0 0, .slice none 0 0, .slice none 0 0, .slice none 0 0, .slice none 0 0, .slice none 0 0, .slice none 0 0] 32) := ⟨_, rfl⟩
  have hb2 : Below w.heap.size w w2 := by rw [hw2]; exact ((Below.refl _ _).alloc (Nat.le_refl _) _).alloc (by simp) _
  have hs2 : w2.heap.size = w.heap.size + 2 := by rw [hw2]; simp
  have HBW := Lib.hid hb2
  have HBX : Hid (Blk w2 w.heap.size #[.slice (some d0) c k0, .slice (some d1) c k1, .slice (some d2) c k2, .slice (some d3) l k3, .slice (some d4) l k4, .slice (some d5) l k5, .slice p L.length cp]) := Lib.hid (by rw [hw2]; exact (Blk.new _ _ _).alloc _)
  have HRS : Hid (Blk w2 (w.heap.size + 1) #[.slice none 0 0, .slice none 0 0, .slice none 0 0, .slice none 0 0, .slice none 0 0, .slice none 0 0, .slice none 0 0]) := Lib.hid (by rw [hw2]; have := Blk.new (w.alloc (.cells #[.slice (some d0) c k0, .slice (some d1) c k1, .slice (some d2) c k2, .slice (some d3) l k3, .slice (some d4) l k4, .slice (some d5) l k5, .slice p L.length cp] 32)) #[.slice none 0 0, .slice none 0 0, .slice none 0 0, .slice none 0 0, .slice none 0 0, .slice none 0 0, .slice none 0 0] 32; rw [World.size_alloc] at this; exact this)
  have hml : ∀ V, Below w2.heap.size w2 V → Mem V 0 c l A F vz vz := fun V hV => hm.below (hb2.trans (hV.mono hb2.size))
  have hpl : ∀ V, Below w2.heap.size w2 V → Pl V p xs L := fun V hV => hp.below (hb2.trans (hV.mono hb2.size))
  have HSX : Hid (∀ V, Below w2.heap.size w2 V → ∀ j, V.cell? ⟨w.heap.size, j, none⟩ = (#[.slice (some d0) c k0, .slice (some d1) c k1, .slice (some d2) c k2, .slice (some d3) l k3, .slice (some d4) l k4, .slice (some d5) l k5, .slice p L.length cp] : Array Value)[j]?) := Lib.hid (fun V hV => (HBX.out.below hV).c)
  have HC0 : Hid (∀ V, Below w2.heap.size w2 V → Calls Tryz.prog 62 #[.slice (some d0) c k0] V fun e V' => ∃ r m ys, e = .returned (.slice r c m) ∧ Keep V' (fun W => GR 27 3 V.heap.size V'.heap.size W (.slice r c m) l (fun j => rowOf 0 c l A F vz vz (.sr j)) ys c) ∧ Below V.heap.size V V') := Lib.hid (fun V hV => by
    rw [e0]
    refine (crows_int _ c _ l _ _ V (hml V hV).rr_st (by omega) (by omega)).mono ?_
    rintro e V' ⟨r, ys, rfl, g, hb⟩
    obtain ⟨q, m, rfl, _⟩ := own_cap g.row
    exact ⟨q, m, ys, rfl, fun W hW => (GR.of g).below hW, hb⟩)
  have HC1 : Hid (∀ V, Below w2.heap.size w2 V → Calls Tryz.prog 63 #[.slice (some d1) c k1] V fun e V' => ∃ r m ys, e = .returned (.slice r c m) ∧ Keep V' (fun W => GR 25 33 V.heap.size V'.heap.size W (.slice r c m) l (fun j => rowOf 0 c l A F vz vz (.vr j)) ys c) ∧ Below V.heap.size V V') := Lib.hid (fun V hV => by
    rw [e1]
    refine (crows_u32 _ c _ l _ _ V (hml V hV).rr_va (by omega) (by omega)).mono ?_
    rintro e V' ⟨r, ys, rfl, g, hb⟩
    obtain ⟨q, m, rfl, _⟩ := own_cap g.row
    exact ⟨q, m, ys, rfl, fun W hW => (GR.of g).below hW, hb⟩)
  have HC2 : Hid (∀ V, Below w2.heap.size w2 V → Calls Tryz.prog 64 #[.slice (some d2) c k2] V fun e V' => ∃ r m, e = .returned (.slice r c m) ∧ Keep V' (fun W => GO 86 9 V.heap.size V'.heap.size W (.slice r c m) c (rowOf 0 c l A F vz vz .wt)) ∧ Below V.heap.size V V') := Lib.hid (fun V hV => by
    rw [e2]
    refine (clone_wait _ c _ _ V (by omega) (by rw [rowOf_len]; rfl) ((hml V hV).sl .wt (by show 0 < c * 9; have := hm.c1; omega) c) (rowOf_one (by intro e; cases e))).mono ?_
    rintro e V' ⟨r, rfl, g, hb⟩
    obtain ⟨q, m, rfl, _⟩ := own_cap g
    exact ⟨q, m, rfl, fun W hW => (GO.of g).below hW, hb⟩)
  have HC3 : Hid (∀ V, Below w2.heap.size w2 V → Calls Tryz.prog 65 #[.slice (some d3) l k3] V fun e V' => ∃ r m, e = .returned (.slice r l m) ∧ Keep V' (fun W => GO 33 1 V.heap.size V'.heap.size W (.slice r l m) l (rowOf 0 c l A F vz vz .ho)) ∧ Below V.heap.size V V') := Lib.hid (fun V hV => by
    rw [e3]
    refine (clone_u32 _ l _ _ V (by omega) (by rw [rowOf_len]; show l = l * 1; omega) ((hml V hV).sl .ho (by exact hm.l1) l) (rowOf_one (by intro e; cases e))).mono ?_
    rintro e V' ⟨r, rfl, g, hb⟩
    obtain ⟨q, m, rfl, _⟩ := own_cap g
    exact ⟨q, m, rfl, fun W hW => (GO.of g).below hW, hb⟩)
  have HC4 : Hid (∀ V, Below w2.heap.size w2 V → Calls Tryz.prog 66 #[.slice (some d4) l k4] V fun e V' => ∃ r m, e = .returned (.slice r l m) ∧ Keep V' (fun W => GO 65 2 V.heap.size V'.heap.size W (.slice r l m) l (rowOf 0 c l A F vz vz .di)) ∧ Below V.heap.size V V') := Lib.hid (fun V hV => by
    rw [e4]
    refine (clone_entry _ l _ _ V (by omega) (by rw [rowOf_len]; rfl) ((hml V hV).sl .di (by show 0 < l * 2; have := hm.l1; omega) l) (rowOf_one (by intro e; cases e))).mono ?_
    rintro e V' ⟨r, rfl, g, hb⟩
    obtain ⟨q, m, rfl, _⟩ := own_cap g
    exact ⟨q, m, rfl, fun W hW => (GO.of g).below hW, hb⟩)
  have HC5 : Hid (∀ V, Below w2.heap.size w2 V → Calls Tryz.prog 67 #[.slice (some d5) l k5] V fun e V' => ∃ r m, e = .returned (.slice r l m) ∧ Keep V' (fun W => GO 3 1 V.heap.size V'.heap.size W (.slice r l m) l (rowOf 0 c l A F vz vz .bu)) ∧ Below V.heap.size V V') := Lib.hid (fun V hV => by
    rw [e5]
    refine (clone_int _ l _ _ V (by omega) (by rw [rowOf_len]; show l = l * 1; omega) ((hml V hV).sl .bu (by exact hm.l1) l) (rowOf_one (by intro e; cases e))).mono ?_
    rintro e V' ⟨r, rfl, g, hb⟩
    obtain ⟨q, m, rfl, _⟩ := own_cap g
    exact ⟨q, m, rfl, fun W hW => (GO.of g).below hW, hb⟩)
  have HC6 : Hid (∀ V, Below w2.heap.size w2 V → Calls Tryz.prog 68 #[.slice p L.length cp] V fun e V' => ∃ r m ys, e = .returned (.slice r L.length m) ∧ Keep V' (fun W => Pl W r ys L ∧ Off (fun b => b < V.heap.size ∨ V'.heap.size ≤ b) r ys L) ∧ Below V.heap.size V V') := Lib.hid (fun V hV => by
    refine (crows_byt p L.length cp xs L V rfl (hpl V hV)).mono ?_
    rintro e V' ⟨r, ys, rfl, g, hb⟩
    obtain ⟨p6, c6, rfl, g2⟩ := g.pl hp.n100 hp.l100 hp.lt
    exact ⟨p6, c6, ys, rfl, fun W hW => ⟨g2.below hW, g.off⟩, hb⟩)
  clear hml hpl hm hp
  rw [← e0, ← e1, ← e2, ← e3, ← e4, ← e5]
  have HE := Lib.hid (And.intro e0 (And.intro e1 (And.intro e2 (And.intro e3 (And.intro e4 e5)))))
  clear e0 e1 e2 e3 e4 e5
  have HW2 := Lib.hid hw2
  clear hw2 hb2
  go_enter Tryz.func29, Tryz.ntmps29
  go_upto_region 1 with fail
  rw [← HW2.out]
  refine region_planT (fun V : World => ∀ j, V.cell? ⟨w.heap.size, j, none⟩ = (#[.slice (some d0) c k0, .slice (some d1) c k1, .slice (some d2) c k2, .slice (some d3) l k3, .slice (some d4) l k4, .slice (some d5) l k5, .slice p L.length cp] : Array Value)[j]?) 25 (.read 0 (.read 1 (.read 3 (.read 4 (.read 6 (.read 7 (.read 9 (.read 10 (.read 12 (.read 13 (.read 15 (.read 16 (.read 18 (.read 19 (.read 20 (.two 2 24 (.two 5 24 (.two 8 24 (.two 11 24 (.two 14 24 (.two 17 24 (.two 21 24 (.read 22 (.read 23 (.one 24 .stop))) (.one 21 (.read 22 (.read 23 .stop)))) (.one 17 (.one 21 (.read 22 (.read 23 .stop))))) (.one 14 (.one 17 (.one 21 (.read 22 (.read 23 .stop)))))) (.one 11 (.one 14 (.one 17 (.one 21 (.read 22 (.read 23 .stop))))))) (.one 8 (.one 11 (.one 14 (.one 17 (.one 21 (.read 22 (.read 23 .stop)))))))) (.one 5 (.one 8 (.one 11 (.one 14 (.one 17 (.one 21 (.read 22 (.read 23 .stop))))))))) (.one 2 (.one 5 (.one 8 (.one 11 (.one 14 (.one 17 (.one 21 (.read 22 (.read 23 .stop))))))))))))))))))))))))) (by kernel_rfl) (by kernel_rfl) (HSX.out _ ((Below.refl _ _).drew)) (planT_mono (K := fun a' V => ∃ r0 m0 r1 m1 r2 m2 r3 m3 r4 m4 r5 m5 r6 m6 B, a' = { tmps := #[.agg #[.slice (some d0) c k0, .slice (some d1) c k1, .slice (some d2) c k2, .slice (some d3) l k3, .slice (some d4) l k4, .slice (some d5) l k5, .slice p L.length cp], .pointer (some ⟨w.heap.size, 0, none⟩), .pointer (some ⟨w.heap.size + 1, 0, none⟩), .pointer (some ⟨B, 0, none⟩), undef, undef, .pointer (some ⟨w.heap.size, 0, none⟩), .slice (some d0) c k0, .slice r0 c m0, .pointer (some ⟨w.heap.size, 1, none⟩), .slice (some d1) c k1, .slice r1 c m1, .pointer (some ⟨w.heap.size, 2, none⟩), .slice (some d2) c k2, .slice r2 c m2, .pointer (some ⟨w.heap.size, 3, none⟩), .slice (some d3) l k3, .slice r3 l m3, .pointer (some ⟨w.heap.size, 4, none⟩), .slice (some d4) l k4, .slice r4 l m4, .pointer (some ⟨w.heap.size, 5, none⟩), .slice (some d5) l k5, .slice r5 l m5, .pointer (some ⟨w.heap.size, 6, none⟩), .pointer (some ⟨w.heap.size, 6, none⟩), .slice p L.length cp, .slice r6 L.length m6, .agg #[.slice r6 L.length m6], .agg #[.slice r0 c m0, .slice r1 c m1, .slice r2 c m2, .slice r3 l m3, .slice r4 l m4, .slice r5 l m5, .slice r6 L.length m6], undef, undef, undef, undef, undef, undef, undef, undef, undef, undef, undef, undef, undef, undef, undef, undef, undef, undef], defers := [] } ∧ Laid w V c l A F L (.slice r0 c m0) (.slice r1 c m1) (.slice r2 c m2) (.slice r3 l m3) (.slice r4 l m4) (.slice r5 l m5) (.slice r6 L.length m6) B ∧ Below w2.heap.size w2 V) ?_ _ _ _ ?_)
  rotate_left
  · have HB : Hid (Below w2.heap.size w2 w2.drew) := Lib.hid (Below.refl _ _).drew
    have HKP : Hid (Keep w2.drew (fun W => True)) := Lib.hid (fun _ _ => trivial)
    obtain ⟨V0, hV0⟩ : ∃ V0, V0 = w2.drew := ⟨_, rfl⟩
    rw [← hV0] at HB HKP ⊢
    have hsV : V0.heap.size = w.heap.size + 2 := by rw [hV0]; exact hs2
    clear hV0
    iterate 15
      refine planT_read (v := ?_) rfl (by rfl) ?_ ?_
      rotate_left
      · intro w' hS
        try dsimp only at hS
        go_simp
        try with_reducible rfl
      try simp only [Act.put, List.setIfInBounds_toArray, List.set_cons_zero, List.set_cons_succ, List.getElem_toArray, List.getElem_cons_zero, List.getElem_cons_succ]
    refine planT_two ?_ ?_
    · refine op_call (F := 62) (args := ?_) rfl (by rfl) ?_ ?_
      rotate_left
      · go_simp
        rfl
      refine (HC0.out _ HB.out).mono ?_
      rintro e V1 ⟨r0, m0, y0, rfl, g0, hb⟩
      have hs0 := hb.size
      have HB := Lib.hid (HB.out.trans (hb.mono HB.out.size))
      have HKP := Lib.hid (Keep.and (HKP.out.mono hb) g0)
      clear hb g0
      refine ⟨_, rfl, HSX.out _ HB.out, ?_⟩
      try simp only [Act.put, List.setIfInBounds_toArray, List.set_cons_zero, List.set_cons_succ, List.getElem_toArray, List.getElem_cons_zero, List.getElem_cons_succ]
      refine planT_two ?_ ?_
      · refine op_call (F := 63) (args := ?_) rfl (by rfl) ?_ ?_
        rotate_left
        · go_simp
          rfl
        refine (HC1.out _ HB.out).mono ?_
        rintro e V2 ⟨r1, m1, y1, rfl, g1, hb⟩
        have hs1 := hb.size
        have HB := Lib.hid (HB.out.trans (hb.mono HB.out.size))
        have HKP := Lib.hid (Keep.and (HKP.out.mono hb) g1)
        clear hb g1
        refine ⟨_, rfl, HSX.out _ HB.out, ?_⟩
        try simp only [Act.put, List.setIfInBounds_toArray, List.set_cons_zero, List.set_cons_succ, List.getElem_toArray, List.getElem_cons_zero, List.getElem_cons_succ]
        refine planT_two ?_ ?_
        · refine op_call (F := 64) (args := ?_) rfl (by rfl) ?_ ?_
          rotate_left
          · go_simp
            rfl
          refine (HC2.out _ HB.out).mono ?_
          rintro e V3 ⟨r2, m2, rfl, g2, hb⟩
          have hs2 := hb.size
          have HB := Lib.hid (HB.out.trans (hb.mono HB.out.size))
          have HKP := Lib.hid (Keep.and (HKP.out.mono hb) g2)
          clear hb g2
          refine ⟨_, rfl, HSX.out _ HB.out, ?_⟩
          try simp only [Act.put, List.setIfInBounds_toArray, List.set_cons_zero, List.set_cons_succ, List.getElem_toArray, List.getElem_cons_zero, List.getElem_cons_succ]
          refine planT_two ?_ ?_
          · refine op_call (F := 65) (args := ?_) rfl (by rfl) ?_ ?_
            rotate_left
            · go_simp
              rfl
            refine (HC3.out _ HB.out).mono ?_
            rintro e V4 ⟨r3, m3, rfl, g3, hb⟩
            have hs3 := hb.size
            have HB := Lib.hid (HB.out.trans (hb.mono HB.out.size))
            have HKP := Lib.hid (Keep.and (HKP.out.mono hb) g3)
            clear hb g3
            refine ⟨_, rfl, HSX.out _ HB.out, ?_⟩
            try simp only [Act.put, List.setIfInBounds_toArray, List.set_cons_zero, List.set_cons_succ, List.getElem_toArray, List.getElem_cons_zero, List.getElem_cons_succ]
            refine planT_two ?_ ?_
            · refine op_call (F := 66) (args := ?_) rfl (by rfl) ?_ ?_
              rotate_left
              · go_simp
                rfl
              refine (HC4.out _ HB.out).mono ?_
              rintro e V5 ⟨r4, m4, rfl, g4, hb⟩
              have hs4 := hb.size
              have HB := Lib.hid (HB.out.trans (hb.mono HB.out.size))
              have HKP := Lib.hid (Keep.and (HKP.out.mono hb) g4)
              clear hb g4
              refine ⟨_, rfl, HSX.out _ HB.out, ?_⟩
              try simp only [Act.put, List.setIfInBounds_toArray, List.set_cons_zero, List.set_cons_succ, List.getElem_toArray, List.getElem_cons_zero, List.getElem_cons_succ]
              refine planT_two ?_ ?_
              · refine op_call (F := 67) (args := ?_) rfl (by rfl) ?_ ?_
                rotate_left
                · go_simp
                  rfl
                refine (HC5.out _ HB.out).mono ?_
                rintro e V6 ⟨r5, m5, rfl, g5, hb⟩
                have hs5 := hb.size
                have HB := Lib.hid (HB.out.trans (hb.mono HB.out.size))
                have HKP := Lib.hid (Keep.and (HKP.out.mono hb) g5)
                clear hb g5
                refine ⟨_, rfl, HSX.out _ HB.out, ?_⟩
                try simp only [Act.put, List.setIfInBounds_toArray, List.set_cons_zero, List.set_cons_succ, List.getElem_toArray, List.getElem_cons_zero, List.getElem_cons_succ]
                refine planT_two ?_ ?_
                · refine op_call (F := 68) (args := ?_) rfl (by rfl) ?_ ?_
                  rotate_left
                  · go_simp
                    rfl
                  refine (HC6.out _ HB.out).mono ?_
                  rintro e V7 ⟨r6, m6, ys, rfl, g6, hb⟩
                  have hs6 := hb.size
                  have HB := Lib.hid (HB.out.trans (hb.mono HB.out.size))
                  have HKP := Lib.hid (Keep.and (HKP.out.mono hb) g6)
                  clear hb g6
                  refine ⟨_, rfl, HSX.out _ HB.out, ?_⟩
                  try simp only [Act.put, List.setIfInBounds_toArray, List.set_cons_zero, List.set_cons_succ, List.getElem_toArray, List.getElem_cons_zero, List.getElem_cons_succ]
                  iterate 2
                    refine planT_read (v := ?_) rfl (by rfl) ?_ ?_
                    rotate_left
                    · intro w' hS
                      try dsimp only at hS
                      go_simp
                      try with_reducible rfl
                    try simp only [Act.put, List.setIfInBounds_toArray, List.set_cons_zero, List.set_cons_succ, List.getElem_toArray, List.getElem_cons_zero, List.getElem_cons_succ]
                  refine planT_one ?_
                  refine op_make (v := .pointer (some ⟨V7.heap.size, 0, none⟩)) (w1 := V7.alloc (.cells #[.slice none 0 0, .slice none 0 0, .slice none 0 0, .slice none 0 0, .slice none 0 0, .slice none 0 0, .slice none 0 0] 32)) rfl (by rfl) (by go_simp) ?_
                  have hb : Below V7.heap.size V7 (V7.alloc (.cells #[.slice none 0 0, .slice none 0 0, .slice none 0 0, .slice none 0 0, .slice none 0 0, .slice none 0 0, .slice none 0 0] 32)) := (Below.refl _ _).alloc (Nat.le_refl _) _
                  have hBn : Blk (V7.alloc (.cells #[.slice none 0 0, .slice none 0 0, .slice none 0 0, .slice none 0 0, .slice none 0 0, .slice none 0 0, .slice none 0 0] 32)) V7.heap.size #[.slice none 0 0, .slice none 0 0, .slice none 0 0, .slice none 0 0, .slice none 0 0, .slice none 0 0, .slice none 0 0] := Blk.new _ _ _
                  have hsB : (V7.alloc (.cells #[.slice none 0 0, .slice none 0 0, .slice none 0 0, .slice none 0 0, .slice none 0 0, .slice none 0 0, .slice none 0 0] 32)).heap.size = V7.heap.size + 1 := World.size_alloc _ _
                  have HB := Lib.hid (HB.out.trans (hb.mono HB.out.size))
                  have HKP := Lib.hid (HKP.out.mono hb)
                  have HBN := Lib.hid (fun W hW => hBn.below (w' := W) hW)
                  obtain ⟨B, hBe⟩ : ∃ B, B = V7.heap.size := ⟨_, rfl⟩
                  rw [← hBe] at HBN hsB ⊢
                  obtain ⟨X, hX⟩ : ∃ X, X = V7.alloc (.cells #[.slice none 0 0, .slice none 0 0, .slice none 0 0, .slice none 0 0, .slice none 0 0, .slice none 0 0, .slice none 0 0] 32) := ⟨_, rfl⟩
                  rw [← hX] at HB HKP HBN hsB ⊢
                  have HKP := Lib.hid (Keep.and HKP.out (fun W hW => HBN.out W hW))
                  clear hX hBn hb HBN
                  refine ⟨HSX.out _ HB.out, ?_⟩
                  try simp only [Act.put, List.setIfInBounds_toArray, List.set_cons_zero, List.set_cons_succ, List.getElem_toArray, List.getElem_cons_zero, List.getElem_cons_succ]
                  refine planT_stop ?_
                  have hBW := HB.out
                  have hBZ := hBW.size
                  obtain ⟨⟨⟨⟨⟨⟨⟨⟨_, q0⟩, q1⟩, q2⟩, q3⟩, q4⟩, q5⟩, q6⟩, qB⟩ := HKP.out X (Below.refl _ _)
                  refine ⟨r0, m0, r1, m1, r2, m2, r3, m3, r4, m4, r5, m5, r6, m6, B, rfl, ?_, HB.out⟩
                  exact ⟨y0, y1, ys, _, _, _, _, _, _, _, _, _, _, _, _, _, _, q0, q1, q2, q3, q4, q5, ⟨r6, m6, rfl, q6⟩, ⟨B, qB, rfl⟩, by omega, by omega, HBW.out.trans (hBW.mono HBW.out.size)⟩
                · refine op_make (v := .pointer (some ⟨V6.heap.size, 0, none⟩)) (w1 := V6.alloc (.cells #[.slice none 0 0, .slice none 0 0, .slice none 0 0, .slice none 0 0, .slice none 0 0, .slice none 0 0, .slice none 0 0] 32)) rfl (by rfl) (by go_simp) ?_
                  have hb : Below V6.heap.size V6 (V6.alloc (.cells #[.slice none 0 0, .slice none 0 0, .slice none 0 0, .slice none 0 0, .slice none 0 0, .slice none 0 0, .slice none 0 0] 32)) := (Below.refl _ _).alloc (Nat.le_refl _) _
                  have hBn : Blk (V6.alloc (.cells #[.slice none 0 0, .slice none 0 0, .slice none 0 0, .slice none 0 0, .slice none 0 0, .slice none 0 0, .slice none 0 0] 32)) V6.heap.size #[.slice none 0 0, .slice none 0 0, .slice none 0 0, .slice none 0 0, .slice none 0 0, .slice none 0 0, .slice none 0 0] := Blk.new _ _ _
                  have hsB : (V6.alloc (.cells #[.slice none 0 0, .slice none 0 0, .slice none 0 0, .slice none 0 0, .slice none 0 0, .slice none 0 0, .slice none 0 0] 32)).heap.size = V6.heap.size + 1 := World.size_alloc _ _
                  have HB := Lib.hid (HB.out.trans (hb.mono HB.out.size))
                  have HKP := Lib.hid (HKP.out.mono hb)
                  have HBN := Lib.hid (fun W hW => hBn.below (w' := W) hW)
                  obtain ⟨B, hBe⟩ : ∃ B, B = V6.heap.size := ⟨_, rfl⟩
                  rw [← hBe] at HBN hsB ⊢
                  obtain ⟨X, hX⟩ : ∃ X, X = V6.alloc (.cells #[.slice none 0 0, .slice none 0 0, .slice none 0 0, .slice none 0 0, .slice none 0 0, .slice none 0 0, .slice none 0 0] 32) := ⟨_, rfl⟩
                  rw [← hX] at HB HKP HBN hsB ⊢
                  have HKP := Lib.hid (Keep.and HKP.out (fun W hW => HBN.out W hW))
                  clear hX hBn hb HBN
                  refine ⟨HSX.out _ HB.out, ?_⟩
                  try simp only [Act.put, List.setIfInBounds_toArray, List.set_cons_zero, List.set_cons_succ, List.getElem_toArray, List.getElem_cons_zero, List.getElem_cons_succ]
                  refine planT_one ?_
                  refine op_call (F := 68) (args := ?_) rfl (by rfl) ?_ ?_
                  rotate_left
                  · go_simp
                    rfl
                  refine (HC6.out _ HB.out).mono ?_
                  rintro e V7 ⟨r6, m6, ys, rfl, g6, hb⟩
                  have hs6 := hb.size
                  have HB := Lib.hid (HB.out.trans (hb.mono HB.out.size))
                  have HKP := Lib.hid (Keep.and (HKP.out.mono hb) g6)
                  clear hb g6
                  refine ⟨_, rfl, HSX.out _ HB.out, ?_⟩
                  try simp only [Act.put, List.setIfInBounds_toArray, List.set_cons_zero, List.set_cons_succ, List.getElem_toArray, List.getElem_cons_zero, List.getElem_cons_succ]
                  iterate 2
                    refine planT_read (v := ?_) rfl (by rfl) ?_ ?_
                    rotate_left
                    · intro w' hS
                      try dsimp only at hS
                      go_simp
                      try with_reducible rfl
                    try simp only [Act.put, List.setIfInBounds_toArray, List.set_cons_zero, List.set_cons_succ, List.getElem_toArray, List.getElem_cons_zero, List.getElem_cons_succ]
                  refine planT_stop ?_
                  have hBW := HB.out
                  have hBZ := hBW.size
                  obtain ⟨⟨⟨⟨⟨⟨⟨⟨_, q0⟩, q1⟩, q2⟩, q3⟩, q4⟩, q5⟩, qB⟩, q6⟩ := HKP.out V7 (Below.refl _ _)
                  refine ⟨r0, m0, r1, m1, r2, m2, r3, m3, r4, m4, r5, m5, r6, m6, B, rfl, ?_, HB.out⟩
                  exact ⟨y0, y1, ys, _, _, _, _, _, _, _, _, _, _, _, _, _, _, q0, q1, q2, q3, q4, q5, ⟨r6, m6, rfl, q6⟩, ⟨B, qB, rfl⟩, by omega, by omega, HBW.out.trans (hBW.mono HBW.out.size)⟩
              · refine op_make (v := .pointer (some ⟨V5.heap.size, 0, none⟩)) (w1 := V5.alloc (.cells #[.slice none 0 0, .slice none 0 0, .slice none 0 0, .slice none 0 0, .slice none 0 0, .slice none 0 0, .slice none 0 0] 32)) rfl (by rfl) (by go_simp) ?_
                have hb : Below V5.heap.size V5 (V5.alloc (.cells #[.slice none 0 0, .slice none 0 0, .slice none 0 0, .slice none 0 0, .slice none 0 0, .slice none 0 0, .slice none 0 0] 32)) := (Below.refl _ _).alloc (Nat.le_refl _) _
                have hBn : Blk (V5.alloc (.cells #[.slice none 0 0, .slice none 0 0, .slice none 0 0, .slice none 0 0, .slice none 0 0, .slice none 0 0, .slice none 0 0] 32)) V5.heap.size #[.slice none 0 0, .slice none 0 0, .slice none 0 0, .slice none 0 0, .slice none 0 0, .slice none 0 0, .slice none 0 0] := Blk.new _ _ _
                have hsB : (V5.alloc (.cells #[.slice none 0 0, .slice none 0 0, .slice none 0 0, .slice none 0 0, .slice none 0 0, .slice none 0 0, .slice none 0 0] 32)).heap.size = V5.heap.size + 1 := World.size_alloc _ _
                have HB := Lib.hid (HB.out.trans (hb.mono HB.out.size))
                have HKP := Lib.hid (HKP.out.mono hb)
                have HBN := Lib.hid (fun W hW => hBn.below (w' := W) hW)
                obtain ⟨B, hBe⟩ : ∃ B, B = V5.heap.size := ⟨_, rfl⟩
                rw [← hBe] at HBN hsB ⊢
                obtain ⟨X, hX⟩ : ∃ X, X = V5.alloc (.cells #[.slice none 0 0, .slice none 0 0, .slice none 0 0, .slice none 0 0, .slice none 0 0, .slice none 0 0, .slice none 0 0] 32) := ⟨_, rfl⟩
                rw [← hX] at HB HKP HBN hsB ⊢
                have HKP := Lib.hid (Keep.and HKP.out (fun W hW => HBN.out W hW))
                clear hX hBn hb HBN
                refine ⟨HSX.out _ HB.out, ?_⟩
                try simp only [Act.put, List.setIfInBounds_toArray, List.set_cons_zero, List.set_cons_succ, List.getElem_toArray, List.getElem_cons_zero, List.getElem_cons_succ]
                refine planT_one ?_
                refine op_call (F := 67) (args := ?_) rfl (by rfl) ?_ ?_
                rotate_left
                · go_simp
                  rfl
                refine (HC5.out _ HB.out).mono ?_
                rintro e V6 ⟨r5, m5, rfl, g5, hb⟩
                have hs5 := hb.size
                have HB := Lib.hid (HB.out.trans (hb.mono HB.out.size))
                have HKP := Lib.hid (Keep.and (HKP.out.mono hb) g5)
                clear hb g5
                refine ⟨_, rfl, HSX.out _ HB.out, ?_⟩
                try simp only [Act.put, List.setIfInBounds_toArray, List.set_cons_zero, List.set_cons_succ, List.getElem_toArray, List.getElem_cons_zero, List.getElem_cons_succ]
                refine planT_one ?_
                refine op_call (F := 68) (args := ?_) rfl (by rfl) ?_ ?_
                rotate_left
                · go_simp
                  rfl
                refine (HC6.out _ HB.out).mono ?_
                rintro e V7 ⟨r6, m6, ys, rfl, g6, hb⟩
                have hs6 := hb.size
                have HB := Lib.hid (HB.out.trans (hb.mono HB.out.size))
                have HKP := Lib.hid (Keep.and (HKP.out.mono hb) g6)
                clear hb g6
                refine ⟨_, rfl, HSX.out _ HB.out, ?_⟩
                try simp only [Act.put, List.setIfInBounds_toArray, List.set_cons_zero, List.set_cons_succ, List.getElem_toArray, List.getElem_cons_zero, List.getElem_cons_succ]
                iterate 2
                  refine planT_read (v := ?_) rfl (by rfl) ?_ ?_
                  rotate_left
                  · intro w' hS
                    try dsimp only at hS
                    go_simp
                    try with_reducible rfl
                  try simp only [Act.put, List.setIfInBounds_toArray, List.set_cons_zero, List.set_cons_succ, List.getElem_toArray, List.getElem_cons_zero, List.getElem_cons_succ]
                refine planT_stop ?_
                have hBW := HB.out
                have hBZ := hBW.size
                obtain ⟨⟨⟨⟨⟨⟨⟨⟨_, q0⟩, q1⟩, q2⟩, q3⟩, q4⟩, qB⟩, q5⟩, q6⟩ := HKP.out V7 (Below.refl _ _)
                refine ⟨r0, m0, r1, m1, r2, m2, r3, m3, r4, m4, r5, m5, r6, m6, B, rfl, ?_, HB.out⟩
                exact ⟨y0, y1, ys, _, _, _, _, _, _, _, _, _, _, _, _, _, _, q0, q1, q2, q3, q4, q5, ⟨r6, m6, rfl, q6⟩, ⟨B, qB, rfl⟩, by omega, by omega, HBW.out.trans (hBW.mono HBW.out.size)⟩
            · refine op_make (v := .pointer (some ⟨V4.heap.size, 0, none⟩)) (w1 := V4.alloc (.cells #[.slice none 0 0, .slice none 0 0, .slice none 0 0, .slice none 0 0, .slice none 0 0, .slice none 0 0, .slice none 0 0] 32)) rfl (by rfl) (by go_simp) ?_
              have hb : Below V4.heap.size V4 (V4.alloc (.cells #[.slice none 0 0, .slice none 0 0, .slice none 0 0, .slice none 0 0, .slice none 0 0, .slice none 0 0, .slice none 0 0] 32)) := (Below.refl _ _).alloc (Nat.le_refl _) _
              have hBn : Blk (V4.alloc (.cells #[.slice none 0 0, .slice none 0 0, .slice none 0 0, .slice none 0 0, .slice none 0 0, .slice none 0 0, .slice none 0 0] 32)) V4.heap.size #[.slice none 0 0, .slice none 0 0, .slice none 0 0, .slice none 0 0, .slice none 0 0, .slice none 0 0, .slice none 0 0] := Blk.new _ _ _
              have hsB : (V4.alloc (.cells #[.slice none 0 0, .slice none 0 0, .slice none 0 0, .slice none 0 0, .slice none 0 0, .slice none 0 0, .slice none 0 0] 32)).heap.size = V4.heap.size + 1 := World.size_alloc _ _
              have HB := Lib.hid (HB.out.trans (hb.mono HB.out.size))
              have HKP := Lib.hid (HKP.out.mono hb)
              have HBN := Lib.hid (fun W hW => hBn.below (w' := W) hW)
              obtain ⟨B, hBe⟩ : ∃ B, B = V4.heap.size := ⟨_, rfl⟩
              rw [← hBe] at HBN hsB ⊢
              obtain ⟨X, hX⟩ : ∃ X, X = V4.alloc (.cells #[.slice none 0 0, .slice none 0 0, .slice none 0 0, .slice none 0 0, .slice none 0 0, .slice none 0 0, .slice none 0 0] 32) := ⟨_, rfl⟩
              rw [← hX] at HB HKP HBN hsB ⊢
              have HKP := Lib.hid (Keep.and HKP.out (fun W hW => HBN.out W hW))
              clear hX hBn hb HBN
              refine ⟨HSX.out _ HB.out, ?_⟩
              try simp only [Act.put, List.setIfInBounds_toArray, List.set_cons_zero, List.set_cons_succ, List.getElem_toArray, List.getElem_cons_zero, List.getElem_cons_succ]
              refine planT_one ?_
              refine op_call (F := 66) (args := ?_) rfl (by rfl) ?_ ?_
              rotate_left
              · go_simp
                rfl
              refine (HC4.out _ HB.out).mono ?_
              rintro e V5 ⟨r4, m4, rfl, g4, hb⟩
              have hs4 := hb.size
              have HB := Lib.hid (HB.out.trans (hb.mono HB.out.size))
              have HKP := Lib.hid (Keep.and (HKP.out.mono hb) g4)
              clear hb g4
              refine ⟨_, rfl, HSX.out _ HB.out, ?_⟩
              try simp only [Act.put, List.setIfInBounds_toArray, List.set_cons_zero, List.set_cons_succ, List.getElem_toArray, List.getElem_cons_zero, List.getElem_cons_succ]
              refine planT_one ?_
              refine op_call (F := 67) (args := ?_) rfl (by rfl) ?_ ?_
              rotate_left
              · go_simp
                rfl
              refine (HC5.out _ HB.out).mono ?_
              rintro e V6 ⟨r5, m5, rfl, g5, hb⟩
              have hs5 := hb.size
              have HB := Lib.hid (HB.out.trans (hb.mono HB.out.size))
              have HKP := Lib.hid (Keep.and (HKP.out.mono hb) g5)
              clear hb g5
              refine ⟨_, rfl, HSX.out _ HB.out, ?_⟩
              try simp only [Act.put, List.setIfInBounds_toArray, List.set_cons_zero, List.set_cons_succ, List.getElem_toArray, List.getElem_cons_zero, List.getElem_cons_succ]
              refine planT_one ?_
              refine op_call (F := 68) (args := ?_) rfl (by rfl) ?_ ?_
              rotate_left
              · go_simp
                rfl
              refine (HC6.out _ HB.out).mono ?_
              rintro e V7 ⟨r6, m6, ys, rfl, g6, hb⟩
              have hs6 := hb.size
              have HB := Lib.hid (HB.out.trans (hb.mono HB.out.size))
              have HKP := Lib.hid (Keep.and (HKP.out.mono hb) g6)
              clear hb g6
              refine ⟨_, rfl, HSX.out _ HB.out, ?_⟩
              try simp only [Act.put, List.setIfInBounds_toArray, List.set_cons_zero, List.set_cons_succ, List.getElem_toArray, List.getElem_cons_zero, List.getElem_cons_succ]
              iterate 2
                refine planT_read (v := ?_) rfl (by rfl) ?_ ?_
                rotate_left
                · intro w' hS
                  try dsimp only at hS
                  go_simp
                  try with_reducible rfl
                try simp only [Act.put, List.setIfInBounds_toArray, List.set_cons_zero, List.set_cons_succ, List.getElem_toArray, List.getElem_cons_zero, List.getElem_cons_succ]
              refine planT_stop ?_
              have hBW := HB.out
              have hBZ := hBW.size
              obtain ⟨⟨⟨⟨⟨⟨⟨⟨_, q0⟩, q1⟩, q2⟩, q3⟩, qB⟩, q4⟩, q5⟩, q6⟩ := HKP.out V7 (Below.refl _ _)
              refine ⟨r0, m0, r1, m1, r2, m2, r3, m3, r4, m4, r5, m5, r6, m6, B, rfl, ?_, HB.out⟩
              exact ⟨y0, y1, ys, _, _, _, _, _, _, _, _, _, _, _, _, _, _, q0, q1, q2, q3, q4, q5, ⟨r6, m6, rfl, q6⟩, ⟨B, qB, rfl⟩, by omega, by omega, HBW.out.trans (hBW.mono HBW.out.size)⟩
          · refine op_make (v := .pointer (some ⟨V3.heap.size, 0, none⟩)) (w1 := V3.alloc (.cells #[.slice none 0 0, .slice none 0 0, .slice none 0 0, .slice none 0 0, .slice none 0 0, .slice none 0 0, .slice none 0 0] 32)) rfl (by rfl) (by go_simp) ?_
            have hb : Below V3.heap.size V3 (V3.alloc (.cells #[.slice none 0 0, .slice none 0 0, .slice none 0 0, .slice none 0 0, .slice none 0 0, .slice none 0 0, .slice none 0 0] 32)) := (Below.refl _ _).alloc (Nat.le_refl _) _
            have hBn : Blk (V3.alloc (.cells #[.slice none 0 0, .slice none 0 0, .slice none 0 0, .slice none 0 0, .slice none 0 0, .slice none 0 0, .slice none 0 0] 32)) V3.heap.size #[.slice none 0 0, .slice none 0 0, .slice none 0 0, .slice none 0 0, .slice none 0 0, .slice none 0 0, .slice none 0 0] := Blk.new _ _ _
            have hsB : (V3.alloc (.cells #[.slice none 0 0, .slice none 0 0, .slice none 0 0, .slice none 0 0, .slice none 0 0, .slice none 0 0, .slice none 0 0] 32)).heap.size = V3.heap.size + 1 := World.size_alloc _ _
            have HB := Lib.hid (HB.out.trans (hb.mono HB.out.size))
            have HKP := Lib.hid (HKP.out.mono hb)
            have HBN := Lib.hid (fun W hW => hBn.below (w' := W) hW)
            obtain ⟨B, hBe⟩ : ∃ B, B = V3.heap.size := ⟨_, rfl⟩
            rw [← hBe] at HBN hsB ⊢
            obtain ⟨X, hX⟩ : ∃ X, X = V3.alloc (.cells #[.slice none 0 0, .slice none 0 0, .slice none 0 0, .slice none 0 0, .slice none 0 0, .slice none 0 0, .slice none 0 0] 32) := ⟨_, rfl⟩
            rw [← hX] at HB HKP HBN hsB ⊢
            have HKP := Lib.hid (Keep.and HKP.out (fun W hW => HBN.out W hW))
            clear hX hBn hb HBN
            refine ⟨HSX.out _ HB.out, ?_⟩
            try simp only [Act.put, List.setIfInBounds_toArray, List.set_cons_zero, List.set_cons_succ, List.getElem_toArray, List.getElem_cons_zero, List.getElem_cons_succ]
            refine planT_one ?_
            refine op_call (F := 65) (args := ?_) rfl (by rfl) ?_ ?_
            rotate_left
            · go_simp
              rfl
            refine (HC3.out _ HB.out).mono ?_
            rintro e V4 ⟨r3, m3, rfl, g3, hb⟩
            have hs3 := hb.size
            have HB := Lib.hid (HB.out.trans (hb.mono HB.out.size))
            have HKP := Lib.hid (Keep.and (HKP.out.mono hb) g3)
            clear hb g3
            refine ⟨_, rfl, HSX.out _ HB.out, ?_⟩
            try simp only [Act.put, List.setIfInBounds_toArray, List.set_cons_zero, List.set_cons_succ, List.getElem_toArray, List.getElem_cons_zero, List.getElem_cons_succ]
            refine planT_one ?_
            refine op_call (F := 66) (args := ?_) rfl (by rfl) ?_ ?_
            rotate_left
            · go_simp
              rfl
            refine (HC4.out _ HB.out).mono ?_
            rintro e V5 ⟨r4, m4, rfl, g4, hb⟩
            have hs4 := hb.size
            have HB := Lib.hid (HB.out.trans (hb.mono HB.out.size))
            have HKP := Lib.hid (Keep.and (HKP.out.mono hb) g4)
            clear hb g4
            refine ⟨_, rfl, HSX.out _ HB.out, ?_⟩
            try simp only [Act.put, List.setIfInBounds_toArray, List.set_cons_zero, List.set_cons_succ, List.getElem_toArray, List.getElem_cons_zero, List.getElem_cons_succ]
            refine planT_one ?_
            refine op_call (F := 67) (args := ?_) rfl (by rfl) ?_ ?_
            rotate_left
            · go_simp
              rfl
            refine (HC5.out _ HB.out).mono ?_
            rintro e V6 ⟨r5, m5, rfl, g5, hb⟩
            have hs5 := hb.size
            have HB := Lib.hid (HB.out.trans (hb.mono HB.out.size))
            have HKP := Lib.hid (Keep.and (HKP.out.mono hb) g5)
            clear hb g5
            refine ⟨_, rfl, HSX.out _ HB.out, ?_⟩
            try simp only [Act.put, List.setIfInBounds_toArray, List.set_cons_zero, List.set_cons_succ, List.getElem_toArray, List.getElem_cons_zero, List.getElem_cons_succ]
            refine planT_one ?_
            refine op_call (F := 68) (args := ?_) rfl (by rfl) ?_ ?_
            rotate_left
            · go_simp
              rfl
            refine (HC6.out _ HB.out).mono ?_
            rintro e V7 ⟨r6, m6, ys, rfl, g6, hb⟩
            have hs6 := hb.size
            have HB := Lib.hid (HB.out.trans (hb.mono HB.out.size))
            have HKP := Lib.hid (Keep.and (HKP.out.mono hb) g6)
            clear hb g6
            refine ⟨_, rfl, HSX.out _ HB.out, ?_⟩
            try simp only [Act.put, List.setIfInBounds_toArray, List.set_cons_zero, List.set_cons_succ, List.getElem_toArray, List.getElem_cons_zero, List.getElem_cons_succ]
            iterate 2
              refine planT_read (v := ?_) rfl (by rfl) ?_ ?_
              rotate_left
              · intro w' hS
                try dsimp only at hS
                go_simp
                try with_reducible rfl
              try simp only [Act.put, List.setIfInBounds_toArray, List.set_cons_zero, List.set_cons_succ, List.getElem_toArray, List.getElem_cons_zero, List.getElem_cons_succ]
            refine planT_stop ?_
            have hBW := HB.out
            have hBZ := hBW.size
            obtain ⟨⟨⟨⟨⟨⟨⟨⟨_, q0⟩, q1⟩, q2⟩, qB⟩, q3⟩, q4⟩, q5⟩, q6⟩ := HKP.out V7 (Below.refl _ _)
            refine ⟨r0, m0, r1, m1, r2, m2, r3, m3, r4, m4, r5, m5, r6, m6, B, rfl, ?_, HB.out⟩
            exact ⟨y0, y1, ys, _, _, _, _, _, _, _, _, _, _, _, _, _, _, q0, q1, q2, q3, q4, q5, ⟨r6, m6, rfl, q6⟩, ⟨B, qB, rfl⟩, by omega, by omega, HBW.out.trans (hBW.mono HBW.out.size)⟩
        · refine op_make (v := .pointer (some ⟨V2.heap.size, 0, none⟩)) (w1 := V2.alloc (.cells #[.slice none 0 0, .slice none 0 0, .slice none 0 0, .slice none 0 0, .slice none 0 0, .slice none 0 0, .slice none 0 0] 32)) rfl (by rfl) (by go_simp) ?_
          have hb : Below V2.heap.size V2 (V2.alloc (.cells #[.slice none 0 0, .slice none 0 0, .slice none 0 0, .slice none 0 0, .slice none 0 0, .slice none 0 0, .slice none 0 0] 32)) := (Below.refl _ _).alloc (Nat.le_refl _) _
          have hBn : Blk (V2.alloc (.cells #[.slice none 0 0, .slice none 0 0, .slice none 0 0, .slice none 0 0, .slice none 0 0, .slice none 0 0, .slice none 0 0] 32)) V2.heap.size #[.slice none 0 0, .slice none 0 0, .slice none 0 0, .slice none 0 0, .slice none 0 0, .slice none 0 0, .slice none 0 0] := Blk.new _ _ _
          have hsB : (V2.alloc (.cells #[.slice none 0 0, .slice none 0 0, .slice none 0 0, .slice none 0 0, .slice none 0 0, .slice none 0 0, .slice none 0 0] 32)).heap.size = V2.heap.size + 1 := World.size_alloc _ _
          have HB := Lib.hid (HB.out.trans (hb.mono HB.out.size))
          have HKP := Lib.hid (HKP.out.mono hb)
          have HBN := Lib.hid (fun W hW => hBn.below (w' := W) hW)
          obtain ⟨B, hBe⟩ : ∃ B, B = V2.heap.size := ⟨_, rfl⟩
          rw [← hBe] at HBN hsB ⊢
          obtain ⟨X, hX⟩ : ∃ X, X = V2.alloc (.cells #[.slice none 0 0, .slice none 0 0, .slice none 0 0, .slice none 0 0, .slice none 0 0, .slice none 0 0, .slice none 0 0] 32) := ⟨_, rfl⟩
          rw [← hX] at HB HKP HBN hsB ⊢
          have HKP := Lib.hid (Keep.and HKP.out (fun W hW => HBN.out W hW))
          clear hX hBn hb HBN
          refine ⟨HSX.out _ HB.out, ?_⟩
          try simp only [Act.put, List.setIfInBounds_toArray, List.set_cons_zero, List.set_cons_succ, List.getElem_toArray, List.getElem_cons_zero, List.getElem_cons_succ]
          refine planT_one ?_
          refine op_call (F := 64) (args := ?_) rfl (by rfl) ?_ ?_
          rotate_left
          · go_simp
            rfl
          refine (HC2.out _ HB.out).mono ?_
          rintro e V3 ⟨r2, m2, rfl, g2, hb⟩
          have hs2 := hb.size
          have HB := Lib.hid (HB.out.trans (hb.mono HB.out.size))
          have HKP := Lib.hid (Keep.and (HKP.out.mono hb) g2)
          clear hb g2
          refine ⟨_, rfl, HSX.out _ HB.out, ?_⟩
          try simp only [Act.put, List.setIfInBounds_toArray, List.set_cons_zero, List.set_cons_succ, List.getElem_toArray, List.getElem_cons_zero, List.getElem_cons_succ]
          refine planT_one ?_
          refine op_call (F := 65) (args := ?_) rfl (by rfl) ?_ ?_
          rotate_left
          · go_simp
            rfl
          refine (HC3.out _ HB.out).mono ?_
          rintro e V4 ⟨r3, m3, rfl, g3, hb⟩
          have hs3 := hb.size
          have HB := Lib.hid (HB.out.trans (hb.mono HB.out.size))
          have HKP := Lib.hid (Keep.and (HKP.out.mono hb) g3)
          clear hb g3
          refine ⟨_, rfl, HSX.out _ HB.out, ?_⟩
          try simp only [Act.put, List.setIfInBounds_toArray, List.set_cons_zero, List.set_cons_succ, List.getElem_toArray, List.getElem_cons_zero, List.getElem_cons_succ]
          refine planT_one ?_
          refine op_call (F := 66) (args := ?_) rfl (by rfl) ?_ ?_
          rotate_left
          · go_simp
            rfl
          refine (HC4.out _ HB.out).mono ?_
          rintro e V5 ⟨r4, m4, rfl, g4, hb⟩
          have hs4 := hb.size
          have HB := Lib.hid (HB.out.trans (hb.mono HB.out.size))
          have HKP := Lib.hid (Keep.and (HKP.out.mono hb) g4)
          clear hb g4
          refine ⟨_, rfl, HSX.out _ HB.out, ?_⟩
          try simp only [Act.put, List.setIfInBounds_toArray, List.set_cons_zero, List.set_cons_succ, List.getElem_toArray, List.getElem_cons_zero, List.getElem_cons_succ]
          refine planT_one ?_
          refine op_call (F := 67) (args := ?_) rfl (by rfl) ?_ ?_
          rotate_left
          · go_simp
            rfl
          refine (HC5.out _ HB.out).mono ?_
          rintro e V6 ⟨r5, m5, rfl, g5, hb⟩
          have hs5 := hb.size
          have HB := Lib.hid (HB.out.trans (hb.mono HB.out.size))
          have HKP := Lib.hid (Keep.and (HKP.out.mono hb) g5)
          clear hb g5
          refine ⟨_, rfl, HSX.out _ HB.out, ?_⟩
          try simp only [Act.put, List.setIfInBounds_toArray, List.set_cons_zero, List.set_cons_succ, List.getElem_toArray, List.getElem_cons_zero, List.getElem_cons_succ]
          refine planT_one ?_
          refine op_call (F := 68) (args := ?_) rfl (by rfl) ?_ ?_
          rotate_left
          · go_simp
            rfl
          refine (HC6.out _ HB.out).mono ?_
          rintro e V7 ⟨r6, m6, ys, rfl, g6, hb⟩
          have hs6 := hb.size
          have HB := Lib.hid (HB.out.trans (hb.mono HB.out.size))
          have HKP := Lib.hid (Keep.and (HKP.out.mono hb) g6)
          clear hb g6
          refine ⟨_, rfl, HSX.out _ HB.out, ?_⟩
          try simp only [Act.put, List.setIfInBounds_toArray, List.set_cons_zero, List.set_cons_succ, List.getElem_toArray, List.getElem_cons_zero, List.getElem_cons_succ]
          iterate 2
            refine planT_read (v := ?_) rfl (by rfl) ?_ ?_
            rotate_left
            · intro w' hS
              try dsimp only at hS
              go_simp
              try with_reducible rfl
            try simp only [Act.put, List.setIfInBounds_toArray, List.set_cons_zero, List.set_cons_succ, List.getElem_toArray, List.getElem_cons_zero, List.getElem_cons_succ]
          refine planT_stop ?_
          have hBW := HB.out
          have hBZ := hBW.size
          obtain ⟨⟨⟨⟨⟨⟨⟨⟨_, q0⟩, q1⟩, qB⟩, q2⟩, q3⟩, q4⟩, q5⟩, q6⟩ := HKP.out V7 (Below.refl _ _)
          refine ⟨r0, m0, r1, m1, r2, m2, r3, m3, r4, m4, r5, m5, r6, m6, B, rfl, ?_, HB.out⟩
          exact ⟨y0, y1, ys, _, _, _, _, _, _, _, _, _, _, _, _, _, _, q0, q1, q2, q3, q4, q5, ⟨r6, m6, rfl, q6⟩, ⟨B, qB, rfl⟩, by omega, by omega, HBW.out.trans (hBW.mono HBW.out.size)⟩
      · refine op_make (v := .pointer (some ⟨V1.heap.size, 0, none⟩)) (w1 := V1.alloc (.cells #[.slice none 0 0, .slice none 0 0, .slice none 0 0, .slice none 0 0, .slice none 0 0, .slice none 0 0, .slice none 0 0] 32)) rfl (by rfl) (by go_simp) ?_
        have hb : Below V1.heap.size V1 (V1.alloc (.cells #[.slice none 0 0, .slice none 0 0, .slice none 0 0, .slice none 0 0, .slice none 0 0, .slice none 0 0, .slice none 0 0] 32)) := (Below.refl _ _).alloc (Nat.le_refl _) _
        have hBn : Blk (V1.alloc (.cells #[.slice none 0 0, .slice none 0 0, .slice none 0 0, .slice none 0 0, .slice none 0 0, .slice none 0 0, .slice none 0 0] 32)) V1.heap.size #[.slice none 0 0, .slice none 0 0, .slice none 0 0, .slice none 0 0, .slice none 0 0, .slice none 0 0, .slice none 0 0] := Blk.new _ _ _
        have hsB : (V1.alloc (.cells #[.slice none 0 0, .slice none 0 0, .slice none 0 0, .slice none 0 0, .slice none 0 0, .slice none 0 0, .slice none 0 0] 32)).heap.size = V1.heap.size + 1 := World.size_alloc _ _
        have HB := Lib.hid (HB.out.trans (hb.mono HB.out.size))
        have HKP := Lib.hid (HKP.out.mono hb)
        have HBN := Lib.hid (fun W hW => hBn.below (w' := W) hW)
        obtain ⟨B, hBe⟩ : ∃ B, B = V1.heap.size := ⟨_, rfl⟩
        rw [← hBe] at HBN hsB ⊢
        obtain ⟨X, hX⟩ : ∃ X, X = V1.alloc (.cells #[.slice none 0 0, .slice none 0 0, .slice none 0 0, .slice none 0 0, .slice none 0 0, .slice none 0 0, .slice none 0 0] 32) := ⟨_, rfl⟩
        rw [← hX] at HB HKP HBN hsB ⊢
        have HKP := Lib.hid (Keep.and HKP.out (fun W hW => HBN.out W hW))
        clear hX hBn hb HBN
        refine ⟨HSX.out _ HB.out, ?_⟩
        try simp only [Act.put, List.setIfInBounds_toArray, List.set_cons_zero, List.set_cons_succ, List.getElem_toArray, List.getElem_cons_zero, List.getElem_cons_succ]
        refine planT_one ?_
        refine op_call (F := 63) (args := ?_) rfl (by rfl) ?_ ?_
        rotate_left
        · go_simp
          rfl
        refine (HC1.out _ HB.out).mono ?_
        rintro e V2 ⟨r1, m1, y1, rfl, g1, hb⟩
        have hs1 := hb.size
        have HB := Lib.hid (HB.out.trans (hb.mono HB.out.size))
        have HKP := Lib.hid (Keep.and (HKP.out.mono hb) g1)
        clear hb g1
        refine ⟨_, rfl, HSX.out _ HB.out, ?_⟩
        try simp only [Act.put, List.setIfInBounds_toArray, List.set_cons_zero, List.set_cons_succ, List.getElem_toArray, List.getElem_cons_zero, List.getElem_cons_succ]
        refine planT_one ?_
        refine op_call (F := 64) (args := ?_) rfl (by rfl) ?_ ?_
        rotate_left
        · go_simp
          rfl
        refine (HC2.out _ HB.out).mono ?_
        rintro e V3 ⟨r2, m2, rfl, g2, hb⟩
        have hs2 := hb.size
        have HB := Lib.hid (HB.out.trans (hb.mono HB.out.size))
        have HKP := Lib.hid (Keep.and (HKP.out.mono hb) g2)
        clear hb g2
        refine ⟨_, rfl, HSX.out _ HB.out, ?_⟩
        try simp only [Act.put, List.setIfInBounds_toArray, List.set_cons_zero, List.set_cons_succ, List.getElem_toArray, List.getElem_cons_zero, List.getElem_cons_succ]
        refine planT_one ?_
        refine op_call (F := 65) (args := ?_) rfl (by rfl) ?_ ?_
        rotate_left
        · go_simp
          rfl
        refine (HC3.out _ HB.out).mono ?_
        rintro e V4 ⟨r3, m3, rfl, g3, hb⟩
        have hs3 := hb.size
        have HB := Lib.hid (HB.out.trans (hb.mono HB.out.size))
        have HKP := Lib.hid (Keep.and (HKP.out.mono hb) g3)
        clear hb g3
        refine ⟨_, rfl, HSX.out _ HB.out, ?_⟩
        try simp only [Act.put, List.setIfInBounds_toArray, List.set_cons_zero, List.set_cons_succ, List.getElem_toArray, List.getElem_cons_zero, List.getElem_cons_succ]
        refine planT_one ?_
        refine op_call (F := 66) (args := ?_) rfl (by rfl) ?_ ?_
        rotate_left
        · go_simp
          rfl
        refine (HC4.out _ HB.out).mono ?_
        rintro e V5 ⟨r4, m4, rfl, g4, hb⟩
        have hs4 := hb.size
        have HB := Lib.hid (HB.out.trans (hb.mono HB.out.size))
        have HKP := Lib.hid (Keep.and (HKP.out.mono hb) g4)
        clear hb g4
        refine ⟨_, rfl, HSX.out _ HB.out, ?_⟩
        try simp only [Act.put, List.setIfInBounds_toArray, List.set_cons_zero, List.set_cons_succ, List.getElem_toArray, List.getElem_cons_zero, List.getElem_cons_succ]
        refine planT_one ?_
        refine op_call (F := 67) (args := ?_) rfl (by rfl) ?_ ?_
        rotate_left
        · go_simp
          rfl
        refine (HC5.out _ HB.out).mono ?_
        rintro e V6 ⟨r5, m5, rfl, g5, hb⟩
        have hs5 := hb.size
        have HB := Lib.hid (HB.out.trans (hb.mono HB.out.size))
        have HKP := Lib.hid (Keep.and (HKP.out.mono hb) g5)
        clear hb g5
        refine ⟨_, rfl, HSX.out _ HB.out, ?_⟩
        try simp only [Act.put, List.setIfInBounds_toArray, List.set_cons_zero, List.set_cons_succ, List.getElem_toArray, List.getElem_cons_zero, List.getElem_cons_succ]
        refine planT_one ?_
        refine op_call (F := 68) (args := ?_) rfl (by rfl) ?_ ?_
        rotate_left
        · go_simp
          rfl
        refine (HC6.out _ HB.out).mono ?_
        rintro e V7 ⟨r6, m6, ys, rfl, g6, hb⟩
        have hs6 := hb.size
        have HB := Lib.hid (HB.out.trans (hb.mono HB.out.size))
        have HKP := Lib.hid (Keep.and (HKP.out.mono hb) g6)
        clear hb g6
        refine ⟨_, rfl, HSX.out _ HB.out, ?_⟩
        try simp only [Act.put, List.setIfInBounds_toArray, List.set_cons_zero, List.set_cons_succ, List.getElem_toArray, List.getElem_cons_zero, List.getElem_cons_succ]
        iterate 2
          refine planT_read (v := ?_) rfl (by rfl) ?_ ?_
          rotate_left
          · intro w' hS
            try dsimp only at hS
            go_simp
            try with_reducible rfl
          try simp only [Act.put, List.setIfInBounds_toArray, List.set_cons_zero, List.set_cons_succ, List.getElem_toArray, List.getElem_cons_zero, List.getElem_cons_succ]
        refine planT_stop ?_
        have hBW := HB.out
        have hBZ := hBW.size
        obtain ⟨⟨⟨⟨⟨⟨⟨⟨_, q0⟩, qB⟩, q1⟩, q2⟩, q3⟩, q4⟩, q5⟩, q6⟩ := HKP.out V7 (Below.refl _ _)
        refine ⟨r0, m0, r1, m1, r2, m2, r3, m3, r4, m4, r5, m5, r6, m6, B, rfl, ?_, HB.out⟩
        exact ⟨y0, y1, ys, _, _, _, _, _, _, _, _, _, _, _, _, _, _, q0, q1, q2, q3, q4, q5, ⟨r6, m6, rfl, q6⟩, ⟨B, qB, rfl⟩, by omega, by omega, HBW.out.trans (hBW.mono HBW.out.size)⟩
    · refine op_make (v := .pointer (some ⟨V0.heap.size, 0, none⟩)) (w1 := V0.alloc (.cells #[.slice none 0 0, .slice none 0 0, .slice none 0 0, .slice none 0 0, .slice none 0 0, .slice none 0 0, .slice none 0 0] 32)) rfl (by rfl) (by go_simp) ?_
      have hb : Below V0.heap.size V0 (V0.alloc (.cells #[.slice none 0 0, .slice none 0 0, .slice none 0 0, .slice none 0 0, .slice none 0 0, .slice none 0 0, .slice none 0 0] 32)) := (Below.refl _ _).alloc (Nat.le_refl _) _
      have hBn : Blk (V0.alloc (.cells #[.slice none 0 0, .slice none 0 0, .slice none 0 0, .slice none 0 0, .slice none 0 0, .slice none 0 0, .slice none 0 0] 32)) V0.heap.size #[.slice none 0 0, .slice none 0 0, .slice none 0 0, .slice none 0 0, .slice none 0 0, .slice none 0 0, .slice none 0 0] := Blk.new _ _ _
      have hsB : (V0.alloc (.cells #[.slice none 0 0, .slice none 0 0, .slice none 0 0, .slice none 0 0, .slice none 0 0, .slice none 0 0, .slice none 0 0] 32)).heap.size = V0.heap.size + 1 := World.size_alloc _ _
      have HB := Lib.hid (HB.out.trans (hb.mono HB.out.size))
      have HKP := Lib.hid (HKP.out.mono hb)
      have HBN := Lib.hid (fun W hW => hBn.below (w' := W) hW)
      obtain ⟨B, hBe⟩ : ∃ B, B = V0.heap.size := ⟨_, rfl⟩
      rw [← hBe] at HBN hsB ⊢
      obtain ⟨X, hX⟩ : ∃ X, X = V0.alloc (.cells #[.slice none 0 0, .slice none 0 0, .slice none 0 0, .slice none 0 0, .slice none 0 0, .slice none 0 0, .slice none 0 0] 32) := ⟨_, rfl⟩
      rw [← hX] at HB HKP HBN hsB ⊢
      have HKP := Lib.hid (Keep.and HKP.out (fun W hW => HBN.out W hW))
      clear hX hBn hb HBN
      refine ⟨HSX.out _ HB.out, ?_⟩
      try simp only [Act.put, List.setIfInBounds_toArray, List.set_cons_zero, List.set_cons_succ, List.getElem_toArray, List.getElem_cons_zero, List.getElem_cons_succ]
      refine planT_one ?_
      refine op_call (F := 62) (args := ?_) rfl (by rfl) ?_ ?_
      rotate_left
      · go_simp
        rfl
      refine (HC0.out _ HB.out).mono ?_
      rintro e V1 ⟨r0, m0, y0, rfl, g0, hb⟩
      have hs0 := hb.size
      have HB := Lib.hid (HB.out.trans (hb.mono HB.out.size))
      have HKP := Lib.hid (Keep.and (HKP.out.mono hb) g0)
      clear hb g0
      refine ⟨_, rfl, HSX.out _ HB.out, ?_⟩
      try simp only [Act.put, List.setIfInBounds_toArray, List.set_cons_zero, List.set_cons_succ, List.getElem_toArray, List.getElem_cons_zero, List.getElem_cons_succ]
      refine planT_one ?_
      refine op_call (F := 63) (args := ?_) rfl (by rfl) ?_ ?_
      rotate_left
      · go_simp
        rfl
      refine (HC1.out _ HB.out).mono ?_
      rintro e V2 ⟨r1, m1, y1, rfl, g1, hb⟩
      have hs1 := hb.size
      have HB := Lib.hid (HB.out.trans (hb.mono HB.out.size))
      have HKP := Lib.hid (Keep.and (HKP.out.mono hb) g1)
      clear hb g1
      refine ⟨_, rfl, HSX.out _ HB.out, ?_⟩
      try simp only [Act.put, List.setIfInBounds_toArray, List.set_cons_zero, List.set_cons_succ, List.getElem_toArray, List.getElem_cons_zero, List.getElem_cons_succ]
      refine planT_one ?_
      refine op_call (F := 64) (args := ?_) rfl (by rfl) ?_ ?_
      rotate_left
      · go_simp
        rfl
      refine (HC2.out _ HB.out).mono ?_
      rintro e V3 ⟨r2, m2, rfl, g2, hb⟩
      have hs2 := hb.size
      have HB := Lib.hid (HB.out.trans (hb.mono HB.out.size))
      have HKP := Lib.hid (Keep.and (HKP.out.mono hb) g2)
      clear hb g2
      refine ⟨_, rfl, HSX.out _ HB.out, ?_⟩
      try simp only [Act.put, List.setIfInBounds_toArray, List.set_cons_zero, List.set_cons_succ, List.getElem_toArray, List.getElem_cons_zero, List.getElem_cons_succ]
      refine planT_one ?_
      refine op_call (F := 65) (args := ?_) rfl (by rfl) ?_ ?_
      rotate_left
      · go_simp
        rfl
      refine (HC3.out _ HB.out).mono ?_
      rintro e V4 ⟨r3, m3, rfl, g3, hb⟩
      have hs3 := hb.size
      have HB := Lib.hid (HB.out.trans (hb.mono HB.out.size))
      have HKP := Lib.hid (Keep.and (HKP.out.mono hb) g3)
      clear hb g3
      refine ⟨_, rfl, HSX.out _ HB.out, ?_⟩
      try simp only [Act.put, List.setIfInBounds_toArray, List.set_cons_zero, List.set_cons_succ, List.getElem_toArray, List.getElem_cons_zero, List.getElem_cons_succ]
      refine planT_one ?_
      refine op_call (F := 66) (args := ?_) rfl (by rfl) ?_ ?_
      rotate_left
      · go_simp
        rfl
      refine (HC4.out _ HB.out).mono ?_
      rintro e V5 ⟨r4, m4, rfl, g4, hb⟩
      have hs4 := hb.size
      have HB := Lib.hid (HB.out.trans (hb.mono HB.out.size))
      have HKP := Lib.hid (Keep.and (HKP.out.mono hb) g4)
      clear hb g4
      refine ⟨_, rfl, HSX.out _ HB.out, ?_⟩
      try simp only [Act.put, List.setIfInBounds_toArray, List.set_cons_zero, List.set_cons_succ, List.getElem_toArray, List.getElem_cons_zero, List.getElem_cons_succ]
      refine planT_one ?_
      refine op_call (F := 67) (args := ?_) rfl (by rfl) ?_ ?_
      rotate_left
      · go_simp
        rfl
      refine (HC5.out _ HB.out).mono ?_
      rintro e V6 ⟨r5, m5, rfl, g5, hb⟩
      have hs5 := hb.size
      have HB := Lib.hid (HB.out.trans (hb.mono HB.out.size))
      have HKP := Lib.hid (Keep.and (HKP.out.mono hb) g5)
      clear hb g5
      refine ⟨_, rfl, HSX.out _ HB.out, ?_⟩
      try simp only [Act.put, List.setIfInBounds_toArray, List.set_cons_zero, List.set_cons_succ, List.getElem_toArray, List.getElem_cons_zero, List.getElem_cons_succ]
      refine planT_one ?_
      refine op_call (F := 68) (args := ?_) rfl (by rfl) ?_ ?_
      rotate_left
      · go_simp
        rfl
      refine (HC6.out _ HB.out).mono ?_
      rintro e V7 ⟨r6, m6, ys, rfl, g6, hb⟩
      have hs6 := hb.size
      have HB := Lib.hid (HB.out.trans (hb.mono HB.out.size))
      have HKP := Lib.hid (Keep.and (HKP.out.mono hb) g6)
      clear hb g6
      refine ⟨_, rfl, HSX.out _ HB.out, ?_⟩
      try simp only [Act.put, List.setIfInBounds_toArray, List.set_cons_zero, List.set_cons_succ, List.getElem_toArray, List.getElem_cons_zero, List.getElem_cons_succ]
      iterate 2
        refine planT_read (v := ?_) rfl (by rfl) ?_ ?_
        rotate_left
        · intro w' hS
          try dsimp only at hS
          go_simp
          try with_reducible rfl
        try simp only [Act.put, List.setIfInBounds_toArray, List.set_cons_zero, List.set_cons_succ, List.getElem_toArray, List.getElem_cons_zero, List.getElem_cons_succ]
      refine planT_stop ?_
      have hBW := HB.out
      have hBZ := hBW.size
      obtain ⟨⟨⟨⟨⟨⟨⟨⟨_, qB⟩, q0⟩, q1⟩, q2⟩, q3⟩, q4⟩, q5⟩, q6⟩ := HKP.out V7 (Below.refl _ _)
      refine ⟨r0, m0, r1, m1, r2, m2, r3, m3, r4, m4, r5, m5, r6, m6, B, rfl, ?_, HB.out⟩
      exact ⟨y0, y1, ys, _, _, _, _, _, _, _, _, _, _, _, _, _, _, q0, q1, q2, q3, q4, q5, ⟨r6, m6, rfl, q6⟩, ⟨B, qB, rfl⟩, by omega, by omega, HBW.out.trans (hBW.mono HBW.out.size)⟩

  · rintro a' V ⟨r0, m0, r1, m1, r2, m2, r3, m3, r4, m4, r5, m5, r6, m6, B, rfl, hl, hbV⟩
    simp only [List.drop_succ_cons, List.drop_zero]
    have hbl : Blk V B #[.slice none 0 0, .slice none 0 0, .slice none 0 0, .slice none 0 0, .slice none 0 0, .slice none 0 0, .slice none 0 0] := by
      obtain ⟨y0, y1, ys, a0, b0, a1, b1, a2, b2, a3, b3, a4, b4, a5, b5, a6, b6, g0, g1, g2, g3, g4, g5, g6, ⟨_, hB, _⟩, hn⟩ := hl
      exact hB
    have kB := hbl.c
    have fB := hbl.f
    obtain ⟨W, hW⟩ : ∃ W, W = (((((((V.setCell ⟨B, 0, none⟩ (.slice r0 c m0)).setCell ⟨B, 1, none⟩ (.slice r1 c m1)).setCell ⟨B, 2, none⟩ (.slice r2 c m2)).setCell ⟨B, 3, none⟩ (.slice r3 l m3)).setCell ⟨B, 4, none⟩ (.slice r4 l m4)).setCell ⟨B, 5, none⟩ (.slice r5 l m5)).setCell ⟨B, 6, none⟩ (.slice r6 L.length m6)) := ⟨_, rfl⟩
    obtain ⟨A', p', cp', ys, e6, e0, e1, e2, e3, e4, e5, hmW, hbx, hpW, hoW, hbase, hbW, hshW, hoff2⟩ := hl.mem HM.out hW
    have hBR : B ≠ w.heap.size + 1 := by
      have := hbase .bx rfl (by show 0 < 7; omega)
      rw [hbx] at this
      simp at this
      omega
    have HRW : Hid (Blk W (w.heap.size + 1) #[.slice none 0 0, .slice none 0 0, .slice none 0 0, .slice none 0 0, .slice none 0 0, .slice none 0 0, .slice none 0 0]) := Lib.hid (by
      have := HRS.out.below hbV
      rw [hW]
      exact ((((((this.other (B' := B) (n := 0) _ hBR).other (B' := B) (n := 1) _ hBR).other (B' := B) (n := 2) _ hBR).other (B' := B) (n := 3) _ hBR).other (B' := B) (n := 4) _ hBR).other (B' := B) (n := 5) _ hBR).other (B' := B) (n := 6) _ hBR)
    have HWW := Lib.hid hW
    have HEE := Lib.hid (And.intro e0 (And.intro e1 (And.intro e2 (And.intro e3 (And.intro e4 (And.intro e5 e6))))))
    clear e0 e1 e2 e3 e4 e5 e6
    have HMW := Lib.hid hmW
    have HPW := Lib.hid hpW
    have HOW := Lib.hid hoW
    have HBS := Lib.hid hbase
    have HBX' := Lib.hid hbx
    have HBW' := Lib.hid hbW
    clear hl hbl hW hmW hpW hoW hbase hbx hbW
    have HSH := Lib.hid hshW
    have HOFF := Lib.hid hoff2
    clear hshW hoff2
    have hr4 := HEE.out.2.2.2.2.1
    injection hr4 with hr4 _ hm4
    subst hr4
    subst hm4
    obtain ⟨gd, hgd⟩ : ∃ gd, gd = (A' .di).b := ⟨_, rfl⟩
    obtain ⟨od, hod⟩ : ∃ od, od = (A' .di).o := ⟨_, rfl⟩
    obtain ⟨md, hmd⟩ : ∃ md, md = (A' .di).c := ⟨_, rfl⟩
    have HDI : Hid (A' .di = ⟨gd, od, md⟩) := Lib.hid (by rw [hgd, hod, hmd])
    rw [← hgd, ← hod, ← hmd] at HWW HEE ⊢
    clear hgd hod hmd
    go_wp2_with fail
    rw [← HWW.out]
    clear HWW kB fB hbV hBR
    go_loopw [33] (fun i wr => ∃ (k : Nat) (A2 : Tg → Pa), k ≤ l ∧ i = .int .i64 k ∧ Mem wr 7 c l A2 F (.slice r6 L.length m6) vz ∧ (∀ t : Tg, t.wr = true → A2 t = A' t) ∧ (∀ k, k < l → (A2 (.sh k)).b ≠ w.heap.size + 1) ∧ Pl wr p' ys L ∧ Blk wr (w.heap.size + 1) #[.slice none 0 0, .slice none 0 0, .slice none 0 0, .slice none 0 0, .slice none 0 0, .slice none 0 0, .slice none 0 0] ∧ Below w.heap.size w wr) (fun i _ => l - (intOf i).toNat)
    case atStart => exact ⟨0, A', Nat.zero_le _, rfl, HMW.out, fun _ _ => rfl, fun k hk => by
        rw [HSH.out]
        have := HM.out.lt (.sh k) (by show 0 < if k < l then c else 0; rw [if_pos hk]; exact HM.out.c1)
        omega, HPW.out, HRW.out, HBW'.out⟩
    case round =>
      obtain ⟨k, A2, hk, rfl, hm, hA, hsh, hpl, hrs, hb⟩ := hrel
      clear HMW HPW HRW HBW' HSH
      have hbx2 : A2 .bx = ⟨B, 0, 0⟩ := (hA .bx rfl).trans HBX'.out
      have hcB : ∀ j, j < 7 → wr.cell? ⟨B, j, none⟩ = some ((bxL c l A2 (.slice r6 L.length m6) vz).getD j vz) := fun j hj => by
        have := hm.cell .bx j hj
        rw [hbx2, Nat.zero_add] at this
        exact this
      obtain ⟨e0, e1, e2, e3, e4, e5, e6⟩ := HEE.out
      have kB0 : wr.cell? ⟨B, 0, none⟩ = some (.slice r0 c m0) := by rw [hcB 0 (by omega), e0, ← hA .st rfl]; rfl
      have kB1 : wr.cell? ⟨B, 1, none⟩ = some (.slice r1 c m1) := by rw [hcB 1 (by omega), e1, ← hA .va rfl]; rfl
      have kB2 : wr.cell? ⟨B, 2, none⟩ = some (.slice r2 c m2) := by rw [hcB 2 (by omega), e2, ← hA .wt rfl]; rfl
      have kB3 : wr.cell? ⟨B, 3, none⟩ = some (.slice r3 l m3) := by rw [hcB 3 (by omega), e3, ← hA .ho rfl]; rfl
      have kB4 : wr.cell? ⟨B, 4, none⟩ = some (.slice (some ⟨gd, od, none⟩) l md) := by rw [hcB 4 (by omega), e4, ← hA .di rfl]; rfl
      have kB5 : wr.cell? ⟨B, 5, none⟩ = some (.slice r5 l m5) := by rw [hcB 5 (by omega), e5, ← hA .bu rfl]; rfl
      have kB6 : wr.cell? ⟨B, 6, none⟩ = some (.slice r6 L.length m6) := hcB 6 (by omega)
      have hBl := hm.lt .bx (by show 0 < 7; omega)
      rw [hbx2] at hBl
      clear hcB e0 e1 e2 e3 e4 e5 e6
      have HMM := Lib.hid hm
      have HAA := Lib.hid hA
      have HSS := Lib.hid hsh
      have HPL := Lib.hid hpl
      have HRS2 := Lib.hid hrs
      have HB := Lib.hid hb
      clear hm hA hsh hpl hrs hb hbx2
      by_cases hlt : k < l
      · have hdi : A2 .di = ⟨gd, od, md⟩ := (HAA.out .di rfl).trans HDI.out
        have hd0 : wr.cell? ⟨gd, od + k * 2, none⟩ = some (.int .i64 (F.own k : Nat)) := by
          have := HMM.out.cell .di (k * 2) (by show k * 2 < l * 2; omega)
          rw [hdi] at this
          refine this.trans ?_
          show some (if (k * 2) % 2 = 0 then Value.int .i64 (F.own ((k * 2) / 2) : Nat) else _) = _
          rw [if_pos (by omega), show k * 2 / 2 = k by omega]
        obtain ⟨⟨bs, os, cs⟩, hAs⟩ : ∃ x, x = A2 (.sh k) := ⟨_, rfl⟩
        have hd1 : wr.cell? ⟨gd, od + k * 2 + 1, none⟩ = some (.slice (some ⟨bs, os, none⟩) c cs) := by
          have := HMM.out.cell .di (k * 2 + 1) (by show k * 2 + 1 < l * 2; omega)
          rw [hdi, ← Nat.add_assoc] at this
          refine this.trans ?_
          show some (if (k * 2 + 1) % 2 = 0 then Value.int .i64 (F.own ((k * 2 + 1) / 2) : Nat) else (A2 (.sh ((k * 2 + 1) / 2))).sl c) = _
          rw [if_neg (by omega), show (k * 2 + 1) / 2 = k by omega, ← hAs]
          rfl
        have hfz : wr.frozen? ⟨gd, od + k * 2 + 1, none⟩ = false := by
          have := HMM.out.fz .di rfl (by show 0 < l * 2; omega) (od + k * 2 + 1)
          rw [hdi] at this
          exact this
        have hgl : gd < wr.heap.size := by
          have := HMM.out.lt .di (by show 0 < l * 2; omega)
          rw [hdi] at this
          exact this
        have hss : 0 < (Tg.sh k).sz 7 c l := by show 0 < if k < l then c else 0; rw [if_pos hlt]; exact HMM.out.c1
        have hsl : Sl wr (some ⟨bs, os, none⟩) c (rowOf 7 c l A2 F (.slice r6 L.length m6) vz (.sh k)) := by
          have := HMM.out.sl (.sh k) hss c
          rw [← hAs] at this
          exact this
        obtain ⟨w3, hw3⟩ : ∃ w3, w3 = wr.alloc (.cells #[.int .i64 (F.own k : Nat), .slice (some ⟨bs, os, none⟩) c cs] 65) := ⟨_, rfl⟩
        have hb3 : Below wr.heap.size wr w3 := by rw [hw3]; exact (Below.refl _ _).alloc (Nat.le_refl _) _
        have hE : Blk w3 wr.heap.size #[.int .i64 (F.own k : Nat), .slice (some ⟨bs, os, none⟩) c cs] := by
          rw [hw3]
          exact Blk.new wr _ _
        have HSP : Hid (∀ V, Below w3.heap.size w3 V → V.cell? ⟨B, 4, none⟩ = some (.slice (some ⟨gd, od, none⟩) l md) ∧ V.cell? ⟨wr.heap.size, 1, none⟩ = some (.slice (some ⟨bs, os, none⟩) c cs)) := Lib.hid (fun V hV =>
          ⟨((hb3.trans (hV.mono hb3.size)).cell (p := ⟨B, 4, none⟩) hBl).trans kB4, (hE.below hV).c 1⟩)
        have HW3 := Lib.hid hw3
        have HB3 := Lib.hid hb3
        have HSL := Lib.hid hsl
        have HAS := Lib.hid hAs
        clear hw3 hb3 hE hsl hAs
        go_upto_region 5 with fail
        rw [← HW3.out]
        refine region_plan (fun V : World => V.cell? ⟨B, 4, none⟩ = some (.slice (some ⟨gd, od, none⟩) l md) ∧ V.cell? ⟨wr.heap.size, 1, none⟩ = some (.slice (some ⟨bs, os, none⟩) c cs)) 6 [(0, true), (1, true), (2, true), (3, true), (4, true), (5, false)] (by kernel_rfl) (by kernel_rfl) (HSP.out _ ((Below.refl _ _).drew)) ?_
        iterate 5
          refine plan_read (v := ?_) rfl (by rfl) ?_ ?_
          rotate_left
          · intro w' hS
            try dsimp only at hS
            go_simp
            try with_reducible rfl
          try simp only [Act.put, List.setIfInBounds_toArray, List.set_cons_zero, List.set_cons_succ, List.getElem_toArray, List.getElem_cons_zero, List.getElem_cons_succ]
        refine plan_call (F := 69) (args := ?_) rfl (by rfl) ?_ ?_
        rotate_left
        · go_simp
          rfl
        refine (clone_bool ⟨bs, os, none⟩ c cs _ w3.drew (by omega) (by rw [rowOf_len, Nat.mul_one]; show (if k < l then c else 0) = c; rw [if_pos hlt]) (HSL.out.below (HB3.out.drew)) (rowOf_one (by intro e; cases e))).mono ?_
        rintro e V4 ⟨r, rfl, ho4, hb4⟩
        obtain ⟨q4, c4, rfl, hc4'⟩ := own_cap ho4
        refine ⟨_, rfl, HSP.out _ ((Below.refl _ _).drew.trans hb4), ?_⟩
        try simp only [Act.put, List.setIfInBounds_toArray, List.set_cons_zero, List.set_cons_succ, List.getElem_toArray, List.getElem_cons_zero, List.getElem_cons_succ]
        obtain ⟨g4, rfl, hg1, hg2, hg3, hg4⟩ := own_go ho4 HMM.out.c1
        have hb4' : Below wr.heap.size wr V4 := HB3.out.trans (((Below.refl w3.heap.size w3).drew.trans hb4).mono HB3.out.size)
        have hbb : Below w.heap.size w V4 := HB.out.trans (hb4'.mono HB.out.size)
        have hg3' : wr.heap.size ≤ g4 := Nat.le_trans HB3.out.size hg3
        have hd2 := (hb4'.cell (p := ⟨gd, od + k * 2 + 1, none⟩) hgl).trans hd1
        have hf2 := (hb4'.frozen (p := ⟨gd, od + k * 2 + 1, none⟩) hgl).trans hfz
        have hM4 := (HMM.out.below hb4').share k ⟨g4, 0, c4⟩ (F.sh k) hlt (fun j hj => by
            show V4.cell? ⟨g4, 0 + j, none⟩ = _
            rw [Nat.zero_add, ho4.cellAt j (by omega), rowOf_at (by show j < if k < l then c else 0; rw [if_pos hlt]; exact hj)]
            rfl) hg4 hc4' (fun t ht h0 => by
            have := HMM.out.lt t h0
            show _ ≠ g4
            omega)
        rw [upd_same, hdi, show od + (k * 2 + 1) = od + k * 2 + 1 by omega] at hM4
        have hP4 := (HPL.out.below hb4').set (R := gd) (HOW.out.sub (fun b e => ⟨.di, rfl, by show 0 < l * 2; omega, by rw [HDI.out]; exact e.symm⟩)) (od + k * 2 + 1) (.slice (some ⟨g4, 0, none⟩) c c4)
        have hgd2 : gd ≠ w.heap.size + 1 := by
          have := HBS.out .di rfl (by show 0 < l * 2; omega)
          rw [HDI.out] at this
          simp at this
          omega
        have hR4 := (HRS2.out.below hb4').other (B' := gd) (n := od + k * 2 + 1) (.slice (some ⟨g4, 0, none⟩) c c4) hgd2
        have hB4 := hbb.setCell (p := ⟨gd, od + k * 2 + 1, none⟩) (by
          have := HBS.out .di rfl (by show 0 < l * 2; omega)
          rw [HDI.out] at this
          show w.heap.size ≤ gd
          simp at this
          omega) (.slice (some ⟨g4, 0, none⟩) c c4)
        have HM4 := Lib.hid hM4
        have HP4 := Lib.hid hP4
        have HR4 := Lib.hid hR4
        have HB4 := Lib.hid hB4
        have HG3 := Lib.hid hg3'
        have HSZ := Lib.hid HB.out.size
        have HRL := Lib.hid HRS2.out.lt
        clear hM4 hP4 hR4 hB4 hg3' hb4 hb4' hbb ho4 hd0 hd1 hfz kB0 kB1 kB2 kB3 kB4 kB5 kB6 hgd2 hg1 hg2 hg3 hg4
        refine plan_nil ?_
        simp only [List.drop_succ_cons, List.drop_zero]
        go_wp2_with fail
        go_roundw
        case rel => exact ⟨k + 1, _, by omega, by go_num, HM4.out, fun t ht => by
            unfold upA
            rw [if_neg (by intro e; subst e; cases ht)]
            exact HAA.out t ht, fun k' hk' => by
            unfold upA
            by_cases e : Tg.sh k' = .sh k
            · rw [if_pos e]
              have := HG3.out
              have := HRL.out
              show g4 ≠ _
              omega
            · rw [if_neg e]
              exact HSS.out k' hk', HP4.out, HR4.out, HB4.out⟩
        case measure => simp [intOf]; omega
      · have hkl : l = k := by omega
        subst hkl
        have cR := HRS2.out.c
        have fR := HRS2.out.f
        clear hk
        go_wp2_with fail
        exact bodyPost_ret (v := .agg #[.slice r0 c m0, .slice r1 c m1, .slice r2 c m2, .slice r3 l m3, .slice (some ⟨gd, od, none⟩) l md, .slice r5 l m5, .slice r6 L.length m6]) (by simp [results, Tryz.results29, go_sem, *]) rfl (by
          obtain ⟨e0, e1, e2, e3, e4, e5, e6⟩ := HEE.out
          have hoff : ∀ t : Tg, 0 < t.sz 0 c l → (A2 t).b ≠ w.heap.size + 1 := fun t h0 => by
            cases ht : t.wr with
            | true =>
              have := HBS.out t ht (by cases t <;> first | exact h0 | cases h0)
              rw [HAA.out t ht]
              omega
            | false =>
              cases t <;> try cases ht
              rename_i j
              refine HSS.out j ?_
              refine Decidable.byContradiction fun hn => ?_
              have h0 : 0 < if j < l then c else 0 := h0
              rw [if_neg hn] at h0
              omega
          have hmem : ∀ (X : World) (j : Nat) (u : Value), Mem X 0 c l A2 F (.slice p' L.length cp') vz ∧ Pl X p' ys L ∧ Below w.heap.size w X → Mem (X.setCell ⟨w.heap.size + 1, j, none⟩ u) 0 c l A2 F (.slice p' L.length cp') vz ∧ Pl (X.setCell ⟨w.heap.size + 1, j, none⟩ u) p' ys L ∧ Below w.heap.size w (X.setCell ⟨w.heap.size + 1, j, none⟩ u) := fun X j u ⟨x1, x2, x3⟩ =>
            ⟨x1.off hoff j u, x2.set (HOFF.out.sub (fun b (e : b = w.heap.size + 1) => by show b < w.heap.size + 2; omega)) j u, x3.setCell (p := ⟨w.heap.size + 1, j, none⟩) (by show w.heap.size ≤ w.heap.size + 1; omega) u⟩
          rw [e6] at HMM
          have h7 := hmem _ 6 (.slice r6 L.length m6) (hmem _ 5 (.slice r5 l m5) (hmem _ 4 (.slice (some ⟨gd, od, none⟩) l md) (hmem _ 3 (.slice r3 l m3) (hmem _ 2 (.slice r2 c m2) (hmem _ 1 (.slice r1 c m1) (hmem _ 0 (.slice r0 c m0) ⟨HMM.out.less vz, HPL.out, HB.out⟩))))))
          refine ⟨A2, p', cp', ys, ?_, h7.1.same (fun t j hj => by cases t <;> first | rfl | cases hj), h7.2.1, HOW.out.sub (fun b hz => by
            obtain ⟨t, ht, h0, e⟩ := hz
            exact ⟨t, ht, (by cases t <;> first | exact h0 | cases h0), by rw [← HAA.out t ht]; exact e⟩), HOFF.out.sub (fun b (e : b < w.heap.size) => by show b < w.heap.size + 2; omega), fun t ht h0 => ?_, h7.2.2⟩
          · rw [e0, e1, e2, e3, e4, e5, e6, ← HAA.out .st rfl, ← HAA.out .va rfl, ← HAA.out .wt rfl, ← HAA.out .ho rfl, ← HAA.out .di rfl, ← HAA.out .bu rfl]
          · have := HBS.out t ht (by cases t <;> first | exact h0 | cases h0)
            rw [HAA.out t ht]
            omega)
end Go.Proofs.YtmeomdfmljanhaaGreat.Pg
