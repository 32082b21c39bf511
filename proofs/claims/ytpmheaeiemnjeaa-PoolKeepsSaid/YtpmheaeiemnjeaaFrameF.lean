/- What bytes say: numbers of four of them, strings of them, and the message that a frame holds: word.Of, the document's Of, frame.message; no condition but that the bytes read. -/
import Derived.Test.YtpmheaeiemnjeaaFrameD
import Derived.Laws.BytesArg
namespace Go.Proofs.Ytpmheaeiemnjeaa
set_option linter.unusedVariables false
open Go.ChangeShapes Go.WideShapes Go.ChangeAt Go.RowKit

theorem byts_drop {w : World} {b off n : Nat} {l : List Nat} (h : Byts w (some ⟨b, off, none⟩) l) : Byts w (some ⟨b, off + n, none⟩) (l.drop n) :=
  ⟨fun x hx => h.lt x (List.mem_of_mem_drop hx), fun h0 => by
    rw [List.length_drop] at h0
    obtain ⟨b', off', h1, h2, h3⟩ := h.c (by omega)
    injection h2 with h2
    injection h2 with e1 e2
    subst e1 e2
    refine ⟨b, off + n, h1, rfl, fun k hk => ?_⟩
    rw [List.length_drop] at hk
    rw [Nat.add_assoc, h3 (n + k) (by omega)]
    congr 3
    simp [List.getD_eq_getElem?_getD]⟩
theorem byts_take {w : World} {p : Option Addr} {n : Nat} {l : List Nat} (h : Byts w p l) : Byts w p (l.take n) :=
  ⟨fun x hx => h.lt x (List.mem_of_mem_take hx), fun h0 => by
    rw [List.length_take] at h0
    obtain ⟨b, off, h1, h2, h3⟩ := h.c (by omega)
    refine ⟨b, off, h1, h2, fun k hk => ?_⟩
    rw [List.length_take] at hk
    rw [h3 k (by omega)]
    congr 3
    simp only [List.getD_eq_getElem?_getD, List.getElem?_take]
    rw [if_pos (by omega)]⟩
theorem byts_zs {w : World} {p : Option Addr} {len : Nat} {l : List Nat} (h : Byts w p l) (hz : l.length = len) :
    0 < len → ∃ b off, b < w.heap.size ∧ p = some ⟨b, off, none⟩ ∧ ∀ k, k < len → w.cell? ⟨b, off + k, none⟩ = some (.int .u8 ((l.map fun x : Nat => (x : Int)).getD k 0)) := fun h0 => by
  obtain ⟨b, off, h1, h2, h3⟩ := h.c (by omega)
  refine ⟨b, off, h1, h2, fun k hk => ?_⟩
  rw [h3 k (by omega)]
  congr 2
  simp [List.getD, hz, hk]
theorem map_getD (l : List Nat) (k : Nat) : (l.map fun x : Nat => (x : Int)).getD k 0 = ((l.getD k 0 : Nat) : Int) := by
  simp only [List.getD_eq_getElem?_getD, List.getElem?_map]
  cases l[k]? <;> rfl
theorem zs_bd (l : List Nat) (h : ∀ x ∈ l, x < 256) (k : Nat) : 0 ≤ (l.map fun x : Nat => (x : Int)).getD k 0 ∧ (l.map fun x : Nat => (x : Int)).getD k 0 ≤ 255 := by
  rw [map_getD]
  have := getD_lt l h k
  omega
theorem of4_nat (l : List Nat) : of4 ((l.map fun x : Nat => (x : Int)).getD 0 0) ((l.map fun x : Nat => (x : Int)).getD 1 0) ((l.map fun x : Nat => (x : Int)).getD 2 0) ((l.map fun x : Nat => (x : Int)).getD 3 0) = ((ofN l : Nat) : Int) := by
  rw [map_getD, map_getD, map_getD, map_getD]
  unfold of4 ofN
  omega
theorem of_nat (p : Option Addr) (len cap : Nat) (l : List Nat) (w : World) (hz : l.length = len) (h : Byts w p l) :
    Calls Try.prog 44 #[.slice p len cap] w fun e w' => e = .returned (.int .u32 (ofN l : Nat)) ∧ Below w.heap.size w w' := by
  have hh := of_any p len cap (l.map fun x : Nat => (x : Int)) w (by simpa using hz) (zs_bd l h.lt) (byts_zs h hz)
  rw [of4_nat] at hh
  exact hh.mono fun e w' ⟨h1, h2⟩ => ⟨h1, by rw [h2]; exact (Below.refl _ _).alloc (Nat.le_refl _) _⟩
theorem ofN_lt (l : List Nat) (h : ∀ x ∈ l, x < 256) : ofN l < 4294967296 := by
  unfold ofN
  have := getD_lt l h 0
  have := getD_lt l h 1
  have := getD_lt l h 2
  have := getD_lt l h 3
  omega

/-- The string of bytes. -/
def strN (l : List Nat) : ByteArray := strOfNums (l.map fun x : Nat => (x : Int))
theorem conv_byts {w : World} {p : Option Addr} {len cap : Nat} {l : List Nat} (h : Byts w p l) (hz : l.length = len) :
    (convert 30 9 (.slice p len cap)).run Try.prog w = .ok (.string (strN l)) w := by
  by_cases h0 : 0 < len
  · obtain ⟨b, off, h1, rfl, h3⟩ := byts_zs h hz h0
    exact run_convert_bytes_arg w 30 5 Try.underlying30 Try.underlying5 b off len cap _ (by simpa using hz) h3 9 Try.underlying9
  · have e : len = 0 := by omega
    subst e
    obtain rfl : l = [] := List.eq_nil_of_length_eq_zero hz
    rw [run_convert_bytes_string w 30 9 5 p 0 cap Try.underlying30 Try.underlying5 Try.underlying9]
    cases p <;> simp [Conv.bytesToString, loadCells]
    all_goals rfl
theorem strN_inj {l m : List Nat} (hl : ∀ x ∈ l, x < 256) (hm : ∀ x ∈ m, x < 256) (h : strN l = strN m) : l = m := by
  have h2 : (strN l).data.toList = (strN m).data.toList := by rw [h]
  unfold strN at h2
  rw [strOfNums_data, strOfNums_data, List.map_map, List.map_map] at h2
  have e : ∀ l : List Nat, (∀ x ∈ l, x < 256) → (l.map ((fun n : Int => UInt8.ofNat n.toNat) ∘ fun x : Nat => (x : Int))).map (fun u => u.toNat) = l := fun l hl => by
    rw [List.map_map]
    refine (List.map_congr_left (g := id) fun x hx => ?_).trans (List.map_id l)
    have := hl x hx
    simp only [Function.comp, Int.toNat_natCast, id]
    rw [UInt8.toNat_ofNat']
    exact Nat.mod_eq_of_lt this
  rw [← e l hl, ← e m hm, h2]
/-- A message's row laid over another one. -/
theorem blkS9 {w : World} {X : Nat} {a0 a1 a2 a3 a4 a5 a6 a7 a8 v0 v1 v2 v3 v4 v5 v6 v7 v8 : Value} (h : Blk w X #[a0, a1, a2, a3, a4, a5, a6, a7, a8]) :
    Blk ((((((((((w.setCell ⟨X, 0, none⟩ v0).setCell ⟨X, 1, none⟩ v1).setCell ⟨X, 2, none⟩ v2).setCell ⟨X, 3, none⟩ v3).setCell ⟨X, 4, none⟩ v4).setCell ⟨X, 5, none⟩ v5).setCell ⟨X, 6, none⟩ v6).setCell ⟨X, 7, none⟩ v7).setCell ⟨X, 8, none⟩ v8)) X #[v0, v1, v2, v3, v4, v5, v6, v7, v8] :=
  ((((((((((h.set (n := 0) v0 (by simp)).set (n := 1) v1 (by simp)).set (n := 2) v2 (by simp)).set (n := 3) v3 (by simp)).set (n := 4) v4 (by simp)).set (n := 5) v5 (by simp)).set (n := 6) v6 (by simp)).set (n := 7) v7 (by simp)).set (n := 8) v8 (by simp))).cast (by simp)
theorem blkO9 {w : World} {X Y : Nat} {cs : Array Value} {v0 v1 v2 v3 v4 v5 v6 v7 v8 : Value} (h : Blk w Y cs) (hne : X ≠ Y) : Blk ((((((((((w.setCell ⟨X, 0, none⟩ v0).setCell ⟨X, 1, none⟩ v1).setCell ⟨X, 2, none⟩ v2).setCell ⟨X, 3, none⟩ v3).setCell ⟨X, 4, none⟩ v4).setCell ⟨X, 5, none⟩ v5).setCell ⟨X, 6, none⟩ v6).setCell ⟨X, 7, none⟩ v7).setCell ⟨X, 8, none⟩ v8)) Y cs := (((((((((h.other _ hne).other _ hne).other _ hne).other _ hne).other _ hne).other _ hne).other _ hne).other _ hne).other _ hne)
theorem cellO9 {w : World} {X b o : Nat} {v0 v1 v2 v3 v4 v5 v6 v7 v8 : Value} (hne : b ≠ X) : ((((((((((w.setCell ⟨X, 0, none⟩ v0).setCell ⟨X, 1, none⟩ v1).setCell ⟨X, 2, none⟩ v2).setCell ⟨X, 3, none⟩ v3).setCell ⟨X, 4, none⟩ v4).setCell ⟨X, 5, none⟩ v5).setCell ⟨X, 6, none⟩ v6).setCell ⟨X, 7, none⟩ v7).setCell ⟨X, 8, none⟩ v8)).cell? ⟨b, o, none⟩ = w.cell? ⟨b, o, none⟩ := by
  have e : ∀ (w : World) (j : Nat) (v : Value), (w.setCell ⟨X, j, none⟩ v).cell? ⟨b, o, none⟩ = w.cell? ⟨b, o, none⟩ := fun w j v => World.cell?_setCell_other _ _ _ _ (by intro e; injection e with e1; exact hne e1.symm)
  rw [e, e, e, e, e, e, e, e, e]
theorem belowS9 {w0 w : World} {X : Nat} {v0 v1 v2 v3 v4 v5 v6 v7 v8 : Value} (h : Below w0.heap.size w0 w) (hX : w0.heap.size ≤ X) : Below w0.heap.size w0 ((((((((((w.setCell ⟨X, 0, none⟩ v0).setCell ⟨X, 1, none⟩ v1).setCell ⟨X, 2, none⟩ v2).setCell ⟨X, 3, none⟩ v3).setCell ⟨X, 4, none⟩ v4).setCell ⟨X, 5, none⟩ v5).setCell ⟨X, 6, none⟩ v6).setCell ⟨X, 7, none⟩ v7).setCell ⟨X, 8, none⟩ v8)) := (((((((((h.setCell hX _).setCell hX _).setCell hX _).setCell hX _).setCell hX _).setCell hX _).setCell hX _).setCell hX _).setCell hX _)
/-- The message that nineteen bytes say. -/
def msgOf (l : List Nat) : Msg := ⟨(l.getD 0 0 : Nat), (l.getD 1 0 : Nat), (l.getD 2 0 : Nat), (l.getD 3 0 : Nat), (l.getD 4 0 : Nat), (l.getD 5 0 : Nat), l.getD 6 0 == 1, ofN (l.drop 7), ofN (l.drop 11)⟩
def formB (l : List Nat) : Bool := decide (l.getD 6 0 ≤ 1) && mayM (msgOf l)

theorem wrap_i64 {n : Nat} (h : n < 256) : IntKind.i64.wrap (n : Int) = (n : Int) := by rw [IntKind.wrap_i64]; omega
set_option maxHeartbeats 4000000 in
theorem message_any (b off cap : Nat) (l : List Nat) (w : World) (hz : l.length = 19) (hc : 19 ≤ cap) (h : Byts w (some ⟨b, off, none⟩) l) :
    Calls Try.prog 45 #[.slice (some ⟨b, off, none⟩) 19 cap] w fun e w' => e = .returned (.tuple #[.agg (msgOf l).row, .bool (formB l)]) ∧ Below w.heap.size w w' := by
  obtain ⟨b', off', hlt, he, hcell⟩ := h.c (by omega)
  injection he with he
  injection he with e1 e2 e3
  clear e3
  subst e1 e2
  rw [hz] at hcell
  have f0 := hcell 0 (by omega)
  have f1 := hcell 1 (by omega)
  have f2 := hcell 2 (by omega)
  have f3 := hcell 3 (by omega)
  have f4 := hcell 4 (by omega)
  have f5 := hcell 5 (by omega)
  have f6 := hcell 6 (by omega)
  rw [Nat.add_zero] at f0
  have HZ := Lib.hid hz
  have HB := Lib.hid h
  have HL := Lib.hid hlt
  have HM := Lib.hid (fun W => may_any (msgOf l) W)
  have g0 := getD_lt l h.lt 0
  have g1 := getD_lt l h.lt 1
  have g2 := getD_lt l h.lt 2
  have g3 := getD_lt l h.lt 3
  have g4 := getD_lt l h.lt 4
  have g5 := getD_lt l h.lt 5
  have g6 := getD_lt l h.lt 6
  obtain ⟨m, hm⟩ : ∃ m, m = msgOf l := ⟨_, rfl⟩
  have HE := Lib.hid hm
  unfold formB
  rw [← hm] at HM ⊢
  clear hm
  obtain ⟨x0, h0⟩ : ∃ x, x = l.getD 0 0 := ⟨_, rfl⟩
  obtain ⟨x1, h1⟩ : ∃ x, x = l.getD 1 0 := ⟨_, rfl⟩
  obtain ⟨x2, h2⟩ : ∃ x, x = l.getD 2 0 := ⟨_, rfl⟩
  obtain ⟨x3, h3⟩ : ∃ x, x = l.getD 3 0 := ⟨_, rfl⟩
  obtain ⟨x4, h4⟩ : ∃ x, x = l.getD 4 0 := ⟨_, rfl⟩
  obtain ⟨x5, h5⟩ : ∃ x, x = l.getD 5 0 := ⟨_, rfl⟩
  obtain ⟨x6, h6⟩ : ∃ x, x = l.getD 6 0 := ⟨_, rfl⟩
  rw [← h6] at g6 ⊢
  rw [← h0] at f0 g0
  rw [← h1] at f1 g1
  rw [← h2] at f2 g2
  rw [← h3] at f3 g3
  rw [← h4] at f4 g4
  rw [← h5] at f5 g5
  rw [← h6] at f6
  have HR : Hid (m.row = #[.int .i64 x0, .int .i64 x1, .int .i64 x2, .int .i64 x3, .int .i64 x4, .int .i64 x5, .bool ((x6 : Int) == 1), .int .u32 (ofN (l.drop 7) : Nat), .int .u32 (ofN (l.drop 11) : Nat)]) := Lib.hid (by
    rw [HE.out, h0, h1, h2, h3, h4, h5, h6]
    unfold msgOf Msg.row
    simp only
    congr 8
    congr 1
    rw [Bool.eq_iff_iff, beq_iff_eq, beq_iff_eq]
    omega)
  clear h hlt hcell h0 h1 h2 h3 h4 h5 h6 hz HE
  have w0 := wrap_i64 g0
  have w1 := wrap_i64 g1
  have w2 := wrap_i64 g2
  have w3 := wrap_i64 g3
  have w4 := wrap_i64 g4
  have w5 := wrap_i64 g5
  clear g0 g1 g2 g3 g4 g5
  have n7 : cap ≠ 7 := by omega
  have n11 : cap ≠ 11 := by omega
  go_enter Try.func45, Try.ntmps45
  go_upto_region 1 with fail
  obtain ⟨z, hzz⟩ : ∃ z, z = w.alloc (.cells #[.int .i64 0, .int .i64 0, .int .i64 0, .int .i64 0, .int .i64 0, .int .i64 0, .bool false, .int .u32 0, .int .u32 0] 27) := ⟨_, rfl⟩
  have HBZ : Hid (Below w.heap.size w z) := by rw [hzz]; exact (Below.refl _ _).alloc (Nat.le_refl _) _
  rw [← hzz]
  have LZ : Hid (b < z.heap.size) := Lib.hid (Nat.lt_of_lt_of_le HL.out HBZ.out.size)
  have z0 : Hid (z.cell? ⟨b, off, none⟩ = some (.int .u8 x0) ∧ z.cell? ⟨b, off + 1, none⟩ = some (.int .u8 x1) ∧ z.cell? ⟨b, off + 2, none⟩ = some (.int .u8 x2) ∧ z.cell? ⟨b, off + 3, none⟩ = some (.int .u8 x3) ∧ z.cell? ⟨b, off + 4, none⟩ = some (.int .u8 x4) ∧ z.cell? ⟨b, off + 5, none⟩ = some (.int .u8 x5) ∧ z.cell? ⟨b, off + 6, none⟩ = some (.int .u8 x6)) := Lib.hid ⟨((HBZ.out.cell (p := ⟨b, off, none⟩) HL.out).trans f0), ((HBZ.out.cell (p := ⟨b, off + 1, none⟩) HL.out).trans f1), ((HBZ.out.cell (p := ⟨b, off + 2, none⟩) HL.out).trans f2), ((HBZ.out.cell (p := ⟨b, off + 3, none⟩) HL.out).trans f3), ((HBZ.out.cell (p := ⟨b, off + 4, none⟩) HL.out).trans f4), ((HBZ.out.cell (p := ⟨b, off + 5, none⟩) HL.out).trans f5), ((HBZ.out.cell (p := ⟨b, off + 6, none⟩) HL.out).trans f6)⟩
  have keepS : Hid (∀ u : World, Below z.heap.size z u → (u.cell? ⟨b, off, none⟩ = some (.int .u8 x0) ∧ u.cell? ⟨b, off + 1, none⟩ = some (.int .u8 x1) ∧ u.cell? ⟨b, off + 2, none⟩ = some (.int .u8 x2) ∧ u.cell? ⟨b, off + 3, none⟩ = some (.int .u8 x3) ∧ u.cell? ⟨b, off + 4, none⟩ = some (.int .u8 x4) ∧ u.cell? ⟨b, off + 5, none⟩ = some (.int .u8 x5) ∧ u.cell? ⟨b, off + 6, none⟩ = some (.int .u8 x6))) := Lib.hid (fun u hb => ⟨(hb.cell (p := ⟨b, off, none⟩) LZ.out).trans z0.out.1, (hb.cell (p := ⟨b, off + 1, none⟩) LZ.out).trans z0.out.2.1, (hb.cell (p := ⟨b, off + 2, none⟩) LZ.out).trans z0.out.2.2.1, (hb.cell (p := ⟨b, off + 3, none⟩) LZ.out).trans z0.out.2.2.2.1, (hb.cell (p := ⟨b, off + 4, none⟩) LZ.out).trans z0.out.2.2.2.2.1, (hb.cell (p := ⟨b, off + 5, none⟩) LZ.out).trans z0.out.2.2.2.2.2.1, (hb.cell (p := ⟨b, off + 6, none⟩) LZ.out).trans z0.out.2.2.2.2.2.2⟩)
  have HBY : Hid (Byts z (some ⟨b, off, none⟩) l) := Lib.hid (HB.out.below HBZ.out)
  have HZ2 : Hid (Blk z w.heap.size #[.int .i64 0, .int .i64 0, .int .i64 0, .int .i64 0, .int .i64 0, .int .i64 0, .bool false, .int .u32 0, .int .u32 0]) := Lib.hid (by rw [hzz]; exact Blk.new w _ 27)
  clear hzz f0 f1 f2 f3 f4 f5 f6
  go_cut [4] (fun s4 wc => ∃ X, s4 = .pointer (some ⟨X, 0, none⟩) ∧ z.heap.size ≤ X ∧ Blk wc X m.row ∧ Below z.heap.size z wc)
  case first =>
    refine region_planT (fun w' : World => w'.cell? ⟨b, off, none⟩ = some (.int .u8 x0) ∧ w'.cell? ⟨b, off + 1, none⟩ = some (.int .u8 x1) ∧ w'.cell? ⟨b, off + 2, none⟩ = some (.int .u8 x2) ∧ w'.cell? ⟨b, off + 3, none⟩ = some (.int .u8 x3) ∧ w'.cell? ⟨b, off + 4, none⟩ = some (.int .u8 x4) ∧ w'.cell? ⟨b, off + 5, none⟩ = some (.int .u8 x5) ∧ w'.cell? ⟨b, off + 6, none⟩ = some (.int .u8 x6)) 36 (.read 0 (.read 1 (.read 2 (.read 3 (.read 4 (.read 5 (.read 6 (.read 7 (.read 8 (.read 9 (.read 10 (.read 11 (.read 12 (.read 13 (.read 14 (.read 15 (.read 16 (.read 17 (.read 18 (.read 19 (.read 20 (.read 21 (.read 22 (.read 23 (.read 24 (.read 25 (.read 26 (.read 27 (.read 28 (.read 29 (.read 31 (.read 32 (.two 30 35 (.two 33 35 (.read 34 (.one 35 .stop)) (.one 33 (.read 34 .stop))) (.one 30 (.one 33 (.read 34 .stop)))))))))))))))))))))))))))))))))))) (by kernel_rfl) (by kernel_rfl) (keepS.out _ (Below.refl _ _).drew) ?_
    iterate 32
      refine planT_read (v := ?_) rfl (by rfl) ?_ ?_
      rotate_left
      · intro w' hS
        try dsimp only at hS
        go_simp
        try with_reducible rfl
      try simp only [Act.put, List.setIfInBounds_toArray, List.set_cons_zero, List.set_cons_succ, List.getElem_toArray, List.getElem_cons_zero, List.getElem_cons_succ]
    have hz0 : Hid (Below z.heap.size z z.drew) := Lib.hid (Below.refl _ _).drew
    refine planT_two ?_ ?_
    · refine op_call (F := 44) (args := ?_) rfl (by rfl) ?_ ?_
      rotate_left
      · go_simp
        rfl
      refine (of_nat _ 12 _ (l.drop 7) _ (by rw [List.length_drop, HZ.out]) ((byts_drop HBY.out).below hz0.out)).mono ?_
      rintro e u1 ⟨rfl, hbX⟩
      have Hu1 : Hid (Below z.heap.size z u1) := Lib.hid ((hz0.out).trans (hbX.mono (hz0.out).size))
      clear hbX
      refine ⟨_, rfl, keepS.out _ Hu1.out, ?_⟩
      try simp only [Act.put, List.setIfInBounds_toArray, List.set_cons_zero, List.set_cons_succ, List.getElem_toArray, List.getElem_cons_zero, List.getElem_cons_succ]
      refine planT_two ?_ ?_
      · refine op_call (F := 44) (args := ?_) rfl (by rfl) ?_ ?_
        rotate_left
        · go_simp
          rfl
        refine (of_nat _ 8 _ (l.drop 11) _ (by rw [List.length_drop, HZ.out]) ((byts_drop HBY.out).below Hu1.out)).mono ?_
        rintro e u2 ⟨rfl, hbX⟩
        have Hu2 : Hid (Below z.heap.size z u2) := Lib.hid ((Hu1.out).trans (hbX.mono (Hu1.out).size))
        clear hbX
        refine ⟨_, rfl, keepS.out _ Hu2.out, ?_⟩
        try simp only [Act.put, List.setIfInBounds_toArray, List.set_cons_zero, List.set_cons_succ, List.getElem_toArray, List.getElem_cons_zero, List.getElem_cons_succ]
        iterate 1
          refine planT_read (v := ?_) rfl (by rfl) ?_ ?_
          rotate_left
          · intro w' hS
            try dsimp only at hS
            go_simp
            try with_reducible rfl
          try simp only [Act.put, List.setIfInBounds_toArray, List.set_cons_zero, List.set_cons_succ, List.getElem_toArray, List.getElem_cons_zero, List.getElem_cons_succ]
        refine planT_one ?_
        refine op_make (v := .pointer (some ⟨u2.heap.size, 0, none⟩)) (w1 := (u2.alloc (.cells #[.int .i64 0, .int .i64 0, .int .i64 0, .int .i64 0, .int .i64 0, .int .i64 0, .bool false, .int .u32 0, .int .u32 0] 27))) rfl (by rfl) ?_ ?_
        · go_simp
        obtain ⟨u3, hu3⟩ : ∃ u, u = (u2.alloc (.cells #[.int .i64 0, .int .i64 0, .int .i64 0, .int .i64 0, .int .i64 0, .int .i64 0, .bool false, .int .u32 0, .int .u32 0] 27)) := ⟨_, rfl⟩
        have Ku3 : Hid (Blk u3 u2.heap.size #[.int .i64 0, .int .i64 0, .int .i64 0, .int .i64 0, .int .i64 0, .int .i64 0, .bool false, .int .u32 0, .int .u32 0]) := Lib.hid (by rw [hu3]; exact Blk.new _ _ 27)
        have Hu3 : Hid (Below z.heap.size z u3) := Lib.hid (by rw [hu3]; exact (Hu2.out).alloc (Hu2.out).size _)
        rw [← hu3]
        clear hu3
        refine ⟨keepS.out _ Hu3.out, ?_⟩
        try simp only [Act.put, List.setIfInBounds_toArray, List.set_cons_zero, List.set_cons_succ, List.getElem_toArray, List.getElem_cons_zero, List.getElem_cons_succ]
        refine planT_stop ?_
        simp only [List.drop_succ_cons, List.drop_zero]
        have hge : Hid (z.heap.size ≤ u2.heap.size) := Lib.hid (Hu2.out.size)
        have cX := Ku3.out.c
        have fX := Ku3.out.f
        have lX := Ku3.out.lt
        go_wp2_with fail
        go_meet
        case rel =>
          rw [HR.out]
          exact ⟨_, rfl, hge.out, blkS9 Ku3.out, belowS9 Hu3.out hge.out⟩
      · refine op_make (v := .pointer (some ⟨u1.heap.size, 0, none⟩)) (w1 := (u1.alloc (.cells #[.int .i64 0, .int .i64 0, .int .i64 0, .int .i64 0, .int .i64 0, .int .i64 0, .bool false, .int .u32 0, .int .u32 0] 27))) rfl (by rfl) ?_ ?_
        · go_simp
        obtain ⟨u2, hu2⟩ : ∃ u, u = (u1.alloc (.cells #[.int .i64 0, .int .i64 0, .int .i64 0, .int .i64 0, .int .i64 0, .int .i64 0, .bool false, .int .u32 0, .int .u32 0] 27)) := ⟨_, rfl⟩
        have Ku2 : Hid (Blk u2 u1.heap.size #[.int .i64 0, .int .i64 0, .int .i64 0, .int .i64 0, .int .i64 0, .int .i64 0, .bool false, .int .u32 0, .int .u32 0]) := Lib.hid (by rw [hu2]; exact Blk.new _ _ 27)
        have Hu2 : Hid (Below z.heap.size z u2) := Lib.hid (by rw [hu2]; exact (Hu1.out).alloc (Hu1.out).size _)
        rw [← hu2]
        clear hu2
        refine ⟨keepS.out _ Hu2.out, ?_⟩
        try simp only [Act.put, List.setIfInBounds_toArray, List.set_cons_zero, List.set_cons_succ, List.getElem_toArray, List.getElem_cons_zero, List.getElem_cons_succ]
        refine planT_one ?_
        refine op_call (F := 44) (args := ?_) rfl (by rfl) ?_ ?_
        rotate_left
        · go_simp
          rfl
        refine (of_nat _ 8 _ (l.drop 11) _ (by rw [List.length_drop, HZ.out]) ((byts_drop HBY.out).below Hu2.out)).mono ?_
        rintro e u3 ⟨rfl, hbX⟩
        have Hu3 : Hid (Below z.heap.size z u3) := Lib.hid ((Hu2.out).trans (hbX.mono (Hu2.out).size))
        have Ku3 := Lib.hid (Ku2.out.below hbX)
        clear hbX
        refine ⟨_, rfl, keepS.out _ Hu3.out, ?_⟩
        try simp only [Act.put, List.setIfInBounds_toArray, List.set_cons_zero, List.set_cons_succ, List.getElem_toArray, List.getElem_cons_zero, List.getElem_cons_succ]
        iterate 1
          refine planT_read (v := ?_) rfl (by rfl) ?_ ?_
          rotate_left
          · intro w' hS
            try dsimp only at hS
            go_simp
            try with_reducible rfl
          try simp only [Act.put, List.setIfInBounds_toArray, List.set_cons_zero, List.set_cons_succ, List.getElem_toArray, List.getElem_cons_zero, List.getElem_cons_succ]
        refine planT_stop ?_
        simp only [List.drop_succ_cons, List.drop_zero]
        have hge : Hid (z.heap.size ≤ u1.heap.size) := Lib.hid (Hu1.out.size)
        have cX := Ku3.out.c
        have fX := Ku3.out.f
        have lX := Ku3.out.lt
        go_wp2_with fail
        go_meet
        case rel =>
          rw [HR.out]
          exact ⟨_, rfl, hge.out, blkS9 Ku3.out, belowS9 Hu3.out hge.out⟩
    · refine op_make (v := .pointer (some ⟨z.heap.size, 0, none⟩)) (w1 := (z.drew.alloc (.cells #[.int .i64 0, .int .i64 0, .int .i64 0, .int .i64 0, .int .i64 0, .int .i64 0, .bool false, .int .u32 0, .int .u32 0] 27))) rfl (by rfl) ?_ ?_
      · go_simp
      obtain ⟨u1, hu1⟩ : ∃ u, u = (z.drew.alloc (.cells #[.int .i64 0, .int .i64 0, .int .i64 0, .int .i64 0, .int .i64 0, .int .i64 0, .bool false, .int .u32 0, .int .u32 0] 27)) := ⟨_, rfl⟩
      have Ku1 : Hid (Blk u1 z.heap.size #[.int .i64 0, .int .i64 0, .int .i64 0, .int .i64 0, .int .i64 0, .int .i64 0, .bool false, .int .u32 0, .int .u32 0]) := Lib.hid (by rw [hu1]; exact Blk.new _ _ 27)
      have Hu1 : Hid (Below z.heap.size z u1) := Lib.hid (by rw [hu1]; exact (hz0.out).alloc (hz0.out).size _)
      rw [← hu1]
      clear hu1
      refine ⟨keepS.out _ Hu1.out, ?_⟩
      try simp only [Act.put, List.setIfInBounds_toArray, List.set_cons_zero, List.set_cons_succ, List.getElem_toArray, List.getElem_cons_zero, List.getElem_cons_succ]
      refine planT_one ?_
      refine op_call (F := 44) (args := ?_) rfl (by rfl) ?_ ?_
      rotate_left
      · go_simp
        rfl
      refine (of_nat _ 12 _ (l.drop 7) _ (by rw [List.length_drop, HZ.out]) ((byts_drop HBY.out).below Hu1.out)).mono ?_
      rintro e u2 ⟨rfl, hbX⟩
      have Hu2 : Hid (Below z.heap.size z u2) := Lib.hid ((Hu1.out).trans (hbX.mono (Hu1.out).size))
      have Ku2 := Lib.hid (Ku1.out.below hbX)
      clear hbX
      refine ⟨_, rfl, keepS.out _ Hu2.out, ?_⟩
      try simp only [Act.put, List.setIfInBounds_toArray, List.set_cons_zero, List.set_cons_succ, List.getElem_toArray, List.getElem_cons_zero, List.getElem_cons_succ]
      refine planT_one ?_
      refine op_call (F := 44) (args := ?_) rfl (by rfl) ?_ ?_
      rotate_left
      · go_simp
        rfl
      refine (of_nat _ 8 _ (l.drop 11) _ (by rw [List.length_drop, HZ.out]) ((byts_drop HBY.out).below Hu2.out)).mono ?_
      rintro e u3 ⟨rfl, hbX⟩
      have Hu3 : Hid (Below z.heap.size z u3) := Lib.hid ((Hu2.out).trans (hbX.mono (Hu2.out).size))
      have Ku3 := Lib.hid (Ku2.out.below hbX)
      clear hbX
      refine ⟨_, rfl, keepS.out _ Hu3.out, ?_⟩
      try simp only [Act.put, List.setIfInBounds_toArray, List.set_cons_zero, List.set_cons_succ, List.getElem_toArray, List.getElem_cons_zero, List.getElem_cons_succ]
      iterate 1
        refine planT_read (v := ?_) rfl (by rfl) ?_ ?_
        rotate_left
        · intro w' hS
          try dsimp only at hS
          go_simp
          try with_reducible rfl
        try simp only [Act.put, List.setIfInBounds_toArray, List.set_cons_zero, List.set_cons_succ, List.getElem_toArray, List.getElem_cons_zero, List.getElem_cons_succ]
      refine planT_stop ?_
      simp only [List.drop_succ_cons, List.drop_zero]
      have hge : Hid (z.heap.size ≤ z.heap.size) := Lib.hid (hz0.out.size)
      have cX := Ku3.out.c
      have fX := Ku3.out.f
      have lX := Ku3.out.lt
      go_wp2_with fail
      go_meet
      case rel =>
        rw [HR.out]
        exact ⟨_, rfl, hge.out, blkS9 Ku3.out, belowS9 Hu3.out hge.out⟩
  case rest =>
    obtain ⟨X, rfl, hX, hbX, hbz⟩ := hcut
    rw [HR.out] at hbX
    obtain ⟨W, hW⟩ : ∃ W, W = wc := ⟨_, rfl⟩
    subst hW
    have HX := Lib.hid hX
    have HK := Lib.hid hbX
    have HBW := Lib.hid hbz
    have HT : Hid (Blk W w.heap.size #[.int .i64 0, .int .i64 0, .int .i64 0, .int .i64 0, .int .i64 0, .int .i64 0, .bool false, .int .u32 0, .int .u32 0]) := Lib.hid (HZ2.out.below hbz)
    have f6 := (keepS.out W hbz).2.2.2.2.2.2
    have HF6 := Lib.hid f6
    have HML : Hid (∀ V, Calls Try.prog 37 #[.agg #[.int .i64 x0, .int .i64 x1, .int .i64 x2, .int .i64 x3, .int .i64 x4, .int .i64 x5, .bool ((x6 : Int) == 1), .int .u32 (ofN (l.drop 7) : Nat), .int .u32 (ofN (l.drop 11) : Nat)]] V fun e w' => e = .returned (.bool (mayM m)) ∧ Below V.heap.size V w') := Lib.hid (by have := HM.out; rw [HR.out] at this; exact this)
    have lX := hbX.lt
    have HLX := Lib.hid lX
    have cX := hbX.c
    clear hX hbX hbz HM w0 w1 w2 w3 w4 w5
    have LW : Hid (b < W.heap.size) := Lib.hid (Nat.lt_of_lt_of_le LZ.out HBW.out.size)
    have HNB : Hid (b ≠ w.heap.size) := Lib.hid (Nat.ne_of_lt HL.out)
    have hne : Hid (w.heap.size ≠ X) := Lib.hid (by have := HZ2.out.lt; have := HX.out; omega)
    go_wp2_with fail
    have keep2 : Hid (∀ u : World, Below W.heap.size W u → ((∀ j, u.cell? ⟨X, j, none⟩ = (#[.int .i64 x0, .int .i64 x1, .int .i64 x2, .int .i64 x3, .int .i64 x4, .int .i64 x5, .bool ((x6 : Int) == 1), .int .u32 (ofN (l.drop 7) : Nat), .int .u32 (ofN (l.drop 11) : Nat)] : Array Value)[j]?) ∧ u.cell? ⟨b, off + 6, none⟩ = some (.int .u8 x6))) := Lib.hid (fun u hb => ⟨(HK.out.below hb).c, (hb.cell (p := ⟨b, off + 6, none⟩) LW.out).trans HF6.out⟩)
    refine region_plan (fun w' : World => (∀ j, w'.cell? ⟨X, j, none⟩ = (#[.int .i64 x0, .int .i64 x1, .int .i64 x2, .int .i64 x3, .int .i64 x4, .int .i64 x5, .bool ((x6 : Int) == 1), .int .u32 (ofN (l.drop 7) : Nat), .int .u32 (ofN (l.drop 11) : Nat)] : Array Value)[j]?) ∧ w'.cell? ⟨b, off + 6, none⟩ = some (.int .u8 x6)) 10 [(0, true), (1, true), (2, true), (3, true), (4, true), (5, true), (6, true), (7, false), (8, true), (9, false)] (by kernel_rfl) (by kernel_rfl) (keep2.out _ (Below.refl _ _).drew) ?_
    clear cX f6 lX
    by_cases h1 : x6 ≤ 1
    · have d1 : decide ((x6 : Int) ≤ 1) = true := decide_eq_true (by omega)
      have e1 : (decide (x6 ≤ 1) && mayM m) = mayM m := by rw [decide_eq_true h1, Bool.true_and]
      have HE1 := Lib.hid e1
      clear e1 h1
      iterate 7
        refine plan_read (v := ?_) rfl (by rfl) ?_ ?_
        rotate_left
        · intro w' hS
          try dsimp only at hS
          go_simp
          try with_reducible rfl
        try simp only [Act.put, List.setIfInBounds_toArray, List.set_cons_zero, List.set_cons_succ, List.getElem_toArray, List.getElem_cons_zero, List.getElem_cons_succ, d1]
      refine plan_call (F := 37) (args := ?_) rfl (by rfl) ?_ ?_
      rotate_left
      · go_simp
        rfl
      refine (HML.out _).mono ?_
      rintro e w6 ⟨rfl, hb6⟩
      have HB6 : Hid (Below W.heap.size W w6) := Lib.hid ((Below.refl _ _).drew.trans hb6)
      clear hb6
      refine ⟨_, rfl, keep2.out _ HB6.out, ?_⟩
      try simp only [Act.put, List.setIfInBounds_toArray, List.set_cons_zero, List.set_cons_succ, List.getElem_toArray, List.getElem_cons_zero, List.getElem_cons_succ, d1]
      iterate 1
        refine plan_read (v := ?_) rfl (by rfl) ?_ ?_
        rotate_left
        · intro w' hS
          try dsimp only at hS
          go_simp
          try with_reducible rfl
        try simp only [Act.put, List.setIfInBounds_toArray, List.set_cons_zero, List.set_cons_succ, List.getElem_toArray, List.getElem_cons_zero, List.getElem_cons_succ, d1]
      have HT6 : Hid (Blk w6 w.heap.size #[.int .i64 0, .int .i64 0, .int .i64 0, .int .i64 0, .int .i64 0, .int .i64 0, .bool false, .int .u32 0, .int .u32 0]) := Lib.hid (HT.out.below HB6.out)
      have cT := HT6.out.c
      have fT := HT6.out.f
      have lT := HT6.out.lt
      have hK6 := keep2.out w6 HB6.out
      have HK6 := Lib.hid (And.intro (HK.out.below HB6.out) hK6.2)
      clear d1 hK6
      refine plan_store (w1 := ?_) rfl (by rfl) ?_ ?_ ?_
      rotate_left
      · go_simp
        rfl
      · exact ⟨(blkO9 HK6.out.1 hne.out).c, (cellO9 HNB.out).trans HK6.out.2⟩
      try simp only [Act.put, List.setIfInBounds_toArray, List.set_cons_zero, List.set_cons_succ, List.getElem_toArray, List.getElem_cons_zero, List.getElem_cons_succ]
      refine plan_nil ?_
      simp only [List.drop_succ_cons, List.drop_zero]
      go_wp2_with fail
      refine bodyPost_ret (v := .tuple #[.agg #[.int .i64 x0, .int .i64 x1, .int .i64 x2, .int .i64 x3, .int .i64 x4, .int .i64 x5, .bool ((x6 : Int) == 1), .int .u32 (ofN (l.drop 7) : Nat), .int .u32 (ofN (l.drop 11) : Nat)], .bool (mayM m)]) (by simp [results, Try.results45, go_sem, *]) rfl ⟨by rw [HR.out, HE1.out], belowS9 (HBZ.out.trans ((HBW.out.trans (HB6.out.mono HBW.out.size)).mono HBZ.out.size)) (Nat.le_refl _)⟩
    · have d1 : decide ((x6 : Int) ≤ 1) = false := decide_eq_false (by omega)
      have e1 : (decide (x6 ≤ 1) && mayM m) = false := by rw [decide_eq_false h1, Bool.false_and]
      have HE1 := Lib.hid e1
      clear e1 h1
      iterate 6
        refine plan_read (v := ?_) rfl (by rfl) ?_ ?_
        rotate_left
        · intro w' hS
          try dsimp only at hS
          go_simp
          try with_reducible rfl
        try simp only [Act.put, List.setIfInBounds_toArray, List.set_cons_zero, List.set_cons_succ, List.getElem_toArray, List.getElem_cons_zero, List.getElem_cons_succ, d1]
      refine plan_skip rfl (by rfl) ?_
      try simp only [Act.put, List.setIfInBounds_toArray, List.set_cons_zero, List.set_cons_succ, List.getElem_toArray, List.getElem_cons_zero, List.getElem_cons_succ, d1]
      refine plan_skipc rfl (by rfl) (keep2.out _ (Below.refl _ _).drew) ?_
      try simp only [Act.put, List.setIfInBounds_toArray, List.set_cons_zero, List.set_cons_succ, List.getElem_toArray, List.getElem_cons_zero, List.getElem_cons_succ, d1]
      iterate 1
        refine plan_read (v := ?_) rfl (by rfl) ?_ ?_
        rotate_left
        · intro w' hS
          try dsimp only at hS
          go_simp
          try with_reducible rfl
        try simp only [Act.put, List.setIfInBounds_toArray, List.set_cons_zero, List.set_cons_succ, List.getElem_toArray, List.getElem_cons_zero, List.getElem_cons_succ, d1]
      obtain ⟨w6, hw6⟩ : ∃ w6, w6 = W.drew := ⟨_, rfl⟩
      rw [← hw6]
      have HB6 : Hid (Below W.heap.size W w6) := Lib.hid (by rw [hw6]; exact (Below.refl _ _).drew)
      clear hw6
      have HT6 : Hid (Blk w6 w.heap.size #[.int .i64 0, .int .i64 0, .int .i64 0, .int .i64 0, .int .i64 0, .int .i64 0, .bool false, .int .u32 0, .int .u32 0]) := Lib.hid (HT.out.below HB6.out)
      have cT := HT6.out.c
      have fT := HT6.out.f
      have lT := HT6.out.lt
      have hK6 := keep2.out w6 HB6.out
      have HK6 := Lib.hid (And.intro (HK.out.below HB6.out) hK6.2)
      clear d1 hK6
      refine plan_store (w1 := ?_) rfl (by rfl) ?_ ?_ ?_
      rotate_left
      · go_simp
        rfl
      · exact ⟨(blkO9 HK6.out.1 hne.out).c, (cellO9 HNB.out).trans HK6.out.2⟩
      try simp only [Act.put, List.setIfInBounds_toArray, List.set_cons_zero, List.set_cons_succ, List.getElem_toArray, List.getElem_cons_zero, List.getElem_cons_succ]
      refine plan_nil ?_
      simp only [List.drop_succ_cons, List.drop_zero]
      go_wp2_with fail
      refine bodyPost_ret (v := .tuple #[.agg #[.int .i64 x0, .int .i64 x1, .int .i64 x2, .int .i64 x3, .int .i64 x4, .int .i64 x5, .bool ((x6 : Int) == 1), .int .u32 (ofN (l.drop 7) : Nat), .int .u32 (ofN (l.drop 11) : Nat)], .bool false]) (by simp [results, Try.results45, go_sem, *]) rfl ⟨by rw [HR.out, HE1.out], belowS9 (HBZ.out.trans ((HBW.out.trans (HB6.out.mono HBW.out.size)).mono HBZ.out.size)) (Nat.le_refl _)⟩
end Go.Proofs.Ytpmheaeiemnjeaa
