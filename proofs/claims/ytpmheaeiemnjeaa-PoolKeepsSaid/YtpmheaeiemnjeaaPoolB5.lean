/- What is asked of an append of one's own row in a region that draws its order: the cells that stood stay; a load of a row of cells by its own law. -/
import Derived.Test.YtpmheaeiemnjeaaPoolB4
import Derived.Deep.MidRow
namespace Go.Proofs.Ytpmheaeiemnjeaa
set_option linter.unusedVariables false
open Go.ChangeShapes Go.WideShapes Go.ChangeAt Go.RowKit

theorem wp_append_keeps {P : Program} {o : Oper} {a : Act} {w : World} {K : Act → World → Prop} {Q : Exit → Act → World → Prop} (s x : Operand) (t : TypeId)
    (ho : o.op = .call { callee := .builtin .append, args := #[s, x], argTypes := #[t, t] })
    (base : Nat) (e : TypeId) (i : TypeInfo) (z : Value) (size bytes : Nat) (ht : P.underlying t = some (.slice e)) (hi : P.info? e = some i) (hz : i.zero = some z)
    (hsize : i.size = size) (hby : i.bytes = bytes) (hzs : z.cells.size = size) (hsz : 0 < size)
    (v : Value) (n : Nat) (xs : List Value) (hs : a.eval s = v) (hown : w.ownsRow base e size v n xs)
    (ad : Addr) (m c : Nat) (news : List Value) (hx : a.eval x = .slice (some ad) m c) (hl : news.length = m * size) (hnews : ∀ j u, news[j]? = some u → w.cell? (ad.add j) = some u) (h1 : ∀ u ∈ news, u.oneCell' = true)
    (h63 : n + m ≤ maxLen) (hbytes : (n + m) * bytes ≤ 140737488355328) (hbase : base ≤ w.heap.size)
    (h : ∀ v' w', w'.ownsRow base e size v' (n + m) (xs ++ news) → w.grownBy w' v.ownBlock → (v'.ownBlock = v.ownBlock ∨ v'.ownBlock = some w.heap.size) → Keeps w w' v.ownBlock (n * size) → K (a.put o.dst v') w') : o.wp P a w K Q := by
  obtain ⟨v', w', hr, h2, h3, h4, h5⟩ := run_append_own_at (P := P) w base t o.type e i z size bytes ht hi hz hsize hby hzs hsz v n xs hown ad m c news hl hnews h1 h63 hbytes hbase
  have hk := append_keeps (P := P) ht hi hz hsize hby hzs hsz hown hl hnews h1 h63 hbytes h3 hr
  unfold Oper.wp execOp
  simp only [ho, resolve, invoke, builtin, Sem.run_bind, Sem.run_pure, Result.andThen_ok, List.map_toArray, List.map_cons, List.map_nil, hs, hx, hr]
  exact h v' w' h2 h3 h5 hk
theorem load_run {P : Program} (ρ : Operand → Value) (w : World) (dst : Option Tmp) (x : Operand) (ty rt : TypeId) (pos : String) (after : Array Edge) (guard : Option (Nat × Bool)) (b o : Nat) (cs : List Value) (d : TypeDesc) (hx : ρ x = .pointer (some ⟨b, o, none⟩)) (hc : w.rangeAt b o cs)
    (hu : P.underlying ty = some d) (hd : d.isRow = true) (hi : (P.info? ty).map (·.size) = some cs.length) :
    (execOp ρ { dst, op := .load ty x, type := rt, pos, after, guard }).run P w = .ok (.value (.agg cs.toArray)) w := by
  unfold execOp
  simp only [hx, Instr.loadAt, Instr.sureAddr, Sem.run_bind, Sem.run_pure, Result.andThen_ok, run_loadVar_mid w b o ty cs d hc hu hd hi]
theorem neq_run (ρ : Operand → Value) (w : World) (dst : Option Tmp) (x y : Operand) (t ty : TypeId) (pos : String) (after : Array Edge) (guard : Option (Nat × Bool)) (ek ef et el eo ea : Int) (eown : Bool) (en ev : Nat) (hx : ρ x = .agg #[.int .i64 ek, .int .i64 ef, .int .i64 et, .int .i64 el, .int .i64 eo, .int .i64 ea, .bool eown, .int .u32 en, .int .u32 ev]) (hy : ρ y = .agg #[.int .i64 ek, .int .i64 ef, .int .i64 et, .int .i64 el, .int .i64 eo, .int .i64 ea, .bool eown, .int .u32 en, .int .u32 ev]) :
    (execOp ρ { dst, op := .binOp .neq 27 x y t, type := ty, pos, after, guard }).run Try.prog w = .ok (.value (.bool false)) w := by
  have hTT : ∀ W, (binOp .neq 27 (.agg #[.int .i64 ek, .int .i64 ef, .int .i64 et, .int .i64 el, .int .i64 eo, .int .i64 ea, .bool eown, .int .u32 en, .int .u32 ev]) (.agg #[.int .i64 ek, .int .i64 ef, .int .i64 et, .int .i64 el, .int .i64 eo, .int .i64 ea, .bool eown, .int .u32 en, .int .u32 ev])).run Try.prog W = .ok (.bool false) W := fun W => by
    have := neq_msg W ⟨ek, ef, et, el, eo, ea, eown, en, ev⟩ ⟨ek, ef, et, el, eo, ea, eown, en, ev⟩
    rw [eqM_refl] at this
    exact this
  go_simp
section
variable {ops : Array Oper} {rest : List Oper} {a : Act} {w : World} {Q : Exit → Act → World → Prop} {dst : Option Tmp} {x y : Operand} {ty : TypeId} {pos : String} {after : Array Edge}
theorem wpList_shr2 (q z b : Nat) (hq : z / 2 ^ b = q) (hz : z < 256) (hb : b < 8) (hx : a.eval x = .int .u8 (z : Int)) (hy : a.eval y = .int .u64 (b : Int)) (h : wpList Try.prog ops Q rest (a.put dst (.int .u8 (q : Int))) w) :
    wpList Try.prog ops Q ({ dst, op := .binOp .shr 5 x y 54, type := ty, pos, after, guard := none } :: rest) a w := by
  subst hq
  exact wpList_shr z b hz hb hx hy h
theorem wpList_and2 (q z : Nat) (hq : z % 2 = q) (hz : z < 256) (hx : a.eval x = .int .u8 (z : Int)) (hy : a.eval y = .int .u8 1) (h : wpList Try.prog ops Q rest (a.put dst (.int .u8 (q : Int))) w) :
    wpList Try.prog ops Q ({ dst, op := .binOp .and 5 x y 5, type := ty, pos, after, guard := none } :: rest) a w := by
  subst hq
  exact wpList_and1 z hz hx hy h
end
theorem size27 : (Try.prog.info? 27).map (·.size) = some 9 := by kernel_rfl
theorem size53 : (Try.prog.info? 53).map (·.size) = some 19 := by kernel_rfl
theorem Keeps.range {w w' : World} {row : Option Nat} {N b o : Nat} {cs : List Value} (h : Keeps w w' row N) (hr : w.rangeAt b o cs) (hb : row = some b → o + cs.length ≤ N) : w'.rangeAt b o cs := fun j v hv => by
  have hj := (List.getElem?_eq_some_iff.1 hv).1
  exact h _ _ (hr j v hv) (fun e => by have := hb e; show o + j < N; omega)
theorem rangeM {w : World} {base : Nat} {e : TypeId} {g s c : Nat} {M : List Msg} (h : w.ownsRow base e 9 (.slice (some ⟨g, 0, none⟩) s c) s (rowsM M)) (hs : s = M.length) (k : Nat) (hk : k < s) : w.rangeAt g (k * 9) (M.getD k m0).row.toList := fun j v hv => by
  have hj : j < 9 := by have := (List.getElem?_eq_some_iff.1 hv).1; exact this
  rw [h.cellAt (k * 9 + j) (by omega), rowsM_at M k j (by omega) hj]
  simpa using hv
theorem rangeZ {w : World} {base : Nat} {e : TypeId} {g s c : Nat} {Z : List (List Nat)} (hz : ∀ z ∈ Z, Zed z) (h : w.ownsRow base e 19 (.slice (some ⟨g, 0, none⟩) s c) s (rowsZ Z)) (hs : s = Z.length) (k : Nat) (hk : k < s) : w.rangeAt g (k * 19) (u8C (Z.getD k [])) := fun j v hv => by
  have hj := (List.getElem?_eq_some_iff.1 hv).1
  have hl := (hz _ (mem_getD Z [] k (by omega))).len
  rw [u8C_len, hl] at hj
  rw [h.cellAt (k * 19 + j) (by omega), rowsZ_at hz k j (by omega) hj]
  rw [u8C_at _ j (by omega)] at hv
  exact hv
theorem blk_news {w : World} {B : Nat} {l : List Value} (h : Blk w B l.toArray) : ∀ j u, l[j]? = some u → w.cell? ((⟨B, 0, none⟩ : Addr).add j) = some u := fun j u hj => by
  rw [Go.Proofs.Ytpmheaeiemnjeaa.add_plain, Nat.zero_add, h.c]
  simpa using hj
theorem range_below {w w' : World} {b o : Nat} {cs : List Value} (hr : w.rangeAt b o cs) (hb : Below w.heap.size w w') : w'.rangeAt b o cs := fun j v hv => by
  have h := hr j v hv
  exact (hb.cell (p := ⟨b, o + j, none⟩) (World.block_lt_of_cell? w _ h)).trans h
/-- Nineteen bytes written out. -/
theorem zed_row {z : List Nat} (h : Zed z) : ∃ z0 z1 z2 z3 z4 z5 z6 z7 z8 z9 z10 z11 z12 z13 z14 z15 z16 z17 z18 : Nat, u8C z = [.int .u8 (z0 : Int), .int .u8 (z1 : Int), .int .u8 (z2 : Int), .int .u8 (z3 : Int), .int .u8 (z4 : Int), .int .u8 (z5 : Int), .int .u8 (z6 : Int), .int .u8 (z7 : Int), .int .u8 (z8 : Int), .int .u8 (z9 : Int), .int .u8 (z10 : Int), .int .u8 (z11 : Int), .int .u8 (z12 : Int), .int .u8 (z13 : Int), .int .u8 (z14 : Int), .int .u8 (z15 : Int), .int .u8 (z16 : Int), .int .u8 (z17 : Int), .int .u8 (z18 : Int)] := by
  have hl := h.len
  match z, hl with
  | [z0, z1, z2, z3, z4, z5, z6, z7, z8, z9, z10, z11, z12, z13, z14, z15, z16, z17, z18], _ => exact ⟨z0, z1, z2, z3, z4, z5, z6, z7, z8, z9, z10, z11, z12, z13, z14, z15, z16, z17, z18, rfl⟩
end Go.Proofs.Ytpmheaeiemnjeaa
