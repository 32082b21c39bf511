/- What is read of a frame that was put, and of one of which bits were turned; how Go holds two messages against each other; no condition but the numbers' bounds. -/
import Derived.Test.YtpmheaeiemnjeaaFrameG
import Derived.DeepKeys
import Derived.Lib.Bytes
namespace Go.Proofs.Ytpmheaeiemnjeaa
set_option linter.unusedVariables false
open Go.ChangeShapes Go.WideShapes Go.ChangeAt Go.RowKit

theorem ofN_b4 (n : Nat) (r : List Nat) (h : n < 4294967296) : ofN (b4 n ++ r) = n := by
  unfold ofN b4
  simp only [List.cons_append, List.nil_append, List.getD_cons_zero, List.getD_cons_succ]
  omega
theorem b4_ofN (a b c d : Nat) (r : List Nat) (ha : a < 256) (hb : b < 256) (hc : c < 256) (hd : d < 256) : b4 (ofN (a :: b :: c :: d :: r)) = [a, b, c, d] := by
  unfold ofN b4
  simp only [List.getD_cons_zero, List.getD_cons_succ, List.cons.injEq, and_true]
  omega

/-- A message that may be, with numbers as they are in a frame. -/
structure Fit (k f t l o a : Nat) (own : Bool) (n v : Nat) : Prop where
  may : mayM ⟨k, f, t, l, o, a, own, n, v⟩ = true
  hk : k < 256
  hf : f < 256
  ht : t < 256
  hl : l < 256
  ho : o < 256
  ha : a < 256
  hn : n < 4294967296
  hv : v < 4294967296
section
variable {k f t l o a : Nat} {own : Bool} {n v : Nat}
theorem frame_len : (frameL k f t l o a own n v).length = 19 := rfl
theorem frame_lt (h : Fit k f t l o a own n v) : ∀ x ∈ frameL k f t l o a own n v, x < 256 := by
  intro x hx
  unfold frameL at hx
  rcases List.mem_append.1 hx with hx | hx
  · exact body_lt h.hk h.hf h.ht h.hl h.ho h.ha h.hn h.hv x hx
  · exact b4_lt _ (sumN_lt _) x hx
theorem frame_fits (h : Fit k f t l o a own n v) : fitsB (frameL k f t l o a own n v) = true := by
  unfold fitsB
  rw [decide_eq_true_eq]
  show ofN (b4 (sumN (bodyL k f t l o a own n v))) = sumN (bodyL k f t l o a own n v)
  have := ofN_b4 (sumN (bodyL k f t l o a own n v)) [] (sumN_lt _)
  rwa [List.append_nil] at this
theorem frame_msg (h : Fit k f t l o a own n v) : msgOf (frameL k f t l o a own n v) = ⟨k, f, t, l, o, a, own, n, v⟩ := by
  have e1 : (frameL k f t l o a own n v).drop 7 = b4 n ++ (b4 v ++ b4 (sumN (bodyL k f t l o a own n v))) := rfl
  have e2 : (frameL k f t l o a own n v).drop 11 = b4 v ++ b4 (sumN (bodyL k f t l o a own n v)) := rfl
  unfold msgOf
  rw [e1, e2, ofN_b4 n _ h.hn, ofN_b4 v _ h.hv]
  have e3 : ((frameL k f t l o a own n v).getD 6 0 == 1) = own := by
    show (own.toNat == 1) = own
    cases own <;> rfl
  rw [e3]
  rfl
theorem frame_form (h : Fit k f t l o a own n v) : formB (frameL k f t l o a own n v) = true := by
  unfold formB
  rw [frame_msg h, h.may, Bool.and_true, decide_eq_true_eq]
  show own.toNat ≤ 1
  cases own <;> decide
theorem frame_readE (h : Fit k f t l o a own n v) : readE (frameL k f t l o a own n v) = 0 := by rw [readE_ok frame_len (frame_fits h), frame_form h]; rfl
theorem frame_readM (h : Fit k f t l o a own n v) : readM (frameL k f t l o a own n v) = ⟨k, f, t, l, o, a, own, n, v⟩ := by unfold readM; rw [if_pos (frame_readE h), frame_msg h]
theorem turn1_read (h : Fit k f t l o a own n v) (i : Nat) (hi : i < 152) : readE (turnL (frameL k f t l o a own n v) i) = 5 := readE_sum (by rw [turn_len]; rfl) (turn_one _ i frame_len (frame_lt h) (frame_fits h) hi)
theorem turn2_read (h : Fit k f t l o a own n v) (i j : Nat) (hi : i < 152) (hj : j < 152) (hne : i ≠ j) : readE (turnL (turnL (frameL k f t l o a own n v) i) j) = 5 :=
  readE_sum (by rw [turn_len, turn_len]; rfl) (turn_two _ i j frame_len (frame_lt h) (frame_fits h) hi hj hne)
end
theorem readE_nok {x : List Nat} (h : readE x ≠ 0) : readM x = zeroM := readM_no h
theorem cons_of {x : List Nat} {n : Nat} (h : x.length = n + 1) : ∃ a r, x = a :: r ∧ r.length = n := by
  cases x with
  | nil => cases h
  | cons a r => exact ⟨a, r, rfl, by simpa using h⟩
/-- What is read is put in just these bytes. -/
theorem read_frame {x : List Nat} (hb : ∀ y ∈ x, y < 256) (h : readE x = 0) :
    Fit (x.getD 0 0) (x.getD 1 0) (x.getD 2 0) (x.getD 3 0) (x.getD 4 0) (x.getD 5 0) (x.getD 6 0 == 1) (ofN (x.drop 7)) (ofN (x.drop 11)) ∧
      frameL (x.getD 0 0) (x.getD 1 0) (x.getD 2 0) (x.getD 3 0) (x.getD 4 0) (x.getD 5 0) (x.getD 6 0 == 1) (ofN (x.drop 7)) (ofN (x.drop 11)) = x ∧ readM x = msgOf x := by
  have hlen : x.length = 19 := by
    rcases Nat.lt_trichotomy x.length 19 with h1 | h1 | h1
    · rw [readE_short h1] at h; cases h
    · exact h1
    · rw [readE_long h1] at h; cases h
  have hfit : fitsB x = true := by
    cases hf : fitsB x with
    | true => rfl
    | false => rw [readE_sum hlen hf] at h; cases h
  have hform : formB x = true := by
    rw [readE_ok hlen hfit] at h
    cases hf : formB x with
    | true => rfl
    | false => rw [hf] at h; cases h
  unfold formB at hform
  rw [Bool.and_eq_true, decide_eq_true_eq] at hform
  have g := getD_lt x hb
  refine ⟨⟨hform.2, g 0, g 1, g 2, g 3, g 4, g 5, ofN_lt _ (fun y hy => hb y (List.mem_of_mem_drop hy)), ofN_lt _ (fun y hy => hb y (List.mem_of_mem_drop hy))⟩, ?_, by unfold readM; rw [if_pos h]⟩
  have h6 := hform.1
  clear hform h
  unfold fitsB at hfit
  rw [decide_eq_true_eq] at hfit
  obtain ⟨a0, x0, rfl, hl0⟩ := cons_of hlen
  obtain ⟨a1, x1, rfl, hl1⟩ := cons_of hl0
  obtain ⟨a2, x2, rfl, hl2⟩ := cons_of hl1
  obtain ⟨a3, x3, rfl, hl3⟩ := cons_of hl2
  obtain ⟨a4, x4, rfl, hl4⟩ := cons_of hl3
  obtain ⟨a5, x5, rfl, hl5⟩ := cons_of hl4
  obtain ⟨a6, x6, rfl, hl6⟩ := cons_of hl5
  obtain ⟨a7, x7, rfl, hl7⟩ := cons_of hl6
  obtain ⟨a8, x8, rfl, hl8⟩ := cons_of hl7
  obtain ⟨a9, x9, rfl, hl9⟩ := cons_of hl8
  obtain ⟨a10, x10, rfl, hl10⟩ := cons_of hl9
  obtain ⟨a11, x11, rfl, hl11⟩ := cons_of hl10
  obtain ⟨a12, x12, rfl, hl12⟩ := cons_of hl11
  obtain ⟨a13, x13, rfl, hl13⟩ := cons_of hl12
  obtain ⟨a14, x14, rfl, hl14⟩ := cons_of hl13
  obtain ⟨a15, x15, rfl, hl15⟩ := cons_of hl14
  obtain ⟨a16, x16, rfl, hl16⟩ := cons_of hl15
  obtain ⟨a17, x17, rfl, hl17⟩ := cons_of hl16
  obtain ⟨a18, x18, rfl, hl18⟩ := cons_of hl17
  obtain rfl := List.eq_nil_of_length_eq_zero hl18
  have q : ∀ y ∈ [a0, a1, a2, a3, a4, a5, a6, a7, a8, a9, a10, a11, a12, a13, a14, a15, a16, a17, a18], y < 256 := hb
  have e6 : (a6 == 1).toNat = a6 := by
    have h6' : a6 ≤ 1 := h6
    have : a6 = 0 ∨ a6 = 1 := by omega
    rcases this with rfl | rfl <;> rfl
  have e7 : b4 (ofN ([a7, a8, a9, a10, a11, a12, a13, a14, a15, a16, a17, a18])) = [a7, a8, a9, a10] := b4_ofN _ _ _ _ _ (q _ (by simp)) (q _ (by simp)) (q _ (by simp)) (q _ (by simp))
  have e11 : b4 (ofN ([a11, a12, a13, a14, a15, a16, a17, a18])) = [a11, a12, a13, a14] := b4_ofN _ _ _ _ _ (q _ (by simp)) (q _ (by simp)) (q _ (by simp)) (q _ (by simp))
  have e15 : b4 (ofN ([a15, a16, a17, a18])) = [a15, a16, a17, a18] := b4_ofN _ _ _ _ _ (q _ (by simp)) (q _ (by simp)) (q _ (by simp)) (q _ (by simp))
  have eb : bodyL a0 a1 a2 a3 a4 a5 (a6 == 1) (ofN [a7, a8, a9, a10, a11, a12, a13, a14, a15, a16, a17, a18]) (ofN [a11, a12, a13, a14, a15, a16, a17, a18]) = [a0, a1, a2, a3, a4, a5, a6, a7, a8, a9, a10, a11, a12, a13, a14] := by
    unfold bodyL headL
    rw [e6, e7, e11]
    rfl
  have es : sumN [a0, a1, a2, a3, a4, a5, a6, a7, a8, a9, a10, a11, a12, a13, a14] = ofN [a15, a16, a17, a18] := hfit.symm
  show frameL a0 a1 a2 a3 a4 a5 (a6 == 1) (ofN [a7, a8, a9, a10, a11, a12, a13, a14, a15, a16, a17, a18]) (ofN [a11, a12, a13, a14, a15, a16, a17, a18]) = [a0, a1, a2, a3, a4, a5, a6, a7, a8, a9, a10, a11, a12, a13, a14, a15, a16, a17, a18]
  unfold frameL
  rw [eb, es, e15]
  rfl

theorem Msg.ext' {m n : Msg} (h : m.k = n.k ∧ m.f = n.f ∧ m.t = n.t ∧ m.l = n.l ∧ m.o = n.o ∧ m.a = n.a ∧ m.own = n.own ∧ m.n = n.n ∧ m.v = n.v) : m = n := by
  obtain ⟨h1, h2, h3, h4, h5, h6, h7, h8, h9⟩ := h
  cases m; cases n; simp_all
def eqM (m n : Msg) : Bool := (m.k == n.k) && ((m.f == n.f) && ((m.t == n.t) && ((m.l == n.l) && ((m.o == n.o) && ((m.a == n.a) && ((m.own == n.own) && (((m.n : Int) == (n.n : Int)) && ((m.v : Int) == (n.v : Int)))))))))
theorem eqM_refl (m : Msg) : eqM m m = true := by unfold eqM; simp
theorem eqM_of {m n : Msg} (h : eqM m n = true) : m = n := by
  unfold eqM at h
  simp only [Bool.and_eq_true, beq_iff_eq] at h
  obtain ⟨h1, h2, h3, h4, h5, h6, h7, h8, h9⟩ := h
  exact Msg.ext' ⟨h1, h2, h3, h4, h5, h6, h7, by omega, by omega⟩
theorem eq_msg (w : World) (m n : Msg) : (binOp .eql 27 (.agg m.row) (.agg n.row)).run Try.prog w = .ok (.bool (eqM m n)) w := by
  have e0 : ∀ m : Msg, (part 3 m.row 0).run Try.prog w = .ok (.int .i64 m.k) w := fun m => by simp [part, go_sem, Msg.row]
  have e1 : ∀ m : Msg, (part 3 m.row 1).run Try.prog w = .ok (.int .i64 m.f) w := fun m => by simp [part, go_sem, Msg.row]
  have e2 : ∀ m : Msg, (part 3 m.row 2).run Try.prog w = .ok (.int .i64 m.t) w := fun m => by simp [part, go_sem, Msg.row]
  have e3 : ∀ m : Msg, (part 3 m.row 3).run Try.prog w = .ok (.int .i64 m.l) w := fun m => by simp [part, go_sem, Msg.row]
  have e4 : ∀ m : Msg, (part 3 m.row 4).run Try.prog w = .ok (.int .i64 m.o) w := fun m => by simp [part, go_sem, Msg.row]
  have e5 : ∀ m : Msg, (part 3 m.row 5).run Try.prog w = .ok (.int .i64 m.a) w := fun m => by simp [part, go_sem, Msg.row]
  have e6 : ∀ m : Msg, (part 4 m.row 6).run Try.prog w = .ok (.bool m.own) w := fun m => by simp [part, go_sem, Msg.row]
  have e7 : ∀ m : Msg, (part 25 m.row 7).run Try.prog w = .ok (.int .u32 m.n) w := fun m => by simp [part, go_sem, Msg.row]
  have e8 : ∀ m : Msg, (part 25 m.row 8).run Try.prog w = .ok (.int .u32 m.v) w := fun m => by simp [part, go_sem, Msg.row]
  rw [run_eql_struct, show (10000 : Nat) = 9999 + 1 from rfl, run_equalIn_agg w 9999 27 _ _ (by simp [Program.fieldsOf, Try.underlying27]) Try.stoodInHeld27]
  have n0 : ("Kind" ≠ "_") = True := by simp
  have q0 := run_equalIn_int w 9998 3 .i64 .i64 m.k n.k Try.underlying3
  have n1 : ("From" ≠ "_") = True := by simp
  have q1 := run_equalIn_int w 9998 3 .i64 .i64 m.f n.f Try.underlying3
  have n2 : ("To" ≠ "_") = True := by simp
  have q2 := run_equalIn_int w 9998 3 .i64 .i64 m.t n.t Try.underlying3
  have n3 : ("Line" ≠ "_") = True := by simp
  have q3 := run_equalIn_int w 9998 3 .i64 .i64 m.l n.l Try.underlying3
  have n4 : ("For" ≠ "_") = True := by simp
  have q4 := run_equalIn_int w 9998 3 .i64 .i64 m.o n.o Try.underlying3
  have n5 : ("Acks" ≠ "_") = True := by simp
  have q5 := run_equalIn_int w 9998 3 .i64 .i64 m.a n.a Try.underlying3
  have n6 : ("Own" ≠ "_") = True := by simp
  have q6 := run_equalIn_bool' w 9998 4 m.own n.own Try.underlying4
  have n7 : ("Num" ≠ "_") = True := by simp
  have q7 := run_equalIn_int w 9998 25 .u32 .u32 m.n n.n Try.underlying25
  have n8 : ("Val" ≠ "_") = True := by simp
  have q8 := run_equalIn_int w 9998 25 .u32 .u32 m.v n.v Try.underlying25
  unfold eqM
  revert q0 q1 q2 q3 q4 q5 q6 q7 q8
  generalize (m.k == n.k) = b0
  generalize (m.f == n.f) = b1
  generalize (m.t == n.t) = b2
  generalize (m.l == n.l) = b3
  generalize (m.o == n.o) = b4
  generalize (m.a == n.a) = b5
  generalize (m.own == n.own) = b6
  generalize ((m.n : Int) == (n.n : Int)) = b7
  generalize ((m.v : Int) == (n.v : Int)) = b8
  intro q0 q1 q2 q3 q4 q5 q6 q7 q8
  simp only [Program.fieldsOf, Try.underlying27, Op.eqFields, n0, n1, n2, n3, n4, n5, n6, n7, n8, if_true, Sem.run_bind, e0, e1, e2, e3, e4, e5, e6, e7, e8, Result.andThen_ok, q0, q1, q2, q3, q4, q5, q6, q7, q8, Sem.run_ite]
  cases b0 with
  | false => simp
  | true =>
    cases b1 with
    | false => simp
    | true =>
      cases b2 with
      | false => simp
      | true =>
        cases b3 with
        | false => simp
        | true =>
          cases b4 with
          | false => simp
          | true =>
            cases b5 with
            | false => simp
            | true =>
              cases b6 with
              | false => simp
              | true =>
                cases b7 with
                | false => simp
                | true =>
                  cases b8 <;> simp
theorem neq_msg (w : World) (c d : Msg) : (binOp .neq 27 (.agg c.row) (.agg d.row)).run Try.prog w = .ok (.bool (!eqM c d)) w := by
  have h := eq_msg w c d
  rw [run_eql_struct] at h
  rw [run_neq_struct]
  generalize (Op.equalIn 10000 27 (Value.agg c.row) (Value.agg d.row)).run Try.prog w = r at h ⊢
  cases r with
  | ok b w' =>
    simp only [Result.andThen_ok, Result.ok.injEq, Value.bool.injEq] at h ⊢
    exact ⟨by rw [h.1], h.2⟩
  | halt x w' => simp [Result.andThen] at h
theorem frame_inj {k f t l o a : Nat} {own : Bool} {n v : Nat} {k2 f2 t2 l2 o2 a2 : Nat} {own2 : Bool} {n2 v2 : Nat} (h : Fit k f t l o a own n v) (h2 : Fit k2 f2 t2 l2 o2 a2 own2 n2 v2) (e : frameL k f t l o a own n v = frameL k2 f2 t2 l2 o2 a2 own2 n2 v2) :
    (⟨k, f, t, l, o, a, own, n, v⟩ : Msg) = ⟨k2, f2, t2, l2, o2, a2, own2, n2, v2⟩ := by rw [← frame_msg h, ← frame_msg h2, e]
theorem strN_list (l : List Nat) : (strN l).toList = l.map fun x => UInt8.ofNat x := by
  unfold strN
  rw [Lib.strOfNums_toList]
  unfold Lib.bytesOf
  rw [List.map_map]
  rfl
theorem strN_ne {l m : List Nat} (hl : ∀ x ∈ l, x < 256) (hm : ∀ x ∈ m, x < 256) (h : l ≠ m) : ((strN l).toList == (strN m).toList) = false := by
  rw [beq_eq_false_iff_ne, strN_list, strN_list]
  intro e
  have q : ∀ l : List Nat, (∀ x ∈ l, x < 256) → (l.map fun x => UInt8.ofNat x).map (fun u => u.toNat) = l := fun l hl => by
    rw [List.map_map]
    refine (List.map_congr_left (g := id) fun x hx => ?_).trans (List.map_id l)
    have := hl x hx
    simp only [Function.comp, id]
    rw [UInt8.toNat_ofNat']
    exact Nat.mod_eq_of_lt this
  exact h (by rw [← q l hl, ← q m hm, e])

end Go.Proofs.Ytpmheaeiemnjeaa
