/- Whether a list's intervals rise, by the program; no condition but that the list reads. -/
import Derived.Test.YtbgllkjhgjoodaaUnC
namespace Go.Proofs.Ytbgllkjhgjoodaa
set_option linter.unusedVariables false
open Go.ChangeShapes Go.WideShapes Go.ChangeAt Go.RowKit

def sortB (l : List Un) : Bool := decide (l.Pairwise fun x y => x.span ≤ y.span)
theorem sort_no {l : List Un} {k : Nat} (hk : k + 1 < l.length) (h : (l.getD (k + 1) zU).span < (l.getD k zU).span) : sortB l = false := by
  unfold sortB
  refine decide_eq_false fun hp => ?_
  have := (List.pairwise_iff_getElem.1 hp) k (k + 1) (by omega) hk (by omega)
  rw [get_getD l zU, get_getD l zU] at this
  omega
theorem sort_yes {l : List Un} (h : ∀ k, k + 1 < l.length → ¬ (l.getD (k + 1) zU).span < (l.getD k zU).span) : sortB l = true := by
  unfold sortB
  refine decide_eq_true (List.pairwise_iff_getElem.2 fun i j hi hj hij => ?_)
  rw [get_getD l zU, get_getD l zU]
  have : ∀ t, i + 1 + t < l.length → (l.getD i zU).span ≤ (l.getD (i + 1 + t) zU).span := by
    intro t
    induction t with
    | zero => intro ht; have := h i ht; rw [Nat.add_zero]; omega
    | succ t ih =>
      intro ht
      have h1 := ih (by omega)
      have h2 := h (i + 1 + t) (by omega)
      rw [show i + 1 + (t + 1) = i + 1 + t + 1 by omega]
      omega
  have := this (j - i - 1) (by omega)
  rwa [show i + 1 + (j - i - 1) = j by omega] at this
theorem cmp_neg {a b : Int} : decide (cmpI a b < 0) = decide (a < b) := by
  unfold cmpI
  by_cases h : a < b
  · rw [if_pos h, decide_eq_true h]; rfl
  · rw [if_neg h, decide_eq_false h]
    by_cases h2 : b < a
    · rw [if_pos h2]; rfl
    · rw [if_neg h2]; rfl
def Six (V : World) (b off i j : Nat) (x y : Un) : Prop :=
  V.cell? ⟨b, off + i * 3, none⟩ = some (.int .i64 x.span) ∧ V.cell? ⟨b, off + i * 3 + 1, none⟩ = some (.int .i64 x.at_) ∧ V.cell? ⟨b, off + i * 3 + 2, none⟩ = some (.int .u32 x.val) ∧
  V.cell? ⟨b, off + j * 3, none⟩ = some (.int .i64 y.span) ∧ V.cell? ⟨b, off + j * 3 + 1, none⟩ = some (.int .i64 y.at_) ∧ V.cell? ⟨b, off + j * 3 + 2, none⟩ = some (.int .u32 y.val)
set_option maxHeartbeats 4000000 in
set_option maxRecDepth 100000 in
theorem sorted_any (q : Option Addr) (n x : Nat) (l : List Un) (w : World) (hl : l.length = n) (hs : Sl w q n (unC l)) (hn : n ≤ 10000) :
    Calls Try.prog 32 #[.slice q n x, .func (.func 33) #[] #[]] w fun e w' => e = .returned (.bool (sortB l)) ∧ Below w.heap.size w w' := by
  have HNO : Hid (∀ k, k + 1 < n → (l.getD (k + 1) zU).span < (l.getD k zU).span → sortB l = false) := Lib.hid (fun k hk hh => sort_no (by omega) hh)
  have HYES : Hid ((∀ k, k + 1 < n → ¬ (l.getD (k + 1) zU).span < (l.getD k zU).span) → sortB l = true) := Lib.hid (fun hh => sort_yes (fun k hk => hh k (by omega)))
  have HAT : Hid (∀ k, k < n → ∃ b off, q = some ⟨b, off, none⟩ ∧ UnAt w b off k (l.getD k zU)) := Lib.hid (fun k hk => un_at (by rw [hl]; exact hs) k (by omega))
  obtain ⟨r, hr⟩ : ∃ r, r = sortB l := ⟨_, rfl⟩
  rw [← hr] at HNO HYES ⊢
  clear hr hs hl
  have hw0 : wrap64 ((n : Int) - 1) = (n : Int) - 1 := by unfold wrap64; omega
  have hw1 : IntKind.i64.wrap ((n : Int) - 1) = (n : Int) - 1 := by rw [IntKind.wrap_i64]; omega
  go_enter Try.func32, Try.ntmps32
  go_wp2_with fail
  go_loopw [5] (fun s5 wr => ∃ iz : Int, s5 = .int .i64 iz ∧ (0 < iz → iz < n) ∧ (-1 ≤ iz) ∧ Hid (∀ k : Nat, iz ≤ k → k + 1 < n → ¬ (l.getD (k + 1) zU).span < (l.getD k zU).span) ∧ Below w.heap.size w wr) (fun i _ => (intOf i).toNat)
  case atStart => exact ⟨(n : Int) - 1, rfl, by omega, by omega, Lib.hid (fun k h1 h2 => by omega), Below.refl _ _⟩
  case round =>
    obtain ⟨iz, rfl, hi, hi0, HALL, hb⟩ := hrel
    have HB := Lib.hid hb
    clear hb hw0 hw1
    by_cases hlt : 0 < iz
    · obtain ⟨i, rfl⟩ := Int.eq_ofNat_of_zero_le (show 0 ≤ iz by omega)
      have hin : i < n := by omega
      obtain ⟨j, hj⟩ : ∃ j : Nat, j = i - 1 := ⟨_, rfl⟩
      have hij : i = j + 1 := by omega
      obtain ⟨b, off, rfl, hat⟩ := HAT.out i hin
      obtain ⟨b', off', e2, hat2⟩ := HAT.out j (by omega)
      injection e2 with e2
      injection e2 with e2 e3 _
      subst e2 e3
      have ha := hat.below HB.out
      have ha2 := hat2.below HB.out
      have HIJ : Hid (l.getD i zU = l.getD (j + 1) zU) := Lib.hid (by rw [hij])
      obtain ⟨y, hy⟩ : ∃ y, y = l.getD i zU := ⟨_, rfl⟩
      obtain ⟨z, hz⟩ : ∃ z, z = l.getD j zU := ⟨_, rfl⟩
      rw [← hy] at ha HIJ
      rw [← hz] at ha2
      have HZ := Lib.hid hz
      have HS : Hid (∀ V, Below wr.heap.size wr V → Six V b off i j y z) := Lib.hid (fun V hV => by
        have h1 := ha.below hV
        have h2 := ha2.below hV
        exact ⟨h1.c0, h1.c1, h1.c2, h2.c0, h2.c1, h2.c2⟩)
      obtain ⟨ys, ya, yv⟩ := y
      obtain ⟨zs, za, zv⟩ := z
      have hw0 : wrap64 ((i : Int) - 1) = (j : Int) := by unfold wrap64; omega
      have hw1 : IntKind.i64.wrap ((i : Int) - 1) = (j : Int) := by rw [IntKind.wrap_i64]; omega
      have hiI : (i : Int) < (n : Int) := by omega
      have hjI : (j : Int) < (n : Int) := by omega
      have HJ := Lib.hid hij
      clear hat hat2 ha ha2 hy hz hi hi0 hj hij
      go_upto_region 4 with fail
      refine region_plan (fun V : World => Six V b off i j ⟨ys, ya, yv⟩ ⟨zs, za, zv⟩) 11 [(0, true), (1, true), (2, true), (3, true), (4, true), (5, true), (6, true), (7, true), (8, true), (9, true), (10, false)] (by kernel_rfl) (by kernel_rfl) (HS.out _ (Below.refl _ _).drew) ?_
      iterate 10
        refine plan_read (v := ?_) rfl (by rfl) ?_ ?_
        rotate_left
        · intro w' hS
          unfold Six at hS
          go_simp
          try with_reducible rfl
        try simp only [Act.put, List.setIfInBounds_toArray, List.set_cons_zero, List.set_cons_succ, List.getElem_toArray, List.getElem_cons_zero, List.getElem_cons_succ]
      refine plan_call (F := 33) (args := ?_) rfl (by rfl) ?_ ?_
      rotate_left
      · go_simp
        rfl
      refine (bySpan_any ys ya yv zs za zv wr.drew).mono ?_
      rintro e w2 ⟨rfl, hb2⟩
      have HB2 : Hid (Below wr.heap.size wr w2) := Lib.hid ((Below.refl _ _).drew.trans hb2)
      clear hb2
      refine ⟨_, rfl, HS.out _ HB2.out, ?_⟩
      try simp only [Act.put, List.setIfInBounds_toArray, List.set_cons_zero, List.set_cons_succ, List.getElem_toArray, List.getElem_cons_zero, List.getElem_cons_succ]
      refine plan_nil ?_
      simp only [List.drop_succ_cons, List.drop_zero]
      have HBW : Hid (Below w.heap.size w w2) := Lib.hid (HB.out.trans (HB2.out.mono HB.out.size))
      by_cases hc : ys < zs
      · have dc : decide (cmpI ys zs < 0) = true := by rw [cmp_neg]; exact decide_eq_true hc
        have e := HNO.out j (by have := HJ.out; omega) (by rw [← HIJ.out, ← HZ.out]; exact hc)
        subst e
        clear hc
        go_wp2_with fail
        go_ret
        exact ⟨rfl, HBW.out⟩
      · have dc : decide (cmpI ys zs < 0) = false := by rw [cmp_neg]; exact decide_eq_false hc
        have HC := Lib.hid hc
        clear hc
        go_wp2_with fail
        go_roundw
        case rel => exact ⟨(j : Int), rfl, fun _ => by omega, by omega, Lib.hid (fun k h1 h2 => by
          by_cases e : k = j
          · rw [e, ← HIJ.out, ← HZ.out]; exact HC.out
          · exact HALL.out k (by have := HJ.out; omega) h2), HBW.out⟩
        case measure => have := HJ.out; simp [intOf]; omega
    · have e := HYES.out (fun k hk => by have := HALL.out k (by omega) hk; omega)
      subst e
      have d0 : decide (0 < iz) = false := decide_eq_false hlt
      go_wp2_with fail
      go_ret
      exact ⟨rfl, HB.out⟩
end Go.Proofs.Ytbgllkjhgjoodaa
