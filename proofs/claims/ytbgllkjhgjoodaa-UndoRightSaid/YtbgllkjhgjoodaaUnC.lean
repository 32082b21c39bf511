/- Whether one of a list is bad, and whether a list's intervals rise, by the program; no condition but that the list reads. -/
import Derived.Test.YtbgllkjhgjoodaaUnB
namespace Go.Proofs.Ytbgllkjhgjoodaa
set_option linter.unusedVariables false
open Go.ChangeShapes Go.WideShapes Go.ChangeAt Go.RowKit

def anyBad (m : Nat) (s : Int) (l : List Un) : Bool := l.any fun u => !fitB m s u
set_option maxHeartbeats 2000000 in
theorem index_any (p q : Option Addr) (m c n d x : Nat) (s : Int) (B : Nat) (l : List Un) (w : World) (hB : ∀ j, w.cell? ⟨B, j, none⟩ = (#[.slice p m c, .int .i64 s, .slice q n d] : Array Value)[j]?) (hlt : B < w.heap.size) (hm : m ≤ 10000)
    (hl : l.length = n) (hs : Sl w q n (unC l)) (hn : n ≤ 10000) :
    Calls Try.prog 41 #[.slice q n x, .func (.func 39) #[] #[.pointer (some ⟨B, 0, none⟩)]] w fun e w' => ∃ r : Int, e = .returned (.int .i64 r) ∧ decide (0 ≤ r) = anyBad m s l ∧ Below w.heap.size w w' := by
  have HYES : Hid (∀ k : Nat, k < n → fitB m s (l.getD k zU) = false → decide (0 ≤ (k : Int)) = anyBad m s l) := Lib.hid (fun k hk hg => by
    have : anyBad m s l = true := List.any_eq_true.2 ⟨_, mem_getD l zU k (by omega), by rw [hg]; rfl⟩
    rw [this]; exact decide_eq_true (by omega))
  have HNO : Hid ((∀ j, j < n → fitB m s (l.getD j zU) = true) → decide (0 ≤ (-1 : Int)) = anyBad m s l) := Lib.hid (fun hh => by
    have : anyBad m s l = false := List.any_eq_false.2 fun u hu => by
      obtain ⟨k, hk, rfl⟩ := mem_idx l zU u hu
      rw [hh k (by omega)]; decide
    rw [this]; rfl)
  have HAT : Hid (∀ k, k < n → ∃ b off, q = some ⟨b, off, none⟩ ∧ UnAt w b off k (l.getD k zU)) := Lib.hid (fun k hk => un_at (by rw [hl]; exact hs) k (by omega))
  have HBAD : Hid (∀ W, Below w.heap.size w W → ∀ u : Un, Calls Try.prog 39 #[.agg #[.int .i64 u.span, .int .i64 u.at_, .int .u32 u.val], .pointer (some ⟨B, 0, none⟩)] W fun e w' => e = .returned (.bool (!fitB m s u)) ∧ Below W.heap.size W w') :=
    Lib.hid (fun W hW u => bad_any p q m c n d s B u W (fun j => (hW.cell (p := ⟨B, j, none⟩) hlt).trans (hB j)) (Nat.lt_of_lt_of_le hlt hW.size) hm)
  obtain ⟨t, ht⟩ : ∃ t, t = anyBad m s l := ⟨_, rfl⟩
  rw [← ht] at HYES HNO ⊢
  clear ht hs hl hB hlt
  go_enter Try.func41, Try.ntmps41
  go_wp2_with fail
  go_loopw [8] (fun i wr => ∃ k : Nat, k ≤ n ∧ i = .int .i64 k ∧ Hid (∀ j, j < k → fitB m s (l.getD j zU) = true) ∧ Below w.heap.size w wr) (fun i _ => n - (intOf i).toNat)
  case atStart => exact ⟨0, Nat.zero_le _, rfl, Lib.hid (fun j hj => absurd hj (Nat.not_lt_zero _)), Below.refl _ _⟩
  case round =>
    obtain ⟨k, hk, rfl, HALL, hb⟩ := hrel
    have HB := Lib.hid hb
    clear hb
    by_cases hlt : k < n
    · obtain ⟨b, off, rfl, hat⟩ := HAT.out k hlt
      obtain ⟨l0, c0, c1, c2⟩ := hat.below HB.out
      have hkI : (k : Int) < (n : Int) := by omega
      have hcall := HBAD.out wr HB.out (l.getD k zU)
      obtain ⟨y, hy⟩ : ∃ y, y = l.getD k zU := ⟨_, rfl⟩
      rw [← hy] at c0 c1 c2 hcall
      have HX := Lib.hid hy
      obtain ⟨ys, ya, yv⟩ := y
      dsimp only at c0 c1 c2 hcall
      obtain ⟨g, hg⟩ : ∃ g, fitB m s ⟨ys, ya, yv⟩ = g := ⟨_, rfl⟩
      rw [hg] at hcall
      have HG := Lib.hid hg
      have HC := Lib.hid hcall
      clear hat hy hcall hg
      cases g with
      | false =>
        have e := HYES.out k hlt (by rw [← HX.out]; exact HG.out)
        go_wp2_with fail
        refine HC.out.mono ?_
        rintro e w' ⟨rfl, hb'⟩
        go_wp2_with fail
        go_ret
        exact ⟨_, rfl, e, HB.out.trans (hb'.mono HB.out.size)⟩
      | true =>
        go_wp2_with fail
        refine HC.out.mono ?_
        rintro e w' ⟨rfl, hb'⟩
        go_wp2_with fail
        go_roundw
        case rel => exact ⟨k + 1, by omega, by go_num, Lib.hid (fun j hj => by
          by_cases e : j = k
          · rw [e, ← HX.out]; exact HG.out
          · exact HALL.out j (by omega)), HB.out.trans (hb'.mono HB.out.size)⟩
        case measure => simp [intOf]; omega
    · have hkn : k = n := by omega
      subst hkn
      have e := HNO.out HALL.out
      go_wp2_with fail
      go_ret
      exact ⟨_, rfl, e, HB.out⟩
set_option maxHeartbeats 2000000 in
theorem fits_any (S : Nat → Prop) (v : Value) (L : Lg) (w : World) (h : Lo S w v L) : Calls Try.prog 31 #[v] w fun e w' => e = .returned (.bool (!anyBad L.mem.length L.span L.list)) ∧ Below w.heap.size w w' := by
  obtain ⟨p, m, c, q, n, d, rfl, hc, -⟩ := h
  have h10 := hc.m10
  have HI : Hid (∀ x, Calls Try.prog 41 #[.slice q n x, .func (.func 39) #[] #[.pointer (some ⟨w.heap.size, 0, none⟩)]] (w.alloc (.cells #[.slice p m c, .int .i64 L.span, .slice q n d] 25)) fun e w' => ∃ r : Int, e = .returned (.int .i64 r) ∧ decide (0 ≤ r) = anyBad m L.span L.list ∧ Below (w.alloc (.cells #[.slice p m c, .int .i64 L.span, .slice q n d] 25)).heap.size (w.alloc (.cells #[.slice p m c, .int .i64 L.span, .slice q n d] 25)) w') :=
    Lib.hid (fun x => index_any p q m c n d x L.span w.heap.size L.list _ (fun j => (Blk.new w _ _).c j) (by simp) hc.m10 hc.ll (hc.ls.below ((Below.refl _ _).alloc (Nat.le_refl _) _)) hc.n10)
  rw [hc.ml]
  obtain ⟨s, hs⟩ : ∃ s, s = L.span := ⟨_, rfl⟩
  obtain ⟨g, hg⟩ : ∃ g, g = anyBad m L.span L.list := ⟨_, rfl⟩
  rw [← hg] at HI ⊢
  rw [← hs] at HI ⊢
  clear hg hs hc
  have HCF : Hid (∀ x, Calls Try.prog 38 #[.slice q n x, .func (.func 39) #[] #[.pointer (some ⟨w.heap.size, 0, none⟩)]] (w.alloc (.cells #[.slice p m c, .int .i64 s, .slice q n d] 25)) fun e w' => e = .returned (.bool g) ∧ Below w.heap.size w w') := Lib.hid (by
    intro x
    obtain ⟨W, hW⟩ : ∃ W, W = w.alloc (.cells #[.slice p m c, .int .i64 s, .slice q n d] 25) := ⟨_, rfl⟩
    have HB0 : Hid (Below w.heap.size w W) := Lib.hid (by rw [hW]; exact (Below.refl _ _).alloc (Nat.le_refl _) _)
    rw [← hW] at HI ⊢
    clear hW
    go_enter Try.func38, Try.ntmps38
    go_wp2_with fail
    refine (HI.out x).mono ?_
    rintro e w' ⟨r, rfl, hr, hb⟩
    go_wp2_with fail
    go_ret
    exact ⟨rfl, HB0.out.trans (hb.mono HB0.out.size)⟩)
  clear HI
  go_enter Try.func31, Try.ntmps31
  go_wp2_with fail
  refine (HCF.out d).mono ?_
  rintro e w' ⟨rfl, hb⟩
  go_wp2_with fail
  go_ret
  exact ⟨rfl, hb⟩

end Go.Proofs.Ytbgllkjhgjoodaa
