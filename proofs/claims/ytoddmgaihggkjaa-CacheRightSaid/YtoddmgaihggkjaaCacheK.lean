/- A line taken out of lines in memory of one's own; no condition but that there is one. -/
import Derived.Test.YtoddmgaihggkjaaCacheJ
import Derived.Lib.AppendZeros
namespace Go.Proofs.Ytoddmgaihggkjaa
set_option linter.unusedVariables false
open Go.ChangeShapes Go.WideShapes Go.ChangeAt Go.RowKit

theorem erase_eq {α : Type} (l : List α) (k : Nat) : l.eraseIdx k = l.take k ++ l.drop (k + 1) := List.eraseIdx_eq_take_drop_succ l k
theorem lnC_take (l : List Ln) (k : Nat) (hk : k ≤ l.length) : (lnC l).take (k * 4) = lnC (l.take k) := by
  have e : lnC l = lnC (l.take k) ++ lnC (l.drop k) := by rw [← lnC_app, List.take_append_drop]
  rw [e]
  have h := lnC_len (l.take k)
  rw [List.length_take, Nat.min_eq_left hk] at h
  rw [← h, List.take_left]
theorem lnC_drop (l : List Ln) (k : Nat) (hk : k ≤ l.length) : (lnC l).drop (k * 4) = lnC (l.drop k) := by
  have e : lnC l = lnC (l.take k) ++ lnC (l.drop k) := by rw [← lnC_app, List.take_append_drop]
  rw [e]
  have h := lnC_len (l.take k)
  rw [List.length_take, Nat.min_eq_left hk] at h
  rw [← h, List.drop_left]
theorem row_grown (w : World) (g : Nat) (cs : Array Value) : w.grownBy (w.setRow g cs) (some g) :=
  ⟨rfl, rfl, rfl, by simp, fun k _ hk => setRow_other w g k _ (fun e => hk (by rw [e]))⟩
theorem clear_row (w : World) (g o cap c : Nat) (cur : Array Value) (hg : w.heap[g]? = some (.cells cur 30 (0, 0))) (hfit : o + 4 ≤ cur.size) : ∀ ty, (Builtin.clear_ #[28] ty #[.slice (some ⟨g, o, none⟩) 1 c]).run Try.prog w =
    .ok (.tuple #[]) (w.setRow g (cur.toList.take o ++ (lnR zL).toList ++ cur.toList.drop (o + 4)).toArray) := fun ty => by
  have hst := run_storeCells_at Try.prog g o 30 (lnR zL).toList 0 cur w hg (by simpa [lnR] using hfit) (by intro v hv; simp [lnR] at hv; rcases hv with rfl | rfl | rfl | rfl <;> rfl)
  have hz : (Builtin.zeroCells (Value.cells (.agg #[.int .i64 0, .int .i64 0, .int .u32 0, .int .i64 0])) 1).toList = (lnR zL).toList := by
    simp [Builtin.zeroCells, Value.cells, lnR, zL, Array.range, List.range, List.range.loop]
  simp only [Nat.add_zero] at hst
  have e4 : (lnR zL).toList.length = 4 := rfl
  rw [e4] at hst
  simp [Builtin.clear_, run_underlying Try.underlying28, Try.zeroValue30, hz, hst]

set_option maxHeartbeats 4000000 in
set_option maxRecDepth 100000 in
theorem delete_at (base g n cap k j q : Nat) (l : List Ln) (w : World) (h : w.ownsRow base 30 4 (.slice (some ⟨g, 0, none⟩) n cap) n (lnC l)) (hn : l.length = n) (hj : j = k + 1) (hjn : j ≤ n) (hq : q + 1 = n) (hm : n ≤ 10000) :
    Calls Try.prog 34 #[.slice (some ⟨g, 0, none⟩) n cap, .int .i64 (k : Int), .int .i64 (j : Int)] w fun e w' => e = .returned (.slice (some ⟨g, 0, none⟩) q cap) ∧ w'.ownsRow base 30 4 (.slice (some ⟨g, 0, none⟩) q cap) q (lnC (l.eraseIdx k)) ∧ w.grownBy w' (some g) := by
  obtain ⟨hlen, ⟨he, _⟩ | ⟨g', cap', cur, he, hbg, hg, hnc, hcm, hcs, htake⟩⟩ := h
  · injection he with he; cases he
  injection he with e1 e2 e3
  injection e1 with e1
  injection e1 with e1
  subst e1 e3
  obtain ⟨i0, hi, hz0, hz1, hz2⟩ := info_parts info30
  obtain ⟨news, hnews⟩ : ∃ news, news = lnC (l.drop j) := ⟨_, rfl⟩
  have hnl : news.length = (n - j) * 4 := by rw [hnews, lnC_len, List.length_drop, hn]
  have hcur : ∀ t, t < n * 4 → cur[t]? = (lnC l)[t]? := fun t ht => by
    rw [← htake, List.getElem?_take_of_lt ht, Array.getElem?_toList]
  have hsrc : ∃ A : Addr, (if cap = j then some (⟨g, 0, none⟩ : Addr) else some ⟨g, j * 4, none⟩) = some A ∧ ∀ t u, news[t]? = some u → w.drew.cell? (A.add t) = some u := by
    by_cases hc : cap = j
    · refine ⟨⟨g, 0, none⟩, by simp [hc], fun t u hu => ?_⟩
      have h0 : news.length = 0 := by rw [hnl]; omega
      rw [List.length_eq_zero_iff.1 h0] at hu
      simp at hu
    · refine ⟨⟨g, j * 4, none⟩, by simp [hc], fun t u hu => ?_⟩
      have ht : t < (n - j) * 4 := by
        have := (List.getElem?_eq_some_iff.1 hu).1
        rwa [hnl] at this
      rw [Addr.add_lit]
      show w.cell? ⟨g, j * 4 + t, none⟩ = some u
      have e0 : w.cell? ⟨g, j * 4 + t, none⟩ = cur[j * 4 + t]? := by simp [World.cell?, hg]
      rw [e0, hcur _ (by omega), ← hu, hnews, ← lnC_drop l j (by omega), List.getElem?_drop]
  obtain ⟨A, hA, hAs⟩ := hsrc
  have hap := fun ty => run_append_room (P := Try.prog) w.drew 28 ty 30 i0 Try.underlying28 hi g k cap cur hg A (n - j) (cap - j) news (by rw [hnl, hz1]) hAs (by rw [hnews]; exact lnC_one _) (by omega) (by rw [hz1, hnl, hcs]; omega)
  rw [hz1, show k + (n - j) = q by omega] at hap
  obtain ⟨cur1, hcur1⟩ : ∃ cur1, cur1 = (cur.toList.take (k * 4) ++ news ++ cur.toList.drop (k * 4 + news.length)).toArray := ⟨_, rfl⟩
  obtain ⟨W1, hW1⟩ : ∃ W1, W1 = w.drew.setRow g cur1 := ⟨_, rfl⟩
  rw [← hcur1, ← hW1] at hap
  have hg1 : W1.heap[g]? = some (.cells cur1 30 (0, 0)) := by rw [hW1]; exact setRow_heap w.drew g cur _ _ _ hg
  have hs1 : cur1.size = cap * 4 := by
    rw [hcur1]
    simp only [List.size_toArray, List.length_append, List.length_take, List.length_drop, Array.length_toList, hnl, hcs]
    omega
  have htl : cur.toList.take (k * 4) = lnC (l.take k) := by
    rw [← lnC_take l k (by omega), ← htake, List.take_take, Nat.min_eq_left (by omega)]
  have ht1 : cur1.toList.take (q * 4) = lnC (l.eraseIdx k) := by
    rw [hcur1, erase_eq, lnC_app, ← htl, ← hj, ← hnews]
    show (cur.toList.take (k * 4) ++ news ++ cur.toList.drop (k * 4 + news.length)).take (q * 4) = _
    have e1 : (cur.toList.take (k * 4) ++ news).length = q * 4 := by
      rw [List.length_append, List.length_take, Array.length_toList, hcs, hnl]; omega
    rw [← e1, List.take_left]
  have hcl := clear_row W1 g (q * 4) cap (cap - q) cur1 hg1 (by rw [hs1]; omega)
  obtain ⟨cur2, hcur2⟩ : ∃ cur2, cur2 = (cur1.toList.take (q * 4) ++ (lnR zL).toList ++ cur1.toList.drop (q * 4 + 4)).toArray := ⟨_, rfl⟩
  obtain ⟨W2, hW2⟩ : ∃ W2, W2 = W1.setRow g cur2 := ⟨_, rfl⟩
  rw [← hcur2, ← hW2] at hcl
  have hEND : Hid (W2.ownsRow base 30 4 (.slice (some ⟨g, 0, none⟩) q cap) q (lnC (l.eraseIdx k)) ∧ w.grownBy W2 (some g)) := Lib.hid (by
    refine ⟨⟨?_, .inr ⟨g, cap, cur2, rfl, hbg, by rw [hW2]; exact setRow_heap W1 g cur1 _ _ _ hg1, by omega, hcm, ?_, ?_⟩⟩, ?_⟩
    · rw [lnC_len, List.length_eraseIdx_of_lt (by omega)]; omega
    · rw [hcur2]
      have e4 : (lnR zL).toList.length = 4 := rfl
      simp only [List.size_toArray, List.length_append, List.length_take, List.length_drop, Array.length_toList, e4, hs1]
      omega
    · rw [hcur2]
      show (cur1.toList.take (q * 4) ++ (lnR zL).toList ++ cur1.toList.drop (q * 4 + 4)).take (q * 4) = _
      have e1 : (cur1.toList.take (q * 4)).length = q * 4 := by rw [List.length_take, Array.length_toList, hs1]; omega
      rw [List.append_assoc]
      rw [List.take_append_of_le_length (by rw [e1]; exact Nat.le_refl _), List.take_of_length_le (by rw [e1]; exact Nat.le_refl _), ht1]
    · rw [hW2, hW1]
      exact ⟨rfl, rfl, rfl, by simp, fun k _ hk => (setRow_other _ g k _ (fun e => hk (by rw [e]))).trans (setRow_other w.drew g k _ (fun e => hk (by rw [e])))⟩)
  have HAP := Lib.hid hap
  have HCL := Lib.hid hcl
  have HJ := Lib.hid hj
  have HQ := Lib.hid hq
  clear hap hcl hAs htl ht1 hs1 hg1 hW1 hW2 hcur1 hcur2 hcur hnews hnl htake hcs hg hlen hi hz0 hz1 hz2 hn
  have hkn : k ≤ n := by omega
  have hkj : k ≤ j := by omega
  have hne : ((k : Int) == (j : Int)) = false := by simp; omega
  have hcq : ¬ cap = q := by omega
  have hnq : n - q = 1 := by omega
  have hqn : q ≤ n := by omega
  have hqc : q ≤ cap := by omega
  have hkj' : ¬ k = j := by omega
  clear hj hq e2
  have hkc : k ≤ cap := by omega
  have hjc : j ≤ cap := by omega
  unfold maxLen at hcm
  go_enter Try.func34, Try.ntmps34
  go_upto_region 5 with fail
  refine region_plan (fun w' : World => w' = w.drew) 6 [(0, true), (1, true), (2, true), (3, true), (4, true), (5, true)] (by kernel_rfl) (by kernel_rfl) rfl ?_
  iterate 6
    refine plan_read (v := ?_) rfl (by rfl) ?_ ?_
    rotate_left
    · intro w' hS
      try dsimp only at hS
      go_simp
      try with_reducible rfl
    try simp only [Act.put, List.setIfInBounds_toArray, List.set_cons_zero, List.set_cons_succ, List.getElem_toArray, List.getElem_cons_zero, List.getElem_cons_succ]
  refine plan_nil ?_
  simp only [List.drop_succ_cons, List.drop_zero]
  go_wp2_with (at_builtin; refine Lib.wpList_append_run _ rfl _ _ _ _ rfl _ _ rfl (by first | rfl | (rw [← hA]; rfl)) _ _ (HAP.out _) ?_)
  clear hA
  have hcl := HCL.out 0
  go_wp2_with fail
  rw [hcl]
  go_wp2_with fail
  go_ret
  exact ⟨rfl, hEND.out.1, hEND.out.2⟩
end Go.Proofs.Ytoddmgaihggkjaa
