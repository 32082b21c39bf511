/- Some of a list taken out, in memory of one's own; where a list's intervals come to one; no condition but that these are there. -/
import Derived.Test.YteffmidpinlpjaaCmB
namespace Go.Proofs.Yteffmidpinlpjaa
set_option linter.unusedVariables false
set_option linter.unusedSimpArgs false
open Go.ChangeShapes Go.WideShapes Go.ChangeAt Go.RowKit

def zrC (c : Nat) : List Value := (Builtin.zeroCells (Value.cells (.agg #[.int .i64 0, .int .u32 0, .int .i64 0])) c).toList
theorem zrC_len (c : Nat) : (zrC c).length = c * 3 := by unfold zrC; rw [Array.length_toList, size_zeroCells]; rfl
theorem zrC_one (c : Nat) : ∀ u ∈ zrC c, u.oneCell' = true := by
  intro u hu
  unfold zrC Builtin.zeroCells at hu
  rw [Array.toList_map, List.mem_map] at hu
  obtain ⟨i, _, rfl⟩ := hu
  have h3 : (Value.cells (.agg #[.int .i64 0, .int .u32 0, .int .i64 0])).size = 3 := rfl
  rw [h3]
  have h : i % 3 < 3 := Nat.mod_lt _ (by decide)
  generalize i % 3 = t at h
  have : t = 0 ∨ t = 1 ∨ t = 2 := by omega
  rcases this with rfl | rfl | rfl <;> rfl
theorem row_grown (w : World) (g : Nat) (cs : Array Value) : w.grownBy (w.setRow g cs) (some g) :=
  ⟨rfl, rfl, rfl, by simp, fun k _ hk => setRow_other w g k _ (fun e => hk (by rw [e]))⟩
theorem clear_row (w : World) (g o cnt c : Nat) (cur : Array Value) (hc : 0 < cnt) (hg : w.heap[g]? = some (.cells cur 52 (0, 0))) (hfit : o + cnt * 3 ≤ cur.size) : ∀ ty, (Builtin.clear_ #[22] ty #[.slice (some ⟨g, o, none⟩) cnt c]).run Try.prog w =
    .ok (.tuple #[]) (w.setRow g (cur.toList.take o ++ zrC cnt ++ cur.toList.drop (o + cnt * 3)).toArray) := fun ty => by
  have hst := run_storeCells_at Try.prog g o 52 (zrC cnt) 0 cur w hg (by rw [zrC_len]; simpa using hfit) (zrC_one cnt)
  simp only [Nat.add_zero, zrC_len] at hst
  obtain ⟨c1, rfl⟩ : ∃ c1, cnt = c1 + 1 := ⟨cnt - 1, by omega⟩
  have hz : zrC (c1 + 1) = (Builtin.zeroCells (Value.cells (.agg #[.int .i64 0, .int .u32 0, .int .i64 0])) (c1 + 1)).toList := rfl
  rw [hz] at hst
  simp [Builtin.clear_, run_underlying Try.underlying22, Try.zeroValue52, hst, hz]

theorem cut_eq {α : Type} (l : List α) (k j : Nat) (h : k = j) : l.take k ++ l.drop j = l := by rw [h]; exact List.take_append_drop _ _
set_option maxHeartbeats 4000000 in
set_option maxRecDepth 100000 in
theorem delete_at (base g n cap k j q : Nat) (l : List Hd) (w : World) (h : w.ownsRow base 52 3 (.slice (some ⟨g, 0, none⟩) n cap) n (hdC l)) (hn : l.length = n) (hj : k < j) (hjn : j ≤ n) (hq : q + (j - k) = n) (hm : n ≤ 10000) :
    Calls Try.prog 25 #[.slice (some ⟨g, 0, none⟩) n cap, .int .i64 (k : Int), .int .i64 (j : Int)] w fun e w' => e = .returned (.slice (some ⟨g, 0, none⟩) q cap) ∧ w'.ownsRow base 52 3 (.slice (some ⟨g, 0, none⟩) q cap) q (hdC (l.take k ++ l.drop j)) ∧ w.grownBy w' (some g) := by
  obtain ⟨hlen, ⟨he, _⟩ | ⟨g', cap', cur, he, hbg, hg, hnc, hcm, hcs, htake⟩⟩ := h
  · injection he with he; cases he
  injection he with e1 e2 e3
  injection e1 with e1
  injection e1 with e1
  subst e1 e3
  obtain ⟨i0, hi, hz0, hz1, hz2⟩ := info_parts infoH
  obtain ⟨news, hnews⟩ : ∃ news, news = hdC (l.drop j) := ⟨_, rfl⟩
  have hnl : news.length = (n - j) * 3 := by rw [hnews, hdC_len, List.length_drop, hn]
  have hcur : ∀ t, t < n * 3 → cur[t]? = (hdC l)[t]? := fun t ht => by
    rw [← htake, List.getElem?_take_of_lt ht, Array.getElem?_toList]
  have hsrc : ∃ A : Addr, (if cap = j then some (⟨g, 0, none⟩ : Addr) else some ⟨g, j * 3, none⟩) = some A ∧ ∀ t u, news[t]? = some u → w.drew.cell? (A.add t) = some u := by
    by_cases hc : cap = j
    · refine ⟨⟨g, 0, none⟩, by simp [hc], fun t u hu => ?_⟩
      have h0 : news.length = 0 := by rw [hnl]; omega
      rw [List.length_eq_zero_iff.1 h0] at hu
      simp at hu
    · refine ⟨⟨g, j * 3, none⟩, by simp [hc], fun t u hu => ?_⟩
      have ht : t < (n - j) * 3 := by
        have := (List.getElem?_eq_some_iff.1 hu).1
        rwa [hnl] at this
      rw [Addr.add_lit]
      show w.cell? ⟨g, j * 3 + t, none⟩ = some u
      have e0 : w.cell? ⟨g, j * 3 + t, none⟩ = cur[j * 3 + t]? := by simp [World.cell?, hg]
      rw [e0, hcur _ (by omega), ← hu, hnews, hdC_drop l j, List.getElem?_drop]
  obtain ⟨A, hA, hAs⟩ := hsrc
  have hap := fun ty => run_append_room (P := Try.prog) w.drew 22 ty 52 i0 Try.underlying22 hi g k cap cur hg A (n - j) (cap - j) news (by rw [hnl, hz1]) hAs (by rw [hnews]; exact hdC_one _) (by omega) (by rw [hz1, hnl, hcs]; omega)
  rw [hz1, show k + (n - j) = q by omega] at hap
  obtain ⟨cur1, hcur1⟩ : ∃ cur1, cur1 = (cur.toList.take (k * 3) ++ news ++ cur.toList.drop (k * 3 + news.length)).toArray := ⟨_, rfl⟩
  obtain ⟨W1, hW1⟩ : ∃ W1, W1 = w.drew.setRow g cur1 := ⟨_, rfl⟩
  rw [← hcur1, ← hW1] at hap
  have hg1 : W1.heap[g]? = some (.cells cur1 52 (0, 0)) := by rw [hW1]; exact setRow_heap w.drew g cur _ _ _ hg
  have hs1 : cur1.size = cap * 3 := by
    rw [hcur1]
    simp only [List.size_toArray, List.length_append, List.length_take, List.length_drop, Array.length_toList, hnl, hcs]
    omega
  have htl : cur.toList.take (k * 3) = hdC (l.take k) := by
    rw [hdC_take l k, ← htake, List.take_take, Nat.min_eq_left (by omega)]
  have ht1 : cur1.toList.take (q * 3) = hdC (l.take k ++ l.drop j) := by
    rw [hcur1, hdC_app, ← htl, ← hnews]
    show (cur.toList.take (k * 3) ++ news ++ cur.toList.drop (k * 3 + news.length)).take (q * 3) = _
    have e1 : (cur.toList.take (k * 3) ++ news).length = q * 3 := by
      rw [List.length_append, List.length_take, Array.length_toList, hcs, hnl]; omega
    rw [← e1, List.take_left]
  obtain ⟨cnt, hcnt⟩ : ∃ cnt, cnt = j - k := ⟨_, rfl⟩
  have hcl := clear_row W1 g (q * 3) cnt (cap - q) cur1 (by omega) hg1 (by rw [hs1]; omega)
  obtain ⟨cur2, hcur2⟩ : ∃ cur2, cur2 = (cur1.toList.take (q * 3) ++ zrC cnt ++ cur1.toList.drop (q * 3 + cnt * 3)).toArray := ⟨_, rfl⟩
  obtain ⟨W2, hW2⟩ : ∃ W2, W2 = W1.setRow g cur2 := ⟨_, rfl⟩
  rw [← hcur2, ← hW2] at hcl
  have hEND : Hid (W2.ownsRow base 52 3 (.slice (some ⟨g, 0, none⟩) q cap) q (hdC (l.take k ++ l.drop j)) ∧ w.grownBy W2 (some g)) := Lib.hid (by
    refine ⟨⟨?_, .inr ⟨g, cap, cur2, rfl, hbg, by rw [hW2]; exact setRow_heap W1 g cur1 _ _ _ hg1, by omega, hcm, ?_, ?_⟩⟩, ?_⟩
    · rw [hdC_len, List.length_append, List.length_take, List.length_drop]; omega
    · rw [hcur2]
      simp only [List.size_toArray, List.length_append, List.length_take, List.length_drop, Array.length_toList, zrC_len, hs1]
      omega
    · rw [hcur2]
      show (cur1.toList.take (q * 3) ++ zrC cnt ++ cur1.toList.drop (q * 3 + cnt * 3)).take (q * 3) = _
      have e1 : (cur1.toList.take (q * 3)).length = q * 3 := by rw [List.length_take, Array.length_toList, hs1]; omega
      rw [List.append_assoc]
      rw [List.take_append_of_le_length (by rw [e1]; exact Nat.le_refl _), List.take_of_length_le (by rw [e1]; exact Nat.le_refl _), ht1]
    · rw [hW2, hW1]
      exact ⟨rfl, rfl, rfl, by simp, fun k _ hk => (setRow_other _ g k _ (fun e => hk (by rw [e]))).trans (setRow_other w.drew g k _ (fun e => hk (by rw [e])))⟩)
  have HAP := Lib.hid hap
  have HCL := Lib.hid hcl
  have HJ := Lib.hid hj
  have HQ := Lib.hid hq
  clear hap hcl hAs htl ht1 hs1 hg1 hW1 hW2 hcur1 hcur2 hcur hnews hnl htake hcs hg hlen hi hz0 hz1 hz2 hn
  have hkn : k ≤ n := by omega
  have hkj : k ≤ j := by omega
  have hne : ((k : Int) == (j : Int)) = false := by simp; omega
  have hcq : ¬ cap = q := by omega
  have hnq : n - q = cnt := by omega
  have hqn : q ≤ n := by omega
  have hqc : q ≤ cap := by omega
  have hkj' : ¬ k = j := by omega
  clear hj hq e2 hcnt
  have hkc : k ≤ cap := by omega
  have hjc : j ≤ cap := by omega
  unfold maxLen at hcm
  go_enter Try.func25, Try.ntmps25
  go_upto_region 5 with fail
  refine region_plan (fun w' : World => w' = w.drew) 6 [(0, true), (1, true), (2, true), (3, true), (4, true), (5, true)] (by kernel_rfl) (by kernel_rfl) rfl ?_
  iterate 6
    refine plan_read (v := ?_) rfl (by rfl) ?_ ?_
    rotate_left
    · intro w' hS
      try dsimp only at hS
      go_simp
      try with_reducible rfl
    try simp only [Act.put, List.setIfInBounds_toArray, List.set_cons_zero, List.set_cons_succ, List.getElem_toArray, List.getElem_cons_zero, List.getElem_cons_succ]
  refine plan_nil ?_
  simp only [List.drop_succ_cons, List.drop_zero]
  go_wp2_with (at_builtin; refine Lib.wpList_append_run _ rfl _ _ _ _ rfl _ _ rfl (by first | rfl | (rw [← hA]; rfl)) _ _ (HAP.out _) ?_)
  clear hA
  have hcl := HCL.out 0
  go_wp2_with fail
  rw [hcl]
  go_wp2_with fail
  go_ret
  exact ⟨rfl, hEND.out.1, hEND.out.2⟩
set_option maxHeartbeats 1000000 in
theorem delete_none (p : Option Addr) (n c k : Nat) (w : World) (hk : k ≤ n) (hnc : n ≤ c) (hm : n ≤ 10000) :
    Calls Try.prog 25 #[.slice p n c, .int .i64 (k : Int), .int .i64 (k : Int)] w fun e w' => e = .returned (.slice p n c) ∧ w = w' := by
  have hkc : k ≤ c := by omega
  cases p with
  | none =>
    go_enter Try.func25, Try.ntmps25
    go_wp2_with fail
    go_ret
    exact ⟨rfl, rfl⟩
  | some a =>
    go_enter Try.func25, Try.ntmps25
    go_wp2_with fail
    all_goals
      go_ret
      exact ⟨rfl, rfl⟩
theorem delete_any (base n cap k j : Nat) (p : Option Addr) (l : List Hd) (w : World) (h : w.ownsRow base 52 3 (.slice p n cap) n (hdC l)) (hn : l.length = n) (hj : k ≤ j) (hjn : j ≤ n) (hm : n ≤ 10000) :
    Calls Try.prog 25 #[.slice p n cap, .int .i64 (k : Int), .int .i64 (j : Int)] w fun e w' => e = .returned (.slice p (l.take k ++ l.drop j).length cap) ∧ w'.ownsRow base 52 3 (.slice p (l.take k ++ l.drop j).length cap) (l.take k ++ l.drop j).length (hdC (l.take k ++ l.drop j)) ∧ w.grownBy w' (Value.slice p n cap).ownBlock := by
  rcases Nat.lt_or_ge k j with h1 | h1
  · obtain ⟨g, rfl, -, -, -, -⟩ := own_go h (by omega)
    have hl : (l.take k ++ l.drop j).length = n - (j - k) := by rw [List.length_append, List.length_take, List.length_drop]; omega
    rw [hl]
    exact delete_at base g n cap k j (n - (j - k)) l w h hn h1 hjn (by omega) hm
  · have e : k = j := by omega
    subst e
    obtain ⟨p', c', e2, hc⟩ := own_cap h
    injection e2 with _ _ e2
    subst e2
    rw [List.take_append_drop, hn]
    exact (delete_none p n cap k w hjn hc hm).mono fun _ _ ⟨h1, h2⟩ => ⟨h1, h2 ▸ h, h2 ▸ World.grownBy.refl _ _⟩
end Go.Proofs.Yteffmidpinlpjaa
