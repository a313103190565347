/-
  What rings of nodes are: their points in order, their nodes, who owns what. No statement is proved here.
-/
import Derived.Test.YtomghpielgkigaaDoorNew1
namespace Go.Proofs.YtomghpielgkigaaDoor
open Go.RowKit Go.Lib Go.Sort
/-- The order of points. -/
def leP (x y : Pt) : Bool := !(ltOf cmpP) y x
theorem leP_iff (x y : Pt) : leP x y = true ↔ x.1 < y.1 ∨ x.1 = y.1 ∧ x.2.val ≤ y.2.val := by
  unfold leP
  rw [ltP]
  simp
  omega
theorem srtP_sorted (L : List Pt) : (srtP L).Pairwise fun x y => leP x y = true :=
  List.pairwise_mergeSort (le := leP) (fun a b c h1 h2 => by rw [leP_iff] at *; omega) (fun a b => by
    rw [Bool.or_eq_true, leP_iff, leP_iff]
    omega) L
theorem srtP_perm (L : List Pt) : (srtP L).Perm L := List.mergeSort_perm L leP
theorem srt_srtP (L : List Pt) : Srt (srtP L) := (srtP_sorted L).imp fun h => by rw [leP_iff] at h; omega
theorem leP_anti (x y : Pt) (h1 : leP x y = true) (h2 : leP y x = true) : x = y := by
  rw [leP_iff] at h1 h2
  exact Prod.ext (by omega) (Fin.ext (by omega))
theorem srtP_filter (p : Pt → Bool) (L : List Pt) : srtP (L.filter p) = (srtP L).filter p :=
  List.Perm.eq_of_pairwise (le := fun x y => leP x y = true) (fun a b _ _ h1 h2 => leP_anti a b h1 h2) (srtP_sorted _) ((srtP_sorted L).sublist List.filter_sublist) ((srtP_perm _).trans ((srtP_perm L).symm.filter p))
/-- The nodes below a number that are there. -/
def nlB (on : Fin 64 → Bool) : Nat → List (Fin 64)
  | 0 => []
  | i + 1 => nlB on i ++ (if h : i < 64 then (if on ⟨i, h⟩ then [⟨i, h⟩] else []) else [])
theorem mem_nlB (on : Fin 64 → Bool) (i : Nat) (n : Fin 64) : n ∈ nlB on i ↔ on n = true ∧ n.val < i := by
  induction i with
  | zero => simp [nlB]
  | succ i ih =>
    unfold nlB
    rw [List.mem_append, ih]
    by_cases h : i < 64
    · rw [dif_pos h]
      by_cases ho : on ⟨i, h⟩ = true
      · rw [if_pos ho, List.mem_singleton]
        constructor
        · rintro (⟨h1, h2⟩ | rfl)
          · exact ⟨h1, by omega⟩
          · exact ⟨ho, Nat.lt_succ_self _⟩
        · rintro ⟨h1, h2⟩
          by_cases e : n.val = i
          · exact .inr (Fin.ext e)
          · exact .inl ⟨h1, by omega⟩
      · rw [if_neg ho]
        constructor
        · rintro (⟨h1, h2⟩ | h1)
          · exact ⟨h1, by omega⟩
          · cases h1
        · rintro ⟨h1, h2⟩
          refine .inl ⟨h1, ?_⟩
          by_cases e : n.val = i
          · exact absurd h1 (by rw [show n = ⟨i, h⟩ from Fin.ext e]; exact ho)
          · omega
    · rw [dif_neg h]
      have := n.isLt
      simp
      intro _
      omega
theorem nlB_sorted (on : Fin 64 → Bool) (i : Nat) : (nlB on i).Pairwise fun x y => x.val < y.val := by
  induction i with
  | zero => exact List.Pairwise.nil
  | succ i ih =>
    unfold nlB
    rw [List.pairwise_append]
    refine ⟨ih, ?_, ?_⟩
    · split
      · split
        · exact List.pairwise_singleton _ _
        · exact List.Pairwise.nil
      · exact List.Pairwise.nil
    · intro a ha b hb
      have h1 := ((mem_nlB on i a).1 ha).2
      split at hb
      · split at hb
        · rw [List.mem_singleton.1 hb]; exact h1
        · cases hb
      · cases hb
theorem ptsB_length (on : Fin 64 → Bool) (i : Nat) : (ptsB on i).length = 16 * (nlB on i).length := by
  induction i with
  | zero => rfl
  | succ i ih =>
    unfold ptsB nlB
    rw [List.length_append, List.length_append, ih]
    split
    · split
      · simp [ptsN]; omega
      · simp
    · simp
theorem mem_ptsB (on : Fin 64 → Bool) (i : Nat) (x : Pt) : x ∈ ptsB on i ↔ ∃ n ∈ nlB on i, ∃ k, k < 16 ∧ x = ptOf n k := by
  induction i with
  | zero => simp [ptsB, nlB]
  | succ i ih =>
    unfold ptsB nlB
    rw [List.mem_append, ih]
    by_cases h : i < 64
    · rw [dif_pos h, dif_pos h]
      by_cases ho : on ⟨i, h⟩ = true
      · rw [if_pos ho, if_pos ho]
        simp only [List.mem_append, List.mem_singleton, ptsN, List.mem_map, List.mem_range]
        constructor
        · rintro (⟨n, hn, k, hk, rfl⟩ | ⟨k, hk, rfl⟩)
          · exact ⟨n, .inl hn, k, hk, rfl⟩
          · exact ⟨_, .inr rfl, k, hk, rfl⟩
        · rintro ⟨n, hn | rfl, k, hk, rfl⟩
          · exact .inl ⟨n, hn, k, hk, rfl⟩
          · exact .inr ⟨k, hk, rfl⟩
      · rw [if_neg ho, if_neg ho]
        simp
    · rw [dif_neg h, dif_neg h]
      simp
/-- The nodes of a new ring. -/
def ndL (M : List Int) : List (Fin 64) := nlB (inL M) 64
theorem mem_ndL (M : List Int) (n : Fin 64) : n ∈ ndL M ↔ (n.val : Int) ∈ M := by
  unfold ndL
  rw [mem_nlB]
  unfold inL
  rw [decide_eq_true_eq]
  exact ⟨And.left, fun h => ⟨h, n.isLt⟩⟩
theorem ndL_nodup (M : List Int) : (ndL M).Nodup := (nlB_sorted _ _).imp fun h e => by rw [e] at h; exact absurd h (Nat.lt_irrefl _)
theorem ringL_srt (M : List Int) : Srt (ringL M) := srt_srtP _
theorem ringL_length (M : List Int) : (ringL M).length = 16 * (ndL M).length := by
  unfold ringL
  rw [srtP_length, ptsB_length]
  rfl
theorem ringL_len (M : List Int) : (ringL M).length ≤ 1024 := by
  rw [ringL_length]
  have := nodup_len _ (ndL_nodup M)
  omega
theorem mem_ro {α : Type} (s : Nat) (L : List α) (x : α) : x ∈ ro s L ↔ x ∈ L := by
  unfold ro
  conv => rhs; rw [← List.take_append_drop s L]
  rw [List.mem_append, List.mem_append, or_comm]
theorem nds_perm (h : Int) (M : List Int) : (nds h (ringL M)).Perm (ndL M) := by
  refine (List.perm_ext_iff_of_nodup (dd_nodup _) (ndL_nodup M)).2 fun n => ?_
  show n ∈ dd ((ro (st h (ringL M)) (ringL M)).map (·.2)) ↔ _
  rw [mem_dd, List.mem_map]
  constructor
  · rintro ⟨x, hx, rfl⟩
    rw [mem_ro] at hx
    obtain ⟨m, hm, k, _, rfl⟩ := (mem_ptsB _ _ _).1 ((srtP_perm _).mem_iff.1 hx)
    exact hm
  · intro hn
    exact ⟨ptOf n 0, (mem_ro _ _ _).2 ((srtP_perm _).mem_iff.2 ((mem_ptsB _ _ _).2 ⟨n, hn, 0, by decide, rfl⟩)), rfl⟩
theorem srtI_sorted (l : List Int) : (srtI l).Pairwise fun x y => x ≤ y :=
  (List.pairwise_mergeSort (le := fun x y : Int => decide (x ≤ y)) (fun a b c h1 h2 => by simp at *; omega) (fun a b => by simp; omega) l).imp fun h => by simpa using h
theorem nlist_ring (M : List Int) : nlist (ringL M) = vls (ndL M) := by
  refine List.Perm.eq_of_pairwise (le := fun x y : Int => x ≤ y) (fun a b _ _ h1 h2 => by omega) (srtI_sorted _) ?_ ((List.mergeSort_perm _ _).trans ((nds_perm 0 M).map _))
  unfold vls
  rw [List.pairwise_map]
  exact (nlB_sorted _ _).imp fun h => by omega
theorem nds_le (h : Int) (M : List Int) : (nds h (ringL M)).length ≤ 64 := nodup_len _ (dd_nodup _)
/-- A ring hangs on which nodes there are alone. -/
theorem ringL_eq {M M' : List Int} (h : ∀ x, x ∈ M ↔ x ∈ M') : ringL M = ringL M' := by
  unfold ringL
  have : inL M = inL M' := funext fun n => decide_eq_decide.2 (h _)
  rw [this]
/-- Sorted points from a place on: those that are not ahead of it, then the others. -/
theorem rot_filter (h : Int) {L : List Pt} (hs : Srt L) : rot h L = L.filter (fun x => decide (h ≤ x.1)) ++ L.filter (fun x => !decide (h ≤ x.1)) := by
  have key : L.drop (st h L) = L.filter (fun x => decide (h ≤ x.1)) ∧ L.take (st h L) = L.filter (fun x => !decide (h ≤ x.1)) := by
    induction L with
    | nil => exact ⟨rfl, rfl⟩
    | cons x r ih =>
      have hr := List.pairwise_cons.1 hs
      obtain ⟨i1, i2⟩ := ih hr.2
      by_cases hx : h ≤ x.1
      · have h0 : st h r = 0 := List.countP_eq_zero.2 fun y hy => by
          have := hr.1 y hy
          have : h ≤ y.1 := by omega
          simp [this]
        have h1 : st h (x :: r) = 0 := by
          unfold st at *
          rw [List.countP_cons, h0]
          simp [hx]
        rw [h0] at i1 i2
        rw [h1]
        refine ⟨?_, ?_⟩
        · rw [List.filter_cons, if_pos (by simpa using hx), ← i1]; rfl
        · rw [List.filter_cons, if_neg (by simpa using hx), ← i2]; rfl
      · have h1 : st h (x :: r) = st h r + 1 := by
          unfold st
          rw [List.countP_cons]
          simp [hx]
        rw [h1]
        refine ⟨?_, ?_⟩
        · rw [List.filter_cons, if_neg (by simpa using hx), ← i1]; rfl
        · rw [List.filter_cons, if_pos (by simpa using hx), ← i2]; rfl
  unfold rot ro
  rw [key.1, key.2]
theorem own_head (s : ByteArray) (L : List Pt) : own s L = (rot (pk s) L).head?.map (·.2) := by
  unfold own nds
  rw [dd_head, List.head?_map]
/-- With one node less the points are those of the others. -/
theorem ptsB_less (M : List Int) (n : Fin 64) (hn : ¬ (n.val : Int) ∈ M) (i : Nat) : ptsB (inL M) i = (ptsB (inL (M ++ [(n.val : Int)])) i).filter (fun x => decide (x.2 ≠ n)) := by
  induction i with
  | zero => rfl
  | succ i ih =>
    unfold ptsB
    rw [List.filter_append, ← ih]
    congr 1
    by_cases h : i < 64
    · rw [dif_pos h, dif_pos h]
      by_cases e : (⟨i, h⟩ : Fin 64) = n
      · have e1 : inL M ⟨i, h⟩ = false := by rw [e]; exact decide_eq_false hn
        have e2 : inL (M ++ [(n.val : Int)]) ⟨i, h⟩ = true := by rw [e]; exact decide_eq_true (by simp)
        rw [e1, e2]
        simp only [Bool.false_eq_true, if_false, if_true]
        refine (List.filter_eq_nil_iff.2 fun x hx => ?_).symm
        obtain ⟨k, _, rfl⟩ := List.mem_map.1 hx
        simp [ptOf, e]
      · have e1 : inL (M ++ [(n.val : Int)]) ⟨i, h⟩ = inL M ⟨i, h⟩ := by
          unfold inL
          refine decide_eq_decide.2 ?_
          rw [List.mem_append, List.mem_singleton]
          exact ⟨fun h1 => h1.elim id fun h1 => absurd (Fin.ext (by omega)) e, .inl⟩
        rw [e1]
        split
        · refine (List.filter_eq_self.2 fun x hx => ?_).symm
          obtain ⟨k, _, rfl⟩ := List.mem_map.1 hx
          simp [ptOf, e]
        · rfl
    · rw [dif_neg h, dif_neg h]
      rfl
/-- THE RING KEEPS. -/
theorem own_keeps (s : ByteArray) (M : List Int) (n : Fin 64) (hn : ¬ (n.val : Int) ∈ M) :
    own s (ringL (M ++ [(n.val : Int)])) = some n ∨ ∃ m, own s (ringL M) = some m ∧ own s (ringL (M ++ [(n.val : Int)])) = some m := by
  have hL : ringL M = (ringL (M ++ [(n.val : Int)])).filter (fun x => decide (x.2 ≠ n)) := by
    unfold ringL
    rw [ptsB_less M n hn, srtP_filter]
  have hrot : rot (pk s) (ringL M) = (rot (pk s) (ringL (M ++ [(n.val : Int)]))).filter (fun x => decide (x.2 ≠ n)) := by
    rw [rot_filter _ (ringL_srt M), rot_filter _ (ringL_srt (M ++ [(n.val : Int)])), List.filter_append, hL, List.filter_filter, List.filter_filter, List.filter_filter, List.filter_filter]
    congr 1
    · refine List.filter_congr fun x _ => Bool.and_comm _ _
    · refine List.filter_congr fun x _ => Bool.and_comm _ _
  rw [own_head, own_head, hrot]
  cases hR : rot (pk s) (ringL (M ++ [(n.val : Int)])) with
  | nil =>
    have hmem : ptOf n 0 ∈ rot (pk s) (ringL (M ++ [(n.val : Int)])) := (mem_ro _ _ _).2 ((srtP_perm _).mem_iff.2 ((mem_ptsB _ _ _).2 ⟨n, (mem_ndL _ _).2 (by simp), 0, by decide, rfl⟩))
    rw [hR] at hmem
    cases hmem
  | cons x r =>
    by_cases e : x.2 = n
    · exact .inl (by rw [← e]; rfl)
    · refine .inr ⟨x.2, ?_, rfl⟩
      rw [List.filter_cons, if_pos (by simpa using e)]
      rfl
end Go.Proofs.YtomghpielgkigaaDoor
