/-
  What is left of a stream behind so many bytes, when so many texts were told: lists of bytes alone; no program is imported.
-/
import Derived.Test.YtnhjbhmhloeaeaaMath
namespace Go.Proofs.Ytnhjbhmhloeaeaa
/-- Where the frames of the first t texts end. -/
def en (Q : List Bs) (t : Nat) : Nat := (frs (Q.take t)).length
/-- What is left of the first p bytes, the first t texts being told. -/
def seg (Q : List Bs) (p t : Nat) : Bs := ((frs Q).take p).drop (en Q t)
theorem en_zero (Q : List Bs) : en Q 0 = 0 := rfl
theorem en_full (Q : List Bs) : en Q Q.length = (frs Q).length := by simp [en]
theorem en_succ (Q : List Bs) (t : Nat) (h : t < Q.length) : en Q (t + 1) = en Q t + (2 + (Q[t]).length) := by
  unfold en
  rw [List.take_succ_eq_append_getElem h, frs_snoc, List.length_append, fr_length]
theorem frs_split (Q : List Bs) (t : Nat) : frs Q = frs (Q.take t) ++ frs (Q.drop t) := by
  rw [← frs_append, List.take_append_drop]
theorem en_le (Q : List Bs) (t : Nat) : en Q t ≤ (frs Q).length := by
  rw [frs_split Q t, List.length_append]; unfold en; omega
theorem drop_en (Q : List Bs) (t : Nat) (h : t < Q.length) : (frs Q).drop (en Q t) = fr Q[t] ++ frs (Q.drop (t + 1)) := by
  conv => lhs; rw [frs_split Q t]
  unfold en
  rw [List.drop_left, List.drop_eq_getElem_cons h, frs_cons]
theorem seg_take (Q : List Bs) (p t : Nat) : seg Q p t = ((frs Q).drop (en Q t)).take (p - en Q t) := by
  unfold seg; rw [List.drop_take]
theorem seg_length (Q : List Bs) (p t : Nat) (h : p ≤ (frs Q).length) : (seg Q p t).length = p - en Q t := by
  unfold seg; simp; omega
theorem seg_feed (Q : List Bs) (p q t : Nat) (h1 : en Q t ≤ p) (h2 : p ≤ q) (h3 : p ≤ (frs Q).length) : seg Q p t ++ ((frs Q).take q).drop p = seg Q q t := by
  unfold seg
  have e : (frs Q).take p = ((frs Q).take q).take p := by rw [List.take_take, Nat.min_eq_left h2]
  rw [e]
  have hl : ((frs Q).take q).length ≥ p := by simp; omega
  generalize (frs Q).take q = B at *
  rw [List.drop_take]
  have := List.take_append_drop (p - en Q t) (B.drop (en Q t))
  rw [List.drop_drop, show en Q t + (p - en Q t) = p by omega] at this
  exact this
theorem seg_next (Q : List Bs) (p t : Nat) (h : t < Q.length) (h1 : en Q (t + 1) ≤ p) (h2 : Q[t].length ≤ 65535) : fl (seg Q p t) = 2 + (Q[t]).length ∧ hd (seg Q p t) = Q[t] ∧ tl (seg Q p t) = seg Q p (t + 1) := by
  have hs := en_succ Q t h
  have e : seg Q p t = fr Q[t] ++ (frs (Q.drop (t + 1))).take (p - en Q (t + 1)) := by
    rw [seg_take, drop_en Q t h, List.take_append, List.take_of_length_le (by rw [fr_length]; omega), fr_length]
    congr 2; omega
  refine ⟨by rw [e]; exact fl_fr h2 _, by rw [e]; exact hd_fr h2 _, ?_⟩
  rw [e, tl_fr h2, seg_take]
  congr 1
  rw [hs]
  have h5 : (frs Q).drop (en Q t + (2 + (Q[t]).length)) = ((frs Q).drop (en Q t)).drop (2 + (Q[t]).length) := by rw [List.drop_drop]
  rw [h5, drop_en Q t h, show 2 + (Q[t]).length = (fr Q[t]).length from (fr_length _).symm, List.drop_left]
theorem seg_none (Q : List Bs) (p t : Nat) (h2 : ∀ x ∈ Q, x.length ≤ 65535) (h : t = Q.length ∨ (t < Q.length ∧ p < en Q (t + 1))) : fl (seg Q p t) = 0 := by
  rcases h with rfl | ⟨h, hp⟩
  · rw [seg_take, en_full, List.drop_length, List.take_nil]; exact nil_fl
  · have hs := en_succ Q t h
    rw [seg_take, drop_en Q t h]
    exact fl_cut (h2 _ (List.getElem_mem h)) _ (by rw [fr_length]; omega) _
theorem seg_all (Q : List Bs) : seg Q (frs Q).length Q.length = [] := by
  rw [seg_take, en_full, List.drop_length, List.take_nil]
theorem seg_start (Q : List Bs) : seg Q 0 0 = [] := by simp [seg]
/-- At the end all are told. -/
theorem all_told (Q : List Bs) (t : Nat) (h : t = Q.length ∨ (t < Q.length ∧ (frs Q).length < en Q (t + 1))) : t = Q.length := by
  rcases h with h | ⟨_, h2⟩
  · exact h
  · have := en_le Q (t + 1); omega
theorem first_open (Q : List Bs) : 0 = Q.length ∨ (0 < Q.length ∧ 0 < en Q (0 + 1)) := by
  rcases Nat.eq_zero_or_pos Q.length with h | h
  · exact .inl h.symm
  · exact .inr ⟨h, by rw [en_succ Q 0 h]; omega⟩
/-- The ends, one by one. -/
def ens (Q : List Bs) : List Nat := (List.range Q.length).map fun i => en Q (i + 1)
theorem ens_length (Q : List Bs) : (ens Q).length = Q.length := by simp [ens]
theorem ens_at (Q : List Bs) (t : Nat) (h : t < Q.length) : (ens Q)[t]? = some (en Q (t + 1)) := by simp [ens, h]
theorem ens_snoc (Q : List Bs) (x : Bs) : ens (Q ++ [x]) = ens Q ++ [(frs (Q ++ [x])).length] := by
  unfold ens
  rw [List.length_append, List.length_singleton, List.range_succ, List.map_append]
  congr 1
  · refine List.map_congr_left fun i hi => ?_
    have := List.mem_range.1 hi
    unfold en
    rw [List.take_append_of_le_length (by omega)]
  · simp only [List.map_cons, List.map_nil, en]
    rw [List.take_of_length_le (by simp)]
end Go.Proofs.Ytnhjbhmhloeaeaa
