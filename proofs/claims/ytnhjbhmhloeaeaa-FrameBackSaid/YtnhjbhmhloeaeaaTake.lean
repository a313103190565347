/-
  What a reader's take leaves: what is left behind so many bytes; all else is as it was.
-/
import Derived.Test.YtnhjbhmhloeaeaaPrims
namespace Go.Proofs.Ytnhjbhmhloeaeaa
open Go.RowKit
/-- r.left[m:n:c]. -/
theorem slice_three (g k n cap m c : Nat) (hm : m < n) (hn : n ≤ c) (hc : c ≤ cap) (w : World) :
    (Instr.slice 28 (.slice (some ⟨g, k, none⟩) n cap) (some (.int .i64 (m : Int))) (some (.int .i64 (n : Int))) (some (.int .i64 (c : Int)))).run Try.prog w = .ok (.slice (some ⟨g, k + m, none⟩) (n - m) (c - m)) w := by
  obtain ⟨i, hi, hz0, hz1, hz2⟩ := info_parts info5
  have h3 : m ≤ n := by omega
  have h4 : ¬ c = m := by omega
  simp [Instr.slice, Instr.sliceBounds, Instr.sliceBound, run_underlying Try.underlying28, sizeOf, typeInfo, hi, hz1, asIntOf, hc, hn, h3, h4, Addr.add_lit]
/-- What a take leaves, by its two ways. -/
theorem RV.take {S : Nat → Prop} {b g k n cap t : Nat} {R : Bs} {w : World} (h : RV S b R (.slice (some ⟨g, k, none⟩) n cap) t w) (m c t' : Nat) (hm : m < R.length) (hc : R.length ≤ c) (hc2 : c ≤ cap) (ht : t' ≤ R.length - m) {w' : World}
    (hblk : Blk 50 w' b (.slice (some ⟨g, k + m, none⟩) (R.length - m) (c - m)) (.int .i64 (t' : Int))) (htr : Tr (· = b) w w') : Rd S b (R.drop m) w' := by
  have hne := h.row.not_blk h.blk (by decide)
  refine ⟨_, t', hblk, (h.row.cut m c hm hc hc2).tr htr (fun j e hj => hne (by simp [Value.ownBlock] at e ⊢; omega)), fun j e => h.rowS j (by simpa [Value.ownBlock] using e), h.own, by rw [List.length_drop]; exact ht⟩
set_option maxRecDepth 100000 in
set_option maxHeartbeats 1600000 in
theorem take_all (S : Nat → Prop) (b : Nat) (R : Bs) (w : World) (h : Rd S b R w) :
    Calls Try.prog 21 #[ptr b, .int .i64 (R.length : Int)] w fun e w' => (∃ v, e = .returned v) ∧ Rd S b [] w' ∧ Tr (· = b) w w' := by
  have H := Lib.hid h
  have HD := Lib.hid (fun nq => reset_any S b R (w.drewN nq) (h.below (below_drewN w nq)))
  obtain ⟨v, t, hp⟩ := h
  have c0 := hp.blk.cell0
  obtain ⟨a, cap, rfl, _, _⟩ := hp.row.shape
  clear hp
  go_enter Try.func21, Try.ntmps21
  go_wp2_with fail
  go_quiet (fail)
  go_wp2_with fail
  refine (HD.out _).mono ?_
  rintro e w' ⟨⟨v, rfl⟩, h1, h2⟩
  have A := Lib.hid h1
  have B := Lib.hid ((Tr.of_below (below_drewN w _)).then h2)
  clear h1 h2
  go_wp2
  refine bodyPost_ret (results_none rfl _ _ _) rfl ?_
  exact ⟨⟨_, rfl⟩, A.out, B.out⟩
set_option maxRecDepth 100000 in
set_option maxHeartbeats 1600000 in
theorem take_some (S : Nat → Prop) (b : Nat) (R : Bs) (w : World) (m : Nat) (hm : m < R.length) (hB : R.length ≤ 1000000000) (h : Rd S b R w) :
    Calls Try.prog 21 #[ptr b, .int .i64 (m : Int)] w fun e w' => (∃ v, e = .returned v) ∧ Rd S b (R.drop m) w' ∧ Tr (· = b) w w' := by
  obtain ⟨v, t, hp⟩ := h
  obtain ⟨a, cap, rfl, hcap, _⟩ := hp.row.shape
  obtain ⟨g, k, rfl, _, _⟩ := hp.row.cells (by intro e; rw [e] at hm; simp at hm)
  have c0 := hp.blk.cell0
  have c1 := hp.blk.cell1
  have f0 := hp.blk.frozen0
  have f1 := hp.blk.frozen1
  have ht := hp.le
  have H1 := Lib.hid (fun w1 (x : Value) => hp.take m R.length 0 hm (Nat.le_refl _) hcap (Nat.zero_le _) (w' := w1))
  have H2 := Lib.hid (fun (hle : t + m ≤ R.length - m) w1 => hp.take m cap (t + m) hm hcap (Nat.le_refl _) hle (w' := w1))
  have HK := Lib.hid hp.blk
  clear hp
  generalize hn : R.length = n at *
  have s1 := slice_three g k n cap m n hm (Nat.le_refl _) hcap
  have s2 := slice_three g k n cap m cap hm hcap (Nat.le_refl _)
  have q0 : ((m : Int) == (n : Int)) = false := by simp; omega
  clear hn
  by_cases h3 : n - m < t + m
  · have q1 : ((n : Int) - (m : Int) < (t : Int) + (m : Int)) := by omega
    go_enter Try.func21, Try.ntmps21
    go_wp2_with fail
    go_quiet (fail)
    go_wp2
    go_end0
    have hk := HK.out.tr (Tr.of_below (S := fun _ => False) (below_drewN w nq)) (fun h => h)
    have ht := (((Tr.of_below (S := (· = b)) (below_drewN w nq)).setCell (i := 1) (.inl rfl) (.int .i64 ((t : Int) + (m : Int)))).setCell (i := 1) (.inl rfl) (.int .i64 0)).setCell (i := 0) (.inl rfl) (.slice (some ⟨g, k + m, none⟩) (n - m) (n - m))
    exact ⟨⟨_, rfl⟩, H1.out _ (.int .i64 0) (((hk.set1 _).set1 _).set0 _) ht, ht⟩
  · have q1 : decide ((n : Int) - (m : Int) < (t : Int) + (m : Int)) = false := by simp; omega
    go_enter Try.func21, Try.ntmps21
    go_wp2_with fail
    go_quiet (fail)
    go_wp2
    go_end0
    have hk := HK.out.tr (Tr.of_below (S := fun _ => False) (below_drewN w nq)) (fun h => h)
    have ht := ((Tr.of_below (S := (· = b)) (below_drewN w nq)).setCell (i := 1) (.inl rfl) (.int .i64 ((t : Int) + (m : Int)))).setCell (i := 0) (.inl rfl) (.slice (some ⟨g, k + m, none⟩) (n - m) (cap - m))
    exact ⟨⟨_, rfl⟩, H2.out (by omega) _ ((hk.set1 _).set0 _) ht, ht⟩
/-- A take: so many bytes from the beginning. -/
theorem take_any (S : Nat → Prop) (b : Nat) (R : Bs) (w : World) (m : Nat) (hm : m ≤ R.length) (hB : R.length ≤ 1000000000) (h : Rd S b R w) :
    Calls Try.prog 21 #[ptr b, .int .i64 (m : Int)] w fun e w' => (∃ v, e = .returned v) ∧ Rd S b (R.drop m) w' ∧ Tr (· = b) w w' := by
  by_cases e : m = R.length
  · subst e
    rw [List.drop_length]
    exact take_all S b R w h
  · exact take_some S b R w m (by omega) hB h
end Go.Proofs.Ytnhjbhmhloeaeaa
