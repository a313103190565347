/-
  A log's disk that nothing stops and that has room: what every change of the log answers and leaves there; a list from a place on.
-/
import Derived.Test.YtpiiknbjllgaoaaWInv
import Derived.Test.YtpiiknbjllgaoaaWLists
namespace Go.Proofs.Ytpiiknbjllgaoaa
open Go.RowKit
/-- Nothing stops it; so many steps and bytes at most were spent. -/
structure Nic (x : Ld) (k u : Nat) : Prop where
  off : x.off = false
  sch : x.sch = false
  nw : x.nw = none
  rm : x.room = 100000
  lf : x.left ≤ mostL
  st : x.steps ≤ k
  us : (x.byt false).length ≤ u
theorem crD_le (R : Bs) (t : Nat) (ps : List Int) : (crD ⟨walN, R, t⟩ ps).length ≤ R.length := by
  unfold crD
  simp only
  split
  · rw [flip_length, List.length_take]; omega
  · rw [List.length_take]; omega
section
variable {x : Ld} {k u : Nat}
theorem Nic.okn (h : Nic x k u) (n m : Nat) (hk : k + n ≤ 1000000000) (hu : u + m ≤ 900000000) : x.Okn n m := by
  have h1 := h.st; have h2 := h.us
  have h3 : x.used = (x.byt false).length := by
    unfold Ld.used
    have : x.byt true = [] := by unfold Ld.byt; rw [show x.get true = x.nw from rfl, h.nw]
    rw [this]; rfl
  exact ⟨by omega, h.lf, by omega, by rw [h.rm]; omega⟩
theorem Nic.used (h : Nic x k u) : x.used ≤ u := by
  have h2 := h.us
  have h3 : x.used = (x.byt false).length := by
    unfold Ld.used
    have : x.byt true = [] := by unfold Ld.byt; rw [show x.get true = x.nw from rfl, h.nw]
    rw [this]; rfl
  omega
theorem Nic.E (h : Nic x k u) (e : Int) : x.E e = e := by
  unfold Ld.E Ld.stops
  rw [h.off, h.sch]
  simp only [Bool.false_eq_true, if_false, Bool.false_and]
  split <;> simp_all
theorem Nic.weak (h : Nic x k u) {k' u' : Nat} (hk : k ≤ k') (hu : u ≤ u') : Nic x k' u' := ⟨h.off, h.sch, h.nw, h.rm, h.lf, Nat.le_trans h.st hk, Nat.le_trans h.us hu⟩
theorem Nic.put (h : Nic x k u) (R : Bs) (t u' : Nat) (hR : R.length ≤ u') : Nic (x.step.set false (some (R, t))) (k + 1) u' := by
  refine ⟨h.off, h.sch, h.nw, h.rm, ?_, Nat.succ_le_succ h.st, hR⟩
  show (if x.sch then x.left - 1 else x.left) ≤ mostL
  rw [h.sch]; exact h.lf
theorem Nic.app (h : Nic x k u) (L : List Bs) (hr : u + (rcsB L).length ≤ 100000) : apE x L = 0 ∧ Nic (apX x L) (k + 1) (u + (rcsB L).length) := by
  unfold apE apX
  by_cases hL : L = []
  · rw [if_pos hL, if_pos hL]
    exact ⟨rfl, h.weak (by omega) (by omega)⟩
  · rw [if_neg hL, if_neg hL, h.E]
    have hu := h.used
    have hf : x.fit (rcsB L).length = 0 := if_pos (by rw [h.rm]; omega)
    refine ⟨hf, ?_⟩
    unfold Ld.app
    rw [h.E, hf, if_pos rfl]
    exact h.put _ _ _ (by rw [List.length_append]; have := h.us; omega)
theorem Nic.has (h : Nic x k u) (hs : x.lo.isSome = true) : x.E (x.has false) = 0 := by
  rw [h.E]
  exact if_pos hs
theorem Nic.synX (h : Nic x k u) (hs : x.lo.isSome = true) : Nic (x.syn false) (k + 1) u := by
  unfold Ld.syn
  rw [if_pos (h.has hs)]
  exact h.put _ _ _ h.us
theorem Nic.syn (h : Nic x k u) (c f : Nat) (hs : x.lo.isSome = true ∨ f = c) : syE x c f = 0 ∧ Nic (syX x c f) (k + 1) u := by
  unfold syE syX
  by_cases hc : f = c
  · rw [if_pos hc, if_pos hc]; exact ⟨rfl, h.weak (by omega) (Nat.le_refl _)⟩
  · rw [if_neg hc, if_neg hc]
    have hs' := hs.resolve_right hc
    exact ⟨h.has hs', h.synX hs'⟩
theorem Nic.cu (h : Nic x k u) (hs : x.lo.isSome = true) (n : Nat) : x.cuE n = 0 ∧ Nic (x.cu n) (k + 1) u ∧ (x.cu n).lo.isSome = true := by
  unfold Ld.cuE Ld.cu
  by_cases hc : n = (x.byt false).length
  · rw [if_pos hc, if_pos hc]; exact ⟨rfl, h.weak (by omega) (Nat.le_refl _), hs⟩
  · rw [if_neg hc, if_neg hc]
    refine ⟨h.E 0, ?_, ?_⟩
    · unfold Ld.cut
      rw [if_pos (h.E 0)]
      exact h.put _ _ _ (by rw [List.length_take]; have := h.us; omega)
    · unfold Ld.cut
      rw [if_pos (h.E 0)]; rfl
theorem Nic.dis (h : Nic x k u) : x.disE = 0 ∧ x.dis = x := by
  unfold Ld.disE Ld.dis
  rw [h.nw]
  exact ⟨rfl, rfl⟩
theorem Nic.opn (h : Nic x k u) : x.opE = 0 ∧ Nic x.opX (k + 2) u := by
  unfold Ld.opE Ld.opX
  by_cases hs : x.lo.isSome = true
  · rw [if_pos hs, if_pos hs]
    have hd := h.dis
    obtain ⟨c1, c2, c3⟩ := h.cu hs x.good
    have h0 : ∀ j, j < 4 → opK x j = 0 := by
      intro j hj
      match j, hj with
      | 0, _ => exact hd.1
      | 1, _ => rfl
      | 2, _ => show x.dis.cuE x.good = 0; rw [hd.2]; exact c1
      | 3, _ => show (x.dis.cu x.good).E ((x.dis.cu x.good).has false) = 0; rw [hd.2]; exact c2.has c3
    rw [(op_done x h0).1, (op_done x h0).2]
    refine ⟨rfl, ?_⟩
    show Nic ((x.dis.cu x.good).syn false) _ _
    rw [hd.2]
    exact c2.synX c3
  · rw [if_neg hs, if_neg hs, h.dis.1, h.dis.2]
    exact ⟨rfl, h.weak (by omega) (Nat.le_refl _)⟩
theorem Nic.crash (h : Nic x k u) (p q : List Int) : Nic (x.crash p q) k u := by
  refine ⟨rfl, rfl, ?_, h.rm, Nat.zero_le _, h.st, ?_⟩
  · show crO x.nw q = none
    rw [h.nw]; rfl
  · have h1 := h.us
    unfold Ld.byt at h1 ⊢
    rw [show x.get false = x.lo from rfl] at h1
    rw [show (x.crash p q).get false = crO x.lo p from rfl]
    cases hl : x.lo with
    | none => exact Nat.zero_le _
    | some r =>
      rw [hl] at h1
      refine Nat.le_trans ?_ h1
      show (crD ⟨walN, r.1, r.2⟩ p).length ≤ r.1.length
      exact crD_le r.1 r.2 p
end
theorem sl27d (g o n cap k : Nat) (hk : k ≤ n) (hn : n ≤ cap) : ∃ a', (k < n → a' = some ⟨g, o + k, none⟩) ∧ ∀ w : World, (Instr.slice 27 (.slice (some ⟨g, o, none⟩) n cap) (some (.int .i64 (k : Int))) none none).run Try.prog w = .ok (.slice a' (n - k) (cap - k)) w := by
  obtain ⟨i, hi, hz0, hz1, hz2⟩ := info_parts info9
  by_cases hc : cap = k
  · refine ⟨some ⟨g, o, none⟩, fun h => by omega, fun w => ?_⟩
    simp [Instr.slice, Instr.sliceBounds, Instr.sliceBound, run_underlying Try.underlying27, sizeOf, typeInfo, hi, asIntOf, hk, hc]
  · refine ⟨some ⟨g, o + k, none⟩, fun _ => rfl, fun w => ?_⟩
    have hc' : ¬ cap ≤ k := by omega
    by_cases hk0 : k = 0
    · subst hk0
      simp [Instr.slice, Instr.sliceBounds, Instr.sliceBound, run_underlying Try.underlying27, sizeOf, typeInfo, hi, asIntOf, Addr.add]
    · simp [Instr.slice, Instr.sliceBounds, Instr.sliceBound, run_underlying Try.underlying27, sizeOf, typeInfo, hi, asIntOf, hk, hc, hz1, hk0, Addr.add]
theorem sl27e (a : Option Addr) (cap : Nat) : ∃ a', ∀ w : World, (Instr.slice 27 (.slice a 0 cap) (some (.int .i64 (0 : Int))) none none).run Try.prog w = .ok (.slice a' 0 cap) w := by
  obtain ⟨i, hi, hz0, hz1, hz2⟩ := info_parts info9
  cases a with
  | none =>
    refine ⟨none, fun w => ?_⟩
    simp [Instr.slice, Instr.sliceBounds, Instr.sliceBound, run_underlying Try.underlying27, sizeOf, typeInfo, hi, asIntOf]
  | some ad =>
    by_cases hc : cap = 0
    · subst hc
      refine ⟨some ad, fun w => ?_⟩
      simp [Instr.slice, Instr.sliceBounds, Instr.sliceBound, run_underlying Try.underlying27, sizeOf, typeInfo, hi, asIntOf]
    · refine ⟨some ad, fun w => ?_⟩
      have e : ad.add 0 = ad := by
        obtain ⟨g, o, p⟩ := ad
        cases p <;> simp [Addr.add]
      simp [Instr.slice, Instr.sliceBounds, Instr.sliceBound, run_underlying Try.underlying27, sizeOf, typeInfo, hi, asIntOf, hc, e]
theorem RdS.drop {w : World} {v : Value} {l : List ByteArray} (h : RdS w v l) (k : Nat) (hk : k ≤ l.length) : ∃ v', (∀ w', (Instr.slice 27 v (some (.int .i64 (k : Int))) none none).run Try.prog w' = .ok v' w') ∧ RdS w v' (l.drop k) := by
  obtain ⟨a, cap, rfl, h1, h2, h3⟩ := h
  rcases h3 with rfl | ⟨g, o, rfl, hc⟩
  · obtain rfl : k = 0 := by simpa using hk
    obtain ⟨a', hr⟩ := sl27e a cap
    exact ⟨_, hr, a', cap, rfl, h1, h2, .inl rfl⟩
  · obtain ⟨a', ha', hr⟩ := sl27d g o l.length cap k hk h1
    refine ⟨_, hr, a', cap - k, by rw [List.length_drop], by rw [List.length_drop]; omega, by omega, ?_⟩
    by_cases h0 : k < l.length
    · refine .inr ⟨g, o + k, ha' h0, fun i s hs => ?_⟩
      rw [List.getElem?_drop] at hs
      rw [Nat.add_assoc]
      exact hc (k + i) s hs
    · exact .inl (List.drop_eq_nil_of_le (by omega))
end Go.Proofs.Ytpiiknbjllgaoaa
