/-
  The tests ahead of a step: power, names, what else is asked, and the step itself.
-/
import Derived.Test.YtpiiknbjllgaoaaPut
namespace Go.Proofs.Ytpiiknbjllgaoaa
open Go.RowKit Go.Maps
def preE (d : Dk) (E : Int) : Int := if d.off then 14 else if E ≠ 0 then E else if stopsD d then 14 else 0
def preD (d : Dk) (E : Int) : Dk := if d.off then d else if E ≠ 0 then d else if stopsD d then offD d else stepD d
theorem enters {N : Nat} {fn : Func} (h : Try.prog.funcs[N]? = some fn) (h1 : (fn.name == "runtime.NumGoroutine") = false) (h2 : fn.body.isNone = false) (args : Array Value) (w : World) : (callFunc N args).run Try.prog w = .ok (.enter N args) w := by
  simp [callFunc, h, go_sem]
  have e1 : ¬ fn.name = "runtime.NumGoroutine" := by simpa using h1
  have e2 : ¬ fn.body = none := by intro e; rw [e] at h2; cases h2
  rw [if_neg e1, if_neg e2]
theorem ent26 (args : Array Value) (w : World) : (callFunc 57 args).run Try.prog w = .ok (.enter 57 args) w := enters Try.func57 (by kernel_rfl) (by kernel_rfl) args w
theorem ent29 (args : Array Value) (w : World) : (callFunc 61 args).run Try.prog w = .ok (.enter 61 args) w := enters Try.func61 (by kernel_rfl) (by kernel_rfl) args w
theorem ent38 (args : Array Value) (w : World) : (callFunc 76 args).run Try.prog w = .ok (.enter 76 args) w := enters Try.func76 (by kernel_rfl) (by kernel_rfl) args w
theorem ent39 (args : Array Value) (w : World) : (callFunc 83 args).run Try.prog w = .ok (.enter 83 args) w := enters Try.func83 (by kernel_rfl) (by kernel_rfl) args w
theorem ent40 (args : Array Value) (w : World) : (callFunc 77 args).run Try.prog w = .ok (.enter 77 args) w := enters Try.func77 (by kernel_rfl) (by kernel_rfl) args w
abbrev tPow (b : Nat) : Tst := ⟨57, #[ptr b], #[]⟩
abbrev tNam (C : Nat) : Tst := ⟨76, #[], #[ptr C]⟩
abbrev tCnt (b : Nat) : Tst := ⟨61, #[ptr b], #[]⟩
/-- What must stand ready where the tests are made: names that are names. -/
structure Nm (C : Nat) (w : World) : Prop where
  at_ : ∃ (N : Nat → ByteArray) (g n cap : Nat), n ≤ 10 ∧ w.cell? ⟨C, 0, none⟩ = some (.slice (some ⟨g, 0, none⟩) n cap) ∧ ∀ k, k < n → Gn (N k) ∧ w.cell? ⟨g, k, none⟩ = some (.string (N k))
theorem Nm.below {C : Nat} {w w' : World} (h : Nm C w) (hb : Below w.heap.size w w') : Nm C w' := by
  obtain ⟨N, g, n, cap, hn, hc, hk⟩ := h.at_
  exact ⟨N, g, n, cap, hn, (hb.cell (w.block_lt_of_cell? _ hc)).trans hc, fun k hk' => ⟨(hk k hk').1, (hb.cell (w.block_lt_of_cell? _ (hk k hk').2)).trans (hk k hk').2⟩⟩
theorem Nm.calls {C : Nat} {w : World} (h : Nm C w) : Calls Try.prog 76 #[ptr C] w fun e w' => e = .returned (.int .i64 0) ∧ w = w' := by
  obtain ⟨N, g, n, cap, hn, hc, hk⟩ := h.at_
  exact namedf_any N C g n cap w hn hc hk
section
variable {S : Nat → Prop} {b : Nat} {d : Dk} {w : World}
theorem pre4 (h : PD S b d w) (h1 : d.steps ≤ 1000000000) (h2 : d.left ≤ mostL) (C : Nat) (hC : Nm C w) (mid : Tst) (E : Int) (hmN : ∀ args w, (callFunc mid.N args).run Try.prog w = .ok (.enter mid.N args) w)
    (hmid : ∀ w1, Below w.heap.size w w1 → Calls Try.prog mid.N (mid.fs ++ mid.cs) w1 fun e w2 => e = .returned (.int .i64 E) ∧ Below w1.heap.size w1 w2) (g : Nat)
    (hg0 : w.cell? ⟨g, 0, none⟩ = some (tPow b).val) (hg1 : w.cell? ⟨g, 1, none⟩ = some (tNam C).val) (hg2 : w.cell? ⟨g, 2, none⟩ = some mid.val) (hg3 : w.cell? ⟨g, 3, none⟩ = some (tCnt b).val) :
    Calls Try.prog 56 #[.slice (some ⟨g, 0, none⟩) 4 4] w fun e w' => e = .returned (.int .i64 (preE d E)) ∧ PD S b (preD d E) w' ∧ Tr (fun j => j = b) w w' := by
  have pd : ∀ w1, Below w.heap.size w w1 → PD S b d w1 := fun w1 hb => h.below hb
  refine (first_any [tPow b, tNam C, mid, tCnt b] g 4 rfl (by decide) w
    (fun k w1 => (k < 4 ∧ Below w.heap.size w w1 ∧ (1 ≤ k → d.off = false) ∧ (3 ≤ k → E = 0)) ∨ (k = 4 ∧ PD S b (stepD d) w1 ∧ Tr (fun j => j = b) w w1 ∧ d.off = false ∧ E = 0 ∧ stopsD d = false))
    (fun z w1 => z = preE d E ∧ PD S b (preD d E) w1 ∧ Tr (fun j => j = b) w w1) ?_ ?_ ?_ (.inl ⟨by decide, Below.refl _ _, (fun h => by omega), (fun h => by omega)⟩)).mono ?_
  · intro k t w1 ht hK
    have hb : Below w.heap.size w w1 := by
      rcases hK with hK | ⟨rfl, _⟩
      · exact hK.2.1
      · cases ht
    have mv : ∀ {p : Addr} {v : Value}, w.cell? p = some v → w1.cell? p = some v := fun hp => (hb.cell (w.block_lt_of_cell? _ hp)).trans hp
    match k, ht with
    | 0, ht => cases ht; exact mv hg0
    | 1, ht => cases ht; exact mv hg1
    | 2, ht => cases ht; exact mv hg2
    | 3, ht => cases ht; exact mv hg3
  · intro k t ht
    match k, ht with
    | 0, ht => cases ht; exact ent26
    | 1, ht => cases ht; exact ent38
    | 2, ht => cases ht; exact hmN
    | 3, ht => cases ht; exact ent29
  · intro k t w1 ht hK
    rcases hK with ⟨hk, hb, ho, hE⟩ | ⟨rfl, _⟩
    · have htr := Tr.of_below (S := fun j => j = b) hb
      match k, ht with
      | 0, ht =>
        cases ht
        refine (power_any (pd w1 hb)).mono ?_
        rintro e w2 ⟨rfl, rfl⟩
        cases hoff : d.off with
        | false => exact .inl ⟨rfl, .inl ⟨by decide, hb, fun _ => rfl, fun h => by omega⟩⟩
        | true =>
          refine .inr ⟨14, by decide, rfl, ?_, ?_, htr⟩
          · simp [preE, hoff]
          · rw [show preD d E = d by simp [preD, hoff]]; exact pd w1 hb
      | 1, ht =>
        cases ht
        refine ((hC.below hb).calls).mono ?_
        rintro e w2 ⟨rfl, rfl⟩
        exact .inl ⟨rfl, .inl ⟨by decide, hb, fun _ => ho (by decide), fun h => by omega⟩⟩
      | 2, ht =>
        cases ht
        refine (hmid w1 hb).mono ?_
        rintro e w2 ⟨rfl, hb2⟩
        have hb3 := hb.trans (hb2.mono hb.size)
        by_cases hz : E = 0
        · exact .inl ⟨by rw [hz], .inl ⟨by decide, hb3, fun _ => ho (by decide), fun _ => hz⟩⟩
        · have hoff := ho (by decide)
          refine .inr ⟨E, hz, rfl, ?_, ?_, Tr.of_below hb3⟩
          · simp [preE, hoff, hz]
          · rw [show preD d E = d by simp [preD, hoff, hz]]; exact pd w2 hb3
      | 3, ht =>
        cases ht
        have hoff := ho (by decide)
        have hz := hE (by decide)
        cases hs : stopsD d with
        | false =>
          refine (count_yes (pd w1 hb) hs h1 h2).mono ?_
          rintro e w2 ⟨rfl, hp, ht⟩
          exact .inl ⟨rfl, .inr ⟨rfl, hp, htr.then ht, hoff, hz, rfl⟩⟩
        | true =>
          refine (count_no (pd w1 hb) hs).mono ?_
          rintro e w2 ⟨rfl, hp, ht⟩
          refine .inr ⟨14, by decide, rfl, ?_, ?_, htr.then ht⟩
          · simp [preE, hoff, hz, hs]
          · rw [show preD d E = offD d by simp [preD, hoff, hz, hs]]; exact hp
    · cases ht
  · rintro e w' (⟨rfl, hK⟩ | ⟨z, _, rfl, rfl, hp, ht⟩)
    · rcases hK with ⟨hk, _⟩ | ⟨_, hp, ht, hoff, hz, hs⟩
      · omega
      · refine ⟨by simp [preE, hoff, hz, hs], ?_, ht⟩
        rw [show preD d E = stepD d by simp [preD, hoff, hz, hs]]
        exact hp
    · exact ⟨rfl, hp, ht⟩
theorem pre3 (h : PD S b d w) (C : Nat) (hC : Nm C w) (mid : Tst) (E : Int) (hmN : ∀ args w, (callFunc mid.N args).run Try.prog w = .ok (.enter mid.N args) w)
    (hmid : ∀ w1, Below w.heap.size w w1 → Calls Try.prog mid.N (mid.fs ++ mid.cs) w1 fun e w2 => e = .returned (.int .i64 E) ∧ Below w1.heap.size w1 w2) (g : Nat)
    (hg0 : w.cell? ⟨g, 0, none⟩ = some (tPow b).val) (hg1 : w.cell? ⟨g, 1, none⟩ = some (tNam C).val) (hg2 : w.cell? ⟨g, 2, none⟩ = some mid.val) :
    Calls Try.prog 56 #[.slice (some ⟨g, 0, none⟩) 3 3] w fun e w' => e = .returned (.int .i64 (if d.off then 14 else E)) ∧ Below w.heap.size w w' := by
  have pd : ∀ w1, Below w.heap.size w w1 → PD S b d w1 := fun w1 hb => h.below hb
  refine (first_any [tPow b, tNam C, mid] g 3 rfl (by decide) w
    (fun k w1 => Below w.heap.size w w1 ∧ (1 ≤ k → d.off = false) ∧ (3 ≤ k → E = 0))
    (fun z w1 => z = (if d.off then 14 else E) ∧ Below w.heap.size w w1) ?_ ?_ ?_ ⟨Below.refl _ _, (fun h => by omega), (fun h => by omega)⟩).mono ?_
  · intro k t w1 ht hK
    have hb := hK.1
    have mv : ∀ {p : Addr} {v : Value}, w.cell? p = some v → w1.cell? p = some v := fun hp => (hb.cell (w.block_lt_of_cell? _ hp)).trans hp
    match k, ht with
    | 0, ht => cases ht; exact mv hg0
    | 1, ht => cases ht; exact mv hg1
    | 2, ht => cases ht; exact mv hg2
  · intro k t ht
    match k, ht with
    | 0, ht => cases ht; exact ent26
    | 1, ht => cases ht; exact ent38
    | 2, ht => cases ht; exact hmN
  · intro k t w1 ht hK
    obtain ⟨hb, ho, hE⟩ := hK
    match k, ht with
    | 0, ht =>
      cases ht
      refine (power_any (pd w1 hb)).mono ?_
      rintro e w2 ⟨rfl, rfl⟩
      cases hoff : d.off with
      | false => exact .inl ⟨rfl, hb, fun _ => rfl, fun h => by omega⟩
      | true => exact .inr ⟨14, by decide, rfl, by simp, hb⟩
    | 1, ht =>
      cases ht
      refine ((hC.below hb).calls).mono ?_
      rintro e w2 ⟨rfl, rfl⟩
      exact .inl ⟨rfl, hb, fun _ => ho (by decide), fun h => by omega⟩
    | 2, ht =>
      cases ht
      refine (hmid w1 hb).mono ?_
      rintro e w2 ⟨rfl, hb2⟩
      have hb3 := hb.trans (hb2.mono hb.size)
      by_cases hz : E = 0
      · exact .inl ⟨by rw [hz], hb3, fun _ => ho (by decide), fun _ => hz⟩
      · exact .inr ⟨E, hz, rfl, by simp [ho (by decide)], hb3⟩
  · rintro e w' (⟨rfl, hK⟩ | ⟨z, _, rfl, rfl, hb⟩)
    · exact ⟨by simp [hK.2.1 (by decide), hK.2.2 (by decide)], hK.1⟩
    · exact ⟨rfl, hb⟩
/-- Of no disk the first test fails. -/
theorem pre_nil (F : List Tst) (n : Nat) (hn : n = F.length + 1) (hB : n ≤ 10) (g : Nat) (hg0 : w.cell? ⟨g, 0, none⟩ = some (.func (.func 57) #[nop] #[])) (hN : ∀ t ∈ F, ∀ args w, (callFunc t.N args).run Try.prog w = .ok (.enter t.N args) w) :
    Calls Try.prog 56 #[.slice (some ⟨g, 0, none⟩) n n] w fun e w' => e = .returned (.int .i64 14) ∧ w = w' := by
  refine (first_any (⟨57, #[nop], #[]⟩ :: F) g n (by rw [hn]; rfl) hB w (fun k w1 => k = 0 ∧ w = w1) (fun z w1 => z = 14 ∧ w = w1) ?_ ?_ ?_ ⟨rfl, rfl⟩).mono ?_
  · rintro k t w1 ht ⟨rfl, rfl⟩
    cases ht
    exact hg0
  · intro k t ht
    match k, ht with
    | 0, ht => cases ht; exact ent26
    | k + 1, ht => exact hN t (List.mem_of_getElem? ht)
  · rintro k t w1 ht ⟨rfl, rfl⟩
    cases ht
    refine (power_nil w).mono ?_
    rintro e w2 ⟨rfl, rfl⟩
    exact .inr ⟨14, by decide, rfl, rfl, rfl⟩
  · rintro e w' (⟨rfl, hK⟩ | ⟨z, _, rfl, rfl, hb⟩)
    · have := hK.1; omega
    · exact ⟨rfl, hb⟩
end
end Go.Proofs.Ytpiiknbjllgaoaa
