/-
  The plain mathematics of names: labels one behind the other, each behind its length; nothing of the program is imported.
-/
namespace Go.Proofs.Ytjoplnkagfkffaa
abbrev Bs := List UInt8
/-- How long the whole label is that bytes begin with; 0: there is none. -/
def step : Bs → Nat
  | [] => 0
  | c :: r => if c.toNat ≤ 63 ∧ c.toNat ≤ r.length then c.toNat else 0
/-- A label behind its length. -/
def enc1 (x : Bs) : Bs := UInt8.ofNat x.length :: x
def enc (ls : List Bs) : Bs := ls.flatMap enc1
def OkL (x : Bs) : Prop := 1 ≤ x.length ∧ x.length ≤ 63
instance (x : Bs) : Decidable (OkL x) := by unfold OkL; infer_instance
def labsF : Nat → Bs → List Bs
  | 0, _ => []
  | f + 1, l => if step l = 0 then [] else (l.drop 1).take (step l) :: labsF f (l.drop (1 + step l))
def restF : Nat → Bs → Bs
  | 0, l => l
  | f + 1, l => if step l = 0 then l else restF f (l.drop (1 + step l))
/-- The labels that bytes begin with. -/
def labs (l : Bs) : List Bs := labsF l.length l
/-- What stands behind them. -/
def rest (l : Bs) : Bs := restF l.length l
theorem step_le63 (l : Bs) : step l ≤ 63 := by
  cases l with
  | nil => simp [step]
  | cons c r => simp only [step]; split <;> omega
theorem step_lt (l : Bs) (h : step l ≠ 0) : 1 + step l ≤ l.length := by
  cases l with
  | nil => simp [step] at h
  | cons c r =>
    simp only [step] at h ⊢
    split at h
    · simp only [List.length_cons]; split <;> omega
    · omega
theorem step_head (l : Bs) (h : step l ≠ 0) : l = enc1 ((l.drop 1).take (step l)) ++ l.drop (1 + step l) := by
  cases l with
  | nil => simp [step] at h
  | cons c r =>
    have hs : step (c :: r) = c.toNat ∧ c.toNat ≤ 63 ∧ c.toNat ≤ r.length := by
      simp only [step] at h ⊢
      split at h
      · rename_i hc; rw [if_pos hc]; exact ⟨rfl, hc⟩
      · omega
    obtain ⟨e, h1, h2⟩ := hs
    rw [e, Nat.add_comm 1]
    simp only [List.drop_succ_cons, List.drop_zero, enc1, List.cons_append, List.length_take, Nat.min_eq_left h2, List.take_append_drop]
    congr 1
    apply UInt8.toNat_inj.1
    simp
theorem step_enc1 (x r : Bs) (h : OkL x) : step (enc1 x ++ r) = x.length := by
  obtain ⟨h1, h2⟩ := h
  have e : (UInt8.ofNat x.length).toNat = x.length := by simp; omega
  simp only [enc1, List.cons_append, step, e, List.length_append]
  rw [if_pos (by omega)]
theorem split_F (f : Nat) : ∀ l : Bs, l.length ≤ f → enc (labsF f l) ++ restF f l = l ∧ (∀ x ∈ labsF f l, OkL x) ∧ step (restF f l) = 0 := by
  induction f with
  | zero =>
    intro l hl
    obtain rfl : l = [] := List.length_eq_zero_iff.1 (by omega)
    simp [labsF, restF, enc, step]
  | succ f ih =>
    intro l hl
    simp only [labsF, restF]
    by_cases h : step l = 0
    · simp [h, enc]
    · simp only [if_neg h]
      have h1 := step_lt l h
      obtain ⟨i1, i2, i3⟩ := ih (l.drop (1 + step l)) (by simp; omega)
      refine ⟨?_, ?_, i3⟩
      · conv => rhs; rw [step_head l h]
        simp only [enc, List.flatMap_cons, List.append_assoc] at i1 ⊢
        rw [i1]
      · intro x hx
        rcases List.mem_cons.1 hx with rfl | hx
        · have := step_le63 l
          have e : ((l.drop 1).take (step l)).length = step l := by simp; omega
          exact ⟨by rw [e]; omega, by rw [e]; omega⟩
        · exact i2 x hx
theorem split (l : Bs) : enc (labs l) ++ rest l = l := (split_F l.length l (Nat.le_refl _)).1
theorem labs_ok (l : Bs) : ∀ x ∈ labs l, OkL x := (split_F l.length l (Nat.le_refl _)).2.1
theorem rest_step (l : Bs) : step (rest l) = 0 := (split_F l.length l (Nat.le_refl _)).2.2
theorem join_F (f : Nat) : ∀ (ls : List Bs) (r : Bs), (∀ x ∈ ls, OkL x) → step r = 0 → (enc ls ++ r).length ≤ f → labsF f (enc ls ++ r) = ls ∧ restF f (enc ls ++ r) = r := by
  induction f with
  | zero =>
    intro ls r h1 h2 h3
    have e : enc ls ++ r = [] := List.length_eq_zero_iff.1 (by omega)
    rw [e]
    obtain ⟨e1, rfl⟩ := List.append_eq_nil_iff.1 e
    cases ls with
    | nil => exact ⟨rfl, rfl⟩
    | cons x ls => simp [enc, enc1] at e1
  | succ f ih =>
    intro ls r h1 h2 h3
    simp only [labsF, restF]
    cases ls with
    | nil => simp [enc, h2]
    | cons x ls =>
      have hx := h1 x (by simp)
      have e : enc (x :: ls) ++ r = enc1 x ++ (enc ls ++ r) := by simp [enc]
      rw [e] at h3 ⊢
      rw [step_enc1 x _ hx]
      have hx1 := hx.1
      rw [if_neg (by omega), if_neg (by omega)]
      have d1 : (enc1 x ++ (enc ls ++ r)).drop (1 + x.length) = enc ls ++ r := by
        rw [Nat.add_comm]; simp [enc1]
      have d2 : ((enc1 x ++ (enc ls ++ r)).drop 1).take x.length = x := by simp [enc1]
      rw [d1, d2]
      obtain ⟨i1, i2⟩ := ih ls r (fun y hy => h1 y (by simp [hy])) h2 (by simp [enc1] at h3 ⊢; omega)
      rw [i1, i2]
      exact ⟨rfl, rfl⟩
theorem labs_join (ls : List Bs) (r : Bs) (h1 : ∀ x ∈ ls, OkL x) (h2 : step r = 0) : labs (enc ls ++ r) = ls := (join_F _ ls r h1 h2 (Nat.le_refl _)).1
theorem rest_join (ls : List Bs) (r : Bs) (h1 : ∀ x ∈ ls, OkL x) (h2 : step r = 0) : rest (enc ls ++ r) = r := (join_F _ ls r h1 h2 (Nat.le_refl _)).2
theorem enc_append (a b : List Bs) : enc (a ++ b) = enc a ++ enc b := by simp [enc]
theorem enc_cons (x : Bs) (b : List Bs) : enc (x :: b) = enc1 x ++ enc b := by simp [enc]
theorem enc1_length (x : Bs) : (enc1 x).length = x.length + 1 := by simp [enc1]
theorem enc_snoc_length (a : List Bs) (x : Bs) : (enc (a ++ [x])).length = (enc a).length + 1 + x.length := by
  rw [enc_append, enc_cons, List.length_append, List.length_append, enc1_length]; simp [enc]; omega
theorem length_le_enc (ls : List Bs) : ls.length ≤ (enc ls).length := by
  induction ls with
  | nil => simp
  | cons x ls ih => rw [enc_cons, List.length_append, enc1_length]; simp; omega
/-- A name, of whatever length. -/
def IsN (l : Bs) : Prop := rest l = [0]
instance (l : Bs) : Decidable (IsN l) := by unfold IsN; infer_instance
/-- What Check answers. -/
def chk (l : Bs) : Int := if rest l = [0] then (if 255 < l.length then 11 else 0) else 10
theorem chk_zero {l : Bs} : chk l = 0 ↔ rest l = [0] ∧ l.length ≤ 255 := by
  unfold chk
  by_cases h : rest l = [0]
  · rw [if_pos h]; by_cases h2 : 255 < l.length
    · rw [if_pos h2]; omega
    · rw [if_neg h2]; simp [h]; omega
  · rw [if_neg h]; simp [h]
end Go.Proofs.Ytjoplnkagfkffaa
