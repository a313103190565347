/-
  Names stand in one order: plain mathematics.
-/
import Derived.Test.YtpeojicimmofjaaRLess
namespace Go.Proofs.Ytpeojicimmofjaa
open Go.RowKit
theorem bl_irrefl (x : Bs) : Op.bytesLess x x = false := by
  induction x with
  | nil => rfl
  | cons a x ih => simp [Op.bytesLess, ih]
theorem bl_tri (x : Bs) : ∀ y, Op.bytesLess x y = true ∨ x = y ∨ Op.bytesLess y x = true := by
  induction x with
  | nil =>
    intro y
    cases y with
    | nil => exact .inr (.inl rfl)
    | cons b y => exact .inl rfl
  | cons a x ih =>
    intro y
    cases y with
    | nil => exact .inr (.inr rfl)
    | cons b y =>
      simp only [Op.bytesLess, Bool.or_eq_true, Bool.and_eq_true, decide_eq_true_eq, beq_iff_eq, List.cons.injEq]
      rcases Nat.lt_trichotomy a.toNat b.toNat with h | h | h
      · exact .inl (.inl (UInt8.lt_iff_toNat_lt.2 h))
      · obtain rfl : a = b := UInt8.toNat_inj.1 h
        rcases ih y with h1 | h1 | h1
        · exact .inl (.inr ⟨rfl, h1⟩)
        · exact .inr (.inl ⟨rfl, h1⟩)
        · exact .inr (.inr (.inr ⟨rfl, h1⟩))
      · exact .inr (.inr (.inl (UInt8.lt_iff_toNat_lt.2 h)))
theorem bl_trans (x : Bs) : ∀ y z, Op.bytesLess x y = true → Op.bytesLess y z = true → Op.bytesLess x z = true := by
  induction x with
  | nil =>
    intro y z h1 h2
    cases z with
    | nil => cases y <;> simp [Op.bytesLess] at h2
    | cons c z => rfl
  | cons a x ih =>
    intro y z h1 h2
    cases y with
    | nil => simp [Op.bytesLess] at h1
    | cons b y =>
      cases z with
      | nil => simp [Op.bytesLess] at h2
      | cons c z =>
        simp only [Op.bytesLess, Bool.or_eq_true, Bool.and_eq_true, decide_eq_true_eq, beq_iff_eq] at h1 h2 ⊢
        rcases h1 with h1 | ⟨rfl, h1⟩
        · rcases h2 with h2 | ⟨rfl, h2⟩
          · exact .inl (UInt8.lt_trans h1 h2)
          · exact .inl h1
        · rcases h2 with h2 | ⟨rfl, h2⟩
          · exact .inl h2
          · exact .inr ⟨rfl, ih y z h1 h2⟩
def lxl : List Bs → List Bs → Bool
  | _, [] => false
  | [], _ :: _ => true
  | x :: a, y :: b => if x = y then lxl a b else Op.bytesLess x y
theorem lxl_irrefl (a : List Bs) : lxl a a = false := by
  induction a with
  | nil => rfl
  | cons x a ih => simp only [lxl, if_pos, ih]
theorem lxl_tri (a : List Bs) : ∀ b, lxl a b = true ∨ a = b ∨ lxl b a = true := by
  induction a with
  | nil =>
    intro b
    cases b with
    | nil => exact .inr (.inl rfl)
    | cons y b => exact .inl rfl
  | cons x a ih =>
    intro b
    cases b with
    | nil => exact .inr (.inr rfl)
    | cons y b =>
      by_cases h : x = y
      · subst h
        simp only [lxl, if_pos, List.cons.injEq, true_and]
        exact ih b
      · simp only [lxl, if_neg h, if_neg (Ne.symm h)]
        rcases bl_tri x y with h1 | h1 | h1
        · exact .inl h1
        · exact absurd h1 h
        · exact .inr (.inr h1)
theorem lxl_trans (a : List Bs) : ∀ b c, lxl a b = true → lxl b c = true → lxl a c = true := by
  induction a with
  | nil =>
    intro b c h1 h2
    cases c with
    | nil => cases b <;> simp [lxl] at h2
    | cons z c => rfl
  | cons x a ih =>
    intro b c h1 h2
    cases b with
    | nil => simp [lxl] at h1
    | cons y b =>
      cases c with
      | nil => simp [lxl] at h2
      | cons z c =>
        simp only [lxl] at h1 h2 ⊢
        by_cases e1 : x = y
        · subst e1
          rw [if_pos rfl] at h1
          by_cases e2 : x = z
          · subst e2
            rw [if_pos rfl] at h2 ⊢
            exact ih b c h1 h2
          · rw [if_neg e2] at h2 ⊢
            exact h2
        · rw [if_neg e1] at h1
          by_cases e2 : y = z
          · subst e2
            rw [if_neg e1]
            exact h1
          · rw [if_neg e2] at h2
            have h3 := bl_trans x y z h1 h2
            by_cases e3 : x = z
            · subst e3
              rw [bl_irrefl] at h3
              cases h3
            · rw [if_neg e3]; exact h3
theorem lxl_asymm {a b : List Bs} (h : lxl a b = true) : lxl b a = false := by
  cases h2 : lxl b a with
  | false => rfl
  | true =>
    have := lxl_trans a b a h h2
    rw [lxl_irrefl] at this
    cases this
theorem lxl_cpl (a : List Bs) : ∀ b, (∀ x ∈ a, x ≠ []) → (∀ x ∈ b, x ≠ []) → Op.bytesLess (a.getD (cpl a b) []) (b.getD (cpl a b) []) = lxl a b := by
  induction a with
  | nil =>
    intro b h1 h2
    cases b with
    | nil => rfl
    | cons y b =>
      have := h2 y (by simp)
      show Op.bytesLess [] y = true
      rw [bl_nil]
      cases y with
      | nil => exact absurd rfl this
      | cons _ _ => rfl
  | cons x a ih =>
    intro b h1 h2
    cases b with
    | nil => exact bl_end _
    | cons y b =>
      by_cases e : x = y
      · subst e
        simp only [cpl, lxl, if_pos]
        simpa using ih b (fun z hz => h1 z (by simp [hz])) (fun z hz => h2 z (by simp [hz]))
      · simp only [cpl, lxl, if_neg e]
        rfl
theorem lxl_prefix (b : List Bs) : ∀ a, cpl a b = b.length → a = b ∨ lxl b a = true := by
  induction b with
  | nil =>
    intro a h
    cases a with
    | nil => exact .inl rfl
    | cons x a => exact .inr rfl
  | cons y b ih =>
    intro a h
    cases a with
    | nil => simp [cpl] at h
    | cons x a =>
      simp only [cpl] at h
      by_cases e : x = y
      · subst e
        rw [if_pos rfl] at h
        simp only [lxl, if_pos, List.cons.injEq, true_and]
        exact ih a (by simpa using h)
      · rw [if_neg e] at h
        simp at h
/-- The lower-case labels from the last one on. -/
def lr (l : Bs) : List Bs := (labs (low l)).reverse
theorem lr_ne (l : Bs) : ∀ x ∈ lr l, x ≠ [] := by
  intro x hx
  have h := labs_ok (low l) x (by simpa [lr] using hx)
  intro e
  subst e
  have := h.1
  simp at this
theorem les_lxl {a b : Bs} (h1 : chk a = 0) (h2 : chk b = 0) : les a b = lxl (lr a) (lr b) := by
  rw [← les_yes ⟨h1, h2⟩, ← lxl_cpl _ _ (lr_ne a) (lr_ne b)]
  rfl
theorem sam_lr {a b : Bs} (h1 : chk a = 0) (h2 : chk b = 0) : sam a b = true ↔ lr a = lr b := by
  constructor
  · intro h
    unfold sam at h
    split at h
    · have e : low a = low b := by simpa using h
      unfold lr; rw [e]
    · cases h
  · intro h
    have h5 := List.reverse_inj.1 h
    have e : low a = low b := by rw [name_low h1, name_low h2, h5]
    unfold sam
    rw [if_pos ⟨by rw [← low_length a, ← low_length b, e], h1, h2⟩]
    simpa using e
theorem ord_tri {a b : Bs} (h1 : chk a = 0) (h2 : chk b = 0) : (les a b = true ∧ les b a = false ∧ sam a b = false) ∨ (les a b = false ∧ les b a = true ∧ sam a b = false) ∨ (les a b = false ∧ les b a = false ∧ sam a b = true) := by
  rw [les_lxl h1 h2, les_lxl h2 h1]
  have hs := sam_lr h1 h2
  rcases lxl_tri (lr a) (lr b) with h | h | h
  · refine .inl ⟨h, lxl_asymm h, ?_⟩
    cases e : sam a b with
    | false => rfl
    | true => rw [hs.1 e, lxl_irrefl] at h; cases h
  · refine .inr (.inr ⟨by rw [h, lxl_irrefl], by rw [h, lxl_irrefl], hs.2 h⟩)
  · refine .inr (.inl ⟨lxl_asymm h, h, ?_⟩)
    cases e : sam a b with
    | false => rfl
    | true => rw [hs.1 e, lxl_irrefl] at h; cases h
theorem ord_trans {a b c : Bs} (h1 : chk a = 0) (h2 : chk b = 0) (h3 : chk c = 0) (h4 : les a b = true) (h5 : les b c = true) : les a c = true := by
  rw [les_lxl h1 h2] at h4
  rw [les_lxl h2 h3] at h5
  rw [les_lxl h1 h3]
  exact lxl_trans _ _ _ h4 h5
theorem ord_zone {a b : Bs} (h1 : chk a = 0) (h2 : chk b = 0) (h3 : und a b = true) : sam a b = true ∨ les b a = true := by
  rw [← und_cm h1 h2] at h3
  have h4 : cm a b = (labs b).length := by simp at h3; omega
  have h5 : cpl (lr a) (lr b) = (lr b).length := by
    show cm a b = _
    rw [h4]; unfold lr; rw [List.length_reverse, labs_low, List.length_map]
  rcases lxl_prefix (lr b) (lr a) h5 with h | h
  · exact .inl ((sam_lr h1 h2).2 h)
  · right; rw [les_lxl h2 h1]; exact h
theorem lowB_low (b : UInt8) : lowB (lowB b) = lowB b := by
  by_cases h : 65 ≤ b.toNat ∧ b.toNat ≤ 90
  · have e : (lowB b).toNat = b.toNat + 32 := by unfold lowB; rw [if_pos h, UInt8.toNat_add]; simp; omega
    generalize lowB b = c at e ⊢
    unfold lowB
    rw [if_neg (by omega)]
  · have e : lowB b = b := by unfold lowB; rw [if_neg h]
    rw [e, e]
theorem low_low (l : Bs) : low (low l) = low l := by
  unfold low
  rw [List.map_map]
  apply List.map_congr_left
  intro b _
  exact lowB_low b
theorem chk_low {l : Bs} (h : chk l = 0) : chk (low l) = 0 := by
  obtain ⟨h1, h2⟩ := chk_zero.1 h
  rw [chk_zero, rest_low, h1, low_length]
  exact ⟨by decide, h2⟩
theorem sam_low {l : Bs} (h : chk l = 0) : sam l (low l) = true := by
  rw [sam_lr h (chk_low h)]
  unfold lr; rw [low_low]
theorem les_low {a b : Bs} (h : chk a = 0) (h2 : chk b = 0) : les (low a) b = les a b := by
  rw [les_lxl (chk_low h) h2, les_lxl h h2]
  unfold lr; rw [low_low]
end Go.Proofs.Ytpeojicimmofjaa
