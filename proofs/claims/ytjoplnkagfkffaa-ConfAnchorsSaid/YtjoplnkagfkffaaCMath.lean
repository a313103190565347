/-
  Configurations as mathematics: zones in zones, floors, a flush.
-/
import Derived.Test.YtjoplnkagfkffaaKit
namespace Go.Proofs.Ytjoplnkagfkffaa
/-- The labels of a name's lower-case form, from the last one on. -/
def lr (l : Bs) : List Bs := (labs (low l)).reverse
theorem lowB_low (b : UInt8) : lowB (lowB b) = lowB b := by
  by_cases h : 65 ≤ b.toNat ∧ b.toNat ≤ 90
  · have e : (lowB b).toNat = b.toNat + 32 := by unfold lowB; rw [if_pos h, UInt8.toNat_add]; simp; omega
    generalize lowB b = c at e ⊢
    unfold lowB
    rw [if_neg (by omega)]
  · have e : lowB b = b := by unfold lowB; rw [if_neg h]
    rw [e, e]
theorem low_low (l : Bs) : low (low l) = low l := by
  unfold low
  rw [List.map_map]
  apply List.map_congr_left
  intro b _
  exact lowB_low b
theorem chk_low {l : Bs} (h : chk l = 0) : chk (low l) = 0 := by
  obtain ⟨h1, h2⟩ := chk_zero.1 h
  rw [chk_zero, rest_low, h1, low_length]
  exact ⟨by decide, h2⟩
theorem lr_low (l : Bs) : lr (low l) = lr l := by unfold lr; rw [low_low]
theorem cpl_pre (a : List Bs) : ∀ b, cpl a b = b.length ↔ b <+: a := by
  intro b
  constructor
  · intro h
    have h1 := (cpl_le a b).1
    refine ⟨a.drop b.length, ?_⟩
    have e : a.take b.length = b := by
      apply List.ext_getElem
      · rw [List.length_take]; omega
      · intro i h2 h3
        have := cpl_same a b i (by omega)
        rw [List.getD_eq_getElem?_getD, List.getD_eq_getElem?_getD, List.getElem?_eq_getElem (by omega), List.getElem?_eq_getElem h3] at this
        rw [List.getElem_take]
        exact this
    calc b ++ a.drop b.length = a.take b.length ++ a.drop b.length := by rw [e]
      _ = a := List.take_append_drop _ _
  · rintro ⟨t, rfl⟩
    refine cpl_full _ _ b.length (.inr rfl) (by simp) (Nat.le_refl _) (fun j hj => ?_)
    rw [List.getD_eq_getElem?_getD, List.getD_eq_getElem?_getD, List.getElem?_append_left hj]
/-- What it is to be under a zone. -/
theorem und_iff {n z : Bs} : und n z = true ↔ chk n = 0 ∧ chk z = 0 ∧ lr z <+: lr n := by
  unfold und shr dep
  have hl : (labs z).length = (lr z).length := by unfold lr; rw [List.length_reverse, labs_low, List.length_map]
  by_cases hz : chk z = 0
  · rw [if_pos hz, if_pos hz]
    by_cases hn : chk n = 0
    · rw [if_pos ⟨hn, hz⟩, hl]
      have e : cm n z = cpl (lr n) (lr z) := rfl
      rw [e, ← cpl_pre]
      simp [hn, hz]
      try omega
    · rw [if_neg (fun h => hn h.1)]
      simp [hn]
      try omega
  · rw [if_neg hz]
    simp [hz]
theorem und_trans {a b c : Bs} (h : und a b = true) (h2 : und b c = true) : und a c = true := by
  rw [und_iff] at *
  exact ⟨h.1, h2.2.1, h2.2.2.trans h.2.2⟩
theorem und_low {n z : Bs} (hz : chk z = 0) : und n (low z) = und n z := by
  rw [Bool.eq_iff_iff, und_iff, und_iff, lr_low]
  simp [hz, chk_low hz]
theorem chk_root : chk [0] = 0 := by decide
theorem low_root : low [0] = [0] := by decide
theorem lr_root : lr [0] = [] := by decide
theorem und_root {n : Bs} (h : chk n = 0) : und n [0] = true := by
  rw [und_iff, lr_root]
  exact ⟨h, chk_root, List.nil_prefix⟩
theorem und_un {n z : Bs} (h : ¬ chk n = 0) : und n z = false := by
  cases e : und n z with
  | false => rfl
  | true => exact absurd (und_iff.1 e).1 h
/-- A flush. -/
structure Fl' where
  ep : Int
  zone : ByteArray
  deriving DecidableEq
abbrev bl (s : ByteArray) : Bs := s.data.toList
/-- The greatest one, or 0. -/
def mx : List Int → Int
  | [] => 0
  | x :: r => r.foldl max x
/-- The floor of a name. -/
def flr (L : List Fl') (n : Bs) : Int := mx ((L.filter fun f => und n (bl f.zone)).map (·.ep))
abbrev lowA (z : ByteArray) : ByteArray := ⟨(low (bl z)).toArray⟩
abbrev rootA : ByteArray := ⟨#[0]⟩
def kept (L : List Fl') (z : ByteArray) : List Fl' := L.filter fun f => !und (bl f.zone) (bl z)
/-- The flushes behind a flush. -/
def flF (ep : Int) (L : List Fl') (z : ByteArray) : List Fl' := if 32 ≤ (kept L z).length then [⟨ep + 1, rootA⟩] else kept L z ++ [⟨ep + 1, lowA z⟩]
theorem mx_foldl (r : List Int) : ∀ x, x ≤ r.foldl max x ∧ ∀ y ∈ r, y ≤ r.foldl max x := by
  induction r with
  | nil => intro x; exact ⟨Int.le_refl _, fun y hy => by cases hy⟩
  | cons z r ih =>
    intro x
    have h1 := ih (max x z)
    refine ⟨?_, fun y hy => ?_⟩
    · show x ≤ r.foldl max (max x z)
      have := h1.1; omega
    · show y ≤ r.foldl max (max x z)
      rcases List.mem_cons.1 hy with rfl | hy
      · have := h1.1; omega
      · exact h1.2 y hy
theorem foldl_le (r : List Int) : ∀ x m, x ≤ m → (∀ y ∈ r, y ≤ m) → r.foldl max x ≤ m := by
  induction r with
  | nil => intro x m h _; exact h
  | cons z r ih =>
    intro x m h hr
    exact ih (max x z) m (by have := hr z (List.mem_cons_self ..); omega) (fun y hy => hr y (List.mem_cons_of_mem _ hy))
theorem mx_le {l : List Int} {m : Int} (h0 : 0 ≤ m) (h : ∀ y ∈ l, y ≤ m) : mx l ≤ m := by
  cases l with
  | nil => exact h0
  | cons x r => exact foldl_le r x m (h x (List.mem_cons_self ..)) (fun y hy => h y (List.mem_cons_of_mem _ hy))
theorem mx_ge {l : List Int} {y : Int} (h : y ∈ l) : y ≤ mx l := by
  cases l with
  | nil => cases h
  | cons x r =>
    rcases List.mem_cons.1 h with rfl | h
    · exact (mx_foldl r y).1
    · exact (mx_foldl r x).2 y h
/-- All epochs are of the past. -/
def Past (ep : Int) (L : List Fl') : Prop := ∀ f ∈ L, f.ep ≤ ep
theorem flr_le {ep : Int} {L : List Fl'} (h0 : 0 ≤ ep) (h : Past ep L) (n : Bs) : flr L n ≤ ep :=
  mx_le h0 (fun y hy => by obtain ⟨f, hf, rfl⟩ := List.mem_map.1 hy; exact h f ((List.mem_filter.1 hf).1))
theorem flr_has {L : List Fl'} {f : Fl'} {n : Bs} (hf : f ∈ L) (hu : und n (bl f.zone) = true) : f.ep ≤ flr L n :=
  mx_ge (List.mem_map.2 ⟨f, List.mem_filter.2 ⟨hf, hu⟩, rfl⟩)
theorem past_kept {ep : Int} {L : List Fl'} (h : Past ep L) (z : ByteArray) : Past ep (kept L z) := fun f hf => h f ((List.mem_filter.1 hf).1)
theorem past_flF {ep : Int} {L : List Fl'} (h : Past ep L) (z : ByteArray) : Past (ep + 1) (flF ep L z) := by
  intro f hf
  unfold flF at hf
  split at hf
  · rw [List.mem_singleton.1 hf]; exact Int.le_refl _
  · rcases List.mem_append.1 hf with hf | hf
    · have := past_kept h z f hf; omega
    · rw [List.mem_singleton.1 hf]; exact Int.le_refl _
theorem flF_len (ep : Int) (L : List Fl') (z : ByteArray) : (flF ep L z).length ≤ 32 := by
  unfold flF
  split
  · simp
  · rw [List.length_append]; simp; omega
theorem bl_of (l : Bs) : bl ⟨l.toArray⟩ = l := by simp
theorem flF_in {ep : Int} {L : List Fl'} {z : ByteArray} {n : Bs} (h0 : 0 ≤ ep) (h : Past ep L) (hu : und n (bl z) = true) : flr (flF ep L z) n = ep + 1 := by
  have h1 := flr_le (n := n) (by omega) (past_flF h z)
  have h3 := und_iff.1 hu
  have h2 : ep + 1 ≤ flr (flF ep L z) n := by
    by_cases hk : 32 ≤ (kept L z).length
    · have e : flF ep L z = [⟨ep + 1, rootA⟩] := if_pos hk
      rw [e]
      exact flr_has (f := ⟨ep + 1, rootA⟩) (List.mem_singleton.2 rfl) (und_root h3.1)
    · have e : flF ep L z = kept L z ++ [⟨ep + 1, lowA z⟩] := if_neg hk
      rw [e]
      refine flr_has (f := ⟨ep + 1, lowA z⟩) (by simp) ?_
      show und n (bl ⟨(low (bl z)).toArray⟩) = true
      rw [bl_of, und_low h3.2.1]
      exact hu
  omega
theorem flF_out {ep : Int} {L : List Fl'} {z : ByteArray} {n : Bs} (hz : chk (bl z) = 0) (hu : und n (bl z) = false) : flr (flF ep L z) n = flr L n ∨ ((flF ep L z).length = 1 ∧ flr (flF ep L z) n = ep + 1) := by
  by_cases hk : 32 ≤ (kept L z).length
  · have e : flF ep L z = [⟨ep + 1, rootA⟩] := if_pos hk
    rw [e]
    by_cases hn : chk n = 0
    · right
      refine ⟨rfl, ?_⟩
      unfold flr
      rw [List.filter_cons_of_pos (by exact und_root hn)]
      rfl
    · left
      unfold flr
      rw [List.filter_cons_of_neg (by rw [und_un hn]; simp), List.filter_eq_nil_iff.2 (fun f _ => by rw [und_un hn]; simp), List.filter_eq_nil_iff.2 (fun f _ => by rw [und_un hn]; simp)]
  · left
    have e : flF ep L z = kept L z ++ [⟨ep + 1, lowA z⟩] := if_neg hk
    rw [e]
    unfold flr
    rw [List.filter_append, List.filter_cons_of_neg (l := []) (by show ¬ und n (bl ⟨(low (bl z)).toArray⟩) = true; rw [bl_of, und_low hz, hu]; simp), List.filter_nil, List.append_nil]
    congr 2
    unfold kept
    rw [List.filter_filter]
    apply List.filter_congr
    intro f _
    cases h1 : und n (bl f.zone) with
    | false => rfl
    | true =>
      cases h2 : und (bl f.zone) (bl z) with
      | false => rfl
      | true => rw [und_trans h1 h2] at hu; cases hu
end Go.Proofs.Ytjoplnkagfkffaa
