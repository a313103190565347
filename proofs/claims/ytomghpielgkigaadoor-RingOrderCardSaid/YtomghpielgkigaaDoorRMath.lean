/-
  Lists of points, turned; lists in which each number stands once, where it stood first. No statement is proved here.
-/
import Derived.Test.YtomghpielgkigaaDoorFoot
import Derived.Test.YtomghpielgkigaaDoorStillIn
namespace Go.Proofs.YtomghpielgkigaaDoor
open Go.RowKit
/-- A point: its place, and whose it is. -/
abbrev Pt := Int × Fin 64
theorem infoP : (Tryd.prog.info? 50).map (fun i => (i.zero, i.size, i.bytes)) = some (some (.agg #[.int .u64 0, .int .i64 0]), 2, 16) := by kernel_rfl
theorem infoI : (Tryd.prog.info? 3).map (fun i => (i.zero, i.size, i.bytes)) = some (some (.int .i64 0), 1, 8) := by kernel_rfl
def elP : El Pt := ⟨39, 50, 2, fun p => [.int .u64 p.1, .int .i64 (p.2.val : Int)], _, 16, Tryd.underlying39, infoP, rfl, by decide, by decide, by decide, fun _ => rfl, fun x u hu => by rcases List.mem_cons.1 hu with rfl | hu; rfl; rw [List.mem_singleton.1 hu]; rfl⟩
def elI : El Int := ⟨22, 3, 1, fun n => [it n], _, 8, Tryd.underlying22, infoI, rfl, by decide, by decide, by decide, fun _ => rfl, fun x u hu => by rw [List.mem_singleton.1 hu]; rfl⟩
/-- A list from a place on, what stood ahead of it behind. -/
def ro {α : Type} (s : Nat) (L : List α) : List α := L.drop s ++ L.take s
theorem ro_length {α : Type} (s : Nat) (L : List α) : (ro s L).length = L.length := by
  unfold ro
  simp
  omega
theorem ro_at {α : Type} {s k : Nat} {L : List α} (hs : s ≤ L.length) (hk : k < L.length) : (ro s L)[k]? = L[(s + k) % L.length]? := by
  unfold ro
  by_cases h : k < L.length - s
  · rw [List.getElem?_append_left (by rw [List.length_drop]; exact h), List.getElem?_drop, Nat.mod_eq_of_lt (by omega)]
  · rw [List.getElem?_append_right (by rw [List.length_drop]; omega), List.length_drop, List.getElem?_take, if_pos (by omega)]
    congr 1
    have : (s + k) = (s + k - L.length) + L.length := by omega
    rw [this, Nat.add_mod_right, Nat.mod_eq_of_lt (by omega)]
    omega
/-- Each once, where it stood first. -/
def dd {α : Type} [DecidableEq α] (l : List α) : List α := l.foldl (fun a x => if x ∈ a then a else a ++ [x]) []
theorem snoc_ind {α : Type} {P : List α → Prop} (h0 : P []) (h : ∀ l x, P l → P (l ++ [x])) (l : List α) : P l := by
  have : ∀ n (l : List α), l.length = n → P l := by
    intro n
    induction n with
    | zero => intro l hl; rw [List.length_eq_zero_iff.1 hl]; exact h0
    | succ n ih =>
      intro l hl
      have hne : l ≠ [] := fun e => by rw [e] at hl; cases hl
      rw [← List.dropLast_concat_getLast hne]
      exact h _ _ (ih _ (by rw [List.length_dropLast]; omega))
  exact this _ l rfl
section
variable {α : Type} [DecidableEq α]
theorem dd_snoc (l : List α) (x : α) : dd (l ++ [x]) = if x ∈ dd l then dd l else dd l ++ [x] := by
  unfold dd
  rw [List.foldl_append]
  rfl
theorem mem_dd (l : List α) : ∀ x, x ∈ dd l ↔ x ∈ l := by
  induction l using snoc_ind with
  | h0 => intro x; rfl
  | h l y ih =>
    intro x
    rw [dd_snoc]
    by_cases h : y ∈ dd l
    · rw [if_pos h, ih, List.mem_append, List.mem_singleton]
      constructor
      · exact .inl
      · rintro (h1 | rfl)
        · exact h1
        · exact (ih _).1 h
    · rw [if_neg h, List.mem_append, List.mem_append, ih]
theorem dd_nodup (l : List α) : (dd l).Nodup := by
  induction l using snoc_ind with
  | h0 => exact List.nodup_nil
  | h l y ih =>
    rw [dd_snoc]
    by_cases h : y ∈ dd l
    · rw [if_pos h]; exact ih
    · rw [if_neg h, List.nodup_append]
      exact ⟨ih, by simp, fun a ha b hb => by rw [List.mem_singleton.1 hb]; rintro rfl; exact h ha⟩
theorem dd_mono (l m : List α) : dd l <+: dd (l ++ m) := by
  induction m using snoc_ind with
  | h0 => rw [List.append_nil]; exact List.prefix_rfl
  | h m y ih =>
    rw [← List.append_assoc, dd_snoc]
    by_cases h : y ∈ dd (l ++ m)
    · rw [if_pos h]; exact ih
    · rw [if_neg h]; exact ih.trans (List.prefix_append _ _)
theorem dd_len (l : List α) : (dd l).length ≤ l.length := by
  induction l using snoc_ind with
  | h0 => exact Nat.le_refl _
  | h l y ih =>
    rw [dd_snoc, List.length_append, List.length_singleton]
    by_cases h : y ∈ dd l
    · rw [if_pos h]; omega
    · rw [if_neg h, List.length_append, List.length_singleton]; omega
theorem dd_find (p : α → Bool) (l : List α) : (dd l).find? p = l.find? p := by
  induction l using snoc_ind with
  | h0 => rfl
  | h l y ih =>
    rw [dd_snoc, List.find?_append]
    by_cases h : y ∈ dd l
    · rw [if_pos h, ih]
      cases hf : l.find? p with
      | some z => rfl
      | none =>
        have := List.find?_eq_none.1 hf y ((mem_dd l y).1 h)
        simp only [List.find?_cons]
        rw [Bool.not_eq_true] at this
        rw [this]
        rfl
    · rw [if_neg h, List.find?_append, ih]
theorem dd_head (l : List α) : (dd l).head? = l.head? := by
  cases l with
  | nil => rfl
  | cons x r =>
    obtain ⟨t, ht⟩ := dd_mono [x] r
    have : dd [x] = [x] := rfl
    rw [this] at ht
    rw [show x :: r = [x] ++ r from rfl, ← ht]
    rfl
end
theorem len_below : ∀ (n : Nat) (l : List Nat), l.Nodup → (∀ x ∈ l, x < n) → l.length ≤ n := by
  intro n
  induction n with
  | zero =>
    intro l _ h
    cases l with
    | nil => exact Nat.le_refl _
    | cons x r => exact absurd (h x (List.mem_cons_self)) (by omega)
  | succ n ih =>
    intro l hd h
    by_cases hn : n ∈ l
    · have h1 := ih (l.erase n) (hd.erase n) fun x hx => by
        have h2 := (hd.mem_erase_iff).1 hx
        have := h x h2.2
        have := h2.1
        omega
      rw [List.length_erase_of_mem hn] at h1
      omega
    · exact Nat.le_succ_of_le (ih l hd fun x hx => by
        have := h x hx
        have : x ≠ n := fun e => hn (e ▸ hx)
        omega)
theorem nodup_len (l : List (Fin 64)) (h : l.Nodup) : l.length ≤ 64 := by
  have h1 : (l.map Fin.val).Nodup := by
    rw [List.nodup_iff_pairwise_ne] at *
    exact List.pairwise_map.2 (h.imp fun hne e => hne (Fin.ext e))
  have h2 : ∀ x ∈ l.map Fin.val, x ∈ List.range 64 := by
    intro x hx
    obtain ⟨y, _, rfl⟩ := List.mem_map.1 hx
    exact List.mem_range.2 y.isLt
  have := len_below 64 _ h1 fun x hx => List.mem_range.1 (h2 x hx)
  rwa [List.length_map] at this
theorem wi_nat (m : Nat) (h : m ≤ 1000000000) : IntKind.i64.wrap (m : Int) = (m : Int) := by unfold IntKind.wrap; simp only [IntKind.bits, IntKind.signed]; simp; omega
theorem w64_nat (m : Nat) (h : m ≤ 1000000000) : wrap64 (m : Int) = (m : Int) := by unfold wrap64; omega
theorem wi_sum (s k : Nat) (h : s + k ≤ 1000000000) : IntKind.i64.wrap ((s : Int) + (k : Int)) = (s : Int) + (k : Int) := wi_nat (s + k) h
theorem w64_sum (s k : Nat) (h : s + k ≤ 1000000000) : wrap64 ((s : Int) + (k : Int)) = (s : Int) + (k : Int) := w64_nat (s + k) h
theorem rem_sum {s k len j : Nat} (hj : j = (s + k) % len) : ((s : Int) + (k : Int)).tmod (len : Int) = (j : Int) := by
  rw [hj, ← Int.natCast_add]
  rfl
end Go.Proofs.YtomghpielgkigaaDoor
