/-
  How the document reads a text, and that it comes to the same as the program's way; and what stands for a byte in three digits. Plain mathematics.
-/
import Derived.Test.YtpeojicimmofjaaDoorRMake
import Derived.Test.YtpeojicimmofjaaDoorParse
import Derived.Lib.ItoaNum
namespace Go.Proofs.YtpeojicimmofjaaDoor
def prrF : Nat → List Bs → Bs → Bs → Option (List Bs × Bs)
  | 0, ls, cur, _ => some (ls, cur)
  | _ + 1, ls, cur, [] => some (ls, cur)
  | f + 1, ls, cur, c :: r => if c.toNat = 46 then (if cur = [] then none else prrF f (ls ++ [cur]) [] r) else match rd (c :: r) with
      | none => none
      | some (b, n) => prrF f ls (cur ++ [b]) ((c :: r).drop n)
def prr (ls : List Bs) (cur : Bs) (l : Bs) : Option (List Bs × Bs) := prrF l.length ls cur l
theorem prrF_more (f : Nat) : ∀ (g : Nat) (ls : List Bs) (cur l : Bs), l.length ≤ f → l.length ≤ g → prrF f ls cur l = prrF g ls cur l := by
  induction f with
  | zero =>
    intro g ls cur l h1 h2
    obtain rfl : l = [] := List.length_eq_zero_iff.1 (by omega)
    cases g <;> rfl
  | succ f ih =>
    intro g ls cur l h1 h2
    cases l with
    | nil => cases g <;> rfl
    | cons c r =>
      cases g with
      | zero => simp at h2
      | succ g =>
        simp only [prrF]
        simp only [List.length_cons] at h1 h2
        split
        · split
          · rfl
          · exact ih g _ _ r (by omega) (by omega)
        · cases hr : rd (c :: r) with
          | none => rfl
          | some p =>
            obtain ⟨b, n⟩ := p
            simp only
            obtain ⟨h3, h4⟩ := rd_len hr
            exact ih g _ _ _ (by simp; omega) (by simp; omega)
theorem prr_nil (ls : List Bs) (cur : Bs) : prr ls cur [] = some (ls, cur) := rfl
theorem prr_dot0 (ls : List Bs) (c : UInt8) (r : Bs) (h : c.toNat = 46) : prr ls [] (c :: r) = none := by
  simp only [prr, List.length_cons, prrF, if_pos h, if_true]
theorem prr_dot (ls : List Bs) (cur : Bs) (c : UInt8) (r : Bs) (h : c.toNat = 46) (h2 : ¬ cur = []) : prr ls cur (c :: r) = prr (ls ++ [cur]) [] r := by
  simp only [prr, List.length_cons, prrF, if_pos h, if_neg h2]
theorem prr_none (ls : List Bs) (cur : Bs) (c : UInt8) (r : Bs) (h : ¬ c.toNat = 46) (h2 : rd (c :: r) = none) : prr ls cur (c :: r) = none := by
  simp only [prr, List.length_cons, prrF, if_neg h, h2]
theorem prr_byte (ls : List Bs) (cur : Bs) (c : UInt8) (r : Bs) (b : UInt8) (n : Nat) (h : ¬ c.toNat = 46) (h2 : rd (c :: r) = some (b, n)) : prr ls cur (c :: r) = prr ls (cur ++ [b]) ((c :: r).drop n) := by
  have := rd_len h2
  simp only [prr, List.length_cons, prrF, if_neg h, h2]
  exact prrF_more _ _ _ _ _ (by simp; omega) (Nat.le_refl _)
/-- What comes of what has been read. -/
def out : Option (List Bs × Bs) → Int × Bs
  | none => (10, [])
  | some p => (mkE (fin p), mkS (fin p))
def Bad (ls : List Bs) (cur : Bs) : Prop := (∃ x ∈ ls, ¬ OkL x) ∨ 63 < cur.length
theorem bad_fin {ls : List Bs} {cur : Bs} (h : Bad ls cur) : out (some (ls, cur)) = (10, []) := by
  have : ∃ x ∈ fin (ls, cur), ¬ OkL x := by
    rcases h with ⟨x, hx, hn⟩ | h
    · refine ⟨x, ?_, hn⟩
      unfold fin; split
      · exact hx
      · exact List.mem_append_left _ hx
    · refine ⟨cur, ?_, fun h2 => by have := h2.2; omega⟩
      unfold fin
      rw [if_neg (fun e => by rw [show cur = [] from e] at h; simp at h)]
      simp
  obtain ⟨x, hx, hn⟩ := this
  obtain ⟨h1, h2⟩ := mkE_bad_mem hx hn
  show (mkE _, mkS _) = _
  rw [← h1, ← h2]
theorem bad_prr (f : Nat) : ∀ (ls : List Bs) (cur l : Bs), Bad ls cur → out (prrF f ls cur l) = (10, []) := by
  induction f with
  | zero => intro ls cur l h; exact bad_fin h
  | succ f ih =>
    intro ls cur l h
    cases l with
    | nil => exact bad_fin h
    | cons c r =>
      simp only [prrF]
      split
      · split
        · rfl
        · refine ih _ _ _ (.inl ?_)
          rcases h with ⟨x, hx, hn⟩ | h
          · exact ⟨x, List.mem_append_left _ hx, hn⟩
          · exact ⟨cur, by simp, fun h2 => by have := h2.2; omega⟩
      · cases rd (c :: r) with
        | none => rfl
        | some p =>
          refine ih _ _ _ ?_
          rcases h with h | h
          · exact .inl h
          · exact .inr (by simp; omega)
theorem bad_prs (f : Nat) : ∀ (ls : List Bs) (cur l : Bs), Bad ls cur → out (prsF f ls cur l) = (10, []) := by
  induction f with
  | zero => intro ls cur l h; exact bad_fin h
  | succ f ih =>
    intro ls cur l h
    cases l with
    | nil => exact bad_fin h
    | cons c r =>
      simp only [prsF]
      split
      · refine ih _ _ _ (.inl ?_)
        rcases h with ⟨x, hx, hn⟩ | h
        · exact ⟨x, List.mem_append_left _ hx, hn⟩
        · exact ⟨cur, by simp, fun h2 => by have := h2.2; omega⟩
      · cases rd (c :: r) with
        | none => rfl
        | some p =>
          simp only
          split
          · rfl
          · refine ih _ _ _ ?_
            rcases h with h | h
            · exact .inl h
            · exact .inr (by simp; omega)
theorem prr_prs (f : Nat) : ∀ (ls : List Bs) (cur l : Bs), out (prrF f ls cur l) = out (prsF f ls cur l) := by
  induction f with
  | zero => intro ls cur l; rfl
  | succ f ih =>
    intro ls cur l
    cases l with
    | nil => rfl
    | cons c r =>
      simp only [prrF, prsF]
      split
      · split
        · rename_i h; subst h
          exact (bad_prs f _ _ _ (.inl ⟨[], by simp, fun h => by have := h.1; simp at this⟩)).symm
        · exact ih _ _ _
      · cases rd (c :: r) with
        | none => rfl
        | some p =>
          simp only
          split
          · exact bad_prr f _ _ _ (.inr (by simp; omega))
          · exact ih _ _ _
theorem ps_out (t : Bs) (h1 : ¬ t = []) (h2 : ¬ t = [46]) : (psE t, psS t) = out (prr [] [] t) := by
  unfold psE psS
  rw [if_neg h1, if_neg h2, if_neg h1, if_neg h2]
  show _ = out (prrF _ _ _ _)
  rw [prr_prs]
  show _ = out (prs _ _ _)
  cases prs [] [] t <;> rfl
def dv (ds : Bs) : Nat := ds.foldl (fun v x => v * 10 + (x.toNat - 48)) 0
theorem dv_snoc (ds : Bs) (x : UInt8) : dv (ds ++ [x]) = dv ds * 10 + (x.toNat - 48) := by simp [dv]
theorem dig_iff (x : UInt8) : dig x = true ↔ 48 ≤ x.toNat ∧ x.toNat ≤ 57 := by unfold dig; simp
theorem num_take {L ds : Bs} (h : ds = L.take 3) (hl : ds.length = 3) (hd : ∀ x ∈ ds, dig x = true) : num L = if dv ds ≤ 255 then some (UInt8.ofNat (dv ds)) else none := by
  match L, h with
  | [], h => subst h; simp at hl
  | [_], h => subst h; simp at hl
  | [_, _], h => subst h; simp at hl
  | a :: b :: c :: r, h =>
    simp at h
    subst h
    have ha := hd a (by simp)
    have hb := hd b (by simp)
    have hc := hd c (by simp)
    have e : dv [a, b, c] = 100 * (a.toNat - 48) + 10 * (b.toNat - 48) + (c.toNat - 48) := by simp [dv]; omega
    simp only [num, ha, hb, hc, true_and, e]
theorem num_stop {L : Bs} {j : Nat} (hj : j < 3) (h : ∀ x, L[j]? = some x → dig x = false) : num L = none := by
  match L with
  | [] => rfl
  | [_] => rfl
  | [_, _] => rfl
  | a :: b :: c :: r =>
    simp only [num]
    rw [if_neg]
    rintro ⟨h1, h2, h3, _⟩
    match j, hj with
    | 0, _ => have := h a rfl; rw [h1] at this; cases this
    | 1, _ => have := h b rfl; rw [h2] at this; cases this
    | 2, _ => have := h c rfl; rw [h3] at this; cases this
theorem rd_esc_end (c : UInt8) (h : c.toNat = 92) : rd [c] = none := by simp [rd, h]
theorem rd_esc_ch (c d : UInt8) (r : Bs) (h : c.toNat = 92) (h2 : dig d = false) : rd (c :: d :: r) = some (d, 2) := by simp [rd, h, h2]
theorem rd_esc_none (c d : UInt8) (r : Bs) (h : c.toNat = 92) (h2 : dig d = true) (h3 : num (d :: r) = none) : rd (c :: d :: r) = none := by simp [rd, h, h2, h3]
theorem rd_esc_num (c d : UInt8) (r : Bs) (v : UInt8) (h : c.toNat = 92) (h2 : dig d = true) (h3 : num (d :: r) = some v) : rd (c :: d :: r) = some (v, 4) := by simp [rd, h, h2, h3]
theorem itoa_byte (c : Nat) (h : c < 256) : Lib.itoa (1000 + (c : Int)) = [49, UInt8.ofNat (48 + c / 100), UInt8.ofNat (48 + c / 10 % 10), UInt8.ofNat (48 + c % 10)] := by
  unfold Lib.itoa
  rw [if_neg (by omega), show (1000 + (c : Int)).toNat = 1000 + c by omega]
  rw [Lib.decDigits, dif_neg (by omega), Lib.decDigits, dif_neg (by omega), Lib.decDigits, dif_neg (by omega), Lib.decDigits, dif_pos (by omega)]
  rw [show (1000 + c) / 10 / 10 / 10 = 1 by omega, show (1000 + c) / 10 / 10 % 10 = c / 100 by omega, show (1000 + c) / 10 % 10 = c / 10 % 10 by omega, show (1000 + c) % 10 = c % 10 by omega]
  rfl
end Go.Proofs.YtpeojicimmofjaaDoor
