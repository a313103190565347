/-
  The labels of a text with the places behind them, as they come one by one; no program is imported.
-/
import Derived.Test.YtjoplnkagfkffaaMath
namespace Go.Proofs.Ytjoplnkagfkffaa
/-- A label as bytes, with the place behind it: what comes of the labels from a place on. -/
abbrev Item := { x : ByteArray × Nat // x.1.size ≤ 63 }
def item (p : Nat) (x : Bs) : Item := ⟨(⟨(x.take 63).toArray⟩, p + 1 + x.length), by
  show (List.toArray (x.take 63)).size ≤ 63
  simp; omega⟩
def items : Nat → List Bs → List Item
  | _, [] => []
  | p, x :: r => item p x :: items (p + 1 + x.length) r
theorem items_append (a b : List Bs) : ∀ p, items p (a ++ b) = items p a ++ items (p + (enc a).length) b := by
  induction a with
  | nil => intro p; simp [items, enc]
  | cons x a ih =>
    intro p
    simp only [List.cons_append, items, ih, enc_cons, List.length_append, enc1_length]
    have e : p + 1 + x.length + (enc a).length = p + (x.length + 1 + (enc a).length) := by omega
    rw [e]
theorem items_length (a : List Bs) : ∀ p, (items p a).length = a.length := by
  induction a with
  | nil => intro p; rfl
  | cons x a ih => intro p; simp [items, ih]
theorem items_snoc (p : Nat) (a : List Bs) (x : Bs) : items p (a ++ [x]) = items p a ++ [item (p + (enc a).length) x] := by
  rw [items_append]; rfl
theorem item_str (p : Nat) (x : Bs) (h : OkL x) : (item p x).1.1 = ⟨x.toArray⟩ := by
  show (⟨(x.take 63).toArray⟩ : ByteArray) = _
  rw [List.take_of_length_le h.2]
theorem size_list (s : ByteArray) : s.size = s.data.toList.length := by
  show s.data.size = _; simp
theorem get_list (s : ByteArray) (k : Nat) (h : k < s.size) : s[k] = s.data.toList[k]'(by rw [← size_list]; exact h) := rfl
/-- Where the labels stop. -/
theorem at_rest (s : ByteArray) (pre : List Bs) (r : Bs) (e : s.data.toList = enc pre ++ r) (h : (enc pre).length < s.size) : ∃ c t, r = c :: t ∧ s[(enc pre).length] = c ∧ s.size = (enc pre).length + 1 + t.length := by
  have h1 : s.size = (enc pre).length + r.length := by rw [size_list, e, List.length_append]
  cases r with
  | nil => simp at h1; omega
  | cons c t =>
    refine ⟨c, t, rfl, ?_, by simp at h1; omega⟩
    rw [get_list s _ h]
    simp [e]
theorem stop_rest (s : ByteArray) (pre : List Bs) (r : Bs) (e : s.data.toList = enc pre ++ r) (hr : step r = 0) (h : (enc pre).length < s.size) : s[(enc pre).length].toNat = 0 ∨ 63 < s[(enc pre).length].toNat ∨ s.size - (enc pre).length ≤ s[(enc pre).length].toNat := by
  obtain ⟨c, t, rfl, h1, h2⟩ := at_rest s pre r e h
  rw [h1]
  simp only [step] at hr
  split at hr
  · exact Or.inl hr
  · omega
theorem go_rest (s : ByteArray) (pre : List Bs) (x r : Bs) (e : s.data.toList = enc pre ++ (enc1 x ++ r)) (hx : OkL x) : ∃ h : (enc pre).length < s.size, s[(enc pre).length].toNat = x.length ∧ (enc pre).length + 1 + x.length ≤ s.size ∧ s.extract ((enc pre).length + 1) ((enc pre).length + 1 + x.length) = ⟨x.toArray⟩ := by
  have h1 : s.size = (enc pre).length + (1 + x.length + r.length) := by rw [size_list, e]; simp [enc1]; omega
  have h0 : (enc pre).length < s.size := by omega
  refine ⟨h0, ?_, by omega, ?_⟩
  · rw [get_list s _ h0]
    have := hx.2
    simp [e, enc1]
    omega
  · apply ByteArray.ext
    apply Array.toList_inj.1
    rw [ByteArray.data_extract, Array.toList_extract, e]
    simp [List.extract, enc1]
end Go.Proofs.Ytjoplnkagfkffaa
