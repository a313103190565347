/-
  The text of a name, and how it is read; plain mathematics.
-/
import Derived.Test.YtpeojicimmofjaaDoorMakeMath
namespace Go.Proofs.YtpeojicimmofjaaDoor
/-- What stands for a byte of a label in a text. -/
def esc (b : UInt8) : Bs := if b.toNat = 46 ∨ b.toNat = 92 then [92, b] else if b.toNat < 33 ∨ 126 < b.toNat then [92, UInt8.ofNat (48 + b.toNat / 100), UInt8.ofNat (48 + b.toNat / 10 % 10), UInt8.ofNat (48 + b.toNat % 10)] else [b]
def txtX (x : Bs) : Bs := x.flatMap esc
def txtL (ls : List Bs) : Bs := ls.flatMap fun x => txtX x ++ [46]
def txt (l : Bs) : Bs := if chk l = 0 then (if l = [0] then [46] else txtL (labs l)) else []
theorem esc_len (b : UInt8) : 1 ≤ (esc b).length ∧ (esc b).length ≤ 4 := by
  unfold esc; split
  · simp
  · split <;> simp
theorem txtX_len (x : Bs) : (txtX x).length ≤ 4 * x.length := by
  induction x with
  | nil => simp [txtX]
  | cons b x ih =>
    have := (esc_len b).2
    simp only [txtX, List.flatMap_cons, List.length_append, List.length_cons] at ih ⊢
    omega
theorem txtL_snoc (ls : List Bs) (x : Bs) : txtL (ls ++ [x]) = txtL ls ++ txtX x ++ [46] := by simp [txtL]
theorem txtX_snoc (x : Bs) (k : Nat) (h : k < x.length) : txtX (x.take (k + 1)) = txtX (x.take k) ++ esc x[k] := by
  rw [List.take_succ_eq_append_getElem h]; simp only [txtX, List.flatMap_append, List.flatMap_cons, List.flatMap_nil, List.append_nil]
theorem txtL_len (ls : List Bs) (h : ∀ x ∈ ls, x.length ≤ 63) : (txtL ls).length ≤ 253 * ls.length := by
  induction ls with
  | nil => simp [txtL]
  | cons x ls ih =>
    have h1 := txtX_len x
    have h2 := h x (by simp)
    have h3 := ih (fun y hy => h y (by simp [hy]))
    simp only [txtL, List.flatMap_cons, List.length_append, List.length_cons, List.length_nil] at h3 ⊢
    omega
theorem labs_len255 {l : Bs} (h : chk l = 0) : (labs l).length ≤ 254 := by
  obtain ⟨h1, h2⟩ := chk_zero.1 h
  have h3 := congrArg List.length (split l)
  rw [h1, List.length_append] at h3
  have h4 := length_le_enc (labs l)
  simp at h3
  omega
end Go.Proofs.YtpeojicimmofjaaDoor
