/-
  An array of integers among the arguments, opened and shut. No statement is proved here.
-/
import Derived.Test.YtiagngggnhdefaaDoorLaidKit
import Derived.Carry
namespace Go.Proofs.YtiagngggnhdefaaDoor
open Go.RowKit Go.ChangeShapes Go.WideShapes Go.ChangeAt
variable {H : Type} {enc : TypeId × Value → H} {w : World} {base : Nat} {spare : Nat → Bool} {held : Bool}
def dataRow {H : Type} (k : IntKind) (xs : List Int) : DataW H := .agg (xs.map fun z => .lit (.int k z))
theorem cOf23 : Tryd.prog.cellsOf 23 = 16 := by kernel_rfl
theorem okWide_array {r : Reach} {b0 : Nat} {t e : TypeId} {n : Nat} {v : Value} (ht : Tryd.prog.underlying t = some (.array n e)) (hval : Value.okWide Tryd.prog w r b0 t v) : ∃ cs, v = .agg cs := by
  unfold Value.okWide at hval
  rw [ht] at hval
  obtain ⟨cs, h, _⟩ := hval
  exact ⟨cs, h⟩
theorem open_row {r : Reach} {b0 : Nat} {t e : TypeId} {n : Nat} {k : IntKind} {v : Value} {d : DataW H} {ps : List MemPlace} (ht : Tryd.prog.underlying t = some (.array n e)) (he : Tryd.prog.underlying e = some (.int k)) (hce : Tryd.prog.cellsOf e = 1) (hct : Tryd.prog.cellsOf t = n)
    (hval : Value.okWide Tryd.prog w r b0 t v) (hd : DataW.Trod enc Tryd.prog w base spare held t v d ps) :
    ∃ xs : List Int, xs.length = n ∧ v = .agg (xs.map (Value.int k)).toArray ∧ d = dataRow k xs ∧ ps = [] ∧ ∀ x ∈ xs, (Lit.int k x).wf = true := by
  obtain ⟨cs, rfl⟩ := okWide_array ht hval
  obtain ⟨fuel, hf⟩ := hd
  obtain ⟨ys, m, rfl, hx, hlen, hyl, hel⟩ := DataW.trod_array ht hf
  have hcl : cs.toList.length = n := by rw [← hct, ← hlen]; rfl
  have key : ∀ i, i < n → ∃ z, cs.toList[i]? = some (.int k z) ∧ ys[i]? = some (.lit (.int k z), []) ∧ (Lit.int k z).wf = true := by
    intro i hi
    have h1 := hel i hi
    rw [hce, Nat.mul_one] at h1
    have hyi : ys[i]? = some ys[i] := List.getElem?_eq_getElem (by omega)
    rw [hyi] at h1
    obtain ⟨z, e1, e2, hw⟩ := DataW.trod_int he h1
    refine ⟨z, ?_, by rw [hyi, e2], hw⟩
    have := congrArg (·[0]?) e1
    simpa [List.getElem?_take, List.getElem?_drop, Value.cells] using this
  have hint : ∀ (i : Nat) (z : Int), cs.toList[i]? = some (Value.int k z) → (cs.toList.map intOf)[i]? = some z := by
    intro i z h
    rw [List.getElem?_map, h]
    rfl
  refine ⟨cs.toList.map intOf, by simpa using hcl, ?_, ?_, ?_, ?_⟩
  · have : cs.toList = (cs.toList.map intOf).map (Value.int k) := by
      apply List.ext_getElem?
      intro i
      by_cases hi : i < n
      · obtain ⟨z, e1, _, _⟩ := key i hi
        rw [List.getElem?_map, hint i z e1, e1]
        rfl
      · rw [List.getElem?_eq_none (by omega), List.getElem?_eq_none (by rw [List.length_map, List.length_map]; omega)]
    rw [← this]
  · have hd : d = .agg (ys.map (·.1)) := congrArg Prod.fst hx
    rw [hd]
    unfold dataRow
    congr 1
    apply List.ext_getElem?
    intro i
    by_cases hi : i < n
    · obtain ⟨z, e1, e2, _⟩ := key i hi
      rw [List.getElem?_map, List.getElem?_map, hint i z e1, e2]
      rfl
    · rw [List.getElem?_eq_none (by simp; omega), List.getElem?_eq_none (by simp; simp at hcl; omega)]
  · have hp : ps = ys.flatMap (·.2) := congrArg Prod.snd hx
    rw [hp, List.flatMap_eq_nil_iff]
    intro y hy
    obtain ⟨i, hi, rfl⟩ := List.getElem_of_mem hy
    obtain ⟨z, _, e2, _⟩ := key i (by omega)
    rw [List.getElem?_eq_getElem hi] at e2
    rw [Option.some.inj e2]
  · intro x hx2
    obtain ⟨i, hi, rfl⟩ := List.getElem_of_mem hx2
    have hi' : i < n := by simp at hi; simp at hcl; omega
    obtain ⟨z, e1, _, hw⟩ := key i hi'
    have e3 := hint i z e1
    rw [List.getElem?_eq_getElem hi] at e3
    rw [Option.some.inj e3]
    exact hw
theorem laidOutT : laidOutB Tryd.prog = true := by kernel_rfl
end Go.Proofs.YtiagngggnhdefaaDoor
