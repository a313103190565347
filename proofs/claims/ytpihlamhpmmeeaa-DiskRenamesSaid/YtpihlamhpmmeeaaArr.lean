/-
  A list of two texts among the arguments.
-/
import Derived.Test.YtpihlamhpmmeeaaOps
namespace Go.Proofs.Ytpihlamhpmmeeaa
open Go.ChangeShapes Go.WideShapes Go.ChangeAt Go.RowKit Go.Deep
theorem cellsOf46 : Try.prog.cellsOf 46 = 2 := by kernel_rfl
theorem okWide_array {w : World} {r : Reach} {b0 : Nat} {t e : TypeId} {n : Nat} {v : Value} (ht : Try.prog.underlying t = some (.array n e)) (hval : Value.okWide Try.prog w r b0 t v) : ∃ cs, v = .agg cs := by
  unfold Value.okWide at hval
  rw [ht] at hval
  obtain ⟨cs, h, _⟩ := hval
  exact ⟨cs, h⟩
theorem arr2_of {H : Type} {enc : TypeId × Value → H} {w : World} {base : Nat} {spare : Nat → Bool} {held : Bool} {r : Reach} {b0 : Nat} {v : Value} {d : DataW H} {ps : List MemPlace}
    (hval : Value.okWide Try.prog w r b0 46 v) (hd : DataW.Trod enc Try.prog w base spare held 46 v d ps) : (∃ x y : ByteArray, v = .agg #[.string x, .string y]) ∧ ps = [] := by
  obtain ⟨cs, rfl⟩ := okWide_array Try.underlying46 hval
  obtain ⟨fuel, hf⟩ := hd
  obtain ⟨ys, m, rfl, hx, hlen, hyl, hel⟩ := DataW.trod_array Try.underlying46 hf
  have hcl : cs.toList.length = 2 := by rw [← cellsOf46, ← hlen]; rfl
  have key : ∀ i, i < 2 → ∃ z : ByteArray, cs.toList[i]? = some (.string z) ∧ ∃ dd, ys[i]? = some (dd, []) := by
    intro i hi
    have h1 := hel i hi
    rw [cellsOf9, Nat.mul_one] at h1
    have hyi : ys[i]? = some ys[i] := List.getElem?_eq_getElem (by omega)
    rw [hyi] at h1
    obtain ⟨z, e1, e2, _⟩ := DataW.trod_string Try.underlying9 h1
    refine ⟨z, ?_, _, by rw [hyi, e2]⟩
    have := congrArg (·[0]?) e1
    simpa [List.getElem?_take, List.getElem?_drop, Value.cells] using this
  obtain ⟨x, e0, d0, f0⟩ := key 0 (by omega)
  obtain ⟨y, e1, d1, f1⟩ := key 1 (by omega)
  refine ⟨⟨x, y, ?_⟩, ?_⟩
  · congr 1
    apply Array.toList_inj.1
    match cs.toList, hcl, e0, e1 with
    | [a, b], _, e0, e1 => simp at e0 e1; rw [e0, e1]
  · have hp : ps = ys.flatMap (·.2) := congrArg Prod.snd hx
    rw [hp]
    match ys, hyl, f0, f1 with
    | [a, b], _, f0, f1 => simp at f0 f1; rw [f0, f1]; rfl
end Go.Proofs.Ytpihlamhpmmeeaa
