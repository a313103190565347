/-
  What Make answers, for every list of labels; no older memory is changed.
-/
import Derived.Test.YtjoplnkagfkffaaWriter
namespace Go.Proofs.Ytjoplnkagfkffaa
open Go.RowKit
theorem take_snoc {ls : List Bs} {k : Nat} {x : Bs} (h : ls[k]? = some x) : ls.take (k + 1) = ls.take k ++ [x] := by
  obtain ⟨hk, e⟩ := List.getElem?_eq_some_iff.1 h
  rw [List.take_succ_eq_append_getElem hk, e]
end Go.Proofs.Ytjoplnkagfkffaa
