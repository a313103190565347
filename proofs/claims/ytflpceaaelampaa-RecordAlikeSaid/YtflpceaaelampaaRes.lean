/-
  What a call hands back where results lie in variables of some cells.
-/
import Derived.Test.YtflpceaaelampaaOnePart
import Derived.Tactics
namespace Go.Proofs.Ytflpceaaelampaa
open Go.RowKit
section
variable {fn : Func} {w : World} {tmps : Array Value} {n m : Nat}
theorem c5 {v0 v1 v2 v3 v4 : Value} (h : Ce w n 25 #[v0, v1, v2, v3, v4]) : w.cell? ⟨n, 0, none⟩ = some v0 ∧ w.cell? ⟨n, 1, none⟩ = some v1 ∧ w.cell? ⟨n, 2, none⟩ = some v2 ∧ w.cell? ⟨n, 3, none⟩ = some v3 ∧ w.cell? ⟨n, 4, none⟩ = some v4 := by
  refine ⟨?_, ?_, ?_, ?_, ?_⟩ <;> (rw [h.cell]; rfl)
theorem c3 {v0 v1 v2 : Value} {T : TypeId} (h : Ce w n T #[v0, v1, v2]) : w.cell? ⟨n, 0, none⟩ = some v0 ∧ w.cell? ⟨n, 1, none⟩ = some v1 ∧ w.cell? ⟨n, 2, none⟩ = some v2 := by
  refine ⟨?_, ?_, ?_⟩ <;> (rw [h.cell]; rfl)
theorem c7 {v0 v1 v2 v3 v4 v5 v6 : Value} {T : TypeId} (h : Ce w n T #[v0, v1, v2, v3, v4, v5, v6]) : w.cell? ⟨n, 0, none⟩ = some v0 ∧ w.cell? ⟨n, 1, none⟩ = some v1 ∧ w.cell? ⟨n, 2, none⟩ = some v2 ∧ w.cell? ⟨n, 3, none⟩ = some v3 ∧ w.cell? ⟨n, 4, none⟩ = some v4 ∧ w.cell? ⟨n, 5, none⟩ = some v5 ∧ w.cell? ⟨n, 6, none⟩ = some v6 := by
  refine ⟨?_, ?_, ?_, ?_, ?_, ?_, ?_⟩ <;> (rw [h.cell]; rfl)
theorem res5 {t : Tmp} (h : fn.results = #[.cell t 25]) (e1 : tmps.getD t undef = ptr n) {v0 v1 v2 v3 v4 : Value} (h1 : Ce w n 25 #[v0, v1, v2, v3, v4]) :
    (results fn tmps).run Try.prog w = .ok (.agg #[v0, v1, v2, v3, v4]) w := by
  obtain ⟨a0, a1, a2, a3, a4⟩ := c5 h1
  rw [Array.getD_eq_getD_getElem?] at e1
  simp [results, h, e1, go_sem, a0, a1, a2, a3, a4]
theorem res5tt {t u v : Tmp} (h : fn.results = #[.cell t 25, .tmp u, .tmp v]) (e1 : tmps.getD t undef = ptr n) {v0 v1 v2 v3 v4 : Value} (h1 : Ce w n 25 #[v0, v1, v2, v3, v4]) :
    (results fn tmps).run Try.prog w = .ok (.tuple #[.agg #[v0, v1, v2, v3, v4], tmps.getD u undef, tmps.getD v undef]) w := by
  obtain ⟨a0, a1, a2, a3, a4⟩ := c5 h1
  rw [Array.getD_eq_getD_getElem?] at e1
  simp [results, h, e1, go_sem, a0, a1, a2, a3, a4]
theorem res53t {t u v : Tmp} (h : fn.results = #[.cell t 25, .cell u 77, .tmp v]) (e1 : tmps.getD t undef = ptr n) (e2 : tmps.getD u undef = ptr m) {v0 v1 v2 v3 v4 u0 u1 u2 : Value} (h1 : Ce w n 25 #[v0, v1, v2, v3, v4]) (h2 : Ce w m 77 #[u0, u1, u2]) :
    (results fn tmps).run Try.prog w = .ok (.tuple #[.agg #[v0, v1, v2, v3, v4], .agg #[u0, u1, u2], tmps.getD v undef]) w := by
  obtain ⟨a0, a1, a2, a3, a4⟩ := c5 h1
  obtain ⟨b0, b1, b2⟩ := c3 h2
  rw [Array.getD_eq_getD_getElem?] at e1 e2
  simp [results, h, e1, e2, go_sem, a0, a1, a2, a3, a4, b0, b1, b2]
theorem res7t {t u : Tmp} (h : fn.results = #[.cell t 31, .tmp u]) (e1 : tmps.getD t undef = ptr n) {v0 v1 v2 v3 v4 v5 v6 : Value} (h1 : Ce w n 31 #[v0, v1, v2, v3, v4, v5, v6]) :
    (results fn tmps).run Try.prog w = .ok (.tuple #[.agg #[v0, v1, v2, v3, v4, v5, v6], tmps.getD u undef]) w := by
  obtain ⟨a0, a1, a2, a3, a4, a5, a6⟩ := c7 h1
  rw [Array.getD_eq_getD_getElem?] at e1
  simp [results, h, e1, go_sem, a0, a1, a2, a3, a4, a5, a6]
end
end Go.Proofs.Ytflpceaaelampaa
