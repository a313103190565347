/-
  Blocks of three and of six cells, one's own; answers that hold a struct.
-/
import Derived.Test.YtocmgdhhlofajaaPrims
namespace Go.Proofs.Ytocmgdhhlofajaa
open Go.RowKit
def Ce (w : World) (B : Nat) (T : TypeId) (cs : Array Value) : Prop := w.heap[B]? = some (.cells cs T (0, 0))
section
variable {w : World} {n : Nat} {T : TypeId}
theorem Ce.lt {cs : Array Value} (h : Ce w n T cs) : n < w.heap.size := (Array.getElem?_eq_some_iff.1 h).1
theorem Ce.cell {cs : Array Value} (h : Ce w n T cs) (i : Nat) : w.cell? ⟨n, i, none⟩ = cs[i]? := by simp [World.cell?, show w.heap[n]? = _ from h]
theorem Ce.fz {cs : Array Value} (h : Ce w n T cs) (i : Nat) : w.frozen? ⟨n, i, none⟩ = false := by simp [World.frozen?, show w.heap[n]? = _ from h]
theorem Ce.tr {S : Nat → Prop} {w' : World} {cs : Array Value} (h : Ce w n T cs) (ht : Tr S w w') (hS : ¬ S n) : Ce w' n T cs := (ht.block n h.lt hS).trans h
theorem Ce.below {w' : World} {B : Nat} {cs : Array Value} (h : Ce w n T cs) (hb : Below B w w') (hn : n < B) : Ce w' n T cs := (hb.block n hn).trans h
theorem Ce.set {cs : Array Value} (h : Ce w n T cs) (i : Nat) (v : Value) : Ce (w.setCell ⟨n, i, none⟩ v) n T (cs.setIfInBounds i v) := heap_setCell_same w n i _ _ v h
theorem Ce.alloc {cs : Array Value} (h : Ce w n T cs) (o : Obj) : Ce (w.alloc o) n T cs := (((Below.refl _ w).alloc (Nat.le_refl _) o).block n h.lt).trans h
theorem ce_new (w : World) (cs : Array Value) (T : TypeId) : Ce (w.alloc (.cells cs T)) w.heap.size T cs := heap_alloc_new w _
theorem c3 {v0 v1 v2 : Value} (h : Ce w n T #[v0, v1, v2]) : w.cell? ⟨n, 0, none⟩ = some v0 ∧ w.cell? ⟨n, 1, none⟩ = some v1 ∧ w.cell? ⟨n, 2, none⟩ = some v2 := by
  refine ⟨?_, ?_, ?_⟩ <;> (rw [h.cell]; rfl)
theorem c6 {v0 v1 v2 v3 v4 v5 : Value} (h : Ce w n T #[v0, v1, v2, v3, v4, v5]) : w.cell? ⟨n, 0, none⟩ = some v0 ∧ w.cell? ⟨n, 1, none⟩ = some v1 ∧ w.cell? ⟨n, 2, none⟩ = some v2 ∧ w.cell? ⟨n, 3, none⟩ = some v3 ∧ w.cell? ⟨n, 4, none⟩ = some v4 ∧ w.cell? ⟨n, 5, none⟩ = some v5 := by
  refine ⟨?_, ?_, ?_, ?_, ?_, ?_⟩ <;> (rw [h.cell]; rfl)
theorem f3 {cs : Array Value} (h : Ce w n T cs) : w.frozen? ⟨n, 0, none⟩ = false ∧ w.frozen? ⟨n, 1, none⟩ = false ∧ w.frozen? ⟨n, 2, none⟩ = false := ⟨h.fz 0, h.fz 1, h.fz 2⟩
theorem f6 {cs : Array Value} (h : Ce w n T cs) : w.frozen? ⟨n, 0, none⟩ = false ∧ w.frozen? ⟨n, 1, none⟩ = false ∧ w.frozen? ⟨n, 2, none⟩ = false ∧ w.frozen? ⟨n, 3, none⟩ = false ∧ w.frozen? ⟨n, 4, none⟩ = false ∧ w.frozen? ⟨n, 5, none⟩ = false := ⟨h.fz 0, h.fz 1, h.fz 2, h.fz 3, h.fz 4, h.fz 5⟩
/-- Three cells are stored. -/
abbrev set3 (w : World) (n : Nat) (a b c : Value) : World := ((w.setCell ⟨n, 0, none⟩ a).setCell ⟨n, 1, none⟩ b).setCell ⟨n, 2, none⟩ c
abbrev set6 (w : World) (n : Nat) (a b c d e f : Value) : World := (((((w.setCell ⟨n, 0, none⟩ a).setCell ⟨n, 1, none⟩ b).setCell ⟨n, 2, none⟩ c).setCell ⟨n, 3, none⟩ d).setCell ⟨n, 4, none⟩ e).setCell ⟨n, 5, none⟩ f
theorem sz3 (x y z a b c : Value) : ((#[x, y, z].setIfInBounds 0 a).setIfInBounds 1 b).setIfInBounds 2 c = #[a, b, c] := rfl
theorem sz6 (x y z x' y' z' a b c d e f : Value) : (((((#[x, y, z, x', y', z'].setIfInBounds 0 a).setIfInBounds 1 b).setIfInBounds 2 c).setIfInBounds 3 d).setIfInBounds 4 e).setIfInBounds 5 f = #[a, b, c, d, e, f] := rfl
theorem set3_ce {a b c x y z : Value} (h : Ce w n T #[x, y, z]) : Ce (set3 w n a b c) n T #[a, b, c] := by
  have := ((h.set 0 a).set 1 b).set 2 c
  rw [sz3] at this
  exact this
theorem set6_ce {a b c d e f x y z x' y' z' : Value} (h : Ce w n T #[x, y, z, x', y', z']) : Ce (set6 w n a b c d e f) n T #[a, b, c, d, e, f] := by
  have := (((((h.set 0 a).set 1 b).set 2 c).set 3 d).set 4 e).set 5 f
  rw [sz6] at this
  exact this
theorem set3_tr {S : Nat → Prop} {a b c : Value} {w0 : World} (h : Tr S w0 w) (hn : S n ∨ w0.heap.size ≤ n) : Tr S w0 (set3 w n a b c) := ((h.setCell hn _).setCell hn _).setCell hn _
theorem set6_tr {S : Nat → Prop} {a b c d e f : Value} {w0 : World} (h : Tr S w0 w) (hn : S n ∨ w0.heap.size ≤ n) : Tr S w0 (set6 w n a b c d e f) := (((((h.setCell hn _).setCell hn _).setCell hn _).setCell hn _).setCell hn _).setCell hn _
theorem set3_below {B : Nat} {w0 : World} (h : Below B w0 w) (hn : B ≤ n) (a b c : Value) : Below B w0 (set3 w n a b c) := ((h.setCell (p := ⟨n, 0, none⟩) hn _).setCell (p := ⟨n, 1, none⟩) hn _).setCell (p := ⟨n, 2, none⟩) hn _
theorem set6_below {B : Nat} {w0 : World} (h : Below B w0 w) (hn : B ≤ n) (a b c d e f : Value) : Below B w0 (set6 w n a b c d e f) := (((((h.setCell (p := ⟨n, 0, none⟩) hn _).setCell (p := ⟨n, 1, none⟩) hn _).setCell (p := ⟨n, 2, none⟩) hn _).setCell (p := ⟨n, 3, none⟩) hn _).setCell (p := ⟨n, 4, none⟩) hn _).setCell (p := ⟨n, 5, none⟩) hn _
end
section
variable {fn : Func} {tmps : Array Value} {n : Nat} {w : World}
theorem res3t {T : TypeId} {t u : Tmp} (h : fn.results = #[.cell t 64, .tmp u]) (e1 : tmps.getD t undef = ptr n) {v0 v1 v2 : Value} (h1 : Ce w n T #[v0, v1, v2]) :
    (results fn tmps).run Try.prog w = .ok (.tuple #[.agg #[v0, v1, v2], tmps.getD u undef]) w := by
  obtain ⟨a0, a1, a2⟩ := c3 h1
  rw [Array.getD_eq_getD_getElem?] at e1
  simp [results, h, e1, go_sem, a0, a1, a2]
theorem res3 {T : TypeId} {t : Tmp} (h : fn.results = #[.cell t 69]) (e1 : tmps.getD t undef = ptr n) {v0 v1 v2 : Value} (h1 : Ce w n T #[v0, v1, v2]) :
    (results fn tmps).run Try.prog w = .ok (.agg #[v0, v1, v2]) w := by
  obtain ⟨a0, a1, a2⟩ := c3 h1
  rw [Array.getD_eq_getD_getElem?] at e1
  simp [results, h, e1, go_sem, a0, a1, a2]
theorem res6t {T : TypeId} {t u : Tmp} (h : fn.results = #[.cell t 52, .tmp u]) (e1 : tmps.getD t undef = ptr n) {v0 v1 v2 v3 v4 v5 : Value} (h1 : Ce w n T #[v0, v1, v2, v3, v4, v5]) :
    (results fn tmps).run Try.prog w = .ok (.tuple #[.agg #[v0, v1, v2, v3, v4, v5], tmps.getD u undef]) w := by
  obtain ⟨a0, a1, a2, a3, a4, a5⟩ := c6 h1
  rw [Array.getD_eq_getD_getElem?] at e1
  simp [results, h, e1, go_sem, a0, a1, a2, a3, a4, a5]
end
end Go.Proofs.Ytocmgdhhlofajaa
