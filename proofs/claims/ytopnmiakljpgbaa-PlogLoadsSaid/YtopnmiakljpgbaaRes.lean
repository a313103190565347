/-
  Blocks of some cells; what a call hands back where results lie in variables of some cells.
-/
import Derived.Test.YtopnmiakljpgbaaAsks
import Derived.Tactics
namespace Go.Proofs.Ytopnmiakljpgbaa
open Go.RowKit
/-- A block of some cells. -/
def Ce (w : World) (B : Nat) (T : TypeId) (cs : Array Value) : Prop := w.heap[B]? = some (.cells cs T (0, 0))
section
variable {T : TypeId} {w : World} {B : Nat} {cs : Array Value} (h : Ce w B T cs)
include h
theorem Ce.lt : B < w.heap.size := (Array.getElem?_eq_some_iff.1 h).1
theorem Ce.cell (i : Nat) : w.cell? ⟨B, i, none⟩ = cs[i]? := by simp [World.cell?, show w.heap[B]? = _ from h]
theorem Ce.frozen (i : Nat) : w.frozen? ⟨B, i, none⟩ = false := by simp [World.frozen?, show w.heap[B]? = _ from h]
theorem Ce.below {w' : World} (hb : Below w.heap.size w w') : Ce w' B T cs := (hb.block B h.lt).trans h
end
theorem Ce.new (w : World) (T : TypeId) (cs : Array Value) : Ce (w.alloc (.cells cs T)) w.heap.size T cs := heap_alloc_new w _
theorem Ce.other {w : World} {B B' i : Nat} {T : TypeId} {cs : Array Value} (h : Ce w B T cs) (hne : B ≠ B') (v : Value) : Ce (w.setCell ⟨B', i, none⟩ v) B T cs :=
  (heap_setCell_other w ⟨B', i, none⟩ B v (fun e => hne e)).trans h
theorem Ce.set {w : World} {B i : Nat} {T : TypeId} {cs : Array Value} (h : Ce w B T cs) (v : Value) : Ce (w.setCell ⟨B, i, none⟩ v) B T (cs.setIfInBounds i v) := heap_setCell_same w B i _ _ v h
theorem alloc_size (w : World) (o : Obj) : (w.alloc o).heap.size = w.heap.size + 1 := by
  show (w.heap.push o).size = _
  simp
theorem one_new (w : World) (o : Obj) : Below w.heap.size w (w.alloc o) := (Below.refl _ _).alloc (Nat.le_refl _) _
theorem two_new (w : World) (c1 c2 : Array Value) (t1 t2 : TypeId) : Ce ((w.alloc (.cells c1 t1)).alloc (.cells c2 t2)) w.heap.size t1 c1 ∧ Ce ((w.alloc (.cells c1 t1)).alloc (.cells c2 t2)) (w.heap.size + 1) t2 c2 ∧
    ((w.alloc (.cells c1 t1)).alloc (.cells c2 t2)).heap.size = w.heap.size + 2 ∧ Below w.heap.size w ((w.alloc (.cells c1 t1)).alloc (.cells c2 t2)) := by
  have hb1 := one_new w (.cells c1 t1)
  have hb2 := one_new (w.alloc (.cells c1 t1)) (.cells c2 t2)
  have e := alloc_size w (.cells c1 t1)
  refine ⟨(Ce.new w t1 c1).below hb2, ?_, by rw [alloc_size, e], hb1.trans (hb2.mono (by omega))⟩
  have := Ce.new (w.alloc (.cells c1 t1)) t2 c2
  rwa [e] at this
theorem three_new (w : World) (c1 c2 c3 : Array Value) (t1 t2 t3 : TypeId) : let wA := ((w.alloc (.cells c1 t1)).alloc (.cells c2 t2)).alloc (.cells c3 t3)
    Ce wA w.heap.size t1 c1 ∧ Ce wA (w.heap.size + 1) t2 c2 ∧ Ce wA (w.heap.size + 2) t3 c3 ∧ wA.heap.size = w.heap.size + 3 ∧ Below w.heap.size w wA := by
  intro wA
  obtain ⟨h1, h2, h3, h4⟩ := two_new w c1 c2 t1 t2
  have hb := one_new ((w.alloc (.cells c1 t1)).alloc (.cells c2 t2)) (.cells c3 t3)
  have hn := Ce.new ((w.alloc (.cells c1 t1)).alloc (.cells c2 t2)) t3 c3
  rw [h3] at hn
  exact ⟨h1.below hb, h2.below hb, hn, by show (World.alloc _ _).heap.size = _; rw [alloc_size, h3], h4.trans (hb.mono (by rw [h3]; omega))⟩
/-- A whole struct of three cells stored. -/
abbrev set3 (w : World) (n : Nat) (v0 v1 v2 : Value) : World := ((w.setCell ⟨n, 0, none⟩ v0).setCell ⟨n, 1, none⟩ v1).setCell ⟨n, 2, none⟩ v2
theorem set3_ce {w : World} {n : Nat} {T : TypeId} {c0 c1 c2 : Value} (b : Ce w n T #[c0, c1, c2]) (v0 v1 v2 : Value) : Ce (set3 w n v0 v1 v2) n T #[v0, v1, v2] :=
  ((b.set v0 (i := 0)).set v1 (i := 1)).set v2 (i := 2)
theorem set3_keep {w : World} {n m : Nat} {T : TypeId} {cs : Array Value} (h : Ce w n T cs) (hne : n ≠ m) (v0 v1 v2 : Value) : Ce (set3 w m v0 v1 v2) n T cs :=
  ((h.other hne v0 (i := 0)).other hne v1 (i := 1)).other hne v2 (i := 2)
theorem set3_below {w w2 : World} {n : Nat} (h : Below w.heap.size w w2) (hn : w.heap.size ≤ n) (v0 v1 v2 : Value) : Below w.heap.size w (set3 w2 n v0 v1 v2) :=
  ((h.setCell (p := ⟨n, 0, none⟩) hn v0).setCell (p := ⟨n, 1, none⟩) hn v1).setCell (p := ⟨n, 2, none⟩) hn v2
theorem c3 {w : World} {n : Nat} {T : TypeId} {v0 v1 v2 : Value} (h : Ce w n T #[v0, v1, v2]) : w.cell? ⟨n, 0, none⟩ = some v0 ∧ w.cell? ⟨n, 1, none⟩ = some v1 ∧ w.cell? ⟨n, 2, none⟩ = some v2 := by
  refine ⟨?_, ?_, ?_⟩ <;> (rw [h.cell]; rfl)
theorem f3 {w : World} {n : Nat} {T : TypeId} {cs : Array Value} (h : Ce w n T cs) : w.frozen? ⟨n, 0, none⟩ = false ∧ w.frozen? ⟨n, 1, none⟩ = false ∧ w.frozen? ⟨n, 2, none⟩ = false :=
  ⟨h.frozen 0, h.frozen 1, h.frozen 2⟩
theorem lb_of {w : World} {B : Nat} {base bt : Int} {v : Value} (h : Ce w B 24 #[it base, it bt, v]) : LB w B base bt v := ⟨(c3 h).1, (c3 h).2.1, (c3 h).2.2⟩
section
variable {fn : Func} {w : World} {tmps : Array Value} {n m : Nat} {v0 v1 v2 : Value}
theorem resE {t u : Tmp} (h : fn.results = #[.cell t 31, .tmp u]) (e1 : tmps.getD t undef = ptr n) (h1 : Ce w n 31 #[v0, v1, v2]) :
    (results fn tmps).run Try.prog w = .ok (.tuple #[.agg #[v0, v1, v2], tmps.getD u undef]) w := by
  obtain ⟨a0, a1, a2⟩ := c3 h1
  rw [Array.getD_eq_getD_getElem?] at e1
  simp [results, h, e1, go_sem, a0, a1, a2]
theorem resL {t : Tmp} (h : fn.results = #[.cell t 24]) (e1 : tmps.getD t undef = ptr n) (h1 : Ce w n 24 #[v0, v1, v2]) :
    (results fn tmps).run Try.prog w = .ok (.agg #[v0, v1, v2]) w := by
  obtain ⟨a0, a1, a2⟩ := c3 h1
  rw [Array.getD_eq_getD_getElem?] at e1
  simp [results, h, e1, go_sem, a0, a1, a2]
theorem resLt {t u : Tmp} (h : fn.results = #[.cell t 24, .tmp u]) (e1 : tmps.getD t undef = ptr n) (h1 : Ce w n 24 #[v0, v1, v2]) :
    (results fn tmps).run Try.prog w = .ok (.tuple #[.agg #[v0, v1, v2], tmps.getD u undef]) w := by
  obtain ⟨a0, a1, a2⟩ := c3 h1
  rw [Array.getD_eq_getD_getElem?] at e1
  simp [results, h, e1, go_sem, a0, a1, a2]
end
end Go.Proofs.Ytopnmiakljpgbaa
