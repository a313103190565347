/-
  The reader of labels: how it begins, and what each call of it answers, for every text and place; no older memory is changed.
-/
import Derived.Test.YtflpceaaelampaaPiece
import Derived.Test.YtflpceaaelampaaFrame
import Derived.Deep.LoopGhost
namespace Go.Proofs.Ytflpceaaelampaa
open Go.RowKit
/-- The reader's five variables. -/
structure Sq (w : World) (b0 b1 b2 b3 b4 : Nat) (s : ByteArray) (p st : Int) (pd : Bool) (af : Int) : Prop where
  c0 : Boxed w b0 9 (.string s)
  c1 : Boxed w b1 3 (.int .i64 p)
  c2 : Boxed w b2 3 (.int .i64 st)
  c3 : Boxed w b3 4 (.bool pd)
  c4 : Boxed w b4 3 (.int .i64 af)
  d : b0 ≠ b1 ∧ b0 ≠ b2 ∧ b0 ≠ b3 ∧ b0 ≠ b4 ∧ b1 ≠ b2 ∧ b1 ≠ b3 ∧ b1 ≠ b4 ∧ b2 ≠ b3 ∧ b2 ≠ b4 ∧ b3 ≠ b4
/-- The blocks that the reader writes. -/
def SqB (b1 b2 b3 b4 : Nat) : Nat → Prop := fun k => k = b1 ∨ k = b2 ∨ k = b3 ∨ k = b4
theorem seq_world (w : World) (o0 o1 o2 o3 o4 : Obj) : Below w.heap.size w ((((((w.alloc o0).alloc o1).alloc o2).alloc o3).alloc o4).drew) :=
  ((((((Below.refl _ w).alloc (Nat.le_refl _) _).alloc (by simp) _).alloc (by simp; omega) _).alloc (by simp; omega) _).alloc (by simp; omega) _).drew
theorem seq_boxes (w : World) (t0 t1 t2 t3 t4 : TypeId) (v0 v1 v2 v3 v4 : Value) :
    let w' := ((((((w.alloc (.cells #[v0] t0)).alloc (.cells #[v1] t1)).alloc (.cells #[v2] t2)).alloc (.cells #[v3] t3)).alloc (.cells #[v4] t4)).drew)
    Boxed w' w.heap.size t0 v0 ∧ Boxed w' (w.heap.size + 1) t1 v1 ∧ Boxed w' (w.heap.size + 2) t2 v2 ∧ Boxed w' (w.heap.size + 3) t3 v3 ∧ Boxed w' (w.heap.size + 4) t4 v4 := by
  intro w'
  have h0 := Boxed.new w t0 v0
  have h1 := Boxed.new (w.alloc (.cells #[v0] t0)) t1 v1
  have h2 := Boxed.new ((w.alloc (.cells #[v0] t0)).alloc (.cells #[v1] t1)) t2 v2
  have h3 := Boxed.new (((w.alloc (.cells #[v0] t0)).alloc (.cells #[v1] t1)).alloc (.cells #[v2] t2)) t3 v3
  have h4 := Boxed.new ((((w.alloc (.cells #[v0] t0)).alloc (.cells #[v1] t1)).alloc (.cells #[v2] t2)).alloc (.cells #[v3] t3)) t4 v4
  simp only [World.size_alloc] at h1 h2 h3 h4
  exact ⟨(((h0.alloc _).alloc _).alloc _).alloc _, ((h1.alloc _).alloc _).alloc _, (h2.alloc _).alloc _, h3.alloc _, h4⟩
def SeqPost (s : ByteArray) (a : Int) (w : World) (e : Ending) (w' : World) : Prop := ∃ b2 b3 b4,
  e = .returned (.func (.func 83) #[] #[ptr w.heap.size, ptr (w.heap.size + 1), ptr b2, ptr b3, ptr b4]) ∧ Sq w' w.heap.size (w.heap.size + 1) b2 b3 b4 s a a false a ∧ w.heap.size ≤ b2 ∧ w.heap.size ≤ b3 ∧ w.heap.size ≤ b4 ∧ Below w.heap.size w w'
theorem seq_post {s : ByteArray} {a : Int} {w : World} {t2 t3 t4 : TypeId} {v2 v3 v4 : Value} (i2 i3 i4 : Nat)
    (h2 : Boxed ((((((w.alloc (.cells #[.string s] 9)).alloc (.cells #[.int .i64 a] 3)).alloc (.cells #[v2] t2)).alloc (.cells #[v3] t3)).alloc (.cells #[v4] t4)).drew) (w.heap.size + i2) 3 (.int .i64 a))
    (h3 : Boxed ((((((w.alloc (.cells #[.string s] 9)).alloc (.cells #[.int .i64 a] 3)).alloc (.cells #[v2] t2)).alloc (.cells #[v3] t3)).alloc (.cells #[v4] t4)).drew) (w.heap.size + i3) 4 (.bool false))
    (h4 : Boxed ((((((w.alloc (.cells #[.string s] 9)).alloc (.cells #[.int .i64 a] 3)).alloc (.cells #[v2] t2)).alloc (.cells #[v3] t3)).alloc (.cells #[v4] t4)).drew) (w.heap.size + i4) 3 (.int .i64 a))
    (hd : 2 ≤ i2 ∧ 2 ≤ i3 ∧ 2 ≤ i4 ∧ i2 ≠ i3 ∧ i2 ≠ i4 ∧ i3 ≠ i4) :
    SeqPost s a w (.returned (.func (.func 83) #[] #[ptr w.heap.size, ptr (w.heap.size + 1), ptr (w.heap.size + i2), ptr (w.heap.size + i3), ptr (w.heap.size + i4)])) ((((((w.alloc (.cells #[.string s] 9)).alloc (.cells #[.int .i64 a] 3)).alloc (.cells #[v2] t2)).alloc (.cells #[v3] t3)).alloc (.cells #[v4] t4)).drew) := by
  obtain ⟨k0, k1, _⟩ := seq_boxes w 9 3 t2 t3 t4 (.string s) (.int .i64 a) v2 v3 v4
  exact ⟨_, _, _, rfl, ⟨k0, k1, h2, h3, h4, by omega⟩, by omega, by omega, by omega, seq_world _ _ _ _ _ _⟩
set_option maxRecDepth 100000 in
set_option maxHeartbeats 4000000 in
theorem seq_any (s : ByteArray) (a : Int) (w : World) :
    Calls Try.prog 79 #[.string s, .int .i64 a] w (SeqPost s a w) := by
  go_enter Try.func79, Try.ntmps79
  go_wp2
  go_region
  all_goals go_wp2
  all_goals refine bodyPost_ret (results_tmp rfl _ _ _) rfl ?_
  all_goals simp only [Array.getD]
  all_goals first
    | exact (fun (k2 : Boxed _ (w.heap.size + 2) _ _) (k3 : Boxed _ (w.heap.size + 3) _ _) (k4 : Boxed _ (w.heap.size + 4) _ _) => seq_post 2 4 3 k2 k4 k3 (by omega)) (seq_boxes w 9 3 3 3 4 (.string s) (.int .i64 a) (.int .i64 a) (.int .i64 a) (.bool false)).2.2.1 (seq_boxes w 9 3 3 3 4 (.string s) (.int .i64 a) (.int .i64 a) (.int .i64 a) (.bool false)).2.2.2.1 (seq_boxes w 9 3 3 3 4 (.string s) (.int .i64 a) (.int .i64 a) (.int .i64 a) (.bool false)).2.2.2.2
    | exact (fun (k2 : Boxed _ (w.heap.size + 2) _ _) (k3 : Boxed _ (w.heap.size + 3) _ _) (k4 : Boxed _ (w.heap.size + 4) _ _) => seq_post 3 4 2 k3 k4 k2 (by omega)) (seq_boxes w 9 3 3 3 4 (.string s) (.int .i64 a) (.int .i64 a) (.int .i64 a) (.bool false)).2.2.1 (seq_boxes w 9 3 3 3 4 (.string s) (.int .i64 a) (.int .i64 a) (.int .i64 a) (.bool false)).2.2.2.1 (seq_boxes w 9 3 3 3 4 (.string s) (.int .i64 a) (.int .i64 a) (.int .i64 a) (.bool false)).2.2.2.2
    | exact (fun (k2 : Boxed _ (w.heap.size + 2) _ _) (k3 : Boxed _ (w.heap.size + 3) _ _) (k4 : Boxed _ (w.heap.size + 4) _ _) => seq_post 2 3 4 k2 k3 k4 (by omega)) (seq_boxes w 9 3 3 4 3 (.string s) (.int .i64 a) (.int .i64 a) (.bool false) (.int .i64 a)).2.2.1 (seq_boxes w 9 3 3 4 3 (.string s) (.int .i64 a) (.int .i64 a) (.bool false) (.int .i64 a)).2.2.2.1 (seq_boxes w 9 3 3 4 3 (.string s) (.int .i64 a) (.int .i64 a) (.bool false) (.int .i64 a)).2.2.2.2
    | exact (fun (k2 : Boxed _ (w.heap.size + 2) _ _) (k3 : Boxed _ (w.heap.size + 3) _ _) (k4 : Boxed _ (w.heap.size + 4) _ _) => seq_post 4 3 2 k4 k3 k2 (by omega)) (seq_boxes w 9 3 3 4 3 (.string s) (.int .i64 a) (.int .i64 a) (.bool false) (.int .i64 a)).2.2.1 (seq_boxes w 9 3 3 4 3 (.string s) (.int .i64 a) (.int .i64 a) (.bool false) (.int .i64 a)).2.2.2.1 (seq_boxes w 9 3 3 4 3 (.string s) (.int .i64 a) (.int .i64 a) (.bool false) (.int .i64 a)).2.2.2.2
    | exact (fun (k2 : Boxed _ (w.heap.size + 2) _ _) (k3 : Boxed _ (w.heap.size + 3) _ _) (k4 : Boxed _ (w.heap.size + 4) _ _) => seq_post 3 2 4 k3 k2 k4 (by omega)) (seq_boxes w 9 3 4 3 3 (.string s) (.int .i64 a) (.bool false) (.int .i64 a) (.int .i64 a)).2.2.1 (seq_boxes w 9 3 4 3 3 (.string s) (.int .i64 a) (.bool false) (.int .i64 a) (.int .i64 a)).2.2.2.1 (seq_boxes w 9 3 4 3 3 (.string s) (.int .i64 a) (.bool false) (.int .i64 a) (.int .i64 a)).2.2.2.2
    | exact (fun (k2 : Boxed _ (w.heap.size + 2) _ _) (k3 : Boxed _ (w.heap.size + 3) _ _) (k4 : Boxed _ (w.heap.size + 4) _ _) => seq_post 4 2 3 k4 k2 k3 (by omega)) (seq_boxes w 9 3 4 3 3 (.string s) (.int .i64 a) (.bool false) (.int .i64 a) (.int .i64 a)).2.2.1 (seq_boxes w 9 3 4 3 3 (.string s) (.int .i64 a) (.bool false) (.int .i64 a) (.int .i64 a)).2.2.2.1 (seq_boxes w 9 3 4 3 3 (.string s) (.int .i64 a) (.bool false) (.int .i64 a) (.int .i64 a)).2.2.2.2
end Go.Proofs.Ytflpceaaelampaa
