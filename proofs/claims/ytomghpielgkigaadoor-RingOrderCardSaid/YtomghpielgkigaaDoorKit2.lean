/-
  Lists whose elements have some cells each: what reads as them, what is one's own; what may have turned.
-/
import Derived.Test.YtomghpielgkigaaDoorPoint
import Derived.Maps.AppendAt
import Derived.Laws.AppendOwn
import Derived.Laws.AppendOwnNone
import Derived.Laws.Rows
import Derived.Laws.StructEq
import Derived.Lib.Hide
import Derived.Lib.SliceRun
import Derived.BigQuiet
import Derived.StillTailTactics
import Derived.Deep.RegionLaw
import Derived.Deep.LoopGhost
import Derived.Deep.AppendLies
import Derived.Deep.RegionHeld3
import Derived.Deep.CutBlock
import Derived.RangeFuncNested
import Derived.RangeFuncBound
import Derived.RangeFuncCalls
import Derived.RangeFuncLeaves
import Derived.RangeFuncBox
import Derived.Shelf.Abstract
import Derived.Shelf.RegionOpen
import Derived.WalkKit
import Derived.OwnWalkIn
import Derived.TacticsInMore
import Derived.LoopNIn
import Derived.LoopIn
import Derived.BigFrameIn
import Derived.BigFrame
import Derived.OwnWalk
import Derived.IntWalk
import Derived.Deep.QuietTactic
namespace Go.Proofs.YtomghpielgkigaaDoor
open Go.RowKit
abbrev ptr (b : Nat) : Value := .pointer (some ⟨b, 0, none⟩)
abbrev it (n : Int) : Value := .int .i64 n
/-- Of the blocks that were there just those of S may have turned. -/
structure Tr (S : Nat → Prop) (w w' : World) : Prop where
  os : w'.os = w.os
  tape : w'.tape = w.tape
  output : w'.output = w.output
  size : w.heap.size ≤ w'.heap.size
  block : ∀ k, k < w.heap.size → ¬ S k → w'.heap[k]? = w.heap[k]?
theorem Tr.refl (S : Nat → Prop) (w : World) : Tr S w w := ⟨rfl, rfl, rfl, Nat.le_refl _, fun _ _ _ => rfl⟩
theorem Tr.trans {S S' : Nat → Prop} {a b c : World} (h : Tr S a b) (k : Tr S' b c) (hS : ∀ i, S' i → S i ∨ a.heap.size ≤ i) : Tr S a c :=
  ⟨k.os.trans h.os, k.tape.trans h.tape, k.output.trans h.output, Nat.le_trans h.size k.size, fun i hi hs => (k.block i (Nat.lt_of_lt_of_le hi h.size) (fun h' => by rcases hS i h' with h' | h'; exact hs h'; omega)).trans (h.block i hi hs)⟩
theorem Tr.then {S : Nat → Prop} {a b c : World} (h : Tr S a b) (k : Tr S b c) : Tr S a c := h.trans k fun _ => .inl
theorem Tr.of_below {S : Nat → Prop} {w w' : World} (h : Below w.heap.size w w') : Tr S w w' := ⟨h.os, h.tape, h.output, h.size, fun k hk _ => h.block k hk⟩
theorem Tr.below {S : Nat → Prop} {w w' : World} {n : Nat} (h : Tr S w w') (hn : n ≤ w.heap.size) (hS : ∀ k, S k → n ≤ k) : Below n w w' :=
  ⟨h.os, h.tape, h.output, h.size, fun k hk => h.block k (by omega) (fun hs => by have := hS k hs; omega)⟩
theorem Tr.drew {S : Nat → Prop} {a w : World} (h : Tr S a w) : Tr S a w.drew := ⟨h.os, h.tape, h.output, h.size, h.block⟩
theorem Tr.alloc {S : Nat → Prop} {a w : World} (h : Tr S a w) (o : Obj) : Tr S a (w.alloc o) := h.then (Tr.of_below ((Below.refl _ w).alloc (Nat.le_refl _) o))
theorem Tr.setCell {S : Nat → Prop} {a w : World} (h : Tr S a w) {b i : Nat} (hb : S b ∨ a.heap.size ≤ b) (v : Value) : Tr S a (w.setCell ⟨b, i, none⟩ v) :=
  h.trans (S' := (· = b)) ⟨rfl, rfl, rfl, by simp, fun k _ hk => Below.heap_setCell _ _ _ _ hk⟩ (fun k hk => by rw [hk]; exact hb)
theorem Tr.grown {S : Nat → Prop} {a w w' : World} {row : Option Nat} (h : Tr S a w) (hg : w.grownBy w' row) (hr : ∀ k, row = some k → S k ∨ a.heap.size ≤ k) : Tr S a w' :=
  h.trans (S' := fun k => row = some k) ⟨hg.os, hg.tape, hg.output, hg.size, fun k hk hs => hg.block k hk (fun e => hs e.symm)⟩ hr
theorem Tr.mono {S S' : Nat → Prop} {w w' : World} (h : Tr S w w') (hS : ∀ k, S k → S' k) : Tr S' w w' := ⟨h.os, h.tape, h.output, h.size, fun k hk hs => h.block k hk (fun h' => hs (hS k h'))⟩
theorem Tr.cell {S : Nat → Prop} {w w' : World} (h : Tr S w w') {p : Addr} (hp : p.block < w.heap.size) (hS : ¬ S p.block) : w'.cell? p = w.cell? p := World.cell?_of_block (w := w) (h.block p.block hp hS)
theorem Tr.boxed {S : Nat → Prop} {w w' : World} (h : Tr S w w') {B : Nat} {t : TypeId} {v : Value} (hb : Boxed w B t v) (hS : ¬ S B) : Boxed w' B t v := (h.block B hb.lt hS).trans hb
/-- A block of some cells. -/
def Ce (w : World) (B : Nat) (T : TypeId) (cs : Array Value) : Prop := w.heap[B]? = some (.cells cs T (0, 0))
section
variable {T : TypeId} {w : World} {B : Nat} {cs : Array Value} (h : Ce w B T cs)
include h
theorem Ce.lt : B < w.heap.size := (Array.getElem?_eq_some_iff.1 h).1
theorem Ce.cell (i : Nat) : w.cell? ⟨B, i, none⟩ = cs[i]? := by simp [World.cell?, show w.heap[B]? = _ from h]
theorem Ce.frozen (i : Nat) : w.frozen? ⟨B, i, none⟩ = false := by simp [World.frozen?, show w.heap[B]? = _ from h]
theorem Ce.below {w' : World} (hb : Below w.heap.size w w') : Ce w' B T cs := (hb.block B h.lt).trans h
theorem Ce.tr {S : Nat → Prop} {w' : World} (hb : Tr S w w') (hS : ¬ S B) : Ce w' B T cs := (hb.block B h.lt hS).trans h
end
theorem Ce.new (w : World) (T : TypeId) (cs : Array Value) : Ce (w.alloc (.cells cs T)) w.heap.size T cs := heap_alloc_new w _
theorem Ce.other {w : World} {B B' i : Nat} {T : TypeId} {cs : Array Value} (h : Ce w B T cs) (hne : B ≠ B') (v : Value) : Ce (w.setCell ⟨B', i, none⟩ v) B T cs :=
  (heap_setCell_other w ⟨B', i, none⟩ B v (fun e => hne e)).trans h
theorem Ce.set {w : World} {B i : Nat} {T : TypeId} {cs : Array Value} (h : Ce w B T cs) (v : Value) : Ce (w.setCell ⟨B, i, none⟩ v) B T (cs.setIfInBounds i v) := heap_setCell_same w B i _ _ v h
/-- Two blocks of unlike types are two. -/
theorem Ce.ne {w : World} {B B' : Nat} {T T' : TypeId} {cs cs' : Array Value} (h : Ce w B T cs) (h' : Ce w B' T' cs') (hT : T ≠ T') : B ≠ B' := by
  rintro rfl
  have h' : some (Obj.cells cs T (0, 0)) = some (.cells cs' T' (0, 0)) := (show w.heap[B]? = _ from h).symm.trans h'
  injection h' with h'
  injection h' with _ h2
  exact hT h2
theorem alloc_size (w : World) (o : Obj) : (w.alloc o).heap.size = w.heap.size + 1 := by
  show (w.heap.push o).size = _
  simp
theorem one_new (w : World) (o : Obj) : Below w.heap.size w (w.alloc o) := (Below.refl _ _).alloc (Nat.le_refl _) _
theorem two_new (w : World) (c1 c2 : Array Value) (t1 t2 : TypeId) : Ce ((w.alloc (.cells c1 t1)).alloc (.cells c2 t2)) w.heap.size t1 c1 ∧ Ce ((w.alloc (.cells c1 t1)).alloc (.cells c2 t2)) (w.heap.size + 1) t2 c2 ∧
    ((w.alloc (.cells c1 t1)).alloc (.cells c2 t2)).heap.size = w.heap.size + 2 ∧ Below w.heap.size w ((w.alloc (.cells c1 t1)).alloc (.cells c2 t2)) := by
  have hb1 := one_new w (.cells c1 t1)
  have hb2 := one_new (w.alloc (.cells c1 t1)) (.cells c2 t2)
  have e := alloc_size w (.cells c1 t1)
  refine ⟨(Ce.new w t1 c1).below hb2, ?_, by rw [alloc_size, e], hb1.trans (hb2.mono (by omega))⟩
  have := Ce.new (w.alloc (.cells c1 t1)) t2 c2
  rwa [e] at this
theorem addr_any (g o j : Nat) : (⟨g, o, none⟩ : Addr).add j = ⟨g, o + j, none⟩ := by
  unfold Addr.add
  split
  · rename_i h; subst h; rfl
  · rfl
/-- A type of elements: its slice's type, its own, its cells, how an element is spelled. -/
structure El (α : Type) where
  t : TypeId
  e : TypeId
  k : Nat
  enc : α → List Value
  z : Value
  by' : Nat
  ht : Tryd.prog.underlying t = some (.slice e)
  hinf : (Tryd.prog.info? e).map (fun i => (i.zero, i.size, i.bytes)) = some (some z, k, by')
  hzc : z.cells.size = k
  h0 : 0 < k
  hk8 : k ≤ 100
  hby : by' ≤ 100
  hk : ∀ x, (enc x).length = k
  h1 : ∀ x, ∀ u ∈ enc x, u.oneCell' = true
variable {α : Type} {E : El α}
def El.fl (E : El α) (L : List α) : List Value := L.flatMap E.enc
theorem El.fl_append (L M : List α) : E.fl (L ++ M) = E.fl L ++ E.fl M := by simp [El.fl]
theorem El.fl_cons (x : α) (L : List α) : E.fl (x :: L) = E.enc x ++ E.fl L := by simp [El.fl]
theorem El.fl_length (L : List α) : (E.fl L).length = L.length * E.k := by
  induction L with
  | nil => simp [El.fl]
  | cons x r ih => rw [El.fl_cons, List.length_append, E.hk, ih, List.length_cons, Nat.succ_mul]; omega
theorem El.fl_ones (L : List α) : ∀ u ∈ E.fl L, u.oneCell' = true := by
  intro u hu
  obtain ⟨x, _, hx⟩ := List.mem_flatMap.1 hu
  exact E.h1 x u hx
theorem El.fl_at {L : List α} {i : Nat} {x : α} (h : L[i]? = some x) (j : Nat) (hj : j < E.k) : (E.fl L)[i * E.k + j]? = (E.enc x)[j]? := by
  induction L generalizing i with
  | nil => simp at h
  | cons y r ih =>
    rw [El.fl_cons]
    cases i with
    | zero =>
      have : y = x := by simpa using h
      subst this
      rw [Nat.zero_mul, Nat.zero_add, List.getElem?_append_left (by rw [E.hk]; exact hj)]
    | succ i =>
      rw [List.getElem?_append_right (by rw [E.hk, Nat.succ_mul]; omega), E.hk, ← ih (by simpa using h)]
      congr 1
      rw [Nat.succ_mul]; omega
theorem El.fl_take (L : List α) (n : Nat) : E.fl (L.take n) = (E.fl L).take (n * E.k) := by
  induction n generalizing L with
  | zero => simp [El.fl]
  | succ n ih =>
    cases L with
    | nil => simp [El.fl]
    | cons x r =>
      rw [List.take_succ_cons, El.fl_cons, El.fl_cons, ih, List.take_append, E.hk]
      rw [List.take_of_length_le (l := E.enc x) (by rw [E.hk, Nat.succ_mul]; omega)]
      congr 2
      rw [Nat.succ_mul]; omega
/-- A slice that reads as these elements. -/
def RdX (E : El α) (w : World) (v : Value) (L : List α) : Prop := ∃ a cap, v = .slice a L.length cap ∧ L.length ≤ cap ∧ cap ≤ maxLen ∧ (L = [] ∨ ∃ g o, a = some ⟨g, o, none⟩ ∧ ∀ (j : Nat) u, (E.fl L)[j]? = some u → w.cell? ⟨g, o + j, none⟩ = some u)
theorem RdX.below {w w' : World} {v : Value} {L : List α} (h : RdX E w v L) (hb : Below w.heap.size w w') : RdX E w' v L := by
  obtain ⟨a, cap, e, h1, h2, h3⟩ := h
  refine ⟨a, cap, e, h1, h2, h3.imp id fun ⟨g, o, e, hc⟩ => ⟨g, o, e, fun j u hu => ?_⟩⟩
  have := hc j u hu
  exact (hb.cell (p := ⟨g, o + j, none⟩) (w.block_lt_of_cell? _ this)).trans this
theorem RdX.nil (w : World) : RdX E w (.slice none 0 0) [] := ⟨none, 0, rfl, Nat.le_refl _, Nat.zero_le _, .inl rfl⟩
theorem RdX.shape {w : World} {v : Value} {L : List α} (h : RdX E w v L) : ∃ a cap, v = .slice a L.length cap ∧ L.length ≤ cap ∧ cap ≤ maxLen := let ⟨a, cap, e, h1, h2, _⟩ := h; ⟨a, cap, e, h1, h2⟩
theorem RdX.len {w : World} {a : Option Addr} {n cap : Nat} {L : List α} (h : RdX E w (.slice a n cap) L) : n = L.length := by obtain ⟨_, _, e, _⟩ := h; cases e; rfl
theorem RdX.none {w : World} {n cap : Nat} {L : List α} (h : RdX E w (.slice none n cap) L) : L = [] ∧ n = 0 := by
  obtain ⟨a, c, he, _, _, h3⟩ := h
  cases he
  rcases h3 with rfl | ⟨g, k, e, _⟩
  · exact ⟨rfl, rfl⟩
  · cases e
theorem RdX.at {w : World} {a : Option Addr} {n cap : Nat} {L : List α} (h : RdX E w (.slice a n cap) L) {i : Nat} {x : α} (hi : L[i]? = some x) :
    n = L.length ∧ ∃ g o, a = some ⟨g, o, .none⟩ ∧ g < w.heap.size ∧ ∀ j, j < E.k → w.cell? ⟨g, o + i * E.k + j, .none⟩ = (E.enc x)[j]? := by
  obtain ⟨a', cap', he, _, _, h3⟩ := h
  cases he
  rcases h3 with rfl | ⟨g, o, rfl, hc⟩
  · simp at hi
  · have hh : ∀ j, j < E.k → w.cell? ⟨g, o + i * E.k + j, .none⟩ = (E.enc x)[j]? := by
      intro j hj
      have h1 : j < (E.enc x).length := by rw [E.hk]; exact hj
      have := hc (i * E.k + j) (E.enc x)[j] (by rw [El.fl_at hi j hj, List.getElem?_eq_getElem h1])
      rw [← Nat.add_assoc] at this
      rw [this, List.getElem?_eq_getElem h1]
    have h1 : 0 < (E.enc x).length := by rw [E.hk]; exact E.h0
    refine ⟨rfl, g, o, rfl, w.block_lt_of_cell? (u := (E.enc x)[0]) ⟨g, o + i * E.k + 0, .none⟩ ?_, hh⟩
    rw [hh 0 E.h0, List.getElem?_eq_getElem h1]
/-- Elements of one's own, in a block from a place on. -/
def OwnX (E : El α) (w : World) (base : Nat) (v : Value) (L : List α) : Prop := w.ownsRow base E.e E.k v L.length (E.fl L)
theorem OwnX.nil (w : World) (base : Nat) : OwnX E w base (.slice none 0 0) [] := World.ownsRow_nil w base E.e E.k
theorem OwnX.rd {w : World} {base : Nat} {v : Value} {L : List α} (h : OwnX E w base v L) : RdX E w v L := by
  rcases h.2 with ⟨rfl, h0⟩ | ⟨g, cap, cur, rfl, hbg, hg, hnc, hcm, hcs, htake⟩
  · have hL : L = [] := List.eq_nil_of_length_eq_zero h0
    subst hL
    exact RdX.nil w
  · refine ⟨_, cap, rfl, hnc, hcm, .inr ⟨g, 0, rfl, fun j u hu => ?_⟩⟩
    have := World.ownsRow.cells (w := w) (base := base) (e := E.e) (size := E.k) (n := L.length) (xs := E.fl L) h (g := g) rfl j u hu
    rwa [addr_any] at this
theorem OwnX.shape {w : World} {base : Nat} {v : Value} {L : List α} (h : OwnX E w base v L) : ∃ a cap, v = .slice a L.length cap ∧ L.length ≤ cap ∧ cap ≤ maxLen := h.rd.shape
theorem OwnX.weak {w : World} {base base' : Nat} {v : Value} {L : List α} (h : OwnX E w base v L) (hb : base' ≤ base) : OwnX E w base' v L := by
  refine ⟨h.1, ?_⟩
  rcases h.2 with h | ⟨g, cap, cur, hv, hbg, h2⟩
  · exact .inl h
  · exact .inr ⟨g, cap, cur, hv, by omega, h2⟩
theorem OwnX.tr {S : Nat → Prop} {w w' : World} {base : Nat} {v : Value} {L : List α} (h : OwnX E w base v L) (hb : Tr S w w') (hS : ∀ g cs, w.heap[g]? = some (.cells cs E.e (0, 0)) → v.ownBlock = some g → ¬ S g) : OwnX E w' base v L := by
  refine ⟨h.1, ?_⟩
  rcases h.2 with h | ⟨g, cap, cur, hv, hbg, hg, h2⟩
  · exact .inl h
  · exact .inr ⟨g, cap, cur, hv, hbg, (hb.block g (Array.getElem?_eq_some_iff.1 hg).1 (hS g cur hg (by rw [hv]; rfl))).trans hg, h2⟩
theorem OwnX.below {w w' : World} {base : Nat} {v : Value} {L : List α} (h : OwnX E w base v L) (hb : Below w.heap.size w w') : OwnX E w' base v L :=
  h.tr (Tr.of_below (S := fun _ => False) hb) (fun _ _ _ _ h => h)
theorem OwnX.set {w : World} {base : Nat} {v : Value} {L : List α} (h : OwnX E w base v L) {b i : Nat} (hb : b < base) (x : Value) : OwnX E (w.setCell ⟨b, i, none⟩ x) base v L := by
  refine ⟨h.1, ?_⟩
  rcases h.2 with h | ⟨g, cap, cur, rfl, hbg, hg, h2⟩
  · exact .inl h
  · exact .inr ⟨g, cap, cur, rfl, hbg, (heap_setCell_other w ⟨b, i, none⟩ g x (fun e => by have e : g = b := e; omega)).trans hg, h2⟩
theorem OwnX.setT {w : World} {base : Nat} {v : Value} {L : List α} (h : OwnX E w base v L) {b i : Nat} {T : TypeId} {cs : Array Value} (hc : Ce w b T cs) (hT : T ≠ E.e) (x : Value) : OwnX E (w.setCell ⟨b, i, none⟩ x) base v L := by
  refine ⟨h.1, ?_⟩
  rcases h.2 with h | ⟨g, cap, cur, rfl, hbg, hg, h2⟩
  · exact .inl h
  · exact .inr ⟨g, cap, cur, rfl, hbg, (heap_setCell_other w ⟨b, i, none⟩ g x (fun e => Ce.ne (show Ce w g E.e cur from hg) hc (fun h => hT h.symm) e)).trans hg, h2⟩
theorem OwnX.block {w : World} {base : Nat} {v : Value} {L : List α} (h : OwnX E w base v L) : ∀ g, v.ownBlock = some g → base ≤ g ∧ g < w.heap.size := World.ownsRow.lt h
theorem OwnX.ne {w : World} {base B : Nat} {v : Value} {L : List α} {T : TypeId} {cs : Array Value} (h : OwnX E w base v L) (hc : Ce w B T cs) (hT : T ≠ E.e) : v.ownBlock ≠ some B := by
  intro e
  rcases h.2 with ⟨rfl, _⟩ | ⟨g, cap, cur, rfl, _, hg, _⟩
  · cases e
  · have e : g = B := by simpa [Value.ownBlock] using e
    subst e
    exact Ce.ne (show Ce w g E.e cur from hg) hc (fun h => hT h.symm) rfl
theorem run_append_none1 {w : World} (base : Nat) (v : Value) (n : Nat) (xs : List Value) (hown : w.ownsRow base E.e E.k v n xs) (ty : TypeId) (a : Option Addr) (c : Nat) :
    (Builtin.append_ #[E.t, E.t] ty #[v, .slice a 0 c]).run Tryd.prog w = .ok v w := by
  obtain ⟨i, hi, hz0, hz1, hz2⟩ := info_parts E.hinf
  rcases hown.2 with ⟨rfl, rfl⟩ | ⟨g, cap, cur, rfl, _, _, hnc, _⟩
  · cases a <;> simp [Builtin.append_, run_underlying E.ht, sizeOf, typeInfo, hi, Builtin.lenOf, Builtin.firstCells, loadCells, loadCellsFrom]
  · cases a <;> simp [Builtin.append_, run_underlying E.ht, sizeOf, typeInfo, hi, Builtin.lenOf, Builtin.firstCells, hnc, storeCells, loadCells, loadCellsFrom]
/-- What an append of readable elements onto one's own leaves, as a fact on its run. -/
theorem run_app (E : El α) {w : World} (ty : TypeId) (base : Nat) (v : Value) (L M : List α) (hown : OwnX E w base v L) (u : Value) (hr : RdX E w u M) (hn : L.length + M.length ≤ 1000000) (hbase : base ≤ w.heap.size) :
    ∃ v' w', (Builtin.append_ #[E.t, E.t] ty #[v, u]).run Tryd.prog w = .ok v' w' ∧ OwnX E w' base v' (L ++ M) ∧ w.grownBy w' v.ownBlock ∧ (v'.ownBlock = v.ownBlock ∨ v'.ownBlock = some w.heap.size) := by
  obtain ⟨i0, hi, hz0, hz1, hz2⟩ := info_parts E.hinf
  obtain ⟨ad, cap, rfl, g1, g2, g3⟩ := hr
  by_cases he : M = []
  · subst he
    exact ⟨v, w, run_append_none1 base v L.length _ hown ty ad cap, by rw [List.append_nil]; exact hown, ⟨rfl, rfl, rfl, Nat.le_refl _, fun _ _ _ => rfl⟩, .inl rfl⟩
  · rcases g3 with g3 | ⟨g, o2, rfl, hc⟩
    · exact absurd g3 he
    obtain ⟨v', w', hrun, h2, h3, _, h5⟩ := run_append_own_at (P := Tryd.prog) w base E.t ty E.e i0 _ E.k E.by' E.ht hi hz0 hz1 hz2 E.hzc E.h0 v L.length _ hown ⟨g, o2, none⟩ M.length cap (E.fl M) (El.fl_length M) (fun j y hj => by rw [addr_any]; exact hc j y hj) (El.fl_ones M) (by unfold maxLen; omega) (by
      have : (L.length + M.length) * E.by' ≤ 1000000 * 100 := Nat.mul_le_mul hn E.hby
      omega) hbase
    exact ⟨v', w', hrun, by unfold OwnX; rw [List.length_append, El.fl_append]; exact h2, h3, h5⟩
theorem wp_app (E : El α) {ops : Array Oper} {rest : List Oper} {o : Oper} {a : Act} {w : World} {Q : Exit → Act → World → Prop} (hgd : o.guard = .none) (s x : Operand)
    (ho : o.op = .call { callee := .builtin .append, args := #[s, x], argTypes := #[E.t, E.t] }) (base : Nat) (v : Value) (L M : List α) (hs : a.eval s = v) (hown : OwnX E w base v L)
    (u : Value) (hx : a.eval x = u) (hr : RdX E w u M) (hn : L.length + M.length ≤ 1000000) (hbase : base ≤ w.heap.size)
    (h : ∀ v' w', OwnX E w' base v' (L ++ M) → w.grownBy w' v.ownBlock → (v'.ownBlock = v.ownBlock ∨ v'.ownBlock = some w.heap.size) → wpList Tryd.prog ops Q rest (a.put o.dst v') w') : wpList Tryd.prog ops Q (o :: rest) a w := by
  refine wpList_plain hgd fun K hK => ?_
  obtain ⟨v', w', hrun, h2, h3, h4⟩ := run_app E o.type base v L M hown u hr hn hbase
  unfold Oper.wp execOp
  simp only [ho, resolve, invoke, builtin, Sem.run_bind, Sem.run_pure, Result.andThen_ok, List.map_toArray, List.map_cons, List.map_nil, hs, hx, hrun]
  exact hK _ _ (h v' w' h2 h3 h4)
end Go.Proofs.YtomghpielgkigaaDoor
