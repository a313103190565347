/-
  What is left as it was where just some blocks, and new ones, may have turned; lists of items and of connections in memory; a network, the program's or the document's.
-/
import Derived.Test.YtocmgdhhlofajaaProg
import Derived.Test.YtocmgdhhlofajaaMath
import Derived.WalkKit
import Derived.OwnWalk
import Derived.Maps.AppendAt
import Derived.Lib.Hide
import Derived.Laws.Rows
import Derived.Laws.AppendOwn
import Derived.Laws.EntriesVeiled
import Derived.Laws.StructEq
import Derived.BigFrame
import Derived.BigRegion
import Derived.BigQuiet
import Derived.IntWalk
import Derived.Outline
import Derived.StillTailTactics
import Derived.Deep.RegionLaw
import Derived.Deep.LoopGhost
import Derived.Deep.AppendLies
import Derived.Deep.RegionHeld3
import Derived.Deep.CutBlock
namespace Go.Proofs.Ytocmgdhhlofajaa
open Go.RowKit
abbrev ptr (b : Nat) : Value := .pointer (some ⟨b, 0, none⟩)
/-- Of the blocks that were there just those of S may have turned. -/
structure Tr (S : Nat → Prop) (w w' : World) : Prop where
  os : w'.os = w.os
  tape : w'.tape = w.tape
  output : w'.output = w.output
  size : w.heap.size ≤ w'.heap.size
  block : ∀ k, k < w.heap.size → ¬ S k → w'.heap[k]? = w.heap[k]?
/-- S, and all that is new since the heap had so many blocks. -/
def andNew (S : Nat → Prop) (n : Nat) : Nat → Prop := fun k => S k ∨ n ≤ k
theorem Tr.refl (S : Nat → Prop) (w : World) : Tr S w w := ⟨rfl, rfl, rfl, Nat.le_refl _, fun _ _ _ => rfl⟩
theorem Tr.trans {S S' : Nat → Prop} {a b c : World} (h : Tr S a b) (k : Tr S' b c) (hS : ∀ i, S' i → S i ∨ a.heap.size ≤ i) : Tr S a c :=
  ⟨k.os.trans h.os, k.tape.trans h.tape, k.output.trans h.output, Nat.le_trans h.size k.size, fun i hi hs => (k.block i (Nat.lt_of_lt_of_le hi h.size) (fun h' => by rcases hS i h' with h' | h'; exact hs h'; omega)).trans (h.block i hi hs)⟩
theorem Tr.then {S : Nat → Prop} {a b c : World} (h : Tr S a b) (k : Tr S b c) : Tr S a c := h.trans k fun _ => .inl
theorem Tr.of_below {S : Nat → Prop} {w w' : World} (h : Below w.heap.size w w') : Tr S w w' := ⟨h.os, h.tape, h.output, h.size, fun k hk _ => h.block k hk⟩
theorem Tr.below {S : Nat → Prop} {w w' : World} {n : Nat} (h : Tr S w w') (hn : n ≤ w.heap.size) (hS : ∀ k, S k → n ≤ k) : Below n w w' :=
  ⟨h.os, h.tape, h.output, h.size, fun k hk => h.block k (by omega) (fun hs => by have := hS k hs; omega)⟩
theorem Tr.drew {S : Nat → Prop} {a w : World} (h : Tr S a w) : Tr S a w.drew := ⟨h.os, h.tape, h.output, h.size, h.block⟩
theorem Tr.alloc {S : Nat → Prop} {a w : World} (h : Tr S a w) (o : Obj) : Tr S a (w.alloc o) := h.then (Tr.of_below ((Below.refl _ w).alloc (Nat.le_refl _) o))
theorem Tr.setCell {S : Nat → Prop} {a w : World} (h : Tr S a w) {b i : Nat} (hb : S b ∨ a.heap.size ≤ b) (v : Value) : Tr S a (w.setCell ⟨b, i, none⟩ v) :=
  h.trans (S' := (· = b)) ⟨rfl, rfl, rfl, by simp, fun k _ hk => Below.heap_setCell _ _ _ _ hk⟩ (fun k hk => by rw [hk]; exact hb)
theorem Tr.grown {S : Nat → Prop} {a w w' : World} {row : Option Nat} (h : Tr S a w) (hg : w.grownBy w' row) (hr : ∀ k, row = some k → S k ∨ a.heap.size ≤ k) : Tr S a w' :=
  h.trans (S' := fun k => row = some k) ⟨hg.os, hg.tape, hg.output, hg.size, fun k hk hs => hg.block k hk (fun e => hs e.symm)⟩ hr
theorem Tr.mono {S S' : Nat → Prop} {w w' : World} (h : Tr S w w') (hS : ∀ k, S k → S' k) : Tr S' w w' := ⟨h.os, h.tape, h.output, h.size, fun k hk hs => h.block k hk (fun h' => hs (hS k h'))⟩
theorem Tr.cell {S : Nat → Prop} {w w' : World} (h : Tr S w w') {p : Addr} (hp : p.block < w.heap.size) (hS : ¬ S p.block) : w'.cell? p = w.cell? p := World.cell?_of_block (h.block _ hp hS)
theorem below_drewN (w : World) : ∀ n : Nat, Below w.heap.size w (w.drewN n)
  | 0 => Below.refl _ _
  | n + 1 => (below_drewN w n).drew
/-! ### Lists of structs as cells -/
def cs {α : Type} (c : α → List Value) (X : List α) : List Value := X.flatMap c
theorem cs_append {α : Type} (c : α → List Value) (X Y : List α) : cs c (X ++ Y) = cs c X ++ cs c Y := by simp [cs]
theorem cs_one {α : Type} (c : α → List Value) (x : α) : cs c [x] = c x := by simp [cs]
theorem cs_length {α : Type} {c : α → List Value} {z : Nat} (hc : ∀ x, (c x).length = z) : ∀ X : List α, (cs c X).length = X.length * z
  | [] => by simp [cs]
  | x :: X => by
    have := cs_length hc X
    unfold cs at this ⊢
    rw [List.flatMap_cons, List.length_append, this, hc, List.length_cons, Nat.succ_mul, Nat.add_comm]
theorem cs_drop {α : Type} {c : α → List Value} {z : Nat} (hc : ∀ x, (c x).length = z) (X : List α) (k : Nat) : (cs c X).drop (k * z) = cs c (X.drop k) := by
  by_cases h : k ≤ X.length
  · have e : (cs c (X.take k)).length = k * z := by rw [cs_length hc, List.length_take, Nat.min_eq_left h]
    have : cs c X = cs c (X.take k) ++ cs c (X.drop k) := by rw [← cs_append, List.take_append_drop]
    rw [this, ← e, List.drop_left]
  · rw [List.drop_of_length_le (l := X) (by omega), List.drop_of_length_le (l := cs c X) (by rw [cs_length hc]; exact Nat.mul_le_mul_right _ (by omega))]
    rfl
theorem cs_take {α : Type} {c : α → List Value} {z : Nat} (hc : ∀ x, (c x).length = z) (X : List α) (k : Nat) : (cs c X).take (k * z) = cs c (X.take k) := by
  by_cases h : k ≤ X.length
  · have e : (cs c (X.take k)).length = k * z := by rw [cs_length hc, List.length_take, Nat.min_eq_left h]
    have : cs c X = cs c (X.take k) ++ cs c (X.drop k) := by rw [← cs_append, List.take_append_drop]
    rw [this, ← e, List.take_left]
  · rw [List.take_of_length_le (l := X) (by omega), List.take_of_length_le (l := cs c X) (by rw [cs_length hc]; exact Nat.mul_le_mul_right _ (by omega))]
theorem cs_get {α : Type} {c : α → List Value} {z : Nat} (hc : ∀ x, (c x).length = z) {X : List α} {k : Nat} {x : α} (h : X[k]? = some x) (j : Nat) (hj : j < z) : (cs c X)[k * z + j]? = (c x)[j]? := by
  have e := cs_drop hc X k
  obtain ⟨hk, hx⟩ := List.getElem?_eq_some_iff.1 h
  rw [List.drop_eq_getElem_cons hk, hx] at e
  rw [← List.getElem?_drop, e]
  show (c x ++ _)[j]? = _
  rw [List.getElem?_append_left (by rw [hc]; exact hj)]
abbrev ic (x : It) : List Value := [.int .i64 x.num, .int .i64 x.kind, .int .i64 x.frm, .int .i64 x.dst, .int .i64 x.conn, .string x.body]
abbrev lc (l : Lk) : List Value := [.int .i64 l.num, .int .i64 l.a, .int .i64 l.b]
theorem ic_len (x : It) : (ic x).length = 6 := rfl
theorem lc_len (x : Lk) : (lc x).length = 3 := rfl
theorem ones_i (X : List It) : ∀ u ∈ cs ic X, u.oneCell' = true := by
  intro u hu
  obtain ⟨q, _, hq⟩ := List.mem_flatMap.1 hu
  simp at hq
  rcases hq with rfl | rfl | rfl | rfl | rfl | rfl <;> rfl
theorem ones_l (X : List Lk) : ∀ u ∈ cs lc X, u.oneCell' = true := by
  intro u hu
  obtain ⟨q, _, hq⟩ := List.mem_flatMap.1 hu
  simp at hq
  rcases hq with rfl | rfl | rfl <;> rfl
/-- A slice that owns a list. -/
def Rw {α : Type} (c : α → List Value) (e : TypeId) (z : Nat) (w : World) (v : Value) (X : List α) : Prop := w.ownsRow 0 e z v X.length (cs c X)
theorem add_lit (b off j : Nat) : (⟨b, off, none⟩ : Addr).add j = ⟨b, off + j, none⟩ := by unfold Addr.add; split <;> simp_all
section
variable {α : Type} {c : α → List Value} {e : TypeId} {z : Nat} {w : World} {v : Value} {X : List α}
theorem Rw.nil (w : World) : Rw c e z w (.slice none 0 0) [] := World.ownsRow_nil _ _ _ _
theorem Rw.lt (h : Rw c e z w v X) : ∀ k, v.ownBlock = some k → k < w.heap.size := fun k hk => (World.ownsRow.lt h k hk).2
theorem Rw.shape (h : Rw c e z w v X) : ∃ a cap, v = .slice a X.length cap ∧ X.length ≤ cap ∧ cap ≤ maxLen := by
  rcases h.2 with ⟨rfl, h0⟩ | ⟨g, cap, cur, rfl, _, hg, h1, h2, _⟩
  · exact ⟨none, 0, by rw [h0], by omega, Nat.zero_le _⟩
  · exact ⟨_, cap, rfl, h1, h2⟩
theorem Rw.tr {S : Nat → Prop} {w' : World} (h : Rw c e z w v X) (ht : Tr S w w') (hS : ∀ k, v.ownBlock = some k → ¬ S k) : Rw c e z w' v X := by
  refine ⟨h.1, ?_⟩
  rcases h.2 with h | ⟨g, cap, cur, rfl, h0, hg, r⟩
  · exact .inl h
  · exact .inr ⟨g, cap, cur, rfl, h0, (ht.block g (Array.getElem?_eq_some_iff.1 hg).1 (hS g rfl)).trans hg, r⟩
theorem Rw.below {w' : World} (h : Rw c e z w v X) (hb : Below w.heap.size w w') : Rw c e z w' v X := h.tr (S := fun _ => False) (Tr.of_below hb) (fun _ _ h => h)
/-- Where the list's cells lie. -/
theorem Rw.cells (h : Rw c e z w v X) (hc : ∀ x, (c x).length = z) (hn : 0 < X.length) : ∃ g cap, v = .slice (some ⟨g, 0, none⟩) X.length cap ∧ X.length ≤ cap ∧ g < w.heap.size ∧ ∀ k x, X[k]? = some x → ∀ j u, (c x)[j]? = some u → w.cell? ⟨g, k * z + j, none⟩ = some u := by
  rcases h.2 with ⟨_, h0⟩ | ⟨g, cap, cur, rfl, _, hg, h1, h2, h3, ht⟩
  · omega
  · refine ⟨g, cap, rfl, h1, (Array.getElem?_eq_some_iff.1 hg).1, fun k x hx j u hu => ?_⟩
    have hj : j < z := by have := (List.getElem?_eq_some_iff.1 hu).1; rwa [hc] at this
    have := cs_get hc hx j hj
    rw [hu, ← ht, List.getElem?_take] at this
    split at this
    · rw [cell_of_row w g _ cur e (0, 0) hg]
      simpa using this
    · cases this
end
theorem Rw.not_cells {α : Type} {c : α → List Value} {e T : TypeId} {z : Nat} {w : World} {v : Value} {X : List α} (h : Rw c e z w v X) {B : Nat} {cur : Array Value} {f : Nat × Nat} (hb : w.heap[B]? = some (.cells cur T f)) (hT : T ≠ e) : v.ownBlock ≠ some B := by
  rcases h.2 with ⟨rfl, _⟩ | ⟨g, cap, cur', rfl, _, hg, _⟩
  · simp [Value.ownBlock]
  · intro e'
    obtain rfl : g = B := by simpa [Value.ownBlock] using e'
    rw [hb] at hg
    simp at hg
    exact hT hg.2.1
theorem Rw.apart {α β : Type} {c : α → List Value} {c' : β → List Value} {e e' : TypeId} {z z' : Nat} {w : World} {v v' : Value} {X : List α} {Y : List β} (h : Rw c e z w v X) (h' : Rw c' e' z' w v' Y) (hT : e ≠ e') : ∀ k, v.ownBlock = some k → v'.ownBlock ≠ some k := by
  intro k hk
  rcases h.2 with ⟨rfl, _⟩ | ⟨g, cap, cur, rfl, _, hg, _⟩
  · simp [Value.ownBlock] at hk
  · obtain rfl : g = k := by simpa [Value.ownBlock] using hk
    exact h'.not_cells hg hT
/-! ### A network in memory: T its type, ti and tl the types of its items and connections. -/
structure PV (T ti tl : TypeId) (S : Nat → Prop) (b : Nat) (s : St) (vi vl : Value) (w : World) : Prop where
  blk : w.heap[b]? = some (.cells #[vi, vl, .int .i64 (s.puts : Int), .int .i64 (s.opens : Int)] T (0, 0))
  ri : Rw ic ti 6 w vi s.its
  rl : Rw lc tl 3 w vl s.lks
  si : ∀ k, vi.ownBlock = some k → S k
  sl : ∀ k, vl.ownBlock = some k → S k
  own : S b
  ne : T ≠ ti ∧ T ≠ tl ∧ ti ≠ tl
def PN (T ti tl : TypeId) (S : Nat → Prop) (b : Nat) (s : St) (w : World) : Prop := ∃ vi vl, PV T ti tl S b s vi vl w
/-- What a call leaves. -/
def Lft (T ti tl : TypeId) (S : Nat → Prop) (b : Nat) (s : St) (w w' : World) : Prop := PN T ti tl (andNew S w.heap.size) b s w' ∧ Tr S w w'
section
variable {T ti tl : TypeId} {S : Nat → Prop} {b : Nat} {s : St} {vi vl : Value} {w : World}
theorem PV.lt (h : PV T ti tl S b s vi vl w) : b < w.heap.size := (Array.getElem?_eq_some_iff.1 h.blk).1
theorem PV.tr {S2 : Nat → Prop} {w' : World} (h : PV T ti tl S b s vi vl w) (ht : Tr S2 w w') (hd : ∀ k, k < w.heap.size → S k → ¬ S2 k) : PV T ti tl S b s vi vl w' :=
  ⟨(ht.block b h.lt (hd _ h.lt h.own)).trans h.blk, h.ri.tr ht (fun k hk => hd k (h.ri.lt k hk) (h.si k hk)), h.rl.tr ht (fun k hk => hd k (h.rl.lt k hk) (h.sl k hk)), h.si, h.sl, h.own, h.ne⟩
theorem PV.mono {S' : Nat → Prop} (h : PV T ti tl S b s vi vl w) (hS : ∀ k, S k → S' k) : PV T ti tl S' b s vi vl w :=
  ⟨h.blk, h.ri, h.rl, fun k hk => hS k (h.si k hk), fun k hk => hS k (h.sl k hk), hS _ h.own, h.ne⟩
theorem PV.below {w' : World} (h : PV T ti tl S b s vi vl w) (hb : Below w.heap.size w w') : PV T ti tl S b s vi vl w' := h.tr (S2 := fun _ => False) (Tr.of_below hb) (fun _ _ _ h => h)
theorem PV.c0 (h : PV T ti tl S b s vi vl w) : w.cell? ⟨b, 0, none⟩ = some vi := by simp [World.cell?, h.blk]
theorem PV.c1 (h : PV T ti tl S b s vi vl w) : w.cell? ⟨b, 1, none⟩ = some vl := by simp [World.cell?, h.blk]
theorem PV.c2 (h : PV T ti tl S b s vi vl w) : w.cell? ⟨b, 2, none⟩ = some (.int .i64 (s.puts : Int)) := by simp [World.cell?, h.blk]
theorem PV.c3 (h : PV T ti tl S b s vi vl w) : w.cell? ⟨b, 3, none⟩ = some (.int .i64 (s.opens : Int)) := by simp [World.cell?, h.blk]
theorem PV.fz (h : PV T ti tl S b s vi vl w) (i : Nat) (hi : i < 4) : w.frozen? ⟨b, i, none⟩ = false := by
  rcases (by omega : i = 0 ∨ i = 1 ∨ i = 2 ∨ i = 3) with rfl | rfl | rfl | rfl <;> simp [World.frozen?, h.blk]
/-- Its own cells are stored to. -/
theorem PV.cell_i (h : PV T ti tl S b s vi vl w) {w1 : World} {v' : Value} {X : List It} (hg : w.grownBy w1 vi.ownBlock) (hr : Rw ic ti 6 w1 v' X) (hloc : ∀ k, v'.ownBlock = some k → S k ∨ w.heap.size ≤ k) :
    PV T ti tl (andNew S w.heap.size) b ⟨X, s.lks, s.puts, s.opens⟩ v' vl (w1.setCell ⟨b, 0, none⟩ v') := by
  have hb : some b ≠ vi.ownBlock := fun e => h.ri.not_cells h.blk h.ne.1 e.symm
  have hk : w1.heap[b]? = _ := (hg.block b h.lt hb).trans h.blk
  have ht : Tr (· = b) w1 (w1.setCell ⟨b, 0, none⟩ v') := (Tr.refl (· = b) w1).setCell (.inl rfl) _
  have hl : Rw lc tl 3 w1 vl s.lks := h.rl.tr (S := fun k => vi.ownBlock = some k) ⟨hg.os, hg.tape, hg.output, hg.size, fun k hk hs => hg.block k hk (fun e => hs e.symm)⟩ (fun k hk => h.rl.apart h.ri (Ne.symm h.ne.2.2) k hk)
  refine ⟨heap_setCell_same w1 b 0 _ _ v' hk, hr.tr ht (fun k e hkb => hr.not_cells hk h.ne.1 (by rw [e, hkb])), hl.tr ht (fun k e hkb => hl.not_cells hk h.ne.2.1 (by rw [e, hkb])), hloc, fun k hk => .inl (h.sl k hk), .inl h.own, h.ne⟩
theorem PV.cell_l (h : PV T ti tl S b s vi vl w) {w1 : World} {v' : Value} {X : List Lk} (hg : w.grownBy w1 vl.ownBlock) (hr : Rw lc tl 3 w1 v' X) (hloc : ∀ k, v'.ownBlock = some k → S k ∨ w.heap.size ≤ k) :
    PV T ti tl (andNew S w.heap.size) b ⟨s.its, X, s.puts, s.opens⟩ vi v' (w1.setCell ⟨b, 1, none⟩ v') := by
  have hb : some b ≠ vl.ownBlock := fun e => h.rl.not_cells h.blk h.ne.2.1 e.symm
  have hk : w1.heap[b]? = _ := (hg.block b h.lt hb).trans h.blk
  have ht : Tr (· = b) w1 (w1.setCell ⟨b, 1, none⟩ v') := (Tr.refl (· = b) w1).setCell (.inl rfl) _
  have hl : Rw ic ti 6 w1 vi s.its := h.ri.tr (S := fun k => vl.ownBlock = some k) ⟨hg.os, hg.tape, hg.output, hg.size, fun k hk hs => hg.block k hk (fun e => hs e.symm)⟩ (fun k hk => h.ri.apart h.rl h.ne.2.2 k hk)
  refine ⟨heap_setCell_same w1 b 1 _ _ v' hk, hl.tr ht (fun k e hkb => hl.not_cells hk h.ne.1 (by rw [e, hkb])), hr.tr ht (fun k e hkb => hr.not_cells hk h.ne.2.1 (by rw [e, hkb])), fun k hk => .inl (h.si k hk), hloc, .inl h.own, h.ne⟩
theorem PV.puts (h : PV T ti tl S b s vi vl w) (n : Nat) : PV T ti tl S b ⟨s.its, s.lks, n, s.opens⟩ vi vl (w.setCell ⟨b, 2, none⟩ (.int .i64 (n : Int))) := by
  have ht : Tr (· = b) w (w.setCell ⟨b, 2, none⟩ (.int .i64 (n : Int))) := (Tr.refl (· = b) w).setCell (.inl rfl) _
  exact ⟨heap_setCell_same w b 2 _ _ _ h.blk, h.ri.tr ht (fun k e hkb => h.ri.not_cells h.blk h.ne.1 (by rw [e, hkb])), h.rl.tr ht (fun k e hkb => h.rl.not_cells h.blk h.ne.2.1 (by rw [e, hkb])), h.si, h.sl, h.own, h.ne⟩
theorem PV.opens (h : PV T ti tl S b s vi vl w) (n : Nat) : PV T ti tl S b ⟨s.its, s.lks, s.puts, n⟩ vi vl (w.setCell ⟨b, 3, none⟩ (.int .i64 (n : Int))) := by
  have ht : Tr (· = b) w (w.setCell ⟨b, 3, none⟩ (.int .i64 (n : Int))) := (Tr.refl (· = b) w).setCell (.inl rfl) _
  exact ⟨heap_setCell_same w b 3 _ _ _ h.blk, h.ri.tr ht (fun k e hkb => h.ri.not_cells h.blk h.ne.1 (by rw [e, hkb])), h.rl.tr ht (fun k e hkb => h.rl.not_cells h.blk h.ne.2.1 (by rw [e, hkb])), h.si, h.sl, h.own, h.ne⟩
theorem PN.tr {S2 : Nat → Prop} {w' : World} (h : PN T ti tl S b s w) (ht : Tr S2 w w') (hd : ∀ k, k < w.heap.size → S k → ¬ S2 k) : PN T ti tl S b s w' := let ⟨_, _, h⟩ := h; ⟨_, _, h.tr ht hd⟩
theorem PN.mono {S' : Nat → Prop} (h : PN T ti tl S b s w) (hS : ∀ k, S k → S' k) : PN T ti tl S' b s w := let ⟨_, _, h⟩ := h; ⟨_, _, h.mono hS⟩
theorem PN.below {w' : World} (h : PN T ti tl S b s w) (hb : Below w.heap.size w w') : PN T ti tl S b s w' := let ⟨_, _, h⟩ := h; ⟨_, _, h.below hb⟩
theorem PN.lt (h : PN T ti tl S b s w) : b < w.heap.size := let ⟨_, _, h⟩ := h; h.lt
/-- Just the blocks that are there. -/
theorem PN.now (h : PN T ti tl S b s w) : PN T ti tl (fun k => S k ∧ k < w.heap.size) b s w :=
  let ⟨vi, vl, h⟩ := h
  ⟨vi, vl, h.blk, h.ri, h.rl, fun k hk => ⟨h.si k hk, h.ri.lt k hk⟩, fun k hk => ⟨h.sl k hk, h.rl.lt k hk⟩, ⟨h.own, h.lt⟩, h.ne⟩
theorem Lft.refl (h : PN T ti tl S b s w) : Lft T ti tl S b s w w := ⟨h.mono fun _ => .inl, Tr.refl _ _⟩
theorem Lft.trans {s1 s2 : St} {w1 w2 : World} (h : Lft T ti tl S b s1 w w1) (k : Lft T ti tl (andNew S w.heap.size) b s2 w1 w2) : Lft T ti tl S b s2 w w2 := by
  have hs := h.2.size
  refine ⟨k.1.mono fun i hi => ?_, h.2.trans k.2 fun i hi => ?_⟩
  · rcases hi with (hi | hi) | hi
    · exact .inl hi
    · exact .inr hi
    · exact .inr (by omega)
  · rcases hi with hi | hi
    · exact .inl hi
    · exact .inr hi
theorem Lft.pre {w1 w2 : World} (h : Below w.heap.size w w1) (k : Lft T ti tl S b s w1 w2) : Lft T ti tl S b s w w2 :=
  ⟨k.1.mono fun i hi => by
    rcases hi with hi | hi
    · exact .inl hi
    · exact .inr (Nat.le_trans h.size hi), (Tr.of_below h).then k.2⟩
theorem Lft.post {w1 w2 : World} (k : Lft T ti tl S b s w w1) (h : Below w1.heap.size w1 w2) : Lft T ti tl S b s w w2 := ⟨k.1.below h, k.2.then (Tr.of_below h)⟩
end
theorem info74 : (Try.prog.info? 74).map (fun i => (i.zero, i.size, i.bytes)) = some (some (.agg #[.int .i64 0, .int .i64 0, .int .i64 0, .int .i64 0, .int .i64 0, .string ⟨#[]⟩]), 6, 56) := by kernel_rfl
theorem info52 : (Try.prog.info? 52).map (fun i => (i.zero, i.size, i.bytes)) = some (some (.agg #[.int .i64 0, .int .i64 0, .int .i64 0, .int .i64 0, .int .i64 0, .string ⟨#[]⟩]), 6, 56) := by kernel_rfl
end Go.Proofs.Ytocmgdhhlofajaa
