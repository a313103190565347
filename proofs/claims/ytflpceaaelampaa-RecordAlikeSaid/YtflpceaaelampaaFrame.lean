/-
  What is left as it was where just some blocks, and new ones, may have turned.
-/
import Derived.Test.YtflpceaaelampaaStrs
namespace Go.Proofs.Ytflpceaaelampaa
open Go.RowKit
abbrev ptr (b : Nat) : Value := .pointer (some ⟨b, 0, none⟩)
/-- Of the blocks that were there just those of S may have turned. -/
structure Tr (S : Nat → Prop) (w w' : World) : Prop where
  os : w'.os = w.os
  tape : w'.tape = w.tape
  output : w'.output = w.output
  size : w.heap.size ≤ w'.heap.size
  block : ∀ k, k < w.heap.size → ¬ S k → w'.heap[k]? = w.heap[k]?
/-- S, and all that is new since the heap had so many blocks. -/
def andNew (S : Nat → Prop) (n : Nat) : Nat → Prop := fun k => S k ∨ n ≤ k
theorem Tr.refl (S : Nat → Prop) (w : World) : Tr S w w := ⟨rfl, rfl, rfl, Nat.le_refl _, fun _ _ _ => rfl⟩
theorem Tr.trans {S S' : Nat → Prop} {a b c : World} (h : Tr S a b) (k : Tr S' b c) (hS : ∀ i, S' i → S i ∨ a.heap.size ≤ i) : Tr S a c :=
  ⟨k.os.trans h.os, k.tape.trans h.tape, k.output.trans h.output, Nat.le_trans h.size k.size, fun i hi hs => (k.block i (Nat.lt_of_lt_of_le hi h.size) (fun h' => by rcases hS i h' with h' | h'; exact hs h'; omega)).trans (h.block i hi hs)⟩
theorem Tr.then {S : Nat → Prop} {a b c : World} (h : Tr S a b) (k : Tr S b c) : Tr S a c := h.trans k fun _ => .inl
theorem Tr.of_below {S : Nat → Prop} {w w' : World} (h : Below w.heap.size w w') : Tr S w w' := ⟨h.os, h.tape, h.output, h.size, fun k hk _ => h.block k hk⟩
theorem Tr.below {S : Nat → Prop} {w w' : World} {n : Nat} (h : Tr S w w') (hn : n ≤ w.heap.size) (hS : ∀ k, S k → n ≤ k) : Below n w w' :=
  ⟨h.os, h.tape, h.output, h.size, fun k hk => h.block k (by omega) (fun hs => by have := hS k hs; omega)⟩
theorem Tr.drew {S : Nat → Prop} {a w : World} (h : Tr S a w) : Tr S a w.drew := ⟨h.os, h.tape, h.output, h.size, h.block⟩
theorem Tr.alloc {S : Nat → Prop} {a w : World} (h : Tr S a w) (o : Obj) : Tr S a (w.alloc o) := h.then (Tr.of_below ((Below.refl _ w).alloc (Nat.le_refl _) o))
theorem Tr.setCell {S : Nat → Prop} {a w : World} (h : Tr S a w) {b i : Nat} (hb : S b ∨ a.heap.size ≤ b) (v : Value) : Tr S a (w.setCell ⟨b, i, none⟩ v) :=
  h.trans (S' := (· = b)) ⟨rfl, rfl, rfl, by simp, fun k _ hk => Below.heap_setCell _ _ _ _ hk⟩ (fun k hk => by rw [hk]; exact hb)
theorem Tr.grown {S : Nat → Prop} {a w w' : World} {row : Option Nat} (h : Tr S a w) (hg : w.grownBy w' row) (hr : ∀ k, row = some k → S k ∨ a.heap.size ≤ k) : Tr S a w' :=
  h.trans (S' := fun k => row = some k) ⟨hg.os, hg.tape, hg.output, hg.size, fun k hk hs => hg.block k hk (fun e => hs e.symm)⟩ hr
theorem Tr.mono {S S' : Nat → Prop} {w w' : World} (h : Tr S w w') (hS : ∀ k, S k → S' k) : Tr S' w w' := ⟨h.os, h.tape, h.output, h.size, fun k hk hs => h.block k hk (fun h' => hs (hS k h'))⟩
theorem Tr.boxed {S : Nat → Prop} {w w' : World} (h : Tr S w w') {B : Nat} {t : TypeId} {v : Value} (hb : Boxed w B t v) (hS : ¬ S B) : Boxed w' B t v := (h.block B hb.lt hS).trans hb
theorem Tr.cell {S : Nat → Prop} {w w' : World} (h : Tr S w w') {p : Addr} (hp : p.block < w.heap.size) (hS : ¬ S p.block) : w'.cell? p = w.cell? p := World.cell?_of_block (w := w) (h.block p.block hp hS)
theorem Tr.row {S : Nat → Prop} {w w' : World} (h : Tr S w w') {base : Nat} {e : TypeId} {size : Nat} {v : Value} {n : Nat} {xs : List Value} (hr : w.ownsRow base e size v n xs) (hS : ∀ k, v.ownBlock = some k → ¬ S k) : w'.ownsRow base e size v n xs := by
  obtain ⟨h1, h2⟩ := hr
  refine ⟨h1, ?_⟩
  rcases h2 with h2 | ⟨g, cap, cur, rfl, hb, hg, r⟩
  · exact .inl h2
  · exact .inr ⟨g, cap, cur, rfl, hb, (h.block g (Array.getElem?_eq_some_iff.1 hg).1 (hS g rfl)).trans hg, r⟩
end Go.Proofs.Ytflpceaaelampaa
