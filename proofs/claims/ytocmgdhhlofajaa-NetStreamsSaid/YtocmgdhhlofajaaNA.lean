/-
  A network whose blocks lie from n on, and what stays as it was beside it.
-/
import Derived.Test.YtocmgdhhlofajaaTake
namespace Go.Proofs.Ytocmgdhhlofajaa
open Go.RowKit
structure NA (T ti tl : TypeId) (n : Nat) (S : Nat → Prop) (w0 : World) (b : Nat) (s : St) (w : World) : Prop where
  p : PN T ti tl S b s w
  hS : ∀ k, S k → n ≤ k ∧ k < w.heap.size
  bel : Below n w0 w
  hn : n ≤ w.heap.size
/-- Blocks beside those of S are as they were, and beside those of S1. -/
def Keeps (S S1 : Nat → Prop) (w w' : World) : Prop := ∀ g, g < w.heap.size → ¬ S g → ¬ S1 g ∧ w'.heap[g]? = w.heap[g]? ∧ g < w'.heap.size
section
variable {T ti tl : TypeId} {n b : Nat} {S : Nat → Prop} {s s1 : St} {w0 w w' : World}
theorem NA.new (h : PN T ti tl (w.heap.size ≤ ·) b s w') (hb : Below w.heap.size w w') (hw : Below n w0 w) (hn : n ≤ w.heap.size) : ∃ S, NA T ti tl n S w0 b s w' ∧ ∀ k, S k → w.heap.size ≤ k :=
  ⟨_, ⟨h.now, fun _ hk => ⟨Nat.le_trans hn hk.1, hk.2⟩, hw.trans (hb.mono hn), Nat.le_trans hn hb.size⟩, fun _ hk => hk.1⟩
theorem NA.step (h : NA T ti tl n S w0 b s w) (l : Lft T ti tl S b s1 w w') : ∃ S1, NA T ti tl n S1 w0 b s1 w' ∧ Keeps S S1 w w' ∧ (∀ k, S1 k → S k ∨ w.heap.size ≤ k) := by
  have hs := l.2.size
  refine ⟨_, ⟨l.1.now, fun k hk => ⟨?_, hk.2⟩, h.bel.trans (l.2.below h.hn fun k hk => (h.hS k hk).1), Nat.le_trans h.hn hs⟩, fun g hg hs' => ⟨?_, l.2.block g hg hs', Nat.lt_of_lt_of_le hg hs⟩, fun k hk => hk.1⟩
  · rcases hk.1 with hk | hk
    · exact (h.hS k hk).1
    · exact Nat.le_trans h.hn hk
  · rintro ⟨hk | hk, _⟩
    · exact hs' hk
    · omega
theorem NA.mv (h : NA T ti tl n S w0 b s w) (hb : Below w.heap.size w w') : NA T ti tl n S w0 b s w' :=
  ⟨h.p.below hb, fun k hk => ⟨(h.hS k hk).1, Nat.lt_of_lt_of_le (h.hS k hk).2 hb.size⟩, h.bel.trans (hb.mono h.hn), Nat.le_trans h.hn hb.size⟩
theorem NA.far (h : NA T ti tl n S w0 b s w) {g : Nat} (hg : w.heap.size ≤ g) : ¬ S g := fun hs => by have := (h.hS g hs).2; omega
/-- Another thing's blocks turn. -/
theorem NA.tr {S2 : Nat → Prop} (h : NA T ti tl n S w0 b s w) (ht : Tr S2 w w') (hd : ∀ k, S k → ¬ S2 k) (h2 : ∀ k, S2 k → n ≤ k) : NA T ti tl n S w0 b s w' :=
  ⟨h.p.tr ht (fun k _ hk => hd k hk), fun k hk => ⟨(h.hS k hk).1, Nat.lt_of_lt_of_le (h.hS k hk).2 ht.size⟩, h.bel.trans (ht.below h.hn h2), Nat.le_trans h.hn ht.size⟩
theorem Keeps.ce {S1 : Nat → Prop} {g : Nat} {U : TypeId} {cs : Array Value} (k : Keeps S S1 w w') (h : Ce w g U cs) (hs : ¬ S g) : Ce w' g U cs ∧ ¬ S1 g :=
  let ⟨a, b, _⟩ := k g h.lt hs
  ⟨b.trans h, a⟩
theorem Keeps.cell {S1 : Nat → Prop} {g i : Nat} {v : Value} (k : Keeps S S1 w w') (h : w.cell? ⟨g, i, none⟩ = some v) (hs : ¬ S g) : w'.cell? ⟨g, i, none⟩ = some v ∧ ¬ S1 g :=
  let ⟨a, b, _⟩ := k g (w.block_lt_of_cell? _ h) hs
  ⟨(World.cell?_of_block b).trans h, a⟩
end
abbrev NP := NA 61 74 64
abbrev NR := NA 30 52 69
/-- A list that was handed back: where its cells lie. -/
theorem own_at {w : World} {base : Nat} {v : Value} {L : List It} (h : w.ownsRow base 52 6 v L.length (cs ic L)) (hn : 0 < L.length) : ∃ g cap, v = .slice (some ⟨g, 0, none⟩) L.length cap ∧ base ≤ g ∧ g < w.heap.size ∧ ∀ k x, L[k]? = some x → ∀ j u, (ic x)[j]? = some u → w.cell? ⟨g, k * 6 + j, none⟩ = some u := by
  rcases h.2 with ⟨_, h0⟩ | ⟨g, cap, cur, rfl, hb, hg, _⟩
  · omega
  · obtain ⟨g', cap', e, _, hl, hc⟩ := Rw.cells (c := ic) (z := 6) (e := 52) (X := L) (own_mono h (Nat.zero_le _)) ic_len hn
    injection e with e1 e2 e3
    injection e1 with e1
    injection e1 with e1
    subst e1
    exact ⟨g, cap, rfl, hb, hl, hc⟩
end Go.Proofs.Ytocmgdhhlofajaa
