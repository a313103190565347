/-
  A disk whose blocks lie from n on, and what stays as it was beside it.
-/
import Derived.Test.YtpiiknbjllgaoaaCrash
import Derived.Test.YtpiiknbjllgaoaaRename
namespace Go.Proofs.Ytpiiknbjllgaoaa
open Go.RowKit
structure NA (n : Nat) (S : Nat → Prop) (w0 : World) (b : Nat) (d : Dk) (w : World) : Prop where
  p : PD S b d w
  hS : ∀ k, S k → n ≤ k ∧ k < w.heap.size
  bel : Below n w0 w
  hn : n ≤ w.heap.size
/-- Blocks beside those of S are as they were, and beside those of S1. -/
def Keeps (S S1 : Nat → Prop) (w w' : World) : Prop := ∀ g, g < w.heap.size → ¬ S g → ¬ S1 g ∧ w'.heap[g]? = w.heap[g]? ∧ g < w'.heap.size
section
variable {n b : Nat} {S : Nat → Prop} {d d1 : Dk} {w0 w w' : World}
theorem NA.new (h : PD (w.heap.size ≤ ·) b d w') (hb : Below w.heap.size w w') (hw : Below n w0 w) (hn : n ≤ w.heap.size) : ∃ S, NA n S w0 b d w' ∧ ∀ k, S k → w.heap.size ≤ k :=
  ⟨_, ⟨h.now, fun _ hk => ⟨Nat.le_trans hn hk.1, hk.2⟩, hw.trans (hb.mono hn), Nat.le_trans hn hb.size⟩, fun _ hk => hk.1⟩
theorem NA.step (h : NA n S w0 b d w) (l : Lft S b d1 w w') : ∃ S1, NA n S1 w0 b d1 w' ∧ Keeps S S1 w w' ∧ (∀ k, S1 k → S k ∨ w.heap.size ≤ k) := by
  have hs := l.2.size
  refine ⟨_, ⟨l.1.now, fun k hk => ⟨?_, hk.2⟩, h.bel.trans (l.2.below h.hn fun k hk => (h.hS k hk).1), Nat.le_trans h.hn hs⟩, fun g hg hs' => ⟨?_, l.2.block g hg hs', Nat.lt_of_lt_of_le hg hs⟩, fun k hk => hk.1⟩
  · rcases hk.1 with hk | hk
    · exact (h.hS k hk).1
    · exact Nat.le_trans h.hn hk
  · rintro ⟨hk | hk, _⟩
    · exact hs' hk
    · omega
theorem NA.one (h : NA n S w0 b d w) (hp : PD S b d1 w') (ht : Tr (fun j => j = b) w w') : ∃ S1, NA n S1 w0 b d1 w' ∧ Keeps S S1 w w' ∧ (∀ k, S1 k → S k ∨ w.heap.size ≤ k) :=
  h.step ⟨hp.mono fun _ => .inl, ht.mono fun j e => by rw [e]; exact h.p.own⟩
theorem NA.mv (h : NA n S w0 b d w) (hb : Below w.heap.size w w') : NA n S w0 b d w' :=
  ⟨h.p.below hb, fun k hk => ⟨(h.hS k hk).1, Nat.lt_of_lt_of_le (h.hS k hk).2 hb.size⟩, h.bel.trans (hb.mono h.hn), Nat.le_trans h.hn hb.size⟩
theorem NA.far (h : NA n S w0 b d w) {g : Nat} (hg : w.heap.size ≤ g) : ¬ S g := fun hs => by have := (h.hS g hs).2; omega
/-- Another thing's blocks turn. -/
theorem NA.tr {S2 : Nat → Prop} (h : NA n S w0 b d w) (ht : Tr S2 w w') (hd : ∀ k, S k → ¬ S2 k) (h2 : ∀ k, S2 k → n ≤ k) : NA n S w0 b d w' :=
  ⟨h.p.tr ht (fun k _ hk => hd k hk), fun k hk => ⟨(h.hS k hk).1, Nat.lt_of_lt_of_le (h.hS k hk).2 ht.size⟩, h.bel.trans (ht.below h.hn h2), Nat.le_trans h.hn ht.size⟩
theorem Keeps.cell {S1 : Nat → Prop} {g i : Nat} {v : Value} (k : Keeps S S1 w w') (h : w.cell? ⟨g, i, none⟩ = some v) (hs : ¬ S g) : w'.cell? ⟨g, i, none⟩ = some v ∧ ¬ S1 g :=
  let ⟨a, b, _⟩ := k g (w.block_lt_of_cell? _ h) hs
  ⟨(World.cell?_of_block b).trans h, a⟩
/-- A crash of a disk with one file. -/
theorem crash_one {T : Nat → Prop} {f : Fl} (h : NA n S w0 b d w) {v : Value} {ps : List Int} (hp : RdI T w v ps) (hT : ∀ g, T g → ¬ S g) (hf : d.fs = [f]) (hU : f.data.length ≤ 1000000000) :
    Calls Try.prog 24 #[ptr b, v] w fun e w' => (∃ u, e = .returned u) ∧ Lft S b (crashD d [f] ps) w w' := by
  refine (crash_any h.p (fun k hk => (h.hS k hk).2) hp hT (fun x hx => by rw [hf] at hx; simp at hx; rw [hx]; exact hU) (by rw [hf]; exact Nat.succ_le_succ (Nat.zero_le _))).mono ?_
  rintro e w' ⟨he, ⟨L, hL, hpd⟩, ht⟩
  rw [hf] at hL
  have : L = [f] := List.perm_singleton.1 hL
  subst this
  exact ⟨he, hpd, ht⟩
theorem crash_none {T : Nat → Prop} (h : NA n S w0 b d w) {v : Value} {ps : List Int} (hp : RdI T w v ps) (hT : ∀ g, T g → ¬ S g) (hf : d.fs = []) :
    Calls Try.prog 24 #[ptr b, v] w fun e w' => (∃ u, e = .returned u) ∧ Lft S b (crashD d [] ps) w w' := by
  refine (crash_any h.p (fun k hk => (h.hS k hk).2) hp hT (fun x hx => by rw [hf] at hx; cases hx) (by rw [hf]; decide)).mono ?_
  rintro e w' ⟨he, ⟨L, hL, hpd⟩, ht⟩
  rw [hf] at hL
  have : L = [] := hL.eq_nil
  subst this
  exact ⟨he, hpd, ht⟩
end
end Go.Proofs.Ytpiiknbjllgaoaa
