/-
  A packer whose own blocks are told apart from others that the call made: what stays as it was, call by call.
-/
import Derived.Test.YtflpceaaelampaaTwo
namespace Go.Proofs.Ytflpceaaelampaa
open Go.RowKit
/-- A packer; S: the blocks that were its own at the start, in the world w0; keep: blocks that aren't its own. -/
def PS (S keep : Nat → Prop) (w0 : World) (b : Nat) (B : Bs) (L : Kn) (w : World) : Prop :=
  ∃ S', PK S' b B L w ∧ (∀ k, S' k → k < w.heap.size ∧ (S k ∨ w0.heap.size ≤ k) ∧ ¬ keep k) ∧ Tr S w0 w
theorem PS.start {S : Nat → Prop} {w0 : World} {b : Nat} {B : Bs} {L : Kn} (h : PK S b B L w0) : PS S (fun _ => False) w0 b B L w0 :=
  ⟨_, h.lt, fun _ hk => ⟨hk.2, .inl hk.1, fun h => h⟩, Tr.refl _ _⟩
/-- New blocks are nobody's. -/
theorem PS.under {S keep : Nat → Prop} {w0 w w' : World} {b : Nat} {B : Bs} {L : Kn} (h : PS S keep w0 b B L w) (hb : Below w.heap.size w w') : PS S (fun k => keep k ∨ w.heap.size ≤ k ∧ k < w'.heap.size) w0 b B L w' := by
  obtain ⟨S', h1, h2, h3⟩ := h
  refine ⟨S', h1.below hb, fun k hk => ?_, h3.then (Tr.of_below hb)⟩
  obtain ⟨k1, k2, k3⟩ := h2 k hk
  exact ⟨Nat.lt_of_lt_of_le k1 hb.size, k2, fun h => by rcases h with h | h; exact k3 h; omega⟩
theorem PS.less {S keep keep' : Nat → Prop} {w0 w : World} {b : Nat} {B : Bs} {L : Kn} (h : PS S keep w0 b B L w) (hk : ∀ k, keep' k → keep k) : PS S keep' w0 b B L w := by
  obtain ⟨S', h1, h2, h3⟩ := h
  exact ⟨S', h1, fun k hs => ⟨(h2 k hs).1, (h2 k hs).2.1, fun h => (h2 k hs).2.2 (hk k h)⟩, h3⟩
/-- A call of one of the packer's methods. -/
theorem PS.step {S keep : Nat → Prop} {w0 w : World} {b : Nat} {B : Bs} {L : Kn} (h : PS S keep w0 b B L w) :
    ∃ S', PK S' b B L w ∧ ∀ w' B' L', Lft S' b B' L' w w' → PS S (fun k => keep k ∧ k < w.heap.size) w0 b B' L' w' ∧ (∀ g, keep g → g < w.heap.size → w'.heap[g]? = w.heap[g]?) ∧ w.heap.size ≤ w'.heap.size := by
  obtain ⟨S', h1, h2, h3⟩ := h
  refine ⟨S', h1, fun w' B' L' hl => ⟨⟨_, hl.1.lt, ?_, h3.trans hl.2 fun k hk => ?_⟩, fun g hg hlt => hl.2.block g hlt (fun hs => (h2 g hs).2.2 hg), hl.2.size⟩⟩
  · rintro k ⟨hk | hk, hk2⟩
    · exact ⟨hk2, (h2 k hk).2.1, fun h => (h2 k hk).2.2 h.1⟩
    · exact ⟨hk2, .inr (Nat.le_trans h3.size hk), fun h => by omega⟩
  · exact (h2 k hk).2.1
theorem PS.left {S keep : Nat → Prop} {w0 w : World} {b : Nat} {B : Bs} {L : Kn} (h : PS S keep w0 b B L w) : Lft S b B L w0 w := by
  obtain ⟨S', h1, h2, h3⟩ := h
  exact ⟨h1.mono fun k hk => (h2 k hk).2.1, h3⟩
end Go.Proofs.Ytflpceaaelampaa
