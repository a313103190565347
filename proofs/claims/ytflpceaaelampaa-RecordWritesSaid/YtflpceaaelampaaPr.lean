/-
  A packer and the document's packer beside one another, of the same bytes.
-/
import Derived.Test.YtflpceaaelampaaPatch
import Derived.Test.YtflpceaaelampaaRPName
import Derived.Test.YtflpceaaelampaaTwo
namespace Go.Proofs.Ytflpceaaelampaa
open Go.RowKit
/-- Two packers that share no memory, in blocks from n on. -/
structure PR (n bp br : Nat) (S Q : Nat → Prop) (B : Bs) (L : Kn) (B' : Bs) (L' : Kn) (w : World) : Prop where
  p : PK S bp B L w
  r : RK Q br B' L' w
  hp : ∀ k, S k → n ≤ k ∧ k < w.heap.size
  hq : ∀ k, Q k → n ≤ k ∧ k < w.heap.size
  d : ∀ k, S k → ¬ Q k
theorem PR.below {n bp br : Nat} {S Q : Nat → Prop} {B B' : Bs} {L L' : Kn} {w w' : World} (h : PR n bp br S Q B L B' L' w) (hb : Below w.heap.size w w') : PR n bp br S Q B L B' L' w' :=
  ⟨h.p.below hb, h.r.below hb, fun k hk => ⟨(h.hp k hk).1, Nat.lt_of_lt_of_le (h.hp k hk).2 hb.size⟩, fun k hk => ⟨(h.hq k hk).1, Nat.lt_of_lt_of_le (h.hq k hk).2 hb.size⟩, h.d⟩
theorem PR.left {n bp br : Nat} {S Q : Nat → Prop} {B B' B1 : Bs} {L L' L1 : Kn} {w w' : World} (h : PR n bp br S Q B L B' L' w) (hn : n ≤ w.heap.size) (hl : Lft S bp B1 L1 w w') :
    (∃ S1, PR n bp br S1 Q B1 L1 B' L' w' ∧ ∀ g, g < w.heap.size → ¬ S g → ¬ S1 g) ∧ Below n w w' ∧ ∀ g i, g < w.heap.size → ¬ S g → w'.cell? ⟨g, i, none⟩ = w.cell? ⟨g, i, none⟩ := by
  refine ⟨⟨_, ⟨hl.1.lt, h.r.tr hl.2 (fun k _ hq hs => h.d k hs hq), ?_, ?_, ?_⟩, ?_⟩, hl.2.below hn (fun k hk => (h.hp k hk).1), fun g i hg hS => hl.2.cell (p := ⟨g, i, none⟩) hg hS⟩
  · rintro k ⟨hk | hk, hk2⟩
    · exact ⟨(h.hp k hk).1, hk2⟩
    · exact ⟨Nat.le_trans hn hk, hk2⟩
  · exact fun k hk => ⟨(h.hq k hk).1, Nat.lt_of_lt_of_le (h.hq k hk).2 hl.2.size⟩
  · rintro k ⟨hk | hk, hk2⟩ hq
    · exact h.d k hk hq
    · have := (h.hq k hq).2; omega
  · rintro g hg hS ⟨hk | hk, _⟩
    · exact hS hk
    · omega
theorem PR.right {n bp br : Nat} {S Q : Nat → Prop} {B B' B1 : Bs} {L L' L1 : Kn} {w w' : World} (h : PR n bp br S Q B L B' L' w) (hn : n ≤ w.heap.size) (hl : RLft Q br B1 L1 w w') :
    (∃ Q1, PR n bp br S Q1 B L B1 L1 w' ∧ ∀ g, g < w.heap.size → ¬ Q g → ¬ Q1 g) ∧ Below n w w' ∧ ∀ g i, g < w.heap.size → ¬ Q g → w'.cell? ⟨g, i, none⟩ = w.cell? ⟨g, i, none⟩ := by
  refine ⟨⟨_, ⟨h.p.tr hl.2 (fun k _ hs hq => h.d k hs hq), hl.1.lt, ?_, ?_, ?_⟩, ?_⟩, hl.2.below hn (fun k hk => (h.hq k hk).1), fun g i hg hQ => hl.2.cell (p := ⟨g, i, none⟩) hg hQ⟩
  · exact fun k hk => ⟨(h.hp k hk).1, Nat.lt_of_lt_of_le (h.hp k hk).2 hl.2.size⟩
  · rintro k ⟨hk | hk, hk2⟩
    · exact ⟨(h.hq k hk).1, hk2⟩
    · exact ⟨Nat.le_trans hn hk, hk2⟩
  · rintro k hs ⟨hq | hq, hk2⟩
    · exact h.d k hs hq
    · have := (h.hp k hs).2; omega
  · rintro g hg hQ ⟨hk | hk, _⟩
    · exact hQ hk
    · omega
/-- An empty packer of the document's. -/
theorem rk_new (w : World) : RK (w.heap.size ≤ ·) w.heap.size [] [] (w.alloc (.cells #[.string ⟨#[]⟩, .slice none 0 0] 48)) :=
  ⟨_, heap_alloc_new w _, World.ownsRow_nil _ _ _ _, fun k hk => by simp [Value.ownBlock] at hk, Nat.le_refl _⟩
theorem pr_new {n bp br : Nat} {w w1 w2 : World} (h1 : PK (w.heap.size ≤ ·) bp [] [] w1) (hb1 : Below w.heap.size w w1) (h2 : RK (w1.heap.size ≤ ·) br [] [] w2) (hb2 : Below w1.heap.size w1 w2) (hn : n ≤ w.heap.size) : ∃ S Q, PR n bp br S Q [] [] [] [] w2 := by
  have h1' := h1.lt.below hb2
  refine ⟨_, _, h1', h2.lt, ?_, ?_, ?_⟩
  · rintro k ⟨hk, hk2⟩; exact ⟨Nat.le_trans hn hk, Nat.lt_of_lt_of_le hk2 hb2.size⟩
  · rintro k ⟨hk, hk2⟩; exact ⟨Nat.le_trans hn (Nat.le_trans hb1.size hk), hk2⟩
  · rintro k ⟨hk, hk2⟩ ⟨hk3, _⟩; omega
/-- What the loop knows. -/
def PlI (w : World) (bp br k : Nat) (wr : World) : Prop := ∃ (S Q : Nat → Prop) (B : Bs) (L : Kn), PR w.heap.size bp br S Q B L B L wr ∧ OkK L ∧ L.length ≤ B.length ∧ B.length ≤ 16380 + 300 * k ∧ Below w.heap.size w wr
/-- Zero bytes. -/
theorem made_zero (m : Nat) : (madeCells #[Value.int .u8 0] m).toList = ub (List.replicate m 0) := by
  rw [toList_madeCells_one]
  simp [ub]
end Go.Proofs.Ytflpceaaelampaa
