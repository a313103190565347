/-
  A list of numbers: one that comes in as an argument, and one that the statement itself collects.
-/
import Derived.Test.YtnhjbhmhloeaeaaTexts
import Derived.Test.YtnhjbhmhloeaeaaBackMath
namespace Go.Proofs.Ytnhjbhmhloeaeaa
open Go.ChangeShapes Go.WideShapes Go.ChangeAt Go.RowKit Go.Deep
theorem info3 : (Try.prog.info? 3).map (fun i => (i.zero, i.size, i.bytes)) = some (some (.int .i64 0), 1, 8) := by kernel_rfl
abbrev num (n : Nat) : Value := .int .i64 (n : Int)
/-- A slice of numbers that the call owns. -/
def Own3 (w : World) (base : Nat) (v : Value) (l : List Nat) : Prop := w.ownsRow base 3 1 v l.length (l.map num)
theorem own3_nil (w : World) (B : Nat) : Own3 w B (.slice none 0 0) [] := World.ownsRow_nil _ _ _ _
theorem Own3.shape {w : World} {B : Nat} {v : Value} {l : List Nat} (h : Own3 w B v l) : ∃ a cap, v = .slice a l.length cap := by
  rcases h.2 with ⟨rfl, h0⟩ | ⟨g, cap, cur, rfl, _⟩
  · exact ⟨none, 0, by rw [h0]⟩
  · exact ⟨_, cap, rfl⟩
theorem Own3.below {w w' : World} {B : Nat} {v : Value} {l : List Nat} (h : Own3 w B v l) (hb : Below w.heap.size w w') : Own3 w' B v l := by
  refine World.ownsRow.kept (row := none) h ⟨hb.os, hb.tape, hb.output, hb.size, fun k hk _ => hb.block k hk⟩ ?_
  cases hv : v.ownBlock <;> simp
theorem Own3.at {w : World} {B : Nat} {a : Option Addr} {n cap : Nat} {l : List Nat} (h : Own3 w B (.slice a n cap) l) (k x : Nat) (hk : l[k]? = some x) : ∃ g, a = some ⟨g, 0, none⟩ ∧ g < w.heap.size ∧ w.cell? ⟨g, k, none⟩ = some (num x) := by
  have hc := @World.ownsRow.cells w B 3 1 _ l.length _ h
  rcases h.2 with ⟨e, h0⟩ | ⟨g, cap', cur, e, hb, hg, _⟩
  · have : l = [] := List.length_eq_zero_iff.1 h0
    subst this; simp at hk
  · cases e
    refine ⟨g, rfl, (Array.getElem?_eq_some_iff.1 hg).1, ?_⟩
    have := hc (g := g) rfl k (num x) (by simp [hk])
    rwa [Addr.add_lit, Nat.zero_add] at this
/-- What one more number leaves. -/
theorem own3_next {w wr w1 : World} {o : Obj} {v v' : Value} {B : Nat} {l : List Nat} {x : Nat}
    (hown : Own3 wr B v l) (hBw : w.heap.size ≤ B) (hb : Below w.heap.size w wr)
    (hown' : w1.ownsRow B 3 1 v' (l.length + 1) (l.map num ++ [num x])) (hg : (wr.alloc o).grownBy w1 v.ownBlock) :
    Own3 w1 B v' (l ++ [x]) ∧ Below w.heap.size w w1 := by
  constructor
  · unfold Own3
    rw [List.length_append, List.map_append]
    exact hown'
  · have ha : Below w.heap.size w (wr.alloc o) := hb.alloc hb.size _
    refine ha.trans ⟨hg.os, hg.tape, hg.output, hg.size, fun i hi => hg.block i (Nat.lt_of_lt_of_le hi ha.size) ?_⟩
    intro e
    have := (World.ownsRow.lt hown i e.symm).1
    omega
theorem rows_apart {w : World} {B C n m sz sz' : Nat} {e e' : TypeId} {v u : Value} {xs ys : List Value} (h : w.ownsRow B e sz v n xs) (k : w.ownsRow C e' sz' u m ys) (he : e ≠ e') : v.ownBlock = none ∨ v.ownBlock ≠ u.ownBlock := by
  rcases h.2 with ⟨rfl, _⟩ | ⟨g, cap, cur, rfl, _, hg, _⟩
  · exact .inl rfl
  · refine .inr fun e1 => ?_
    rcases k.2 with ⟨rfl, _⟩ | ⟨g', cap', cur', rfl, _, hg', _⟩
    · simp [Value.ownBlock] at e1
    · obtain rfl : g = g' := by simpa [Value.ownBlock] using e1
      rw [hg] at hg'
      simp at hg'
      exact he hg'.2
/-- The other list is left as it is: they are of unlike kinds. -/
theorem Own9.beside {w w1 : World} {o : Obj} {B n : Nat} {v u : Value} {ls : List Bs} {l : List Nat} (h : Own9 w B v ls) (hu : Own3 w n u l) (hg : (w.alloc o).grownBy w1 u.ownBlock) : Own9 w1 B v ls :=
  World.ownsRow.kept (h.below ((Below.refl _ w).alloc (Nat.le_refl _) o)) hg (rows_apart h hu (by decide))
theorem Own3.beside {w w1 : World} {o : Obj} {B n : Nat} {v u : Value} {ls : List Bs} {l : List Nat} (h : Own3 w B v l) (hu : Own9 w n u ls) (hg : (w.alloc o).grownBy w1 u.ownBlock) : Own3 w1 B v l :=
  World.ownsRow.kept (h.below ((Below.refl _ w).alloc (Nat.le_refl _) o)) hg (rows_apart h hu (by decide))
theorem cellsOf3 : Try.prog.cellsOf 3 = 1 := by kernel_rfl
/-- Numbers that came in. -/
def Nums (W : World) (a : Option Addr) (len : Nat) : Prop := ∀ k, k < len → ∃ b off, ∃ z : Int, a = some ⟨b, off, none⟩ ∧ b < W.heap.size ∧ (-9223372036854775808 ≤ z ∧ z ≤ 9223372036854775807) ∧ W.cell? ⟨b, off + k, none⟩ = some (.int .i64 z)
theorem ints_of {H : Type} {enc : TypeId × Value → H} {W : World} {a0 : Option Addr} {len cap fuel : Nat} {x : DataW H × List MemPlace}
    (hf : DataW.trod enc Try.prog W 0 (fun _ => true) true fuel 43 [.slice a0 len cap] = some x) :
    Nums W a0 len ∧ ∀ p ∈ x.2, p.block < W.heap.size := by
  rcases open_ints Try.underlying43 Try.underlying3 cellsOf3 hf with ⟨hcs, hx⟩ | ⟨a, len', cap', zs, hcs, _, hl, hm, hz, hx, hcell, hwf⟩
  · simp at hcs
    obtain ⟨rfl, rfl, rfl⟩ := hcs
    subst hx
    exact ⟨fun k hk => by omega, fun p hp => by cases hp⟩
  · simp at hcs
    obtain ⟨rfl, rfl, rfl⟩ := hcs
    subst hx
    simp only [if_true] at hz
    refine ⟨fun k hk => ?_, fun p hp => ?_⟩
    · have hk2 : k < zs.length := by omega
      have hc := hcell k hk2
      obtain ⟨b, off, spot⟩ := a
      have hspot : spot = none := by simpa [Addr.add] using World.cell?_spot (hcell 0 (by omega))
      subst hspot
      refine ⟨b, off, zs.getD k 0, rfl, W.block_lt_of_cell? _ (hcell 0 (by omega)), i64_bd (hwf _ ?_), ?_⟩
      · rw [List.getD_eq_getElem?_getD, List.getElem?_eq_getElem hk2]
        exact List.getElem_mem hk2
      · rwa [add_lit] at hc
    · obtain ⟨i, hi, rfl⟩ := MemPlace.mem_row.1 hp
      exact World.block_lt_of_cell? W (a.add i) (hcell i hi) |> fun h => (show (a.add i).block = a.block by unfold Addr.add; split <;> rfl) ▸ h
end Go.Proofs.Ytnhjbhmhloeaeaa
