/-
  How arguments lie in memory: texts, numbers.
-/
import Derived.Test.YtjoplnkagfkffaaElems
import Derived.Test.YtjoplnkagfkffaaRows
import Derived.ProofKit
import Derived.OpenShut
import Derived.Carry
import Derived.Below
import Derived.SliceStrings
import Derived.Deep.Slices
import Derived.Deep.Fields
import Derived.ChangeSame
namespace Go.Proofs.Ytjoplnkagfkffaa
open Go.ChangeShapes Go.WideShapes Go.ChangeAt Go.RowKit Go.Deep
theorem ownKnobNone : ownKnob Try.prog.godebug = none := by kernel_rfl
theorem laidOutT : laidOutB Try.prog = true := by kernel_rfl
def I64 (n : Int) : Prop := -9223372036854775808 ≤ n ∧ n ≤ 9223372036854775807
theorem i64_bd {n : Int} (h : (Lit.int .i64 n).wf = true) : I64 n := by
  simpa [Lit.wf, IntKind.min, IntKind.max, IntKind.signed, IntKind.bits, I64] using h
theorem cellsOf9 : Try.prog.cellsOf 9 = 1 := by kernel_rfl
theorem cellsOf3 : Try.prog.cellsOf 3 = 1 := by kernel_rfl
theorem add_lit (b off j : Nat) : (⟨b, off, none⟩ : Addr).add j = ⟨b, off + j, none⟩ := by unfold Addr.add; split <;> simp_all
theorem rdX_of1 {α : Type} {E : El α} (hk : E.k = 1) {W : World} {a : Addr} {n cap : Nat} {L : List α} (hn : L.length = n) (hl : n ≤ cap) (hm : cap ≤ maxLen) (f : α → Value) (hf : ∀ x, E.enc x = [f x])
    (hc : ∀ i x, L[i]? = some x → W.cell? (a.add i) = some (f x)) : RdX E W (.slice (some a) n cap) L := by
  subst hn
  refine ⟨_, cap, rfl, hl, hm, ?_⟩
  by_cases h0 : L = []
  · exact .inl h0
  · obtain ⟨x, hx⟩ : ∃ x, L[0]? = some x := ⟨_, List.getElem?_eq_getElem (List.length_pos_iff.2 h0)⟩
    obtain ⟨b, off, spot⟩ := a
    have hspot : spot = none := by simpa [Addr.add] using World.cell?_spot (hc 0 x hx)
    subst hspot
    refine .inr ⟨b, off, rfl, fun j u hu => ?_⟩
    have hj := (List.getElem?_eq_some_iff.1 hu).1
    rw [El.fl_length, hk, Nat.mul_one] at hj
    obtain ⟨y, hy⟩ : ∃ y, L[j]? = some y := ⟨_, List.getElem?_eq_getElem hj⟩
    have h1 := El.fl_at (E := E) hy 0 (by rw [hk]; decide)
    rw [hk, Nat.mul_one, Nat.add_zero, hf] at h1
    rw [h1] at hu
    have := hc j y hy
    rw [add_lit] at this
    rw [this]
    simpa using hu
/-- Texts that came in. -/
theorem strs_of {H : Type} {enc : TypeId × Value → H} {W : World} {a0 : Option Addr} {len cap fuel : Nat} {x : DataW H × List MemPlace}
    (hf : DataW.trod enc Try.prog W 0 (fun _ => true) true fuel 22 [.slice a0 len cap] = some x) :
    (∃ L, RdX elS W (.slice a0 len cap) L) ∧ ∀ p ∈ x.2, p.block < W.heap.size := by
  rcases open_strings Try.underlying22 Try.underlying9 cellsOf9 hf with ⟨hcs, hx⟩ | ⟨a, len', cap', ss, hcs, _, hl, hm, hz, hx, hcell, hsz⟩
  · simp at hcs
    obtain ⟨rfl, rfl, rfl⟩ := hcs
    subst hx
    exact ⟨⟨[], RdX.nil W⟩, fun p hp => by cases hp⟩
  · simp at hcs
    obtain ⟨rfl, rfl, rfl⟩ := hcs
    subst hx
    simp only [if_true] at hz
    have hlen : (ss.take len).length = len := by rw [List.length_take]; omega
    refine ⟨⟨ss.take len, rdX_of1 rfl hlen hl hm Value.string (fun _ => rfl) fun i s hs => ?_⟩, fun p hp => ?_⟩
    · have hi := (List.getElem?_eq_some_iff.1 hs).1
      rw [hlen] at hi
      rw [List.getElem?_take, if_pos hi] at hs
      have := hcell i (by omega)
      rw [List.getD_eq_getElem?_getD, hs] at this
      exact this
    · obtain ⟨i, hi, rfl⟩ := MemPlace.mem_row.1 hp
      exact World.block_lt_of_cell? W (a.add i) (hcell i hi) |> fun h => (show (a.add i).block = a.block by unfold Addr.add; split <;> rfl) ▸ h
/-- Numbers that came in. -/
theorem ints_of {H : Type} {enc : TypeId × Value → H} {W : World} {a0 : Option Addr} {len cap fuel : Nat} {x : DataW H × List MemPlace}
    (hf : DataW.trod enc Try.prog W 0 (fun _ => true) true fuel 25 [.slice a0 len cap] = some x) :
    (∃ L, RdX elI W (.slice a0 len cap) L ∧ ∀ x ∈ L, I64 x) ∧ ∀ p ∈ x.2, p.block < W.heap.size := by
  rcases open_ints Try.underlying25 Try.underlying3 cellsOf3 hf with ⟨hcs, hx⟩ | ⟨a, len', cap', zs, hcs, _, hl, hm, hz, hx, hcell, hwf⟩
  · simp at hcs
    obtain ⟨rfl, rfl, rfl⟩ := hcs
    subst hx
    exact ⟨⟨[], RdX.nil W, by simp⟩, fun p hp => by cases hp⟩
  · simp at hcs
    obtain ⟨rfl, rfl, rfl⟩ := hcs
    subst hx
    simp only [if_true] at hz
    have hlen : (zs.take len).length = len := by rw [List.length_take]; omega
    refine ⟨⟨zs.take len, rdX_of1 rfl hlen hl hm it (fun _ => rfl) fun i s hs => ?_, fun p hp => i64_bd (hwf p (List.mem_of_mem_take hp))⟩, fun p hp => ?_⟩
    · have hi := (List.getElem?_eq_some_iff.1 hs).1
      rw [hlen] at hi
      rw [List.getElem?_take, if_pos hi] at hs
      have := hcell i (by omega)
      rw [List.getD_eq_getElem?_getD, hs] at this
      exact this
    · obtain ⟨i, hi, rfl⟩ := MemPlace.mem_row.1 hp
      exact World.block_lt_of_cell? W (a.add i) (hcell i hi) |> fun h => (show (a.add i).block = a.block by unfold Addr.add; split <;> rfl) ▸ h
end Go.Proofs.Ytjoplnkagfkffaa
