/-
  How arguments lie in memory: numbers, texts, lists of texts and of numbers.
-/
import Derived.Test.YtpiiknbjllgaoaaWAwake
import Derived.Test.YtpiiknbjllgaoaaRows
import Derived.ProofKit
import Derived.OpenShut
import Derived.Carry
import Derived.Below
import Derived.SliceStrings
import Derived.Deep.Slices
import Derived.Deep.Fields
import Derived.ChangeSame
namespace Go.Proofs.Ytpiiknbjllgaoaa
open Go.ChangeShapes Go.WideShapes Go.ChangeAt Go.RowKit Go.Deep
theorem ownKnobNone : ownKnob Try.prog.godebug = none := by kernel_rfl
theorem laidOutT : laidOutB Try.prog = true := by kernel_rfl
theorem i64_bd {n : Int} (h : (Lit.int .i64 n).wf = true) : I64 n := by
  simpa [Lit.wf, IntKind.min, IntKind.max, IntKind.signed, IntKind.bits, I64] using h
theorem u8_bd {n : Int} (h : (Lit.int .u8 n).wf = true) : ∃ k : Nat, n = (k : Int) ∧ k < 256 := by
  have : 0 ≤ n ∧ n ≤ 255 := by simpa [Lit.wf, IntKind.min, IntKind.max, IntKind.signed, IntKind.bits] using h
  exact ⟨n.toNat, by omega, by omega⟩
theorem cellsOf9 : Try.prog.cellsOf 9 = 1 := by kernel_rfl
theorem cellsOf3 : Try.prog.cellsOf 3 = 1 := by kernel_rfl
theorem add_lit (b off j : Nat) : (⟨b, off, none⟩ : Addr).add j = ⟨b, off + j, none⟩ := by unfold Addr.add; split <;> simp_all
/-- Texts that came in. -/
def Came (W : World) (a : Option Addr) (len : Nat) : Prop := len = 0 ∨ ∃ b off, ∃ ss : Nat → ByteArray, a = some ⟨b, off, none⟩ ∧ b < W.heap.size ∧ ∀ k, k < len → W.cell? ⟨b, off + k, none⟩ = some (.string (ss k))
theorem came_of {H : Type} {enc : TypeId × Value → H} {W : World} {a0 : Option Addr} {len cap fuel : Nat} {x : DataW H × List MemPlace}
    (hf : DataW.trod enc Try.prog W 0 (fun _ => true) true fuel 27 [.slice a0 len cap] = some x) :
    Came W a0 len ∧ ∀ p ∈ x.2, p.block < W.heap.size := by
  rcases open_strings Try.underlying27 Try.underlying9 cellsOf9 hf with ⟨hcs, hx⟩ | ⟨a, len', cap', ss, hcs, _, hl, hm, hz, hx, hcell, hsz⟩
  · simp at hcs
    obtain ⟨rfl, rfl, rfl⟩ := hcs
    subst hx
    exact ⟨.inl rfl, fun p hp => by cases hp⟩
  · simp at hcs
    obtain ⟨rfl, rfl, rfl⟩ := hcs
    subst hx
    simp only [if_true] at hz
    refine ⟨?_, fun p hp => ?_⟩
    · by_cases h0 : len = 0
      · exact .inl h0
      · obtain ⟨b, off, spot⟩ := a
        have hspot : spot = none := by simpa [Addr.add] using World.cell?_spot (hcell 0 (by omega))
        subst hspot
        refine .inr ⟨b, off, fun k => ss.getD k ByteArray.empty, rfl, W.block_lt_of_cell? _ (hcell 0 (by omega)), fun k hk => ?_⟩
        rw [show (⟨b, off + k, none⟩ : Addr) = (⟨b, off, none⟩ : Addr).add k by unfold Addr.add; split <;> simp_all]
        exact hcell k (by omega)
    · obtain ⟨i, hi, rfl⟩ := MemPlace.mem_row.1 hp
      exact World.block_lt_of_cell? W (a.add i) (hcell i hi) |> fun h => (show (a.add i).block = a.block by unfold Addr.add; split <;> rfl) ▸ h
/-- Picks that came in. -/
def Picks (W : World) (v : Value) : Prop := ∃ ps, RdI (fun g => g < W.heap.size) W v ps
theorem picks_of {H : Type} {enc : TypeId × Value → H} {W : World} {a0 : Option Addr} {len cap fuel : Nat} {x : DataW H × List MemPlace}
    (hf : DataW.trod enc Try.prog W 0 (fun _ => true) true fuel 39 [.slice a0 len cap] = some x) :
    Picks W (.slice a0 len cap) ∧ ∀ p ∈ x.2, p.block < W.heap.size := by
  rcases open_ints Try.underlying39 Try.underlying3 cellsOf3 hf with ⟨hcs, hx⟩ | ⟨a, len', cap', zs, hcs, _, hl, hm, hz, hx, hcell, hwf⟩
  · simp at hcs
    obtain ⟨rfl, rfl, rfl⟩ := hcs
    subst hx
    exact ⟨⟨[], (fun _ h => by cases h), Nat.zero_le _, none, 0, rfl, Nat.le_refl _, Nat.zero_le _, .inl rfl⟩, fun p hp => by cases hp⟩
  · simp at hcs
    obtain ⟨rfl, rfl, rfl⟩ := hcs
    subst hx
    simp only [if_true] at hz
    have hlen : (zs.take len).length = len := by rw [List.length_take]; omega
    refine ⟨⟨zs.take len, fun p hp => i64_bd (hwf p (List.mem_of_mem_take hp)), by rw [hlen]; unfold maxLen at hm; omega, some a, cap, by rw [hlen], by rw [hlen]; exact hl, hm, ?_⟩, fun p hp => ?_⟩
    · by_cases h0 : zs.take len = []
      · exact .inl h0
      · have hl0 : 0 < len := by
          rcases Nat.eq_zero_or_pos len with h | h
          · rw [h] at h0; exact absurd rfl h0
          · exact h
        obtain ⟨b, off, spot⟩ := a
        have hspot : spot = none := by simpa [Addr.add] using World.cell?_spot (hcell 0 (by omega))
        subst hspot
        refine .inr ⟨b, off, rfl, W.block_lt_of_cell? _ (hcell 0 (by omega)), fun i p hp => ?_⟩
        have hi := (List.getElem?_eq_some_iff.1 hp).1
        rw [hlen] at hi
        rw [List.getElem?_take, if_pos hi] at hp
        have := hcell i (by omega)
        rw [add_lit, List.getD_eq_getElem?_getD, hp] at this
        exact this
    · obtain ⟨i, hi, rfl⟩ := MemPlace.mem_row.1 hp
      exact World.block_lt_of_cell? W (a.add i) (hcell i hi) |> fun h => (show (a.add i).block = a.block by unfold Addr.add; split <;> rfl) ▸ h
/-- Texts that came in, as a list. -/
def Strs (W : World) (v : Value) : Prop := ∃ l, RdS W v l
theorem strs_of {H : Type} {enc : TypeId × Value → H} {W : World} {a0 : Option Addr} {len cap fuel : Nat} {x : DataW H × List MemPlace}
    (hf : DataW.trod enc Try.prog W 0 (fun _ => true) true fuel 27 [.slice a0 len cap] = some x) :
    Strs W (.slice a0 len cap) ∧ ∀ p ∈ x.2, p.block < W.heap.size := by
  refine ⟨?_, (came_of hf).2⟩
  rcases open_strings Try.underlying27 Try.underlying9 cellsOf9 hf with ⟨hcs, hx⟩ | ⟨a, len', cap', ss, hcs, _, hl, hm, hz, hx, hcell, hsz⟩
  · simp at hcs
    obtain ⟨rfl, rfl, rfl⟩ := hcs
    exact ⟨[], none, 0, rfl, Nat.le_refl _, Nat.zero_le _, .inl rfl⟩
  · simp at hcs
    obtain ⟨rfl, rfl, rfl⟩ := hcs
    simp only [if_true] at hz
    have hlen : (ss.take len).length = len := by rw [List.length_take]; omega
    refine ⟨ss.take len, some a, cap, by rw [hlen], by rw [hlen]; exact hl, hm, ?_⟩
    by_cases h0 : ss.take len = []
    · exact .inl h0
    · have hl0 : 0 < len := by
        rcases Nat.eq_zero_or_pos len with h | h
        · rw [h] at h0; exact absurd rfl h0
        · exact h
      obtain ⟨b, off, spot⟩ := a
      have hspot : spot = none := by simpa [Addr.add] using World.cell?_spot (hcell 0 (by omega))
      subst hspot
      refine .inr ⟨b, off, rfl, fun i p hp => ?_⟩
      have hi := (List.getElem?_eq_some_iff.1 hp).1
      rw [hlen] at hi
      rw [List.getElem?_take, if_pos hi] at hp
      have := hcell i (by omega)
      rw [add_lit, List.getD_eq_getElem?_getD, hp] at this
      exact this
end Go.Proofs.Ytpiiknbjllgaoaa
