/-
  A list of calls that comes in as an argument: how it lies in memory.
-/
import Derived.Test.YtocmgdhhlofajaaAwake
import Derived.Test.YtocmgdhhlofajaaRows
import Derived.ProofKit
import Derived.OpenShut
import Derived.Carry
import Derived.Below
import Derived.Deep.Slices
import Derived.Deep.Fields
import Derived.ChangeSame
namespace Go.Proofs.Ytocmgdhhlofajaa
open Go.ChangeShapes Go.WideShapes Go.ChangeAt Go.RowKit Go.Deep
theorem ownKnobNone : ownKnob Try.prog.godebug = none := by kernel_rfl
theorem i64_bd {n : Int} (h : (Lit.int .i64 n).wf = true) : I64 n := by
  simpa [Lit.wf, IntKind.min, IntKind.max, IntKind.signed, IntKind.bits, I64] using h
/-- A call. -/
structure OpC where
  kind : Int
  a : Int
  b : Int
  n : Int
  text : ByteArray
def OpC.ok (o : OpC) : Prop := I64 o.kind ∧ I64 o.a ∧ I64 o.b ∧ I64 o.n
/-- A call's five cells. -/
def OpAt (W : World) (b k : Nat) (o : OpC) : Prop := W.cell? ⟨b, k, none⟩ = some (.int .i64 o.kind) ∧ W.cell? ⟨b, k + 1, none⟩ = some (.int .i64 o.a) ∧ W.cell? ⟨b, k + 2, none⟩ = some (.int .i64 o.b) ∧ W.cell? ⟨b, k + 3, none⟩ = some (.int .i64 o.n) ∧ W.cell? ⟨b, k + 4, none⟩ = some (.string o.text)
/-- Calls that came in. -/
def Calld (W : World) (a : Option Addr) (len : Nat) : Prop := len = 0 ∨ ∃ b off, ∃ os : Nat → OpC, a = some ⟨b, off, none⟩ ∧ b < W.heap.size ∧ (∀ k, (os k).ok) ∧ ∀ k, k < len → OpAt W b (off + k * 5) (os k)
theorem cellsOf32 : Try.prog.cellsOf 32 = 5 := by kernel_rfl
theorem one_call {H : Type} {enc : TypeId × Value → H} {W : World} {a : Addr} {n : Nat} {cs : List Value} {x : DataW H × List MemPlace}
    (hc : W.cells? 0 a 5 = some cs) (h : DataW.trod enc Try.prog W 0 (fun _ => true) true n 32 cs = some x) :
    ∃ o : OpC, o.ok ∧ x.2 = [] ∧ W.cell? (a.add 0) = some (.int .i64 o.kind) ∧ W.cell? (a.add 1) = some (.int .i64 o.a) ∧ W.cell? (a.add 2) = some (.int .i64 o.b) ∧ W.cell? (a.add 3) = some (.int .i64 o.n) ∧ W.cell? (a.add 4) = some (.string o.text) := by
  obtain ⟨_, hl, hat⟩ := World.cells?_some hc
  obtain ⟨xs, n', _, hx, _, hlen, hf⟩ := DataW.trod_struct Try.underlying32 h
  match cs, hl with
  | [c0, c1, c2, c3, c4], _ =>
    match xs, hlen with
    | [y0, y1, y2, y3, y4], _ =>
      have e3 : Try.prog.cellsOf 3 = 1 := by kernel_rfl
      have e9 : Try.prog.cellsOf 9 = 1 := by kernel_rfl
      have g0 : DataW.trod enc Try.prog W 0 (fun _ => true) true n' 3 (([c0, c1, c2, c3, c4].drop 0).take (Try.prog.cellsOf 3)) = some y0 := hf 0 _ rfl
      have g1 : DataW.trod enc Try.prog W 0 (fun _ => true) true n' 3 (([c0, c1, c2, c3, c4].drop 1).take (Try.prog.cellsOf 3)) = some y1 := hf 1 _ rfl
      have g2 : DataW.trod enc Try.prog W 0 (fun _ => true) true n' 3 (([c0, c1, c2, c3, c4].drop 2).take (Try.prog.cellsOf 3)) = some y2 := hf 2 _ rfl
      have g3 : DataW.trod enc Try.prog W 0 (fun _ => true) true n' 3 (([c0, c1, c2, c3, c4].drop 3).take (Try.prog.cellsOf 3)) = some y3 := hf 3 _ rfl
      have g4 : DataW.trod enc Try.prog W 0 (fun _ => true) true n' 9 (([c0, c1, c2, c3, c4].drop 4).take (Try.prog.cellsOf 9)) = some y4 := hf 4 _ rfl
      simp only [e3, e9, List.drop_zero, List.drop_succ_cons, List.take_succ_cons, List.take_zero] at g0 g1 g2 g3 g4
      obtain ⟨k0, r0, z0, w0⟩ := DataW.trod_int Try.underlying3 g0
      obtain ⟨k1, r1, z1, w1⟩ := DataW.trod_int Try.underlying3 g1
      obtain ⟨k2, r2, z2, w2⟩ := DataW.trod_int Try.underlying3 g2
      obtain ⟨k3, r3, z3, w3⟩ := DataW.trod_int Try.underlying3 g3
      obtain ⟨k4, r4, z4, w4⟩ := DataW.trod_string Try.underlying9 g4
      refine ⟨⟨k0, k1, k2, k3, k4⟩, ⟨i64_bd w0, i64_bd w1, i64_bd w2, i64_bd w3⟩, ?_, ?_, ?_, ?_, ?_, ?_⟩
      · rw [hx]
        simp [z0, z1, z2, z3, z4]
      · rw [hat 0 (by decide)]; simpa using r0
      · rw [hat 1 (by decide)]; simpa using r1
      · rw [hat 2 (by decide)]; simpa using r2
      · rw [hat 3 (by decide)]; simpa using r3
      · rw [hat 4 (by decide)]; simpa using r4
theorem ops_of {H : Type} {enc : TypeId × Value → H} {W : World} {a0 : Option Addr} {len cap fuel : Nat} {x : DataW H × List MemPlace}
    (hf : DataW.trod enc Try.prog W 0 (fun _ => true) true fuel 22 [.slice a0 len cap] = some x) :
    Calld W a0 len ∧ ∀ p ∈ x.2, p.block < W.heap.size := by
  rcases open_slice Try.underlying22 hf with ⟨hcs, hx⟩ | ⟨a, len', cap', m, n, D, Pl, hcs, _, hl, _, hm, hx, hi⟩
  · simp at hcs
    obtain ⟨rfl, rfl, rfl⟩ := hcs
    subst hx
    exact ⟨.inl rfl, fun p hp => by cases hp⟩
  · simp at hcs
    obtain ⟨rfl, rfl, rfl⟩ := hcs
    simp only [if_true] at hm
    rw [cellsOf32] at hi hx
    have H1 : ∀ i, i < m → ∃ o : OpC, o.ok ∧ Pl i = [] ∧ W.cell? ((a.add (i * 5)).add 0) = some (.int .i64 o.kind) ∧ W.cell? ((a.add (i * 5)).add 1) = some (.int .i64 o.a) ∧ W.cell? ((a.add (i * 5)).add 2) = some (.int .i64 o.b) ∧ W.cell? ((a.add (i * 5)).add 3) = some (.int .i64 o.n) ∧ W.cell? ((a.add (i * 5)).add 4) = some (.string o.text) := by
      intro i him
      obtain ⟨cs', hc, ht⟩ := hi i him
      exact one_call hc ht
    have hblk : 0 < m → a.block < W.heap.size ∧ a.spot = none := by
      intro h0
      obtain ⟨o, _, _, c0, _⟩ := H1 0 h0
      have e : (a.add (0 * 5)).add 0 = a := by simp [Addr.add]
      rw [e] at c0
      exact ⟨W.block_lt_of_cell? _ c0, World.cell?_spot c0⟩
    refine ⟨?_, fun p hp => ?_⟩
    · by_cases h0 : len = 0
      · exact .inl h0
      · obtain ⟨hb, hs⟩ := hblk (by omega)
        obtain ⟨b, off, spot⟩ := a
        obtain rfl : spot = none := hs
        have H2 : ∀ k, ∃ o : OpC, o.ok ∧ (k < m → OpAt W b (off + k * 5) o) := by
          intro k
          by_cases hk : k < m
          · obtain ⟨o, ho, _, c0, c1, c2, c3, c4⟩ := H1 k hk
            simp only [add_lit, Nat.add_zero] at c0 c1 c2 c3 c4
            exact ⟨o, ho, fun _ => ⟨c0, c1, c2, c3, c4⟩⟩
          · exact ⟨⟨0, 0, 0, 0, ByteArray.empty⟩, ⟨i0', i0', i0', i0'⟩, fun h => absurd h hk⟩
        obtain ⟨os, hos⟩ := Classical.axiomOfChoice H2
        exact .inr ⟨b, off, os, rfl, hb, fun k => (hos k).1, fun k hk => (hos k).2 (by omega)⟩
    · rw [hx] at hp
      rcases List.mem_append.1 hp with hp | hp
      · obtain ⟨i, hi2, rfl⟩ := MemPlace.mem_row.1 hp
        have := (hblk (by omega)).1
        exact this
      · obtain ⟨i, hi2, hpi⟩ := List.mem_flatMap.1 hp
        obtain ⟨_, _, hz, _⟩ := H1 i (List.mem_range.1 hi2)
        rw [hz] at hpi
        cases hpi
end Go.Proofs.Ytocmgdhhlofajaa
