/-
  Args: How arguments lie in memory: numbers, and a list of texts that comes in.
  RecArg: How a record, and what a zone says, come in as arguments by value.
-/
import Derived.Test.YtljfkjbagebncaaRows
import Derived.ProofKit
import Derived.OpenShut
import Derived.Carry
import Derived.SliceStrings
import Derived.Below
import Derived.Test.YtljfkjbagebncaaG13
import Derived.Deep.Slices
import Derived.Deep.Fields
import Derived.ChangeSame
import Derived.Lib.SmallJoins

/- Args -/
namespace Go.Proofs.Ytljfkjbagebncaa
open Go.ChangeShapes Go.WideShapes Go.ChangeAt Go.RowKit
theorem ownKnobNone : ownKnob Try.prog.godebug = none := by kernel_rfl
theorem laidOutT : laidOutB Try.prog = true := by kernel_rfl
theorem cellsOf9 : Try.prog.cellsOf 9 = 1 := by kernel_rfl
theorem i64_bd {n : Int} (h : (Lit.int .i64 n).wf = true) : -9223372036854775808 ≤ n ∧ n ≤ 9223372036854775807 := by
  simpa [Lit.wf, IntKind.min, IntKind.max, IntKind.signed, IntKind.bits] using h
/-- Texts that came in. -/
def Came (W : World) (a : Option Addr) (len : Nat) : Prop := len = 0 ∨ ∃ b off, ∃ ss : Nat → ByteArray, a = some ⟨b, off, none⟩ ∧ b < W.heap.size ∧ ∀ k, k < len → W.cell? ⟨b, off + k, none⟩ = some (.string (ss k))
theorem came_of {H : Type} {enc : TypeId × Value → H} {W : World} {a0 : Option Addr} {len cap fuel : Nat} {x : DataW H × List MemPlace}
    (hf : DataW.trod enc Try.prog W 0 (fun _ => true) true fuel 114 [.slice a0 len cap] = some x) :
    Came W a0 len ∧ ∀ p ∈ x.2, p.block < W.heap.size := by
  rcases open_strings Try.underlying114 Try.underlying9 cellsOf9 hf with ⟨hcs, hx⟩ | ⟨a, len', cap', ss, hcs, _, hl, hm, hz, hx, hcell, hsz⟩
  · simp at hcs
    obtain ⟨rfl, rfl, rfl⟩ := hcs
    subst hx
    exact ⟨.inl rfl, fun p hp => by cases hp⟩
  · simp at hcs
    obtain ⟨rfl, rfl, rfl⟩ := hcs
    subst hx
    simp only [if_true] at hz
    refine ⟨?_, fun p hp => ?_⟩
    · by_cases h0 : len = 0
      · exact .inl h0
      · obtain ⟨b, off, spot⟩ := a
        have hspot : spot = none := by simpa [Addr.add] using World.cell?_spot (hcell 0 (by omega))
        subst hspot
        refine .inr ⟨b, off, fun k => ss.getD k ByteArray.empty, rfl, W.block_lt_of_cell? _ (hcell 0 (by omega)), fun k hk => ?_⟩
        rw [show (⟨b, off + k, none⟩ : Addr) = (⟨b, off, none⟩ : Addr).add k by unfold Addr.add; split <;> simp_all]
        exact hcell k (by omega)
    · obtain ⟨i, hi, rfl⟩ := MemPlace.mem_row.1 hp
      exact World.block_lt_of_cell? W (a.add i) (hcell i hi) |> fun h => (show (a.add i).block = a.block by unfold Addr.add; split <;> rfl) ▸ h
end Go.Proofs.Ytljfkjbagebncaa

/- RecArg -/
namespace Go.Proofs.Ytljfkjbagebncaa
open Go.ChangeShapes Go.WideShapes Go.ChangeAt Go.RowKit Go.Deep Go.Joins
theorem cellsOf25 : Try.prog.cellsOf 61 = 5 := by kernel_rfl
theorem u32_bd {n : Int} (h : (Lit.int .u32 n).wf = true) : 0 ≤ n ∧ n < 4294967296 := by
  have h2 : 0 ≤ n ∧ n ≤ 4294967295 := by simpa [Lit.wf, IntKind.min, IntKind.max, IntKind.signed, IntKind.bits] using h
  omega
theorem u16_bd {n : Int} (h : (Lit.int .u16 n).wf = true) : 0 ≤ n ∧ n < 65536 := by
  have h2 : 0 ≤ n ∧ n ≤ 65535 := by simpa [Lit.wf, IntKind.min, IntKind.max, IntKind.signed, IntKind.bits] using h
  omega
theorem int_nat {n b : Int} (h : 0 ≤ n ∧ n < b) : ∃ k : Nat, n = (k : Int) ∧ (k : Int) < b := ⟨n.toNat, by omega, by omega⟩
/-- The numbers of a record are of their kinds. -/
structure Rc.Num (r : Rc) : Prop where
  t : r.t < 65536
  c : r.c < 65536
  l : r.l < 4294967296
set_option maxRecDepth 100000 in
/-- Five cells that read as a record are one. -/
theorem rc_cells {H : Type} {enc : TypeId × Value → H} {W : World} {base n : Nat} {cs : List Value} {x : DataW H × List MemPlace} (hl : cs.length = 5)
    (h : DataW.trod enc Try.prog W base (fun _ => true) true n 61 cs = some x) : ∃ r : Rc, r.Num ∧ cs = r.cells.toList ∧ x.2 = [] := by
  obtain ⟨xs, n', _, hx, _, hlen, hf⟩ := DataW.trod_struct Try.underlying61 h
  match cs, hl with
  | [c0, c1, c2, c3, c4], _ =>
    match xs, hlen with
    | [y0, y1, y2, y3, y4], _ =>
      have e22 : Try.prog.cellsOf 22 = 1 := by kernel_rfl
      have e23 : Try.prog.cellsOf 59 = 1 := by kernel_rfl
      have e9 : Try.prog.cellsOf 9 = 1 := by kernel_rfl
      have g0 : DataW.trod enc Try.prog W base (fun _ => true) true n' 9 (([c0, c1, c2, c3, c4].drop 0).take (Try.prog.cellsOf 9)) = some y0 := hf 0 _ rfl
      have g1 : DataW.trod enc Try.prog W base (fun _ => true) true n' 22 (([c0, c1, c2, c3, c4].drop 1).take (Try.prog.cellsOf 22)) = some y1 := hf 1 _ rfl
      have g2 : DataW.trod enc Try.prog W base (fun _ => true) true n' 22 (([c0, c1, c2, c3, c4].drop 2).take (Try.prog.cellsOf 22)) = some y2 := hf 2 _ rfl
      have g3 : DataW.trod enc Try.prog W base (fun _ => true) true n' 59 (([c0, c1, c2, c3, c4].drop 3).take (Try.prog.cellsOf 59)) = some y3 := hf 3 _ rfl
      have g4 : DataW.trod enc Try.prog W base (fun _ => true) true n' 9 (([c0, c1, c2, c3, c4].drop 4).take (Try.prog.cellsOf 9)) = some y4 := hf 4 _ rfl
      simp only [e22, e23, e9, List.drop_zero, List.drop_succ_cons, List.take_succ_cons, List.take_zero] at g0 g1 g2 g3 g4
      obtain ⟨k0, r0, z0, w0⟩ := DataW.trod_string Try.underlying9 g0
      obtain ⟨k1, r1, z1, w1⟩ := DataW.trod_int Try.underlying22 g1
      obtain ⟨k2, r2, z2, w2⟩ := DataW.trod_int Try.underlying22 g2
      obtain ⟨k3, r3, z3, w3⟩ := DataW.trod_int Try.underlying59 g3
      obtain ⟨k4, r4, z4, w4⟩ := DataW.trod_string Try.underlying9 g4
      obtain ⟨t, rfl, ht⟩ := int_nat (u16_bd w1)
      obtain ⟨c, rfl, hc⟩ := int_nat (u16_bd w2)
      obtain ⟨l, rfl, hll⟩ := int_nat (u32_bd w3)
      injection r0 with r0
      injection r1 with r1
      injection r2 with r2
      injection r3 with r3
      injection r4 with r4
      subst r0 r1 r2 r3 r4
      refine ⟨⟨k0, t, c, l, k4⟩, ⟨Int.ofNat_lt.1 ht, Int.ofNat_lt.1 hc, Int.ofNat_lt.1 hll⟩, rfl, ?_⟩
      rw [hx]
      simp [z0, z1, z2, z3, z4]
set_option maxRecDepth 100000 in
theorem rc_of {H : Type} {enc : TypeId × Value → H} {W : World} {base b0 : Nat} {v : Value} {d : DataW H} {p : List MemPlace} (hv : Value.okWide Try.prog W .any b0 61 v)
    (h : DataW.Trod enc Try.prog W base (fun _ => true) true 61 v d p) : ∃ r : Rc, r.Num ∧ v = r.v ∧ p = [] := by
  obtain ⟨cs, rfl, hsz⟩ := okWide_struct Try.underlying61 hv
  obtain ⟨fuel, hf⟩ := h
  obtain ⟨r, hr, he, hp⟩ := rc_cells (by simpa [Value.cells] using hsz.trans cellsOf25) hf
  refine ⟨r, hr, ?_, hp⟩
  have : cs = r.cells := Array.toList_inj.1 (by simpa [Value.cells] using he)
  rw [this]
end Go.Proofs.Ytljfkjbagebncaa
