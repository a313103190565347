/-
  How a record, and what a zone says, come in as arguments by value.
-/
import Derived.Test.YtflpceaaelampaaArgs
import Derived.Test.YtflpceaaelampaaCheckRec
import Derived.Deep.Slices
import Derived.Deep.Fields
import Derived.ChangeSame
import Derived.Lib.SmallJoins
namespace Go.Proofs.Ytflpceaaelampaa
open Go.ChangeShapes Go.WideShapes Go.ChangeAt Go.RowKit Go.Deep Go.Joins
theorem cellsOf25 : Try.prog.cellsOf 25 = 5 := by kernel_rfl
theorem cellsOf31 : Try.prog.cellsOf 31 = 7 := by kernel_rfl
theorem u32_bd {n : Int} (h : (Lit.int .u32 n).wf = true) : 0 ≤ n ∧ n < 4294967296 := by
  have h2 : 0 ≤ n ∧ n ≤ 4294967295 := by simpa [Lit.wf, IntKind.min, IntKind.max, IntKind.signed, IntKind.bits] using h
  omega
theorem u16_bd {n : Int} (h : (Lit.int .u16 n).wf = true) : 0 ≤ n ∧ n < 65536 := by
  have h2 : 0 ≤ n ∧ n ≤ 65535 := by simpa [Lit.wf, IntKind.min, IntKind.max, IntKind.signed, IntKind.bits] using h
  omega
theorem int_nat {n b : Int} (h : 0 ≤ n ∧ n < b) : ∃ k : Nat, n = (k : Int) ∧ (k : Int) < b := ⟨n.toNat, by omega, by omega⟩
/-- The numbers of a record are of their kinds. -/
structure Rc.Num (r : Rc) : Prop where
  t : r.t < 65536
  c : r.c < 65536
  l : r.l < 4294967296
set_option maxRecDepth 100000 in
/-- Five cells that read as a record are one. -/
theorem rc_cells {H : Type} {enc : TypeId × Value → H} {W : World} {base n : Nat} {cs : List Value} {x : DataW H × List MemPlace} (hl : cs.length = 5)
    (h : DataW.trod enc Try.prog W base (fun _ => true) true n 25 cs = some x) : ∃ r : Rc, r.Num ∧ cs = r.cells.toList ∧ x.2 = [] := by
  obtain ⟨xs, n', _, hx, _, hlen, hf⟩ := DataW.trod_struct Try.underlying25 h
  match cs, hl with
  | [c0, c1, c2, c3, c4], _ =>
    match xs, hlen with
    | [y0, y1, y2, y3, y4], _ =>
      have e22 : Try.prog.cellsOf 22 = 1 := by kernel_rfl
      have e23 : Try.prog.cellsOf 23 = 1 := by kernel_rfl
      have e9 : Try.prog.cellsOf 9 = 1 := by kernel_rfl
      have g0 : DataW.trod enc Try.prog W base (fun _ => true) true n' 9 (([c0, c1, c2, c3, c4].drop 0).take (Try.prog.cellsOf 9)) = some y0 := hf 0 _ rfl
      have g1 : DataW.trod enc Try.prog W base (fun _ => true) true n' 22 (([c0, c1, c2, c3, c4].drop 1).take (Try.prog.cellsOf 22)) = some y1 := hf 1 _ rfl
      have g2 : DataW.trod enc Try.prog W base (fun _ => true) true n' 22 (([c0, c1, c2, c3, c4].drop 2).take (Try.prog.cellsOf 22)) = some y2 := hf 2 _ rfl
      have g3 : DataW.trod enc Try.prog W base (fun _ => true) true n' 23 (([c0, c1, c2, c3, c4].drop 3).take (Try.prog.cellsOf 23)) = some y3 := hf 3 _ rfl
      have g4 : DataW.trod enc Try.prog W base (fun _ => true) true n' 9 (([c0, c1, c2, c3, c4].drop 4).take (Try.prog.cellsOf 9)) = some y4 := hf 4 _ rfl
      simp only [e22, e23, e9, List.drop_zero, List.drop_succ_cons, List.take_succ_cons, List.take_zero] at g0 g1 g2 g3 g4
      obtain ⟨k0, r0, z0, w0⟩ := DataW.trod_string Try.underlying9 g0
      obtain ⟨k1, r1, z1, w1⟩ := DataW.trod_int Try.underlying22 g1
      obtain ⟨k2, r2, z2, w2⟩ := DataW.trod_int Try.underlying22 g2
      obtain ⟨k3, r3, z3, w3⟩ := DataW.trod_int Try.underlying23 g3
      obtain ⟨k4, r4, z4, w4⟩ := DataW.trod_string Try.underlying9 g4
      obtain ⟨t, rfl, ht⟩ := int_nat (u16_bd w1)
      obtain ⟨c, rfl, hc⟩ := int_nat (u16_bd w2)
      obtain ⟨l, rfl, hll⟩ := int_nat (u32_bd w3)
      injection r0 with r0
      injection r1 with r1
      injection r2 with r2
      injection r3 with r3
      injection r4 with r4
      subst r0 r1 r2 r3 r4
      refine ⟨⟨k0, t, c, l, k4⟩, ⟨Int.ofNat_lt.1 ht, Int.ofNat_lt.1 hc, Int.ofNat_lt.1 hll⟩, rfl, ?_⟩
      rw [hx]
      simp [z0, z1, z2, z3, z4]
set_option maxRecDepth 100000 in
theorem rc_of {H : Type} {enc : TypeId × Value → H} {W : World} {base b0 : Nat} {v : Value} {d : DataW H} {p : List MemPlace} (hv : Value.okWide Try.prog W .any b0 25 v)
    (h : DataW.Trod enc Try.prog W base (fun _ => true) true 25 v d p) : ∃ r : Rc, r.Num ∧ v = r.v ∧ p = [] := by
  obtain ⟨cs, rfl, hsz⟩ := okWide_struct Try.underlying25 hv
  obtain ⟨fuel, hf⟩ := h
  obtain ⟨r, hr, he, hp⟩ := rc_cells (by simpa [Value.cells] using hsz.trans cellsOf25) hf
  refine ⟨r, hr, ?_, hp⟩
  have : cs = r.cells := Array.toList_inj.1 (by simpa [Value.cells] using he)
  rw [this]
/-- What a zone says. -/
structure Sa where
  s : ByteArray
  m : ByteArray
  a : Nat
  b : Nat
  c : Nat
  d : Nat
  e : Nat
abbrev Sa.cells (x : Sa) : Array Value := #[.string x.s, .string x.m, .int .u32 (x.a : Int), .int .u32 (x.b : Int), .int .u32 (x.c : Int), .int .u32 (x.d : Int), .int .u32 (x.e : Int)]
abbrev Sa.v (x : Sa) : Value := .agg x.cells
structure Sa.Num (x : Sa) : Prop where
  a : x.a < 4294967296
  b : x.b < 4294967296
  c : x.c < 4294967296
  d : x.d < 4294967296
  e : x.e < 4294967296
set_option maxRecDepth 100000 in
theorem sa_cells {H : Type} {enc : TypeId × Value → H} {W : World} {base n : Nat} {cs : List Value} {x : DataW H × List MemPlace} (hl : cs.length = 7)
    (h : DataW.trod enc Try.prog W base (fun _ => true) true n 31 cs = some x) : ∃ r : Sa, r.Num ∧ cs = r.cells.toList ∧ x.2 = [] := by
  obtain ⟨xs, n', _, hx, _, hlen, hf⟩ := DataW.trod_struct Try.underlying31 h
  match cs, hl with
  | [c0, c1, c2, c3, c4, c5, c6], _ =>
    match xs, hlen with
    | [y0, y1, y2, y3, y4, y5, y6], _ =>
      have e23 : Try.prog.cellsOf 23 = 1 := by kernel_rfl
      have e9 : Try.prog.cellsOf 9 = 1 := by kernel_rfl
      have g0 : DataW.trod enc Try.prog W base (fun _ => true) true n' 9 (([c0, c1, c2, c3, c4, c5, c6].drop 0).take (Try.prog.cellsOf 9)) = some y0 := hf 0 _ rfl
      have g1 : DataW.trod enc Try.prog W base (fun _ => true) true n' 9 (([c0, c1, c2, c3, c4, c5, c6].drop 1).take (Try.prog.cellsOf 9)) = some y1 := hf 1 _ rfl
      have g2 : DataW.trod enc Try.prog W base (fun _ => true) true n' 23 (([c0, c1, c2, c3, c4, c5, c6].drop 2).take (Try.prog.cellsOf 23)) = some y2 := hf 2 _ rfl
      have g3 : DataW.trod enc Try.prog W base (fun _ => true) true n' 23 (([c0, c1, c2, c3, c4, c5, c6].drop 3).take (Try.prog.cellsOf 23)) = some y3 := hf 3 _ rfl
      have g4 : DataW.trod enc Try.prog W base (fun _ => true) true n' 23 (([c0, c1, c2, c3, c4, c5, c6].drop 4).take (Try.prog.cellsOf 23)) = some y4 := hf 4 _ rfl
      have g5 : DataW.trod enc Try.prog W base (fun _ => true) true n' 23 (([c0, c1, c2, c3, c4, c5, c6].drop 5).take (Try.prog.cellsOf 23)) = some y5 := hf 5 _ rfl
      have g6 : DataW.trod enc Try.prog W base (fun _ => true) true n' 23 (([c0, c1, c2, c3, c4, c5, c6].drop 6).take (Try.prog.cellsOf 23)) = some y6 := hf 6 _ rfl
      simp only [e23, e9, List.drop_zero, List.drop_succ_cons, List.take_succ_cons, List.take_zero] at g0 g1 g2 g3 g4 g5 g6
      obtain ⟨k0, r0, z0, w0⟩ := DataW.trod_string Try.underlying9 g0
      obtain ⟨k1, r1, z1, w1⟩ := DataW.trod_string Try.underlying9 g1
      obtain ⟨k2, r2, z2, w2⟩ := DataW.trod_int Try.underlying23 g2
      obtain ⟨k3, r3, z3, w3⟩ := DataW.trod_int Try.underlying23 g3
      obtain ⟨k4, r4, z4, w4⟩ := DataW.trod_int Try.underlying23 g4
      obtain ⟨k5, r5, z5, w5⟩ := DataW.trod_int Try.underlying23 g5
      obtain ⟨k6, r6, z6, w6⟩ := DataW.trod_int Try.underlying23 g6
      obtain ⟨a, rfl, ha⟩ := int_nat (u32_bd w2)
      obtain ⟨b, rfl, hb⟩ := int_nat (u32_bd w3)
      obtain ⟨c, rfl, hc⟩ := int_nat (u32_bd w4)
      obtain ⟨d, rfl, hd⟩ := int_nat (u32_bd w5)
      obtain ⟨e, rfl, he⟩ := int_nat (u32_bd w6)
      injection r0 with r0
      injection r1 with r1
      injection r2 with r2
      injection r3 with r3
      injection r4 with r4
      injection r5 with r5
      injection r6 with r6
      subst r0 r1 r2 r3 r4 r5 r6
      refine ⟨⟨k0, k1, a, b, c, d, e⟩, ⟨Int.ofNat_lt.1 ha, Int.ofNat_lt.1 hb, Int.ofNat_lt.1 hc, Int.ofNat_lt.1 hd, Int.ofNat_lt.1 he⟩, rfl, ?_⟩
      rw [hx]
      simp [z0, z1, z2, z3, z4, z5, z6]
set_option maxRecDepth 100000 in
theorem sa_of {H : Type} {enc : TypeId × Value → H} {W : World} {base b0 : Nat} {v : Value} {d : DataW H} {p : List MemPlace} (hv : Value.okWide Try.prog W .any b0 31 v)
    (h : DataW.Trod enc Try.prog W base (fun _ => true) true 31 v d p) : ∃ r : Sa, r.Num ∧ v = r.v ∧ p = [] := by
  obtain ⟨cs, rfl, hsz⟩ := okWide_struct Try.underlying31 hv
  obtain ⟨fuel, hf⟩ := h
  obtain ⟨r, hr, he, hp⟩ := sa_cells (by simpa [Value.cells] using hsz.trans cellsOf31) hf
  refine ⟨r, hr, ?_, hp⟩
  have : cs = r.cells := Array.toList_inj.1 (by simpa [Value.cells] using he)
  rw [this]
end Go.Proofs.Ytflpceaaelampaa
