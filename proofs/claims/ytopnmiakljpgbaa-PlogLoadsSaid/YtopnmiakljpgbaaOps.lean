/-
  How arguments lie in memory: numbers, three of them, entries, logs, all of a node's, texts.
-/
import Derived.Test.YtopnmiakljpgbaaNow
import Derived.Test.YtopnmiakljpgbaaRows
import Derived.ProofKit
import Derived.OpenShut
import Derived.Carry
import Derived.Below
import Derived.SliceStrings
import Derived.Deep.Slices
import Derived.Deep.Fields
import Derived.ChangeSame
namespace Go.Proofs.Ytopnmiakljpgbaa
open Go.ChangeShapes Go.WideShapes Go.ChangeAt Go.RowKit Go.Deep
theorem ownKnobNone : ownKnob Try.prog.godebug = none := by kernel_rfl
theorem laidOutT : laidOutB Try.prog = true := by kernel_rfl
theorem i64_bd {n : Int} (h : (Lit.int .i64 n).wf = true) : I64 n := by
  simpa [Lit.wf, IntKind.min, IntKind.max, IntKind.signed, IntKind.bits, I64] using h
theorem cellsOf9 : Try.prog.cellsOf 9 = 1 := by kernel_rfl
theorem cellsOf3 : Try.prog.cellsOf 3 = 1 := by kernel_rfl
theorem cellsOf22 : Try.prog.cellsOf 22 = 1 := by kernel_rfl
theorem cellsOf40 : Try.prog.cellsOf 40 = 1 := by kernel_rfl
theorem cellsOf31 : Try.prog.cellsOf 31 = 3 := by kernel_rfl
theorem cellsOf24 : Try.prog.cellsOf 24 = 3 := by kernel_rfl
theorem cellsOf42 : Try.prog.cellsOf 42 = 7 := by kernel_rfl
theorem cellsOf67 : Try.prog.cellsOf 67 = 3 := by kernel_rfl
theorem add_lit (b off j : Nat) : (⟨b, off, none⟩ : Addr).add j = ⟨b, off + j, none⟩ := by unfold Addr.add; split <;> simp_all
theorem okWide_array {w : World} {r : Reach} {b0 : Nat} {t e : TypeId} {n : Nat} {v : Value} (ht : Try.prog.underlying t = some (.array n e)) (hval : Value.okWide Try.prog w r b0 t v) : ∃ cs, v = .agg cs := by
  unfold Value.okWide at hval
  rw [ht] at hval
  obtain ⟨cs, h, _⟩ := hval
  exact ⟨cs, h⟩
set_option maxRecDepth 100000 in
theorem arr3_of {H : Type} {enc : TypeId × Value → H} {w : World} {base : Nat} {spare : Nat → Bool} {held : Bool} {r : Reach} {b0 : Nat} {v : Value} {d : DataW H} {ps : List MemPlace}
    (hval : Value.okWide Try.prog w r b0 67 v) (hd : DataW.Trod enc Try.prog w base spare held 67 v d ps) : (∃ x y z : Int, v = .agg #[it x, it y, it z] ∧ I64 x ∧ I64 y ∧ I64 z) ∧ ps = [] := by
  obtain ⟨cs, rfl⟩ := okWide_array Try.underlying67 hval
  obtain ⟨fuel, hf⟩ := hd
  obtain ⟨ys, m, rfl, hx, hlen, hyl, hel⟩ := DataW.trod_array Try.underlying67 hf
  have hcl : cs.toList.length = 3 := by rw [← cellsOf67, ← hlen]; rfl
  have key : ∀ i, i < 3 → ∃ z : Int, cs.toList[i]? = some (it z) ∧ I64 z ∧ ∃ dd, ys[i]? = some (dd, []) := by
    intro i hi
    have h1 := hel i hi
    rw [cellsOf3, Nat.mul_one] at h1
    have hyi : ys[i]? = some ys[i] := List.getElem?_eq_getElem (by omega)
    rw [hyi] at h1
    obtain ⟨z, e1, e2, e3⟩ := DataW.trod_int Try.underlying3 h1
    refine ⟨z, ?_, i64_bd e3, _, by rw [hyi, e2]⟩
    have := congrArg (·[0]?) e1
    simpa [List.getElem?_take, List.getElem?_drop, Value.cells] using this
  obtain ⟨x, e0, b0, d0, f0⟩ := key 0 (by omega)
  obtain ⟨y, e1, b1, d1, f1⟩ := key 1 (by omega)
  obtain ⟨z, e2, b2, d2, f2⟩ := key 2 (by omega)
  refine ⟨⟨x, y, z, ?_, b0, b1, b2⟩, ?_⟩
  · congr 1
    apply Array.toList_inj.1
    match cs.toList, hcl, e0, e1, e2 with
    | [a, b, c], _, e0, e1, e2 => simp at e0 e1 e2; rw [e0, e1, e2]
  · have hp : ps = ys.flatMap (·.2) := congrArg Prod.snd hx
    rw [hp]
    match ys, hyl, f0, f1, f2 with
    | [a, b, c], _, f0, f1, f2 => simp at f0 f1 f2; rw [f0, f1, f2]; rfl
/-- An entry's numbers. -/
def En.Num (e : En) : Prop := I64 e.term ∧ I64 e.kind
/-- Three cells that read as an entry are one. -/
theorem en_cells {H : Type} {enc : TypeId × Value → H} {W : World} {base n : Nat} {cs : List Value} {x : DataW H × List MemPlace} (hl : cs.length = 3)
    (h : DataW.trod enc Try.prog W base (fun _ => true) true n 31 cs = some x) : ∃ e : En, e.Num ∧ cs = ec e ∧ x.2 = [] := by
  obtain ⟨xs, n', _, hx, _, hlen, hf⟩ := DataW.trod_struct Try.underlying31 h
  match cs, hl with
  | [c0, c1, c2], _ =>
    match xs, hlen with
    | [y0, y1, y2], _ =>
      have g0 : DataW.trod enc Try.prog W base (fun _ => true) true n' 3 (([c0, c1, c2].drop 0).take (Try.prog.cellsOf 3)) = some y0 := hf 0 _ rfl
      have g1 : DataW.trod enc Try.prog W base (fun _ => true) true n' 3 (([c0, c1, c2].drop 1).take (Try.prog.cellsOf 3)) = some y1 := hf 1 _ rfl
      have g2 : DataW.trod enc Try.prog W base (fun _ => true) true n' 9 (([c0, c1, c2].drop 2).take (Try.prog.cellsOf 9)) = some y2 := hf 2 _ rfl
      simp only [cellsOf3, cellsOf9, List.drop_zero, List.drop_succ_cons, List.take_succ_cons, List.take_zero] at g0 g1 g2
      obtain ⟨k0, r0, z0, w0⟩ := DataW.trod_int Try.underlying3 g0
      obtain ⟨k1, r1, z1, w1⟩ := DataW.trod_int Try.underlying3 g1
      obtain ⟨k2, r2, z2, w2⟩ := DataW.trod_string Try.underlying9 g2
      injection r0 with r0
      injection r1 with r1
      injection r2 with r2
      subst r0 r1 r2
      refine ⟨⟨k0, k1, k2⟩, ⟨i64_bd w0, i64_bd w1⟩, rfl, ?_⟩
      rw [hx]
      simp [z0, z1, z2]
/-- Entries that came in. -/
theorem ents_of {H : Type} {enc : TypeId × Value → H} {W : World} {fuel : Nat} {c : Value} {x : DataW H × List MemPlace}
    (hf : DataW.trod enc Try.prog W 0 (fun _ => true) true fuel 22 [c] = some x) :
    ∃ (L : List En) (a : Option Addr) (n cap : Nat), c = .slice a n cap ∧ RdE W (.slice a n cap) L ∧ (∀ e ∈ L, e.Num) ∧ ∀ p ∈ x.2, p.block < W.heap.size := by
  rcases open_slice Try.underlying22 hf with ⟨hcs, hx⟩ | ⟨a, len, cap, m, n, D, Pl, hcs, _, hl, hcm, hm, hx, hi⟩
  · simp at hcs
    subst hcs hx
    exact ⟨[], none, 0, 0, rfl, RdE.nil W, by simp, by simp⟩
  · simp at hcs
    subst hcs
    simp only [if_true] at hm
    rw [cellsOf31] at hi hx
    have H1 : ∀ i, i < m → ∃ q : En, q.Num ∧ Pl i = [] ∧ W.cell? ((a.add (i * 3)).add 0) = some (it q.term) ∧ W.cell? ((a.add (i * 3)).add 1) = some (it q.kind) ∧ W.cell? ((a.add (i * 3)).add 2) = some (.string q.data) := by
      intro i him
      obtain ⟨cs', hc, ht⟩ := hi i him
      obtain ⟨_, hcl, hat⟩ := World.cells?_some hc
      obtain ⟨q, hq, he, hp⟩ := en_cells hcl ht
      subst he
      exact ⟨q, hq, hp, by simpa using hat 0 (by decide), by simpa using hat 1 (by decide), by simpa using hat 2 (by decide)⟩
    have hblk : 0 < m → a.block < W.heap.size ∧ a.spot = none := by
      intro h0
      obtain ⟨o, _, _, c0, _⟩ := H1 0 h0
      have e : (a.add (0 * 3)).add 0 = a := by simp [Addr.add]
      rw [e] at c0
      exact ⟨W.block_lt_of_cell? _ c0, World.cell?_spot c0⟩
    have hpl : ∀ p ∈ x.2, p.block < W.heap.size := by
      intro p hp
      rw [hx] at hp
      rcases List.mem_append.1 hp with hp | hp
      · obtain ⟨i, hi2, rfl⟩ := MemPlace.mem_row.1 hp
        exact (hblk (by omega)).1
      · obtain ⟨i, hi2, hpi⟩ := List.mem_flatMap.1 hp
        obtain ⟨q, _, he, _⟩ := H1 i (List.mem_range.1 hi2)
        rw [he] at hpi; cases hpi
    by_cases h0 : len = 0
    · subst h0
      exact ⟨[], some a, 0, cap, rfl, ⟨some a, cap, rfl, Nat.zero_le _, by omega, .inl rfl⟩, by simp, hpl⟩
    · obtain ⟨hb, hs⟩ := hblk (by omega)
      obtain ⟨b, off, spot⟩ := a
      obtain rfl : spot = none := hs
      have H2 : ∀ k, ∃ q : En, q.Num ∧ (k < m → W.cell? ⟨b, off + k * 3, none⟩ = some (it q.term) ∧ W.cell? ⟨b, off + k * 3 + 1, none⟩ = some (it q.kind) ∧ W.cell? ⟨b, off + k * 3 + 2, none⟩ = some (.string q.data)) := by
        intro k
        by_cases hk : k < m
        · obtain ⟨q, hq, _, c0, c1, c2⟩ := H1 k hk
          simp only [add_lit, Nat.add_zero] at c0 c1 c2
          exact ⟨q, hq, fun _ => ⟨c0, c1, c2⟩⟩
        · exact ⟨⟨0, 0, ByteArray.empty⟩, ⟨⟨by decide, by decide⟩, ⟨by decide, by decide⟩⟩, fun h => absurd h hk⟩
      obtain ⟨qf, hqf⟩ := Classical.axiomOfChoice H2
      refine ⟨(List.range len).map qf, some ⟨b, off, none⟩, len, cap, rfl, ⟨_, cap, by simp, by simp; omega, by omega, .inr ⟨b, off, rfl, fun j q hj => ?_⟩⟩, ?_, hpl⟩
      · obtain ⟨h3, h4⟩ := List.getElem?_eq_some_iff.1 hj
        simp at h3 h4
        subst h4
        exact (hqf j).2 (by omega)
      · intro q hq
        obtain ⟨k, _, rfl⟩ := List.mem_map.1 hq
        exact (hqf k).1
/-- Three cells that read as a log. -/
theorem lg_cells {H : Type} {enc : TypeId × Value → H} {W : World} {n : Nat} {cs : List Value} {x : DataW H × List MemPlace} (hl : cs.length = 3)
    (h : DataW.trod enc Try.prog W 0 (fun _ => true) true n 24 cs = some x) :
    ∃ (base bt : Int) (L : List En) (a : Option Addr) (n cap : Nat), cs = [it base, it bt, .slice a n cap] ∧ I64 base ∧ I64 bt ∧ RdE W (.slice a n cap) L ∧ (∀ e ∈ L, e.Num) ∧ ∀ p ∈ x.2, p.block < W.heap.size := by
  obtain ⟨xs, n', _, hx, _, hlen, hf⟩ := DataW.trod_struct Try.underlying24 h
  match cs, hl with
  | [c0, c1, c2], _ =>
    match xs, hlen with
    | [y0, y1, y2], _ =>
      have g0 : DataW.trod enc Try.prog W 0 (fun _ => true) true n' 3 (([c0, c1, c2].drop 0).take (Try.prog.cellsOf 3)) = some y0 := hf 0 _ rfl
      have g1 : DataW.trod enc Try.prog W 0 (fun _ => true) true n' 3 (([c0, c1, c2].drop 1).take (Try.prog.cellsOf 3)) = some y1 := hf 1 _ rfl
      have g2 : DataW.trod enc Try.prog W 0 (fun _ => true) true n' 22 (([c0, c1, c2].drop 2).take (Try.prog.cellsOf 22)) = some y2 := hf 2 _ rfl
      simp only [cellsOf3, cellsOf22, List.drop_zero, List.drop_succ_cons, List.take_succ_cons, List.take_zero] at g0 g1 g2
      obtain ⟨k0, r0, z0, w0⟩ := DataW.trod_int Try.underlying3 g0
      obtain ⟨k1, r1, z1, w1⟩ := DataW.trod_int Try.underlying3 g1
      obtain ⟨L, a, m, cap, rfl, hL, hN, hP⟩ := ents_of g2
      injection r0 with r0
      injection r1 with r1
      subst r0 r1
      refine ⟨k0, k1, L, a, m, cap, rfl, i64_bd w0, i64_bd w1, hL, hN, fun p hp => ?_⟩
      rw [hx] at hp
      simp [z0, z1] at hp
      exact hP p hp
/-- A log that comes in. -/
theorem lg_of {H : Type} {enc : TypeId × Value → H} {W : World} {b0 : Nat} {v : Value} {d : DataW H} {p : List MemPlace} (hv : Value.okWide Try.prog W .any b0 24 v)
    (h : DataW.Trod enc Try.prog W 0 (fun _ => true) true 24 v d p) :
    ∃ (base bt : Int) (L : List En) (a : Option Addr) (n cap : Nat), v = lv base bt (.slice a n cap) ∧ I64 base ∧ I64 bt ∧ RdE W (.slice a n cap) L ∧ (∀ e ∈ L, e.Num) ∧ ∀ k ∈ p, k.block < W.heap.size := by
  obtain ⟨cs, rfl, hsz⟩ := okWide_struct Try.underlying24 hv
  obtain ⟨fuel, hf⟩ := h
  have hl : cs.toList.length = 3 := by simpa [Value.cells] using hsz.trans cellsOf24
  obtain ⟨base, bt, L, a, n, cap, he, h1, h2, h3, h4, h5⟩ := lg_cells hl hf
  refine ⟨base, bt, L, a, n, cap, ?_, h1, h2, h3, h4, h5⟩
  congr 1
  exact Array.toList_inj.1 he
/-- Numbers that came in. -/
def IntsIn (W : World) (v : Value) : Prop := ∃ L, RdN W v L ∧ ∀ x ∈ L, I64 x
theorem ints_of {H : Type} {enc : TypeId × Value → H} {W : World} {a0 : Option Addr} {len cap fuel : Nat} {x : DataW H × List MemPlace}
    (hf : DataW.trod enc Try.prog W 0 (fun _ => true) true fuel 40 [.slice a0 len cap] = some x) :
    IntsIn W (.slice a0 len cap) ∧ ∀ p ∈ x.2, p.block < W.heap.size := by
  rcases open_ints Try.underlying40 Try.underlying3 cellsOf3 hf with ⟨hcs, hx⟩ | ⟨a, len', cap', zs, hcs, _, hl, hm, hz, hx, hcell, hwf⟩
  · simp at hcs
    obtain ⟨rfl, rfl, rfl⟩ := hcs
    subst hx
    exact ⟨⟨[], RdN.nil W, by simp⟩, fun p hp => by cases hp⟩
  · simp at hcs
    obtain ⟨rfl, rfl, rfl⟩ := hcs
    subst hx
    simp only [if_true] at hz
    have hlen : (zs.take len).length = len := by rw [List.length_take]; omega
    refine ⟨⟨zs.take len, ⟨some a, cap, by rw [hlen], by rw [hlen]; exact hl, hm, ?_⟩, fun p hp => i64_bd (hwf p (List.mem_of_mem_take hp))⟩, fun p hp => ?_⟩
    · by_cases h0 : zs.take len = []
      · exact .inl h0
      · have hl0 : 0 < len := by
          rcases Nat.eq_zero_or_pos len with h | h
          · rw [h] at h0; exact absurd rfl h0
          · exact h
        obtain ⟨b, off, spot⟩ := a
        have hspot : spot = none := by simpa [Addr.add] using World.cell?_spot (hcell 0 (by omega))
        subst hspot
        refine .inr ⟨b, off, rfl, fun i p hp => ?_⟩
        have hi := (List.getElem?_eq_some_iff.1 hp).1
        rw [hlen] at hi
        rw [List.getElem?_take, if_pos hi] at hp
        have := hcell i (by omega)
        rw [add_lit, List.getD_eq_getElem?_getD, hp] at this
        exact this
    · obtain ⟨i, hi, rfl⟩ := MemPlace.mem_row.1 hp
      exact World.block_lt_of_cell? W (a.add i) (hcell i hi) |> fun h => (show (a.add i).block = a.block by unfold Addr.add; split <;> rfl) ▸ h
/-- Texts that came in. -/
def TextsIn (W : World) (v : Value) : Prop := ∃ L : List ByteArray, RdV W v (L.map Value.string)
theorem strs_of {H : Type} {enc : TypeId × Value → H} {W : World} {a0 : Option Addr} {len cap fuel : Nat} {x : DataW H × List MemPlace}
    (hf : DataW.trod enc Try.prog W 0 (fun _ => true) true fuel 50 [.slice a0 len cap] = some x) :
    TextsIn W (.slice a0 len cap) ∧ ∀ p ∈ x.2, p.block < W.heap.size := by
  rcases open_strings Try.underlying50 Try.underlying9 cellsOf9 hf with ⟨hcs, hx⟩ | ⟨a, len', cap', ss, hcs, _, hl, hm, hz, hx, hcell, hsz⟩
  · simp at hcs
    obtain ⟨rfl, rfl, rfl⟩ := hcs
    subst hx
    exact ⟨⟨[], none, 0, rfl, Nat.le_refl _, Nat.zero_le _, .inl rfl⟩, fun p hp => by cases hp⟩
  · simp at hcs
    obtain ⟨rfl, rfl, rfl⟩ := hcs
    subst hx
    simp only [if_true] at hz
    have hlen : (ss.take len).length = len := by rw [List.length_take]; omega
    have hlen2 : ((ss.take len).map Value.string).length = len := by rw [List.length_map, hlen]
    refine ⟨⟨ss.take len, some a, cap, by rw [hlen2], by rw [hlen2]; exact hl, hm, ?_⟩, fun p hp => ?_⟩
    · by_cases h0 : ss.take len = []
      · exact .inl (by rw [h0]; rfl)
      · have hl0 : 0 < len := by
          rcases Nat.eq_zero_or_pos len with h | h
          · rw [h] at h0; exact absurd rfl h0
          · exact h
        obtain ⟨b, off, spot⟩ := a
        have hspot : spot = none := by simpa [Addr.add] using World.cell?_spot (hcell 0 (by omega))
        subst hspot
        refine .inr ⟨b, off, rfl, fun i v hv => ?_⟩
        rw [List.getElem?_map] at hv
        cases hq : (ss.take len)[i]? with
        | none => rw [hq] at hv; cases hv
        | some s =>
          rw [hq] at hv
          cases hv
          have hi := (List.getElem?_eq_some_iff.1 hq).1
          rw [hlen] at hi
          rw [List.getElem?_take, if_pos hi] at hq
          have := hcell i (by omega)
          rw [add_lit, List.getD_eq_getElem?_getD, hq] at this
          exact this
    · obtain ⟨i, hi, rfl⟩ := MemPlace.mem_row.1 hp
      exact World.block_lt_of_cell? W (a.add i) (hcell i hi) |> fun h => (show (a.add i).block = a.block by unfold Addr.add; split <;> rfl) ▸ h
/-- All of a node's that came in. -/
structure Hd where
  t : Int
  vo : Int
  vs : Value
  sn : ByteArray
  ba : Int
  bt : Int
  a : Option Addr
  n : Nat
  cap : Nat
  V : List Int
  L : List En
abbrev Hd.cs (H : Hd) : List Value := [it H.t, it H.vo, H.vs, .string H.sn, it H.ba, it H.bt, .slice H.a H.n H.cap]
abbrev Hd.v (H : Hd) : Value := hv H.t H.vo H.vs H.sn H.ba H.bt (.slice H.a H.n H.cap)
def Hd.Rd (W : World) (H : Hd) : Prop := RdN W H.vs H.V ∧ RdE W (.slice H.a H.n H.cap) H.L
def Hd.Num (H : Hd) : Prop := I64 H.t ∧ I64 H.vo ∧ I64 H.ba ∧ I64 H.bt ∧ (∀ x ∈ H.V, I64 x) ∧ ∀ e ∈ H.L, e.Num
set_option maxRecDepth 100000 in
theorem hd_cells {H : Type} {enc : TypeId × Value → H} {W : World} {n : Nat} {cs : List Value} {x : DataW H × List MemPlace} (hl : cs.length = 7)
    (h : DataW.trod enc Try.prog W 0 (fun _ => true) true n 42 cs = some x) :
    ∃ H : Hd, cs = H.cs ∧ H.Rd W ∧ H.Num ∧ ∀ p ∈ x.2, p.block < W.heap.size := by
  obtain ⟨xs, n', _, hx, _, hlen, hf⟩ := DataW.trod_struct Try.underlying42 h
  match cs, hl with
  | [c0, c1, c2, c3, c4, c5, c6], _ =>
    match xs, hlen with
    | [y0, y1, y2, y3, y4], _ =>
      have g0 : DataW.trod enc Try.prog W 0 (fun _ => true) true n' 3 (([c0, c1, c2, c3, c4, c5, c6].drop 0).take (Try.prog.cellsOf 3)) = some y0 := hf 0 _ rfl
      have g1 : DataW.trod enc Try.prog W 0 (fun _ => true) true n' 3 (([c0, c1, c2, c3, c4, c5, c6].drop 1).take (Try.prog.cellsOf 3)) = some y1 := hf 1 _ rfl
      have g2 : DataW.trod enc Try.prog W 0 (fun _ => true) true n' 40 (([c0, c1, c2, c3, c4, c5, c6].drop 2).take (Try.prog.cellsOf 40)) = some y2 := hf 2 _ rfl
      have g3 : DataW.trod enc Try.prog W 0 (fun _ => true) true n' 9 (([c0, c1, c2, c3, c4, c5, c6].drop 3).take (Try.prog.cellsOf 9)) = some y3 := hf 3 _ rfl
      have g4 : DataW.trod enc Try.prog W 0 (fun _ => true) true n' 24 (([c0, c1, c2, c3, c4, c5, c6].drop 4).take (Try.prog.cellsOf 24)) = some y4 := hf 4 _ rfl
      simp only [cellsOf3, cellsOf9, cellsOf40, cellsOf24, List.drop_zero, List.drop_succ_cons, List.take_succ_cons, List.take_zero] at g0 g1 g2 g3 g4
      obtain ⟨k0, r0, z0, w0⟩ := DataW.trod_int Try.underlying3 g0
      obtain ⟨k1, r1, z1, w1⟩ := DataW.trod_int Try.underlying3 g1
      obtain ⟨k3, r3, z3, w3⟩ := DataW.trod_string Try.underlying9 g3
      obtain ⟨va, vl, vcap, rfl⟩ : ∃ a len cap, c2 = .slice a len cap := by
        rcases open_ints Try.underlying40 Try.underlying3 cellsOf3 g2 with ⟨hcs, _⟩ | ⟨a, len', cap', ss, hcs, _⟩ <;> (simp at hcs; exact ⟨_, _, _, hcs⟩)
      obtain ⟨⟨V, hV, hVn⟩, pV⟩ := ints_of g2
      obtain ⟨ba, bt, L, a, m, cap, he, h1, h2, h3, h4, h5⟩ := lg_cells rfl g4
      injection r0 with r0
      injection r1 with r1
      injection r3 with r3
      injection he with e4 he
      injection he with e5 he
      injection he with e6 he
      subst r0 r1 r3 e4 e5 e6
      refine ⟨⟨k0, k1, .slice va vl vcap, k3, ba, bt, a, m, cap, V, L⟩, rfl, ⟨hV, h3⟩, ⟨i64_bd w0, i64_bd w1, h1, h2, hVn, h4⟩, fun p hp => ?_⟩
      rw [hx] at hp
      simp [z0, z1, z3] at hp
      rcases hp with hp | hp
      · exact pV p hp
      · exact h5 p hp
theorem hd_of {H : Type} {enc : TypeId × Value → H} {W : World} {b0 : Nat} {v : Value} {d : DataW H} {p : List MemPlace} (hval : Value.okWide Try.prog W .any b0 42 v)
    (h : DataW.Trod enc Try.prog W 0 (fun _ => true) true 42 v d p) : ∃ H : Hd, v = H.v ∧ H.Rd W ∧ H.Num ∧ ∀ k ∈ p, k.block < W.heap.size := by
  obtain ⟨cs, rfl, hsz⟩ := okWide_struct Try.underlying42 hval
  obtain ⟨fuel, hf⟩ := h
  have hl : cs.toList.length = 7 := by simpa [Value.cells] using hsz.trans cellsOf42
  obtain ⟨H, he, h1, h2, h3⟩ := hd_cells hl hf
  refine ⟨H, ?_, h1, h2, h3⟩
  congr 1
  exact Array.toList_inj.1 he
theorem ents_of2 {H : Type} {enc : TypeId × Value → H} {W : World} {fuel : Nat} {a : Option Addr} {n cap : Nat} {x : DataW H × List MemPlace}
    (hf : DataW.trod enc Try.prog W 0 (fun _ => true) true fuel 22 [.slice a n cap] = some x) :
    ∃ L : List En, RdE W (.slice a n cap) L ∧ (∀ e ∈ L, e.Num) ∧ ∀ p ∈ x.2, p.block < W.heap.size := by
  obtain ⟨L, a', n', cap', he, h1, h2, h3⟩ := ents_of hf
  cases he
  exact ⟨L, h1, h2, h3⟩
end Go.Proofs.Ytopnmiakljpgbaa
