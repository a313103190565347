/-
  How a message comes in as an argument by value.
-/
import Derived.Test.YtljfkjbagebncaaRows
import Derived.Test.YtljfkjbagebncaaMKit
import Derived.Test.YtljfkjbagebncaaG14
namespace Go.Proofs.Ytljfkjbagebncaa
open Go.ChangeShapes Go.WideShapes Go.ChangeAt Go.RowKit Go.Deep Go.Joins
theorem cellsOf44 : Try.prog.cellsOf 44 = 3 := by kernel_rfl
theorem cellsOf26 : Try.prog.cellsOf 26 = 12 := by kernel_rfl
set_option maxRecDepth 100000 in
/-- Three cells that read as a question are one. -/
theorem qn_cells {H : Type} {enc : TypeId × Value → H} {W : World} {base n : Nat} {cs : List Value} {x : DataW H × List MemPlace} (hl : cs.length = 3)
    (h : DataW.trod enc Try.prog W base (fun _ => true) true n 44 cs = some x) : ∃ q : Qn, q.Num ∧ cs = q.cells.toList ∧ x.2 = [] := by
  obtain ⟨xs, n', _, hx, _, hlen, hf⟩ := DataW.trod_struct Try.underlying44 h
  match cs, hl with
  | [c0, c1, c2], _ =>
    match xs, hlen with
    | [y0, y1, y2], _ =>
      have e22 : Try.prog.cellsOf 22 = 1 := by kernel_rfl
      have e9 : Try.prog.cellsOf 9 = 1 := by kernel_rfl
      have g0 : DataW.trod enc Try.prog W base (fun _ => true) true n' 9 (([c0, c1, c2].drop 0).take (Try.prog.cellsOf 9)) = some y0 := hf 0 _ rfl
      have g1 : DataW.trod enc Try.prog W base (fun _ => true) true n' 22 (([c0, c1, c2].drop 1).take (Try.prog.cellsOf 22)) = some y1 := hf 1 _ rfl
      have g2 : DataW.trod enc Try.prog W base (fun _ => true) true n' 22 (([c0, c1, c2].drop 2).take (Try.prog.cellsOf 22)) = some y2 := hf 2 _ rfl
      simp only [e22, e9, List.drop_zero, List.drop_succ_cons, List.take_succ_cons, List.take_zero] at g0 g1 g2
      obtain ⟨k0, r0, z0, w0⟩ := DataW.trod_string Try.underlying9 g0
      obtain ⟨k1, r1, z1, w1⟩ := DataW.trod_int Try.underlying22 g1
      obtain ⟨k2, r2, z2, w2⟩ := DataW.trod_int Try.underlying22 g2
      obtain ⟨t, rfl, ht⟩ := int_nat (u16_bd w1)
      obtain ⟨c, rfl, hc⟩ := int_nat (u16_bd w2)
      injection r0 with r0
      injection r1 with r1
      injection r2 with r2
      subst r0 r1 r2
      refine ⟨⟨k0, t, c⟩, ⟨Int.ofNat_lt.1 ht, Int.ofNat_lt.1 hc⟩, rfl, ?_⟩
      rw [hx]
      simp [z0, z1, z2]
/-- A list of records that came in. -/
theorem rl_of {H : Type} {enc : TypeId × Value → H} {W : World} {fuel : Nat} {c : Value} {x : DataW H × List MemPlace}
    (hf : DataW.trod enc Try.prog W 0 (fun _ => true) true fuel 24 [c] = some x) :
    ∃ (s : Sl) (rs : List Rc), c = s.v ∧ RdR W s rs ∧ (∀ r ∈ rs, r.Num) ∧ ∀ p ∈ x.2, p.block < W.heap.size := by
  have hsh : ∃ a len cap, c = .slice a len cap := by
    rcases open_slice Try.underlying24 hf with ⟨hcs, _⟩ | ⟨a, len', cap', m, n, D, Pl, hcs, _⟩
    · simp at hcs; exact ⟨_, _, _, hcs⟩
    · simp at hcs; exact ⟨_, _, _, hcs⟩
  obtain ⟨a, len, cap, rfl⟩ := hsh
  obtain ⟨h1, h2⟩ := rcs_of hf
  rcases h1 with h0 | ⟨b, off, rf, ha, hb, hn, hc⟩
  · exact ⟨⟨a, len, cap⟩, [], rfl, ⟨h0, .inl rfl⟩, by simp, h2⟩
  · refine ⟨⟨a, len, cap⟩, (List.range len).map rf, rfl, ⟨by simp, .inr ⟨b, off, ha, hb, fun j r hj => ?_⟩⟩, ?_, h2⟩
    · obtain ⟨h3, h4⟩ := List.getElem?_eq_some_iff.1 hj
      simp at h3 h4
      subst h4
      exact hc j h3
    · intro r hr
      obtain ⟨k, _, rfl⟩ := List.mem_map.1 hr
      exact hn k
/-- A list of questions that came in. -/
theorem ql_of {H : Type} {enc : TypeId × Value → H} {W : World} {fuel : Nat} {c : Value} {x : DataW H × List MemPlace}
    (hf : DataW.trod enc Try.prog W 0 (fun _ => true) true fuel 23 [c] = some x) :
    ∃ (s : Sl) (qs : List Qn), c = s.v ∧ RdQ W s qs ∧ (∀ q ∈ qs, q.Num) ∧ ∀ p ∈ x.2, p.block < W.heap.size := by
  rcases open_slice Try.underlying23 hf with ⟨hcs, hx⟩ | ⟨a, len, cap, m, n, D, Pl, hcs, _, hl, _, hm, hx, hi⟩
  · simp at hcs
    subst hcs hx
    exact ⟨⟨none, 0, 0⟩, [], rfl, rdq_nil _, by simp, by simp⟩
  · simp at hcs
    subst hcs
    simp only [if_true] at hm
    rw [cellsOf44] at hi hx
    have H1 : ∀ i, i < m → ∃ q : Qn, q.Num ∧ Pl i = [] ∧ W.cell? ((a.add (i * 3)).add 0) = some (.string q.n) ∧ W.cell? ((a.add (i * 3)).add 1) = some (.int .u16 (q.t : Int)) ∧ W.cell? ((a.add (i * 3)).add 2) = some (.int .u16 (q.c : Int)) := by
      intro i him
      obtain ⟨cs', hc, ht⟩ := hi i him
      obtain ⟨_, hcl, hat⟩ := World.cells?_some hc
      obtain ⟨q, hq, he, hp⟩ := qn_cells hcl ht
      subst he
      exact ⟨q, hq, hp, by simpa using hat 0 (by decide), by simpa using hat 1 (by decide), by simpa using hat 2 (by decide)⟩
    have hblk : 0 < m → a.block < W.heap.size ∧ a.spot = none := by
      intro h0
      obtain ⟨o, _, _, c0, _⟩ := H1 0 h0
      have e : (a.add (0 * 3)).add 0 = a := by simp [Addr.add]
      rw [e] at c0
      exact ⟨W.block_lt_of_cell? _ c0, World.cell?_spot c0⟩
    have hpl : ∀ p ∈ x.2, p.block < W.heap.size := by
      intro p hp
      rw [hx] at hp
      rcases List.mem_append.1 hp with hp | hp
      · obtain ⟨i, hi2, rfl⟩ := MemPlace.mem_row.1 hp
        have := (hblk (by omega)).1
        exact this
      · obtain ⟨i, hi2, hpi⟩ := List.mem_flatMap.1 hp
        obtain ⟨q, _, he, _⟩ := H1 i (List.mem_range.1 hi2)
        rw [he] at hpi; cases hpi
    by_cases h0 : len = 0
    · exact ⟨⟨some a, len, cap⟩, [], rfl, ⟨h0, .inl rfl⟩, by simp, hpl⟩
    · obtain ⟨hb, hs⟩ := hblk (by omega)
      obtain ⟨b, off, spot⟩ := a
      obtain rfl : spot = none := hs
      have H2 : ∀ k, ∃ q : Qn, q.Num ∧ (k < m → QnAt W b (off + k * 3) q) := by
        intro k
        by_cases hk : k < m
        · obtain ⟨q, hq, _, c0, c1, c2⟩ := H1 k hk
          simp only [add_lit, Nat.add_zero] at c0 c1 c2
          exact ⟨q, hq, fun _ => ⟨c0, c1, c2⟩⟩
        · exact ⟨⟨ByteArray.empty, 0, 0⟩, ⟨by show 0 < _; omega, by show 0 < _; omega⟩, fun h => absurd h hk⟩
      obtain ⟨qf, hqf⟩ := Classical.axiomOfChoice H2
      refine ⟨⟨some ⟨b, off, none⟩, len, cap⟩, (List.range len).map qf, rfl, ⟨by simp, .inr ⟨b, off, rfl, hb, fun j q hj => ?_⟩⟩, ?_, hpl⟩
      · obtain ⟨h3, h4⟩ := List.getElem?_eq_some_iff.1 hj
        simp at h3 h4
        subst h4
        exact (hqf j).2 (by omega)
      · intro q hq
        obtain ⟨k, _, rfl⟩ := List.mem_map.1 hq
        exact (hqf k).1
set_option maxRecDepth 100000 in
/-- A message that comes in. -/
theorem ms_of {H : Type} {enc : TypeId × Value → H} {W : World} {b0 : Nat} {v : Value} {d : DataW H} {p : List MemPlace} (hv : Value.okWide Try.prog W .any b0 26 v)
    (h : DataW.Trod enc Try.prog W 0 (fun _ => true) true 26 v d p) : ∃ (m : Ms) (q x y z : Sl), m.Num ∧ v = .agg (m.cells q x y z) ∧ Lay W m q x y z ∧ ∀ k ∈ p, k.block < W.heap.size := by
  obtain ⟨cs, rfl, hsz⟩ := okWide_struct Try.underlying26 hv
  obtain ⟨fuel, hf⟩ := h
  have hl : cs.toList.length = 12 := by simpa [Value.cells] using hsz.trans cellsOf26
  obtain ⟨cl, hcl⟩ : ∃ cl, cl = cs.toList := ⟨_, rfl⟩
  have hf' : DataW.trod enc Try.prog W 0 (fun _ => true) true fuel 26 cl = some (d, p) := by rw [hcl]; exact hf
  rw [← hcl] at hl
  obtain ⟨xs, n', _, hx, _, hlen, hff⟩ := DataW.trod_struct Try.underlying26 hf'
  match cl, hl with
  | [c0, c1, c2, c3, c4, c5, c6, c7, c8, c9, c10, c11], _ =>
    match xs, hlen with
    | [y0, y1, y2, y3, y4, y5, y6, y7, y8, y9, y10, y11], _ =>
      have e22 : Try.prog.cellsOf 22 = 1 := by kernel_rfl
      have e4 : Try.prog.cellsOf 4 = 1 := by kernel_rfl
      have e3 : Try.prog.cellsOf 3 = 1 := by kernel_rfl
      have e23 : Try.prog.cellsOf 23 = 1 := by kernel_rfl
      have e24 : Try.prog.cellsOf 24 = 1 := by kernel_rfl
      have g0 : DataW.trod enc Try.prog W 0 (fun _ => true) true n' 22 (([c0, c1, c2, c3, c4, c5, c6, c7, c8, c9, c10, c11].drop 0).take (Try.prog.cellsOf 22)) = some y0 := hff 0 _ rfl
      have g1 : DataW.trod enc Try.prog W 0 (fun _ => true) true n' 4 (([c0, c1, c2, c3, c4, c5, c6, c7, c8, c9, c10, c11].drop 1).take (Try.prog.cellsOf 4)) = some y1 := hff 1 _ rfl
      have g2 : DataW.trod enc Try.prog W 0 (fun _ => true) true n' 4 (([c0, c1, c2, c3, c4, c5, c6, c7, c8, c9, c10, c11].drop 2).take (Try.prog.cellsOf 4)) = some y2 := hff 2 _ rfl
      have g3 : DataW.trod enc Try.prog W 0 (fun _ => true) true n' 4 (([c0, c1, c2, c3, c4, c5, c6, c7, c8, c9, c10, c11].drop 3).take (Try.prog.cellsOf 4)) = some y3 := hff 3 _ rfl
      have g4 : DataW.trod enc Try.prog W 0 (fun _ => true) true n' 4 (([c0, c1, c2, c3, c4, c5, c6, c7, c8, c9, c10, c11].drop 4).take (Try.prog.cellsOf 4)) = some y4 := hff 4 _ rfl
      have g5 : DataW.trod enc Try.prog W 0 (fun _ => true) true n' 4 (([c0, c1, c2, c3, c4, c5, c6, c7, c8, c9, c10, c11].drop 5).take (Try.prog.cellsOf 4)) = some y5 := hff 5 _ rfl
      have g6 : DataW.trod enc Try.prog W 0 (fun _ => true) true n' 3 (([c0, c1, c2, c3, c4, c5, c6, c7, c8, c9, c10, c11].drop 6).take (Try.prog.cellsOf 3)) = some y6 := hff 6 _ rfl
      have g7 : DataW.trod enc Try.prog W 0 (fun _ => true) true n' 3 (([c0, c1, c2, c3, c4, c5, c6, c7, c8, c9, c10, c11].drop 7).take (Try.prog.cellsOf 3)) = some y7 := hff 7 _ rfl
      have g8 : DataW.trod enc Try.prog W 0 (fun _ => true) true n' 23 (([c0, c1, c2, c3, c4, c5, c6, c7, c8, c9, c10, c11].drop 8).take (Try.prog.cellsOf 23)) = some y8 := hff 8 _ rfl
      have g9 : DataW.trod enc Try.prog W 0 (fun _ => true) true n' 24 (([c0, c1, c2, c3, c4, c5, c6, c7, c8, c9, c10, c11].drop 9).take (Try.prog.cellsOf 24)) = some y9 := hff 9 _ rfl
      have g10 : DataW.trod enc Try.prog W 0 (fun _ => true) true n' 24 (([c0, c1, c2, c3, c4, c5, c6, c7, c8, c9, c10, c11].drop 10).take (Try.prog.cellsOf 24)) = some y10 := hff 10 _ rfl
      have g11 : DataW.trod enc Try.prog W 0 (fun _ => true) true n' 24 (([c0, c1, c2, c3, c4, c5, c6, c7, c8, c9, c10, c11].drop 11).take (Try.prog.cellsOf 24)) = some y11 := hff 11 _ rfl
      simp only [e22, e4, e3, e23, e24, List.drop_zero, List.drop_succ_cons, List.take_succ_cons, List.take_zero] at g0 g1 g2 g3 g4 g5 g6 g7 g8 g9 g10 g11
      obtain ⟨k0, r0, z0, w0⟩ := DataW.trod_int Try.underlying22 g0
      obtain ⟨k1, r1, z1⟩ := DataW.trod_bool Try.underlying4 g1
      obtain ⟨k2, r2, z2⟩ := DataW.trod_bool Try.underlying4 g2
      obtain ⟨k3, r3, z3⟩ := DataW.trod_bool Try.underlying4 g3
      obtain ⟨k4, r4, z4⟩ := DataW.trod_bool Try.underlying4 g4
      obtain ⟨k5, r5, z5⟩ := DataW.trod_bool Try.underlying4 g5
      obtain ⟨k6, r6, z6, w6⟩ := DataW.trod_int Try.underlying3 g6
      obtain ⟨k7, r7, z7, w7⟩ := DataW.trod_int Try.underlying3 g7
      obtain ⟨q, qs, r8, hq, nq, pq⟩ := ql_of g8
      obtain ⟨x, an, r9, hxx, nx, px⟩ := rl_of g9
      obtain ⟨y, au, r10, hy, ny, py⟩ := rl_of g10
      obtain ⟨z, ex, r11, hz, nz, pz⟩ := rl_of g11
      obtain ⟨id, rfl, hid⟩ := int_nat (u16_bd w0)
      injection r0 with r0
      injection r1 with r1
      injection r2 with r2
      injection r3 with r3
      injection r4 with r4
      injection r5 with r5
      injection r6 with r6
      injection r7 with r7
      subst r0 r1 r2 r3 r4 r5 r6 r7 r8 r9 r10 r11
      refine ⟨⟨id, k1, k2, k3, k4, k5, k6, k7, qs, an, au, ex⟩, q, x, y, z, ⟨Int.ofNat_lt.1 hid, i64_bd w6, i64_bd w7, nq, nx, ny, nz⟩, ?_, ⟨hq, hxx, hy, hz⟩, ?_⟩
      · have : cs = mc id k1 k2 k3 k4 k5 k6 k7 q x y z := Array.toList_inj.1 hcl.symm
        rw [this]
      · injection hx with _ hx
        intro k hk
        rw [hx] at hk
        simp [z0, z1, z2, z3, z4, z5, z6, z7] at hk
        rcases hk with hk | hk | hk | hk
        · exact pq k hk
        · exact px k hk
        · exact py k hk
        · exact pz k hk
end Go.Proofs.Ytljfkjbagebncaa
