/-
  A list of records that comes in as an argument; a packer beside a list of records of the call's own.
-/
import Derived.Test.YtflpceaaelampaaRecArg
import Derived.Test.YtflpceaaelampaaPutWalk
import Derived.Test.YtflpceaaelampaaRes
namespace Go.Proofs.Ytflpceaaelampaa
open Go.ChangeShapes Go.WideShapes Go.ChangeAt Go.RowKit Go.Deep
theorem add_lit (b off j : Nat) : (⟨b, off, none⟩ : Addr).add j = ⟨b, off + j, none⟩ := by unfold Addr.add; split <;> simp_all
/-- A record's five cells. -/
def RcAt (W : World) (b k : Nat) (r : Rc) : Prop := W.cell? ⟨b, k, none⟩ = some (.string r.n) ∧ W.cell? ⟨b, k + 1, none⟩ = some (.int .u16 (r.t : Int)) ∧ W.cell? ⟨b, k + 2, none⟩ = some (.int .u16 (r.c : Int)) ∧ W.cell? ⟨b, k + 3, none⟩ = some (.int .u32 (r.l : Int)) ∧ W.cell? ⟨b, k + 4, none⟩ = some (.string r.d)
/-- Records that came in. -/
def Camr (W : World) (a : Option Addr) (len : Nat) : Prop := len = 0 ∨ ∃ b off, ∃ rs : Nat → Rc, a = some ⟨b, off, none⟩ ∧ b < W.heap.size ∧ (∀ k, (rs k).Num) ∧ ∀ k, k < len → RcAt W b (off + k * 5) (rs k)
set_option maxRecDepth 100000 in
theorem rcs_of {H : Type} {enc : TypeId × Value → H} {W : World} {a0 : Option Addr} {len cap fuel : Nat} {x : DataW H × List MemPlace}
    (hf : DataW.trod enc Try.prog W 0 (fun _ => true) true fuel 42 [.slice a0 len cap] = some x) :
    Camr W a0 len ∧ ∀ p ∈ x.2, p.block < W.heap.size := by
  rcases open_slice Try.underlying42 hf with ⟨hcs, hx⟩ | ⟨a, len', cap', m, n, D, Pl, hcs, _, hl, _, hm, hx, hi⟩
  · simp at hcs
    obtain ⟨rfl, rfl, rfl⟩ := hcs
    subst hx
    exact ⟨.inl rfl, fun p hp => by cases hp⟩
  · simp at hcs
    obtain ⟨rfl, rfl, rfl⟩ := hcs
    simp only [if_true] at hm
    rw [cellsOf25] at hi hx
    have H1 : ∀ i, i < m → ∃ r : Rc, r.Num ∧ Pl i = [] ∧ W.cell? ((a.add (i * 5)).add 0) = some (.string r.n) ∧ W.cell? ((a.add (i * 5)).add 1) = some (.int .u16 (r.t : Int)) ∧ W.cell? ((a.add (i * 5)).add 2) = some (.int .u16 (r.c : Int)) ∧ W.cell? ((a.add (i * 5)).add 3) = some (.int .u32 (r.l : Int)) ∧ W.cell? ((a.add (i * 5)).add 4) = some (.string r.d) := by
      intro i him
      obtain ⟨cs', hc, ht⟩ := hi i him
      obtain ⟨_, hcl, hat⟩ := World.cells?_some hc
      obtain ⟨r, hr, he, hp⟩ := rc_cells hcl ht
      subst he
      exact ⟨r, hr, hp, by simpa using hat 0 (by decide), by simpa using hat 1 (by decide), by simpa using hat 2 (by decide), by simpa using hat 3 (by decide), by simpa using hat 4 (by decide)⟩
    have hblk : 0 < m → a.block < W.heap.size ∧ a.spot = none := by
      intro h0
      obtain ⟨o, _, _, c0, _⟩ := H1 0 h0
      have e : (a.add (0 * 5)).add 0 = a := by simp [Addr.add]
      rw [e] at c0
      exact ⟨W.block_lt_of_cell? _ c0, World.cell?_spot c0⟩
    refine ⟨?_, fun p hp => ?_⟩
    · by_cases h0 : len = 0
      · exact .inl h0
      · obtain ⟨hb, hs⟩ := hblk (by omega)
        obtain ⟨b, off, spot⟩ := a
        obtain rfl : spot = none := hs
        have H2 : ∀ k, ∃ r : Rc, r.Num ∧ (k < m → RcAt W b (off + k * 5) r) := by
          intro k
          by_cases hk : k < m
          · obtain ⟨r, hr, _, c0, c1, c2, c3, c4⟩ := H1 k hk
            simp only [add_lit, Nat.add_zero] at c0 c1 c2 c3 c4
            exact ⟨r, hr, fun _ => ⟨c0, c1, c2, c3, c4⟩⟩
          · exact ⟨⟨ByteArray.empty, 0, 0, 0, ByteArray.empty⟩, ⟨by show 0 < _; omega, by show 0 < _; omega, by show 0 < _; omega⟩, fun h => absurd h hk⟩
        obtain ⟨rs, hrs⟩ := Classical.axiomOfChoice H2
        exact .inr ⟨b, off, rs, rfl, hb, fun k => (hrs k).1, fun k hk => (hrs k).2 (by omega)⟩
    · rw [hx] at hp
      rcases List.mem_append.1 hp with hp | hp
      · obtain ⟨i, hi2, rfl⟩ := MemPlace.mem_row.1 hp
        have := (hblk (by omega)).1
        exact this
      · obtain ⟨i, hi2, hpi⟩ := List.mem_flatMap.1 hp
        obtain ⟨_, _, hz, _⟩ := H1 i (List.mem_range.1 hi2)
        rw [hz] at hpi
        cases hpi
/-- Records as cells. -/
abbrev rcc (rs : List Rc) : List Value := rs.flatMap fun r => r.cells.toList
theorem rcc_get (rs : List Rc) (j : Nat) (r : Rc) (h : rs[j]? = some r) : (rcc rs)[j * 5]? = some (.string r.n) ∧ (rcc rs)[j * 5 + 1]? = some (.int .u16 (r.t : Int)) ∧ (rcc rs)[j * 5 + 2]? = some (.int .u16 (r.c : Int)) ∧ (rcc rs)[j * 5 + 3]? = some (.int .u32 (r.l : Int)) ∧ (rcc rs)[j * 5 + 4]? = some (.string r.d) := by
  induction rs generalizing j with
  | nil => simp at h
  | cons q L ih =>
    have e : rcc (q :: L) = .string q.n :: .int .u16 (q.t : Int) :: .int .u16 (q.c : Int) :: .int .u32 (q.l : Int) :: .string q.d :: rcc L := rfl
    rw [e]
    cases j with
    | zero => simp at h; subst h; exact ⟨rfl, rfl, rfl, rfl, rfl⟩
    | succ j =>
      have := ih j (by simpa using h)
      rw [show (j + 1) * 5 = j * 5 + 1 + 1 + 1 + 1 + 1 by omega]
      simpa [Nat.add_assoc] using this
theorem rcc_snoc (rs : List Rc) (r : Rc) : rcc (rs ++ [r]) = rcc rs ++ r.cells.toList := by simp [rcc]
theorem info25 : (Try.prog.info? 25).map (fun i => (i.zero, i.size, i.bytes)) = some (some (.agg #[.string ⟨#[]⟩, .int .u16 0, .int .u16 0, .int .u32 0, .string ⟨#[]⟩]), 5, 40) := by kernel_rfl
/-- A packer, records of the call's own, and blocks that hold what they held. -/
def BR (w0 : World) (b : Nat) (K : List (Nat × Obj)) (B : Bs) (L : Kn) (v : Value) (rs : List Rc) (w : World) : Prop :=
  ∃ keep, PS (w0.heap.size ≤ ·) keep w0 b B L w ∧ (w.ownsRow w0.heap.size 25 5 v rs.length (rcc rs) ∧ ∀ k, v.ownBlock = some k → keep k) ∧ ∀ p ∈ K, keep p.1 ∧ w.heap[p.1]? = some p.2
theorem BR.step {w0 w : World} {b : Nat} {K : List (Nat × Obj)} {B : Bs} {L : Kn} {v : Value} {rs : List Rc} (h : BR w0 b K B L v rs w) :
    ∃ S', PK S' b B L w ∧ ∀ w' B' L', Lft S' b B' L' w w' → BR w0 b K B' L' v rs w' ∧ w.heap.size ≤ w'.heap.size := by
  obtain ⟨keep, h1, ⟨hr, hrk⟩, h2⟩ := h
  obtain ⟨S', k1, k2⟩ := h1.step
  refine ⟨S', k1, fun w' B' L' hl => ?_⟩
  obtain ⟨j1, j2, j3⟩ := k2 w' B' L' hl
  refine ⟨⟨_, j1, ⟨?_, fun k hk => ⟨hrk k hk, row_lt hr k hk⟩⟩, fun p hp => ?_⟩, j3⟩
  · obtain ⟨q1, q2⟩ := hr
    refine ⟨q1, ?_⟩
    rcases q2 with q2 | ⟨g, cap, cur, rfl, hb, hg, r⟩
    · exact .inl q2
    · exact .inr ⟨g, cap, cur, rfl, hb, (j2 g (hrk g rfl) (Array.getElem?_eq_some_iff.1 hg).1).trans hg, r⟩
  · obtain ⟨m1, m2⟩ := h2 p hp
    have hlt : p.1 < w.heap.size := (Array.getElem?_eq_some_iff.1 m2).1
    exact ⟨⟨m1, hlt⟩, (j2 _ m1 hlt).trans m2⟩
theorem BR.under {w0 w w' : World} {b : Nat} {K : List (Nat × Obj)} {B : Bs} {L : Kn} {v : Value} {rs : List Rc} (h : BR w0 b K B L v rs w) (hb : Below w.heap.size w w') : BR w0 b K B L v rs w' := by
  obtain ⟨keep, h1, ⟨hr, hrk⟩, h2⟩ := h
  refine ⟨_, h1.under hb, ⟨row_tr hr (Tr.of_below (S := fun _ => False) hb) (fun _ _ h => h), fun k hk => .inl (hrk k hk)⟩, fun p hp => ?_⟩
  obtain ⟨m1, m2⟩ := h2 p hp
  exact ⟨.inl m1, (hb.block _ (Array.getElem?_eq_some_iff.1 m2).1).trans m2⟩
theorem BR.alloc {w0 w : World} {b : Nat} {K : List (Nat × Obj)} {B : Bs} {L : Kn} {v : Value} {rs : List Rc} (h : BR w0 b K B L v rs w) (o : Obj) : BR w0 b ((w.heap.size, o) :: K) B L v rs (w.alloc o) := by
  obtain ⟨keep, h1, ⟨hr, hrk⟩, h2⟩ := h
  have hb := one_box w o
  refine ⟨_, h1.under hb, ⟨row_tr hr (Tr.of_below (S := fun _ => False) hb) (fun _ _ h => h), fun k hk => .inl (hrk k hk)⟩, fun p hp => ?_⟩
  rcases List.mem_cons.1 hp with rfl | hp
  · exact ⟨.inr ⟨Nat.le_refl _, by simp⟩, World.alloc_heap_new w o⟩
  · obtain ⟨m1, m2⟩ := h2 p hp
    exact ⟨.inl m1, (hb.block _ (Array.getElem?_eq_some_iff.1 m2).1).trans m2⟩
theorem BR.forget {w0 w : World} {b : Nat} {K : List (Nat × Obj)} {B : Bs} {L : Kn} {v : Value} {rs : List Rc} (h : BR w0 b K B L v rs w) : BR w0 b [] B L v rs w :=
  let ⟨keep, h1, h2, _⟩ := h
  ⟨keep, h1, h2, fun p hp => by cases hp⟩
theorem BR.ce {w0 w : World} {b g : Nat} {T : TypeId} {cs : Array Value} {K : List (Nat × Obj)} {B : Bs} {L : Kn} {v : Value} {rs : List Rc} (h : BR w0 b K B L v rs w) (hm : (g, Obj.cells cs T (0, 0)) ∈ K) : Ce w g T cs := by
  obtain ⟨keep, h1, _, h2⟩ := h
  exact (h2 _ hm).2
theorem BR.row {w0 w : World} {b : Nat} {K : List (Nat × Obj)} {B : Bs} {L : Kn} {v : Value} {rs : List Rc} (h : BR w0 b K B L v rs w) : w.ownsRow w0.heap.size 25 5 v rs.length (rcc rs) := let ⟨_, _, h2, _⟩ := h; h2.1
theorem BR.below {w0 w : World} {b : Nat} {K : List (Nat × Obj)} {B : Bs} {L : Kn} {v : Value} {rs : List Rc} (h : BR w0 b K B L v rs w) : Below w0.heap.size w0 w := by
  obtain ⟨keep, ⟨S', h1, h2, h3⟩, _⟩ := h
  exact h3.below (Nat.le_refl _) fun k hk => hk
theorem BR.start {w w1 : World} {b : Nat} (h : PK (w.heap.size ≤ ·) b [] [] w1) (hb : Below w.heap.size w w1) : BR w b [] [] [] (.slice none 0 0) [] w1 :=
  ⟨fun k => k < w.heap.size, ⟨_, h.lt, fun k hk => ⟨hk.2, .inl hk.1, fun h => by have := hk.1; omega⟩, Tr.of_below hb⟩, ⟨World.ownsRow_nil _ _ _ _, fun k hk => by simp [Value.ownBlock] at hk⟩, fun p hp => by cases hp⟩
/-- Behind the append of a record to the call's own ones. -/
theorem BR.app {w0 w1 w2 : World} {b : Nat} {K : List (Nat × Obj)} {B : Bs} {L : Kn} {v v' : Value} {rs : List Rc} {r : Rc} {o : Obj} (h : BR w0 b K B L v rs w1)
    (hown : w2.ownsRow w0.heap.size 25 5 v' (rs.length + 1) (rcc rs ++ r.cells.toList)) (hg : (w1.alloc o).grownBy w2 v.ownBlock) (hat : v'.ownBlock = v.ownBlock ∨ v'.ownBlock = some (w1.alloc o).heap.size) :
    BR w0 b [] B L v' (rs ++ [r]) w2 := by
  obtain ⟨keep, ⟨S', h1, h2, h3⟩, ⟨hr, hrk⟩, _⟩ := h
  have hal := one_box w1 o
  have hrl := World.ownsRow.lt hr
  have t1 : Tr (fun k => v.ownBlock = some k) w1 w2 := (Tr.of_below hal).grown hg (fun k hk => .inl hk)
  have hsz : w1.heap.size + 1 ≤ w2.heap.size := by have := hg.size; simpa using this
  refine ⟨fun k => keep k ∨ w1.heap.size ≤ k ∧ k < w2.heap.size, ⟨S', h1.tr t1 (fun k _ hs hk => (h2 k hs).2.2 (hrk k hk)), fun k hk => ?_, ?_⟩, ⟨?_, fun k hk => ?_⟩, fun p hp => by cases hp⟩
  · obtain ⟨k1, k2, k3⟩ := h2 k hk
    exact ⟨by omega, k2, fun h => by rcases h with h | h; exact k3 h; omega⟩
  · exact h3.trans t1 (fun k hk => .inr (hrl k hk).1)
  · rw [rcc_snoc, List.length_append]; exact hown
  · rcases hat with e | e
    · exact .inl (hrk k (by rw [← e]; exact hk))
    · rw [e] at hk
      injection hk with hk
      have hl := row_lt hown k (by rw [e, hk])
      rw [World.size_alloc] at hk
      exact .inr ⟨by omega, hl⟩
end Go.Proofs.Ytflpceaaelampaa
