/-
  What the law of keeping needs: a crash keeps the room; a calm opening comes through; what a crash may leave; a list of texts of one's own, to which another one is appended; a script of calls that comes in as an argument.
-/
import Derived.Test.YtpiiknbjllgaoaaWCalm
import Derived.Test.YtpiiknbjllgaoaaLawAgain
import Derived.Test.YtpiiknbjllgaoaaOps
import Derived.Laws.AppendOwnNone
import Derived.Maps.AppendAt
namespace Go.Proofs.Ytpiiknbjllgaoaa
open Go.RowKit
theorem crO_len (o : Option (Bs × Nat)) (ps : List Int) : (match crO o ps with | some p => p.1 | none => []).length ≤ (match o with | some p => p.1 | none => ([] : Bs)).length := by
  cases o with
  | none => exact Nat.le_refl _
  | some r => exact crD_le r.1 r.2 ps
theorem crash_okn {x : Ld} {n m : Nat} (h : x.Okn n m) (p q : List Int) : (x.crash p q).Okn n m := by
  refine ⟨h.st, Nat.zero_le _, ?_, h.rm⟩
  have h1 := crO_len x.lo p
  have h2 := crO_len x.nw q
  have h3 := h.us
  have e1 : x.used = (match x.lo with | some p => p.1 | none => ([] : Bs)).length + (match x.nw with | some p => p.1 | none => ([] : Bs)).length := rfl
  have e2 : (x.crash p q).used = (match crO x.lo p with | some p => p.1 | none => ([] : Bs)).length + (match crO x.nw q with | some p => p.1 | none => ([] : Bs)).length := rfl
  omega
/-- Armed. -/
def Ld.arm (x : Ld) (n : Nat) : Ld := { x with sch := true, left := n }
theorem arm_okn {x : Ld} {n m : Nat} (h : x.Okn n m) {k : Nat} (hk : k ≤ mostL) : (x.arm k).Okn n m := ⟨h.st, hk, h.us, h.rm⟩
theorem E_calm {x : Ld} (ho : x.off = false) (hs : x.sch = false) (e : Int) : x.E e = e := by
  unfold Ld.E Ld.stops
  rw [ho, hs]
  simp only [Bool.false_eq_true, if_false, Bool.false_and]
  split <;> simp_all
theorem af_calm {x : Ld} (ho : x.off = false) (hs : x.sch = false) (e : Int) : (x.af e).off = false ∧ (x.af e).sch = false := by
  unfold Ld.af Ld.stops
  rw [ho, hs]
  simp only [Bool.false_eq_true, if_false, Bool.false_and]
  split
  · exact ⟨ho, hs⟩
  · exact ⟨ho, hs⟩
theorem set_calm {x : Ld} (ho : x.off = false) (hs : x.sch = false) (i : Bool) (o : Option (Bs × Nat)) : (x.step.set i o).off = false ∧ (x.step.set i o).sch = false := by
  cases i <;> exact ⟨ho, hs⟩
theorem calm_open {x : Ld} (ho : x.off = false) (hs : x.sch = false) : x.opE = 0 := by
  have hd : x.disE = 0 := by
    unfold Ld.disE
    cases hn : x.nw with
    | none => rfl
    | some p =>
      simp only [Option.isSome_some, if_true]
      rw [E_calm ho hs]
      exact if_pos (by rw [show x.get true = x.nw from rfl, hn]; rfl)
  unfold Ld.opE
  by_cases hl : x.lo.isSome = true
  · rw [if_pos hl]
    have h1 : x.dis.off = false ∧ x.dis.sch = false := by
      unfold Ld.dis
      split
      · unfold Ld.rem
        split
        · exact ⟨ho, hs⟩
        · exact af_calm ho hs _
      · exact ⟨ho, hs⟩
    have h2 : x.dis.lo.isSome = true := by rw [dis_lo]; exact hl
    generalize hy : x.dis = y at h1 h2
    have h3 : y.cuE x.good = 0 := by
      unfold Ld.cuE
      split
      · rfl
      · exact E_calm h1.1 h1.2 0
    have h4 : (y.cu x.good).E ((y.cu x.good).has false) = 0 := by
      unfold Ld.cu
      split
      · rw [E_calm h1.1 h1.2]; exact if_pos h2
      · unfold Ld.cut
        rw [if_pos (E_calm h1.1 h1.2 0)]
        obtain ⟨a1, a2⟩ := set_calm h1.1 h1.2 false (some ((y.byt false).take x.good, min (y.dur false) x.good))
        rw [E_calm a1 a2]
        exact if_pos rfl
    exact (op_done x (fun j hj => by
      match j, hj with
      | 0, _ => exact hd
      | 1, _ => rfl
      | 2, _ => show x.dis.cuE x.good = 0; rw [hy]; exact h3
      | 3, _ => show (x.dis.cu x.good).E ((x.dis.cu x.good).has false) = 0; rw [hy]; exact h4)).1
  · rw [if_neg hl]; exact hd
def Pre (x : Ld) (A : List Bs) (f : Nat) : Prop := ∀ p q, ∃ W, f ≤ W ∧ W ≤ A.length ∧ Dur (x.crash p q) (A.take W)
theorem LogOf.pre {x : Ld} {A : List Bs} {f : Nat} (h : LogOf x A f) : Pre x A f := h.crash
theorem Dur.pre {x : Ld} {A : List Bs} {W f : Nat} (h : Dur x (A.take W)) (h1 : f ≤ W) (h2 : W ≤ A.length) : Pre x A f := fun p q => ⟨W, h1, h2, h.crash p q⟩
theorem Dur.arm {x : Ld} {A : List Bs} (h : Dur x A) (n : Nat) : Dur (x.arm n) A := h.same rfl
theorem pfx_take (A : List Bs) {f W : Nat} (h1 : f ≤ W) (h2 : W ≤ A.length) : pfx (ab (A.take W)) (ab A) f = true := by
  unfold pfx
  rw [decide_eq_true_eq]
  have e : (A.take W).length = W := by rw [List.length_take]; omega
  refine ⟨?_, ?_, ?_⟩
  · rw [ab_length, ab_length]; omega
  · rw [ab_length]; omega
  · rw [ab_length, e]; unfold ab; rw [List.map_take]
theorem apX_okn {x : Ld} {L : List Bs} {n m : Nat} (h : x.Okn (n + 1) (m + (rcsB L).length)) : (apX x L).Okn n m := by
  unfold apX
  split
  · exact h.less (by omega) (by omega)
  · exact app_ok false _ h
theorem syX_okn {x : Ld} {c f n m : Nat} (h : x.Okn (n + 1) m) : (syX x c f).Okn n m := by
  unfold syX
  split
  · exact h.less (by omega) (Nat.le_refl _)
  · exact syn_ok false h
theorem rwX_okn {x : Ld} {R : Bs} {n m : Nat} (h : x.Okn (n + 4) (m + R.length)) : (rwX x R).Okn n m := by
  have hk := rw_ok h
  have h1 := (hk 1 (by omega)).less (n' := n) (m' := m) (by omega) (by simp)
  have h2 := (hk 2 (by omega)).less (n' := n) (m' := m) (by omega) (by simp)
  have h3 := (hk 3 (by omega)).less (n' := n) (m' := m) (by omega) (by simp)
  have h4 := (hk 4 (by omega)).less (n' := n) (m' := m) (by omega) (by simp)
  unfold rwX
  split
  · exact h1
  · split
    · exact h2
    · split
      · exact h3
      · exact h4
theorem opX_okn {x : Ld} {n m : Nat} (h : x.Okn (n + 3) m) : x.opX.Okn n m := by
  have hk := op_ok h
  unfold Ld.opX
  split
  · unfold opX4
    split
    · exact hk 1 (by omega)
    · split
      · exact hk 3 (by omega)
      · exact hk 4 (by omega)
  · exact hk 1 (by omega)
end Go.Proofs.Ytpiiknbjllgaoaa
namespace Go.Proofs.Ytpiiknbjllgaoaa
open Go.RowKit
theorem add_any (g o j : Nat) : (⟨g, o, none⟩ : Addr).add j = ⟨g, o + j, none⟩ := by
  unfold Addr.add
  split
  · rename_i h; subst h; rfl
  · rfl
/-- A list of texts of one's own, in a block from a place on. -/
def OwnT (w : World) (base : Nat) (v : Value) (L : List Bs) : Prop := w.ownsRow base 9 1 v L.length ((ab L).map Value.string)
theorem ownT_nil (w : World) (base : Nat) : OwnT w base (.slice none 0 0) [] := World.ownsRow_nil w base 9 1
theorem OwnT.rd {w : World} {base : Nat} {v : Value} {L : List Bs} (h : OwnT w base v L) : RdB w v L ∧ ∀ j, v.ownBlock = some j → base ≤ j := by
  rcases h.2 with ⟨rfl, h0⟩ | ⟨g, cap, cur, rfl, hbg, hg, hnc, hcm, hcs, htake⟩
  · have hL : L = [] := List.eq_nil_of_length_eq_zero h0
    subst hL
    exact ⟨⟨none, 0, rfl, Nat.le_refl _, Nat.zero_le _, .inl rfl⟩, fun j hj => by cases hj⟩
  · refine ⟨⟨some ⟨g, 0, none⟩, cap, by rw [ab_length], by rw [ab_length]; exact hnc, hcm, .inr ⟨g, 0, rfl, fun i s hs => ?_⟩⟩, fun j hj => ?_⟩
    · have h1 := h.cells (g := g) rfl i (.string s) (by rw [List.getElem?_map, hs]; rfl)
      rw [add_any] at h1
      exact h1
    · have : g = j := by simpa [Value.ownBlock] using hj
      omega
theorem run_append_nowhere {P : Program} {w : World} (base : Nat) (t ty e : TypeId) (i : TypeInfo) (size : Nat) (ht : P.underlying t = some (.slice e)) (hi : P.info? e = some i)
    (v : Value) (n : Nat) (xs : List Value) (hown : w.ownsRow base e size v n xs) (a : Option Addr) (c : Nat) :
    (Builtin.append_ #[t, t] ty #[v, .slice a 0 c]).run P w = .ok v w := by
  rcases hown.2 with ⟨rfl, rfl⟩ | ⟨g, cap, cur, rfl, _, _, hnc, _⟩
  · cases a <;> simp [Builtin.append_, run_underlying ht, sizeOf, typeInfo, hi, Builtin.lenOf, Builtin.firstCells, loadCells, loadCellsFrom]
  · cases a <;> simp [Builtin.append_, run_underlying ht, sizeOf, typeInfo, hi, Builtin.lenOf, Builtin.firstCells, hnc, storeCells, loadCells, loadCellsFrom]
theorem wp_append_txt {ops : Array Oper} {rest : List Oper} {o : Oper} {a : Act} {w : World} {Q : Exit → Act → World → Prop} (hgd : o.guard = none) (s x : Operand)
    (ho : o.op = .call { callee := .builtin .append, args := #[s, x], argTypes := #[27, 27] }) (base : Nat) (v : Value) (L M : List Bs) (hs : a.eval s = v) (hown : OwnT w base v L)
    (u : Value) (hx : a.eval x = u) (hr : RdB w u M) (hn : L.length + M.length ≤ 1000000) (hbase : base ≤ w.heap.size)
    (h : ∀ v' w', OwnT w' base v' (L ++ M) → Below base w w' → wpList Try.prog ops Q rest (a.put o.dst v') w') : wpList Try.prog ops Q (o :: rest) a w := by
  obtain ⟨i0, hi, hz0, hz1, hz2⟩ := info_parts info9
  obtain ⟨ad, cap, rfl, h1, h2, h3⟩ := hr
  by_cases he : M = []
  · subst he
    refine wpList_plain hgd fun K hK => ?_
    have hrun := run_append_nowhere (P := Try.prog) (w := w) base 27 o.type 9 i0 1 Try.underlying27 hi v L.length _ hown ad cap
    unfold Oper.wp
    have hx' : a.eval x = .slice ad 0 cap := hx
    simp [execOp, ho, resolve, invoke, builtin, hs, hx', hrun, Result.andThen]
    exact hK _ _ (h v w (by rw [List.append_nil]; exact hown) (Below.refl _ _))
  · rcases h3 with h3 | ⟨g, o2, rfl, hc⟩
    · refine absurd ?_ he
      have := congrArg List.length h3
      rw [ab_length] at this
      exact List.eq_nil_of_length_eq_zero this
    refine wpList_append_own_at _ hgd s x 27 ho base 9 i0 _ 1 16 Try.underlying27 hi hz0 hz1 hz2 rfl (by decide) v L.length _ hs hown ⟨g, o2, none⟩ (ab M).length cap ((ab M).map Value.string) hx (by simp) (fun j y hj => ?_) (fun y hy => ?_) (by rw [ab_length]; unfold maxLen; omega) (by rw [ab_length]; omega) hbase ?_
    · rw [List.getElem?_map] at hj
      cases hm : (ab M)[j]? with
      | none => rw [hm] at hj; cases hj
      | some b =>
        rw [hm] at hj
        have hy := Option.some.inj hj
        subst hy
        rw [add_any]
        exact hc j b hm
    · obtain ⟨b, _, rfl⟩ := List.mem_map.1 hy
      rfl
    · intro v' w' g1 g2 _ _
      refine h v' w' ?_ ?_
      · unfold OwnT
        unfold ab at g1 ⊢
        rw [List.length_append, List.map_append, List.map_append]
        simpa using g1
      · refine ⟨g2.os, g2.tape, g2.output, g2.size, fun i hi => g2.block i (by omega) ?_⟩
        intro e
        have := (World.ownsRow.lt hown i e.symm).1
        omega
end Go.Proofs.Ytpiiknbjllgaoaa
namespace Go.Proofs.Ytpiiknbjllgaoaa
open Go.ChangeShapes Go.WideShapes Go.ChangeAt Go.RowKit Go.Deep
/-- A call. -/
structure OpK where
  kind : Int
  num : Int
  l : Value
  ps : Value
def OpK.ok (W : World) (o : OpK) : Prop := I64 o.kind ∧ I64 o.num ∧ Strs W o.l ∧ Picks W o.ps
/-- A call's four cells. -/
def OpAt (W : World) (b k : Nat) (o : OpK) : Prop := W.cell? ⟨b, k, none⟩ = some (.int .i64 o.kind) ∧ W.cell? ⟨b, k + 1, none⟩ = some (.int .i64 o.num) ∧ W.cell? ⟨b, k + 2, none⟩ = some o.l ∧ W.cell? ⟨b, k + 3, none⟩ = some o.ps
/-- Calls that came in. -/
def Calld (W : World) (a : Option Addr) (len : Nat) : Prop := len = 0 ∨ ∃ b off, ∃ os : Nat → OpK, a = some ⟨b, off, none⟩ ∧ b < W.heap.size ∧ (∀ k, k < len → (os k).ok W) ∧ ∀ k, k < len → OpAt W b (off + k * 4) (os k)
theorem cellsOf41 : Try.prog.cellsOf 41 = 4 := by kernel_rfl
theorem one_call {H : Type} {enc : TypeId × Value → H} {W : World} {a : Addr} {n : Nat} {cs : List Value} {x : DataW H × List MemPlace}
    (hc : W.cells? 0 a 4 = some cs) (h : DataW.trod enc Try.prog W 0 (fun _ => true) true n 41 cs = some x) :
    ∃ o : OpK, o.ok W ∧ (∀ p ∈ x.2, p.block < W.heap.size) ∧ W.cell? (a.add 0) = some (.int .i64 o.kind) ∧ W.cell? (a.add 1) = some (.int .i64 o.num) ∧ W.cell? (a.add 2) = some o.l ∧ W.cell? (a.add 3) = some o.ps := by
  obtain ⟨_, hl, hat⟩ := World.cells?_some hc
  obtain ⟨xs, n', _, hx, _, hlen, hf⟩ := DataW.trod_struct Try.underlying41 h
  match cs, hl with
  | [c0, c1, c2, c3], _ =>
    match xs, hlen with
    | [y0, y1, y2, y3], _ =>
      have e3 : Try.prog.cellsOf 3 = 1 := by kernel_rfl
      have e27 : Try.prog.cellsOf 27 = 1 := by kernel_rfl
      have e39 : Try.prog.cellsOf 39 = 1 := by kernel_rfl
      have g0 : DataW.trod enc Try.prog W 0 (fun _ => true) true n' 3 (([c0, c1, c2, c3].drop 0).take (Try.prog.cellsOf 3)) = some y0 := hf 0 _ rfl
      have g1 : DataW.trod enc Try.prog W 0 (fun _ => true) true n' 3 (([c0, c1, c2, c3].drop 1).take (Try.prog.cellsOf 3)) = some y1 := hf 1 _ rfl
      have g2 : DataW.trod enc Try.prog W 0 (fun _ => true) true n' 27 (([c0, c1, c2, c3].drop 2).take (Try.prog.cellsOf 27)) = some y2 := hf 2 _ rfl
      have g3 : DataW.trod enc Try.prog W 0 (fun _ => true) true n' 39 (([c0, c1, c2, c3].drop 3).take (Try.prog.cellsOf 39)) = some y3 := hf 3 _ rfl
      simp only [e3, e27, e39, List.drop_zero, List.drop_succ_cons, List.take_succ_cons, List.take_zero] at g0 g1 g2 g3
      obtain ⟨k0, r0, z0, w0⟩ := DataW.trod_int Try.underlying3 g0
      obtain ⟨k1, r1, z1, w1⟩ := DataW.trod_int Try.underlying3 g1
      obtain ⟨a2, l2, p2, rfl⟩ : ∃ a len cap, c2 = .slice a len cap := by
        rcases open_strings Try.underlying27 Try.underlying9 cellsOf9 g2 with ⟨hcs, _⟩ | ⟨a, len', cap', ss, hcs, _⟩ <;> (simp at hcs; exact ⟨_, _, _, hcs⟩)
      obtain ⟨a3, l3, p3, rfl⟩ : ∃ a len cap, c3 = .slice a len cap := by
        rcases open_ints Try.underlying39 Try.underlying3 cellsOf3 g3 with ⟨hcs, _⟩ | ⟨a, len', cap', ss, hcs, _⟩ <;> (simp at hcs; exact ⟨_, _, _, hcs⟩)
      have s2 := strs_of g2
      have s3 := picks_of g3
      refine ⟨⟨k0, k1, _, _⟩, ⟨i64_bd w0, i64_bd w1, s2.1, s3.1⟩, ?_, ?_, ?_, ?_, ?_⟩
      · intro p hp
        rw [hx] at hp
        simp [z0, z1] at hp
        rcases hp with hp | hp
        · exact s2.2 p hp
        · exact s3.2 p hp
      · rw [hat 0 (by decide)]; simpa using r0
      · rw [hat 1 (by decide)]; simpa using r1
      · rw [hat 2 (by decide)]; rfl
      · rw [hat 3 (by decide)]; rfl
theorem ops_of {H : Type} {enc : TypeId × Value → H} {W : World} {a0 : Option Addr} {len cap fuel : Nat} {x : DataW H × List MemPlace}
    (hf : DataW.trod enc Try.prog W 0 (fun _ => true) true fuel 33 [.slice a0 len cap] = some x) :
    Calld W a0 len ∧ ∀ p ∈ x.2, p.block < W.heap.size := by
  rcases open_slice Try.underlying33 hf with ⟨hcs, hx⟩ | ⟨a, len', cap', m, n, D, Pl, hcs, _, hl, _, hm, hx, hi⟩
  · simp at hcs
    obtain ⟨rfl, rfl, rfl⟩ := hcs
    subst hx
    exact ⟨.inl rfl, fun p hp => by cases hp⟩
  · simp at hcs
    obtain ⟨rfl, rfl, rfl⟩ := hcs
    simp only [if_true] at hm
    rw [cellsOf41] at hi hx
    have H1 : ∀ i, i < m → ∃ o : OpK, o.ok W ∧ (∀ p ∈ Pl i, p.block < W.heap.size) ∧ W.cell? ((a.add (i * 4)).add 0) = some (.int .i64 o.kind) ∧ W.cell? ((a.add (i * 4)).add 1) = some (.int .i64 o.num) ∧ W.cell? ((a.add (i * 4)).add 2) = some o.l ∧ W.cell? ((a.add (i * 4)).add 3) = some o.ps := by
      intro i him
      obtain ⟨cs', hc, ht⟩ := hi i him
      exact one_call hc ht
    have hblk : 0 < m → a.block < W.heap.size ∧ a.spot = none := by
      intro h0
      obtain ⟨o, _, _, c0, _⟩ := H1 0 h0
      have e : (a.add (0 * 4)).add 0 = a := by simp [Addr.add]
      rw [e] at c0
      exact ⟨W.block_lt_of_cell? _ c0, World.cell?_spot c0⟩
    refine ⟨?_, fun p hp => ?_⟩
    · by_cases h0 : len = 0
      · exact .inl h0
      · obtain ⟨hb, hs⟩ := hblk (by omega)
        obtain ⟨b, off, spot⟩ := a
        obtain rfl : spot = none := hs
        have H2 : ∀ k, ∃ o : OpK, k < m → o.ok W ∧ OpAt W b (off + k * 4) o := by
          intro k
          by_cases hk : k < m
          · obtain ⟨o, ho, _, c0, c1, c2, c3⟩ := H1 k hk
            simp only [add_lit, Nat.add_zero] at c0 c1 c2 c3
            exact ⟨o, fun _ => ⟨ho, c0, c1, c2, c3⟩⟩
          · exact ⟨⟨0, 0, .slice none 0 0, .slice none 0 0⟩, fun h => absurd h hk⟩
        obtain ⟨os, hos⟩ := Classical.axiomOfChoice H2
        exact .inr ⟨b, off, os, rfl, hb, fun k hk => (hos k (by omega)).1, fun k hk => (hos k (by omega)).2⟩
    · rw [hx] at hp
      rcases List.mem_append.1 hp with hp | hp
      · obtain ⟨i, hi2, rfl⟩ := MemPlace.mem_row.1 hp
        exact (hblk (by omega)).1
      · obtain ⟨i, hi2, hpi⟩ := List.mem_flatMap.1 hp
        obtain ⟨_, _, hz, _⟩ := H1 i (List.mem_range.1 hi2)
        exact hz p hpi
end Go.Proofs.Ytpiiknbjllgaoaa
