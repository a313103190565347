/-
  A list that is thinned out where it lies: its cells, what an append into its own room leaves, and clear.
-/
import Derived.Test.YtocmgdhhlofajaaSend
import Derived.Laws.Append
import Derived.Laws.CopyRow
import Derived.Laws.Tables
namespace Go.Proofs.Ytocmgdhhlofajaa
open Go.RowKit
/-- The block g of a list X with room for cap: k were looked at; of these Y stand at its beginning; those behind the k still stand. -/
def Thin {α : Type} (c : α → List Value) (e : TypeId) (z cap g : Nat) (Y X : List α) (k : Nat) (w : World) : Prop :=
  ∃ cur : Array Value, w.heap[g]? = some (.cells cur e (0, 0)) ∧ cur.size = cap * z ∧ cur.toList.take (Y.length * z) = cs c Y ∧ ∀ i, k ≤ i → ∀ x, X[i]? = some x → ∀ j u, (c x)[j]? = some u → cur[i * z + j]? = some u
section
variable {α : Type} {c : α → List Value} {e : TypeId} {z cap g k : Nat} {Y X : List α} {w : World}
theorem Thin.lt (h : Thin c e z cap g Y X k w) : g < w.heap.size := let ⟨_, hg, _⟩ := h; (Array.getElem?_eq_some_iff.1 hg).1
theorem Thin.of_row (h : Rw c e z w (.slice (some ⟨g, 0, none⟩) X.length cap) X) (hc : ∀ x, (c x).length = z) : Thin c e z cap g [] X 0 w := by
  rcases h.2 with ⟨h, _⟩ | ⟨g', cap', cur, e', _, hg, h1, h2, h3, ht⟩
  · cases h
  · cases e'
    refine ⟨cur, hg, h3, by simp [cs], fun i _ x hx j u hu => ?_⟩
    have hj : j < z := by have := (List.getElem?_eq_some_iff.1 hu).1; rwa [hc] at this
    have := cs_get hc hx j hj
    rw [hu, ← ht, List.getElem?_take] at this
    split at this
    · simpa using this
    · cases this
theorem Thin.skip (h : Thin c e z cap g Y X k w) : Thin c e z cap g Y X (k + 1) w :=
  let ⟨cur, h1, h2, h3, h4⟩ := h
  ⟨cur, h1, h2, h3, fun i hi => h4 i (by omega)⟩
theorem Thin.of_block {w' : World} (h : Thin c e z cap g Y X k w) (hb : w'.heap[g]? = w.heap[g]?) : Thin c e z cap g Y X k w' :=
  let ⟨cur, h1, h2⟩ := h
  ⟨cur, hb.trans h1, h2⟩
theorem Thin.cell (h : Thin c e z cap g Y X k w) {x : α} (hx : X[k]? = some x) (j : Nat) (u : Value) (hu : (c x)[j]? = some u) : w.cell? ⟨g, k * z + j, none⟩ = some u := by
  obtain ⟨cur, h1, h2, h3, h4⟩ := h
  rw [cell_of_row w g _ cur e (0, 0) h1]
  exact h4 k (Nat.le_refl _) x hx j u hu
theorem Thin.row {n : Nat} (h : Thin c e z cap g Y X k w) (hc : ∀ x, (c x).length = z) (hY : Y.length ≤ cap) (hcm : cap ≤ maxLen) (hn : n = Y.length) : Rw c e z w (.slice (some ⟨g, 0, none⟩) n cap) Y := by
  obtain ⟨cur, h1, h2, h3, h4⟩ := h
  subst hn
  exact ⟨cs_length hc Y, .inr ⟨g, cap, cur, rfl, Nat.zero_le _, h1, hY, hcm, h2, h3⟩⟩
/-- One more is kept. -/
theorem Thin.more {cur : Array Value} {x : α} (h1 : w.heap[g]? = some (.cells cur e (0, 0))) (h2 : cur.size = cap * z) (h3 : cur.toList.take (Y.length * z) = cs c Y) (h4 : ∀ i, k ≤ i → ∀ x, X[i]? = some x → ∀ j u, (c x)[j]? = some u → cur[i * z + j]? = some u)
    (hc : ∀ x, (c x).length = z) (hY : Y.length ≤ k) (hk : k < cap) :
    Thin c e z cap g (Y ++ [x]) X (k + 1) (w.setRow g (cur.toList.take (Y.length * z) ++ c x ++ cur.toList.drop (Y.length * z + z)).toArray) := by
  have hm : (Y.length + 1) * z ≤ cap * z := Nat.mul_le_mul_right _ (by omega)
  rw [Nat.succ_mul] at hm
  have h2' : cur.toList.length = cap * z := by rw [← h2]; simp
  have hl : (cur.toList.take (Y.length * z) ++ c x).length = Y.length * z + z := by
    rw [List.length_append, List.length_take, hc, h2']; omega
  refine ⟨_, setRow_heap w g cur _ e _ h1, ?_, ?_, ?_⟩
  · rw [List.size_toArray, List.length_append, hl, List.length_drop, h2']; omega
  · rw [List.length_append, List.length_singleton, Nat.succ_mul]
    show ((_ ++ _) ++ _ : List Value).take _ = _
    rw [← hl, List.take_left, h3, cs_append, cs_one]
  · intro i hi y hy j u hu
    have := h4 i (by omega) y hy j u hu
    have hb : (Y.length + 1) * z ≤ i * z := Nat.mul_le_mul_right _ (by omega)
    rw [Nat.succ_mul] at hb
    rw [List.getElem?_toArray, List.getElem?_append_right (by rw [hl]; omega), hl, List.getElem?_drop, show Y.length * z + z + (i * z + j - (Y.length * z + z)) = i * z + j by omega]
    simpa using this
theorem tr_setRow (w : World) (g : Nat) (L : Array Value) : Tr (· = g) w (w.setRow g L) := ⟨rfl, rfl, rfl, by simp, fun k _ hk => setRow_other w g k _ hk⟩
/-- append into the room that was looked at. -/
theorem wpList_thin {ops : Array Oper} {rest : List Oper} {o : Oper} {a : Act} {Q : Exit → Act → World → Prop} {w : World} (hgd : o.guard = none) (s x : Operand) (t : TypeId)
    (ho : o.op = .call { callee := .builtin .append, args := #[s, x], argTypes := #[t, t] }) (i : TypeInfo) (ht : Try.prog.underlying t = some (.slice e)) (hi : Try.prog.info? e = some i) (hz1 : i.size = z)
    (hc : ∀ x, (c x).length = z) (h1 : ∀ x, ∀ u ∈ c x, u.oneCell' = true) {n B : Nat} {y : α} (h : Thin c e z cap g Y X k w) (hn : n = Y.length) (hY : n ≤ k) (hk : k < cap)
    (hs : a.eval s = .slice (some ⟨g, 0, none⟩) n cap) (hx : a.eval x = .slice (some ⟨B, 0, none⟩) 1 1) (hB : w.heap[B]? = some (.cells (c y).toArray e (0, 0)))
    (hK : ∀ w', Thin c e z cap g (Y ++ [y]) X (k + 1) w' → Tr (· = g) w w' → wpList Try.prog ops Q rest (a.put o.dst (.slice (some ⟨g, 0, none⟩) (n + 1) cap)) w') : wpList Try.prog ops Q (o :: rest) a w := by
  obtain ⟨cur, g1, g2, g3, g4⟩ := h
  subst hn
  subst hz1
  have hm : (Y.length + 1) * i.size ≤ cap * i.size := Nat.mul_le_mul_right _ (by omega)
  rw [Nat.succ_mul] at hm
  have hr := run_append_room (P := Try.prog) w t o.type e i ht hi g Y.length cap cur g1 ⟨B, 0, none⟩ 1 1 (c y) (by rw [hc]; omega) (fun j u hj => by
    rw [add_lit, cell_of_row w B _ _ e (0, 0) hB]
    simpa using hj) (h1 y) (by omega) (by rw [hc]; omega)
  rw [hc] at hr
  refine wpList_plain hgd fun K hK' => ?_
  unfold Oper.wp execOp
  simp only [ho, resolve, invoke, builtin, Sem.run_bind, Sem.run_pure, Result.andThen_ok, List.map_toArray, List.map_cons, List.map_nil, hs, hx, hr]
  exact hK' _ _ (hK _ (Thin.more g1 g2 g3 g4 hc hY hk) (tr_setRow _ _ _))
theorem zeroCells_one {zv : Array Value} (h : ∀ u ∈ zv, u.oneCell' = true) (n : Nat) : ∀ u ∈ (Builtin.zeroCells zv n).toList, u.oneCell' = true := by
  intro u hu
  simp only [Builtin.zeroCells, Array.toList_map, List.mem_map] at hu
  obtain ⟨i, hi, rfl⟩ := hu
  by_cases hs : 0 < zv.size
  · have := Nat.mod_lt i hs
    rw [getElem!_pos zv _ this]
    exact h _ (Array.getElem_mem this)
  · have h0 : zv.size = 0 := by omega
    rw [h0] at hi
    simp at hi
/-- clear of what is behind. -/
theorem wpList_clear {ops : Array Oper} {rest : List Oper} {o : Oper} {a : Act} {Q : Exit → Act → World → Prop} {w : World} (hgd : o.guard = none) (x : Operand) (t : TypeId)
    (ho : o.op = .call { callee := .builtin .clear, args := #[x], argTypes := #[t] }) (i : TypeInfo) (zv : Value) (ht : Try.prog.underlying t = some (.slice e)) (hi : Try.prog.info? e = some i) (hz0 : i.zero = some zv) (hz : zv.cells.size = z)
    (h1 : ∀ u ∈ zv.cells, u.oneCell' = true) {m cc : Nat} {a0 : Option Addr} (h : Thin c e z cap g Y X k w)
    (hx : a.eval x = .slice a0 m cc) (hm : m = 0 ∨ a0 = some ⟨g, Y.length * z, none⟩ ∧ Y.length + m ≤ cap)
    (hK : ∀ w', Thin c e z cap g Y [] k w' → Tr (· = g) w w' → wpList Try.prog ops Q rest (a.put o.dst (.tuple #[])) w') : wpList Try.prog ops Q (o :: rest) a w := by
  obtain ⟨cur, g1, g2, g3, g4⟩ := h
  subst hz
  have hzv : ∀ w, (zeroValue e).run Try.prog w = .ok zv w := fun w => by simp [zeroValue, typeInfo, hi, hz0]
  have hstop : wpList Try.prog ops Q rest (a.put o.dst (.tuple #[])) w := hK w ⟨cur, g1, g2, g3, fun i _ x hx => by simp at hx⟩ (Tr.refl _ _)
  have g2' : cur.toList.length = cap * zv.cells.size := by rw [← g2]; simp
  refine wpList_plain hgd fun K hK' => ?_
  unfold Oper.wp execOp
  by_cases h0 : m = 0
  · subst h0
    cases a0 with
    | none =>
      have hr : (Builtin.clear_ #[t] o.type #[.slice none 0 cc]).run Try.prog w = .ok (.tuple #[]) w := by simp [Builtin.clear_, run_underlying ht]
      simp only [ho, resolve, invoke, builtin, Sem.run_bind, Sem.run_pure, Result.andThen_ok, List.map_toArray, List.map_cons, List.map_nil, hx, hr]
      exact hK' _ _ hstop
    | some ad =>
      have hr : (Builtin.clear_ #[t] o.type #[.slice (some ad) 0 cc]).run Try.prog w = .ok (.tuple #[]) w := by simp [Builtin.clear_, run_underlying ht]
      simp only [ho, resolve, invoke, builtin, Sem.run_bind, Sem.run_pure, Result.andThen_ok, List.map_toArray, List.map_cons, List.map_nil, hx, hr]
      exact hK' _ _ hstop
  · obtain ⟨rfl, hle⟩ := hm.resolve_left h0
    have hzl : (Builtin.zeroCells zv.cells m).toList.length = m * zv.cells.size := by rw [Array.length_toList, size_zeroCells]
    have hml : (Y.length + m) * zv.cells.size ≤ cap * zv.cells.size := Nat.mul_le_mul_right _ hle
    rw [Nat.add_mul] at hml
    have hst := run_storeCells_at Try.prog g (Y.length * zv.cells.size) e (Builtin.zeroCells zv.cells m).toList 0 cur w g1 (by rw [hzl, g2]; omega) (zeroCells_one h1 m)
    obtain ⟨m', rfl⟩ : ∃ m', m = m' + 1 := ⟨m - 1, by omega⟩
    have hr : (Builtin.clear_ #[t] o.type #[.slice (some ⟨g, Y.length * zv.cells.size, none⟩) (m' + 1) cc]).run Try.prog w = .ok (.tuple #[]) (w.setRow g (cur.toList.take (Y.length * zv.cells.size + 0) ++ (Builtin.zeroCells zv.cells (m' + 1)).toList ++ cur.toList.drop (Y.length * zv.cells.size + 0 + (Builtin.zeroCells zv.cells (m' + 1)).toList.length)).toArray) := by
      simp [Builtin.clear_, run_underlying ht, hzv, hst]
    simp only [ho, resolve, invoke, builtin, Sem.run_bind, Sem.run_pure, Result.andThen_ok, List.map_toArray, List.map_cons, List.map_nil, hx, hr]
    refine hK' _ _ (hK _ ⟨_, setRow_heap w g cur _ e _ g1, ?_, ?_, fun i _ x hx => by simp at hx⟩ (tr_setRow _ _ _))
    · simp only [List.size_toArray, List.length_append, hzl, List.length_take, List.length_drop, g2']
      omega
    · simp only [Nat.add_zero, List.append_assoc]
      rw [List.take_append_of_le_length (by rw [List.length_take, g2']; omega), List.take_of_length_le (by rw [List.length_take]; omega)]
      exact g3
end
end Go.Proofs.Ytocmgdhhlofajaa
