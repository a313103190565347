/-
  Entries put behind entries: of one's own, or behind a list that has no room.
-/
import Derived.Test.YtopnmiakljpgbaaDif
namespace Go.Proofs.Ytopnmiakljpgbaa
open Go.RowKit
theorem ecs_to (L : List En) : ∀ (f : Nat → Option Value), (∀ (i : Nat) e, L[i]? = some e → f (i * 3) = some (it e.term) ∧ f (i * 3 + 1) = some (it e.kind) ∧ f (i * 3 + 2) = some (.string e.data)) → ∀ (j : Nat) u, (ecs L)[j]? = some u → f j = some u := by
  induction L with
  | nil => intro f _ j u hu; simp [ecs] at hu
  | cons e r ih =>
    intro f hf j u hu
    obtain ⟨h0, h1, h2⟩ := hf 0 e rfl
    have hc : ecs (e :: r) = ec e ++ ecs r := by simp [ecs]
    rw [hc] at hu
    match j, hu with
    | 0, hu => simp [ec] at hu; subst hu; simpa using h0
    | 1, hu => simp [ec] at hu; subst hu; simpa using h1
    | 2, hu => simp [ec] at hu; subst hu; simpa using h2
    | j + 3, hu =>
      have hu' : (ecs r)[j]? = some u := by
        rw [List.getElem?_append_right (by simp [ec])] at hu
        simpa [ec] using hu
      refine ih (fun j => f (j + 3)) (fun i e' he => ?_) j u hu'
      obtain ⟨a0, a1, a2⟩ := hf (i + 1) e' (by simpa using he)
      refine ⟨?_, ?_, ?_⟩
      · show f (i * 3 + 3) = _; rw [show i * 3 + 3 = (i + 1) * 3 by omega]; exact a0
      · show f (i * 3 + 1 + 3) = _; rw [show i * 3 + 1 + 3 = (i + 1) * 3 + 1 by omega]; exact a1
      · show f (i * 3 + 2 + 3) = _; rw [show i * 3 + 2 + 3 = (i + 1) * 3 + 2 by omega]; exact a2
theorem ecs_of (L : List En) : ∀ (f : Nat → Option Value), (∀ (j : Nat) u, (ecs L)[j]? = some u → f j = some u) → ∀ (i : Nat) e, L[i]? = some e → f (i * 3) = some (it e.term) ∧ f (i * 3 + 1) = some (it e.kind) ∧ f (i * 3 + 2) = some (.string e.data) := by
  induction L with
  | nil => intro f _ i e he; simp at he
  | cons e r ih =>
    intro f hf i x hx
    have hc : ecs (e :: r) = ec e ++ ecs r := by simp [ecs]
    rw [hc] at hf
    match i, hx with
    | 0, hx =>
      have : e = x := by simpa using hx
      subst this
      exact ⟨hf 0 _ rfl, hf 1 _ rfl, hf 2 _ rfl⟩
    | i + 1, hx =>
      obtain ⟨a0, a1, a2⟩ := ih (fun j => f (j + 3)) (fun j u hu => hf (j + 3) u (by rw [List.getElem?_append_right (by simp [ec])]; simpa [ec] using hu)) i x (by simpa using hx)
      refine ⟨?_, ?_, ?_⟩
      · rw [show (i + 1) * 3 = i * 3 + 3 by omega]; exact a0
      · rw [show (i + 1) * 3 + 1 = i * 3 + 1 + 3 by omega]; exact a1
      · rw [show (i + 1) * 3 + 2 = i * 3 + 2 + 3 by omega]; exact a2
theorem add_any (g o j : Nat) : (⟨g, o, none⟩ : Addr).add j = ⟨g, o + j, none⟩ := by
  unfold Addr.add
  split
  · rename_i h; subst h; rfl
  · rfl
theorem RdE.cells {w : World} {g k n cap : Nat} {L : List En} (h : RdE w (.slice (some ⟨g, k, none⟩) n cap) L) : ∀ (j : Nat) u, (ecs L)[j]? = some u → w.cell? ((⟨g, k, none⟩ : Addr).add j) = some u := by
  refine ecs_to L (fun j => w.cell? ((⟨g, k, none⟩ : Addr).add j)) (fun i e he => ?_)
  obtain ⟨_, g', o', ha, _, c0, c1, c2⟩ := h.at he
  cases ha
  simp only [add_any]
  exact ⟨c0, by rw [← Nat.add_assoc]; exact c1, by rw [← Nat.add_assoc]; exact c2⟩
theorem rdE_of {w : World} {g k n cap : Nat} {L : List En} (hn : n = L.length) (hc : n ≤ cap) (hm : cap ≤ maxLen) (h : ∀ (j : Nat) u, (ecs L)[j]? = some u → w.cell? ((⟨g, k, none⟩ : Addr).add j) = some u) : RdE w (.slice (some ⟨g, k, none⟩) n cap) L := by
  subst hn
  refine ⟨_, cap, rfl, hc, hm, .inr ⟨g, k, rfl, fun i e he => ?_⟩⟩
  have := ecs_of L (fun j => w.cell? ((⟨g, k, none⟩ : Addr).add j)) h i e he
  simp only [add_any] at this
  rw [← Nat.add_assoc, ← Nat.add_assoc] at this
  exact this
theorem ecs_ones (L : List En) : ∀ u ∈ ecs L, u.oneCell' = true := by
  intro u hu
  obtain ⟨e, _, he⟩ := List.mem_flatMap.1 hu
  simp [ec] at he
  rcases he with rfl | rfl | rfl <;> rfl
/-- Entries of one's own, in a block from a place on. -/
def OwnE (w : World) (base : Nat) (v : Value) (L : List En) : Prop := w.ownsRow base 31 3 v L.length (ecs L)
theorem ownE_nil (w : World) (base : Nat) : OwnE w base (.slice none 0 0) [] := World.ownsRow_nil w base 31 3
theorem OwnE.rd {w : World} {base : Nat} {v : Value} {L : List En} (h : OwnE w base v L) : RdE w v L := by
  rcases h.2 with ⟨rfl, h0⟩ | ⟨g, cap, cur, rfl, hbg, hg, hnc, hcm, hcs, htake⟩
  · have hL : L = [] := List.eq_nil_of_length_eq_zero h0
    subst hL
    exact RdE.nil w
  · exact rdE_of rfl hnc hcm (h.cells (g := g) rfl)
theorem RdE.none_nil {w : World} {n cap : Nat} {L : List En} (h : RdE w (.slice none n cap) L) : L = [] ∧ n = 0 := by
  obtain ⟨a, c, he, _, _, h3⟩ := h
  cases he
  rcases h3 with rfl | ⟨g, k, e, _⟩
  · exact ⟨rfl, rfl⟩
  · cases e
theorem run_append_nowhere {w : World} (base : Nat) (v : Value) (n : Nat) (xs : List Value) (hown : w.ownsRow base 31 3 v n xs) (a : Option Addr) (c : Nat) :
    (Builtin.append_ #[22, 22] 22 #[v, .slice a 0 c]).run Try.prog w = .ok v w := by
  obtain ⟨i, hi, hz0, hz1, hz2⟩ := info_parts info31
  rcases hown.2 with ⟨rfl, rfl⟩ | ⟨g, cap, cur, rfl, _, _, hnc, _⟩
  · cases a <;> simp [Builtin.append_, run_underlying Try.underlying22, sizeOf, typeInfo, hi, Builtin.lenOf, Builtin.firstCells, loadCells, loadCellsFrom]
  · cases a <;> simp [Builtin.append_, run_underlying Try.underlying22, sizeOf, typeInfo, hi, Builtin.lenOf, Builtin.firstCells, hnc, storeCells, loadCells, loadCellsFrom]
/-- Entries appended to one's own. -/
theorem wp_app_own {ops : Array Oper} {rest : List Oper} {o : Oper} {a : Act} {w : World} {Q : Exit → Act → World → Prop} (hgd : o.guard = none) (s x : Operand)
    (ho : o.op = .call { callee := .builtin .append, args := #[s, x], argTypes := #[22, 22] }) (hty : o.type = 22) (base : Nat) (v : Value) (L M : List En) (hs : a.eval s = v) (hown : OwnE w base v L)
    (u : Value) (hx : a.eval x = u) (hr : RdE w u M) (hn : L.length + M.length ≤ 1000000) (hbase : base ≤ w.heap.size)
    (h : ∀ v' w', OwnE w' base v' (L ++ M) → Below base w w' → wpList Try.prog ops Q rest (a.put o.dst v') w') : wpList Try.prog ops Q (o :: rest) a w := by
  obtain ⟨i0, hi, hz0, hz1, hz2⟩ := info_parts info31
  by_cases he : M = []
  · subst he
    obtain ⟨ad, cap, rfl, _⟩ := hr
    refine wpList_plain hgd fun K hK => ?_
    have hrun := run_append_nowhere (w := w) base v L.length _ hown ad cap
    have hx' : a.eval x = .slice ad 0 cap := hx
    unfold Oper.wp
    simp [execOp, ho, hty, resolve, invoke, builtin, hs, hx', hrun, Result.andThen]
    exact hK _ _ (h v w (by rw [List.append_nil]; exact hown) (Below.refl _ _))
  · obtain ⟨ad, cap, rfl, h1, h2, h3⟩ := hr
    rcases h3 with h3 | ⟨g, o2, rfl, hc⟩
    · exact absurd h3 he
    have hcs := RdE.cells (w := w) (g := g) (k := o2) (n := M.length) (cap := cap) (L := M) ⟨_, cap, rfl, h1, h2, .inr ⟨g, o2, rfl, hc⟩⟩
    refine wpList_append_own_at _ hgd s x 22 ho base 31 i0 _ 3 32 Try.underlying22 hi hz0 hz1 hz2 rfl (by decide) v L.length _ hs hown ⟨g, o2, none⟩ M.length cap (ecs M) hx (ecs_length M) hcs (ecs_ones M) (by unfold maxLen; omega) (by omega) hbase ?_
    intro v' w' g1 g2 _ _
    refine h v' w' ?_ ?_
    · unfold OwnE
      rw [List.length_append, ecs_append]
      exact g1
    · refine ⟨g2.os, g2.tape, g2.output, g2.size, fun i hi => g2.block i (by omega) ?_⟩
      intro e
      have := (World.ownsRow.lt hown i e.symm).1
      omega
/-- Entries appended to a list that has no room. -/
theorem wp_app_full {ops : Array Oper} {rest : List Oper} {o : Oper} {a : Act} {w : World} {Q : Exit → Act → World → Prop} (hgd : o.guard = none) (s x : Operand)
    (ho : o.op = .call { callee := .builtin .append, args := #[s, x], argTypes := #[22, 22] }) (hty : o.type = 22) (L M : List En) (ad : Option Addr) (hs : a.eval s = .slice ad L.length L.length) (hv : RdE w (.slice ad L.length L.length) L)
    (u : Value) (hx : a.eval x = u) (hr : RdE w u M) (hM : M ≠ []) (hn : L.length + M.length ≤ 1000000)
    (h : ∀ v' w', OwnE w' w.heap.size v' (L ++ M) → Below w.heap.size w w' → wpList Try.prog ops Q rest (a.put o.dst v') w') : wpList Try.prog ops Q (o :: rest) a w := by
  cases ad with
  | none =>
    obtain ⟨rfl, _⟩ := hv.none_nil
    exact wp_app_own hgd s x ho hty w.heap.size _ [] M hs (ownE_nil _ _) u hx hr (by simpa using hn) (Nat.le_refl _) h
  | some b =>
    obtain ⟨i0, hi, hz0, hz1, hz2⟩ := info_parts info31
    obtain ⟨ad, cap, rfl, h1, h2, h3⟩ := hr
    rcases h3 with h3 | ⟨g, o2, rfl, hc⟩
    · exact absurd h3 hM
    have hm0 : 0 < M.length := List.length_pos_iff.2 hM
    have hcs := RdE.cells (w := w) (g := g) (k := o2) (n := M.length) (cap := cap) (L := M) ⟨_, cap, rfl, h1, h2, .inr ⟨g, o2, rfl, hc⟩⟩
    have hls : ∀ (j : Nat) u, (ecs L)[j]? = some u → w.cell? (b.add j) = some u := by
      obtain ⟨a', c', he, _, _, h3⟩ := hv
      cases he
      rcases h3 with rfl | ⟨g', k', e, hc'⟩
      · intro j u hu; simp [ecs] at hu
      · cases e
        exact RdE.cells (w := w) (g := g') (k := k') (n := L.length) (cap := L.length) (L := L) ⟨_, _, rfl, Nat.le_refl _, by unfold maxLen; omega, .inr ⟨g', k', rfl, hc'⟩⟩
    have hr := run_append_grow (P := Try.prog) w 22 22 31 i0 _ Try.underlying22 hi hz0 b L.length L.length (ecs L) (by rw [ecs_length, hz1]) hls ⟨g, o2, none⟩ M.length cap (ecs M) (by rw [ecs_length, hz1]) hcs (by omega) (by omega) (growslice_fits (by omega) (by rw [hz2]; omega))
    refine wpList_plain hgd fun K hK => ?_
    unfold Oper.wp
    simp [execOp, ho, hty, resolve, invoke, builtin, hs, hx, hr, Result.andThen]
    refine hK _ _ (h _ _ ?_ ?_)
    · have hge := grownCap_ge w (L.length + M.length) L.length 31
      have hcm : grownCap w (L.length + M.length) L.length 31 ≤ maxLen := grownCap_le_maxLen w (L.length + M.length) L.length 31 (by unfold maxLen; omega)
      unfold OwnE
      rw [List.length_append, ecs_append]
      refine ⟨by rw [List.length_append, ecs_length, ecs_length]; omega, .inr ⟨w.heap.size, _, _, rfl, Nat.le_refl _, heap_alloc_new w.drew _, hge, hcm, ?_, ?_⟩⟩
      · simp only [Array.size_append, List.size_toArray, size_zeroCells]
        rw [List.length_append, ecs_length, ecs_length]
        show L.length * 3 + M.length * 3 + (grownCap w (L.length + M.length) L.length 31 - (L.length + M.length)) * 3 = _
        omega
      · simp only [Array.toList_append, List.append_assoc]
        rw [← List.append_assoc, ← show (ecs L ++ ecs M).length = (L.length + M.length) * 3 by rw [List.length_append, ecs_length, ecs_length]; omega]
        exact List.take_left
    · exact (Below.refl _ w).drew.alloc (Nat.le_refl _) _
end Go.Proofs.Ytopnmiakljpgbaa
