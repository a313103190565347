/-
  What was saved step by step is loaded again: the law's function returns true, whatever states come in.
-/
import Derived.Test.YtopnmiakljpgbaaMay
import Derived.Test.YtopnmiakljpgbaaAwake
namespace Go.Proofs.Ytopnmiakljpgbaa
open Go.RowKit
/-- A slice that reads as these states. -/
def RdH (w : World) (v : Value) (A : List Hd) : Prop := ∃ a cap, v = .slice a A.length cap ∧ A.length ≤ cap ∧ cap ≤ maxLen ∧ (∀ H ∈ A, H.Rd w) ∧ (A = [] ∨ ∃ g o, a = some ⟨g, o, none⟩ ∧ ∀ (i : Nat) H, A[i]? = some H → ∀ (j : Nat) u, H.cs[j]? = some u → w.cell? ⟨g, o + i * 7 + j, none⟩ = some u)
theorem RdH.shape {w : World} {v : Value} {A : List Hd} (h : RdH w v A) : ∃ a cap, v = .slice a A.length cap ∧ A.length ≤ cap ∧ cap ≤ maxLen := let ⟨a, cap, e, h1, h2, _⟩ := h; ⟨a, cap, e, h1, h2⟩
theorem RdH.at {w : World} {a : Option Addr} {n cap : Nat} {A : List Hd} (h : RdH w (.slice a n cap) A) {k : Nat} {H : Hd} (hk : A[k]? = some H) :
    n = A.length ∧ H.Rd w ∧ ∃ g o, a = some ⟨g, o, none⟩ ∧ g < w.heap.size ∧ ∀ (j : Nat) u, H.cs[j]? = some u → w.cell? ⟨g, o + k * 7 + j, none⟩ = some u := by
  obtain ⟨a', cap', he, _, _, hr, h3⟩ := h
  cases he
  rcases h3 with rfl | ⟨g, o, rfl, hc⟩
  · simp at hk
  · refine ⟨rfl, hr H (List.mem_of_getElem? hk), g, o, rfl, ?_, hc k H hk⟩
    have := hc k H hk 0 (it H.t) rfl
    exact w.block_lt_of_cell? _ this
theorem Ce.grown9 {w w' : World} {B base : Nat} {T : TypeId} {cs : Array Value} {v : Value} {xs : List Value} (h : Ce w B T cs) (hT : T ≠ 9) (he : OwnV w base 9 v xs) (hg : w.grownBy w' v.ownBlock) : Ce w' B T cs := by
  refine (hg.block B h.lt ?_).trans h
  intro e
  rcases he.2 with ⟨rfl, _⟩ | ⟨g', cap', cur', rfl, _, hgg', _⟩
  · simp [Value.ownBlock] at e
  · simp [Value.ownBlock] at e
    subst e
    rw [show w.heap[B]? = _ from h] at hgg'
    injection hgg' with hgg'
    injection hgg' with _ h3 _
    exact hT h3
theorem OwnE.grown9 {w w' : World} {base b2 : Nat} {es v : Value} {L : List En} {xs : List Value} (h : OwnE w b2 es L) (he : OwnV w base 9 v xs) (hg : w.grownBy w' v.ownBlock) : OwnE w' b2 es L := by
  refine World.ownsRow.kept h hg ?_
  rcases h.2 with ⟨rfl, _⟩ | ⟨g, cap, cur, rfl, _, hgg, _⟩
  · exact .inl rfl
  · refine .inr fun e => ?_
    rcases he.2 with ⟨rfl, _⟩ | ⟨g', cap', cur', rfl, _, hgg', _⟩
    · simp [Value.ownBlock] at e
    · simp [Value.ownBlock] at e
      subst e
      rw [hgg] at hgg'
      injection hgg' with hgg'
      injection hgg' with _ h3 _
      exact absurd h3 (by decide)
/-- Texts appended to one's own; all other blocks stay. -/
theorem wp_app_strK {ops : Array Oper} {rest : List Oper} {o : Oper} {a : Act} {w : World} {Q : Exit → Act → World → Prop} (hgd : o.guard = none) (s x : Operand)
    (ho : o.op = .call { callee := .builtin .append, args := #[s, x], argTypes := #[50, 50] }) (base : Nat) (v : Value) (xs ys : List Value) (hs : a.eval s = v) (hown : OwnV w base 9 v xs)
    (u : Value) (hx : a.eval x = u) (hr : RdV w u ys) (h1 : ∀ y ∈ ys, y.oneCell' = true) (hn : xs.length + ys.length ≤ 1000000) (hbase : base ≤ w.heap.size)
    (h : ∀ v' w', OwnV w' base 9 v' (xs ++ ys) → Below base w w' → w.grownBy w' v.ownBlock → wpList Try.prog ops Q rest (a.put o.dst v') w') : wpList Try.prog ops Q (o :: rest) a w := by
  obtain ⟨i0, hi, hz0, hz1, hz2⟩ := info_parts info9
  obtain ⟨ad, cap, rfl, g1, g2, g3⟩ := hr
  by_cases he : ys = []
  · subst he
    refine wpList_plain hgd fun K hK => ?_
    have hrun := run_append_none1 (w := w) 50 9 Try.underlying50 i0 hi o.type base v xs.length _ hown ad cap
    have hx' : a.eval x = .slice ad 0 cap := hx
    unfold Oper.wp
    simp [execOp, ho, resolve, invoke, builtin, hs, hx', hrun, Result.andThen]
    exact hK _ _ (h v w (by rw [List.append_nil]; exact hown) (Below.refl _ _) ⟨rfl, rfl, rfl, Nat.le_refl _, fun _ _ _ => rfl⟩)
  · rcases g3 with g3 | ⟨g, o2, rfl, hc⟩
    · exact absurd g3 he
    refine wpList_append_own_at _ hgd s x 50 ho base 9 i0 _ 1 16 Try.underlying50 hi hz0 hz1 hz2 rfl (by decide) v xs.length xs hs hown ⟨g, o2, none⟩ ys.length cap ys hx (by simp) (fun j y hj => by rw [add_any]; exact hc j y hj) h1 (by unfold maxLen; omega) (by omega) hbase ?_
    intro v' w' k1 k2 _ _
    refine h v' w' ?_ ?_ k2
    · unfold OwnV
      rw [List.length_append]
      exact k1
    · refine ⟨k2.os, k2.tape, k2.output, k2.size, fun i hi => k2.block i (by omega) ?_⟩
      intro e'
      have := (World.ownsRow.lt hown i e'.symm).1
      omega
theorem svW_head (X : Hd) : ∀ b ∈ svW X, b ≠ [] := by
  intro b hb
  rcases List.mem_cons.1 hb with rfl | hb
  · simp [fullB]
  · have : ∀ (L : List En) (base : Int), ∀ b ∈ entsB base L, b ≠ [] := by
      intro L
      induction L with
      | nil => intro base b hb; cases hb
      | cons e r ih =>
        intro base b hb
        rcases List.mem_cons.1 hb with rfl | hb
        · simp [entB]
        · exact ih _ b hb
    exact this _ _ b hb
theorem entsB_head : ∀ (L : List En) (base : Int), ∀ b ∈ entsB base L, b ≠ []
  | [], _, b, hb => by cases hb
  | e :: r, base, b, hb => by
    rcases List.mem_cons.1 hb with rfl | hb
    · simp [entB]
    · exact entsB_head r _ b hb
theorem svP_head (N X : Hd) : ∀ b ∈ svP N X, b ≠ [] := by
  intro b hb
  rcases List.mem_append.1 hb with hb | hb
  · unfold svR at hb
    split at hb
    · cases hb
    · obtain rfl := List.mem_singleton.1 hb; simp
  · exact entsB_head _ _ b hb
theorem entB_len (i : Int) (e : En) (he : e.data.size ≤ 60) : (entB i e).length ≤ 1000 := by
  unfold entB
  simp only [List.length_cons, List.length_append, numsB_len, List.length_nil]
  rw [← size_list]
  omega
theorem entsB_len1 : ∀ (L : List En) (base : Int), (∀ e ∈ L, e.data.size ≤ 60) → ∀ b ∈ entsB base L, b.length ≤ 1000
  | [], _, _, b, hb => by cases hb
  | e :: r, base, h, b, hb => by
    rcases List.mem_cons.1 hb with rfl | hb
    · exact entB_len _ e (h e (List.mem_cons_self ..))
    · exact entsB_len1 r _ (fun x hx => h x (List.mem_cons_of_mem _ hx)) b hb
theorem svT_len1 (N X : Hd) (ht : X.Tame) : ∀ b ∈ svT N X, b.length ≤ 1000 := by
  obtain ⟨t1, t2, t3, t4⟩ := ht
  intro b hb
  unfold svT at hb
  split at hb
  · rcases List.mem_cons.1 hb with rfl | hb
    · unfold fullB
      simp only [List.length_cons, List.length_append, numsB_len, List.length_nil]
      rw [← size_list, show (dataB X.V).length = X.V.length by simp [dataB]]
      omega
    · exact entsB_len1 _ _ t4 b hb
  · rcases List.mem_append.1 hb with hb | hb
    · unfold svR at hb
      split at hb
      · cases hb
      · obtain rfl := List.mem_singleton.1 hb
        simp only [List.length_cons, numsB_len, List.length_nil]
        omega
    · exact entsB_len1 _ _ (fun e he => t4 e (List.mem_of_mem_drop he)) b hb
theorem svT_head (N X : Hd) : ∀ b ∈ svT N X, b ≠ [] := by
  unfold svT
  split
  · exact svW_head X
  · exact svP_head N X
/-- What the records are behind one more step. -/
def nxt (R : List Bs) (N X : Hd) : List Bs := if svB N X = true then svT N X else R ++ svT N X
theorem nxt_ld {R : List Bs} {N X : Hd} (hR : ldF Hs.zero R = some N.S) (hm : X.May) (ht : X.Tame) : ldF Hs.zero (nxt R N X) = some X.S := by
  unfold nxt svT
  by_cases h : svB N X = true
  · rw [if_pos h, if_pos h]
    exact ldF_whole X hm ht
  · rw [if_neg h, if_neg h, ldF_app, hR]
    exact ldF_part N X hm ht (by simpa using h)
theorem load_nxt {R' : List Bs} {X : Hd} (h : ldF Hs.zero R' = some X.S) (hok : ldok X.S = true) (hw : 0 < R'.length → ∃ r rs, R' = r :: rs ∧ isW r = true) : loadM R' = some X.S := by
  rw [load_all h hw, if_pos hok]
end Go.Proofs.Ytopnmiakljpgbaa
