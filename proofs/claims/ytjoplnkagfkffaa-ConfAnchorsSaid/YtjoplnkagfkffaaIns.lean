/-
  What slices.Insert does to a row of one's own: the laws of its builtins.
-/
import Derived.Test.YtjoplnkagfkffaaAwake
namespace Go.Proofs.Ytjoplnkagfkffaa
open Go.RowKit
theorem under3 : Try.prog.underlying 3 = some (.int .i64) := Try.underlying3
/-- append(s, make(S, m)...) where there is no room. -/
theorem run_app_make {α : Type} (E : El α) {w : World} (ty : TypeId) (b : Addr) (i cap m : Nat) (olds : List Value) (hlo : olds.length = i * E.k) (holds : ∀ j v, olds[j]? = some v → w.cell? (b.add j) = some v)
    (hg : cap < i + m) (h63 : i + m ≤ 1000000) (hm0 : 0 < m) :
    (Builtin.append_ #[E.t, 3] ty #[.slice (some b) i cap, it (m : Int)]).run Try.prog w =
      .ok (.slice (some ⟨w.heap.size, 0, none⟩) (i + m) (grownCap w (i + m) cap E.e))
        (w.drew.alloc (.cells (olds.toArray ++ Builtin.zeroCells E.z.cells m ++ Builtin.zeroCells E.z.cells (grownCap w (i + m) cap E.e - (i + m))) E.e)) := by
  obtain ⟨inf, hi, hz0, hz1, hz2⟩ := info_parts E.hinf
  have hn : ¬ (i + m ≤ cap) := by omega
  have hby : (i + m) * E.by' ≤ 1000000 * 100 := Nat.mul_le_mul h63 E.hby
  have hfit := growslice_fits (need := i + m) (old := cap) (bytes := E.by') hg (by omega)
  have h48 : ¬ (281474976710656 < Builtin.nextslicecap (i + m) cap * E.by') := by omega
  have hmb : ¬ (281474976710656 < m * E.by') := by
    have := Nat.mul_le_mul (show m ≤ 1000000 by omega) E.hby
    omega
  have hmb' : ¬ ((281474976710656 : Int) < (m : Int) * (E.by' : Int)) := by
    have h := hmb
    omega
  have hw : IntKind.i64.wrap (m : Int) = (m : Int) := by unfold IntKind.wrap; simp only [IntKind.bits, IntKind.signed]; simp; omega
  have hk0 : ¬ (m * E.k = 0) := by have := Nat.mul_pos hm0 E.h0; omega
  have h63' : ¬ ((9223372036854775807 : Int) < (i : Int) + (m : Int)) := by omega
  have hfo := run_firstCells_some (P := Try.prog) w.drew E.k i b i cap olds hlo (by simpa using holds)
  have hneg : ¬ ((m : Int) < 0) := by omega
  simp [Builtin.append_, run_underlying E.ht, run_underlying under3, sizeOf, typeInfo, zeroValue, hi, hz0, hz1, hz2, asInt, asIntOf, hneg, hw, hn, h48, hmb', hk0, h63', Question.forced, hfo, newRow, grownCap]
/-- A list with some of it overwritten. -/
def put (cur : List Value) (o : Nat) (cs : List Value) : List Value := cur.take o ++ cs ++ cur.drop (o + cs.length)
theorem put_get (cur : List Value) (o : Nat) (cs : List Value) (h : o + cs.length ≤ cur.length) (j : Nat) : (put cur o cs)[j]? = if j < o then cur[j]? else if j < o + cs.length then cs[j - o]? else cur[j]? := by
  unfold put
  have hl : (cur.take o).length = o := by rw [List.length_take]; omega
  by_cases h1 : j < o
  · rw [if_pos h1, List.append_assoc, List.getElem?_append_left (by omega), List.getElem?_take, if_pos h1]
  · rw [if_neg h1]
    by_cases h2 : j < o + cs.length
    · rw [if_pos h2, List.getElem?_append_left (by rw [List.length_append]; omega), List.getElem?_append_right (by omega), hl]
    · rw [if_neg h2, List.getElem?_append_right (by rw [List.length_append]; omega), List.length_append, hl, List.getElem?_drop]
      congr 1
      omega
theorem put_length (cur : List Value) (o : Nat) (cs : List Value) (h : o + cs.length ≤ cur.length) : (put cur o cs).length = cur.length := by
  unfold put
  simp
  omega
/-- Both orders of the two copies leave the same beginning. -/
theorem put_put (cur ex d : List Value) (a : Nat) (h : a + ex.length + d.length ≤ cur.length) (b : Bool) :
    (if b then put (put cur a ex) (a + ex.length) d else put (put cur (a + ex.length) d) a ex).take (a + ex.length + d.length) = cur.take a ++ ex ++ d := by
  have hl : (cur.take a).length = a := by rw [List.length_take]; omega
  apply List.ext_getElem?
  intro j
  rw [List.getElem?_take]
  by_cases hj : j < a + ex.length + d.length
  · rw [if_pos hj]
    have e : (cur.take a ++ ex ++ d)[j]? = if j < a then cur[j]? else if j < a + ex.length then ex[j - a]? else d[j - (a + ex.length)]? := by
      by_cases h1 : j < a
      · rw [if_pos h1, List.append_assoc, List.getElem?_append_left (by omega), List.getElem?_take, if_pos h1]
      · rw [if_neg h1]
        by_cases h2 : j < a + ex.length
        · rw [if_pos h2, List.getElem?_append_left (by rw [List.length_append]; omega), List.getElem?_append_right (by omega), hl]
        · rw [if_neg h2, List.getElem?_append_right (by rw [List.length_append]; omega), List.length_append, hl]
    rw [e]
    cases b with
    | true =>
      rw [if_pos rfl, put_get _ _ _ (by rw [put_length _ _ _ (by omega)]; omega), put_get _ _ _ (by omega)]
      by_cases h1 : j < a
      · rw [if_pos (by omega), if_pos h1, if_pos h1]
      · by_cases h2 : j < a + ex.length
        · rw [if_pos h2, if_neg h1, if_pos h2, if_neg h1, if_pos h2]
        · rw [if_neg h2, if_pos hj, if_neg h1, if_neg h2]
    | false =>
      rw [if_neg (by simp), put_get _ _ _ (by rw [put_length _ _ _ (by omega)]; omega), put_get _ _ _ (by omega)]
      by_cases h1 : j < a
      · rw [if_pos h1, if_pos (by omega), if_pos h1]
      · by_cases h2 : j < a + ex.length
        · rw [if_neg h1, if_pos h2, if_neg h1, if_pos h2]
        · rw [if_neg h1, if_neg h2, if_neg h2, if_pos hj, if_neg h1, if_neg h2]
  · rw [if_neg hj, List.getElem?_eq_none]
    simp only [List.length_append, hl]
    omega
/-- copy into a row of some cells. -/
theorem run_copyK {α : Type} (E : El α) (w : World) (ty : TypeId) (g o dLen dCap : Nat) (a : Addr) (sLen sCap : Nat) (cur : Array Value) (cs : List Value) (m : Nat)
    (hg : Ce w g E.e cur) (hm : Nat.min sLen dLen = m) (hn : cs.length = m * E.k) (hsrc : ∀ j v, cs[j]? = some v → w.cell? (a.add j) = some v) (hfit : o + cs.length ≤ cur.size) (h1 : ∀ v ∈ cs, v.oneCell' = true) :
    (Builtin.copy_ #[E.t, E.t] ty #[.slice (some ⟨g, o, none⟩) dLen dCap, .slice (some a) sLen sCap]).run Try.prog w = .ok (.int .i64 (m : Int)) (w.setRow g (put cur.toList o cs).toArray) := by
  obtain ⟨inf, hi, hz0, hz1, hz2⟩ := info_parts E.hinf
  have hl := run_firstCells_some (P := Try.prog) w E.k m a sLen sCap cs hn hsrc
  have hst := run_storeCells_at Try.prog g o E.e cs 0 cur w hg (by simpa using hfit) h1
  simp [Builtin.copy_, run_underlying E.ht, Builtin.lenOf, sizeOf, typeInfo, hi, hz1, hm, hl, hst, put]
  rfl
theorem run_overlapsI {w : World} {v g o n m c d : Nat} {T T' : TypeId} {cs cs' : Array Value} (h1 : Ce w v T cs) (h2 : Ce w g T' cs') (hne : v ≠ g) :
    (callFunc 78 #[.slice (some ⟨v, 0, none⟩) n d, .slice (some ⟨g, o, none⟩) m c]).run Try.prog w = .ok (.value (.bool false)) w := by
  have hh1 : w.heap[v]? = some (.cells cs T (0, 0)) := h1
  have hh2 : w.heap[g]? = some (.cells cs' T' (0, 0)) := h2
  have e1 : ¬ Try.f78.name = "runtime.NumGoroutine" := of_decide_eq_false (by kernel_rfl)
  have e2 : Try.f78.body = none := by kernel_rfl
  have e3 : (Extern.findNext Try.f78).isNone = true := by kernel_rfl
  have e4 : Extern.find Try.f78 = some (Extern.SlicesOverlaps.overlaps #[25, 25] #[4]) := by kernel_rfl
  have e5 : Extern.findNext Try.f78 = none := by
    cases h : Extern.findNext Try.f78 with
    | none => rfl
    | some x => rw [h] at e3; cases e3
  simp [callFunc, Try.func78, go_sem, e1, e2, e4, e5]
  have hf1 : w.frozen? ⟨v, 0, none⟩ = false := h1.frozen 0
  have hf2 : w.frozen? ⟨g, o, none⟩ = false := h2.frozen o
  have hf3 : ∀ k, w.frozen? ⟨v, k, none⟩ = false := fun k => h1.frozen k
  have hf4 : ∀ k, w.frozen? ⟨g, k, none⟩ = false := fun k => h2.frozen k
  have hne' : (v == g) = false := by simpa using hne
  have ov : Extern.SlicesOverlaps.overlaps #[25, 25] #[4] #[.slice (some ⟨v, 0, none⟩) n d, .slice (some ⟨g, o, none⟩) m c] = (do
      let .slice elem ← underlying 25 | stuck "slices.overlaps: slice type expected"
      let size ← sizeOf elem
      if n = 0 ∨ m = 0 ∨ size = 0 then pure (.bool false)
      else if v != g && (← frozen ⟨v, 0, none⟩) && (← frozen ⟨g, o, none⟩) then unsupported .addressObserved
      else do
        if v != g then do
          noView ⟨v, 0, none⟩; noView ⟨g, o, none⟩
          if ← mayBeOne ⟨v, 0, none⟩ ⟨g, o, none⟩ then return .bool ((← choose (.extern "sameAddr.stringBytes" 2)) == 1)
        pure (.bool (v == g && decide (0 < o + m * size) && decide (o < 0 + n * size)))) := by rfl
  rw [ov]
  obtain ⟨inf, hi, hz0, hz1, hz2⟩ := info_parts infoI
  simp [run_underlying Try.underlying25, sizeOf, typeInfo, hi, hz1, hne, noView, mayBeOne, stringish, viewAt, World.shape?, hh1, hh2, hf3, hf4]
theorem run_overlapsA {w : World} {v g o n m c d : Nat} {T T' : TypeId} {cs cs' : Array Value} (h1 : Ce w v T cs) (h2 : Ce w g T' cs') (hne : v ≠ g) :
    (callFunc 80 #[.slice (some ⟨v, 0, none⟩) n d, .slice (some ⟨g, o, none⟩) m c]).run Try.prog w = .ok (.value (.bool false)) w := by
  have hh1 : w.heap[v]? = some (.cells cs T (0, 0)) := h1
  have hh2 : w.heap[g]? = some (.cells cs' T' (0, 0)) := h2
  have e1 : ¬ Try.f80.name = "runtime.NumGoroutine" := of_decide_eq_false (by kernel_rfl)
  have e2 : Try.f80.body = none := by kernel_rfl
  have e3 : (Extern.findNext Try.f80).isNone = true := by kernel_rfl
  have e4 : Extern.find Try.f80 = some (Extern.SlicesOverlaps.overlaps #[26, 26] #[4]) := by kernel_rfl
  have e5 : Extern.findNext Try.f80 = none := by
    cases h : Extern.findNext Try.f80 with
    | none => rfl
    | some x => rw [h] at e3; cases e3
  simp [callFunc, Try.func80, go_sem, e1, e2, e4, e5]
  have hf1 : w.frozen? ⟨v, 0, none⟩ = false := h1.frozen 0
  have hf2 : w.frozen? ⟨g, o, none⟩ = false := h2.frozen o
  have hf3 : ∀ k, w.frozen? ⟨v, k, none⟩ = false := fun k => h1.frozen k
  have hf4 : ∀ k, w.frozen? ⟨g, k, none⟩ = false := fun k => h2.frozen k
  have hne' : (v == g) = false := by simpa using hne
  have ov : Extern.SlicesOverlaps.overlaps #[26, 26] #[4] #[.slice (some ⟨v, 0, none⟩) n d, .slice (some ⟨g, o, none⟩) m c] = (do
      let .slice elem ← underlying 26 | stuck "slices.overlaps: slice type expected"
      let size ← sizeOf elem
      if n = 0 ∨ m = 0 ∨ size = 0 then pure (.bool false)
      else if v != g && (← frozen ⟨v, 0, none⟩) && (← frozen ⟨g, o, none⟩) then unsupported .addressObserved
      else do
        if v != g then do
          noView ⟨v, 0, none⟩; noView ⟨g, o, none⟩
          if ← mayBeOne ⟨v, 0, none⟩ ⟨g, o, none⟩ then return .bool ((← choose (.extern "sameAddr.stringBytes" 2)) == 1)
        pure (.bool (v == g && decide (0 < o + m * size) && decide (o < 0 + n * size)))) := by rfl
  rw [ov]
  obtain ⟨inf, hi, hz0, hz1, hz2⟩ := info_parts infoA
  simp [run_underlying Try.underlying26, sizeOf, typeInfo, hi, hz1, hne, noView, mayBeOne, stringish, viewAt, World.shape?, hh1, hh2, hf3, hf4]
/-- append, its run known. -/
theorem wp_app_run {ops : Array Oper} {rest : List Oper} {o : Oper} {a : Act} {w w' : World} {Q : Exit → Act → World → Prop} (hgd : o.guard = .none) (s x : Operand) (t t2 : TypeId)
    (ho : o.op = .call { callee := .builtin .append, args := #[s, x], argTypes := #[t, t2] }) (v u r : Value) (hs : a.eval s = v) (hx : a.eval x = u) (hrun : (Builtin.append_ #[t, t2] o.type #[v, u]).run Try.prog w = .ok r w')
    (h : wpList Try.prog ops Q rest (a.put o.dst r) w') : wpList Try.prog ops Q (o :: rest) a w := by
  refine wpList_plain hgd fun K hK => ?_
  unfold Oper.wp execOp
  simp only [ho, resolve, invoke, builtin, Sem.run_bind, Sem.run_pure, Result.andThen_ok, List.map_toArray, List.map_cons, List.map_nil, hs, hx, hrun]
  exact hK _ _ h
/-- A row of one's own whose first cells are known. -/
theorem own_row {α : Type} {E : El α} {w : World} {base g n cap : Nat} {L : List α} {cur : Array Value} (h : Ce w g E.e cur) (hb : base ≤ g) (hn : n = L.length) (hc : n ≤ cap) (hm : cap ≤ maxLen) (hs : cur.size = cap * E.k) (ht : cur.toList.take (n * E.k) = E.fl L) :
    OwnX E w base (.slice (some ⟨g, 0, none⟩) n cap) L := by
  subst hn
  exact ⟨El.fl_length L, .inr ⟨g, cap, cur, rfl, hb, h, hc, hm, hs, ht⟩⟩
theorem own_cur {α : Type} {E : El α} {w : World} {base g n cap : Nat} {L : List α} (h : OwnX E w base (.slice (some ⟨g, 0, none⟩) n cap) L) :
    ∃ cur, Ce w g E.e cur ∧ base ≤ g ∧ n = L.length ∧ n ≤ cap ∧ cap ≤ maxLen ∧ cur.size = cap * E.k ∧ cur.toList.take (n * E.k) = E.fl L := by
  have hn := h.rd.len
  subst hn
  rcases h.2 with ⟨e, _⟩ | ⟨g', cap', cur, e, hb, hg, h1, h2, h3, h4⟩
  · cases e
  · cases e
    exact ⟨cur, hg, hb, rfl, h1, h2, h3, h4⟩
theorem setRow_ce {w : World} {g : Nat} {T : TypeId} {cur cur' : Array Value} (h : Ce w g T cur) : Ce (w.setRow g cur') g T cur' := setRow_heap w g cur cur' T _ h
theorem setRow_tr {w : World} {g : Nat} {cur' : Array Value} : Tr (· = g) w (w.setRow g cur') := by
  refine ⟨rfl, rfl, rfl, ?_, fun k _ hk => setRow_other w g k _ hk⟩
  simp [World.setRow]
theorem Tr.of_grown {w w' : World} {row : Option Nat} (h : w.grownBy w' row) : Tr (fun b => row = some b) w w' := ⟨h.os, h.tape, h.output, h.size, fun k hk hs => h.block k hk (fun e => hs e.symm)⟩
/-- s[i:], s[:i], s[i+1:] of a row that has an element at i. -/
theorem slice_fromK {α : Type} (E : El α) {g n cap i : Nat} (hi : i < cap) (hin : i ≤ n) (w : World) : (Instr.slice E.t (.slice (some ⟨g, 0, none⟩) n cap) (some (it (i : Int))) none none).run Try.prog w = .ok (.slice (some ⟨g, i * E.k, none⟩) (n - i) (cap - i)) w := by
  obtain ⟨j, hj, hz0, hz1, hz2⟩ := info_parts E.hinf
  have h5 : ¬ cap = i := by omega
  simp [Instr.slice, Instr.sliceBounds, Instr.sliceBound, run_underlying E.ht, sizeOf, typeInfo, hj, asIntOf, hin, h5, hz1, add_any]
theorem slice_tillK {α : Type} (E : El α) {g n cap i : Nat} (hi : i ≤ cap) (w : World) : (Instr.slice E.t (.slice (some ⟨g, 0, none⟩) n cap) none (some (it (i : Int))) none).run Try.prog w = .ok (.slice (some ⟨g, 0, none⟩) i cap) w := by
  obtain ⟨j, hj, hz0, hz1, hz2⟩ := info_parts E.hinf
  by_cases h : cap = 0
  · obtain rfl : i = 0 := by omega
    simp [Instr.slice, Instr.sliceBounds, Instr.sliceBound, run_underlying E.ht, sizeOf, typeInfo, hj, asIntOf, h]
  · simp [Instr.slice, Instr.sliceBounds, Instr.sliceBound, run_underlying E.ht, sizeOf, typeInfo, hj, asIntOf, hi, add_any]
theorem slice_endK {α : Type} (E : El α) (a : Option Addr) (n cap : Nat) (w : World) : ∃ a', (Instr.slice E.t (.slice a n cap) (some (it (n : Int))) none none).run Try.prog w = .ok (.slice a' 0 (cap - n)) w := by
  obtain ⟨j, hj, hz0, hz1, hz2⟩ := info_parts E.hinf
  by_cases h5 : cap = n
  · refine ⟨a, ?_⟩
    simp [Instr.slice, Instr.sliceBounds, Instr.sliceBound, run_underlying E.ht, sizeOf, typeInfo, hj, asIntOf, h5]
  · refine ⟨a.map (·.add (n * E.k)), ?_⟩
    simp [Instr.slice, Instr.sliceBounds, Instr.sliceBound, run_underlying E.ht, sizeOf, typeInfo, hj, asIntOf, h5, hz1]
end Go.Proofs.Ytjoplnkagfkffaa
