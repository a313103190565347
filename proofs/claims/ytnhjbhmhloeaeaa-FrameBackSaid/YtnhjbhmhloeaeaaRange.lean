/-
  A loop over a reader's texts: what the loop leaves, where its body is known.
-/
import Derived.Test.YtnhjbhmhloeaeaaEach
namespace Go.Proofs.Ytnhjbhmhloeaeaa
open Go.RowKit Go.Shelf
attribute [local go_sem] Oper.semAt_some
/-- Blocks of cells stay where a block that is none turns. -/
theorem cells_kept {A C : World} {row : Option Nat} (hg : A.grownBy C row) (hr : ∀ r, row = some r → ∃ o : Obj, A.heap[r]? = some o ∧ o.isCells = false) {k : Nat} {cs : Array Value} {T : TypeId} {f : Nat × Nat} (hk : A.heap[k]? = some (.cells cs T f)) : C.heap[k]? = some (.cells cs T f) := by
  refine (hg.block k (Array.getElem?_eq_some_iff.1 hk).1 fun e => ?_).trans hk
  obtain ⟨o, ho, hc⟩ := hr k e.symm
  rw [hk] at ho; cases ho; cases hc
theorem Rd.kept {S : Nat → Prop} {b : Nat} {R : Bs} {A C : World} {row : Option Nat} (h : Rd S b R A) (hg : A.grownBy C row) (hr : ∀ r, row = some r → ∃ o : Obj, A.heap[r]? = some o ∧ o.isCells = false) : Rd S b R C := by
  obtain ⟨v, t, hp⟩ := h
  refine ⟨v, t, cells_kept hg hr hp.blk, ?_, hp.rowS, hp.own, hp.le⟩
  rcases hp.row with h | ⟨g, k, cap, cur, e, hgg, r⟩
  · exact .inl h
  · exact .inr ⟨g, k, cap, cur, e, cells_kept hg hr hgg, r⟩
theorem mid_own {S : Nat → Prop} {b B n : Nat} {I : Bs → World → Prop} (hI : OwnFrom n I) : OwnFrom n (fun R W => Mid S b B I R W) := fun R A C row h hg hr =>
  ⟨h.1, h.2.1.kept hg (fun r e => (hr r e).2), cells_kept hg (fun r e => (hr r e).2) h.2.2.1, hI R A C row h.2.2.2 hg hr⟩
/-- How a round may end. -/
def EndsIn (D : Nat) (M : World → Prop) (X : Code → World → Prop) (W : World) : Exit → Act → World → Prop
  | .normal, _, V => KeepsFrom D W V ∧ M V
  | .ret, _, V => KeepsFrom D W V ∧ X .ret V
  | .exit i, _, V => KeepsFrom D W V ∧ X (.exit i) V
  | .goto t, _, V => KeepsFrom D W V ∧ X (.goto t) V
  | .panic _, _, _ => False
  | .outgrown, _, _ => False
/-- The two blocks that the loop keeps its books in. -/
structure Books (D : Nat) (r : Loop) (W : World) : Prop where
  loop : W.heap[D + 1]? = some (.loop r)
  late : W.heap[D]? = some (.deferred (some []))
theorem Books.lt {D : Nat} {r : Loop} {W : World} (h : Books D r W) : D + 1 < W.heap.size := (Array.getElem?_eq_some_iff.1 h.loop).1
theorem Books.tr {D b : Nat} {r : Loop} {A C : World} (h : Books D r A) (ht : Tr (· = b) A C) (hb : b < D) : Books D r C :=
  ⟨(ht.block _ h.lt (by omega)).trans h.loop, (ht.block _ (by have := h.lt; omega) (by omega)).trans h.late⟩
theorem Books.keeps {D : Nat} {r : Loop} {A C : World} (h : Books D r A) (hk : KeepsFrom D A C) : Books D r C :=
  ⟨hk.same _ _ (by omega) h.loop rfl, hk.same _ _ (Nat.le_refl _) h.late rfl⟩
theorem Books.put {D : Nat} {r r' : Loop} {A : World} (h : Books D r A) : Books D r' (A.putObj (D + 1) (.loop r')) :=
  ⟨World.putObj_heap_same h.lt, (World.putObj_heap_other (by omega)).trans h.late⟩
theorem own_put {β : Type} {D : Nat} {I : β → World → Prop} (hI : OwnFrom D I) {s : β} {r : Loop} (r' : Loop) {A : World} (h : Books D r A) (hs : I s A) : I s (A.putObj (D + 1) (.loop r')) :=
  hI.putObj _ hs (by omega) h.loop rfl
set_option maxHeartbeats 1000000 in
theorem range_each {n b B : Nat} {S : Nat → Prop} {g : Operand} {ps : Array Tmp} {assign body : Code} {Q : Exit → Act → World → Prop} {a : Act} {w : World}
    (hn : 2 ≤ n) (hg : a.eval g = .func (.func 19) #[] #[ptr B]) (hps : ps.size = 1) (I : Bs → World → Prop) (X : Code → World → Prop)
    (hIt : ∀ R A C, I R A → Rd S b R A → Tr (· = b) A C → I R C) (hI : OwnFrom w.heap.size I) (hX : ∀ c, OwnFrom w.heap.size (fun (_ : Unit) => X c))
    (R0 : Bs) (h0 : Mid S b B I R0 w) (a₁ : Bs → Act)
    (hassign : ∀ (l : Nat) (x : Bs) (W : World) (K : Act → World → Prop), K (a₁ x) W →
      assign.wpIn (Fence.wide.inRound l) (n - 1 - 1) Try.prog (Exit.then K (fun _ _ _ => False)) { tmps := (ps.zip #[str x]).foldl (fun t (p, v) => t.setIfInBounds p v) a.tmps, defers := [] } W)
    (hbody : ∀ (l : Nat) (R : Bs) (W : World), fl R ≠ 0 → R.length ≤ 1000000000 → Rd S b (tl R) W → Boxed W B 32 (ptr b) → I R W → body.wpIn (Fence.wide.inRound l) (n - 1 - 1) Try.prog (EndsIn w.heap.size (Mid S b B I (tl R)) X W) (a₁ (hd R)) W)
    (hdone : ∀ (D : Nat) (R : Bs) (W : World), w.heap.size ≤ D → fl R = 0 → Mid S b B I R W → W.heap[D]? = some (.deferred (some [])) → Q .normal { a with defers := { target := .collected D, args := #[] } :: a.defers } W)
    (hstop : ∀ (D : Nat) (c : Code) (W : World), w.heap.size ≤ D → X c W → W.heap[D]? = some (.deferred (some [])) → c.wpIn Fence.wide n Try.prog Q { a with defers := { target := .collected D, args := #[] } :: a.defers } W) :
    (Code.rangeFunc g ps assign body).wpIn Fence.wide n Try.prog Q a w := by
  have hM := mid_own (S := S) (b := b) (B := B) hI
  obtain ⟨D, hD⟩ : ∃ D, D = w.heap.size := ⟨_, rfl⟩
  rw [← hD] at hI hX hM hbody hdone hstop
  have hbD : b < D := by rw [hD]; exact h0.2.1.lt
  refine wpIn_rangeFunc fun fn _ => ?_
  let rc (st : LoopState) (pe : Option Code) : Loop := { state := st, pending := pe, fn := fn, tmps := a.tmps, params := ps, assign := assign, body := body, defers := D }
  have hen := run_enterLoop_outer (P := Try.prog) (w := w) fn a.tmps ps assign body
  rw [← hD] at hen
  have hs1 : (w.alloc (.deferred (some []))).heap.size = D + 1 := by rw [World.size_alloc, hD]
  have hb1 : Books D (rc .ready none) ((w.alloc (.deferred (some []))).alloc (.loop (rc .ready none))) := by
    refine ⟨?_, ?_⟩
    · rw [← hs1]; exact World.alloc_heap_new _ _
    · refine (Below.heap_alloc _ _ _ (by omega)).trans ?_
      rw [hD]; exact World.alloc_heap_new _ _
  have h1 : Mid S b B I R0 ((w.alloc (.deferred (some []))).alloc (.loop (rc .ready none))) := hM.alloc _ (hM.alloc _ h0)
  obtain ⟨W1, hW1⟩ : ∃ W1, W1 = (w.alloc (.deferred (some []))).alloc (.loop (rc .ready none)) := ⟨_, rfl⟩
  rw [← hW1] at h1 hb1
  replace hen := hen.trans (show _ = Result.ok (D + 1, [{ target := .collected D, args := #[] }]) W1 by rw [hW1])
  clear hW1
  refine ⟨D + 1, [{ target := .collected D, args := #[] }], W1, { target := .fn (.func 19) #[ptr B], args := #[.func (.yield (D + 1)) #[] #[]] }, W1, 19, #[.func (.yield (D + 1)) #[] #[], ptr B], W1, hen, ?_, fun _ _ => trivial, ?_, fun _ => by omega, ?_⟩
  · simp only [resolve, hg]
    simp [go_sem]
  · simp [invoke, go_sem]
  refine (each1_in (n - 1) (by omega) (D + 1) B b S (fun R W => I R W ∧ Books D (rc .ready none) W) (fun W => ∃ c, X c W ∧ Books D (rc .done (some c)) W)
    (fun R A C h hr ht => ⟨hIt R A C h.1 hr ht, h.2.tr ht hbD⟩) ?_ R0 _ ⟨h1.1, h1.2.1, h1.2.2.1, h1.2.2.2, hb1⟩).mono ?_
  · intro R W hf hl hr hbx ⟨hi, hk⟩
    have hy := run_yield (P := Try.prog) (args := #[str (hd R)]) hk.loop (by show 1 = ps.size; rw [hps])
    refine ⟨_, _, _, _, hy, roundIn_of_wpIn trivial (hassign _ _ W _ ⟨_, run_beginRound hk.loop rfl, ?_⟩)⟩
    have hbusy := hk.put (r' := { rc .ready none with state := .busy })
    have hg2 := grownBy_putObj' W (D + 1) (.loop { rc .ready none with state := .busy })
    have hcl : ∀ r, some (D + 1) = some r → ∃ o : Obj, W.heap[r]? = some o ∧ o.isCells = false := fun r e => by cases e; exact ⟨_, hk.loop, rfl⟩
    refine wpIn_mono (hbody _ R _ hf hl (hr.kept hg2 hcl) (cells_kept hg2 hcl hbx) (own_put hI _ hk hi)) fun e a3 V hp => ?_
    have fin : ∀ jump, KeepsFrom D (W.putObj (D + 1) (.loop { rc .ready none with state := .busy })) V → Books D { rc .ready none with state := .busy } V ∧
        (Instr.endRound (D + 1) jump).run Try.prog V = .ok (.bool jump.isNone) (V.putObj (D + 1) (.loop (rc (if jump.isNone then .ready else .done) jump))) := fun jump h => by
      have hk3 := hbusy.keeps h
      exact ⟨hk3, run_endRound jump hk3.loop⟩
    cases e with
    | normal =>
      obtain ⟨hk3, hr3⟩ := fin none hp.1
      have := own_put hM (rc .ready none) hk3 hp.2
      exact ⟨_, _, hr3, .inl ⟨rfl, this.1, this.2.1, this.2.2.1, this.2.2.2, hk3.put⟩⟩
    | ret => obtain ⟨hk3, hr3⟩ := fin (some .ret) hp.1; exact ⟨_, _, hr3, .inr ⟨rfl, _, own_put (s := ()) (hX _) _ hk3 hp.2, hk3.put⟩⟩
    | exit i => obtain ⟨hk3, hr3⟩ := fin (some (.exit i)) hp.1; exact ⟨_, _, hr3, .inr ⟨rfl, _, own_put (s := ()) (hX _) _ hk3 hp.2, hk3.put⟩⟩
    | goto t => obtain ⟨hk3, hr3⟩ := fin (some (.goto t)) hp.1; exact ⟨_, _, hr3, .inr ⟨rfl, _, own_put (s := ()) (hX _) _ hk3 hp.2, hk3.put⟩⟩
    | panic c => exact hp.elim
    | outgrown => exact hp.elim
  · rintro e V ⟨⟨v, rfl⟩, ⟨R, hf, hl, hr, hbx, hi, hk⟩ | ⟨c, hx, hk⟩⟩
    · exact ⟨none, _, run_endLoop hk.loop (by simp [rc]), hdone D R _ (Nat.le_refl _) hf (own_put hM _ hk ⟨hl, hr, hbx, hi⟩) (hk.put (r' := _)).late⟩
    · exact ⟨some c, _, run_endLoop hk.loop (by simp [rc]), hstop D c _ (Nat.le_refl _) (own_put (s := ()) (hX c) _ hk hx) (hk.put (r' := _)).late⟩
end Go.Proofs.Ytnhjbhmhloeaeaa
