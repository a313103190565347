/-
  A range over a function where the iterator keeps memory of its own and the loop's body keeps its own: each side has its blocks. What an iterator gives (its contract), and the law of the loop.
-/
import Derived.Test.YtomghpielgkigaaDoorKit2
namespace Go.Proofs.YtomghpielgkigaaDoor
open Go.RowKit Go.Shelf
attribute [local go_sem] Oper.semAt_some
/-- What the owner of the blocks A may do: turn these, and make new ones; new ones may be his. -/
structure Move (A : Nat → Prop) (w : World) (A' : Nat → Prop) (w' : World) : Prop where
  tr : Tr A w w'
  own : ∀ k, A' k → A k ∨ w.heap.size ≤ k
theorem Move.refl (A : Nat → Prop) (w : World) : Move A w A w := ⟨Tr.refl _ _, fun _ h => .inl h⟩
theorem Move.trans {A A' A'' : Nat → Prop} {a b c : World} (h : Move A a A' b) (k : Move A' b A'' c) : Move A a A'' c :=
  ⟨h.tr.trans k.tr h.own, fun i hi => by rcases k.own i hi with h1 | h1; exact h.own i h1; exact .inr (Nat.le_trans h.tr.size h1)⟩
/-- What stands stays where others' blocks turn that were made since there were m. -/
def Fr {β : Type} (m : Nat) (J : β → (Nat → Prop) → World → Prop) : Prop := ∀ s A W C, J s A W → Tr (fun k => ¬ A k ∧ m ≤ k) W C → J s A C
/-- One's blocks are there. -/
def Lo {β : Type} (J : β → (Nat → Prop) → World → Prop) : Prop := ∀ s A W, J s A W → ∀ k, A k → k < W.heap.size
/-- What an iterator gives: these elements, one by one, until it is told to stop; made in w0, it leans on the blocks that are not of Z. -/
def Gives {α : Type} (n : Nat) (P : Program) (g : Nat) (cb : Array Value) (enc : α → Value) (xs : List α) (Z : Nat → Prop) (w0 : World) : Prop :=
  ∀ (l : Nat) (J Jx : List α → (Nat → Prop) → World → Prop) (A : Nat → Prop) (W : World),
    w0.heap.size ≤ W.heap.size → (∀ k, k < w0.heap.size → ¬ Z k → ¬ A k ∧ W.heap[k]? = w0.heap[k]?) → Fr W.heap.size J → Fr W.heap.size Jx → Lo J → Lo Jx →
    (∀ pre x A W1, pre ++ [x] <+: xs → J pre A W1 → YieldAt Fence.wide (n - 1) P l #[enc x] W1 fun e W' =>
      (e = .returned (.bool true) ∧ ∃ A', J (pre ++ [x]) A' W' ∧ Move A W1 A' W') ∨ (e = .returned (.bool false) ∧ ∃ A', Jx (pre ++ [x]) A' W' ∧ Move A W1 A' W')) →
    J [] A W →
    CallsIn Fence.wide n P g (#[.func (.yield l) #[] #[]] ++ cb) W fun e W' => (∃ v, e = .returned v) ∧ ((∃ A', J xs A' W') ∨ ∃ pre A', pre <+: xs ∧ Jx pre A' W')
/-- How a round may end. -/
def EndsF {α : Type} (A : Nat → Prop) (I : List α → (Nat → Prop) → World → Prop) (X : Code → List α → (Nat → Prop) → World → Prop) (xs : List α) (W : World) : Exit → Act → World → Prop
  | .normal, _, V => ∃ A', I xs A' V ∧ Move A W A' V
  | .ret, _, V => ∃ A', X .ret xs A' V ∧ Move A W A' V
  | .exit i, _, V => ∃ A', X (.exit i) xs A' V ∧ Move A W A' V
  | .goto t, _, V => ∃ A', X (.goto t) xs A' V ∧ Move A W A' V
  | .panic _, _, _ => False
  | .outgrown, _, _ => False
/-- The two blocks that the loop keeps its books in. -/
structure Books (D : Nat) (r : Loop) (W : World) : Prop where
  loop : W.heap[D + 1]? = some (.loop r)
  late : W.heap[D]? = some (.deferred (some []))
theorem Books.lt {D : Nat} {r : Loop} {W : World} (h : Books D r W) : D + 1 < W.heap.size := (Array.getElem?_eq_some_iff.1 h.loop).1
theorem Books.tr {D : Nat} {r : Loop} {S : Nat → Prop} {A C : World} (h : Books D r A) (ht : Tr S A C) (h0 : ¬ S D) (h1 : ¬ S (D + 1)) : Books D r C :=
  ⟨(ht.block _ h.lt h1).trans h.loop, (ht.block _ (by have := h.lt; omega) h0).trans h.late⟩
theorem Books.put {D : Nat} {r : Loop} {A : World} (r' : Loop) (h : Books D r A) : Books D r' (A.putObj (D + 1) (.loop r')) :=
  ⟨World.putObj_heap_same h.lt, (World.putObj_heap_other (by omega)).trans h.late⟩
theorem put_tr (W : World) (l : Nat) (o : Obj) : Tr (· = l) W (W.putObj l o) := by
  have h := grownBy_putObj' W l o
  exact ⟨h.os, h.tape, h.output, h.size, fun k hk hs => h.block k hk (fun e => hs (Option.some.inj e))⟩
theorem put_size (W : World) (l : Nat) (o : Obj) : (W.putObj l o).heap.size = W.heap.size := by simp
set_option maxHeartbeats 1000000 in
theorem range_gives {α : Type} {n : Nat} {P : Program} {g : Operand} {ps : Array Tmp} {assign body : Code} {Q : Exit → Act → World → Prop} {a : Act} {w : World} (hn : 2 ≤ n)
    {gf : Nat} {cb : Array Value} {enc : α → Value} (hg : a.eval g = .func (.func gf) #[] cb) (eg : ∀ args w, (callFunc gf args).run P w = .ok (.enter gf args) w) (hps : ps.size = 1)
    {xs : List α} {Z : Nat → Prop} {w0 : World} (hG : Gives (n - 1) P gf cb enc xs Z w0)
    (I : List α → (Nat → Prop) → World → Prop) (X : Code → List α → (Nat → Prop) → World → Prop) (hI : Fr w.heap.size I) (hX : ∀ c, Fr w.heap.size (X c)) (hIl : Lo I) (hXl : ∀ c, Lo (X c))
    (A0 : Nat → Prop) (h0 : I [] A0 w) (hw : w0.heap.size ≤ w.heap.size) (hK : ∀ k, k < w0.heap.size → ¬ Z k → ¬ A0 k ∧ w.heap[k]? = w0.heap[k]?)
    (Ax : α → Act → Nat → World → Prop) (hAx : ∀ x a' m W C, Ax x a' m W → Tr (fun k => k < m) W C → Ax x a' m C)
    (hassign : ∀ (l : Nat) (x : α) (W : World) (K' : Act → World → Prop), (∀ a' W', Below W.heap.size W W' → Ax x a' W.heap.size W' → K' a' W') →
      assign.wpIn (Fence.wide.inRound l) (n - 1 - 1) P (Exit.then K' (fun _ _ _ => False)) { tmps := (ps.zip #[enc x]).foldl (fun t (p, v) => t.setIfInBounds p v) a.tmps, defers := [] } W)
    (hbody : ∀ (l : Nat) (pre : List α) (x : α) (A : Nat → Prop) (m : Nat) (a' : Act) (W : World), pre ++ [x] <+: xs → I pre A W → (∀ k, A k → k < m) → m ≤ W.heap.size → Ax x a' m W →
      body.wpIn (Fence.wide.inRound l) (n - 1 - 1) P (EndsF A I X (pre ++ [x]) W) a' W)
    (hdone : ∀ (D : Nat) (A : Nat → Prop) (W : World), I xs A W → ¬ A D → W.heap[D]? = some (.deferred (some [])) → w.heap.size ≤ D → Q .normal { a with defers := { target := .collected D, args := #[] } :: a.defers } W)
    (hstop : ∀ (D : Nat) (c : Code) (pre : List α) (A : Nat → Prop) (W : World), pre <+: xs → X c pre A W → ¬ A D → W.heap[D]? = some (.deferred (some [])) → w.heap.size ≤ D → c.wpIn Fence.wide n P Q { a with defers := { target := .collected D, args := #[] } :: a.defers } W) :
    (Code.rangeFunc g ps assign body).wpIn Fence.wide n P Q a w := by
  obtain ⟨D, hD⟩ : ∃ D, D = w.heap.size := ⟨_, rfl⟩
  refine wpIn_rangeFunc fun fn _ => ?_
  let rc (st : LoopState) (pe : Option Code) : Loop := { state := st, pending := pe, fn := fn, tmps := a.tmps, params := ps, assign := assign, body := body, defers := D }
  have hen := run_enterLoop_outer (P := P) (w := w) fn a.tmps ps assign body
  rw [← hD] at hen
  have hs1 : (w.alloc (.deferred (some []))).heap.size = D + 1 := by rw [World.size_alloc, hD]
  have hb1 : Books D (rc .ready none) ((w.alloc (.deferred (some []))).alloc (.loop (rc .ready none))) := by
    refine ⟨?_, ?_⟩
    · rw [← hs1]; exact World.alloc_heap_new _ _
    · refine (Below.heap_alloc _ _ _ (by omega)).trans ?_
      rw [hD]; exact World.alloc_heap_new _ _
  have hbl : Below w.heap.size w ((w.alloc (.deferred (some []))).alloc (.loop (rc .ready none))) := ((Below.refl _ _).alloc (Nat.le_refl _) _).alloc (by rw [hs1, hD]; omega) _
  obtain ⟨W1, hW1⟩ : ∃ W1, W1 = (w.alloc (.deferred (some []))).alloc (.loop (rc .ready none)) := ⟨_, rfl⟩
  rw [← hW1] at hb1 hbl
  replace hen := hen.trans (show _ = Result.ok (D + 1, [{ target := .collected D, args := #[] }]) W1 by rw [hW1])
  clear hW1
  have hA0 : ∀ k, A0 k → k < D := fun k hk => by rw [hD]; exact hIl _ _ _ h0 k hk
  refine ⟨D + 1, [{ target := .collected D, args := #[] }], W1, { target := .fn (.func gf) cb, args := #[.func (.yield (D + 1)) #[] #[]] }, W1, gf, #[.func (.yield (D + 1)) #[] #[]] ++ cb, W1, hen, ?_, fun _ _ => trivial, ?_, fun _ => by omega, ?_⟩
  · simp only [resolve, hg]
    simp [go_sem]
  · simp [invoke, go_sem, eg]
  refine (hG (D + 1)
    (fun pre B W => ∃ A, (∀ k, B k ↔ A k ∨ k = D ∨ k = D + 1) ∧ I pre A W ∧ ¬ A D ∧ ¬ A (D + 1) ∧ Books D (rc .ready none) W)
    (fun pre B W => ∃ A c, (∀ k, B k ↔ A k ∨ k = D ∨ k = D + 1) ∧ X c pre A W ∧ ¬ A D ∧ ¬ A (D + 1) ∧ Books D (rc .done (some c)) W)
    (fun k => A0 k ∨ k = D ∨ k = D + 1) W1 (Nat.le_trans hw hbl.size) ?_ ?_ ?_ ?_ ?_ ?_ ⟨A0, fun _ => Iff.rfl, hI _ _ _ _ h0 (Tr.of_below hbl), fun h => by have := hA0 _ h; omega, fun h => by have := hA0 _ h; omega, hb1⟩).mono ?_
  · intro k hk hz
    obtain ⟨h1, h2⟩ := hK k hk hz
    refine ⟨fun h => ?_, (hbl.block k (by omega)).trans h2⟩
    rcases h with h | h | h
    · exact h1 h
    · omega
    · omega
  · rintro pre B W C ⟨A, h1, h2, h3, h4, h5⟩ ht
    exact ⟨A, h1, hI _ _ _ _ h2 (ht.mono fun k hk => ⟨fun hA => hk.1 ((h1 k).2 (.inl hA)), Nat.le_trans hbl.size hk.2⟩), h3, h4, h5.tr ht (fun h => h.1 ((h1 _).2 (.inr (.inl rfl)))) (fun h => h.1 ((h1 _).2 (.inr (.inr rfl))))⟩
  · rintro pre B W C ⟨A, c, h1, h2, h3, h4, h5⟩ ht
    exact ⟨A, c, h1, hX c _ _ _ _ h2 (ht.mono fun k hk => ⟨fun hA => hk.1 ((h1 k).2 (.inl hA)), Nat.le_trans hbl.size hk.2⟩), h3, h4, h5.tr ht (fun h => h.1 ((h1 _).2 (.inr (.inl rfl)))) (fun h => h.1 ((h1 _).2 (.inr (.inr rfl))))⟩
  · rintro pre B W ⟨A, h1, h2, h3, h4, h5⟩ k hk
    have := h5.lt
    rcases (h1 k).1 hk with h | h | h
    · exact hIl _ _ _ h2 k h
    · omega
    · omega
  · rintro pre B W ⟨A, c, h1, h2, h3, h4, h5⟩ k hk
    have := h5.lt
    rcases (h1 k).1 hk with h | h | h
    · exact hXl c _ _ _ h2 k h
    · omega
    · omega
  · rintro pre x B W hpre ⟨A, h1, h2, h3, h4, h5⟩
    have hy := run_yield (P := P) (args := #[enc x]) h5.loop (by show 1 = ps.size; rw [hps])
    have hAl := hIl _ _ _ h2
    refine ⟨_, _, _, _, hy, roundIn_of_wpIn trivial (hassign _ x W _ fun a' Wa hba hax => ?_)⟩
    have hka : Books D (rc .ready none) Wa := h5.tr (Tr.of_below (S := fun _ => False) hba) (fun h => h) (fun h => h)
    refine ⟨_, run_beginRound hka.loop rfl, ?_⟩
    obtain ⟨Wb, hWb⟩ : ∃ Wb, Wb = Wa.putObj (D + 1) (.loop { rc .ready none with state := .busy }) := ⟨_, rfl⟩
    have hkb : Books D { rc .ready none with state := .busy } Wb := by rw [hWb]; exact hka.put _
    have htb : Tr (· = D + 1) Wa Wb := by rw [hWb]; exact put_tr _ _ _
    have hsb : Wb.heap.size = Wa.heap.size := by rw [hWb]; exact put_size _ _ _
    have hlt := h5.lt
    have hIb : I pre A Wb := hI _ _ _ _ (hI _ _ _ _ h2 (Tr.of_below hba)) (htb.mono fun k hk => ⟨fun hA => h4 (hk ▸ hA), by omega⟩)
    have haxb : Ax x a' W.heap.size Wb := hAx _ _ _ _ _ hax (htb.mono fun k hk => by rw [hk]; exact hlt)
    have hbb := hbody (D + 1) pre x A W.heap.size a' Wb hpre hIb hAl (by rw [hsb]; exact hba.size) haxb
    refine wpIn_mono (by rw [← hWb]; exact hbb) fun e a3 V hp => ?_
    have mv : ∀ (A' : Nat → Prop) (r' : Loop), Move A Wb A' V → Move B W (fun k => A' k ∨ k = D ∨ k = D + 1) (V.putObj (D + 1) (.loop r')) ∧ ¬ A' D ∧ ¬ A' (D + 1) ∧ Books D { rc .ready none with state := .busy } V := by
      intro A' r' hm
      have hbs := hba.size
      have n1 : ¬ A' D := fun h => by rcases hm.own _ h with h | h; exact h3 h; omega
      have n2 : ¬ A' (D + 1) := fun h => by rcases hm.own _ h with h | h; exact h4 h; omega
      refine ⟨⟨?_, ?_⟩, n1, n2, hkb.tr hm.tr h3 h4⟩
      · have t1 : Tr B W Wa := Tr.of_below hba
        have t2 : Tr B W Wb := t1.trans htb fun i hi => .inl ((h1 i).2 (.inr (.inr hi)))
        have t3 : Tr B W V := t2.trans hm.tr fun i hi => .inl ((h1 i).2 (.inl hi))
        exact t3.trans (put_tr _ _ _) fun i hi => .inl ((h1 i).2 (.inr (.inr hi)))
      · intro k hk
        rcases hk with hk | hk | hk
        · rcases hm.own k hk with h | h
          · exact .inl ((h1 k).2 (.inl h))
          · exact .inr (by omega)
        · exact .inl ((h1 k).2 (.inr (.inl hk)))
        · exact .inl ((h1 k).2 (.inr (.inr hk)))
    cases e with
    | normal =>
      obtain ⟨A', hI', hm⟩ := hp
      obtain ⟨hmv, n1, n2, hk3⟩ := mv A' (rc .ready none) hm
      exact ⟨_, _, run_endRound none hk3.loop, .inl ⟨rfl, _, ⟨A', fun _ => Iff.rfl, hI _ _ _ _ hI' ((put_tr _ _ _).mono fun k hk => ⟨fun hA => n2 (hk ▸ hA), by omega⟩), n1, n2, hk3.put _⟩, hmv⟩⟩
    | ret =>
      obtain ⟨A', hI', hm⟩ := hp
      obtain ⟨hmv, n1, n2, hk3⟩ := mv A' (rc .done (some .ret)) hm
      exact ⟨_, _, run_endRound (some .ret) hk3.loop, .inr ⟨rfl, _, ⟨A', .ret, fun _ => Iff.rfl, hX _ _ _ _ _ hI' ((put_tr _ _ _).mono fun k hk => ⟨fun hA => n2 (hk ▸ hA), by omega⟩), n1, n2, hk3.put _⟩, hmv⟩⟩
    | exit i =>
      obtain ⟨A', hI', hm⟩ := hp
      obtain ⟨hmv, n1, n2, hk3⟩ := mv A' (rc .done (some (.exit i))) hm
      exact ⟨_, _, run_endRound (some (.exit i)) hk3.loop, .inr ⟨rfl, _, ⟨A', .exit i, fun _ => Iff.rfl, hX _ _ _ _ _ hI' ((put_tr _ _ _).mono fun k hk => ⟨fun hA => n2 (hk ▸ hA), by omega⟩), n1, n2, hk3.put _⟩, hmv⟩⟩
    | goto t =>
      obtain ⟨A', hI', hm⟩ := hp
      obtain ⟨hmv, n1, n2, hk3⟩ := mv A' (rc .done (some (.goto t))) hm
      exact ⟨_, _, run_endRound (some (.goto t)) hk3.loop, .inr ⟨rfl, _, ⟨A', .goto t, fun _ => Iff.rfl, hX _ _ _ _ _ hI' ((put_tr _ _ _).mono fun k hk => ⟨fun hA => n2 (hk ▸ hA), by omega⟩), n1, n2, hk3.put _⟩, hmv⟩⟩
    | panic c => exact hp.elim
    | outgrown => exact hp.elim
  · rintro e V ⟨⟨v, rfl⟩, ⟨B, A, h1, h2, h3, h4, h5⟩ | ⟨pre, B, hpre, A, c, h1, h2, h3, h4, h5⟩⟩
    · exact ⟨none, _, run_endLoop h5.loop (by simp [rc]), hdone D A _ (hI _ _ _ _ h2 ((put_tr _ _ _).mono fun k hk => ⟨fun hA => h4 (hk ▸ hA), by omega⟩)) h3 (h5.put (r' := _)).late (by omega)⟩
    · exact ⟨some c, _, run_endLoop h5.loop (by simp [rc]), hstop D c pre A _ hpre (hX c _ _ _ _ h2 ((put_tr _ _ _).mono fun k hk => ⟨fun hA => h4 (hk ▸ hA), by omega⟩)) h3 (h5.put (r' := _)).late (by omega)⟩
end Go.Proofs.YtomghpielgkigaaDoor
