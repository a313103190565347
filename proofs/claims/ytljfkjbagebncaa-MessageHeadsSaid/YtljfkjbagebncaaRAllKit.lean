/-
  Mathematics and frames of the document's way to write a message.
-/
import Derived.Test.YtljfkjbagebncaaMKit
import Derived.Test.YtljfkjbagebncaaG36
import Derived.Test.YtljfkjbagebncaaG29
import Derived.Laws.AppendOwnNone
namespace Go.Proofs.Ytljfkjbagebncaa
open Go.RowKit
theorem RP.call {S : Nat → Prop} {w0 w : World} {b : Nat} {K : List (Nat × Obj)} {B : Bs} {L : Kn} (h : RP S w0 b K B L w) {fn : Nat} {args : Array Value} {Q : Ending → Prop} {B' : Bs} {L' : Kn}
    (hc : ∀ S', RK S' b B L w → (∀ k, S' k → k < w.heap.size) → Calls Try.prog fn args w fun e w' => Q e ∧ RLft S' b B' L' w w') : Calls Try.prog fn args w fun e w' => Q e ∧ RP S w0 b K B' L' w' := by
  obtain ⟨S', h1, h2, h3⟩ := h.step
  exact (hc S' h1 h2).mono fun e w' ⟨k1, k2⟩ => ⟨k1, (h3 _ _ _ k2).1⟩
theorem RP.box {S : Nat → Prop} {w0 w : World} {b : Nat} {K : List (Nat × Obj)} {B : Bs} {L : Kn} (h : RP S w0 b K B L w) (o : Obj) : RP S w0 b ((w.heap.size, o) :: K) B L (w.alloc o) := h.more (one_box w o) (Nat.le_refl _) (World.alloc_heap_new w o)
theorem RP.sub {S : Nat → Prop} {w0 w : World} {b : Nat} {K K' : List (Nat × Obj)} {B : Bs} {L : Kn} (h : RP S w0 b K B L w) (hK : ∀ p ∈ K', p ∈ K) : RP S w0 b K' B L w := by
  obtain ⟨S', h1, h3, h4⟩ := h
  exact ⟨S', h1, h3, fun p hp => h4 p (hK p hp)⟩
theorem RP.tr {S : Nat → Prop} {w0 w : World} {b : Nat} {K : List (Nat × Obj)} {B : Bs} {L : Kn} (h : RP S w0 b K B L w) : Tr S w0 w := let ⟨_, _, h3, _⟩ := h; h3
theorem RP.below {w0 w : World} {b : Nat} {K : List (Nat × Obj)} {B : Bs} {L : Kn} (h : RP (w0.heap.size ≤ ·) w0 b K B L w) : Below w0.heap.size w0 w := h.tr.below (Nat.le_refl _) (fun _ hk => hk)
theorem RP.new (w : World) (T : TypeId) (cs : Array Value) : RP (w.heap.size ≤ ·) w (w.heap.size + 1) [(w.heap.size, .cells cs T (0, 0))] [] [] ((w.alloc (.cells cs T)).alloc (.cells #[.string ⟨#[]⟩, .slice none 0 0] 98)) := by
  have h := rk_new (w.alloc (.cells cs T))
  rw [World.size_alloc] at h
  have ht := two_boxes w T 98 cs #[.string ⟨#[]⟩, .slice none 0 0]
  refine ⟨_, ⟨h.lt, fun k hk => ⟨hk.2, .inl (Nat.le_of_succ_le hk.1)⟩⟩, Tr.of_below ht.2.2, fun p hp => ?_⟩
  simp at hp
  subst hp
  exact ⟨fun hs => by have := hs.1; simp only at this; omega, ht.1⟩
/-- What stands there behind so many questions, of which all were right. -/
structure QS (qs : List Qn) (s0 : St) (k : Nat) (s : St) : Prop where
  e : s = (qs.take k).foldl qP s0
  ok : fe qck (qs.take k) = 0
  fit : FitS s
  len : s.1.length ≤ s0.1.length + 304 * k
theorem QS.zero {qs : List Qn} {s0 : St} (h : FitS s0) : QS qs s0 0 s0 := ⟨rfl, rfl, h, Nat.le_refl _⟩
theorem QS.next {qs : List Qn} {s0 : St} {k : Nat} {s : St} {q : Qn} (h : QS qs s0 k s) (hq : qs[k]? = some q) (g : qck q = 0) (hs : q.n.size ≤ 300) : QS qs s0 (k + 1) (qP s q) := by
  have e : qs.take (k + 1) = qs.take k ++ [q] := by rw [List.take_add_one, hq]; rfl
  refine ⟨?_, ?_, ?_, ?_⟩
  · rw [e, List.foldl_append, ← h.e]; rfl
  · rw [e, fe_append, h.ok]; simp [fe, g]
  · exact (foldQ_fit [q] s h.fit (by simpa using g)).1
  · have h1 := (pk_le (pts := true) (n := q.n.data.toList) h.fit.l).2.1
    have h2 := h.len
    have h3 := size_list q.n
    simp only [qP, List.length_append, word_length]
    omega
theorem QS.bad {qs : List Qn} {s0 : St} {k : Nat} {s : St} {q : Qn} (h : QS qs s0 k s) (hq : qs[k]? = some q) (g : ¬ qck q = 0) : fe qck qs = qck q := by
  rw [← List.take_append_drop k qs, fe_append, h.ok, if_pos rfl, fe_drop hq, if_neg g]
theorem QS.done {qs : List Qn} {s0 : St} {k : Nat} {s : St} (h : QS qs s0 k s) (hk : k = qs.length) : s = qs.foldl qP s0 ∧ fe qck qs = 0 := by
  have e : qs.take k = qs := by rw [hk, List.take_length]
  have h1 := h.e
  have h2 := h.ok
  rw [e] at h1 h2
  exact ⟨h1, h2⟩
/-- What stands there behind so many records, of which all were right. -/
structure RS (rs : List Rc) (s0 : St) (k : Nat) (s : St) : Prop where
  e : s = (rs.take k).foldl rP s0
  ok : fe rck (rs.take k) = 0
  fit : FitS s
  len : s.1.length ≤ s0.1.length + 2300 * k
theorem RS.zero {rs : List Rc} {s0 : St} (h : FitS s0) : RS rs s0 0 s0 := ⟨rfl, rfl, h, Nat.le_refl _⟩
theorem RS.next {rs : List Rc} {s0 : St} {k : Nat} {s : St} {r : Rc} (h : RS rs s0 k s) (hr : rs[k]? = some r) (g : rck r = 0) : RS rs s0 (k + 1) (rP s r) := by
  have e : rs.take (k + 1) = rs.take k ++ [r] := by rw [List.take_add_one, hr]; rfl
  have f := rp_fit (r := r) h.fit
  refine ⟨?_, ?_, f.1, ?_⟩
  · rw [e, List.foldl_append, ← h.e]; rfl
  · rw [e, fe_append, h.ok]; simp [fe, g]
  · have h2 := h.len
    show (rpB s.1 s.2 r).length ≤ _
    omega
theorem RS.bad {rs : List Rc} {s0 : St} {k : Nat} {s : St} {r : Rc} (h : RS rs s0 k s) (hr : rs[k]? = some r) (g : ¬ rck r = 0) : fe rck rs = rck r := by
  rw [← List.take_append_drop k rs, fe_append, h.ok, if_pos rfl, fe_drop hr, if_neg g]
theorem RS.done {rs : List Rc} {s0 : St} {k : Nat} {s : St} (h : RS rs s0 k s) (hk : k = rs.length) : s = rs.foldl rP s0 ∧ fe rck rs = 0 := by
  have e : rs.take k = rs := by rw [hk, List.take_length]
  have h1 := h.e
  have h2 := h.ok
  rw [e] at h1 h2
  exact ⟨h1, h2⟩
theorem mck_all {m : Ms} (hn : m.nf = true) : mck m = if fe qck m.qs = 0 then fe rck (m.an ++ m.au ++ m.ex) else fe qck m.qs := by
  unfold mck
  rw [if_pos hn]
  simp only [ek, sel, fe_append]
  by_cases g0 : fe qck m.qs = 0
  · by_cases g1 : fe rck m.an = 0
    · by_cases g2 : fe rck m.au = 0
      · simp [g0, g1, g2]
      · simp [g0, g1, g2]
    · simp [g0, g1]
  · simp [g0]
theorem mF_all (m : Ms) : mF m = (m.an ++ m.au ++ m.ex).foldl rP (m.qs.foldl qP (hdM m, [])) := by
  simp [mF, ws, sel, List.foldl_append]
theorem rcc_at : ∀ (rs : List Rc) (j : Nat) (u : Value), (rcc rs)[j]? = some u → ∃ k r, rs[k]? = some r ∧ ((j = k * 5 ∧ u = .string r.n) ∨ (j = k * 5 + 1 ∧ u = .int .u16 (r.t : Int)) ∨ (j = k * 5 + 2 ∧ u = .int .u16 (r.c : Int)) ∨ (j = k * 5 + 3 ∧ u = .int .u32 (r.l : Int)) ∨ (j = k * 5 + 4 ∧ u = .string r.d)) := by
  intro rs
  induction rs with
  | nil => intro j u h; simp [rcc] at h
  | cons q rs ih =>
    intro j u h
    have e : rcc (q :: rs) = .string q.n :: .int .u16 (q.t : Int) :: .int .u16 (q.c : Int) :: .int .u32 (q.l : Int) :: .string q.d :: rcc rs := rfl
    rw [e] at h
    match j, h with
    | 0, h => exact ⟨0, q, rfl, .inl ⟨rfl, by simpa using h.symm⟩⟩
    | 1, h => exact ⟨0, q, rfl, .inr (.inl ⟨rfl, by simpa using h.symm⟩)⟩
    | 2, h => exact ⟨0, q, rfl, .inr (.inr (.inl ⟨rfl, by simpa using h.symm⟩))⟩
    | 3, h => exact ⟨0, q, rfl, .inr (.inr (.inr (.inl ⟨rfl, by simpa using h.symm⟩)))⟩
    | 4, h => exact ⟨0, q, rfl, .inr (.inr (.inr (.inr ⟨rfl, by simpa using h.symm⟩)))⟩
    | j + 5, h =>
      obtain ⟨k, q', hk, hh⟩ := ih j u (by simpa using h)
      exact ⟨k + 1, q', by simpa using hk, by
        rcases hh with ⟨a, b⟩ | ⟨a, b⟩ | ⟨a, b⟩ | ⟨a, b⟩ | ⟨a, b⟩
        · exact .inl ⟨by omega, b⟩
        · exact .inr (.inl ⟨by omega, b⟩)
        · exact .inr (.inr (.inl ⟨by omega, b⟩))
        · exact .inr (.inr (.inr (.inl ⟨by omega, b⟩)))
        · exact .inr (.inr (.inr (.inr ⟨by omega, b⟩)))⟩
theorem rcc_len (rs : List Rc) : (rcc rs).length = rs.length * 5 := by
  induction rs with
  | nil => rfl
  | cons q rs ih =>
    have e : rcc (q :: rs) = .string q.n :: .int .u16 (q.t : Int) :: .int .u16 (q.c : Int) :: .int .u32 (q.l : Int) :: .string q.d :: rcc rs := rfl
    rw [e]; simp only [List.length_cons, ih]; omega
theorem rcc_app (rs ss : List Rc) : rcc (rs ++ ss) = rcc rs ++ rcc ss := by simp [rcc]
theorem rcc_ones (rs : List Rc) : ∀ u ∈ rcc rs, u.oneCell' = true := by
  intro u hu
  obtain ⟨q, _, hq⟩ := List.mem_flatMap.1 hu
  simp at hq
  rcases hq with rfl | rfl | rfl | rfl | rfl <;> rfl
theorem RdR.cells {w : World} {a : Addr} {n c : Nat} {rs : List Rc} (h : RdR w ⟨some a, n, c⟩ rs) : ∀ j u, (rcc rs)[j]? = some u → w.cell? (a.add j) = some u := by
  intro j u hj
  obtain ⟨k, q, hk, hh⟩ := rcc_at rs j u hj
  obtain ⟨b', off', e, _, c0, c1, c2, c3, c4⟩ := h.get hk
  injection e with e
  subst e
  rw [add_lit]
  rcases hh with ⟨rfl, rfl⟩ | ⟨rfl, rfl⟩ | ⟨rfl, rfl⟩ | ⟨rfl, rfl⟩ | ⟨rfl, rfl⟩
  · exact c0
  · exact c1
  · exact c2
  · exact c3
  · exact c4
/-- A list of records of one's own. -/
def OwnR (w : World) (base : Nat) (v : Value) (rs : List Rc) : Prop := w.ownsRow base 61 5 v rs.length (rcc rs)
/-- A list of records is put behind one's own. -/
theorem wp_append_rcs {ops : Array Oper} {rest : List Oper} {o : Oper} {a : Act} {w : World} {Q : Exit → Act → World → Prop} (hgd : o.guard = none) (s x : Operand)
    (ho : o.op = .call { callee := .builtin .append, args := #[s, x], argTypes := #[24, 24] }) (base : Nat) (v : Value) (rs news : List Rc) (hs : a.eval s = v) (hown : OwnR w base v rs)
    (sl : Sl) (hx : a.eval x = sl.v) (hr : RdR w sl news) (hnil : sl.a = none → sl.c = 0) (hn : rs.length + news.length ≤ 1000000) (hbase : base ≤ w.heap.size)
    (h : ∀ v' w', OwnR w' base v' (rs ++ news) → Below base w w' → wpList Try.prog ops Q rest (a.put o.dst v') w') : wpList Try.prog ops Q (o :: rest) a w := by
  obtain ⟨i0, hi, hz0, hz1, hz2⟩ := info_parts info25
  obtain ⟨sa, sn, sc⟩ := sl
  have hsn : sn = news.length := hr.1
  cases sa with
  | none =>
    have hc : sc = 0 := hnil rfl
    have e : news = [] := by
      rcases hr.2 with h | ⟨_, _, e, _⟩
      · exact h
      · cases e
    subst e
    have hsn0 : sn = 0 := hsn
    subst hc hsn0
    refine wpList_append_own_none hgd s x 24 ho base 61 i0 5 Try.underlying24 hi v rs.length (rcc rs) hs hown hx ?_
    have := h v w (by unfold OwnR; rw [List.append_nil]; exact hown) (Below.refl _ _)
    exact this
  | some ad =>
    refine wpList_append_own_at _ hgd s x 24 ho base 61 i0 _ 5 40 Try.underlying24 hi hz0 hz1 hz2 rfl (by decide) v rs.length (rcc rs) hs hown ad sn sc (rcc news) hx (by rw [rcc_len, hsn]) (RdR.cells hr) (rcc_ones news) (by unfold maxLen; omega) (by omega) hbase ?_
    intro v' w' h1 h2 _ _
    refine h v' w' (by unfold OwnR; rw [List.length_append, rcc_app, ← hsn]; exact h1) ?_
    refine ⟨h2.os, h2.tape, h2.output, h2.size, fun i hi => h2.block i (by omega) ?_⟩
    intro e
    have := (World.ownsRow.lt hown i e.symm).1
    omega
end Go.Proofs.Ytljfkjbagebncaa
