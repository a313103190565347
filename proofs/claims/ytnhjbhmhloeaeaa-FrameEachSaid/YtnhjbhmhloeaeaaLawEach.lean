/-
  The walk of the law FrameEach: for every text and number it returns true; no older memory is changed.
-/
import Derived.Test.YtnhjbhmhloeaeaaAwake
import Derived.Sort.QuietIn
import Derived.Sort.QuietTacIn
import Derived.Sort.CutIn
namespace Go.Proofs.Ytnhjbhmhloeaeaa
open Go.RowKit Go.Shelf
attribute [local go_sem] Oper.semAt_some
/-- A reader somewhere. -/
abbrev Rt (b : Nat) (R : Bs) (w : World) : Prop := Rd (fun _ => True) b R w
/-- Another reader stays as it is. -/
theorem Rd.apart {S S' : Nat → Prop} {a b : Nat} {R R' : Bs} {w w' : World} (h : Rd S b R w) (ha : Rd S' a R' w) (hne : a ≠ b) (ht : Tr (· = a) w w') : Rd S b R w' := by
  obtain ⟨v, t, hp⟩ := h
  obtain ⟨v', t', ha⟩ := ha
  exact ⟨v, t, hp.blk.tr ht (fun e => hne e.symm), hp.row.tr ht (fun k hk e => hp.row.not_blk ha.blk (by decide) (by rw [hk, e])), hp.rowS, hp.own, hp.le⟩
/-- A store into a box leaves a reader as it is. -/
theorem Rd.boxset {S : Nat → Prop} {b B : Nat} {R : Bs} {w w' : World} {T : TypeId} {v : Value} (h : Rd S b R w) (hb : Boxed w B T v) (hT : T ≠ 5) (ht : Tr (· = B) w w') : Rd S b R w' := by
  have hne := h.ne_box hb
  obtain ⟨v', t, hp⟩ := h
  refine ⟨v', t, hp.blk.tr ht (fun e => hne e.symm), hp.row.tr ht (fun k hk e => ?_), hp.rowS, hp.own, hp.le⟩
  rcases hp.row with ⟨rfl, _⟩ | ⟨g, k', cap, cur, rfl, hg, _⟩
  · simp [Value.ownBlock] at hk
  · obtain rfl : g = k := by simpa [Value.ownBlock] using hk
    subst e
    rw [show w.heap[g]? = _ from hb] at hg
    simp at hg
    exact hT hg.2
/-- What stands there beside the first reader: the other one, and the boxes. -/
structure Ev (w0 : World) (a b r c ck cm : Nat) (R : Bs) (R' : Bs) (w : World) : Prop where
  rb : Rt b R' w
  res : Boxed w r 4 (.bool false)
  box : Boxed w c 32 (ptr b)
  kk : ∃ k : Int, -20 < k ∧ k < 20 ∧ Boxed w ck 3 (.int .i64 k)
  mm : ∃ m : Nat, m + R.length ≤ 1000 ∧ Boxed w cm 3 (.int .i64 (m : Int))
  bel : Below w0.heap.size w0 w
  ne : a ≠ b
  ga : w0.heap.size ≤ a
  gb : w0.heap.size ≤ b
  gr : w0.heap.size ≤ r
  gm : w0.heap.size ≤ cm
  nk : ck ≠ cm
theorem Ev.own {w0 : World} {a b r c ck cm n : Nat} {R R' : Bs} (hn : w0.heap.size ≤ n) : OwnFrom n (fun (_ : Unit) W => Ev w0 a b r c ck cm R R' W) := fun u A C row h hg hr => by
  have hr' : ∀ r, row = some r → ∃ o : Obj, A.heap[r]? = some o ∧ o.isCells = false := fun r e => (hr r e).2
  obtain ⟨k, k1, k2, hk⟩ := h.kk
  obtain ⟨m, m1, hm⟩ := h.mm
  exact ⟨h.rb.kept hg hr', cells_kept hg hr' h.res, cells_kept hg hr' h.box, ⟨k, k1, k2, cells_kept hg hr' hk⟩, ⟨m, m1, cells_kept hg hr' hm⟩,
    ownFrom_below (β := Unit) (Nat.le_refl _) hn u A C row h.bel hg hr, h.ne, h.ga, h.gb, h.gr, h.gm, h.nk⟩
/-- The first reader's texts are taken. -/
theorem Ev.first {w0 : World} {a b r c ck cm : Nat} {S : Nat → Prop} {R R1 R' : Bs} {A C : World} (h : Ev w0 a b r c ck cm R R' A) (ha : Rd S a R1 A) (ht : Tr (· = a) A C) : Ev w0 a b r c ck cm R R' C := by
  obtain ⟨k, k1, k2, hk⟩ := h.kk
  obtain ⟨m, m1, hm⟩ := h.mm
  exact ⟨h.rb.apart ha h.ne ht, ht.boxed h.res (ha.ne_box h.res), ht.boxed h.box (ha.ne_box h.box), ⟨k, k1, k2, ht.boxed hk (ha.ne_box hk)⟩, ⟨m, m1, ht.boxed hm (ha.ne_box hm)⟩,
    h.bel.trans (ht.below h.bel.size fun k e => by have := h.ga; omega), h.ne, h.ga, h.gb, h.gr, h.gm, h.nk⟩
/-- The other one's. -/
theorem Ev.other {w0 : World} {a b r c ck cm : Nat} {R R' R2 : Bs} {A C : World} (h : Ev w0 a b r c ck cm R R' A) (hb : Rt b R2 C) (ht : Tr (· = b) A C) : Ev w0 a b r c ck cm R R2 C := by
  obtain ⟨k, k1, k2, hk⟩ := h.kk
  obtain ⟨m, m1, hm⟩ := h.mm
  have hr := h.rb
  exact ⟨hb, ht.boxed h.res (hr.ne_box h.res), ht.boxed h.box (hr.ne_box h.box), ⟨k, k1, k2, ht.boxed hk (hr.ne_box hk)⟩, ⟨m, m1, ht.boxed hm (hr.ne_box hm)⟩,
    h.bel.trans (ht.below h.bel.size fun k e => by have := h.gb; omega), h.ne, h.ga, h.gb, h.gr, h.gm, h.nk⟩
/-- One more is counted. -/
theorem Ev.count {w0 : World} {a b r c ck cm : Nat} {R R1 R' : Bs} {A : World} (h : Ev w0 a b r c ck cm R R' A) {m : Nat} (hc : Boxed A cm 3 (.int .i64 (m : Int))) (hm : m + 1 + R1.length ≤ 1000) : Ev w0 a b r c ck cm R1 R' (A.setCell ⟨cm, 0, none⟩ (.int .i64 ((m : Int) + 1))) := by
  obtain ⟨k, k1, k2, hk⟩ := h.kk
  have ht : Tr (· = cm) A (A.setCell ⟨cm, 0, none⟩ (.int .i64 ((m : Int) + 1))) := (Tr.refl (· = cm) A).setCell (.inl rfl) _
  have ne : ∀ {B : Nat} {T : TypeId} {v : Value}, Boxed A B T v → T ≠ 3 → ¬ B = cm := fun hb hT e => by
    subst e
    have := (show A.heap[_]? = _ from hb).symm.trans hc
    simp at this
    exact hT this.2
  exact ⟨h.rb.boxset hc (by decide) ht, ht.boxed h.res (ne h.res (by decide)), ht.boxed h.box (ne h.box (by decide)), ⟨k, k1, k2, ht.boxed hk h.nk⟩, ⟨m + 1, hm, by have := hc.set (.int .i64 ((m : Int) + 1)); exact this⟩,
    h.bel.trans (ht.below h.bel.size fun k e => by have := h.gm; omega), h.ne, h.ga, h.gb, h.gr, h.gm, h.nk⟩
/-- Two readers that share no block, while they are fed. -/
structure PS (w0 : World) (SA SB : Nat → Prop) (a b r c : Nat) (R R' : Bs) (w : World) : Prop where
  ra : Rd SA a R w
  rb : Rd SB b R' w
  sep : ∀ k, SA k → ¬ SB k
  lA : ∀ k, SA k → w0.heap.size ≤ k ∧ k < w.heap.size ∧ k ≠ r ∧ k ≠ c
  lB : ∀ k, SB k → w0.heap.size ≤ k ∧ k < w.heap.size ∧ k ≠ r ∧ k ≠ c
  res : Boxed w r 4 (.bool false)
  box : Boxed w c 32 (ptr b)
  bel : Below w0.heap.size w0 w
  gr : w0.heap.size ≤ r
theorem PS.start {w w1 w2 w3 : World} {r : Nat} (B1 : Below w.heap.size w w1) (hr1 : Boxed w1 r 4 (.bool false)) (hg : w.heap.size ≤ r) (hA : Rd (w1.heap.size ≤ ·) w1.heap.size [] w2) (hb2 : Below w1.heap.size w1 w2)
    (hB : Rd (w2.heap.size ≤ ·) w2.heap.size [] w3) (hb3 : Below w2.heap.size w2 w3) : ∃ SA SB, PS w SA SB w1.heap.size w2.heap.size r w3.heap.size [] [] (w3.alloc (.cells #[ptr w2.heap.size] 32)) := by
  obtain ⟨SA, hSA, hA2⟩ := hA.now
  obtain ⟨SB, hSB, hB3⟩ := hB.now
  have z1 := B1.size
  have z2 := hb2.size
  have z3 := hb3.size
  have hrl := hr1.lt
  have hb4 : Below w3.heap.size w3 (w3.alloc (.cells #[ptr w2.heap.size] 32)) := (Below.refl _ _).alloc (Nat.le_refl _) _
  have z4 : (w3.alloc (.cells #[ptr w2.heap.size] 32)).heap.size = w3.heap.size + 1 := by simp
  refine ⟨SA, SB, (hA2.below hb3).below hb4, hB3.below hb4, fun k h1 h2 => ?_, fun k hk => ?_, fun k hk => ?_, ?_, Boxed.new _ _ _, ?_, hg⟩
  · have := (hSA k h1).2; have := (hSB k h2).1; omega
  · have := hSA k hk; omega
  · have := hSB k hk; omega
  · exact (hb4.block _ (by omega)).trans ((hb3.block _ (by omega)).trans ((hb2.block _ hr1.lt).trans hr1))
  · exact ((B1.trans (hb2.mono z1)).trans (hb3.mono (by omega))).trans (hb4.mono (by omega))
theorem PS.feedA {w0 w w' : World} {SA SB : Nat → Prop} {a b r c : Nat} {R R' R1 : Bs} (h : PS w0 SA SB a b r c R R' w) (hr : Rd (andNew SA w.heap.size) a R1 w') (ht : Tr SA w w') : ∃ SA', PS w0 SA' SB a b r c R1 R' w' := by
  obtain ⟨S, hS, hr'⟩ := hr.now
  have z := ht.size
  have z0 := h.bel.size
  have l1 := h.res.lt
  have l2 := h.box.lt
  refine ⟨S, hr', h.rb.tr ht (fun k _ h1 h2 => h.sep k h2 h1), fun k h1 h2 => ?_, fun k hk => ?_, fun k hk => ?_, ht.boxed h.res (fun e => (h.lA _ e).2.2.1 rfl), ht.boxed h.box (fun e => (h.lA _ e).2.2.2 rfl), h.bel.trans (ht.below z0 fun k e => (h.lA k e).1), h.gr⟩
  · rcases (hS k h1).1 with e | e
    · exact h.sep k e h2
    · have := (h.lB k h2).2.1; omega
  · rcases (hS k hk).1 with e | e
    · have := h.lA k e; omega
    · have := (hS k hk).2; omega
  · have := h.lB k hk; omega
theorem PS.feedB {w0 w w' : World} {SA SB : Nat → Prop} {a b r c : Nat} {R R' R1 : Bs} (h : PS w0 SA SB a b r c R R' w) (hr : Rd (andNew SB w.heap.size) b R1 w') (ht : Tr SB w w') : ∃ SB', PS w0 SA SB' a b r c R R1 w' := by
  obtain ⟨S, hS, hr'⟩ := hr.now
  have z := ht.size
  have z0 := h.bel.size
  have l1 := h.res.lt
  have l2 := h.box.lt
  refine ⟨S, h.ra.tr ht (fun k _ h1 h2 => h.sep k h1 h2), hr', fun k h1 h2 => ?_, fun k hk => ?_, fun k hk => ?_, ht.boxed h.res (fun e => (h.lB _ e).2.2.1 rfl), ht.boxed h.box (fun e => (h.lB _ e).2.2.2 rfl), h.bel.trans (ht.below z0 fun k e => (h.lB k e).1), h.gr⟩
  · rcases (hS k h2).1 with e | e
    · exact h.sep k h1 e
    · have := (h.lA k h1).2.1; omega
  · have := h.lA k hk; omega
  · rcases (hS k hk).1 with e | e
    · have := h.lB k e; omega
    · have := (hS k hk).2; omega
/-- Where they are fed, and the boxes are there. -/
theorem PS.ev {w0 w w' : World} {SA SB : Nat → Prop} {a b r c ck cm : Nat} {R : Bs} {k : Int} (h : PS w0 SA SB a b r c R R w) (hb : Below w.heap.size w w') (hR : R.length ≤ 1000) (hk : Boxed w' ck 3 (.int .i64 k)) (k1 : -20 < k) (k2 : k < 20) (hm : Boxed w' cm 3 (.int .i64 0)) (g1 : w.heap.size ≤ cm) (g2 : ck ≠ cm) :
    Rt a R w' ∧ Ev w0 a b r c ck cm R R w' := by
  have z0 := h.bel.size
  exact ⟨(h.ra.mono fun _ _ => trivial).below hb, (h.rb.mono fun _ _ => trivial).below hb, (hb.block _ h.res.lt).trans h.res, (hb.block _ h.box.lt).trans h.box, ⟨k, k1, k2, hk⟩, ⟨0, by omega, hm⟩, h.bel.trans (hb.mono z0),
    fun e => h.sep a h.ra.own (e ▸ h.rb.own), (h.lA a h.ra.own).1, (h.lB b h.rb.own).1, h.gr, by omega, g2⟩
theorem PS.ev3 {w0 w : World} {SA SB : Nat → Prop} {a b r c : Nat} {R : Bs} (h : PS w0 SA SB a b r c R R w) (hR : R.length ≤ 1000) (k : Int) (k1 : -20 < k) (k2 : k < 20) :
    Rt a R (((w.alloc (.cells #[.int .i64 k] 3)).alloc (.cells #[.int .i64 0] 3)).alloc (.cells #[ptr a] 32)) ∧
    Ev w0 a b r c w.heap.size (w.heap.size + 1) R R (((w.alloc (.cells #[.int .i64 k] 3)).alloc (.cells #[.int .i64 0] 3)).alloc (.cells #[ptr a] 32)) ∧
    Boxed (((w.alloc (.cells #[.int .i64 k] 3)).alloc (.cells #[.int .i64 0] 3)).alloc (.cells #[ptr a] 32)) (w.heap.size + 1 + 1) 32 (ptr a) := by
  have hb : Below w.heap.size w (((w.alloc (.cells #[.int .i64 k] 3)).alloc (.cells #[.int .i64 0] 3)).alloc (.cells #[ptr a] 32)) :=
    (((Below.refl _ w).alloc (Nat.le_refl _) _).alloc (by simp) _).alloc (by simp; omega) _
  have h1 := Boxed.new (w.alloc (.cells #[.int .i64 k] 3)) 3 (.int .i64 0)
  rw [World.size_alloc] at h1
  have h2 := Boxed.new ((w.alloc (.cells #[.int .i64 k] 3)).alloc (.cells #[.int .i64 0] 3)) 32 (ptr a)
  rw [World.size_alloc, World.size_alloc] at h2
  obtain ⟨e1, e2⟩ := h.ev hb hR (((Boxed.new w 3 _).alloc _).alloc _) k1 k2 (h1.alloc _) (by omega) (by omega)
  exact ⟨e1, e2, h2⟩
/-- What the result's box says at the end. -/
theorem last_ret {r D : Nat} {W : World} (h : Boxed W r 4 (.bool true)) (hK : W.heap[D]? = some (.deferred (some []))) (tmps : Array Value) (h4 : tmps.getD 4 undef = ptr r) :
    (results Try.f6 tmps).run Try.prog (W.putObj D (.deferred none)) = .ok (.bool true) (W.putObj D (.deferred none)) := by
  have hA : Boxed (W.putObj D (.deferred none)) r 4 (.bool true) := cells_kept (grownBy_putObj' W D (.deferred none)) (fun r e => by cases e; exact ⟨_, hK, rfl⟩) h
  have c0 := hA.cell
  have h4' : tmps[4]?.getD undef = ptr r := by simpa using h4
  simp [results, Try.f6, go_sem, c0, h4']
theorem Ev.drewN {w0 w : World} {a b r c ck cm : Nat} {R R' : Bs} (h : Ev w0 a b r c ck cm R R' w) (n : Nat) : Ev w0 a b r c ck cm R R' (w.drewN n) :=
  ⟨h.rb.below (below_drewN w n), h.res, h.box, h.kk, h.mm, h.bel.trans ((below_drewN w n).mono h.bel.size), h.ne, h.ga, h.gb, h.gr, h.gm, h.nk⟩
/-- The last store, and what the function hands back behind it. -/
theorem fin_all {w0 W : World} {a b r c ck cm D : Nat} {R R' : Bs} (h : Ev w0 a b r c ck cm R R' W) (hK : W.heap[D]? = some (.deferred (some []))) (hD : w0.heap.size ≤ D) (tmps : Array Value) (h4 : tmps.getD 4 undef = ptr r) :
    (Instr.takeDeferred D).run Try.prog (W.setCell ⟨r, 0, none⟩ (.bool true)) = .ok [] ((W.setCell ⟨r, 0, none⟩ (.bool true)).putObj D (.deferred none)) ∧
    (results Try.f6 tmps).run Try.prog ((W.setCell ⟨r, 0, none⟩ (.bool true)).putObj D (.deferred none)) = .ok (.bool true) ((W.setCell ⟨r, 0, none⟩ (.bool true)).putObj D (.deferred none)) ∧
    Below w0.heap.size w0 ((W.setCell ⟨r, 0, none⟩ (.bool true)).putObj D (.deferred none)) := by
  have hk2 := (KeepsOthers.setCell W ⟨r, 0, none⟩ (.bool true)).same D _ hK rfl
  exact ⟨run_takeDeferred hk2, last_ret (h.res.set _) hk2 tmps h4, (h.bel.setCell (p := ⟨r, 0, none⟩) h.gr _).trans (belowK_b (w := w0) (Nat.le_refl _) _ D _ _ hD hk2 rfl rfl)⟩
/-- What stands there in the last loop. -/
def Lst (w0 : World) (a b r c ck cm D n : Nat) (w : World) : Prop := ∃ R : Bs, R.length ≤ 1000 ∧ Rt a R w ∧ Ev w0 a b r c ck cm R R w ∧ w.heap[D]? = some (.deferred (some [])) ∧ a < n ∧ b < n ∧ n ≤ D ∧ w0.heap.size ≤ n
theorem Lst.drewN {w0 w : World} {a b r c ck cm D n : Nat} (h : Lst w0 a b r c ck cm D n w) (k : Nat) : Lst w0 a b r c ck cm D n (w.drewN k) :=
  let ⟨R, h1, h2, h3, h4⟩ := h
  ⟨R, h1, h2.below (below_drewN w k), h3.drewN k, h4⟩
theorem Lst.take {w0 : World} {a b r c ck cm D n : Nat} {R : Bs} {w1 w2 w3 : World} (hR : R.length ≤ 1000) (ha : Rt a R w1) (hE : Ev w0 a b r c ck cm R R w1) (hK : w1.heap[D]? = some (.deferred (some []))) (l1 : a < n) (l2 : b < n) (l3 : n ≤ D) (l4 : w0.heap.size ≤ n)
    (h1 : Rt a (tl R) w2) (t1 : Tr (· = a) w1 w2) (h2 : Rt b (tl R) w3) (t2 : Tr (· = b) w2 w3) : Lst w0 a b r c ck cm D n w3 ∧ Rt a (tl R) w3 ∧ Ev w0 a b r c ck cm (tl R) (tl R) w3 ∧ w3.heap[D]? = some (.deferred (some [])) := by
  have hE2 := hE.first ha t1
  have hE3 := hE2.other h2 t2
  have h3 := h1.apart hE2.rb (fun e => hE.ne e.symm) t2
  have hl : (tl R).length ≤ R.length := by rw [tl_length]; omega
  have d1 := (Array.getElem?_eq_some_iff.1 hK).1
  have k2 := (t1.block D d1 (by omega)).trans hK
  have k3 := (t2.block D (Array.getElem?_eq_some_iff.1 k2).1 (by omega)).trans k2
  obtain ⟨m, m1, hm⟩ := hE3.mm
  have hE4 : Ev w0 a b r c ck cm (tl R) (tl R) w3 := { hE3 with mm := ⟨m, by omega, hm⟩ }
  exact ⟨⟨tl R, by omega, h3, hE4, k3, l1, l2, l3, l4⟩, h3, hE4, k3⟩
set_option maxRecDepth 100000 in
set_option maxHeartbeats 16000000 in
theorem lawEach_in (s : ByteArray) (x : Int) (_hx : -9223372036854775808 ≤ x ∧ x ≤ 9223372036854775807) (w : World) :
    CallsIn Fence.wide 4 Try.prog 6 #[.string s, .int .i64 x] w fun e w' => e = .returned (.bool true) ∧ Below w.heap.size w w' := by
  obtain ⟨t, ht, hshort⟩ := short_any s 1000
  have SH := Lib.hid hshort
  clear hshort
  refine callsIn_of_wp_marks Try.func6 rfl trivial ?_ rfl
  simp only [Try.ntmps6, List.size_toArray, List.length_cons, List.length_nil, Nat.reduceAdd, Nat.reduceSub, Array.replicate_succ, Array.replicate_zero, List.push_toArray, List.append_toArray, List.nil_append, List.cons_append]
  gi_wp2_with fail
  refine ⟨trivial, ?_⟩
  refine (callsIn_wide.2 (awake_any _)).mono ?_
  rintro e w1 ⟨rfl, hb1⟩
  have hr1 : Boxed w1 w.heap.size 4 (.bool false) := (hb1.block w.heap.size (by simp)).trans (Boxed.new w 4 (.bool false))
  have B1 : Below w.heap.size w w1 := ((Below.refl _ w).alloc (Nat.le_refl _) _).trans (hb1.mono (by simp))
  clear hb1
  gi_wp2_with fail
  refine ⟨trivial, ?_⟩
  refine (callsIn_wide.2 (SH.out w1)).mono ?_
  rintro e w1' ⟨rfl, rfl⟩
  gi_wp2_with fail
  refine ⟨trivial, ?_⟩
  refine (callsIn_wide.2 (new_any w1)).mono ?_
  rintro e w2 ⟨rfl, hA2, hb2⟩
  gi_wp2_with fail
  refine ⟨trivial, ?_⟩
  refine (callsIn_wide.2 (new_any w2)).mono ?_
  rintro e w3 ⟨rfl, hB3, hb3⟩
  obtain ⟨SA, SB, hP⟩ := PS.start B1 hr1 (Nat.le_refl _) hA2 hb2 hB3 hb3
  clear B1 hr1 hA2 hb2 hB3 hb3
  gi_wp2_with fail
  change Fence.wide.fn 16 ∧ CallsIn Fence.wide _ Try.prog 16 _ (w3.alloc (.cells #[ptr w2.heap.size] 32)) _
  obtain ⟨w4, hw4⟩ : ∃ w4, w4 = w3.alloc (.cells #[ptr w2.heap.size] 32) := ⟨_, rfl⟩
  rw [← hw4] at hP ⊢
  clear hw4
  obtain ⟨a, hae⟩ : ∃ a, a = w1.heap.size := ⟨_, rfl⟩
  obtain ⟨b, hbe⟩ : ∃ b, b = w2.heap.size := ⟨_, rfl⟩
  obtain ⟨c, hce⟩ : ∃ c, c = w3.heap.size := ⟨_, rfl⟩
  obtain ⟨r, hre⟩ : ∃ r, r = w.heap.size := ⟨_, rfl⟩
  rw [← hae, ← hbe, ← hce] at hP ⊢
  rw [show PS w SA SB a b w.heap.size c [] [] w4 = PS w SA SB a b r c [] [] w4 by rw [hre], ← hre] at *
  have HP := Lib.hid hP
  clear hP hae hbe hce
  refine ⟨trivial, ?_⟩
  refine (callsIn_wide.2 (feed_any ⟨t.toArray⟩ SA a [] w4 HP.out.ra (by rw [size_mk]; simp; omega))).mono ?_
  rintro e w5 ⟨rfl, hr5, ht5⟩
  obtain ⟨SA', hP5⟩ := HP.out.feedA hr5 ht5
  have cc := hP5.box.cell
  have HP5 : Hid (PS w SA' SB a b r c t [] w5) := Lib.hid hP5
  clear hP5 hr5 ht5
  gi_wp2_with fail
  refine ⟨trivial, ?_⟩
  refine (callsIn_wide.2 (feed_any ⟨t.toArray⟩ SB b [] w5 HP5.out.rb (by rw [size_mk]; simp; omega))).mono ?_
  rintro e w6 ⟨rfl, hr6, ht6⟩
  obtain ⟨SB', hP6⟩ := HP5.out.feedB hr6 ht6
  have HP6 : Hid (PS w SA' SB' a b r c t t w6) := Lib.hid hP6
  clear hP6 hr6 ht6 cc
  have hr0 : (x.tmod 20).natAbs = x.natAbs % 20 := Int.natAbs_tmod x 20
  obtain ⟨q, hq⟩ : ∃ q, x.tmod 20 = q := ⟨_, rfl⟩
  rw [hq] at hr0
  have hq1 : -20 < q := by omega
  have hq2 : q < 20 := by omega
  clear hr0
  gi_wp2_with fail
  -- WAYS
  · refine ⟨trivial, ?_⟩
    refine (each_in 3 a _).mono ?_
    rintro e w7 ⟨rfl, rfl⟩
    obtain ⟨hA, hE, hbx⟩ := HP6.out.ev3 ht (-q) (by omega) (by omega)
    have hz : (((w6.alloc (.cells #[.int .i64 (-q)] 3)).alloc (.cells #[.int .i64 0] 3)).alloc (.cells #[ptr a] 32)).heap.size = w6.heap.size + 3 := by simp
    gi_wp2_with fail
    generalize (((w6.alloc (.cells #[.int .i64 (-q)] 3)).alloc (.cells #[.int .i64 0] 3)).alloc (.cells #[ptr a] 32)) = W0 at hA hE hbx hz ⊢
    obtain ⟨ck, hck⟩ : ∃ ck, ck = w6.heap.size := ⟨_, rfl⟩
    rw [← hck] at hE hbx hz ⊢
    clear hck
    have hla := hA.lt
    have HE := Lib.hid hE
    refine range_each (n := 4) (b := a) (B := ck + 1 + 1) (S := fun _ => True) (by omega) rfl rfl
      (fun R W => Ev w a b r c ck (ck + 1) R R W)
      (fun cd W => cd = .exit 0 ∧ ∃ R, R.length ≤ 1000 ∧ Rt a R W ∧ Ev w a b r c ck (ck + 1) R R W)
      (fun R A C h hr hT => h.first hr hT)
      (fun R A C row h hg hr => Ev.own (by have := hE.bel.size; omega) () A C row h hg hr)
      (fun cd u A C row h hg hr => by obtain ⟨h0, R, hl, h1, h2⟩ := h; exact ⟨h0, R, hl, h1.kept hg (fun r e => (hr r e).2), Ev.own (by have := hE.bel.size; omega) () A C row h2 hg hr⟩)
      t ⟨by omega, hA, hbx, hE⟩ ?a1 ?assigna1 ?bodya1 ?donea1 ?stopa1
    case assigna1 =>
      intro l x W K hK
      gi_wp2
      exact hK
    case bodya1 =>
      rintro l R W hf hl hr hbx2 hEv
      have hl3 : R.length ≤ 1000 := by obtain ⟨m, hm, _⟩ := hEv.mm; omega
      have cc := hEv.box.cell
      have hN := CallsIn.inRound l (callsIn_wide (n := 2 - 1) |>.2 (next_any _ b R W hEv.rb hl))
      rw [show (fl R != 0) = true by simpa using hf] at hN
      have HN := Lib.hid hN
      have HEV := Lib.hid hEv
      have HR := Lib.hid hr
      have h2 := fl_two R hf
      have htl := tl_length R
      have hle := fl_le R
      clear hN hEv hr
      gi_wp2_with fail
      refine ⟨trivial, ?_⟩
      refine HN.out.mono ?_
      rintro e W2 ⟨rfl, hr2, ht2⟩
      have hE2 := HEV.out.other hr2 ht2
      have hA2 := HR.out.apart HEV.out.rb (fun e => HEV.out.ne e.symm) ht2
      have hbx3 := ht2.boxed hbx2 (HEV.out.rb.ne_box hbx2)
      have hkf : KeepsFrom W0.heap.size W W2 := ⟨ht2.size, fun i o hB hi _ => (ht2.block i (Array.getElem?_eq_some_iff.1 hi).1 (by have := HE.out.rb.lt; omega)).trans hi⟩
      obtain ⟨k, k1, k2, hk⟩ := hE2.kk
      obtain ⟨m, m1, hm⟩ := hE2.mm
      have hE3 := hE2.count (R1 := tl R) hm (by omega)
      have ht3 : Tr (· = ck + 1) W2 (W2.setCell ⟨ck + 1, 0, none⟩ (.int .i64 ((m : Int) + 1))) := (Tr.refl (· = ck + 1) W2).setCell (.inl rfl) _
      have hA3 := hA2.boxset hm (by decide) ht3
      have hbx4 := ht3.boxed hbx3 (by omega)
      have hkf2 := hkf.trans ((KeepsOthers.setCell W2 ⟨ck + 1, 0, none⟩ (.int .i64 ((m : Int) + 1))).from W0.heap.size)
      have ck0 := hk.cell
      have cm0 := hm.cell
      have fm0 := hm.frozen
      have dk0 := (ht3.boxed hk (by omega)).cell
      have dm0 := (hm.set (.int .i64 ((m : Int) + 1))).cell
      have A := Lib.hid (And.intro hE3 (And.intro hA3 (And.intro hbx4 hkf2)))
      clear hE2 hA2 hbx3 hkf hk hm hE3 ht3 hA3 hbx4 hkf2 hr2 ht2 cc hbx2
      gi_wp2
      · exact ⟨A.out.2.2.2, rfl, tl R, by omega, A.out.2.1, A.out.1⟩
      · exact ⟨A.out.2.2.2, by omega, A.out.2.1, A.out.2.2.1, A.out.1⟩
    case donea1 =>
      rintro D R W hD hf ⟨hl, hr, hbx2, hEv⟩ hK
      have hL : Lst w a b r c ck (ck + 1) D W0.heap.size W := ⟨R, by obtain ⟨m, hm, _⟩ := hEv.mm; omega, hr, hEv, hK, hla, hE.rb.lt, hD, hE.bel.size⟩
      have HL := Lib.hid hL
      clear hL hEv hr hK
      gi_wp2
      gi_loopw [13] (fun i wr => ∃ k : Nat, k ≤ 600 ∧ i = .int .i64 (k : Int) ∧ Lst w a b r c ck (ck + 1) D W0.heap.size wr) (fun i _ => 600 - (intOf i).toNat)
      case atStart => exact ⟨0, by omega, rfl, HL.out⟩
      case round =>
        clear HL
        obtain ⟨k, hk, rfl, R, hR, hra, hEv, hK, l1, l2, l3, l4⟩ := hrel
        have HL := Lib.hid (And.intro hra (And.intro hEv hK))
        have HN := Lib.hid (callsIn_wide (n := 4 - 1) |>.2 (next_any _ a R wr hra (by omega)))
        clear hra hEv hK
        by_cases hlt : k < 600
        · have q0 : (k : Int) < 600 := by omega
          gi_wp2_with fail
          refine ⟨trivial, ?_⟩
          refine HN.out.mono ?_
          rintro e w2 ⟨rfl, hr2, ht2⟩
          have hE2 := HL.out.2.1.first HL.out.1 ht2
          have cc := hE2.box.cell
          have HN2 := Lib.hid (callsIn_wide (n := 4 - 1) |>.2 (next_any _ b R w2 hE2.rb (by omega)))
          have HT2 := Lib.hid (And.intro hr2 ht2)
          clear hE2 hr2 ht2
          gi_wp2_with fail
          refine ⟨trivial, ?_⟩
          refine HN2.out.mono ?_
          rintro e w3 ⟨rfl, hr3, ht3⟩
          obtain ⟨hL3, hA3, hE3, hK3⟩ := Lst.take hR HL.out.1 HL.out.2.1 HL.out.2.2 l1 l2 l3 l4 HT2.out.1 HT2.out.2 hr3 ht3
          have cc := hE3.box.cell
          have HLA := Lib.hid (fun nq => callsIn_wide (n := 4 - 1) |>.2 (left_any _ a (tl R) (w3.drewN nq) (hA3.below (below_drewN w3 nq))))
          have HLB := Lib.hid (fun nq => callsIn_wide (n := 4 - 1) |>.2 (left_any _ b (tl R) (w3.drewN nq) (hE3.rb.below (below_drewN w3 nq))))
          have cr := hE3.res.cell
          have fr := hE3.res.frozen
          have H3 := Lib.hid (And.intro hL3 (And.intro hA3 (And.intro hE3 hK3)))
          clear hL3 hA3 hE3 hK3 hr3 ht3
          obtain ⟨z, hz⟩ : ∃ z, z = (fl R != 0) := ⟨_, rfl⟩
          rw [← hz]
          clear hz
          gi_wp2_with fail
          refine wpIn_region_quiet_lit rfl (by kernel_rfl) (by kernel_rfl) ?_
          repeat (gi_big_quiet_step (fail))
          refine wpQuietIn_step (fun _ _ _ _ => trivial) (fun K hK => ?_)
          go_simp
          refine ⟨.int .i64 ((tl R).length : Int), fun n => CallsIn.quiet_of_same ((HLA.out n).mono fun _ _ h => ⟨h.1, h.2.symm⟩), hK _ ?_⟩
          clear hK K
          repeat (gi_big_quiet_step (fail))
          refine wpQuietIn_step (fun _ _ _ _ => trivial) (fun K hK => ?_)
          go_simp
          refine ⟨.int .i64 ((tl R).length : Int), fun n => CallsIn.quiet_of_same ((HLB.out n).mono fun _ _ h => ⟨h.1, h.2.symm⟩), hK _ ?_⟩
          clear hK K
          repeat (gi_big_quiet_step (fail))
          refine wpQuietIn_nil ?_
          rintro _ ⟨nq, rfl⟩
          cases z with
          | false =>
            gi_wp2
            have F := fin_all (H3.out.2.2.1.drewN nq) H3.out.2.2.2 (Nat.le_trans l4 l3)
            exact ⟨by simp, .inl ⟨_, _, rfl, (F #[undef, undef, undef, undef, ptr r] rfl).1, _, (F _ rfl).2.1, rfl, (F #[undef, undef, undef, undef, ptr r] rfl).2.2⟩⟩
          | true =>
            gi_wp2
            go_roundw
            case rel => exact ⟨k + 1, by omega, by go_num, H3.out.1.drewN nq⟩
            case measure => simp [intOf]; omega
        · have q0 : decide ((k : Int) < 600) = false := by simp; omega
          have cr := HL.out.2.1.res.cell
          have fr := HL.out.2.1.res.frozen
          gi_wp2
          have F := fin_all HL.out.2.1 HL.out.2.2 (Nat.le_trans l4 l3)
          exact ⟨by simp, .inl ⟨_, _, rfl, (F #[undef, undef, undef, undef, ptr r] rfl).1, _, (F _ rfl).2.1, rfl, (F #[undef, undef, undef, undef, ptr r] rfl).2.2⟩⟩
    case stopa1 =>
      rintro D cd W hD ⟨rfl, R, hl, hr, hEv⟩ hK
      have hL : Lst w a b r c ck (ck + 1) D W0.heap.size W := ⟨R, hl, hr, hEv, hK, hla, hE.rb.lt, hD, hE.bel.size⟩
      have HL := Lib.hid hL
      clear hL hEv hr hK
      gi_wp2
      gi_loopw [13] (fun i wr => ∃ k : Nat, k ≤ 600 ∧ i = .int .i64 (k : Int) ∧ Lst w a b r c ck (ck + 1) D W0.heap.size wr) (fun i _ => 600 - (intOf i).toNat)
      case atStart => exact ⟨0, by omega, rfl, HL.out⟩
      case round =>
        clear HL
        obtain ⟨k, hk, rfl, R, hR, hra, hEv, hK, l1, l2, l3, l4⟩ := hrel
        have HL := Lib.hid (And.intro hra (And.intro hEv hK))
        have HN := Lib.hid (callsIn_wide (n := 4 - 1) |>.2 (next_any _ a R wr hra (by omega)))
        clear hra hEv hK
        by_cases hlt : k < 600
        · have q0 : (k : Int) < 600 := by omega
          gi_wp2_with fail
          refine ⟨trivial, ?_⟩
          refine HN.out.mono ?_
          rintro e w2 ⟨rfl, hr2, ht2⟩
          have hE2 := HL.out.2.1.first HL.out.1 ht2
          have cc := hE2.box.cell
          have HN2 := Lib.hid (callsIn_wide (n := 4 - 1) |>.2 (next_any _ b R w2 hE2.rb (by omega)))
          have HT2 := Lib.hid (And.intro hr2 ht2)
          clear hE2 hr2 ht2
          gi_wp2_with fail
          refine ⟨trivial, ?_⟩
          refine HN2.out.mono ?_
          rintro e w3 ⟨rfl, hr3, ht3⟩
          obtain ⟨hL3, hA3, hE3, hK3⟩ := Lst.take hR HL.out.1 HL.out.2.1 HL.out.2.2 l1 l2 l3 l4 HT2.out.1 HT2.out.2 hr3 ht3
          have cc := hE3.box.cell
          have HLA := Lib.hid (fun nq => callsIn_wide (n := 4 - 1) |>.2 (left_any _ a (tl R) (w3.drewN nq) (hA3.below (below_drewN w3 nq))))
          have HLB := Lib.hid (fun nq => callsIn_wide (n := 4 - 1) |>.2 (left_any _ b (tl R) (w3.drewN nq) (hE3.rb.below (below_drewN w3 nq))))
          have cr := hE3.res.cell
          have fr := hE3.res.frozen
          have H3 := Lib.hid (And.intro hL3 (And.intro hA3 (And.intro hE3 hK3)))
          clear hL3 hA3 hE3 hK3 hr3 ht3
          obtain ⟨z, hz⟩ : ∃ z, z = (fl R != 0) := ⟨_, rfl⟩
          rw [← hz]
          clear hz
          gi_wp2_with fail
          refine wpIn_region_quiet_lit rfl (by kernel_rfl) (by kernel_rfl) ?_
          repeat (gi_big_quiet_step (fail))
          refine wpQuietIn_step (fun _ _ _ _ => trivial) (fun K hK => ?_)
          go_simp
          refine ⟨.int .i64 ((tl R).length : Int), fun n => CallsIn.quiet_of_same ((HLA.out n).mono fun _ _ h => ⟨h.1, h.2.symm⟩), hK _ ?_⟩
          clear hK K
          repeat (gi_big_quiet_step (fail))
          refine wpQuietIn_step (fun _ _ _ _ => trivial) (fun K hK => ?_)
          go_simp
          refine ⟨.int .i64 ((tl R).length : Int), fun n => CallsIn.quiet_of_same ((HLB.out n).mono fun _ _ h => ⟨h.1, h.2.symm⟩), hK _ ?_⟩
          clear hK K
          repeat (gi_big_quiet_step (fail))
          refine wpQuietIn_nil ?_
          rintro _ ⟨nq, rfl⟩
          cases z with
          | false =>
            gi_wp2
            have F := fin_all (H3.out.2.2.1.drewN nq) H3.out.2.2.2 (Nat.le_trans l4 l3)
            exact ⟨by simp, .inl ⟨_, _, rfl, (F #[undef, undef, undef, undef, ptr r] rfl).1, _, (F _ rfl).2.1, rfl, (F #[undef, undef, undef, undef, ptr r] rfl).2.2⟩⟩
          | true =>
            gi_wp2
            go_roundw
            case rel => exact ⟨k + 1, by omega, by go_num, H3.out.1.drewN nq⟩
            case measure => simp [intOf]; omega
        · have q0 : decide ((k : Int) < 600) = false := by simp; omega
          have cr := HL.out.2.1.res.cell
          have fr := HL.out.2.1.res.frozen
          gi_wp2
          have F := fin_all HL.out.2.1 HL.out.2.2 (Nat.le_trans l4 l3)
          exact ⟨by simp, .inl ⟨_, _, rfl, (F #[undef, undef, undef, undef, ptr r] rfl).1, _, (F _ rfl).2.1, rfl, (F #[undef, undef, undef, undef, ptr r] rfl).2.2⟩⟩
  · refine ⟨trivial, ?_⟩
    refine (each_in 3 a _).mono ?_
    rintro e w7 ⟨rfl, rfl⟩
    obtain ⟨hA, hE, hbx⟩ := HP6.out.ev3 ht (q) (by omega) (by omega)
    have hz : (((w6.alloc (.cells #[.int .i64 (q)] 3)).alloc (.cells #[.int .i64 0] 3)).alloc (.cells #[ptr a] 32)).heap.size = w6.heap.size + 3 := by simp
    gi_wp2_with fail
    generalize (((w6.alloc (.cells #[.int .i64 (q)] 3)).alloc (.cells #[.int .i64 0] 3)).alloc (.cells #[ptr a] 32)) = W0 at hA hE hbx hz ⊢
    obtain ⟨ck, hck⟩ : ∃ ck, ck = w6.heap.size := ⟨_, rfl⟩
    rw [← hck] at hE hbx hz ⊢
    clear hck
    have hla := hA.lt
    have HE := Lib.hid hE
    refine range_each (n := 4) (b := a) (B := ck + 1 + 1) (S := fun _ => True) (by omega) rfl rfl
      (fun R W => Ev w a b r c ck (ck + 1) R R W)
      (fun cd W => cd = .exit 0 ∧ ∃ R, R.length ≤ 1000 ∧ Rt a R W ∧ Ev w a b r c ck (ck + 1) R R W)
      (fun R A C h hr hT => h.first hr hT)
      (fun R A C row h hg hr => Ev.own (by have := hE.bel.size; omega) () A C row h hg hr)
      (fun cd u A C row h hg hr => by obtain ⟨h0, R, hl, h1, h2⟩ := h; exact ⟨h0, R, hl, h1.kept hg (fun r e => (hr r e).2), Ev.own (by have := hE.bel.size; omega) () A C row h2 hg hr⟩)
      t ⟨by omega, hA, hbx, hE⟩ ?a2 ?assigna2 ?bodya2 ?donea2 ?stopa2
    case assigna2 =>
      intro l x W K hK
      gi_wp2
      exact hK
    case bodya2 =>
      rintro l R W hf hl hr hbx2 hEv
      have hl3 : R.length ≤ 1000 := by obtain ⟨m, hm, _⟩ := hEv.mm; omega
      have cc := hEv.box.cell
      have hN := CallsIn.inRound l (callsIn_wide (n := 2 - 1) |>.2 (next_any _ b R W hEv.rb hl))
      rw [show (fl R != 0) = true by simpa using hf] at hN
      have HN := Lib.hid hN
      have HEV := Lib.hid hEv
      have HR := Lib.hid hr
      have h2 := fl_two R hf
      have htl := tl_length R
      have hle := fl_le R
      clear hN hEv hr
      gi_wp2_with fail
      refine ⟨trivial, ?_⟩
      refine HN.out.mono ?_
      rintro e W2 ⟨rfl, hr2, ht2⟩
      have hE2 := HEV.out.other hr2 ht2
      have hA2 := HR.out.apart HEV.out.rb (fun e => HEV.out.ne e.symm) ht2
      have hbx3 := ht2.boxed hbx2 (HEV.out.rb.ne_box hbx2)
      have hkf : KeepsFrom W0.heap.size W W2 := ⟨ht2.size, fun i o hB hi _ => (ht2.block i (Array.getElem?_eq_some_iff.1 hi).1 (by have := HE.out.rb.lt; omega)).trans hi⟩
      obtain ⟨k, k1, k2, hk⟩ := hE2.kk
      obtain ⟨m, m1, hm⟩ := hE2.mm
      have hE3 := hE2.count (R1 := tl R) hm (by omega)
      have ht3 : Tr (· = ck + 1) W2 (W2.setCell ⟨ck + 1, 0, none⟩ (.int .i64 ((m : Int) + 1))) := (Tr.refl (· = ck + 1) W2).setCell (.inl rfl) _
      have hA3 := hA2.boxset hm (by decide) ht3
      have hbx4 := ht3.boxed hbx3 (by omega)
      have hkf2 := hkf.trans ((KeepsOthers.setCell W2 ⟨ck + 1, 0, none⟩ (.int .i64 ((m : Int) + 1))).from W0.heap.size)
      have ck0 := hk.cell
      have cm0 := hm.cell
      have fm0 := hm.frozen
      have dk0 := (ht3.boxed hk (by omega)).cell
      have dm0 := (hm.set (.int .i64 ((m : Int) + 1))).cell
      have A := Lib.hid (And.intro hE3 (And.intro hA3 (And.intro hbx4 hkf2)))
      clear hE2 hA2 hbx3 hkf hk hm hE3 ht3 hA3 hbx4 hkf2 hr2 ht2 cc hbx2
      gi_wp2
      · exact ⟨A.out.2.2.2, rfl, tl R, by omega, A.out.2.1, A.out.1⟩
      · exact ⟨A.out.2.2.2, by omega, A.out.2.1, A.out.2.2.1, A.out.1⟩
    case donea2 =>
      rintro D R W hD hf ⟨hl, hr, hbx2, hEv⟩ hK
      have hL : Lst w a b r c ck (ck + 1) D W0.heap.size W := ⟨R, by obtain ⟨m, hm, _⟩ := hEv.mm; omega, hr, hEv, hK, hla, hE.rb.lt, hD, hE.bel.size⟩
      have HL := Lib.hid hL
      clear hL hEv hr hK
      gi_wp2
      gi_loopw [13] (fun i wr => ∃ k : Nat, k ≤ 600 ∧ i = .int .i64 (k : Int) ∧ Lst w a b r c ck (ck + 1) D W0.heap.size wr) (fun i _ => 600 - (intOf i).toNat)
      case atStart => exact ⟨0, by omega, rfl, HL.out⟩
      case round =>
        clear HL
        obtain ⟨k, hk, rfl, R, hR, hra, hEv, hK, l1, l2, l3, l4⟩ := hrel
        have HL := Lib.hid (And.intro hra (And.intro hEv hK))
        have HN := Lib.hid (callsIn_wide (n := 4 - 1) |>.2 (next_any _ a R wr hra (by omega)))
        clear hra hEv hK
        by_cases hlt : k < 600
        · have q0 : (k : Int) < 600 := by omega
          gi_wp2_with fail
          refine ⟨trivial, ?_⟩
          refine HN.out.mono ?_
          rintro e w2 ⟨rfl, hr2, ht2⟩
          have hE2 := HL.out.2.1.first HL.out.1 ht2
          have cc := hE2.box.cell
          have HN2 := Lib.hid (callsIn_wide (n := 4 - 1) |>.2 (next_any _ b R w2 hE2.rb (by omega)))
          have HT2 := Lib.hid (And.intro hr2 ht2)
          clear hE2 hr2 ht2
          gi_wp2_with fail
          refine ⟨trivial, ?_⟩
          refine HN2.out.mono ?_
          rintro e w3 ⟨rfl, hr3, ht3⟩
          obtain ⟨hL3, hA3, hE3, hK3⟩ := Lst.take hR HL.out.1 HL.out.2.1 HL.out.2.2 l1 l2 l3 l4 HT2.out.1 HT2.out.2 hr3 ht3
          have cc := hE3.box.cell
          have HLA := Lib.hid (fun nq => callsIn_wide (n := 4 - 1) |>.2 (left_any _ a (tl R) (w3.drewN nq) (hA3.below (below_drewN w3 nq))))
          have HLB := Lib.hid (fun nq => callsIn_wide (n := 4 - 1) |>.2 (left_any _ b (tl R) (w3.drewN nq) (hE3.rb.below (below_drewN w3 nq))))
          have cr := hE3.res.cell
          have fr := hE3.res.frozen
          have H3 := Lib.hid (And.intro hL3 (And.intro hA3 (And.intro hE3 hK3)))
          clear hL3 hA3 hE3 hK3 hr3 ht3
          obtain ⟨z, hz⟩ : ∃ z, z = (fl R != 0) := ⟨_, rfl⟩
          rw [← hz]
          clear hz
          gi_wp2_with fail
          refine wpIn_region_quiet_lit rfl (by kernel_rfl) (by kernel_rfl) ?_
          repeat (gi_big_quiet_step (fail))
          refine wpQuietIn_step (fun _ _ _ _ => trivial) (fun K hK => ?_)
          go_simp
          refine ⟨.int .i64 ((tl R).length : Int), fun n => CallsIn.quiet_of_same ((HLA.out n).mono fun _ _ h => ⟨h.1, h.2.symm⟩), hK _ ?_⟩
          clear hK K
          repeat (gi_big_quiet_step (fail))
          refine wpQuietIn_step (fun _ _ _ _ => trivial) (fun K hK => ?_)
          go_simp
          refine ⟨.int .i64 ((tl R).length : Int), fun n => CallsIn.quiet_of_same ((HLB.out n).mono fun _ _ h => ⟨h.1, h.2.symm⟩), hK _ ?_⟩
          clear hK K
          repeat (gi_big_quiet_step (fail))
          refine wpQuietIn_nil ?_
          rintro _ ⟨nq, rfl⟩
          cases z with
          | false =>
            gi_wp2
            have F := fin_all (H3.out.2.2.1.drewN nq) H3.out.2.2.2 (Nat.le_trans l4 l3)
            exact ⟨by simp, .inl ⟨_, _, rfl, (F #[undef, undef, undef, undef, ptr r] rfl).1, _, (F _ rfl).2.1, rfl, (F #[undef, undef, undef, undef, ptr r] rfl).2.2⟩⟩
          | true =>
            gi_wp2
            go_roundw
            case rel => exact ⟨k + 1, by omega, by go_num, H3.out.1.drewN nq⟩
            case measure => simp [intOf]; omega
        · have q0 : decide ((k : Int) < 600) = false := by simp; omega
          have cr := HL.out.2.1.res.cell
          have fr := HL.out.2.1.res.frozen
          gi_wp2
          have F := fin_all HL.out.2.1 HL.out.2.2 (Nat.le_trans l4 l3)
          exact ⟨by simp, .inl ⟨_, _, rfl, (F #[undef, undef, undef, undef, ptr r] rfl).1, _, (F _ rfl).2.1, rfl, (F #[undef, undef, undef, undef, ptr r] rfl).2.2⟩⟩
    case stopa2 =>
      rintro D cd W hD ⟨rfl, R, hl, hr, hEv⟩ hK
      have hL : Lst w a b r c ck (ck + 1) D W0.heap.size W := ⟨R, hl, hr, hEv, hK, hla, hE.rb.lt, hD, hE.bel.size⟩
      have HL := Lib.hid hL
      clear hL hEv hr hK
      gi_wp2
      gi_loopw [13] (fun i wr => ∃ k : Nat, k ≤ 600 ∧ i = .int .i64 (k : Int) ∧ Lst w a b r c ck (ck + 1) D W0.heap.size wr) (fun i _ => 600 - (intOf i).toNat)
      case atStart => exact ⟨0, by omega, rfl, HL.out⟩
      case round =>
        clear HL
        obtain ⟨k, hk, rfl, R, hR, hra, hEv, hK, l1, l2, l3, l4⟩ := hrel
        have HL := Lib.hid (And.intro hra (And.intro hEv hK))
        have HN := Lib.hid (callsIn_wide (n := 4 - 1) |>.2 (next_any _ a R wr hra (by omega)))
        clear hra hEv hK
        by_cases hlt : k < 600
        · have q0 : (k : Int) < 600 := by omega
          gi_wp2_with fail
          refine ⟨trivial, ?_⟩
          refine HN.out.mono ?_
          rintro e w2 ⟨rfl, hr2, ht2⟩
          have hE2 := HL.out.2.1.first HL.out.1 ht2
          have cc := hE2.box.cell
          have HN2 := Lib.hid (callsIn_wide (n := 4 - 1) |>.2 (next_any _ b R w2 hE2.rb (by omega)))
          have HT2 := Lib.hid (And.intro hr2 ht2)
          clear hE2 hr2 ht2
          gi_wp2_with fail
          refine ⟨trivial, ?_⟩
          refine HN2.out.mono ?_
          rintro e w3 ⟨rfl, hr3, ht3⟩
          obtain ⟨hL3, hA3, hE3, hK3⟩ := Lst.take hR HL.out.1 HL.out.2.1 HL.out.2.2 l1 l2 l3 l4 HT2.out.1 HT2.out.2 hr3 ht3
          have cc := hE3.box.cell
          have HLA := Lib.hid (fun nq => callsIn_wide (n := 4 - 1) |>.2 (left_any _ a (tl R) (w3.drewN nq) (hA3.below (below_drewN w3 nq))))
          have HLB := Lib.hid (fun nq => callsIn_wide (n := 4 - 1) |>.2 (left_any _ b (tl R) (w3.drewN nq) (hE3.rb.below (below_drewN w3 nq))))
          have cr := hE3.res.cell
          have fr := hE3.res.frozen
          have H3 := Lib.hid (And.intro hL3 (And.intro hA3 (And.intro hE3 hK3)))
          clear hL3 hA3 hE3 hK3 hr3 ht3
          obtain ⟨z, hz⟩ : ∃ z, z = (fl R != 0) := ⟨_, rfl⟩
          rw [← hz]
          clear hz
          gi_wp2_with fail
          refine wpIn_region_quiet_lit rfl (by kernel_rfl) (by kernel_rfl) ?_
          repeat (gi_big_quiet_step (fail))
          refine wpQuietIn_step (fun _ _ _ _ => trivial) (fun K hK => ?_)
          go_simp
          refine ⟨.int .i64 ((tl R).length : Int), fun n => CallsIn.quiet_of_same ((HLA.out n).mono fun _ _ h => ⟨h.1, h.2.symm⟩), hK _ ?_⟩
          clear hK K
          repeat (gi_big_quiet_step (fail))
          refine wpQuietIn_step (fun _ _ _ _ => trivial) (fun K hK => ?_)
          go_simp
          refine ⟨.int .i64 ((tl R).length : Int), fun n => CallsIn.quiet_of_same ((HLB.out n).mono fun _ _ h => ⟨h.1, h.2.symm⟩), hK _ ?_⟩
          clear hK K
          repeat (gi_big_quiet_step (fail))
          refine wpQuietIn_nil ?_
          rintro _ ⟨nq, rfl⟩
          cases z with
          | false =>
            gi_wp2
            have F := fin_all (H3.out.2.2.1.drewN nq) H3.out.2.2.2 (Nat.le_trans l4 l3)
            exact ⟨by simp, .inl ⟨_, _, rfl, (F #[undef, undef, undef, undef, ptr r] rfl).1, _, (F _ rfl).2.1, rfl, (F #[undef, undef, undef, undef, ptr r] rfl).2.2⟩⟩
          | true =>
            gi_wp2
            go_roundw
            case rel => exact ⟨k + 1, by omega, by go_num, H3.out.1.drewN nq⟩
            case measure => simp [intOf]; omega
        · have q0 : decide ((k : Int) < 600) = false := by simp; omega
          have cr := HL.out.2.1.res.cell
          have fr := HL.out.2.1.res.frozen
          gi_wp2
          have F := fin_all HL.out.2.1 HL.out.2.2 (Nat.le_trans l4 l3)
          exact ⟨by simp, .inl ⟨_, _, rfl, (F #[undef, undef, undef, undef, ptr r] rfl).1, _, (F _ rfl).2.1, rfl, (F #[undef, undef, undef, undef, ptr r] rfl).2.2⟩⟩
theorem lawEach_any (s : ByteArray) (x : Int) (hx : -9223372036854775808 ≤ x ∧ x ≤ 9223372036854775807) (w : World) :
    Calls Try.prog 6 #[.string s, .int .i64 x] w fun e w' => e = .returned (.bool true) ∧ Below w.heap.size w w' :=
  (callsIn_wide (n := 4)).1 (lawEach_in s x hx w)
end Go.Proofs.Ytnhjbhmhloeaeaa
