/-
  The operations of a log that is opened, in turn.
-/
import Derived.Test.YtpiiknbjllgaoaaWOpn
namespace Go.Proofs.Ytpiiknbjllgaoaa
open Go.RowKit
theorem dis_lo (x : Ld) : x.dis.lo = x.lo := by
  unfold Ld.dis Ld.rem Ld.af
  split
  · split
    · rfl
    · split
      · rfl
      · split
        · rfl
        · split <;> rfl
  · rfl
theorem dis_byt (x : Ld) : x.dis.byt false = x.byt false := by
  unfold Ld.byt Ld.get
  simp only [Bool.false_eq_true, if_false, dis_lo]
theorem dis_off {x : Ld} (h : x.off = false) (h0 : x.disE = 0) : x.dis.off = false := by
  unfold Ld.disE at h0
  unfold Ld.dis
  split
  · rename_i hn
    rw [if_pos hn] at h0
    unfold Ld.rem
    rw [if_pos h0]
    exact h
  · exact h
theorem cu_lo {x : Ld} (h : x.lo.isSome = true) (n : Nat) : (x.cu n).lo.isSome = true := by
  unfold Ld.cu Ld.cut Ld.af
  split
  · exact h
  · split
    · rfl
    · split
      · exact h
      · split
        · exact h
        · split
          · exact h
          · exact h
theorem cu_ok {x : Ld} {n m : Nat} (k : Nat) (h : x.Okn (n + 1) m) : (x.cu k).Okn n m := by
  unfold Ld.cu
  split
  · exact h.less (by omega) (Nat.le_refl _)
  · exact cut_ok false k h
/-- The texts that are there, and how many bytes their records have. -/
def Ld.recs (x : Ld) : List Bs := Proofs.Ytpiiknbjllgaoaa.recs (x.byt false)
def Ld.good (x : Ld) : Nat := (rcsB x.recs).length
def opS (x : Ld) : Nat → Ld
  | 0 => x
  | 1 => x.dis
  | 2 => x.dis
  | 3 => x.dis.cu x.good
  | _ => (x.dis.cu x.good).syn false
def opK (x : Ld) : Nat → Int
  | 0 => x.disE
  | 1 => 0
  | 2 => x.dis.cuE x.good
  | _ => (x.dis.cu x.good).E ((x.dis.cu x.good).has false)
def opE4 (x : Ld) : Int := if opK x 0 ≠ 0 then opK x 0 else if opK x 2 ≠ 0 then opK x 2 else opK x 3
def opX4 (x : Ld) : Ld := if opK x 0 ≠ 0 then opS x 1 else if opK x 2 ≠ 0 then opS x 3 else opS x 4
theorem op_stop (x : Ld) (k : Nat) (hk : k < 4) (h : ∀ j, j < k → opK x j = 0) (hz : opK x k ≠ 0) : opE4 x = opK x k ∧ opX4 x = opS x (k + 1) := by
  unfold opE4 opX4
  match k, hk with
  | 0, _ => simp [hz]
  | 1, _ => exact absurd rfl hz
  | 2, _ => have h0 := h 0 (by omega); simp [h0, hz]
  | 3, _ => have h0 := h 0 (by omega); have h2 := h 2 (by omega); simp [h0, h2]
theorem op_done (x : Ld) (h : ∀ j, j < 4 → opK x j = 0) : opE4 x = 0 ∧ opX4 x = opS x 4 := by
  have h0 := h 0 (by omega); have h2 := h 2 (by omega); have h3 := h 3 (by omega)
  unfold opE4 opX4
  simp [h0, h2, h3]
theorem op_ok {x : Ld} {n m : Nat} (h : x.Okn (n + 3) m) : ∀ k, k ≤ 4 → (opS x k).Okn n m := by
  intro k hk
  have h1 := dis_ok (n := n + 2) h
  have h3 := cu_ok (n := n + 1) x.good h1
  have h4 := syn_ok (n := n) false h3
  match k, hk with
  | 0, _ => exact h.less (by omega) (Nat.le_refl _)
  | 1, _ => exact h1.less (by omega) (Nat.le_refl _)
  | 2, _ => exact h1.less (by omega) (Nat.le_refl _)
  | 3, _ => exact h3.less (by omega) (Nat.le_refl _)
  | 4, _ => exact h4
/-- How it stands between. -/
structure OpI (S : Nat → Prop) (b : Nat) (y : Ld) (Y Q Z : Nat) (w w1 : World) (S1 : Nat → Prop) : Prop where
  pd : PD S1 b y.dk w1
  bd : ∀ j, S1 j → (S j ∨ w.heap.size ≤ j) ∧ j < w1.heap.size
  tr : Tr (fun j => S j ∨ j = Y ∨ j = Q ∨ j = Z) w w1
def OpV (x : Ld) (Y Q Z : Nat) (w w1 : World) (S1 : Nat → Prop) : Prop := ∃ v, Boxed w1 Y 9 (str (x.byt false)) ∧ Boxed w1 Q 27 v ∧ Boxed w1 Z 3 (.int .i64 (x.good : Int)) ∧ RdB w1 v x.recs ∧ ∀ j, v.ownBlock = some j → w.heap.size ≤ j ∧ j < w1.heap.size ∧ ¬ S1 j
theorem boxed_tr {S : Nat → Prop} {w w' : World} {B t : Nat} {v : Value} (h : Boxed w B t v) (ht : Tr S w w') (hS : ¬ S B) : Boxed w' B t v := (ht.block B h.lt hS).trans h
section
variable {S : Nat → Prop} {b : Nat} {x y y' : Ld} {w w1 w2 : World} {Y Q Z : Nat} {S1 : Nat → Prop}
/-- A step of the disk. -/
theorem OpI.step (h : OpI S b y Y Q Z w w1 S1) (l : Lft S1 b y'.dk w1 w2) : OpI S b y' Y Q Z w w2 (fun j => andNew S1 w1.heap.size j ∧ j < w2.heap.size) := by
  refine ⟨l.1.now, fun j hj => ⟨?_, hj.2⟩, h.tr.trans l.2 fun i hi => (h.bd i hi).1.imp .inl id⟩
  rcases hj.1 with hj | hj
  · exact (h.bd j hj).1
  · exact .inr (Nat.le_trans h.tr.size hj)
theorem OpV.step (v : OpV x Y Q Z w w1 S1) (l : Lft S1 b y'.dk w1 w2) (hY : ¬ S1 Y) (hQ : ¬ S1 Q) (hZ : ¬ S1 Z) : OpV x Y Q Z w w2 (fun j => andNew S1 w1.heap.size j ∧ j < w2.heap.size) := by
  obtain ⟨v, a, c, d, e, f⟩ := v
  refine ⟨v, boxed_tr a l.2 hY, boxed_tr c l.2 hQ, boxed_tr d l.2 hZ, e.tr l.2 fun j hj => (f j hj).2.2, fun j hj => ⟨(f j hj).1, Nat.lt_of_lt_of_le (f j hj).2.1 l.2.size, ?_⟩⟩
  rintro ⟨h1, _⟩
  have := (f j hj).2
  rcases h1 with h1 | h1
  · exact this.2 h1
  · omega
theorem turnO (h : PD S b x.dk w) (hSw : ∀ j, S j → j < w.heap.size) (ok : x.Okn 3 0) (hlo : x.lo.isSome = true) (hoff : x.off = false) {D A C1 C2 g : Nat} (cap : Nat) (W : OpA w S b D Y Q Z A C1 C2 g)
    (cA : w.cell? ⟨A, 0, none⟩ = some (ptr b)) (cC1 : w.cell? ⟨C1, 0, none⟩ = some (ptr b)) (cC2 : w.cell? ⟨C2, 0, none⟩ = some (.string (nmOf false))) (cD : w.cell? ⟨D, 0, none⟩ = some (ptr b))
    {y0 q0 z0 : Value} (cY : Boxed w Y 9 y0) (cQ : Boxed w Q 27 q0) (cZ : Boxed w Z 3 z0)
    (g0 : w.cell? ⟨g, 0, none⟩ = some (Tst.val ⟨63, #[], #[ptr A]⟩)) (g1 : w.cell? ⟨g, 1, none⟩ = some (Tst.val ⟨34, #[], #[ptr D, ptr Y, ptr Q, ptr Z]⟩)) (g2 : w.cell? ⟨g, 2, none⟩ = some (Tst.val ⟨36, #[], #[ptr Z, ptr Y, ptr D]⟩)) (g3 : w.cell? ⟨g, 3, none⟩ = some (Tst.val ⟨65, #[], #[ptr C1, ptr C2]⟩)) :
    Calls Try.prog 41 #[.slice (some ⟨g, 0, none⟩) 4 cap] w fun e w' => e = .returned (.int .i64 (opE4 x)) ∧ ∃ S1, OpI S b (opX4 x) Y Q Z w w' S1 ∧ (opE4 x = 0 → OpV x Y Q Z w w' S1) := by
  obtain ⟨⟨lD, lY, lQ, lZ, lA, lC1, lC2, lg⟩, ⟨n1, n2, n3, n4, n5, n6⟩, ⟨uD, uY, uQ, uZ, uA, uC1, uC2, ug⟩⟩ := W
  have hok := op_ok (n := 0) (m := 0) (x := x) ok
  refine (inTurn_any [⟨63, #[], #[ptr A]⟩, ⟨34, #[], #[ptr D, ptr Y, ptr Q, ptr Z]⟩, ⟨36, #[], #[ptr Z, ptr Y, ptr D]⟩, ⟨65, #[], #[ptr C1, ptr C2]⟩] g 4 cap rfl (by decide) w
    (fun k w1 => ∃ S1, OpI S b (opS x k) Y Q Z w w1 S1 ∧ (k ≤ 1 → Boxed w1 Y 9 y0 ∧ Boxed w1 Q 27 q0 ∧ Boxed w1 Z 3 z0) ∧ (2 ≤ k → OpV x Y Q Z w w1 S1) ∧ ∀ j, j < k → opK x j = 0)
    (fun z w1 => z = opE4 x ∧ ∃ S1, OpI S b (opX4 x) Y Q Z w w1 S1) ?_ ?_ ?_ ⟨S, ⟨h, fun j hj => ⟨.inl hj, hSw j hj⟩, Tr.refl _ _⟩, fun _ => ⟨cY, cQ, cZ⟩, fun h => by omega, fun j hj => by omega⟩).mono ?_
  · intro k t w1 ht hK
    obtain ⟨S1, hI, _⟩ := hK
    have mv : ∀ {i : Nat} {v : Value}, w.cell? ⟨g, i, none⟩ = some v → w1.cell? ⟨g, i, none⟩ = some v := fun hp => (hI.tr.cell (p := ⟨g, _, none⟩) lg (fun e => by rcases e with e | e | e | e; exact ug e; exact n6.1 e; exact n6.2.1 e; exact n6.2.2 e)).trans hp
    match k, ht with
    | 0, ht => cases ht; exact mv g0
    | 1, ht => cases ht; exact mv g1
    | 2, ht => cases ht; exact mv g2
    | 3, ht => cases ht; exact mv g3
  · intro k t ht
    match k, ht with
    | 0, ht => cases ht; exact ent63
    | 1, ht => cases ht; exact ent34
    | 2, ht => cases ht; exact ent36
    | 3, ht => cases ht; exact ent65
  · intro k t w1 ht hK
    obtain ⟨S1, hI, hbx, hV, hz⟩ := hK
    have out : ∀ {q : Nat}, q < w.heap.size → ¬ S q → ¬ S1 q := fun hq hs h1 => by
      rcases (hI.bd _ h1).1 with h2 | h2
      · exact hs h2
      · omega
    have mv : ∀ {q : Nat} {v : Value}, q < w.heap.size → ¬ S q → q ≠ Y → q ≠ Q → q ≠ Z → w.cell? ⟨q, 0, none⟩ = some v → w1.cell? ⟨q, 0, none⟩ = some v := fun hq hs a1 a2 a3 hp => (hI.tr.cell (p := ⟨_, 0, none⟩) hq (fun e => by rcases e with e | e | e | e; exact hs e; exact a1 e; exact a2 e; exact a3 e)).trans hp
    have fin : ∀ {e : Ending} {w2 : World} {S2 : Nat → Prop}, k < 4 → e = .returned (.int .i64 (opK x k)) → OpI S b (opS x (k + 1)) Y Q Z w w2 S2 → (k + 1 ≤ 1 → Boxed w2 Y 9 y0 ∧ Boxed w2 Q 27 q0 ∧ Boxed w2 Z 3 z0) → (2 ≤ k + 1 → OpV x Y Q Z w w2 S2) →
        (e = .returned (.int .i64 0) ∧ ∃ S1, OpI S b (opS x (k + 1)) Y Q Z w w2 S1 ∧ (k + 1 ≤ 1 → Boxed w2 Y 9 y0 ∧ Boxed w2 Q 27 q0 ∧ Boxed w2 Z 3 z0) ∧ (2 ≤ k + 1 → OpV x Y Q Z w w2 S1) ∧ ∀ j, j < k + 1 → opK x j = 0) ∨
          ∃ z, z ≠ 0 ∧ e = .returned (.int .i64 z) ∧ (z = opE4 x ∧ ∃ S1, OpI S b (opX4 x) Y Q Z w w2 S1) := by
      intro e w2 S2 hk4 he hI2 hb2 hV2
      by_cases h0 : opK x k = 0
      · refine .inl ⟨by rw [he, h0], S2, hI2, hb2, hV2, fun j hj => ?_⟩
        by_cases e : j = k
        · rw [e]; exact h0
        · exact hz j (by omega)
      · obtain ⟨e1, e2⟩ := op_stop x k hk4 hz h0
        exact .inr ⟨_, h0, he, e1.symm, S2, by rw [e2]; exact hI2⟩
    match k, ht with
    | 0, ht =>
      cases ht
      refine (dis_any hI.pd (hok 0 (by omega)).ok (mv lA uA n3.1 n3.2.1 n3.2.2 cA)).mono fun e w2 hh => ?_
      obtain ⟨b1, b2, b3⟩ := hbx (by omega)
      exact fin (by omega) hh.1 (hI.step hh.2) (fun _ => ⟨boxed_tr b1 hh.2.2 (out lY uY), boxed_tr b2 hh.2.2 (out lQ uQ), boxed_tr b3 hh.2.2 (out lZ uZ)⟩) (fun h => by omega)
    | 1, ht =>
      cases ht
      obtain ⟨b1, b2, b3⟩ := hbx (by omega)
      have h0 : x.disE = 0 := hz 0 (by omega)
      refine (opn1_any (x := x.dis) hI.pd (hok 1 (by omega)).ok (by rw [dis_lo]; exact hlo) (dis_off hoff h0) (out lY uY) (out lQ uQ) (out lZ uZ) n1 n2 (mv lD uD n2.1 n2.2.1 n2.2.2 cD) b1 b2 b3).mono fun e w2 hh => ?_
      obtain ⟨he, hp, ht, v, c1, c2, c3, c4, c5⟩ := hh
      rw [dis_byt] at c1 c3 c4
      exact fin (by omega) he ⟨hp, fun j hj => ⟨(hI.bd j hj).1, Nat.lt_of_lt_of_le (hI.bd j hj).2 ht.size⟩, hI.tr.then (ht.mono fun _ => .inr)⟩ (fun h => by omega)
        (fun _ => ⟨v, c1, c2, c3, c4, fun j hj => ⟨Nat.le_trans hI.tr.size (c5 j hj).1, (c5 j hj).2, fun hs => by have := (hI.bd j hs).2; have := (c5 j hj).1; omega⟩⟩)
    | 2, ht =>
      cases ht
      obtain ⟨v, c1, c2, c3, c4, c5⟩ := hV (by omega)
      have hle : x.good ≤ (x.dis.byt false).length := by rw [dis_byt]; exact rcs_len _
      refine (opn2_any (x := x.dis) hI.pd (hok 2 (by omega)).ok (by rw [dis_lo]; exact hlo) x.good hle (mv lD uD n2.1 n2.2.1 n2.2.2 cD) (by rw [dis_byt]; exact c1.cell) c3.cell).mono fun e w2 hh => ?_
      exact fin (by omega) hh.1 (hI.step hh.2) (fun h => by omega) (fun _ => OpV.step ⟨v, c1, c2, c3, c4, c5⟩ hh.2 (out lY uY) (out lQ uQ) (out lZ uZ))
    | 3, ht =>
      cases ht
      refine (syn_any hI.pd (hok 3 (by omega)).ok false (mv lC1 uC1 n4.1 n4.2.1 n4.2.2 cC1) (mv lC2 uC2 n5.1 n5.2.1 n5.2.2 cC2)).mono fun e w2 hh => ?_
      exact fin (by omega) hh.1 (hI.step hh.2) (fun h => by omega) (fun _ => (hV (by omega)).step hh.2 (out lY uY) (out lQ uQ) (out lZ uZ))
  · rintro e w' (⟨rfl, hK⟩ | ⟨z, hz, rfl, rfl, S1, hI⟩)
    · obtain ⟨S1, hI, _, hV, hz⟩ := hK
      obtain ⟨e1, e2⟩ := op_done x hz
      rw [e1, e2]
      exact ⟨rfl, S1, hI, fun _ => hV (by omega)⟩
    · exact ⟨rfl, S1, hI, fun h => absurd h hz⟩
end
end Go.Proofs.Ytpiiknbjllgaoaa
