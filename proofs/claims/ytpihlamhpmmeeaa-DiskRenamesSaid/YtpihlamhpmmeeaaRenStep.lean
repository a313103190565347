/-
  Steps of a disk beside two lists of two texts.
-/
import Derived.Test.YtpihlamhpmmeeaaRenMath
namespace Go.Proofs.Ytpihlamhpmmeeaa
open Go.RowKit
/-- A disk, and beside it two lists of two texts. -/
structure RB (n : Nat) (S : Nat → Prop) (w0 : World) (b P Q : Nat) (A B C D : ByteArray) (d : Dk) (w : World) : Prop where
  na : NA n S w0 b d w
  p : Blk 46 w P (.string A) (.string B)
  q : Blk 46 w Q (.string C) (.string D)
  nP : ¬ S P
  nQ : ¬ S Q
section
variable {n : Nat} {S : Nat → Prop} {w0 w w' : World} {b P Q c : Nat} {A B C D : ByteArray} {d d1 : Dk} {fs : List Fl}
theorem RB.step (h : RB n S w0 b P Q A B C D d w) (l : Lft S b d1 w w') : ∃ S1, RB n S1 w0 b P Q A B C D d1 w' := by
  obtain ⟨S1, h1, k, _⟩ := h.na.step l
  exact ⟨S1, h1, h.p.tr l.2 h.nP, h.q.tr l.2 h.nQ, (k P h.p.lt h.nP).1, (k Q h.q.lt h.nQ).1⟩
theorem RB.mv (h : RB n S w0 b P Q A B C D d w) (hb : Below w.heap.size w w') : RB n S w0 b P Q A B C D d w' :=
  ⟨h.na.mv hb, h.p.tr (Tr.of_below (S := fun _ => False) hb) (fun h => h), h.q.tr (Tr.of_below (S := fun _ => False) hb) (fun h => h), h.nP, h.nQ⟩
theorem RB.app (h : RB n S w0 b P Q A B C D (dk c fs) w) (k : ByteArray) (hk : Gn k) (s : ByteArray) (hs : s.size ≤ 200) (hU : usedL fs ≤ 2000) (hc : c ≤ 100) (hl : fs.length ≤ 3) (hd : addTo (dk (c + 1) fs) k s.data.toList = d1) :
    Calls Try.prog 11 #[ptr b, .string k, .string s] w fun e w' => e = .returned (.int .i64 0) ∧ ∃ S1, RB n S1 w0 b P Q A B C D d1 w' := by
  have hsz := size_list s
  have a := append_any h.na.p k hk s (by omega) (by show c ≤ _; omega) (by show 0 ≤ _; omega) (by show usedL fs ≤ _; omega) (by show 100000 ≤ _; omega) (by show fs.length ≤ _; omega)
  rw [dk_E (by omega), dk_D (by omega), hd] at a
  exact a.mono fun e w' ⟨he, l⟩ => ⟨he, h.step l⟩
theorem RB.sync (h : RB n S w0 b P Q A B C D (dk c fs) w) (k : ByteArray) (hk : Gn k) (hc : c ≤ 100) (hf : (findF fs k).isSome = true) {fs1 : List Fl} (hd : withF fs k (fun f => ⟨f.name, f.data, f.data.length⟩) = fs1) :
    Calls Try.prog 12 #[ptr b, .string k] w fun e w' => e = .returned (.int .i64 0) ∧ ∃ S1, RB n S1 w0 b P Q A B C D (dk (c + 1) fs1) w' := by
  have a := sync_any h.na.p k hk (by show c ≤ _; omega) (by show 0 ≤ _; omega)
  rw [(dk_S hf).1, (dk_S hf).2, hd] at a
  exact a.mono fun e w' ⟨he, l⟩ => ⟨he, h.step l⟩
theorem RB.read (h : RB n S w0 b P Q A B C D (dk c fs) w) (k : ByteArray) (hk : Gn k) {f : Fl} (hf : findF fs k = some f) :
    Calls Try.prog 13 #[ptr b, .string k] w fun e w' => e = .returned (.tuple #[.string ⟨f.data.toArray⟩, .int .i64 0]) ∧ RB n S w0 b P Q A B C D (dk c fs) w' := by
  have a := read_any h.na.p k hk
  rw [(dk_R hf).1, (dk_R hf).2] at a
  exact a.mono fun e w' ⟨he, l⟩ => ⟨he, h.mv l⟩
theorem RB.void (h : RB n S w0 b P Q A B C D (dk c fs) w) (k : ByteArray) (hk : Gn k) (hf : findF fs k = none) :
    Calls Try.prog 13 #[ptr b, .string k] w fun e w' => e = .returned (.tuple #[.string ⟨#[]⟩, .int .i64 12]) ∧ RB n S w0 b P Q A B C D (dk c fs) w' := by
  have a := read_any h.na.p k hk
  rw [(dk_N hf).1, (dk_N hf).2] at a
  exact a.mono fun e w' ⟨he, l⟩ => ⟨he, h.mv l⟩
/-- The three files, made and renamed. -/
theorem RB.ren (a0 a1 b0 b1 : Bs) (h : RB n S w0 b P Q A B C D (dk 8 [gFC, gFB b0 b1, gFA a0 a1]) w) :
    Calls Try.prog 20 #[ptr b, .string nA, .string nB] w fun e w' => e = .returned (.int .i64 0) ∧ ∃ S1, RB n S1 w0 b P Q A B C D (dk 9 [gFR a0 a1, gFC]) w' := by
  have a := rename_any h.na.p nA nB gA gB (by show 8 ≤ _; omega) (by show 0 ≤ _; omega) (by show 3 ≤ _; omega)
  rw [(t9 a0 a1 b0 b1).1, (t9 a0 a1 b0 b1).2] at a
  exact a.mono fun e w' ⟨he, l⟩ => ⟨he, h.step l⟩
theorem RB.used (h : RB n S w0 b P Q A B C D (dk c fs) w) (hU : usedL fs ≤ 2000) :
    Calls Try.prog 18 #[ptr b] w fun e w' => e = .returned (.int .i64 (usedL fs : Int)) ∧ RB n S w0 b P Q A B C D (dk c fs) w' :=
  (used_any h.na.p (by show usedL fs ≤ _; omega)).mono fun _ _ ⟨he, l⟩ => ⟨he, h.mv l⟩
/-- A crash of the two files that are left. -/
theorem RB.crash {l : Bs} {N : Nat} (h : RB n S w0 b P Q A B C D (dk c [⟨nB, l, N⟩, gFC]) w) {v : Value} {ps : List Int} (hp : RdI (· < n) w0 v ps) (hw : w0.heap.size = n) (hU : l.length ≤ 1000) :
    Calls Try.prog 14 #[ptr b, v] w fun e w' => (∃ u, e = .returned u) ∧ ∃ p S1, RB n S1 w0 b P Q A B C D (dk c [⟨nB, lx N l p, (lx N l p).length⟩, gFC]) w' := by
  subst hw
  exact (crash_two h.na (hp.below h.na.bel) (fun g hg hs => by have := (h.na.hS g hs).1; omega) (by omega)).mono fun _ _ ⟨he, p, l⟩ => ⟨he, p, h.step l⟩
theorem RB.new (hp : PD (w.heap.size ≤ ·) b d w') (hb : Below w.heap.size w w') (hw : Below n w0 w) (hn : n ≤ w.heap.size) (p : Blk 46 w P (.string A) (.string B)) (q : Blk 46 w Q (.string C) (.string D)) : ∃ S, RB n S w0 b P Q A B C D d w' ∧ (∀ k, S k → w.heap.size ≤ k) := by
  obtain ⟨S, h, hS⟩ := NA.new hp hb hw hn
  refine ⟨S, ⟨h, p.tr (Tr.of_below (S := fun _ => False) hb) (fun h => h), q.tr (Tr.of_below (S := fun _ => False) hb) (fun h => h), fun hk => ?_, fun hk => ?_⟩, hS⟩
  · have := hS _ hk; have := p.lt; omega
  · have := hS _ hk; have := q.lt; omega
theorem RB.setP0 (h : RB n S w0 b P Q A B C D d w) (hP : n ≤ P) (hPQ : P ≠ Q) (t : ByteArray) : RB n S w0 b P Q t B C D d (w.setCell ⟨P, 0, none⟩ (.string t)) :=
  have ht : Tr (fun j => j = P) w (w.setCell ⟨P, 0, none⟩ (.string t)) := (Tr.refl (fun j => j = P) w).setCell (.inl rfl) _
  ⟨h.na.tr ht (fun _ hk e => h.nP (e ▸ hk)) (fun _ e => e ▸ hP), h.p.set0 _, h.q.tr ht (fun e => hPQ e.symm), h.nP, h.nQ⟩
theorem RB.setP1 (h : RB n S w0 b P Q A B C D d w) (hP : n ≤ P) (hPQ : P ≠ Q) (t : ByteArray) : RB n S w0 b P Q A t C D d (w.setCell ⟨P, 1, none⟩ (.string t)) :=
  have ht : Tr (fun j => j = P) w (w.setCell ⟨P, 1, none⟩ (.string t)) := (Tr.refl (fun j => j = P) w).setCell (.inl rfl) _
  ⟨h.na.tr ht (fun _ hk e => h.nP (e ▸ hk)) (fun _ e => e ▸ hP), h.p.set1 _, h.q.tr ht (fun e => hPQ e.symm), h.nP, h.nQ⟩
theorem RB.setQ0 (h : RB n S w0 b P Q A B C D d w) (hQ : n ≤ Q) (hPQ : P ≠ Q) (t : ByteArray) : RB n S w0 b P Q A B t D d (w.setCell ⟨Q, 0, none⟩ (.string t)) :=
  have ht : Tr (fun j => j = Q) w (w.setCell ⟨Q, 0, none⟩ (.string t)) := (Tr.refl (fun j => j = Q) w).setCell (.inl rfl) _
  ⟨h.na.tr ht (fun _ hk e => h.nQ (e ▸ hk)) (fun _ e => e ▸ hQ), h.p.tr ht hPQ, h.q.set0 _, h.nP, h.nQ⟩
theorem RB.setQ1 (h : RB n S w0 b P Q A B C D d w) (hQ : n ≤ Q) (hPQ : P ≠ Q) (t : ByteArray) : RB n S w0 b P Q A B C t d (w.setCell ⟨Q, 1, none⟩ (.string t)) :=
  have ht : Tr (fun j => j = Q) w (w.setCell ⟨Q, 1, none⟩ (.string t)) := (Tr.refl (fun j => j = Q) w).setCell (.inl rfl) _
  ⟨h.na.tr ht (fun _ hk e => h.nQ (e ▸ hk)) (fun _ e => e ▸ hQ), h.p.tr ht hPQ, h.q.set1 _, h.nP, h.nQ⟩
end
end Go.Proofs.Ytpihlamhpmmeeaa
