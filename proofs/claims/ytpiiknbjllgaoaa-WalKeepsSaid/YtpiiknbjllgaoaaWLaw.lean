/-
  A log beside its disk, and lists of texts beside both; a crash of such a disk.
-/
import Derived.Test.YtpiiknbjllgaoaaWOpen
import Derived.Test.YtpiiknbjllgaoaaNA
namespace Go.Proofs.Ytpiiknbjllgaoaa
open Go.RowKit
abbrev wi (S : Nat → Prop) (B : Nat) : Nat → Prop := fun k => S k ∨ k = B
/-- A log and its disk, whose blocks lie from n on. -/
structure LS (n : Nat) (S : Nat → Prop) (w0 : World) (b : Nat) (x : Ld) (B : Nat) (dv : Value) (c f z : Nat) (w : World) : Prop where
  na : NA n S w0 b x.dk w
  wb : WB B dv c f z w
  nb : ¬ S B
  ge : n ≤ B
/-- A list of texts that lies beside such blocks. -/
structure Lst (T : Nat → Prop) (w : World) (v : Value) (L : List Bs) : Prop where
  rd : RdB w v L
  ow : ∀ j, v.ownBlock = some j → j < w.heap.size ∧ ¬ T j
section
variable {n b B : Nat} {S T T1 : Nat → Prop} {x y : Ld} {w0 w w' : World} {dv v p : Value} {c f z : Nat} {L : List Bs}
theorem Lst.keeps (h : Lst T w v L) (k : Keeps T T1 w w') : Lst T1 w' v L := by
  obtain ⟨hrd, how⟩ := h
  obtain ⟨a, cap, rfl, h1, h2, h3⟩ := hrd
  refine ⟨⟨a, cap, rfl, h1, h2, ?_⟩, fun j hj => ?_⟩
  · rcases h3 with h3 | ⟨g, o, rfl, hc⟩
    · exact .inl h3
    · exact .inr ⟨g, o, rfl, fun i s hs => (k.cell (hc i s hs) (how g rfl).2).1⟩
  · obtain ⟨h4, h5⟩ := how j hj
    exact ⟨(k j h4 h5).2.2, (k j h4 h5).1⟩
theorem Lst.below (h : Lst T w v L) (hb : Below w.heap.size w w') : Lst T w' v L := ⟨h.rd.below hb, fun j hj => ⟨Nat.lt_of_lt_of_le (h.ow j hj).1 hb.size, (h.ow j hj).2⟩⟩
theorem Lst.sub (h : Lst T w v L) (hT : ∀ k, T1 k → T k) : Lst T1 w v L := ⟨h.rd, fun j hj => ⟨(h.ow j hj).1, fun h1 => (h.ow j hj).2 (hT j h1)⟩⟩
theorem Keeps.trans {c1 : World} {T2 : Nat → Prop} (h : Keeps T T1 w w') (k : Keeps T1 T2 w' c1) : Keeps T T2 w c1 := fun g hg hs =>
  let ⟨a1, a2, a3⟩ := h g hg hs
  let ⟨b1, b2, b3⟩ := k g a3 a1
  ⟨b1, b2.trans a2, b3⟩
theorem Keeps.of_below (hb : Below w.heap.size w w') : Keeps T T w w' := fun g hg hs => ⟨hs, hb.block g hg, Nat.lt_of_lt_of_le hg hb.size⟩
theorem LS.mv (h : LS n S w0 b x B dv c f z w) (hb : Below w.heap.size w w') : LS n S w0 b x B dv c f z w' := ⟨h.na.mv hb, h.wb.below hb, h.nb, h.ge⟩
theorem LS.lt (h : LS n S w0 b x B dv c f z w) : ∀ k, S k → k < w.heap.size := fun k hk => (h.na.hS k hk).2
/-- A change of the log. -/
theorem LS.chg {dv' : Value} {c' f' z' : Nat} (h : LS n S w0 b x B dv c f z w) (k : Chg S b B y dv' c' f' z' w w') : ∃ S1, LS n S1 w0 b y B dv' c' f' z' w' ∧ Keeps (wi S B) (wi S1 B) w w' := by
  have hs := k.tr.size
  have hB := h.wb.lt
  refine ⟨fun j => andNew S w.heap.size j ∧ j < w'.heap.size, ⟨⟨k.pd.now, fun j hj => ⟨?_, hj.2⟩, ?_, Nat.le_trans h.na.hn hs⟩, k.wb, ?_, h.ge⟩, fun g hg hs' => ⟨?_, k.tr.block g hg hs', Nat.lt_of_lt_of_le hg hs⟩⟩
  · rcases hj.1 with hj | hj
    · exact (h.na.hS j hj).1
    · exact Nat.le_trans h.na.hn hj
  · exact h.na.bel.trans (k.tr.below h.na.hn fun j hj => hj.elim (fun hj => (h.na.hS j hj).1) (fun e => e ▸ h.ge))
  · rintro ⟨hj | hj, _⟩
    · exact h.nb hj
    · omega
  · rintro (⟨hj | hj, _⟩ | hj)
    · exact hs' (.inl hj)
    · omega
    · exact hs' (.inr hj)
/-- The disk alone has turned. -/
theorem LS.disk {S1 : Nat → Prop} (h : LS n S w0 b x B dv c f z w) (k : NA n S1 w0 b y.dk w') (kp : Keeps S S1 w w') : LS n S1 w0 b y B dv c f z w' ∧ Keeps (wi S B) (wi S1 B) w w' := by
  obtain ⟨a1, a2, a3⟩ := kp B h.wb.lt h.nb
  refine ⟨⟨k, a2.trans h.wb, a1, h.ge⟩, fun g hg hs => ?_⟩
  obtain ⟨b1, b2, b3⟩ := kp g hg (fun e => hs (.inl e))
  exact ⟨fun e => e.elim b1 (fun e => hs (.inr e)), b2, b3⟩
/-- A log is opened. -/
theorem NA.open_ {S1 : Nat → Prop} (h : NA n S w0 b x.dk w) (k : OpenOk S b x w w' p v S1) : NA n S1 w0 b x.opX.dk w' ∧ Keeps S S1 w w' := by
  have hs := k.tr.size
  refine ⟨⟨k.pd, fun j hj => ⟨?_, (k.bd j hj).2⟩, h.bel.trans (k.tr.below h.hn fun j hj => (h.hS j hj).1), Nat.le_trans h.hn hs⟩, fun g hg hs' => ⟨fun h1 => ?_, k.tr.block g hg hs', Nat.lt_of_lt_of_le hg hs⟩⟩
  · rcases (k.bd j hj).1 with h1 | h1
    · exact (h.hS j h1).1
    · exact Nat.le_trans h.hn h1
  · rcases (k.bd g h1).1 with h2 | h2
    · exact hs' h2
    · omega
theorem NA.opened {S1 : Nat → Prop} (h : NA n S w0 b x.dk w) (k : OpenOk S b x w w' p v S1) (h0 : x.opE = 0) : ∃ B, p = ptr B ∧ w.heap.size ≤ B ∧ LS n S1 w0 b x.opX B (ptr b) x.recs.length x.recs.length x.good w' ∧ Lst (wi S1 B) w' v x.recs := by
  obtain ⟨B, rfl, h1, h2, h3, h4, h5, h6⟩ := k.log h0
  refine ⟨B, rfl, h1, ⟨(h.open_ k).1, h4, h3, Nat.le_trans h.hn h1⟩, h5, fun j hj => ⟨(h6 j hj).2.1, ?_⟩⟩
  rintro (h7 | h7)
  · exact (h6 j hj).2.2.1 h7
  · exact (h6 j hj).2.2.2 h7
/-- What a crash leaves of a file. -/
def crO (o : Option (Bs × Nat)) (ps : List Int) : Option (Bs × Nat) := o.map fun p => (crD ⟨walN, p.1, p.2⟩ ps, (crD ⟨walN, p.1, p.2⟩ ps).length)
def Ld.crash (x : Ld) (ps qs : List Int) : Ld := { x with lo := crO x.lo ps, nw := crO x.nw qs, off := false, sch := false, left := 0 }
theorem crD_name (a c : ByteArray) (R : Bs) (t : Nat) (ps : List Int) : crD ⟨a, R, t⟩ ps = crD ⟨c, R, t⟩ ps := rfl
theorem crash_perm (x : Ld) (ps : List Int) (l : List Fl) (h : l.Perm x.dk.fs) : ∃ p q, (crashD x.dk l ps).fs.Perm (x.crash p q).dk.fs ∧ (ps = [] → p = [] ∧ q = []) := by
  obtain ⟨lo, nw, room, steps, left, off, sch⟩ := x
  cases lo with
  | none =>
    cases nw with
    | none =>
      have : l = [] := h.eq_nil
      subst this
      exact ⟨ps, ps, List.Perm.refl _, fun e => ⟨e, e⟩⟩
    | some q =>
      have : l = [⟨newN, q.1, q.2⟩] := List.perm_singleton.1 h
      subst this
      exact ⟨ps, ps, List.Perm.refl _, fun e => ⟨e, e⟩⟩
  | some p =>
    cases nw with
    | none =>
      have : l = [⟨walN, p.1, p.2⟩] := List.perm_singleton.1 h
      subst this
      exact ⟨ps, ps, List.Perm.refl _, fun e => ⟨e, e⟩⟩
    | some q =>
      have h2 : l = [⟨walN, p.1, p.2⟩, ⟨newN, q.1, q.2⟩] ∨ l = [⟨newN, q.1, q.2⟩, ⟨walN, p.1, p.2⟩] := by
        have hl := h.length_eq
        match l, hl with
        | [a, c], _ =>
          have ha : a ∈ [(⟨walN, p.1, p.2⟩ : Fl), ⟨newN, q.1, q.2⟩] := h.mem_iff.1 (by simp)
          rcases List.mem_cons.1 ha with rfl | ha
          · have := h.cons_inv
            exact .inl (by rw [List.perm_singleton.1 this])
          · simp at ha
            subst ha
            have h3 : [(⟨newN, q.1, q.2⟩ : Fl), c].Perm [⟨newN, q.1, q.2⟩, ⟨walN, p.1, p.2⟩] := h.trans (List.Perm.swap _ _ _)
            exact .inr (by rw [List.perm_singleton.1 h3.cons_inv])
      rcases h2 with rfl | rfl
      · exact ⟨ps, ps.tail.tail, List.Perm.refl _, fun e => by subst e; exact ⟨rfl, rfl⟩⟩
      · exact ⟨ps.tail.tail, ps, List.Perm.swap _ _ _, fun e => by subst e; exact ⟨rfl, rfl⟩⟩
theorem file_used (x : Ld) : ∀ f ∈ x.dk.fs, f.data.length ≤ x.used := by
  intro f hf
  obtain ⟨lo, nw, room, steps, left, off, sch⟩ := x
  cases lo <;> cases nw <;> simp [Ld.dk, Ld.fs] at hf <;> simp [Ld.used, Ld.byt, Ld.get]
  · subst hf; exact Nat.le_refl _
  · subst hf; exact Nat.le_refl _
  · rcases hf with rfl | rfl
    · exact Nat.le_add_right _ _
    · exact Nat.le_add_left _ _
/-- The power fails and comes back. -/
theorem NA.crash {U : Nat → Prop} (h : NA n S w0 b x.dk w) (ok : x.used ≤ 900000000) {ps : List Int} (hp : RdI U w v ps) (hU : ∀ g, U g → ¬ S g) :
    Calls Try.prog 24 #[ptr b, v] w fun e w' => (∃ u, e = .returned u) ∧ ∃ S1 p q, NA n S1 w0 b (x.crash p q).dk w' ∧ Keeps S S1 w w' ∧ (ps = [] → p = [] ∧ q = []) := by
  refine (crash_any h.p (fun k hk => (h.hS k hk).2) hp hU (fun f hf => by have := file_used x f hf; omega) (fs_len x)).mono ?_
  rintro e w' ⟨he, ⟨l, hl, hpd⟩, ht⟩
  obtain ⟨p, q, hpq, hnil⟩ := crash_perm x ps l hl
  obtain ⟨S1, h1, h2, _⟩ := h.step ⟨hpd.perm hpq ⟨rfl, rfl, rfl, rfl, rfl⟩, ht⟩
  exact ⟨he, S1, p, q, h1, h2, hnil⟩
end
end Go.Proofs.Ytpiiknbjllgaoaa
