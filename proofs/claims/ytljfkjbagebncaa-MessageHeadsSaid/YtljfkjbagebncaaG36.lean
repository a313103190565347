/-
  RefPut: What the document's Put leaves, for every record and packer; no other older memory is changed.
-/
import Derived.Test.YtljfkjbagebncaaG22
import Derived.Test.YtljfkjbagebncaaG20
import Derived.Test.YtljfkjbagebncaaG18
import Derived.Test.YtljfkjbagebncaaG17

/- RefPut -/
namespace Go.Proofs.Ytljfkjbagebncaa
open Go.RowKit
/-- The document's packer, and blocks that hold what they held; S: the blocks that were its own at the start. -/
def RP (S : Nat → Prop) (w0 : World) (b : Nat) (K : List (Nat × Obj)) (B : Bs) (L : Kn) (w : World) : Prop :=
  ∃ S', (RK S' b B L w ∧ ∀ k, S' k → k < w.heap.size ∧ (S k ∨ w0.heap.size ≤ k)) ∧ Tr S w0 w ∧ ∀ p ∈ K, ¬ S' p.1 ∧ w.heap[p.1]? = some p.2
theorem RP.start {S : Nat → Prop} {w0 : World} {b : Nat} {B : Bs} {L : Kn} (h : RK S b B L w0) : RP S w0 b [] B L w0 :=
  ⟨_, ⟨h.lt, fun _ hk => ⟨hk.2, .inl hk.1⟩⟩, Tr.refl _ _, fun p hp => by cases hp⟩
theorem RP.step {S : Nat → Prop} {w0 w : World} {b : Nat} {K : List (Nat × Obj)} {B : Bs} {L : Kn} (h : RP S w0 b K B L w) :
    ∃ S', RK S' b B L w ∧ (∀ k, S' k → k < w.heap.size) ∧ ∀ w' B' L', RLft S' b B' L' w w' → RP S w0 b K B' L' w' ∧ w.heap.size ≤ w'.heap.size := by
  obtain ⟨S', ⟨h1, h2⟩, h3, h4⟩ := h
  refine ⟨S', h1, fun k hk => (h2 k hk).1, fun w' B' L' hl => ⟨⟨_, ⟨hl.1.lt, ?_⟩, h3.trans hl.2 fun k hk => (h2 k hk).2, fun p hp => ?_⟩, hl.2.size⟩⟩
  · rintro k ⟨hk | hk, hk2⟩
    · exact ⟨hk2, (h2 k hk).2⟩
    · exact ⟨hk2, .inr (Nat.le_trans h3.size hk)⟩
  · obtain ⟨m1, m2⟩ := h4 p hp
    have hlt : p.1 < w.heap.size := (Array.getElem?_eq_some_iff.1 m2).1
    refine ⟨?_, (hl.2.block _ hlt m1).trans m2⟩
    rintro ⟨hk | hk, _⟩
    · exact m1 hk
    · omega
theorem RP.under {S : Nat → Prop} {w0 w w' : World} {b : Nat} {K : List (Nat × Obj)} {B : Bs} {L : Kn} (h : RP S w0 b K B L w) (hb : Below w.heap.size w w') : RP S w0 b K B L w' := by
  obtain ⟨S', ⟨h1, h2⟩, h3, h4⟩ := h
  refine ⟨S', ⟨h1.below hb, fun k hk => ⟨Nat.lt_of_lt_of_le (h2 k hk).1 hb.size, (h2 k hk).2⟩⟩, h3.then (Tr.of_below hb), fun p hp => ?_⟩
  obtain ⟨m1, m2⟩ := h4 p hp
  exact ⟨m1, (hb.block _ (Array.getElem?_eq_some_iff.1 m2).1).trans m2⟩
theorem RP.more {S : Nat → Prop} {w0 w w' : World} {b g : Nat} {o : Obj} {K : List (Nat × Obj)} {B : Bs} {L : Kn} (h : RP S w0 b K B L w) (hb : Below w.heap.size w w') (hg : w.heap.size ≤ g) (ho : w'.heap[g]? = some o) : RP S w0 b ((g, o) :: K) B L w' := by
  obtain ⟨S', ⟨h1, h2⟩, h3, h4⟩ := h
  refine ⟨S', ⟨h1.below hb, fun k hk => ⟨Nat.lt_of_lt_of_le (h2 k hk).1 hb.size, (h2 k hk).2⟩⟩, h3.then (Tr.of_below hb), fun p hp => ?_⟩
  rcases List.mem_cons.1 hp with rfl | hp
  · exact ⟨fun hs => by have := (h2 _ hs).1; simp only at this; omega, ho⟩
  · obtain ⟨m1, m2⟩ := h4 p hp
    exact ⟨m1, (hb.block _ (Array.getElem?_eq_some_iff.1 m2).1).trans m2⟩
theorem RP.ce {S : Nat → Prop} {w0 w : World} {b g : Nat} {T : TypeId} {cs : Array Value} {K : List (Nat × Obj)} {B : Bs} {L : Kn} (h : RP S w0 b K B L w) (hm : (g, Obj.cells cs T (0, 0)) ∈ K) : Ce w g T cs := by
  obtain ⟨S', _, _, h4⟩ := h
  exact (h4 _ hm).2
theorem RP.left {S : Nat → Prop} {w0 w : World} {b : Nat} {K : List (Nat × Obj)} {B : Bs} {L : Kn} (h : RP S w0 b K B L w) : RLft S b B L w0 w := by
  obtain ⟨S', ⟨h1, h2⟩, h3, h4⟩ := h
  exact ⟨h1.mono fun k hk => (h2 k hk).2, h3⟩
theorem RP.text {S : Nat → Prop} {w0 w : World} {b : Nat} {K : List (Nat × Obj)} {B B' : Bs} {L : Kn} (h : RP S w0 b K B L w) : ∃ lv, Blk 98 w b (str B) lv ∧ RP S w0 b K B' L (w.setCell ⟨b, 0, none⟩ (str B')) := by
  obtain ⟨S', ⟨⟨lv, h1⟩, h2⟩, h3, h4⟩ := h
  have hl := h1.text (B' := B') (Below.refl _ w)
  refine ⟨lv, h1.blk, ?_⟩
  have hst : RP S w0 b K B L w := ⟨S', ⟨⟨lv, h1⟩, h2⟩, h3, h4⟩
  have hb : S' b := h1.own
  have hsz : (w.setCell ⟨b, 0, none⟩ (str B')).heap.size = w.heap.size := by simp
  refine ⟨S', ⟨⟨lv, h1.blk.set0 _, h1.blk.row h1.row (by decide) 0, h1.rowS, h1.own⟩, fun k hk => ⟨by rw [hsz]; exact (h2 k hk).1, (h2 k hk).2⟩⟩, h3.trans (S' := (· = b)) (Tr.setCell (S := (· = b)) (Tr.refl _ _) (.inl rfl) _) (fun k hk => by subst hk; exact (h2 _ hb).2), fun p hp => ?_⟩
  obtain ⟨m1, m2⟩ := h4 p hp
  have hne : b ≠ p.1 := fun e => m1 (e ▸ hb)
  exact ⟨m1, (heap_setCell_other w ⟨b, 0, none⟩ p.1 _ hne.symm).trans m2⟩
/-- Names that are put one behind the other. -/
def putL : Bs → Kn → List Bs → Bs × Kn
  | B, L, [] => (B, L)
  | B, L, n :: ns => putL (pkB true B L n) (pkL true B L n) ns
theorem putD_names : ∀ (ns : List Bs) (B : Bs) (L : Kn) (ps : List Part), putD B L (ns.map (fun n => (true, n)) ++ ps) = putD (putL B L ns).1 (putL B L ns).2 ps := by
  intro ns
  induction ns with
  | nil => intro B L ps; rfl
  | cons n ns ih => intro B L ps; simp only [List.map_cons, List.cons_append, putD, putL]; exact ih _ _ _
theorem putD_raw (B : Bs) (L : Kn) (x : Bs) : putD B L [(false, x)] = (B ++ x, L) := rfl
/-- The document's way: bytes ahead, names, bytes behind. -/
theorem putD_ref {t : Nat} {d : Bs} {x : Bs × List Bs × Bs} (B : Bs) (L : Kn) (hn : named t = true) (h : nms t d = some x) :
    putD B L (pts t d) = ((putL (B ++ x.1) L x.2.1).1 ++ x.2.2, (putL (B ++ x.1) L x.2.1).2) := by
  have hp : pts t d = ptsOf t x := by unfold pts; rw [if_pos hn, h]
  rw [hp]
  have hx := h
  rw [nms_nmL _ hn] at hx
  split at hx
  · cases hg : nmL (nhN t) (d.drop (nhA t)) with
    | none => rw [hg] at hx; simp at hx
    | some y =>
      obtain ⟨ns, q⟩ := y
      rw [hg] at hx
      simp only at hx
      split at hx
      · rename_i hA hq
        injection hx with hx
        subst hx
        unfold ptsOf
        simp only
        by_cases g1 : t = 15
        · subst g1
          have hq0 : q = [] := List.length_eq_zero_iff.1 hq
          rw [if_pos rfl, hq0]
          simp only [putD, List.append_nil]
          have := putD_names ns (B ++ d.take (nhA 15)) L []
          rw [List.append_nil] at this
          rw [this]; rfl
        · have hA0 : nhA t = 0 := by unfold nhA; rw [if_neg g1]
          rw [if_neg g1, hA0]
          simp only [List.take_zero, List.append_nil]
          by_cases g2 : t = 6
          · rw [if_pos g2, putD_names, putD_raw]
          · have hB0 : nhB t = 0 := by unfold nhB; rw [if_neg g2]
            rw [hB0] at hq
            rw [if_neg g2, List.length_eq_zero_iff.1 hq]
            have := putD_names ns B L []
            rw [List.append_nil] at this
            rw [this]; simp [putD]
      · cases hx
  · cases hx
theorem putL_step {ns : List Bs} {k : Nat} {n B : Bs} {L : Kn} (h : ns[k]? = some n) : putL B L (ns.drop k) = putL (pkB true B L n) (pkL true B L n) (ns.drop (k + 1)) := by
  obtain ⟨hk, e⟩ := List.getElem?_eq_some_iff.1 h
  rw [List.drop_eq_getElem_cons hk, e]; rfl
theorem RP.get {S : Nat → Prop} {w0 w : World} {b g : Nat} {o : Obj} {K : List (Nat × Obj)} {B : Bs} {L : Kn} (h : RP S w0 b K B L w) (hm : (g, o) ∈ K) : w.heap[g]? = some o := by
  obtain ⟨S', _, _, h4⟩ := h
  exact (h4 _ hm).2
theorem RP.head {S : Nat → Prop} {w0 w : World} {b : Nat} {K : List (Nat × Obj)} {B : Bs} {L : Kn} (h : RP S w0 b K B L w) : w.cell? ⟨b, 0, none⟩ = some (str B) ∧ w.frozen? ⟨b, 0, none⟩ = false := by
  obtain ⟨S', ⟨⟨lv, h1⟩, h2⟩, h3, h4⟩ := h
  exact ⟨h1.blk.cell0, h1.blk.frozen0⟩
/-- The row of names that has come is kept, too. -/
theorem RP.row {S : Nat → Prop} {w0 w w' : World} {b : Nat} {K : List (Nat × Obj)} {B : Bs} {L : Kn} {v : Value} {ns : List Bs} (h : RP S w0 b K B L w) (hb : Below w.heap.size w w') (hO : Own9 w' w.heap.size v ns) (hn : 0 < ns.length) :
    ∃ g o a cap, v = .slice (some ⟨g, 0, none⟩) ns.length cap ∧ a = g ∧ RP S w0 b ((g, o) :: K) B L w' ∧ ∀ (w2 : World), w2.heap[g]? = some o → ∀ j x, ns[j]? = some x → w2.cell? ⟨g, j, none⟩ = some (str x) := by
  obtain ⟨q1, q2⟩ := hO
  have hO' : Own9 w' w.heap.size v ns := ⟨q1, q2⟩
  rcases q2 with ⟨_, h0⟩ | ⟨g, cap, cur, rfl, hbg, hg, r⟩
  · omega
  · obtain ⟨g', e1, hg2, hc⟩ := row_at hO' hn
    injection e1 with e1
    injection e1 with e1
    subst e1
    refine ⟨g, _, g, cap, rfl, rfl, h.more hb hbg hg, fun w2 h2 j x hj => ?_⟩
    have := hc j (str x) (by simp [hj])
    exact (World.cell?_of_block (a := ⟨g, j, none⟩) (h2.trans hg.symm)).trans this
theorem putL_le : ∀ (ns : List Bs) (B : Bs) (L : Kn), L.length ≤ B.length → B.length ≤ (putL B L ns).1.length := by
  intro ns
  induction ns with
  | nil => intro B L _; exact Nat.le_refl _
  | cons n ns ih =>
    intro B L hl
    have h := pk_le (pts := true) (n := n) hl
    exact Nat.le_trans h.1 (ih _ _ (Nat.le_trans h.2.2 (Nat.le_refl _)))
theorem joinP_mem : ∀ (ps : List Part) (p : Part), p ∈ ps → p.2.length ≤ (joinP ps).length := by
  intro ps
  induction ps with
  | nil => intro p h; cases h
  | cons q ps ih =>
    intro p h
    have e : joinP (q :: ps) = q.2 ++ joinP ps := rfl
    rw [e, List.length_append]
    rcases List.mem_cons.1 h with rfl | h
    · omega
    · have := ih p h; omega
theorem ptsOf_mem {t : Nat} {x : Bs × List Bs × Bs} {n : Bs} (h : n ∈ x.2.1) : ((true, n) : Part) ∈ ptsOf t x := by
  unfold ptsOf
  split <;> (try split) <;> simp [h]
theorem nmL_len : ∀ (k : Nat) (s : Bs) (x : List Bs × Bs), nmL k s = some x → x.1.length = k := by
  intro k
  induction k with
  | zero => intro s x h; simp only [nmL] at h; injection h with h; rw [← h]; rfl
  | succ k ih =>
    intro s x h
    simp only [nmL] at h
    cases hf : fst1 s with
    | none => rw [hf] at h; simp at h
    | some p =>
      rw [hf] at h
      simp only at h
      cases hg : nmL k p.2 with
      | none => rw [hg] at h; simp at h
      | some q =>
        rw [hg] at h
        simp only at h
        injection h with h
        rw [← h]
        simp [ih _ _ hg]
theorem named_row {t : Nat} {d : Bs} {y : Bs × List Bs × Bs} (h : named t = true) (hy : nms t d = some y) : 1 ≤ y.2.1.length ∧ y.2.1.length ≤ 2 := by
  rw [nms_nmL _ h] at hy
  split at hy
  · have hN : 1 ≤ nhN t ∧ nhN t ≤ 2 := by
      unfold named at h; simp only [decide_eq_true_eq] at h
      unfold nhN; split
      · omega
      · rw [if_pos (by omega)]; omega
    cases hg : nmL (nhN t) (d.drop (nhA t)) with
    | none => rw [hg] at hy; simp at hy
    | some q =>
      have hl := nmL_len _ _ _ hg
      rw [hg] at hy
      simp only at hy
      split at hy
      · injection hy with hy; rw [← hy]; simp only; omega
      · cases hy
  · cases hy
theorem patch_end {S : Nat → Prop} {w w9 : World} {b : Nat} {K : List (Nat × Obj)} {C : Bs} {L : Kn} (f : Nat) (h : RP S w b K C L w9) (k1 : C.length ≤ 810000) (k2 : f + 2 ≤ C.length) (k3 : C.length ≤ f + 2002) :
    w9.cell? ⟨b, 0, none⟩ = some (str C) ∧ Hid (Calls Try.prog 99 #[ptr b, .int .i64 (f : Int), .int .u16 ((C.length : Int) - (f : Int) - 2)] w9 fun e w' => e = .returned (.int .i64 0) ∧ RLft S b (ptB C (f : Int) ((C.length - (f + 2)) % 65536)) L w w') := by
  obtain ⟨b0, _⟩ := h.head
  refine ⟨b0, Lib.hid ?_⟩
  obtain ⟨S8, hp8, hlt8, hs8⟩ := h.step
  obtain ⟨z, hz⟩ : ∃ z, z = (C.length - (f + 2)) % 65536 := ⟨_, rfl⟩
  have hz2 : z = C.length - (f + 2) := by rw [hz]; exact Nat.mod_eq_of_lt (by omega)
  have hz3 : (z : Int) = (C.length : Int) - (f : Int) - 2 := by omega
  rw [← hz, ← hz3]
  clear hz hz3
  have CP := rpatch_any (f : Int) z (by omega) (by omega) S8 b C L w9 hp8 (by omega)
  have hpe : ptE C (f : Int) = 0 := by unfold ptE; exact if_pos (by unfold PtOk; omega)
  rw [hpe] at CP
  refine CP.mono ?_
  rintro e w' ⟨rfl, hl9⟩
  exact ⟨rfl, (hs8 _ _ _ hl9).1.left⟩
set_option maxRecDepth 100000 in
set_option maxHeartbeats 12800000 in
theorem rput_no (r : Rc) (hr : r.Ok) (hn : r.n.size ≤ 1000000) (g0 : rck r ≠ 0) (b : Nat) (w : World) :
    Calls Try.prog 69 #[ptr b, r.v] w fun e w' => e = .returned (.int .i64 (rck r)) ∧ Below w.heap.size w w' := by
  have C := fun w => rrcheck_any r hr hn w
  have hb := one_box w (.cells r.cells 61)
  generalize rck r = x at g0 C ⊢
  obtain ⟨n, t, c, l, d⟩ := r
  have HC := Lib.hid C
  have HB := Lib.hid hb
  have q : (x == 0) = false := by simpa using g0
  have q' : (x != 0) = true := by simpa using g0
  clear C hb g0
  go_enter Try.func69, Try.ntmps69
  go_wp2_with fail
  refine (HC.out _).mono ?_
  rintro e w1 ⟨rfl, hb1⟩
  go_wp2
  go_ret
  exact ⟨rfl, HB.out.trans (hb1.mono HB.out.size)⟩
set_option maxRecDepth 100000 in
set_option maxHeartbeats 25600000 in
theorem rput_yes (r : Rc) (hr : r.Ok) (hrn : r.n.size ≤ 1000000) (g0 : rck r = 0) (S : Nat → Prop) (b : Nat) (B : Bs) (L : Kn) (w : World) (h : RK S b B L w) (hf : Fit B L) (hB : B.length ≤ 800000) :
    Calls Try.prog 69 #[ptr b, r.v] w fun e w' => e = .returned (.int .i64 0) ∧ RLft S b (rpB B L r) (rpL B L r) w w' := by
  have HC := Lib.hid (fun w => by have := rrcheck_any r hr hrn w; rw [g0] at this; exact this)
  obtain ⟨z1, z2, z3⟩ := rck_zero g0
  have HB : Hid (rpB B L r = ptB (rpD B L r).1 ((rpH B L r).length : Int) (((rpD B L r).1.length - ((rpH B L r).length + 2)) % 65536)) := Lib.hid (by unfold rpB; rw [if_pos g0])
  have HL : Hid (rpL B L r = (rpD B L r).2) := Lib.hid (by unfold rpL; rw [if_pos g0])
  have hlen := rpH_len hf g0
  have hfD : Fit (rpD B L r).1 (rpD B L r).2 ∧ (rpH B L r ++ word 0).length ≤ (rpD B L r).1.length ∧ (rpD B L r).1.length ≤ (rpH B L r ++ word 0).length + (joinP (pts r.t r.d.data.toList)).length := putD_fit (pts r.t r.d.data.toList) _ _ (hlen.2.2.app (word 0))
  have hjl : (joinP (pts r.t r.d.data.toList)).length ≤ 2000 := by rw [pts_join z3, ← size_list]; exact z2
  have hNM := fun w => rnames_any r.t hr.t r.d (by omega) w
  have hnl := (chk_zero.1 z1).2
  have hn1 := pk_le (pts := true) (n := r.n.data.toList) hf.l
  have HF := Lib.hid hf
  have hI := (RP.start h).more (one_box w (.cells r.cells 61)) (Nat.le_refl _) (World.alloc_heap_new w _)
  have HI := Lib.hid hI
  clear hI
  have hDe : Hid (rpD B L r = putD (rpH B L r ++ word 0) (rpK B L r) (pts r.t r.d.data.toList)) := Lib.hid rfl
  have hHe : Hid (rpH B L r = pkB true B L r.n.data.toList ++ word r.t ++ word r.c ++ long r.l) := Lib.hid rfl
  have hKe : Hid (rpK B L r = pkL true B L r.n.data.toList) := Lib.hid rfl
  generalize rpD B L r = FD at HB HL hfD hDe
  generalize rpH B L r = FH at HB hlen hfD hDe hHe
  generalize rpK B L r = FK at hlen hfD hDe hKe
  obtain ⟨hl1, hl2, hl3⟩ := hlen
  have HFIT := Lib.hid hl3
  have h5 : (word 0).length = 2 := rfl
  have hfl : (FD.1).length ≤ 810000 := by
    have h1 := hfD.2.2
    rw [List.length_append] at h1
    omega
  have hfl2 : FH.length + 2 ≤ FD.1.length := by
    have h1 := hfD.2.1
    rw [List.length_append] at h1
    omega
  have hfl3 : FD.1.length ≤ FH.length + 2002 := by
    have h1 := hfD.2.2
    rw [List.length_append] at h1
    omega
  -- what the names are
  have hcase : (∃ x, named r.t = true ∧ nms r.t r.d.data.toList = some x) ∨ (named r.t = false) := by
    by_cases hn : named r.t = true
    · left
      have hv := z3
      unfold vld at hv
      rw [if_pos hn] at hv
      obtain ⟨x, hx⟩ := Option.isSome_iff_exists.1 hv
      exact ⟨x, hn, hx⟩
    · right; simpa using hn
  clear hl3 hfD h5
  obtain ⟨n, t, c, l, d⟩ := r
  obtain ⟨hn, hd, ht, hc, hl⟩ := hr
  simp only at hn hd ht hc hl z1 z2 z3 hjl hNM hnl hn1 hHe hKe hDe hcase hrn
  have hti : (t : Int) < 65536 := by omega
  have hci : (c : Int) < 65536 := by omega
  have hli : 0 ≤ (l : Int) ∧ (l : Int) < 4294967296 := by omega
  have HNM := Lib.hid hNM
  clear z1 z3 hNM
  go_enter Try.func69, Try.ntmps69
  go_wp2_with fail
  refine (HC.out _).mono ?_
  rintro e w1 ⟨rfl, hb1⟩
  have I1 := HI.out.under hb1
  obtain ⟨x0, x1, x2, x3, x4⟩ := c5 (I1.ce (List.mem_cons_self ..))
  obtain ⟨S1, hp1, hlt1, hs1⟩ := I1.step
  have HS1 := Lib.hid hs1
  clear hb1 I1 hs1
  go_wp2_with fail
  refine (rpname_any n (by omega) true S1 b B L w1 hp1 hlt1 (by omega) HF.out.l HF.out.k).mono ?_
  rintro e w2 ⟨rfl, hl2'⟩
  obtain ⟨I2, hsz2⟩ := HS1.out _ _ _ hl2'
  clear hl2' HS1 hp1 hlt1 x0 x1 x2 x3 x4
  obtain ⟨x0, x1, x2, x3, x4⟩ := c5 (I2.ce (List.mem_cons_self ..))
  obtain ⟨S2, hp2, hlt2, hs2⟩ := I2.step
  have HS2 := Lib.hid hs2
  clear I2 hs2 hlt2
  go_wp2_with fail
  refine (rnum_any t 2 (by omega) (by omega) S2 b _ _ w2 hp2 (by omega)).mono ?_
  rintro e w3 ⟨⟨v, rfl⟩, hl3⟩
  obtain ⟨I3, hsz3⟩ := HS2.out _ _ _ hl3
  rw [nb_two] at I3
  clear hl3 HS2 hp2 x0 x1 x2 x3 x4
  obtain ⟨x0, x1, x2, x3, x4⟩ := c5 (I3.ce (List.mem_cons_self ..))
  obtain ⟨S3, hp3, hlt3, hs3⟩ := I3.step
  have HS3 := Lib.hid hs3
  clear I3 hs3 hlt3
  go_wp2_with fail
  refine (rnum_any c 2 (by omega) (by omega) S3 b _ _ w3 hp3 (by rw [List.length_append]; show _ + 2 ≤ _; omega)).mono ?_
  rintro e w4 ⟨⟨v, rfl⟩, hl4⟩
  obtain ⟨I4, hsz4⟩ := HS3.out _ _ _ hl4
  rw [nb_two] at I4
  clear hl4 HS3 hp3 x0 x1 x2 x3 x4
  obtain ⟨x0, x1, x2, x3, x4⟩ := c5 (I4.ce (List.mem_cons_self ..))
  obtain ⟨S4, hp4, hlt4, hs4⟩ := I4.step
  have HS4 := Lib.hid hs4
  clear I4 hs4 hlt4
  go_wp2_with fail
  refine (rnum_any l 4 hl (by omega) S4 b _ _ w4 hp4 (by rw [List.length_append, List.length_append]; show _ + 2 + 2 ≤ _; omega)).mono ?_
  rintro e w5 ⟨⟨v, rfl⟩, hl5⟩
  obtain ⟨I5, hsz5⟩ := HS4.out _ _ _ hl5
  rw [nb_four, ← hHe.out, ← hKe.out] at I5
  clear hl5 HS4 hp4 x0 x1 x2 x3 x4
  obtain ⟨S5, hp5, hlt5, hs5⟩ := I5.step
  have HS5 := Lib.hid hs5
  obtain ⟨b0, bf0⟩ := I5.head
  clear I5 hs5 hlt5
  go_wp2_with fail
  refine (rnum_any 0 2 (by omega) (by omega) S5 b _ _ w5 hp5 (by omega)).mono ?_
  rintro e w6 ⟨⟨v, rfl⟩, hl6⟩
  obtain ⟨I6, hsz6⟩ := HS5.out _ _ _ hl6
  rw [nb_two] at I6
  obtain ⟨x0, x1, x2, x3, x4⟩ := c5 (I6.ce (List.mem_cons_self ..))
  clear hl6 HS5 hp5 b0 bf0
  have I6' := Lib.hid I6
  clear I6
  go_wp2_with fail
  have hj5 : (FH ++ word 0).length = FH.length + 2 := by rw [List.length_append]; rfl
  have HF5 := Lib.hid (HFIT.out.app (word 0))
  generalize FH ++ word 0 = BB at hDe I6' hj5 HF5
  obtain ⟨fl, hfl'⟩ : ∃ fl : Nat, fl = FH.length := ⟨_, rfl⟩
  rw [← hfl'] at hfl2 hfl3 HB hj5 hl1 hl2 ⊢
  rcases hcase with ⟨⟨ya, ys, yb⟩, hnt, hy⟩ | hnt
  · have hy2 := putD_ref BB FK hnt hy
    rw [← hDe.out] at hy2
    have hns := named_row hnt hy
    have hpt : pts t d.data.toList = ptsOf t (ya, ys, yb) := by unfold pts; rw [if_pos hnt, hy]
    rw [hpt] at hjl
    have hsz : ∀ n ∈ ys, n.length ≤ 2000 := fun n h => Nat.le_trans (joinP_mem _ _ (ptsOf_mem (t := t) (x := (ya, ys, yb)) h)) hjl
    have HSZ := Lib.hid hsz
    have HNM2 : Hid (∀ (w : World), Calls Try.prog 98 #[Value.int IntKind.u16 (t : Int), Value.string d] w (NmPost w (some (ya, ys, yb)))) := Lib.hid (by have := HNM.out; rw [if_pos hnt, hy] at this; exact this)
    simp only at hy2 hns
    obtain ⟨Z, hZ⟩ : ∃ Z, Z = putL (BB ++ ya) FK ys := ⟨_, rfl⟩
    rw [← hZ] at hy2
    subst hy2
    simp only at HB HL hfl hfl2 hfl3
    rw [List.length_append] at hfl hfl2 hfl3
    have hZl : (BB ++ ya).length ≤ Z.1.length := by rw [hZ]; exact putL_le _ _ _ (HF5.out.app ya).l
    rw [List.length_append] at hZl
    have HZ := Lib.hid hZ
    clear HNM hDe hjl hpt hZ hsz hy hnt x0 x1 x2 x3 x4
    refine (HNM2.out _).mono ?_
    rintro e w7 ⟨⟨a7, v7, b7, rfl, hv⟩, hb7⟩
    have hv2 := hv _ rfl
    clear hv
    simp only at hv2
    obtain ⟨rfl, rfl, hO⟩ := hv2
    obtain ⟨g, o, _, cap, rfl, _, I7, hcl⟩ := I6'.out.row hb7 hO (by exact hns.1)
    have HCL := Lib.hid hcl
    obtain ⟨b0, bf0⟩ := I7.head
    obtain ⟨_, _, I8⟩ := I7.text (B' := BB ++ a7)
    have HI8 := Lib.hid I8
    have HF8 := Lib.hid (HF5.out.app a7)
    have hadd : ∀ w, (Op.stringOp .add ⟨BB.toArray⟩ ⟨a7.toArray⟩).run Try.prog w = .ok (str (BB ++ a7)) w := fun w => by
      rw [run_string_add_sum w _ _ (by rw [size_list, size_list]; show BB.length + a7.length ≤ _; omega), cat]
    obtain ⟨m, hm⟩ : ∃ m, m = ys.length := ⟨_, rfl⟩
    rw [← hm]
    rw [← hm] at hns
    have hmi : (m : Int) ≤ 2 := by omega
    have HM := Lib.hid hm
    have HLN := Lib.hid (And.intro hfl (And.intro hfl2 (And.intro hfl3 (And.intro hj5 (And.intro hZl (And.intro hl1 hl2))))))
    clear hb7 hO I6' I7 I8 hcl hm HNM2 hfl hfl2 hfl3 hj5 hZl hl1 hl2 hns HFIT HF5 HF HI HC hnl hn1
    clear hn hd ht hc hl hti hci hli hrn z2 hB
    go_wp2
    change Code.wp _ _ _ _ (w7.setCell ⟨b, 0, none⟩ (str (BB ++ a7)))
    generalize (w7.setCell ⟨b, 0, none⟩ (str (BB ++ a7))) = w8 at HI8 ⊢
    clear hadd b0 bf0
    go_loopw [11] (fun i wr => ∃ (k : Nat) (B' : Bs) (L' : Kn), k ≤ m ∧ i = .int .i64 k ∧ RP S w b [(g, o), (w.heap.size, Obj.cells #[Value.string n, Value.int IntKind.u16 (t : Int), Value.int IntKind.u16 (c : Int), Value.int IntKind.u32 (l : Int), Value.string d] 61)] B' L' wr ∧ putL B' L' (ys.drop k) = Z ∧ Fit B' L') (fun i _ => m - (intOf i).toNat)
    case atStart => exact ⟨0, _, _, by omega, rfl, HI8.out, by rw [List.drop_zero]; exact HZ.out.symm, HF8.out⟩
    case round =>
      clear HI8
      obtain ⟨k, B', L', hk, rfl, hI, hD, hF⟩ := hrel
      have hle : B'.length ≤ Z.1.length := by rw [← hD]; exact putL_le _ _ _ hF.l
      by_cases hlt : k < m
      · have q1 : decide ((k : Int) < (m : Int)) = true := by simp; omega
        obtain ⟨x, hx⟩ : ∃ x, ys[k]? = some x := ⟨_, List.getElem?_eq_getElem (by rw [← HM.out]; exact hlt)⟩
        have d0 := HCL.out wr (hI.get (List.mem_cons_self ..)) k x hx
        have hxl := HSZ.out x (List.mem_of_getElem? hx)
        rw [putL_step hx] at hD
        obtain ⟨S8, hp8, hlt8, hs8⟩ := hI.step
        have hxs : (⟨x.toArray⟩ : ByteArray).size = x.length := rfl
        have CN := rpname_any ⟨x.toArray⟩ (by rw [hxs]; omega) true S8 b B' L' wr hp8 hlt8 (by obtain ⟨z1, _⟩ := HLN.out; omega) hF.l hF.k
        have HCN := Lib.hid CN
        have HS8 := Lib.hid hs8
        have HD := Lib.hid hD
        have HFF := Lib.hid hF
        clear hI hs8 hD hF hx hxl hle hxs CN hp8 hlt8
        go_wp2_with fail
        refine HCN.out.mono ?_
        rintro e w9 ⟨rfl, hl9⟩
        have HI9 := Lib.hid (HS8.out _ _ _ hl9).1
        clear hl9
        go_wp2
        go_roundw
        case rel => exact ⟨k + 1, _, _, by omega, by go_num, HI9.out, by simpa using HD.out, HFF.out.name true x⟩
        case measure => simp [intOf]; omega
      · have q1 : decide ((k : Int) < (m : Int)) = false := by simp; omega
        have e : ys.drop k = [] := List.drop_eq_nil_of_le (by rw [← HM.out]; omega)
        rw [e] at hD
        simp only [putL] at hD
        subst hD
        simp only at HB HL HLN hle
        obtain ⟨b0, bf0⟩ := hI.head
        have hlc := HLN.out
        obtain ⟨k1, k2, k3, k4, k5, k6, k7⟩ := hlc
        rw [← List.length_append] at k1 k2 k3
        obtain ⟨C, hC⟩ : ∃ C, C = B' ++ b7 := ⟨_, rfl⟩
        have hadd : ∀ w, (Op.stringOp .add ⟨B'.toArray⟩ ⟨b7.toArray⟩).run Try.prog w = .ok (str C) w := fun w => by
          rw [run_string_add_sum w _ _ (by rw [size_list, size_list]; show B'.length + b7.length ≤ _; rw [← List.length_append]; omega), cat, hC]
        obtain ⟨_, _, I9⟩ := hI.text (B' := C)
        rw [← hC] at HB k1 k2 k3
        have w2of : ∀ w9, w9 = wr.setCell ⟨b, 0, none⟩ (str C) → Hid (RP S w b [(g, o), (w.heap.size, Obj.cells #[Value.string n, Value.int IntKind.u16 (t : Int), Value.int IntKind.u16 (c : Int), Value.int IntKind.u32 (l : Int), Value.string d] 61)] C L' w9) := fun w9 h9 => Lib.hid (by rw [h9]; exact I9)
        have HI9 := w2of _ rfl
        subst hfl'
        have hE2 := patch_end FH.length HI9.out k1 k2 k3
        obtain ⟨c0, HE⟩ := hE2
        have i1 : 0 ≤ (C.length : Int) - (FH.length : Int) - 2 := by omega
        have i2 : (C.length : Int) - (FH.length : Int) - 2 < 65536 := by omega
        have i3 : (C.length : Int) ≤ 900000 := by omega
        clear k1 k2 k3 k4 k5 k6 k7 I9 hI hle hF w2of HLN hC HI9
        go_wp2_with fail
        refine HE.out.mono ?_
        rintro e w9 ⟨rfl, hl9⟩
        have HE9 := Lib.hid hl9
        clear hl9
        go_wp2
        go_ret
        exact ⟨rfl, by rw [HB.out, HL.out]; exact HE9.out⟩
  · have hy2 : FD = (BB ++ d.data.toList, FK) := by
      rw [hDe.out]
      have hpt : pts t d.data.toList = [(false, d.data.toList)] := by unfold pts; rw [if_neg (by simp [hnt])]
      rw [hpt, putD_raw]
    have HNM2 : Hid (∀ (w : World), Calls Try.prog 98 #[Value.int IntKind.u16 (t : Int), Value.string d] w (NmPost w none)) := Lib.hid (by have := HNM.out; rw [if_neg (by simp [hnt])] at this; exact this)
    subst hy2
    simp only at HB HL hfl hfl2 hfl3
    have HLN := Lib.hid (And.intro hfl (And.intro hfl2 (And.intro hfl3 z2)))
    refine (HNM2.out _).mono ?_
    rintro e w7 ⟨⟨a7, v7, b7, rfl, hv⟩, hb7⟩
    clear hv x0 x1 x2 x3 x4
    have I7 := I6'.out.under hb7
    obtain ⟨x0, x1, x2, x3, x4⟩ := c5 (I7.ce (List.mem_cons_self ..))
    obtain ⟨b0, bf0⟩ := I7.head
    obtain ⟨C, hC⟩ : ∃ C, C = BB ++ d.data.toList := ⟨_, rfl⟩
    have hadd : ∀ w, (Op.stringOp .add ⟨BB.toArray⟩ d).run Try.prog w = .ok (str C) w := fun w => by
      rw [run_string_add_sum w _ _ (by rw [size_list]; show BB.length + d.size ≤ _; have := HLN.out.2.2.2; omega), hC]; exact congrArg (fun v => Result.ok (Value.string v) w) (cat BB d.data.toList)
    obtain ⟨_, _, I9⟩ := (I7.under (Below.refl _ w7).drew).text (B' := C)
    have HI9 := Lib.hid I9
    rw [← hC] at HB hfl hfl2 hfl3
    subst hfl'
    obtain ⟨c0, HE⟩ := patch_end FH.length HI9.out hfl hfl2 hfl3
    have i1 : 0 ≤ (C.length : Int) - (FH.length : Int) - 2 := by omega
    have i2 : (C.length : Int) - (FH.length : Int) - 2 < 65536 := by omega
    have i3 : (C.length : Int) ≤ 900000 := by omega
    clear HNM HNM2 hDe I6' I7 I9 HI9 hb7 hfl hfl2 hfl3 hj5 hl1 hl2 HFIT HF5 HF HI HC hnl hn1 hn hd ht hc hl hti hci hli hrn z2 hB HLN hC hjl hnt
    go_wp2
    go_still_tail 10, (by kernel_rfl)
    change wpList _ _ _ _ _ w7.drew
    go_wp2_with fail
    refine HE.out.mono ?_
    rintro e w9 ⟨rfl, hl9⟩
    have HE9 := Lib.hid hl9
    clear hl9
    go_wp2
    go_ret
    exact ⟨rfl, by rw [HB.out, HL.out]; exact HE9.out⟩
/-- WHAT THE DOCUMENT'S Put LEAVES, for every record and packer. -/
theorem rputrec_any (r : Rc) (hr : r.Ok) (hrn : r.n.size ≤ 1000000) (S : Nat → Prop) (b : Nat) (B : Bs) (L : Kn) (w : World) (h : RK S b B L w) (hf : Fit B L) (hB : B.length ≤ 800000) :
    Calls Try.prog 69 #[ptr b, r.v] w fun e w' => e = .returned (.int .i64 (rck r)) ∧ RLft S b (rpB B L r) (rpL B L r) w w' := by
  by_cases g : rck r = 0
  · rw [g]; exact rput_yes r hr hrn g S b B L w h hf hB
  · have e1 : rpB B L r = B := by unfold rpB; rw [if_neg g]
    have e2 : rpL B L r = L := by unfold rpL; rw [if_neg g]
    rw [e1, e2]
    exact (rput_no r hr hrn g b w).mono fun e w' ⟨h1, h2⟩ => ⟨h1, (RLft.refl h).post h2⟩
end Go.Proofs.Ytljfkjbagebncaa
