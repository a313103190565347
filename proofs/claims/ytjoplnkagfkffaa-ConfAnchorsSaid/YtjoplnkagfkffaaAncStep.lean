/-
  An order that sets an anchor.
-/
import Derived.Test.YtjoplnkagfkffaaSetA
namespace Go.Proofs.Ytjoplnkagfkffaa
open Go.RowKit
set_option maxRecDepth 100000 in
set_option maxHeartbeats 3200000 in
theorem change4 {W : World} {B base : Nat} {r h a fs : Value} {C C' : Cf} {er nd : Int} {nm tx zn : ByteArray} (hC : Ce W B 29 #[r, h, a, it C.epoch, fs]) (hO : OwnC W base r h a fs C) (hbs : base ≤ W.heap.size)
    (hf : ∀ W1, Ce W1 B 29 #[r, h, a, it C.epoch, fs] → OwnC W1 base r h a fs C → base ≤ W1.heap.size → Calls Try.prog 33 #[ptr B, .agg #[.string nm, .string tx]] W1 (Post B base er C' W1)) :
    Calls Try.prog 18 #[ptr B, ordV 4 nd nm tx zn (.slice none 0 0)] W (Post B base er C' W) := by
  have hb := one_new W (.cells #[it 4, it nd, .string nm, .string tx, .string zn, .slice none 0 0] 35)
  have HC := Lib.hid (Ce.new W 35 #[it 4, it nd, .string nm, .string tx, .string zn, .slice none 0 0])
  have HF := Lib.hid (hf _ (hC.below hb) (hO.below hb) (Nat.le_trans hbs hb.size))
  have HB := Lib.hid (hb.mono hbs)
  clear hb hC hO hf
  go_enter Try.func18, Try.ntmps18
  go_upto_region 1 with fail
  generalize W.alloc _ = wA at *
  obtain ⟨c0, c1, c2, c3, c4, c5⟩ := c6 HC.out
  go_wp2_with fail
  refine HF.out.mono ?_
  rintro e w2 ⟨rfl, hb2, hp⟩
  have HB2 := Lib.hid (HB.out.trans hb2)
  have HP := Lib.hid hp
  clear hb2 hp
  go_wp2
  go_ret
  exact ⟨rfl, HB2.out, HP.out⟩
theorem fit_anchor {nm tx : ByteArray} (hz : chk (bl nm) = 0) (ht : tx.size ≤ 200) : fitB 4 0 nm tx ⟨#[]⟩ [] = true := by
  have h1 : (chk (bl nm) == 0) = true := by simpa using hz
  have h2 : decide (tx.size ≤ 200) = true := decide_eq_true ht
  simp [fitB, em_nil, h1, ht]
theorem fit_anchor_no {nm tx : ByteArray} (hz : ¬ chk (bl nm) = 0) : fitB 4 0 nm tx ⟨#[]⟩ [] = false := by
  have h1 : (chk (bl nm) == 0) = false := by simpa using hz
  simp [fitB, em_nil, h1]
theorem setL_full {L : List An} {t : An} (h : setE L t ≠ 0) : setL L t = L := by
  unfold setE at h
  unfold setL
  split
  · rename_i h1; rw [if_pos h1] at h; exact absurd rfl h
  · rename_i h1
    rw [if_neg h1] at h
    split
    · rfl
    · rename_i h2; rw [if_neg h2] at h; exact absurd rfl h
theorem apply_anchor {w : World} {r h a fs : Value} {C : Cf} {t : An} (hC : RdC w r h a fs C) (hok : C.Ok) (hs : Srt C.anchors) (hz : chk (bl t.name) = 0) (hn : t.name.size ≤ 1000000) (ht : t.text.size ≤ 200) :
    Calls Try.prog 9 #[cv r h a C.epoch fs, ordV 4 0 t.name t.text ⟨#[]⟩ (.slice none 0 0)] w fun e w' => ∃ r' h' a' fs', e = .returned (.tuple #[cv r' h' a' C.epoch fs', it (setE C.anchors t)]) ∧ OwnC w' w.heap.size r' h' a' fs' (ancC C (setL C.anchors t)) ∧ Below w.heap.size w w' :=
  apply_any hC hok (k := 4) (nd := 0) (RdX.nil w) (by decide) hn (by decide) (ancC C (setL C.anchors t)) (ancC C (setL C.anchors t)) (setE C.anchors t) (fun _ => rfl) (fun h => by rw [setL_full h]; rfl)
    (fun W B base r h a fs h1 h2 h3 h4 _ => change4 h1 h2 h4 (fun W1 c1 o1 b1 => setAnchor_any c1 o1 hok hs hn h3 b1)) (fit_anchor hz ht)
theorem apply_anchor_no {w : World} {r h a fs : Value} {C : Cf} {t : An} (hC : RdC w r h a fs C) (hok : C.Ok) (hz : ¬ chk (bl t.name) = 0) (hn : t.name.size ≤ 1000000) :
    Calls Try.prog 9 #[cv r h a C.epoch fs, ordV 4 0 t.name t.text ⟨#[]⟩ (.slice none 0 0)] w fun e w' => ∃ r' h' a' fs', e = .returned (.tuple #[cv r' h' a' C.epoch fs', it 1]) ∧ OwnC w' w.heap.size r' h' a' fs' C ∧ Below w.heap.size w w' :=
  apply_bad hC hok (k := 4) (nd := 0) (RdX.nil w) (by decide) hn (by decide) (fit_anchor_no hz)
/-! What the law asks, as mathematics. -/
theorem sam_comm (a b : Bs) : sam a b = sam b a := by
  unfold sam
  by_cases h : a.length = b.length ∧ chk a = 0 ∧ chk b = 0
  · rw [if_pos h, if_pos ⟨h.1.symm, h.2.2, h.2.1⟩]
    rw [Bool.eq_iff_iff, beq_iff_eq, beq_iff_eq]
    exact eq_comm
  · rw [if_neg h, if_neg (fun h' => h ⟨h'.1.symm, h'.2.2, h'.2.1⟩)]
theorem sam_refl {a : Bs} (h : chk a = 0) : sam a a = true := by
  unfold sam
  rw [if_pos ⟨rfl, h, h⟩]
  simp
/-- Has the law seen one of that name? -/
abbrev isA (t x : An) : Bool := sam (bl x.name) (bl t.name)
theorem kept_none (L : List An) (t : An) : (keptA L t).filter (isA t) = [] := by
  unfold keptA
  rw [List.filter_filter, List.filter_eq_nil_iff]
  intro x _
  show ¬ (sam (bl x.name) (bl t.name) && !sam (bl t.name) (bl x.name)) = true
  rw [sam_comm (bl t.name) (bl x.name)]
  cases sam (bl x.name) (bl t.name) <;> simp
theorem full_iff {L : List An} {t : An} (hl : L.length ≤ 16) : 16 ≤ (keptA L t).length ↔ (L.length = 16 ∧ L.any (isA t) = false) := by
  have h1 : (keptA L t).length ≤ L.length := List.length_filter_le _ _
  constructor
  · intro h
    refine ⟨by omega, ?_⟩
    have h2 : keptA L t = L := by
      unfold keptA
      exact (List.filter_sublist).eq_of_length (by have : (keptA L t).length = L.length := by omega
                                                   exact this)
    rw [List.any_eq_false]
    intro x hx
    have h3 : x ∈ keptA L t := by rw [h2]; exact hx
    have h4 := (List.mem_filter.1 h3).2
    show ¬ sam (bl x.name) (bl t.name) = true
    rw [sam_comm]
    simpa using h4
  · rintro ⟨h2, h3⟩
    have h4 : keptA L t = L := by
      unfold keptA
      rw [List.filter_eq_self]
      intro x hx
      rw [List.any_eq_false] at h3
      have := h3 x hx
      show (!sam (bl t.name) (bl x.name)) = true
      rw [sam_comm]
      simpa using this
    rw [h4]
    omega
theorem setL_len {L : List An} {t : An} (hl : L.length ≤ 16) : (setL L t).length ≤ 16 := by
  have h1 : (keptA L t).length ≤ L.length := List.length_filter_le _ _
  unfold setL
  split
  · omega
  · split
    · exact hl
    · rw [insA_len]; omega
theorem setL_mem {L : List An} {t x : An} (h : x ∈ setL L t) : x = t ∨ x ∈ L := by
  unfold setL at h
  split at h
  · exact .inr (List.mem_filter.1 h).1
  · split at h
    · exact .inr h
    · rcases insA_mem.1 h with h | h
      · exact .inl h
      · exact .inr (List.mem_filter.1 h).1
theorem setL_srt {L : List An} {t : An} (hs : Srt L) : Srt (setL L t) := by
  unfold setL
  split
  · exact srt_filter hs _
  · split
    · exact hs
    · exact srt_ins (srt_filter hs _) _
/-- The texts of those of that name, one behind the other. -/
def fnd (t : An) (L : List An) : ByteArray := ⟨((L.filter (isA t)).flatMap fun x => bl x.text).toArray⟩
theorem fnd_snoc {t x : An} {L : List An} {k : Nat} (h : L[k]? = some x) : fnd t (L.take (k + 1)) = if isA t x then fnd t (L.take k) ++ x.text else fnd t (L.take k) := by
  unfold fnd
  rw [filt_snoc h]
  cases e : isA t x with
  | true =>
    rw [if_pos rfl, if_pos rfl]
    apply ByteArray.ext
    rw [ByteArray.data_append]
    simp
  | false => simp
theorem fnd_size {t : An} {L : List An} (h : ∀ x ∈ L, x.text.size ≤ 60) : (fnd t L).size ≤ 60 * L.length := by
  unfold fnd
  induction L with
  | nil => exact Nat.le_refl 0
  | cons y r ih =>
    have h1 := ih fun x hx => h x (List.mem_cons_of_mem _ hx)
    have h2 := h y (List.mem_cons_self ..)
    rw [size_list] at h1 ⊢
    rw [size_list] at h2
    rw [List.filter_cons]
    simp only [List.length_cons] at *
    split
    · simp at h1 h2 ⊢; omega
    · simp at h1 h2 ⊢; omega
theorem fnd_set {L : List An} {t : An} (hz : chk (bl t.name) = 0) (h : setE L t = 0) : fnd t (setL L t) = t.text := by
  unfold setE at h
  unfold setL fnd
  by_cases h1 : em t.text = true
  · rw [if_pos h1, kept_none]
    unfold em at h1
    have h2 : t.text.toList = [] := by simpa using h1
    rw [ByteArray.toList_eq] at h2
    obtain ⟨n, ⟨⟨tx⟩⟩⟩ := t
    simp at h2
    subst h2
    rfl
  · rw [if_neg h1] at h ⊢
    split
    · rename_i h2; rw [if_pos h2] at h; cases h
    · have h3 : (keptA L t).filter (isA t) = [] := kept_none L t
      unfold insA
      have h4 := List.take_append_drop (posA (keptA L t) t) (keptA L t)
      rw [← h4, List.filter_append, List.append_eq_nil_iff] at h3
      rw [List.filter_append, List.filter_append, h3.1, h3.2, List.filter_cons_of_pos (by exact sam_refl hz)]
      apply ByteArray.ext
      simp
end Go.Proofs.Ytjoplnkagfkffaa
