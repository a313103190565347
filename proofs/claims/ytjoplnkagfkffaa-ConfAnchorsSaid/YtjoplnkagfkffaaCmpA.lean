/-
  Anchors in order: how two are compared.
-/
import Derived.Test.YtjoplnkagfkffaaDelA
import Derived.Lib.Bytealg
namespace Go.Proofs.Ytjoplnkagfkffaa
open Go.RowKit
abbrev cb : Bs → Bs → Int := Lib.compareBytes
theorem cb_anti : ∀ a b : Bs, cb b a = - cb a b
  | [], [] => rfl
  | [], _ :: _ => rfl
  | _ :: _, [] => rfl
  | x :: a, y :: b => by
    have ih : Lib.compareBytes b a = - Lib.compareBytes a b := cb_anti a b
    show Lib.compareBytes (y :: b) (x :: a) = - Lib.compareBytes (x :: a) (y :: b)
    unfold Lib.compareBytes
    by_cases h1 : x < y
    · have h2 : ¬ y < x := fun h => absurd (UInt8.lt_trans h1 h) (UInt8.lt_irrefl x)
      simp only [if_pos h1, if_neg h2]; decide
    · by_cases h2 : y < x
      · simp only [if_pos h2, if_neg h1]
      · simp only [if_neg h2, if_neg h1]; exact ih
theorem cb_trans : ∀ {a b c : Bs}, cb a b ≤ 0 → cb b c ≤ 0 → cb a c ≤ 0
  | [], b, [] => fun _ _ => by show Lib.compareBytes [] [] ≤ 0; decide
  | [], b, _ :: _ => fun _ _ => by show Lib.compareBytes [] (_ :: _) ≤ 0; unfold Lib.compareBytes; decide
  | x :: a, [], c => fun h _ => by exfalso; revert h; show ¬ Lib.compareBytes (x :: a) [] ≤ 0; unfold Lib.compareBytes; decide
  | x :: a, y :: b, [] => fun _ h => by exfalso; revert h; show ¬ Lib.compareBytes (y :: b) [] ≤ 0; unfold Lib.compareBytes; decide
  | x :: a, y :: b, z :: c => by
    have ih : Lib.compareBytes a b ≤ 0 → Lib.compareBytes b c ≤ 0 → Lib.compareBytes a c ≤ 0 := @cb_trans a b c
    show Lib.compareBytes (x :: a) (y :: b) ≤ 0 → Lib.compareBytes (y :: b) (z :: c) ≤ 0 → Lib.compareBytes (x :: a) (z :: c) ≤ 0
    unfold Lib.compareBytes
    intro h1 h2
    by_cases a1 : x < y
    · by_cases b1 : y < z
      · simp only [if_pos (UInt8.lt_trans a1 b1)]; decide
      · by_cases b2 : z < y
        · simp only [if_neg b1, if_pos b2] at h2; exact absurd h2 (by decide)
        · have e : y = z := UInt8.le_antisymm (UInt8.not_lt.1 b2) (UInt8.not_lt.1 b1)
          subst e
          simp only [if_pos a1]; decide
    · by_cases a2 : y < x
      · simp only [if_neg a1, if_pos a2] at h1; exact absurd h1 (by decide)
      · have e : x = y := UInt8.le_antisymm (UInt8.not_lt.1 a2) (UInt8.not_lt.1 a1)
        subst e
        by_cases b1 : x < z
        · simp only [if_pos b1]; decide
        · by_cases b2 : z < x
          · simp only [if_neg b1, if_pos b2] at h2; exact absurd h2 (by decide)
          · simp only [if_neg a1, if_neg b1, if_neg b2] at h1 h2 ⊢
            exact ih h1 h2
theorem cb_refl (a : Bs) : cb a a = 0 := by have := cb_anti a a; omega
/-- How two anchors are compared. -/
def cmA (x y : An) : Int := cb (low (bl x.name)) (low (bl y.name))
theorem cmA_anti (x y : An) : cmA y x = - cmA x y := cb_anti _ _
theorem cmA_trans {x y z : An} : cmA x y ≤ 0 → cmA y z ≤ 0 → cmA x z ≤ 0 := cb_trans
/-- Anchors in order. -/
def Srt (L : List An) : Prop := L.Pairwise fun x y => cmA x y ≤ 0
/-- Where an anchor is put. -/
def posA (L : List An) (a : An) : Nat := (L.takeWhile fun x => decide (cmA x a < 0)).length
theorem posA_le (L : List An) (a : An) : posA L a ≤ L.length := (List.takeWhile_prefix _).length_le
theorem posA_lt {L : List An} {a x : An} {j : Nat} (h : L[j]? = some x) (hj : j < posA L a) : cmA x a < 0 := by
  unfold posA at hj
  induction L generalizing j with
  | nil => simp at h
  | cons y r ih =>
    rw [List.takeWhile_cons] at hj
    split at hj
    · rename_i hy
      cases j with
      | zero => have : y = x := by simpa using h
                subst this; simpa using hy
      | succ j => exact ih (by simpa using h) (by simp at hj; omega)
    · simp at hj
theorem posA_ge {L : List An} (hs : Srt L) {a x : An} {j : Nat} (h : L[j]? = some x) (hj : posA L a ≤ j) : 0 ≤ cmA x a := by
  unfold posA at hj
  induction L generalizing j with
  | nil => simp at h
  | cons y r ih =>
    rw [List.takeWhile_cons] at hj
    have hp := List.pairwise_cons.1 hs
    split at hj
    · rename_i hy
      cases j with
      | zero => simp at hj
      | succ j => exact ih hp.2 (by simpa using h) (by simp at hj; omega)
    · rename_i hy
      have hy : 0 ≤ cmA y a := by simpa using hy
      cases j with
      | zero => have : y = x := by simpa using h
                subst this; exact hy
      | succ j =>
        have hx : x ∈ r := List.mem_of_getElem? (i := j) (by simpa using h)
        have h1 := hp.1 x hx
        rcases Int.lt_or_le (cmA x a) 0 with h2 | h2
        · exfalso
          have h3 := cmA_trans h1 (Int.le_of_lt h2)
          have h4 : cmA y a = 0 := by omega
          have h5 : cmA a y ≤ 0 := by rw [cmA_anti]; omega
          have h6 := cmA_trans h5 h1
          rw [cmA_anti] at h6
          omega
        · exact h2
/-- An anchor put among others. -/
def insA (L : List An) (a : An) : List An := L.take (posA L a) ++ [a] ++ L.drop (posA L a)
theorem insA_mem {L : List An} {a x : An} : x ∈ insA L a ↔ x = a ∨ x ∈ L := by
  unfold insA
  rw [List.mem_append, List.mem_append, List.mem_singleton]
  constructor
  · rintro ((h | h) | h)
    · exact .inr (List.mem_of_mem_take h)
    · exact .inl h
    · exact .inr (List.mem_of_mem_drop h)
  · rintro (h | h)
    · exact .inl (.inr h)
    · rw [← List.take_append_drop (posA L a) L] at h
      rcases List.mem_append.1 h with h | h
      · exact .inl (.inl h)
      · exact .inr h
theorem insA_len (L : List An) (a : An) : (insA L a).length = L.length + 1 := by
  unfold insA
  have := posA_le L a
  simp
  omega
theorem srt_ins {L : List An} (hs : Srt L) (a : An) : Srt (insA L a) := by
  unfold Srt insA
  have e := List.take_append_drop (posA L a) L
  have hs' := hs
  unfold Srt at hs'
  rw [← e] at hs'
  obtain ⟨h1, h2, h3⟩ := List.pairwise_append.1 hs'
  have ht : ∀ x ∈ L.take (posA L a), cmA x a ≤ 0 := by
    intro x hx
    obtain ⟨j, hj⟩ := List.getElem?_of_mem hx
    rw [List.getElem?_take] at hj
    split at hj
    · rename_i hlt; exact Int.le_of_lt (posA_lt hj hlt)
    · cases hj
  have hd : ∀ x ∈ L.drop (posA L a), cmA a x ≤ 0 := by
    intro x hx
    obtain ⟨j, hj⟩ := List.getElem?_of_mem hx
    rw [List.getElem?_drop] at hj
    have := posA_ge (a := a) hs hj (by omega)
    rw [cmA_anti]; omega
  rw [List.append_assoc, List.pairwise_append]
  refine ⟨h1, ?_, fun x hx y hy => ?_⟩
  · rw [List.singleton_append, List.pairwise_cons]
    exact ⟨hd, h2⟩
  · rw [List.singleton_append] at hy
    rcases List.mem_cons.1 hy with rfl | hy
    · exact ht x hx
    · exact h3 x hx y hy
theorem srt_filter {L : List An} (hs : Srt L) (p : An → Bool) : Srt (L.filter p) := List.Pairwise.filter p hs
set_option maxRecDepth 100000 in
set_option maxHeartbeats 3200000 in
theorem cmps_any (a b : ByteArray) (w : World) : Calls Try.prog 82 #[.string a, .string b] w fun e w' => e = .returned (it (cb (bl a) (bl b))) ∧ w = w' := by
  go_enter Try.func82, Try.ntmps82
  go_wp2
  rw [run_callFunc_extern Try.func87 (by kernel_rfl) (by kernel_rfl) (by kernel_rfl) (e := Extern.BytealgCompare.compare) (by kernel_rfl), Lib.run_compareString]
  simp only [Result.andThen]
  rw [Oper.upon_value]
  go_wp2
  go_ret
  exact ⟨rfl, rfl⟩
set_option maxRecDepth 100000 in
set_option maxHeartbeats 3200000 in
theorem compare_any (a b : ByteArray) (w : World) : Calls Try.prog 71 #[.string a, .string b] w fun e w' => e = .returned (it (cb (bl a) (bl b))) ∧ w = w' := by
  go_enter Try.func71, Try.ntmps71
  go_wp2_with (go_at_call 82; refine (cmps_any _ _ _).mono ?_; rintro e w' ⟨rfl, rfl⟩)
  go_ret
  exact ⟨rfl, rfl⟩
theorem c2 {w : World} {n : Nat} {T : TypeId} {v0 v1 : Value} (h : Ce w n T #[v0, v1]) : w.cell? ⟨n, 0, none⟩ = some v0 ∧ w.cell? ⟨n, 1, none⟩ = some v1 := by
  refine ⟨?_, ?_⟩ <;> (rw [h.cell]; rfl)
set_option maxRecDepth 100000 in
set_option maxHeartbeats 3200000 in
theorem cmpA_any {a b : An} (ha : a.name.size ≤ 1000000) (hb : b.name.size ≤ 1000000) (w : World) :
    Calls Try.prog 53 #[a.v, b.v] w fun e w' => e = .returned (it (cmA a b)) ∧ Below w.heap.size w w' := by
  obtain ⟨na, ta⟩ := a
  obtain ⟨nb, tb⟩ := b
  obtain ⟨h1, h2, hs, hbw⟩ := two_new w #[.string na, .string ta] #[.string nb, .string tb] 43 43
  have L1 := Lib.hid (fun w' => lower_any na (by show na.size ≤ _; have : na.size ≤ 1000000 := ha; omega) w')
  have L2 := Lib.hid (fun w' => lower_any nb (by show nb.size ≤ _; have : nb.size ≤ 1000000 := hb; omega) w')
  obtain ⟨la, hla⟩ : ∃ x : ByteArray, x = ⟨(low (bl na)).toArray⟩ := ⟨_, rfl⟩
  obtain ⟨lb, hlb⟩ : ∃ x : ByteArray, x = ⟨(low (bl nb)).toArray⟩ := ⟨_, rfl⟩
  have LC := Lib.hid (fun w' => compare_any la lb w')
  have e : cb (bl la) (bl lb) = cmA ⟨na, ta⟩ ⟨nb, tb⟩ := by rw [hla, hlb, bl_of, bl_of]; rfl
  rw [e] at LC
  rw [← hla] at L1
  rw [← hlb] at L2
  obtain ⟨r, hr⟩ : ∃ r, r = cmA ⟨na, ta⟩ ⟨nb, tb⟩ := ⟨_, rfl⟩
  rw [← hr] at LC ⊢
  have H1 := Lib.hid h1
  have H2 := Lib.hid h2
  have HB := Lib.hid hbw
  clear ha hb hs h1 h2 hbw e hla hlb hr
  show Calls Try.prog 53 #[.agg #[.string na, .string ta], .agg #[.string nb, .string tb]] w _
  go_enter Try.func53, Try.ntmps53
  go_upto_region 1 with fail
  generalize World.alloc (World.alloc w _) _ = wA at *
  obtain ⟨g, hg⟩ : ∃ g, g = w.heap.size := ⟨_, rfl⟩
  have HB' : Hid (Below g w wA) := Lib.hid (by rw [hg]; exact HB.out)
  have HG := Lib.hid hg
  rw [← hg] at H1 H2 ⊢
  clear hg HB
  have H0 : Hid (Below wA.heap.size wA wA.drew) := Lib.hid (Below.refl _ wA).drew
  have HK := Lib.hid (fun w' (hb : Below wA.heap.size wA w') => And.intro (c2 (H1.out.below hb)).1 (c2 (H2.out.below hb)).1)
  go_region_held3 (fun w' => w'.cell? ⟨g, 0, none⟩ = some (.string na) ∧ w'.cell? ⟨g + 1, 0, none⟩ = some (.string nb))
    (first | with_reducible exact HK.out _ BB.out | with_reducible exact HK.out _ BA.out | with_reducible exact HK.out _ H0.out | fail)
    (first
      | (go_at_call 71; refine (LC.out _).mono ?_; rintro e w4 ⟨rfl, rfl⟩)
      | (go_at_call_of 56 (Value.string na); refine (L1.out _).mono ?_; rintro e w2 ⟨rfl, hb⟩; have BA : Hid (Below wA.heap.size wA w2) := Lib.hid (H0.out.trans (hb.mono H0.out.size)); clear hb)
      | (go_at_call_of 56 (Value.string nb); refine (L2.out _).mono ?_; rintro e w3 ⟨rfl, hb⟩; have BB : Hid (Below wA.heap.size wA w3) := Lib.hid (BA.out.trans (hb.mono BA.out.size)); clear hb)
      | fail)
  have HB2 : Hid (Below w.heap.size w w3) := Lib.hid (by have h := HB'.out; rw [HG.out] at h; exact h.trans (BB.out.mono h.size))
  go_wp2
  go_ret
  exact ⟨rfl, HB2.out⟩
end Go.Proofs.Ytjoplnkagfkffaa
