/-
  What is so of each name that is read: it is a name, of at most 255 bytes, and ends within the text; and a name that stands in full is read. Plain mathematics.
-/
import Derived.Test.YtflpceaaelampaaRName
import Derived.Test.YtflpceaaelampaaBackMath
namespace Go.Proofs.Ytflpceaaelampaa
open Go.RowKit
theorem chk_enc {ls : List Bs} (h : ∀ x ∈ ls, OkL x) (h2 : (enc ls).length ≤ 254) : chk (enc ls ++ [0]) = 0 :=
  chk_zero.2 ⟨rest_join ls [0] h (by decide), by rw [List.length_append]; simp; omega⟩
theorem nm_names (s : Bs) : ∀ (k p st : Nat) (aft : Option Nat) (ls : List Bs), mu s.length st p = k → (∀ x ∈ ls, OkL x) → (enc ls).length ≤ 254 → (nm s p st aft (enc ls)).2.2 = 0 → chk (nm s p st aft (enc ls)).1 = 0 := by
  intro k
  induction k using Nat.strongRecOn with
  | _ k ih =>
    intro p st aft ls hk hok hlen h
    by_cases hl : p < s.length
    · obtain ⟨c, hc⟩ : ∃ c, (s.getD p 0).toNat = c := ⟨_, rfl⟩
      by_cases h0 : c = 0
      · rw [nm_zero s p st aft _ hl (by omega)] at h ⊢
        exact chk_enc hok hlen
      · by_cases h1 : 192 ≤ c
        · by_cases h2 : p + 1 < s.length
          · by_cases h3 : ((s.getD p 0).toNat - 192) * 256 + (s.getD (p + 1) 0).toNat < st
            · rw [nm_ptr s p st aft _ hl (by omega) h2 _ rfl h3] at h ⊢
              exact ih _ (by rw [← hk]; exact mu_ptr h3) _ _ _ ls rfl hok hlen h
            · rw [nm_far s p st aft _ hl (by omega) h2 h3] at h
              simp at h
          · rw [nm_short s p st aft _ hl (by omega) h2] at h
            simp at h
        · by_cases h2 : 63 < c
          · rw [nm_odd s p st aft _ hl (by omega) (by omega)] at h
            simp at h
          · by_cases h3 : p + 1 + c ≤ s.length
            · by_cases h4 : (enc ls).length + 1 + c + 1 ≤ 255
              · have e := nm_lab s p st aft (enc ls) hl (by omega) (by omega) (by omega) (by omega)
                rw [hc, lab_bytes hl hc h3, show enc ls ++ enc1 ((s.drop (p + 1)).take c) = enc (ls ++ [(s.drop (p + 1)).take c]) by rw [enc_append]; simp [enc]] at e
                rw [e] at h ⊢
                refine ih _ (by rw [← hk]; exact mu_lt (.inl ⟨rfl, rfl⟩) hl h3) _ _ _ _ rfl (ok_snoc hok (lab_ok h3 h0 (by omega))) ?_ h
                rw [enc_snoc_length]; simp; omega
              · rw [nm_long s p st aft _ hl (by omega) (by omega) (by omega) (by omega)] at h
                simp at h
            · rw [nm_cut s p st aft _ hl (by omega) (by omega) (by omega)] at h
              simp at h
    · rw [nm_end s p st aft _ hl] at h
      simp at h
theorem nmI_names (s : Bs) (a : Int) (h : (nmI s a).2.2 = 0) : chk (nmI s a).1 = 0 := by
  unfold nmI at h ⊢
  split
  · rename_i h2; rw [if_pos h2] at h; simp at h
  · rename_i h2; rw [if_neg h2] at h
    exact nm_names s _ _ _ none [] rfl (by simp) (by decide) h
theorem nm_len (s : Bs) : ∀ (k p st : Nat) (aft : Option Nat) (acc : Bs), mu s.length st p = k → acc.length ≤ 254 → (nm s p st aft acc).1.length ≤ 255 := by
  intro k
  induction k using Nat.strongRecOn with
  | _ k ih =>
    intro p st aft acc hk hlen
    by_cases hl : p < s.length
    · obtain ⟨c, hc⟩ : ∃ c, (s.getD p 0).toNat = c := ⟨_, rfl⟩
      by_cases h0 : c = 0
      · rw [nm_zero s p st aft _ hl (by omega)]; simp; omega
      · by_cases h1 : 192 ≤ c
        · by_cases h2 : p + 1 < s.length
          · by_cases h3 : ((s.getD p 0).toNat - 192) * 256 + (s.getD (p + 1) 0).toNat < st
            · rw [nm_ptr s p st aft _ hl (by omega) h2 _ rfl h3]
              exact ih _ (by rw [← hk]; exact mu_ptr h3) _ _ _ acc rfl hlen
            · rw [nm_far s p st aft _ hl (by omega) h2 h3]; simp
          · rw [nm_short s p st aft _ hl (by omega) h2]; simp
        · by_cases h2 : 63 < c
          · rw [nm_odd s p st aft _ hl (by omega) (by omega)]; simp
          · by_cases h3 : p + 1 + c ≤ s.length
            · by_cases h4 : acc.length + 1 + c + 1 ≤ 255
              · rw [nm_lab s p st aft acc hl (by omega) (by omega) (by omega) (by omega), hc]
                refine ih _ (by rw [← hk]; exact mu_lt (.inl ⟨rfl, rfl⟩) hl h3) _ _ _ _ rfl ?_
                rw [List.length_append, take_lab h3]; omega
              · rw [nm_long s p st aft _ hl (by omega) (by omega) (by omega) (by omega)]; simp
            · rw [nm_cut s p st aft _ hl (by omega) (by omega) (by omega)]; simp
    · rw [nm_end s p st aft _ hl]; simp
theorem nmI_len (s : Bs) (a : Int) : (nmI s a).1.length ≤ 255 := by
  unfold nmI
  split
  · simp
  · exact nm_len s _ _ _ none [] rfl (by decide)
theorem nm_place (s : Bs) : ∀ (k p st : Nat) (aft : Option Nat) (acc : Bs), mu s.length st p = k → (∀ a, aft = some a → a ≤ s.length) → (nm s p st aft acc).2.1 ≤ s.length := by
  intro k
  induction k using Nat.strongRecOn with
  | _ k ih =>
    intro p st aft acc hk ha
    have hget : ∀ x, x ≤ s.length → aft.getD x ≤ s.length := fun x hx => by
      cases aft with
      | none => exact hx
      | some a => exact ha a rfl
    by_cases hl : p < s.length
    · obtain ⟨c, hc⟩ : ∃ c, (s.getD p 0).toNat = c := ⟨_, rfl⟩
      by_cases h0 : c = 0
      · rw [nm_zero s p st aft _ hl (by omega)]
        exact hget _ (by omega)
      · by_cases h1 : 192 ≤ c
        · by_cases h2 : p + 1 < s.length
          · by_cases h3 : ((s.getD p 0).toNat - 192) * 256 + (s.getD (p + 1) 0).toNat < st
            · rw [nm_ptr s p st aft _ hl (by omega) h2 _ rfl h3]
              exact ih _ (by rw [← hk]; exact mu_ptr h3) _ _ _ acc rfl (fun a e => by cases e; exact hget _ (by omega))
            · rw [nm_far s p st aft _ hl (by omega) h2 h3]; simp
          · rw [nm_short s p st aft _ hl (by omega) h2]; simp
        · by_cases h2 : 63 < c
          · rw [nm_odd s p st aft _ hl (by omega) (by omega)]; simp
          · by_cases h3 : p + 1 + c ≤ s.length
            · by_cases h4 : acc.length + 1 + c + 1 ≤ 255
              · rw [nm_lab s p st aft acc hl (by omega) (by omega) (by omega) (by omega), hc]
                exact ih _ (by rw [← hk]; exact mu_lt (.inl ⟨rfl, rfl⟩) hl h3) _ _ _ _ rfl ha
              · rw [nm_long s p st aft _ hl (by omega) (by omega) (by omega) (by omega)]; simp
            · rw [nm_cut s p st aft _ hl (by omega) (by omega) (by omega)]; simp
    · rw [nm_end s p st aft _ hl]; simp
theorem nmI_place_any (s : Bs) (a : Int) : (nmI s a).2.1 ≤ s.length := by
  unfold nmI
  by_cases h0 : a < 0
  · rw [if_pos h0]; simp
  · rw [if_neg h0]
    exact nm_place s _ _ _ _ _ rfl (fun a e => by cases e)
/-- A name that stands in full is put as it is. -/
theorem putN_plain : ∀ (ls : List Bs) (B : Bs) (L : Kn), (putN false B L ls).1 = B ++ enc ls ++ [0] := by
  intro ls
  induction ls with
  | nil => intro B L; simp [putN_nil, enc]
  | cons x xs ih =>
    intro B L
    cases hf : find L (enc (x :: xs) ++ [0]) with
    | some a => rw [putN_pass _ _ _ _ _ hf, ih, enc_cons]; simp
    | none => rw [putN_new _ _ _ _ _ hf, ih, enc_cons]; simp
theorem pkB_plain {B : Bs} {L : Kn} {n : Bs} (g : chk n = 0) : pkB false B L n = B ++ n := by
  unfold pkB
  rw [if_pos g, putN_plain, List.append_assoc, name_split g]
/-- A name that stands in full is read. -/
theorem nmI_plain (p n r : Bs) (g : chk n = 0) : nmI (p ++ n ++ r) (p.length : Int) = (n, p.length + n.length, 0) := by
  have h0 : Good p [] [] := ⟨by intro r a h; simp at h, by simp⟩
  have h1 := (h0.put (pts := false) g)
  rw [pkB_plain g] at h1
  have h2 := h1.raw r
  have := h2.read (r := (n, p.length, (p ++ n).length)) (by simp)
  rw [List.length_append] at this
  exact this
end Go.Proofs.Ytflpceaaelampaa
