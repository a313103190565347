/-
  The walk of the law PackNames: for every text and place it returns true; no older memory is changed.
-/
import Derived.Test.YthffdgjdioolkaaAwake
import Derived.Test.YthffdgjdioolkaaRName
namespace Go.Proofs.Ythffdgjdioolkaa
open Go.RowKit
theorem chk_enc {ls : List Bs} (h : ∀ x ∈ ls, OkL x) (h2 : (enc ls).length ≤ 254) : chk (enc ls ++ [0]) = 0 :=
  chk_zero.2 ⟨rest_join ls [0] h (by decide), by rw [List.length_append]; simp; omega⟩
theorem nm_names (s : Bs) : ∀ (k p st : Nat) (aft : Option Nat) (ls : List Bs), mu s.length st p = k → (∀ x ∈ ls, OkL x) → (enc ls).length ≤ 254 → (nm s p st aft (enc ls)).2.2 = 0 → chk (nm s p st aft (enc ls)).1 = 0 := by
  intro k
  induction k using Nat.strongRecOn with
  | _ k ih =>
    intro p st aft ls hk hok hlen h
    by_cases hl : p < s.length
    · obtain ⟨c, hc⟩ : ∃ c, (s.getD p 0).toNat = c := ⟨_, rfl⟩
      by_cases h0 : c = 0
      · rw [nm_zero s p st aft _ hl (by omega)] at h ⊢
        exact chk_enc hok hlen
      · by_cases h1 : 192 ≤ c
        · by_cases h2 : p + 1 < s.length
          · by_cases h3 : ((s.getD p 0).toNat - 192) * 256 + (s.getD (p + 1) 0).toNat < st
            · rw [nm_ptr s p st aft _ hl (by omega) h2 _ rfl h3] at h ⊢
              exact ih _ (by rw [← hk]; exact mu_ptr h3) _ _ _ ls rfl hok hlen h
            · rw [nm_far s p st aft _ hl (by omega) h2 h3] at h
              simp at h
          · rw [nm_short s p st aft _ hl (by omega) h2] at h
            simp at h
        · by_cases h2 : 63 < c
          · rw [nm_odd s p st aft _ hl (by omega) (by omega)] at h
            simp at h
          · by_cases h3 : p + 1 + c ≤ s.length
            · by_cases h4 : (enc ls).length + 1 + c + 1 ≤ 255
              · have e := nm_lab s p st aft (enc ls) hl (by omega) (by omega) (by omega) (by omega)
                rw [hc, lab_bytes hl hc h3, show enc ls ++ enc1 ((s.drop (p + 1)).take c) = enc (ls ++ [(s.drop (p + 1)).take c]) by rw [enc_append]; simp [enc]] at e
                rw [e] at h ⊢
                refine ih _ (by rw [← hk]; exact mu_lt (.inl ⟨rfl, rfl⟩) hl h3) _ _ _ _ rfl (ok_snoc hok (lab_ok h3 h0 (by omega))) ?_ h
                rw [enc_snoc_length]; simp; omega
              · rw [nm_long s p st aft _ hl (by omega) (by omega) (by omega) (by omega)] at h
                simp at h
            · rw [nm_cut s p st aft _ hl (by omega) (by omega) (by omega)] at h
              simp at h
    · rw [nm_end s p st aft _ hl] at h
      simp at h
theorem nmI_names (s : Bs) (a : Int) (h : (nmI s a).2.2 = 0) : chk (nmI s a).1 = 0 := by
  unfold nmI at h ⊢
  split
  · rename_i h2; rw [if_pos h2] at h; simp at h
  · rename_i h2; rw [if_neg h2] at h
    exact nm_names s _ _ _ none [] rfl (by simp) (by decide) h
theorem nm_len (s : Bs) : ∀ (k p st : Nat) (aft : Option Nat) (acc : Bs), mu s.length st p = k → acc.length ≤ 254 → (nm s p st aft acc).1.length ≤ 255 := by
  intro k
  induction k using Nat.strongRecOn with
  | _ k ih =>
    intro p st aft acc hk hlen
    by_cases hl : p < s.length
    · obtain ⟨c, hc⟩ : ∃ c, (s.getD p 0).toNat = c := ⟨_, rfl⟩
      by_cases h0 : c = 0
      · rw [nm_zero s p st aft _ hl (by omega)]; simp; omega
      · by_cases h1 : 192 ≤ c
        · by_cases h2 : p + 1 < s.length
          · by_cases h3 : ((s.getD p 0).toNat - 192) * 256 + (s.getD (p + 1) 0).toNat < st
            · rw [nm_ptr s p st aft _ hl (by omega) h2 _ rfl h3]
              exact ih _ (by rw [← hk]; exact mu_ptr h3) _ _ _ acc rfl hlen
            · rw [nm_far s p st aft _ hl (by omega) h2 h3]; simp
          · rw [nm_short s p st aft _ hl (by omega) h2]; simp
        · by_cases h2 : 63 < c
          · rw [nm_odd s p st aft _ hl (by omega) (by omega)]; simp
          · by_cases h3 : p + 1 + c ≤ s.length
            · by_cases h4 : acc.length + 1 + c + 1 ≤ 255
              · rw [nm_lab s p st aft acc hl (by omega) (by omega) (by omega) (by omega), hc]
                refine ih _ (by rw [← hk]; exact mu_lt (.inl ⟨rfl, rfl⟩) hl h3) _ _ _ _ rfl ?_
                rw [List.length_append, take_lab h3]; omega
              · rw [nm_long s p st aft _ hl (by omega) (by omega) (by omega) (by omega)]; simp
            · rw [nm_cut s p st aft _ hl (by omega) (by omega) (by omega)]; simp
    · rw [nm_end s p st aft _ hl]; simp
theorem nmI_len (s : Bs) (a : Int) : (nmI s a).1.length ≤ 255 := by
  unfold nmI
  split
  · simp
  · exact nm_len s _ _ _ none [] rfl (by decide)
set_option maxRecDepth 100000 in
set_option maxHeartbeats 6400000 in
theorem lawNames_any (s : ByteArray) (a : Int) (ha : -9223372036854775808 ≤ a ∧ a ≤ 9223372036854775807) (w : World) :
    Calls Try.prog 4 #[.string s, .int .i64 a] w fun e w' => e = .returned (.bool true) ∧ Below w.heap.size w w' := by
  obtain ⟨t, ht, hsh⟩ := short_any s 2000
  have htb : t.size ≤ 140737488351232 := by omega
  have HSH := Lib.hid hsh
  have C := fun w => name_any t htb a ha w
  have D := fun w => rname_any t htb a ha w
  have hk := nmI_names t.data.toList a
  have hl := nmI_len t.data.toList a
  unfold nmV at C D
  generalize nmI t.data.toList a = R at C D hk hl
  obtain ⟨n, q, k⟩ := R
  obtain ⟨m, hm⟩ : ∃ m : ByteArray, m = ⟨n.toArray⟩ := ⟨_, rfl⟩
  have hmn : m.data.toList = n := by rw [hm]
  have hms : m.size ≤ 140737488351232 := by rw [size_list, hmn]; simp only at hl; omega
  have HC := Lib.hid C
  have HD := Lib.hid D
  have HM := Lib.hid (show str n = .string m by rw [hm])
  have HK : Hid (k = 0 → chk m.data.toList = 0) := Lib.hid (by rw [hmn]; exact hk)
  clear C D hsh hk hl hm hmn
  by_cases g : k = 0
  · have HG := Lib.hid (HK.out g)
    subst g
    go_enter Try.func4, Try.ntmps4
    go_wp2_with fail
    refine (awake_any _).mono ?_
    rintro e w1 ⟨rfl, h1⟩
    go_wp2_with fail
    refine (HSH.out _).mono ?_
    rintro e w' ⟨rfl, rfl⟩
    go_wp2_with fail
    refine (HC.out _).mono ?_
    rintro e w2 ⟨rfl, h2⟩
    rw [HM.out]
    go_wp2_with fail
    refine (HD.out _).mono ?_
    rintro e w3 ⟨rfl, h3⟩
    rw [HM.out]
    have h4 := (h1.trans (h2.mono h1.size)).trans (h3.mono (Nat.le_trans h1.size h2.size))
    clear h1 h2 h3
    go_wp2_with (go_at_call 19; refine (check_any m hms _).mono ?_; rintro e w5 ⟨rfl, h5⟩; rw [HG.out])
    go_ret
    exact ⟨rfl, h4.trans (h5.mono h4.size)⟩
  · have q0 : ((k : Int) == 0) = false := by simp; omega
    have q0' : ((k : Int) != 0) = true := by simp; omega
    go_enter Try.func4, Try.ntmps4
    go_wp2_with fail
    refine (awake_any _).mono ?_
    rintro e w1 ⟨rfl, h1⟩
    go_wp2_with fail
    refine (HSH.out _).mono ?_
    rintro e w' ⟨rfl, rfl⟩
    go_wp2_with fail
    refine (HC.out _).mono ?_
    rintro e w2 ⟨rfl, h2⟩
    rw [HM.out]
    go_wp2_with fail
    refine (HD.out _).mono ?_
    rintro e w3 ⟨rfl, h3⟩
    rw [HM.out]
    have h4 := (h1.trans (h2.mono h1.size)).trans (h3.mono (Nat.le_trans h1.size h2.size))
    clear h1 h2 h3
    go_wp2
    go_ret
    exact ⟨rfl, h4⟩
end Go.Proofs.Ythffdgjdioolkaa
