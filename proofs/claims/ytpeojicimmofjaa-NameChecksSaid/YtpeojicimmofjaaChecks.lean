/-
  The walk of the law NameChecks: for every text and every labels it returns true; no older memory is changed.
-/
import Derived.Test.YtpeojicimmofjaaFew
import Derived.Test.YtpeojicimmofjaaRMake
namespace Go.Proofs.Ytpeojicimmofjaa
open Go.RowKit
/-- The labels of a name; of what is none nothing. -/
def lbs (l : Bs) : List Bs := if chk l = 0 then labs l else []
theorem label_any (s : ByteArray) (hs : s.size ≤ 1000000) (w : World) :
    Calls Try.prog 13 #[.string s] w fun e w' => ∃ v, e = .returned (.tuple #[v, .int .i64 (chk s.data.toList)]) ∧ Rd w' v (lbs s.data.toList) ∧ Below w.heap.size w w' := by
  unfold lbs
  by_cases h : chk s.data.toList = 0
  · rw [if_pos h, h]
    exact (label_yes s hs h w).mono fun e w' ⟨v, h1, h2, h3⟩ => ⟨v, h1, h2.rd, h3⟩
  · rw [if_neg h]
    exact (label_no s (by omega) h w).mono fun e w' ⟨h1, h3⟩ => ⟨_, h1, .inl ⟨rfl, rfl⟩, h3⟩
theorem rlabel_any (s : ByteArray) (hs : s.size ≤ 1000000) (w : World) :
    Calls Try.prog 14 #[.string s] w fun e w' => ∃ v, e = .returned (.tuple #[v, .int .i64 (chk s.data.toList)]) ∧ Rd w' v (lbs s.data.toList) ∧ Below w.heap.size w w' := by
  unfold lbs
  by_cases h : chk s.data.toList = 0
  · rw [if_pos h, h]
    exact (rlabels_yes s hs h w).mono fun e w' ⟨v, h1, h2, h3⟩ => ⟨v, h1, h2.rd, h3⟩
  · rw [if_neg h]
    exact (rlabels_no s hs h w).mono fun e w' ⟨h1, h3⟩ => ⟨_, h1, .inl ⟨rfl, rfl⟩, h3⟩
theorem lbs_len (s : ByteArray) (hs : s.size ≤ 1000000) : (lbs s.data.toList).length ≤ 1000000 := by
  unfold lbs
  split
  · exact labs_len s hs
  · simp
set_option maxRecDepth 100000 in
set_option maxHeartbeats 6400000 in
theorem lawChecks_few (s : ByteArray) (arg : Value) (w : World)
    (HF : ∀ w1 : World, Below w.heap.size w w1 → Calls Try.prog 10 #[arg] w1 fun e w' => ∃ v ls, e = .returned v ∧ Own9 w' w1.heap.size v ls ∧ FewOf ls ∧ Below w1.heap.size w1 w') :
    Calls Try.prog 3 #[.string s, arg] w fun e w' => e = .returned (.bool true) ∧ Below w.heap.size w w' := by
  obtain ⟨t, ht, hst⟩ := short_any s 400
  have ST := Lib.hid hst
  have HFF := Lib.hid HF
  clear hst HF
  go_enter Try.func3, Try.ntmps3
  go_wp2_with fail
  refine (awake_any w).mono ?_
  rintro e w0 ⟨rfl, h0⟩
  go_wp2_with fail
  refine (ST.out w0).mono ?_
  rintro e w0' ⟨rfl, rfl⟩
  go_wp2_with fail
  refine (HFF.out w0 h0).mono ?_
  rintro e w1 ⟨v, ls, rfl, hown, hfew, hb1⟩
  have h1 := h0.trans (hb1.mono h0.size)
  have R1 := Lib.hid hown.rd
  have hl : ls.length ≤ 1000000 := by have := hfew.1; omega
  have HL := Lib.hid hl
  have HM : Hid (∀ x ∈ ls, x.length ≤ 1000000) := Lib.hid (fun x hx => by have := hfew.2 x hx; omega)
  obtain ⟨E, hE⟩ : ∃ E, E = mkE ls := ⟨_, rfl⟩
  have HE := Lib.hid hE
  clear hown hfew hb1 h0 hl hE
  go_wp2_with fail
  refine (make_any v ls w1 R1.out HL.out).mono ?_
  rintro e w2 ⟨rfl, hb2⟩
  rw [← HE.out]
  have h2 := h1.trans (hb2.mono h1.size)
  have R2 := Lib.hid (R1.out.below hb2)
  clear h1 hb2
  go_wp2_with fail
  refine (rmake_any v ls w2 R2.out HL.out HM.out).mono ?_
  rintro e w3 ⟨rfl, hb3⟩
  rw [← HE.out]
  have h3 := h2.trans (hb3.mono h2.size)
  clear h2 hb3
  obtain ⟨C, hC⟩ : ∃ C, C = chk t.data.toList := ⟨_, rfl⟩
  have HC := Lib.hid hC
  clear hC
  go_wp2_with fail
  refine (label_any t (by omega) w3).mono ?_
  rintro e w4 ⟨v4, rfl, hr4, hb4⟩
  rw [← HC.out]
  have h4 := h3.trans (hb4.mono h3.size)
  have R4 := Lib.hid hr4
  clear h3 hb4 hr4
  go_wp2_with fail
  refine (rlabel_any t (by omega) w4).mono ?_
  rintro e w5 ⟨v5, rfl, hr5, hb5⟩
  rw [← HC.out]
  have h5 := h4.trans (hb5.mono h4.size)
  have R4' := Lib.hid (R4.out.below hb5)
  have R5 := Lib.hid hr5
  clear h4 hb5 hr5
  go_wp2_with fail
  refine (same_lists v4 v5 (lbs t.data.toList) (lbs_len t (by omega)) w5 R4'.out R5.out).mono ?_
  rintro e w6 ⟨rfl, hb6⟩
  have h6 := h5.trans (hb6.mono h5.size)
  clear h5 hb6
  go_wp2_with fail
  refine (check_any t (by omega) w6).mono ?_
  rintro e w7 ⟨rfl, hb7⟩
  rw [← HC.out]
  have h7 := h6.trans (hb7.mono h6.size)
  clear h6 hb7
  go_wp2_with fail
  refine (rcheck_any t (by omega) w7).mono ?_
  rintro e w8 ⟨rfl, hb8⟩
  rw [← HC.out]
  have h8 := h7.trans (hb8.mono h7.size)
  clear h7 hb8
  obtain ⟨D, hD⟩ : ∃ D, D = dep t.data.toList := ⟨_, rfl⟩
  have HD := Lib.hid hD
  clear hD
  go_wp2_with fail
  refine (depth_any t (by omega) w8).mono ?_
  rintro e w9 ⟨rfl, hb9⟩
  rw [← HD.out]
  have h9 := h8.trans (hb9.mono h8.size)
  clear h8 hb9
  go_wp2_with fail
  refine (rdepth_any t (by omega) w9).mono ?_
  rintro e wA ⟨rfl, hbA⟩
  rw [← HD.out]
  go_wp2
  go_ret
  exact ⟨rfl, h9.trans (hbA.mono h9.size)⟩
theorem few_arg (b off n cap : Nat) (ss : Nat → ByteArray) (w w1 : World) (hw : Below w.heap.size w w1) (hb : b < w.heap.size) (hc : ∀ k, k < n → w.cell? ⟨b, off + k, none⟩ = some (.string (ss k))) :
    Calls Try.prog 10 #[.slice (some ⟨b, off, none⟩) n cap] w1 fun e w' => ∃ v ls, e = .returned v ∧ Own9 w' w1.heap.size v ls ∧ FewOf ls ∧ Below w1.heap.size w1 w' :=
  few_some b off n cap ss w1 (Nat.lt_of_lt_of_le hb hw.size) (fun k hk => (hw.cell (p := ⟨b, off + k, none⟩) hb).trans (hc k hk))
theorem lawChecks_some (s : ByteArray) (b off n cap : Nat) (ss : Nat → ByteArray) (w : World) (hb : b < w.heap.size) (hc : ∀ k, k < n → w.cell? ⟨b, off + k, none⟩ = some (.string (ss k))) :
    Calls Try.prog 3 #[.string s, .slice (some ⟨b, off, none⟩) n cap] w fun e w' => e = .returned (.bool true) ∧ Below w.heap.size w w' :=
  lawChecks_few s _ w (fun w1 hw => few_arg b off n cap ss w w1 hw hb hc)
theorem lawChecks_zero (s : ByteArray) (a : Option Addr) (cap : Nat) (w : World) :
    Calls Try.prog 3 #[.string s, .slice a 0 cap] w fun e w' => e = .returned (.bool true) ∧ Below w.heap.size w w' :=
  lawChecks_few s _ w (fun w1 _ => few_zero a cap w1)
end Go.Proofs.Ytpeojicimmofjaa
