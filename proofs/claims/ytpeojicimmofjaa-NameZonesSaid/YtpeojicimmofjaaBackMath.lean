/-
  A name's text is read as that name; plain mathematics.
-/
import Derived.Test.YtpeojicimmofjaaReadMath
namespace Go.Proofs.Ytpeojicimmofjaa
theorem rd_plain {c : UInt8} {r : Bs} (h : ¬ c.toNat = 92) : rd (c :: r) = some (c, 1) := by simp [rd, h]
theorem esc_rd (b : UInt8) (r : Bs) : ∃ c t, esc b ++ r = c :: t ∧ ¬ c.toNat = 46 ∧ rd (esc b ++ r) = some (b, (esc b).length) := by
  have hb := b.toNat_lt
  unfold esc
  by_cases h : b.toNat = 46 ∨ b.toNat = 92
  · rw [if_pos h]
    refine ⟨92, b :: r, rfl, by decide, ?_⟩
    have hd : dig b = false := by simp [dig]; omega
    simp [rd, hd]
  · rw [if_neg h]
    by_cases h2 : b.toNat < 33 ∨ 126 < b.toNat
    · rw [if_pos h2]
      have e1 : (UInt8.ofNat (48 + b.toNat / 100)).toNat = 48 + b.toNat / 100 := by simp; omega
      have e2 : (UInt8.ofNat (48 + b.toNat / 10 % 10)).toNat = 48 + b.toNat / 10 % 10 := by simp; omega
      have e3 : (UInt8.ofNat (48 + b.toNat % 10)).toNat = 48 + b.toNat % 10 := by simp; omega
      have d1 : dig (UInt8.ofNat (48 + b.toNat / 100)) = true := by simp only [dig, e1, decide_eq_true_eq]; omega
      have d2 : dig (UInt8.ofNat (48 + b.toNat / 10 % 10)) = true := by simp only [dig, e2, decide_eq_true_eq]; omega
      have d3 : dig (UInt8.ofNat (48 + b.toNat % 10)) = true := by simp only [dig, e3, decide_eq_true_eq]; omega
      have ev : 100 * (48 + b.toNat / 100 - 48) + 10 * (48 + b.toNat / 10 % 10 - 48) + (48 + b.toNat % 10 - 48) = b.toNat := by omega
      refine ⟨92, _, rfl, by decide, ?_⟩
      generalize UInt8.ofNat (48 + b.toNat / 100) = x1 at *
      generalize UInt8.ofNat (48 + b.toNat / 10 % 10) = x2 at *
      generalize UInt8.ofNat (48 + b.toNat % 10) = x3 at *
      have hn : num (x1 :: x2 :: x3 :: r) = some b := by
        simp only [num, e1, e2, e3, ev]
        rw [if_pos ⟨d1, d2, d3, by omega⟩]
        simp
      show rd (92 :: x1 :: x2 :: x3 :: r) = _
      simp only [rd, if_pos (show (92 : UInt8).toNat = 92 from rfl), if_pos d1, hn]
      rfl
    · rw [if_neg h2]
      refine ⟨b, r, rfl, by omega, ?_⟩
      exact rd_plain (by omega)
theorem prs_esc (ls : List Bs) (cur : Bs) (b : UInt8) (r : Bs) (h : cur.length < 63) : prs ls cur (esc b ++ r) = prs ls (cur ++ [b]) r := by
  obtain ⟨c, t, e, h1, h2⟩ := esc_rd b r
  rw [e] at h2
  have e' := e
  rw [e, prs_byte ls cur c t b _ h1 h2 (by omega), ← e']
  simp
theorem prs_label (ls : List Bs) (x : Bs) : ∀ (cur r : Bs), cur.length + x.length ≤ 63 → prs ls cur (txtX x ++ r) = prs ls (cur ++ x) r := by
  induction x with
  | nil => intro cur r h; simp [txtX]
  | cons b x ih =>
    intro cur r h
    simp only [List.length_cons] at h
    have e : txtX (b :: x) ++ r = esc b ++ (txtX x ++ r) := by simp [txtX]
    rw [e, prs_esc _ _ _ _ (by omega), ih (cur ++ [b]) r (by simp; omega)]
    simp
theorem prs_text (ls : List Bs) : ∀ pre : List Bs, (∀ x ∈ ls, OkL x) → prs pre [] (txtL ls) = some (pre ++ ls, []) := by
  induction ls with
  | nil => intro pre h; simp [txtL, prs_nil]
  | cons x ls ih =>
    intro pre h
    have hx := (h x (by simp)).2
    have e : txtL (x :: ls) = txtX x ++ (46 :: txtL ls) := by simp [txtL]
    rw [e, prs_label pre x [] _ (by simp; exact hx), prs_dot _ _ _ _ (by decide), List.nil_append, ih _ (fun y hy => h y (by simp [hy]))]
    simp
theorem name_eq {l : Bs} (h : chk l = 0) : l = enc (labs l) ++ [0] := by
  have h1 := split l
  rw [(chk_zero.1 h).1] at h1
  exact h1.symm
theorem mk_name {l : Bs} (h : chk l = 0) : mkE (labs l) = 0 ∧ mkS (labs l) = l := by
  have h1 := name_eq h
  have h2 := congrArg List.length h1
  have h3 := (chk_zero.1 h).2
  have e : mkE (labs l) = 0 := by
    unfold mkE
    rw [if_pos (labs_ok l), if_neg (by simp at h2; omega)]
  exact ⟨e, by rw [mkS_zero e]; exact h1.symm⟩
/-- A name's text is read as that name. -/
theorem back {l : Bs} (h : chk l = 0) : psE (txt l) = 0 ∧ psS (txt l) = l := by
  unfold txt
  rw [if_pos h]
  by_cases hr : l = [0]
  · rw [if_pos hr, hr]; decide
  · rw [if_neg hr]
    have hne : labs l ≠ [] := by
      intro e
      have := name_eq h
      rw [e] at this
      exact hr this
    obtain ⟨x, ls, hls⟩ : ∃ x ls, labs l = x :: ls := by
      cases hh : labs l with
      | nil => exact absurd hh hne
      | cons x ls => exact ⟨x, ls, rfl⟩
    have hx := (labs_ok l x (by rw [hls]; simp)).1
    have hlen : 2 ≤ (txtL (labs l)).length := by
      rw [hls]
      cases x with
      | nil => simp at hx
      | cons b x =>
        have := (esc_len b).1
        simp only [txtL, txtX, List.flatMap_cons, List.length_append, List.length_cons, List.length_nil]
        omega
    have h1 : ¬ txtL (labs l) = [] := by intro e; rw [e] at hlen; simp at hlen
    have h2 : ¬ txtL (labs l) = [46] := by intro e; rw [e] at hlen; simp at hlen
    have h3 := prs_text (labs l) [] (labs_ok l)
    rw [List.nil_append] at h3
    unfold psE psS
    rw [if_neg h1, if_neg h2, if_neg h1, if_neg h2, h3]
    exact mk_name h
/-- Labels that make a name are its labels. -/
theorem made {ls : List Bs} (h : mkE ls = 0) : chk (mkS ls) = 0 ∧ labs (mkS ls) = ls ∧ (mkS ls).length ≤ 255 := by
  obtain ⟨h1, h2⟩ := mkE_ok h
  rw [mkS_zero h]
  have e1 := labs_join ls [0] h1 (by decide)
  have e2 := rest_join ls [0] h1 (by decide)
  have e3 : (enc ls ++ [0]).length ≤ 255 := by simp; omega
  exact ⟨chk_zero.2 ⟨e2, e3⟩, e1, e3⟩
theorem txt_len (l : Bs) : (txt l).length ≤ 1000000 := by
  unfold txt
  split
  · split
    · simp
    · rename_i h _
      have h1 := txtL_len (labs l) (fun x hx => (labs_ok l x hx).2)
      have h2 := labs_len255 h
      omega
  · simp
end Go.Proofs.Ytpeojicimmofjaa
