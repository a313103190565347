/-
  Names: What is so of each name that is read: it is a name, of at most 255 bytes, and ends within the text; and a name that stands in full is read. Plain mathematics.
  RecMath: The plain mathematics of records: what their data consist of, when they are valid, what is read and what is put.
-/
import Derived.Test.YtljfkjbagebncaaG07
import Derived.Test.YtljfkjbagebncaaG09

/- Names -/
namespace Go.Proofs.Ytljfkjbagebncaa
open Go.RowKit
theorem chk_enc {ls : List Bs} (h : ∀ x ∈ ls, OkL x) (h2 : (enc ls).length ≤ 254) : chk (enc ls ++ [0]) = 0 :=
  chk_zero.2 ⟨rest_join ls [0] h (by decide), by rw [List.length_append]; simp; omega⟩
theorem nm_names (s : Bs) : ∀ (k p st : Nat) (aft : Option Nat) (ls : List Bs), mu s.length st p = k → (∀ x ∈ ls, OkL x) → (enc ls).length ≤ 254 → (nm s p st aft (enc ls)).2.2 = 0 → chk (nm s p st aft (enc ls)).1 = 0 := by
  intro k
  induction k using Nat.strongRecOn with
  | _ k ih =>
    intro p st aft ls hk hok hlen h
    by_cases hl : p < s.length
    · obtain ⟨c, hc⟩ : ∃ c, (s.getD p 0).toNat = c := ⟨_, rfl⟩
      by_cases h0 : c = 0
      · rw [nm_zero s p st aft _ hl (by omega)] at h ⊢
        exact chk_enc hok hlen
      · by_cases h1 : 192 ≤ c
        · by_cases h2 : p + 1 < s.length
          · by_cases h3 : ((s.getD p 0).toNat - 192) * 256 + (s.getD (p + 1) 0).toNat < st
            · rw [nm_ptr s p st aft _ hl (by omega) h2 _ rfl h3] at h ⊢
              exact ih _ (by rw [← hk]; exact mu_ptr h3) _ _ _ ls rfl hok hlen h
            · rw [nm_far s p st aft _ hl (by omega) h2 h3] at h
              simp at h
          · rw [nm_short s p st aft _ hl (by omega) h2] at h
            simp at h
        · by_cases h2 : 63 < c
          · rw [nm_odd s p st aft _ hl (by omega) (by omega)] at h
            simp at h
          · by_cases h3 : p + 1 + c ≤ s.length
            · by_cases h4 : (enc ls).length + 1 + c + 1 ≤ 255
              · have e := nm_lab s p st aft (enc ls) hl (by omega) (by omega) (by omega) (by omega)
                rw [hc, lab_bytes hl hc h3, show enc ls ++ enc1 ((s.drop (p + 1)).take c) = enc (ls ++ [(s.drop (p + 1)).take c]) by rw [enc_append]; simp [enc]] at e
                rw [e] at h ⊢
                refine ih _ (by rw [← hk]; exact mu_lt (.inl ⟨rfl, rfl⟩) hl h3) _ _ _ _ rfl (ok_snoc hok (lab_ok h3 h0 (by omega))) ?_ h
                rw [enc_snoc_length]; simp; omega
              · rw [nm_long s p st aft _ hl (by omega) (by omega) (by omega) (by omega)] at h
                simp at h
            · rw [nm_cut s p st aft _ hl (by omega) (by omega) (by omega)] at h
              simp at h
    · rw [nm_end s p st aft _ hl] at h
      simp at h
theorem nmI_names (s : Bs) (a : Int) (h : (nmI s a).2.2 = 0) : chk (nmI s a).1 = 0 := by
  unfold nmI at h ⊢
  split
  · rename_i h2; rw [if_pos h2] at h; simp at h
  · rename_i h2; rw [if_neg h2] at h
    exact nm_names s _ _ _ none [] rfl (by simp) (by decide) h
theorem nm_len (s : Bs) : ∀ (k p st : Nat) (aft : Option Nat) (acc : Bs), mu s.length st p = k → acc.length ≤ 254 → (nm s p st aft acc).1.length ≤ 255 := by
  intro k
  induction k using Nat.strongRecOn with
  | _ k ih =>
    intro p st aft acc hk hlen
    by_cases hl : p < s.length
    · obtain ⟨c, hc⟩ : ∃ c, (s.getD p 0).toNat = c := ⟨_, rfl⟩
      by_cases h0 : c = 0
      · rw [nm_zero s p st aft _ hl (by omega)]; simp; omega
      · by_cases h1 : 192 ≤ c
        · by_cases h2 : p + 1 < s.length
          · by_cases h3 : ((s.getD p 0).toNat - 192) * 256 + (s.getD (p + 1) 0).toNat < st
            · rw [nm_ptr s p st aft _ hl (by omega) h2 _ rfl h3]
              exact ih _ (by rw [← hk]; exact mu_ptr h3) _ _ _ acc rfl hlen
            · rw [nm_far s p st aft _ hl (by omega) h2 h3]; simp
          · rw [nm_short s p st aft _ hl (by omega) h2]; simp
        · by_cases h2 : 63 < c
          · rw [nm_odd s p st aft _ hl (by omega) (by omega)]; simp
          · by_cases h3 : p + 1 + c ≤ s.length
            · by_cases h4 : acc.length + 1 + c + 1 ≤ 255
              · rw [nm_lab s p st aft acc hl (by omega) (by omega) (by omega) (by omega), hc]
                refine ih _ (by rw [← hk]; exact mu_lt (.inl ⟨rfl, rfl⟩) hl h3) _ _ _ _ rfl ?_
                rw [List.length_append, take_lab h3]; omega
              · rw [nm_long s p st aft _ hl (by omega) (by omega) (by omega) (by omega)]; simp
            · rw [nm_cut s p st aft _ hl (by omega) (by omega) (by omega)]; simp
    · rw [nm_end s p st aft _ hl]; simp
theorem nmI_len (s : Bs) (a : Int) : (nmI s a).1.length ≤ 255 := by
  unfold nmI
  split
  · simp
  · exact nm_len s _ _ _ none [] rfl (by decide)
theorem nm_place (s : Bs) : ∀ (k p st : Nat) (aft : Option Nat) (acc : Bs), mu s.length st p = k → (∀ a, aft = some a → a ≤ s.length) → (nm s p st aft acc).2.1 ≤ s.length := by
  intro k
  induction k using Nat.strongRecOn with
  | _ k ih =>
    intro p st aft acc hk ha
    have hget : ∀ x, x ≤ s.length → aft.getD x ≤ s.length := fun x hx => by
      cases aft with
      | none => exact hx
      | some a => exact ha a rfl
    by_cases hl : p < s.length
    · obtain ⟨c, hc⟩ : ∃ c, (s.getD p 0).toNat = c := ⟨_, rfl⟩
      by_cases h0 : c = 0
      · rw [nm_zero s p st aft _ hl (by omega)]
        exact hget _ (by omega)
      · by_cases h1 : 192 ≤ c
        · by_cases h2 : p + 1 < s.length
          · by_cases h3 : ((s.getD p 0).toNat - 192) * 256 + (s.getD (p + 1) 0).toNat < st
            · rw [nm_ptr s p st aft _ hl (by omega) h2 _ rfl h3]
              exact ih _ (by rw [← hk]; exact mu_ptr h3) _ _ _ acc rfl (fun a e => by cases e; exact hget _ (by omega))
            · rw [nm_far s p st aft _ hl (by omega) h2 h3]; simp
          · rw [nm_short s p st aft _ hl (by omega) h2]; simp
        · by_cases h2 : 63 < c
          · rw [nm_odd s p st aft _ hl (by omega) (by omega)]; simp
          · by_cases h3 : p + 1 + c ≤ s.length
            · by_cases h4 : acc.length + 1 + c + 1 ≤ 255
              · rw [nm_lab s p st aft acc hl (by omega) (by omega) (by omega) (by omega), hc]
                exact ih _ (by rw [← hk]; exact mu_lt (.inl ⟨rfl, rfl⟩) hl h3) _ _ _ _ rfl ha
              · rw [nm_long s p st aft _ hl (by omega) (by omega) (by omega) (by omega)]; simp
            · rw [nm_cut s p st aft _ hl (by omega) (by omega) (by omega)]; simp
    · rw [nm_end s p st aft _ hl]; simp
theorem nmI_place_any (s : Bs) (a : Int) : (nmI s a).2.1 ≤ s.length := by
  unfold nmI
  by_cases h0 : a < 0
  · rw [if_pos h0]; simp
  · rw [if_neg h0]
    exact nm_place s _ _ _ _ _ rfl (fun a e => by cases e)
/-- A name that stands in full is put as it is. -/
theorem putN_plain : ∀ (ls : List Bs) (B : Bs) (L : Kn), (putN false B L ls).1 = B ++ enc ls ++ [0] := by
  intro ls
  induction ls with
  | nil => intro B L; simp [putN_nil, enc]
  | cons x xs ih =>
    intro B L
    cases hf : find L (enc (x :: xs) ++ [0]) with
    | some a => rw [putN_pass _ _ _ _ _ hf, ih, enc_cons]; simp
    | none => rw [putN_new _ _ _ _ _ hf, ih, enc_cons]; simp
theorem pkB_plain {B : Bs} {L : Kn} {n : Bs} (g : chk n = 0) : pkB false B L n = B ++ n := by
  unfold pkB
  rw [if_pos g, putN_plain, List.append_assoc, name_split g]
/-- A name that stands in full is read. -/
theorem nmI_plain (p n r : Bs) (g : chk n = 0) : nmI (p ++ n ++ r) (p.length : Int) = (n, p.length + n.length, 0) := by
  have h0 : Good p [] [] := ⟨by intro r a h; simp at h, by simp⟩
  have h1 := (h0.put (pts := false) g)
  rw [pkB_plain g] at h1
  have h2 := h1.raw r
  have := h2.read (r := (n, p.length, (p ++ n).length)) (by simp)
  rw [List.length_append] at this
  exact this
end Go.Proofs.Ytljfkjbagebncaa

/- RecMath -/
namespace Go.Proofs.Ytljfkjbagebncaa
/-! ### Parts -/
abbrev Part := Bool × Bs
def rd1 (s : Bs) (a z : Int) : Bs × Int × Int := if z = -1 then ((nmI s a).1, ((nmI s a).2.1 : Int), ((nmI s a).2.2 : Int)) else (piS s a z, piP s a z, piR s a z)
def rdP (s : Bs) : List Int → Int → List Part × Int × Int
  | [], a => ([], a, 0)
  | z :: zs, a =>
    if (rd1 s a z).2.2 = 0 then
      if (rdP s zs (rd1 s a z).2.1).2.2 = 0 then ((decide (z = -1), (rd1 s a z).1) :: (rdP s zs (rd1 s a z).2.1).1, (rdP s zs (rd1 s a z).2.1).2.1, 0)
      else ([], 0, (rdP s zs (rd1 s a z).2.1).2.2)
    else ([], 0, (rd1 s a z).2.2)
/-- Parts that came first, and the others. -/
def cmb (ps : List Part) (q : List Part × Int × Int) : List Part × Int × Int := if q.2.2 = 0 then (ps ++ q.1, q.2.1, 0) else ([], 0, q.2.2)
theorem cmb_nil (q : List Part × Int × Int) (h : q.2.2 ≠ 0 → q = ([], 0, q.2.2)) : cmb [] q = q := by
  unfold cmb
  split
  · rename_i h2; obtain ⟨a, b, c⟩ := q; simp at h2; simp [h2]
  · rename_i h2; exact (h h2).symm
theorem rdP_err (s : Bs) (zs : List Int) (a : Int) (h : (rdP s zs a).2.2 ≠ 0) : rdP s zs a = ([], 0, (rdP s zs a).2.2) := by
  cases zs with
  | nil => simp [rdP] at h
  | cons z zs =>
    simp only [rdP] at h ⊢
    split
    · rename_i h1
      rw [if_pos h1] at h
      split
      · rename_i h2; rw [if_pos h2] at h; simp at h
      · rfl
    · rfl
theorem rdP_bad {s : Bs} {z : Int} {zs : List Int} {a : Int} {ps : List Part} (h : (rd1 s a z).2.2 ≠ 0) : cmb ps (rdP s (z :: zs) a) = ([], 0, (rd1 s a z).2.2) := by
  have e : rdP s (z :: zs) a = ([], 0, (rd1 s a z).2.2) := by simp only [rdP]; rw [if_neg h]
  rw [e]; unfold cmb; rw [if_neg h]
theorem rdP_go {s : Bs} {z : Int} {zs : List Int} {a : Int} {ps : List Part} (h : (rd1 s a z).2.2 = 0) : cmb ps (rdP s (z :: zs) a) = cmb (ps ++ [(decide (z = -1), (rd1 s a z).1)]) (rdP s zs (rd1 s a z).2.1) := by
  generalize hq : rdP s zs (rd1 s a z).2.1 = q
  by_cases h2 : q.2.2 = 0
  · have e : rdP s (z :: zs) a = ((decide (z = -1), (rd1 s a z).1) :: q.1, q.2.1, 0) := by simp only [rdP, hq]; rw [if_pos h, if_pos h2]
    rw [e]; unfold cmb; rw [if_pos rfl, if_pos h2]; simp
  · have e : rdP s (z :: zs) a = ([], 0, q.2.2) := by simp only [rdP, hq]; rw [if_pos h, if_neg h2]
    rw [e]; unfold cmb; rw [if_neg h2, if_neg h2]
theorem rdP_end {s : Bs} {a : Int} {ps : List Part} : cmb ps (rdP s [] a) = (ps, a, 0) := by simp [rdP, cmb]
theorem piR_bd (s : Bs) (a z : Int) : piR s a z = 0 ∨ piR s a z = 10 := by unfold piR; split <;> simp
/-- The places and the errors stay small. -/
theorem piP_bd (s : Bs) (a z : Int) : 0 ≤ piP s a z ∧ piP s a z ≤ (s.length : Int) := by
  unfold piP
  split
  · rename_i h; unfold piE at h; simp at h; omega
  · omega
theorem rd1_bd (s : Bs) (a z : Int) : 0 ≤ (rd1 s a z).2.1 ∧ (rd1 s a z).2.1 ≤ (s.length : Int) := by
  unfold rd1
  split
  · have := nmI_place_any s a; show (0 : Int) ≤ ((nmI s a).2.1 : Int) ∧ ((nmI s a).2.1 : Int) ≤ _; omega
  · exact piP_bd s a z
/-! ### Types -/
def named (t : Nat) : Bool := decide (t = 2 ∨ t = 5 ∨ t = 12 ∨ t = 15 ∨ t = 6)
def lay (t n : Nat) : List Int := if t = 2 ∨ t = 5 ∨ t = 12 then [-1] else if t = 15 then [2, -1] else if t = 6 then [-1, -1, 20] else [(n : Int)]
def spl (t : Nat) (d : Bs) : List Part × Int × Int := rdP d (lay t d.length) 0
def joinP (ps : List Part) : Bs := ps.flatMap (·.2)
theorem joinP_snoc (ps : List Part) (p : Part) : joinP (ps ++ [p]) = joinP ps ++ p.2 := by simp [joinP]
/-- Texts behind their lengths: where they end. -/
def jT (l : Bs) (p : Nat) : Nat := if _h : p < l.length then jT l (p + 1 + (l.getD p 0).toNat) else p
termination_by l.length - p
theorem jT_go {l : Bs} {p : Nat} (h : p < l.length) : jT l p = jT l (p + 1 + (l.getD p 0).toNat) := by rw [jT, dif_pos h]
theorem jT_stop {l : Bs} {p : Nat} (h : ¬ p < l.length) : jT l p = p := by rw [jT, dif_neg h]
def txt (l : Bs) : Bool := decide (0 < jT l 0 ∧ jT l 0 = l.length)
/-- Where the first zero stands, as labels lead there. -/
def jF (l : Bs) (p : Nat) : Nat := if _h : p < l.length ∧ (l.getD p 0).toNat ≠ 0 then jF l (p + 1 + (l.getD p 0).toNat) else p
termination_by l.length - p
theorem jF_go {l : Bs} {p : Nat} (h : p < l.length) (h2 : (l.getD p 0).toNat ≠ 0) : jF l p = jF l (p + 1 + (l.getD p 0).toNat) := by rw [jF, dif_pos ⟨h, h2⟩]
theorem jF_stop {l : Bs} {p : Nat} (h : ¬ (p < l.length ∧ (l.getD p 0).toNat ≠ 0)) : jF l p = p := by rw [jF, dif_neg h]
def fstOk (l : Bs) : Bool := decide (jF l 0 < l.length ∧ chk (l.take (jF l 0 + 1)) = 0)
def fst1 (l : Bs) : Option (Bs × Bs) := if fstOk l then some (l.take (jF l 0 + 1), l.drop (jF l 0 + 1)) else none
theorem fst1_some {l n r : Bs} (h : fst1 l = some (n, r)) : l = n ++ r ∧ chk n = 0 := by
  unfold fst1 at h
  split at h
  · rename_i h1
    unfold fstOk at h1
    simp only [decide_eq_true_eq] at h1
    injection h with h
    injection h with e1 e2
    subst e1 e2
    exact ⟨(List.take_append_drop _ _).symm, h1.2⟩
  · cases h
theorem jF_enc : ∀ (ls : List Bs) (p r : Bs), (∀ x ∈ ls, OkL x) → jF (p ++ (enc ls ++ 0 :: r)) p.length = p.length + (enc ls).length := by
  intro ls
  induction ls with
  | nil =>
    intro p r _
    rw [jF_stop]
    · simp [enc]
    · intro h
      have := h.2
      simp [enc, List.getD_eq_getElem?_getD] at this
  | cons x xs ih =>
    intro p r hok
    have hx := hok x (by simp)
    have e : p ++ (enc (x :: xs) ++ 0 :: r) = (p ++ enc1 x) ++ (enc xs ++ 0 :: r) := by rw [enc_cons]; simp
    have hc : ((p ++ (enc (x :: xs) ++ 0 :: r)).getD p.length 0).toNat = x.length := by
      rw [enc_cons]
      simp [List.getD_eq_getElem?_getD, enc1]
      have := hx.2; omega
    have hx1 := hx.1
    rw [jF_go (by rw [e]; simp [enc1]) (by rw [hc]; omega), hc, e]
    have h := ih (p ++ enc1 x) r (fun y hy => hok y (by simp [hy]))
    rw [List.length_append, enc1_length] at h
    rw [show p.length + 1 + x.length = p.length + (x.length + 1) by omega, h, enc_cons, List.length_append, enc1_length]
    omega
theorem fst1_name {n : Bs} (r : Bs) (g : chk n = 0) : fst1 (n ++ r) = some (n, r) := by
  have e := name_split g
  have h := jF_enc (labs n) [] r (labs_ok n)
  have hl : (enc (labs n)).length + 1 = n.length := by
    have := congrArg List.length e; simpa using this
  have e2 : n ++ r = [] ++ (enc (labs n) ++ 0 :: r) := by rw [List.nil_append]; conv => lhs; rw [← e]; simp
  rw [← e2] at h
  simp only [List.length_nil, Nat.zero_add] at h
  unfold fst1 fstOk
  rw [h, hl, List.take_left' rfl, List.drop_left' rfl, if_pos]
  simp only [decide_eq_true_eq]
  exact ⟨by rw [List.length_append]; omega, g⟩
/-- The names in data, what stands ahead of them, and behind. -/
def nms (t : Nat) (d : Bs) : Option (Bs × List Bs × Bs) :=
  if t = 2 ∨ t = 5 ∨ t = 12 then (match fst1 d with
    | some (n, r) => if r.length = 0 then some ([], [n], r) else none
    | none => none)
  else if t = 15 then (if 2 ≤ d.length then (match fst1 (d.drop 2) with
    | some (n, r) => if r.length = 0 then some (d.take 2, [n], r) else none
    | none => none) else none)
  else if t = 6 then (match fst1 d with
    | some (n, r) => (match fst1 r with
      | some (m, q) => if q.length = 20 then some ([], [n, m], q) else none
      | none => none)
    | none => none)
  else none
/-- The parts that they make. -/
def ptsOf (t : Nat) (x : Bs × List Bs × Bs) : List Part :=
  if t = 15 then (false, x.1) :: x.2.1.map (fun n => (true, n)) else if t = 6 then x.2.1.map (fun n => (true, n)) ++ [(false, x.2.2)] else x.2.1.map (fun n => (true, n))
def plainOk (t : Nat) (d : Bs) : Bool := if t = 1 then decide (d.length = 4) else if t = 28 then decide (d.length = 16) else if t = 16 then txt d else true
def vld (t : Nat) (d : Bs) : Bool := if named t then (nms t d).isSome else plainOk t d
/-- The parts of data that are valid. -/
def pts (t : Nat) (d : Bs) : List Part := if named t then (match nms t d with
  | some x => ptsOf t x
  | none => []) else [(false, d)]
theorem piS_all (d : Bs) : piS d 0 (d.length : Int) = d ∧ piR d 0 (d.length : Int) = 0 ∧ piP d 0 (d.length : Int) = (d.length : Int) := by
  obtain ⟨h1, h2, h3⟩ := pi_yes (s := d) (a := 0) (n := (d.length : Int)) (piE_yes (by omega) (by omega) (by omega))
  rw [h1, h2, h3]
  simp
/-- What is read of whole data, and whether that is all of them: just if they are valid. -/
theorem spl_plain {t : Nat} {d : Bs} (h : named t = false) : spl t d = ([(false, d)], (d.length : Int), 0) := by
  unfold named at h
  simp only [decide_eq_false_iff_not, not_or] at h
  obtain ⟨g1, g2, g3, g4, g5⟩ := h
  have e : lay t d.length = [(d.length : Int)] := by unfold lay; rw [if_neg (by omega), if_neg g4, if_neg g5]
  obtain ⟨h1, h2, h3⟩ := piS_all d
  have e1 : rd1 d 0 (d.length : Int) = (d, (d.length : Int), 0) := by unfold rd1; rw [if_neg (by omega), h1, h2, h3]
  unfold spl
  rw [e]
  simp only [rdP, e1]
  simp
theorem rd1_name (p n r : Bs) (g : chk n = 0) : rd1 (p ++ n ++ r) (p.length : Int) (-1) = (n, ((p.length + n.length : Nat) : Int), 0) := by
  unfold rd1; rw [if_pos rfl, nmI_plain p n r g]; rfl
theorem rd1_names {s : Bs} {a : Int} (h : (rd1 s a (-1)).2.2 = 0) : chk (rd1 s a (-1)).1 = 0 := by
  unfold rd1 at h ⊢
  rw [if_pos rfl] at h ⊢
  exact nmI_names s a (by have : ((nmI s a).2.2 : Int) = 0 := h; omega)
end Go.Proofs.Ytljfkjbagebncaa
