/-
  RecMore: Data are valid just if their parts are read and make them up again; and what is read and put then. Plain mathematics.
-/
import Derived.Test.YtljfkjbagebncaaG10

/- RecMore -/
namespace Go.Proofs.Ytljfkjbagebncaa
theorem pi_cut {s : Bs} {a z : Nat} (h : a + z ≤ s.length) : piS s (a : Int) (z : Int) = (s.drop a).take z ∧ piP s (a : Int) (z : Int) = ((a + z : Nat) : Int) ∧ piR s (a : Int) (z : Int) = 0 := by
  obtain ⟨h1, h2, h3⟩ := pi_yes (s := s) (a := (a : Int)) (n := (z : Int)) (piE_yes (by omega) (by omega) (by omega))
  rw [h1, h2, h3]
  simp
theorem rd1_cut {s : Bs} {a z : Nat} (h : a + z ≤ s.length) : rd1 s (a : Int) (z : Int) = ((s.drop a).take z, ((a + z : Nat) : Int), 0) := by
  obtain ⟨h1, h2, h3⟩ := pi_cut h
  unfold rd1; rw [if_neg (by omega), h1, h2, h3]
theorem rd1_far {s : Bs} {a z : Nat} (h : ¬ a + z ≤ s.length) : (rd1 s (a : Int) (z : Int)).2.2 ≠ 0 := by
  obtain ⟨h1, h2, h3⟩ := pi_no (s := s) (a := (a : Int)) (n := (z : Int)) (piE_no (by omega))
  unfold rd1; rw [if_neg (by omega), h3]; simp
theorem rdP_one (s : Bs) (z a : Int) : rdP s [z] a = if (rd1 s a z).2.2 = 0 then ([(decide (z = -1), (rd1 s a z).1)], (rd1 s a z).2.1, 0) else ([], 0, (rd1 s a z).2.2) := by
  simp only [rdP, if_pos]
theorem rdP_cons_yes {s : Bs} {z : Int} {zs : List Int} {a : Int} {x : Bs} {b : Int} (h : rd1 s a z = (x, b, 0)) : rdP s (z :: zs) a = cmb [(decide (z = -1), x)] (rdP s zs b) := by
  have h1 := rdP_go (s := s) (z := z) (zs := zs) (a := a) (ps := []) (by rw [h])
  rw [h, cmb_nil _ (rdP_err s _ _)] at h1
  exact h1
theorem rdP_cons_no {s : Bs} {z : Int} {zs : List Int} {a : Int} (h : (rd1 s a z).2.2 ≠ 0) : rdP s (z :: zs) a = ([], 0, (rd1 s a z).2.2) := by
  simp only [rdP]; rw [if_neg h]
theorem decM : decide ((-1 : Int) = -1) = true := by decide
/-- What is read of a name ahead of whatever stands behind it. -/
theorem name_first {d n : Bs} {b : Int} (h : rd1 d 0 (-1) = (n, b, 0)) (r : Bs) (e : n ++ r = d) : chk n = 0 ∧ b = (n.length : Int) ∧ fst1 d = some (n, r) := by
  have g : chk n = 0 := by have := rd1_names (s := d) (a := 0) (by rw [h]); rwa [h] at this
  have h2 := rd1_name [] n r g
  rw [List.nil_append, e, show (([] : Bs).length : Int) = 0 from rfl] at h2
  rw [h] at h2
  refine ⟨g, ?_, by rw [← e]; exact fst1_name r g⟩
  have := congrArg (fun x => x.2.1) h2
  simpa using this
theorem spl_host {t : Nat} {d : Bs} (h : t = 2 ∨ t = 5 ∨ t = 12) :
    (((spl t d).2.2 = 0 ∧ joinP (spl t d).1 = d) ↔ (nms t d).isSome = true) ∧ ∀ x, nms t d = some x → (spl t d).1 = ptsOf t x ∧ (spl t d).2.2 = 0 := by
  have el : lay t d.length = [-1] := by unfold lay; rw [if_pos h]
  have en : nms t d = (match fst1 d with
    | some (n, r) => if r.length = 0 then some ([], [n], r) else none
    | none => none) := by unfold nms; rw [if_pos h]; rfl
  have ep : ∀ x, ptsOf t x = x.2.1.map (fun n => (true, n)) := fun x => by unfold ptsOf; rw [if_neg (by omega), if_neg (by omega)]
  have es : spl t d = if (rd1 d 0 (-1)).2.2 = 0 then ([(true, (rd1 d 0 (-1)).1)], (rd1 d 0 (-1)).2.1, 0) else ([], 0, (rd1 d 0 (-1)).2.2) := by unfold spl; rw [el, rdP_one, decM]
  have back : ∀ n r, fst1 d = some (n, r) → r.length = 0 → rd1 d 0 (-1) = (n, (n.length : Int), 0) ∧ d = n := fun n r hf hr => by
    obtain ⟨e, g⟩ := fst1_some hf
    obtain rfl : r = [] := List.length_eq_zero_iff.1 hr
    have := rd1_name [] n [] g
    rw [List.append_nil] at e
    subst e
    rw [List.nil_append, List.append_nil] at this
    exact ⟨by simpa using this, rfl⟩
  refine ⟨⟨fun ⟨h1, h2⟩ => ?_, fun h1 => ?_⟩, fun x hx => ?_⟩
  · generalize hq : rd1 d 0 (-1) = q at es
    obtain ⟨n, b, e⟩ := q
    by_cases he : e = 0
    · subst he
      rw [if_pos rfl] at es
      rw [es] at h2
      simp [joinP] at h2
      obtain ⟨_, _, hf⟩ := name_first hq [] (by simpa using h2)
      rw [en, hf]; rfl
    · rw [if_neg he] at es
      rw [es] at h1
      exact absurd h1 he
  · rw [en] at h1
    cases hf : fst1 d with
    | none => rw [hf] at h1; simp at h1
    | some p =>
      obtain ⟨n, r⟩ := p
      rw [hf] at h1
      by_cases hr : r.length = 0
      · obtain ⟨b1, b2⟩ := back n r hf hr
        rw [es, b1, if_pos rfl]
        exact ⟨rfl, by simp [joinP, b2]⟩
      · simp only [if_neg hr] at h1; simp at h1
  · rw [en] at hx
    cases hf : fst1 d with
    | none => rw [hf] at hx; simp at hx
    | some p =>
      obtain ⟨n, r⟩ := p
      rw [hf] at hx
      by_cases hr : r.length = 0
      · obtain ⟨b1, b2⟩ := back n r hf hr
        simp only [if_pos hr] at hx
        injection hx with hx
        rw [es, b1, if_pos rfl, ep, ← hx]
        exact ⟨rfl, rfl⟩
      · simp only [if_neg hr] at hx; simp at hx
theorem spl_mx {t : Nat} {d : Bs} (h : t = 15) :
    (((spl t d).2.2 = 0 ∧ joinP (spl t d).1 = d) ↔ (nms t d).isSome = true) ∧ ∀ x, nms t d = some x → (spl t d).1 = ptsOf t x ∧ (spl t d).2.2 = 0 := by
  have el : lay t d.length = [((2 : Nat) : Int), -1] := by unfold lay; rw [if_neg (by omega), if_pos h]; rfl
  have en : nms t d = (if 2 ≤ d.length then (match fst1 (d.drop 2) with
    | some (n, r) => if r.length = 0 then some (d.take 2, [n], r) else none
    | none => none) else none) := by unfold nms; rw [if_neg (by omega), if_pos h]; rfl
  have ep : ∀ x, ptsOf t x = (false, x.1) :: x.2.1.map (fun n => (true, n)) := fun x => by unfold ptsOf; rw [if_pos h]
  by_cases h2 : 2 ≤ d.length
  · have e2 := rd1_cut (s := d) (a := 0) (z := 2) (by omega)
    rw [Nat.zero_add] at e2
    have es : spl t d = cmb [(false, d.take 2)] (if (rd1 d 2 (-1)).2.2 = 0 then ([(true, (rd1 d 2 (-1)).1)], (rd1 d 2 (-1)).2.1, 0) else ([], 0, (rd1 d 2 (-1)).2.2)) := by
      unfold spl; rw [el, show (0 : Int) = ((0 : Nat) : Int) from rfl, rdP_cons_yes e2, show (((2 : Nat) : Int)) = 2 from rfl, rdP_one, decM]; rfl
    rw [if_pos h2] at en
    have ed : d.take 2 ++ d.drop 2 = d := List.take_append_drop _ _
    have el2 : (d.take 2).length = 2 := by simp; omega
    have back : ∀ n r, fst1 (d.drop 2) = some (n, r) → r.length = 0 → rd1 d 2 (-1) = (n, ((2 + n.length : Nat) : Int), 0) ∧ d = d.take 2 ++ n := fun n r hf hr => by
      obtain ⟨e, g⟩ := fst1_some hf
      obtain rfl : r = [] := List.length_eq_zero_iff.1 hr
      have := rd1_name (d.take 2) n [] g
      rw [List.append_nil] at e
      subst e
      rw [el2, List.append_nil, ed] at this
      exact ⟨this, ed.symm⟩
    refine ⟨⟨fun ⟨h1, h3⟩ => ?_, fun h1 => ?_⟩, fun x hx => ?_⟩
    · generalize hq : rd1 d 2 (-1) = q at es
      obtain ⟨n, b, e⟩ := q
      by_cases he : e = 0
      · subst he
        rw [if_pos rfl] at es
        rw [es] at h3
        simp [joinP, cmb] at h3
        have e4 : n = d.drop 2 := by
          have : d.take 2 ++ n = d.take 2 ++ d.drop 2 := by rw [h3, ed]
          exact List.append_cancel_left this
        have g : chk n = 0 := by have := rd1_names (s := d) (a := 2) (by rw [hq]); rwa [hq] at this
        have hf := fst1_name (n := n) [] g
        rw [List.append_nil, e4] at hf
        rw [en, hf]; rfl
      · rw [if_neg he] at es
        rw [es] at h1
        simp only [cmb] at h1
        rw [if_neg he] at h1
        exact absurd h1 he
    · rw [en] at h1
      cases hf : fst1 (d.drop 2) with
      | none => rw [hf] at h1; simp at h1
      | some p =>
        obtain ⟨n, r⟩ := p
        rw [hf] at h1
        by_cases hr : r.length = 0
        · obtain ⟨b1, b2⟩ := back n r hf hr
          rw [es, b1, if_pos rfl]
          exact ⟨rfl, by simp [joinP, cmb]; exact b2.symm⟩
        · simp only [if_neg hr] at h1; simp at h1
    · rw [en] at hx
      cases hf : fst1 (d.drop 2) with
      | none => rw [hf] at hx; simp at hx
      | some p =>
        obtain ⟨n, r⟩ := p
        rw [hf] at hx
        by_cases hr : r.length = 0
        · obtain ⟨b1, b2⟩ := back n r hf hr
          simp only [if_pos hr] at hx
          injection hx with hx
          rw [es, b1, if_pos rfl, ep, ← hx]
          exact ⟨rfl, rfl⟩
        · simp only [if_neg hr] at hx; simp at hx
  · have e2 := rd1_far (s := d) (a := 0) (z := 2) (by omega)
    have es : spl t d = ([], 0, (rd1 d ((0 : Nat) : Int) ((2 : Nat) : Int)).2.2) := by
      unfold spl; rw [el]; exact rdP_cons_no e2
    rw [if_neg h2] at en
    refine ⟨⟨fun ⟨h1, h3⟩ => ?_, fun h1 => ?_⟩, fun x hx => ?_⟩
    · rw [es] at h1; exact absurd h1 e2
    · rw [en] at h1; simp at h1
    · rw [en] at hx; simp at hx
theorem spl_soa {t : Nat} {d : Bs} (h : t = 6) :
    (((spl t d).2.2 = 0 ∧ joinP (spl t d).1 = d) ↔ (nms t d).isSome = true) ∧ ∀ x, nms t d = some x → (spl t d).1 = ptsOf t x ∧ (spl t d).2.2 = 0 := by
  have el : lay t d.length = [-1, -1, ((20 : Nat) : Int)] := by unfold lay; rw [if_neg (by omega), if_neg (by omega), if_pos h]; rfl
  have en : nms t d = (match fst1 d with
    | some (n, r) => (match fst1 r with
      | some (m, q) => if q.length = 20 then some ([], [n, m], q) else none
      | none => none)
    | none => none) := by unfold nms; rw [if_neg (by omega), if_neg (by omega), if_pos h]; rfl
  have ep : ∀ x, ptsOf t x = x.2.1.map (fun n => (true, n)) ++ [(false, x.2.2)] := fun x => by unfold ptsOf; rw [if_neg (by omega), if_pos h]
  have es0 : spl t d = rdP d [-1, -1, ((20 : Nat) : Int)] 0 := by unfold spl; rw [el]
  have back : ∀ n r m q, fst1 d = some (n, r) → fst1 r = some (m, q) → q.length = 20 → spl t d = ([(true, n), (true, m), (false, q)], (d.length : Int), 0) ∧ d = n ++ (m ++ q) := fun n r m q hf hg hq => by
    obtain ⟨e, g⟩ := fst1_some hf
    obtain ⟨e', g'⟩ := fst1_some hg
    subst e'
    have h1 := rd1_name [] n (m ++ q) g
    rw [List.nil_append, ← e] at h1
    have h2 := rd1_name n m q g'
    rw [List.append_assoc, ← e] at h2
    have hl : d.length = n.length + (m.length + q.length) := by rw [e]; simp
    have h3 := rd1_cut (s := d) (a := n.length + m.length) (z := 20) (by omega)
    have h4 : (d.drop (n.length + m.length)).take 20 = q := by
      rw [e, ← List.append_assoc, show n.length + m.length = (n ++ m).length by simp, List.drop_left' rfl, List.take_of_length_le (by omega)]
    rw [h4] at h3
    refine ⟨?_, e⟩
    rw [es0]
    rw [rdP_cons_yes (by simpa using h1), rdP_cons_yes h2, rdP_cons_yes h3, rdP_end]
    simp [cmb]
    omega
  refine ⟨⟨fun ⟨h1, h2⟩ => ?_, fun h1 => ?_⟩, fun x hx => ?_⟩
  · generalize hq : rd1 d 0 (-1) = q at es0
    obtain ⟨n, b, e⟩ := q
    by_cases he : e = 0
    · subst he
      rw [rdP_cons_yes hq] at es0
      generalize hq2 : rd1 d b (-1) = q2 at es0
      obtain ⟨m, c, e⟩ := q2
      by_cases he : e = 0
      · subst he
        rw [rdP_cons_yes hq2, rdP_one] at es0
        generalize hq3 : rd1 d c ((20 : Nat) : Int) = q3 at es0
        obtain ⟨q, f, e⟩ := q3
        by_cases he : e = 0
        · subst he
          rw [es0] at h2
          simp [cmb, joinP] at h2
          obtain ⟨g1, hb, hf⟩ := name_first hq (m ++ q) h2
          have g2 : chk m = 0 := by have := rd1_names (s := d) (a := b) (by rw [hq2]); rwa [hq2] at this
          have hf2 := fst1_name q g2
          have h3 := rd1_name n m q g2
          rw [List.append_assoc, h2, ← hb, hq2] at h3
          have hc : c = ((n.length + m.length : Nat) : Int) := congrArg (fun x => x.2.1) h3
          have hl : d.length = n.length + (m.length + q.length) := by rw [← h2]; simp
          have hql : q.length = 20 := by
            by_cases h20 : n.length + m.length + 20 ≤ d.length
            · have := rd1_cut (s := d) (a := n.length + m.length) (z := 20) h20
              rw [← hc, hq3] at this
              have := congrArg (fun x => x.1) this
              simp only at this
              rw [this]; simp; omega
            · have := rd1_far (s := d) (a := n.length + m.length) (z := 20) h20
              rw [← hc, hq3] at this
              simp at this
          rw [en, hf]
          simp only [hf2, if_pos hql]
          rfl
        · rw [if_neg he] at es0
          simp only [cmb, if_neg he] at es0
          rw [es0] at h1
          exact absurd h1 he
      · have hb : (rd1 d b (-1)).2.2 ≠ 0 := by rw [hq2]; exact he
        rw [rdP_cons_no hb, hq2] at es0
        simp only [cmb, if_neg he] at es0
        rw [es0] at h1
        exact absurd h1 he
    · have hb : (rd1 d 0 (-1)).2.2 ≠ 0 := by rw [hq]; exact he
      rw [rdP_cons_no hb, hq] at es0
      rw [es0] at h1
      exact absurd h1 he
  · rw [en] at h1
    cases hf : fst1 d with
    | none => rw [hf] at h1; simp at h1
    | some p =>
      obtain ⟨n, r⟩ := p
      rw [hf] at h1
      simp only at h1
      cases hg : fst1 r with
      | none => rw [hg] at h1; simp at h1
      | some p =>
        obtain ⟨m, q⟩ := p
        rw [hg] at h1
        by_cases hr : q.length = 20
        · obtain ⟨b1, b2⟩ := back n r m q hf hg hr
          rw [b1]
          exact ⟨rfl, by simp [joinP]; exact b2.symm⟩
        · simp only [if_neg hr] at h1; simp at h1
  · rw [en] at hx
    cases hf : fst1 d with
    | none => rw [hf] at hx; simp at hx
    | some p =>
      obtain ⟨n, r⟩ := p
      rw [hf] at hx
      simp only at hx
      cases hg : fst1 r with
      | none => rw [hg] at hx; simp at hx
      | some p =>
        obtain ⟨m, q⟩ := p
        rw [hg] at hx
        by_cases hr : q.length = 20
        · obtain ⟨b1, b2⟩ := back n r m q hf hg hr
          simp only [if_pos hr] at hx
          injection hx with hx
          rw [b1, ep, ← hx]
          exact ⟨rfl, rfl⟩
        · simp only [if_neg hr] at hx; simp at hx
theorem spl_named {t : Nat} {d : Bs} (h : named t = true) :
    (((spl t d).2.2 = 0 ∧ joinP (spl t d).1 = d) ↔ (nms t d).isSome = true) ∧ ∀ x, nms t d = some x → (spl t d).1 = ptsOf t x ∧ (spl t d).2.2 = 0 := by
  unfold named at h
  simp only [decide_eq_true_eq] at h
  by_cases h1 : t = 15
  · exact spl_mx h1
  · by_cases h2 : t = 6
    · exact spl_soa h2
    · exact spl_host (by omega)
/-- The program's look at data of all other types. -/
theorem vld_spl {t : Nat} {d : Bs} (h1 : t ≠ 1) (h2 : t ≠ 28) (h3 : t ≠ 16) : vld t d = (decide ((spl t d).2.2 = 0) && decide (joinP (spl t d).1 = d)) := by
  unfold vld
  by_cases hn : named t = true
  · rw [if_pos hn]
    have := (spl_named (d := d) hn).1
    rw [Bool.eq_iff_iff, ← this]; simp
  · have hn' : named t = false := by simpa using hn
    rw [if_neg hn, spl_plain hn']
    unfold plainOk
    rw [if_neg h1, if_neg h2, if_neg h3]
    simp [joinP]
theorem spl_pts {t : Nat} {d : Bs} (h : vld t d = true) : (spl t d).1 = pts t d ∧ (spl t d).2.2 = 0 := by
  unfold pts
  by_cases hn : named t = true
  · rw [if_pos hn]
    unfold vld at h
    rw [if_pos hn] at h
    obtain ⟨x, hx⟩ := Option.isSome_iff_exists.1 h
    rw [hx]
    exact (spl_named hn).2 x hx
  · have hn' : named t = false := by simpa using hn
    rw [if_neg hn, spl_plain hn']
    exact ⟨rfl, rfl⟩
theorem pts_join {t : Nat} {d : Bs} (h : vld t d = true) : joinP (pts t d) = d := by
  by_cases hn : named t = true
  · have h' := h
    unfold vld at h
    rw [if_pos hn] at h
    have := ((spl_named (d := d) hn).1.2 h).2
    rw [(spl_pts h').1] at this
    exact this
  · unfold pts
    rw [if_neg hn]; simp [joinP]
end Go.Proofs.Ytljfkjbagebncaa
