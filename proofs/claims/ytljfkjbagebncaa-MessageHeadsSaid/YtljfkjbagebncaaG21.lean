/-
  Get: What Get answers, for every text and place; no older memory is changed.
  RefGetMath: The document's reader of records goes the same ways as the program's: plain mathematics.
  BackRec: What Put appended is read again by Get, wherever it stands: plain mathematics.
-/
import Derived.Test.YtljfkjbagebncaaG19
import Derived.Test.YtljfkjbagebncaaG20
import Derived.Test.YtljfkjbagebncaaG17
import Derived.Test.YtljfkjbagebncaaG09
import Derived.Test.YtljfkjbagebncaaG14

/- Get -/
namespace Go.Proofs.Ytljfkjbagebncaa
open Go.RowKit
abbrev gtP (s : Bs) (a : Int) : List Part × Int × Int := rdP s (lay (hdR s a).t (hdZ s a)) (hdP s a)
abbrev gtR (s : Bs) (a : Int) : Rc := { hdR s a with d := ⟨(joinP (gtP s a).1).toArray⟩ }
/-- The record that Get answers, the place behind it, the error. -/
def gt (s : Bs) (a : Int) : Rc × Int × Int :=
  if hdE s a = 0 then gtW (piR s (hdP s a) (hdZ s a : Int)) (gtP s a).2.2 (gtP s a).2.1 (piP s (hdP s a) (hdZ s a : Int)) (rck (gtR s a)) (gtR s a) else (zeroR, 0, hdE s a)
theorem hdR_ok (s : Bs) (a : Int) (d : ByteArray) (hd : d.size ≤ 140737488351232) : Rc.Ok { hdR s a with d := d } :=
  ⟨by show (nmI s a).1.length ≤ _; have := nmI_len s a; omega, hd, gT_lt _, gC_lt _, gL_lt _⟩
theorem gtP_len (s : Bs) (a : Int) : (gtP s a).1.length ≤ 3 ∧ (joinP (gtP s a).1).length ≤ 3 * (s.length + 255) := by
  have h1 := rdP_len s (lay (hdR s a).t (hdZ s a)) (hdP s a)
  have h2 := lay_len (hdR s a).t (hdZ s a)
  exact ⟨Nat.le_trans h1.1 h2, Nat.le_trans h1.2 (Nat.mul_le_mul_right _ h2)⟩
theorem get_any (s : ByteArray) (hs : s.size ≤ 1000000) (a : Int) (ha : -9223372036854775808 ≤ a ∧ a ≤ 9223372036854775807) (w : World) :
    Calls Try.prog 35 #[.string s, .int .i64 a] w (GetPost w (gt s.data.toList a)) := by
  have hs' : s.size ≤ 140737488351232 := by omega
  have C := fun w => head_any s hs' a ha w
  by_cases h0 : hdE s.data.toList a = 0
  · have e : gt s.data.toList a = _ := if_pos h0
    rw [e]
    have hl := gtP_len s.data.toList a
    have hsl := size_list s
    rw [← hsl] at hl
    have hq : 0 ≤ hdP s.data.toList a ∧ hdP s.data.toList a ≤ (s.data.toList.length : Int) := piP_bd s.data.toList ((nmI s.data.toList a).2.1 : Int) 10
    have hz : hdZ s.data.toList a < 65536 := gZ_lt (hdF s.data.toList a)
    have hr := hdR_ok s.data.toList a ⟨(joinP (gtP s.data.toList a).1).toArray⟩ (by show (joinP (gtP s.data.toList a).1).length ≤ _; omega)
    have C0 : ∀ w : World, Calls Try.prog 71 #[.string s, .int .i64 a] w fun e w' => e = .returned (.tuple #[(hdR s.data.toList a).v, plV s (hdP s.data.toList a) (hdZ s.data.toList a : Int), .int .i64 0]) ∧ Below w.heap.size w w' := fun w =>
      (C w).mono fun e w' ⟨h1, h2⟩ => by
        rcases h1 with ⟨_, h1⟩ | ⟨h1, _⟩
        · exact ⟨h1, h2⟩
        · exact absurd h0 h1
    have hqb : -9223372036854775808 ≤ hdP s.data.toList a ∧ hdP s.data.toList a ≤ 9223372036854775807 := by omega
    have hzb : -9223372036854775808 ≤ (hdZ s.data.toList a : Int) ∧ (hdZ s.data.toList a : Int) ≤ 9223372036854775807 := by omega
    have D := fun w => raw_any s hs' (hdP s.data.toList a) (hdZ s.data.toList a : Int) hqb hzb w
    have R1 := fun w => reading_any (.string s) (.int .i64 (hdP s.data.toList a)) (.int .i64 (hdZ s.data.toList a : Int)) (hdR s.data.toList a).t hr.t w
    have J := fun (w : World) (base : Nat) (v : Value) (h : Pts w base v (gtP s.data.toList a).1) => join_any (gtP s.data.toList a).1 v base w h (Nat.le_trans hl.1 (by omega)) (Nat.le_trans hl.2 (by omega))
    have V := fun w => rcheckrec_any (gtR s.data.toList a) hr w
    have H1 := fun w => host_any s hs' (hdP s.data.toList a) hqb (.int .i64 (hdZ s.data.toList a : Int)) w
    have H2 := fun w => exch_any s hs' (hdP s.data.toList a) hqb (.int .i64 (hdZ s.data.toList a : Int)) w
    have H3 := fun w => auth_any s hs' (hdP s.data.toList a) hqb (.int .i64 (hdZ s.data.toList a : Int)) w
    have H4 := fun w => whole_any s hs' (hdP s.data.toList a) hqb (hdZ s.data.toList a : Int) hzb w
    rcases rf_cases (hdR s.data.toList a).t (hdZ s.data.toList a) with ⟨e1, e2⟩ | ⟨e1, e2⟩ | ⟨e1, e2⟩ | ⟨e1, e2⟩
    · rw [e1] at R1
      rw [← e2] at H1
      exact get_66 s a _ _ _ _ _ _ _ _ _ _ _ _ _ _ w C0 D R1 H1 J V
    · rw [e1] at R1
      rw [← e2] at H2
      exact get_67 s a _ _ _ _ _ _ _ _ _ _ _ _ _ _ w C0 D R1 H2 J V
    · rw [e1] at R1
      rw [← e2] at H3
      exact get_68 s a _ _ _ _ _ _ _ _ _ _ _ _ _ _ w C0 D R1 H3 J V
    · rw [e1] at R1
      rw [← e2] at H4
      exact get_69 s a _ _ _ _ _ _ _ _ _ _ _ _ _ _ w C0 D R1 H4 J V
  · have e : gt s.data.toList a = _ := if_neg h0
    rw [e]
    refine get_nohead s a _ h0 w fun w => (C w).mono fun e w' ⟨h1, h2⟩ => ?_
    rcases h1 with ⟨h1, _⟩ | ⟨_, h1⟩
    · exact absurd h1 h0
    · exact ⟨h1, h2⟩
end Go.Proofs.Ytljfkjbagebncaa

/- RefGetMath -/
namespace Go.Proofs.Ytljfkjbagebncaa
open Go.RowKit
/-- Bytes that came first, and what is read behind them. -/
def jr (x : Bs) (R : List Part × Int × Int) : Bs × Int × Int := if R.2.2 = 0 then (x ++ joinP R.1, R.2.1, 0) else ([], 0, R.2.2)
theorem jr_cmb (x : Bs) (ps : List Part) (R : List Part × Int × Int) : jr x (cmb ps R) = jr (x ++ joinP ps) R := by
  unfold jr cmb
  by_cases h : R.2.2 = 0
  · simp [h, joinP]
  · simp [h]
theorem jr_go {s x t : Bs} {z : Int} {zs : List Int} {a b : Int} (h : rd1 s a z = (t, b, 0)) : jr x (rdP s (z :: zs) a) = jr (x ++ t) (rdP s zs b) := by
  rw [rdP_cons_yes h, jr_cmb]; simp [joinP]
theorem jr_bad {s x : Bs} {z : Int} {zs : List Int} {a : Int} (h : (rd1 s a z).2.2 ≠ 0) : jr x (rdP s (z :: zs) a) = ([], 0, (rd1 s a z).2.2) := by
  rw [rdP_cons_no h]; unfold jr; simp [h]
theorem jr_end {s x : Bs} {a : Int} : jr x (rdP s [] a) = (x, a, 0) := by simp [jr, rdP, joinP]
theorem rd1_zero {s : Bs} {a : Int} (h0 : 0 ≤ a) (h1 : a ≤ (s.length : Int)) : rd1 s a 0 = ([], a, 0) := by
  obtain ⟨k, rfl⟩ : ∃ k : Nat, a = (k : Int) := ⟨a.toNat, by omega⟩
  have := rd1_cut (s := s) (a := k) (z := 0) (by omega)
  simpa using this
/-- The document's layout: bytes ahead, names, bytes behind. -/
def lx (t : Nat) : List Int := (nhA t : Int) :: (List.replicate (nhN t) (-1) ++ [(nhB t : Int)])
theorem lx_end (s : Bs) (zs : List Int) : ∀ (x : Bs) (a : Int), 0 ≤ a → a ≤ (s.length : Int) → jr x (rdP s (zs ++ [0]) a) = jr x (rdP s zs a) := by
  induction zs with
  | nil => intro x a h0 h1; rw [List.nil_append, jr_go (rd1_zero h0 h1), List.append_nil]
  | cons z zs ih =>
    intro x a h0 h1
    have hb := rd1_bd s a z
    rw [List.cons_append]
    generalize hq : rd1 s a z = q at hb
    obtain ⟨t, b, e⟩ := q
    by_cases he : e = 0
    · subst he
      rw [jr_go hq, jr_go hq, ih _ _ hb.1 hb.2]
    · rw [jr_bad (by rw [hq]; exact he), jr_bad (by rw [hq]; exact he)]
/-- Both layouts come to the same. -/
theorem lx_lay {t z : Nat} {s : Bs} {a : Int} (h : named t = true) (h0 : 0 ≤ a) (h1 : a ≤ (s.length : Int)) : jr [] (rdP s (lx t) a) = jr [] (rdP s (lay t z) a) := by
  unfold named at h
  simp only [decide_eq_true_eq] at h
  by_cases g1 : t = 15
  · subst g1
    have e1 : lx 15 = [2, -1] ++ [0] := rfl
    have e2 : lay 15 z = [2, -1] := rfl
    rw [e1, e2, lx_end s _ _ _ h0 h1]
  · by_cases g2 : t = 6
    · subst g2
      have e1 : lx 6 = 0 :: [-1, -1, 20] := rfl
      have e2 : lay 6 z = [-1, -1, 20] := rfl
      rw [e1, e2, jr_go (rd1_zero h0 h1)]
      rfl
    · have e1 : lx t = 0 :: ([-1] ++ [0]) := by
        unfold lx nhA nhN nhB; rw [if_neg g1, if_pos (by omega), if_neg g2]; rfl
      have e2 : lay t z = [-1] := by unfold lay; rw [if_pos (by omega)]
      rw [e1, e2, jr_go (rd1_zero h0 h1), lx_end s _ _ _ h0 h1]
      rfl
theorem lay_plain {t z : Nat} (h : named t = false) : lay t z = [(z : Int)] := by
  unfold named at h
  simp only [decide_eq_false_iff_not, not_or] at h
  obtain ⟨g1, g2, g3, g4, g5⟩ := h
  unfold lay; rw [if_neg (by omega), if_neg g4, if_neg g5]
theorem pi_pi {s : Bs} {p i z : Nat} (h : p + 10 ≤ s.length) (hz : i + z ≤ 10) : piS (piS s (p : Int) 10) (i : Int) (z : Int) = piS s ((p + i : Nat) : Int) (z : Int) := by
  rw [show (10 : Int) = ((10 : Nat) : Int) from rfl, (pi_cut h).1, (pi_cut (s := (s.drop p).take 10) (by rw [List.length_take, List.length_drop]; omega)).1, (pi_cut (s := s) (a := p + i) (z := z) (by omega)).1]
  rw [List.drop_take, List.take_take, List.drop_drop, Nat.min_eq_left (by omega)]
theorem hd_numbers {s : Bs} {a : Int} {p : Nat} (hp : (nmI s a).2.1 = p) (h : p + 10 ≤ s.length) :
    gT (hdF s a) = numB (piS s (p : Int) 2) ∧ gC (hdF s a) = numB (piS s ((p + 2 : Nat) : Int) 2) ∧ gL (hdF s a) = numB (piS s ((p + 4 : Nat) : Int) 4) ∧ gZ (hdF s a) = numB (piS s ((p + 8 : Nat) : Int) 2) := by
  unfold gT gC gL gZ hdF
  rw [hp]
  refine ⟨?_, ?_, ?_, ?_⟩
  · have := pi_pi (i := 0) (z := 2) h (by omega); rw [Nat.add_zero] at this; exact congrArg numB this
  · exact congrArg numB (pi_pi (i := 2) (z := 2) h (by omega))
  · exact congrArg numB (pi_pi (i := 4) (z := 4) h (by omega))
  · exact congrArg numB (pi_pi (i := 8) (z := 2) h (by omega))
theorem hd_far {s : Bs} {a : Int} {p : Nat} (he : (nmI s a).2.2 = 0) (hp : (nmI s a).2.1 = p) (h : ¬ p + 10 ≤ s.length) : gt s a = (zeroR, 0, 10) := by
  have e : hdE s a = 10 := by
    unfold hdE; rw [if_pos he, hp]
    exact (pi_no (piE_no (by omega))).2.2
  unfold gt; rw [if_neg (by omega), e]
end Go.Proofs.Ytljfkjbagebncaa

/- BackRec -/
namespace Go.Proofs.Ytljfkjbagebncaa
open Go.RowKit
/-- Where names are put, what comes hangs on how many bytes stand there, and on what is known, not on the bytes. -/
theorem putN_shift {pts : Bool} : ∀ (ls : List Bs) (B C : Bs) (L : Kn), B.length = C.length → ∃ X, (putN pts B L ls).1 = B ++ X ∧ (putN pts C L ls).1 = C ++ X ∧ (putN pts B L ls).2 = (putN pts C L ls).2 := by
  intro ls
  induction ls with
  | nil => intro B C L _; exact ⟨[0], rfl, rfl, rfl⟩
  | cons x xs ih =>
    intro B C L h
    have hl : (B ++ enc1 x).length = (C ++ enc1 x).length := by rw [List.length_append, List.length_append, h]
    cases hf : find L (enc (x :: xs) ++ [0]) with
    | some a =>
      cases pts with
      | true => rw [putN_point _ _ _ _ _ hf, putN_point _ _ _ _ _ hf]; exact ⟨_, rfl, rfl, rfl⟩
      | false =>
        rw [putN_pass _ _ _ _ _ hf, putN_pass _ _ _ _ _ hf]
        obtain ⟨X, e1, e2, e3⟩ := ih _ _ L hl
        exact ⟨enc1 x ++ X, by rw [e1, List.append_assoc], by rw [e2, List.append_assoc], e3⟩
    | none =>
      rw [putN_new _ _ _ _ _ hf, putN_new _ _ _ _ _ hf]
      have hm : more B L (enc (x :: xs) ++ [0]) = more C L (enc (x :: xs) ++ [0]) := by unfold more; rw [h]
      rw [hm]
      obtain ⟨X, e1, e2, e3⟩ := ih _ _ (more C L (enc (x :: xs) ++ [0])) hl
      exact ⟨enc1 x ++ X, by rw [e1, List.append_assoc], by rw [e2, List.append_assoc], e3⟩
theorem putD_shift : ∀ (ps : List Part) (B C : Bs) (L : Kn), B.length = C.length → ∃ X, (putD B L ps).1 = B ++ X ∧ (putD C L ps).1 = C ++ X ∧ (putD B L ps).2 = (putD C L ps).2 := by
  intro ps
  induction ps with
  | nil => intro B C L _; exact ⟨[], by simp [putD], by simp [putD], rfl⟩
  | cons p ps ih =>
    intro B C L h
    obtain ⟨b, x⟩ := p
    cases b with
    | true =>
      simp only [putD]
      by_cases g : chk x = 0
      · obtain ⟨X, e1, e2, e3⟩ := putN_shift (pts := true) (labs x) B C L h
        have p1 : pkB true B L x = B ++ X := by unfold pkB; rw [if_pos g]; exact e1
        have p2 : pkB true C L x = C ++ X := by unfold pkB; rw [if_pos g]; exact e2
        have p3 : pkL true B L x = pkL true C L x := by unfold pkL; rw [if_pos g, if_pos g]; exact e3
        rw [p1, p2, p3]
        obtain ⟨Y, f1, f2, f3⟩ := ih (B ++ X) (C ++ X) (pkL true C L x) (by rw [List.length_append, List.length_append, h])
        exact ⟨X ++ Y, by rw [f1, List.append_assoc], by rw [f2, List.append_assoc], f3⟩
      · have p1 : pkB true B L x = B := by unfold pkB; rw [if_neg g]
        have p2 : pkB true C L x = C := by unfold pkB; rw [if_neg g]
        have p3 : pkL true B L x = pkL true C L x := by unfold pkL; rw [if_neg g, if_neg g]
        rw [p1, p2, p3]
        exact ih B C _ h
    | false =>
      simp only [putD]
      obtain ⟨Y, f1, f2, f3⟩ := ih (B ++ x) (C ++ x) L (by rw [List.length_append, List.length_append, h])
      exact ⟨x ++ Y, by rw [f1, List.append_assoc], by rw [f2, List.append_assoc], f3⟩
/-- Two bytes that are written over in place. -/
theorem ptB_mid (P X : Bs) (v : Nat) : ptB (P ++ (word 0 ++ X)) (P.length : Int) v = P ++ (word v ++ X) := by
  unfold ptB
  rw [if_pos (by unfold PtOk; simp [word]; omega), Int.toNat_natCast]
  unfold ptc
  simp [word]
/-- What Put leaves is as though the right length had stood there at once. -/
theorem rpB_eq {B : Bs} {L : Kn} {r : Rc} (g : rck r = 0) : ∃ v : Nat, v < 65536 ∧
    rpB B L r = (putD (rpH B L r ++ word v) (rpK B L r) (pts r.t r.d.data.toList)).1 ∧ rpL B L r = (putD (rpH B L r ++ word v) (rpK B L r) (pts r.t r.d.data.toList)).2 ∧
    v = ((putD (rpH B L r ++ word v) (rpK B L r) (pts r.t r.d.data.toList)).1.length - ((rpH B L r).length + 2)) % 65536 := by
  have hB : rpB B L r = ptB (rpD B L r).1 ((rpH B L r).length : Int) (((rpD B L r).1.length - ((rpH B L r).length + 2)) % 65536) := by unfold rpB; rw [if_pos g]
  have hL : rpL B L r = (rpD B L r).2 := by unfold rpL; rw [if_pos g]
  obtain ⟨v, hv⟩ : ∃ v, v = ((rpD B L r).1.length - ((rpH B L r).length + 2)) % 65536 := ⟨_, rfl⟩
  obtain ⟨X, e1, e2, e3⟩ := putD_shift (pts r.t r.d.data.toList) (rpH B L r ++ word 0) (rpH B L r ++ word v) (rpK B L r) (by simp [word])
  have hD : (rpD B L r).1 = rpH B L r ++ (word 0 ++ X) := by unfold rpD; rw [e1, List.append_assoc]
  refine ⟨v, by omega, ?_, ?_, ?_⟩
  · rw [hB, ← hv, hD, ptB_mid, e2, List.append_assoc]
  · rw [hL]; exact e3
  · rw [e2]
    rw [hv, hD]
    simp [word]
/-- The sizes of parts. -/
def szs (ps : List Part) : List Int := ps.map fun p => if p.1 then -1 else (p.2.length : Int)
theorem kok_put {B : Bs} {L : Kn} {n : Bs} (h : KOk B L) (g : chk n = 0) : KOk (pkB true B L n) (pkL true B L n) ∧ (∃ X, pkB true B L n = B ++ X) ∧ ∀ Z, nmI (pkB true B L n ++ Z) (B.length : Int) = (n, (pkB true B L n).length, 0) := by
  have h0 : Good B L [] := ⟨h, by simp⟩
  have h1 := h0.put (pts := true) g
  refine ⟨h1.1, ?_, fun Z => ?_⟩
  · obtain ⟨X, e, _⟩ := putN_shift (pts := true) (labs n) B B L rfl
    exact ⟨X, by unfold pkB; rw [if_pos g]; exact e⟩
  · exact (h1.raw Z).read (r := (n, B.length, (pkB true B L n).length)) (by simp)
theorem putD_read : ∀ (ps : List Part) (B : Bs) (L : Kn), KOk B L → (∀ p ∈ ps, p.1 = true → chk p.2 = 0) →
    KOk (putD B L ps).1 (putD B L ps).2 ∧ (∃ X, (putD B L ps).1 = B ++ X) ∧ ∀ Z, rdP ((putD B L ps).1 ++ Z) (szs ps) (B.length : Int) = (ps, ((putD B L ps).1.length : Int), 0) := by
  intro ps
  induction ps with
  | nil => intro B L h _; exact ⟨h, ⟨[], by simp [putD]⟩, fun Z => rfl⟩
  | cons p ps ih =>
    intro B L h hc
    obtain ⟨b, x⟩ := p
    have hc' : ∀ p ∈ ps, p.1 = true → chk p.2 = 0 := fun p hp => hc p (List.mem_cons_of_mem _ hp)
    cases b with
    | true =>
      have g : chk x = 0 := hc (true, x) (List.mem_cons_self ..) rfl
      obtain ⟨k1, ⟨X, e1⟩, k3⟩ := kok_put h g
      obtain ⟨j1, ⟨Y, e2⟩, j3⟩ := ih _ _ k1 hc'
      refine ⟨j1, ⟨X ++ Y, by show (putD (pkB true B L x) (pkL true B L x) ps).1 = _; rw [e2, e1, List.append_assoc]⟩, fun Z => ?_⟩
      show rdP ((putD (pkB true B L x) (pkL true B L x) ps).1 ++ Z) (-1 :: szs ps) (B.length : Int) = _
      have hr : rd1 ((putD (pkB true B L x) (pkL true B L x) ps).1 ++ Z) (B.length : Int) (-1) = (x, ((pkB true B L x).length : Int), 0) := by
        unfold rd1
        rw [if_pos rfl, e2, List.append_assoc, k3 (Y ++ Z)]
        rfl
      rw [rdP_cons_yes hr, j3 Z]
      simp [cmb]
      rfl
    | false =>
      obtain ⟨j1, ⟨Y, e2⟩, j3⟩ := ih (B ++ x) L (h.app x) hc'
      refine ⟨j1, ⟨x ++ Y, by show (putD (B ++ x) L ps).1 = _; rw [e2, List.append_assoc]⟩, fun Z => ?_⟩
      show rdP ((putD (B ++ x) L ps).1 ++ Z) ((x.length : Int) :: szs ps) (B.length : Int) = _
      have hr : rd1 ((putD (B ++ x) L ps).1 ++ Z) (B.length : Int) (x.length : Int) = (x, ((B ++ x).length : Int), 0) := by
        rw [rd1_cut (by rw [e2]; simp), e2]
        simp
      rw [rdP_cons_yes hr, j3 Z]
      have : decide ((x.length : Int) = -1) = false := by simp
      rw [this]
      simp [cmb]
      rfl
theorem nmL_chk : ∀ (k : Nat) (r : Bs) (ns : List Bs) (q : Bs), nmL k r = some (ns, q) → ∀ n ∈ ns, chk n = 0 := by
  intro k
  induction k with
  | zero => intro r ns q h; simp only [nmL] at h; injection h with h; injection h with h1 h2; subst h1; simp
  | succ k ih =>
    intro r ns q h
    simp only [nmL] at h
    cases hf : fst1 r with
    | none => rw [hf] at h; simp at h
    | some p =>
      obtain ⟨n, r'⟩ := p
      rw [hf] at h
      simp only at h
      cases hg : nmL k r' with
      | none => rw [hg] at h; simp at h
      | some y =>
        obtain ⟨ms, q'⟩ := y
        rw [hg] at h
        simp only at h
        injection h with h; injection h with h1 h2
        subst h1
        intro m hm
        rcases List.mem_cons.1 hm with rfl | hm
        · exact (fst1_some hf).2
        · exact ih _ _ _ hg m hm
/-- What is so of the parts of data that are valid. -/
theorem pts_good {t : Nat} {d : Bs} (h : vld t d = true) : (∀ p ∈ pts t d, p.1 = true → chk p.2 = 0) ∧ ∀ v : Nat, (named t = false → v = d.length) → szs (pts t d) = lay t v := by
  unfold pts
  by_cases hn : named t = true
  · rw [if_pos hn]
    unfold vld at h
    rw [if_pos hn] at h
    obtain ⟨x, hx⟩ := Option.isSome_iff_exists.1 h
    rw [hx]
    have hx2 := hx
    rw [nms_nmL _ hn] at hx2
    split at hx2
    · rename_i hA
      cases hg : nmL (nhN t) (d.drop (nhA t)) with
      | none => rw [hg] at hx2; simp at hx2
      | some y =>
        obtain ⟨ns, q⟩ := y
        rw [hg] at hx2
        simp only at hx2
        split at hx2
        · rename_i hq
          injection hx2 with hx2
          subst hx2
          have hc := nmL_chk _ _ _ _ hg
          have hl : ns.length = nhN t := by
            have : ∀ (k : Nat) (r : Bs) (ns : List Bs) (q : Bs), nmL k r = some (ns, q) → ns.length = k := by
              intro k
              induction k with
              | zero => intro r ns q h; simp only [nmL] at h; injection h with h; injection h with h1 h2; subst h1; rfl
              | succ k ih =>
                intro r ns q h
                simp only [nmL] at h
                cases hf : fst1 r with
                | none => rw [hf] at h; simp at h
                | some p =>
                  rw [hf] at h
                  simp only at h
                  cases hg : nmL k p.2 with
                  | none => rw [hg] at h; simp at h
                  | some y =>
                    rw [hg] at h
                    simp only at h
                    injection h with h; injection h with h1 h2
                    subst h1
                    rw [List.length_cons, ih _ _ _ hg]
            exact this _ _ _ _ hg
          have hmap : ∀ l : List Bs, szs (l.map (fun n => (true, n))) = List.replicate l.length (-1) := by
            intro l; unfold szs; rw [List.map_map]; induction l with
            | nil => rfl
            | cons a l ih => simp [List.replicate_succ] at ih ⊢; exact ih
          refine ⟨fun p hp ht => ?_, fun v _ => ?_⟩
          · unfold ptsOf at hp
            simp only at hp
            split at hp
            · rcases List.mem_cons.1 hp with rfl | hp
              · cases ht
              · obtain ⟨n, hn', rfl⟩ := List.mem_map.1 hp; exact hc n hn'
            · split at hp
              · rcases List.mem_append.1 hp with hp | hp
                · obtain ⟨n, hn', rfl⟩ := List.mem_map.1 hp; exact hc n hn'
                · rw [List.mem_singleton.1 hp] at ht; cases ht
              · obtain ⟨n, hn', rfl⟩ := List.mem_map.1 hp; exact hc n hn'
          · unfold named at hn
            simp only [decide_eq_true_eq] at hn
            show szs (ptsOf t (d.take (nhA t), ns, q)) = lay t v
            unfold ptsOf lay
            simp only
            by_cases g1 : t = 15
            · subst g1
              have hl1 : ns.length = 1 := hl
              have hA2 : 2 ≤ d.length := hA
              rw [if_pos rfl, if_neg (by omega), if_pos rfl]
              have := hmap ns
              simp only [szs, List.map_cons] at this ⊢
              rw [this, hl1]
              have : (d.take (nhA 15)).length = 2 := by rw [List.length_take, show nhA 15 = 2 from rfl]; omega
              simp [this]
            · by_cases g2 : t = 6
              · subst g2
                have hl1 : ns.length = 2 := hl
                have hq2 : q.length = 20 := hq
                rw [if_neg (by omega), if_pos rfl, if_neg (by omega), if_neg (by omega), if_pos rfl]
                have := hmap ns
                simp only [szs, List.map_append] at this ⊢
                rw [this, hl1]
                simp [hq2]
              · have hl1 : ns.length = 1 := by rw [hl]; unfold nhN; rw [if_pos (by omega)]
                rw [if_neg g1, if_neg g2, if_pos (by omega), hmap, hl1]
                rfl
        · cases hx2
    · cases hx2
  · have hn' : named t = false := by simpa using hn
    rw [if_neg hn]
    refine ⟨fun p hp ht => ?_, fun v hv => ?_⟩
    · rw [List.mem_singleton.1 hp] at ht; cases ht
    · rw [lay_plain hn', hv hn']
      simp [szs]
theorem numB_word {n : Nat} (h : n < 65536) : numB (word n) = n := by
  simp only [numB, word, List.foldl_cons, List.foldl_nil, UInt8.toNat_ofNat']
  omega
theorem numB_lng {n : Nat} (h : n < 4294967296) : numB (long n) = n := by
  simp only [numB, long, List.foldl_cons, List.foldl_nil, UInt8.toNat_ofNat']
  omega
theorem pi_mid {P x Q : Bs} {p z : Nat} (hp : P.length = p) (hz : x.length = z) : piS (P ++ (x ++ Q)) (p : Int) (z : Int) = x := by
  subst hp hz
  rw [(pi_cut (s := P ++ (x ++ Q)) (a := P.length) (z := x.length) (by simp)).1, List.drop_left' rfl, List.take_left' rfl]
theorem pick {S P x Q : Bs} {p z : Nat} (hS : S = P ++ (x ++ Q)) (hp : P.length = p) (hz : x.length = z) : numB (piS S (p : Int) (z : Int)) = numB x := by
  rw [hS, pi_mid hp hz]
set_option maxHeartbeats 1000000 in
/-- WHAT WAS PUT IS READ. -/
theorem gt_put {B : Bs} {L : Kn} {r : Rc} (hr : r.Num) (hk : KOk B L) (hf : Fit B L) (g : rck r = 0) :
    KOk (rpB B L r) (rpL B L r) ∧ ∀ Z, gt (rpB B L r ++ Z) (B.length : Int) = (r, ((rpB B L r).length : Int), 0) := by
  obtain ⟨v, hv, eB, eL, ev⟩ := rpB_eq (B := B) (L := L) g
  obtain ⟨z1, z2, z3⟩ := rck_zero g
  obtain ⟨k1, ⟨X1, x1⟩, k3⟩ := kok_put hk z1
  have hH : rpH B L r ++ word v = pkB true B L r.n.data.toList ++ (word r.t ++ (word r.c ++ (long r.l ++ word v))) := by unfold rpH; simp
  have kH : KOk (rpH B L r ++ word v) (rpK B L r) := by rw [hH]; exact k1.app _
  obtain ⟨p1, p2⟩ := pts_good z3
  obtain ⟨j1, ⟨X, x2⟩, j3⟩ := putD_read (pts r.t r.d.data.toList) _ _ kH p1
  have hfit := putD_fit (pts r.t r.d.data.toList) (rpH B L r ++ word v) (rpK B L r) ((rpH_len hf g).2.2.app (word v))
  rw [pts_join z3] at hfit
  have hXl : X.length ≤ 2000 := by
    have := hfit.2.2
    rw [x2, List.length_append] at this
    rw [size_list] at z2
    omega
  have hvX : v = X.length := by
    rw [x2] at ev
    rw [ev]
    simp [word]
    omega
  rw [eB, eL]
  refine ⟨j1, fun Z => ?_⟩
  obtain ⟨P, hP⟩ : ∃ P, P = pkB true B L r.n.data.toList := ⟨_, rfl⟩
  rw [← hP] at hH k3
  have hD : (putD (rpH B L r ++ word v) (rpK B L r) (pts r.t r.d.data.toList)).1 = P ++ (word r.t ++ (word r.c ++ (long r.l ++ word v))) ++ X := by rw [x2, hH]
  have hS : (putD (rpH B L r ++ word v) (rpK B L r) (pts r.t r.d.data.toList)).1 ++ Z = P ++ (word r.t ++ (word r.c ++ (long r.l ++ (word v ++ (X ++ Z))))) := by rw [hD]; simp
  have hN : nmI (P ++ (word r.t ++ (word r.c ++ (long r.l ++ (word v ++ (X ++ Z)))))) (B.length : Int) = (r.n.data.toList, P.length, 0) := k3 _
  have hlen : (putD (rpH B L r ++ word v) (rpK B L r) (pts r.t r.d.data.toList)).1.length = P.length + 10 + v := by rw [hD, hvX]; simp [word, long]; omega
  have hR := j3 Z
  rw [hS] at hR ⊢
  rw [hlen] at hR ⊢
  have hHl : (rpH B L r ++ word v).length = P.length + 10 := by rw [hH]; simp [word, long]
  rw [hHl] at hR
  generalize hSS : P ++ (word r.t ++ (word r.c ++ (long r.l ++ (word v ++ (X ++ Z))))) = S at hN hR
  have hSl : P.length + 10 + v ≤ S.length := by rw [← hSS, hvX]; simp [word, long]; omega
  obtain ⟨n1, n2, n3, n4⟩ := hd_numbers (s := S) (a := (B.length : Int)) (p := P.length) (by rw [hN]) (by omega)
  have m1 : gT (hdF S (B.length : Int)) = r.t := by
    rw [n1]
    have := pick (S := S) (P := P) (x := word r.t) (Q := word r.c ++ (long r.l ++ (word v ++ (X ++ Z)))) (p := P.length) (z := 2) hSS.symm rfl rfl
    exact this.trans (numB_word hr.t)
  have m2 : gC (hdF S (B.length : Int)) = r.c := by
    rw [n2]
    have := pick (S := S) (P := P ++ word r.t) (x := word r.c) (Q := long r.l ++ (word v ++ (X ++ Z))) (p := P.length + 2) (z := 2) (by rw [← hSS]; simp) (by simp [word]) rfl
    exact this.trans (numB_word hr.c)
  have m3 : gL (hdF S (B.length : Int)) = r.l := by
    rw [n3]
    have := pick (S := S) (P := P ++ word r.t ++ word r.c) (x := long r.l) (Q := word v ++ (X ++ Z)) (p := P.length + 4) (z := 4) (by rw [← hSS]; simp) (by simp [word]) rfl
    exact this.trans (numB_lng hr.l)
  have m4 : gZ (hdF S (B.length : Int)) = v := by
    rw [n4]
    have := pick (S := S) (P := P ++ word r.t ++ word r.c ++ long r.l) (x := word v) (Q := X ++ Z) (p := P.length + 8) (z := 2) (by rw [← hSS]; simp) (by simp [word, long]) rfl
    exact this.trans (numB_word hv)
  have hE : hdE S (B.length : Int) = 0 := by
    unfold hdE; rw [hN, if_pos rfl]; exact (pi_cut (s := S) (a := P.length) (z := 10) (by omega)).2.2
  have hPp : hdP S (B.length : Int) = ((P.length + 10 : Nat) : Int) := by
    unfold hdP; rw [hN]; exact (pi_cut (s := S) (a := P.length) (z := 10) (by omega)).2.1
  have hlay : szs (pts r.t r.d.data.toList) = lay r.t v := p2 v (fun hn => by
    have e : pts r.t r.d.data.toList = [(false, r.d.data.toList)] := by unfold pts; rw [if_neg (by rw [hn]; simp)]
    rw [e] at x2
    simp only [putD] at x2
    have := List.append_cancel_left x2
    rw [hvX, ← this])
  have hG : gtP S (B.length : Int) = (pts r.t r.d.data.toList, ((P.length + 10 + v : Nat) : Int), 0) := by
    unfold gtP
    rw [hPp]
    show rdP S (lay (gT (hdF S (B.length : Int))) (gZ (hdF S (B.length : Int)))) _ = _
    rw [m1, m4, ← hlay]
    exact hR
  have hRc : gtR S (B.length : Int) = r := by
    unfold gtR
    rw [hG]
    show Rc.mk ⟨(nmI S (B.length : Int)).1.toArray⟩ (gT (hdF S (B.length : Int))) (gC (hdF S (B.length : Int))) (gL (hdF S (B.length : Int))) ⟨(joinP (pts r.t r.d.data.toList)).toArray⟩ = r
    rw [m1, m2, m3, hN, pts_join z3]
  have hZ : (hdZ S (B.length : Int) : Int) = (v : Int) := by show ((gZ (hdF S (B.length : Int)) : Nat) : Int) = _; rw [m4]
  obtain ⟨_, c2, c3⟩ := pi_cut (s := S) (a := P.length + 10) (z := v) hSl
  unfold gt
  rw [if_pos hE, hG, hRc, hPp, hZ, g, c2, c3]
  unfold gtW
  rw [if_pos rfl, if_pos rfl, if_pos rfl, if_pos rfl]
end Go.Proofs.Ytljfkjbagebncaa
