/-
  A message's bytes are read as that message; what is read may be written: plain mathematics.
-/
import Derived.Test.YtljfkjbagebncaaRAllKit
import Derived.Test.YtljfkjbagebncaaG21
import Derived.Test.YtljfkjbagebncaaG32
import Derived.Test.YtljfkjbagebncaaG29
import Derived.Test.YtljfkjbagebncaaG30
namespace Go.Proofs.Ytljfkjbagebncaa
open Go.RowKit
theorem kok_none (B : Bs) : KOk B [] := by intro r a h; simp at h
/-- What was put of a question is read. -/
theorem qg_put {s : St} {q : Qn} (hq : q.Num) (hk : KOk s.1 s.2) (g : qck q = 0) :
    KOk (qP s q).1 (qP s q).2 ∧ (∃ X, (qP s q).1 = s.1 ++ X) ∧ ∀ Z, qg ((qP s q).1 ++ Z) (s.1.length : Int) = (q, ((qP s q).1.length : Int), 0) := by
  obtain ⟨k1, ⟨X, e⟩, k3⟩ := kok_put hk g
  refine ⟨(k1.app _).app _, ⟨X ++ word q.t ++ word q.c, by simp only [qP]; rw [e]; simp⟩, fun Z => ?_⟩
  obtain ⟨P, hP⟩ : ∃ P, P = pkB true s.1 s.2 q.n.data.toList := ⟨_, rfl⟩
  have hS : (qP s q).1 ++ Z = P ++ (word q.t ++ (word q.c ++ Z)) := by simp only [qP]; rw [hP]; simp
  have hl : (qP s q).1.length = P.length + 4 := by simp only [qP]; rw [hP]; simp [word]
  have hN := k3 (word q.t ++ (word q.c ++ Z))
  rw [← hP] at hN
  rw [hS, hl]
  generalize hSS : P ++ (word q.t ++ (word q.c ++ Z)) = S at hN
  have hSl : P.length + 4 ≤ S.length := by rw [← hSS]; simp [word]
  obtain ⟨a1, a2, a3⟩ := pi_cut (s := S) (a := P.length) (z := 2) (by omega)
  obtain ⟨b1, b2, b3⟩ := pi_cut (s := S) (a := P.length + 2) (z := 2) (by omega)
  have m1 : numB (piS S (P.length : Int) 2) = q.t := by
    have := pick (S := S) (P := P) (x := word q.t) (Q := word q.c ++ Z) (p := P.length) (z := 2) hSS.symm rfl rfl
    exact this.trans (numB_word hq.t)
  have m2 : numB (piS S ((P.length + 2 : Nat) : Int) 2) = q.c := by
    have := pick (S := S) (P := P ++ word q.t) (x := word q.c) (Q := Z) (p := P.length + 2) (z := 2) (by rw [← hSS]; simp) (by simp [word]) rfl
    exact this.trans (numB_word hq.c)
  have a2' : piP S (P.length : Int) 2 = ((P.length + 2 : Nat) : Int) := a2
  have a3' : piR S (P.length : Int) 2 = 0 := a3
  have b2' : piP S ((P.length + 2 : Nat) : Int) 2 = ((P.length + 2 + 2 : Nat) : Int) := b2
  have b3' : piR S ((P.length + 2 : Nat) : Int) 2 = 0 := b3
  unfold qg
  rw [hN]
  simp only
  rw [a2', a3', b2', b3', m1, m2]
  rfl
theorem rpB_pre {B : Bs} {L : Kn} {r : Rc} (hk : KOk B L) (g : rck r = 0) : ∃ X, rpB B L r = B ++ X := by
  obtain ⟨v, _, eB, _, _⟩ := rpB_eq (B := B) (L := L) g
  obtain ⟨z1, _, _⟩ := rck_zero g
  obtain ⟨_, ⟨X1, x1⟩, _⟩ := kok_put hk z1
  obtain ⟨X2, e1, _, _⟩ := putD_shift (pts r.t r.d.data.toList) (rpH B L r ++ word v) (rpH B L r ++ word v) (rpK B L r) rfl
  refine ⟨X1 ++ word r.t ++ word r.c ++ long r.l ++ word v ++ X2, ?_⟩
  rw [eB, e1]
  unfold rpH
  rw [x1]
  simp
/-- All that was put is read, one behind the other. -/
theorem foldQ_read : ∀ (qs : List Qn) (s : St), KOk s.1 s.2 → (∀ q ∈ qs, q.Num ∧ qck q = 0) →
    KOk (qs.foldl qP s).1 (qs.foldl qP s).2 ∧ (∃ X, (qs.foldl qP s).1 = s.1 ++ X) ∧ ∀ Z, gl (qg ((qs.foldl qP s).1 ++ Z)) qs.length (s.1.length : Int) = (qs, ((qs.foldl qP s).1.length : Int), 0) := by
  intro qs
  induction qs with
  | nil => intro s h _; exact ⟨h, ⟨[], by simp⟩, fun Z => rfl⟩
  | cons q qs ih =>
    intro s h hc
    obtain ⟨hn, g⟩ := hc q (List.mem_cons_self ..)
    obtain ⟨k1, ⟨X, e1⟩, k3⟩ := qg_put hn h g
    obtain ⟨j1, ⟨Y, e2⟩, j3⟩ := ih (qP s q) k1 (fun q hq => hc q (List.mem_cons_of_mem _ hq))
    refine ⟨j1, ⟨X ++ Y, by rw [List.foldl_cons, e2, e1, List.append_assoc]⟩, fun Z => ?_⟩
    rw [List.foldl_cons]
    have h1 : qg ((qs.foldl qP (qP s q)).1 ++ Z) (s.1.length : Int) = (q, ((qP s q).1.length : Int), 0) := by rw [e2, List.append_assoc]; exact k3 _
    have h2 := j3 Z
    rw [List.length_cons]
    simp only [gl]
    rw [h1]
    simp only
    rw [if_pos trivial, h2]
    simp
theorem foldR_read : ∀ (rs : List Rc) (s : St), KOk s.1 s.2 → FitS s → (∀ r ∈ rs, r.Num ∧ rck r = 0) →
    KOk (rs.foldl rP s).1 (rs.foldl rP s).2 ∧ FitS (rs.foldl rP s) ∧ (∃ X, (rs.foldl rP s).1 = s.1 ++ X) ∧ ∀ Z, gl (gt ((rs.foldl rP s).1 ++ Z)) rs.length (s.1.length : Int) = (rs, ((rs.foldl rP s).1.length : Int), 0) := by
  intro rs
  induction rs with
  | nil => intro s h hf _; exact ⟨h, hf, ⟨[], by simp⟩, fun Z => rfl⟩
  | cons r rs ih =>
    intro s h hf hc
    obtain ⟨hn, g⟩ := hc r (List.mem_cons_self ..)
    obtain ⟨k1, k3⟩ := gt_put hn h hf g
    obtain ⟨X, e1⟩ := rpB_pre h g
    obtain ⟨j1, jf, ⟨Y, e2⟩, j3⟩ := ih (rP s r) k1 (rp_fit hf).1 (fun r hr => hc r (List.mem_cons_of_mem _ hr))
    refine ⟨j1, jf, ⟨X ++ Y, by rw [List.foldl_cons, e2]; show rpB s.1 s.2 r ++ Y = _; rw [e1, List.append_assoc]⟩, fun Z => ?_⟩
    rw [List.foldl_cons]
    have h1 : gt ((rs.foldl rP (rP s r)).1 ++ Z) (s.1.length : Int) = (r, ((rP s r).1.length : Int), 0) := by rw [e2, List.append_assoc]; exact k3 _
    have h2 := j3 Z
    rw [List.length_cons]
    simp only [gl]
    rw [h1]
    simp only
    rw [if_pos trivial, h2]
    simp
/-- The bits of the word that was written. -/
theorem flw_bits (r a t d v : Bool) (op cd : Nat) (ho : op < 16) (hc : cd < 16) : bt (flw r a t d v op cd) 15 = r ∧ bt (flw r a t d v op cd) 10 = a ∧ bt (flw r a t d v op cd) 9 = t ∧ bt (flw r a t d v op cd) 8 = d ∧ bt (flw r a t d v op cd) 7 = v ∧
    flw r a t d v op cd / 2 ^ 11 % 16 = op ∧ flw r a t d v op cd / 2 ^ 0 % 16 = cd := by
  unfold bt flw
  have hr : r.toNat ≤ 1 := by cases r <;> simp
  have ha : a.toNat ≤ 1 := by cases a <;> simp
  have ht : t.toNat ≤ 1 := by cases t <;> simp
  have hd : d.toNat ≤ 1 := by cases d <;> simp
  have hv : v.toNat ≤ 1 := by cases v <;> simp
  have e : ∀ (b : Bool) (n : Nat), n = b.toNat → decide (n = 1) = b := by intro b n h; subst h; cases b <;> rfl
  refine ⟨e _ _ ?_, e _ _ ?_, e _ _ ?_, e _ _ ?_, e _ _ ?_, ?_, ?_⟩ <;> omega
/-- A message whose numbers are of their kinds. -/
structure MNum (m : Ms) : Prop where
  id : m.id < 65536
  qs : ∀ q ∈ m.qs, q.Num
  an : ∀ r ∈ m.an, r.Num
  au : ∀ r ∈ m.au, r.Num
  ex : ∀ r ∈ m.ex, r.Num
/-- What stands in a text that begins with a message's header. -/
theorem head_read {m : Ms} (hm : MNum m) (hg : MGood m) (X : Bs) : numB (piS (hdM m ++ X) 0 2) = m.id ∧ hw (hdM m ++ X) = flw m.r m.a m.t m.d m.v m.op.toNat m.cd.toNat ∧
    cnt (hdM m ++ X) 0 = m.qs.length ∧ cnt (hdM m ++ X) 1 = m.an.length ∧ cnt (hdM m ++ X) 2 = m.au.length ∧ cnt (hdM m ++ X) 3 = m.ex.length := by
  have hfl := flw_lt m.r m.a m.t m.d m.v m.op.toNat m.cd.toNat (by have := hg.op; omega) (by have := hg.cd; omega)
  generalize hS : hdM m ++ X = S
  have hS' : word m.id ++ (word (flw m.r m.a m.t m.d m.v m.op.toNat m.cd.toNat) ++ (word m.qs.length ++ (word m.an.length ++ (word m.au.length ++ (word m.ex.length ++ X))))) = S := by rw [← hS]; simp [hdM]
  generalize flw m.r m.a m.t m.d m.v m.op.toNat m.cd.toNat = fl at hfl hS'
  refine ⟨?_, ?_, ?_, ?_, ?_, ?_⟩
  · exact (pick (S := S) (P := []) (x := word m.id) (Q := _) (p := 0) (z := 2) hS'.symm rfl rfl).trans (numB_word hm.id)
  · exact (pick (S := S) (P := word m.id) (x := word fl) (p := 2) (z := 2) hS'.symm rfl rfl).trans (numB_word hfl)
  · exact (pick (S := S) (P := word m.id ++ word fl) (x := word m.qs.length) (Q := word m.an.length ++ (word m.au.length ++ (word m.ex.length ++ X))) (p := 4) (z := 2) (by rw [← hS']; simp) rfl rfl).trans (numB_word (by have := hg.nq; omega))
  · exact (pick (S := S) (P := word m.id ++ word fl ++ word m.qs.length) (x := word m.an.length) (Q := word m.au.length ++ (word m.ex.length ++ X)) (p := 6) (z := 2) (by rw [← hS']; simp) rfl rfl).trans (numB_word (by have := hg.nx; omega))
  · exact (pick (S := S) (P := word m.id ++ word fl ++ word m.qs.length ++ word m.an.length) (x := word m.au.length) (Q := word m.ex.length ++ X) (p := 8) (z := 2) (by rw [← hS']; simp) rfl rfl).trans (numB_word (by have := hg.ny; omega))
  · exact (pick (S := S) (P := word m.id ++ word fl ++ word m.qs.length ++ word m.an.length ++ word m.au.length) (x := word m.ex.length) (Q := X) (p := 10) (z := 2) (by rw [← hS']; simp) rfl rfl).trans (numB_word (by have := hg.nz; omega))
theorem rHd_of {m : Ms} {S : Bs} (hg : MGood m) (h1 : numB (piS S 0 2) = m.id) (h2 : hw S = flw m.r m.a m.t m.d m.v m.op.toNat m.cd.toNat) (qs : List Qn) (an au ex : List Rc) : rHd S qs an au ex = { m with qs := qs, an := an, au := au, ex := ex } := by
  obtain ⟨b1, b2, b3, b4, b5, b6, b7⟩ := flw_bits m.r m.a m.t m.d m.v m.op.toNat m.cd.toNat (by have := hg.op; omega) (by have := hg.cd; omega)
  unfold rHd
  rw [h1, h2, b1, b2, b3, b4, b5, b6, b7, Int.toNat_of_nonneg hg.op.1, Int.toNat_of_nonneg hg.cd.1]
/-- WHAT WAS WRITTEN OF A MESSAGE IS READ AS THAT MESSAGE; the header's text may be another one with the same numbers in it. -/
theorem read_back {m : Ms} (hm : MNum m) (hg : MGood m) (hl : (mF m).1.length ≤ 4096) : mread (mF m).1 = (m, 0) := by
  obtain ⟨k0, ⟨X0, e0⟩, r0⟩ := foldQ_read m.qs (hdM m, []) (kok_none _) (fun q hq => ⟨hm.qs q hq, hg.qs q hq⟩)
  have f0 := ws_fit hg 0
  obtain ⟨k1, f1, ⟨X1, e1⟩, r1⟩ := foldR_read m.an (ws m 0) k0 f0 (fun r hr => ⟨hm.an r hr, hg.an r hr⟩)
  obtain ⟨k2, f2, ⟨X2, e2⟩, r2⟩ := foldR_read m.au (ws m 1) k1 f1 (fun r hr => ⟨hm.au r hr, hg.au r hr⟩)
  obtain ⟨k3, f3, ⟨X3, e3⟩, r3⟩ := foldR_read m.ex (ws m 2) k2 f2 (fun r hr => ⟨hm.ex r hr, hg.ex r hr⟩)
  have E0 : (ws m 0).1 = hdM m ++ X0 := e0
  have E1 : (ws m 1).1 = (ws m 0).1 ++ X1 := e1
  have E2 : (ws m 2).1 = (ws m 1).1 ++ X2 := e2
  have E3 : (mF m).1 = (ws m 2).1 ++ X3 := e3
  have hh := hd_length m
  obtain ⟨n1, n2, n3, n4, n5, n6⟩ := head_read hm hg (X0 ++ X1 ++ X2 ++ X3)
  have hS : (mF m).1 = hdM m ++ (X0 ++ X1 ++ X2 ++ X3) := by rw [E3, E2, E1, E0]; simp
  rw [← hS] at n1 n2 n3 n4 n5 n6
  have R0 : rQ (mF m).1 = (m.qs, ((ws m 0).1.length : Int), 0) := by
    unfold rQ
    rw [n3]
    have := r0 (X1 ++ X2 ++ X3)
    simp only [hh] at this
    rw [show (mF m).1 = (m.qs.foldl qP (hdM m, [])).1 ++ (X1 ++ X2 ++ X3) by rw [E3, E2, E1]; show (ws m 0).1 ++ X1 ++ X2 ++ X3 = (ws m 0).1 ++ _; simp]
    exact this
  have A0 : rA (mF m).1 0 = (((ws m 0).1.length : Int), 0) := by simp only [rA]; rw [R0]
  have G1 : gl (gt (mF m).1) (cnt (mF m).1 1) ((ws m 0).1.length : Int) = (m.an, ((ws m 1).1.length : Int), 0) := by
    rw [n4]
    have := r1 (X2 ++ X3)
    rw [show (mF m).1 = (m.an.foldl rP (ws m 0)).1 ++ (X2 ++ X3) by rw [E3, E2]; show (ws m 1).1 ++ X2 ++ X3 = (ws m 1).1 ++ _; simp]
    exact this
  have A1 : rA (mF m).1 1 = (((ws m 1).1.length : Int), 0) := by
    rw [rA, A0, if_pos rfl, G1]
  have G2 : gl (gt (mF m).1) (cnt (mF m).1 2) ((ws m 1).1.length : Int) = (m.au, ((ws m 2).1.length : Int), 0) := by
    rw [n5]
    have := r2 X3
    rw [show (mF m).1 = (m.au.foldl rP (ws m 1)).1 ++ X3 from E3]
    exact this
  have A2 : rA (mF m).1 2 = (((ws m 2).1.length : Int), 0) := by
    rw [rA, A1, if_pos rfl, G2]
  have G3 : gl (gt (mF m).1) (cnt (mF m).1 3) ((ws m 2).1.length : Int) = (m.ex, ((mF m).1.length : Int), 0) := by
    rw [n6]
    have := r3 []
    rw [List.append_nil] at this
    exact this
  have A3 : rA (mF m).1 3 = (((mF m).1.length : Int), 0) := by
    rw [rA, A2, if_pos rfl, G3]
  have L0 : rL (mF m).1 0 = m.an := by unfold rL; rw [A0, if_pos rfl, G1]
  have L1 : rL (mF m).1 1 = m.au := by unfold rL; rw [A1, if_pos rfl, G2]
  have L2 : rL (mF m).1 2 = m.ex := by unfold rL; rw [A2, if_pos rfl, G3]
  have hlen : 12 ≤ (mF m).1.length := by rw [hS, List.length_append, hh]; omega
  unfold mread
  rw [if_neg (by omega), if_neg (by omega), A3, if_neg (by simp), if_neg (by simp), R0, L0, L1, L2, rHd_of hg n1 n2]
/-- What is read so may be written. -/
theorem gl_all {T : Type} {get : Int → T × Int × Int} {P : T → Prop} (h : ∀ a, (get a).2.2 = 0 → P (get a).1) : ∀ (k : Nat) (a : Int), ∀ x ∈ (gl get k a).1, P x := by
  intro k
  induction k with
  | zero => intro a x hx; simp [gl] at hx
  | succ k ih =>
    intro a x hx
    simp only [gl] at hx
    split at hx
    · rename_i h1
      split at hx
      · rcases List.mem_cons.1 hx with rfl | hx
        · exact h a h1
        · exact ih _ x hx
      · simp at hx
    · simp at hx
theorem gl_count {T : Type} (get : Int → T × Int × Int) : ∀ (k : Nat) (a : Int), (gl get k a).1.length ≤ k := by
  intro k
  induction k with
  | zero => intro a; simp [gl]
  | succ k ih =>
    intro a
    simp only [gl]
    split
    · split
      · simp; exact ih _
      · simp
    · simp
theorem qg_good (s : Bs) (a : Int) (h : (qg s a).2.2 = 0) : (qg s a).1.Num ∧ qck (qg s a).1 = 0 := by
  refine ⟨qg_num s a, ?_⟩
  unfold qg at h ⊢
  simp only at h ⊢
  unfold qgW at h ⊢
  split at h
  · rename_i h1
    rw [if_pos h1]
    split at h
    · rename_i h2
      rw [if_pos h2]
      split at h
      · rename_i h3
        rw [if_pos h3]
        have := nmI_names s a (by omega)
        show chk (nmI s a).1.toArray.toList = 0
        simpa using this
      · rename_i h3; exact absurd h h3
    · rename_i h2; exact absurd h h2
  · rename_i h1; exact absurd h h1
theorem gt_good (s : Bs) (a : Int) (h : (gt s a).2.2 = 0) : (gt s a).1.Num ∧ rck (gt s a).1 = 0 := by
  unfold gt at h ⊢
  split at h
  · rename_i h0
    rw [if_pos h0]
    unfold gtW at h ⊢
    split at h
    · rename_i h1
      rw [if_pos h1]
      split at h
      · rename_i h2
        rw [if_pos h2]
        split at h
        · rename_i h3
          rw [if_pos h3]
          split at h
          · rename_i h4
            rw [if_pos h4]
            exact ⟨⟨gT_lt _, gC_lt _, gL_lt _⟩, h4⟩
          · rename_i h4; exact absurd h h4
        · cases h
      · rename_i h2; exact absurd h h2
    · rename_i h1; exact absurd h h1
  · rename_i h0; exact absurd h h0
/-- WHAT IS READ OF ANY BYTES MAY BE WRITTEN, and its numbers are of their kinds. -/
theorem read_good {s : Bs} (h : (mread s).2 = 0) : MNum (mread s).1 ∧ MGood (mread s).1 := by
  unfold mread at h ⊢
  split at h
  · cases h
  · rename_i h1
    rw [if_neg h1]
    split at h
    · cases h
    · rename_i h2
      rw [if_neg h2]
      split at h
      · rename_i h3; exact absurd h h3
      · rename_i h3
        rw [if_neg h3]
        split at h
        · cases h
        · rename_i h4
          rw [if_neg h4]
          have hq := gl_all (get := qg s) (P := fun q => q.Num ∧ qck q = 0) (qg_good s) (cnt s 0) 12
          have hr : ∀ k, ∀ r ∈ rL s k, r.Num ∧ rck r = 0 := by
            intro k r hr
            unfold rL at hr
            split at hr
            · exact gl_all (get := gt s) (P := fun r => r.Num ∧ rck r = 0) (gt_good s) _ _ r hr
            · simp at hr
          have hn : ∀ k, (rL s k).length ≤ 65535 := by
            intro k
            unfold rL
            split
            · have := gl_count (gt s) (cnt s (k + 1)) (rA s k).1
              have := cnt_lt s (k + 1)
              omega
            · simp
          have hnq : (rQ s).1.length ≤ 65535 := by
            have := gl_count (qg s) (cnt s 0) 12
            have := cnt_lt s 0
            unfold rQ
            omega
          have hid : numB (piS s 0 2) < 65536 := numB_pi s 0 2
          refine ⟨⟨hid, fun q hq' => (hq q hq').1, fun r hr' => (hr 0 r hr').1, fun r hr' => (hr 1 r hr').1, fun r hr' => (hr 2 r hr').1⟩, ⟨?_, ?_, hnq, hn 0, hn 1, hn 2, fun q hq' => (hq q hq').2, fun r hr' => (hr 0 r hr').2, fun r hr' => (hr 1 r hr').2, fun r hr' => (hr 2 r hr').2⟩⟩
          · show 0 ≤ ((hw s / 2 ^ 11 % 16 : Nat) : Int) ∧ ((hw s / 2 ^ 11 % 16 : Nat) : Int) ≤ 15
            omega
          · show 0 ≤ ((hw s / 2 ^ 0 % 16 : Nat) : Int) ∧ ((hw s / 2 ^ 0 % 16 : Nat) : Int) ≤ 15
            omega
theorem good_ok {m : Ms} (hm : MNum m) (hg : MGood m) : m.Ok := by
  have hr : ∀ r : Rc, r.Num → rck r = 0 → r.Ok := fun r h1 h2 => by
    obtain ⟨z1, z2, _⟩ := rck_zero h2
    have := (chk_zero.1 z1).2
    exact ⟨by rw [size_list]; omega, by omega, h1.t, h1.c, h1.l⟩
  refine ⟨hm.id, by have := hg.op; omega, by have := hg.cd; omega, fun q hq => ?_, fun r h => hr r (hm.an r h) (hg.an r h), fun r h => hr r (hm.au r h) (hg.au r h), fun r h => hr r (hm.ex r h) (hg.ex r h), by have := hg.nq; omega, by have := hg.nx; omega, by have := hg.ny; omega, by have := hg.nz; omega⟩
  have := (chk_zero.1 (hg.qs q hq)).2
  exact ⟨by rw [size_list]; omega, (hm.qs q hq).t, (hm.qs q hq).c⟩
/-- What Bytes answers with no error is read as the message. -/
theorem bytes_read {m : Ms} (hm : MNum m) (h : (mbytes m).2 = 0) : mread (mbytes m).1 = (m, 0) := by
  unfold mbytes at h ⊢
  split at h
  · rename_i g
    rw [if_pos g]
    unfold wres at h ⊢
    split at h
    · cases h
    · rename_i g2
      rw [if_neg g2]
      exact read_back hm (mck_good.1 g) (by omega)
  · rename_i g
    exact absurd h g
theorem bytes_err {m : Ms} (hg : MGood m) : (mbytes m).2 = 0 ∨ (mbytes m).2 = 11 := by
  unfold mbytes
  rw [if_pos (mck_good.2 hg)]
  unfold wres
  split
  · exact .inr rfl
  · exact .inl rfl
end Go.Proofs.Ytljfkjbagebncaa
