/-
  A message's bytes with other bits where there are none in the header: plain mathematics.
-/
import Derived.Test.YtljfkjbagebncaaMBackMath
import Derived.Laws.BitsAllLaws
namespace Go.Proofs.Ytljfkjbagebncaa
open Go.RowKit
theorem pk_shift {B C : Bs} {L : Kn} (n : Bs) (h : B.length = C.length) : ∃ X, pkB true B L n = B ++ X ∧ pkB true C L n = C ++ X ∧ pkL true B L n = pkL true C L n := by
  by_cases g : chk n = 0
  · obtain ⟨X, e1, e2, e3⟩ := putN_shift (pts := true) (labs n) B C L h
    exact ⟨X, by unfold pkB; rw [if_pos g]; exact e1, by unfold pkB; rw [if_pos g]; exact e2, by unfold pkL; rw [if_pos g, if_pos g]; exact e3⟩
  · exact ⟨[], by unfold pkB; rw [if_neg g, List.append_nil], by unfold pkB; rw [if_neg g, List.append_nil], by unfold pkL; rw [if_neg g, if_neg g]⟩
theorem rp_shift {B C : Bs} {L : Kn} (r : Rc) (h : B.length = C.length) : ∃ X, rpB B L r = B ++ X ∧ rpB C L r = C ++ X ∧ rpL B L r = rpL C L r := by
  by_cases g : rck r = 0
  · obtain ⟨v, _, eB, eL, ev⟩ := rpB_eq (B := B) (L := L) g
    obtain ⟨v', _, eB', eL', ev'⟩ := rpB_eq (B := C) (L := L) g
    obtain ⟨X1, a1, a2, a3⟩ := pk_shift (L := L) r.n.data.toList h
    have hk : rpK B L r = rpK C L r := a3
    have hHl : (rpH B L r).length = (rpH C L r).length := by unfold rpH; rw [a1, a2]; simp [h]
    obtain ⟨X2, b1, b2, b3⟩ := putD_shift (pts r.t r.d.data.toList) (rpH B L r ++ word v) (rpH C L r ++ word v') (rpK B L r) (by rw [List.length_append, List.length_append, hHl]; rfl)
    rw [← hk] at eB' eL' ev'
    have hv : v = v' := by
      rw [ev, ev', b1, b2]
      simp only [List.length_append, hHl, word_length]
    subst hv
    refine ⟨X1 ++ word r.t ++ word r.c ++ long r.l ++ word v ++ X2, ?_, ?_, ?_⟩
    · rw [eB, b1]; unfold rpH; rw [a1]; simp
    · rw [eB', b2]; unfold rpH; rw [a2]; simp
    · rw [eL, eL', b3]
  · exact ⟨[], by unfold rpB; rw [if_neg g, List.append_nil], by unfold rpB; rw [if_neg g, List.append_nil], by unfold rpL; rw [if_neg g, if_neg g]⟩
theorem foldQ_shift : ∀ (qs : List Qn) (B C : Bs) (L : Kn), B.length = C.length → ∃ X, (qs.foldl qP (B, L)).1 = B ++ X ∧ (qs.foldl qP (C, L)).1 = C ++ X ∧ (qs.foldl qP (B, L)).2 = (qs.foldl qP (C, L)).2 := by
  intro qs
  induction qs with
  | nil => intro B C L _; exact ⟨[], by simp, by simp, rfl⟩
  | cons q qs ih =>
    intro B C L h
    obtain ⟨X, e1, e2, e3⟩ := pk_shift (L := L) q.n.data.toList h
    have f1 : qP (B, L) q = (B ++ (X ++ word q.t ++ word q.c), pkL true C L q.n.data.toList) := by simp only [qP]; rw [e1, e3]; simp
    have f2 : qP (C, L) q = (C ++ (X ++ word q.t ++ word q.c), pkL true C L q.n.data.toList) := by simp only [qP]; rw [e2]; simp
    rw [List.foldl_cons, List.foldl_cons, f1, f2]
    obtain ⟨Y, g1, g2, g3⟩ := ih (B ++ (X ++ word q.t ++ word q.c)) (C ++ (X ++ word q.t ++ word q.c)) (pkL true C L q.n.data.toList) (by simp [h])
    exact ⟨X ++ word q.t ++ word q.c ++ Y, by rw [g1]; simp, by rw [g2]; simp, g3⟩
theorem foldR_shift : ∀ (rs : List Rc) (B C : Bs) (L : Kn), B.length = C.length → ∃ X, (rs.foldl rP (B, L)).1 = B ++ X ∧ (rs.foldl rP (C, L)).1 = C ++ X ∧ (rs.foldl rP (B, L)).2 = (rs.foldl rP (C, L)).2 := by
  intro rs
  induction rs with
  | nil => intro B C L _; exact ⟨[], by simp, by simp, rfl⟩
  | cons r rs ih =>
    intro B C L h
    obtain ⟨X, e1, e2, e3⟩ := rp_shift (L := L) r h
    have f1 : rP (B, L) r = (B ++ X, rpL C L r) := by simp only [rP]; rw [e1, e3]
    have f2 : rP (C, L) r = (C ++ X, rpL C L r) := by simp only [rP]; rw [e2]
    rw [List.foldl_cons, List.foldl_cons, f1, f2]
    obtain ⟨Y, g1, g2, g3⟩ := ih (B ++ X) (C ++ X) (rpL C L r) (by rw [List.length_append, List.length_append, h])
    exact ⟨X ++ Y, by rw [g1, List.append_assoc], by rw [g2, List.append_assoc], g3⟩
/-- All of a message behind any header. -/
def all0 (H : Bs) (m : Ms) : St := m.qs.foldl qP (H, [])
def all1 (H : Bs) (m : Ms) : St := m.an.foldl rP (all0 H m)
def all2 (H : Bs) (m : Ms) : St := m.au.foldl rP (all1 H m)
def allH (H : Bs) (m : Ms) : St := m.ex.foldl rP (all2 H m)
theorem mF_allH (m : Ms) : mF m = allH (hdM m) m := rfl
/-- Two texts that differ in what they begin with alone. -/
def Sh (B C : Bs) (s t : St) : Prop := ∃ X, s.1 = B ++ X ∧ t.1 = C ++ X ∧ s.2 = t.2
theorem foldR_sh {B C : Bs} (h : B.length = C.length) (rs : List Rc) {s t : St} (hs : Sh B C s t) : Sh B C (rs.foldl rP s) (rs.foldl rP t) := by
  obtain ⟨s1, s2⟩ := s
  obtain ⟨t1, t2⟩ := t
  obtain ⟨X, e1, e2, e3⟩ := hs
  simp only at e1 e2 e3
  subst e1 e2 e3
  obtain ⟨Y, g1, g2, g3⟩ := foldR_shift rs (B ++ X) (C ++ X) s2 (by rw [List.length_append, List.length_append, h])
  exact ⟨X ++ Y, by rw [g1, List.append_assoc], by rw [g2, List.append_assoc], g3⟩
theorem allH_shift {B C : Bs} (m : Ms) (h : B.length = C.length) : ∃ X, (allH B m).1 = B ++ X ∧ (allH C m).1 = C ++ X := by
  have h0 : Sh B C (all0 B m) (all0 C m) := foldQ_shift m.qs B C [] h
  obtain ⟨X, e1, e2, _⟩ := foldR_sh h m.ex (foldR_sh h m.au (foldR_sh h m.an h0))
  exact ⟨X, e1, e2⟩
/-- A text of a message behind a header with the right counts is read as that header's fields and the message's lists. -/
theorem read_from {m : Ms} {H : Bs} (hm : MNum m) (hg : MGood m) (hH : H.length = 12) (hc : ∀ X, cnt (H ++ X) 0 = m.qs.length ∧ cnt (H ++ X) 1 = m.an.length ∧ cnt (H ++ X) 2 = m.au.length ∧ cnt (H ++ X) 3 = m.ex.length)
    (hl : (allH H m).1.length ≤ 4096) : mread (allH H m).1 = (rHd (allH H m).1 m.qs m.an m.au m.ex, 0) := by
  obtain ⟨k0, ⟨X0, e0⟩, r0⟩ := foldQ_read m.qs (H, []) (kok_none _) (fun q hq => ⟨hm.qs q hq, hg.qs q hq⟩)
  have f0 : FitS (all0 H m) := (foldQ_fit m.qs (H, []) ⟨by simp, okK_nil⟩ hg.qs).1
  obtain ⟨k1, f1, ⟨X1, e1⟩, r1⟩ := foldR_read m.an (all0 H m) k0 f0 (fun r hr => ⟨hm.an r hr, hg.an r hr⟩)
  obtain ⟨k2, f2, ⟨X2, e2⟩, r2⟩ := foldR_read m.au (all1 H m) k1 f1 (fun r hr => ⟨hm.au r hr, hg.au r hr⟩)
  obtain ⟨k3, f3, ⟨X3, e3⟩, r3⟩ := foldR_read m.ex (all2 H m) k2 f2 (fun r hr => ⟨hm.ex r hr, hg.ex r hr⟩)
  have E0 : (all0 H m).1 = H ++ X0 := e0
  have E1 : (all1 H m).1 = (all0 H m).1 ++ X1 := e1
  have E2 : (all2 H m).1 = (all1 H m).1 ++ X2 := e2
  have E3 : (allH H m).1 = (all2 H m).1 ++ X3 := e3
  obtain ⟨n3, n4, n5, n6⟩ := hc (X0 ++ X1 ++ X2 ++ X3)
  have hS : (allH H m).1 = H ++ (X0 ++ X1 ++ X2 ++ X3) := by rw [E3, E2, E1, E0]; simp
  rw [← hS] at n3 n4 n5 n6
  have R0 : rQ (allH H m).1 = (m.qs, ((all0 H m).1.length : Int), 0) := by
    unfold rQ
    rw [n3]
    have := r0 (X1 ++ X2 ++ X3)
    simp only [hH] at this
    rw [show (allH H m).1 = (m.qs.foldl qP (H, [])).1 ++ (X1 ++ X2 ++ X3) by rw [E3, E2, E1]; show (all0 H m).1 ++ X1 ++ X2 ++ X3 = (all0 H m).1 ++ _; simp]
    exact this
  have A0 : rA (allH H m).1 0 = (((all0 H m).1.length : Int), 0) := by simp only [rA]; rw [R0]
  have G1 : gl (gt (allH H m).1) (cnt (allH H m).1 1) ((all0 H m).1.length : Int) = (m.an, ((all1 H m).1.length : Int), 0) := by
    rw [n4]
    have := r1 (X2 ++ X3)
    rw [show (allH H m).1 = (m.an.foldl rP (all0 H m)).1 ++ (X2 ++ X3) by rw [E3, E2]; show (all1 H m).1 ++ X2 ++ X3 = (all1 H m).1 ++ _; simp]
    exact this
  have A1 : rA (allH H m).1 1 = (((all1 H m).1.length : Int), 0) := by
    rw [rA, A0, if_pos rfl, G1]
  have G2 : gl (gt (allH H m).1) (cnt (allH H m).1 2) ((all1 H m).1.length : Int) = (m.au, ((all2 H m).1.length : Int), 0) := by
    rw [n5]
    have := r2 X3
    rw [show (allH H m).1 = (m.au.foldl rP (all1 H m)).1 ++ X3 from E3]
    exact this
  have A2 : rA (allH H m).1 2 = (((all2 H m).1.length : Int), 0) := by
    rw [rA, A1, if_pos rfl, G2]
  have G3 : gl (gt (allH H m).1) (cnt (allH H m).1 3) ((all2 H m).1.length : Int) = (m.ex, ((allH H m).1.length : Int), 0) := by
    rw [n6]
    have := r3 []
    rw [List.append_nil] at this
    exact this
  have A3 : rA (allH H m).1 3 = (((allH H m).1.length : Int), 0) := by
    rw [rA, A2, if_pos rfl, G3]
  have L0 : rL (allH H m).1 0 = m.an := by unfold rL; rw [A0, if_pos rfl, G1]
  have L1 : rL (allH H m).1 1 = m.au := by unfold rL; rw [A1, if_pos rfl, G2]
  have L2 : rL (allH H m).1 2 = m.ex := by unfold rL; rw [A2, if_pos rfl, G3]
  have hlen : 12 ≤ (allH H m).1.length := by rw [hS, List.length_append, hH]; omega
  unfold mread
  rw [if_neg (by omega), if_neg (by omega), A3, if_neg (by simp), if_neg (by simp), R0, L0, L1, L2]
/-- The header with three more bits. -/
def hdK (m : Ms) (k : Nat) : Bs := word m.id ++ word (flw m.r m.a m.t m.d m.v m.op.toNat m.cd.toNat + 16 * k) ++ word m.qs.length ++ word m.an.length ++ word m.au.length ++ word m.ex.length
theorem hdK_length (m : Ms) (k : Nat) : (hdK m k).length = 12 := by simp only [hdK, List.length_append, word_length]
theorem low_or : ∀ v < 2, ∀ c < 16, ∀ k < 8, (v * 128 + c) ||| (16 * k) = v * 128 + c + 16 * k := by decide +kernel
theorem flw_low (r a t d v : Bool) (op cd : Nat) (hc : cd < 16) : flw r a t d v op cd % 256 = v.toNat * 128 + cd := by
  unfold flw
  have hv : v.toNat ≤ 1 := by cases v <;> simp
  omega
/-- The byte that was turned. -/
theorem turn3 {m : Ms} (hg : MGood m) (k : Nat) (hk : k < 8) : ((word (flw m.r m.a m.t m.d m.v m.op.toNat m.cd.toNat)).getD 1 0).toNat ||| (16 * k) = ((word (flw m.r m.a m.t m.d m.v m.op.toNat m.cd.toNat + 16 * k)).getD 1 0).toNat ∧
    (word (flw m.r m.a m.t m.d m.v m.op.toNat m.cd.toNat + 16 * k)).getD 0 0 = (word (flw m.r m.a m.t m.d m.v m.op.toNat m.cd.toNat)).getD 0 0 := by
  have hl := flw_low m.r m.a m.t m.d m.v m.op.toNat m.cd.toNat (by have := hg.cd; omega)
  have hv : m.v.toNat < 2 := by cases m.v <;> simp
  have hc : m.cd.toNat < 16 := by have := hg.cd; omega
  have ho := low_or m.v.toNat hv m.cd.toNat hc k hk
  generalize flw m.r m.a m.t m.d m.v m.op.toNat m.cd.toNat = fl at hl ⊢
  refine ⟨?_, ?_⟩
  · simp only [word, List.getD_cons_succ, List.getD_cons_zero, UInt8.toNat_ofNat']
    rw [show fl % 2 ^ 8 = m.v.toNat * 128 + m.cd.toNat from hl, ho]
    omega
  · simp only [word, List.getD_cons_zero]
    rw [show (fl + 16 * k) / 256 = fl / 256 by omega]
theorem flwk_bits (r a t d v : Bool) (op cd k : Nat) (ho : op < 16) (hc : cd < 16) (hk : k < 8) : bt (flw r a t d v op cd + 16 * k) 15 = r ∧ bt (flw r a t d v op cd + 16 * k) 10 = a ∧ bt (flw r a t d v op cd + 16 * k) 9 = t ∧ bt (flw r a t d v op cd + 16 * k) 8 = d ∧ bt (flw r a t d v op cd + 16 * k) 7 = v ∧
    (flw r a t d v op cd + 16 * k) / 2 ^ 11 % 16 = op ∧ (flw r a t d v op cd + 16 * k) / 2 ^ 0 % 16 = cd ∧ flw r a t d v op cd + 16 * k < 65536 := by
  unfold bt flw
  have hr : r.toNat ≤ 1 := by cases r <;> simp
  have ha : a.toNat ≤ 1 := by cases a <;> simp
  have ht : t.toNat ≤ 1 := by cases t <;> simp
  have hd : d.toNat ≤ 1 := by cases d <;> simp
  have hv : v.toNat ≤ 1 := by cases v <;> simp
  have e : ∀ (b : Bool) (n : Nat), n = b.toNat → decide (n = 1) = b := by intro b n h; subst h; cases b <;> rfl
  refine ⟨e _ _ ?_, e _ _ ?_, e _ _ ?_, e _ _ ?_, e _ _ ?_, ?_, ?_, ?_⟩ <;> omega
/-- What stands in a text that begins with such a header. -/
theorem headK_read {m : Ms} (hm : MNum m) (hg : MGood m) (k : Nat) (hk : k < 8) (X : Bs) : numB (piS (hdK m k ++ X) 0 2) = m.id ∧ hw (hdK m k ++ X) = flw m.r m.a m.t m.d m.v m.op.toNat m.cd.toNat + 16 * k ∧
    cnt (hdK m k ++ X) 0 = m.qs.length ∧ cnt (hdK m k ++ X) 1 = m.an.length ∧ cnt (hdK m k ++ X) 2 = m.au.length ∧ cnt (hdK m k ++ X) 3 = m.ex.length := by
  have hfl := (flwk_bits m.r m.a m.t m.d m.v m.op.toNat m.cd.toNat k (by have := hg.op; omega) (by have := hg.cd; omega) hk).2.2.2.2.2.2.2
  generalize hS : hdK m k ++ X = S
  have hS' : word m.id ++ (word (flw m.r m.a m.t m.d m.v m.op.toNat m.cd.toNat + 16 * k) ++ (word m.qs.length ++ (word m.an.length ++ (word m.au.length ++ (word m.ex.length ++ X))))) = S := by rw [← hS]; simp [hdK]
  generalize flw m.r m.a m.t m.d m.v m.op.toNat m.cd.toNat + 16 * k = fl at hfl hS'
  refine ⟨?_, ?_, ?_, ?_, ?_, ?_⟩
  · exact (pick (S := S) (P := []) (x := word m.id) (Q := _) (p := 0) (z := 2) hS'.symm rfl rfl).trans (numB_word hm.id)
  · exact (pick (S := S) (P := word m.id) (x := word fl) (p := 2) (z := 2) hS'.symm rfl rfl).trans (numB_word hfl)
  · exact (pick (S := S) (P := word m.id ++ word fl) (x := word m.qs.length) (Q := word m.an.length ++ (word m.au.length ++ (word m.ex.length ++ X))) (p := 4) (z := 2) (by rw [← hS']; simp) rfl rfl).trans (numB_word (by have := hg.nq; omega))
  · exact (pick (S := S) (P := word m.id ++ word fl ++ word m.qs.length) (x := word m.an.length) (Q := word m.au.length ++ (word m.ex.length ++ X)) (p := 6) (z := 2) (by rw [← hS']; simp) rfl rfl).trans (numB_word (by have := hg.nx; omega))
  · exact (pick (S := S) (P := word m.id ++ word fl ++ word m.qs.length ++ word m.an.length) (x := word m.au.length) (Q := word m.ex.length ++ X) (p := 8) (z := 2) (by rw [← hS']; simp) rfl rfl).trans (numB_word (by have := hg.ny; omega))
  · exact (pick (S := S) (P := word m.id ++ word fl ++ word m.qs.length ++ word m.an.length ++ word m.au.length) (x := word m.ex.length) (Q := X) (p := 10) (z := 2) (by rw [← hS']; simp) rfl rfl).trans (numB_word (by have := hg.nz; omega))
theorem rHdK_of {m : Ms} {S : Bs} (hg : MGood m) (k : Nat) (hk : k < 8) (h1 : numB (piS S 0 2) = m.id) (h2 : hw S = flw m.r m.a m.t m.d m.v m.op.toNat m.cd.toNat + 16 * k) (qs : List Qn) (an au ex : List Rc) : rHd S qs an au ex = { m with qs := qs, an := an, au := au, ex := ex } := by
  obtain ⟨b1, b2, b3, b4, b5, b6, b7, _⟩ := flwk_bits m.r m.a m.t m.d m.v m.op.toNat m.cd.toNat k (by have := hg.op; omega) (by have := hg.cd; omega) hk
  unfold rHd
  rw [h1, h2, b1, b2, b3, b4, b5, b6, b7, Int.toNat_of_nonneg hg.op.1, Int.toNat_of_nonneg hg.cd.1]
/-- The text whose fourth byte was turned is the one behind the other header. -/
theorem turned_text {m : Ms} (hg : MGood m) (k : Nat) (hk : k < 8) (z : UInt8) (hz : z.toNat = (((mF m).1.getD 3 0).toNat ||| (16 * k))) : (mF m).1.set 3 z = (allH (hdK m k) m).1 := by
  obtain ⟨X, e1, e2⟩ := allH_shift (B := hdM m) (C := hdK m k) m (by rw [hd_length, hdK_length])
  rw [mF_allH] at hz ⊢
  rw [e1] at hz ⊢
  rw [e2]
  obtain ⟨t1, t2⟩ := turn3 hg k hk
  have hz2 : z = (word (flw m.r m.a m.t m.d m.v m.op.toNat m.cd.toNat + 16 * k)).getD 1 0 := by
    apply UInt8.toNat_inj.1
    rw [hz, ← t1]
    rfl
  have w0 : ∀ n, word n = [(word n).getD 0 0, (word n).getD 1 0] := fun n => rfl
  subst hz2
  unfold hdM hdK
  rw [w0 (flw m.r m.a m.t m.d m.v m.op.toNat m.cd.toNat + 16 * k), t2, w0 (flw m.r m.a m.t m.d m.v m.op.toNat m.cd.toNat)]
  simp [word]
/-- WHAT STANDS IN THE THREE BITS DOES NOT MATTER. -/
theorem heads_math {m : Ms} (hm : MNum m) (h : (mbytes m).2 = 0) : 12 ≤ (mbytes m).1.length ∧ ∀ k, k < 8 → ∀ z : UInt8, z.toNat = (((mbytes m).1.getD 3 0).toNat ||| (16 * k)) →
    mhead ((mbytes m).1.set 3 z) = (⟨m.id, m.r, m.a, m.t, m.d, m.v, m.op, m.cd, [], [], [], []⟩, 0) ∧ mread ((mbytes m).1.set 3 z) = (m, 0) := by
  unfold mbytes at h ⊢
  split at h
  · rename_i g
    rw [if_pos g]
    unfold wres at h ⊢
    split at h
    · cases h
    · rename_i g2
      rw [if_neg g2]
      have hg := mck_good.1 g
      obtain ⟨X, e1, e2⟩ := allH_shift (B := hdM m) (C := hdM m) m rfl
      have hl12 : 12 ≤ (mF m).1.length := by rw [mF_allH, e1, List.length_append, hd_length]; omega
      refine ⟨hl12, fun k hk z hz => ?_⟩
      have ht := turned_text hg k hk z hz
      obtain ⟨Y, f1, f2⟩ := allH_shift (B := hdK m k) (C := hdK m k) m rfl
      have hlen : (allH (hdK m k) m).1.length = (mF m).1.length := by rw [← ht, List.length_set]
      obtain ⟨n1, n2, _⟩ := headK_read hm hg k hk Y
      rw [← f1] at n1 n2
      show mhead ((mF m).1.set 3 z) = _ ∧ mread ((mF m).1.set 3 z) = _
      rw [ht]
      refine ⟨?_, ?_⟩
      · unfold mhead
        rw [if_neg (by omega), rHdK_of hg k hk n1 n2]
      · rw [read_from hm hg (hdK_length m k) (fun X => ⟨(headK_read hm hg k hk X).2.2.1, (headK_read hm hg k hk X).2.2.2.1, (headK_read hm hg k hk X).2.2.2.2.1, (headK_read hm hg k hk X).2.2.2.2.2⟩) (by rw [hlen]; omega), rHdK_of hg k hk n1 n2]
  · rename_i g
    exact absurd h g
/-- The three lowest bits of any number. -/
theorem low3 (n : Int) : bits .and .i64 n 7 = n % 8 := by
  have h7 : (BitVec.ofInt 64 7).toNat = 7 := by decide
  have e : (BitVec.ofInt 64 n &&& BitVec.ofInt 64 7).toNat = (BitVec.ofInt 64 n).toNat % 8 := by
    rw [BitVec.toNat_and, h7]; exact nat_mask3 _
  show IntKind.i64.wrap ((BitVec.ofInt 64 n &&& BitVec.ofInt 64 7).toNat : Nat) = n % 8
  rw [e, BitVec.toNat_ofInt, IntKind.wrap_i64]
  omega
end Go.Proofs.Ytljfkjbagebncaa
