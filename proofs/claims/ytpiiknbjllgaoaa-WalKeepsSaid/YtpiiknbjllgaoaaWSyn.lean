/-
  What a log's Sync leaves and answers.
-/
import Derived.Test.YtpiiknbjllgaoaaWApp
namespace Go.Proofs.Ytpiiknbjllgaoaa
open Go.RowKit
def syE (x : Ld) (c f : Nat) : Int := if f = c then 0 else x.E (x.has false)
def syX (x : Ld) (c f : Nat) : Ld := if f = c then x else x.syn false
section
variable {S : Nat → Prop} {b B : Nat} {x : Ld} {c f z : Nat} {w : World} {v : Value} {L : List Bs}
set_option maxRecDepth 100000 in
set_option maxHeartbeats 6400000 in
theorem sync_bro (hw : WB B nop c f z w) : Calls Try.prog 20 #[ptr B] w fun e w' => e = .returned (.int .i64 13) ∧ Below w.heap.size w w' := by
  have HR := Lib.hid (ready_any hw (.inl rfl))
  clear hw
  go_enter Try.func20, Try.ntmps20
  go_wp2_with fail
  refine HR.out.mono ?_
  rintro e w1 ⟨rfl, hb⟩
  have HB := Lib.hid hb
  clear hb
  simp only [brk]
  go_wp2_with fail
  go_quiet (fail)
  go_wp2
  go_ret
  exact ⟨rfl, HB.out.trans ((below_drewN _ _).mono HB.out.size)⟩
set_option maxRecDepth 100000 in
set_option maxHeartbeats 6400000 in
theorem sync_none : Calls Try.prog 20 #[nop] w fun e w' => e = .returned (.int .i64 1) ∧ Below w.heap.size w w' := by
  go_enter Try.func20, Try.ntmps20
  go_wp2_with fail
  refine (ready_none _).mono ?_
  rintro e w1 ⟨rfl, rfl⟩
  go_wp2_with fail
  go_quiet (fail)
  go_wp2
  go_ret
  exact ⟨rfl, below_drewN _ _⟩
set_option maxRecDepth 100000 in
set_option maxHeartbeats 12800000 in
theorem sync_log (h : PD S b x.dk w) (_ : ∀ k, S k → k < w.heap.size) (hw : WB B (ptr b) c f z w) (hB : ¬ S B) (ok : x.Okn 1 0) (hc : c ≤ 1000000000) :
    Calls Try.prog 20 #[ptr B] w fun e w' => e = .returned (.int .i64 (syE x c f)) ∧ Chg S b B (syX x c f) (dvE b (syE x c f)) c (if syE x c f = 0 then c else f) z w w' := by
  have HRD := Lib.hid (ready_any hw (.inr ⟨b, rfl⟩))
  have HW := Lib.hid hw
  have HP := Lib.hid h
  have HSB := Lib.hid hB
  clear hw h hB
  by_cases hfc : f = c
  · subst hfc
    have e1 : syE x f f = 0 := if_pos rfl
    have e2 : syX x f f = x := if_pos rfl
    rw [e1, e2, if_pos rfl]
    clear e1 e2
    go_enter Try.func20, Try.ntmps20
    go_wp2_with fail
    refine HRD.out.mono ?_
    rintro e w1 ⟨rfl, hb1⟩
    have HB1 := Lib.hid hb1
    have c1 := (HW.out.below hb1).cell 1 _ rfl
    have c2 := (HW.out.below hb1).cell 2 _ rfl
    clear hb1
    simp only [brk]
    go_wp2_with fail
    go_quiet (fail)
    go_wp2
    go_ret
    exact ⟨rfl, Chg.none HP.out HW.out (HB1.out.trans ((below_drewN _ _).mono HB1.out.size))⟩
  · have q0 : ((f : Int) == (c : Int)) = false := by simp; omega
    have q0' : (f == c) = false := by simp; omega
    have HEE : Hid (syE x c f = x.E (x.has false)) := Lib.hid (if_neg hfc)
    have HXX : Hid (syX x c f = x.syn false) := Lib.hid (if_neg hfc)
    obtain ⟨E, hE⟩ : ∃ E, E = syE x c f := ⟨_, rfl⟩
    rw [← hE] at HEE ⊢
    obtain ⟨X, hX⟩ : ∃ X, X = syX x c f := ⟨_, rfl⟩
    rw [← hX] at HXX ⊢
    have OK := Lib.hid ok.ok
    have HNM : Hid (nmOf false = ⟨#[119, 97, 108]⟩) := Lib.hid rfl
    clear hE hX ok
    go_enter Try.func20, Try.ntmps20
    go_wp2_with fail
    refine HRD.out.mono ?_
    rintro e w1 ⟨rfl, hb1⟩
    have HB1 := Lib.hid hb1
    have c1 := (HW.out.below hb1).cell 1 _ rfl
    have c2 := (HW.out.below hb1).cell 2 _ rfl
    clear hb1
    simp only [brk]
    go_wp2_with fail
    go_quiet (fail)
    have HB2 := Lib.hid (HB1.out.trans ((below_drewN w1 nq).mono HB1.out.size))
    obtain ⟨w2, hw2⟩ : ∃ w2, w2 = w1.drewN nq := ⟨_, rfl⟩
    rw [← hw2] at HB2 ⊢
    have c0 : w2.cell? ⟨B, 0, none⟩ = some (ptr b) := (HW.out.below HB2.out).cell 0 _ rfl
    clear c1 c2 hw2
    go_wp2_with fail
    refine (syn_wk b _ w2).mono ?_
    rintro e w3 ⟨rfl, d0, d1, ds, hb3⟩
    have HB3 := Lib.hid (HB2.out.trans (hb3.mono HB2.out.size))
    have D0 := Lib.hid d0
    have D1 := Lib.hid d1
    clear d0 d1 ds hb3 c0
    go_wp2_with fail
    have HB4 : Hid (Below w.heap.size w (w3.alloc (.cells #[.func (.func 65) #[] #[ptr w2.heap.size, ptr (w2.heap.size + 1)]] 44))) := Lib.hid (HB3.out.alloc HB3.out.size _)
    have hcells : ∀ {p : Addr} {u : Value}, w3.cell? p = some u → (w3.alloc (.cells #[.func (.func 65) #[] #[ptr w2.heap.size, ptr (w2.heap.size + 1)]] 44)).cell? p = some u := fun hp => (((Below.refl _ w3).alloc (Nat.le_refl _) _).cell (w3.block_lt_of_cell? _ hp)).trans hp
    have hcall := syn_any (HP.out.below HB4.out) OK.out false (hcells D0.out) (by rw [HNM.out]; exact hcells D1.out)
    have hturn := turn1 ⟨65, #[], #[ptr w2.heap.size, ptr (w2.heap.size + 1)]⟩ _ _ w3.heap.size _ (by simp) ent65 hcall
    have hchg := change_any (B := B) (b := b) (c := c) (f := f) (z := z) _ _ hturn (fun w5 hl => by
      exact (HW.out.below HB4.out).tr hl.2 HSB.out)
    rw [← HEE.out] at hchg
    refine hchg.mono ?_
    rintro e w6 ⟨rfl, w5, hl5, rfl⟩
    have hl5 : Lft S b X.dk w w5 := by rw [HXX.out]; exact hl5.behind HB4.out
    have HL5 := Lib.hid hl5
    have HW5 := Lib.hid (HW.out.tr hl5.2 HSB.out)
    have HT5 := Lib.hid (hl5.2.mono (S' := fun k => S k ∨ k = B) fun _ => .inl)
    clear hcall hturn hchg hl5 D0 D1 hcells
    have hfin : ∀ w' : World, Tr (fun k => k = B) w5 w' → PD (andNew S w.heap.size) b X.dk w' := fun w' ht => HL5.out.1.tr ht (fun k _ hk e => by
      have e : k = B := e
      subst e
      rcases hk with hk | hk
      · exact HSB.out hk
      · have := HW.out.lt; omega)
    have HFIN := Lib.hid hfin
    clear hfin
    by_cases h0 : E = 0
    · subst h0
      have c1 := HW5.out.cell 1 _ rfl
      have f2 := HW5.out.fz 2
      have c2 := HW5.out.cell 2 _ rfl
      simp only [brkE]
      go_wp2
      go_ret
      have ht := (Tr.refl (fun k => k = B) w5).setCell (b := B) (i := 2) (.inl rfl) (.int .i64 (c : Int))
      exact ⟨rfl, HFIN.out _ ht, HW5.out.set2 c, HT5.out.then (ht.mono fun _ => .inr)⟩
    · have q1 : (E == 0) = false := by simpa using h0
      have q2 : (E != 0) = true := by simpa using h0
      cases hbk : brkE E with
      | false =>
        go_wp2
        go_ret
        refine ⟨rfl, HL5.out.1, ?_, HT5.out⟩
        unfold dvE
        rw [hbk]
        exact HW5.out
      | true =>
        go_wp2
        go_ret
        have ht := (Tr.refl (fun k => k = B) w5).setCell (b := B) (i := 0) (.inl rfl) nop
        refine ⟨rfl, HFIN.out _ ht, ?_, HT5.out.then (ht.mono fun _ => .inr)⟩
        unfold dvE
        rw [hbk]
        exact HW5.out.set0 _
end
end Go.Proofs.Ytpiiknbjllgaoaa
