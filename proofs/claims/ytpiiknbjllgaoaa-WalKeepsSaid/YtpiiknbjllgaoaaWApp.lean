/-
  What a log's Append and Sync leave and answer.
-/
import Derived.Test.YtpiiknbjllgaoaaWChg
namespace Go.Proofs.Ytpiiknbjllgaoaa
open Go.RowKit
def apE (x : Ld) (L : List Bs) : Int := if L = [] then 0 else x.E (x.fit (rcsB L).length)
def apX (x : Ld) (L : List Bs) : Ld := if L = [] then x else x.app false (rcsB L)
def dvE (b : Nat) (E : Int) : Value := if brkE E then nop else ptr b
def addN (E : Int) (c k : Nat) : Nat := if E = 0 then c + k else c
/-- What a log's change leaves: the disk, the log, and all else as it was. -/
structure Chg (S : Nat → Prop) (b B : Nat) (x : Ld) (dv : Value) (c f z : Nat) (w w' : World) : Prop where
  pd : PD (andNew S w.heap.size) b x.dk w'
  wb : WB B dv c f z w'
  tr : Tr (fun k => S k ∨ k = B) w w'
section
variable {S : Nat → Prop} {b B : Nat} {x : Ld} {c f z : Nat} {w : World} {v : Value} {L : List Bs}
theorem Chg.none {dv : Value} {w' : World} (h : PD S b x.dk w) (hw : WB B dv c f z w) (hb : Below w.heap.size w w') : Chg S b B x dv c f z w w' := ⟨(h.below hb).mono fun _ => .inl, hw.below hb, Tr.of_below hb⟩
set_option maxRecDepth 100000 in
set_option maxHeartbeats 6400000 in
theorem append_bro (hw : WB B nop c f z w) (hv : ∃ a n cap, v = .slice a n cap) : Calls Try.prog 22 #[ptr B, v] w fun e w' => e = .returned (.int .i64 13) ∧ Below w.heap.size w w' := by
  have HR := Lib.hid (ready_any hw (.inl rfl))
  obtain ⟨a, n, cap, rfl⟩ := hv
  clear hw
  go_enter Try.func22, Try.ntmps22
  go_wp2_with fail
  refine HR.out.mono ?_
  rintro e w1 ⟨rfl, hb⟩
  have HB := Lib.hid hb
  clear hb
  simp only [brk]
  go_wp2
  go_ret
  exact ⟨rfl, HB.out⟩
set_option maxRecDepth 100000 in
set_option maxHeartbeats 6400000 in
theorem append_none (hv : ∃ a n cap, v = .slice a n cap) : Calls Try.prog 22 #[nop, v] w fun e w' => e = .returned (.int .i64 1) ∧ w = w' := by
  obtain ⟨a, n, cap, rfl⟩ := hv
  go_enter Try.func22, Try.ntmps22
  go_wp2_with fail
  refine (ready_none _).mono ?_
  rintro e w1 ⟨rfl, rfl⟩
  go_wp2
  go_ret
  exact ⟨rfl, rfl⟩
set_option maxRecDepth 100000 in
set_option maxHeartbeats 12800000 in
theorem append_log (h : PD S b x.dk w) (hS : ∀ k, S k → k < w.heap.size) (hw : WB B (ptr b) c f z w) (hB : ¬ S B) (ok : x.Okn 1 (rcsB L).length) (hv : RdB w v L) (hf : Fit L) (hl : L.length ≤ 16) (hr : (rcsB L).length ≤ 1000000) (hc : c ≤ 1000000000) (hz : z ≤ 1000000000) :
    Calls Try.prog 22 #[ptr B, v] w fun e w' => e = .returned (.int .i64 (apE x L)) ∧ Chg S b B (apX x L) (dvE b (apE x L)) (addN (apE x L) c L.length) f (addN (apE x L) z (rcsB L).length) w w' := by
  have HRD := Lib.hid (ready_any hw (.inr ⟨b, rfl⟩))
  have HALL := Lib.hid (fun w' (hb : Below w.heap.size w w') => all_any (hv.below hb) (by omega) (fun s hs => by have := hf s hs; omega))
  rw [(all_fit hf).1, (all_fit hf).2] at HALL
  obtain ⟨a, cap, rfl, _, _⟩ := hv
  rw [ab_length] at HALL ⊢
  have HW := Lib.hid hw
  have HP := Lib.hid h
  have HSS := Lib.hid hS
  have HSB := Lib.hid hB
  clear hw h hS hB hf
  by_cases hL : L = []
  · subst hL
    have e1 : apE x [] = 0 := rfl
    have e2 : apX x [] = x := rfl
    rw [e1, e2]
    go_enter Try.func22, Try.ntmps22
    go_wp2_with fail
    refine HRD.out.mono ?_
    rintro e w1 ⟨rfl, hb1⟩
    have HB1 := Lib.hid hb1
    clear hb1
    simp only [brk]
    go_wp2_with fail
    refine (HALL.out w1 HB1.out).mono ?_
    rintro e w2 ⟨rfl, hb2⟩
    have HB2 := Lib.hid (HB1.out.trans (hb2.mono HB1.out.size))
    clear hb2
    go_wp2
    go_ret
    exact ⟨rfl, Chg.none HP.out HW.out HB2.out⟩
  · have hLn : 0 < L.length := List.length_pos_iff.2 hL
    have q0 : ((L.length : Int) == 0) = false := by simp; omega
    have q0' : (L.length == 0) = false := by simp; omega
    have HEE : Hid (apE x L = x.E (x.fit (rcsB L).length)) := Lib.hid (if_neg hL)
    have HXX : Hid (apX x L = x.app false (rcsB L)) := Lib.hid (if_neg hL)
    obtain ⟨E, hE⟩ : ∃ E, E = apE x L := ⟨_, rfl⟩
    have HE := Lib.hid hE
    rw [← hE] at HEE ⊢
    obtain ⟨X, hX⟩ : ∃ X, X = apX x L := ⟨_, rfl⟩
    rw [← hX] at HXX ⊢
    obtain ⟨R, hR⟩ : ∃ R, R = rcsB L := ⟨_, rfl⟩
    rw [← hR] at HALL HEE HXX ok hr ⊢
    have hRs : (⟨R.toArray⟩ : ByteArray).size = R.length := ba_size R
    have OK := Lib.hid ok.ok
    obtain ⟨n, hn⟩ : ∃ n, n = L.length := ⟨_, rfl⟩
    rw [← hn] at q0 q0' hl hLn HALL ⊢
    have HNM : Hid (nmOf false = ⟨#[119, 97, 108]⟩) := Lib.hid rfl
    clear hE hX hR hL ok hn
    go_enter Try.func22, Try.ntmps22
    go_wp2_with fail
    refine HRD.out.mono ?_
    rintro e w1 ⟨rfl, hb1⟩
    have HB1 := Lib.hid hb1
    clear hb1
    simp only [brk]
    go_wp2_with fail
    refine (HALL.out w1 HB1.out).mono ?_
    rintro e w2 ⟨rfl, hb2⟩
    have HB2 := Lib.hid (HB1.out.trans (hb2.mono HB1.out.size))
    clear hb2
    have c0 : w2.cell? ⟨B, 0, none⟩ = some (ptr b) := (HW.out.below HB2.out).cell 0 _ rfl
    go_wp2_with fail
    refine (wri_wk b _ _ w2).mono ?_
    rintro e w3 ⟨rfl, d0, d1, d2, ds, hb3⟩
    have HB3 := Lib.hid (HB2.out.trans (hb3.mono HB2.out.size))
    have D0 := Lib.hid d0
    have D1 := Lib.hid d1
    have D2 := Lib.hid d2
    clear d0 d1 d2 ds hb3 c0
    go_wp2_with fail
    have HB4 : Hid (Below w.heap.size w (w3.alloc (.cells #[.func (.func 68) #[] #[ptr w2.heap.size, ptr (w2.heap.size + 1), ptr (w2.heap.size + 2)]] 44))) := Lib.hid (HB3.out.alloc HB3.out.size _)
    have hcells : ∀ {p : Addr} {u : Value}, w3.cell? p = some u → (w3.alloc (.cells #[.func (.func 68) #[] #[ptr w2.heap.size, ptr (w2.heap.size + 1), ptr (w2.heap.size + 2)]] 44)).cell? p = some u := fun hp => (((Below.refl _ w3).alloc (Nat.le_refl _) _).cell (w3.block_lt_of_cell? _ hp)).trans hp
    have hcall := wri_any (HP.out.below HB4.out) OK.out false ⟨R.toArray⟩ (by rw [hRs]; omega) (hcells D0.out) (by rw [HNM.out]; exact hcells D1.out) (hcells D2.out)
    rw [hRs] at hcall
    have hturn := turn1 ⟨68, #[], #[ptr w2.heap.size, ptr (w2.heap.size + 1), ptr (w2.heap.size + 2)]⟩ _ _ w3.heap.size _ (by simp) ent68 hcall
    have hchg := change_any (B := B) (b := b) (c := c) (f := f) (z := z) _ _ hturn (fun w5 hl => by
      exact (HW.out.below HB4.out).tr hl.2 HSB.out)
    rw [← HEE.out] at hchg
    refine hchg.mono ?_
    rintro e w6 ⟨rfl, w5, hl5, rfl⟩
    have hl5 : Lft S b X.dk w w5 := by rw [HXX.out]; exact hl5.behind HB4.out
    have HL5 := Lib.hid hl5
    have HW5 := Lib.hid (HW.out.tr hl5.2 HSB.out)
    have HT5 := Lib.hid (hl5.2.mono (S' := fun k => S k ∨ k = B) fun _ => .inl)
    clear hcall hturn hchg hl5 D0 D1 D2 hcells
    have hfin : ∀ w' : World, Tr (fun k => k = B) w5 w' → PD (andNew S w.heap.size) b X.dk w' := fun w' ht => HL5.out.1.tr ht (fun k _ hk e => by
      have e : k = B := e
      subst e
      rcases hk with hk | hk
      · exact HSB.out hk
      · have := HW.out.lt; omega)
    have HFIN := Lib.hid hfin
    clear hfin
    by_cases h0 : E = 0
    · subst h0
      have c1 := HW5.out.cell 1 _ rfl
      have c3 := HW5.out.cell 3 _ rfl
      have f1 := HW5.out.fz 1
      have f3 := HW5.out.fz 3
      simp only [brkE]
      go_wp2
      go_ret
      have ht := ((Tr.refl (fun k => k = B) w5).setCell (b := B) (i := 1) (.inl rfl) (.int .i64 ((c : Int) + (n : Int)))).setCell (b := B) (i := 3) (.inl rfl) (.int .i64 ((z : Int) + (R.length : Int)))
      refine ⟨rfl, HFIN.out _ ht, ?_, HT5.out.then (ht.mono fun _ => .inr)⟩
      have := (HW5.out.set1 (c + n)).set3 (z + R.length)
      exact this
    · have q1 : (E == 0) = false := by simpa using h0
      have q2 : (E != 0) = true := by simpa using h0
      cases hbk : brkE E with
      | false =>
        go_wp2
        go_ret
        refine ⟨rfl, HL5.out.1, ?_, HT5.out⟩
        unfold dvE addN
        rw [hbk, if_neg h0, if_neg h0]
        exact HW5.out
      | true =>
        go_wp2
        go_ret
        have ht := (Tr.refl (fun k => k = B) w5).setCell (b := B) (i := 0) (.inl rfl) nop
        refine ⟨rfl, HFIN.out _ ht, ?_, HT5.out.then (ht.mono fun _ => .inr)⟩
        unfold dvE addN
        rw [hbk, if_neg h0, if_neg h0]
        exact HW5.out.set0 _
end
end Go.Proofs.Ytpiiknbjllgaoaa
