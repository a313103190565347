/-
  The look at the chapter's examples, which each law of the log takes first: it answers true; no older memory is changed.
-/
import Derived.Test.YtpiiknbjllgaoaaWLaw
namespace Go.Proofs.Ytpiiknbjllgaoaa
open Go.RowKit
def okB (x : Ld) (n m : Nat) : Bool := Nat.ble (x.steps + n) 1000000000 && (Nat.ble x.left mostL && (Nat.ble (x.used + m) 900000000 && Nat.ble x.room 1000000000))
theorem okn_of {x : Ld} {n m : Nat} (h : okB x n m = true) : x.Okn n m := by
  unfold okB at h
  simp only [Bool.and_eq_true] at h
  exact ⟨Nat.le_of_ble_eq_true h.1, Nat.le_of_ble_eq_true h.2.1, Nat.le_of_ble_eq_true h.2.2.1, Nat.le_of_ble_eq_true h.2.2.2⟩
theorem crD_nil (f : Fl) : crD f [] = f.data.take f.dur := by
  have h : keepN f [] = 0 := by unfold keepN idx; simp
  unfold crD
  rw [h]
  simp
def A1 : List Bs := [[97], [98]]
def A2 : List Bs := [[99]]
def A3 : List Bs := [[122]]
def X0 : Ld := ⟨none, none, 1000, 0, 0, false, false⟩
def X1 : Ld := ⟨some (rcsB A1, 0), none, 1000, 1, 0, false, false⟩
def X2 : Ld := ⟨some (rcsB A1, (rcsB A1).length), none, 1000, 2, 0, false, false⟩
def X3 : Ld := ⟨some (rcsB A1 ++ rcsB A2, (rcsB A1).length), none, 1000, 3, 0, false, false⟩
def X4 : Ld := ⟨some (rcsB A1, (rcsB A1).length), none, 1000, 3, 0, false, false⟩
def X5 : Ld := ⟨some (rcsB A1, (rcsB A1).length), none, 1000, 4, 0, false, false⟩
def X6 : Ld := ⟨some (rcsB A3, (rcsB A3).length), none, 1000, 7, 0, false, false⟩
theorem fit1 : Fit A1 := by intro s hs; simp [A1] at hs; rcases hs with rfl | rfl <;> decide
theorem fit2 : Fit A2 := by intro s hs; simp [A2] at hs; subst hs; decide
theorem fit3 : Fit A3 := by intro s hs; simp [A3] at hs; subst hs; decide
theorem x1 : apX X0 A1 = X1 := by kernel_rfl
theorem x1e : apE X0 A1 = 0 := by kernel_rfl
theorem x2 : syX X1 2 0 = X2 := by kernel_rfl
theorem x2e : syE X1 2 0 = 0 := by kernel_rfl
theorem x3 : apX X2 A2 = X3 := by kernel_rfl
theorem x3e : apE X2 A2 = 0 := by kernel_rfl
theorem x4 : X3.crash [] [] = X4 := by
  have h : crO X3.lo [] = X4.lo := by
    show some (crD ⟨walN, rcsB A1 ++ rcsB A2, (rcsB A1).length⟩ [], (crD ⟨walN, rcsB A1 ++ rcsB A2, (rcsB A1).length⟩ []).length) = _
    rw [crD_nil]
    simp only [List.take_left']
    rfl
  unfold Ld.crash
  rw [h]
  rfl
theorem x4r : X4.recs = A1 := recs_rcs A1 fit1
theorem x4g : X4.good = (rcsB A1).length := by unfold Ld.good; rw [x4r]
theorem cu_same (x : Ld) {n : Nat} (h : n = (x.byt false).length) : x.cu n = x ∧ x.cuE n = 0 := ⟨if_pos h, if_pos h⟩
theorem x5 : X4.opX = X5 ∧ X4.opE = 0 := by
  have h : X4.dis.cu X4.good = X4 ∧ X4.dis.cuE X4.good = 0 := cu_same X4 x4g
  have h2 : opK X4 2 = 0 := h.2
  have h3 : opK X4 3 = 0 := by show (X4.dis.cu X4.good).E ((X4.dis.cu X4.good).has false) = 0; rw [h.1]; rfl
  have h4 : opS X4 4 = X5 := by show (X4.dis.cu X4.good).syn false = X5; rw [h.1]; rfl
  have h0 : opK X4 0 = 0 := rfl
  have hd := op_done X4 (fun j hj => by
    match j, hj with
    | 0, _ => exact h0
    | 1, _ => rfl
    | 2, _ => exact h2
    | 3, _ => exact h3)
  have e1 : X4.opX = opX4 X4 := if_pos rfl
  have e2 : X4.opE = opE4 X4 := if_pos rfl
  rw [e1, e2]
  exact ⟨hd.2.trans h4, hd.1⟩
theorem x6 : rwX X5 (rcsB A3) = X6 := by kernel_rfl
theorem x6e : rwE X5 (rcsB A3) = 0 := by kernel_rfl
theorem x6r : X6.recs = A3 := recs_rcs A3 fit3
theorem x7e : X6.opE = 0 := by
  have g : X6.good = (rcsB A3).length := by unfold Ld.good; rw [x6r]
  have h : X6.dis.cu X6.good = X6 ∧ X6.dis.cuE X6.good = 0 := cu_same X6 g
  have h2 : opK X6 2 = 0 := h.2
  have h3 : opK X6 3 = 0 := by show (X6.dis.cu X6.good).E ((X6.dis.cu X6.good).has false) = 0; rw [h.1]; rfl
  have h0 : opK X6 0 = 0 := rfl
  have e2 : X6.opE = opE4 X6 := if_pos rfl
  rw [e2]
  exact (op_done X6 (fun j hj => by
    match j, hj with
    | 0, _ => exact h0
    | 1, _ => rfl
    | 2, _ => exact h2
    | 3, _ => exact h3)).1
theorem rdb_two (w : World) (s t : Bs) : RdB (w.alloc (.cells #[str s, str t] 9)) (.slice (some ⟨w.heap.size, 0, none⟩) 2 2) [s, t] := by
  refine ⟨_, 2, rfl, Nat.le_refl _, by decide, .inr ⟨w.heap.size, 0, rfl, fun i x hx => ?_⟩⟩
  rcases i with _ | _ | i
  · have e : x = ⟨s.toArray⟩ := by simpa [ab] using hx.symm
    rw [e]; simp
  · have e : x = ⟨t.toArray⟩ := by simpa [ab] using hx.symm
    rw [e]; simp
  · simp [ab] at hx
theorem rec_a : ∃ t : ByteArray, str (allB [[97]]) = .string t ∧ t.size = 9 ∧ (∀ h : 3 < t.size, (t[3]'h).toNat = 1) ∧ ∀ h : 8 < t.size, (t[8]'h).toNat = 97 :=
  ⟨_, rfl, by kernel_rfl, fun _ => by kernel_rfl, fun _ => by kernel_rfl⟩
set_option maxRecDepth 100000 in
set_option maxHeartbeats 25600000 in
theorem awake_any (w : World) : Calls Try.prog 9 #[] w fun e w' => e = .returned (.bool true) ∧ Below w.heap.size w w' := by
  obtain ⟨t, ht, hts, ht3, ht8⟩ := rec_a
  have HR := Lib.hid (record_any [97] (by decide) w)
  rw [ht, show allE [[97]] = 0 from rfl] at HR
  clear ht
  go_enter Try.func9, Try.ntmps9
  go_wp2_with fail
  refine HR.out.mono ?_
  rintro e w1 ⟨rfl, hb1⟩
  have HB1 := Lib.hid hb1
  clear hb1 HR
  go_wp2_with fail
  refine (new_any 1000 (by decide) w1).mono ?_
  rintro e w2 ⟨rfl, hp2, hb2⟩
  obtain ⟨S2, hn2, _⟩ := NA.new hp2 hb2 HB1.out HB1.out.size
  have hn2 : NA w.heap.size S2 w w1.heap.size X0.dk w2 := hn2
  have hopen := open_log hn2.p (fun k hk => (hn2.hS k hk).2) (okn_of (by kernel_rfl)) rfl
  have HN2 := Lib.hid hn2
  have HO := Lib.hid hopen
  obtain ⟨b, hb⟩ : ∃ b, b = w1.heap.size := ⟨_, rfl⟩
  rw [← hb] at HN2 HO ⊢
  clear hp2 hb2 hn2 hopen hb
  go_wp2_with fail
  refine HO.out.mono ?_
  rintro e w3 ⟨p, v, S3, rfl, hok⟩
  obtain ⟨B, rfl, _, hls, hlst⟩ := HN2.out.opened hok rfl
  have hls : LS w.heap.size S3 w b X0 B (ptr b) 0 0 0 w3 := hls
  have HE3 : Hid (X0.opE = 0) := Lib.hid rfl
  rw [HE3.out]
  obtain ⟨a, cap, rfl, _⟩ := hlst.rd
  have hl0 : (ab X0.recs).length = 0 := rfl
  rw [hl0]
  have HL3 := Lib.hid hls
  clear hok hls hlst hl0 HO HN2
  go_wp2_with fail
  have hb4 : Below w3.heap.size w3 (w3.alloc (.cells #[str [97], str [98]] 9)) := (Below.refl _ _).alloc (Nat.le_refl _) _
  have L4 := HL3.out.mv hb4
  have hcall := append_log (L := A1) L4.na.p L4.lt L4.wb L4.nb (okn_of (by kernel_rfl)) (rdb_two w3 [97] [98]) fit1 (by decide) (Nat.le_of_ble_eq_true (by kernel_rfl)) (by decide) (by decide)
  rw [x1e, x1] at hcall
  have HC := Lib.hid hcall
  have HL4 := Lib.hid L4
  clear hcall L4 hb4
  refine HC.out.mono ?_
  rintro e w5 ⟨rfl, hc⟩
  obtain ⟨S5, h5, _⟩ := HL4.out.chg hc
  have h5 : LS w.heap.size S5 w b X1 B (ptr b) 2 0 (rcsB A1).length w5 := h5
  have hcall := sync_log h5.na.p h5.lt h5.wb h5.nb (okn_of (by kernel_rfl)) (by decide)
  rw [x2e, x2] at hcall
  have HC5 := Lib.hid hcall
  have HL5 := Lib.hid h5
  clear hcall h5 hc HC HL3 HL4
  go_wp2_with fail
  refine HC5.out.mono ?_
  rintro e w6 ⟨rfl, hc⟩
  obtain ⟨S6, h6, _⟩ := HL5.out.chg hc
  have h6 : LS w.heap.size S6 w b X2 B (ptr b) 2 2 (rcsB A1).length w6 := h6
  have HL6 := Lib.hid h6
  clear h6 hc HL5 HC5
  go_wp2_with fail
  have hb7 : Below w6.heap.size w6 (w6.alloc (.cells #[str [99]] 9)) := (Below.refl _ _).alloc (Nat.le_refl _) _
  have L7 := HL6.out.mv hb7
  have hcall := append_log (L := A2) L7.na.p L7.lt L7.wb L7.nb (okn_of (by kernel_rfl)) (rdb_one w6 [99]) fit2 (by decide) (Nat.le_of_ble_eq_true (by kernel_rfl)) (by decide) (Nat.le_of_ble_eq_true (by kernel_rfl))
  rw [x3e, x3] at hcall
  have HC7 := Lib.hid hcall
  have HL7 := Lib.hid L7
  clear hcall L7 hb7 HL6
  refine HC7.out.mono ?_
  rintro e w8 ⟨rfl, hc⟩
  obtain ⟨S8, h8, _⟩ := HL7.out.chg hc
  have HN8 := Lib.hid h8.na
  clear hc h8 HC7 HL7
  go_wp2_with fail
  have hcr := HN8.out.crash (U := fun _ => False) (ps := []) (v := .slice none 0 0) (Nat.le_of_ble_eq_true (by kernel_rfl)) ⟨fun p hp => by simp at hp, by decide, none, 0, rfl, Nat.le_refl _, Nat.zero_le _, .inl rfl⟩ (fun _ h => h.elim)
  refine hcr.mono ?_
  rintro e w9 ⟨⟨u, rfl⟩, S9, p, q, h9, _, hpq⟩
  obtain ⟨rfl, rfl⟩ := hpq rfl
  rw [x4] at h9
  have HN9 := Lib.hid h9
  have HO9 := Lib.hid (open_log h9.p (fun k hk => (h9.hS k hk).2) (okn_of (by kernel_rfl)) rfl)
  clear hcr h9 HN8
  go_wp2_with fail
  refine HO9.out.mono ?_
  rintro e w10 ⟨p, v, S10, rfl, hok⟩
  obtain ⟨C, rfl, _, hls, hlst⟩ := HN9.out.opened hok x5.2
  rw [x5.1, x4r, x4g] at hls
  rw [x4r] at hlst
  have hls : LS w.heap.size S10 w b X5 C (ptr b) 2 2 (rcsB A1).length w10 := hls
  have HE10 : Hid (X4.opE = 0) := Lib.hid x5.2
  rw [HE10.out]
  obtain ⟨a2, cap2, rfl, _⟩ := hlst.rd
  have hl0 : (ab A1).length = 2 := rfl
  rw [hl0] at hlst ⊢
  have HL10 := Lib.hid hls
  have HM10 := Lib.hid hlst
  clear hok hls hlst hl0 HO9 HN9
  go_wp2_with fail
  have hb11 : Below w10.heap.size w10 (w10.alloc (.cells #[str [122]] 9)) := (Below.refl _ _).alloc (Nat.le_refl _) _
  have L11 := HL10.out.mv hb11
  have hcall := rewrite_log (L := A3) L11.na.p L11.lt L11.wb L11.nb (okn_of (by kernel_rfl)) (rdb_one w10 [122]) fit3 (by decide) (Nat.le_of_ble_eq_true (by kernel_rfl))
  rw [x6e, x6] at hcall
  have HC11 := Lib.hid hcall
  have HL11 := Lib.hid L11
  have HM11 := Lib.hid (HM10.out.below hb11)
  clear hcall L11 hb11 HL10 HM10
  refine HC11.out.mono ?_
  rintro e w12 ⟨rfl, hc⟩
  obtain ⟨S12, h12, hk12⟩ := HL11.out.chg hc
  have HM12 := Lib.hid ((HM11.out.keeps hk12).sub (T1 := S12) fun _ => .inl)
  have HN12 := Lib.hid h12.na
  have HO12 := Lib.hid (open_log h12.na.p (fun k hk => (h12.na.hS k hk).2) (okn_of (by kernel_rfl)) rfl)
  clear hc h12 hk12 HC11 HL11 HM11
  go_wp2_with fail
  refine HO12.out.mono ?_
  rintro e w13 ⟨p, v, S13, rfl, hok⟩
  obtain ⟨C2, rfl, _, hls, hlst⟩ := HN12.out.opened hok x7e
  rw [x6r] at hlst
  have HE13 : Hid (X6.opE = 0) := Lib.hid x7e
  rw [HE13.out]
  have HM13 := HM12.out.keeps (HN12.out.open_ hok).2
  obtain ⟨a3, cap3, rfl, _, _, hc3⟩ := hlst.rd
  have hl0 : (ab A3).length = 1 := rfl
  rw [hl0]
  obtain ⟨_, _, e4, _, _, hc4⟩ := HM13.rd
  rcases hc3 with h | ⟨g3, k3, rfl, hc3⟩
  · cases h
  rcases hc4 with h | ⟨g4, k4, rfl, hc4⟩
  · cases h
  cases e4
  have c3 := hc3 0 ⟨#[122]⟩ rfl
  rw [Nat.add_zero] at c3
  have c4 := hc4 1 ⟨#[98]⟩ rfl
  have HB13 := Lib.hid hls.na.bel
  clear hok hls hlst hl0 HO12 HN12 HM12 HM13 hc3 hc4
  go_wp2
  go_ret
  exact ⟨rfl, HB13.out⟩
end Go.Proofs.Ytpiiknbjllgaoaa
