/-
  The first place where two lists of numbers differ.
-/
import Derived.Test.YtopnmiakljpgbaaNums
namespace Go.Proofs.Ytopnmiakljpgbaa
open Go.RowKit
def eqI (x y : Int) : Bool := decide (x = y)
set_option maxRecDepth 100000 in
set_option maxHeartbeats 3200000 in
theorem difI_any {w : World} {v u : Value} {A B : List Int} (hv : RdN w v A) (hu : RdN w u B) (hl : A.length ≤ 1000000) (hm : B.length ≤ 1000000) :
    Calls Try.prog 67 #[v, u, .func (.func 68) #[] #[]] w fun e w' => e = .returned (it (dif eqI A B : Nat)) ∧ Below w.heap.size w w' := by
  obtain ⟨va, vc, rfl, _⟩ := hv.shape
  obtain ⟨ua, uc, rfl, _⟩ := hu.shape
  have HV := Lib.hid hv
  have HU := Lib.hid hu
  obtain ⟨R, hR⟩ : ∃ R, R = dif eqI A B := ⟨_, rfl⟩
  have HR := Lib.hid hR
  rw [← hR]
  obtain ⟨n, hn⟩ : ∃ n, n = A.length := ⟨_, rfl⟩
  obtain ⟨m, hm'⟩ : ∃ m, m = B.length := ⟨_, rfl⟩
  have HN := Lib.hid hn
  have HM := Lib.hid hm'
  rw [← hn] at HV hl ⊢
  rw [← hm'] at HU hm ⊢
  clear hv hu hR hn hm'
  obtain ⟨z, hz⟩ : ∃ z : Nat, z = min n m := ⟨_, rfl⟩
  have HZ := Lib.hid hz
  have hz1 : z ≤ 1000000 := by omega
  clear hz
  go_enter Try.func67, Try.ntmps67
  go_upto_region 1 with fail
  go_cut [7] from 9 to 13 (fun c wx => c = it (z : Int) ∧ w = wx)
  case first =>
    have hz := HZ.out
    go_wp2
    all_goals
      go_meet
      exact ⟨congrArg it (by omega), rfl⟩
  case rest =>
    obtain ⟨rfl, rfl⟩ := hcut
    skip
    go_wp2
    go_loopw [8, 15] (fun _ i wr => ∃ k : Nat, k ≤ z ∧ i = it (k : Int) ∧ (∀ (i : Nat) a b, i < k → A[i]? = some a → B[i]? = some b → eqI a b = true) ∧ Below w.heap.size w wr) (fun _ i _ => z - (intOf i).toNat)
    case atStart => exact ⟨0, by omega, rfl, (fun i a b hi => absurd hi (Nat.not_lt_zero _)), Below.refl _ _⟩
    case round =>
      obtain ⟨k, hk, rfl, hP, hbr⟩ := hrel
      have HP := Lib.hid hP
      have HB := Lib.hid hbr
      by_cases hlt : k < z
      · have q : (k : Int) < (z : Int) := by omega
        obtain ⟨x, hx⟩ : ∃ x, A[k]? = some x := ⟨_, List.getElem?_eq_getElem (by have := HN.out; have := HZ.out; omega)⟩
        obtain ⟨y, hy⟩ : ∃ y, B[k]? = some y := ⟨_, List.getElem?_eq_getElem (by have := HM.out; have := HZ.out; omega)⟩
        obtain ⟨e1, g, o, rfl, hg, c0⟩ := HV.out.at hx
        obtain ⟨e2, g', o', rfl, hg', d0⟩ := HU.out.at hy
        clear e1 e2
        have k0 := (hbr.drew.cell (p := ⟨g, o + k, none⟩) hg).trans c0
        have k1 := (hbr.drew.cell (p := ⟨g', o' + k, none⟩) hg').trans d0
        have HX := Lib.hid hx
        have HY := Lib.hid hy
        obtain ⟨t, ht⟩ : ∃ t, t = eqI x y := ⟨_, rfl⟩
        have HT := Lib.hid ht
        have HC := Lib.hid (fun w' => eqI_any x y w')
        have e3 : decide (x = y) = t := ht.symm
        rw [e3] at HC
        have H0 : Hid (Below w.heap.size w wr.drew) := Lib.hid hbr.drew
        have q1 : k < n := by have := HZ.out; omega
        have q2 : k < m := by have := HZ.out; omega
        have q1' : (k : Int) < (n : Int) := by omega
        have q2' : (k : Int) < (m : Int) := by omega
        have q0 : (0 : Int) ≤ (k : Int) := by omega
        clear hP hbr hx hy c0 d0 ht e3
        go_upto_region 5 with fail
        go_region_held3 (fun w' => w'.cell? ⟨g, o + k, none⟩ = some (it x) ∧ w'.cell? ⟨g', o' + k, none⟩ = some (it y))
          (first | with_reducible exact ⟨k0, k1⟩ | fail)
          (first | (go_at_call 68; refine (HC.out _).mono ?_; rintro e w2 ⟨rfl, rfl⟩) | fail)
        all_goals
          cases t with
          | true =>
            have hrel : ∀ (i : Nat) (a b : Int), i < k + 1 → A[i]? = some a → B[i]? = some b → eqI a b = true := by
              intro i a b hi ha hb
              by_cases e : i = k
              · subst e
                have e1 : x = a := by have := HX.out; rw [ha] at this; exact (Option.some.inj this).symm
                have e2 : y = b := by have := HY.out; rw [hb] at this; exact (Option.some.inj this).symm
                rw [← e1, ← e2, ← HT.out]
              · exact HP.out i a b (by omega) ha hb
            have HREL := Lib.hid hrel
            clear hrel
            go_wp2
            go_roundw
            case rel => exact ⟨k + 1, by omega, by go_num, HREL.out, H0.out⟩
            case measure => simp [intOf]; omega
          | false =>
            have HR2 : Hid (R = k) := Lib.hid (by rw [HR.out]; exact dif_step _ A B k x y HX.out HY.out HP.out HT.out.symm)
            go_wp2
            go_ret
            exact ⟨by rw [HR2.out]; rfl, H0.out⟩
      · have q : decide ((k : Int) < (z : Int)) = false := by simp; omega
        have hz : k = z := by omega
        have HR2 : Hid (R = z) := Lib.hid (by rw [HR.out, dif_end _ _ _ (fun i a b ha hb => HP.out i a b (by have h1 := (List.getElem?_eq_some_iff.1 ha).1; have h2 := (List.getElem?_eq_some_iff.1 hb).1; have := HN.out; have := HM.out; have := HZ.out; omega) ha hb), ← HN.out, ← HM.out, ← HZ.out])
        clear hP hbr
        go_wp2
        go_ret
        exact ⟨by rw [HR2.out]; rfl, HB.out⟩
end Go.Proofs.Ytopnmiakljpgbaa
