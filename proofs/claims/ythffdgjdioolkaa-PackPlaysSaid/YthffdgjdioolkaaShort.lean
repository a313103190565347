/-
  The walk of the law PackShort: for every list of texts it returns true; no older memory is changed.
-/
import Derived.Test.YthffdgjdioolkaaTwo
import Derived.Test.YthffdgjdioolkaaArgs
namespace Go.Proofs.Ythffdgjdioolkaa
open Go.RowKit
/-- What the loop knows behind so many names. -/
def ShI (w : World) (bp bq k : Nat) (wr : World) : Prop := ∃ (Bp Bq : Bs) (Lp Lq : Kn), Two w.heap.size bp bq Bp Lp Bq Lq wr ∧ OkK Lp ∧ OkK Lq ∧ Lp.length ≤ Bp.length ∧ Lq.length ≤ Bq.length ∧ Bp.length ≤ 257 * k ∧ Bq.length ≤ 510 * k ∧ Bp.length ≤ Bq.length ∧ Below w.heap.size w wr
theorem shI_one {w : World} {bp bq k : Nat} {w' : World} {Bp Bq : Bs} {Lp Lq : Kn} (h2 : Two w.heap.size bp bq Bp Lp Bq Lq w') (hB : Below w.heap.size w w') (h3 : OkK Lp) (h4 : OkK Lq) (h5 : Lp.length ≤ Bp.length) (h6 : Lq.length ≤ Bq.length) (h7 : Bp.length ≤ 257 * (k + 1)) (h8 : Bq.length ≤ 510 * (k + 1)) (h9 : Bp.length ≤ Bq.length) : ShI w bp bq (k + 1) w' :=
  ⟨Bp, Bq, Lp, Lq, h2, h3, h4, h5, h6, h7, h8, h9, hB⟩
theorem pkB_no {pts : Bool} {B : Bs} {L : Kn} {n : Bs} (g : ¬ chk n = 0) : pkB pts B L n = B := by unfold pkB; rw [if_neg g]
theorem pkL_no {pts : Bool} {B : Bs} {L : Kn} {n : Bs} (g : ¬ chk n = 0) : pkL pts B L n = L := by unfold pkL; rw [if_neg g]
/-- What the lengths come to. -/
theorem short_lens {Bp Bq : Bs} {Lp Lq : Kn} {n : Bs} {k : Nat} (g : chk n = 0) (hk : k < 40) (hLp : Lp.length ≤ Bp.length) (hLq : Lq.length ≤ Bq.length) (hBp : Bp.length ≤ 257 * k) (hBq : Bq.length ≤ 510 * k) (hle : Bp.length ≤ Bq.length) :
    (pkL true Bp Lp n).length ≤ (pkB true Bp Lp n).length ∧ (pkB true Bp Lp n).length ≤ Bp.length + n.length ∧ (pkB true Bp Lp n).length ≤ 11000 ∧
    (pkB true (pkB true Bp Lp n) (pkL true Bp Lp n) n).length = (pkB true Bp Lp n).length + (if 1 < n.length then 2 else 1) ∧
    (pkL true (pkB true Bp Lp n) (pkL true Bp Lp n) n).length ≤ (pkB true (pkB true Bp Lp n) (pkL true Bp Lp n) n).length ∧
    (pkB true (pkB true Bp Lp n) (pkL true Bp Lp n) n).length ≤ 257 * (k + 1) ∧
    (pkL false Bq Lq n).length ≤ (pkB false Bq Lq n).length ∧ (pkB false Bq Lq n).length ≤ 30000 ∧
    (pkL false (pkB false Bq Lq n) (pkL false Bq Lq n) n).length ≤ (pkB false (pkB false Bq Lq n) (pkL false Bq Lq n) n).length ∧
    (pkB false (pkB false Bq Lq n) (pkL false Bq Lq n) n).length ≤ 510 * (k + 1) ∧
    (pkB true (pkB true Bp Lp n) (pkL true Bp Lp n) n).length ≤ (pkB false (pkB false Bq Lq n) (pkL false Bq Lq n) n).length := by
  obtain ⟨a1, a2, a3⟩ := pk_len (pts := true) (B := Bp) (L := Lp) g
  obtain ⟨b1, b2⟩ := pk_again (B := Bp) (L := Lp) g (by omega)
  obtain ⟨c1, c2, c3⟩ := pk_len (pts := false) (B := Bq) (L := Lq) g
  obtain ⟨d1, d2, d3⟩ := pk_len (pts := false) (B := pkB false Bq Lq n) (L := pkL false Bq Lq n) g
  have e1 := pk_false (B := Bq) (L := Lq) g
  have e2 := pk_false (B := pkB false Bq Lq n) (L := pkL false Bq Lq n) g
  obtain ⟨f1, f2, f3⟩ := name_one g
  rw [b2]
  have h5 : (if 1 < n.length then 2 else 1) ≤ 2 ∧ (n.length = 1 → (if 1 < n.length then 2 else 1) = 1) := by
    split <;> constructor <;> intros <;> omega
  generalize (if 1 < n.length then 2 else 1) = z at b1 h5 ⊢
  obtain ⟨h6, h7⟩ := h5
  rcases f3 with f3 | f3
  · have := h7 f3
    refine ⟨by omega, by omega, by omega, b1, by omega, by omega, by omega, by omega, by omega, by omega, by omega⟩
  · refine ⟨by omega, by omega, by omega, b1, by omega, by omega, by omega, by omega, by omega, by omega, by omega⟩
set_option maxRecDepth 100000 in
set_option maxHeartbeats 16000000 in
theorem lawShort_some (b off n cap : Nat) (ss : Nat → ByteArray) (w : World) (hb : b < w.heap.size) (hc : ∀ k, k < n → w.cell? ⟨b, off + k, none⟩ = some (.string (ss k))) :
    Calls Try.prog 7 #[.slice (some ⟨b, off, none⟩) n cap] w fun e w' => e = .returned (.bool true) ∧ Below w.heap.size w w' := by
  have HC := Lib.hid hc
  clear hc
  go_enter Try.func7, Try.ntmps7
  go_wp2_with fail
  refine (awake_any _).mono ?_
  rintro e w1 ⟨rfl, h1⟩
  go_wp2_with fail
  refine (new_any w1).mono ?_
  rintro e w2 ⟨rfl, hp2, hb2⟩
  go_wp2_with fail
  refine (new_any w2).mono ?_
  rintro e w3 ⟨rfl, hp3, hb3⟩
  have hT := two_new hp2 hb2 hp3 hb3 h1.size
  have hB := (h1.trans (hb2.mono h1.size)).trans (hb3.mono (Nat.le_trans h1.size hb2.size))
  obtain ⟨bp, hbp⟩ : ∃ bp, bp = w1.heap.size := ⟨_, rfl⟩
  obtain ⟨bq, hbq⟩ : ∃ bq, bq = w2.heap.size := ⟨_, rfl⟩
  rw [← hbp, ← hbq] at hT
  rw [show ptr w1.heap.size = ptr bp by rw [hbp], show ptr w2.heap.size = ptr bq by rw [hbq]]
  have HI : Hid (ShI w bp bq 0 w3) := Lib.hid ⟨[], [], [], [], hT, okK_nil, okK_nil, by simp, by simp, by simp, by simp, by simp, hB⟩
  clear hT hB h1 hp2 hb2 hp3 hb3 hbp hbq
  go_wp2
  go_loopw [6] (fun i wr => ∃ k : Nat, k ≤ n ∧ k ≤ 40 ∧ i = .int .i64 k ∧ ShI w bp bq k wr) (fun i _ => 40 - (intOf i).toNat)
  case atStart => exact ⟨0, by omega, by omega, rfl, HI.out⟩
  case round =>
    clear HI
    obtain ⟨k, hk, hk2, rfl, Bp, Bq, Lp, Lq, hT, hOp, hOq, hLp, hLq, hBp, hBq, hle, hB⟩ := hrel
    have HB := Lib.hid hB
    have hsz := hB.size
    obtain ⟨S, Q, hP⟩ := hT
    have HP := Lib.hid hP
    by_cases hlt : k < n
    · have q1 : (k : Int) < (n : Int) := by omega
      by_cases hlt2 : k < 40
      · have q2 : (k : Int) < 40 := by omega
        have hcell : wr.cell? ⟨b, off + k, none⟩ = some (.string (ss k)) := (hB.cell (p := ⟨b, off + k, none⟩) hb).trans (HC.out k hlt)
        obtain ⟨t, ht, hshort⟩ := short_any (ss k) 300
        have SH := Lib.hid hshort
        have HK := Lib.hid (by omega : Bp.length ≤ 10280 ∧ Bq.length ≤ 20400)
        have hts := size_list t
        clear hshort hB hP
        by_cases g : chk t.data.toList = 0
        · have G := Lib.hid g
          have HL := Lib.hid (short_lens g hlt2 hLp hLq hBp hBq hle)
          obtain ⟨n1, n2, n3⟩ := name_one g
          rw [← hts] at n1 n2 n3
          have HTS := Lib.hid hts
          have HLE := Lib.hid (And.intro hLp hLq)
          clear g hLp hLq hBp hBq hle hts n2
          obtain ⟨B1, hB1⟩ : ∃ B1, B1 = pkB true Bp Lp t.data.toList := ⟨_, rfl⟩
          obtain ⟨L1, hL1⟩ : ∃ L1, L1 = pkL true Bp Lp t.data.toList := ⟨_, rfl⟩
          obtain ⟨B2, hB2⟩ : ∃ B2, B2 = pkB true B1 L1 t.data.toList := ⟨_, rfl⟩
          obtain ⟨L2, hL2⟩ : ∃ L2, L2 = pkL true B1 L1 t.data.toList := ⟨_, rfl⟩
          have HO1 : Hid (OkK L1) := Lib.hid (by rw [hL1]; exact pk_ok hOp)
          have HO2 : Hid (OkK L2) := Lib.hid (by rw [hL2]; exact pk_ok HO1.out)
          have HL' := HL.out
          rw [← hB1, ← hL1, ← hB2, ← hL2, ← HTS.out] at HL'
          obtain ⟨m1, m2, m3, m4, m5, m6, m7, m8, m9, m10, m11⟩ := HL'
          have HH := Lib.hid (And.intro m5 (And.intro m6 (And.intro m7 (And.intro m8 (And.intro m9 (And.intro m10 m11))))))
          have HM1 := Lib.hid (And.intro m1 m3)
          have E1 := Lib.hid hB1
          have E2 := Lib.hid hL1
          have E3 := Lib.hid hB2
          have E4 := Lib.hid hL2
          clear m5 m6 m7 m8 m9 m10 m11 hB1 hL1 hB2 hL2 m1
          have x1 : (B1.length : Int) ≤ 11000 := by omega
          have x2 : (Bp.length : Int) ≤ 10280 := by have := HK.out; omega
          have r1 : decide ((t.size : Int) < (B1.length : Int) - (Bp.length : Int)) = false := by simp; omega
          by_cases g1 : t.size = 1
          · rw [if_neg (by omega)] at m4
            have m4' : (B2.length : Int) = (B1.length : Int) + 1 := by omega
            have r2 : decide ((16000 : Int) < (B1.length : Int) + 1) = false := by simp; omega
            have r3 : decide ((1 : Int) < (t.size : Int)) = false := by simp; omega
            have r4 : ((t.size : Int) == 1) = true := by simp; omega
            clear m4 m2 m3 n1 n3 g1
            go_wp2_with fail
            refine (SH.out _).mono ?_
            rintro e w' ⟨rfl, rfl⟩
            go_wp2_with fail
            refine (plen_any _ _ _ _ _ HP.out.p).mono ?_
            rintro e w' ⟨rfl, rfl⟩
            go_wp2_with fail
            refine (pname_any t (by omega) true _ _ _ _ _ HP.out.p (by have := HK.out; omega) (by have := HLE.out; omega) hOp).mono ?_
            rintro e w4 ⟨rfl, hl4⟩
            rw [G.out]
            rw [← E1.out, ← E2.out] at hl4
            obtain ⟨⟨S4, Q4, hP4⟩, hb4⟩ := HP.out.left hsz hl4
            have hs4 := Nat.le_trans hsz hb4.size
            have HP4 := Lib.hid hP4
            have HB4 := Lib.hid (HB.out.trans hb4)
            clear hl4 hP4 hb4
            go_wp2_with fail
            refine (pname_any t (by omega) false _ _ _ _ _ HP4.out.q (by have := HK.out; omega) (by have := HLE.out; omega) hOq).mono ?_
            rintro e w5 ⟨rfl, hl5⟩
            rw [G.out]
            obtain ⟨⟨S5, Q5, hP5⟩, hb5⟩ := HP4.out.right hs4 hl5
            have hs5 := Nat.le_trans hs4 hb5.size
            have HP5 := Lib.hid hP5
            have HB5 := Lib.hid (HB4.out.trans hb5)
            clear hl5 hP5 hb5
            go_wp2_with fail
            refine (plen_any _ _ _ _ _ HP5.out.p).mono ?_
            rintro e w' ⟨rfl, rfl⟩
            go_wp2_with fail
            refine (pname_any t (by omega) true _ _ _ _ _ HP5.out.p (by have := HM1.out; omega) HM1.out.1 HO1.out).mono ?_
            rintro e w6 ⟨rfl, hl6⟩
            rw [G.out]
            rw [← E3.out, ← E4.out] at hl6
            obtain ⟨⟨S6, Q6, hP6⟩, hb6⟩ := HP5.out.left hs5 hl6
            have hs6 := Nat.le_trans hs5 hb6.size
            have HP6 := Lib.hid hP6
            have HB6 := Lib.hid (HB5.out.trans hb6)
            clear hl6 hP6 hb6
            go_wp2_with fail
            refine (plen_any _ _ _ _ _ HP6.out.p).mono ?_
            rintro e w' ⟨rfl, rfl⟩
            go_wp2_with fail
            refine (plen_any _ _ _ _ _ HP6.out.p).mono ?_
            rintro e w' ⟨rfl, rfl⟩
            go_wp2_with fail
            refine (pname_any t (by omega) false _ _ _ _ _ HP6.out.q (by have := HH.out.2.2.2.1; omega) HH.out.2.2.1 (pk_ok hOq)).mono ?_
            rintro e w7 ⟨rfl, hl7⟩
            obtain ⟨⟨S7, Q7, hP7⟩, hb7⟩ := HP6.out.right hs6 hl7
            have HP7 := Lib.hid hP7
            have HB7 := Lib.hid (HB6.out.trans hb7)
            clear hl7 hP7 hb7
            go_wp2
            go_roundw
            case rel => exact ⟨k + 1, by omega, by omega, by go_num, _, _, _, _, ⟨_, _, HP7.out⟩, HO2.out, pk_ok (pk_ok hOq), HH.out.1, HH.out.2.2.2.2.1, HH.out.2.1, HH.out.2.2.2.2.2.1, HH.out.2.2.2.2.2.2, HB7.out⟩
            case measure => simp [intOf]; omega
          · rw [if_pos (by omega)] at m4
            have m4' : (B2.length : Int) = (B1.length : Int) + 2 := by omega
            have r2 : decide ((16000 : Int) < (B1.length : Int) + 2) = false := by simp; omega
            have r3 : decide ((1 : Int) < (t.size : Int)) = true := by simp; omega
            have r4 : ((t.size : Int) == 1) = false := by simp; omega
            clear m4 m2 m3 n1 n3 g1
            go_wp2_with fail
            refine (SH.out _).mono ?_
            rintro e w' ⟨rfl, rfl⟩
            go_wp2_with fail
            refine (plen_any _ _ _ _ _ HP.out.p).mono ?_
            rintro e w' ⟨rfl, rfl⟩
            go_wp2_with fail
            refine (pname_any t (by omega) true _ _ _ _ _ HP.out.p (by have := HK.out; omega) (by have := HLE.out; omega) hOp).mono ?_
            rintro e w4 ⟨rfl, hl4⟩
            rw [G.out]
            rw [← E1.out, ← E2.out] at hl4
            obtain ⟨⟨S4, Q4, hP4⟩, hb4⟩ := HP.out.left hsz hl4
            have hs4 := Nat.le_trans hsz hb4.size
            have HP4 := Lib.hid hP4
            have HB4 := Lib.hid (HB.out.trans hb4)
            clear hl4 hP4 hb4
            go_wp2_with fail
            refine (pname_any t (by omega) false _ _ _ _ _ HP4.out.q (by have := HK.out; omega) (by have := HLE.out; omega) hOq).mono ?_
            rintro e w5 ⟨rfl, hl5⟩
            rw [G.out]
            obtain ⟨⟨S5, Q5, hP5⟩, hb5⟩ := HP4.out.right hs4 hl5
            have hs5 := Nat.le_trans hs4 hb5.size
            have HP5 := Lib.hid hP5
            have HB5 := Lib.hid (HB4.out.trans hb5)
            clear hl5 hP5 hb5
            go_wp2_with fail
            refine (plen_any _ _ _ _ _ HP5.out.p).mono ?_
            rintro e w' ⟨rfl, rfl⟩
            go_wp2_with fail
            refine (pname_any t (by omega) true _ _ _ _ _ HP5.out.p (by have := HM1.out; omega) HM1.out.1 HO1.out).mono ?_
            rintro e w6 ⟨rfl, hl6⟩
            rw [G.out]
            rw [← E3.out, ← E4.out] at hl6
            obtain ⟨⟨S6, Q6, hP6⟩, hb6⟩ := HP5.out.left hs5 hl6
            have hs6 := Nat.le_trans hs5 hb6.size
            have HP6 := Lib.hid hP6
            have HB6 := Lib.hid (HB5.out.trans hb6)
            clear hl6 hP6 hb6
            go_wp2_with fail
            refine (plen_any _ _ _ _ _ HP6.out.p).mono ?_
            rintro e w' ⟨rfl, rfl⟩
            go_wp2_with fail
            refine (plen_any _ _ _ _ _ HP6.out.p).mono ?_
            rintro e w' ⟨rfl, rfl⟩
            go_wp2_with fail
            refine (pname_any t (by omega) false _ _ _ _ _ HP6.out.q (by have := HH.out.2.2.2.1; omega) HH.out.2.2.1 (pk_ok hOq)).mono ?_
            rintro e w7 ⟨rfl, hl7⟩
            obtain ⟨⟨S7, Q7, hP7⟩, hb7⟩ := HP6.out.right hs6 hl7
            have HP7 := Lib.hid hP7
            have HB7 := Lib.hid (HB6.out.trans hb7)
            clear hl7 hP7 hb7
            go_wp2
            go_roundw
            case rel => exact ⟨k + 1, by omega, by omega, by go_num, _, _, _, _, ⟨_, _, HP7.out⟩, HO2.out, pk_ok (pk_ok hOq), HH.out.1, HH.out.2.2.2.2.1, HH.out.2.1, HH.out.2.2.2.2.2.1, HH.out.2.2.2.2.2.2, HB7.out⟩
            case measure => simp [intOf]; omega
        · have q3 : (chk t.data.toList == 0) = false := by simpa using g
          have q3' : (chk t.data.toList != 0) = true := by simpa using g
          have G := Lib.hid g
          have LE := Lib.hid (And.intro hLp (And.intro hLq (And.intro hBp (And.intro hBq hle))))
          clear g hLp hLq hBp hBq hle hts
          go_wp2_with fail
          refine (SH.out _).mono ?_
          rintro e w' ⟨rfl, rfl⟩
          go_wp2_with fail
          refine (plen_any _ _ _ _ _ HP.out.p).mono ?_
          rintro e w' ⟨rfl, rfl⟩
          go_wp2_with fail
          refine (pname_any t (by omega) true _ _ _ _ _ HP.out.p (by have := HK.out; omega) LE.out.1 hOp).mono ?_
          rintro e w4 ⟨rfl, hl4⟩
          rw [pkB_no G.out, pkL_no G.out] at hl4
          obtain ⟨⟨S4, Q4, hP4⟩, hb4⟩ := HP.out.left hsz hl4
          have hs4 := Nat.le_trans hsz hb4.size
          have HP4 := Lib.hid hP4
          have HB4 := Lib.hid (HB.out.trans hb4)
          clear hl4 hP4 hb4
          go_wp2_with fail
          refine (pname_any t (by omega) false _ _ _ _ _ HP4.out.q (by have := HK.out; omega) LE.out.2.1 hOq).mono ?_
          rintro e w5 ⟨rfl, hl5⟩
          rw [pkB_no G.out, pkL_no G.out] at hl5
          obtain ⟨⟨S5, Q5, hP5⟩, hb5⟩ := HP4.out.right hs4 hl5
          have HP5 := Lib.hid hP5
          have HB5 := Lib.hid (HB4.out.trans hb5)
          clear hl5 hP5 hb5
          go_wp2_with fail
          refine (plen_any _ _ _ _ _ HP5.out.p).mono ?_
          rintro e w' ⟨rfl, rfl⟩
          go_wp2
          go_roundw
          case rel => exact ⟨k + 1, by omega, by omega, by go_num, shI_one ⟨_, _, HP5.out⟩ HB5.out hOp hOq LE.out.1 LE.out.2.1 (by have := LE.out.2.2.1; omega) (by have := LE.out.2.2.2.1; omega) LE.out.2.2.2.2⟩
          case measure => simp [intOf]; omega
      · have q2 : decide ((k : Int) < 40) = false := by simp; omega
        clear hB hP
        go_wp2_with fail
        refine (plen_any _ _ _ _ _ HP.out.p).mono ?_
        rintro e w' ⟨rfl, rfl⟩
        go_wp2_with fail
        refine (plen_any _ _ _ _ _ HP.out.q).mono ?_
        rintro e w' ⟨rfl, rfl⟩
        go_wp2
        go_ret
        exact ⟨rfl, HB.out⟩
    · have q1 : decide ((k : Int) < (n : Int)) = false := by simp; omega
      clear hB hP
      go_wp2_with fail
      refine (plen_any _ _ _ _ _ HP.out.p).mono ?_
      rintro e w' ⟨rfl, rfl⟩
      go_wp2_with fail
      refine (plen_any _ _ _ _ _ HP.out.q).mono ?_
      rintro e w' ⟨rfl, rfl⟩
      go_wp2
      go_ret
      exact ⟨rfl, HB.out⟩
set_option maxRecDepth 100000 in
set_option maxHeartbeats 16000000 in
theorem lawShort_zero (a : Option Addr) (cap : Nat) (w : World) :
    Calls Try.prog 7 #[.slice a 0 cap] w fun e w' => e = .returned (.bool true) ∧ Below w.heap.size w w' := by
  go_enter Try.func7, Try.ntmps7
  go_wp2_with fail
  refine (awake_any _).mono ?_
  rintro e w1 ⟨rfl, h1⟩
  go_wp2_with fail
  refine (new_any w1).mono ?_
  rintro e w2 ⟨rfl, hp2, hb2⟩
  go_wp2_with fail
  refine (new_any w2).mono ?_
  rintro e w3 ⟨rfl, hp3, hb3⟩
  have HP2 := Lib.hid (hp2.below hb3)
  have HP3 := Lib.hid hp3
  have HB := Lib.hid ((h1.trans (hb2.mono h1.size)).trans (hb3.mono (Nat.le_trans h1.size hb2.size)))
  clear h1 hp2 hb2 hp3 hb3
  go_wp2
  go_loopw [6] (fun i wr => i = .int .i64 0 ∧ w3 = wr) (fun _ _ => 0)
  case atStart => exact ⟨rfl, rfl⟩
  case round =>
    obtain ⟨rfl, rfl⟩ := hrel
    go_wp2_with fail
    refine (plen_any _ _ _ _ _ HP2.out).mono ?_
    rintro e w' ⟨rfl, rfl⟩
    go_wp2_with fail
    refine (plen_any _ _ _ _ _ HP3.out).mono ?_
    rintro e w' ⟨rfl, rfl⟩
    go_wp2
    go_ret
    exact ⟨rfl, HB.out⟩
theorem lawShort_any (a : Option Addr) (len cap : Nat) (W : World) (h : Came W a len) :
    Calls Try.prog 7 #[.slice a len cap] W fun e w' => e = .returned (.bool true) ∧ Below W.heap.size W w' := by
  rcases h with rfl | ⟨b, off, ss, rfl, hb, hc⟩
  · exact lawShort_zero a cap W
  · exact lawShort_some b off len cap ss W hb hc
end Go.Proofs.Ythffdgjdioolkaa
