/-
  What the document's Name answers, for every text and place; no older memory is changed.
-/
import Derived.Test.YtflpceaaelampaaName
import Derived.Test.YtflpceaaelampaaRMake
namespace Go.Proofs.Ytflpceaaelampaa
open Go.RowKit
theorem mu_ptr {n p st t : Nat} (h : t < st) : mu n t t < mu n st p := by
  unfold mu
  have := Nat.mul_le_mul_right (n + 2) (show t + 1 ≤ st by omega)
  rw [Nat.add_mul] at this
  omega
theorem int_i64 {a b : Int} (h : a = b) : Value.int .i64 a = .int .i64 b := by rw [h]
theorem mkE_is {ls : List Bs} (h : ∀ x ∈ ls, OkL x) (h2 : (enc ls).length ≤ 254) : mkE ls = 0 := by
  unfold mkE; rw [if_pos h, if_neg (by omega)]
theorem mk_few {ls : List Bs} (h : ∀ x ∈ ls, OkL x) (h2 : (enc ls).length ≤ 254) : ls.length ≤ 1000000 ∧ ∀ x ∈ ls, x.length ≤ 1000000 :=
  ⟨by have := length_le_enc ls; omega, fun x hx => by have := (h x hx).2; omega⟩
theorem lab_bytes {l : Bs} {p c : Nat} (h : p < l.length) (hc : (l.getD p 0).toNat = c) (h2 : p + 1 + c ≤ l.length) : (l.drop p).take (1 + c) = enc1 ((l.drop (p + 1)).take c) := by
  rw [List.drop_eq_getElem_cons h, Nat.add_comm, List.take_succ_cons]
  unfold enc1
  have e : ((l.drop (p + 1)).take c).length = c := by simp; omega
  rw [e]
  congr 1
  apply UInt8.toNat_inj.1
  have e2 : l.getD p 0 = l[p] := by simp [h]
  rw [e2] at hc
  have := UInt8.toNat_lt l[p]
  simp; omega
theorem lab_ok {l : Bs} {p c : Nat} (h2 : p + 1 + c ≤ l.length) (h0 : c ≠ 0) (h63 : c ≤ 63) : OkL ((l.drop (p + 1)).take c) := by
  have e : ((l.drop (p + 1)).take c).length = c := by simp; omega
  unfold OkL; omega
/-- What stands for the place behind the first pointer. -/
def nxI : Option Nat → Int
  | none => -1
  | some q => (q : Int)
/-- What the document's loop knows. -/
def RnI (s : ByteArray) (p0 : Nat) (w : World) (k : Nat) (a v z n g : Value) (wr : World) : Prop :=
  ∃ (p st : Nat) (aft : Option Nat) (ls : List Bs), mu s.data.toList.length st p = k ∧ a = .int .i64 (p : Int) ∧ Own9 wr w.heap.size v ls ∧ z = .int .i64 (((enc ls).length : Int) + 1) ∧ n = .int .i64 (nxI aft) ∧ g = .int .i64 (st : Int) ∧
    nm s.data.toList p0 p0 none [] = nm s.data.toList p st aft (enc ls) ∧ (∀ x ∈ ls, OkL x) ∧ (enc ls).length ≤ 254 ∧ (p : Int) ≤ 9223372036854775807 ∧ (st : Int) ≤ 9223372036854775807 ∧ (∀ q, aft = some q → (q : Int) ≤ 9223372036854775807) ∧ Below w.heap.size w wr
set_option maxRecDepth 100000 in
set_option maxHeartbeats 8000000 in
theorem rname_neg (s : ByteArray) (hs : s.size ≤ 140737488351232) (a : Int) (ha : -9223372036854775808 ≤ a ∧ a < 0) (w : World) :
    Calls Try.prog 44 #[.string s, .int .i64 a] w fun e w' => e = .returned (nmV ([], 0, 10)) ∧ w = w' := by
  have C := rnumber_any s hs a 1 (by omega) (by omega) w
  obtain ⟨e1, e2, e3⟩ := pi_no (s := s.data.toList) (a := a) (n := 1) (piE_no (by omega))
  unfold nuV at C
  rw [e1, e2, e3] at C
  have HC := Lib.hid C
  clear C e1 e2 e3
  go_enter Try.func44, Try.ntmps44
  go_wp2
  go_loopg [1, 7] 0 (fun _ b _ wr => b = .int .i64 a ∧ w = wr)
  case atStart => exact ⟨rfl, rfl⟩
  case round =>
    obtain ⟨rfl, rfl⟩ := hrel
    go_wp2_with fail
    refine HC.out.mono ?_
    rintro e w' ⟨rfl, rfl⟩
    rw [show numB [] = 0 from rfl]
    go_wp2
    go_ret3
    exact ⟨rfl, rfl⟩
set_option maxRecDepth 100000 in
set_option maxHeartbeats 8000000 in
theorem rname_pos (s : ByteArray) (hs : s.size ≤ 140737488351232) (p0 : Nat) (hp0 : (p0 : Int) ≤ 9223372036854775807) (w : World) :
    Calls Try.prog 44 #[.string s, .int .i64 (p0 : Int)] w fun e w' => e = .returned (nmV (nm s.data.toList p0 p0 none [])) ∧ Below w.heap.size w w' := by
  obtain ⟨R, hR⟩ : ∃ R, R = nm s.data.toList p0 p0 none [] := ⟨_, rfl⟩
  rw [← hR]
  have HR := Lib.hid hR
  have HS := Lib.hid (size_list s)
  clear hR
  obtain ⟨i0, hi, hz0, hz1, hz2⟩ := info_parts info9
  go_enter Try.func44, Try.ntmps44
  go_wp2
  go_loopg [1, 7, 8, 9, 10] (mu s.data.toList.length p0 p0) (fun k a v z n g wr => RnI s p0 w k a v z n g wr)
  case atStart => exact ⟨p0, p0, none, [], rfl, rfl, own9_nil _ _, rfl, rfl, rfl, rfl, by simp, by decide, hp0, hp0, by simp, Below.refl _ _⟩
  case round =>
    obtain ⟨p, st, aft, ls, hmu, rfl, hown, rfl, rfl, rfl, hnm, hok, hacc, hp, hst, haft, hbr⟩ := hrel
    have HNM := Lib.hid (HR.out.trans hnm)
    have HO := Lib.hid hown
    have HMU := Lib.hid hmu
    have HB := Lib.hid hbr
    have HOK := Lib.hid hok
    have hsz := hbr.size
    clear hmu hown hnm hok hbr
    by_cases hlt : p < s.size
    · have hl : p < s.data.toList.length := by rw [← HS.out]; exact hlt
      have C := rnumber_any s hs (p : Int) 1 (by omega) (by omega) wr
      obtain ⟨e1, e2, e3⟩ := pi_yes (s := s.data.toList) (piE_yes (a := (p : Int)) (n := 1) (by omega) (by omega) (by omega))
      unfold nuV at C
      rw [piS_one hl, numB_one, e2, e3] at C
      obtain ⟨c, hc⟩ : ∃ c, c = (s.data.toList.getD p 0).toNat := ⟨_, rfl⟩
      have hc8 : c < 256 := by rw [hc]; exact UInt8.toNat_lt _
      have hc8' : (c : Int) < 256 := by omega
      rw [← hc] at C
      have HC := Lib.hid C
      have HCC := Lib.hid hc
      have HL := Lib.hid hl
      clear C e1 e2 e3 hc hl
      obtain ⟨nx, hnx⟩ : ∃ nx, nx = nxI aft := ⟨_, rfl⟩
      rw [← hnx]
      have HNX := Lib.hid hnx
      clear hnx
      have HACC := Lib.hid hacc
      have HAFT := Lib.hid haft
      clear haft
      by_cases g0 : c = 0
      · have E := Lib.hid (HNM.out.trans (nm_zero _ _ _ _ _ HL.out (by rw [← HCC.out]; exact g0)))
        have hm := mkE_is HOK.out HACC.out
        have HM := Lib.hid hm
        have M := rmake_any _ ls wr HO.out.rd (mk_few HOK.out HACC.out).1 (mk_few HOK.out HACC.out).2
        rw [mkS_zero hm, hm] at M
        have HMM := Lib.hid M
        clear hm M hacc
        subst g0
        cases aft with
        | none =>
          obtain rfl : nx = -1 := HNX.out
          go_wp2_with fail
          refine HC.out.mono ?_
          rintro e w' ⟨rfl, rfl⟩
          go_wp2_with fail
          refine HMM.out.mono ?_
          rintro e w2 ⟨rfl, hb2⟩
          go_wp2
          go_ret3
          exact ⟨name_ok E.out rfl (by simp), HB.out.trans (hb2.mono hsz)⟩
        | some q =>
          obtain rfl : nx = (q : Int) := HNX.out
          have qn : decide ((q : Int) < 0) = false := by simp
          go_wp2_with fail
          refine HC.out.mono ?_
          rintro e w' ⟨rfl, rfl⟩
          go_wp2_with fail
          refine HMM.out.mono ?_
          rintro e w2 ⟨rfl, hb2⟩
          go_wp2
          go_ret3
          exact ⟨name_ok E.out rfl (by simp), HB.out.trans (hb2.mono hsz)⟩
      · have q0 : ((c : Int) == 0) = false := by simp; omega
        by_cases g : 192 ≤ c
        · have q1 : (192 : Int) ≤ (c : Int) := by omega
          have C2 := rnumber_any s hs (p : Int) 2 (by omega) (by omega) wr
          unfold nuV at C2
          by_cases h1 : p + 1 < s.size
          · have h1' : p + 1 < s.data.toList.length := by rw [← HS.out]; exact h1
            obtain ⟨e1, e2, e3⟩ := pi_yes (s := s.data.toList) (piE_yes (a := (p : Int)) (n := 2) (by omega) (by omega) (by omega))
            obtain ⟨t, ht⟩ : ∃ t, ((s.data.toList.getD p 0).toNat - 192) * 256 + (s.data.toList.getD (p + 1) 0).toNat = t := ⟨_, rfl⟩
            have hd := UInt8.toNat_lt (s.data.toList.getD (p + 1) 0)
            have hx : (numB (piS s.data.toList (p : Int) 2) : Int) = (t : Int) + 49152 := by
              rw [piS_two h1', numB_two, ← ht, ← HCC.out]; omega
            have ht1 : (t : Int) < 16384 := by rw [← HCC.out] at ht; omega
            rw [hx, e2, e3] at C2
            have HC2 := Lib.hid C2
            have HT := Lib.hid ht
            have H1 := Lib.hid h1'
            clear C2 e1 e2 e3 hx ht hd h1'
            by_cases g3 : t < st
            · have q3 : decide ((st : Int) ≤ (t : Int)) = false := by simp; omega
              have q3' : decide (st ≤ t) = false := by simp; omega
              have E := Lib.hid (HNM.out.trans (nm_ptr _ _ _ _ _ HL.out (by rw [← HCC.out]; exact g) H1.out t HT.out g3))
              have hmu2 := mu_ptr (n := s.data.toList.length) (p := p) g3
              rw [HMU.out] at hmu2
              have HM2 := Lib.hid hmu2
              clear hmu2
              cases aft with
              | none =>
                obtain rfl : nx = -1 := HNX.out
                go_wp2_with fail
                refine HC.out.mono ?_
                rintro e w' ⟨rfl, rfl⟩
                go_wp2_with fail
                refine HC2.out.mono ?_
                rintro e w' ⟨rfl, rfl⟩
                go_wp2
                go_roundg (mu s.data.toList.length t t)
                case measure => exact HM2.out
                case rel => exact ⟨t, t, _, ls, rfl, rfl, HO.out, rfl, by simp [nxI], rfl, HR.out.symm.trans E.out, HOK.out, HACC.out, by omega, by omega, fun q hq => by simp at hq; omega, HB.out⟩
              | some q =>
                obtain rfl : nx = (q : Int) := HNX.out
                have qn : decide ((q : Int) < 0) = false := by simp
                go_wp2_with fail
                refine HC.out.mono ?_
                rintro e w' ⟨rfl, rfl⟩
                go_wp2_with fail
                refine HC2.out.mono ?_
                rintro e w' ⟨rfl, rfl⟩
                go_wp2
                go_roundg (mu s.data.toList.length t t)
                case measure => exact HM2.out
                case rel => exact ⟨t, t, _, ls, rfl, rfl, HO.out, rfl, by simp [nxI], rfl, HR.out.symm.trans E.out, HOK.out, HACC.out, by omega, by omega, fun q' hq => by simp at hq; subst hq; exact HAFT.out _ rfl, HB.out⟩
            · have q3 : decide ((st : Int) ≤ (t : Int)) = true := by simp; omega
              have q3' : decide (st ≤ t) = true := by simp; omega
              have E := Lib.hid (HNM.out.trans (nm_far _ _ _ _ _ HL.out (by rw [← HCC.out]; exact g) H1.out (by rw [HT.out]; exact g3)))
              cases aft with
              | none =>
                obtain rfl : nx = -1 := HNX.out
                go_wp2_with fail
                refine HC.out.mono ?_
                rintro e w' ⟨rfl, rfl⟩
                go_wp2_with fail
                refine HC2.out.mono ?_
                rintro e w' ⟨rfl, rfl⟩
                go_wp2
                go_ret3
                exact ⟨name_err (k := 10) E.out, HB.out⟩
              | some q =>
                obtain rfl : nx = (q : Int) := HNX.out
                have qn : decide ((q : Int) < 0) = false := by simp
                go_wp2_with fail
                refine HC.out.mono ?_
                rintro e w' ⟨rfl, rfl⟩
                go_wp2_with fail
                refine HC2.out.mono ?_
                rintro e w' ⟨rfl, rfl⟩
                go_wp2
                go_ret3
                exact ⟨name_err (k := 10) E.out, HB.out⟩
          · obtain ⟨e1, e2, e3⟩ := pi_no (s := s.data.toList) (a := (p : Int)) (n := 2) (piE_no (by have := HS.out; omega))
            rw [e1, e2, e3] at C2
            have HC2 := Lib.hid C2
            clear C2 e1 e2 e3
            have E := Lib.hid (HNM.out.trans (nm_short _ _ _ _ _ HL.out (by rw [← HCC.out]; exact g) (by rw [← HS.out]; exact h1)))
            go_wp2_with fail
            refine HC.out.mono ?_
            rintro e w' ⟨rfl, rfl⟩
            go_wp2_with fail
            refine HC2.out.mono ?_
            rintro e w' ⟨rfl, rfl⟩
            rw [show numB [] = 0 from rfl]
            go_wp2
            go_ret3
            exact ⟨name_err (k := 10) E.out, HB.out⟩
        · have q1 : decide ((192 : Int) ≤ (c : Int)) = false := by simp; omega
          by_cases g2 : 63 < c
          · have q2 : (63 : Int) < (c : Int) := by omega
            have E := Lib.hid (HNM.out.trans (nm_odd _ _ _ _ _ HL.out (by rw [← HCC.out]; omega) (by rw [← HCC.out]; exact g2)))
            go_wp2_with fail
            refine HC.out.mono ?_
            rintro e w' ⟨rfl, rfl⟩
            go_wp2
            go_ret3
            exact ⟨name_err (k := 10) E.out, HB.out⟩
          · have q2 : decide ((63 : Int) < (c : Int)) = false := by simp; omega
            have C3 := rraw_any s hs ((p : Int) + 1) (c : Int) (by omega) (by omega) wr
            unfold pcV at C3
            by_cases h1 : p + 1 + c ≤ s.size
            · obtain ⟨e1, e2, e3⟩ := pi_yes (s := s.data.toList) (piE_yes (a := (p : Int) + 1) (n := (c : Int)) (by omega) (by omega) (by have := HS.out; omega))
              rw [e1, e2, e3, show ((p : Int) + 1).toNat = p + 1 by omega, Int.toNat_natCast] at C3
              obtain ⟨x, hx⟩ : ∃ x, x = (s.data.toList.drop (p + 1)).take c := ⟨_, rfl⟩
              have h1' : p + 1 + c ≤ s.data.toList.length := by rw [← HS.out]; exact h1
              have hok : OkL x := by rw [hx]; exact lab_ok h1' g0 (by omega)
              have hlb := lab_bytes HL.out HCC.out.symm h1'
              rw [← hx] at C3 hlb
              have hxl : x.length = c := by rw [hx]; simp; omega
              have hel := enc_snoc_length ls x
              rw [hxl] at hel
              have hen : enc ls ++ (s.data.toList.drop p).take (1 + c) = enc (ls ++ [x]) := by rw [hlb, enc_append]; simp [enc]
              have HEN := Lib.hid hen
              have HEL := Lib.hid hel
              have HC3 := Lib.hid C3
              have HXOK := Lib.hid hok
              have H1 := Lib.hid h1'
              obtain ⟨k, hk⟩ : ∃ k, k = (enc ls).length := ⟨_, rfl⟩
              have HK := Lib.hid hk
              rw [← hk] at hacc ⊢
              have hk2 : (k : Int) ≤ 254 := by omega
              clear C3 e1 e2 e3 hx hok hlb hxl hel hen hk h1' hacc
              by_cases g3 : k + 1 + c + 1 ≤ 255
              · have q3 : decide ((255 : Int) < (k : Int) + 1 + 1 + (c : Int)) = false := by simp; omega
                have E := Lib.hid (HNM.out.trans (nm_lab _ _ _ _ _ HL.out (by rw [← HCC.out]; exact g0) (by rw [← HCC.out]; omega) (by rw [← HCC.out]; exact H1.out) (by rw [← HCC.out, ← HK.out]; exact g3)))
                have hmu2 := mu_lt (c := c) (.inl ⟨rfl, rfl⟩ : Ahead p st p st) HL.out H1.out
                rw [HMU.out] at hmu2
                have HM2 := Lib.hid hmu2
                have hll := length_le_enc ls
                rw [← HK.out] at hll
                have HLL := Lib.hid hll
                clear hmu2 hll
                go_wp2_with fail
                refine HC.out.mono ?_
                rintro e w' ⟨rfl, rfl⟩
                go_wp2_with fail
                refine HC3.out.mono ?_
                rintro e w' ⟨rfl, rfl⟩
                go_wp2_with (at_builtin; refine wpList_append_own _ rfl (.tmp 88) (.tmp 90) 65 rfl w.heap.size 9 i0 (.string ⟨#[]⟩) 1 16 Try.underlying65 hi hz0 hz1 hz2 rfl (by decide) _ _ _ rfl (World.ownsRow.alloc HO.out _) ⟨wr.heap.size, 0, none⟩ 1 1 [str x] rfl rfl (cell_one_new _ _ _) (by simp [Value.oneCell']) (by have := HLL.out; unfold maxLen; omega) (by have := HLL.out; omega) (by simp; omega) ?_)
                intro v' w1 hown' hgrow _
                have R2 := Lib.hid (own9_next HO.out (Nat.le_refl _) HB.out hown' hgrow)
                clear hown' hgrow
                go_wp2
                go_roundg (mu s.data.toList.length st (p + 1 + c))
                case measure => exact HM2.out
                case rel => exact ⟨p + 1 + c, st, aft, ls ++ [x], rfl, by push_cast; rfl, R2.out.1, int_i64 (by rw [HEL.out, ← HK.out]; push_cast; omega), by rw [HNX.out], rfl, HR.out.symm.trans (by rw [E.out, ← HCC.out, HEN.out]), ok_snoc HOK.out HXOK.out, by rw [HEL.out, ← HK.out]; omega, by push_cast; omega, hst, HAFT.out, R2.out.2⟩
              · have q3 : decide ((255 : Int) < (k : Int) + 1 + 1 + (c : Int)) = true := by simp; omega
                have E := Lib.hid (HNM.out.trans (nm_long _ _ _ _ _ HL.out (by rw [← HCC.out]; exact g0) (by rw [← HCC.out]; omega) (by rw [← HCC.out]; exact H1.out) (by rw [← HCC.out, ← HK.out]; exact g3)))
                go_wp2_with fail
                refine HC.out.mono ?_
                rintro e w' ⟨rfl, rfl⟩
                go_wp2_with fail
                refine HC3.out.mono ?_
                rintro e w' ⟨rfl, rfl⟩
                go_wp2
                go_ret3
                exact ⟨name_err (k := 11) E.out, HB.out⟩
            · obtain ⟨e1, e2, e3⟩ := pi_no (s := s.data.toList) (a := (p : Int) + 1) (n := (c : Int)) (piE_no (by have := HS.out; omega))
              rw [e1, e2, e3] at C3
              have HC3 := Lib.hid C3
              clear C3 e1 e2 e3
              have E := Lib.hid (HNM.out.trans (nm_cut _ _ _ _ _ HL.out (by rw [← HCC.out]; exact g0) (by rw [← HCC.out]; omega) (by rw [← HCC.out, ← HS.out]; exact h1)))
              go_wp2_with fail
              refine HC.out.mono ?_
              rintro e w' ⟨rfl, rfl⟩
              go_wp2_with fail
              refine HC3.out.mono ?_
              rintro e w' ⟨rfl, rfl⟩
              go_wp2
              go_ret3
              exact ⟨name_err (k := 10) E.out, HB.out⟩
    · have C := rnumber_any s hs (p : Int) 1 (by omega) (by omega) wr
      obtain ⟨e1, e2, e3⟩ := pi_no (s := s.data.toList) (a := (p : Int)) (n := 1) (piE_no (by have := HS.out; omega))
      unfold nuV at C
      rw [e1, e2, e3] at C
      have HC := Lib.hid C
      clear C e1 e2 e3
      have E := Lib.hid (HNM.out.trans (nm_end _ _ _ _ _ (by rw [← HS.out]; exact hlt)))
      go_wp2_with fail
      refine HC.out.mono ?_
      rintro e w' ⟨rfl, rfl⟩
      rw [show numB [] = 0 from rfl]
      go_wp2
      go_ret3
      exact ⟨name_err (k := 10) E.out, HB.out⟩
/-- THE NAME THAT IS READ, by the document. -/
theorem rname_any (s : ByteArray) (hs : s.size ≤ 140737488351232) (a : Int) (ha : -9223372036854775808 ≤ a ∧ a ≤ 9223372036854775807) (w : World) :
    Calls Try.prog 44 #[.string s, .int .i64 a] w fun e w' => e = .returned (nmV (nmI s.data.toList a)) ∧ Below w.heap.size w w' := by
  by_cases h : a < 0
  · have e : nmI s.data.toList a = ([], 0, 10) := by unfold nmI; rw [if_pos h]
    rw [e]
    exact (rname_neg s hs a ⟨ha.1, h⟩ w).mono fun e w' ⟨h1, h2⟩ => ⟨h1, h2 ▸ Below.refl _ _⟩
  · obtain ⟨p, rfl⟩ := Int.eq_ofNat_of_zero_le (show 0 ≤ a by omega)
    have e : nmI s.data.toList (p : Int) = nm s.data.toList p p none [] := by unfold nmI; rw [if_neg h, Int.toNat_natCast]
    rw [e]
    exact rname_pos s hs p ha.2 w
end Go.Proofs.Ytflpceaaelampaa
