/-
  One more record.
-/
import Derived.Test.YtopnmiakljpgbaaPutE
namespace Go.Proofs.Ytopnmiakljpgbaa
open Go.RowKit
theorem form_nil (w : World) : Calls Try.prog 58 #[str []] w fun e w' => e = .returned (str []) ∧ w = w' := by
  go_enter Try.func58, Try.ntmps58
  go_wp2
  go_ret
  exact ⟨rfl, rfl⟩
theorem form_cons (c : UInt8) (r : Bs) (hr : r.length ≤ 1000000) (w : World) : Calls Try.prog 58 #[str (c :: r)] w fun e w' => e = .returned (str [c]) ∧ w = w' := by
  obtain ⟨S, hS⟩ : ∃ S : ByteArray, S = ⟨(c :: r).toArray⟩ := ⟨_, rfl⟩
  have hz : S.size = r.length + 1 := by rw [hS, ba_len']; rfl
  have h1 : (1 : Int) ≤ (S.size : Int) := by omega
  have h1' : 1 ≤ S.size := by omega
  have hx : S.extract 0 1 = ⟨[c].toArray⟩ := by rw [hS, sub_str]; simp
  unfold str
  rw [← hS]
  clear hS
  have hmin : min (1 : Int) (S.size : Int) = 1 := by omega
  have hmin' : min 1 S.size = 1 := by omega
  clear hz hr
  go_enter Try.func58, Try.ntmps58
  go_wp2
  all_goals
    go_ret
    exact ⟨rfl, rfl⟩
set_option maxRecDepth 100000 in
set_option maxHeartbeats 3200000 in
theorem restore_any {w : World} {H : Nat} {S : Hs} (h : HvI w H S) (hb : 0 ≤ S.ba ∧ S.ba ≤ 1125899906842624) (hl : S.L.length ≤ 10000) (rec : Bs) (hr : rec.length ≤ 1000000) :
    Calls Try.prog 59 #[ptr H, str rec] w fun e w' => ∃ b S', e = .returned (.bool b) ∧ HvI w' H S' ∧ Below H w w' ∧ stp S rec = if b = true then some S' else none := by
  have HI := Lib.hid h
  cases rec with
  | nil =>
    have HF := Lib.hid (form_nil w)
    have HS : Hid (stp S [] = none) := Lib.hid rfl
    unfold str at HF ⊢
    obtain ⟨E, hE⟩ : ∃ E : ByteArray, E = ⟨([] : Bs).toArray⟩ := ⟨_, rfl⟩
    rw [← hE] at HF ⊢
    have q1 : (E.toList == [87]) = false := by rw [ByteArray.toList_eq, hE]; rfl
    have q2 : (E.toList == [84]) = false := by rw [ByteArray.toList_eq, hE]; rfl
    have q3 : (E.toList == [69]) = false := by rw [ByteArray.toList_eq, hE]; rfl
    clear h hE
    go_enter Try.func59, Try.ntmps59
    go_wp2_with fail
    refine HF.out.mono ?_
    rintro e w1 ⟨rfl, rfl⟩
    go_wp2
    all_goals
      go_ret
      exact ⟨false, S, rfl, HI.out, Below.refl _ _, by rw [HS.out]; rfl⟩
  | cons c r =>
    have hr' : r.length ≤ 1000000 := by simp at hr; omega
    have HF := Lib.hid (form_cons c r hr' w)
    have KW := Lib.hid (anew_any h c r hr')
    have KT := Lib.hid (setTerm_any h c r hr')
    have KE := Lib.hid (putE_any h hb hl c r hr')
    have HS : Hid (stp S (c :: r) = if c = 87 then stW r else if c = 84 then stT S r else if c = 69 then stE S r else none) := Lib.hid rfl
    obtain ⟨R, hR⟩ : ∃ R : ByteArray, R = ⟨(c :: r).toArray⟩ := ⟨_, rfl⟩
    obtain ⟨E, hE⟩ : ∃ E : ByteArray, E = ⟨[c].toArray⟩ := ⟨_, rfl⟩
    unfold str at HF KW KT KE ⊢
    rw [← hR] at HF KW KT KE ⊢
    rw [← hE] at HF
    have t1 : E.toList = [c] := by rw [ByteArray.toList_eq, hE]
    clear hR hE hr hr' h
    by_cases e1 : c = 87
    · have HS2 : Hid (stp S (c :: r) = stW r) := Lib.hid (by rw [HS.out, if_pos e1])
      have q1 : (E.toList == [87]) = true := by rw [t1, e1]; rfl
      clear t1 e1
      go_enter Try.func59, Try.ntmps59
      go_wp2_with fail
      refine HF.out.mono ?_
      rintro e w1 ⟨rfl, rfl⟩
      go_wp2_with fail
      refine KW.out.mono ?_
      rintro e w2 ⟨b, S', rfl, h1, h2, h3⟩
      have H1 := Lib.hid h1
      have H2 := Lib.hid h2
      have H3 := Lib.hid h3
      clear h1 h2 h3
      go_wp2
      all_goals
        go_ret
        exact ⟨b, S', rfl, H1.out, H2.out, by rw [HS2.out]; exact H3.out⟩
    · have q1 : (E.toList == [87]) = false := by rw [t1]; simpa using e1
      by_cases e2 : c = 84
      · have HS2 : Hid (stp S (c :: r) = stT S r) := Lib.hid (by rw [HS.out, if_neg e1, if_pos e2])
        have q2 : (E.toList == [84]) = true := by rw [t1, e2]; rfl
        clear t1 e1 e2
        go_enter Try.func59, Try.ntmps59
        go_wp2_with fail
        refine HF.out.mono ?_
        rintro e w1 ⟨rfl, rfl⟩
        go_wp2_with fail
        refine KT.out.mono ?_
        rintro e w2 ⟨b, S', rfl, h1, h2, h3⟩
        have H1 := Lib.hid h1
        have H2 := Lib.hid h2
        have H3 := Lib.hid h3
        clear h1 h2 h3
        go_wp2
        all_goals
          go_ret
          exact ⟨b, S', rfl, H1.out, H2.out, by rw [HS2.out]; exact H3.out⟩
      · have q2 : (E.toList == [84]) = false := by rw [t1]; simpa using e2
        by_cases e3 : c = 69
        · have HS2 : Hid (stp S (c :: r) = stE S r) := Lib.hid (by rw [HS.out, if_neg e1, if_neg e2, if_pos e3])
          have q3 : (E.toList == [69]) = true := by rw [t1, e3]; rfl
          clear t1 e1 e2 e3
          go_enter Try.func59, Try.ntmps59
          go_wp2_with fail
          refine HF.out.mono ?_
          rintro e w1 ⟨rfl, rfl⟩
          go_wp2_with fail
          refine KE.out.mono ?_
          rintro e w2 ⟨b, S', rfl, h1, h2, h3⟩
          have H1 := Lib.hid h1
          have H2 := Lib.hid h2
          have H3 := Lib.hid h3
          clear h1 h2 h3
          go_wp2
          all_goals
            go_ret
            exact ⟨b, S', rfl, H1.out, H2.out, by rw [HS2.out]; exact H3.out⟩
        · have HS2 : Hid (stp S (c :: r) = none) := Lib.hid (by rw [HS.out, if_neg e1, if_neg e2, if_neg e3])
          have q3 : (E.toList == [69]) = false := by rw [t1]; simpa using e3
          clear t1 e1 e2 e3
          go_enter Try.func59, Try.ntmps59
          go_wp2_with fail
          refine HF.out.mono ?_
          rintro e w1 ⟨rfl, rfl⟩
          go_wp2
          all_goals
            go_ret
            exact ⟨false, S, rfl, HI.out, Below.refl _ _, by rw [HS2.out]; rfl⟩
end Go.Proofs.Ytopnmiakljpgbaa
