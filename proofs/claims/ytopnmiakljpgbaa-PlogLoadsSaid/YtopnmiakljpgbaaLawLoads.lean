/-
  Any records are read as the document says, or refused: the law's function returns true, whatever texts come in.
-/
import Derived.Test.YtopnmiakljpgbaaDLoad
import Derived.Test.YtopnmiakljpgbaaAwake
namespace Go.Proofs.Ytopnmiakljpgbaa
open Go.RowKit
theorem cut400 (s : ByteArray) : s.extract 0 400 = ⟨(s.data.toList.take 400).toArray⟩ := by rw [sub_str]; rfl
theorem stp_vlen {S S' : Hs} {rec : Bs} (h : S.V.length ≤ 1000000) (hr : rec.length ≤ 1000000) (hs : stp S rec = some S') : S'.V.length ≤ 1000000 := by
  cases rec with
  | nil => cases hs
  | cons c r =>
    have hrl : r.length ≤ 1000000 := by simp at hr; omega
    have hs : (if c = 87 then stW r else if c = 84 then stT S r else if c = 69 then stE S r else none) = some S' := hs
    split at hs
    · unfold stW at hs
      obtain ⟨t, ht, hs⟩ := Option.bind_eq_some_iff.1 hs
      obtain ⟨vo, hvo, hs⟩ := Option.bind_eq_some_iff.1 hs
      obtain ⟨ba, hba, hs⟩ := Option.bind_eq_some_iff.1 hs
      obtain ⟨bt, hbt, hs⟩ := Option.bind_eq_some_iff.1 hs
      obtain ⟨n, hn, hs⟩ := Option.bind_eq_some_iff.1 hs
      obtain ⟨d, hd, hs⟩ := Option.bind_eq_some_iff.1 hs
      obtain ⟨m, _, hs⟩ := Option.bind_eq_some_iff.1 hs
      obtain ⟨s, _, hs⟩ := Option.bind_eq_some_iff.1 hs
      have l1 := num1_len ht
      have l2 := num1_len hvo
      have l3 := num1_len hba
      have l4 := num1_len hbt
      have l5 := num1_len hn
      have l6 := (byt1_len hd).1
      split at hs
      · cases hs
        show (vot d.1).length ≤ 1000000
        unfold vot
        rw [List.length_map]; omega
      · cases hs
    · split at hs
      · unfold stT at hs
        obtain ⟨p, hp, hs⟩ := Option.bind_eq_some_iff.1 hs
        obtain ⟨q, hq, hs⟩ := Option.bind_eq_some_iff.1 hs
        split at hs
        · cases hs
          exact h
        · cases hs
      · split at hs
        · unfold stE at hs
          obtain ⟨p, hp, hs⟩ := Option.bind_eq_some_iff.1 hs
          obtain ⟨q, hq, hs⟩ := Option.bind_eq_some_iff.1 hs
          obtain ⟨b, hb, hs⟩ := Option.bind_eq_some_iff.1 hs
          split at hs
          · cases hs
            exact h
          · cases hs
        · cases hs
theorem ldF_len : ∀ (A : List Bs) (S S' : Hs) (k : Nat), S.Ok k → S.V.length ≤ 1000000 → (∀ r ∈ A, r.length ≤ 1000000) → ldF S A = some S' → S'.L.length ≤ k + A.length ∧ S'.V.length ≤ 1000000
  | [], S, S', k, h, hv, _, hs => by
    have e : some S = some S' := hs
    cases e
    exact ⟨by have := h.2.2.1; simpa using this, hv⟩
  | r :: A, S, S', k, h, hv, hr, hs => by
    have hs : (stp S r).bind (fun S' => ldF S' A) = some S' := hs
    obtain ⟨S1, h1, h2⟩ := Option.bind_eq_some_iff.1 hs
    have hl := hr r (List.mem_cons_self ..)
    have := ldF_len A S1 S' (k + 1) (stp_ok h hl h1) (stp_vlen hv hl h1) (fun x hx => hr x (List.mem_cons_of_mem _ hx)) h2
    exact ⟨by rw [List.length_cons]; omega, this.2⟩
theorem loadR_len {T : List Bs} {S : Hs} {er : Int} (hT : T.length ≤ 5000) (hr : ∀ r ∈ T, r.length ≤ 1000000) (h : LoadR T S er) : S.V.length ≤ 1000000 ∧ S.L.length ≤ 1000000 := by
  unfold LoadR at h
  cases hl : loadM T with
  | none =>
    rw [hl] at h
    obtain ⟨_, rfl⟩ := h
    exact ⟨by decide, by decide⟩
  | some S0 =>
    rw [hl] at h
    obtain ⟨_, rfl⟩ := h
    unfold loadM at hl
    obtain ⟨S1, h1, h2⟩ := Option.bind_eq_some_iff.1 hl
    split at h2
    · cases h2
      cases T with
      | nil =>
        have e : some Hs.zero = some S := h1
        cases e
        exact ⟨by decide, by decide⟩
      | cons r rs =>
        have h1 : (if isW r = true then ldF Hs.zero (r :: rs) else none) = some S := h1
        split at h1
        · have := ldF_len _ _ _ 0 (show Hs.zero.Ok 0 from ⟨by decide, by decide, Nat.le_refl _, fun e he => by cases he⟩) (by decide) hr h1
          exact ⟨this.2, by have := this.1; omega⟩
        · cases h1
    · cases h2
theorem loadR_one {T : List Bs} {S S' : Hs} {er er' : Int} (h : LoadR T S er) (h' : LoadR T S' er') : S = S' ∧ er = er' := by
  unfold LoadR at h h'
  cases hl : loadM T with
  | none => rw [hl] at h h'; exact ⟨h.2.trans h'.2.symm, h.1.trans h'.1.symm⟩
  | some S0 => rw [hl] at h h'; exact ⟨h.2.trans h'.2.symm, h.1.trans h'.1.symm⟩
set_option maxRecDepth 100000 in
set_option maxHeartbeats 12800000 in
theorem lawLoads_any {w : World} {v : Value} {A : List ByteArray} (hA : RdV w v (A.map Value.string)) : Calls Try.prog 6 #[v] w fun e w' => e = .returned (.bool true) ∧ Below w.heap.size w w' := by
  obtain ⟨va, vc, rfl, _⟩ := hA.shape
  obtain ⟨m, hm⟩ : ∃ m, m = (A.map Value.string).length := ⟨_, rfl⟩
  have hm2 : m = A.length := by rw [hm, List.length_map]
  have HM := Lib.hid hm2
  rw [← hm] at hA ⊢
  have HA := Lib.hid hA
  clear hm hA hm2
  go_enter Try.func6, Try.ntmps6
  go_wp2_with fail
  refine (awake_any w).mono ?_
  rintro e w1 ⟨rfl, hb1⟩
  have HB1 := Lib.hid hb1
  obtain ⟨NB, hNB⟩ : ∃ NB, NB = w1.heap.size := ⟨_, rfl⟩
  have HNB := Lib.hid hNB
  have HNW : Hid (w.heap.size ≤ NB) := Lib.hid (by rw [hNB]; exact hb1.size)
  clear hb1
  go_upto_region 4 with fail
  go_loopw [4, 5] (fun lv i wr => ∃ (k : Nat) (T : List Bs), k ≤ m ∧ k ≤ 40 ∧ i = it (k : Int) ∧ OwnV wr NB 9 lv (tv T) ∧ T.length = k ∧ (∀ r ∈ T, r.length ≤ 400) ∧ Below NB w1 wr) (fun _ i _ => 40 - (intOf i).toNat)
  case atStart => exact ⟨0, [], Nat.zero_le _, Nat.zero_le _, rfl, OwnV.nil _ _ _, rfl, fun r hr => (by cases hr), Below.refl _ _⟩
  case round =>
    obtain ⟨k, T, hk, hk40, rfl, ho, hT, hr4, hbr⟩ := hrel
    have HO := Lib.hid ho
    have HTL := Lib.hid hT
    have HR4 := Lib.hid hr4
    have HBR := Lib.hid hbr
    have HBW : Hid (Below w.heap.size w wr) := Lib.hid (HB1.out.trans (hbr.mono HNW.out))
    by_cases hlt : k < m ∧ k < 40
    · obtain ⟨hl1, hl2⟩ := hlt
      have HKK : Hid (k + 1 ≤ m ∧ k + 1 ≤ 40) := Lib.hid (by omega)
      have q1 : (k : Int) < (m : Int) := by omega
      have q1' : decide ((k : Int) < (m : Int)) = true := decide_eq_true q1
      have q2 : (k : Int) < 40 := by omega
      have q3 : k < m := by omega
      obtain ⟨s, hs⟩ : ∃ s, A[k]? = some s := ⟨_, List.getElem?_eq_getElem (by rw [← HM.out]; exact hl1)⟩
      obtain ⟨ex, g, o, rfl, hg, c0⟩ := HA.out.at (k := k) (x := .string s) (by rw [List.getElem?_map, hs]; rfl)
      have c0 := (HBW.out.cell (p := ⟨g, o + k, none⟩) hg).trans c0
      have hwk : IntKind.i64.wrap ((k : Int) + 1) = ((k + 1 : Nat) : Int) := by unfold IntKind.wrap; simp only [IntKind.bits, IntKind.signed]; simp; omega
      have HWK := Lib.hid hwk
      clear ho hT hr4 hbr hs hwk hk hk40 ex hNB
      go_upto_if 29 with fail
      go_cut [6] from 27 to 31 (fun v wx => ∃ b : Bs, v = str b ∧ b.length ≤ 400 ∧ wr = wx)
      case first =>
        by_cases h4 : 400 < s.size
        · have p1 : (400 : Int) < (s.size : Int) := by omega
          have p2 : 400 ≤ s.size := by omega
          go_wp2
          go_meet
          exact ⟨(s.data.toList.take 400), by rw [cut400], by simp; omega, rfl⟩
        · have p1 : decide ((400 : Int) < (s.size : Int)) = false := decide_eq_false (by omega)
          have p2 : decide (400 < s.size) = false := decide_eq_false h4
          go_wp2
          go_meet
          exact ⟨s.data.toList, rfl, by rw [← size_list]; omega, rfl⟩
      case rest =>
        obtain ⟨b, rfl, hbl, rfl⟩ := hcut
        have HBL := Lib.hid hbl
        obtain ⟨la, lc, rfl, _⟩ := HO.out.shape
        have hl : (tv T).length = k := by rw [List.length_map]; exact HTL.out
        have HO2 : Hid (OwnV wr NB 9 (.slice la k lc) (tv T)) := Lib.hid (by have := HO.out; rw [hl] at this; exact this)
        rw [hl]
        have HLN : Hid ((tv T).length ≤ 1000000) := Lib.hid (by omega)
        have hs : NB ≤ wr.heap.size := by have := HBR.out.size; have := HNB.out; omega
        clear hbl hl
        go_wp2_with (at_builtin; refine wp_app_one 50 9 _ 16 Try.underlying50 info9 rfl (by decide) rfl (.tmp 32) (.tmp 34) rfl NB _ (tv T) rfl HO2.out _ rfl rfl HLN.out hs ?_)
        intro v' w11 ho3 hb5
        have HO3 : Hid (OwnV w11 NB 9 v' (tv (T ++ [b]))) := Lib.hid (by show OwnV w11 NB 9 v' ((T ++ [b]).map str); rw [List.map_append]; exact ho3)
        have HB5 : Hid (Below NB w1 w11) := Lib.hid (HBR.out.trans hb5)
        have hkk := HKK.out
        have hwk := HWK.out
        clear ho3 hb5 hs
        go_wp2
        go_roundw
        case rel => exact ⟨k + 1, T ++ [b], hkk.1, hkk.2, rfl, HO3.out, by rw [List.length_append, HTL.out]; rfl, fun r hr => by rcases List.mem_append.1 hr with hr | hr; exact HR4.out r hr; rw [List.mem_singleton.1 hr]; exact HBL.out, HB5.out⟩
        case measure => simp [intOf]; omega
    · have hend : decide ((k : Int) < (m : Int)) = false ∨ (decide ((k : Int) < (m : Int)) = true ∧ k = 40 ∧ (40 : Int) < (m : Int)) := by
        by_cases h : k < m
        · exact .inr ⟨decide_eq_true (by omega), by omega, by omega⟩
        · exact .inl (decide_eq_false (by omega))
      obtain ⟨la, lc, rfl, _⟩ := HO.out.shape
      obtain ⟨l, hl⟩ : ∃ l, l = (tv T).length := ⟨_, rfl⟩
      have HRD : Hid (RdV wr (.slice la l lc) (tv T)) := Lib.hid (by rw [hl]; exact HO.out.rdV)
      rw [← hl]
      have HT5 : Hid (T.length ≤ 5000 ∧ ∀ r ∈ T, r.length ≤ 1000000) := Lib.hid ⟨by omega, fun r hr => by have := hr4 r hr; omega⟩
      have HL := Lib.hid (load_any HRD.out HT5.out.1 HT5.out.2)
      have hk40' : k ≤ 40 := hk40
      clear ho hT hr4 hbr hl hlt HO
      rcases hend with q1 | ⟨q1, hk40e, q2⟩
      have q1' : decide (k < m) = false := by have := of_decide_eq_false q1; exact decide_eq_false (by omega)
      rotate_left
      subst hk40e
      have q2' : (40 : Nat) < m := by omega
      have q3' : decide (((40 : Nat) : Int) < (m : Int)) = true := decide_eq_true (by omega)
      rotate_left
      all_goals
        go_wp2_with fail
        refine HL.out.mono ?_
        rintro e w3 ⟨S, vs, es, er, rfl, hv3, he3, hb3, hL3⟩
        have hlen := loadR_len HT5.out.1 HT5.out.2 hL3
        have HLR := Lib.hid hL3
        obtain ⟨t, vo, V, sn, ba, bt, L⟩ := S
        dsimp only at hv3 he3 hlen ⊢
        have HLEN := Lib.hid hlen
        obtain ⟨a1, c1, rfl, _⟩ := hv3.shape
        obtain ⟨a2, c2, rfl, _⟩ := he3.shape
        obtain ⟨n1, hn1⟩ : ∃ n, n = V.length := ⟨_, rfl⟩
        obtain ⟨n2, hn2⟩ : ∃ n, n = L.length := ⟨_, rfl⟩
        rw [← hn1] at hv3 ⊢
        rw [← hn2] at he3 ⊢
        have HN1 := Lib.hid hn1
        have HN2 := Lib.hid hn2
        have hbn := one_new w3 (.cells #[it t, it vo, .slice a1 n1 c1, .string sn, it ba, it bt, .slice a2 n2 c2] 42)
        have HX4 := Lib.hid (Ce.new w3 42 #[it t, it vo, .slice a1 n1 c1, .string sn, it ba, it bt, .slice a2 n2 c2])
        have HV4 := Lib.hid (hv3.below hbn)
        have HE4 := Lib.hid (he3.below hbn)
        have HB4 : Hid (Below wr.heap.size wr (w3.alloc (.cells #[it t, it vo, .slice a1 n1 c1, .string sn, it ba, it bt, .slice a2 n2 c2] 42))) := Lib.hid (hb3.trans (hbn.mono hb3.size))
        clear hlen hL3 hv3 he3 hb3 hbn hn1 hn2
        go_upto_region 11 with fail
        generalize w3.alloc _ = w4 at *
        obtain ⟨X, hX⟩ : ∃ X, X = w3.heap.size := ⟨_, rfl⟩
        rw [← hX] at HX4 ⊢
        clear hX
        have HD := Lib.hid (dload_any (HRD.out.below HB4.out) HT5.out.1 HT5.out.2)
        go_wp2_with fail
        refine HD.out.mono ?_
        rintro e w5 ⟨S', us, fs, er', rfl, hv5, he5, hb5, hL5⟩
        obtain ⟨rfl, rfl⟩ := loadR_one HLR.out hL5
        dsimp only at hv5 he5 ⊢
        obtain ⟨a3, c3, rfl, _⟩ := hv5.shape
        obtain ⟨a4, c4, rfl, _⟩ := he5.shape
        rw [← HN1.out] at hv5 ⊢
        rw [← HN2.out] at he5 ⊢
        have hbn := one_new w5 (.cells #[it t, it vo, .slice a3 n1 c3, .string sn, it ba, it bt, .slice a4 n2 c4] 42)
        have HY6 := Lib.hid (Ce.new w5 42 #[it t, it vo, .slice a3 n1 c3, .string sn, it ba, it bt, .slice a4 n2 c4])
        have hb6 := hb5.trans (hbn.mono hb5.size)
        have HX6 := Lib.hid (HX4.out.below hb6)
        have HB6 := Lib.hid (HBW.out.trans ((HB4.out.trans (hb6.mono HB4.out.size)).mono HBW.out.size))
        have SM := Lib.hid (same_any (S := ⟨t, vo, V, sn, ba, bt, L⟩) (HV4.out.below hb6) (hv5.below hbn) (HE4.out.below hb6) (he5.below hbn) HLEN.out.1 HLEN.out.2)
        dsimp only at SM
        clear hL5 hv5 he5 hb5 hbn hb6 HD HL
        go_upto_region 12 with fail
        generalize w5.alloc _ = w6 at *
        obtain ⟨Y, hY⟩ : ∃ Y, Y = w5.heap.size := ⟨_, rfl⟩
        rw [← hY] at HY6 ⊢
        clear hY
        obtain ⟨c0, c1', c2', c3', c4', c5', c6'⟩ := c7 HX6.out
        obtain ⟨d0, d1, d2, d3, d4, d5, d6⟩ := c7 HY6.out
        go_wp2_with fail
        refine SM.out.mono ?_
        rintro e w7 ⟨rfl, hb7⟩
        have HB7 := Lib.hid (HB6.out.trans (hb7.mono HB6.out.size))
        have q9 : ((er : Int) == er) = true := by simp
        clear hb7 c0 c1' c2' c3' c4' c5' c6' d0 d1 d2 d3 d4 d5 d6
        go_wp2
        go_ret
        exact ⟨rfl, HB7.out⟩
end Go.Proofs.Ytopnmiakljpgbaa
