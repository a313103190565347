/-
  What Shared and Less answer, for every two texts; no older memory is changed.
-/
import Derived.Test.YtjoplnkagfkffaaComp
import Derived.Test.YtjoplnkagfkffaaShMath
namespace Go.Proofs.Ytjoplnkagfkffaa
open Go.RowKit
theorem low_length (l : Bs) : (low l).length = l.length := by simp [low]
theorem low_append (a b : Bs) : low (a ++ b) = low a ++ low b := by simp [low]
theorem low_enc1 (x : Bs) (h : OkL x) : low (enc1 x) = enc1 (low x) := by
  have e : (UInt8.ofNat x.length).toNat = x.length := by have := h.2; simp; omega
  have : lowB (UInt8.ofNat x.length) = UInt8.ofNat x.length := by
    unfold lowB; rw [if_neg]; rw [e]; have := h.2; omega
  simp [enc1, low, this]
theorem low_enc (ls : List Bs) (h : ∀ x ∈ ls, OkL x) : low (enc ls) = enc (ls.map low) := by
  induction ls with
  | nil => rfl
  | cons x ls ih => rw [enc_cons, low_append, low_enc1 x (h x (by simp)), ih (fun y hy => h y (by simp [hy])), List.map_cons, enc_cons]
theorem low_ok (ls : List Bs) (h : ∀ x ∈ ls, OkL x) : ∀ x ∈ ls.map low, OkL x := by
  intro x hx
  obtain ⟨y, hy, rfl⟩ := List.mem_map.1 hx
  have := h y hy
  exact ⟨by rw [low_length]; exact this.1, by rw [low_length]; exact this.2⟩
theorem low_step (r : Bs) (h : step r = 0) : step (low r) = 0 := by
  cases r with
  | nil => rfl
  | cons c t =>
    show step (lowB c :: low t) = 0
    simp only [step] at h ⊢
    by_cases h1 : 65 ≤ c.toNat ∧ c.toNat ≤ 90
    · have e : (lowB c).toNat = c.toNat + 32 := by unfold lowB; rw [if_pos h1, UInt8.toNat_add]; simp; omega
      rw [if_neg (by omega)]
    · have e : lowB c = c := by unfold lowB; rw [if_neg h1]
      rw [e, low_length]; exact h
theorem labs_low (l : Bs) : labs (low l) = (labs l).map low := by
  have h := split l
  conv => lhs; rw [← h]
  rw [low_append, low_enc _ (labs_ok l)]
  exact labs_join _ _ (low_ok _ (labs_ok l)) (low_step _ (rest_step l))
theorem rest_low (l : Bs) : rest (low l) = low (rest l) := by
  have h := split l
  conv => lhs; rw [← h]
  rw [low_append, low_enc _ (labs_ok l)]
  exact rest_join _ _ (low_ok _ (labs_ok l)) (low_step _ (rest_step l))
/-- How many of the last labels are the same. -/
def cm (a b : Bs) : Nat := cpl (labs (low a)).reverse (labs (low b)).reverse
def shr (a b : Bs) : Int := if chk a = 0 ∧ chk b = 0 then (cm a b : Int) else -1
theorem shr_yes {a b : Bs} (h1 : chk a = 0) (h2 : chk b = 0) : (cm a b : Int) = shr a b := by unfold shr; rw [if_pos ⟨h1, h2⟩]
theorem shr_no {a b : Bs} (h : ¬ (chk a = 0 ∧ chk b = 0)) : -1 = shr a b := by unfold shr; rw [if_neg h]
theorem eqB_iff (la lb : List Bs) (i : Nat) : eqB la lb i = true ↔ la.reverse.getD i [] = lb.reverse.getD i [] := by
  unfold eqB frl; simp
theorem eqB_no (la lb : List Bs) (i : Nat) : eqB la lb i = false ↔ ¬ la.reverse.getD i [] = lb.reverse.getD i [] := by
  rw [← eqB_iff]; simp
set_option maxRecDepth 100000 in
set_option maxHeartbeats 1600000 in
theorem shared_no (a b : ByteArray) (ha : a.size ≤ 1000000) (hb : b.size ≤ 1000000) (h : ¬ (chk a.data.toList = 0 ∧ chk b.data.toList = 0)) (w : World) :
    Calls Try.prog 25 #[.string a, .string b] w fun e w' => e = .returned (.int .i64 (-1)) ∧ Below w.heap.size w w' := by
  have h1 : (dep a.data.toList = -1 ∧ -1 ≤ dep b.data.toList) ∨ (0 ≤ dep a.data.toList ∧ dep b.data.toList = -1) := by
    unfold dep
    by_cases g1 : chk a.data.toList = 0
    · have g2 : ¬ chk b.data.toList = 0 := fun e => h ⟨g1, e⟩
      rw [if_pos g1, if_neg g2]; right; omega
    · rw [if_neg g1]
      by_cases g2 : chk b.data.toList = 0
      · rw [if_pos g2]; left; omega
      · rw [if_neg g2]; left; omega
  obtain ⟨x, hx⟩ : ∃ x, x = dep a.data.toList := ⟨_, rfl⟩
  obtain ⟨y, hy⟩ : ∃ y, y = dep b.data.toList := ⟨_, rfl⟩
  rw [← hx, ← hy] at h1
  have HX := Lib.hid hx
  have HY := Lib.hid hy
  clear hx hy h
  rcases h1 with ⟨rfl, h2⟩ | ⟨h2, rfl⟩
  all_goals
    go_enter Try.func25, Try.ntmps25
    go_wp2_with fail
    refine (depth_any a (by omega) w).mono ?_
    rintro e w1 ⟨rfl, hb1⟩
    rw [← HX.out]
    go_wp2_with fail
    refine (depth_any b (by omega) w1).mono ?_
    rintro e w2 ⟨rfl, hb2⟩
    rw [← HY.out]
    have hb12 := hb1.trans (hb2.mono hb1.size)
    clear hb1 hb2
    go_wp2
    go_ret
    exact ⟨rfl, hb12⟩
theorem labs_len (s : ByteArray) (hs : s.size ≤ 1000000) : (labs s.data.toList).length ≤ 1000000 := by
  have hel := enc_le s
  have hll := length_le_enc (labs s.data.toList)
  omega
theorem labs_low_len (s : ByteArray) : (labs (low s.data.toList)).length = (labs s.data.toList).length := by rw [labs_low, List.length_map]
set_option maxRecDepth 100000 in
set_option maxHeartbeats 1600000 in
theorem shared_yes (a b : ByteArray) (ha : a.size ≤ 1000000) (hb : b.size ≤ 1000000) (g1 : chk a.data.toList = 0) (g2 : chk b.data.toList = 0) (w : World) :
    Calls Try.prog 25 #[.string a, .string b] w fun e w' => e = .returned (.int .i64 (cm a.data.toList b.data.toList : Int)) ∧ Below w.heap.size w w' := by
  obtain ⟨N, hN⟩ : ∃ N, N = (labs a.data.toList).length := ⟨_, rfl⟩
  obtain ⟨M, hM⟩ : ∃ M, M = (labs b.data.toList).length := ⟨_, rfl⟩
  have HX : Hid (dep a.data.toList = (N : Int)) := Lib.hid (by rw [hN, dep_yes g1])
  have HY : Hid (dep b.data.toList = (M : Int)) := Lib.hid (by rw [hM, dep_yes g2])
  have hNb : N ≤ 1000000 := by rw [hN]; exact labs_len a ha
  have hMb : M ≤ 1000000 := by rw [hM]; exact labs_len b hb
  obtain ⟨la, hla⟩ : ∃ la, la = labs (low a.data.toList) := ⟨_, rfl⟩
  obtain ⟨lb, hlb⟩ : ∃ lb, lb = labs (low b.data.toList) := ⟨_, rfl⟩
  have hlN : la.length = N := by rw [hla, labs_low_len, hN]
  have hlM : lb.length = M := by rw [hlb, labs_low_len, hM]
  have HCM : Hid (cm a.data.toList b.data.toList = cpl la.reverse lb.reverse) := Lib.hid (by unfold cm; rw [hla, hlb])
  have HLA := Lib.hid hla
  have HLB := Lib.hid hlb
  have HLN := Lib.hid hlN
  have HLM := Lib.hid hlM
  clear hN hM g1 g2 hla hlb hlN hlM
  obtain ⟨T, hT1, hT2, hT3⟩ : ∃ T, (T = N ∧ N ≤ M ∨ T = M ∧ M < N) ∧ T ≤ N ∧ T ≤ M := by
    by_cases h : N ≤ M
    · exact ⟨N, .inl ⟨rfl, h⟩, Nat.le_refl _, h⟩
    · exact ⟨M, .inr ⟨rfl, by omega⟩, by omega, Nat.le_refl _⟩
  have HTT : Hid (T = N ∨ T = M) := Lib.hid (by omega)
  have HT2 := Lib.hid hT2
  have HT3 := Lib.hid hT3
  have hmin : ((min (N : Int) (M : Int)) : Int) = (T : Int) := by omega
  have hTb : T ≤ 1000000 := by omega
  clear hT2 hT3
  rcases hT1 with ⟨rfl, hle⟩ | ⟨rfl, hle⟩
  all_goals
    go_enter Try.func25, Try.ntmps25
    go_wp2_with fail
    refine (depth_any a (by omega) w).mono ?_
    rintro e w1 ⟨rfl, hb1⟩
    rw [HX.out]
    go_wp2_with fail
    refine (depth_any b (by omega) w1).mono ?_
    rintro e w2 ⟨rfl, hb2⟩
    rw [HY.out]
    have hb12 := hb1.trans (hb2.mono hb1.size)
    clear hb1 hb2
    go_wp2_with fail
    refine (comp_any a b ha hb w2).mono ?_
    rintro e w3 ⟨f, rfl, hf, hb3⟩
    rw [← HLA.out, ← HLB.out] at hf
    have hb13 := hb12.trans (hb3.mono hb12.size)
    clear hb12 hb3
    obtain ⟨p, q, fa, fb, rfl, hp, hq, hfa, hfb⟩ := hf
    have HP := Lib.hid hp
    have HQ := Lib.hid hq
    have HFA := Lib.hid hfa
    have HFB := Lib.hid hfb
    clear hp hq hfa hfb
    go_wp2
    have HB13 := Lib.hid hb13
    clear hb13
    go_loopw [21] (fun i wr => ∃ k : Nat, k ≤ T ∧ i = .int .i64 k ∧ (∀ j, j < k → la.reverse.getD j [] = lb.reverse.getD j []) ∧ Below w3.heap.size w3 wr) (fun i _ => T - (intOf i).toNat)
    case atStart => exact ⟨0, by omega, rfl, fun j hj => absurd hj (by omega), Below.refl _ _⟩
    case round =>
      obtain ⟨k, hk, rfl, hsame, hbr⟩ := hrel
      have HS := Lib.hid hsame
      clear hsame
      by_cases hlt : k < T
      · have hcmp := Lib.hid (cmp_any k (by omega) p q fa fb la lb (by rw [HLN.out]; omega) (by rw [HLM.out]; omega) wr ((hbr.block _ (Boxed.lt HP.out)).trans HP.out) ((hbr.block _ (Boxed.lt HQ.out)).trans HQ.out) (HFA.out.below hbr) (HFB.out.below hbr))
        by_cases g : eqB la lb k = true
        · have HS2 : Hid (∀ j, j < k + 1 → la.reverse.getD j [] = lb.reverse.getD j []) := Lib.hid (by
            intro j hj
            by_cases e : j < k
            · exact HS.out j e
            · obtain rfl : j = k := by omega
              exact (eqB_iff la lb j).1 g)
          have G := Lib.hid g
          clear g
          go_wp2_with (go_at_call 62; refine hcmp.out.mono ?_; rintro e w4 ⟨rfl, hb4⟩; rw [G.out]; clear hcmp)
          go_roundw
          case rel => exact ⟨k + 1, by omega, by go_num, HS2.out, hbr.trans (hb4.mono hbr.size)⟩
          case measure => simp [intOf]; omega
        · have g' : eqB la lb k = false := by simpa using g
          have HK : Hid (cm a.data.toList b.data.toList = k) := Lib.hid (by
            rw [HCM.out]
            exact cpl_stop _ _ k (by rw [List.length_reverse, HLN.out]; have := HT2.out; omega) (by rw [List.length_reverse, HLM.out]; have := HT3.out; omega) HS.out ((eqB_no la lb k).1 g'))
          have G := Lib.hid g'
          clear g g'
          go_wp2_with (go_at_call 62; refine hcmp.out.mono ?_; rintro e w4 ⟨rfl, hb4⟩; rw [G.out]; clear hcmp)
          go_ret
          exact ⟨ret_i64 (by rw [HK.out]), HB13.out.trans ((hbr.trans (hb4.mono hbr.size)).mono HB13.out.size)⟩
      · have hkT : k = T := by omega
        have HK : Hid (cm a.data.toList b.data.toList = T) := Lib.hid (by
          rw [HCM.out]
          refine cpl_full _ _ T (by rw [List.length_reverse, List.length_reverse, HLN.out, HLM.out]; first | exact .inl rfl | exact .inr rfl) (by rw [List.length_reverse, HLN.out]; exact HT2.out) (by rw [List.length_reverse, HLM.out]; exact HT3.out) (by rw [← hkT]; exact HS.out))
        clear hkT
        go_wp2
        go_ret
        exact ⟨ret_i64 (by rw [HK.out]), HB13.out.trans (hbr.mono HB13.out.size)⟩
theorem shared_any (a b : ByteArray) (ha : a.size ≤ 1000000) (hb : b.size ≤ 1000000) (w : World) :
    Calls Try.prog 25 #[.string a, .string b] w fun e w' => e = .returned (.int .i64 (shr a.data.toList b.data.toList)) ∧ Below w.heap.size w w' := by
  by_cases h : chk a.data.toList = 0 ∧ chk b.data.toList = 0
  · rw [← shr_yes h.1 h.2]; exact shared_yes a b ha hb h.1 h.2 w
  · rw [← shr_no h]; exact shared_no a b ha hb h w
end Go.Proofs.Ytjoplnkagfkffaa
