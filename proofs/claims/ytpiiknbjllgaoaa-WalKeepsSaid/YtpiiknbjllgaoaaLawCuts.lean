/-
  The walk of the law WalCuts: for any texts and any place it returns true; no older memory is changed.
-/
import Derived.Test.YtpiiknbjllgaoaaWAwake
namespace Go.Proofs.Ytpiiknbjllgaoaa
open Go.RowKit
theorem rcs_mono (L : List Bs) {i j : Nat} (h : i ≤ j) : (rcsB (L.take i)).length ≤ (rcsB (L.take j)).length := by
  have e : L.take j = L.take i ++ (L.take j).drop i := by
    conv => lhs; rw [← List.take_append_drop i (L.take j)]
    rw [List.take_take, Nat.min_eq_left h]
  rw [e, rcs_append, List.length_append]
  omega
theorem wh_is (L : List Bs) (j k : Nat) (hj : j ≤ L.length) (h1 : (rcsB (L.take j)).length ≤ k) (h2 : j = L.length ∨ k < (rcsB (L.take (j + 1))).length) : j = wh L k := by
  have a := wh_firm L j hj h1
  rcases h2 with h2 | h2
  · have := wh_le L k; omega
  · by_cases h : j = wh L k
    · exact h
    · have := wh_len L k
      have := rcs_mono L (show j + 1 ≤ wh L k by omega)
      omega
theorem all_one {s : Bs} (h : s.length ≤ 60000) : allB [s] = rcB s ∧ allE [s] = 0 := by
  have hf : Fit [s] := fun x hx => by simp at hx; subst hx; exact h
  obtain ⟨e1, e2⟩ := all_fit hf
  exact ⟨by rw [e2]; simp [rcsB], e1⟩
theorem info3 : (Try.prog.info? 3).map (fun i => (i.zero, i.size, i.bytes)) = some (some (.int .i64 0), 1, 8) := by kernel_rfl
/-- Where the records end. -/
def endV (L : List Bs) (i : Nat) : Value := .int .i64 ((rcsB (L.take (i + 1))).length : Int)
def ends (L : List Bs) (k : Nat) : List Value := (List.range k).map (endV L)
theorem ends_length (L : List Bs) (k : Nat) : (ends L k).length = k := by simp [ends]
theorem ends_succ (L : List Bs) (k : Nat) : ends L (k + 1) = ends L k ++ [endV L k] := by
  unfold ends; rw [List.range_succ, List.map_append]; rfl
theorem ends_get (L : List Bs) (k i : Nat) (h : i < k) : (ends L k)[i]? = some (endV L i) := by
  unfold ends; simp [h]
theorem few_all (l : List ByteArray) : (rcsB (few l)).length ≤ 1664 := by
  have h : ∀ L : List Bs, (∀ s ∈ L, s.length ≤ 200) → (rcsB L).length ≤ 208 * L.length := by
    intro L hL
    induction L with
    | nil => exact Nat.le_refl _
    | cons s L ih =>
      have h1 := hL s (by simp)
      have h2 := ih (fun x hx => hL x (List.mem_cons_of_mem _ hx))
      simp only [rcsB, List.length_append, rcB_length, List.length_cons]
      omega
  have h1 := h (few l) (few_size l)
  have h2 := few_length l
  omega
theorem rcs_least (L : List Bs) : 8 * L.length ≤ (rcsB L).length := by
  induction L with
  | nil => exact Nat.le_refl _
  | cons s L ih => simp only [rcsB, List.length_append, rcB_length, List.length_cons]; omega
theorem take_fit {L : List Bs} (h : ∀ s ∈ L, s.length ≤ 200) (k : Nat) : (rcsB (L.take k)).length ≤ 208 * k := by
  induction k generalizing L with
  | zero => simp [rcsB]
  | succ k ih =>
    cases L with
    | nil => simp [rcsB]
    | cons s L =>
      have h1 := h s (by simp)
      have h2 := ih (L := L) (fun x hx => h x (List.mem_cons_of_mem _ hx))
      simp only [List.take_succ_cons, rcsB, List.length_append, rcB_length]
      omega
theorem own_shape {w : World} {base e n : Nat} {v : Value} {xs : List Value} (h : w.ownsRow base e 1 v n xs) : ∃ a cap, v = .slice a n cap ∧ n ≤ cap ∧ cap ≤ maxLen ∧ ∀ i x, xs[i]? = some x → ∃ g, a = some ⟨g, 0, none⟩ ∧ w.cell? ⟨g, i, none⟩ = some x := by
  have hc := @World.ownsRow.cells w base e 1 v n _ h
  have hl := h.1
  rcases h.2 with ⟨rfl, h0⟩ | ⟨g, cap, cur, rfl, _, _, h1, h2, _⟩
  · refine ⟨none, 0, by rw [h0], by omega, Nat.zero_le _, fun i x hx => ?_⟩
    have := (List.getElem?_eq_some_iff.1 hx).1
    omega
  · refine ⟨_, cap, rfl, h1, h2, fun i x hx => ⟨g, rfl, ?_⟩⟩
    have := hc (g := g) rfl i x hx
    rwa [Addr.add_lit, Nat.zero_add] at this
theorem pos_rem (a : Int) (N : Nat) : ∃ P : Nat, a % ((N : Int) + 1) = (P : Int) ∧ P ≤ N := by
  have h1 := Int.emod_nonneg a (b := (N : Int) + 1) (by omega)
  have h2 := Int.emod_lt_of_pos a (b := (N : Int) + 1) (by omega)
  exact ⟨(a % ((N : Int) + 1)).toNat, by omega, by omega⟩
theorem neg_rem (a : Int) (N : Nat) (ha : a < 0) : ∃ P : Nat, -(a + 1).tmod ((N : Int) + 1) = (P : Int) ∧ P ≤ N := by
  obtain ⟨P, h1, h2⟩ := pos_rem (-(a + 1)) N
  refine ⟨P, ?_, h2⟩
  rw [← Int.neg_tmod, Int.tmod_eq_emod_of_nonneg (by omega), h1]
set_option maxRecDepth 100000 in
set_option maxHeartbeats 25600000 in
theorem lawCuts_any (at_ : Int) (hat : I64 at_) (v : Value) (w : World) (hv : ∃ l, RdS w v l) : Calls Try.prog 6 #[v, .int .i64 at_] w fun e w' => e = .returned (.bool true) ∧ Below w.heap.size w w' := by
  obtain ⟨l, hl⟩ := hv
  obtain ⟨i3, hi, hz0, hz1, hz2⟩ := info_parts info3
  have HL := Lib.hid hl
  have HAW := Lib.hid (awake_any w)
  obtain ⟨hat1, hat2⟩ := hat
  obtain ⟨a, n, cap, rfl⟩ : ∃ a n cap, v = .slice a n cap := by obtain ⟨a, cap, e, _⟩ := hl; exact ⟨a, _, cap, e⟩
  clear hl
  go_enter Try.func6, Try.ntmps6
  go_wp2_with fail
  refine HAW.out.mono ?_
  rintro e w1 ⟨rfl, hb1⟩
  have HB1 := Lib.hid hb1
  have HFEW := Lib.hid (few_any (HL.out.below hb1))
  clear hb1 HAW
  go_wp2_with fail
  refine HFEW.out.mono ?_
  rintro e w2 ⟨u, rfl, hrd, hown, hb2⟩
  have HB2 := Lib.hid (HB1.out.trans (hb2.mono HB1.out.size))
  obtain ⟨L, hLL⟩ : ∃ L, L = few l := ⟨_, rfl⟩
  have hn8 : L.length ≤ 8 := by rw [hLL]; exact few_length l
  have HSZ : Hid (∀ s ∈ L, s.length ≤ 200) := Lib.hid (by rw [hLL]; exact few_size l)
  have HFIT : Hid (Fit L) := Lib.hid (by rw [hLL]; exact few_fit l)
  have hRl : (rcsB L).length ≤ 1664 := by rw [hLL]; exact few_all l
  rw [← hLL] at hrd
  have HRD := Lib.hid hrd
  obtain ⟨a2, cap2, rfl, h1, h2, h3⟩ := hrd.cells
  rw [ab_length] at h1 ⊢
  have HC : Hid (∀ w', Below w2.heap.size w2 w' → ∀ k s, L[k]? = some s → ∃ g o, a2 = some ⟨g, o, none⟩ ∧ w'.cell? ⟨g, o + k, none⟩ = some (str s)) := Lib.hid (fun w' hb k s hk => h3 w' hb k _ (by unfold ab; rw [List.getElem?_map, hk]; rfl))
  obtain ⟨m, hm⟩ : ∃ m, m = L.length := ⟨_, rfl⟩
  have HM := Lib.hid hm
  rw [← hm] at hn8 h1 ⊢
  clear hrd hown hb2 hLL h3 hm HFEW HB1 HL
  go_wp2
  go_loopw [7, 8, 9, 10, 11] (fun s e i _r _q wr => ∃ k : Nat, k ≤ m ∧ i = .int .i64 (k : Int) ∧ s = str (rcsB (L.take k)) ∧ wr.ownsRow w2.heap.size 3 1 e k (ends L k) ∧ Below w2.heap.size w2 wr) (fun _ _ i _ _ _ => m - (intOf i).toNat)
  case atStart => exact ⟨0, by omega, rfl, rfl, World.ownsRow_nil _ _ _ _, Below.refl _ _⟩
  case round =>
    obtain ⟨k, hk, rfl, rfl, hrow, hbr⟩ := hrel
    have HROW := Lib.hid hrow
    have HBR := Lib.hid hbr
    clear hrow hbr
    by_cases hlt : k < m
    · have q : (k : Int) < (m : Int) := by omega
      have q2 : decide (k < m) = true := by simp; omega
      obtain ⟨s, hs⟩ : ∃ s, L[k]? = some s := ⟨_, List.getElem?_eq_getElem (by rw [← HM.out]; exact hlt)⟩
      obtain ⟨g, o, rfl, c1⟩ := HC.out wr HBR.out k s hs
      have hsl : s.length ≤ 200 := HSZ.out s (List.mem_of_getElem? hs)
      have hrec := record_any s (by omega) wr
      rw [(all_one (by omega)).1, (all_one (by omega)).2] at hrec
      have HREC := Lib.hid hrec
      have hRk := take_fit HSZ.out k
      have hRk1 := take_fit HSZ.out (k + 1)
      have HT := Lib.hid (rcs_snoc L k s hs)
      have HEV : Hid (endV L k = .int .i64 ((rcsB (L.take (k + 1))).length : Int)) := Lib.hid rfl
      obtain ⟨A, hA⟩ : ∃ A, A = rcsB (L.take k) := ⟨_, rfl⟩
      obtain ⟨C, hC⟩ : ∃ C, C = rcsB (L.take (k + 1)) := ⟨_, rfl⟩
      rw [← hA] at HT hRk
      rw [← hC] at HT hRk1 HEV
      rw [← hA]
      obtain ⟨r, hr⟩ : ∃ r, r = rcB s := ⟨_, rfl⟩
      rw [← hr] at HREC HT
      have hadd : ∀ w, (Op.stringOp .add ⟨A.toArray⟩ ⟨r.toArray⟩).run Try.prog w = .ok (str C) w := fun w => by
        have h := run_string_add_lists (P := Try.prog) (w := w) A r (by omega) (by rw [hr, rcB_length]; omega)
        rw [h, HT.out]
      have hCs : (⟨C.toArray⟩ : ByteArray).size = C.length := ba_size C
      have HCC := Lib.hid hC
      clear hs hrec hA hC hr
      go_wp2_with fail
      refine HREC.out.mono ?_
      rintro e w3 ⟨rfl, hb3⟩
      have HB3 := Lib.hid (HBR.out.trans (hb3.mono HBR.out.size))
      have HR3 := Lib.hid (own_below HROW.out hb3)
      have hs3 := HB3.out.size
      clear hb3
      go_wp2_with (at_builtin; refine wpList_append_own_at _ rfl (.tmp 38) (.tmp 41) 39 rfl w2.heap.size 3 i3 (.int .i64 0) 1 8 Try.underlying39 hi hz0 hz1 hz2 rfl (by decide) _ k (ends L k) rfl (own_below HR3.out ((Below.refl _ _).alloc (Nat.le_refl _) _)) ⟨w3.heap.size, 0, none⟩ 1 1 [.int .i64 (C.length : Int)] rfl rfl (fun j u hj => World.news_of_block (cs := #[.int .i64 (C.length : Int)]) (t := 3) (fr := (0, 0)) (heap_alloc_new w3 _) j u hj) (by simp [Value.oneCell']) (by unfold maxLen; omega) (by omega) (by simp; omega) ?_)
      intro v' w4 hown4 hg4 _ hloc
      have HO4 : Hid (w4.ownsRow w2.heap.size 3 1 v' (k + 1) (ends L (k + 1))) := Lib.hid (by rw [ends_succ, HEV.out]; exact hown4)
      have HB4 : Hid (Below w2.heap.size w2 w4) := Lib.hid ((HB3.out.alloc HB3.out.size _).grown hg4 (by simp; omega) (fun j hj => (World.ownsRow.lt HR3.out j hj).1))
      clear hown4 hg4 hloc
      go_wp2
      go_roundw
      case rel => exact ⟨k + 1, by omega, by go_num, by rw [HCC.out], HO4.out, HB4.out⟩
      case measure => simp [intOf]; omega
    · have q : decide ((k : Int) < (m : Int)) = false := by simp; omega
      have q2 : decide (k < m) = false := by simp; omega
      have hkm : k = m := by omega
      have eL : L.take k = L := List.take_of_length_le (by rw [← HM.out]; omega)
      rw [eL]
      subst hkm
      obtain ⟨R, hR⟩ : ∃ R, R = rcsB L := ⟨_, rfl⟩
      have HR := Lib.hid hR
      rw [← hR] at hRl ⊢
      have hRs : (⟨R.toArray⟩ : ByteArray).size = R.length := ba_size R
      clear hR eL
      have hP : ∃ P : Nat, P ≤ R.length ∧ ((at_ < 0 ∧ -(at_ + 1).tmod ((R.length : Int) + 1) = (P : Int)) ∨ (¬ at_ < 0 ∧ at_ % ((R.length : Int) + 1) = (P : Int))) := by
        by_cases h : at_ < 0
        · obtain ⟨P, h1, h2⟩ := neg_rem at_ R.length h
          exact ⟨P, h2, .inl ⟨h, h1⟩⟩
        · obtain ⟨P, h1, h2⟩ := pos_rem at_ R.length
          exact ⟨P, h2, .inr ⟨h, h1⟩⟩
      obtain ⟨P, hPl, hP⟩ := hP
      have hRR := cuts L HFIT.out P (by rw [← HR.out]; exact hPl)
      rw [← HR.out] at hRR
      have hcut := pc_to ⟨R.toArray⟩ P (by rw [hRs]; exact hPl) .i64
      have hcut : ∀ w, (Instr.slice 9 (str R) none (some (.int .i64 (P : Int))) none).run Try.prog w = .ok (str (R.take P)) w := hcut
      have HREC : Hid (∀ w', Calls Try.prog 13 #[str (R.take P)] w' fun e w2 => ∃ v, e = .returned (.tuple #[v, .int .i64 ((rcsB (L.take (wh L P))).length : Int)]) ∧ RdB w2 v (L.take (wh L P)) ∧ Below w'.heap.size w' w2) := Lib.hid (fun w' => (records_any ⟨(R.take P).toArray⟩ (by rw [ba_size, List.length_take]; omega) w').mono (by
        rintro e w2 ⟨v, rfl, h1, _, h2⟩
        have e1 : recs (⟨(R.take P).toArray⟩ : ByteArray).data.toList = L.take (wh L P) := hRR
        rw [e1] at h1 ⊢
        exact ⟨v, rfl, h1, h2⟩))
      have hleast := rcs_least L
      rw [← HM.out, ← HR.out] at hleast
      have HPL := Lib.hid hPl
      obtain ⟨ae, ce, rfl, hce1, hce2, hce3⟩ := own_shape HROW.out
      have HE : Hid (∀ j, j < k → ∃ g, ae = some ⟨g, 0, none⟩ ∧ wr.cell? ⟨g, j, none⟩ = some (.int .i64 ((rcsB (L.take (j + 1))).length : Int))) := Lib.hid (fun j hj => hce3 j _ (ends_get L k j hj))
      have hWB := HBR.out.size
      clear hRR hce3
      rcases hP with ⟨hneg, hP⟩ | ⟨hneg, hP⟩
      all_goals
        have hneg' := hneg
        clear hneg
        go_wp2
        go_loopw [13, 14] (fun jv nv wx => ∃ j : Nat, j ≤ k ∧ jv = .int .i64 (j : Int) ∧ nv = .int .i64 ((rcsB (L.take j)).length : Int) ∧ (rcsB (L.take j)).length ≤ P ∧ wr = wx) (fun jv _ _ => k - (intOf jv).toNat)
        case atStart => exact ⟨0, by omega, rfl, rfl, Nat.zero_le _, rfl⟩
        case round =>
          obtain ⟨j, hj, rfl, rfl, hjP, rfl⟩ := hrel
          have HJP := Lib.hid hjP
          clear hjP
          by_cases hc : j < k ∧ (rcsB (L.take (j + 1))).length ≤ P
          · obtain ⟨hjk, hle⟩ := hc
            have q3 : (j : Int) < (k : Int) := by omega
            have q4 : decide (j < k) = true := by simp; omega
            obtain ⟨g, rfl, ce1⟩ := HE.out j hjk
            obtain ⟨Ej, hEj⟩ : ∃ Ej, Ej = (rcsB (L.take (j + 1))).length := ⟨_, rfl⟩
            have HEJ := Lib.hid hEj
            rw [← hEj] at ce1 hle
            have q5 : (Ej : Int) ≤ (P : Int) := by omega
            have q6 : decide (Ej ≤ P) = true := by simp; omega
            clear hEj
            go_wp2
            go_roundw
            case rel => exact ⟨j + 1, by omega, by go_num, by rw [HEJ.out], by rw [← HEJ.out]; exact hle, trivial⟩
            case measure => simp [intOf]; omega
          · have HWH : Hid (j = wh L P) := Lib.hid (wh_is L j P (by rw [← HM.out]; exact hj) HJP.out (by rw [← HM.out]; omega))
            obtain ⟨N, hN⟩ : ∃ N, N = (rcsB (L.take j)).length := ⟨_, rfl⟩
            have HN := Lib.hid hN
            rw [← hN]
            have hNP : N ≤ P := by rw [hN]; exact HJP.out
            obtain ⟨u2, hsl, hu2⟩ := (HRD.out.below HBR.out).take j (by rw [ab_length, ← HM.out]; exact hj)
            rw [ab_length, ← HM.out] at hsl
            have HU2 := Lib.hid hu2
            obtain ⟨au, cu, rfl, _⟩ := hu2
            have hlj : ((ab L).take j).length = j := by rw [List.length_take, ab_length, ← HM.out]; omega
            rw [hlj] at hsl HU2
            clear hlj
            have hR8 : decide (8 * (k : Int) ≤ (R.length : Int)) = true := by simp; omega
            have hR8' : decide (8 * k ≤ R.length) = true := by simp; omega
            by_cases hjk : j < k
            case' pos =>
              have q3 : (j : Int) < (k : Int) := by omega
              have q4 : decide (j < k) = true := by simp; omega
              obtain ⟨g, rfl, ce1⟩ := HE.out j hjk
              obtain ⟨Ej, hEj⟩ : ∃ Ej, Ej = (rcsB (L.take (j + 1))).length := ⟨_, rfl⟩
              rw [← hEj] at ce1 hc
              have q5 : decide ((Ej : Int) ≤ (P : Int)) = false := by simp; omega
              have q6 : decide (Ej ≤ P) = false := by simp; omega
              clear hEj
            case' neg =>
              have q3 : decide ((j : Int) < (k : Int)) = false := by simp; omega
              have q4 : decide (j < k) = false := by simp; omega
            all_goals
              clear hN hc
              go_wp2_with fail
              refine (HREC.out _).mono ?_
              rintro e w5 ⟨v5, rfl, hr5, hb5⟩
              have HB5 := Lib.hid hb5
              rw [← HWH.out] at hr5 ⊢
              rw [← HN.out]
              have HSAME := Lib.hid (same_any hr5 (HU2.out.below hb5) (by rw [ab_length, List.length_take]; have := HM.out; omega))
              have HEQ : Hid (decide (ab (L.take j) = (ab L).take j) = true) := Lib.hid (by rw [decide_eq_true_eq]; unfold ab; rw [List.map_take])
              rw [HEQ.out] at HSAME
              obtain ⟨a5, c5, rfl, _⟩ := hr5
              have hlj : (ab (L.take j)).length = j := by rw [ab_length, List.length_take, ← HM.out]; omega
              rw [hlj] at HSAME ⊢
              clear hb5 hlj
              go_wp2_with fail
              refine HSAME.out.mono ?_
              rintro e w6 ⟨rfl, hb6⟩
              have HB6 : Hid (Below w.heap.size w w6) := Lib.hid (((HB2.out.trans (HBR.out.mono HB2.out.size)).trans (HB5.out.mono (Nat.le_trans HB2.out.size HBR.out.size))).trans (hb6.mono (Nat.le_trans (Nat.le_trans HB2.out.size HBR.out.size) HB5.out.size)))
              clear hb6
              go_wp2
              go_ret
              exact ⟨rfl, HB6.out⟩
end Go.Proofs.Ytpiiknbjllgaoaa
