/-
  The walk of the law NameZones: for every three lists of labels it returns true; no older memory is changed.
-/
import Derived.Test.YtpeojicimmofjaaArgs
import Derived.Test.YtpeojicimmofjaaZonesMath
import Derived.Deep.CutBlock
import Derived.Deep.DeepCutAuto
namespace Go.Proofs.Ytpeojicimmofjaa
open Go.RowKit
theorem came_get {W : World} {a : Option Addr} {len : Nat} (h : Came W a len) (k : Nat) (hk : k < len) : ∃ b off, ∃ s : ByteArray, a = some ⟨b, off, none⟩ ∧ b < W.heap.size ∧ W.cell? ⟨b, off + k, none⟩ = some (.string s) := by
  rcases h with h | ⟨b, off, ss, h1, h2, h3⟩
  · omega
  · exact ⟨b, off, ss k, h1, h2, h3 k hk⟩
set_option maxRecDepth 100000 in
set_option maxHeartbeats 12800000 in
theorem lawZones_any (a0 a1 a2 : Option Addr) (l0 l1 l2 c0 c1 c2 : Nat) (w : World) (h0 : Came w a0 l0) (h1 : Came w a1 l1) (h2 : Came w a2 l2) :
    Calls Try.prog 6 #[.slice a0 l0 c0, .slice a1 l1 c1, .slice a2 l2 c2] w fun e w' => e = .returned (.bool true) ∧ Below w.heap.size w w' := by
  have HC0 := Lib.hid h0
  have HC1 := Lib.hid h1
  have HC2 := Lib.hid h2
  clear h0 h1 h2
  obtain ⟨i0, hi, hz0, hz1, hz2⟩ := info_parts info9
  go_enter Try.func6, Try.ntmps6
  go_upto_block 0 with (go_at_call 8; refine (awake_any w).mono ?_; rintro e w0 ⟨rfl, hb0⟩)
  go_upto_block 0 with fail
  go_cut [8, 9] from 23 to 40 (fun v i wx => ∃ (Q : List Bs) (k : Nat), Q.length ≤ 4 ∧ Own9 wx w.heap.size v (Q) ∧ (∀ x ∈ Q, x.length ≤ 20) ∧ Below w.heap.size w wx ∧ i = .int .i64 k)
  case first =>
    go_wp2_with fail
    go_loopw [8, 9] (fun v i wr => ∃ (k : Nat) (Q : List Bs), k ≤ l0 ∧ k ≤ 4 ∧ i = .int .i64 k ∧ Q.length = k ∧ Own9 wr w.heap.size v (Q) ∧ (∀ x ∈ Q, x.length ≤ 20) ∧ Below w.heap.size w wr) (fun _ i _ => 4 - (intOf i).toNat)
    case atStart => exact ⟨0, [], by omega, by omega, rfl, rfl, own9_nil _ _, fun x hx => by simp at hx, hb0⟩
    case round =>
      obtain ⟨k, Q, hk, hk2, rfl, hl, hown, hsh, hbr⟩ := hrel
      have HO := Lib.hid hown
      have HS := Lib.hid hsh
      have HL := Lib.hid hl
      have HLA : Hid ((Q).length ≤ 100) := Lib.hid (by omega)
      clear hown hsh hl
      by_cases hlt : k < l0
      · have q1 : (k : Int) < (l0 : Int) := by omega
        by_cases hlt2 : k < 4
        · have q2 : (k : Int) < 4 := by omega
          obtain ⟨b, off, s, rfl, hb, hc⟩ := came_get HC0.out k hlt
          have hcell : wr.cell? ⟨b, off + k, none⟩ = some (.string s) := (hbr.cell (p := ⟨b, off + k, none⟩) hb).trans hc
          obtain ⟨t, ht, hshort⟩ := short_any s 20
          have SH := Lib.hid hshort
          have htl : t.data.toList.length ≤ 20 := by rw [← size_list]; exact ht
          have HT := Lib.hid htl
          clear hshort htl hc
          go_wp2_with (first | (go_at_call 9; refine (SH.out _).mono ?_; rintro e w' ⟨rfl, rfl⟩) | (at_builtin; refine wpList_append_own _ rfl (.tmp 33) (.tmp 39) 22 rfl w.heap.size 9 i0 (.string ⟨#[]⟩) 1 16 Try.underlying22 hi hz0 hz1 hz2 rfl (by decide) _ _ _ rfl (World.ownsRow.alloc HO.out _) ⟨wr.heap.size, 0, none⟩ 1 1 [.string t] rfl rfl (cell_one_new _ _ _) (by simp [Value.oneCell']) (by have := HLA.out; unfold maxLen; omega) (by have := HLA.out; omega) (by have := hbr.size; simp; omega) ?_; intro v' w1 hown' hgrow _; have R := Lib.hid (own9_next (x := t.data.toList) HO.out (Nat.le_refl _) hbr hown' hgrow); clear hown' hgrow hcell))
          go_roundw
          case rel => exact ⟨k + 1, Q ++ [t.data.toList], by omega, by omega, by go_num, by rw [List.length_append, HL.out]; rfl, R.out.1, fun x hx => by
            rcases List.mem_append.1 hx with hx | hx
            · exact HS.out x hx
            · rw [List.mem_singleton.1 hx]; exact HT.out, R.out.2⟩
          case measure => simp [intOf]; omega
        · have q2 : decide ((k : Int) < 4) = false := by simp; omega
          go_wp2
          go_meet
          exact ⟨Q, k, by have := HL.out; omega, HO.out, HS.out, hbr, rfl⟩
      · have q1 : decide ((k : Int) < (l0 : Int)) = false := by simp; omega
        go_wp2
        go_meet
        exact ⟨Q, k, by have := HL.out; omega, HO.out, HS.out, hbr, rfl⟩
  case rest =>
    obtain ⟨Q0, k0, hq0, hown, hsh0, hb, rfl⟩ := hcut
    obtain ⟨a, cap, rfl⟩ := row_slice hown
    have HO1 := Lib.hid hown
    have HS0 := Lib.hid hsh0
    have HP1 : Hid (Q0.length ≤ 4) := Lib.hid hq0
    have HBB := Lib.hid hb
    obtain ⟨n, hn⟩ : ∃ n, n = Q0.length := ⟨_, rfl⟩
    rw [← hn]
    rw [← hn] at hq0
    have HN := Lib.hid hn
    have HV1 : Hid (Own9 wc w.heap.size (.slice a n cap) Q0) := Lib.hid (by rw [hn]; exact hown)
    clear hown hsh0 hn hb HO1
    have HO1 := HV1
    go_upto_block 2 with fail
    go_cut [8, 11] from 43 to 60 (fun v i wx => ∃ (Q : List Bs) (k : Nat), Q.length ≤ 4 ∧ Own9 wx w.heap.size v (Q0 ++ Q) ∧ (∀ x ∈ Q, x.length ≤ 20) ∧ Below w.heap.size w wx ∧ i = .int .i64 k)
    case first =>
      go_wp2_with fail
      go_loopw [8, 11] (fun v i wr => ∃ (k : Nat) (Q : List Bs), k ≤ l1 ∧ k ≤ 4 ∧ i = .int .i64 k ∧ Q.length = k ∧ Own9 wr w.heap.size v (Q0 ++ Q) ∧ (∀ x ∈ Q, x.length ≤ 20) ∧ Below w.heap.size w wr) (fun _ i _ => 4 - (intOf i).toNat)
      case atStart => exact ⟨0, [], by omega, by omega, rfl, rfl, by simpa using HO1.out, fun x hx => by simp at hx, HBB.out⟩
      case round =>
        obtain ⟨k, Q, hk, hk2, rfl, hl, hown, hsh, hbr⟩ := hrel
        have HO := Lib.hid hown
        have HS := Lib.hid hsh
        have HL := Lib.hid hl
        have HLA : Hid ((Q0 ++ Q).length ≤ 100) := Lib.hid (by have := HP1.out; rw [List.length_append]; omega)
        clear hown hsh hl
        by_cases hlt : k < l1
        · have q1 : (k : Int) < (l1 : Int) := by omega
          by_cases hlt2 : k < 4
          · have q2 : (k : Int) < 4 := by omega
            obtain ⟨b, off, s, rfl, hb, hc⟩ := came_get HC1.out k hlt
            have hcell : wr.cell? ⟨b, off + k, none⟩ = some (.string s) := (hbr.cell (p := ⟨b, off + k, none⟩) hb).trans hc
            obtain ⟨t, ht, hshort⟩ := short_any s 20
            have SH := Lib.hid hshort
            have htl : t.data.toList.length ≤ 20 := by rw [← size_list]; exact ht
            have HT := Lib.hid htl
            clear hshort htl hc
            go_wp2_with (first | (go_at_call 9; refine (SH.out _).mono ?_; rintro e w' ⟨rfl, rfl⟩) | (at_builtin; refine wpList_append_own _ rfl (.tmp 53) (.tmp 59) 22 rfl w.heap.size 9 i0 (.string ⟨#[]⟩) 1 16 Try.underlying22 hi hz0 hz1 hz2 rfl (by decide) _ _ _ rfl (World.ownsRow.alloc HO.out _) ⟨wr.heap.size, 0, none⟩ 1 1 [.string t] rfl rfl (cell_one_new _ _ _) (by simp [Value.oneCell']) (by have := HLA.out; unfold maxLen; omega) (by have := HLA.out; omega) (by have := hbr.size; simp; omega) ?_; intro v' w1 hown' hgrow _; have R := Lib.hid (own9_next (x := t.data.toList) HO.out (Nat.le_refl _) hbr hown' hgrow); clear hown' hgrow hcell))
            go_roundw
            case rel => exact ⟨k + 1, Q ++ [t.data.toList], by omega, by omega, by go_num, by rw [List.length_append, HL.out]; rfl, by rw [← List.append_assoc]; exact R.out.1, fun x hx => by
              rcases List.mem_append.1 hx with hx | hx
              · exact HS.out x hx
              · rw [List.mem_singleton.1 hx]; exact HT.out, R.out.2⟩
            case measure => simp [intOf]; omega
          · have q2 : decide ((k : Int) < 4) = false := by simp; omega
            go_wp2
            go_meet
            exact ⟨Q, k, by have := HL.out; omega, HO.out, HS.out, hbr, rfl⟩
        · have q1 : decide ((k : Int) < (l1 : Int)) = false := by simp; omega
          go_wp2
          go_meet
          exact ⟨Q, k, by have := HL.out; omega, HO.out, HS.out, hbr, rfl⟩
    case rest =>
      obtain ⟨Q1, k1, hq1, hown, hsh1, hb, rfl⟩ := hcut
      obtain ⟨a, cap, rfl⟩ := row_slice hown
      have HS1 := Lib.hid hsh1
      have HP2 : Hid ((Q0 ++ Q1).length ≤ 8) := Lib.hid (by have := HP1.out; rw [List.length_append]; omega)
      have HBC := Lib.hid hb
      obtain ⟨m, hm⟩ : ∃ m, m = (Q0 ++ Q1).length := ⟨_, rfl⟩
      have hnm : n ≤ m := by rw [hm, HN.out, List.length_append]; omega
      have hm8 : m ≤ 8 := by rw [hm]; exact HP2.out
      rw [← hm]
      have HM := Lib.hid hm
      have HO2 : Hid (Own9 wc w.heap.size (.slice a m cap) (Q0 ++ Q1)) := Lib.hid (by rw [hm]; exact hown)
      clear hown hsh1 hm hb hq1
      go_upto_block 4 with fail
      go_cut [8, 13] from 63 to 80 (fun v i wx => ∃ (Q : List Bs) (k : Nat), Q.length ≤ 4 ∧ Own9 wx w.heap.size v ((Q0 ++ Q1) ++ Q) ∧ (∀ x ∈ Q, x.length ≤ 20) ∧ Below w.heap.size w wx ∧ i = .int .i64 k)
      case first =>
        go_wp2_with fail
        go_loopw [8, 13] (fun v i wr => ∃ (k : Nat) (Q : List Bs), k ≤ l2 ∧ k ≤ 4 ∧ i = .int .i64 k ∧ Q.length = k ∧ Own9 wr w.heap.size v ((Q0 ++ Q1) ++ Q) ∧ (∀ x ∈ Q, x.length ≤ 20) ∧ Below w.heap.size w wr) (fun _ i _ => 4 - (intOf i).toNat)
        case atStart => exact ⟨0, [], by omega, by omega, rfl, rfl, by simpa using HO2.out, fun x hx => by simp at hx, HBC.out⟩
        case round =>
          obtain ⟨k, Q, hk, hk2, rfl, hl, hown, hsh, hbr⟩ := hrel
          have HO := Lib.hid hown
          have HS := Lib.hid hsh
          have HL := Lib.hid hl
          have HLA : Hid (((Q0 ++ Q1) ++ Q).length ≤ 100) := Lib.hid (by have := HP2.out; rw [List.length_append]; omega)
          clear hown hsh hl
          by_cases hlt : k < l2
          · have q1 : (k : Int) < (l2 : Int) := by omega
            by_cases hlt2 : k < 4
            · have q2 : (k : Int) < 4 := by omega
              obtain ⟨b, off, s, rfl, hb, hc⟩ := came_get HC2.out k hlt
              have hcell : wr.cell? ⟨b, off + k, none⟩ = some (.string s) := (hbr.cell (p := ⟨b, off + k, none⟩) hb).trans hc
              obtain ⟨t, ht, hshort⟩ := short_any s 20
              have SH := Lib.hid hshort
              have htl : t.data.toList.length ≤ 20 := by rw [← size_list]; exact ht
              have HT := Lib.hid htl
              clear hshort htl hc
              go_wp2_with (first | (go_at_call 9; refine (SH.out _).mono ?_; rintro e w' ⟨rfl, rfl⟩) | (at_builtin; refine wpList_append_own _ rfl (.tmp 73) (.tmp 79) 22 rfl w.heap.size 9 i0 (.string ⟨#[]⟩) 1 16 Try.underlying22 hi hz0 hz1 hz2 rfl (by decide) _ _ _ rfl (World.ownsRow.alloc HO.out _) ⟨wr.heap.size, 0, none⟩ 1 1 [.string t] rfl rfl (cell_one_new _ _ _) (by simp [Value.oneCell']) (by have := HLA.out; unfold maxLen; omega) (by have := HLA.out; omega) (by have := hbr.size; simp; omega) ?_; intro v' w1 hown' hgrow _; have R := Lib.hid (own9_next (x := t.data.toList) HO.out (Nat.le_refl _) hbr hown' hgrow); clear hown' hgrow hcell))
              go_roundw
              case rel => exact ⟨k + 1, Q ++ [t.data.toList], by omega, by omega, by go_num, by rw [List.length_append, HL.out]; rfl, by rw [← List.append_assoc]; exact R.out.1, fun x hx => by
                rcases List.mem_append.1 hx with hx | hx
                · exact HS.out x hx
                · rw [List.mem_singleton.1 hx]; exact HT.out, R.out.2⟩
              case measure => simp [intOf]; omega
            · have q2 : decide ((k : Int) < 4) = false := by simp; omega
              go_wp2
              go_meet
              exact ⟨Q, k, by have := HL.out; omega, HO.out, HS.out, hbr, rfl⟩
          · have q1 : decide ((k : Int) < (l2 : Int)) = false := by simp; omega
            go_wp2
            go_meet
            exact ⟨Q, k, by have := HL.out; omega, HO.out, HS.out, hbr, rfl⟩
      case rest =>
        obtain ⟨Q2, k2, hq2, hown, hsh2, hb, rfl⟩ := hcut
        obtain ⟨a, cap, rfl⟩ := row_slice hown
        have hcap := own_cap hown
        obtain ⟨A, hA⟩ : ∃ A, A = Q0 ++ Q1 ++ Q2 := ⟨_, rfl⟩
        rw [← hA] at hown hcap ⊢
        obtain ⟨N, hN⟩ : ∃ N, N = A.length := ⟨_, rfl⟩
        rw [← hN] at hown hcap ⊢
        have hmN : m ≤ N := by rw [hN, hA, List.length_append, ← HM.out]; omega
        have hN12 : N ≤ 12 := by rw [hN, hA, List.length_append, ← HM.out]; omega
        have HSH : Hid (∀ x ∈ A, x.length ≤ 20) := Lib.hid (by
          intro x hx
          rw [hA] at hx
          rcases List.mem_append.1 hx with hx | hx
          · rcases List.mem_append.1 hx with hx | hx
            · exact HS0.out x hx
            · exact HS1.out x hx
          · exact hsh2 x hx)
        have HN3 := Lib.hid hN
        have HO3 := Lib.hid hown
        have HBD := Lib.hid hb
        obtain ⟨X, hX⟩ : ∃ X : ByteArray, X = ⟨(tl A 0).toArray⟩ := ⟨_, rfl⟩
        obtain ⟨Y, hY⟩ : ∃ Y : ByteArray, Y = ⟨(tl A n).toArray⟩ := ⟨_, rfl⟩
        obtain ⟨Z, hZ⟩ : ∃ Z : ByteArray, Z = ⟨(tl A m).toArray⟩ := ⟨_, rfl⟩
        have HX : Hid (str (mkS A) = .string X) := Lib.hid (by rw [hX]; rfl)
        have HY : Hid (str (mkS (A.drop n)) = .string Y) := Lib.hid (by rw [hY]; rfl)
        have HZ : Hid (str (mkS (A.drop m)) = .string Z) := Lib.hid (by rw [hZ]; rfl)
        have EX := Lib.hid hX
        have EY := Lib.hid hY
        have EZ := Lib.hid hZ
        have HL : Hid (∀ k, (A.drop k).length ≤ 1000000) := Lib.hid (fun k => by rw [List.length_drop, ← hN]; omega)
        clear hown hsh2 hb hA hN hX hY hZ hq0 hq2 HS0 HS1 HP1 HP2 HO1 HO2 HM HN HV1
        go_wp2_with fail
        refine (make_any _ A wc HO3.out.rd (HL.out 0)).mono ?_
        rintro e w1 ⟨rfl, hb1⟩
        rw [HX.out]
        have HB1 := Lib.hid hb1
        have HW1 := Lib.hid (HBD.out.trans (hb1.mono HBD.out.size))
        clear hb1
        obtain ⟨wd, hwd⟩ : ∃ wd, wd = wc := ⟨_, rfl⟩
        rw [← hwd] at HO3 HB1
        clear hwd
        go_upto_region 18 with fail
        go_cut [16, 17] from 86 to 92 (fun y f wx => y = .string Y ∧ f = .int .i64 (mkE (A.drop n)) ∧ Below w.heap.size w wx ∧ Below wd.heap.size wd wx)
        case first =>
          by_cases hcn : cap = n
          · have S0 := sub_all HO3.out (show n ≤ N by omega)
            rw [if_pos hcn] at S0
            have e1 : N = n := by omega
            rw [hcn, e1, Nat.sub_self] at S0
            have S1 := Lib.hid (S0.below HB1.out)
            clear S0
            subst hcn
            subst e1
            go_wp2_with fail
            refine (make_any _ _ _ S1.out (HL.out _)).mono ?_
            rintro e w2 ⟨rfl, hb2⟩
            rw [HY.out]
            go_wp2
            go_meet
            exact ⟨rfl, rfl, HW1.out.trans (hb2.mono HW1.out.size), HB1.out.trans (hb2.mono HB1.out.size)⟩
          · have S1 := Lib.hid ((sub_ne' HO3.out (show n ≤ N by omega) hcn).below HB1.out)
            go_wp2_with fail
            refine (make_any _ _ _ S1.out (HL.out _)).mono ?_
            rintro e w2 ⟨rfl, hb2⟩
            rw [HY.out]
            go_wp2
            go_meet
            exact ⟨rfl, rfl, HW1.out.trans (hb2.mono HW1.out.size), HB1.out.trans (hb2.mono HB1.out.size)⟩
        case rest =>
          obtain ⟨rfl, rfl, hb2, hb2'⟩ := hcut
          have HW2 := Lib.hid hb2
          have HB2 := Lib.hid hb2'
          clear hb2 hb2'
          go_upto_region 19 with fail
          go_cut [18, 19] from 93 to 99 (fun y f wx => y = .string Z ∧ f = .int .i64 (mkE (A.drop m)) ∧ Below w.heap.size w wx ∧ Below wd.heap.size wd wx)
          case first =>
            by_cases hcn : cap = m
            · have S0 := sub_all HO3.out (show m ≤ N by omega)
              rw [if_pos hcn] at S0
              have e1 : N = m := by omega
              rw [hcn, e1, Nat.sub_self] at S0
              have S1 := Lib.hid (S0.below HB2.out)
              clear S0
              subst hcn
              subst e1
              go_wp2_with fail
              refine (make_any _ _ _ S1.out (HL.out _)).mono ?_
              rintro e w2 ⟨rfl, hb2⟩
              rw [HZ.out]
              go_wp2
              go_meet
              exact ⟨rfl, rfl, HW2.out.trans (hb2.mono HW2.out.size), HB2.out.trans (hb2.mono HB2.out.size)⟩
            · have S1 := Lib.hid ((sub_ne' HO3.out (show m ≤ N by omega) hcn).below HB2.out)
              go_wp2_with fail
              refine (make_any _ _ _ S1.out (HL.out _)).mono ?_
              rintro e w2 ⟨rfl, hb2⟩
              rw [HZ.out]
              go_wp2
              go_meet
              exact ⟨rfl, rfl, HW2.out.trans (hb2.mono HW2.out.size), HB2.out.trans (hb2.mono HB2.out.size)⟩
          case rest =>
            obtain ⟨rfl, rfl, hb3, hb3'⟩ := hcut
            clear hb3'
            have HE : Hid (mkE A = 0 → ∀ k, mkE (A.drop k) = 0) := Lib.hid (fun h k => tl_mk h k)
            obtain ⟨E0, h0⟩ : ∃ E0, E0 = mkE A := ⟨_, rfl⟩
            obtain ⟨E1, h1⟩ : ∃ E1, E1 = mkE (A.drop n) := ⟨_, rfl⟩
            obtain ⟨E2, h2⟩ : ∃ E2, E2 = mkE (A.drop m) := ⟨_, rfl⟩
            rw [← h0, ← h1, ← h2]
            by_cases g : E0 = 0
            · subst g
              have g := h0.symm
              obtain rfl : E1 = 0 := by rw [h1]; exact tl_mk g n
              obtain rfl : E2 = 0 := by rw [h2]; exact tl_mk g m
              clear h0 h1 h2 HE
              have nN : n ≤ A.length := by rw [← HN3.out]; omega
              have mN : m ≤ A.length := by rw [← HN3.out]; omega
              have xx : X.data.toList = tl A 0 := by rw [EX.out]
              have yy : Y.data.toList = tl A n := by rw [EY.out]
              have zz : Z.data.toList = tl A m := by rw [EZ.out]
              have C1 : Hid (∀ d : Int, d = (N : Int) - (n : Int) → (⟨(cutS X.data.toList d).toArray⟩ : ByteArray) = Y) := Lib.hid (fun d hd => by rw [xx, tl_cut g n d (by rw [← HN3.out]; omega), EY.out])
              have C2 : Hid (∀ d : Int, d = (N : Int) - (m : Int) → (⟨(cutS X.data.toList d).toArray⟩ : ByteArray) = Z) := Lib.hid (fun d hd => by rw [xx, tl_cut g m d (by rw [← HN3.out]; omega), EZ.out])
              have C3 : Hid (∀ d : Int, d = (N : Int) + 1 → (⟨(cutS X.data.toList d).toArray⟩ : ByteArray) = X) := Lib.hid (fun d hd => by rw [xx, tl_cut g 0 d (by rw [← HN3.out]; omega), EX.out])
              have C4 : Hid ((⟨(cutS X.data.toList 0).toArray⟩ : ByteArray) = ⟨#[0]⟩) := Lib.hid (by rw [xx, tl_cut g A.length 0 (by simp), tl_end])
              have root : (⟨#[0]⟩ : ByteArray).data.toList = tl A A.length := by rw [tl_end]
              have U1 : Hid (und X.data.toList Y.data.toList = true) := Lib.hid (by rw [xx, yy, tl_und g 0 n (by omega) nN]; simp)
              have U2 : Hid (und Y.data.toList Z.data.toList = true) := Lib.hid (by rw [yy, zz, tl_und g n m nN mN]; simpa using hnm)
              have U3 : Hid (und X.data.toList Z.data.toList = true) := Lib.hid (by rw [xx, zz, tl_und g 0 m (by omega) mN]; simp)
              have U4 : Hid (und X.data.toList X.data.toList = true) := Lib.hid (by rw [xx, tl_und g 0 0 (by omega) (by omega)]; simp)
              have U5 : Hid (und X.data.toList (⟨#[0]⟩ : ByteArray).data.toList = true) := Lib.hid (by rw [root, xx, tl_und g 0 A.length (by omega) (by omega)]; simp)
              have U6 : Hid (und Y.data.toList X.data.toList = ((n : Int) == 0)) := Lib.hid (by rw [yy, xx, tl_und g n 0 nN (by omega), Bool.eq_iff_iff]; simp)
              have S7 : Hid (shr X.data.toList Z.data.toList = (N : Int) - (m : Int)) := Lib.hid (by rw [xx, zz, tl_shr g 0 m (by omega) mN, ← HN3.out]; omega)
              have xs : X.size ≤ 1000000 := by have := tl_len g 0; rw [size_list, xx]; omega
              have ys : Y.size ≤ 1000000 := by have := tl_len g n; rw [size_list, yy]; omega
              have zs : Z.size ≤ 1000000 := by have := tl_len g m; rw [size_list, zz]; omega
              have rs : (⟨#[0]⟩ : ByteArray).size ≤ 1000000 := by decide
              have XS := Lib.hid xs
              have YS := Lib.hid ys
              have ZS := Lib.hid zs
              have RS := Lib.hid rs
              clear nN mN xx yy zz root g xs ys zs rs
              have HF := Lib.hid hb3
              clear hb3
              go_wp2_with fail
              refine (cut_any X XS.out _ _).mono ?_
              rintro e v0 ⟨rfl, q0⟩
              rw [C1.out _ (by omega)]
              have F0 := Lib.hid (HF.out.trans (q0.mono HF.out.size))
              clear q0
              go_wp2_with fail
              refine (cut_any X XS.out _ _).mono ?_
              rintro e v1 ⟨rfl, q1⟩
              rw [C2.out _ (by omega)]
              have F1 := Lib.hid (F0.out.trans (q1.mono F0.out.size))
              clear q1
              go_wp2_with fail
              refine (cut_any X XS.out _ _).mono ?_
              rintro e v2 ⟨rfl, q2⟩
              rw [C3.out _ (by omega)]
              have F2 := Lib.hid (F1.out.trans (q2.mono F1.out.size))
              clear q2
              go_wp2_with fail
              refine (cut_any X XS.out _ _).mono ?_
              rintro e v3 ⟨rfl, q3⟩
              rw [C4.out]
              have F3 := Lib.hid (F2.out.trans (q3.mono F2.out.size))
              clear q3
              go_wp2_with fail
              refine (under_any X Y XS.out YS.out _).mono ?_
              rintro e v4 ⟨rfl, q4⟩
              rw [U1.out]
              have F4 := Lib.hid (F3.out.trans (q4.mono F3.out.size))
              clear q4
              go_wp2_with fail
              refine (under_any Y Z YS.out ZS.out _).mono ?_
              rintro e v5 ⟨rfl, q5⟩
              rw [U2.out]
              have F5 := Lib.hid (F4.out.trans (q5.mono F4.out.size))
              clear q5
              go_wp2_with fail
              refine (under_any X Z XS.out ZS.out _).mono ?_
              rintro e v6 ⟨rfl, q6⟩
              rw [U3.out]
              have F6 := Lib.hid (F5.out.trans (q6.mono F5.out.size))
              clear q6
              go_wp2_with fail
              refine (under_any X X XS.out XS.out _).mono ?_
              rintro e v7 ⟨rfl, q7⟩
              rw [U4.out]
              have F7 := Lib.hid (F6.out.trans (q7.mono F6.out.size))
              clear q7
              go_wp2_with fail
              refine (under_any X ⟨#[0]⟩ XS.out RS.out _).mono ?_
              rintro e v8 ⟨rfl, q8⟩
              rw [U5.out]
              have F8 := Lib.hid (F7.out.trans (q8.mono F7.out.size))
              clear q8
              go_wp2_with fail
              refine (under_any Y X YS.out XS.out _).mono ?_
              rintro e v9 ⟨rfl, q9⟩
              rw [U6.out]
              have F9 := Lib.hid (F8.out.trans (q9.mono F8.out.size))
              clear q9
              go_wp2_with fail
              refine (shared_any X Z XS.out ZS.out _).mono ?_
              rintro e v10 ⟨rfl, q10⟩
              rw [S7.out]
              have F10 := Lib.hid (F9.out.trans (q10.mono F9.out.size))
              clear q10
              go_wp2
              go_ret
              exact ⟨rfl, F10.out⟩
            · have q : (E0 == 0) = false := by simpa using g
              have q' : (E0 != 0) = true := by simpa using g
              clear g h0 h1 h2 HE
              go_wp2
              go_ret
              exact ⟨rfl, hb3⟩

end Go.Proofs.Ytpeojicimmofjaa
