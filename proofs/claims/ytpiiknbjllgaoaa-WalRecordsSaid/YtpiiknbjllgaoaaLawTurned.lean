/-
  The walk of the law WalTurned: for any texts, any place and any byte it returns true; no older memory is changed.
-/
import Derived.Test.YtpiiknbjllgaoaaLawCuts
namespace Go.Proofs.Ytpiiknbjllgaoaa
open Go.RowKit
/-- Bytes that lie in memory of one's own. -/
def Bys (w : World) (g : Nat) (l : Bs) : Prop := ∀ j x, l[j]? = some x → w.cell? ⟨g, j, none⟩ = some (.int .u8 (x.toNat : Int)) ∧ w.frozen? ⟨g, j, none⟩ = false
theorem bys_set {w : World} {g : Nat} {l : Bs} (h : Bys w g l) (j : Nat) (hj : j < l.length) (x : UInt8) : Bys (w.setCell ⟨g, j, none⟩ (.int .u8 (x.toNat : Int))) g (l.set j x) := by
  intro k y hk
  have hkl : k < l.length := by
    have := (List.getElem?_eq_some_iff.1 hk).1
    simpa using this
  refine ⟨?_, (World.frozen?_setCell _ _ _ _).trans (h k l[k] (List.getElem?_eq_getElem hkl)).2⟩
  by_cases e : j = k
  · subst e
    rw [World.cell?_setCell_same _ _ _ (h j l[j] (List.getElem?_eq_getElem hj)).1]
    rw [List.getElem?_set_self (by simpa using hj)] at hk
    rw [Option.some.inj hk]
  · rw [World.cell?_setCell_other _ _ _ _ (fun he => e (congrArg Addr.off he))]
    rw [List.getElem?_set_ne e] at hk
    exact (h k y hk).1
theorem bys_new (w : World) (t : ByteArray) (cap F e : Nat) (hF : t.size ≤ F) : Bys (w.alloc (.cells (bytesRow t cap) e (F, F + 1))) w.heap.size t.data.toList := by
  intro j x hj
  have hjl : j < t.data.size := by
    have := (List.getElem?_eq_some_iff.1 hj).1
    simpa using this
  have hx : t.data[j] = x := by
    have := (List.getElem?_eq_some_iff.1 hj).2
    simpa using this
  have hs : j < t.size := hjl
  rw [World.cell?_alloc_mark, World.frozen?_alloc_mark, bytesRow_at t cap j hjl, hx]
  exact ⟨rfl, by simp; omega⟩
theorem row_size (t : ByteArray) (c : Nat) : t.size ≤ (bytesRow t c).size := by
  unfold bytesRow
  rw [Array.size_append, Array.size_map]
  exact Nat.le_add_right _ _
theorem bys_back {w : World} {g : Nat} {l : Bs} (h : Bys w g l) (c : Nat) : (convert 31 9 (.slice (some ⟨g, 0, none⟩) l.length c)).run Try.prog w = .ok (.string ⟨l.toArray⟩) w :=
  run_convert_bytes_back (P := Try.prog) w 31 9 5 ⟨g, 0, none⟩ c l Try.underlying31 Try.underlying5 Try.underlying9 (fun j hj => by
    rw [Addr.add_lit, Nat.zero_add]
    exact (h j _ (List.getElem?_eq_getElem hj)).1)
theorem conv_bys (t : ByteArray) (w : World) : ∃ C w2, (convert 9 31 (.string t)).run Try.prog w = .ok (.slice (some ⟨w.heap.size, 0, none⟩) t.size C) w2 ∧ t.size ≤ C ∧ Bys w2 w.heap.size t.data.toList ∧ Below w.heap.size w w2 ∧ w2.heap.size = w.heap.size + 1 :=
  ⟨_, _, conv_of t w, grownCap_ge w t.size 0 5, bys_new w.drew t _ _ 5 (row_size t _), ((Below.refl _ w).drew).alloc (Nat.le_refl _) _, by simp⟩
/-- What is read of a log one of whose bytes is turned. -/
theorem turned_recs (L : List Bs) (h : Fit L) (P : Nat) (hP : P < (rcsB L).length) (h4 : (rcsB (L.take (wh L P))).length + 4 ≤ P) (x : UInt8) (hx : x ≠ 0) : recs ((rcsB L).set P ((rcsB L)[P] ^^^ x)) = L.take (wh L P) := by
  have hW : wh L P < L.length := by
    by_cases e : wh L P < L.length
    · exact e
    · have h1 := wh_le L P
      have h2 := wh_len L P
      rw [List.take_of_length_le (by omega)] at h2
      omega
  have hn := wh_next L P hW
  obtain ⟨s, hs⟩ : ∃ s, L[wh L P]? = some s := ⟨_, List.getElem?_eq_getElem hW⟩
  have hsl : s.length ≤ 60000 := h s (List.mem_of_getElem? hs)
  rw [rcs_snoc L _ s hs, List.length_append] at hn
  obtain ⟨j, hj⟩ : ∃ j, P = (rcsB (L.take (wh L P))).length + j := ⟨P - (rcsB (L.take (wh L P))).length, by omega⟩
  have hL : rcsB L = rcsB (L.take (wh L P)) ++ (rcB s ++ rcsB (L.drop (wh L P + 1))) := by
    conv => lhs; rw [← List.take_append_drop (wh L P + 1) L]
    rw [rcs_append, rcs_snoc L _ s hs, List.append_assoc]
  have hjs : j < (rcB s).length := by omega
  generalize wh L P = W at *
  have e : (rcsB L).set P ((rcsB L)[P] ^^^ x) = rcsB (L.take W) ++ ((rcB s).set j ((rcB s)[j] ^^^ x) ++ rcsB (L.drop (W + 1))) := by
    have hg : (rcsB L)[P] = (rcB s)[j] := by
      have h1 : (rcsB L)[P]? = (rcB s)[j]? := by
        rw [hL, hj, List.getElem?_append_right (by omega), Nat.add_sub_cancel_left, List.getElem?_append_left hjs]
      rw [List.getElem?_eq_getElem hP, List.getElem?_eq_getElem hjs] at h1
      exact Option.some.inj h1
    rw [hg]
    conv => lhs; rw [hL]
    rw [hj, List.set_append_right _ _ (by omega), Nat.add_sub_cancel_left, List.set_append_left _ _ hjs]
  rw [e, recs_app _ (h.take W), recs_none (turned_none s _ hsl j (by omega) hjs x hx), List.append_nil]
theorem turned_any (L : List Bs) (h : Fit L) (R : Bs) (hR : R = rcsB L) (P : Nat) (hP : P < R.length) (h4 : (rcsB (L.take (wh L P))).length + 4 ≤ P) (x : UInt8) (hx : x ≠ 0) : recs (R.set P (R[P] ^^^ x)) = L.take (wh L P) := by
  subst hR
  exact turned_recs L h P hP h4 x hx
set_option maxRecDepth 100000 in
set_option maxHeartbeats 25600000 in
theorem lawTurned_any (at_ : Int) (hat : I64 at_) (t : Nat) (ht : t < 256) (v : Value) (w : World) (hv : ∃ l, RdS w v l) : Calls Try.prog 5 #[v, .int .i64 at_, .int .u8 (t : Int)] w fun e w' => e = .returned (.bool true) ∧ Below w.heap.size w w' := by
  obtain ⟨l, hl⟩ := hv
  obtain ⟨i3, hi, hz0, hz1, hz2⟩ := info_parts info3
  have HL := Lib.hid hl
  have HAW := Lib.hid (awake_any w)
  obtain ⟨hat1, hat2⟩ := hat
  obtain ⟨a, n, cap, rfl⟩ : ∃ a n cap, v = .slice a n cap := by obtain ⟨a, cap, e, _⟩ := hl; exact ⟨a, _, cap, e⟩
  clear hl
  go_enter Try.func5, Try.ntmps5
  go_wp2_with fail
  refine HAW.out.mono ?_
  rintro e w1 ⟨rfl, hb1⟩
  have HB1 := Lib.hid hb1
  have HFEW := Lib.hid (few_any (HL.out.below hb1))
  clear hb1 HAW
  go_wp2_with fail
  refine HFEW.out.mono ?_
  rintro e w2 ⟨u, rfl, hrd, hown, hb2⟩
  have HB2 := Lib.hid (HB1.out.trans (hb2.mono HB1.out.size))
  obtain ⟨L, hLL⟩ : ∃ L, L = few l := ⟨_, rfl⟩
  have hn8 : L.length ≤ 8 := by rw [hLL]; exact few_length l
  have HSZ : Hid (∀ s ∈ L, s.length ≤ 200) := Lib.hid (by rw [hLL]; exact few_size l)
  have HFIT : Hid (Fit L) := Lib.hid (by rw [hLL]; exact few_fit l)
  have hRl : (rcsB L).length ≤ 1664 := by rw [hLL]; exact few_all l
  rw [← hLL] at hrd
  have HRD := Lib.hid hrd
  obtain ⟨a2, cap2, rfl, h1, h2, h3⟩ := hrd.cells
  rw [ab_length] at h1 ⊢
  have HC : Hid (∀ w', Below w2.heap.size w2 w' → ∀ k s, L[k]? = some s → ∃ g o, a2 = some ⟨g, o, none⟩ ∧ w'.cell? ⟨g, o + k, none⟩ = some (str s)) := Lib.hid (fun w' hb k s hk => h3 w' hb k _ (by unfold ab; rw [List.getElem?_map, hk]; rfl))
  obtain ⟨m, hm⟩ : ∃ m, m = L.length := ⟨_, rfl⟩
  have HM := Lib.hid hm
  rw [← hm] at hn8 h1 ⊢
  clear hrd hown hb2 hLL h3 hm HFEW HB1 HL
  go_wp2
  go_loopw [9, 10, 11, 12, 13] (fun s e i _r _q wr => ∃ k : Nat, k ≤ m ∧ i = .int .i64 (k : Int) ∧ s = str (rcsB (L.take k)) ∧ wr.ownsRow w2.heap.size 3 1 e k (ends L k) ∧ Below w2.heap.size w2 wr) (fun _ _ i _ _ _ => m - (intOf i).toNat)
  case atStart => exact ⟨0, by omega, rfl, rfl, World.ownsRow_nil _ _ _ _, Below.refl _ _⟩
  case round =>
    obtain ⟨k, hk, rfl, rfl, hrow, hbr⟩ := hrel
    have HROW := Lib.hid hrow
    have HBR := Lib.hid hbr
    clear hrow hbr
    by_cases hlt : k < m
    · have q : (k : Int) < (m : Int) := by omega
      have q2 : decide (k < m) = true := by simp; omega
      obtain ⟨s, hs⟩ : ∃ s, L[k]? = some s := ⟨_, List.getElem?_eq_getElem (by rw [← HM.out]; exact hlt)⟩
      obtain ⟨g, o, rfl, c1⟩ := HC.out wr HBR.out k s hs
      have hsl : s.length ≤ 200 := HSZ.out s (List.mem_of_getElem? hs)
      have hrec := record_any s (by omega) wr
      rw [(all_one (by omega)).1, (all_one (by omega)).2] at hrec
      have HREC := Lib.hid hrec
      have hRk := take_fit HSZ.out k
      have hRk1 := take_fit HSZ.out (k + 1)
      have HT := Lib.hid (rcs_snoc L k s hs)
      have HEV : Hid (endV L k = .int .i64 ((rcsB (L.take (k + 1))).length : Int)) := Lib.hid rfl
      obtain ⟨A, hA⟩ : ∃ A, A = rcsB (L.take k) := ⟨_, rfl⟩
      obtain ⟨C, hC⟩ : ∃ C, C = rcsB (L.take (k + 1)) := ⟨_, rfl⟩
      rw [← hA] at HT hRk
      rw [← hC] at HT hRk1 HEV
      rw [← hA]
      obtain ⟨r, hr⟩ : ∃ r, r = rcB s := ⟨_, rfl⟩
      rw [← hr] at HREC HT
      have hadd : ∀ w, (Op.stringOp .add ⟨A.toArray⟩ ⟨r.toArray⟩).run Try.prog w = .ok (str C) w := fun w => by
        have h := run_string_add_lists (P := Try.prog) (w := w) A r (by omega) (by rw [hr, rcB_length]; omega)
        rw [h, HT.out]
      have hCs : (⟨C.toArray⟩ : ByteArray).size = C.length := ba_size C
      have HCC := Lib.hid hC
      clear hs hrec hA hC hr
      go_wp2_with fail
      refine HREC.out.mono ?_
      rintro e w3 ⟨rfl, hb3⟩
      have HB3 := Lib.hid (HBR.out.trans (hb3.mono HBR.out.size))
      have HR3 := Lib.hid (own_below HROW.out hb3)
      have hs3 := HB3.out.size
      clear hb3
      go_wp2_with (at_builtin; refine wpList_append_own_at _ rfl (.tmp 43) (.tmp 46) 39 rfl w2.heap.size 3 i3 (.int .i64 0) 1 8 Try.underlying39 hi hz0 hz1 hz2 rfl (by decide) _ k (ends L k) rfl (own_below HR3.out ((Below.refl _ _).alloc (Nat.le_refl _) _)) ⟨w3.heap.size, 0, none⟩ 1 1 [.int .i64 (C.length : Int)] rfl rfl (fun j u hj => World.news_of_block (cs := #[.int .i64 (C.length : Int)]) (t := 3) (fr := (0, 0)) (heap_alloc_new w3 _) j u hj) (by simp [Value.oneCell']) (by unfold maxLen; omega) (by omega) (by simp; omega) ?_)
      intro v' w4 hown4 hg4 _ hloc
      have HO4 : Hid (w4.ownsRow w2.heap.size 3 1 v' (k + 1) (ends L (k + 1))) := Lib.hid (by rw [ends_succ, HEV.out]; exact hown4)
      have HB4 : Hid (Below w2.heap.size w2 w4) := Lib.hid ((HB3.out.alloc HB3.out.size _).grown hg4 (by simp; omega) (fun j hj => (World.ownsRow.lt HR3.out j hj).1))
      clear hown4 hg4 hloc
      go_wp2
      go_roundw
      case rel => exact ⟨k + 1, by omega, by go_num, by rw [HCC.out], HO4.out, HB4.out⟩
      case measure => simp [intOf]; omega
    · have q : decide ((k : Int) < (m : Int)) = false := by simp; omega
      have q2 : decide (k < m) = false := by simp; omega
      have hkm : k = m := by omega
      have eL : L.take k = L := List.take_of_length_le (by rw [← HM.out]; omega)
      rw [eL]
      subst hkm
      obtain ⟨R, hR⟩ : ∃ R, R = rcsB L := ⟨_, rfl⟩
      have HR := Lib.hid hR
      rw [← hR] at hRl ⊢
      have hRs : (⟨R.toArray⟩ : ByteArray).size = R.length := ba_size R
      clear hR eL
      by_cases h0 : R.length = 0 ∨ t = 0
      · have hB := HB2.out.trans (HBR.out.mono HB2.out.size)
        have HBB := Lib.hid hB
        clear hB
        by_cases h1 : R.length = 0
        · have q5 : ((R.length : Int) == 0) = true := by rw [h1]; rfl
          go_wp2
          go_ret
          exact ⟨rfl, HBB.out⟩
        · have h2 : t = 0 := by omega
          subst h2
          have q5 : ((R.length : Int) == 0) = false := by rw [beq_eq_false_iff_ne]; omega
          go_wp2
          go_ret
          exact ⟨rfl, HBB.out⟩
      · have q5 : ((R.length : Int) == 0) = false := by rw [beq_eq_false_iff_ne]; omega
        have q6 : ((t : Int) == 0) = false := by simp; omega
        have hR0 : 0 < R.length := by omega
        have ht0 : t ≠ 0 := fun e => h0 (.inr e)
        have hP : ∃ P : Nat, P < R.length ∧ ((at_ < 0 ∧ -(at_ + 1).tmod (R.length : Int) = (P : Int)) ∨ (¬ at_ < 0 ∧ at_ % (R.length : Int) = (P : Int))) := by
          obtain ⟨r, hr⟩ : ∃ r, R.length = r + 1 := ⟨R.length - 1, by omega⟩
          rw [hr]
          by_cases h : at_ < 0
          · obtain ⟨P, h1, h2⟩ := neg_rem at_ r h
            exact ⟨P, by omega, .inl ⟨h, by rw [← h1]; push_cast; rfl⟩⟩
          · obtain ⟨P, h1, h2⟩ := pos_rem at_ r
            exact ⟨P, by omega, .inr ⟨h, by rw [← h1]; push_cast; rfl⟩⟩
        obtain ⟨P, hPl, hP⟩ := hP
        have HPL := Lib.hid hPl
        obtain ⟨ae, ce, rfl, hce1, hce2, hce3⟩ := own_shape HROW.out
        have HE : Hid (∀ j, j < k → ∃ g, ae = some ⟨g, 0, none⟩ ∧ wr.cell? ⟨g, j, none⟩ = some (.int .i64 ((rcsB (L.take (j + 1))).length : Int))) := Lib.hid (fun j hj => hce3 j _ (ends_get L k j hj))
        have hWB := HBR.out.size
        have HLT : Hid (∀ j, j ≤ k → (rcsB (L.take j)).length ≤ P → j < k) := Lib.hid (fun j hj h => by
          by_cases e : j < k
          · exact e
          · have e2 : j = k := by omega
            rw [e2, List.take_of_length_le (by rw [← HM.out]; exact Nat.le_refl _), ← HR.out] at h
            omega)
        clear hce3 h0
        rcases hP with ⟨hneg, hP⟩ | ⟨hneg, hP⟩
        all_goals
          have hneg' := hneg
          clear hneg
          go_wp2
          go_loopw [15] (fun jv wx => ∃ j : Nat, j ≤ k ∧ jv = .int .i64 (j : Int) ∧ (rcsB (L.take j)).length ≤ P ∧ wr = wx) (fun jv _ => k - (intOf jv).toNat)
          case atStart => exact ⟨0, by omega, rfl, Nat.zero_le _, rfl⟩
          case round =>
            obtain ⟨j, hj, rfl, hjP, rfl⟩ := hrel
            have hjk := HLT.out j hj hjP
            have HJP := Lib.hid hjP
            clear hjP
            obtain ⟨g, rfl, ce1⟩ := HE.out j hjk
            by_cases hc : (rcsB (L.take (j + 1))).length ≤ P
            · obtain ⟨Ej, hEj⟩ : ∃ Ej, Ej = (rcsB (L.take (j + 1))).length := ⟨_, rfl⟩
              have HEJ := Lib.hid hEj
              rw [← hEj] at ce1 hc
              have q7 : (Ej : Int) ≤ (P : Int) := by omega
              have q8 : decide (Ej ≤ P) = true := by simp; omega
              clear hEj
              go_wp2
              go_roundw
              case rel => exact ⟨j + 1, by omega, by go_num, by rw [← HEJ.out]; exact hc, trivial⟩
              case measure => simp [intOf]; omega
            · have HWH : Hid (j = wh L P) := Lib.hid (wh_is L j P (by rw [← HM.out]; exact hj) HJP.out (.inr (by omega)))
              obtain ⟨Ej, hEj⟩ : ∃ Ej, Ej = (rcsB (L.take (j + 1))).length := ⟨_, rfl⟩
              rw [← hEj] at ce1 hc
              have q7 : decide ((Ej : Int) ≤ (P : Int)) = false := by simp; omega
              have q8 : decide (Ej ≤ P) = false := by simp; omega
              obtain ⟨N, hN⟩ : ∃ N, N = (rcsB (L.take j)).length := ⟨_, rfl⟩
              have HN := Lib.hid hN
              have hNP : N ≤ P := by rw [hN]; exact HJP.out
              have HB := Lib.hid (HB2.out.trans (HBR.out.mono HB2.out.size))
              by_cases hj0 : j = 0
              case' pos =>
                have hN0 : N = 0 := by rw [hN, hj0]; rfl
                have q9 : decide ((0 : Int) < (j : Int)) = false := by simp; omega
                have q10 : decide (0 < j) = false := by simp; omega
                subst hN0
                clear hj0
              case' neg =>
                have q9 : (0 : Int) < (j : Int) := by omega
                have q10 : decide (0 < j) = true := by simp; omega
                obtain ⟨i, hij⟩ : ∃ i, j = i + 1 := ⟨j - 1, by omega⟩
                obtain ⟨g', hg', ce2⟩ := HE.out i (by omega)
                cases hg'
                rw [← hij, ← hN] at ce2
                have q11 : (j : Int) - 1 = (i : Int) := by omega
                have q14 : i < k := by omega
                clear hij
              all_goals
                clear hEj
                have hj' := hj
                first
                | clear hN
                | skip
                by_cases h4 : (P : Int) - ((rcsB (L.take j)).length : Int) < 4
                · rw [← HN.out] at h4
                  first
                  | have q13 : (P : Int) < 4 := by simpa using h4
                  | skip
                  go_wp2
                  go_ret
                  exact ⟨rfl, HB.out⟩
                · obtain ⟨T, hT, hT0⟩ : ∃ T : UInt8, T.toNat = t ∧ T ≠ 0 := ⟨UInt8.ofNat t, by rw [UInt8.toNat_ofNat']; omega, fun e => by have := congrArg UInt8.toNat e; rw [UInt8.toNat_ofNat'] at this; simp at this; omega⟩
                  have hrec := turned_any L HFIT.out R HR.out P hPl (by rw [← HWH.out]; omega) T hT0
                  rw [← HWH.out] at hrec
                  rw [← HN.out] at h4
                  obtain ⟨C, w3, hc1, hc2, hbys, hb3, hs3⟩ := conv_bys ⟨R.toArray⟩ wr
                  rw [hRs] at hc1 hc2
                  obtain ⟨d1, d2⟩ := hbys P R[P] (List.getElem?_eq_getElem hPl)
                  have hset := bys_set hbys P hPl (R[P] ^^^ T)
                  have hxor := u8_xor_nat R[P].toNat t R[P].toNat_lt ht
                  have hxe : ((R[P] ^^^ T).toNat : Int) = ((R[P].toNat ^^^ t : Nat) : Int) := by rw [UInt8.toNat_xor, hT]
                  rw [hxe] at hset
                  obtain ⟨X, hX⟩ : ∃ X, X = R.set P (R[P] ^^^ T) := ⟨_, rfl⟩
                  have hXl : X.length = R.length := by rw [hX, List.length_set]
                  have hset : Bys (w3.setCell ⟨wr.heap.size, P, none⟩ (.int .u8 ((R[P].toNat ^^^ t : Nat) : Int))) wr.heap.size X := by rw [hX]; exact hset
                  have hrec : recs X = L.take j := by rw [hX]; exact hrec
                  have hback := bys_back hset C
                  rw [hXl] at hback
                  have HXR := Lib.hid hrec
                  obtain ⟨z, hz⟩ : ∃ z, z = R[P].toNat ^^^ t := ⟨_, rfl⟩
                  rw [← hz] at hxor hback
                  have hz256 : z < 256 := by rw [hz, ← hT, ← UInt8.toNat_xor]; exact UInt8.toNat_lt _
                  obtain ⟨y, hy⟩ : ∃ y : Nat, y = R[P].toNat := ⟨_, rfl⟩
                  have d1 : w3.cell? ⟨wr.heap.size, P, none⟩ = some (.int .u8 (y : Int)) := by rw [hy]; exact d1
                  have hxor : bits .xor .u8 (y : Int) (t : Int) = (z : Int) := by rw [hy]; exact hxor
                  have HREC : Hid (∀ w', Calls Try.prog 13 #[str X] w' fun e w2 => ∃ v, e = .returned (.tuple #[v, .int .i64 ((rcsB (L.take j)).length : Int)]) ∧ RdB w2 v (L.take j) ∧ Below w'.heap.size w' w2) := Lib.hid (fun w' => (records_any ⟨X.toArray⟩ (by rw [ba_size, hXl]; omega) w').mono (by
                    rintro e w2 ⟨v, rfl, h1, _, h2⟩
                    have e1 : recs (⟨X.toArray⟩ : ByteArray).data.toList = L.take j := HXR.out
                    rw [e1] at h1 ⊢
                    exact ⟨v, rfl, h1, h2⟩))
                  have hb4 : Below wr.heap.size wr (w3.setCell ⟨wr.heap.size, P, none⟩ (.int .u8 (z : Int))) := hb3.setCell (Nat.le_refl _) _
                  have HB4 := Lib.hid hb4
                  have HPR : (P : Int) < (R.length : Int) := by omega
                  have HPR' : decide (P < R.length) = true := by simp; omega
                  clear hX hXl hrec hset hz hy hxe hT hT0 hbys hb3 hs3 hb4
                  have h4' := h4
                  first
                  | have q13 : decide ((P : Int) < 4) = false := by simp at h4 ⊢; omega
                  | have q13 : decide ((P : Int) - (N : Int) < 4) = false := by simp; omega
                  clear h4
                  obtain ⟨u2, hsl, hu2⟩ := ((HRD.out.below HBR.out).below HB4.out).take j (by rw [ab_length, ← HM.out]; exact hj')
                  rw [ab_length, ← HM.out] at hsl
                  have HU2 := Lib.hid hu2
                  obtain ⟨au, cu, rfl, _⟩ := hu2
                  have hlj : ((ab L).take j).length = j := by rw [List.length_take, ab_length, ← HM.out]; omega
                  rw [hlj] at hsl HU2
                  clear hlj
                  go_wp2_with fail
                  refine (HREC.out _).mono ?_
                  rintro e w5 ⟨v5, rfl, hr5, hb5⟩
                  have HB5 := Lib.hid hb5
                  rw [← HN.out]
                  have HSAME := Lib.hid (same_any hr5 (HU2.out.below hb5) (by rw [ab_length, List.length_take]; have := HM.out; omega))
                  have HEQ : Hid (decide (ab (L.take j) = (ab L).take j) = true) := Lib.hid (by rw [decide_eq_true_eq]; unfold ab; rw [List.map_take])
                  rw [HEQ.out] at HSAME
                  obtain ⟨a5, c5, rfl, _⟩ := hr5
                  have hlj : (ab (L.take j)).length = j := by rw [ab_length, List.length_take, ← HM.out]; omega
                  rw [hlj] at HSAME ⊢
                  clear hb5 hlj
                  go_wp2_with fail
                  refine HSAME.out.mono ?_
                  rintro e w6 ⟨rfl, hb6⟩
                  have HB45 : Hid (Below w.heap.size w w5) := Lib.hid ((HB.out.trans (HB4.out.mono HB.out.size)).trans (HB5.out.mono (Nat.le_trans HB.out.size HB4.out.size)))
                  have HB6 : Hid (Below w.heap.size w w6) := Lib.hid (HB45.out.trans (hb6.mono HB45.out.size))
                  clear hb6
                  go_wp2
                  go_ret
                  exact ⟨rfl, HB6.out⟩
end Go.Proofs.Ytpiiknbjllgaoaa
