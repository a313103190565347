/-
  What the document's Parse answers, for every text; no older memory is changed.
-/
import Derived.Test.YtpeojicimmofjaaDoorRText
namespace Go.Proofs.YtpeojicimmofjaaDoor
open Go.RowKit
def Dg (L : Bs) (p V : Nat) : Prop := (L.take p).length = p ∧ (∀ x ∈ L.take p, dig x = true) ∧ V = dv (L.take p) ∧ (p = 0 → V = 0) ∧ (p = 1 → V ≤ 9) ∧ (p = 2 → V ≤ 99) ∧ (p = 3 → V ≤ 999)
theorem dg_zero (L : Bs) : Dg L 0 0 := ⟨rfl, fun x hx => by simp at hx, rfl, by omega, by omega, by omega, by omega⟩
theorem dg_next {L : Bs} {p V : Nat} {x : UInt8} (h : Dg L p V) (hx : L[p]? = some x) (hd : dig x = true) (hp : p < 3) : Dg L (p + 1) (V * 10 + (x.toNat - 48)) := by
  obtain ⟨h1, h2, h3, h4, h5, h6, h7⟩ := h
  have hd2 := (dig_iff x).1 hd
  have ht : L.take (p + 1) = L.take p ++ [x] := by rw [List.take_add_one, hx]; rfl
  refine ⟨by rw [ht, List.length_append, h1]; rfl, fun y hy => ?_, by rw [ht, dv_snoc, ← h3], by omega, by omega, by omega, by omega⟩
  rw [ht] at hy
  rcases List.mem_append.1 hy with hy | hy
  · exact h2 y hy
  · rw [List.mem_singleton.1 hy]; exact hd
theorem dg_end {L : Bs} {V : Nat} (h : Dg L 3 V) : num L = if V ≤ 255 then some (UInt8.ofNat V) else none := by
  rw [h.2.2.1]; exact num_take rfl h.1 h.2.1
theorem dg_bd {L : Bs} {p V : Nat} (h : Dg L p V) (hp : p ≤ 3) : V ≤ 999 := by
  obtain ⟨_, _, _, h4, h5, h6, h7⟩ := h
  omega
theorem get_some (s : ByteArray) (i : Nat) (h : i < s.size) : s.data.toList[i]? = some s[i] := by
  rw [List.getElem?_eq_getElem (by rw [← size_list]; exact h)]; rfl
theorem more_ne (nb : ByteArray) (c : UInt8) : (false = true ↔ (nb ++ (⟨#[c]⟩ : ByteArray)).size = 0) :=
  ⟨nofun, fun h => by rw [ByteArray.size_append] at h; exact absurd h (Nat.succ_ne_zero _)⟩
theorem more_le {nb : ByteArray} {k : Nat} (c : UInt8) (h : nb.size ≤ k) (n : Nat) (hn : 1 ≤ n) : (nb ++ (⟨#[c]⟩ : ByteArray)).size ≤ k + n := by
  rw [ByteArray.size_append]; show nb.size + 1 ≤ _; omega
set_option maxRecDepth 100000 in
set_option maxHeartbeats 12800000 in
theorem rparse_long (s : ByteArray) (hs : s.size ≤ 999999) (h1 : ¬ s.data.toList = []) (h2 : ¬ s.data.toList = [46]) (w : World) :
    Calls Tryd.prog 7 #[.string s] w fun e w' => e = .returned (.tuple #[str (psS s.data.toList), .int .i64 (psE s.data.toList)]) ∧ Below w.heap.size w w' := by
  have q1 : (s.toList == []) = false := by rw [ByteArray.toList_eq]; simpa using h1
  have q2 : (s.toList == [46]) = false := by rw [ByteArray.toList_eq]; simpa using h2
  have q3 : s.toList.isEmpty = false := by rw [ByteArray.toList_eq]; simpa using h1
  have h0 : 0 < s.size := by rw [size_list]; exact List.length_pos_iff.2 h1
  obtain ⟨i0, hi, hz0, hz1, hz2⟩ := info_parts info9
  have HP0 := Lib.hid (ps_out s.data.toList h1 h2)
  have HSZ : Hid (s.data.toList.length = s.size) := Lib.hid (size_list s).symm
  clear h1 h2
  go_enter Tryd.func7, Tryd.ntmps7
  go_wp2
  go_loopw [4, 5, 6, 7, 8, 9, 10, 11] (fun v now en i _ _ _ _ wr => ∃ (k : Nat) (ls : List Bs) (nb : ByteArray) (e : Bool), k ≤ s.size ∧ i = .int .i64 k ∧ now = .string nb ∧ en = .bool e ∧ ls.length ≤ k ∧ nb.size ≤ k ∧ (0 < k → (e = true ↔ nb.size = 0)) ∧
    (psE s.data.toList, psS s.data.toList) = out (prr ls nb.data.toList (s.data.toList.drop k)) ∧ (∀ x ∈ ls, x.length ≤ 1000000) ∧ Own9 wr w.heap.size v ls ∧ Below w.heap.size w wr) (fun _ _ _ i _ _ _ _ _ => s.size - (intOf i).toNat)
  case atStart => exact ⟨0, [], ⟨#[]⟩, false, by omega, rfl, rfl, rfl, by simp, Nat.le_refl 0, fun h => by omega, HP0.out, fun x hx => by simp at hx, own9_nil _ _, Below.refl _ _⟩
  case round =>
    obtain ⟨k, ls, nb, e, hk, rfl, rfl, rfl, hlk, hnk, hen, hps, hlm, hown, hbr⟩ := hrel
    have HEN := Lib.hid hen
    have HP := Lib.hid hps
    have HLM := Lib.hid hlm
    have HO := Lib.hid hown
    have HBR := Lib.hid hbr
    have HLK := Lib.hid hlk
    clear hen hps hlm hown hbr hlk
    by_cases hlt : k < s.size
    · have q0 : (k : Int) < (s.size : Int) := by omega
      have hdg := drop_get s k hlt
      obtain ⟨c, hc⟩ : ∃ c, c = s[k] := ⟨_, rfl⟩
      rw [← hc] at hdg
      have HDG := Lib.hid hdg
      have hct : s[k].toNat = c.toNat := by rw [hc]
      have hcb := c.toNat_lt
      obtain ⟨m, hm⟩ : ∃ m, m = c.toNat := ⟨_, rfl⟩
      rw [← hm] at hct hcb
      have hone := byte_back wr c
      rw [← hm] at hone
      have HM := Lib.hid hm
      clear hdg hc hm
      by_cases g : m = 46
      · have q5 : ((m : Int) == 46) = true := by simp [g]
        by_cases gn : nb.size = 0
        · have hnb : nb.data.toList = [] := List.length_eq_zero_iff.1 (by rw [← size_list]; exact gn)
          have HR : Hid (psE s.data.toList = 10 ∧ psS s.data.toList = []) := Lib.hid (by
            have := HP.out
            rw [HDG.out, hnb, prr_dot0 _ _ _ (by rw [← HM.out]; exact g)] at this
            exact ⟨congrArg Prod.fst this, congrArg Prod.snd this⟩)
          have q6 : (nb.toList == []) = true := by rw [ByteArray.toList_eq, hnb]; rfl
          have q7 : nb.toList.isEmpty = true := by rw [ByteArray.toList_eq, hnb]; rfl
          clear hnb g gn
          go_wp2
          go_ret2
          exact ⟨ret_si (by rw [HR.out.2]) HR.out.1.symm, HBR.out⟩
        · have hnb : ¬ nb.data.toList = [] := fun e => gn (by rw [size_list, e]; rfl)
          have HP2 : Hid ((psE s.data.toList, psS s.data.toList) = out (prr (ls ++ [nb.data.toList]) [] (s.data.toList.drop (k + 1)))) := Lib.hid (by
            rw [HP.out, HDG.out, prr_dot _ _ _ _ (by rw [← HM.out]; exact g) hnb])
          have HLM2 : Hid (∀ x ∈ ls ++ [nb.data.toList], x.length ≤ 1000000) := Lib.hid (fun x hx => by
            rcases List.mem_append.1 hx with hx | hx
            · exact HLM.out x hx
            · rw [List.mem_singleton.1 hx, ← size_list]; omega)
          have q6 : (nb.toList == []) = false := by rw [ByteArray.toList_eq]; simpa using hnb
          have q7 : nb.toList.isEmpty = false := by rw [ByteArray.toList_eq]; simpa using hnb
          clear hnb g gn hone
          go_wp2_with (at_builtin; refine wpList_append_own _ rfl (.tmp 29) (.tmp 31) 30 rfl w.heap.size 9 i0 (.string ⟨#[]⟩) 1 16 Tryd.underlying30 hi hz0 hz1 hz2 rfl (by decide) _ _ _ rfl (World.ownsRow.alloc HO.out _) ⟨wr.heap.size, 0, none⟩ 1 1 [.string nb] rfl rfl (cell_one_new _ _ _) (by simp [Value.oneCell']) (by have := HLK.out; unfold maxLen; omega) (by have := HLK.out; omega) (by have := HBR.out.size; simp; omega) ?_; intro v' w1 hown' hgrow _; have R := Lib.hid (own9_next (x := nb.data.toList) HO.out (Nat.le_refl _) HBR.out hown' hgrow); clear hown' hgrow)
          go_roundw
          case rel => exact ⟨k + 1, ls ++ [nb.data.toList], ⟨#[]⟩, true, by omega, by go_num, rfl, rfl, by rw [List.length_append]; have := HLK.out; simp; omega, Nat.zero_le _, fun _ => ⟨fun _ => rfl, fun _ => rfl⟩, HP2.out, HLM2.out, R.out.1, R.out.2⟩
          case measure => simp [intOf]; omega
      · have q5 : ((m : Int) == 46) = false := by simp; omega
        have g46 : ¬ c.toNat = 46 := by rw [← HM.out]; exact g
        have G46 := Lib.hid g46
        clear g46
        by_cases g2 : m = 92
        · have q6 : ((m : Int) == 92) = true := by simp [g2]
          have q7 : ((m : Int) != 92) = false := by simp [g2]
          have G92 : Hid (c.toNat = 92) := Lib.hid (by rw [← HM.out]; exact g2)
          clear g g2 hone
          by_cases hl2 : k + 1 < s.size
          · have q8 : decide ((s.size : Int) ≤ (k : Int) + 1) = false := by simp; omega
            have hdg2 := drop_get s (k + 1) hl2
            obtain ⟨d, hd⟩ : ∃ d, d = s[k + 1] := ⟨_, rfl⟩
            rw [← hd] at hdg2
            have HDG2 := Lib.hid hdg2
            have hdt : s[k + 1].toNat = d.toNat := by rw [hd]
            have hdb := d.toNat_lt
            obtain ⟨p, hp⟩ : ∃ p, p = d.toNat := ⟨_, rfl⟩
            rw [← hp] at hdt hdb
            have hone := byte_back wr d
            rw [← hp] at hone
            have HPD := Lib.hid hp
            clear hdg2 hd hp
            have HCH : Hid (dig d = false → (psE s.data.toList, psS s.data.toList) = out (prr ls (nb ++ (⟨#[d]⟩ : ByteArray)).data.toList (s.data.toList.drop (k + 2)))) := Lib.hid (fun hd => by
              have hrd : rd (c :: s.data.toList.drop (k + 1)) = some (d, 2) := by rw [HDG2.out]; exact rd_esc_ch c d _ G92.out hd
              rw [HP.out, HDG.out, prr_byte _ _ _ _ d 2 G46.out hrd, ByteArray.data_append, Array.toList_append, HDG2.out]; rfl)
            have hadd : ∀ w, (Op.stringOp .add nb ⟨#[d]⟩).run Tryd.prog w = .ok (.string (nb ++ ⟨#[d]⟩)) w := fun w => run_string_add_sum w nb _ (by show nb.size + 1 ≤ _; omega)
            by_cases g3 : p < 48
            · have q9 : (p : Int) < 48 := by omega
              have HP2 := Lib.hid (HCH.out (by
                cases h : dig d with
                | false => rfl
                | true => have := (dig_iff d).1 h; rw [← HPD.out] at this; omega))
              go_wp2
              go_roundw
              case rel => exact ⟨k + 2, ls, _, false, by omega, by go_num, rfl, rfl, by have := HLK.out; omega, more_le d hnk 2 (by omega), fun _ => more_ne nb d, HP2.out, HLM.out, HO.out.below ((Below.refl _ _).alloc (Nat.le_refl _) _), HBR.out.alloc HBR.out.size _⟩
              case measure => simp [intOf]; omega
            · have q9 : decide ((p : Int) < 48) = false := by simp; omega
              by_cases g4 : 57 < p
              · have q10 : (57 : Int) < (p : Int) := by omega
                have HP2 := Lib.hid (HCH.out (by
                  cases h : dig d with
                  | false => rfl
                  | true => have := (dig_iff d).1 h; rw [← HPD.out] at this; omega))
                go_wp2
                go_roundw
                case rel => exact ⟨k + 2, ls, _, false, by omega, by go_num, rfl, rfl, by have := HLK.out; omega, more_le d hnk 2 (by omega), fun _ => more_ne nb d, HP2.out, HLM.out, HO.out.below ((Below.refl _ _).alloc (Nat.le_refl _) _), HBR.out.alloc HBR.out.size _⟩
                case measure => simp [intOf]; omega
              · have q10 : decide ((57 : Int) < (p : Int)) = false := by simp; omega
                have hdd : dig d = true := (dig_iff d).2 (by rw [← HPD.out]; omega)
                have HNN : Hid (num (s.data.toList.drop (k + 1)) = none → psE s.data.toList = 10 ∧ psS s.data.toList = []) := Lib.hid (fun hnum => by
                  have := HP.out
                  rw [HDG2.out] at hnum
                  rw [HDG.out, HDG2.out, prr_none _ _ _ _ G46.out (rd_esc_none c d _ G92.out hdd hnum)] at this
                  exact ⟨congrArg Prod.fst this, congrArg Prod.snd this⟩)
                have HNS : Hid (∀ v, num (s.data.toList.drop (k + 1)) = some v → (psE s.data.toList, psS s.data.toList) = out (prr ls (nb ++ (⟨#[v]⟩ : ByteArray)).data.toList (s.data.toList.drop (k + 4)))) := Lib.hid (fun v hnum => by
                  rw [HDG2.out] at hnum
                  have hrd := rd_esc_num c d _ v G92.out hdd hnum
                  rw [← HDG2.out] at hrd
                  rw [HP.out, HDG.out, prr_byte _ _ _ _ v 4 G46.out hrd, ByteArray.data_append, Array.toList_append, ← HDG.out, List.drop_drop])
                have HLEN : Hid ((s.data.toList.drop (k + 1)).length = s.size - (k + 1)) := Lib.hid (by rw [List.length_drop, HSZ.out])
                have HGET : Hid (∀ J, 1 ≤ J → (s.data.toList.drop (k + 1))[J - 1]? = s.data.toList[k + J]?) := Lib.hid (fun J hJ => by
                  rw [List.getElem?_drop]; congr 1; omega)
                obtain ⟨L, hL⟩ : ∃ L, L = s.data.toList.drop (k + 1) := ⟨_, rfl⟩
                rw [← hL] at HNN HNS HLEN HGET
                clear hL hdd hone hadd HCH HDG HDG2
                go_wp2
                clear hdt hct
                go_loopw [10, 11] (fun vv jj wr2 => ∃ J V : Nat, 1 ≤ J ∧ J ≤ 4 ∧ jj = .int .i64 J ∧ vv = .int .i64 V ∧ Dg L (J - 1) V ∧ wr = wr2) (fun _ jj _ => 4 - (intOf jj).toNat)
                case atStart => exact ⟨1, 0, by omega, by omega, rfl, rfl, dg_zero L, rfl⟩
                case round =>
                  obtain ⟨J, V, hJ1, hJ4, rfl, rfl, hdg, rfl⟩ := hrel
                  have hV := dg_bd hdg (by omega)
                  have HDGS := Lib.hid hdg
                  clear hdg
                  by_cases hJ : J < 4
                  · have q11 : (J : Int) < 4 := by omega
                    by_cases hin : k + J < s.size
                    · have q12 : decide ((s.size : Int) ≤ (k : Int) + (J : Int)) = false := by simp; omega
                      obtain ⟨x, hx⟩ : ∃ x, x = s[k + J] := ⟨_, rfl⟩
                      have HGX : Hid (L[J - 1]? = some x) := Lib.hid (by rw [HGET.out J hJ1, get_some s (k + J) hin, hx])
                      have hxt : s[k + J].toNat = x.toNat := by rw [hx]
                      have hxb := x.toNat_lt
                      obtain ⟨xn, hxn⟩ : ∃ xn, xn = x.toNat := ⟨_, rfl⟩
                      rw [← hxn] at hxt hxb
                      have HXN := Lib.hid hxn
                      clear hx hxn
                      have HBADX : Hid (dig x = false → psE s.data.toList = 10 ∧ psS s.data.toList = []) := Lib.hid (fun hd => HNN.out (num_stop (j := J - 1) (by omega) (fun y hy => by
                        rw [HGX.out] at hy; cases hy; exact hd)))
                      by_cases g5 : xn < 48
                      · have q13 : (xn : Int) < 48 := by omega
                        have HR := Lib.hid (HBADX.out (by
                          cases h : dig x with
                          | false => rfl
                          | true => have := (dig_iff x).1 h; rw [← HXN.out] at this; omega))
                        go_wp2
                        go_ret2
                        exact ⟨ret_si (by rw [HR.out.2]) HR.out.1.symm, HBR.out⟩
                      · have q13 : decide ((xn : Int) < 48) = false := by simp; omega
                        by_cases g6 : 57 < xn
                        · have q14 : (57 : Int) < (xn : Int) := by omega
                          have HR := Lib.hid (HBADX.out (by
                            cases h : dig x with
                            | false => rfl
                            | true => have := (dig_iff x).1 h; rw [← HXN.out] at this; omega))
                          go_wp2
                          go_ret2
                          exact ⟨ret_si (by rw [HR.out.2]) HR.out.1.symm, HBR.out⟩
                        · have q14 : decide ((57 : Int) < (xn : Int)) = false := by simp; omega
                          have HNX : Hid (Dg L (J + 1 - 1) (V * 10 + (xn - 48))) := Lib.hid (by
                            have := dg_next HDGS.out HGX.out ((dig_iff x).2 (by rw [← HXN.out]; omega)) (by omega)
                            rw [← HXN.out, show J - 1 + 1 = J + 1 - 1 by omega] at this
                            exact this)
                          go_wp2
                          go_roundw
                          case rel => exact ⟨J + 1, V * 10 + (xn - 48), by omega, by omega, by go_num, by go_num, HNX.out, trivial⟩
                          case measure => simp [intOf]; omega
                    · have q12 : (s.size : Int) ≤ (k : Int) + (J : Int) := by omega
                      have HR := Lib.hid (HNN.out (num_stop (j := J - 1) (by omega) (fun y hy => by
                        rw [HGET.out J hJ1, List.getElem?_eq_none (by rw [HSZ.out]; omega)] at hy; cases hy)))
                      go_wp2
                      go_ret2
                      exact ⟨ret_si (by rw [HR.out.2]) HR.out.1.symm, HBR.out⟩
                  · have q11 : decide ((J : Int) < 4) = false := by simp; omega
                    obtain rfl : J = 4 := by omega
                    have HNE := Lib.hid (dg_end HDGS.out)
                    have hk4 : k + 4 ≤ s.size := by
                      have := HDGS.out.1
                      rw [List.length_take, HLEN.out] at this
                      omega
                    by_cases g7 : 255 < V
                    · have q15 : (255 : Int) < (V : Int) := by omega
                      have HR := Lib.hid (HNN.out (by rw [HNE.out, if_neg (by omega)]))
                      go_wp2
                      go_ret2
                      exact ⟨ret_si (by rw [HR.out.2]) HR.out.1.symm, HBR.out⟩
                    · have q15 : decide ((255 : Int) < (V : Int)) = false := by simp; omega
                      have HP2 := Lib.hid (HNS.out (UInt8.ofNat V) (by rw [HNE.out, if_pos (by omega)]))
                      obtain ⟨b, hb⟩ : ∃ b, b = UInt8.ofNat V := ⟨_, rfl⟩
                      have hbV : b.toNat = V := by rw [hb]; simp; omega
                      rw [← hb] at HP2
                      have hone := byte_back wr b
                      rw [hbV] at hone
                      have hwr : IntKind.u8.wrap (V : Int) = (V : Int) := by simp [IntKind.wrap, IntKind.bits, IntKind.signed]; omega
                      have hadd : ∀ w, (Op.stringOp .add nb ⟨#[b]⟩).run Tryd.prog w = .ok (.string (nb ++ ⟨#[b]⟩)) w := fun w => run_string_add_sum w nb _ (by show nb.size + 1 ≤ _; omega)
                      clear hb hbV
                      go_wp2
                      go_roundw
                      case rel => exact ⟨k + 4, ls, _, false, by omega, by go_num, rfl, rfl, by have := HLK.out; omega, more_le b hnk 4 (by omega), fun _ => more_ne nb b, HP2.out, HLM.out, HO.out.below ((Below.refl _ _).alloc (Nat.le_refl _) _), HBR.out.alloc HBR.out.size _⟩
                      case measure => simp [intOf]; omega
          · have q8 : (s.size : Int) ≤ (k : Int) + 1 := by omega
            have HR : Hid (psE s.data.toList = 10 ∧ psS s.data.toList = []) := Lib.hid (by
              have := HP.out
              rw [HDG.out, List.drop_of_length_le (by rw [HSZ.out]; omega), prr_none _ _ _ _ G46.out (rd_esc_end c G92.out)] at this
              exact ⟨congrArg Prod.fst this, congrArg Prod.snd this⟩)
            go_wp2
            go_ret2
            exact ⟨ret_si (by rw [HR.out.2]) HR.out.1.symm, HBR.out⟩
        · have q6 : ((m : Int) == 92) = false := by simp; omega
          have q7 : ((m : Int) != 92) = true := by simp; omega
          have hrd : rd (c :: s.data.toList.drop (k + 1)) = some (c, 1) := by simp [rd, show ¬ c.toNat = 92 by rw [← HM.out]; exact g2]
          have HP2 : Hid ((psE s.data.toList, psS s.data.toList) = out (prr ls (nb ++ (⟨#[c]⟩ : ByteArray)).data.toList (s.data.toList.drop (k + 1)))) := Lib.hid (by
            rw [HP.out, HDG.out, prr_byte _ _ _ _ c 1 G46.out hrd, ByteArray.data_append, Array.toList_append]; rfl)
          have hadd : ∀ w, (Op.stringOp .add nb ⟨#[c]⟩).run Tryd.prog w = .ok (.string (nb ++ ⟨#[c]⟩)) w := fun w => run_string_add_sum w nb _ (by show nb.size + 1 ≤ _; omega)
          clear hrd g g2
          go_wp2
          go_roundw
          case rel => exact ⟨k + 1, ls, _, false, by omega, by go_num, rfl, rfl, by have := HLK.out; omega, more_le c hnk 1 (Nat.le_refl _), fun _ => more_ne nb c, HP2.out, HLM.out, HO.out.below ((Below.refl _ _).alloc (Nat.le_refl _) _), HBR.out.alloc HBR.out.size _⟩
          case measure => simp [intOf]; omega
    · have hks : k = s.size := by omega
      have hk0 : 0 < k := by omega
      have HF : Hid (psE s.data.toList = mkE (fin (ls, nb.data.toList)) ∧ psS s.data.toList = mkS (fin (ls, nb.data.toList))) := Lib.hid (by
        have := HP.out
        rw [List.drop_of_length_le (by rw [HSZ.out]; omega), prr_nil] at this
        exact ⟨congrArg Prod.fst this, congrArg Prod.snd this⟩)
      have q0 : decide ((k : Int) < (s.size : Int)) = false := by simp; omega
      clear hks
      cases e with
      | true =>
        have HC : Hid (fin (ls, nb.data.toList) = ls) := Lib.hid (by
          unfold fin
          rw [if_pos (List.length_eq_zero_iff.1 (by rw [← size_list]; exact (HEN.out hk0).1 rfl))])
        go_wp2_with fail
        refine (rmake_any _ ls _ HO.out.rd (by have := HLK.out; omega) HLM.out).mono ?_
        rintro e w4 ⟨rfl, hb4⟩
        go_wp2
        go_ret2
        exact ⟨ret_si (by rw [HF.out.2, HC.out]) (by rw [HF.out.1, HC.out]), HBR.out.trans (hb4.mono HBR.out.size)⟩
      | false =>
        have hn0 : ¬ nb.data.toList = [] := fun h => by
          have := (HEN.out hk0).2 (by rw [size_list, h]; rfl)
          cases this
        have HC : Hid (fin (ls, nb.data.toList) = ls ++ [nb.data.toList]) := Lib.hid (by unfold fin; rw [if_neg hn0])
        have HLM2 : Hid (∀ x ∈ ls ++ [nb.data.toList], x.length ≤ 1000000) := Lib.hid (fun x hx => by
          rcases List.mem_append.1 hx with hx | hx
          · exact HLM.out x hx
          · rw [List.mem_singleton.1 hx, ← size_list]; omega)
        clear hn0
        go_wp2_with (at_builtin; refine wpList_append_own _ rfl (.tmp 114) (.tmp 116) 30 rfl w.heap.size 9 i0 (.string ⟨#[]⟩) 1 16 Tryd.underlying30 hi hz0 hz1 hz2 rfl (by decide) _ _ _ rfl (World.ownsRow.alloc HO.out _) ⟨wr.heap.size, 0, none⟩ 1 1 [.string nb] rfl rfl (cell_one_new _ _ _) (by simp [Value.oneCell']) (by have := HLK.out; unfold maxLen; omega) (by have := HLK.out; omega) (by have := HBR.out.size; simp; omega) ?_; intro v' w1 hown' hgrow _; have R := Lib.hid (own9_next (x := nb.data.toList) HO.out (Nat.le_refl _) HBR.out hown' hgrow); clear hown' hgrow)
        refine (rmake_any _ (ls ++ [nb.data.toList]) _ R.out.1.rd (by rw [List.length_append]; have := HLK.out; simp; omega) HLM2.out).mono ?_
        rintro e w4 ⟨rfl, hb4⟩
        go_wp2
        go_ret2
        exact ⟨ret_si (by rw [HF.out.2, HC.out]) (by rw [HF.out.1, HC.out]), R.out.2.trans (hb4.mono R.out.2.size)⟩
set_option maxRecDepth 100000 in
set_option maxHeartbeats 1600000 in
theorem rparse_any (s : ByteArray) (hs : s.size ≤ 999999) (w : World) :
    Calls Tryd.prog 7 #[.string s] w fun e w' => e = .returned (.tuple #[str (psS s.data.toList), .int .i64 (psE s.data.toList)]) ∧ Below w.heap.size w w' := by
  by_cases h1 : s.data.toList = []
  · have e := bytes_eq h1
    subst e
    go_enter Tryd.func7, Tryd.ntmps7
    go_wp2
    go_ret2
    exact ⟨ret_si rfl rfl, Below.refl _ _⟩
  · by_cases h2 : s.data.toList = [46]
    · have e := bytes_eq h2
      subst e
      clear h1 h2
      have hz := zero_back w
      go_enter Tryd.func7, Tryd.ntmps7
      go_wp2
      go_ret2
      exact ⟨ret_si (by decide) (by decide), (Below.refl _ _).alloc (Nat.le_refl _) _⟩
    · exact rparse_long s hs h1 h2 w
end Go.Proofs.YtpeojicimmofjaaDoor
