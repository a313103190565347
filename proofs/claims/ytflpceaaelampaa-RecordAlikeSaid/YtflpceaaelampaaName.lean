/-
  What Name answers, for every text and place; no older memory is changed.
-/
import Derived.Test.YtflpceaaelampaaNext
namespace Go.Proofs.Ytflpceaaelampaa
open Go.RowKit
def mu (n st p : Nat) : Nat := st * (n + 2) + (n + 1 - p)
theorem mu_lt {n p st p' st' c : Nat} (h : Ahead p st p' st') (h1 : p' < n) (h2 : p' + 1 + c ≤ n) : mu n st' (p' + 1 + c) < mu n st p := by
  unfold mu
  rcases h with ⟨rfl, rfl⟩ | h
  · omega
  · have := Nat.mul_le_mul_right (n + 2) (show st' + 1 ≤ st by omega)
    rw [Nat.add_mul] at this
    omega
abbrev nmV (r : Res) : Value := .tuple #[str r.1, .int .i64 (r.2.1 : Int), .int .i64 (r.2.2 : Int)]
set_option maxRecDepth 100000 in
set_option maxHeartbeats 8000000 in
theorem next_neg (s : ByteArray) (hs : s.size ≤ 140737488351232) (a : Int) (ha : -9223372036854775808 ≤ a ∧ a < 0) (b0 b1 b2 b3 b4 : Nat) (w : World)
    (h0 : Boxed w b0 9 (.string s)) (h1 : Boxed w b1 3 (.int .i64 a)) :
    Calls Try.prog 83 #[ptr b0, ptr b1, ptr b2, ptr b3, ptr b4] w fun e w' => e = .returned (.tuple #[.string ⟨#[]⟩, .int .i64 0, .int .i64 10]) ∧ w = w' := by
  have c0 := h0.cell
  have c1 := h1.cell
  have C := byte_any s hs a (by omega) w
  obtain ⟨e1, e2, e3⟩ := pi_no (s := s.data.toList) (a := a) (n := 1) (piE_no (by omega))
  unfold nuV at C
  rw [e1, e2, e3] at C
  have HC := Lib.hid C
  clear C e1 e2 e3 h0 h1
  go_enter Try.func83, Try.ntmps83
  go_wp2
  go_loopg [8] 0 (fun _ _ wr => w = wr)
  case atStart => rfl
  case round =>
    obtain rfl := hrel
    go_wp2_with fail
    refine HC.out.mono ?_
    rintro e w' ⟨rfl, rfl⟩
    rw [show numB [] = 0 from rfl]
    go_wp2
    go_ret3
    exact ⟨rfl, rfl⟩
set_option maxRecDepth 100000 in
set_option maxHeartbeats 8000000 in
theorem name_neg (s : ByteArray) (hs : s.size ≤ 140737488351232) (a : Int) (ha : -9223372036854775808 ≤ a ∧ a < 0) (w : World) :
    Calls Try.prog 62 #[.string s, .int .i64 a] w fun e w' => e = .returned (nmV ([], 0, 10)) ∧ Below w.heap.size w w' := by
  go_enter Try.func62, Try.ntmps62
  go_wp2_with fail
  refine (seq_any s a w).mono ?_
  rintro e w1 ⟨b2, b3, b4, rfl, hq, _, _, _, hb⟩
  have HQ := Lib.hid hq
  clear hq
  go_wp2
  go_loopg [8] 0 (fun _ v wr => v = .slice none 0 0 ∧ w1 = wr)
  case atStart => exact ⟨rfl, rfl⟩
  case round =>
    obtain ⟨rfl, rfl⟩ := hrel
    go_wp2_with fail
    refine (next_neg s hs a ha _ _ _ _ _ _ HQ.out.c0 HQ.out.c1).mono ?_
    rintro e w' ⟨rfl, rfl⟩
    go_wp2
    go_ret3
    exact ⟨rfl, hb⟩
theorem take_lab {l : Bs} {p c : Nat} (h2 : p + 1 + c ≤ l.length) : ((l.drop p).take (1 + c)).length = 1 + c := by simp; omega
theorem take_root {l : Bs} {p : Nat} (h : p < l.length) (hc : (l.getD p 0).toNat = 0) : (l.drop p).take (1 + 0) = [0] := by
  have e := piS_one h
  rw [(pi_yes (piE_yes (by omega) (by omega) (by omega))).1, Int.toNat_natCast] at e
  rw [show (1 + 0 : Nat) = (1 : Int).toNat from rfl, e]
  have : l.getD p 0 = 0 := UInt8.toNat_inj.1 (by simpa using hc)
  rw [this]
theorem name_err {r : Res} {k : Nat} (h : r = ([], 0, k)) : Ending.returned (.tuple #[.string ⟨#[]⟩, .int .i64 0, .int .i64 (k : Int)]) = .returned (nmV r) := by rw [h]; rfl
theorem name_ok {r : Res} {a : Bs} {q : Nat} {t : ByteArray} {v : Int} (h : r = (a, q, 0)) (ht : t.data.toList = a) (hv : v = (q : Int)) : Ending.returned (.tuple #[.string t, .int .i64 v, .int .i64 0]) = .returned (nmV r) := by
  rw [h, ← ht, hv]; rfl
/-- What the loop of Name knows. -/
def NaI (s : ByteArray) (p0 : Nat) (b0 b1 b2 b3 b4 : Nat) (w : World) (k : Nat) (v : Value) (wr : World) : Prop :=
  ∃ (p st : Nat) (aft : Option Nat) (acc : Bs), mu s.data.toList.length st p = k ∧ Sq wr b0 b1 b2 b3 b4 s (p : Int) (st : Int) aft.isSome ((aft.getD p : Nat) : Int) ∧ wr.ownsRow w.heap.size 5 1 v acc.length (ub acc) ∧
    nm s.data.toList p0 p0 none [] = nm s.data.toList p st aft acc ∧ acc.length ≤ 254 ∧ (p : Int) ≤ 9223372036854775807 ∧ Below w.heap.size w wr
theorem sq_row {w : World} {b0 b1 b2 b3 b4 : Nat} {s : ByteArray} {p st : Int} {pd : Bool} {af : Int} (h : Sq w b0 b1 b2 b3 b4 s p st pd af) {base k : Nat} {v : Value} {xs : List Value} (hr : w.ownsRow base 5 1 v k xs) : ∀ j, v.ownBlock = some j → ¬ SqB b1 b2 b3 b4 j := by
  intro j hj hs
  have n1 := h.c1.not_row (e := 5) (by decide) hr
  have n2 := h.c2.not_row (e := 5) (by decide) hr
  have n3 := h.c3.not_row (e := 5) (by decide) hr
  have n4 := h.c4.not_row (e := 5) (by decide) hr
  rw [hj] at n1 n2 n3 n4
  rcases hs with rfl | rfl | rfl | rfl
  · exact n1 rfl
  · exact n2 rfl
  · exact n3 rfl
  · exact n4 rfl
theorem sq_row0 {w : World} {b0 b1 b2 b3 b4 : Nat} {s : ByteArray} {p st : Int} {pd : Bool} {af : Int} (h : Sq w b0 b1 b2 b3 b4 s p st pd af) {w' : World} {row : Option Nat} (hg : w.grownBy w' row) {base k : Nat} {v : Value} {xs : List Value} (hr : w.ownsRow base 5 1 v k xs) (hrow : row = v.ownBlock) : Sq w' b0 b1 b2 b3 b4 s p st pd af := by
  subst hrow
  exact ⟨h.c0.kept hg (h.c0.not_row (by decide) hr), h.c1.kept hg (h.c1.not_row (by decide) hr), h.c2.kept hg (h.c2.not_row (by decide) hr), h.c3.kept hg (h.c3.not_row (by decide) hr), h.c4.kept hg (h.c4.not_row (by decide) hr), h.d⟩
set_option maxRecDepth 100000 in
set_option maxHeartbeats 8000000 in
theorem name_pos (s : ByteArray) (hs : s.size ≤ 140737488351232) (p0 : Nat) (hp0 : (p0 : Int) ≤ 9223372036854775807) (w : World) :
    Calls Try.prog 62 #[.string s, .int .i64 (p0 : Int)] w fun e w' => e = .returned (nmV (nm s.data.toList p0 p0 none [])) ∧ Below w.heap.size w w' := by
  obtain ⟨R, hR⟩ : ∃ R, R = nm s.data.toList p0 p0 none [] := ⟨_, rfl⟩
  rw [← hR]
  have HR := Lib.hid hR
  have HS := Lib.hid (size_list s)
  clear hR
  obtain ⟨i0, hi, hz0, hz1, hz2⟩ := info_parts info5
  go_enter Try.func62, Try.ntmps62
  go_wp2_with fail
  refine (seq_any s (p0 : Int) w).mono ?_
  rintro e w1 ⟨b2, b3, b4, rfl, hq, hb2, hb3, hb4, hb⟩
  obtain ⟨B0, hB0⟩ : ∃ B0, B0 = w.heap.size := ⟨_, rfl⟩
  obtain ⟨B1, hB1⟩ : ∃ B1, B1 = w.heap.size + 1 := ⟨_, rfl⟩
  have hb1 : w.heap.size ≤ B1 := by omega
  rw [← hB1, ← hB0] at hq
  have hT : ∀ k, SqB B1 b2 b3 b4 k → w.heap.size ≤ k := by
    intro k hk
    rcases hk with rfl | rfl | rfl | rfl
    · exact hb1
    · exact hb2
    · exact hb3
    · exact hb4
  have HT := Lib.hid hT
  have HQ := Lib.hid hq
  rw [show ptr w.heap.size = ptr B0 by rw [hB0], show ptr (w.heap.size + 1) = ptr B1 by rw [hB1]]
  clear hq hT hb1 hb2 hb3 hb4 hB0 hB1
  go_wp2
  go_loopg [8] (mu s.data.toList.length p0 p0) (fun k v wr => NaI s p0 B0 B1 b2 b3 b4 w k v wr)
  case atStart => exact ⟨p0, p0, none, [], rfl, HQ.out, World.ownsRow_nil _ _ _ _, rfl, by decide, hp0, hb⟩
  case round =>
    obtain ⟨p, st, aft, acc, hmu, hq, hrow, hnm, hacc, hp, hbr⟩ := hrel
    have HQ2 := Lib.hid hq
    have HROW := Lib.hid hrow
    have HNM := Lib.hid hnm
    have HMU := Lib.hid hmu
    have HB := Lib.hid hbr
    have hsz := hbr.size
    clear hq hrow hnm hmu hbr
    go_wp2_with fail
    refine (next_any s hs p st aft _ _ _ _ _ _ HQ2.out hp).mono ?_
    rintro e w2 ⟨h | h, hT2⟩
    · obtain ⟨rfl, herr⟩ := h
      have hb2 := HB.out.trans (hT2.below hsz HT.out)
      have HE := Lib.hid (HNM.out.trans (herr acc))
      clear herr
      go_wp2
      go_ret3
      exact ⟨name_err (k := 10) (HR.out.trans HE.out), hb2⟩
    · obtain ⟨p', st', aft', c, rfl, hl, hc, hc63, hlen, hq2, hnm2, hah⟩ := h
      have hb2 := HB.out.trans (hT2.below hsz HT.out)
      have hrow2 := hT2.row HROW.out (sq_row HQ2.out HROW.out)
      have hw2 : w.heap.size ≤ w2.heap.size := Nat.le_trans hsz hT2.size
      have HN2 := Lib.hid (HR.out.trans (HNM.out.trans (hnm2 acc)))
      have HQ3 := Lib.hid hq2
      have HB2 := Lib.hid hb2
      obtain ⟨a, cap, rfl⟩ := row_slice hrow2
      have HR2 := Lib.hid hrow2
      obtain ⟨q, hqd⟩ : ∃ q : Nat, q = aft'.getD (p' + 1 + c) := ⟨_, rfl⟩
      rw [← hqd]
      have HQD := Lib.hid hqd
      have HC := Lib.hid hc
      have HL := Lib.hid hl
      have hmu2 := mu_lt hah hl hlen
      rw [HMU.out] at hmu2
      have HM2 := Lib.hid hmu2
      have HLEN := Lib.hid hlen
      clear hq2 hnm2 hah hb2 hrow2 hqd hc hl hmu2 hlen hsz
      by_cases g : c = 0
      · subst g
        have hconv := row_back HR2.out
        have hadd := run_string_add_sum (P := Try.prog) w2 ⟨acc.toArray⟩ ⟨#[0]⟩ (by rw [size_list]; show acc.length + 1 ≤ _; omega)
        have hres := HN2.out.trans (nm_zero _ _ _ _ _ HL.out HC.out)
        have HRES := Lib.hid hres
        rw [take_root HL.out HC.out]
        clear hres
        go_wp2
        go_ret3
        exact ⟨name_ok HRES.out (by simp) (by rw [HQD.out]), HB2.out⟩
      · have hc0 : ¬ (s.data.toList.getD p' 0).toNat = 0 := by rw [HC.out]; exact g
        obtain ⟨tt, htt⟩ : ∃ tt : ByteArray, tt = ⟨((s.data.toList.drop p').take (1 + c)).toArray⟩ := ⟨_, rfl⟩
        have htl : tt.data.toList = (s.data.toList.drop p').take (1 + c) := by rw [htt]
        have hts : tt.size = 1 + c := by rw [size_list, htl, take_lab HLEN.out]
        rw [show str ((s.data.toList.drop p').take (1 + c)) = .string tt by rw [htt]]
        have q1 : (tt.toList == [0]) = false := by
          rw [ByteArray.toList_eq, beq_eq_false_iff_ne]
          intro h
          have := congrArg List.length h
          rw [← size_list, hts] at this
          simp at this; omega
        have q1' : (tt.data.toList == [0]) = false := by rw [← ByteArray.toList_eq]; exact q1
        have q2 : (tt.size : Int) = 1 + (c : Int) := by omega
        have HTL := Lib.hid htl
        have HTS := Lib.hid hts
        clear htl hts htt
        by_cases g2 : acc.length + 1 + c + 1 ≤ 255
        · have hres := HN2.out.trans (nm_lab _ _ _ _ _ HL.out hc0 (by rw [HC.out]; exact hc63) (by rw [HC.out]; exact HLEN.out) (by rw [HC.out]; exact g2))
          rw [HC.out] at hres
          have HRES := Lib.hid hres
          clear hres hc0
          have q3 : decide ((255 : Int) < (acc.length : Int) + (1 + (c : Int)) + 1) = false := by simp; omega
          obtain ⟨k, hk⟩ : ∃ k, k = acc.length := ⟨_, rfl⟩
          rw [← hk] at q3 g2 hacc HR2 ⊢
          have HK := Lib.hid hk
          have hka : (k : Int) ≤ 254 := by omega
          clear hk
          have QQ2 := Lib.hid q2
          go_wp2_with (at_builtin; refine Lib.wpList_append_own_string _ rfl (.tmp 37) (.tmp 38) 92 9 rfl w.heap.size 5 i0 Try.underlying92 Try.underlying9 hi hz0 hz1 hz2 _ k _ rfl HR2.out tt rfl ?c4 ?c5 ?c6 ?_)
          case c4 => have := HTS.out; unfold maxLen; omega
          case c5 => have := HTS.out; omega
          case c6 => exact hw2
          intro v2 w3 hown hgrow _
          have hq3 := sq_row0 HQ3.out hgrow HR2.out rfl
          have hb3 : Below w.heap.size w w3 := HB2.out.grown hgrow hw2 (row_from HR2.out)
          rw [HTS.out, HK.out] at hown
          have HQ4 := Lib.hid hq3
          have HB3 := Lib.hid hb3
          have HO := Lib.hid hown
          clear hq3 hb3 hown hgrow
          go_wp2
          go_roundg (mu s.data.toList.length st' (p' + 1 + c))
          case measure => exact HM2.out
          case rel =>
            refine ⟨p' + 1 + c, st', aft', acc ++ (s.data.toList.drop p').take (1 + c), rfl, HQ4.out, ?_, HR.out.symm.trans HRES.out, ?_, ?_, HB3.out⟩
            · rw [List.length_append, take_lab HLEN.out, ub, List.map_append]
              have := HO.out
              rw [Lib.strCells, HTL.out] at this
              exact this
            · rw [List.length_append, take_lab HLEN.out, ← HK.out]; omega
            · have := HLEN.out; rw [← HS.out] at this; omega
        · have hres := HN2.out.trans (nm_long _ _ _ _ _ HL.out hc0 (by rw [HC.out]; exact hc63) (by rw [HC.out]; exact HLEN.out) (by rw [HC.out]; exact g2))
          have HRES := Lib.hid hres
          clear hres hc0
          have q3 : decide ((255 : Int) < (acc.length : Int) + (1 + (c : Int)) + 1) = true := by simp; omega
          go_wp2
          go_ret3
          exact ⟨name_err (k := 11) HRES.out, HB2.out⟩
/-- THE NAME THAT IS READ: for every text and every place. -/
theorem name_any (s : ByteArray) (hs : s.size ≤ 140737488351232) (a : Int) (ha : -9223372036854775808 ≤ a ∧ a ≤ 9223372036854775807) (w : World) :
    Calls Try.prog 62 #[.string s, .int .i64 a] w fun e w' => e = .returned (nmV (nmI s.data.toList a)) ∧ Below w.heap.size w w' := by
  by_cases h : a < 0
  · have e : nmI s.data.toList a = ([], 0, 10) := by unfold nmI; rw [if_pos h]
    rw [e]
    exact name_neg s hs a ⟨ha.1, h⟩ w
  · obtain ⟨p, rfl⟩ := Int.eq_ofNat_of_zero_le (show 0 ≤ a by omega)
    have e : nmI s.data.toList (p : Int) = nm s.data.toList p p none [] := by unfold nmI; rw [if_neg h, Int.toNat_natCast]
    rw [e]
    exact name_pos s hs p ha.2 w
end Go.Proofs.Ytflpceaaelampaa
