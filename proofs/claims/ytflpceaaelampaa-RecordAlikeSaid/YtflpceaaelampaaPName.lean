/-
  What a packer's Name leaves and answers; all else is as it was.
-/
import Derived.Test.YtflpceaaelampaaLearn
import Derived.Deep.LoopGhost
namespace Go.Proofs.Ytflpceaaelampaa
open Go.RowKit
theorem or_mark (a : Nat) (ha : a < 16384) : bits .or .u16 49152 (a : Int) = ((49152 + a : Nat) : Int) := by
  have h := u16_or_nat 49152 a (by decide) (by omega)
  have e : 49152 ||| a = 49152 + a := by
    have := Nat.two_pow_add_eq_or_of_lt (i := 14) (by omega : a < 2 ^ 14) 3
    exact this.symm
  rw [e] at h
  exact h
theorem PV.look {S : Nat → Prop} {b : Nat} {B : Bs} {L : Kn} {sv mv : Value} {w : World} (h : PV S b B L sv mv w) (t : ByteArray) (ht : t.size ≤ maxLen) :
    (∀ a, find L t.data.toList = some a → (Instr.lookup 93 mv (.string t) true).run Try.prog w = .ok (.tuple #[.int .u16 (a : Int), .bool true]) w) ∧
    (find L t.data.toList = none → (Instr.lookup 93 mv (.string t) true).run Try.prog w = .ok (.tuple #[.int .u16 0, .bool false]) w) := by
  rcases h.map with ⟨rfl, rfl⟩ | ⟨mb, rfl, _, hm⟩
  · exact ⟨fun a h => by simp [find] at h, fun _ => look_none w t ht⟩
  · exact ⟨fun a h => look_yes hm t ht h, fun h => look_no hm t ht h⟩
set_option maxRecDepth 100000 in
set_option maxHeartbeats 1600000 in
theorem pname_bad (s : ByteArray) (hs : s.size ≤ 140737488351232) (pts : Bool) (b : Nat) (w : World) (g : ¬ chk s.data.toList = 0) :
    Calls Try.prog 48 #[ptr b, .string s, .bool pts] w fun e w' => e = .returned (.int .i64 (chk s.data.toList)) ∧ Below w.heap.size w w' := by
  have q : (chk s.data.toList == 0) = false := by simpa using g
  have q' : (chk s.data.toList != 0) = true := by simpa using g
  clear g
  go_enter Try.func48, Try.ntmps48
  go_wp2_with (go_at_call 36; refine (check_any s hs _).mono ?_; rintro e w1 ⟨rfl, hb1⟩)
  go_ret
  exact ⟨rfl, hb1⟩
/-- What the loop of Name knows. -/
def PnI (S : Nat → Prop) (b : Nat) (pts : Bool) (R : Bs × Kn) (K : Nat) (w : World) (k : Nat) (r : Value) (wr : World) : Prop :=
  ∃ (xs : List Bs) (B : Bs) (L : Kn), k = xs.length ∧ r = str (enc xs ++ [0]) ∧ (∀ x ∈ xs, OkL x) ∧ putN pts B L xs = R ∧ Lft S b B L w wr ∧ OkK L ∧ L.length ≤ B.length ∧ B.length + (enc xs).length ≤ K
theorem first_byte (t : ByteArray) (x : Bs) (r : Bs) (h : t.data.toList = enc1 x ++ r) (hx : OkL x) : ∃ h0 : 0 < t.size, t[0].toNat = x.length ∧ 1 + x.length ≤ t.size ∧ t.extract 0 (1 + x.length) = ⟨(enc1 x).toArray⟩ ∧ t.extract (1 + x.length) t.size = ⟨r.toArray⟩ := by
  have h1 : t.size = 1 + x.length + r.length := by rw [size_list, h]; simp [enc1]; omega
  have h0 : 0 < t.size := by omega
  have hx2 := hx.2
  refine ⟨h0, ?_, by omega, ?_, ?_⟩
  · rw [get_list t 0 h0]
    simp [h, enc1]
    omega
  · apply ByteArray.ext
    apply Array.toList_inj.1
    rw [ByteArray.data_extract, Array.toList_extract, h]
    simp [List.extract, enc1, Nat.add_comm 1]
  · apply ByteArray.ext
    apply Array.toList_inj.1
    rw [ByteArray.data_extract, Array.toList_extract, h, h1]
    simp [List.extract, enc1, Nat.add_comm 1]
set_option maxRecDepth 100000 in
set_option maxHeartbeats 8000000 in
theorem pname_good (s : ByteArray) (pts : Bool) (S : Nat → Prop) (b : Nat) (B0 : Bs) (L0 : Kn) (w : World) (h : PK S b B0 L0 w) (g : chk s.data.toList = 0) (hB0 : B0.length ≤ 900000) (hL0 : L0.length ≤ B0.length) (hK0 : OkK L0) :
    Calls Try.prog 48 #[ptr b, .string s, .bool pts] w fun e w' => e = .returned (.int .i64 0) ∧ Lft S b (putN pts B0 L0 (labs s.data.toList)).1 (putN pts B0 L0 (labs s.data.toList)).2 w w' := by
  obtain ⟨R, hR⟩ : ∃ R, putN pts B0 L0 (labs s.data.toList) = R := ⟨_, rfl⟩
  rw [hR]
  obtain ⟨g1, g2⟩ := chk_zero.1 g
  have hss : s.size ≤ 255 := by rw [size_list]; exact g2
  have hsp := name_split g
  have hen : (enc (labs s.data.toList)).length ≤ 254 := by
    have := congrArg List.length hsp
    rw [List.length_append] at this
    simp only [List.length_singleton] at this
    omega
  have HH := Lib.hid h
  have HR0 := Lib.hid hR
  have HSP := Lib.hid hsp
  have HEN := Lib.hid hen
  have G := Lib.hid g
  clear h hR hsp hen g g1 g2
  go_enter Try.func48, Try.ntmps48
  go_wp2_with (first | (go_at_call 36; refine (check_any s (by omega) _).mono ?_; rintro e w1 ⟨rfl, hb1⟩; rw [G.out]) | (go_at_call 65; refine (copied_any s _).mono ?_; rintro e w2 ⟨rfl, hb2⟩))
  have hL2 : Lft S b B0 L0 w w2 := (Lft.refl HH.out).post hb1 |>.post hb2
  have HL2 := Lib.hid hL2
  clear hb1 hb2 hL2
  go_loopg [8] (labs s.data.toList).length (fun k r wr => PnI S b pts R (B0.length + 254) w k r wr)
  case atStart => exact ⟨labs s.data.toList, B0, L0, rfl, by rw [HSP.out], labs_ok _, HR0.out, HL2.out, hK0, hL0, by have := HEN.out; omega⟩
  case round =>
    obtain ⟨xs, B, L, hk, rfl, hok, hr, hl, hokk, hll, hbk⟩ := hrel
    have HOK := Lib.hid hok
    have HR := Lib.hid hr
    have HL := Lib.hid hl
    have HOKK := Lib.hid hokk
    have HK := Lib.hid hk
    clear hok hr hl hokk hk
    cases xs with
    | nil =>
      have hx : str (enc [] ++ [0]) = .string ⟨#[0]⟩ := rfl
      rw [hx]
      clear hx
      go_wp2_with fail
      refine (praw_any ⟨#[0]⟩ _ _ _ _ _ HL.out.1 (by show B.length + 1 ≤ _; omega)).mono ?_
      rintro e w3 ⟨⟨v3, rfl⟩, hL3⟩
      have R3 := Lib.hid (HL.out.trans hL3)
      have HR2 := Lib.hid (HR.out.symm.trans (putN_nil pts B L))
      clear hL3
      go_wp2
      go_ret
      exact ⟨rfl, by rw [HR2.out]; exact R3.out⟩
    | cons x xs =>
      have hx : OkL x := HOK.out x (by simp)
      obtain ⟨t, ht⟩ : ∃ t : ByteArray, t = ⟨(enc (x :: xs) ++ [0]).toArray⟩ := ⟨_, rfl⟩
      have htl : t.data.toList = enc (x :: xs) ++ [0] := by rw [ht]
      have htl2 : t.data.toList = enc1 x ++ (enc xs ++ [0]) := by rw [htl, enc_cons, List.append_assoc]
      obtain ⟨h0, hsp, hle, hex1, hex2⟩ := first_byte t x _ htl2 hx
      have he1 : (enc1 x).length = x.length + 1 := enc1_length x
      have he2 : (enc (x :: xs)).length = x.length + 1 + (enc xs).length := by rw [enc_cons, List.length_append, he1]
      rw [show str (enc (x :: xs) ++ [0]) = .string t by rw [ht]]
      have hts : t.size = x.length + 2 + (enc xs).length := by rw [size_list, htl, List.length_append, he2]; simp; omega
      have q1 : (t.toList == [0]) = false := by
        rw [ByteArray.toList_eq, beq_eq_false_iff_ne]
        intro h
        have := congrArg List.length h
        rw [← size_list, hts] at this
        simp only [List.length_singleton] at this
        omega
      have q1' : (t.data.toList == [0]) = false := by rw [← ByteArray.toList_eq]; exact q1
      have hx1 := hx.1
      have hx2 := hx.2
      obtain ⟨m, hm⟩ : ∃ m, m = x.length := ⟨_, rfl⟩
      rw [← hm] at hsp hle hex1 hex2 hx1 hx2 he1 he2 hts
      have hsl1 : ∀ w, (Instr.slice 9 (.string t) none (some (.int .i64 (1 + (m : Int)))) none).run Try.prog w = .ok (.string ⟨(enc1 x).toArray⟩) w := fun w => by
        have h := run_slice_string_h (P := Try.prog) w 9 t Try.underlying9 .i64 (1 + (m : Int)) (by omega) (by omega)
        rw [h, ← hex1]
        congr 3
      have hsl2 : ∀ w, (Instr.slice 9 (.string t) (some (.int .i64 (1 + (m : Int)))) none none).run Try.prog w = .ok (str (enc xs ++ [0])) w := fun w => by
        have h := run_slice_string_l (P := Try.prog) w 9 t Try.underlying9 .i64 (1 + (m : Int)) (by omega) (by omega)
        rw [h, show str (enc xs ++ [0]) = .string ⟨(enc xs ++ [0]).toArray⟩ from rfl, ← hex2]
        congr 3
      have htsz : t.size ≤ 1000000 := by rw [hts]; omega
      have hmi : (m : Int) ≤ 63 := by omega
      obtain ⟨sv, mv, hp⟩ := HL.out.1
      obtain ⟨k1, k2⟩ := hp.look t (by unfold maxLen; omega)
      have c1 := hp.blk.cell1
      rw [htl] at k1 k2
      have HE1 := Lib.hid he1
      have HE2 := Lib.hid he2
      have HTL := Lib.hid htl
      have hbm : B.length + m ≤ 1000000 := by omega
      clear ht htl htl2 hle hex1 hex2 he1 he2 hts q1' hm hp hx
      cases hf : find L (enc (x :: xs) ++ [0]) with
      | some a =>
        have ha := HOKK.out.find hf
        have hlook := k1 a hf
        have HF := Lib.hid hf
        clear k1 k2 hf
        cases pts with
        | true =>
          have hor := or_mark a ha
          have HR2 := Lib.hid (HR.out.symm.trans (putN_point _ _ _ _ _ HF.out))
          go_wp2_with fail
          refine (pword_any (49152 + a) (by omega) _ _ _ _ _ HL.out.1 (by omega)).mono ?_
          rintro e w3 ⟨⟨v3, rfl⟩, hL3⟩
          have R3 := Lib.hid (HL.out.trans hL3)
          clear hL3
          go_wp2
          go_ret
          exact ⟨rfl, by rw [HR2.out]; exact R3.out⟩
        | false =>
            go_wp2_with fail
            refine (praw_any ⟨(enc1 x).toArray⟩ _ _ _ _ _ HL.out.1 (by rw [size_list]; have := HE1.out; show B.length + (enc1 x).length ≤ _; omega)).mono ?_
            rintro e w4 ⟨⟨v4, rfl⟩, hL4⟩
            have R4 := Lib.hid (HL.out.trans hL4)
            clear hL4
            go_wp2
            go_roundg xs.length
            case measure => rw [HK.out]; simp
            case rel => exact ⟨xs, B ++ enc1 x, L, rfl, rfl, fun y hy => HOK.out y (by simp [hy]), by have := HR.out; rw [putN_pass _ _ _ _ _ HF.out] at this; exact this, R4.out, HOKK.out, by rw [List.length_append]; omega, by have := HE2.out; have := HE1.out; rw [List.length_append]; omega⟩
      | none =>
        have hlook := k2 hf
        have HF := Lib.hid hf
        clear k1 k2 hf
        go_wp2_with fail
        refine (learn_any t htsz _ _ _ _ _ HL.out.1 (by omega) (by omega) (by rw [HTL.out]; exact HF.out)).mono ?_
        rintro e w3 ⟨⟨v3, rfl⟩, hL3⟩
        rw [HTL.out] at hL3
        have R3 := Lib.hid (HL.out.trans hL3)
        clear hL3 hlook c1
        go_wp2_with fail
        refine (praw_any ⟨(enc1 x).toArray⟩ _ _ _ _ _ R3.out.1 (by rw [size_list]; have := HE1.out; show B.length + (enc1 x).length ≤ _; omega)).mono ?_
        rintro e w4 ⟨⟨v4, rfl⟩, hL4⟩
        have R4 := Lib.hid (R3.out.trans hL4)
        clear hL4
        go_wp2
        go_roundg xs.length
        case measure => rw [HK.out]; simp
        case rel => exact ⟨xs, B ++ enc1 x, more B L (enc (x :: xs) ++ [0]), rfl, rfl, fun y hy => HOK.out y (by simp [hy]), by have := HR.out; rw [putN_new _ _ _ _ _ HF.out] at this; exact this, R4.out, okK_more HOKK.out, by have := more_length B L (enc (x :: xs) ++ [0]); have := HE1.out; rw [List.length_append]; omega, by have := HE2.out; have := HE1.out; rw [List.length_append]; omega⟩
/-- WHAT NAME LEAVES AND ANSWERS. -/
theorem pname_any (s : ByteArray) (hs : s.size ≤ 140737488351232) (pts : Bool) (S : Nat → Prop) (b : Nat) (B : Bs) (L : Kn) (w : World) (h : PK S b B L w) (hB : B.length ≤ 900000) (hL : L.length ≤ B.length) (hK : OkK L) :
    Calls Try.prog 48 #[ptr b, .string s, .bool pts] w fun e w' => e = .returned (.int .i64 (chk s.data.toList)) ∧ Lft S b (pkB pts B L s.data.toList) (pkL pts B L s.data.toList) w w' := by
  by_cases g : chk s.data.toList = 0
  · unfold pkB pkL
    rw [if_pos g, if_pos g, g]
    exact pname_good s pts S b B L w h g hB hL hK
  · unfold pkB pkL
    rw [if_neg g, if_neg g]
    exact (pname_bad s hs pts b w g).mono fun e w' ⟨h1, h2⟩ => ⟨h1, (Lft.refl h).post h2⟩
end Go.Proofs.Ytflpceaaelampaa
