/-
  What isDigit, number and readByte answer, for every text.
-/
import Derived.Test.YtpeojicimmofjaaDoorEsc
import Derived.Test.YtpeojicimmofjaaDoorReadMath
namespace Go.Proofs.YtpeojicimmofjaaDoor
open Go.RowKit
theorem ret_b' {a b : Bool} (h : a = b) : Ending.returned (.bool a) = .returned (.bool b) := by rw [h]
theorem isDigit_any (b : UInt8) (w : World) :
    Calls Tryd.prog 27 #[.int .u8 (b.toNat : Int)] w fun e w' => e = .returned (.bool (dig b)) ∧ w = w' := by
  have hb := b.toNat_lt
  have hd : dig b = decide (48 ≤ b.toNat ∧ b.toNat ≤ 57) := rfl
  obtain ⟨c, hc⟩ : ∃ c, c = b.toNat := ⟨_, rfl⟩
  rw [← hc] at hb hd ⊢
  clear hc
  by_cases h1 : 48 ≤ c
  · have q1 : (48 : Int) ≤ (c : Int) := by omega
    have R : Hid (decide ((c : Int) ≤ 57) = dig b) := Lib.hid (by
      rw [hd, Bool.eq_iff_iff]; simp; omega)
    clear hd h1
    go_enter Tryd.func27, Tryd.ntmps27
    go_wp2
    go_ret
    exact ⟨ret_b' R.out, rfl⟩
  · have q1 : decide ((48 : Int) ≤ (c : Int)) = false := by simp; omega
    have R : Hid (false = dig b) := Lib.hid (by rw [hd]; symm; simp; omega)
    clear hd h1
    go_enter Tryd.func27, Tryd.ntmps27
    go_wp2
    go_ret
    exact ⟨ret_b' R.out, rfl⟩
/-- The number of the first digits. -/
def nv (l : Bs) : Nat → Nat
  | 0 => 0
  | k + 1 => 10 * nv l k + ((l.getD k 0).toNat - 48)
theorem ret_ub {a b : Int} {c d : Bool} (h : a = b) (h2 : c = d) : Ending.returned (.tuple #[.int .u8 a, .bool c]) = .returned (.tuple #[.int .u8 b, .bool d]) := by rw [h, h2]
def numV (l : Bs) : Int := match num l with | some v => (v.toNat : Int) | none => 0
theorem nv_three (a b c : UInt8) (r : Bs) : nv (a :: b :: c :: r) 3 = 100 * (a.toNat - 48) + 10 * (b.toNat - 48) + (c.toNat - 48) := by simp [nv]; omega
theorem num_some {l : Bs} (h : 3 ≤ l.length) (h2 : ∀ j, j < 3 → dig (l.getD j 0) = true) (h3 : nv l 3 ≤ 255) : num l = some (UInt8.ofNat (nv l 3)) := by
  match l, h with
  | a :: b :: c :: r, _ =>
    rw [nv_three] at h3 ⊢
    simp only [num]
    rw [if_pos ⟨h2 0 (by omega), h2 1 (by omega), h2 2 (by omega), h3⟩]
theorem int_u {a b : Int} (h : a = b) : Value.int .i64 a = .int .i64 b := by rw [h]
theorem num_short {l : Bs} (h : l.length < 3) : num l = none := by
  match l with
  | [] => rfl
  | [a] => rfl
  | [a, b] => rfl
  | a :: b :: c :: r => simp at h; omega
theorem num_bad {l : Bs} {j : Nat} (hj : j < 3) (h : ¬ dig (l.getD j 0) = true) : num l = none := by
  match l with
  | [] => rfl
  | [a] => rfl
  | [a, b] => rfl
  | a :: b :: c :: r =>
    simp only [num]
    rw [if_neg]
    intro x
    match j, hj with
    | 0, _ => exact h x.1
    | 1, _ => exact h x.2.1
    | 2, _ => exact h x.2.2.1
theorem num_great {l : Bs} (h : ¬ nv l 3 ≤ 255) : num l = none := by
  match l with
  | [] => rfl
  | [a] => rfl
  | [a, b] => rfl
  | a :: b :: c :: r =>
    rw [nv_three] at h
    simp only [num]
    rw [if_neg (fun x => h x.2.2.2)]
theorem nv_le (l : Bs) (k : Nat) (h : ∀ j, j < k → dig (l.getD j 0) = true) : nv l k < 10 ^ k := by
  induction k with
  | zero => simp [nv]
  | succ k ih =>
    have h1 := ih (fun j hj => h j (by omega))
    have h2 := h k (by omega)
    simp [dig] at h2
    simp only [nv, Nat.pow_succ, List.getD_eq_getElem?_getD] at h1 ⊢
    omega
set_option maxRecDepth 100000 in
set_option maxHeartbeats 1600000 in
theorem number_any (t : ByteArray) (w : World) :
    Calls Tryd.prog 28 #[.string t] w fun e w' => e = .returned (.tuple #[.int .u8 (numV t.data.toList), .bool (num t.data.toList).isSome]) ∧ w = w' := by
  have HSZ : Hid (t.data.toList.length = t.size) := Lib.hid (size_list t).symm
  by_cases h1 : t.size < 3
  · have q : (t.size : Int) < 3 := by omega
    have hn : num t.data.toList = none := num_short (by rw [HSZ.out]; exact h1)
    have R1 : Hid (0 = numV t.data.toList) := Lib.hid (by unfold numV; rw [hn])
    have R2 : Hid (false = (num t.data.toList).isSome) := Lib.hid (by rw [hn]; rfl)
    clear hn h1
    go_enter Tryd.func28, Tryd.ntmps28
    go_wp2
    go_ret2
    exact ⟨ret_ub R1.out R2.out, rfl⟩
  · have q : decide ((t.size : Int) < 3) = false := by simp; omega
    have q3 : (3 : Int) ≤ (t.size : Int) := by omega
    go_enter Tryd.func28, Tryd.ntmps28
    go_wp2
    go_loopw [4, 9] (fun n i wr => ∃ k : Nat, k ≤ 3 ∧ i = .int .i64 k ∧ n = .int .i64 (nv t.data.toList k : Nat) ∧ (∀ j, j < k → dig (t.data.toList.getD j 0) = true) ∧ w = wr) (fun _ i _ => 3 - (intOf i).toNat)
    case atStart => exact ⟨0, by omega, rfl, rfl, fun j hj => absurd hj (by omega), rfl⟩
    case round =>
      obtain ⟨k, hk, rfl, rfl, hd, rfl⟩ := hrel
      have hnl := nv_le _ _ hd
      have HD := Lib.hid hd
      clear hd
      by_cases hlt : k < 3
      · have hkt : k < t.size := by omega
        have hge : t.data.toList.getD k 0 = t[k] := by
          rw [get_list t k hkt, List.getD_eq_getElem?_getD, List.getElem?_eq_getElem (by rw [HSZ.out]; exact hkt)]; rfl
        obtain ⟨b, hb⟩ : ∃ b, b = t[k] := ⟨_, rfl⟩
        rw [← hb] at hge
        have hbt : t[k].toNat = b.toNat := by rw [hb]
        have HG := Lib.hid hge
        have HNV : Hid (nv t.data.toList (k + 1) = 10 * nv t.data.toList k + (b.toNat - 48)) := Lib.hid (by simp only [nv]; rw [hge])
        clear hb hge
        obtain ⟨m, hm⟩ : ∃ m, m = nv t.data.toList k := ⟨_, rfl⟩
        rw [← hm] at hnl HNV ⊢
        have hm1000 : (m : Int) < 1000 := by
          have : 10 ^ k ≤ 10 ^ 3 := Nat.pow_le_pow_right (by omega) hk
          omega
        clear hm hnl
        have q0 : (k : Int) < (t.size : Int) := by omega
        by_cases g : dig b = true
        · have gd := g
          simp [dig] at gd
          have gd1 : (48 : Int) ≤ (b.toNat : Int) := by omega
          have gd2 : (b.toNat : Int) ≤ 57 := by omega
          have G := Lib.hid g
          have HB2 : Hid (10 * (m : Int) + ((b.toNat : Int) - 48) = ((nv t.data.toList (k + 1) : Nat) : Int)) := Lib.hid (by rw [HNV.out]; omega)
          clear g gd
          go_wp2_with (go_at_call 27; refine (isDigit_any b _).mono ?_; rintro e w' ⟨rfl, rfl⟩; rw [G.out])
          go_roundw
          case rel => exact ⟨k + 1, by omega, by go_num, int_u HB2.out, fun j hj => by
            by_cases e : j < k
            · exact HD.out j e
            · obtain rfl : j = k := by omega
              rw [HG.out]; exact G.out, trivial⟩
          case measure => simp [intOf]; omega
        · have G : Hid (dig b = false) := Lib.hid (by simpa using g)
          have hn : num t.data.toList = none := num_bad hlt (by rw [HG.out]; exact g)
          have R1 : Hid (0 = numV t.data.toList) := Lib.hid (by unfold numV; rw [hn])
          have R2 : Hid (false = (num t.data.toList).isSome) := Lib.hid (by rw [hn]; rfl)
          clear g hn
          go_wp2_with (go_at_call 27; refine (isDigit_any b _).mono ?_; rintro e w' ⟨rfl, rfl⟩; rw [G.out])
          go_ret2
          exact ⟨ret_ub R1.out R2.out, rfl⟩
      · obtain rfl : k = 3 := by omega
        by_cases g : nv t.data.toList 3 ≤ 255
        · have hn := num_some (l := t.data.toList) (by rw [HSZ.out]; omega) HD.out g
          have R1 : Hid (((nv t.data.toList 3 : Nat) : Int) = numV t.data.toList) := Lib.hid (by unfold numV; rw [hn]; simp; omega)
          have R2 : Hid (true = (num t.data.toList).isSome) := Lib.hid (by rw [hn]; rfl)
          obtain ⟨m, hm⟩ : ∃ m, m = nv t.data.toList 3 := ⟨_, rfl⟩
          rw [← hm] at g R1 ⊢
          have q9 : decide ((255 : Int) < (m : Int)) = false := by simp; omega
          have q10 : (m : Int) < 256 := by omega
          clear hm hn hnl g
          go_wp2
          go_ret2
          exact ⟨ret_ub R1.out R2.out, rfl⟩
        · have hn := num_great g
          have R1 : Hid (0 = numV t.data.toList) := Lib.hid (by unfold numV; rw [hn])
          have R2 : Hid (false = (num t.data.toList).isSome) := Lib.hid (by rw [hn]; rfl)
          obtain ⟨m, hm⟩ : ∃ m, m = nv t.data.toList 3 := ⟨_, rfl⟩
          rw [← hm] at g ⊢
          have q9 : (255 : Int) < (m : Int) := by omega
          clear hm hn hnl g
          go_wp2
          go_ret2
          exact ⟨ret_ub R1.out R2.out, rfl⟩
def rdB (l : Bs) : Int := match rd l with | some (b, _) => (b.toNat : Int) | none => 0
def rdN (l : Bs) : Nat := match rd l with | some (_, n) => n | none => 0
theorem ret_ui {a b c d : Int} (h : a = b) (h2 : c = d) : Ending.returned (.tuple #[.int .u8 a, .int .i64 c]) = .returned (.tuple #[.int .u8 b, .int .i64 d]) := by rw [h, h2]
set_option maxRecDepth 100000 in
set_option maxHeartbeats 1600000 in
theorem readByte_any (t : ByteArray) (ht : 0 < t.size) (hs : t.size ≤ 1000000) (w : World) :
    Calls Tryd.prog 17 #[.string t] w fun e w' => e = .returned (.tuple #[.int .u8 (rdB t.data.toList), .int .i64 (rdN t.data.toList : Int)]) ∧ w = w' := by
  obtain ⟨c, r, hcr⟩ : ∃ c r, t.data.toList = c :: r := by
    cases h : t.data.toList with
    | nil => have := size_list t; rw [h, List.length_nil] at this; omega
    | cons c r => exact ⟨c, r, rfl⟩
  have hsz : t.size = 1 + r.length := by rw [size_list, hcr]; simp; omega
  have hc : t[0].toNat = c.toNat := by
    have : t[0] = c := by rw [get_list t 0 ht]; simp [hcr]
    rw [this]
  have hcb := c.toNat_lt
  by_cases g : c.toNat = 92
  · have q1 : ((c.toNat : Int) == 92) = true := by rw [g]; rfl
    have q1' : ((c.toNat : Int) != 92) = false := by rw [g]; rfl
    cases r with
    | nil =>
      have q2 : ((t.size : Int) == 1) = true := by rw [hsz]; rfl
      have hrd : rd t.data.toList = none := by rw [hcr]; simp [rd, g]
      have R1 : Hid (0 = rdB t.data.toList) := Lib.hid (by unfold rdB; rw [hrd])
      have R2 : Hid (0 = (rdN t.data.toList : Int)) := Lib.hid (by unfold rdN; rw [hrd]; rfl)
      clear hcr hsz hrd g
      go_enter Tryd.func17, Tryd.ntmps17
      go_wp2
      go_ret2
      exact ⟨ret_ui R1.out R2.out, rfl⟩
    | cons d r =>
      have h1 : 1 < t.size := by rw [hsz]; simp
      have hd : t[1].toNat = d.toNat := by
        have : t[1] = d := by rw [get_list t 1 h1]; simp [hcr]
        rw [this]
      have q2 : ((t.size : Int) == 1) = false := by simp; omega
      have q3 : (1 : Int) < (t.size : Int) := by omega
      by_cases g2 : dig d = true
      · have hrd : rd t.data.toList = (num (d :: r)).map (fun v => (v, 4)) := by rw [hcr]; simp [rd, g, g2]
        have hex : t.extract 1 t.size = ⟨(d :: r).toArray⟩ := by
          apply ByteArray.ext
          apply Array.toList_inj.1
          rw [ByteArray.data_extract, Array.toList_extract, hcr, hsz]
          simp [List.extract]
        have hsl : ∀ w, (Instr.slice 9 (.string t) (some (.int .i64 1)) none none).run Tryd.prog w = .ok (.string ⟨(d :: r).toArray⟩) w := fun w => by
          have h := run_slice_string_l (P := Tryd.prog) w 9 t Tryd.underlying9 .i64 1 (by omega) (by omega)
          rw [h, ← hex]; rfl
        have G2 := Lib.hid g2
        cases hn : num (d :: r) with
        | none =>
          rw [hn] at hrd
          have R1 : Hid (0 = rdB t.data.toList) := Lib.hid (by unfold rdB; rw [hrd]; rfl)
          have R2 : Hid (0 = (rdN t.data.toList : Int)) := Lib.hid (by unfold rdN; rw [hrd]; rfl)
          have HN := Lib.hid hn
          clear hcr hsz hrd g g2 hex hn
          go_enter Tryd.func17, Tryd.ntmps17
          go_wp2_with (first | (go_at_call 27; refine (isDigit_any d _).mono ?_; rintro e w' ⟨rfl, rfl⟩; rw [G2.out]) | (go_at_call 28; refine (number_any ⟨(d :: r).toArray⟩ _).mono ?_; rintro e w' ⟨rfl, rfl⟩; rw [show (⟨(d :: r).toArray⟩ : ByteArray).data.toList = d :: r from rfl, HN.out, Option.isSome_none]))
          go_ret2
          exact ⟨ret_ui R1.out R2.out, rfl⟩
        | some v =>
          rw [hn] at hrd
          have R1 : Hid (numV (d :: r) = rdB t.data.toList) := Lib.hid (by unfold rdB numV; rw [hrd, hn]; rfl)
          have R2 : Hid (4 = (rdN t.data.toList : Int)) := Lib.hid (by unfold rdN; rw [hrd]; rfl)
          have HN := Lib.hid hn
          clear hcr hsz hrd g g2 hex hn
          go_enter Tryd.func17, Tryd.ntmps17
          go_wp2_with (first | (go_at_call 27; refine (isDigit_any d _).mono ?_; rintro e w' ⟨rfl, rfl⟩; rw [G2.out]) | (go_at_call 28; refine (number_any ⟨(d :: r).toArray⟩ _).mono ?_; rintro e w' ⟨rfl, rfl⟩; rw [show (⟨(d :: r).toArray⟩ : ByteArray).data.toList = d :: r from rfl, HN.out, Option.isSome_some]))
          go_ret2
          exact ⟨ret_ui R1.out R2.out, rfl⟩
      · have hrd : rd t.data.toList = some (d, 2) := by rw [hcr]; simp [rd, g, g2]
        have R1 : Hid ((d.toNat : Int) = rdB t.data.toList) := Lib.hid (by unfold rdB; rw [hrd])
        have R2 : Hid (2 = (rdN t.data.toList : Int)) := Lib.hid (by unfold rdN; rw [hrd]; rfl)
        have G2 : Hid (dig d = false) := Lib.hid (by simpa using g2)
        clear hcr hsz hrd g g2
        go_enter Tryd.func17, Tryd.ntmps17
        go_wp2_with (go_at_call 27; refine (isDigit_any d _).mono ?_; rintro e w' ⟨rfl, rfl⟩; rw [G2.out])
        go_ret2
        exact ⟨ret_ui R1.out R2.out, rfl⟩
  · have q1 : ((c.toNat : Int) == 92) = false := by simp; omega
    have q1' : ((c.toNat : Int) != 92) = true := by rw [bne, q1]; rfl
    have hrd : rd t.data.toList = some (c, 1) := by rw [hcr]; simp [rd, g]
    have R1 : Hid ((c.toNat : Int) = rdB t.data.toList) := Lib.hid (by unfold rdB; rw [hrd])
    have R2 : Hid (1 = (rdN t.data.toList : Int)) := Lib.hid (by unfold rdN; rw [hrd]; rfl)
    clear hcr hsz hrd g
    go_enter Tryd.func17, Tryd.ntmps17
    go_wp2
    go_ret2
    exact ⟨ret_ui R1.out R2.out, rfl⟩
end Go.Proofs.YtpeojicimmofjaaDoor
