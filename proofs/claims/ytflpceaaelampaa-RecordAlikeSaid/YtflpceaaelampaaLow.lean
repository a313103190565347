/-
  The lower-case form of a text, by the program and by the document, for every text; how many labels two names share: plain mathematics. No older memory is changed.
-/
import Derived.Test.YtflpceaaelampaaRLabels
import Derived.Test.YtflpceaaelampaaJoin
import Derived.IntWalk
import Derived.BigQuiet
import Derived.Deep.QuietTactic
import Derived.BigRegion
import Derived.StillTailTactics
namespace Go.Proofs.Ytflpceaaelampaa
open Go.RowKit
/-- The lower-case form of a byte, and of bytes. -/
def lowB (b : UInt8) : UInt8 := if 65 ≤ b.toNat ∧ b.toNat ≤ 90 then b + 32 else b
def low (l : Bs) : Bs := l.map lowB
theorem lowB_up (b : UInt8) (h : 65 ≤ b.toNat ∧ b.toNat ≤ 90) : (b.toNat : Int) + 32 = ((lowB b).toNat : Int) := by
  unfold lowB; rw [if_pos h, UInt8.toNat_add]; simp; omega
theorem lowB_no (b : UInt8) (h : ¬ (65 ≤ b.toNat ∧ b.toNat ≤ 90)) : (b.toNat : Int) = ((lowB b).toNat : Int) := by
  unfold lowB; rw [if_neg h]
theorem ret_u8 {a b : Int} (h : a = b) : Ending.returned (.int .u8 a) = .returned (.int .u8 b) := by rw [h]
set_option maxHeartbeats 800000 in
theorem lowerByte_any (b : UInt8) (w : World) :
    Calls Try.prog 81 #[.int .u8 (b.toNat : Int)] w fun e w' => e = .returned (.int .u8 ((lowB b).toNat : Int)) ∧ w = w' := by
  have hb := b.toNat_lt
  have hu := lowB_up b
  have hn := lowB_no b
  have HU := Lib.hid hu
  have HN := Lib.hid hn
  clear hu hn
  obtain ⟨c, hc⟩ : ∃ c, c = b.toNat := ⟨_, rfl⟩
  rw [← hc] at hb HU HN ⊢
  clear hc
  by_cases h1 : 65 ≤ c
  · by_cases h2 : c ≤ 90
    · have q1 : (65 : Int) ≤ (c : Int) := by omega
      have q2 : (c : Int) ≤ 90 := by omega
      go_enter Try.func81, Try.ntmps81
      go_wp2
      go_ret
      exact ⟨ret_u8 (HU.out ⟨h1, h2⟩), rfl⟩
    · have q1 : (65 : Int) ≤ (c : Int) := by omega
      have q2 : decide ((c : Int) ≤ 90) = false := by simp; omega
      go_enter Try.func81, Try.ntmps81
      go_wp2
      go_ret
      exact ⟨ret_u8 (HN.out (by omega)), rfl⟩
  · have q1 : decide ((65 : Int) ≤ (c : Int)) = false := by simp; omega
    go_enter Try.func81, Try.ntmps81
    go_wp2
    go_ret
    exact ⟨ret_u8 (HN.out (by omega)), rfl⟩
/-- The text, its first bytes in lower case. -/
def lowK (l : Bs) (k : Nat) : Bs := low (l.take k) ++ l.drop k
theorem lowK_length (l : Bs) (k : Nat) : (lowK l k).length = l.length := by simp [lowK, low]; omega
theorem lowK_zero (l : Bs) : lowK l 0 = l := by simp [lowK, low]
theorem lowK_all (l : Bs) (k : Nat) (h : l.length ≤ k) : lowK l k = low l := by simp [lowK, List.take_of_length_le h, List.drop_of_length_le h]
theorem lowK_get (l : Bs) (k : Nat) (h : k < l.length) : (lowK l k)[k]? = some l[k] := by
  have e : (low (l.take k)).length = k := by simp [low]; omega
  unfold lowK
  rw [List.getElem?_append_right (by omega), e]
  simp [h]
theorem lowK_succ (l : Bs) (k : Nat) (h : k < l.length) : (lowK l k).set k (lowB l[k]) = lowK l (k + 1) := by
  have e : (low (l.take k)).length = k := by simp [low]; omega
  unfold lowK
  rw [List.set_append_right _ _ (by omega), e, Nat.sub_self, List.drop_eq_getElem_cons h, List.set_cons_zero, List.take_succ_eq_append_getElem h]
  simp only [low, List.map_append, List.map_cons, List.map_nil, List.append_assoc, List.cons_append, List.nil_append]
set_option maxRecDepth 100000 in
set_option maxHeartbeats 1600000 in
theorem lower_any (s : ByteArray) (hs : s.size ≤ 140737488351232) (w : World) :
    Calls Try.prog 75 #[.string s] w fun e w' => e = .returned (.string ⟨(low s.data.toList).toArray⟩) ∧ Below w.heap.size w w' := by
  obtain ⟨C, w2, h1, h2, h3⟩ := conv_bys s w
  rw [← lowK_zero s.data.toList] at h2
  have HSZ : Hid (s.data.toList.length = s.size) := Lib.hid (size_list s).symm
  have HB := Lib.hid h2
  have HW := Lib.hid h3
  clear h2 h3
  go_enter Try.func75, Try.ntmps75
  go_wp2
  clear h1
  go_loopw [9] (fun i wr => ∃ k : Nat, k ≤ s.size ∧ i = .int .i64 k ∧ Bys wr w.heap.size (lowK s.data.toList k) ∧ Below w.heap.size w wr) (fun i _ => s.size - (intOf i).toNat)
  case atStart => exact ⟨0, by omega, rfl, HB.out, HW.out⟩
  case round =>
    clear HB HW
    obtain ⟨k, hk, rfl, hB, hbr⟩ := hrel
    have HB := Lib.hid hB
    clear hB
    by_cases hlt : k < s.size
    · have hkl : k < s.data.toList.length := by rw [HSZ.out]; exact hlt
      have hg := lowK_get s.data.toList k hkl
      have hsu := lowK_succ s.data.toList k hkl
      obtain ⟨x, hx⟩ : ∃ x, x = s.data.toList[k] := ⟨_, rfl⟩
      rw [← hx] at hg hsu
      obtain ⟨cx, fx⟩ := HB.out _ _ hg
      have HS := Lib.hid hsu
      clear hx hg hsu hkl
      go_wp2_with (go_at_call 81; refine (lowerByte_any x _).mono ?_; rintro e w' ⟨rfl, rfl⟩)
      go_roundw
      case rel => exact ⟨k + 1, by omega, by go_num, by rw [← HS.out]; exact bys_set HB.out k (by rw [lowK_length, HSZ.out]; exact hlt) _, hbr.setCell (p := ⟨w.heap.size, k, none⟩) (Nat.le_refl _) _⟩
      case measure => simp [intOf]; omega
    · have hks : k = s.size := by omega
      have hback := bys_back HB.out C
      rw [lowK_length, HSZ.out, lowK_all _ _ (by rw [HSZ.out]; omega)] at hback
      clear hks
      go_wp2
      go_ret
      exact ⟨rfl, hbr⟩
set_option maxRecDepth 100000 in
set_option maxHeartbeats 1600000 in
theorem rlower_any (s : ByteArray) (hs : s.size ≤ 140737488351232) (w : World) :
    Calls Try.prog 82 #[.string s] w fun e w' => e = .returned (.string ⟨(low s.data.toList).toArray⟩) ∧ Below w.heap.size w w' := by
  obtain ⟨C, w2, h1, h2, h3⟩ := conv_bys s w
  rw [← lowK_zero s.data.toList] at h2
  have HSZ : Hid (s.data.toList.length = s.size) := Lib.hid (size_list s).symm
  have HB := Lib.hid h2
  have HW := Lib.hid h3
  clear h2 h3
  go_enter Try.func82, Try.ntmps82
  go_wp2
  clear h1
  go_loopw [4] (fun i wr => ∃ k : Nat, k ≤ s.size ∧ i = .int .i64 k ∧ Bys wr w.heap.size (lowK s.data.toList k) ∧ Below w.heap.size w wr) (fun i _ => s.size - (intOf i).toNat)
  case atStart => exact ⟨0, by omega, rfl, HB.out, HW.out⟩
  case round =>
    clear HB HW
    obtain ⟨k, hk, rfl, hB, hbr⟩ := hrel
    have HB := Lib.hid hB
    clear hB
    by_cases hlt : k < s.size
    · have hkl : k < s.data.toList.length := by rw [HSZ.out]; exact hlt
      have hg := lowK_get s.data.toList k hkl
      have hsu := lowK_succ s.data.toList k hkl
      obtain ⟨x, hx⟩ : ∃ x, x = s.data.toList[k] := ⟨_, rfl⟩
      rw [← hx] at hg hsu
      obtain ⟨cx, fx⟩ := HB.out _ _ hg
      have HS := Lib.hid hsu
      have HG := Lib.hid hg
      have hu := lowB_up x
      have hn := lowB_no x
      have HU := Lib.hid hu
      have HN := Lib.hid hn
      have hxb := x.toNat_lt
      clear hx hg hsu hkl hu hn
      obtain ⟨c, hc⟩ : ∃ c, c = x.toNat := ⟨_, rfl⟩
      have HC := Lib.hid hc
      rw [← hc] at cx hxb
      clear hc
      have hset : lowB x = x → Bys wr w.heap.size (lowK s.data.toList (k + 1)) := fun e => by
        rw [← HS.out, e, show (lowK s.data.toList k).set k x = lowK s.data.toList k from by
          apply List.ext_getElem?
          intro j
          by_cases h : k = j
          · subst h; rw [List.getElem?_set_self (by rw [lowK_length, HSZ.out]; exact hlt), HG.out]
          · rw [List.getElem?_set_ne h]]
        exact HB.out
      have HSET := Lib.hid hset
      clear hset
      by_cases g1 : 65 ≤ c
      · have q1 : (65 : Int) ≤ (c : Int) := by omega
        by_cases g2 : c ≤ 90
        · have q2 : (c : Int) ≤ 90 := by omega
          go_wp2
          go_roundw
          case rel => exact ⟨k + 1, by omega, by go_num, by rw [← HS.out, HC.out, HU.out (by rw [← HC.out]; exact ⟨g1, g2⟩)]; exact bys_set HB.out k (by rw [lowK_length, HSZ.out]; exact hlt) _, hbr.setCell (p := ⟨w.heap.size, k, none⟩) (Nat.le_refl _) _⟩
          case measure => simp [intOf]; omega
        · have q2 : decide ((c : Int) ≤ 90) = false := by simp; omega
          go_wp2
          go_roundw
          case rel => exact ⟨k + 1, by omega, by go_num, HSET.out (by unfold lowB; rw [if_neg (by rw [← HC.out]; omega)]), hbr⟩
          case measure => simp [intOf]; omega
      · have q1 : decide ((65 : Int) ≤ (c : Int)) = false := by simp; omega
        go_wp2
        go_roundw
        case rel => exact ⟨k + 1, by omega, by go_num, HSET.out (by unfold lowB; rw [if_neg (by rw [← HC.out]; omega)]), hbr⟩
        case measure => simp [intOf]; omega
    · have hks : k = s.size := by omega
      have hback := bys_back HB.out C
      rw [lowK_length, HSZ.out, lowK_all _ _ (by rw [HSZ.out]; omega)] at hback
      clear hks
      go_wp2
      go_ret
      exact ⟨rfl, hbr⟩
def cpl : List Bs → List Bs → Nat
  | x :: a, y :: b => if x = y then cpl a b + 1 else 0
  | _, _ => 0
theorem cpl_le (a : List Bs) : ∀ b, cpl a b ≤ a.length ∧ cpl a b ≤ b.length := by
  induction a with
  | nil => intro b; simp [cpl]
  | cons x a ih =>
    intro b
    cases b with
    | nil => simp [cpl]
    | cons y b =>
      have := ih b
      simp only [cpl, List.length_cons]
      split <;> omega
theorem cpl_same (a : List Bs) : ∀ b j, j < cpl a b → a.getD j [] = b.getD j [] := by
  induction a with
  | nil => intro b j h; simp [cpl] at h
  | cons x a ih =>
    intro b j h
    cases b with
    | nil => simp [cpl] at h
    | cons y b =>
      simp only [cpl] at h
      split at h
      · rename_i e
        cases j with
        | zero => simpa using e
        | succ j => simpa using ih b j (by omega)
      · omega
theorem cpl_stop (a : List Bs) : ∀ b k, k < a.length → k < b.length → (∀ j, j < k → a.getD j [] = b.getD j []) → a.getD k [] ≠ b.getD k [] → cpl a b = k := by
  induction a with
  | nil => intro b k h; simp at h
  | cons x a ih =>
    intro b k h1 h2 h3 h4
    cases b with
    | nil => simp at h2
    | cons y b =>
      cases k with
      | zero =>
        simp at h4
        simp only [cpl]; rw [if_neg h4]
      | succ k =>
        have e : x = y := by simpa using h3 0 (by omega)
        simp only [cpl]; rw [if_pos e]
        have := ih b k (by simpa using h1) (by simpa using h2) (fun j hj => by simpa using h3 (j + 1) (by omega)) (by simpa using h4)
        omega
theorem cpl_full (a : List Bs) : ∀ b k, k = a.length ∨ k = b.length → k ≤ a.length → k ≤ b.length → (∀ j, j < k → a.getD j [] = b.getD j []) → cpl a b = k := by
  induction a with
  | nil => intro b k h h1 h2 h3; simp at h1; simp [cpl, h1]
  | cons x a ih =>
    intro b k h h1 h2 h3
    cases b with
    | nil => simp at h2; simp [cpl, h2]
    | cons y b =>
      cases k with
      | zero => simp at h
      | succ k =>
        have e : x = y := by simpa using h3 0 (by omega)
        simp only [cpl]; rw [if_pos e]
        have := ih b k (by simpa using h) (by simpa using h1) (by simpa using h2) (fun j hj => by simpa using h3 (j + 1) (by omega))
        omega
theorem cpl_next (a b : List Bs) (h1 : cpl a b < a.length) (h2 : cpl a b < b.length) : a.getD (cpl a b) [] ≠ b.getD (cpl a b) [] := by
  intro h
  have h3 : ∀ j, j < cpl a b + 1 → a.getD j [] = b.getD j [] := by
    intro j hj
    by_cases e : j < cpl a b
    · exact cpl_same a b j e
    · obtain rfl : j = cpl a b := by omega
      exact h
  have : ∀ (a b : List Bs) (k : Nat), k ≤ a.length → k ≤ b.length → (∀ j, j < k → a.getD j [] = b.getD j []) → k ≤ cpl a b := by
    intro a
    induction a with
    | nil => intro b k h1; simp at h1; omega
    | cons x a ih =>
      intro b k h1 h2 h3
      cases b with
      | nil => simp at h2; omega
      | cons y b =>
        cases k with
        | zero => omega
        | succ k =>
          have e : x = y := by simpa using h3 0 (by omega)
          simp only [cpl]; rw [if_pos e]
          have := ih b k (by simpa using h1) (by simpa using h2) (fun j hj => by simpa using h3 (j + 1) (by omega))
          omega
  have := this a b (cpl a b + 1) h1 h2 h3
  omega
def frl (ls : List Bs) (i : Nat) : Bs := ls.reverse.getD i []
theorem frl_in {ls : List Bs} {i : Nat} (h : i < ls.length) : ls[ls.length - 1 - i]? = some (frl ls i) := by
  unfold frl
  rw [List.getD_eq_getElem?_getD, List.getElem?_reverse h, List.getElem?_eq_getElem (by omega)]
  rfl
theorem frl_out {ls : List Bs} {i : Nat} (h : ls.length ≤ i) : [] = frl ls i := by
  unfold frl
  rw [List.getD_eq_getElem?_getD, List.getElem?_eq_none (by simpa using h)]
  rfl
/-- How many labels a name has; -1: it is none. -/
def dep (l : Bs) : Int := if chk l = 0 then ((labs l).length : Int) else -1
theorem dep_yes {l : Bs} (h : chk l = 0) : ((labs l).length : Int) = dep l := by unfold dep; rw [if_pos h]
theorem dep_no {l : Bs} (h : ¬ chk l = 0) : -1 = dep l := by unfold dep; rw [if_neg h]
def eqB (la lb : List Bs) (i : Nat) : Bool := frl la i == frl lb i
theorem low_length (l : Bs) : (low l).length = l.length := by simp [low]
theorem low_append (a b : Bs) : low (a ++ b) = low a ++ low b := by simp [low]
theorem low_enc1 (x : Bs) (h : OkL x) : low (enc1 x) = enc1 (low x) := by
  have e : (UInt8.ofNat x.length).toNat = x.length := by have := h.2; simp; omega
  have : lowB (UInt8.ofNat x.length) = UInt8.ofNat x.length := by
    unfold lowB; rw [if_neg]; rw [e]; have := h.2; omega
  simp [enc1, low, this]
theorem low_enc (ls : List Bs) (h : ∀ x ∈ ls, OkL x) : low (enc ls) = enc (ls.map low) := by
  induction ls with
  | nil => rfl
  | cons x ls ih => rw [enc_cons, low_append, low_enc1 x (h x (by simp)), ih (fun y hy => h y (by simp [hy])), List.map_cons, enc_cons]
theorem low_ok (ls : List Bs) (h : ∀ x ∈ ls, OkL x) : ∀ x ∈ ls.map low, OkL x := by
  intro x hx
  obtain ⟨y, hy, rfl⟩ := List.mem_map.1 hx
  have := h y hy
  exact ⟨by rw [low_length]; exact this.1, by rw [low_length]; exact this.2⟩
theorem low_step (r : Bs) (h : step r = 0) : step (low r) = 0 := by
  cases r with
  | nil => rfl
  | cons c t =>
    show step (lowB c :: low t) = 0
    simp only [step] at h ⊢
    by_cases h1 : 65 ≤ c.toNat ∧ c.toNat ≤ 90
    · have e : (lowB c).toNat = c.toNat + 32 := by unfold lowB; rw [if_pos h1, UInt8.toNat_add]; simp; omega
      rw [if_neg (by omega)]
    · have e : lowB c = c := by unfold lowB; rw [if_neg h1]
      rw [e, low_length]; exact h
theorem labs_low (l : Bs) : labs (low l) = (labs l).map low := by
  have h := split l
  conv => lhs; rw [← h]
  rw [low_append, low_enc _ (labs_ok l)]
  exact labs_join _ _ (low_ok _ (labs_ok l)) (low_step _ (rest_step l))
theorem rest_low (l : Bs) : rest (low l) = low (rest l) := by
  have h := split l
  conv => lhs; rw [← h]
  rw [low_append, low_enc _ (labs_ok l)]
  exact rest_join _ _ (low_ok _ (labs_ok l)) (low_step _ (rest_step l))
/-- How many of the last labels are the same. -/
def cm (a b : Bs) : Nat := cpl (labs (low a)).reverse (labs (low b)).reverse
def shr (a b : Bs) : Int := if chk a = 0 ∧ chk b = 0 then (cm a b : Int) else -1
theorem shr_yes {a b : Bs} (h1 : chk a = 0) (h2 : chk b = 0) : (cm a b : Int) = shr a b := by unfold shr; rw [if_pos ⟨h1, h2⟩]
theorem shr_no {a b : Bs} (h : ¬ (chk a = 0 ∧ chk b = 0)) : -1 = shr a b := by unfold shr; rw [if_neg h]
theorem eqB_iff (la lb : List Bs) (i : Nat) : eqB la lb i = true ↔ la.reverse.getD i [] = lb.reverse.getD i [] := by
  unfold eqB frl; simp
theorem eqB_no (la lb : List Bs) (i : Nat) : eqB la lb i = false ↔ ¬ la.reverse.getD i [] = lb.reverse.getD i [] := by
  rw [← eqB_iff]; simp
theorem labs_len (s : ByteArray) (hs : s.size ≤ 1000000) : (labs s.data.toList).length ≤ 1000000 := by
  have hel := enc_le s
  have hll := length_le_enc (labs s.data.toList)
  omega
theorem labs_low_len (s : ByteArray) : (labs (low s.data.toList)).length = (labs s.data.toList).length := by rw [labs_low, List.length_map]
def sam (a b : Bs) : Bool := if a.length = b.length ∧ chk a = 0 ∧ chk b = 0 then low a == low b else false
theorem sam_no {a b : Bs} (h : ¬ (a.length = b.length ∧ chk a = 0 ∧ chk b = 0)) : false = sam a b := by unfold sam; rw [if_neg h]
theorem below_drewN (w : World) (n : Nat) : Below w.heap.size w (w.drewN n) := ⟨rfl, rfl, rfl, Nat.le_refl _, fun _ _ => rfl⟩
end Go.Proofs.Ytflpceaaelampaa
