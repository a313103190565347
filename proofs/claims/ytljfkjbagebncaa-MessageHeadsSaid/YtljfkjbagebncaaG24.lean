/-
  Low: The lower-case form of a text, by the program and by the document, for every text; how many labels two names share: plain mathematics. No older memory is changed.
  RSame: What the document's Depth, Shared and Same answer, for every two texts; no older memory is changed.
-/
import Derived.Test.YtljfkjbagebncaaG03
import Derived.Test.YtljfkjbagebncaaG13
import Derived.IntWalk
import Derived.BigQuiet
import Derived.Deep.QuietTactic
import Derived.BigRegion
import Derived.StillTailTactics
import Derived.Deep.RegionHeld3
import Derived.WalkSpells

/- Low -/
namespace Go.Proofs.Ytljfkjbagebncaa
open Go.RowKit
/-- The lower-case form of a byte, and of bytes. -/
def lowB (b : UInt8) : UInt8 := if 65 ≤ b.toNat ∧ b.toNat ≤ 90 then b + 32 else b
def low (l : Bs) : Bs := l.map lowB
theorem lowB_up (b : UInt8) (h : 65 ≤ b.toNat ∧ b.toNat ≤ 90) : (b.toNat : Int) + 32 = ((lowB b).toNat : Int) := by
  unfold lowB; rw [if_pos h, UInt8.toNat_add]; simp; omega
theorem lowB_no (b : UInt8) (h : ¬ (65 ≤ b.toNat ∧ b.toNat ≤ 90)) : (b.toNat : Int) = ((lowB b).toNat : Int) := by
  unfold lowB; rw [if_neg h]
theorem ret_u8 {a b : Int} (h : a = b) : Ending.returned (.int .u8 a) = .returned (.int .u8 b) := by rw [h]
set_option maxHeartbeats 800000 in
theorem lowerByte_any (b : UInt8) (w : World) :
    Calls Try.prog 109 #[.int .u8 (b.toNat : Int)] w fun e w' => e = .returned (.int .u8 ((lowB b).toNat : Int)) ∧ w = w' := by
  have hb := b.toNat_lt
  have hu := lowB_up b
  have hn := lowB_no b
  have HU := Lib.hid hu
  have HN := Lib.hid hn
  clear hu hn
  obtain ⟨c, hc⟩ : ∃ c, c = b.toNat := ⟨_, rfl⟩
  rw [← hc] at hb HU HN ⊢
  clear hc
  by_cases h1 : 65 ≤ c
  · by_cases h2 : c ≤ 90
    · have q1 : (65 : Int) ≤ (c : Int) := by omega
      have q2 : (c : Int) ≤ 90 := by omega
      go_enter Try.func109, Try.ntmps109
      go_wp2
      go_ret
      exact ⟨ret_u8 (HU.out ⟨h1, h2⟩), rfl⟩
    · have q1 : (65 : Int) ≤ (c : Int) := by omega
      have q2 : decide ((c : Int) ≤ 90) = false := by simp; omega
      go_enter Try.func109, Try.ntmps109
      go_wp2
      go_ret
      exact ⟨ret_u8 (HN.out (by omega)), rfl⟩
  · have q1 : decide ((65 : Int) ≤ (c : Int)) = false := by simp; omega
    go_enter Try.func109, Try.ntmps109
    go_wp2
    go_ret
    exact ⟨ret_u8 (HN.out (by omega)), rfl⟩
/-- The text, its first bytes in lower case. -/
def lowK (l : Bs) (k : Nat) : Bs := low (l.take k) ++ l.drop k
theorem lowK_length (l : Bs) (k : Nat) : (lowK l k).length = l.length := by simp [lowK, low]; omega
theorem lowK_zero (l : Bs) : lowK l 0 = l := by simp [lowK, low]
theorem lowK_all (l : Bs) (k : Nat) (h : l.length ≤ k) : lowK l k = low l := by simp [lowK, List.take_of_length_le h, List.drop_of_length_le h]
theorem lowK_get (l : Bs) (k : Nat) (h : k < l.length) : (lowK l k)[k]? = some l[k] := by
  have e : (low (l.take k)).length = k := by simp [low]; omega
  unfold lowK
  rw [List.getElem?_append_right (by omega), e]
  simp [h]
theorem lowK_succ (l : Bs) (k : Nat) (h : k < l.length) : (lowK l k).set k (lowB l[k]) = lowK l (k + 1) := by
  have e : (low (l.take k)).length = k := by simp [low]; omega
  unfold lowK
  rw [List.set_append_right _ _ (by omega), e, Nat.sub_self, List.drop_eq_getElem_cons h, List.set_cons_zero, List.take_succ_eq_append_getElem h]
  simp only [low, List.map_append, List.map_cons, List.map_nil, List.append_assoc, List.cons_append, List.nil_append]
set_option maxRecDepth 100000 in
set_option maxHeartbeats 1600000 in
theorem lower_any (s : ByteArray) (hs : s.size ≤ 140737488351232) (w : World) :
    Calls Try.prog 81 #[.string s] w fun e w' => e = .returned (.string ⟨(low s.data.toList).toArray⟩) ∧ Below w.heap.size w w' := by
  obtain ⟨C, w2, h1, h2, h3⟩ := conv_bys s w
  rw [← lowK_zero s.data.toList] at h2
  have HSZ : Hid (s.data.toList.length = s.size) := Lib.hid (size_list s).symm
  have HB := Lib.hid h2
  have HW := Lib.hid h3
  clear h2 h3
  go_enter Try.func81, Try.ntmps81
  go_wp2
  clear h1
  go_loopw [9] (fun i wr => ∃ k : Nat, k ≤ s.size ∧ i = .int .i64 k ∧ Bys wr w.heap.size (lowK s.data.toList k) ∧ Below w.heap.size w wr) (fun i _ => s.size - (intOf i).toNat)
  case atStart => exact ⟨0, by omega, rfl, HB.out, HW.out⟩
  case round =>
    clear HB HW
    obtain ⟨k, hk, rfl, hB, hbr⟩ := hrel
    have HB := Lib.hid hB
    clear hB
    by_cases hlt : k < s.size
    · have hkl : k < s.data.toList.length := by rw [HSZ.out]; exact hlt
      have hg := lowK_get s.data.toList k hkl
      have hsu := lowK_succ s.data.toList k hkl
      obtain ⟨x, hx⟩ : ∃ x, x = s.data.toList[k] := ⟨_, rfl⟩
      rw [← hx] at hg hsu
      obtain ⟨cx, fx⟩ := HB.out _ _ hg
      have HS := Lib.hid hsu
      clear hx hg hsu hkl
      go_wp2_with (go_at_call 109; refine (lowerByte_any x _).mono ?_; rintro e w' ⟨rfl, rfl⟩)
      go_roundw
      case rel => exact ⟨k + 1, by omega, by go_num, by rw [← HS.out]; exact bys_set HB.out k (by rw [lowK_length, HSZ.out]; exact hlt) _, hbr.setCell (p := ⟨w.heap.size, k, none⟩) (Nat.le_refl _) _⟩
      case measure => simp [intOf]; omega
    · have hks : k = s.size := by omega
      have hback := bys_back HB.out C
      rw [lowK_length, HSZ.out, lowK_all _ _ (by rw [HSZ.out]; omega)] at hback
      clear hks
      go_wp2
      go_ret
      exact ⟨rfl, hbr⟩
set_option maxRecDepth 100000 in
set_option maxHeartbeats 1600000 in
theorem rlower_any (s : ByteArray) (hs : s.size ≤ 140737488351232) (w : World) :
    Calls Try.prog 110 #[.string s] w fun e w' => e = .returned (.string ⟨(low s.data.toList).toArray⟩) ∧ Below w.heap.size w w' := by
  obtain ⟨C, w2, h1, h2, h3⟩ := conv_bys s w
  rw [← lowK_zero s.data.toList] at h2
  have HSZ : Hid (s.data.toList.length = s.size) := Lib.hid (size_list s).symm
  have HB := Lib.hid h2
  have HW := Lib.hid h3
  clear h2 h3
  go_enter Try.func110, Try.ntmps110
  go_wp2
  clear h1
  go_loopw [4] (fun i wr => ∃ k : Nat, k ≤ s.size ∧ i = .int .i64 k ∧ Bys wr w.heap.size (lowK s.data.toList k) ∧ Below w.heap.size w wr) (fun i _ => s.size - (intOf i).toNat)
  case atStart => exact ⟨0, by omega, rfl, HB.out, HW.out⟩
  case round =>
    clear HB HW
    obtain ⟨k, hk, rfl, hB, hbr⟩ := hrel
    have HB := Lib.hid hB
    clear hB
    by_cases hlt : k < s.size
    · have hkl : k < s.data.toList.length := by rw [HSZ.out]; exact hlt
      have hg := lowK_get s.data.toList k hkl
      have hsu := lowK_succ s.data.toList k hkl
      obtain ⟨x, hx⟩ : ∃ x, x = s.data.toList[k] := ⟨_, rfl⟩
      rw [← hx] at hg hsu
      obtain ⟨cx, fx⟩ := HB.out _ _ hg
      have HS := Lib.hid hsu
      have HG := Lib.hid hg
      have hu := lowB_up x
      have hn := lowB_no x
      have HU := Lib.hid hu
      have HN := Lib.hid hn
      have hxb := x.toNat_lt
      clear hx hg hsu hkl hu hn
      obtain ⟨c, hc⟩ : ∃ c, c = x.toNat := ⟨_, rfl⟩
      have HC := Lib.hid hc
      rw [← hc] at cx hxb
      clear hc
      have hset : lowB x = x → Bys wr w.heap.size (lowK s.data.toList (k + 1)) := fun e => by
        rw [← HS.out, e, show (lowK s.data.toList k).set k x = lowK s.data.toList k from by
          apply List.ext_getElem?
          intro j
          by_cases h : k = j
          · subst h; rw [List.getElem?_set_self (by rw [lowK_length, HSZ.out]; exact hlt), HG.out]
          · rw [List.getElem?_set_ne h]]
        exact HB.out
      have HSET := Lib.hid hset
      clear hset
      by_cases g1 : 65 ≤ c
      · have q1 : (65 : Int) ≤ (c : Int) := by omega
        by_cases g2 : c ≤ 90
        · have q2 : (c : Int) ≤ 90 := by omega
          go_wp2
          go_roundw
          case rel => exact ⟨k + 1, by omega, by go_num, by rw [← HS.out, HC.out, HU.out (by rw [← HC.out]; exact ⟨g1, g2⟩)]; exact bys_set HB.out k (by rw [lowK_length, HSZ.out]; exact hlt) _, hbr.setCell (p := ⟨w.heap.size, k, none⟩) (Nat.le_refl _) _⟩
          case measure => simp [intOf]; omega
        · have q2 : decide ((c : Int) ≤ 90) = false := by simp; omega
          go_wp2
          go_roundw
          case rel => exact ⟨k + 1, by omega, by go_num, HSET.out (by unfold lowB; rw [if_neg (by rw [← HC.out]; omega)]), hbr⟩
          case measure => simp [intOf]; omega
      · have q1 : decide ((65 : Int) ≤ (c : Int)) = false := by simp; omega
        go_wp2
        go_roundw
        case rel => exact ⟨k + 1, by omega, by go_num, HSET.out (by unfold lowB; rw [if_neg (by rw [← HC.out]; omega)]), hbr⟩
        case measure => simp [intOf]; omega
    · have hks : k = s.size := by omega
      have hback := bys_back HB.out C
      rw [lowK_length, HSZ.out, lowK_all _ _ (by rw [HSZ.out]; omega)] at hback
      clear hks
      go_wp2
      go_ret
      exact ⟨rfl, hbr⟩
def cpl : List Bs → List Bs → Nat
  | x :: a, y :: b => if x = y then cpl a b + 1 else 0
  | _, _ => 0
theorem cpl_le (a : List Bs) : ∀ b, cpl a b ≤ a.length ∧ cpl a b ≤ b.length := by
  induction a with
  | nil => intro b; simp [cpl]
  | cons x a ih =>
    intro b
    cases b with
    | nil => simp [cpl]
    | cons y b =>
      have := ih b
      simp only [cpl, List.length_cons]
      split <;> omega
theorem cpl_same (a : List Bs) : ∀ b j, j < cpl a b → a.getD j [] = b.getD j [] := by
  induction a with
  | nil => intro b j h; simp [cpl] at h
  | cons x a ih =>
    intro b j h
    cases b with
    | nil => simp [cpl] at h
    | cons y b =>
      simp only [cpl] at h
      split at h
      · rename_i e
        cases j with
        | zero => simpa using e
        | succ j => simpa using ih b j (by omega)
      · omega
theorem cpl_stop (a : List Bs) : ∀ b k, k < a.length → k < b.length → (∀ j, j < k → a.getD j [] = b.getD j []) → a.getD k [] ≠ b.getD k [] → cpl a b = k := by
  induction a with
  | nil => intro b k h; simp at h
  | cons x a ih =>
    intro b k h1 h2 h3 h4
    cases b with
    | nil => simp at h2
    | cons y b =>
      cases k with
      | zero =>
        simp at h4
        simp only [cpl]; rw [if_neg h4]
      | succ k =>
        have e : x = y := by simpa using h3 0 (by omega)
        simp only [cpl]; rw [if_pos e]
        have := ih b k (by simpa using h1) (by simpa using h2) (fun j hj => by simpa using h3 (j + 1) (by omega)) (by simpa using h4)
        omega
theorem cpl_full (a : List Bs) : ∀ b k, k = a.length ∨ k = b.length → k ≤ a.length → k ≤ b.length → (∀ j, j < k → a.getD j [] = b.getD j []) → cpl a b = k := by
  induction a with
  | nil => intro b k h h1 h2 h3; simp at h1; simp [cpl, h1]
  | cons x a ih =>
    intro b k h h1 h2 h3
    cases b with
    | nil => simp at h2; simp [cpl, h2]
    | cons y b =>
      cases k with
      | zero => simp at h
      | succ k =>
        have e : x = y := by simpa using h3 0 (by omega)
        simp only [cpl]; rw [if_pos e]
        have := ih b k (by simpa using h) (by simpa using h1) (by simpa using h2) (fun j hj => by simpa using h3 (j + 1) (by omega))
        omega
theorem cpl_next (a b : List Bs) (h1 : cpl a b < a.length) (h2 : cpl a b < b.length) : a.getD (cpl a b) [] ≠ b.getD (cpl a b) [] := by
  intro h
  have h3 : ∀ j, j < cpl a b + 1 → a.getD j [] = b.getD j [] := by
    intro j hj
    by_cases e : j < cpl a b
    · exact cpl_same a b j e
    · obtain rfl : j = cpl a b := by omega
      exact h
  have : ∀ (a b : List Bs) (k : Nat), k ≤ a.length → k ≤ b.length → (∀ j, j < k → a.getD j [] = b.getD j []) → k ≤ cpl a b := by
    intro a
    induction a with
    | nil => intro b k h1; simp at h1; omega
    | cons x a ih =>
      intro b k h1 h2 h3
      cases b with
      | nil => simp at h2; omega
      | cons y b =>
        cases k with
        | zero => omega
        | succ k =>
          have e : x = y := by simpa using h3 0 (by omega)
          simp only [cpl]; rw [if_pos e]
          have := ih b k (by simpa using h1) (by simpa using h2) (fun j hj => by simpa using h3 (j + 1) (by omega))
          omega
  have := this a b (cpl a b + 1) h1 h2 h3
  omega
def frl (ls : List Bs) (i : Nat) : Bs := ls.reverse.getD i []
theorem frl_in {ls : List Bs} {i : Nat} (h : i < ls.length) : ls[ls.length - 1 - i]? = some (frl ls i) := by
  unfold frl
  rw [List.getD_eq_getElem?_getD, List.getElem?_reverse h, List.getElem?_eq_getElem (by omega)]
  rfl
theorem frl_out {ls : List Bs} {i : Nat} (h : ls.length ≤ i) : [] = frl ls i := by
  unfold frl
  rw [List.getD_eq_getElem?_getD, List.getElem?_eq_none (by simpa using h)]
  rfl
/-- How many labels a name has; -1: it is none. -/
def dep (l : Bs) : Int := if chk l = 0 then ((labs l).length : Int) else -1
theorem dep_yes {l : Bs} (h : chk l = 0) : ((labs l).length : Int) = dep l := by unfold dep; rw [if_pos h]
theorem dep_no {l : Bs} (h : ¬ chk l = 0) : -1 = dep l := by unfold dep; rw [if_neg h]
def eqB (la lb : List Bs) (i : Nat) : Bool := frl la i == frl lb i
theorem low_length (l : Bs) : (low l).length = l.length := by simp [low]
theorem low_append (a b : Bs) : low (a ++ b) = low a ++ low b := by simp [low]
theorem low_enc1 (x : Bs) (h : OkL x) : low (enc1 x) = enc1 (low x) := by
  have e : (UInt8.ofNat x.length).toNat = x.length := by have := h.2; simp; omega
  have : lowB (UInt8.ofNat x.length) = UInt8.ofNat x.length := by
    unfold lowB; rw [if_neg]; rw [e]; have := h.2; omega
  simp [enc1, low, this]
theorem low_enc (ls : List Bs) (h : ∀ x ∈ ls, OkL x) : low (enc ls) = enc (ls.map low) := by
  induction ls with
  | nil => rfl
  | cons x ls ih => rw [enc_cons, low_append, low_enc1 x (h x (by simp)), ih (fun y hy => h y (by simp [hy])), List.map_cons, enc_cons]
theorem low_ok (ls : List Bs) (h : ∀ x ∈ ls, OkL x) : ∀ x ∈ ls.map low, OkL x := by
  intro x hx
  obtain ⟨y, hy, rfl⟩ := List.mem_map.1 hx
  have := h y hy
  exact ⟨by rw [low_length]; exact this.1, by rw [low_length]; exact this.2⟩
theorem low_step (r : Bs) (h : step r = 0) : step (low r) = 0 := by
  cases r with
  | nil => rfl
  | cons c t =>
    show step (lowB c :: low t) = 0
    simp only [step] at h ⊢
    by_cases h1 : 65 ≤ c.toNat ∧ c.toNat ≤ 90
    · have e : (lowB c).toNat = c.toNat + 32 := by unfold lowB; rw [if_pos h1, UInt8.toNat_add]; simp; omega
      rw [if_neg (by omega)]
    · have e : lowB c = c := by unfold lowB; rw [if_neg h1]
      rw [e, low_length]; exact h
theorem labs_low (l : Bs) : labs (low l) = (labs l).map low := by
  have h := split l
  conv => lhs; rw [← h]
  rw [low_append, low_enc _ (labs_ok l)]
  exact labs_join _ _ (low_ok _ (labs_ok l)) (low_step _ (rest_step l))
theorem rest_low (l : Bs) : rest (low l) = low (rest l) := by
  have h := split l
  conv => lhs; rw [← h]
  rw [low_append, low_enc _ (labs_ok l)]
  exact rest_join _ _ (low_ok _ (labs_ok l)) (low_step _ (rest_step l))
/-- How many of the last labels are the same. -/
def cm (a b : Bs) : Nat := cpl (labs (low a)).reverse (labs (low b)).reverse
def shr (a b : Bs) : Int := if chk a = 0 ∧ chk b = 0 then (cm a b : Int) else -1
theorem shr_yes {a b : Bs} (h1 : chk a = 0) (h2 : chk b = 0) : (cm a b : Int) = shr a b := by unfold shr; rw [if_pos ⟨h1, h2⟩]
theorem shr_no {a b : Bs} (h : ¬ (chk a = 0 ∧ chk b = 0)) : -1 = shr a b := by unfold shr; rw [if_neg h]
theorem eqB_iff (la lb : List Bs) (i : Nat) : eqB la lb i = true ↔ la.reverse.getD i [] = lb.reverse.getD i [] := by
  unfold eqB frl; simp
theorem eqB_no (la lb : List Bs) (i : Nat) : eqB la lb i = false ↔ ¬ la.reverse.getD i [] = lb.reverse.getD i [] := by
  rw [← eqB_iff]; simp
theorem labs_len (s : ByteArray) (hs : s.size ≤ 1000000) : (labs s.data.toList).length ≤ 1000000 := by
  have hel := enc_le s
  have hll := length_le_enc (labs s.data.toList)
  omega
theorem labs_low_len (s : ByteArray) : (labs (low s.data.toList)).length = (labs s.data.toList).length := by rw [labs_low, List.length_map]
def sam (a b : Bs) : Bool := if a.length = b.length ∧ chk a = 0 ∧ chk b = 0 then low a == low b else false
theorem sam_no {a b : Bs} (h : ¬ (a.length = b.length ∧ chk a = 0 ∧ chk b = 0)) : false = sam a b := by unfold sam; rw [if_neg h]
theorem below_drewN (w : World) (n : Nat) : Below w.heap.size w (w.drewN n) := ⟨rfl, rfl, rfl, Nat.le_refl _, fun _ _ => rfl⟩
end Go.Proofs.Ytljfkjbagebncaa

/- RSame -/
namespace Go.Proofs.Ytljfkjbagebncaa
open Go.RowKit
theorem frl_map (ls : List Bs) (k : Nat) : frl (ls.map low) k = low (frl ls k) := by
  unfold frl
  rw [List.getD_eq_getElem?_getD, List.getD_eq_getElem?_getD, ← List.map_reverse, List.getElem?_map]
  cases ls.reverse[k]? <;> rfl
theorem eqB_low (a b : Bs) (k : Nat) : eqB (labs (low a)) (labs (low b)) k = (low (frl (labs a) k) == low (frl (labs b) k)) := by
  unfold eqB
  rw [labs_low, labs_low, frl_map, frl_map]
theorem own_get {w : World} {B cap n j : Nat} {a : Option Addr} {ls : List Bs} {x : Bs} (h : Own9 w B (.slice a n cap) ls) (hx : ls[j]? = some x) : ∃ g, a = some ⟨g, 0, none⟩ ∧ g < w.heap.size ∧ w.cell? ⟨g, j, none⟩ = some (.string ⟨x.toArray⟩) := by
  have hc := @World.ownsRow.cells w B 9 1 _ ls.length _ h
  rcases h.2 with ⟨e, h0⟩ | ⟨g, cap', cur, e, hb, hg, _⟩
  · have : ls = [] := List.length_eq_zero_iff.1 h0
    subst this
    simp at hx
  · cases e
    refine ⟨g, rfl, (Array.getElem?_eq_some_iff.1 hg).1, ?_⟩
    have := hc (g := g) rfl j (str x) (by simp [hx])
    rw [show (⟨g, 0, none⟩ : Addr).add j = ⟨g, j, none⟩ by unfold Addr.add; split <;> simp_all] at this
    exact this
theorem own_len {w : World} {B cap n : Nat} {a : Option Addr} {ls : List Bs} (h : Own9 w B (.slice a n cap) ls) : n = ls.length := by
  rcases h.2 with ⟨e, h0⟩ | ⟨g, cap', cur, e, _⟩
  · cases e; exact h0.symm
  · cases e; rfl
set_option maxRecDepth 100000 in
set_option maxHeartbeats 1600000 in
theorem rdepth_any (s : ByteArray) (hs : s.size ≤ 1000000) (w : World) :
    Calls Try.prog 83 #[.string s] w fun e w' => e = .returned (.int .i64 (dep s.data.toList)) ∧ Below w.heap.size w w' := by
  by_cases g : chk s.data.toList = 0
  · have D := Lib.hid (dep_yes g)
    have G := Lib.hid g
    clear g
    go_enter Try.func83, Try.ntmps83
    go_wp2_with (go_at_call 95; refine (rlabels_yes s hs G.out _).mono ?_; rintro e w1 ⟨v, rfl, hown, hb1⟩; obtain ⟨a, cap, rfl⟩ := row_slice hown)
    go_ret
    exact ⟨ret_i64 D.out, hb1⟩
  · have D := Lib.hid (dep_no g)
    have G := Lib.hid g
    have q : (chk s.data.toList == 0) = false := by simpa using g
    have q' : (chk s.data.toList != 0) = true := by simpa using g
    clear g
    go_enter Try.func83, Try.ntmps83
    go_wp2_with (go_at_call 95; refine (rlabels_no s hs G.out _).mono ?_; rintro e w1 ⟨rfl, hb1⟩)
    go_ret
    exact ⟨ret_i64 D.out, hb1⟩
set_option maxRecDepth 100000 in
set_option maxHeartbeats 1600000 in
theorem rshared_no (a b : ByteArray) (ha : a.size ≤ 1000000) (hb : b.size ≤ 1000000) (h : ¬ (chk a.data.toList = 0 ∧ chk b.data.toList = 0)) (w : World) :
    Calls Try.prog 82 #[.string a, .string b] w fun e w' => e = .returned (.int .i64 (-1)) ∧ Below w.heap.size w w' := by
  by_cases h1 : chk a.data.toList = 0
  · have h2 : ¬ chk b.data.toList = 0 := fun e => h ⟨h1, e⟩
    have q : (chk b.data.toList == 0) = false := by simpa using h2
    have q' : (chk b.data.toList != 0) = true := by simpa using h2
    have H1 := Lib.hid h1
    have H2 := Lib.hid h2
    clear h h1 h2
    go_enter Try.func82, Try.ntmps82
    go_wp2_with fail
    refine (rlabels_yes a ha H1.out w).mono ?_
    rintro e w1 ⟨v, rfl, _, hb1⟩
    go_wp2_with fail
    refine (rlabels_no b hb H2.out w1).mono ?_
    rintro e w2 ⟨rfl, hb2⟩
    go_wp2
    go_ret
    exact ⟨rfl, hb1.trans (hb2.mono hb1.size)⟩
  · have q : (chk a.data.toList == 0) = false := by simpa using h1
    have q' : (chk a.data.toList != 0) = true := by simpa using h1
    have H1 := Lib.hid h1
    clear h h1
    have hl : ∃ v x, ∀ w, Calls Try.prog 95 #[.string b] w fun e w' => ∃ v x, e = .returned (.tuple #[v, .int .i64 x]) ∧ Below w.heap.size w w' := ⟨0, 0, fun w => by
      by_cases h2 : chk b.data.toList = 0
      · exact (rlabels_yes b hb h2 w).mono fun e w' ⟨v, h1, _, h3⟩ => ⟨v, 0, h1, h3⟩
      · exact (rlabels_no b hb h2 w).mono fun e w' ⟨h1, h3⟩ => ⟨_, _, h1, h3⟩⟩
    obtain ⟨_, _, hl⟩ := hl
    have HL := Lib.hid hl
    clear hl
    go_enter Try.func82, Try.ntmps82
    go_wp2_with fail
    refine (rlabels_no a ha H1.out w).mono ?_
    rintro e w1 ⟨rfl, hb1⟩
    go_wp2_with fail
    refine (HL.out w1).mono ?_
    rintro e w2 ⟨v, x, rfl, hb2⟩
    go_wp2
    go_ret
    exact ⟨rfl, hb1.trans (hb2.mono hb1.size)⟩
theorem below_drew {w w' : World} (h : Below w.drew.heap.size w.drew w') : Below w.heap.size w w' := ((Below.refl _ w).drew).trans h
theorem chain3 {w2 wr w5 w6 : World} (h : Below w2.heap.size w2 wr) (h5 : Below wr.drew.heap.size wr.drew w5) (h6 : Below w5.heap.size w5 w6) : Below w2.heap.size w2 w6 := by
  have h5' := h.trans ((below_drew h5).mono h.size)
  exact h5'.trans (h6.mono h5'.size)
set_option maxRecDepth 100000 in
set_option maxHeartbeats 3200000 in
theorem rshared_yes (a b : ByteArray) (ha : a.size ≤ 1000000) (hb : b.size ≤ 1000000) (h1 : chk a.data.toList = 0) (h2 : chk b.data.toList = 0) (w : World) :
    Calls Try.prog 82 #[.string a, .string b] w fun e w' => e = .returned (.int .i64 (cm a.data.toList b.data.toList : Int)) ∧ Below w.heap.size w w' := by
  have H1 := Lib.hid h1
  have H2 := Lib.hid h2
  clear h1 h2
  go_enter Try.func82, Try.ntmps82
  go_wp2_with fail
  refine (rlabels_yes a ha H1.out w).mono ?_
  rintro e w1 ⟨v1, rfl, ho1, hb1⟩
  go_wp2_with fail
  refine (rlabels_yes b hb H2.out w1).mono ?_
  rintro e w2 ⟨v2, rfl, ho2, hb2⟩
  have ho1' := ho1.below hb2
  have hb12 := hb1.trans (hb2.mono hb1.size)
  obtain ⟨a1, cap1, rfl⟩ := row_slice ho1
  obtain ⟨a2, cap2, rfl⟩ := row_slice ho2
  have hNb := labs_len a ha
  have hMb := labs_len b hb
  obtain ⟨A, hA⟩ : ∃ A, A = labs a.data.toList := ⟨_, rfl⟩
  obtain ⟨B, hB⟩ : ∃ B, B = labs b.data.toList := ⟨_, rfl⟩
  have HLA : Hid (labs (low a.data.toList) = A.map low) := Lib.hid (by rw [labs_low, hA])
  have HLB : Hid (labs (low b.data.toList) = B.map low) := Lib.hid (by rw [labs_low, hB])
  have HEA := Lib.hid hA.symm
  have HEB := Lib.hid hB.symm
  have HOK1 : Hid (∀ x ∈ A, OkL x) := Lib.hid (by rw [hA]; exact labs_ok _)
  have HOK2 : Hid (∀ x ∈ B, OkL x) := Lib.hid (by rw [hB]; exact labs_ok _)
  rw [← hA] at ho1' hNb ⊢
  rw [← hB] at ho2 hMb ⊢
  obtain ⟨N, hN⟩ : ∃ N, N = A.length := ⟨_, rfl⟩
  obtain ⟨M, hM⟩ : ∃ M, M = B.length := ⟨_, rfl⟩
  rw [← hN] at ho1' hNb ⊢
  rw [← hM] at ho2 hMb ⊢
  have O1 := Lib.hid ho1'
  have O2 := Lib.hid ho2
  have HN := Lib.hid hN
  have HM := Lib.hid hM
  have HB12 := Lib.hid hb12
  clear ho1 hb1 hb2 ho1' ho2 hA hB hN hM hb12
  go_wp2
  have HCM : Hid (cm a.data.toList b.data.toList = cpl (labs (low a.data.toList)).reverse (labs (low b.data.toList)).reverse) := Lib.hid rfl
  have HLN : Hid ((labs (low a.data.toList)).length = N) := Lib.hid (by rw [HLA.out, List.length_map, HN.out])
  have HLM : Hid ((labs (low b.data.toList)).length = M) := Lib.hid (by rw [HLB.out, List.length_map, HM.out])
  go_loopw [9] (fun i wr => ∃ k : Nat, k ≤ N ∧ k ≤ M ∧ i = .int .i64 k ∧ (∀ j, j < k → (labs (low a.data.toList)).reverse.getD j [] = (labs (low b.data.toList)).reverse.getD j []) ∧ Below w2.heap.size w2 wr) (fun i _ => N - (intOf i).toNat)
  case atStart => exact ⟨0, by omega, by omega, rfl, fun j hj => absurd hj (by omega), Below.refl _ _⟩
  case round =>
    obtain ⟨k, hkN, hkM, rfl, hsame, hbr⟩ := hrel
    have HS := Lib.hid hsame
    clear hsame
    by_cases hlt : k < N
    · have q1 : decide ((k : Int) < (N : Int)) = true := by simp; omega
      by_cases hlm : k < M
      · have q2 : decide ((k : Int) < (M : Int)) = true := by simp; omega
        obtain ⟨g1, rfl, hg1, c1⟩ := own_get O1.out (frl_in (ls := A) (i := k) (by rw [← HN.out]; exact hlt))
        obtain ⟨g2, rfl, hg2, c2⟩ := own_get O2.out (frl_in (ls := B) (i := k) (by rw [← HM.out]; exact hlm))
        have d1 : wr.cell? ⟨g1, N - 1 - k, none⟩ = some (.string ⟨(frl A k).toArray⟩) := by rw [HN.out]; exact (hbr.cell (p := ⟨g1, A.length - 1 - k, none⟩) hg1).trans c1
        have d2 : wr.cell? ⟨g2, M - 1 - k, none⟩ = some (.string ⟨(frl B k).toArray⟩) := by rw [HM.out]; exact (hbr.cell (p := ⟨g2, B.length - 1 - k, none⟩) hg2).trans c2
        have hxs : (⟨(frl A k).toArray⟩ : ByteArray).size ≤ 140737488351232 := by
          have := (HOK1.out _ (List.mem_of_getElem? (frl_in (ls := A) (i := k) (by rw [← HN.out]; exact hlt)))).2
          show (frl A k).length ≤ _
          omega
        have hys : (⟨(frl B k).toArray⟩ : ByteArray).size ≤ 140737488351232 := by
          have := (HOK2.out _ (List.mem_of_getElem? (frl_in (ls := B) (i := k) (by rw [← HM.out]; exact hlm)))).2
          show (frl B k).length ≤ _
          omega
        obtain ⟨x, hx⟩ : ∃ x, x = frl A k := ⟨_, rfl⟩
        obtain ⟨y, hy⟩ : ∃ y, y = frl B k := ⟨_, rfl⟩
        have E0 : Hid (eqB (labs (low a.data.toList)) (labs (low b.data.toList)) k = (low x == low y)) := Lib.hid (by rw [hx, hy, eqB_low, HEA.out, HEB.out])
        rw [← hx] at d1 hxs
        rw [← hy] at d2 hys
        clear hx hy c1 c2
        have j1 : ((N : Int) - 1 - (k : Int)).toNat = N - 1 - k := by omega
        have j2 : ((M : Int) - 1 - (k : Int)).toNat = M - 1 - k := by omega
        have p1 : (0 : Int) ≤ (N : Int) - 1 - (k : Int) := by omega
        have p2 : (N : Int) - 1 - (k : Int) < (N : Int) := by omega
        have p3 : (0 : Int) ≤ (N : Int) - 1 := by omega
        have p4 : (0 : Int) ≤ (M : Int) - 1 - (k : Int) := by omega
        have p5 : (M : Int) - 1 - (k : Int) < (M : Int) := by omega
        have p6 : (0 : Int) ≤ (M : Int) - 1 := by omega
        have p7 : (k : Int) ≤ (N : Int) - 1 := by omega
        have p8 : (k : Int) ≤ (M : Int) - 1 := by omega
        have p9 : (1 : Int) ≤ (N : Int) := by omega
        have p10 : (1 : Int) ≤ (M : Int) := by omega
        have w1 : IntKind.i64.wrap ((N : Int) - 1) = (N : Int) - 1 := IntWalk.i64_in _ (by omega)
        have w2' : IntKind.i64.wrap ((N : Int) - 1 - (k : Int)) = (N : Int) - 1 - (k : Int) := IntWalk.i64_in _ (by omega)
        have w3 : IntKind.i64.wrap ((M : Int) - 1) = (M : Int) - 1 := IntWalk.i64_in _ (by omega)
        have w4 : IntKind.i64.wrap ((M : Int) - 1 - (k : Int)) = (M : Int) - 1 - (k : Int) := IntWalk.i64_in _ (by omega)
        by_cases g : (low x == low y) = true
        · have HS2 : Hid (∀ j, j < k + 1 → (labs (low a.data.toList)).reverse.getD j [] = (labs (low b.data.toList)).reverse.getD j []) := Lib.hid (by
            intro j hj
            by_cases e : j < k
            · exact HS.out j e
            · obtain rfl : j = k := by omega
              exact (eqB_iff _ _ j).1 (by rw [E0.out]; exact g))
          go_wp2
          go_region_held3 (fun w' => w'.cell? ⟨g1, N - 1 - k, none⟩ = some (.string ⟨x.toArray⟩) ∧ w'.cell? ⟨g2, M - 1 - k, none⟩ = some (.string ⟨y.toArray⟩)) (first | go_keep | (go_split_ands; exact ⟨cell_later (by assumption) (by assumption), cell_later (by assumption) (by assumption)⟩))
            (first | (go_at_call_of 110 (Value.string ⟨x.toArray⟩); refine (rlower_any ⟨x.toArray⟩ hxs _).mono ?_; rintro e w5 ⟨rfl, hb5⟩) | (go_at_call_of 110 (Value.string ⟨y.toArray⟩); refine (rlower_any ⟨y.toArray⟩ hys _).mono ?_; rintro e w6 ⟨rfl, hb6⟩))
          have hbb := chain3 hbr hb5 hb6
          clear hb5 hb6 j1 j2 p1 p2 p3 p4 p5 p6 p7 p8 p9 p10 w1 w2' w3 w4 d1 d2
          go_wp2
          go_roundw
          case rel => exact ⟨k + 1, by omega, by omega, by go_num, HS2.out, hbb⟩
          case measure => simp [intOf]; omega
        · have g' : (low x == low y) = false := by simpa using g
          have HK : Hid (cm a.data.toList b.data.toList = k) := Lib.hid (by
            rw [HCM.out]
            exact cpl_stop _ _ k (by rw [List.length_reverse, HLN.out]; exact hlt) (by rw [List.length_reverse, HLM.out]; exact hlm) HS.out ((eqB_no _ _ k).1 (by rw [E0.out]; exact g')))
          clear g
          go_wp2
          go_region_held3 (fun w' => w'.cell? ⟨g1, N - 1 - k, none⟩ = some (.string ⟨x.toArray⟩) ∧ w'.cell? ⟨g2, M - 1 - k, none⟩ = some (.string ⟨y.toArray⟩)) (first | go_keep | (go_split_ands; exact ⟨cell_later (by assumption) (by assumption), cell_later (by assumption) (by assumption)⟩))
            (first | (go_at_call_of 110 (Value.string ⟨x.toArray⟩); refine (rlower_any ⟨x.toArray⟩ hxs _).mono ?_; rintro e w5 ⟨rfl, hb5⟩) | (go_at_call_of 110 (Value.string ⟨y.toArray⟩); refine (rlower_any ⟨y.toArray⟩ hys _).mono ?_; rintro e w6 ⟨rfl, hb6⟩))
          have hbb := chain3 hbr hb5 hb6
          clear hb5 hb6 j1 j2 p1 p2 p3 p4 p5 p6 p7 p8 p9 p10 w1 w2' w3 w4 d1 d2
          go_wp2
          go_ret
          exact ⟨ret_i64 (by rw [HK.out]), HB12.out.trans (hbb.mono HB12.out.size)⟩
      · have q2 : decide ((k : Int) < (M : Int)) = false := by simp; omega
        have HK : Hid (cm a.data.toList b.data.toList = k) := Lib.hid (by
          rw [HCM.out]
          exact cpl_full _ _ k (by rw [List.length_reverse, List.length_reverse, HLN.out, HLM.out]; omega) (by rw [List.length_reverse, HLN.out]; exact hkN) (by rw [List.length_reverse, HLM.out]; exact hkM) HS.out)
        go_wp2
        go_quiet (fail)
        go_wp2
        go_ret
        exact ⟨ret_i64 (by rw [HK.out]), HB12.out.trans ((hbr.trans ((below_drewN wr _).mono hbr.size)).mono HB12.out.size)⟩
    · have q1 : decide ((k : Int) < (N : Int)) = false := by simp; omega
      have HK : Hid (cm a.data.toList b.data.toList = k) := Lib.hid (by
        rw [HCM.out]
        exact cpl_full _ _ k (by rw [List.length_reverse, List.length_reverse, HLN.out, HLM.out]; omega) (by rw [List.length_reverse, HLN.out]; exact hkN) (by rw [List.length_reverse, HLM.out]; exact hkM) HS.out)
      go_wp2
      go_quiet (fail)
      go_wp2
      go_ret
      exact ⟨ret_i64 (by rw [HK.out]), HB12.out.trans ((hbr.trans ((below_drewN wr _).mono hbr.size)).mono HB12.out.size)⟩
theorem rshared_any (a b : ByteArray) (ha : a.size ≤ 1000000) (hb : b.size ≤ 1000000) (w : World) :
    Calls Try.prog 82 #[.string a, .string b] w fun e w' => e = .returned (.int .i64 (shr a.data.toList b.data.toList)) ∧ Below w.heap.size w w' := by
  by_cases h : chk a.data.toList = 0 ∧ chk b.data.toList = 0
  · rw [← shr_yes h.1 h.2]; exact rshared_yes a b ha hb h.1 h.2 w
  · rw [← shr_no h]; exact rshared_no a b ha hb h w
theorem cpl_self (a : List Bs) : cpl a a = a.length := by
  induction a with
  | nil => rfl
  | cons x a ih => simp only [cpl, if_pos, ih, List.length_cons]
theorem cpl_eq (a : List Bs) : ∀ b, cpl a b = a.length → cpl a b = b.length → a = b := by
  intro b h1 h2
  apply List.ext_getElem
  · omega
  · intro i h3 h4
    have := cpl_same a b i (by omega)
    rw [List.getD_eq_getElem?_getD, List.getD_eq_getElem?_getD, List.getElem?_eq_getElem h3, List.getElem?_eq_getElem h4] at this
    simpa using this
theorem name_low {l : Bs} (h : chk l = 0) : low l = enc (labs (low l)) ++ [0] := by
  have h1 := split (low l)
  rw [rest_low, (chk_zero.1 h).1] at h1
  rw [show low [0] = [0] from by decide] at h1
  exact h1.symm
theorem cm_both {a b : Bs} (h1 : chk a = 0) (h2 : chk b = 0) : (cm a b = (labs a).length ∧ cm a b = (labs b).length) ↔ low a = low b := by
  have e1 : (labs a).length = (labs (low a)).reverse.length := by rw [List.length_reverse, labs_low, List.length_map]
  have e2 : (labs b).length = (labs (low b)).reverse.length := by rw [List.length_reverse, labs_low, List.length_map]
  constructor
  · rintro ⟨h3, h4⟩
    have := cpl_eq _ _ (h3.trans e1) (h4.trans e2)
    have h5 := List.reverse_inj.1 this
    rw [name_low h1, name_low h2, h5]
  · intro h
    have e3 : (labs a).length = (labs b).length := by rw [e1, e2, h]
    unfold cm
    rw [h, cpl_self, ← e2]
    exact ⟨e3.symm, rfl⟩
theorem sam_cm {a b : Bs} (h1 : chk a = 0) (h2 : chk b = 0) : sam a b = (decide ((cm a b : Int) = ((labs a).length : Int)) && decide ((cm a b : Int) = ((labs b).length : Int))) := by
  have h := cm_both h1 h2
  rw [Bool.eq_iff_iff]
  unfold sam
  constructor
  · intro h3
    split at h3
    · have h4 : low a = low b := by simpa using h3
      have := h.2 h4
      simp; omega
    · cases h3
  · intro h3
    simp at h3
    have h4 : low a = low b := h.1 ⟨by omega, by omega⟩
    rw [if_pos ⟨by rw [← low_length a, ← low_length b, h4], h1, h2⟩]
    simpa using h4
set_option maxRecDepth 100000 in
set_option maxHeartbeats 1600000 in
theorem rsame_any (a b : ByteArray) (ha : a.size ≤ 1000000) (hb : b.size ≤ 1000000) (w : World) :
    Calls Try.prog 49 #[.string a, .string b] w fun e w' => e = .returned (.bool (sam a.data.toList b.data.toList)) ∧ Below w.heap.size w w' := by
  by_cases h : chk a.data.toList = 0 ∧ chk b.data.toList = 0
  · have HS := Lib.hid (shr_yes h.1 h.2).symm
    have HX := Lib.hid (sam_cm h.1 h.2)
    have HA := Lib.hid (dep_yes h.1)
    have HB := Lib.hid (dep_yes h.2)
    obtain ⟨k, hkk⟩ : ∃ k, k = cm a.data.toList b.data.toList := ⟨_, rfl⟩
    obtain ⟨N, hN⟩ : ∃ N, N = (labs a.data.toList).length := ⟨_, rfl⟩
    obtain ⟨M, hM⟩ : ∃ M, M = (labs b.data.toList).length := ⟨_, rfl⟩
    rw [← hkk] at HS HX
    rw [← hN] at HX HA
    rw [← hM] at HX HB
    clear h hkk hN hM
    by_cases g1 : k = N
    · have q1 : ((k : Int) == (N : Int)) = true := by rw [g1]; simp
      by_cases g2 : k = M
      · have q2 : ((k : Int) == (M : Int)) = true := by rw [g2]; simp
        have R : Hid (true = sam a.data.toList b.data.toList) := Lib.hid (by rw [HX.out]; simp; omega)
        clear g1 g2
        go_enter Try.func49, Try.ntmps49
        go_wp2_with fail
        refine (rshared_any a b ha hb w).mono ?_
        rintro e w1 ⟨rfl, hb1⟩
        rw [HS.out]
        go_wp2_with fail
        refine (rdepth_any a ha w1).mono ?_
        rintro e w2 ⟨rfl, hb2⟩
        rw [← HA.out]
        have hb12 := hb1.trans (hb2.mono hb1.size)
        clear hb1 hb2
        go_wp2_with fail
        refine (rdepth_any b hb w2).mono ?_
        rintro e w3 ⟨rfl, hb3⟩
        rw [← HB.out]
        go_wp2
        go_ret
        exact ⟨ret_b R.out, hb12.trans (hb3.mono hb12.size)⟩
      · have q2 : ((k : Int) == (M : Int)) = false := by simp; omega
        have R : Hid (false = sam a.data.toList b.data.toList) := Lib.hid (by rw [HX.out]; simp; omega)
        clear g1 g2
        go_enter Try.func49, Try.ntmps49
        go_wp2_with fail
        refine (rshared_any a b ha hb w).mono ?_
        rintro e w1 ⟨rfl, hb1⟩
        rw [HS.out]
        go_wp2_with fail
        refine (rdepth_any a ha w1).mono ?_
        rintro e w2 ⟨rfl, hb2⟩
        rw [← HA.out]
        have hb12 := hb1.trans (hb2.mono hb1.size)
        clear hb1 hb2
        go_wp2_with fail
        refine (rdepth_any b hb w2).mono ?_
        rintro e w3 ⟨rfl, hb3⟩
        rw [← HB.out]
        go_wp2
        go_ret
        exact ⟨ret_b R.out, hb12.trans (hb3.mono hb12.size)⟩
    · have q1 : ((k : Int) == (N : Int)) = false := by simp; omega
      have R : Hid (false = sam a.data.toList b.data.toList) := Lib.hid (by rw [HX.out]; simp; omega)
      clear g1
      go_enter Try.func49, Try.ntmps49
      go_wp2_with fail
      refine (rshared_any a b ha hb w).mono ?_
      rintro e w1 ⟨rfl, hb1⟩
      rw [HS.out]
      go_wp2_with fail
      refine (rdepth_any a ha w1).mono ?_
      rintro e w2 ⟨rfl, hb2⟩
      rw [← HA.out]
      have hb12 := hb1.trans (hb2.mono hb1.size)
      clear hb1 hb2
      go_wp2
      go_ret
      exact ⟨ret_b R.out, hb12⟩
  · have HS := Lib.hid (shr_no h).symm
    have R : Hid (false = sam a.data.toList b.data.toList) := Lib.hid (sam_no (fun h2 => h h2.2))
    clear h
    go_enter Try.func49, Try.ntmps49
    go_wp2_with fail
    refine (rshared_any a b ha hb w).mono ?_
    rintro e w1 ⟨rfl, hb1⟩
    rw [HS.out]
    go_wp2
    go_ret
    exact ⟨ret_b R.out, hb1⟩
end Go.Proofs.Ytljfkjbagebncaa
