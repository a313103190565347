/-
  Texts in new memory and back, and the lower-case form of a text, by the program and by the document; for every text. No older memory is changed.
-/
import Derived.Test.YtjoplnkagfkffaaDepth
import Derived.IntWalk
import Derived.BigQuiet
import Derived.Deep.QuietTactic
import Derived.BigRegion
import Derived.StillTailTactics
namespace Go.Proofs.Ytjoplnkagfkffaa
open Go.RowKit
/-- Bytes that lie in memory of one's own. -/
def Bys (w : World) (g : Nat) (l : Bs) : Prop := ∀ j x, l[j]? = some x → w.cell? ⟨g, j, none⟩ = some (.int .u8 (x.toNat : Int)) ∧ w.frozen? ⟨g, j, none⟩ = false
theorem bys_set {w : World} {g : Nat} {l : Bs} (h : Bys w g l) (j : Nat) (hj : j < l.length) (x : UInt8) : Bys (w.setCell ⟨g, j, none⟩ (.int .u8 (x.toNat : Int))) g (l.set j x) := by
  intro k y hk
  have hkl : k < l.length := by
    have := (List.getElem?_eq_some_iff.1 hk).1
    simpa using this
  refine ⟨?_, (World.frozen?_setCell _ _ _ _).trans (h k l[k] (List.getElem?_eq_getElem hkl)).2⟩
  by_cases e : j = k
  · subst e
    rw [World.cell?_setCell_same _ _ _ (h j l[j] (List.getElem?_eq_getElem hj)).1]
    rw [List.getElem?_set_self (by simpa using hj)] at hk
    rw [Option.some.inj hk]
  · rw [World.cell?_setCell_other _ _ _ _ (fun he => e (congrArg Addr.off he))]
    rw [List.getElem?_set_ne e] at hk
    exact (h k y hk).1
theorem bys_new (w : World) (t : ByteArray) (cap F e : Nat) (hF : t.size ≤ F) : Bys (w.alloc (.cells (bytesRow t cap) e (F, F + 1))) w.heap.size t.data.toList := by
  intro j x hj
  have hjl : j < t.data.size := by
    have := (List.getElem?_eq_some_iff.1 hj).1
    simpa using this
  have hx : t.data[j] = x := by
    have := (List.getElem?_eq_some_iff.1 hj).2
    simpa using this
  have hs : j < t.size := hjl
  rw [World.cell?_alloc_mark, World.frozen?_alloc_mark, bytesRow_at t cap j hjl, hx]
  exact ⟨rfl, by simp; omega⟩
theorem row_size (t : ByteArray) (c : Nat) : t.size ≤ (bytesRow t c).size := by
  unfold bytesRow
  rw [Array.size_append, Array.size_map]
  exact Nat.le_add_right _ _
theorem bys_back {w : World} {g : Nat} {l : Bs} (h : Bys w g l) (c : Nat) : (convert 72 9 (.slice (some ⟨g, 0, none⟩) l.length c)).run Try.prog w = .ok (.string ⟨l.toArray⟩) w :=
  run_convert_bytes_back (P := Try.prog) w 72 9 5 ⟨g, 0, none⟩ c l Try.underlying72 Try.underlying5 Try.underlying9 (fun j hj => by
    rw [show (⟨g, 0, none⟩ : Addr).add j = ⟨g, j, none⟩ by unfold Addr.add; split <;> simp_all]
    exact (h j _ (List.getElem?_eq_getElem hj)).1)
theorem conv_of (t : ByteArray) (w : World) : (convert 9 72 (.string t)).run Try.prog w = .ok (.slice (some ⟨w.heap.size, 0, none⟩) t.size (grownCap w t.size 0 5))
      (w.drew.alloc (.cells (bytesRow t (grownCap w t.size 0 5)) 5 ((bytesRow t (grownCap w t.size 0 5)).size, (bytesRow t (grownCap w t.size 0 5)).size + 1))) :=
  run_bytes_of_string (P := Try.prog) w 9 72 5 t Try.underlying9 Try.underlying72 Try.underlying5
/-- []byte(t): the bytes lie in new memory. -/
theorem conv_bys (t : ByteArray) (w : World) : ∃ C w2, (convert 9 72 (.string t)).run Try.prog w = .ok (.slice (some ⟨w.heap.size, 0, none⟩) t.size C) w2 ∧ Bys w2 w.heap.size t.data.toList ∧ Below w.heap.size w w2 :=
  ⟨_, _, conv_of t w, bys_new w.drew t _ _ 5 (row_size t _), ((Below.refl _ w).drew).alloc (Nat.le_refl _) _⟩
/-- The lower-case form of a byte, and of bytes. -/
def lowB (b : UInt8) : UInt8 := if 65 ≤ b.toNat ∧ b.toNat ≤ 90 then b + 32 else b
def low (l : Bs) : Bs := l.map lowB
theorem lowB_up (b : UInt8) (h : 65 ≤ b.toNat ∧ b.toNat ≤ 90) : (b.toNat : Int) + 32 = ((lowB b).toNat : Int) := by
  unfold lowB; rw [if_pos h, UInt8.toNat_add]; simp; omega
theorem lowB_no (b : UInt8) (h : ¬ (65 ≤ b.toNat ∧ b.toNat ≤ 90)) : (b.toNat : Int) = ((lowB b).toNat : Int) := by
  unfold lowB; rw [if_neg h]
theorem ret_u8 {a b : Int} (h : a = b) : Ending.returned (.int .u8 a) = .returned (.int .u8 b) := by rw [h]
set_option maxHeartbeats 800000 in
theorem lowerByte_any (b : UInt8) (w : World) :
    Calls Try.prog 73 #[.int .u8 (b.toNat : Int)] w fun e w' => e = .returned (.int .u8 ((lowB b).toNat : Int)) ∧ w = w' := by
  have hb := b.toNat_lt
  have hu := lowB_up b
  have hn := lowB_no b
  have HU := Lib.hid hu
  have HN := Lib.hid hn
  clear hu hn
  obtain ⟨c, hc⟩ : ∃ c, c = b.toNat := ⟨_, rfl⟩
  rw [← hc] at hb HU HN ⊢
  clear hc
  by_cases h1 : 65 ≤ c
  · by_cases h2 : c ≤ 90
    · have q1 : (65 : Int) ≤ (c : Int) := by omega
      have q2 : (c : Int) ≤ 90 := by omega
      go_enter Try.func73, Try.ntmps73
      go_wp2
      go_ret
      exact ⟨ret_u8 (HU.out ⟨h1, h2⟩), rfl⟩
    · have q1 : (65 : Int) ≤ (c : Int) := by omega
      have q2 : decide ((c : Int) ≤ 90) = false := by simp; omega
      go_enter Try.func73, Try.ntmps73
      go_wp2
      go_ret
      exact ⟨ret_u8 (HN.out (by omega)), rfl⟩
  · have q1 : decide ((65 : Int) ≤ (c : Int)) = false := by simp; omega
    go_enter Try.func73, Try.ntmps73
    go_wp2
    go_ret
    exact ⟨ret_u8 (HN.out (by omega)), rfl⟩
/-- The text, its first bytes in lower case. -/
def lowK (l : Bs) (k : Nat) : Bs := low (l.take k) ++ l.drop k
theorem lowK_length (l : Bs) (k : Nat) : (lowK l k).length = l.length := by simp [lowK, low]; omega
theorem lowK_zero (l : Bs) : lowK l 0 = l := by simp [lowK, low]
theorem lowK_all (l : Bs) (k : Nat) (h : l.length ≤ k) : lowK l k = low l := by simp [lowK, List.take_of_length_le h, List.drop_of_length_le h]
theorem lowK_get (l : Bs) (k : Nat) (h : k < l.length) : (lowK l k)[k]? = some l[k] := by
  have e : (low (l.take k)).length = k := by simp [low]; omega
  unfold lowK
  rw [List.getElem?_append_right (by omega), e]
  simp [h]
theorem lowK_succ (l : Bs) (k : Nat) (h : k < l.length) : (lowK l k).set k (lowB l[k]) = lowK l (k + 1) := by
  have e : (low (l.take k)).length = k := by simp [low]; omega
  unfold lowK
  rw [List.set_append_right _ _ (by omega), e, Nat.sub_self, List.drop_eq_getElem_cons h, List.set_cons_zero, List.take_succ_eq_append_getElem h]
  simp only [low, List.map_append, List.map_cons, List.map_nil, List.append_assoc, List.cons_append, List.nil_append]
set_option maxRecDepth 100000 in
set_option maxHeartbeats 1600000 in
theorem lower_any (s : ByteArray) (hs : s.size ≤ 140737488351232) (w : World) :
    Calls Try.prog 56 #[.string s] w fun e w' => e = .returned (.string ⟨(low s.data.toList).toArray⟩) ∧ Below w.heap.size w w' := by
  obtain ⟨C, w2, h1, h2, h3⟩ := conv_bys s w
  rw [← lowK_zero s.data.toList] at h2
  have HSZ : Hid (s.data.toList.length = s.size) := Lib.hid (size_list s).symm
  have HB := Lib.hid h2
  have HW := Lib.hid h3
  clear h2 h3
  go_enter Try.func56, Try.ntmps56
  go_wp2
  clear h1
  go_loopw [9] (fun i wr => ∃ k : Nat, k ≤ s.size ∧ i = .int .i64 k ∧ Bys wr w.heap.size (lowK s.data.toList k) ∧ Below w.heap.size w wr) (fun i _ => s.size - (intOf i).toNat)
  case atStart => exact ⟨0, by omega, rfl, HB.out, HW.out⟩
  case round =>
    clear HB HW
    obtain ⟨k, hk, rfl, hB, hbr⟩ := hrel
    have HB := Lib.hid hB
    clear hB
    by_cases hlt : k < s.size
    · have hkl : k < s.data.toList.length := by rw [HSZ.out]; exact hlt
      have hg := lowK_get s.data.toList k hkl
      have hsu := lowK_succ s.data.toList k hkl
      obtain ⟨x, hx⟩ : ∃ x, x = s.data.toList[k] := ⟨_, rfl⟩
      rw [← hx] at hg hsu
      obtain ⟨cx, fx⟩ := HB.out _ _ hg
      have HS := Lib.hid hsu
      clear hx hg hsu hkl
      go_wp2_with (go_at_call 73; refine (lowerByte_any x _).mono ?_; rintro e w' ⟨rfl, rfl⟩)
      go_roundw
      case rel => exact ⟨k + 1, by omega, by go_num, by rw [← HS.out]; exact bys_set HB.out k (by rw [lowK_length, HSZ.out]; exact hlt) _, hbr.setCell (p := ⟨w.heap.size, k, none⟩) (Nat.le_refl _) _⟩
      case measure => simp [intOf]; omega
    · have hks : k = s.size := by omega
      have hback := bys_back HB.out C
      rw [lowK_length, HSZ.out, lowK_all _ _ (by rw [HSZ.out]; omega)] at hback
      clear hks
      go_wp2
      go_ret
      exact ⟨rfl, hbr⟩
end Go.Proofs.Ytjoplnkagfkffaa
