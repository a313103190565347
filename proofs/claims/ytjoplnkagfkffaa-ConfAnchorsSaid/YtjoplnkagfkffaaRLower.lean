/-
  The lower-case form of a text by the document; for every text. No older memory is changed.
-/
import Derived.Test.YtjoplnkagfkffaaLower
namespace Go.Proofs.Ytjoplnkagfkffaa
open Go.RowKit
set_option maxRecDepth 100000 in
set_option maxHeartbeats 1600000 in
theorem rlower_any (s : ByteArray) (hs : s.size ≤ 140737488351232) (w : World) :
    Calls Try.prog 36 #[.string s] w fun e w' => e = .returned (.string ⟨(low s.data.toList).toArray⟩) ∧ Below w.heap.size w w' := by
  obtain ⟨C, w2, h1, h2, h3⟩ := conv_bys s w
  rw [← lowK_zero s.data.toList] at h2
  have HSZ : Hid (s.data.toList.length = s.size) := Lib.hid (size_list s).symm
  have HB := Lib.hid h2
  have HW := Lib.hid h3
  clear h2 h3
  go_enter Try.func36, Try.ntmps36
  go_wp2
  clear h1
  go_loopw [4] (fun i wr => ∃ k : Nat, k ≤ s.size ∧ i = .int .i64 k ∧ Bys wr w.heap.size (lowK s.data.toList k) ∧ Below w.heap.size w wr) (fun i _ => s.size - (intOf i).toNat)
  case atStart => exact ⟨0, by omega, rfl, HB.out, HW.out⟩
  case round =>
    clear HB HW
    obtain ⟨k, hk, rfl, hB, hbr⟩ := hrel
    have HB := Lib.hid hB
    clear hB
    by_cases hlt : k < s.size
    · have hkl : k < s.data.toList.length := by rw [HSZ.out]; exact hlt
      have hg := lowK_get s.data.toList k hkl
      have hsu := lowK_succ s.data.toList k hkl
      obtain ⟨x, hx⟩ : ∃ x, x = s.data.toList[k] := ⟨_, rfl⟩
      rw [← hx] at hg hsu
      obtain ⟨cx, fx⟩ := HB.out _ _ hg
      have HS := Lib.hid hsu
      have HG := Lib.hid hg
      have hu := lowB_up x
      have hn := lowB_no x
      have HU := Lib.hid hu
      have HN := Lib.hid hn
      have hxb := x.toNat_lt
      clear hx hg hsu hkl hu hn
      obtain ⟨c, hc⟩ : ∃ c, c = x.toNat := ⟨_, rfl⟩
      have HC := Lib.hid hc
      rw [← hc] at cx hxb
      clear hc
      have hset : lowB x = x → Bys wr w.heap.size (lowK s.data.toList (k + 1)) := fun e => by
        rw [← HS.out, e, show (lowK s.data.toList k).set k x = lowK s.data.toList k from by
          apply List.ext_getElem?
          intro j
          by_cases h : k = j
          · subst h; rw [List.getElem?_set_self (by rw [lowK_length, HSZ.out]; exact hlt), HG.out]
          · rw [List.getElem?_set_ne h]]
        exact HB.out
      have HSET := Lib.hid hset
      clear hset
      by_cases g1 : 65 ≤ c
      · have q1 : (65 : Int) ≤ (c : Int) := by omega
        by_cases g2 : c ≤ 90
        · have q2 : (c : Int) ≤ 90 := by omega
          go_wp2
          go_roundw
          case rel => exact ⟨k + 1, by omega, by go_num, by rw [← HS.out, HC.out, HU.out (by rw [← HC.out]; exact ⟨g1, g2⟩)]; exact bys_set HB.out k (by rw [lowK_length, HSZ.out]; exact hlt) _, hbr.setCell (p := ⟨w.heap.size, k, none⟩) (Nat.le_refl _) _⟩
          case measure => simp [intOf]; omega
        · have q2 : decide ((c : Int) ≤ 90) = false := by simp; omega
          go_wp2
          go_roundw
          case rel => exact ⟨k + 1, by omega, by go_num, HSET.out (by unfold lowB; rw [if_neg (by rw [← HC.out]; omega)]), hbr⟩
          case measure => simp [intOf]; omega
      · have q1 : decide ((65 : Int) ≤ (c : Int)) = false := by simp; omega
        go_wp2
        go_roundw
        case rel => exact ⟨k + 1, by omega, by go_num, HSET.out (by unfold lowB; rw [if_neg (by rw [← HC.out]; omega)]), hbr⟩
        case measure => simp [intOf]; omega
    · have hks : k = s.size := by omega
      have hback := bys_back HB.out C
      rw [lowK_length, HSZ.out, lowK_all _ _ (by rw [HSZ.out]; omega)] at hback
      clear hks
      go_wp2
      go_ret
      exact ⟨rfl, hbr⟩
end Go.Proofs.Ytjoplnkagfkffaa
