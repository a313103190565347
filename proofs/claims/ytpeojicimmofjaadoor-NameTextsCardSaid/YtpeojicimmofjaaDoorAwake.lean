/-
  What the statements' own look 'awake' hands back; no older memory is changed.
-/
import Derived.Test.YtpeojicimmofjaaDoorParse
import Derived.Test.YtpeojicimmofjaaDoorText
import Derived.Test.YtpeojicimmofjaaDoorLess
namespace Go.Proofs.YtpeojicimmofjaaDoor
open Go.RowKit
theorem own_get {w : World} {B cap n j : Nat} {a : Option Addr} {ls : List Bs} {x : Bs} (h : Own9 w B (.slice a n cap) ls) (hx : ls[j]? = some x) : ∃ g, a = some ⟨g, 0, none⟩ ∧ g < w.heap.size ∧ w.cell? ⟨g, j, none⟩ = some (.string ⟨x.toArray⟩) := by
  have hc := @World.ownsRow.cells w B 9 1 _ ls.length _ h
  rcases h.2 with ⟨e, h0⟩ | ⟨g, cap', cur, e, hb, hg, _⟩
  · have : ls = [] := List.length_eq_zero_iff.1 h0
    subst this
    simp at hx
  · cases e
    refine ⟨g, rfl, (Array.getElem?_eq_some_iff.1 hg).1, ?_⟩
    have := hc (g := g) rfl j (str x) (by simp [hx])
    rw [show (⟨g, 0, none⟩ : Addr).add j = ⟨g, j, none⟩ by unfold Addr.add; split <;> simp_all] at this
    exact this
theorem own_len {w : World} {B cap n : Nat} {a : Option Addr} {ls : List Bs} (h : Own9 w B (.slice a n cap) ls) : n = ls.length := by
  rcases h.2 with ⟨e, h0⟩ | ⟨g, cap', cur, e, _⟩
  · cases e; exact h0.symm
  · cases e; rfl
theorem rd_new (w : World) (ls : List Bs) (cap : Nat) : Rd (w.alloc (.cells (ls.map str).toArray 9)) (.slice (some ⟨w.heap.size, 0, none⟩) ls.length cap) ls := by
  refine .inr ⟨w.heap.size, 0, cap, rfl, by simp, fun j x hj => ?_⟩
  have := World.news_of_block (cs := (ls.map str).toArray) (t := 9) (fr := (0, 0)) (heap_alloc_new w _) j (str x) (by simp [hj])
  rw [show (⟨w.heap.size, 0, none⟩ : Addr).add j = ⟨w.heap.size, 0 + j, none⟩ by unfold Addr.add; split <;> simp_all] at this
  exact this
abbrev S1 : Bs := [3, 119, 119, 119, 1, 97, 0]
abbrev S2 : Bs := [1, 97, 0]
abbrev S3 : Bs := [1, 46, 1, 98, 0]
theorem aw1 : mkS [[119, 119, 119], [97]] = S1 ∧ mkE [[119, 119, 119], [97]] = 0 := by decide +kernel
theorem aw2 : psS [97] = S2 ∧ psE [97] = 0 := by decide +kernel
theorem aw3 : psS [97, 46, 46, 98] = [] ∧ psE [97, 46, 46, 98] = 10 := by decide +kernel
theorem aw4 : psS [92, 48, 52, 54, 46, 98] = S3 ∧ psE [92, 48, 52, 54, 46, 98] = 0 := by decide +kernel
theorem aw5 : chk S3 = 0 ∧ labs S3 = [[46], [98]] := by decide +kernel
theorem aw6 : txt S1 = [119, 119, 119, 46, 97, 46] ∧ txt [0] = [46] := by decide +kernel
theorem aw7 : und S1 S2 = true ∧ shr S1 [1, 98, 1, 65, 0] = 1 ∧ cutS S1 1 = S2 ∧ dep S1 = 2 := by decide +kernel
set_option maxRecDepth 100000 in
set_option maxHeartbeats 6400000 in
theorem awake_any (w : World) : Calls Tryd.prog 4 #[] w fun e w' => e = .returned (.bool true) ∧ Below w.heap.size w w' := by
  have A1 := Lib.hid aw1
  have A2 := Lib.hid aw2
  have A3 := Lib.hid aw3
  have A4 := Lib.hid aw4
  have A5 := Lib.hid aw5
  have A6 := Lib.hid aw6
  have A7 := Lib.hid aw7
  go_enter Tryd.func4, Tryd.ntmps4
  go_wp2_with fail
  refine (make_any _ [[119, 119, 119], [97]] _ (rd_new w [[119, 119, 119], [97]] 2) (by decide)).mono ?_
  rintro e w1 ⟨rfl, hb1⟩
  rw [A1.out.1, A1.out.2]
  have h1 : Below w.heap.size w w1 := ((Below.refl _ w).alloc (Nat.le_refl _) _).trans (hb1.mono (by simp))
  clear hb1
  go_wp2_with fail
  refine (parse_any ⟨#[97]⟩ (by decide) w1).mono ?_
  rintro e w2 ⟨rfl, hb2⟩
  rw [show (⟨#[97]⟩ : ByteArray).data.toList = [97] from rfl, A2.out.1, A2.out.2]
  have h2 := h1.trans (hb2.mono h1.size)
  clear h1 hb2
  go_wp2_with fail
  refine (parse_any ⟨#[97, 46, 46, 98]⟩ (by decide) w2).mono ?_
  rintro e w3 ⟨rfl, hb3⟩
  rw [show (⟨#[97, 46, 46, 98]⟩ : ByteArray).data.toList = [97, 46, 46, 98] from rfl, A3.out.1, A3.out.2]
  have h3 := h2.trans (hb3.mono h2.size)
  clear h2 hb3
  go_wp2_with fail
  refine (parse_any ⟨#[92, 48, 52, 54, 46, 98]⟩ (by decide) w3).mono ?_
  rintro e w4 ⟨rfl, hb4⟩
  rw [show (⟨#[92, 48, 52, 54, 46, 98]⟩ : ByteArray).data.toList = [92, 48, 52, 54, 46, 98] from rfl, A4.out.1, A4.out.2]
  have h4 := h3.trans (hb4.mono h3.size)
  clear h3 hb4
  go_wp2_with fail
  refine (label_yes ⟨#[1, 46, 1, 98, 0]⟩ (by decide) A5.out.1 w4).mono ?_
  rintro e w5 ⟨v, rfl, ho, hb5⟩
  rw [show labs (⟨#[1, 46, 1, 98, 0]⟩ : ByteArray).data.toList = [[46], [98]] from A5.out.2] at ho
  obtain ⟨a, cap, rfl⟩ := row_slice ho
  obtain ⟨g, rfl, hg, c0⟩ := own_get ho (j := 0) rfl
  have h5 := h4.trans (hb5.mono h4.size)
  have C0 := Lib.hid c0
  clear h4 hb5 ho c0
  go_wp2_with fail
  refine (text_any ⟨#[3, 119, 119, 119, 1, 97, 0]⟩ (by decide) w5).mono ?_
  rintro e w6 ⟨rfl, hb6⟩
  rw [show txt (⟨#[3, 119, 119, 119, 1, 97, 0]⟩ : ByteArray).data.toList = [119, 119, 119, 46, 97, 46] from A6.out.1]
  have h6 := h5.trans (hb6.mono h5.size)
  have k6 : Below w5.heap.size w5 w6 := hb6
  clear h5 hb6
  go_wp2_with fail
  refine (text_any ⟨#[0]⟩ (by decide) w6).mono ?_
  rintro e w7 ⟨rfl, hb7⟩
  rw [show txt (⟨#[0]⟩ : ByteArray).data.toList = [46] from A6.out.2]
  have h7 := h6.trans (hb7.mono h6.size)
  have k7 := k6.trans (hb7.mono k6.size)
  clear h6 hb7 k6
  go_wp2_with fail
  refine (under_any ⟨#[3, 119, 119, 119, 1, 97, 0]⟩ ⟨#[1, 97, 0]⟩ (by decide) (by decide) w7).mono ?_
  rintro e w8 ⟨rfl, hb8⟩
  rw [show und (⟨#[3, 119, 119, 119, 1, 97, 0]⟩ : ByteArray).data.toList (⟨#[1, 97, 0]⟩ : ByteArray).data.toList = true from A7.out.1]
  have h8 := h7.trans (hb8.mono h7.size)
  have k8 := k7.trans (hb8.mono k7.size)
  clear h7 hb8 k7
  go_wp2_with fail
  refine (shared_any ⟨#[3, 119, 119, 119, 1, 97, 0]⟩ ⟨#[1, 98, 1, 65, 0]⟩ (by decide) (by decide) w8).mono ?_
  rintro e w9 ⟨rfl, hb9⟩
  rw [show shr (⟨#[3, 119, 119, 119, 1, 97, 0]⟩ : ByteArray).data.toList (⟨#[1, 98, 1, 65, 0]⟩ : ByteArray).data.toList = 1 from A7.out.2.1]
  have h9 := h8.trans (hb9.mono h8.size)
  have k9 := k8.trans (hb9.mono k8.size)
  clear h8 hb9 k8
  go_wp2_with fail
  refine (cut_any ⟨#[3, 119, 119, 119, 1, 97, 0]⟩ (by decide) 1 w9).mono ?_
  rintro e wA ⟨rfl, hbA⟩
  rw [show cutS (⟨#[3, 119, 119, 119, 1, 97, 0]⟩ : ByteArray).data.toList 1 = [1, 97, 0] from A7.out.2.2.1]
  have hA := h9.trans (hbA.mono h9.size)
  have kA := k9.trans (hbA.mono k9.size)
  have cA : wA.cell? ⟨g, 0, none⟩ = some (.string ⟨#[46]⟩) := (kA.cell (p := ⟨g, 0, none⟩) hg).trans C0.out
  clear h9 hbA k9
  go_wp2_with fail
  refine (depth_any ⟨#[3, 119, 119, 119, 1, 97, 0]⟩ (by decide) wA).mono ?_
  rintro e wB ⟨rfl, hbB⟩
  rw [show dep (⟨#[3, 119, 119, 119, 1, 97, 0]⟩ : ByteArray).data.toList = 2 from A7.out.2.2.2]
  go_wp2
  go_ret
  exact ⟨rfl, hA.trans (hbB.mono hA.size)⟩
set_option maxHeartbeats 400000 in
theorem short_cut (s : ByteArray) (n : Nat) (h : n < s.size) (w : World) :
    Calls Tryd.prog 5 #[.string s, .int .i64 (n : Int)] w fun e w' => e = .returned (.string (s.extract 0 n)) ∧ w = w' := by
  have hd : decide ((n : Int) < (s.size : Int)) = true := by simp; omega
  go_enter Tryd.func5, Tryd.ntmps5
  go_wp2
  go_ret
  exact ⟨rfl, rfl⟩
set_option maxHeartbeats 400000 in
theorem short_all (s : ByteArray) (n : Nat) (h : s.size ≤ n) (w : World) :
    Calls Tryd.prog 5 #[.string s, .int .i64 (n : Int)] w fun e w' => e = .returned (.string s) ∧ w = w' := by
  go_enter Tryd.func5, Tryd.ntmps5
  go_wp2
  go_ret
  exact ⟨rfl, rfl⟩
/-- THE CUT: what stands there behind it is of no more than so many bytes. -/
theorem short_any (s : ByteArray) (n : Nat) :
    ∃ t : ByteArray, t.size ≤ n ∧ ∀ w : World, Calls Tryd.prog 5 #[.string s, .int .i64 (n : Int)] w fun e w' => e = .returned (.string t) ∧ w = w' := by
  by_cases h : s.size ≤ n
  · exact ⟨s, h, fun w => short_all s n h w⟩
  · exact ⟨s.extract 0 n, by simp; omega, fun w => short_cut s n (by omega) w⟩
end Go.Proofs.YtpeojicimmofjaaDoor
