/-
  What the statements' own 'few' and 'same' hand back, for every list; no older memory is changed.
-/
import Derived.Test.YtpeojicimmofjaaAwake
import Derived.BigQuiet
import Derived.Deep.QuietTactic
namespace Go.Proofs.Ytpeojicimmofjaa
open Go.RowKit
/-- What few leaves of a list: few labels, short ones. -/
def FewOf (ls : List Bs) : Prop := ls.length ≤ 140 ∧ ∀ x ∈ ls, x.length ≤ 70
set_option maxRecDepth 100000 in
set_option maxHeartbeats 1600000 in
theorem few_some (b off n cap : Nat) (ss : Nat → ByteArray) (w : World) (hb : b < w.heap.size) (hc : ∀ k, k < n → w.cell? ⟨b, off + k, none⟩ = some (.string (ss k))) :
    Calls Try.prog 10 #[.slice (some ⟨b, off, none⟩) n cap] w fun e w' => ∃ v ls, e = .returned v ∧ Own9 w' w.heap.size v ls ∧ FewOf ls ∧ Below w.heap.size w w' := by
  have HC := Lib.hid hc
  clear hc
  obtain ⟨i0, hi, hz0, hz1, hz2⟩ := info_parts info9
  go_enter Try.func10, Try.ntmps10
  go_wp2
  go_loopw [3, 4] (fun v i wr => ∃ (k : Nat) (ls : List Bs), k ≤ n ∧ k ≤ 140 ∧ i = .int .i64 k ∧ ls.length = k ∧ Own9 wr w.heap.size v ls ∧ (∀ x ∈ ls, x.length ≤ 70) ∧ Below w.heap.size w wr) (fun _ i _ => 140 - (intOf i).toNat)
  case atStart => exact ⟨0, [], by omega, by omega, rfl, rfl, own9_nil _ _, fun x hx => by simp at hx, Below.refl _ _⟩
  case round =>
    obtain ⟨k, ls, hk, hk2, rfl, hl, hown, hsh, hbr⟩ := hrel
    have HO := Lib.hid hown
    have HS := Lib.hid hsh
    have HL := Lib.hid hl
    clear hown hsh hl
    by_cases hlt : k < n
    · have q1 : (k : Int) < (n : Int) := by omega
      by_cases hlt2 : k < 140
      · have q2 : (k : Int) < 140 := by omega
        have hcell : wr.cell? ⟨b, off + k, none⟩ = some (.string (ss k)) := (hbr.cell (p := ⟨b, off + k, none⟩) hb).trans (HC.out k hlt)
        obtain ⟨t, ht, hshort⟩ := short_any (ss k) 70
        have SH := Lib.hid hshort
        have htl : t.data.toList.length ≤ 70 := by rw [← size_list]; exact ht
        have HT := Lib.hid htl
        clear hshort htl
        go_wp2_with (first | (go_at_call 9; refine (SH.out _).mono ?_; rintro e w' ⟨rfl, rfl⟩) | (at_builtin; refine wpList_append_own _ rfl (.tmp 15) (.tmp 21) 22 rfl w.heap.size 9 i0 (.string ⟨#[]⟩) 1 16 Try.underlying22 hi hz0 hz1 hz2 rfl (by decide) _ _ _ rfl (World.ownsRow.alloc HO.out _) ⟨wr.heap.size, 0, none⟩ 1 1 [.string t] rfl rfl (cell_one_new _ _ _) (by simp [Value.oneCell']) (by have := HL.out; unfold maxLen; omega) (by have := HL.out; omega) (by have := hbr.size; simp; omega) ?_; intro v' w1 hown' hgrow _; have R := Lib.hid (own9_next (x := t.data.toList) HO.out (Nat.le_refl _) hbr hown' hgrow); clear hown' hgrow hcell))
        go_roundw
        case rel => exact ⟨k + 1, ls ++ [t.data.toList], by omega, by omega, by go_num, by rw [List.length_append, HL.out]; rfl, R.out.1, fun x hx => by
          rcases List.mem_append.1 hx with hx | hx
          · exact HS.out x hx
          · rw [List.mem_singleton.1 hx]; exact HT.out, R.out.2⟩
        case measure => simp [intOf]; omega
      · have q2 : decide ((k : Int) < 140) = false := by simp; omega
        go_wp2
        go_ret
        exact ⟨_, ls, rfl, HO.out, ⟨by have := HL.out; omega, HS.out⟩, hbr⟩
    · have q1 : decide ((k : Int) < (n : Int)) = false := by simp; omega
      go_wp2
      go_ret
      exact ⟨_, ls, rfl, HO.out, ⟨by have := HL.out; omega, HS.out⟩, hbr⟩
set_option maxRecDepth 100000 in
set_option maxHeartbeats 1600000 in
theorem few_zero (a : Option Addr) (cap : Nat) (w : World) :
    Calls Try.prog 10 #[.slice a 0 cap] w fun e w' => ∃ v ls, e = .returned v ∧ Own9 w' w.heap.size v ls ∧ FewOf ls ∧ Below w.heap.size w w' := by
  go_enter Try.func10, Try.ntmps10
  go_wp2
  go_loopw [3, 4] (fun v i wr => i = .int .i64 0 ∧ v = .slice none 0 0 ∧ w = wr) (fun _ _ _ => 0)
  case atStart => exact ⟨rfl, rfl, rfl⟩
  case round =>
    obtain ⟨rfl, rfl, rfl⟩ := hrel
    go_wp2
    go_ret
    exact ⟨_, [], rfl, own9_nil _ _, ⟨by simp, fun x hx => by simp at hx⟩, Below.refl _ _⟩
theorem rd_form {w : World} {v : Value} {A : List Bs} (h : Rd w v A) : ∃ a cap, v = .slice a A.length cap ∧ ∀ j x, A[j]? = some x → ∃ b off, a = some ⟨b, off, none⟩ ∧ b < w.heap.size ∧ w.cell? ⟨b, off + j, none⟩ = some (.string ⟨x.toArray⟩) := by
  rcases h with ⟨rfl, rfl⟩ | ⟨b, off, cap, rfl, hb, hc⟩
  · exact ⟨none, 0, rfl, fun j x hx => by simp at hx⟩
  · exact ⟨_, cap, rfl, fun j x hx => ⟨b, off, rfl, hb, hc j x hx⟩⟩
set_option maxRecDepth 100000 in
set_option maxHeartbeats 1600000 in
theorem same_lists (v1 v2 : Value) (A : List Bs) (hA : A.length ≤ 1000000) (w : World) (h1 : Rd w v1 A) (h2 : Rd w v2 A) :
    Calls Try.prog 15 #[v1, v2] w fun e w' => e = .returned (.bool true) ∧ Below w.heap.size w w' := by
  obtain ⟨a1, cap1, rfl, hc1⟩ := rd_form h1
  obtain ⟨a2, cap2, rfl, hc2⟩ := rd_form h2
  have H1 := Lib.hid hc1
  have H2 := Lib.hid hc2
  obtain ⟨n, hn⟩ : ∃ n, n = A.length := ⟨_, rfl⟩
  rw [← hn] at hA ⊢
  have HN := Lib.hid hn
  clear hc1 hc2 hn h1 h2
  go_enter Try.func15, Try.ntmps15
  go_wp2
  go_loopw [5] (fun i wr => ∃ k : Nat, k ≤ n ∧ i = .int .i64 k ∧ Below w.heap.size w wr) (fun i _ => n - (intOf i).toNat)
  case atStart => exact ⟨0, by omega, rfl, Below.refl _ _⟩
  case round =>
    obtain ⟨k, hk, rfl, hbr⟩ := hrel
    by_cases hlt : k < n
    · obtain ⟨x, hx⟩ : ∃ x, A[k]? = some x := ⟨_, List.getElem?_eq_getElem (by rw [← HN.out]; exact hlt)⟩
      obtain ⟨b1, o1, rfl, hb1, c1⟩ := H1.out k x hx
      obtain ⟨b2, o2, rfl, hb2, c2⟩ := H2.out k x hx
      have d1 := (hbr.cell (p := ⟨b1, o1 + k, none⟩) hb1).trans c1
      have d2 := (hbr.cell (p := ⟨b2, o2 + k, none⟩) hb2).trans c2
      have q1 : (k : Int) < (n : Int) := by omega
      clear c1 c2 hx
      go_wp2
      go_quiet (fail)
      clear d1 d2
      go_wp2
      go_roundw
      case rel => exact ⟨k + 1, by omega, by go_num, hbr.trans ((below_drewN wr _).mono hbr.size)⟩
      case measure => simp [intOf]; omega
    · go_wp2
      go_ret
      exact ⟨rfl, hbr⟩
end Go.Proofs.Ytpeojicimmofjaa
