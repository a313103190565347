/-
  What Of and Add hand back, for the parts and texts that the statements hand them: the checksum; no older memory is changed.
-/
import Derived.Test.YtpiiknbjllgaoaaCRead
namespace Go.Proofs.Ytpiiknbjllgaoaa
open Go.RowKit
theorem nt_max : ((nt 4294967295 : Nat) : Int) = ((0 : Nat) : Int) := by
  unfold nt; rw [Nat.xor_self]
set_option maxHeartbeats 400000 in
theorem of_some (ps : List ByteArray) (b cap : Nat) (w : World) (hbl : b < w.heap.size)
    (hp : ∀ k s, ps[k]? = some s → w.cell? ⟨b, k, none⟩ = some (.string s)) (hn : ps.length ≤ 1000000) (hsz : ∀ s ∈ ps, s.size ≤ 1000000) :
    Calls Try.prog 52 #[.slice (some ⟨b, 0, none⟩) ps.length cap] w fun e w' => e = .returned (.int .u32 (nt (fdp 4294967295 ps ps.length) : Nat)) ∧ Below w.heap.size w w' := by
  have HR := Lib.hid (cread_some 4294967295 (by omega) ps b cap w hbl hp hn hsz)
  have HX := Lib.hid (not_u32 _ (fdp_lt (c := 4294967295) (by omega) ps ps.length))
  clear hp hn hsz hbl
  go_enter Try.func52, Try.ntmps52
  go_wp2_with fail
  refine HR.out.mono ?_
  rintro e w1 ⟨rfl, hb⟩
  go_wp2
  go_ret
  exact ⟨ret_u32 HX.out, hb⟩
set_option maxHeartbeats 400000 in
theorem of_nil (w : World) :
    Calls Try.prog 52 #[.slice none 0 0] w fun e w' => e = .returned (.int .u32 0) ∧ Below w.heap.size w w' := by
  have HX := Lib.hid (not_u32 4294967295 (by omega))
  go_enter Try.func52, Try.ntmps52
  go_wp2_with fail
  refine (cread_nil 4294967295 w).mono ?_
  rintro e w1 ⟨rfl, hb⟩
  go_wp2
  go_ret
  exact ⟨ret_u32 (b := 0) (HX.out.trans nt_max), hb⟩
theorem row_cell {w w2 : World} {vs : Array Value} {t : Nat} (h : w2 = w.alloc (.cells vs t)) (k : Nat) : w2.cell? ⟨w.heap.size, k, none⟩ = vs[k]? := by
  have h0 : w2.heap[w.heap.size]? = some (.cells vs t (0, 0)) := by rw [h]; exact heap_alloc_new w _
  rw [cell_of_row w2 _ k _ _ _ h0]
theorem of_one (s : ByteArray) (hs : s.size ≤ 1000000) (w : World) :
    Calls Try.prog 52 #[.slice (some ⟨w.heap.size, 0, none⟩) 1 1] (w.alloc (.cells #[.string s] 9)) fun e w' => e = .returned (.int .u32 (cs s.data.toList : Nat)) ∧ Below w.heap.size w w' := by
  have hz : (w.alloc (.cells #[.string s] 9)).heap.size = w.heap.size + 1 := by simp
  refine (of_some [s] w.heap.size 1 (w.alloc (.cells #[.string s] 9)) (by omega) ?_ (by simp) (by simpa using hs)).mono ?_
  · intro k t hk
    rw [row_cell rfl]
    match k, hk with
    | 0, hk => simp at hk; subst hk; rfl
  · rintro e w' ⟨rfl, hb⟩
    exact ⟨rfl, ((Below.refl _ _).alloc (Nat.le_refl _) _).trans (hb.mono (by omega))⟩
theorem of_two (s t : ByteArray) (hs : s.size ≤ 1000000) (ht : t.size ≤ 1000000) (w : World) :
    Calls Try.prog 52 #[.slice (some ⟨w.heap.size, 0, none⟩) 2 2] (w.alloc (.cells #[.string s, .string t] 9)) fun e w' => e = .returned (.int .u32 (cs (s.data.toList ++ t.data.toList) : Nat)) ∧ Below w.heap.size w w' := by
  have hz : (w.alloc (.cells #[.string s, .string t] 9)).heap.size = w.heap.size + 1 := by simp
  refine (of_some [s, t] w.heap.size 2 (w.alloc (.cells #[.string s, .string t] 9)) (by omega) ?_ (by simp) (by simp; exact ⟨hs, ht⟩)).mono ?_
  · intro k t hk
    rw [row_cell rfl]
    match k, hk with
    | 0, hk => simp at hk; subst hk; rfl
    | 1, hk => simp at hk; subst hk; rfl
  · rintro e w' ⟨rfl, hb⟩
    refine ⟨?_, ((Below.refl _ _).alloc (Nat.le_refl _) _).trans (hb.mono (by omega))⟩
    unfold cs
    rw [fd_append]
    rfl
end Go.Proofs.Ytpiiknbjllgaoaa
