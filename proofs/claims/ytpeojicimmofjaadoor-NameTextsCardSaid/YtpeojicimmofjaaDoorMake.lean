/-
  What Make answers, for every list of labels; no older memory is changed.
-/
import Derived.Test.YtpeojicimmofjaaDoorWriter
namespace Go.Proofs.YtpeojicimmofjaaDoor
open Go.RowKit
theorem take_snoc {ls : List Bs} {k : Nat} {x : Bs} (h : ls[k]? = some x) : ls.take (k + 1) = ls.take k ++ [x] := by
  obtain ⟨hk, e⟩ := List.getElem?_eq_some_iff.1 h
  rw [List.take_succ_eq_append_getElem hk, e]
theorem wr_new (w : World) : Wr (w.alloc (.cells #[.slice none 0 0, .int .i64 0] 37)) w.heap.size w.heap.size [] :=
  ⟨Nat.le_refl _, none, 0, 0, by rw [mkE_nil]; exact heap_alloc_new w _, by omega, fun _ => ⟨rfl, World.ownsRow_nil _ _ _ _⟩⟩
set_option maxRecDepth 100000 in
set_option maxHeartbeats 1600000 in
theorem make_some (b off cap : Nat) (ls : List Bs) (w : World) (hb : b < w.heap.size) (hc : ∀ j x, ls[j]? = some x → w.cell? ⟨b, off + j, none⟩ = some (str x)) (hn : ls.length ≤ 1000000) :
    Calls Tryd.prog 10 #[.slice (some ⟨b, off, none⟩) ls.length cap] w fun e w' => e = .returned (.tuple #[str (mkS ls), .int .i64 (mkE ls)]) ∧ Below w.heap.size w w' := by
  have HC := Lib.hid hc
  clear hc
  obtain ⟨n, hN⟩ : ∃ n, n = ls.length := ⟨_, rfl⟩
  rw [← hN] at hn ⊢
  have HN := Lib.hid hN
  clear hN
  go_enter Tryd.func10, Tryd.ntmps10
  go_wp2
  have hw0 := wr_new w
  have hb0 : Below w.heap.size w (w.alloc (.cells #[.slice none 0 0, .int .i64 0] 37)) := (Below.refl _ _).alloc (Nat.le_refl _) _
  have HW := Lib.hid hw0
  have HB := Lib.hid hb0
  clear hw0 hb0
  go_loopw [9] (fun i wr => ∃ k : Nat, k ≤ n ∧ i = .int .i64 k ∧ Wr wr w.heap.size w.heap.size (ls.take k) ∧ Below w.heap.size w wr) (fun i _ => n - (intOf i).toNat)
  case atStart => exact ⟨0, by omega, rfl, HW.out, HB.out⟩
  case round =>
    clear HW HB
    obtain ⟨k, hk, rfl, hw, hbr⟩ := hrel
    have HW := Lib.hid hw
    clear hw
    by_cases hlt : k < n
    · obtain ⟨x, hx⟩ : ∃ x, ls[k]? = some x := ⟨_, List.getElem?_eq_getElem (by rw [← HN.out]; exact hlt)⟩
      have hcell : wr.cell? ⟨b, off + k, none⟩ = some (.string ⟨x.toArray⟩) := (hbr.cell (p := ⟨b, off + k, none⟩) hb).trans (HC.out k x hx)
      have HX := Lib.hid hx
      clear hx
      go_wp2_with (go_at_call 16; refine (add_any ⟨x.toArray⟩ w.heap.size w.heap.size (ls.take k) _ HW.out hbr.size).mono ?_; rintro e w2 ⟨⟨v, rfl⟩, hw2, hb2⟩; have HW2 := Lib.hid hw2; clear hw2)
      go_roundw
      case rel => exact ⟨k + 1, by omega, by go_num, by rw [take_snoc HX.out]; exact HW2.out, hbr.trans hb2⟩
      case measure => simp [intOf]; omega
    · have hks : k = n := by omega
      have HE : Hid (ls.take k = ls) := Lib.hid (List.take_of_length_le (by rw [← HN.out]; omega))
      clear hks
      go_wp2_with (go_at_call 18; refine (name_any w.heap.size w.heap.size (ls.take k) _ HW.out).mono ?_; rintro e w2 ⟨rfl, hb2⟩; rw [HE.out])
      go_ret2
      exact ⟨rfl, hbr.trans (hb2.mono hbr.size)⟩
set_option maxRecDepth 100000 in
set_option maxHeartbeats 1600000 in
theorem make_nil (w : World) :
    Calls Tryd.prog 10 #[.slice none 0 0] w fun e w' => e = .returned (.tuple #[str (mkS []), .int .i64 (mkE [])]) ∧ Below w.heap.size w w' := by
  go_enter Tryd.func10, Tryd.ntmps10
  go_wp2
  have hw0 := wr_new w
  have hb0 : Below w.heap.size w (w.alloc (.cells #[.slice none 0 0, .int .i64 0] 37)) := (Below.refl _ _).alloc (Nat.le_refl _) _
  have HW := Lib.hid hw0
  have HB := Lib.hid hb0
  clear hw0 hb0
  go_loopw [9] (fun i wr => i = .int .i64 0 ∧ Wr wr w.heap.size w.heap.size [] ∧ Below w.heap.size w wr) (fun _ _ => 0)
  case atStart => exact ⟨rfl, HW.out, HB.out⟩
  case round =>
    clear HW HB
    obtain ⟨rfl, hw, hbr⟩ := hrel
    have HW := Lib.hid hw
    clear hw
    go_wp2_with (go_at_call 18; refine (name_any w.heap.size w.heap.size [] _ HW.out).mono ?_; rintro e w2 ⟨rfl, hb2⟩)
    go_ret2
    exact ⟨rfl, hbr.trans (hb2.mono hbr.size)⟩
theorem make_any (v : Value) (ls : List Bs) (w : World) (h : Rd w v ls) (hn : ls.length ≤ 1000000) :
    Calls Tryd.prog 10 #[v] w fun e w' => e = .returned (.tuple #[str (mkS ls), .int .i64 (mkE ls)]) ∧ Below w.heap.size w w' := by
  rcases h with ⟨rfl, rfl⟩ | ⟨b, off, cap, rfl, hb, hc⟩
  · exact make_nil w
  · exact make_some b off cap ls w hb hc hn
end Go.Proofs.YtpeojicimmofjaaDoor
