/-
  What the functions of a state's numbers (sha's last, low, choice, high, majority) hand back, for any eight numbers; no older memory is changed.
-/
import Derived.Test.YtomghpielgkigaaDoorKit
namespace Go.Proofs.YtomghpielgkigaaDoor
open Go.RowKit

theorem ua_at {s : List Int} (i : Nat) (h : i < s.length) : (ua s)[i]? = some (.int .u32 (s.getD i 0)) := by simp [ua, ui, h]
theorem ua_lt {s : List Int} (i : Nat) (h : i < s.length) : i < (ua s).size := by simp [ua, ui, h]

def fLast (s : List Int) : Int := s.getD 7 0
def mLow (e : Int) : Int := bits .xor .u32 (bits .xor .u32 (rt e 6) (rt e 11)) (rt e 25)
def mHigh (a : Int) : Int := bits .xor .u32 (bits .xor .u32 (rt a 2) (rt a 13)) (rt a 22)
def nt (e : Int) : Int := bits .xor .u32 IntKind.u32.max e
def mChoice (e f g : Int) : Int := bits .xor .u32 (bits .and .u32 e f) (bits .and .u32 (nt e) g)
def mMaj (a b c : Int) : Int := bits .xor .u32 (bits .xor .u32 (bits .and .u32 a b) (bits .and .u32 a c)) (bits .and .u32 b c)
def fChoice (s : List Int) : Int := mChoice (s.getD 4 0) (s.getD 5 0) (s.getD 6 0)
def fMaj (s : List Int) : Int := mMaj (s.getD 0 0) (s.getD 1 0) (s.getD 2 0)
def fLow (s : List Int) : Int := mLow (s.getD 4 0)
def fHigh (s : List Int) : Int := mHigh (s.getD 0 0)

set_option maxRecDepth 100000 in
set_option maxHeartbeats 400000 in
theorem last_any (s : List Int) (hl : s.length = 8) (w : World) :
    Calls Tryd.prog 84 #[.agg (ua s)] w fun e w' => e = .returned (.int .u32 (fLast s)) ∧ Below w.heap.size w w' := by
  have a7 := ua_at (s := s) 7 (by omega)
  have HL := Lib.hid hl
  clear hl
  go_enter Tryd.func84, Tryd.ntmps84
  go_wp2
  go_ret
  exact ⟨rfl, (Below.refl _ _).alloc (Nat.le_refl _) _⟩

set_option maxRecDepth 100000 in
set_option maxHeartbeats 400000 in
theorem low_any (s : List Int) (hl : s.length = 8) (w : World) :
    Calls Tryd.prog 85 #[.agg (ua s)] w fun e w' => e = .returned (.int .u32 (fLow s)) ∧ Below w.heap.size w w' := by
  have a4 := ua_at (s := s) 4 (by omega)
  have HL := Lib.hid hl
  clear hl
  go_enter Tryd.func85, Tryd.ntmps85
  go_wp2_with (go_at_call 90; refine (rot_any _ _ _ (by omega) (by omega)).mono ?_; rintro e w' ⟨rfl, k, rfl⟩)
  go_ret
  exact ⟨rfl, below_drewN ((Below.refl _ _).alloc (Nat.le_refl _) _) _⟩

set_option maxRecDepth 100000 in
set_option maxHeartbeats 400000 in
theorem high_any (s : List Int) (hl : s.length = 8) (w : World) :
    Calls Tryd.prog 87 #[.agg (ua s)] w fun e w' => e = .returned (.int .u32 (fHigh s)) ∧ Below w.heap.size w w' := by
  have a4 := ua_at (s := s) 0 (by omega)
  have HL := Lib.hid hl
  clear hl
  go_enter Tryd.func87, Tryd.ntmps87
  go_wp2_with (go_at_call 90; refine (rot_any _ _ _ (by omega) (by omega)).mono ?_; rintro e w' ⟨rfl, k, rfl⟩)
  go_ret
  exact ⟨rfl, below_drewN ((Below.refl _ _).alloc (Nat.le_refl _) _) _⟩

set_option maxRecDepth 100000 in
set_option maxHeartbeats 400000 in
theorem choice_any (s : List Int) (hl : s.length = 8) (w : World) :
    Calls Tryd.prog 86 #[.agg (ua s)] w fun e w' => e = .returned (.int .u32 (fChoice s)) ∧ Below w.heap.size w w' := by
  have a4 := ua_at (s := s) 4 (by omega)
  have a5 := ua_at (s := s) 5 (by omega)
  have a6 := ua_at (s := s) 6 (by omega)
  have HL := Lib.hid hl
  clear hl
  go_enter Tryd.func86, Tryd.ntmps86
  go_wp2
  go_quiet (fail)
  go_wp2
  go_ret
  exact ⟨rfl, below_drewN ((Below.refl _ _).alloc (Nat.le_refl _) _) _⟩

set_option maxRecDepth 100000 in
set_option maxHeartbeats 400000 in
theorem majority_any (s : List Int) (hl : s.length = 8) (w : World) :
    Calls Tryd.prog 88 #[.agg (ua s)] w fun e w' => e = .returned (.int .u32 (fMaj s)) ∧ Below w.heap.size w w' := by
  have a4 := ua_at (s := s) 0 (by omega)
  have a5 := ua_at (s := s) 1 (by omega)
  have a6 := ua_at (s := s) 2 (by omega)
  have HL := Lib.hid hl
  clear hl
  go_enter Tryd.func88, Tryd.ntmps88
  go_wp2
  go_quiet (fail)
  go_wp2
  go_ret
  exact ⟨rfl, below_drewN ((Below.refl _ _).alloc (Nat.le_refl _) _) _⟩
end Go.Proofs.YtomghpielgkigaaDoor
