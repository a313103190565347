/-
  Logs as values: entries, lists of entries, what reads as them.
-/
import Derived.Test.YtopnmiakljpgbaaProg
import Derived.WalkKit
import Derived.OwnWalk
import Derived.Maps.AppendAt
import Derived.Lib.Hide
import Derived.Lib.AppendStr
import Derived.Laws.Rows
import Derived.Laws.AppendOwn
import Derived.Laws.AppendOwnNone
import Derived.Laws.EntriesVeiled
import Derived.Laws.StructEq
import Derived.BigFrame
import Derived.BigRegion
import Derived.BigQuiet
import Derived.IntWalk
import Derived.Outline
import Derived.StillTailTactics
import Derived.Deep.RegionLaw
import Derived.Deep.LoopGhost
import Derived.Deep.AppendLies
import Derived.Deep.RegionHeld3
import Derived.Deep.CutBlock
import Derived.Great.BuildSlice
namespace Go.Proofs.Ytopnmiakljpgbaa
open Go.RowKit
abbrev Bs := List UInt8
abbrev nop : Value := .pointer none
abbrev ptr (b : Nat) : Value := .pointer (some ⟨b, 0, none⟩)
abbrev str (l : Bs) : Value := .string ⟨l.toArray⟩
abbrev it (n : Int) : Value := .int .i64 n
/-- An entry. -/
structure En where
  term : Int
  kind : Int
  data : ByteArray
  deriving DecidableEq
def En.zero : En := ⟨0, 0, ⟨#[]⟩⟩
abbrev En.v (e : En) : Value := .agg #[it e.term, it e.kind, .string e.data]
abbrev ec (e : En) : List Value := [it e.term, it e.kind, .string e.data]
def ecs (L : List En) : List Value := L.flatMap ec
theorem ecs_length (L : List En) : (ecs L).length = L.length * 3 := by
  induction L with
  | nil => rfl
  | cons e r ih => simp [ecs, ec] at ih ⊢; omega
theorem ecs_append (L M : List En) : ecs (L ++ M) = ecs L ++ ecs M := by simp [ecs]
/-- A log. -/
structure Lg where
  base : Int
  bt : Int
  es : List En
  deriving DecidableEq
/-- A slice that reads as these entries. -/
def RdE (w : World) (v : Value) (L : List En) : Prop := ∃ a cap, v = .slice a L.length cap ∧ L.length ≤ cap ∧ cap ≤ maxLen ∧ (L = [] ∨ ∃ g k, a = some ⟨g, k, none⟩ ∧
  ∀ i e, L[i]? = some e → w.cell? ⟨g, k + i * 3, none⟩ = some (it e.term) ∧ w.cell? ⟨g, k + i * 3 + 1, none⟩ = some (it e.kind) ∧ w.cell? ⟨g, k + i * 3 + 2, none⟩ = some (.string e.data))
theorem RdE.below {w w' : World} {v : Value} {L : List En} (h : RdE w v L) (hb : Below w.heap.size w w') : RdE w' v L := by
  obtain ⟨a, cap, e, h1, h2, h3⟩ := h
  refine ⟨a, cap, e, h1, h2, h3.imp id fun ⟨g, k, e, hc⟩ => ⟨g, k, e, fun i s hs => ?_⟩⟩
  obtain ⟨c0, c1, c2⟩ := hc i s hs
  exact ⟨(hb.cell (p := ⟨g, k + i * 3, none⟩) (w.block_lt_of_cell? _ c0)).trans c0, (hb.cell (p := ⟨g, k + i * 3 + 1, none⟩) (w.block_lt_of_cell? _ c1)).trans c1, (hb.cell (p := ⟨g, k + i * 3 + 2, none⟩) (w.block_lt_of_cell? _ c2)).trans c2⟩
theorem RdE.nil (w : World) : RdE w (.slice none 0 0) [] := ⟨none, 0, rfl, Nat.le_refl _, Nat.zero_le _, .inl rfl⟩
/-- How far an index stands behind a base. -/
def plc (base : Int) (n : Nat) (i : Int) : Int := if i < base then -1 else min (i - base) (n + 1)
abbrev lv (base bt : Int) (v : Value) : Value := .agg #[it base, it bt, v]
def I64 (n : Int) : Prop := -9223372036854775808 ≤ n ∧ n ≤ 9223372036854775807
theorem place_any {base i : Int} (hb : I64 base) (hi : I64 i) (bt : Int) (a : Option Addr) (n cap : Nat) (hn : n ≤ 1000000000000) (w : World) :
    Calls Try.prog 44 #[lv base bt (.slice a n cap), it i] w fun e w' => e = .returned (it (plc base n i)) ∧ Below w.heap.size w w' := by
  obtain ⟨hb1, hb2⟩ := hb
  obtain ⟨hi1, hi2⟩ := hi
  by_cases h : i < base
  · have e : plc base n i = -1 := if_pos h
    rw [e]
    go_enter Try.func44, Try.ntmps44
    go_wp2
    go_ret
    exact ⟨rfl, (Below.refl _ _).alloc (Nat.le_refl _) _⟩
  · have e : plc base n i = min (i - base) (n + 1) := if_neg h
    rw [e]
    have h' : decide (i < base) = false := by simpa using h
    have hw : IntKind.u64.wrap (IntKind.u64.wrap i - IntKind.u64.wrap base) = i - base := by
      unfold IntKind.wrap
      simp only [IntKind.bits, IntKind.signed, Bool.false_eq_true, if_false, Bool.false_and]
      omega
    by_cases h2 : (n : Int) + 1 < i - base
    · have h3 : wrap64 ((n : Int) + 1) = (n : Int) + 1 := by unfold wrap64; omega
      rw [Int.min_eq_right (by omega)]
      go_enter Try.func44, Try.ntmps44
      go_wp2
      go_ret
      exact ⟨rfl, (Below.refl _ _).alloc (Nat.le_refl _) _⟩
    · have h4 : ¬ ((n : Int) + 1 < i - base) := h2
      rw [Int.min_eq_left (by omega)]
      have h3 : wrap64 (i - base) = i - base := by unfold wrap64; omega
      go_enter Try.func44, Try.ntmps44
      go_wp2
      go_ret
      exact ⟨rfl, (Below.refl _ _).alloc (Nat.le_refl _) _⟩
end Go.Proofs.Ytopnmiakljpgbaa
