/-
  The writer of names: what add leaves behind, for every label; and what name answers.
-/
import Derived.Test.YtjoplnkagfkffaaStrs
import Derived.Test.YtjoplnkagfkffaaMakeMath
import Derived.Lib.AppendStr
import Derived.Outline
namespace Go.Proofs.Ytjoplnkagfkffaa
open Go.RowKit
/-- Bytes as cells. -/
abbrev ub (l : Bs) : List Value := l.map fun b => Value.int .u8 (b.toNat : Int)
theorem row_slice {w : World} {base e size n : Nat} {v : Value} {xs : List Value} (h : w.ownsRow base e size v n xs) : ∃ a cap, v = .slice a n cap := by
  rcases h.2 with ⟨rfl, rfl⟩ | ⟨g, cap, cur, rfl, _⟩
  · exact ⟨none, 0, rfl⟩
  · exact ⟨_, cap, rfl⟩
theorem row_from {w : World} {base e size n : Nat} {v : Value} {xs : List Value} (h : w.ownsRow base e size v n xs) : ∀ j, v.ownBlock = some j → base ≤ j := fun j hj => (World.ownsRow.lt h j hj).1
theorem ub_snoc (ls : List Bs) (s : ByteArray) (h : s.size ≤ 63) : ub (enc ls) ++ Value.int .u8 (s.size : Int) :: Lib.strCells s = ub (enc (ls ++ [s.data.toList])) := by
  rw [enc_snoc]
  have e : (UInt8.ofNat s.data.toList.length).toNat = s.size := by rw [← size_list]; simp; omega
  simp only [ub, List.map_append, List.map_cons, Lib.strCells, e, List.append_assoc, List.cons_append, List.nil_append]
theorem row_back {w : World} {base : Nat} {a : Option Addr} {n cap : Nat} {l : Bs} (h : w.ownsRow base 5 1 (.slice a n cap) l.length (ub l)) : (convert 72 9 (.slice a n cap)).run Try.prog w = .ok (.string ⟨l.toArray⟩) w := by
  have hc := @World.ownsRow.cells w base 5 1 _ l.length _ h
  rcases h.2 with ⟨e, h0⟩ | ⟨g, cap', cur, e, hb, hg, _⟩
  · have hl : l = [] := List.length_eq_zero_iff.1 h0
    subst hl
    cases e
    have := run_convert_bytes_string (P := Try.prog) w 72 9 5 none 0 0 Try.underlying72 Try.underlying5 Try.underlying9
    rw [this]
    simp [Conv.bytesToString]
    rfl
  · cases e
    exact run_convert_bytes_back (P := Try.prog) w 72 9 5 ⟨g, 0, none⟩ _ l Try.underlying72 Try.underlying5 Try.underlying9 (fun j hj => hc (g := g) rfl j _ (by simp [hj]))
theorem ret_si {a b : ByteArray} {x y : Int} (h : a = b) (h2 : x = y) : Ending.returned (.tuple #[.string a, .int .i64 x]) = .returned (.tuple #[.string b, .int .i64 y]) := by rw [h, h2]
theorem cat (l m : Bs) : (⟨l.toArray⟩ : ByteArray) ++ ⟨m.toArray⟩ = ⟨(l ++ m).toArray⟩ := by
  apply ByteArray.ext
  apply Array.toList_inj.1
  simp
end Go.Proofs.Ytjoplnkagfkffaa
