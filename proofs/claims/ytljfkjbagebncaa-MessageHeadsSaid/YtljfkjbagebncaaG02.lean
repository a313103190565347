/-
  Check: What Check answers, for every text; no older memory is changed.
  Strs: Lists of texts in memory: a slice that the call owns, and one that reads as a list.
-/
import Derived.Test.YtljfkjbagebncaaG01
import Derived.Lib.AppendStr
import Derived.Outline
import Derived.IntWalk
import Derived.BigQuiet
import Derived.Deep.QuietTactic
import Derived.BigRegion
import Derived.StillTailTactics
import Derived.Laws.AppendOwn
import Derived.OwnWalk
import Derived.Laws.Rows

/- Check -/
namespace Go.Proofs.Ytljfkjbagebncaa
open Go.RowKit Go.Shelf
attribute [local go_sem] Oper.semAt_some
/-- The place behind the last one of the labels that have come. -/
def lastEnd (pre : List Item) : Nat := (pre.getLast?.map (·.1.2)).getD 0
theorem lastEnd_snoc (pre : List Item) (x : Item) : lastEnd (pre ++ [x]) = x.1.2 := by simp [lastEnd]
theorem lastEnd_items (ls : List Bs) : lastEnd (items 0 ls) = (enc ls).length := by
  rcases List.eq_nil_or_concat ls with rfl | ⟨a, x, rfl⟩
  · rfl
  · rw [List.concat_eq_append, items_snoc, lastEnd_snoc, enc_snoc_length]; simp [item]
theorem extract_rest (s : ByteArray) : s.extract (enc (labs s.data.toList)).length s.size = ⟨(rest s.data.toList).toArray⟩ := by
  have h := split s.data.toList
  apply ByteArray.ext
  apply Array.toList_inj.1
  rw [ByteArray.data_extract, Array.toList_extract, size_list]
  simp only [List.extract]
  conv => lhs; rw [← h]
  simp [labs_join _ _ (labs_ok _) (rest_step _)]
theorem enc_le (s : ByteArray) : (enc (labs s.data.toList)).length ≤ s.size := by
  have h := congrArg List.length (split s.data.toList)
  rw [List.length_append] at h
  rw [size_list]; omega
theorem chk_form (s : ByteArray) (h : (!rest s.data.toList == [0]) = true) : 10 = chk s.data.toList := by
  unfold chk; rw [if_neg (by simpa using h)]
theorem chk_size (s : ByteArray) (h : (!rest s.data.toList == [0]) = false) (h2 : (255 : Int) < (s.size : Int)) : 11 = chk s.data.toList := by
  unfold chk; rw [if_pos (by simpa using h), if_pos (by rw [size_list] at h2; omega)]
theorem chk_ok (s : ByteArray) (h : (!rest s.data.toList == [0]) = false) (h2 : (s.size : Int) ≤ 255) : 0 = chk s.data.toList := by
  unfold chk; rw [if_pos (by simpa using h), if_neg (by rw [size_list] at h2; omega)]
theorem ret_i64 {a b : Int} (h : a = b) : Ending.returned (.int .i64 a) = .returned (.int .i64 b) := by rw [h]
set_option maxRecDepth 100000 in
set_option maxHeartbeats 2000000 in
theorem check_in (F : Fence) (n : Nat) (h16 : F.fn 53) (h36 : F.fn 84) (h43 : F.fn 111) (hro : F.round = none) (hn : 3 ≤ n) (s : ByteArray) (hs : s.size ≤ 140737488351232) (w : World) :
    CallsIn F n Try.prog 53 #[.string s] w fun e w' => e = .returned (.int .i64 (chk s.data.toList)) ∧ Below w.heap.size w w' := by
  have h1 : 1 ≤ n := by omega
  refine callsIn_of_wp_marks Try.func53 rfl h16 ?_ hro
  simp only [Try.ntmps53, List.size_toArray, List.length_cons, List.length_nil, Nat.reduceAdd, Nat.reduceSub, Array.replicate_succ, Array.replicate_zero, List.push_toArray, List.append_toArray, List.nil_append, List.cons_append]
  gi_wp2_with (gi_at_call 84; refine (each_in F (n - 1) h36 hro _ _).mono ?_; rintro e w' ⟨rfl, rfl⟩)
  have bS := Boxed.new w 3 (.int .i64 0)
  have bN := Boxed.new (w.alloc (.cells #[.int .i64 0] 3)) 9 (.string s)
  rw [World.size_alloc] at bN
  have hB0 : Below w.heap.size w ((w.alloc (.cells #[.int .i64 0] 3)).alloc (.cells #[.string s] 9)) := ((Below.refl _ w).alloc (Nat.le_refl _) _).alloc (by simp) _
  refine wpIn_rangeFunc_ownG hro h1 (gf := 111) (lb := #[.pointer (some ⟨w.heap.size + 1, 0, none⟩)]) rfl h43 (enters_of Try.func111 (by kernel_rfl) rfl)
    (each_stops F (n - 1) h43 hro (by omega) (w.heap.size + 1) s hs _ (by simp) bN.cell) kpB_t kpB_b (Below.refl _ _) (fun _ => rfl)
    (fun pre W => Boxed W w.heap.size 3 (.int .i64 (lastEnd pre : Int)) ∧ Below w.heap.size w W)
    (fun _ _ _ => False)
    (OwnFrom.and (Own.from (boxed_own _ _ _) _) (ownFrom_below (Nat.le_refl _) (by simp; omega)))
    (fun _ _ _ _ _ hs _ _ => hs)
    ⟨bS.alloc _, hB0⟩
    (fun x => { tmps := #[.string s, undef, .int .i64 0, .pointer (some ⟨w.heap.size, 0, none⟩), undef, .int .i64 (x.1.2 : Int), .string s, .func (.func 111) #[] #[.pointer (some ⟨w.heap.size + 1, 0, none⟩)], .string x.1.1, .int .i64 (x.1.2 : Int), undef, undef, undef, undef, undef, undef, undef, undef], defers := [] }) ?assign ?body ?done ?stop
  case assign =>
    intro l x W K hK
    gi_wp2
    exact hK
  case body =>
    rintro l pre x W ⟨hb, hB⟩ _
    have hc := hb.cell
    have hf := hb.frozen
    gi_wp2
    exact ⟨(KeepsOthers.setCell _ _ _).from _, kpB_set (by omega) _, by rw [lastEnd_snoc]; exact hb.set _, hB.setCell (p := ⟨w.heap.size, 0, none⟩) (Nat.le_refl _) _⟩
  case done =>
    rintro D ys W hD rfl ⟨hb, hB⟩ hK
    rw [lastEnd_items] at hb
    have hc := hb.cell
    have hf := hb.frozen
    have he := enc_le s
    have hx := extract_rest s
    obtain ⟨p, hp⟩ : ∃ p, p = (enc (labs s.data.toList)).length := ⟨_, rfl⟩
    rw [← hp] at hc he hx
    clear hp
    have hsl : ∀ w, (Instr.slice 9 (.string s) (some (.int .i64 (p : Int))) none none).run Try.prog w = .ok (.string ⟨(rest s.data.toList).toArray⟩) w := fun w => by
      have h := run_slice_string_l (P := Try.prog) w 9 s Try.underlying9 .i64 (p : Int) (by omega) (by omega)
      rw [h, ← hx, Int.toNat_natCast]
    gi_wp2
    · have h1 : (!rest s.data.toList == [0]) = true := by assumption
      refine ⟨by simp, .inl ⟨_, _, rfl, run_takeDeferred hK, ?_⟩⟩
      refine ⟨_, results_tmp rfl _ _ _, ?_, hB.trans (belowK_b (w := w) (Nat.le_refl _) W D _ _ (by simp at hD; omega) hK rfl rfl)⟩
      exact ret_i64 (chk_form s h1)
    · have h1 : (!rest s.data.toList == [0]) = false := by assumption
      have h2 : (255 : Int) < (s.size : Int) := by assumption
      refine ⟨by simp, .inl ⟨_, _, rfl, run_takeDeferred hK, ?_⟩⟩
      refine ⟨_, results_tmp rfl _ _ _, ?_, hB.trans (belowK_b (w := w) (Nat.le_refl _) W D _ _ (by simp at hD; omega) hK rfl rfl)⟩
      exact ret_i64 (chk_size s h1 h2)
    · have h1 : (!rest s.data.toList == [0]) = false := by assumption
      have h2 : (s.size : Int) ≤ 255 := by assumption
      refine ⟨by simp, .inl ⟨_, _, rfl, run_takeDeferred hK, ?_⟩⟩
      refine ⟨_, results_tmp rfl _ _ _, ?_, hB.trans (belowK_b (w := w) (Nat.le_refl _) W D _ _ (by simp at hD; omega) hK rfl rfl)⟩
      exact ret_i64 (chk_ok s h1 h2)
  case stop =>
    rintro D c pre W _ _ h _
    exact h.elim
theorem check_any (s : ByteArray) (hs : s.size ≤ 140737488351232) (w : World) :
    Calls Try.prog 53 #[.string s] w fun e w' => e = .returned (.int .i64 (chk s.data.toList)) ∧ Below w.heap.size w w' :=
  (callsIn_wide (n := 3)).1 (check_in Fence.wide 3 trivial trivial trivial rfl (by omega) s hs w)
end Go.Proofs.Ytljfkjbagebncaa

/- Strs -/
namespace Go.Proofs.Ytljfkjbagebncaa
open Go.RowKit
/-- Bytes that lie in memory of one's own. -/
def Bys (w : World) (g : Nat) (l : Bs) : Prop := ∀ j x, l[j]? = some x → w.cell? ⟨g, j, none⟩ = some (.int .u8 (x.toNat : Int)) ∧ w.frozen? ⟨g, j, none⟩ = false
theorem bys_set {w : World} {g : Nat} {l : Bs} (h : Bys w g l) (j : Nat) (hj : j < l.length) (x : UInt8) : Bys (w.setCell ⟨g, j, none⟩ (.int .u8 (x.toNat : Int))) g (l.set j x) := by
  intro k y hk
  have hkl : k < l.length := by
    have := (List.getElem?_eq_some_iff.1 hk).1
    simpa using this
  refine ⟨?_, (World.frozen?_setCell _ _ _ _).trans (h k l[k] (List.getElem?_eq_getElem hkl)).2⟩
  by_cases e : j = k
  · subst e
    rw [World.cell?_setCell_same _ _ _ (h j l[j] (List.getElem?_eq_getElem hj)).1]
    rw [List.getElem?_set_self (by simpa using hj)] at hk
    rw [Option.some.inj hk]
  · rw [World.cell?_setCell_other _ _ _ _ (fun he => e (congrArg Addr.off he))]
    rw [List.getElem?_set_ne e] at hk
    exact (h k y hk).1
theorem bys_new (w : World) (t : ByteArray) (cap F e : Nat) (hF : t.size ≤ F) : Bys (w.alloc (.cells (bytesRow t cap) e (F, F + 1))) w.heap.size t.data.toList := by
  intro j x hj
  have hjl : j < t.data.size := by
    have := (List.getElem?_eq_some_iff.1 hj).1
    simpa using this
  have hx : t.data[j] = x := by
    have := (List.getElem?_eq_some_iff.1 hj).2
    simpa using this
  have hs : j < t.size := hjl
  rw [World.cell?_alloc_mark, World.frozen?_alloc_mark, bytesRow_at t cap j hjl, hx]
  exact ⟨rfl, by simp; omega⟩
theorem row_size (t : ByteArray) (c : Nat) : t.size ≤ (bytesRow t c).size := by
  unfold bytesRow
  rw [Array.size_append, Array.size_map]
  exact Nat.le_add_right _ _
theorem bys_back {w : World} {g : Nat} {l : Bs} (h : Bys w g l) (c : Nat) : (convert 47 9 (.slice (some ⟨g, 0, none⟩) l.length c)).run Try.prog w = .ok (.string ⟨l.toArray⟩) w :=
  run_convert_bytes_back (P := Try.prog) w 47 9 5 ⟨g, 0, none⟩ c l Try.underlying47 Try.underlying5 Try.underlying9 (fun j hj => by
    rw [show (⟨g, 0, none⟩ : Addr).add j = ⟨g, j, none⟩ by unfold Addr.add; split <;> simp_all]
    exact (h j _ (List.getElem?_eq_getElem hj)).1)
theorem conv_of (t : ByteArray) (w : World) : (convert 9 47 (.string t)).run Try.prog w = .ok (.slice (some ⟨w.heap.size, 0, none⟩) t.size (grownCap w t.size 0 5))
      (w.drew.alloc (.cells (bytesRow t (grownCap w t.size 0 5)) 5 ((bytesRow t (grownCap w t.size 0 5)).size, (bytesRow t (grownCap w t.size 0 5)).size + 1))) :=
  run_bytes_of_string (P := Try.prog) w 9 47 5 t Try.underlying9 Try.underlying47 Try.underlying5
/-- []byte(t): the bytes lie in new memory. -/
theorem conv_bys (t : ByteArray) (w : World) : ∃ C w2, (convert 9 47 (.string t)).run Try.prog w = .ok (.slice (some ⟨w.heap.size, 0, none⟩) t.size C) w2 ∧ Bys w2 w.heap.size t.data.toList ∧ Below w.heap.size w w2 :=
  ⟨_, _, conv_of t w, bys_new w.drew t _ _ 5 (row_size t _), ((Below.refl _ w).drew).alloc (Nat.le_refl _) _⟩
set_option maxHeartbeats 800000 in
theorem copied_any (s : ByteArray) (w : World) :
    Calls Try.prog 88 #[.string s] w fun e w' => e = .returned (.string s) ∧ Below w.heap.size w w' := by
  obtain ⟨C, w2, h1, h2, h3⟩ := conv_bys s w
  have h4 := bys_back h2 C
  rw [← size_list] at h4
  have HB := Lib.hid h3
  clear h2 h3
  go_enter Try.func88, Try.ntmps88
  go_wp2
  go_ret
  exact ⟨rfl, HB.out⟩
theorem info9 : (Try.prog.info? 9).map (fun i => (i.zero, i.size, i.bytes)) = some (some (.string ⟨#[]⟩), 1, 16) := by kernel_rfl
theorem info5 : (Try.prog.info? 5).map (fun i => (i.zero, i.size, i.bytes)) = some (some (.int .u8 0), 1, 1) := by kernel_rfl
abbrev str (l : Bs) : Value := .string ⟨l.toArray⟩
theorem str_of (t : ByteArray) : str t.data.toList = .string t := rfl
/-- A slice that the call owns, in blocks from base on: these texts. -/
def Own9 (w : World) (base : Nat) (v : Value) (ls : List Bs) : Prop := w.ownsRow base 9 1 v ls.length (ls.map str)
/-- A slice that reads as these texts. -/
def Rd (w : World) (v : Value) (ls : List Bs) : Prop :=
  (v = .slice none 0 0 ∧ ls = []) ∨ ∃ b off cap, v = .slice (some ⟨b, off, none⟩) ls.length cap ∧ b < w.heap.size ∧ ∀ j x, ls[j]? = some x → w.cell? ⟨b, off + j, none⟩ = some (str x)
theorem Rd.below {w w' : World} {v : Value} {ls : List Bs} (h : Rd w v ls) (hb : Below w.heap.size w w') : Rd w' v ls := by
  rcases h with h | ⟨b, off, cap, rfl, hb1, hc⟩
  · exact .inl h
  · exact .inr ⟨b, off, cap, rfl, Nat.lt_of_lt_of_le hb1 hb.size, fun j x hj => (hb.cell (p := ⟨b, off + j, none⟩) hb1).trans (hc j x hj)⟩
theorem Own9.rd {w : World} {base : Nat} {v : Value} {ls : List Bs} (h : Own9 w base v ls) : Rd w v ls := by
  have hc := @World.ownsRow.cells w base 9 1 v ls.length _ h
  rcases h.2 with ⟨rfl, h0⟩ | ⟨g, cap, cur, rfl, hb, hg, _⟩
  · have : ls = [] := List.length_eq_zero_iff.1 h0
    subst this
    exact .inl ⟨rfl, rfl⟩
  · refine .inr ⟨g, 0, cap, rfl, (Array.getElem?_eq_some_iff.1 hg).1, fun j x hj => ?_⟩
    have := hc (g := g) rfl j (str x) (by simp [hj])
    rw [show (⟨g, 0, none⟩ : Addr).add j = ⟨g, 0 + j, none⟩ by unfold Addr.add; split <;> simp_all] at this
    exact this
theorem Own9.below {w w' : World} {B : Nat} {v : Value} {ls : List Bs} (h : Own9 w B v ls) (hb : Below w.heap.size w w') : Own9 w' B v ls := by
  refine World.ownsRow.kept (row := none) h ⟨hb.os, hb.tape, hb.output, hb.size, fun k hk _ => hb.block k hk⟩ ?_
  cases hv : v.ownBlock <;> simp
theorem Own9.mono {w : World} {B B' : Nat} {v : Value} {ls : List Bs} (h : Own9 w B v ls) (hB : B' ≤ B) : Own9 w B' v ls := by
  refine ⟨h.1, ?_⟩
  rcases h.2 with h0 | ⟨g, cap, cur, e, hb, r⟩
  · exact .inl h0
  · exact .inr ⟨g, cap, cur, e, Nat.le_trans hB hb, r⟩
theorem own9_nil (w : World) (B : Nat) : Own9 w B (.slice none 0 0) [] := World.ownsRow_nil _ _ _ _
/-- What one more text leaves. -/
theorem own9_next {w wr w1 : World} {o : Obj} {v v' : Value} {B : Nat} {ls : List Bs} {x : Bs}
    (hown : Own9 wr B v ls) (hBw : w.heap.size ≤ B) (hb : Below w.heap.size w wr)
    (hown' : w1.ownsRow B 9 1 v' (ls.length + 1) (ls.map str ++ [str x])) (hg : (wr.alloc o).grownBy w1 v.ownBlock) :
    Own9 w1 B v' (ls ++ [x]) ∧ Below w.heap.size w w1 := by
  constructor
  · unfold Own9
    rw [List.length_append, List.map_append]
    exact hown'
  · have ha : Below w.heap.size w (wr.alloc o) := hb.alloc hb.size _
    refine ha.trans ⟨hg.os, hg.tape, hg.output, hg.size, fun i hi => hg.block i (Nat.lt_of_lt_of_le hi ha.size) ?_⟩
    intro e
    have := (World.ownsRow.lt hown i e.symm).1
    omega
/-- Bytes as cells. -/
abbrev ub (l : Bs) : List Value := l.map fun b => Value.int .u8 (b.toNat : Int)
theorem row_slice {w : World} {base e size n : Nat} {v : Value} {xs : List Value} (h : w.ownsRow base e size v n xs) : ∃ a cap, v = .slice a n cap := by
  rcases h.2 with ⟨rfl, rfl⟩ | ⟨g, cap, cur, rfl, _⟩
  · exact ⟨none, 0, rfl⟩
  · exact ⟨_, cap, rfl⟩
theorem row_from {w : World} {base e size n : Nat} {v : Value} {xs : List Value} (h : w.ownsRow base e size v n xs) : ∀ j, v.ownBlock = some j → base ≤ j := fun j hj => (World.ownsRow.lt h j hj).1
theorem row_back {w : World} {base : Nat} {a : Option Addr} {n cap : Nat} {l : Bs} (h : w.ownsRow base 5 1 (.slice a n cap) l.length (ub l)) : (convert 47 9 (.slice a n cap)).run Try.prog w = .ok (.string ⟨l.toArray⟩) w := by
  have hc := @World.ownsRow.cells w base 5 1 _ l.length _ h
  rcases h.2 with ⟨e, h0⟩ | ⟨g, cap', cur, e, hb, hg, _⟩
  · have hl : l = [] := List.length_eq_zero_iff.1 h0
    subst hl
    cases e
    have := run_convert_bytes_string (P := Try.prog) w 47 9 5 none 0 0 Try.underlying47 Try.underlying5 Try.underlying9
    rw [this]
    simp [Conv.bytesToString]
    rfl
  · cases e
    exact run_convert_bytes_back (P := Try.prog) w 47 9 5 ⟨g, 0, none⟩ _ l Try.underlying47 Try.underlying5 Try.underlying9 (fun j hj => hc (g := g) rfl j _ (by simp [hj]))
theorem ret_si {a b : ByteArray} {x y : Int} (h : a = b) (h2 : x = y) : Ending.returned (.tuple #[.string a, .int .i64 x]) = .returned (.tuple #[.string b, .int .i64 y]) := by rw [h, h2]
theorem cat (l m : Bs) : (⟨l.toArray⟩ : ByteArray) ++ ⟨m.toArray⟩ = ⟨(l ++ m).toArray⟩ := by
  apply ByteArray.ext
  apply Array.toList_inj.1
  simp
theorem take_snoc {ls : List Bs} {k : Nat} {x : Bs} (h : ls[k]? = some x) : ls.take (k + 1) = ls.take k ++ [x] := by
  obtain ⟨hk, e⟩ := List.getElem?_eq_some_iff.1 h
  rw [List.take_succ_eq_append_getElem hk, e]
theorem ret_vi {v : Value} {a b : Int} (h : a = b) : Ending.returned (.tuple #[v, .int .i64 a]) = .returned (.tuple #[v, .int .i64 b]) := by rw [h]
end Go.Proofs.Ytljfkjbagebncaa
