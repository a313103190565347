/-
  What a log is asked: its last index, a term, an entry.
-/
import Derived.Test.YtopnmiakljpgbaaKit
namespace Go.Proofs.Ytopnmiakljpgbaa
open Go.RowKit
/-- The cells of an entry of a slice. -/
theorem RdE.at {w : World} {a : Option Addr} {n cap : Nat} {L : List En} (h : RdE w (.slice a n cap) L) {k : Nat} {e : En} (hk : L[k]? = some e) :
    n = L.length ∧ ∃ g o, a = some ⟨g, o, none⟩ ∧ g < w.heap.size ∧ w.cell? ⟨g, o + k * 3, none⟩ = some (it e.term) ∧ w.cell? ⟨g, o + k * 3 + 1, none⟩ = some (it e.kind) ∧ w.cell? ⟨g, o + k * 3 + 2, none⟩ = some (.string e.data) := by
  obtain ⟨a', cap', he, _, _, h3⟩ := h
  cases he
  rcases h3 with rfl | ⟨g, o, rfl, hc⟩
  · simp at hk
  · exact ⟨rfl, g, o, rfl, w.block_lt_of_cell? _ (hc k e hk).1, hc k e hk⟩
/-- The term at a place. -/
def atT (bt : Int) (L : List En) (p : Nat) : Int := if p = 0 then bt else (L.getD (p - 1) En.zero).term
theorem termAt_any {w : World} {base bt : Int} {a : Option Addr} {n cap : Nat} {L : List En} (h : RdE w (.slice a n cap) L) (p : Nat) (hp : p ≤ L.length) (hl : L.length ≤ 1000000000000) :
    Calls Try.prog 45 #[lv base bt (.slice a n cap), it (p : Int)] w fun e w' => e = .returned (it (atT bt L p)) ∧ Below w.heap.size w w' := by
  by_cases h0 : p = 0
  · subst h0
    go_enter Try.func45, Try.ntmps45
    go_wp2
    go_ret
    exact ⟨rfl, (Below.refl _ _).alloc (Nat.le_refl _) _⟩
  · obtain ⟨k, rfl⟩ : ∃ k, p = k + 1 := ⟨p - 1, by omega⟩
    obtain ⟨e, he⟩ : ∃ e, L[k]? = some e := ⟨_, List.getElem?_eq_getElem (by omega)⟩
    obtain ⟨rfl, g, o, rfl, hg, c0, _⟩ := h.at he
    have ha : atT bt L (k + 1) = e.term := by
      unfold atT
      rw [if_neg (by omega), Nat.add_sub_cancel, List.getD_eq_getElem?_getD, he]; rfl
    rw [ha]
    have c0 := (((Below.refl w.heap.size w).alloc (Nat.le_refl _) (.cells #[it base, it bt, .slice (some ⟨g, o, none⟩) L.length cap] 24)).cell (p := ⟨g, o + k * 3, none⟩) hg).trans c0
    have q : (((k + 1 : Nat) : Int) == 0) = false := by simp; omega
    have q1 : k < L.length := by omega
    have HH := Lib.hid h
    have HE := Lib.hid he
    clear h he ha
    obtain ⟨n, hn⟩ : ∃ n, n = L.length := ⟨_, rfl⟩
    rw [← hn] at c0 q1 ⊢
    have hl' : n ≤ 1000000000000 := by omega
    clear hn hp hl HH HE
    go_enter Try.func45, Try.ntmps45
    go_wp2
    go_ret
    exact ⟨rfl, (Below.refl _ _).alloc (Nat.le_refl _) _⟩
/-- The entry at an index, and the term at one. -/
def gtO (base : Int) (L : List En) (i : Int) : Option En := if base < i ∧ i ≤ base + L.length then L[(i - base - 1).toNat]? else none
def tmO (base bt : Int) (L : List En) (i : Int) : Option Int := if i = base then some bt else (gtO base L i).map En.term
theorem plc_cases (base : Int) (n : Nat) (i : Int) : (i < base ∧ plc base n i = -1) ∨ (base + n < i ∧ plc base n i = n + 1) ∨ (∃ p : Nat, i = base + p ∧ p ≤ n ∧ plc base n i = p) := by
  unfold plc
  by_cases h : i < base
  · exact .inl ⟨h, if_pos h⟩
  · rw [if_neg h]
    by_cases h2 : base + n < i
    · exact .inr (.inl ⟨h2, by omega⟩)
    · exact .inr (.inr ⟨(i - base).toNat, by omega, by omega, by omega⟩)
theorem gtO_none {base : Int} {L : List En} {i : Int} (h : i ≤ base ∨ base + L.length < i) : gtO base L i = none := if_neg (by omega)
theorem gtO_at (base : Int) (L : List En) (k : Nat) (hk : k < L.length) : gtO base L (base + (k + 1 : Nat)) = some (L.getD k En.zero) := by
  unfold gtO
  rw [if_pos (by omega), show (base + (k + 1 : Nat) - base - 1).toNat = k by omega, List.getD_eq_getElem?_getD, List.getElem?_eq_getElem hk]; rfl
theorem tmO_at (base bt : Int) (L : List En) (p : Nat) (hp : p ≤ L.length) : tmO base bt L (base + p) = some (atT bt L p) := by
  unfold tmO atT
  by_cases h : p = 0
  · subst h; simp
  · obtain ⟨k, rfl⟩ : ∃ k, p = k + 1 := ⟨p - 1, by omega⟩
    rw [if_neg (by omega), gtO_at base L k (by omega), if_neg (by omega)]; rfl
theorem tmO_none {base bt : Int} {L : List En} {i : Int} (h : i < base ∨ base + L.length < i) : tmO base bt L i = none := by
  unfold tmO; rw [if_neg (by omega), gtO_none (by omega)]; rfl
/-- A log's box. -/
structure LB (w : World) (B : Nat) (base bt : Int) (v : Value) : Prop where
  c0 : w.cell? ⟨B, 0, none⟩ = some (it base)
  c1 : w.cell? ⟨B, 1, none⟩ = some (it bt)
  c2 : w.cell? ⟨B, 2, none⟩ = some v
theorem LB.lt {w : World} {B : Nat} {base bt : Int} {v : Value} (h : LB w B base bt v) : B < w.heap.size := w.block_lt_of_cell? _ h.c0
theorem LB.below {w w' : World} {B : Nat} {base bt : Int} {v : Value} (h : LB w B base bt v) (hb : Below w.heap.size w w') : LB w' B base bt v :=
  ⟨(hb.cell (p := ⟨B, 0, none⟩) h.lt).trans h.c0, (hb.cell (p := ⟨B, 1, none⟩) h.lt).trans h.c1, (hb.cell (p := ⟨B, 2, none⟩) h.lt).trans h.c2⟩
theorem lb_new (w : World) (base bt : Int) (v : Value) : LB (w.alloc (.cells #[it base, it bt, v] 24)) w.heap.size base bt v := by
  have hnew := World.news_of_block (cs := #[it base, it bt, v]) (t := 24) (fr := (0, 0)) (heap_alloc_new w _)
  exact ⟨hnew 0 _ rfl, hnew 1 _ rfl, hnew 2 _ rfl⟩
section
variable {w : World} {base bt : Int} {a : Option Addr} {n cap : Nat} {L : List En}
theorem RdE.len (h : RdE w (.slice a n cap) L) : n = L.length := by obtain ⟨a', cap', he, _⟩ := h; cases he; rfl
theorem term_any (h : RdE w (.slice a n cap) L) (hb : I64 base) {i : Int} (hi : I64 i) (hl : L.length ≤ 1000000000) :
    Calls Try.prog 13 #[lv base bt (.slice a n cap), it i] w fun e w' => e = .returned (.tuple #[it ((tmO base bt L i).getD 0), .bool (tmO base bt L i).isSome]) ∧ Below w.heap.size w w' := by
  have hn := h.len
  subst hn
  have HP := Lib.hid (fun w' => place_any hb hi bt a L.length cap (by omega) w')
  have HT := Lib.hid (fun w' (hw : Below w.heap.size w w') p hp => termAt_any (base := base) (bt := bt) (h.below hw) p hp (by omega))
  have HB := Lib.hid (lb_new w base bt (.slice a L.length cap))
  have HW := Lib.hid ((Below.refl w.heap.size w).alloc (Nat.le_refl _) (.cells #[it base, it bt, .slice a L.length cap] 24))
  obtain ⟨m, hm⟩ : ∃ m, m = L.length := ⟨_, rfl⟩
  have HL := Lib.hid hm
  rcases plc_cases base L.length i with ⟨h1, h2⟩ | ⟨h1, h2⟩ | ⟨p, rfl, hp, h2⟩
  · rw [tmO_none (.inl h1)]
    rw [h2] at HP
    rw [← hm] at HP HT HB HW hl ⊢
    clear h hm h1 h2 HT
    go_enter Try.func13, Try.ntmps13
    go_wp2_with fail
    generalize w.alloc _ = wA at *
    refine (HP.out _).mono ?_
    rintro e w1 ⟨rfl, hb1⟩
    have HB1 := Lib.hid (HW.out.trans (hb1.mono HW.out.size))
    clear hb1
    go_wp2
    go_ret2
    exact ⟨rfl, HB1.out⟩
  · rw [tmO_none (.inr h1)]
    rw [h2] at HP
    rw [← hm] at HP HT HB HW hl ⊢
    clear h hm h1 h2 HT
    have q1 : decide ((m : Int) + 1 < 0) = false := by simp; omega
    go_enter Try.func13, Try.ntmps13
    go_wp2_with fail
    generalize w.alloc _ = wA at *
    refine (HP.out _).mono ?_
    rintro e w1 ⟨rfl, hb1⟩
    have HB1 := Lib.hid (HW.out.trans (hb1.mono HW.out.size))
    obtain ⟨c0, c1, c2⟩ := HB.out.below hb1
    clear hb1
    go_wp2
    go_ret2
    exact ⟨rfl, HB1.out⟩
  · rw [tmO_at _ _ _ _ hp]
    rw [h2] at HP
    rw [← hm] at HP HB HW hl hp ⊢
    have HT2 := Lib.hid (fun w' hw => HT.out w' hw p (by omega))
    rw [← hm] at HT2
    clear h hm h2 HT
    have q1 : decide ((p : Int) < 0) = false := by simp
    have q2 : decide ((m : Int) < (p : Int)) = false := by simp; omega
    go_enter Try.func13, Try.ntmps13
    go_wp2_with fail
    generalize w.alloc _ = wA at *
    refine (HP.out _).mono ?_
    rintro e w1 ⟨rfl, hb1⟩
    have HB1 := Lib.hid (HW.out.trans (hb1.mono HW.out.size))
    obtain ⟨c0, c1, c2⟩ := HB.out.below hb1
    clear hb1
    go_wp2_with fail
    refine (HT2.out _ HB1.out).mono ?_
    rintro e w2 ⟨rfl, hb2⟩
    have HB2 := Lib.hid (HB1.out.trans (hb2.mono HB1.out.size))
    clear hb2
    go_wp2
    go_ret2
    exact ⟨rfl, HB2.out⟩
end
end Go.Proofs.Ytopnmiakljpgbaa
