/-
  Patch: What Patch leaves and answers, of both packers; all else is as it was.
-/
import Derived.Test.YtljfkjbagebncaaG08
import Derived.Test.YtljfkjbagebncaaG06

/- Patch -/
namespace Go.Proofs.Ytljfkjbagebncaa
open Go.RowKit
/-- Two bytes in the place of others. -/
def ptc (B : Bs) (a x : Nat) : Bs := (B.set a (UInt8.ofNat (x / 256))).set (a + 1) (UInt8.ofNat x)
theorem ptc_length (B : Bs) (a x : Nat) : (ptc B a x).length = B.length := by simp [ptc]
/-- May be patched there. -/
def PtOk (B : Bs) (a : Int) : Prop := 0 ≤ a ∧ a ≤ (B.length : Int) - 2
instance (B : Bs) (a : Int) : Decidable (PtOk B a) := by unfold PtOk; infer_instance
def ptB (B : Bs) (a : Int) (x : Nat) : Bs := if PtOk B a then ptc B a.toNat x else B
def ptE (B : Bs) (a : Int) : Int := if PtOk B a then 0 else 1
theorem ptB_len (B : Bs) (a : Int) (x : Nat) : (ptB B a x).length = B.length := by
  unfold ptB; split
  · exact ptc_length _ _ _
  · rfl
/-- A byte of a row that is written. -/
theorem row_set {w : World} {g n cap i : Nat} {l : Bs} (h : w.ownsRow 0 5 1 (.slice (some ⟨g, 0, none⟩) n cap) n (ub l)) (x : UInt8) :
    (w.setCell ⟨g, i, none⟩ (.int .u8 (x.toNat : Int))).ownsRow 0 5 1 (.slice (some ⟨g, 0, none⟩) n cap) n (ub (l.set i x)) := by
  obtain ⟨h1, h2⟩ := h
  refine ⟨by simpa [ub] using h1, .inr ?_⟩
  rcases h2 with ⟨e, _⟩ | ⟨g', cap', cur, e, hb, hg, hn, hm, hs, ht⟩
  · cases e
  · injection e with e1 e2 e3
    injection e1 with e1
    injection e1 with e1 _ _
    subst e1 e3
    refine ⟨g, cap, cur.setIfInBounds i (.int .u8 (x.toNat : Int)), rfl, hb, heap_setCell_same w g i cur 5 _ hg, hn, hm, by simpa using hs, ?_⟩
    rw [Array.toList_setIfInBounds, List.take_set, ht, ub, ub, List.map_set]
theorem row_frozen {w : World} {b0 e size g n cap k : Nat} {xs : List Value} (h : w.ownsRow b0 e size (.slice (some ⟨g, 0, none⟩) n cap) k xs) (i : Nat) : w.frozen? ⟨g, i, none⟩ = false := by
  rcases h.2 with ⟨e, _⟩ | ⟨g', cap', cur, e, hb, hg, _⟩
  · cases e
  · injection e with e1 e2 e3
    injection e1 with e1
    injection e1 with e1 _ _
    subst e1
    simp [World.frozen?, hg]
set_option maxRecDepth 100000 in
set_option maxHeartbeats 8000000 in
theorem ppatch_no (a : Int) (x : Nat) (ha : -9223372036854775808 ≤ a ∧ a ≤ 9223372036854775807) (S : Nat → Prop) (b : Nat) (B : Bs) (L : Kn) (w : World) (h : PK S b B L w) (hB : B.length ≤ 1000000) (g : ¬ PtOk B a) :
    Calls Try.prog 94 #[ptr b, .int .i64 a, .int .u16 (x : Int)] w fun e w' => e = .returned (.int .i64 1) ∧ w = w' := by
  obtain ⟨sv, mv, hp⟩ := h
  have c0 := hp.blk.cell0
  obtain ⟨a0, cap, rfl⟩ := row_slice hp.row
  obtain ⟨n, hn⟩ : ∃ n, n = B.length := ⟨_, rfl⟩
  unfold PtOk at g
  rw [← hn] at c0 hB g
  clear hp hn
  have hni : (n : Int) ≤ 1000000 := by omega
  by_cases g1 : a < 0
  · go_enter Try.func94, Try.ntmps94
    go_wp2
    go_ret
    exact ⟨rfl, rfl⟩
  · have g2 : (n : Int) - 2 < a := by omega
    have g1' : decide (a < 0) = false := by simp; omega
    clear g
    go_enter Try.func94, Try.ntmps94
    go_wp2
    go_ret
    exact ⟨rfl, rfl⟩
theorem PV.set {S : Nat → Prop} {b g cap i n : Nat} {B : Bs} {L : Kn} {mv : Value} {w : World} (h : PV S b B L (.slice (some ⟨g, 0, none⟩) n cap) mv w) (hn : n = B.length) (x : UInt8) :
    PV S b (B.set i x) L (.slice (some ⟨g, 0, none⟩) n cap) mv (w.setCell ⟨g, i, none⟩ (.int .u8 (x.toNat : Int))) ∧ Tr S w (w.setCell ⟨g, i, none⟩ (.int .u8 (x.toNat : Int))) := by
  subst hn
  have hg : S g := h.rowS g rfl
  have hT : Tr (· = g) w (w.setCell ⟨g, i, none⟩ (.int .u8 (x.toNat : Int))) := Tr.setCell (S := (· = g)) (Tr.refl _ _) (.inl rfl) _
  have hne : b ≠ g := by
    have := h.blk.not_row h.row (by decide)
    rintro rfl
    exact this rfl
  refine ⟨⟨h.blk.tr hT hne, ?_, h.rowS, h.own, ?_⟩, (Tr.refl _ _).setCell (.inl hg) _⟩
  · have := row_set h.row (i := i) x
    simpa using this
  · rcases h.map with hm | ⟨mb, e, hs, hm⟩
    · exact .inl hm
    · refine .inr ⟨mb, e, hs, hm.tr hT ?_⟩
      have := hm.not_row h.row
      rintro rfl
      exact this rfl
set_option maxRecDepth 100000 in
set_option maxHeartbeats 8000000 in
theorem ppatch_yes (p x : Nat) (hx : x < 65536) (S : Nat → Prop) (b : Nat) (B : Bs) (L : Kn) (w : World) (h : PK S b B L w) (hB : B.length ≤ 1000000) (hp : p + 2 ≤ B.length) :
    Calls Try.prog 94 #[ptr b, .int .i64 (p : Int), .int .u16 (x : Int)] w fun e w' => e = .returned (.int .i64 0) ∧ Lft S b (ptc B p x) L w w' := by
  obtain ⟨sv, mv, hv⟩ := h
  have c0 := hv.blk.cell0
  obtain ⟨a0, cap, rfl⟩ := row_slice hv.row
  have hcell := @World.ownsRow.cells w 0 5 1 _ _ _ hv.row
  obtain ⟨g, rfl⟩ : ∃ g, a0 = some ⟨g, 0, none⟩ := by
    rcases hv.row.2 with ⟨e, h0⟩ | ⟨g, cap', cur, e, _⟩
    · omega
    · injection e with e1 e2 e3; exact ⟨g, e1⟩
  have hc2 : ∀ i, i < B.length → ∃ v, w.cell? ⟨g, i, none⟩ = some v := by
    intro i hi
    have := hcell (g := g) rfl i (.int .u8 (B[i].toNat : Int)) (by simp [hi])
    rw [show (⟨g, 0, none⟩ : Addr).add i = ⟨g, i, none⟩ by unfold Addr.add; split <;> simp_all] at this
    exact ⟨_, this⟩
  obtain ⟨v1, k1⟩ := hc2 p (by omega)
  obtain ⟨v2, k2⟩ := hc2 (p + 1) (by omega)
  have f1 := row_frozen hv.row p
  have f2 := row_frozen hv.row (p + 1)
  have HV := Lib.hid hv
  obtain ⟨n, hn⟩ : ∃ n, n = B.length := ⟨_, rfl⟩
  rw [← hn] at c0 hB hp
  have HN := Lib.hid hn
  have hne : b ≠ g := by
    have := hv.blk.not_row hv.row (by decide)
    rintro rfl
    exact this rfl
  have hni : (n : Int) ≤ 1000000 := by omega
  have q1 : decide ((p : Int) < 0) = false := by simp
  have q2 : decide ((n : Int) - 2 < (p : Int)) = false := by simp; omega
  have q3 : (p : Int) < (n : Int) := by omega
  have q4 : (p : Int) + 1 < (n : Int) := by omega
  have hx1 : (x : Int) < 65536 := by omega
  clear hv hcell hc2 hn
  go_enter Try.func94, Try.ntmps94
  go_wp2
  go_region
  have e1 : ((x : Int) / 256) = ((UInt8.ofNat (x / 256)).toNat : Int) := by simp; omega
  have e2 : ((x : Int) % 256) = ((UInt8.ofNat x).toNat : Int) := by simp
  obtain ⟨s1, t1⟩ := HV.out.set (i := p) rfl (UInt8.ofNat (x / 256))
  obtain ⟨s2, t2⟩ := s1.set (i := p + 1) (by simp) (UInt8.ofNat x)
  have A : Hid (Lft S b (ptc B p x) L w (((w.setCell ⟨g, p, none⟩ (.int .u8 ((x : Int) / 256))).setCell ⟨g, p + 1, none⟩ (.int .u8 ((x : Int) % 256))).drew)) := Lib.hid (by
    rw [e1, e2]
    exact Lft.post ⟨⟨_, _, s2.mono fun _ => .inl⟩, t1.then t2⟩ ((Below.refl _ _).drew))
  clear e1 e2 s1 s2 t1 t2 k1 k2 f1 f2
  go_wp2
  go_ret
  exact ⟨rfl, A.out⟩
theorem ppatch_any (a : Int) (x : Nat) (ha : -9223372036854775808 ≤ a ∧ a ≤ 9223372036854775807) (hx : x < 65536) (S : Nat → Prop) (b : Nat) (B : Bs) (L : Kn) (w : World) (h : PK S b B L w) (hB : B.length ≤ 1000000) :
    Calls Try.prog 94 #[ptr b, .int .i64 a, .int .u16 (x : Int)] w fun e w' => e = .returned (.int .i64 (ptE B a)) ∧ Lft S b (ptB B a x) L w w' := by
  by_cases g : PtOk B a
  · unfold ptE ptB
    rw [if_pos g, if_pos g]
    obtain ⟨g1, g2⟩ := g
    obtain ⟨p, rfl⟩ := Int.eq_ofNat_of_zero_le g1
    rw [Int.toNat_natCast]
    exact ppatch_yes p x hx S b B L w h hB (by omega)
  · unfold ptE ptB
    rw [if_neg g, if_neg g]
    exact (ppatch_no a x ha S b B L w h hB g).mono fun e w' ⟨h1, h2⟩ => ⟨h1, h2 ▸ Lft.refl h⟩
/-! ### The document's own -/
theorem ptc_parts {B : Bs} {p x : Nat} (h : p + 2 ≤ B.length) : ptc B p x = B.take p ++ word x ++ B.drop (p + 2) := by
  unfold ptc word
  apply List.ext_getElem?
  intro i
  rw [List.append_assoc]
  by_cases h1 : i < p
  · rw [List.getElem?_append_left (by simp; omega), List.getElem?_set_ne (by omega), List.getElem?_set_ne (by omega), List.getElem?_take_of_lt h1]
  · rw [List.getElem?_append_right (by simp; omega)]
    have hl : (B.take p).length = p := by simp; omega
    rw [hl]
    by_cases h2 : i = p
    · subst h2
      rw [List.getElem?_set_ne (by omega), List.getElem?_set_self (by omega)]
      simp
    · by_cases h3 : i = p + 1
      · subst h3
        rw [List.getElem?_set_self (by simp; omega)]
        simp
      · rw [List.getElem?_set_ne (by omega), List.getElem?_set_ne (by omega)]
        rw [List.getElem?_append_right (by simp; omega), List.getElem?_drop]
        congr 1
        simp; omega
theorem two_back (w : World) (x y : UInt8) (z1 z2 : Int) (h1 : z1 = (x.toNat : Int)) (h2 : z2 = (y.toNat : Int)) : (convert 47 9 (.slice (some ⟨w.heap.size, 0, none⟩) 2 2)).run Try.prog (w.alloc (.cells #[.int .u8 z1, .int .u8 z2] 5)).drew = .ok (.string ⟨#[x, y]⟩) (w.alloc (.cells #[.int .u8 z1, .int .u8 z2] 5)).drew :=
  run_convert_bytes_back (P := Try.prog) _ 47 9 5 ⟨w.heap.size, 0, none⟩ 2 [x, y] Try.underlying47 Try.underlying5 Try.underlying9 (fun j hj => by
    have hn := World.news_of_block (cs := #[.int .u8 z1, .int .u8 z2]) (t := 5) (fr := (0, 0)) (heap_alloc_new w _) j
    have hj2 : j < 2 := hj
    rcases (by omega : j = 0 ∨ j = 1) with rfl | rfl
    · rw [h1] at hn ⊢; exact hn _ rfl
    · rw [h2] at hn ⊢; exact hn _ rfl)
set_option maxRecDepth 100000 in
set_option maxHeartbeats 8000000 in
theorem rpatch_no (a : Int) (x : Nat) (ha : -9223372036854775808 ≤ a ∧ a ≤ 9223372036854775807) (S : Nat → Prop) (b : Nat) (B : Bs) (L : Kn) (w : World) (h : RK S b B L w) (hB : B.length ≤ 1000000) (g : ¬ PtOk B a) :
    Calls Try.prog 99 #[ptr b, .int .i64 a, .int .u16 (x : Int)] w fun e w' => e = .returned (.int .i64 1) ∧ w = w' := by
  obtain ⟨lv, hp⟩ := h
  have c0 := hp.blk.cell0
  obtain ⟨t, ht⟩ : ∃ t : ByteArray, t = ⟨B.toArray⟩ := ⟨_, rfl⟩
  have hts : t.size = B.length := by rw [size_list, ht]
  rw [show str B = .string t by rw [ht]] at c0
  unfold PtOk at g
  rw [← hts] at g hB
  clear hp ht hts
  have hni : (t.size : Int) ≤ 1000000 := by omega
  by_cases g1 : a < 0
  · go_enter Try.func99, Try.ntmps99
    go_wp2
    go_ret
    exact ⟨rfl, rfl⟩
  · have g2 : (t.size : Int) - 2 < a := by omega
    have g1' : decide (a < 0) = false := by simp; omega
    clear g
    go_enter Try.func99, Try.ntmps99
    go_wp2
    go_ret
    exact ⟨rfl, rfl⟩
set_option maxRecDepth 100000 in
set_option maxHeartbeats 8000000 in
theorem rpatch_yes (p x : Nat) (hx : x < 65536) (S : Nat → Prop) (b : Nat) (B : Bs) (L : Kn) (w : World) (h : RK S b B L w) (hB : B.length ≤ 1000000) (hp : p + 2 ≤ B.length) :
    Calls Try.prog 99 #[ptr b, .int .i64 (p : Int), .int .u16 (x : Int)] w fun e w' => e = .returned (.int .i64 0) ∧ RLft S b (ptc B p x) L w w' := by
  obtain ⟨lv, hv⟩ := h
  have c0 := hv.blk.cell0
  have f0 := hv.blk.frozen0
  have hbl := hv.blk.lt
  have hbn : b ≠ w.heap.size := by omega
  obtain ⟨t, ht⟩ : ∃ t : ByteArray, t = ⟨B.toArray⟩ := ⟨_, rfl⟩
  have htl : t.data.toList = B := by rw [ht]
  have hts : t.size = B.length := by rw [size_list, htl]
  rw [show str B = .string t by rw [ht]] at c0
  have HV := Lib.hid hv
  rw [← hts] at hB hp
  have q1 : decide ((p : Int) < 0) = false := by simp
  have q2 : decide ((t.size : Int) - 2 < (p : Int)) = false := by simp; omega
  have hti : (t.size : Int) ≤ 1000000 := by omega
  have hpi : (p : Int) ≤ 1000000 := by omega
  have hx1 : (x : Int) < 65536 := by omega
  have hback := two_back w (UInt8.ofNat (x / 256)) (UInt8.ofNat x) ((x : Int) / 256) ((x : Int) % 256) (by simp; omega) (by simp)
  have hs1 : ∀ w, (Instr.slice 9 (.string t) none (some (.int .i64 (p : Int))) none).run Try.prog w = .ok (str (B.take p)) w := fun w => by
    have h := run_slice_string_h (P := Try.prog) w 9 t Try.underlying9 .i64 (p : Int) (by omega) (by omega)
    rw [h, extract_piece t 0 (p : Int).toNat (by omega), htl]
    simp
  have hs2 : ∀ w, (Instr.slice 9 (.string t) (some (.int .i64 ((p : Int) + 2))) none none).run Try.prog w = .ok (str (B.drop (p + 2))) w := fun w => by
    have h := run_slice_string_l (P := Try.prog) w 9 t Try.underlying9 .i64 ((p : Int) + 2) (by omega) (by omega)
    rw [h, extract_piece t ((p : Int) + 2).toNat t.size (by omega), htl, show ((p : Int) + 2).toNat = p + 2 by omega, hts, List.take_of_length_le (by simp)]
  have ha1 : ∀ w, (Op.stringOp .add ⟨(B.take p).toArray⟩ ⟨#[UInt8.ofNat (x / 256), UInt8.ofNat x]⟩).run Try.prog w = .ok (str (B.take p ++ word x)) w := fun w => by
    rw [run_string_add_sum w _ _ (by rw [size_list]; show (B.take p).length + 2 ≤ _; simp; omega), show (⟨#[UInt8.ofNat (x / 256), UInt8.ofNat x]⟩ : ByteArray) = ⟨(word x).toArray⟩ from rfl, cat]
  have ha2 : ∀ w, (Op.stringOp .add ⟨(B.take p ++ word x).toArray⟩ ⟨(B.drop (p + 2)).toArray⟩).run Try.prog w = .ok (str (ptc B p x)) w := fun w => by
    rw [run_string_add_sum w _ _ (by rw [size_list, size_list]; simp [word]; omega), cat, ptc_parts (by omega)]
  have HTS := Lib.hid hts
  clear hv ht htl hts
  go_enter Try.func99, Try.ntmps99
  go_wp2
  go_region
  have A : Hid (RLft S b (ptc B p x) L w (((w.setCell ⟨b, 0, none⟩ (str (ptc B p x))).alloc (.cells #[.int .u8 ((x : Int) / 256), .int .u8 ((x : Int) % 256)] 5)).drew)) := Lib.hid ((HV.out.text (Below.refl _ _)).post (((Below.refl _ _).alloc (Nat.le_refl _) _).drew))
  clear hback hs1 hs2 ha1 ha2 c0 f0
  go_wp2
  go_ret
  exact ⟨rfl, A.out⟩
theorem rpatch_any (a : Int) (x : Nat) (ha : -9223372036854775808 ≤ a ∧ a ≤ 9223372036854775807) (hx : x < 65536) (S : Nat → Prop) (b : Nat) (B : Bs) (L : Kn) (w : World) (h : RK S b B L w) (hB : B.length ≤ 1000000) :
    Calls Try.prog 99 #[ptr b, .int .i64 a, .int .u16 (x : Int)] w fun e w' => e = .returned (.int .i64 (ptE B a)) ∧ RLft S b (ptB B a x) L w w' := by
  by_cases g : PtOk B a
  · unfold ptE ptB
    rw [if_pos g, if_pos g]
    obtain ⟨g1, g2⟩ := g
    obtain ⟨p, rfl⟩ := Int.eq_ofNat_of_zero_le g1
    rw [Int.toNat_natCast]
    exact rpatch_yes p x hx S b B L w h hB (by omega)
  · unfold ptE ptB
    rw [if_neg g, if_neg g]
    exact (rpatch_no a x ha S b B L w h hB g).mono fun e w' ⟨h1, h2⟩ => ⟨h1, h2 ▸ RLft.refl h⟩
end Go.Proofs.Ytljfkjbagebncaa
