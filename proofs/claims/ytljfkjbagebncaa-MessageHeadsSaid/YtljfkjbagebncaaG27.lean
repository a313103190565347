/-
  Chk: What is wrong with a message's questions and records. No older memory is changed.
-/
import Derived.Test.YtljfkjbagebncaaG22
import Derived.Test.YtljfkjbagebncaaG13

/- Chk -/
namespace Go.Proofs.Ytljfkjbagebncaa
open Go.RowKit
/-- The first error of a list. -/
def fe {T : Type} (f : T → Int) : List T → Int
  | [] => 0
  | x :: xs => if f x = 0 then fe f xs else f x
theorem fe_drop {T : Type} {f : T → Int} {xs : List T} {k : Nat} {x : T} (h : xs[k]? = some x) : fe f (xs.drop k) = if f x = 0 then fe f (xs.drop (k + 1)) else f x := by
  obtain ⟨hk, e⟩ := List.getElem?_eq_some_iff.1 h
  rw [List.drop_eq_getElem_cons hk, e]
  rfl
theorem fe_append {T : Type} (f : T → Int) (xs ys : List T) : fe f (xs ++ ys) = if fe f xs = 0 then fe f ys else fe f xs := by
  induction xs with
  | nil => simp [fe]
  | cons x xs ih =>
    show (if f x = 0 then fe f (xs ++ ys) else f x) = _
    by_cases h : f x = 0
    · rw [if_pos h, ih]; simp [fe, h]
    · rw [if_neg h]; simp [fe, h]
theorem fe_zero {T : Type} {f : T → Int} {xs : List T} (h : fe f xs = 0) : ∀ x ∈ xs, f x = 0 := by
  induction xs with
  | nil => intro x hx; cases hx
  | cons y ys ih =>
    intro x hx
    by_cases g : f y = 0
    · rcases List.mem_cons.1 hx with rfl | hx
      · exact g
      · exact ih (by simpa [fe, g] using h) x hx
    · simp [fe, g] at h
theorem fe_all {T : Type} {f : T → Int} {xs : List T} (h : ∀ x ∈ xs, f x = 0) : fe f xs = 0 := by
  induction xs with
  | nil => rfl
  | cons y ys ih => simp [fe, h y (by simp), ih fun x hx => h x (by simp [hx])]
structure Qn.Ok (q : Qn) : Prop where
  n : q.n.size ≤ 140737488351232
  t : q.t < 65536
  c : q.c < 65536
def qck (q : Qn) : Int := chk q.n.data.toList
set_option maxHeartbeats 1600000 in
theorem qcheck_any (q : Qn) (hq : q.n.size ≤ 140737488351232) (w : World) :
    Calls Try.prog 52 #[q.v] w fun e w' => e = .returned (.int .i64 (qck q)) ∧ Below w.heap.size w w' := by
  have hb := one_box w (.cells q.cells 44)
  have C := fun w => check_any q.n hq w
  unfold qck
  generalize chk q.n.data.toList = x at C ⊢
  obtain ⟨n, t, c⟩ := q
  have HB := Lib.hid hb
  have HC := Lib.hid C
  clear hb C
  go_enter Try.func52, Try.ntmps52
  go_wp2_with fail
  refine (HC.out _).mono ?_
  rintro e w1 ⟨rfl, hb1⟩
  go_wp2
  go_ret
  exact ⟨rfl, HB.out.trans (hb1.mono HB.out.size)⟩
set_option maxRecDepth 100000 in
set_option maxHeartbeats 3200000 in
theorem eachCheckQ_any (s : Sl) (qs : List Qn) (hok : ∀ q ∈ qs, q.n.size ≤ 140737488351232) (hlen : qs.length ≤ 1000000) (w : World) (h : RdQ w s qs) :
    Calls Try.prog 51 #[s.v, .func (.func 52) #[] #[]] w fun e w' => e = .returned (.int .i64 (fe qck qs)) ∧ Below w.heap.size w w' := by
  obtain ⟨E, hE⟩ : ∃ E, E = fe qck qs := ⟨_, rfl⟩
  rw [← hE]
  have HE : Hid (fe qck (qs.drop 0) = E) := Lib.hid (by rw [List.drop_zero, hE])
  have HL := Lib.hid h
  have HOK := Lib.hid hok
  clear h hok hE
  obtain ⟨sa, sn, sc⟩ := s
  show Calls Try.prog 51 #[.slice sa sn sc, .func (.func 52) #[] #[]] w _
  have hsn : sn = qs.length := HL.out.1
  have HSN := Lib.hid hsn
  have hsb : (sn : Int) ≤ 1000000 := by omega
  clear hsn hlen
  go_enter Try.func51, Try.ntmps51
  go_wp2
  go_loopw [10] (fun i wr => ∃ k : Nat, k ≤ sn ∧ i = .int .i64 k ∧ Below w.heap.size w wr ∧ fe qck (qs.drop k) = E) (fun i _ => sn - (intOf i).toNat)
  case atStart => exact ⟨0, by omega, rfl, Below.refl _ _, HE.out⟩
  case round =>
    obtain ⟨k, hk, rfl, hb, hD⟩ := hrel
    by_cases hlt : k < sn
    · have q1 : (k : Int) < (sn : Int) := by omega
      obtain ⟨q, hq⟩ : ∃ q, qs[k]? = some q := ⟨_, List.getElem?_eq_getElem (by rw [← HSN.out]; exact hlt)⟩
      obtain ⟨b, off, hsa, hbl, c0, c1, c2⟩ := HL.out.get hq
      simp only at hsa
      subst hsa
      have d0 := (hb.cell (p := ⟨b, off + k * 3, none⟩) hbl).trans c0
      have d1 := (hb.cell (p := ⟨b, off + k * 3 + 1, none⟩) hbl).trans c1
      have d2 := (hb.cell (p := ⟨b, off + k * 3 + 2, none⟩) hbl).trans c2
      have hsz := HOK.out q (List.mem_of_getElem? hq)
      rw [fe_drop hq] at hD
      have C := fun w => qcheck_any q hsz w
      generalize qck q = x at C hD
      obtain ⟨qn, qt, qc⟩ := q
      simp only at d0 d1 d2
      have HC := Lib.hid C
      have HB := Lib.hid hb
      have HD := Lib.hid hD
      have HB1 := Lib.hid (hb.alloc hb.size (.cells #[.string qn, .int .u16 (qt : Int), .int .u16 (qc : Int)] 44))
      clear c0 c1 c2 C hb hD hq hsz hbl
      go_wp2_with fail
      refine (HC.out _).mono ?_
      rintro e w2 ⟨rfl, hb2⟩
      have HB2 := Lib.hid (HB1.out.trans (hb2.mono HB1.out.size))
      clear hb2
      by_cases g : x = 0
      · subst g
        go_wp2
        go_roundw
        case rel => exact ⟨k + 1, by omega, by go_num, HB2.out, by simpa using HD.out⟩
        case measure => simp [intOf]; omega
      · have g' : (x == 0) = false := by simpa using g
        have HE2 : Hid (x = E) := Lib.hid (by have := HD.out; rwa [if_neg g] at this)
        clear g
        go_wp2
        go_ret
        refine ⟨?_, HB2.out⟩
        show Ending.returned (.int .i64 x) = _
        rw [HE2.out]
    · have q1 : decide ((k : Int) < (sn : Int)) = false := by simp; omega
      have HE2 : Hid (0 = E) := Lib.hid (by rw [List.drop_eq_nil_of_le (by rw [← HSN.out]; omega)] at hD; exact hD)
      have HB := Lib.hid hb
      clear hD hb
      go_wp2
      go_ret
      refine ⟨?_, HB.out⟩
      show Ending.returned (.int .i64 0) = _
      rw [HE2.out]
set_option maxRecDepth 100000 in
set_option maxHeartbeats 3200000 in
theorem eachCheckR_any (s : Sl) (qs : List Rc) (hok : ∀ q ∈ qs, q.Ok) (hlen : qs.length ≤ 1000000) (w : World) (h : RdR w s qs) :
    Calls Try.prog 54 #[s.v, .func (.func 55) #[] #[]] w fun e w' => e = .returned (.int .i64 (fe rck qs)) ∧ Below w.heap.size w w' := by
  obtain ⟨E, hE⟩ : ∃ E, E = fe rck qs := ⟨_, rfl⟩
  rw [← hE]
  have HE : Hid (fe rck (qs.drop 0) = E) := Lib.hid (by rw [List.drop_zero, hE])
  have HL := Lib.hid h
  have HOK := Lib.hid hok
  clear h hok hE
  obtain ⟨sa, sn, sc⟩ := s
  show Calls Try.prog 54 #[.slice sa sn sc, .func (.func 55) #[] #[]] w _
  have hsn : sn = qs.length := HL.out.1
  have HSN := Lib.hid hsn
  have hsb : (sn : Int) ≤ 1000000 := by omega
  clear hsn hlen
  go_enter Try.func54, Try.ntmps54
  go_wp2
  go_loopw [10] (fun i wr => ∃ k : Nat, k ≤ sn ∧ i = .int .i64 k ∧ Below w.heap.size w wr ∧ fe rck (qs.drop k) = E) (fun i _ => sn - (intOf i).toNat)
  case atStart => exact ⟨0, by omega, rfl, Below.refl _ _, HE.out⟩
  case round =>
    obtain ⟨k, hk, rfl, hb, hD⟩ := hrel
    by_cases hlt : k < sn
    · have q1 : (k : Int) < (sn : Int) := by omega
      obtain ⟨q, hq⟩ : ∃ q, qs[k]? = some q := ⟨_, List.getElem?_eq_getElem (by rw [← HSN.out]; exact hlt)⟩
      obtain ⟨b, off, hsa, hbl, c0, c1, c2, c3, c4⟩ := HL.out.get hq
      simp only at hsa
      subst hsa
      have d0 := (hb.cell (p := ⟨b, off + k * 5, none⟩) hbl).trans c0
      have d1 := (hb.cell (p := ⟨b, off + k * 5 + 1, none⟩) hbl).trans c1
      have d2 := (hb.cell (p := ⟨b, off + k * 5 + 2, none⟩) hbl).trans c2
      have d3 := (hb.cell (p := ⟨b, off + k * 5 + 3, none⟩) hbl).trans c3
      have d4 := (hb.cell (p := ⟨b, off + k * 5 + 4, none⟩) hbl).trans c4
      have hsz := HOK.out q (List.mem_of_getElem? hq)
      rw [fe_drop hq] at hD
      have C := fun w => rcheckrec_any q hsz w
      generalize rck q = x at C hD
      obtain ⟨qn, qt, qc, ql, qd⟩ := q
      simp only at d0 d1 d2 d3 d4
      have HC := Lib.hid C
      have HB := Lib.hid hb
      have HD := Lib.hid hD
      have HB1 := Lib.hid (hb.alloc hb.size (.cells #[.string qn, .int .u16 (qt : Int), .int .u16 (qc : Int), .int .u32 (ql : Int), .string qd] 61))
      clear c0 c1 c2 c3 c4 C hb hD hq hsz hbl
      go_wp2_with fail
      refine (HC.out _).mono ?_
      rintro e w2 ⟨rfl, hb2⟩
      have HB2 := Lib.hid (HB1.out.trans (hb2.mono HB1.out.size))
      clear hb2
      by_cases g : x = 0
      · subst g
        go_wp2
        go_roundw
        case rel => exact ⟨k + 1, by omega, by go_num, HB2.out, by simpa using HD.out⟩
        case measure => simp [intOf]; omega
      · have g' : (x == 0) = false := by simpa using g
        have HE2 : Hid (x = E) := Lib.hid (by have := HD.out; rwa [if_neg g] at this)
        clear g
        go_wp2
        go_ret
        refine ⟨?_, HB2.out⟩
        show Ending.returned (.int .i64 x) = _
        rw [HE2.out]
    · have q1 : decide ((k : Int) < (sn : Int)) = false := by simp; omega
      have HE2 : Hid (0 = E) := Lib.hid (by rw [List.drop_eq_nil_of_le (by rw [← HSN.out]; omega)] at hD; exact hD)
      have HB := Lib.hid hb
      clear hD hb
      go_wp2
      go_ret
      refine ⟨?_, HB.out⟩
      show Ending.returned (.int .i64 0) = _
      rw [HE2.out]
/-- What is so of a message that lies in memory. -/
structure Ms.Ok (m : Ms) : Prop where
  id : m.id < 65536
  op : -9223372036854775808 ≤ m.op ∧ m.op ≤ 9223372036854775807
  cd : -9223372036854775808 ≤ m.cd ∧ m.cd ≤ 9223372036854775807
  qs : ∀ q ∈ m.qs, q.Ok
  an : ∀ r ∈ m.an, r.Ok
  au : ∀ r ∈ m.au, r.Ok
  ex : ∀ r ∈ m.ex, r.Ok
  nq : m.qs.length ≤ 1000000
  na : m.an.length ≤ 1000000
  nu : m.au.length ≤ 1000000
  nx : m.ex.length ≤ 1000000
/-- The error behind the questions and so many lists. -/
def ek (e0 : Int) (an au ex : List Rc) : Nat → Int
  | 0 => e0
  | k + 1 => if ek e0 an au ex k = 0 then fe rck (sel an au ex k) else ek e0 an au ex k
def Ms.nf (m : Ms) : Bool := nfit m.op m.cd m.qs.length m.an.length m.au.length m.ex.length
def mck (m : Ms) : Int := if m.nf = true then ek (fe qck m.qs) m.an m.au m.ex 3 else 1
theorem Lay.sel {w : World} {m : Ms} {q x y z : Sl} (h : Lay w m q x y z) (k : Nat) : RdR w (sel x y z k) (sel m.an m.au m.ex k) := by
  unfold Go.Proofs.Ytljfkjbagebncaa.sel
  split
  · exact h.x
  · split
    · exact h.y
    · exact h.z
theorem Ms.Ok.sel {m : Ms} (h : m.Ok) (k : Nat) : (∀ r ∈ sel m.an m.au m.ex k, r.Ok) ∧ (sel m.an m.au m.ex k).length ≤ 1000000 := by
  unfold Go.Proofs.Ytljfkjbagebncaa.sel
  split
  · exact ⟨h.an, h.na⟩
  · split
    · exact ⟨h.au, h.nu⟩
    · exact ⟨h.ex, h.nx⟩
set_option maxRecDepth 100000 in
set_option maxHeartbeats 6400000 in
theorem mcheck_any (m : Ms) (hm : m.Ok) (q x y z : Sl) (w : World) (h : Lay w m q x y z) :
    Calls Try.prog 28 #[.agg (m.cells q x y z)] w fun e w' => e = .returned (.int .i64 (mck m)) ∧ Below w.heap.size w w' := by
  have hb0 := one_box w (.cells (m.cells q x y z) 26)
  have k0 := Ce.new w 26 (m.cells q x y z)
  have HC := Lib.hid (fun w => fits_any m.id m.r m.a m.t m.d m.v m.op m.cd q x y z w)
  have HN : Hid (nfit m.op m.cd q.n x.n y.n z.n = m.nf) := Lib.hid (by unfold Ms.nf; rw [h.q.1, h.x.1, h.y.1, h.z.1])
  have HO := Lib.hid (fun w => of_any m.id m.r m.a m.t m.d m.v m.op m.cd q x y z w)
  have HL := Lib.hid (h.below hb0)
  have HM := Lib.hid hm
  rw [HN.out] at HC
  have HMK : Hid (mck m = if m.nf = true then ek (fe qck m.qs) m.an m.au m.ex 3 else 1) := Lib.hid rfl
  generalize m.nf = N at HC HMK
  have HB0 := Lib.hid hb0
  have HK0 := Lib.hid k0
  clear hb0 k0 HN h hm
  go_enter Try.func28, Try.ntmps28
  go_wp2_with (first | (refine ld12 (.tmp 1) HK0.out rfl rfl rfl rfl ?_))
  refine (HC.out _).mono ?_
  rintro e w1 ⟨rfl, hb1⟩
  have HK1 := Lib.hid (HK0.out.below hb1)
  have HL1 := Lib.hid (HL.out.below hb1)
  have HB1 := Lib.hid (HB0.out.trans (hb1.mono HB0.out.size))
  clear hb1
  cases N
  · go_wp2
    go_ret
    exact ⟨by rw [HMK.out]; rfl, HB1.out⟩
  · obtain ⟨x0, x1, x2, x3, x4, x5, x6, x7, x8, x9, x10, x11⟩ := c12 HK1.out
    have HMK2 : Hid (mck m = ek (fe qck m.qs) m.an m.au m.ex 3) := Lib.hid (by rw [HMK.out]; rfl)
    clear x0 x1 x2 x3 x4 x5 x6 x7 x9 x10 x11 HMK
    go_wp2_with fail
    refine (eachCheckQ_any q m.qs (fun q hq => (HM.out.qs q hq).n) HM.out.nq w1 HL1.out.q).mono ?_
    rintro e w2 ⟨rfl, hb2⟩
    have HK2 := Lib.hid (HK1.out.below hb2)
    have HL2 := Lib.hid (HL1.out.below hb2)
    have HB2 := Lib.hid (HB1.out.trans (hb2.mono HB1.out.size))
    clear hb2 x8
    go_wp2_with (first | (refine ld12 (.tmp 1) HK2.out rfl rfl rfl rfl ?_))
    refine (HO.out _).mono ?_
    rintro e w3 ⟨rfl, hb3⟩
    have HL3 := Lib.hid (HL2.out.below hb3)
    have HB3 := Lib.hid (HB2.out.trans (hb3.mono HB2.out.size))
    clear hb3
    obtain ⟨e0, he0⟩ : ∃ e0, e0 = fe qck m.qs := ⟨_, rfl⟩
    rw [← he0] at HMK2 ⊢
    go_wp2
    go_loopw [3, 14] (fun v i wr => ∃ k : Nat, k ≤ 3 ∧ i = .int .i64 k ∧ v = .int .i64 (ek e0 m.an m.au m.ex k) ∧ Below w.heap.size w wr ∧ Lay wr m q x y z) (fun _ i _ => 3 - (intOf i).toNat)
    case atStart => exact ⟨0, by omega, rfl, by first | rfl | (rw [he0]; rfl), HB3.out, HL3.out⟩
    case round =>
      clear HB3 HL3 HL2 HL1 HB1 HB2
      obtain ⟨k, hk, rfl, rfl, hb, hl⟩ := hrel
      by_cases hlt : k < 3
      · have q1 : (k : Int) < 3 := by omega
        have hix := fun w => idx3 x y z k hlt w
        have HS := Lib.hid (hl.sel k)
        have HSO := Lib.hid (HM.out.sel k)
        have HE : Hid (ek e0 m.an m.au m.ex (k + 1) = if ek e0 m.an m.au m.ex k = 0 then fe rck (sel m.an m.au m.ex k) else ek e0 m.an m.au m.ex k) := Lib.hid rfl
        have HB := Lib.hid hb
        have HLr := Lib.hid hl
        generalize sel x y z k = s at hix HS
        generalize sel m.an m.au m.ex k = rs at HS HSO HE
        generalize ek e0 m.an m.au m.ex k = E at HE ⊢
        clear hb hl
        by_cases g : E = 0
        · subst g
          go_wp2_with fail
          refine (eachCheckR_any s rs HSO.out.1 HSO.out.2 wr HS.out).mono ?_
          rintro e w4 ⟨rfl, hb4⟩
          have HB4 := Lib.hid (HB.out.trans (hb4.mono HB.out.size))
          have HL4 := Lib.hid (HLr.out.below hb4)
          clear hb4
          go_wp2
          go_roundw
          case rel => exact ⟨k + 1, by omega, by go_num, by rw [HE.out]; rfl, HB4.out, HL4.out⟩
          case measure => simp [intOf]; omega
        · have g' : (E == 0) = false := by simpa using g
          have HE2 : Hid (E = ek e0 m.an m.au m.ex (k + 1)) := Lib.hid (by rw [HE.out, if_neg g])
          clear g
          go_wp2
          go_roundw
          case rel => exact ⟨k + 1, by omega, by go_num, by rw [← HE2.out], HB.out, HLr.out⟩
          case measure => simp [intOf]; omega
      · obtain rfl : k = 3 := by omega
        have HB := Lib.hid hb
        clear hb hl
        go_wp2
        go_ret
        exact ⟨by rw [HMK2.out]; rfl, HB.out⟩
end Go.Proofs.Ytljfkjbagebncaa
