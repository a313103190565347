/-
  What a call of the reader of labels answers, for every text and place; no older memory is changed.
-/
import Derived.Test.YtflpceaaelampaaFollow
namespace Go.Proofs.Ytflpceaaelampaa
open Go.RowKit
theorem piS_one {l : Bs} {p : Nat} (h : p < l.length) : piS l (p : Int) 1 = [l.getD p 0] := by
  rw [(pi_yes (piE_yes (by omega) (by omega) (by omega))).1]
  have e : ((1 : Int)).toNat = 1 := rfl
  rw [Int.toNat_natCast, e, List.drop_eq_getElem_cons h, List.take_succ_cons, List.take_zero]
  simp [h]
theorem piS_two {l : Bs} {p : Nat} (h : p + 1 < l.length) : piS l (p : Int) 2 = [l.getD p 0, l.getD (p + 1) 0] := by
  rw [(pi_yes (piE_yes (by omega) (by omega) (by omega))).1]
  have e : ((2 : Int)).toNat = 2 := rfl
  rw [Int.toNat_natCast, e, List.drop_eq_getElem_cons (by omega), List.drop_eq_getElem_cons h, List.take_succ_cons, List.take_succ_cons, List.take_zero]
  simp [h, show p < l.length by omega]
theorem numB_one (c : UInt8) : numB [c] = c.toNat := by simp [numB]
theorem numB_two (c d : UInt8) : numB [c, d] = c.toNat * 256 + d.toNat := by simp [numB]
theorem drewN_below (w : World) (n : Nat) : Below w.heap.size w (w.drewN n) := ⟨rfl, rfl, rfl, Nat.le_refl _, fun _ _ => rfl⟩
theorem Tr.drewN {S : Nat → Prop} {a w : World} (h : Tr S a w) (n : Nat) : Tr S a (w.drewN n) :=
  h.then (Tr.of_below (drewN_below w n))
/-- The place from which reading goes on is ahead of the one before. -/
def Ahead (p st p' st' : Nat) : Prop := (st' = st ∧ p' = p) ∨ st' < st
def NxPost (s : ByteArray) (p st : Nat) (aft : Option Nat) (b0 b1 b2 b3 b4 : Nat) (e : Ending) (w' : World) : Prop :=
  (e = .returned (.tuple #[.string ⟨#[]⟩, .int .i64 0, .int .i64 10]) ∧ ∀ acc, nm s.data.toList p st aft acc = ([], 0, 10)) ∨
  (∃ (p' st' : Nat) (aft' : Option Nat) (c : Nat), e = .returned (.tuple #[str ((s.data.toList.drop p').take (1 + c)), .int .i64 ((aft'.getD (p' + 1 + c) : Nat) : Int), .int .i64 0]) ∧
    p' < s.data.toList.length ∧ (s.data.toList.getD p' 0).toNat = c ∧ c ≤ 63 ∧ p' + 1 + c ≤ s.data.toList.length ∧
    Sq w' b0 b1 b2 b3 b4 s ((p' + 1 + c : Nat) : Int) (st' : Int) aft'.isSome ((aft'.getD (p' + 1 + c) : Nat) : Int) ∧
    (∀ acc, nm s.data.toList p st aft acc = nm s.data.toList p' st' aft' acc) ∧ Ahead p st p' st')
def NxP (s : ByteArray) (p st : Nat) (aft : Option Nat) (b0 b1 b2 b3 b4 : Nat) (w : World) (e : Ending) (w' : World) : Prop :=
  NxPost s p st aft b0 b1 b2 b3 b4 e w' ∧ Tr (SqB b1 b2 b3 b4) w w'
/-- What the loop of a call knows. -/
def NxI (s : ByteArray) (p0 st0 : Nat) (aft0 : Option Nat) (b0 b1 b2 b3 b4 : Nat) (w : World) (p st : Nat) (aft : Option Nat) (wr : World) : Prop :=
  Sq wr b0 b1 b2 b3 b4 s (p : Int) (st : Int) aft.isSome ((aft.getD p : Nat) : Int) ∧ (∀ acc, nm s.data.toList p0 st0 aft0 acc = nm s.data.toList p st aft acc) ∧ Ahead p0 st0 p st ∧ Tr (SqB b1 b2 b3 b4) w wr ∧ (p : Int) ≤ 9223372036854775807
theorem Sq.at {w : World} {b0 b1 b2 b3 b4 : Nat} {s : ByteArray} {p st : Int} {pd : Bool} {af : Int} (h : Sq w b0 b1 b2 b3 b4 s p st pd af) (v : Int) : Sq (w.setCell ⟨b1, 0, none⟩ (.int .i64 v)) b0 b1 b2 b3 b4 s v st pd af :=
  ⟨h.c0.other h.d.1 _, h.c1.set _, h.c2.other h.d.2.2.2.2.1.symm _, h.c3.other h.d.2.2.2.2.2.1.symm _, h.c4.other h.d.2.2.2.2.2.2.1.symm _, h.d⟩
theorem Sq.start {w : World} {b0 b1 b2 b3 b4 : Nat} {s : ByteArray} {p st : Int} {pd : Bool} {af : Int} (h : Sq w b0 b1 b2 b3 b4 s p st pd af) (v : Int) : Sq (w.setCell ⟨b2, 0, none⟩ (.int .i64 v)) b0 b1 b2 b3 b4 s p v pd af :=
  ⟨h.c0.other h.d.2.1 _, h.c1.other h.d.2.2.2.2.1 _, h.c2.set _, h.c3.other h.d.2.2.2.2.2.2.2.1.symm _, h.c4.other h.d.2.2.2.2.2.2.2.2.1.symm _, h.d⟩
theorem Sq.pointed {w : World} {b0 b1 b2 b3 b4 : Nat} {s : ByteArray} {p st : Int} {pd : Bool} {af : Int} (h : Sq w b0 b1 b2 b3 b4 s p st pd af) (v : Bool) : Sq (w.setCell ⟨b3, 0, none⟩ (.bool v)) b0 b1 b2 b3 b4 s p st v af :=
  ⟨h.c0.other h.d.2.2.1 _, h.c1.other h.d.2.2.2.2.2.1 _, h.c2.other h.d.2.2.2.2.2.2.2.1 _, h.c3.set _, h.c4.other h.d.2.2.2.2.2.2.2.2.2.symm _, h.d⟩
theorem Sq.after {w : World} {b0 b1 b2 b3 b4 : Nat} {s : ByteArray} {p st : Int} {pd : Bool} {af : Int} (h : Sq w b0 b1 b2 b3 b4 s p st pd af) (v : Int) : Sq (w.setCell ⟨b4, 0, none⟩ (.int .i64 v)) b0 b1 b2 b3 b4 s p st pd v :=
  ⟨h.c0.other h.d.2.2.2.1 _, h.c1.other h.d.2.2.2.2.2.2.1 _, h.c2.other h.d.2.2.2.2.2.2.2.2.1 _, h.c3.other h.d.2.2.2.2.2.2.2.2.2 _, h.c4.set _, h.d⟩
theorem Sq.below {w w' : World} {b0 b1 b2 b3 b4 : Nat} {s : ByteArray} {p st : Int} {pd : Bool} {af : Int} (h : Sq w b0 b1 b2 b3 b4 s p st pd af) (hb : Below w.heap.size w w') : Sq w' b0 b1 b2 b3 b4 s p st pd af :=
  ⟨(hb.block _ h.c0.lt).trans h.c0, (hb.block _ h.c1.lt).trans h.c1, (hb.block _ h.c2.lt).trans h.c2, (hb.block _ h.c3.lt).trans h.c3, (hb.block _ h.c4.lt).trans h.c4, h.d⟩
theorem Sq.drewN {w : World} {b0 b1 b2 b3 b4 : Nat} {s : ByteArray} {p st : Int} {pd : Bool} {af : Int} (h : Sq w b0 b1 b2 b3 b4 s p st pd af) (n : Nat) : Sq (w.drewN n) b0 b1 b2 b3 b4 s p st pd af := h.below (drewN_below w n)
theorem sqB1 (b1 b2 b3 b4 : Nat) : SqB b1 b2 b3 b4 b1 := .inl rfl
theorem sqB2 (b1 b2 b3 b4 : Nat) : SqB b1 b2 b3 b4 b2 := .inr (.inl rfl)
theorem sqB3 (b1 b2 b3 b4 : Nat) : SqB b1 b2 b3 b4 b3 := .inr (.inr (.inl rfl))
theorem sqB4 (b1 b2 b3 b4 : Nat) : SqB b1 b2 b3 b4 b4 := .inr (.inr (.inr rfl))
theorem nx_err {s : ByteArray} {p0 st0 : Nat} {aft0 : Option Nat} {b0 b1 b2 b3 b4 : Nat} {w : World} {p st : Nat} {aft : Option Nat} {wr wr' : World} (h : NxI s p0 st0 aft0 b0 b1 b2 b3 b4 w p st aft wr) (hb : Below wr.heap.size wr wr')
    (he : ∀ acc, nm s.data.toList p st aft acc = ([], 0, 10)) : NxP s p0 st0 aft0 b0 b1 b2 b3 b4 w (.returned (.tuple #[.string ⟨#[]⟩, .int .i64 0, .int .i64 10])) wr' :=
  ⟨.inl ⟨rfl, fun acc => (h.2.1 acc).trans (he acc)⟩, h.2.2.2.1.then (Tr.of_below hb)⟩
theorem Sq.cast {w : World} {b0 b1 b2 b3 b4 : Nat} {s : ByteArray} {p st p' st' : Int} {pd pd' : Bool} {af af' : Int} (h : Sq w b0 b1 b2 b3 b4 s p st pd af) (e1 : p = p') (e2 : st = st') (e3 : pd = pd') (e4 : af = af') : Sq w b0 b1 b2 b3 b4 s p' st' pd' af' := by
  subst e1 e2 e3 e4; exact h
theorem mark_mod (c d : Nat) (h : 192 ≤ c) (h2 : c < 256) (h3 : d < 256) : (c * 256 + d) % 16384 = (c - 192) * 256 + d := by omega
theorem two_mod {l : Bs} {p : Nat} (h : p + 1 < l.length) (hc : 192 ≤ (l.getD p 0).toNat) : numB (piS l p 2) % 16384 = ((l.getD p 0).toNat - 192) * 256 + (l.getD (p + 1) 0).toNat := by
  rw [piS_two h, numB_two, mark_mod _ _ hc (UInt8.toNat_lt _) (UInt8.toNat_lt _)]
theorem nm_nofollow {l : Bs} {p st : Nat} (hl : p < l.length) (hc : 192 ≤ (l.getD p 0).toNat) (h : ¬ (p + 1 < l.length ∧ numB (piS l p 2) % 16384 < st)) (aft : Option Nat) (acc : Bs) : nm l p st aft acc = ([], 0, 10) := by
  by_cases h1 : p + 1 < l.length
  · exact nm_far _ _ _ _ _ hl hc h1 (by rw [← two_mod h1 hc]; exact fun h2 => h ⟨h1, h2⟩)
  · exact nm_short _ _ _ _ _ hl hc h1
theorem nm_follow {l : Bs} {p st t : Nat} (hc : 192 ≤ (l.getD p 0).toNat) (h1 : p + 1 < l.length) (ht : numB (piS l p 2) % 16384 = t) (h2 : t < st) (aft : Option Nat) (acc : Bs) : nm l p st aft acc = nm l t t (some (aft.getD (p + 2))) acc :=
  nm_ptr _ _ _ _ _ (by omega) hc h1 t (by rw [← two_mod h1 hc]; exact ht) h2
theorem get_at (s : ByteArray) (p : Nat) (h : p < s.size) : s[p].toNat = (s.data.toList.getD p 0).toNat := by
  rw [get_list s p h, List.getD_eq_getElem?_getD, List.getElem?_eq_getElem (by rw [← size_list]; exact h)]; rfl
theorem ahead_lt {p0 st0 p st t : Nat} (h : Ahead p0 st0 p st) (h2 : t < st) : Ahead p0 st0 t t := by
  rcases h with ⟨rfl, _⟩ | h
  · exact .inr h2
  · exact .inr (by omega)
theorem nx_ptr {s : ByteArray} {p0 st0 : Nat} {aft0 : Option Nat} {b0 b1 b2 b3 b4 : Nat} {w : World} {p st t : Nat} {aft : Option Nat} {wr wr' : World} (h : NxI s p0 st0 aft0 b0 b1 b2 b3 b4 w p st aft wr)
    (hc : 192 ≤ (s.data.toList.getD p 0).toNat) (h1 : p + 1 < s.data.toList.length) (ht : numB (piS s.data.toList p 2) % 16384 = t) (h2 : t < st) (hq : Sq wr' b0 b1 b2 b3 b4 s (t : Int) (t : Int) true ((aft.getD (p + 2) : Nat) : Int)) (hT : Tr (SqB b1 b2 b3 b4) wr wr') :
    NxI s p0 st0 aft0 b0 b1 b2 b3 b4 w t t (some (aft.getD (p + 2))) wr' :=
  ⟨hq, fun acc => (h.2.1 acc).trans (nm_follow hc h1 ht h2 aft acc), ahead_lt h.2.2.1 h2, h.2.2.2.1.then hT, by omega⟩
theorem nx_lab {s : ByteArray} {p0 st0 : Nat} {aft0 : Option Nat} {b0 b1 b2 b3 b4 : Nat} {w : World} {p st c : Nat} {aft : Option Nat} {wr wr' : World} (h : NxI s p0 st0 aft0 b0 b1 b2 b3 b4 w p st aft wr)
    (hl : p < s.data.toList.length) (hc : c = (s.data.toList.getD p 0).toNat) (h1 : c ≤ 63) (h2 : p + 1 + c ≤ s.data.toList.length) {v : Int} (hv : v = ((aft.getD (p + 1 + c) : Nat) : Int)) (hq : Sq wr' b0 b1 b2 b3 b4 s ((p + 1 + c : Nat) : Int) (st : Int) aft.isSome v) (hT : Tr (SqB b1 b2 b3 b4) wr wr') :
    NxP s p0 st0 aft0 b0 b1 b2 b3 b4 w (.returned (.tuple #[str ((s.data.toList.drop p).take (1 + c)), .int .i64 v, .int .i64 0])) wr' := by
  subst hv
  exact ⟨.inr ⟨p, st, aft, c, rfl, hl, hc.symm, h1, h2, hq, h.2.1, h.2.2.1⟩, h.2.2.2.1.then hT⟩
set_option maxRecDepth 100000 in
set_option maxHeartbeats 8000000 in
theorem next_any (s : ByteArray) (hs : s.size ≤ 140737488351232) (p0 st0 : Nat) (aft0 : Option Nat) (b0 b1 b2 b3 b4 : Nat) (w : World)
    (h : Sq w b0 b1 b2 b3 b4 s (p0 : Int) (st0 : Int) aft0.isSome ((aft0.getD p0 : Nat) : Int)) (hp0 : (p0 : Int) ≤ 9223372036854775807) :
    Calls Try.prog 83 #[ptr b0, ptr b1, ptr b2, ptr b3, ptr b4] w (NxP s p0 st0 aft0 b0 b1 b2 b3 b4 w) := by
  have H := Lib.hid h
  clear h
  go_enter Try.func83, Try.ntmps83
  go_wp2
  go_loopg [8] st0 (fun gk _ wr => ∃ (p st : Nat) (aft : Option Nat), st = gk ∧ NxI s p0 st0 aft0 b0 b1 b2 b3 b4 w p st aft wr)
  case atStart => exact ⟨p0, st0, aft0, rfl, H.out, fun _ => rfl, .inl ⟨rfl, rfl⟩, Tr.refl _ _, hp0⟩
  case round =>
    obtain ⟨p, st, aft, rfl, hI⟩ := hrel
    have hq := hI.1
    have hpb := hI.2.2.2.2
    have HI := Lib.hid hI
    have HS := Lib.hid (size_list s)
    have c0 := hq.c0.cell
    have c1 := hq.c1.cell
    have c2 := hq.c2.cell
    have c3 := hq.c3.cell
    have c4 := hq.c4.cell
    have f1 := hq.c1.frozen
    have f2 := hq.c2.frozen
    have f3 := hq.c3.frozen
    have f4 := hq.c4.frozen
    obtain ⟨d01, d02, d03, d04, d12, d13, d14, d23, d24, d34⟩ := hq.d
    clear hq hI
    by_cases hlt : p < s.size
    · have hl : p < s.data.toList.length := by rw [← HS.out]; exact hlt
      have C := byte_any s hs (p : Int) (by omega) wr
      obtain ⟨e1, e2, e3⟩ := pi_yes (s := s.data.toList) (piE_yes (a := (p : Int)) (n := 1) (by omega) (by omega) (by omega))
      unfold nuV at C
      rw [piS_one hl, numB_one, e2, e3] at C
      obtain ⟨c, hc⟩ : ∃ c, c = (s.data.toList.getD p 0).toNat := ⟨_, rfl⟩
      have hc8 : c < 256 := by rw [hc]; exact UInt8.toNat_lt _
      have hc8' : (c : Int) < 256 := by omega
      rw [← hc] at C
      have HC := Lib.hid C
      have HCC := Lib.hid hc
      have HL := Lib.hid hl
      clear C e1 e2 e3 hc hl
      by_cases g : 192 ≤ c
      · have q1 : decide ((c : Int) < 192) = false := by simp; omega
        by_cases hf : p + 1 < s.size ∧ numB (piS s.data.toList p 2) % 16384 < st
        · obtain ⟨hf1, hf2⟩ := hf
          obtain ⟨t, ht⟩ : ∃ t, numB (piS s.data.toList p 2) % 16384 = t := ⟨_, rfl⟩
          rw [ht] at hf2
          have HT := Lib.hid ht
          clear ht
          have ht1 : (t : Int) < 16384 := by have := HT.out; omega
          cases aft with
          | none =>
            go_wp2_with fail
            refine HC.out.mono ?_
            rintro e w' ⟨rfl, rfl⟩
            go_wp2_with (go_at_call 85; refine (follow_yes s hs p st t hf1 HT.out hf2 _).mono ?_; rintro e w' ⟨rfl, rfl⟩)
            go_roundg t
            case measure => exact hf2
            case rel => exact ⟨t, t, _, rfl, nx_ptr HI.out (by rw [← HCC.out]; exact g) (by rw [← HS.out]; exact hf1) HT.out hf2 (((((HI.out.1.after _).pointed _).at _).start _).cast rfl rfl rfl (by simp)) ((((Tr.refl _ _).setCell (.inl (sqB4 b1 b2 b3 b4)) _).setCell (.inl (sqB3 b1 b2 b3 b4)) _).setCell (.inl (sqB1 b1 b2 b3 b4)) _ |>.setCell (.inl (sqB2 b1 b2 b3 b4)) _)⟩
          | some q =>
            go_wp2_with fail
            refine HC.out.mono ?_
            rintro e w' ⟨rfl, rfl⟩
            go_wp2_with (go_at_call 85; refine (follow_yes s hs p st t hf1 HT.out hf2 _).mono ?_; rintro e w' ⟨rfl, rfl⟩)
            go_roundg t
            case measure => exact hf2
            case rel => exact ⟨t, t, _, rfl, nx_ptr HI.out (by rw [← HCC.out]; exact g) (by rw [← HS.out]; exact hf1) HT.out hf2 (((HI.out.1.at _).start _).cast rfl rfl rfl (by simp)) (((Tr.refl _ _).setCell (.inl (sqB1 b1 b2 b3 b4)) _).setCell (.inl (sqB2 b1 b2 b3 b4)) _)⟩
        · have HF := Lib.hid hf
          clear hf
          go_wp2_with fail
          refine HC.out.mono ?_
          rintro e w' ⟨rfl, rfl⟩
          go_wp2_with (go_at_call 85; refine (follow_no s hs p st (by omega) HF.out _).mono ?_; rintro e w' ⟨rfl, rfl⟩)
          go_ret3
          refine nx_err HI.out (Below.refl _ _) (fun acc => ?_)
          exact nm_nofollow HL.out (by rw [← HCC.out]; exact g) (by rw [← HS.out]; exact HF.out) _ _
      · have q1 : (c : Int) < 192 := by omega
        have hsp := get_at s p hlt
        rw [← HCC.out] at hsp
        by_cases g2 : 63 < c
        · have q2 : (63 : Int) < (c : Int) := by omega
          go_wp2_with fail
          refine HC.out.mono ?_
          rintro e w' ⟨rfl, rfl⟩
          go_wp2
          go_ret3
          refine nx_err HI.out (Below.refl _ _) (fun acc => ?_)
          exact nm_odd _ _ _ _ _ HL.out (by rw [← HCC.out]; omega) (by rw [← HCC.out]; omega)
        · have q2 : decide ((63 : Int) < (c : Int)) = false := by simp; omega
          have x1 : IntKind.i64.wrap (1 + (c : Int)) = 1 + (c : Int) := IntWalk.i64_in _ (by omega)
          by_cases g3 : p + 1 + c ≤ s.size
          · obtain ⟨e1, e2, e3⟩ := pi_yes (s := s.data.toList) (piE_yes (a := (p : Int)) (n := 1 + (c : Int)) (by omega) (by omega) (by have := HS.out; omega))
            have C2 := fun w => piece_any s hs (p : Int) (1 + (c : Int)) (by omega) (by omega) w
            unfold pcV at C2
            rw [e1, e2, e3, Int.toNat_natCast, show (1 + (c : Int)).toNat = 1 + c by omega] at C2
            have HC2 := Lib.hid C2
            clear C2 e1 e2 e3
            cases aft with
            | none =>
              go_wp2_with fail
              refine HC.out.mono ?_
              rintro e w' ⟨rfl, rfl⟩
              go_wp2
              go_quiet ((go_at_call 64; exact Calls.quiet_of_same ((HC2.out _).mono fun _ _ h => ⟨h.1, h.2.symm⟩)))
              go_wp2
              go_quiet (fail)
              go_wp2
              go_ret3
              exact nx_lab HI.out HL.out HCC.out (by omega) (by rw [← HS.out]; exact g3) (by simp; omega) ((((HI.out.1.drewN _).at _).after _).drewN _ |>.cast (by omega) rfl rfl rfl) ((((Tr.refl _ _).drewN _).setCell (.inl (sqB1 b1 b2 b3 b4)) _).setCell (.inl (sqB4 b1 b2 b3 b4)) _ |>.drewN _)
            | some q =>
              go_wp2_with fail
              refine HC.out.mono ?_
              rintro e w' ⟨rfl, rfl⟩
              go_wp2
              go_quiet ((go_at_call 64; exact Calls.quiet_of_same ((HC2.out _).mono fun _ _ h => ⟨h.1, h.2.symm⟩)))
              go_wp2
              go_quiet (fail)
              go_wp2
              go_ret3
              exact nx_lab HI.out HL.out HCC.out (by omega) (by rw [← HS.out]; exact g3) rfl (((HI.out.1.drewN _).at _).drewN _ |>.cast (by omega) rfl rfl rfl) (((Tr.refl _ _).drewN _).setCell (.inl (sqB1 b1 b2 b3 b4)) _ |>.drewN _)
          · obtain ⟨e1, e2, e3⟩ := pi_no (s := s.data.toList) (a := (p : Int)) (n := 1 + (c : Int)) (piE_no (by have := HS.out; omega))
            have C2 := fun w => piece_any s hs (p : Int) (1 + (c : Int)) (by omega) (by omega) w
            unfold pcV at C2
            rw [e1, e2, e3] at C2
            have HC2 := Lib.hid C2
            clear C2 e1 e2 e3
            go_wp2_with fail
            refine HC.out.mono ?_
            rintro e w' ⟨rfl, rfl⟩
            go_wp2
            go_quiet ((go_at_call 64; exact Calls.quiet_of_same ((HC2.out _).mono fun _ _ h => ⟨h.1, h.2.symm⟩)))
            go_wp2
            go_ret3
            refine nx_err HI.out (drewN_below _ _) (fun acc => ?_)
            exact nm_cut _ _ _ _ _ HL.out (by rw [← HCC.out]; omega) (by rw [← HCC.out]; omega) (by rw [← HCC.out, ← HS.out]; exact g3)
    · have C := byte_any s hs (p : Int) (by omega) wr
      obtain ⟨e1, e2, e3⟩ := pi_no (s := s.data.toList) (a := (p : Int)) (n := 1) (piE_no (by rw [← HS.out]; omega))
      unfold nuV at C
      rw [e1, e2, e3] at C
      have HC := Lib.hid C
      clear C e1 e2 e3
      go_wp2_with fail
      refine HC.out.mono ?_
      rintro e w' ⟨rfl, rfl⟩
      rw [show numB [] = 0 from rfl]
      go_wp2
      go_ret3
      exact nx_err HI.out (Below.refl _ _) (fun acc => nm_end _ _ _ _ _ (by rw [← HS.out]; exact hlt))
end Go.Proofs.Ytflpceaaelampaa
