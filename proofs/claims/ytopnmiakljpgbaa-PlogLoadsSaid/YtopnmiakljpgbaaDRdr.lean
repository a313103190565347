/-
  The document's reader.
-/
import Derived.Test.YtopnmiakljpgbaaRight
namespace Go.Proofs.Ytopnmiakljpgbaa
open Go.RowKit
def Dr (w : World) (B : Nat) (s : Option Bs) : Prop := ∃ (bad : Bool) (r : Bs), Ce w B 88 #[str r, .bool bad] ∧ (match s with | some q => bad = false ∧ r = q | none => bad = true) ∧ r.length ≤ 1000000
def BytD (s : Option Bs) (k : Int) (b : Bs) (s' : Option Bs) : Prop := match s with | some r => (if 0 ≤ k ∧ k ≤ r.length then b = r.take k.toNat ∧ s' = some (r.drop k.toNat) else b = [] ∧ s' = none) | none => s' = none
theorem Dr.below {w w' : World} {B : Nat} {s : Option Bs} (h : Dr w B s) (hb : Below w.heap.size w w') : Dr w' B s := by
  obtain ⟨ok, r, h1, h4, h5⟩ := h
  exact ⟨ok, r, h1.below hb, h4, h5⟩
theorem Dr.lt {w : World} {B : Nat} {s : Option Bs} (h : Dr w B s) : B < w.heap.size := by
  obtain ⟨ok, r, h1, _⟩ := h
  exact h1.lt
theorem Dr.set {w : World} {B H i : Nat} {s : Option Bs} (h : Dr w B s) (hH : H < B) (v : Value) : Dr (w.setCell ⟨H, i, none⟩ v) B s := by
  obtain ⟨ok, r, h1, h4, h5⟩ := h
  exact ⟨ok, r, h1.other (by omega) v, h4, h5⟩
theorem c2' {w : World} {n : Nat} {T : TypeId} {v0 v1 : Value} (h : Ce w n T #[v0, v1]) : w.cell? ⟨n, 0, none⟩ = some v0 ∧ w.cell? ⟨n, 1, none⟩ = some v1 := by
  refine ⟨?_, ?_⟩ <;> (rw [h.cell]; rfl)
theorem grown_set (w : World) (B i : Nat) (v : Value) : w.grownBy (w.setCell ⟨B, i, none⟩ v) (some B) :=
  ⟨rfl, rfl, rfl, by simp, fun k _ hk => heap_setCell_other w ⟨B, i, none⟩ k v (fun e => hk (congrArg some e))⟩
theorem grown_trans {a b c : World} {r : Option Nat} (h : a.grownBy b r) (k : b.grownBy c r) : a.grownBy c r :=
  ⟨k.os.trans h.os, k.tape.trans h.tape, k.output.trans h.output, Nat.le_trans h.size k.size, fun i hi hr => (k.block i (Nat.lt_of_lt_of_le hi h.size) hr).trans (h.block i hi hr)⟩
set_option maxRecDepth 100000 in
set_option maxHeartbeats 3200000 in
theorem take_any {w : World} {B : Nat} {s : Option Bs} (h : Dr w B s) (k : Int) :
    Calls Try.prog 61 #[ptr B, it k] w fun e w' => ∃ b s', e = .returned (str b) ∧ Dr w' B s' ∧ Below B w w' ∧ b.length ≤ 1000000 ∧ BytD s k b s' ∧ (b = [] ∨ (b.length : Int) = k) ∧ w.grownBy w' (some B) := by
  obtain ⟨bad, r, h1, h4, h5⟩ := h
  obtain ⟨k1, k2⟩ := c2' h1
  have j1 : w.frozen? ⟨B, 0, none⟩ = false := h1.frozen 0
  have j2 : w.frozen? ⟨B, 1, none⟩ = false := h1.frozen 1
  have hz := ba_len' r
  obtain ⟨R, hR⟩ : ∃ R : ByteArray, R = ⟨r.toArray⟩ := ⟨_, rfl⟩
  have HSET := Lib.hid (show ∀ x : Bool, Ce (w.setCell ⟨B, 1, none⟩ (.bool x)) B 88 #[str r, .bool x] from fun x => h1.set (.bool x) (i := 1))
  have HCE := Lib.hid h1
  unfold str at k1
  rw [← hR] at k1 hz
  have HZ := Lib.hid hz
  have HR := Lib.hid hR
  have hB1 : Hid (∀ x v, Below B w (w.setCell ⟨B, x, none⟩ v)) := Lib.hid (fun x v => (Below.refl _ _).setCell (p := ⟨B, x, none⟩) (Nat.le_refl _) v)
  have HS4 := Lib.hid h4
  clear h1 hR hz h4
  by_cases hk : k < 0
  · have HBY : Hid (BytD s k [] none) := Lib.hid (by
      unfold BytD
      cases s with
      | none => rfl
      | some q => exact (if_neg (by omega)).mpr ⟨rfl, rfl⟩)
    go_enter Try.func61, Try.ntmps61
    go_wp2
    go_ret
    exact ⟨[], none, rfl, ⟨true, r, HSET.out _, rfl, h5⟩, hB1.out _ _, by simp, HBY.out, .inl rfl, grown_set _ _ _ _⟩
  · have p1 : decide (k < 0) = false := decide_eq_false hk
    obtain ⟨kn, rfl⟩ := Int.eq_ofNat_of_zero_le (by omega : 0 ≤ k)
    by_cases hl : kn ≤ r.length
    · have q1 : decide ((R.size : Int) < ((kn : Nat) : Int)) = false := decide_eq_false (by have := HZ.out; omega)
      have q2 : decide (R.size < kn) = false := decide_eq_false (by have := HZ.out; omega)
      have q3 : kn ≤ R.size := by have := HZ.out; omega
      have q4 : ((kn : Nat) : Int) ≤ (R.size : Int) := by omega
      have HT : Hid (R.extract 0 kn = ⟨(r.take kn).toArray⟩) := Lib.hid (by rw [HR.out, sub_str]; simp)
      have HD : Hid (R.extract kn R.size = ⟨(r.drop kn).toArray⟩) := Lib.hid (by rw [HR.out, sub_str, ba_len']; simp)
      have hd5 : (r.drop kn).length ≤ 1000000 := by rw [List.length_drop]; omega
      have ht5 : (r.take kn).length ≤ 1000000 := by rw [List.length_take]; omega
      have HBY : Hid (BytD s (kn : Int) (r.take kn) (s.map fun _ => r.drop kn)) := Lib.hid (by
        unfold BytD
        cases s with
        | none => rfl
        | some q =>
          obtain ⟨_, rfl⟩ := HS4.out
          exact (if_pos ⟨by omega, by omega⟩).mpr ⟨rfl, rfl⟩)
      have HDR : Hid (Dr (w.setCell ⟨B, 0, none⟩ (.string (R.extract kn R.size))) B (s.map fun _ => r.drop kn)) := Lib.hid (by
        have hs := HCE.out.set (.string (R.extract kn R.size)) (i := 0)
        rw [HD.out] at hs ⊢
        refine ⟨bad, r.drop kn, hs, ?_, hd5⟩
        cases s with
        | none => exact HS4.out
        | some q => exact ⟨HS4.out.1, rfl⟩)
      go_enter Try.func61, Try.ntmps61
      go_wp2
      go_ret
      exact ⟨r.take kn, by rw [HT.out]; rfl, _, HDR.out, hB1.out _ _, ht5, HBY.out, .inr (by rw [List.length_take]; omega), grown_set _ _ _ _⟩
    · have q1 : (R.size : Int) < ((kn : Nat) : Int) := by have := HZ.out; omega
      have q2 : R.size < kn := by have := HZ.out; omega
      have HBY : Hid (BytD s (kn : Int) [] none) := Lib.hid (by
        unfold BytD
        cases s with
        | none => rfl
        | some q =>
          obtain ⟨_, rfl⟩ := HS4.out
          exact (if_neg (by omega)).mpr ⟨rfl, rfl⟩)
      go_enter Try.func61, Try.ntmps61
      go_wp2
      go_ret
      exact ⟨[], rfl, none, ⟨true, r, HSET.out _, rfl, h5⟩, hB1.out _ _, by simp, HBY.out, .inl rfl, grown_set _ _ _ _⟩
theorem bytD_8 {s : Option Bs} {b : Bs} {s' : Option Bs} (h : BytD s 8 b s') : (∀ q, s = some q → (8 ≤ q.length ∧ b = q.take 8 ∧ s' = some (q.drop 8)) ∨ (q.length < 8 ∧ b = [] ∧ s' = none)) ∧ (s = none → s' = none) := by
  refine ⟨?_, ?_⟩
  · rintro q rfl
    by_cases h8 : 8 ≤ q.length
    · have := (if_pos (show (0 : Int) ≤ 8 ∧ (8 : Int) ≤ (q.length : Int) from ⟨by decide, by omega⟩)).mp h
      exact .inl ⟨h8, this.1, this.2⟩
    · have := (if_neg (show ¬ ((0 : Int) ≤ 8 ∧ (8 : Int) ≤ (q.length : Int)) from fun h => h8 (by omega))).mp h
      exact .inr ⟨by omega, this.1, this.2⟩
  · rintro rfl
    exact h
theorem beV_41 (p : Bs) (a b c d e f g h : UInt8) (hp : p = [a, b, c, d, e, f, g, h]) : beV p < 2199023255552 ↔ (a.toNat = 0 ∧ b.toNat = 0 ∧ c.toNat ≤ 1) := by
  rw [hp, beV_cons8]
  have := a.toNat_lt; have := b.toNat_lt; have := c.toNat_lt; have := d.toNat_lt
  have := e.toNat_lt; have := f.toNat_lt; have := g.toNat_lt; have := h.toNat_lt
  omega
theorem beV_app (l : Bs) : ∀ m : Bs, beV l ≤ beV (l ++ m)
  | [] => by simp
  | x :: r => by
    have h1 := beV_app (l ++ [x]) r
    rw [List.append_assoc] at h1
    have h2 := beV_snoc l x
    show beV l ≤ beV (l ++ ([x] ++ r))
    omega
theorem beV_take (b : Bs) (k : Nat) : beV (b.take k) ≤ beV b := by
  have := beV_app (b.take k) (b.drop k)
  rwa [List.take_append_drop] at this
theorem list8 (p : Bs) (h : p.length = 8) : ∃ a b c d e f g h, p = [a, b, c, d, e, f, g, h] := by
  match p, h with
  | [a, b, c, d, e, f, g, h], _ => exact ⟨a, b, c, d, e, f, g, h, rfl⟩
set_option maxRecDepth 100000 in
set_option maxHeartbeats 6400000 in
theorem dnumber_any {w : World} {B : Nat} {s : Option Bs} (h : Dr w B s) : Calls Try.prog 60 #[ptr B] w fun e w' => ∃ v s', e = .returned (it v) ∧ Dr w' B s' ∧ Below B w w' ∧ NumR s v s' ∧ w.grownBy w' (some B) := by
  have HD := Lib.hid h
  have HLT := Lib.hid h.lt
  clear h
  go_enter Try.func60, Try.ntmps60
  go_wp2_with fail
  refine (take_any HD.out 8).mono ?_
  rintro e w1 ⟨b, s1, rfl, hd1, hb1, hbl, hby, hb8, hgr⟩
  have HGR := Lib.hid hgr
  have HGS : Hid (w.grownBy (w1.setCell ⟨B, 1, none⟩ (.bool true)) (some B)) := Lib.hid (grown_trans hgr (grown_set _ _ _ _))
  clear hgr
  have HB1 := Lib.hid hb1
  have HD1 := Lib.hid hd1
  have hy := bytD_8 hby
  have HY := Lib.hid hy
  obtain ⟨P, hP⟩ : ∃ P : ByteArray, P = ⟨b.toArray⟩ := ⟨_, rfl⟩
  have hz : P.size = b.length := by rw [hP, ba_len']
  have HP := Lib.hid hP
  unfold str
  rw [← hP]
  clear hb1 hby hbl hP hy
  obtain ⟨bad, r1, h1, h4, h5⟩ := hd1
  obtain ⟨k0, k1⟩ := c2' h1
  have j1 : w1.frozen? ⟨B, 1, none⟩ = false := h1.frozen 1
  have HSET := Lib.hid (show Ce (w1.setCell ⟨B, 1, none⟩ (.bool true)) B 88 #[str r1, .bool true] from h1.set (.bool true) (i := 1))
  have HBS : Hid (Below B w (w1.setCell ⟨B, 1, none⟩ (.bool true))) := Lib.hid (HB1.out.setCell (p := ⟨B, 1, none⟩) (Nat.le_refl _) _)
  have HNO : Hid (Dr (w1.setCell ⟨B, 1, none⟩ (.bool true)) B none) := Lib.hid ⟨true, r1, HSET.out, rfl, h5⟩
  clear h1 h4 h5
  rcases hb8 with hb0 | hb8
  · have hz0 : P.size = 0 := by rw [hz, hb0]; rfl
    have q1 : (P.size : Int) < 8 := by omega
    have q2 : P.size < 8 := by omega
    have HF : Hid (NumR s 0 none) := Lib.hid (by
      unfold NumR
      cases s with
      | none => rfl
      | some q =>
        rcases HY.out.1 q rfl with ⟨h8, hb, _⟩ | ⟨h8, _, _⟩
        · rw [hb] at hb0
          have h' := congrArg List.length hb0
          rw [List.length_take, List.length_nil] at h'
          omega
        · have : num1 q = none := if_neg (fun h => by omega)
          simp only [Option.bind_some, this])
    clear hz hb0 hz0
    go_wp2
    all_goals
      go_ret
      exact ⟨_, none, rfl, HNO.out, HBS.out, HF.out, HGS.out⟩
  · have hl8 : b.length = 8 := by omega
    obtain ⟨xa, xb, xc, xd, xe, xf, xg, xh, hb⟩ := list8 b hl8
    have h41 := beV_41 b _ _ _ _ _ _ _ _ hb
    have hz8 : P.size = 8 := by rw [hz, hl8]
    have q1 : decide ((P.size : Int) < 8) = false := decide_eq_false (by omega)
    have q2 : decide (P.size < 8) = false := decide_eq_false (by omega)
    obtain ⟨i0, g0⟩ := getE (d := P) (k := 0) (x := xa) (by rw [HP.out, hb]; rfl)
    obtain ⟨i1, g1⟩ := getE (d := P) (k := 1) (x := xb) (by rw [HP.out, hb]; rfl)
    obtain ⟨i2, g2⟩ := getE (d := P) (k := 2) (x := xc) (by rw [HP.out, hb]; rfl)
    have HL8 := Lib.hid hl8
    have hbadR : 2199023255552 ≤ beV b → NumR s 0 none := fun hv => by
      unfold NumR
      cases s with
      | none => rfl
      | some q =>
        rcases HY.out.1 q rfl with ⟨h8, hbq, _⟩ | ⟨h8, hbq, _⟩
        · have : num1 q = none := if_neg (fun h => by rw [← hbq] at h; omega)
          simp only [Option.bind_some, this]
        · have : num1 q = none := if_neg (fun h => by omega)
          simp only [Option.bind_some, this]
    have HBR := Lib.hid hbadR
    have H41 := Lib.hid h41
    clear hbadR h41 hz hb8 hl8 hb
    have i0' : (0 : Int) < (P.size : Int) := by omega
    have i1' : (1 : Int) < (P.size : Int) := by omega
    have i2' : (2 : Int) < (P.size : Int) := by omega
    by_cases e1 : xa.toNat = 0
    · have r1 : decide ((0 : Int) < (xa.toNat : Int)) = false := decide_eq_false (by omega)
      have r1' : decide (0 < xa.toNat) = false := decide_eq_false (by omega)
      by_cases e2 : xb.toNat = 0
      · have r2 : decide ((0 : Int) < (xb.toNat : Int)) = false := decide_eq_false (by omega)
        have r2' : decide (0 < xb.toNat) = false := decide_eq_false (by omega)
        by_cases e3 : xc.toNat ≤ 1
        · have r3 : decide ((1 : Int) < (xc.toNat : Int)) = false := decide_eq_false (by omega)
          have r3' : decide (1 < xc.toNat) = false := decide_eq_false (by omega)
          have HV : Hid (beV b < 2199023255552) := Lib.hid (H41.out.2 ⟨e1, e2, e3⟩)
          clear e1 e2 e3
          go_upto_region 7 with fail
          go_loopw [4, 5] (fun v i wr => ∃ k : Nat, k ≤ 8 ∧ i = it (k : Int) ∧ v = it (beV (b.take k) : Nat) ∧ w1 = wr) (fun _ i _ => 8 - (intOf i).toNat)
          case atStart => exact ⟨0, by omega, rfl, rfl, rfl⟩
          case round =>
            obtain ⟨k, hk, rfl, rfl, rfl⟩ := hrel
            by_cases hlt : k < 8
            · have q3 : (k : Int) < 8 := by omega
              obtain ⟨x, hx⟩ : ∃ x, b[k]? = some x := ⟨_, List.getElem?_eq_getElem (by have := HL8.out; omega)⟩
              obtain ⟨ik, gk⟩ := getE (d := P) (k := k) (x := x) (by rw [HP.out]; simpa using hx)
              have hsn := beV_snoc (b.take k) x
              rw [← take_succ_of hx] at hsn
              have hle := Nat.lt_of_le_of_lt (beV_take b (k + 1)) HV.out
              have hx256 := x.toNat_lt
              have HSN := Lib.hid hsn
              obtain ⟨z, hz⟩ : ∃ z, z = beV (b.take k) := ⟨_, rfl⟩
              rw [← hz] at hsn HSN ⊢
              have hz1 : z * 256 + x.toNat < 2199023255552 := by omega
              have hw1 : IntKind.i64.wrap ((z : Int) * 256) = (z : Int) * 256 := by unfold IntKind.wrap; simp only [IntKind.bits, IntKind.signed]; simp; omega
              have hw2 : IntKind.i64.wrap ((x.toNat : Nat) : Int) = (x.toNat : Int) := by unfold IntKind.wrap; simp only [IntKind.bits, IntKind.signed]; simp; omega
              have hw3 : IntKind.i64.wrap ((z : Int) * 256 + (x.toNat : Int)) = (z : Int) * 256 + (x.toNat : Int) := by unfold IntKind.wrap; simp only [IntKind.bits, IntKind.signed]; simp; omega
              have ik' : (k : Int) < (P.size : Int) := by omega
              have q0 : (0 : Int) ≤ (k : Int) := by omega
              clear hsn hle hz hx hx256
              go_wp2
              go_roundw
              case rel => exact ⟨k + 1, by omega, by go_num, congrArg (Value.int .i64) (by rw [HSN.out]; omega), trivial⟩
              case measure => simp [intOf]; omega
            · obtain rfl : k = 8 := by omega
              have e8 : b.take 8 = b := List.take_of_length_le (by have := HL8.out; omega)
              rw [e8]
              have HF : Hid (NumR s (beV b : Nat) s1) := Lib.hid (by
                unfold NumR
                cases s with
                | none => exact HY.out.2 rfl
                | some q =>
                  rcases HY.out.1 q rfl with ⟨h8, hbq, hs1⟩ | ⟨h8, hbq, _⟩
                  · have : num1 q = some (((beV b : Nat) : Int), q.drop 8) := by
                      rw [hbq]
                      exact if_pos ⟨h8, by rw [← hbq]; exact HV.out⟩
                    simp only [Option.bind_some, this]
                    exact ⟨by trivial, hs1⟩
                  · have h' := congrArg List.length hbq
                    rw [HL8.out] at h'
                    cases h')
              clear e8
              go_wp2
              go_ret
              exact ⟨_, s1, rfl, HD1.out, HB1.out, HF.out, HGR.out⟩
        · have r3 : (1 : Int) < (xc.toNat : Int) := by omega
          have r3' : 1 < xc.toNat := by omega
          have HF := Lib.hid (HBR.out (by
            rcases Nat.lt_or_ge (beV b) 2199023255552 with h | h
            · have := H41.out.1 h; omega
            · exact h))
          clear e1 e2 e3
          go_wp2
          all_goals
            go_ret
            exact ⟨_, none, rfl, HNO.out, HBS.out, HF.out, HGS.out⟩
      · have r2 : (0 : Int) < (xb.toNat : Int) := by omega
        have r2' : 0 < xb.toNat := by omega
        have HF := Lib.hid (HBR.out (by
          rcases Nat.lt_or_ge (beV b) 2199023255552 with h | h
          · have := H41.out.1 h; omega
          · exact h))
        clear e1 e2
        go_wp2
        all_goals
          go_ret
          exact ⟨_, none, rfl, HNO.out, HBS.out, HF.out, HGS.out⟩
    · have r1 : (0 : Int) < (xa.toNat : Int) := by omega
      have r1' : 0 < xa.toNat := by omega
      have HF := Lib.hid (HBR.out (by
        rcases Nat.lt_or_ge (beV b) 2199023255552 with h | h
        · have := H41.out.1 h; omega
        · exact h))
      clear e1
      go_wp2
      all_goals
        go_ret
        exact ⟨_, none, rfl, HNO.out, HBS.out, HF.out, HGS.out⟩
end Go.Proofs.Ytopnmiakljpgbaa
