/-
  What records make of a state, one by one.
-/
import Derived.Test.YtopnmiakljpgbaaRdr
import Derived.Test.YtopnmiakljpgbaaTame
namespace Go.Proofs.Ytopnmiakljpgbaa
open Go.RowKit
structure Hs where
  t : Int
  vo : Int
  V : List Int
  sn : ByteArray
  ba : Int
  bt : Int
  L : List En
def Hs.zero : Hs := ⟨0, 0, [], ⟨#[]⟩, 0, 0, []⟩
def stT (S : Hs) (r : Bs) : Option Hs := (num1 r).bind fun p => (num1 p.2).bind fun q => if q.2 = [] then some ⟨p.1, q.1, S.V, S.sn, S.ba, S.bt, S.L⟩ else none
def stE (S : Hs) (r : Bs) : Option Hs := (num1 r).bind fun p => (num1 p.2).bind fun q => (byt1 q.2 1).bind fun k =>
  if S.ba < p.1 ∧ p.1 ≤ S.ba + S.L.length + 1 then some ⟨S.t, S.vo, S.V, S.sn, S.ba, S.bt, S.L.take (p.1 - S.ba - 1).toNat ++ [⟨q.1, ((k.1.headD 0).toNat : Int), ⟨k.2.toArray⟩⟩]⟩ else none
def stW (r : Bs) : Option Hs := (num1 r).bind fun t => (num1 t.2).bind fun vo => (num1 vo.2).bind fun ba => (num1 ba.2).bind fun bt => (num1 bt.2).bind fun n => (byt1 n.2 n.1).bind fun d => (num1 d.2).bind fun m => (byt1 m.2 m.1).bind fun s =>
  if s.2 = [] ∧ lok d.1 = true ∧ s.1.length ≤ 50000 then some ⟨t.1, vo.1, vot d.1, ⟨s.1.toArray⟩, ba.1, bt.1, []⟩ else none
def stp (S : Hs) : Bs → Option Hs
  | [] => none
  | c :: r => if c = 87 then stW r else if c = 84 then stT S r else if c = 69 then stE S r else none
/-- A state in memory. -/
def HvI (w : World) (H : Nat) (S : Hs) : Prop := ∃ vs es, Ce w H 42 #[it S.t, it S.vo, vs, .string S.sn, it S.ba, it S.bt, es] ∧ OwnV w (H + 1) 3 vs (ivs S.V) ∧ OwnE w (H + 1) es S.L
theorem num1_ge {r : Bs} {p : Int × Bs} (h : num1 r = some p) : 0 ≤ p.1 ∧ p.1 < 2199023255552 ∧ p.2 = r.drop 8 ∧ 8 ≤ r.length := by
  unfold num1 at h
  split at h
  · rename_i h1
    cases h
    exact ⟨by show (0 : Int) ≤ ((beV (r.take 8) : Nat) : Int); omega, by show ((beV (r.take 8) : Nat) : Int) < _; omega, rfl, h1.1⟩
  · cases h
theorem NumR.yes {s : Option Bs} {v : Int} {r : Bs} (h : NumR s v (some r)) : ∃ q, s = some q ∧ num1 q = some (v, r) := by
  unfold NumR at h
  cases s with
  | none => simp at h
  | some q =>
    refine ⟨q, rfl, ?_⟩
    simp only [Option.bind_some] at h
    cases hn : num1 q with
    | none => rw [hn] at h; simp at h
    | some p =>
      rw [hn] at h
      obtain ⟨x, r'⟩ := p
      obtain ⟨rfl, h2⟩ := h
      cases h2
      rfl
theorem NumR.no {q : Bs} {v : Int} (h : NumR (some q) v none) : num1 q = none := by
  unfold NumR at h
  simp only [Option.bind_some] at h
  cases hn : num1 q with
  | none => rfl
  | some p =>
    rw [hn] at h
    have := h.2
    cases this
theorem BytR.yes {s : Option Bs} {k : Int} {b r : Bs} (h : BytR s k b (some r)) : ∃ q, s = some q ∧ byt1 q k = some (b, r) := by
  unfold BytR at h
  cases s with
  | none => simp at h
  | some q =>
    refine ⟨q, rfl, ?_⟩
    simp only [Option.bind_some] at h
    cases hn : byt1 q k with
    | none => rw [hn] at h; simp at h
    | some p =>
      rw [hn] at h
      obtain ⟨x, r'⟩ := p
      obtain ⟨rfl, h2⟩ := h
      cases h2
      rfl
theorem BytR.no {q : Bs} {k : Int} {b : Bs} (h : BytR (some q) k b none) : byt1 q k = none := by
  unfold BytR at h
  simp only [Option.bind_some] at h
  cases hn : byt1 q k with
  | none => rfl
  | some p =>
    rw [hn] at h
    have := h.2
    cases this
theorem lft_zero (q : Bs) : lftV (some q) = 0 ↔ q = [] := by
  cases q with
  | nil => simp [lftV]
  | cons x r => simp [lftV]; omega
theorem OwnE.drew {w : World} {base : Nat} {v : Value} {L : List En} (h : OwnE w base v L) : OwnE w.drew base v L := h
set_option maxRecDepth 100000 in
set_option maxHeartbeats 3200000 in
theorem setTerm_any {w : World} {H : Nat} {S : Hs} (h : HvI w H S) (c : UInt8) (r : Bs) (hr : r.length ≤ 1000000) :
    Calls Try.prog 71 #[ptr H, str (c :: r)] w fun e w' => ∃ b S', e = .returned (.bool b) ∧ HvI w' H S' ∧ Below H w w' ∧ stT S r = if b = true then some S' else none := by
  obtain ⟨vs, es, hc, hv, he⟩ := h
  have HH := Lib.hid hc.lt
  have HC := Lib.hid hc
  have HV := Lib.hid hv
  have HE := Lib.hid he
  have RD := Lib.hid (reader_any c r hr w)
  obtain ⟨RS, hRS⟩ : ∃ RS : Value, RS = str (c :: r) := ⟨_, rfl⟩
  rw [← hRS] at RD ⊢
  clear hc hv he hRS
  obtain ⟨t, vo, V, sn, ba, bt, L⟩ := S
  dsimp only at *
  go_enter Try.func71, Try.ntmps71
  go_wp2_with fail
  refine RD.out.mono ?_
  obtain ⟨n, hn⟩ : ∃ n, n = w.heap.size := ⟨_, rfl⟩
  have HN := Lib.hid hn
  rw [← hn]
  clear hn
  rintro e w1 ⟨rfl, hr1, hb1⟩
  have HR1 := Lib.hid hr1
  have HB1 := Lib.hid hb1
  clear hr1 hb1
  go_wp2_with fail
  refine (rnumber_any HR1.out).mono ?_
  rintro e w2 ⟨v1, s1, rfl, hr2, hb2, hn1⟩
  have HR2 := Lib.hid hr2
  have HB2 := Lib.hid (HB1.out.trans hb2)
  have HN1 := Lib.hid hn1
  clear hr2 hb2 hn1
  go_wp2_with fail
  refine (rnumber_any HR2.out).mono ?_
  rintro e w3 ⟨v2, s2, rfl, hr3, hb3, hn2⟩
  have HR3 := Lib.hid hr3
  have HB3 := Lib.hid (show Below w.heap.size w w3 by rw [← HN.out]; exact HB2.out.trans hb3)
  have HN2 := Lib.hid hn2
  have HC3 := Lib.hid (HC.out.below HB3.out)
  have HV3 := Lib.hid (HV.out.below HB3.out)
  have HE3 := Lib.hid (HE.out.below HB3.out)
  have HHn : Hid (H < n) := Lib.hid (by rw [HN.out]; exact HH.out)
  clear hr3 hb3 hn2
  obtain ⟨c0, c1, c2, c3', c4, c5, c6⟩ := c7 HC3.out
  obtain ⟨f0, f1⟩ := f7a HC3.out
  go_upto_region 3 with fail
  generalize hw4 : World.setCell (World.setCell w3 _ _) _ _ = w4
  have HC4 : Hid (Ce w4 H 42 #[it v1, it v2, vs, .string sn, it ba, it bt, es]) := Lib.hid (by rw [← hw4]; exact (HC3.out.set (it v1) (i := 0)).set (it v2) (i := 1))
  have HV4 : Hid (OwnV w4 (H + 1) 3 vs (ivs V)) := Lib.hid (by rw [← hw4]; exact (HV3.out.set (Nat.lt_succ_self _) _).set (Nat.lt_succ_self _) _)
  have HE4 : Hid (OwnE w4 (H + 1) es L) := Lib.hid (by rw [← hw4]; exact (HE3.out.set (Nat.lt_succ_self _) _).set (Nat.lt_succ_self _) _)
  have HR4 : Hid (Rr w4 n s2) := Lib.hid (by rw [← hw4]; exact (HR3.out.set HHn.out _).set HHn.out _)
  have HB4 : Hid (Below H w w4) := Lib.hid (by rw [← hw4]; exact ((HB3.out.mono (Nat.le_of_lt HH.out)).setCell (p := ⟨H, 0, none⟩) (Nat.le_refl _) _).setCell (p := ⟨H, 1, none⟩) (Nat.le_refl _) _)
  clear hw4 c0 c1 c2 c3' c4 c5 c6 f0 f1
  go_wp2_with fail
  refine (left_any HR4.out).mono ?_
  rintro e w5 ⟨rfl, rfl⟩
  have HF : Hid (stT ⟨t, vo, V, sn, ba, bt, L⟩ r = if lftV s2 = 0 then some ⟨v1, v2, V, sn, ba, bt, L⟩ else none) := Lib.hid (by
    unfold stT
    cases s1 with
    | none =>
      rw [NumR.no HN1.out]
      have : s2 = none := by
        cases s2 with
        | none => rfl
        | some q => obtain ⟨q', hq, _⟩ := HN2.out.yes; cases hq
      subst this
      rfl
    | some q1 =>
      obtain ⟨q, hq, h1⟩ := HN1.out.yes
      cases hq
      rw [h1]
      cases s2 with
      | none =>
        simp only [Option.bind_some]
        rw [NumR.no HN2.out]
        rfl
      | some q2 =>
        obtain ⟨q', hq, h2⟩ := HN2.out.yes
        cases hq
        simp only [Option.bind_some, h2]
        by_cases h : q2 = []
        · rw [if_pos h, if_pos ((lft_zero q2).2 h)]
        · rw [if_neg h, if_neg (fun h' => h ((lft_zero q2).1 h'))])
  by_cases hl : lftV s2 = 0
  · have q1 : (lftV s2 == 0) = true := by simpa using hl
    have HF2 : Hid (stT ⟨t, vo, V, sn, ba, bt, L⟩ r = some ⟨v1, v2, V, sn, ba, bt, L⟩) := Lib.hid (by rw [HF.out, if_pos hl])
    clear hl
    generalize lftV s2 = lf at *
    go_wp2
    go_ret
    exact ⟨true, ⟨v1, v2, V, sn, ba, bt, L⟩, rfl, ⟨vs, es, HC4.out, HV4.out, HE4.out⟩, HB4.out, by rw [HF2.out]; rfl⟩
  · have q1 : (lftV s2 == 0) = false := by simpa using hl
    have HF2 : Hid (stT ⟨t, vo, V, sn, ba, bt, L⟩ r = none) := Lib.hid (by rw [HF.out, if_neg hl])
    clear hl
    generalize lftV s2 = lf at *
    go_wp2
    go_ret
    exact ⟨false, ⟨v1, v2, V, sn, ba, bt, L⟩, rfl, ⟨vs, es, HC4.out, HV4.out, HE4.out⟩, HB4.out, by rw [HF2.out]; rfl⟩
end Go.Proofs.Ytopnmiakljpgbaa
