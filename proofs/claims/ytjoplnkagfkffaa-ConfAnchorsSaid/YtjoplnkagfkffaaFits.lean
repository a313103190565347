/-
  What an order must have.
-/
import Derived.Test.YtjoplnkagfkffaaFloor
namespace Go.Proofs.Ytjoplnkagfkffaa
open Go.RowKit
theorem c6 {w : World} {n : Nat} {T : TypeId} {v0 v1 v2 v3 v4 v5 : Value} (h : Ce w n T #[v0, v1, v2, v3, v4, v5]) : w.cell? ⟨n, 0, none⟩ = some v0 ∧ w.cell? ⟨n, 1, none⟩ = some v1 ∧ w.cell? ⟨n, 2, none⟩ = some v2 ∧ w.cell? ⟨n, 3, none⟩ = some v3 ∧ w.cell? ⟨n, 4, none⟩ = some v4 ∧ w.cell? ⟨n, 5, none⟩ = some v5 := by
  refine ⟨?_, ?_, ?_, ?_, ?_, ?_⟩ <;> (rw [h.cell]; rfl)
theorem below_drewN' (w : World) (n : Nat) : Below w.heap.size w (w.drewN n) := ⟨rfl, rfl, rfl, Nat.le_refl _, fun _ _ => rfl⟩
/-- Is a text empty? -/
def em (s : ByteArray) : Bool := s.toList == []
def nodeB (n : Int) : Bool := decide (0 ≤ n) && decide (n < 64)
def hintsB (H : List ByteArray) : Bool := decide (H.length ≤ 13) && !H.any fun h => decide (h.size ≠ 4)
/-- What an order must have. -/
def fitB (k nd : Int) (nm tx zn : ByteArray) (H : List ByteArray) : Bool :=
  if k = 1 ∨ k = 2 then nodeB nd && (em nm && em tx) && em zn && H.length == 0
  else if k = 3 then nd == 0 && (em nm && em tx) && em zn && !(H.length == 0) && hintsB H
  else if k = 4 then nd == 0 && chk (bl nm) == 0 && decide (tx.size ≤ 200) && em zn && H.length == 0
  else if k = 5 then nd == 0 && (em nm && em tx) && chk (bl zn) == 0 && H.length == 0
  else false
set_option maxRecDepth 100000 in
set_option maxHeartbeats 3200000 in
theorem node_any (n : Int) (w : World) : Calls Try.prog 41 #[it n] w fun e w' => e = .returned (.bool (nodeB n)) ∧ w = w' := by
  by_cases h : 0 ≤ n
  · have q1 : decide (0 ≤ n) = true := decide_eq_true h
    have e : nodeB n = decide (n < 64) := by unfold nodeB; rw [q1]; rfl
    rw [e]
    go_enter Try.func41, Try.ntmps41
    go_wp2
    go_ret
    exact ⟨rfl, rfl⟩
  · have q1 : decide (0 ≤ n) = false := decide_eq_false h
    have e : nodeB n = false := by unfold nodeB; rw [q1]; rfl
    rw [e]
    go_enter Try.func41, Try.ntmps41
    go_wp2
    go_ret
    exact ⟨rfl, rfl⟩
set_option maxRecDepth 100000 in
set_option maxHeartbeats 3200000 in
theorem name_any' (s : ByteArray) (hs : s.size ≤ 140737488351232) (w : World) : Calls Try.prog 43 #[.string s] w fun e w' => e = .returned (.bool (chk (bl s) == 0)) ∧ Below w.heap.size w w' := by
  go_enter Try.func43, Try.ntmps43
  go_wp2_with fail
  refine (check_any s hs w).mono ?_
  rintro e w2 ⟨rfl, hb⟩
  have HB := Lib.hid hb
  clear hb
  go_wp2
  go_ret
  exact ⟨rfl, HB.out⟩
set_option maxRecDepth 100000 in
set_option maxHeartbeats 3200000 in
theorem wrongHint_any (s : ByteArray) (w : World) : Calls Try.prog 63 (#[.string s] ++ #[]) w fun e w' => e = .returned (.bool (decide (s.size ≠ 4))) ∧ Below w.heap.size w w' := by
  show Calls Try.prog 63 #[.string s] w _
  by_cases h : s.size = 4
  · have e : decide (s.size ≠ 4) = false := by simp [h]
    rw [e]
    have q1 : ((s.size : Int) != 4) = false := by simp; omega
    have q2 : (s.size != 4) = false := by simp [h]
    go_enter Try.func63, Try.ntmps63
    go_wp2
    go_ret
    exact ⟨rfl, Below.refl _ _⟩
  · have e : decide (s.size ≠ 4) = true := by simp [h]
    rw [e]
    have q1 : ((s.size : Int) != 4) = true := by simp; omega
    have q2 : (s.size != 4) = true := by simp [h]
    go_enter Try.func63, Try.ntmps63
    go_wp2
    go_ret
    exact ⟨rfl, Below.refl _ _⟩
set_option maxRecDepth 100000 in
set_option maxHeartbeats 3200000 in
theorem idxS_any {w : World} {a : Option Addr} {n cap : Nat} {L : List ByteArray} (h : RdX elS w (.slice a n cap) L) (hl : L.length ≤ 1000000) (g : FuncId) (cb : Array Value) (p : ByteArray → Bool)
    (hN : ∀ args w, (callFunc g args).run Try.prog w = .ok (.enter g args) w)
    (hp : ∀ W, ∀ x ∈ L, Below w.heap.size w W → Calls Try.prog g (#[.string x] ++ cb) W fun e W' => e = .returned (.bool (p x)) ∧ Below W.heap.size W W') :
    Calls Try.prog 77 #[.slice a n cap, .func (.func g) #[] cb] w fun e w' => e = .returned (it (fiI p L)) ∧ Below w.heap.size w w' := by
  have hn := h.len
  have HR := Lib.hid h
  have HP := Lib.hid hp
  have HN := Lib.hid hn
  have hl' : n ≤ 1000000 := by omega
  clear h hp hl hn
  go_enter Try.func77, Try.ntmps77
  go_wp2
  go_loopw [8] (fun i wr => ∃ k : Nat, k ≤ n ∧ i = it (k : Int) ∧ k ≤ fidx p L ∧ Below w.heap.size w wr) (fun i _ => n - (intOf i).toNat)
  case atStart => exact ⟨0, by omega, rfl, Nat.zero_le _, Below.refl _ _⟩
  case round =>
    obtain ⟨k, hk, rfl, hf, hb⟩ := hrel
    have HB := Lib.hid hb
    have HF := Lib.hid hf
    by_cases hlt : k < n
    · have q1 : (k : Int) < (n : Int) := by omega
      obtain ⟨x, hx⟩ : ∃ x, L[k]? = some x := ⟨_, List.getElem?_eq_getElem (by rw [← HN.out]; exact hlt)⟩
      obtain ⟨b, o, rfl, hg, c0⟩ := at1 HR.out rfl hx rfl
      have c0 := (hb.cell (p := ⟨b, o + k, none⟩) hg).trans c0
      have HC := Lib.hid (HP.out wr x (List.mem_of_getElem? hx) hb)
      have HX := Lib.hid hx
      clear hb hf hx
      go_wp2_with fail
      refine HC.out.mono ?_
      rintro e w2 ⟨rfl, hb2⟩
      have HB2 := Lib.hid (HB.out.trans (hb2.mono HB.out.size))
      clear hb2
      cases hpx : p x with
      | true =>
        have HE := Lib.hid (fidx_at HX.out HF.out hpx)
        go_wp2
        go_ret
        have e : fiI p L = (k : Int) := by unfold fiI; rw [HE.out, if_pos (by rw [← HN.out]; exact hlt)]
        exact ⟨by rw [e]; rfl, HB2.out⟩
      | false =>
        have HE := Lib.hid (fidx_more HX.out HF.out hpx)
        go_wp2
        go_roundw
        case rel => exact ⟨k + 1, by omega, by go_num, HE.out, HB2.out⟩
        case measure => simp [intOf]; omega
    · have q1 : decide ((k : Int) < (n : Int)) = false := by simp; omega
      clear hb hf
      go_wp2
      go_ret
      have e : fiI p L = -1 := by unfold fiI; rw [if_neg (by have := HF.out; have := HN.out; omega)]
      exact ⟨by rw [e]; rfl, HB.out⟩
theorem fiI_any {α : Type} (p : α → Bool) (L : List α) : decide (0 ≤ fiI p L) = L.any p := by
  induction L with
  | nil => rfl
  | cons x r ih =>
    unfold fiI at *
    rw [List.any_cons]
    cases h : p x with
    | true =>
      have e : fidx p (x :: r) = 0 := by unfold fidx; rw [if_pos h]
      rw [e, if_pos (by simp)]
      rfl
    | false =>
      have e : fidx p (x :: r) = fidx p r + 1 := by
        show (if p x = true then 0 else fidx p r + 1) = _
        rw [if_neg (by rw [h]; simp)]
      rw [e, ← ih, Bool.false_or]
      by_cases h1 : fidx p r < r.length
      · rw [if_pos h1, if_pos (by simp; omega)]
        rw [decide_eq_true (by omega), decide_eq_true (by omega)]
      · rw [if_neg h1, if_neg (by simp; omega)]
set_option maxRecDepth 100000 in
set_option maxHeartbeats 3200000 in
theorem hasS_any {w : World} {a : Option Addr} {n cap : Nat} {L : List ByteArray} (h : RdX elS w (.slice a n cap) L) (hl : L.length ≤ 1000000) (g : FuncId) (cb : Array Value) (p : ByteArray → Bool)
    (hN : ∀ args w, (callFunc g args).run Try.prog w = .ok (.enter g args) w)
    (hp : ∀ W, ∀ x ∈ L, Below w.heap.size w W → Calls Try.prog g (#[.string x] ++ cb) W fun e W' => e = .returned (.bool (p x)) ∧ Below W.heap.size W W') :
    Calls Try.prog 64 #[.slice a n cap, .func (.func g) #[] cb] w fun e w' => e = .returned (.bool (L.any p)) ∧ Below w.heap.size w w' := by
  have HI := Lib.hid (idxS_any h hl g cb p hN hp)
  have HE := Lib.hid (fiI_any p L)
  generalize L.any p = r at *
  generalize fiI p L = q at *
  clear h hl hp hN
  go_enter Try.func64, Try.ntmps64
  go_wp2_with fail
  refine HI.out.mono ?_
  rintro e w2 ⟨rfl, hb⟩
  have HB := Lib.hid hb
  have q1 := HE.out
  clear hb
  go_wp2
  go_ret
  exact ⟨rfl, HB.out⟩
theorem ent63 (args : Array Value) (w : World) : (callFunc 63 args).run Try.prog w = .ok (.enter 63 args) w := enters Try.func63 (by kernel_rfl) (by kernel_rfl) args w
set_option maxRecDepth 100000 in
set_option maxHeartbeats 3200000 in
theorem hints_any {w : World} {a : Option Addr} {n cap : Nat} {L : List ByteArray} (h : RdX elS w (.slice a n cap) L) (hl : L.length ≤ 1000000) :
    Calls Try.prog 42 #[.slice a n cap] w fun e w' => e = .returned (.bool (hintsB L)) ∧ Below w.heap.size w w' := by
  have hn := h.len
  have HH := Lib.hid (hasS_any h hl 63 #[] (fun h => decide (h.size ≠ 4)) ent63 (fun W x _ _ => wrongHint_any x W))
  by_cases hk : n ≤ 13
  · have q1 : decide ((n : Int) ≤ 13) = true := by simp; omega
    have q2 : decide (n ≤ 13) = true := by simp; omega
    have e : hintsB L = !(L.any fun h => decide (h.size ≠ 4)) := by unfold hintsB; rw [decide_eq_true (by omega)]; rfl
    rw [e]
    generalize (L.any fun h => decide (h.size ≠ 4)) = r at *
    clear h hl hn e
    go_enter Try.func42, Try.ntmps42
    go_wp2_with fail
    refine HH.out.mono ?_
    rintro e w2 ⟨rfl, hb⟩
    have HB := Lib.hid hb
    clear hb
    go_wp2
    go_ret
    exact ⟨rfl, HB.out⟩
  · have q1 : decide ((n : Int) ≤ 13) = false := by simp; omega
    have q2 : decide (n ≤ 13) = false := by simp; omega
    have e : hintsB L = false := by unfold hintsB; rw [decide_eq_false (by omega)]; rfl
    rw [e]
    clear h hl hn e
    go_enter Try.func42, Try.ntmps42
    go_wp2
    go_ret
    exact ⟨rfl, Below.refl _ _⟩
set_option maxRecDepth 100000 in
set_option maxHeartbeats 12800000 in
theorem fits_any {w : World} {k nd : Int} {nm tx zn : ByteArray} {hv : Value} {H : List ByteArray} (hh : RdX elS w hv H) (hl : H.length ≤ 1000000) (hnm : nm.size ≤ 1000000) (hzn : zn.size ≤ 1000000) :
    Calls Try.prog 30 #[.agg #[it k, it nd, .string nm, .string tx, .string zn, hv]] w fun e w' => e = .returned (.bool (fitB k nd nm tx zn H)) ∧ Below w.heap.size w w' := by
  obtain ⟨ha, hc, rfl, _⟩ := hh.shape
  have HC := Lib.hid (Ce.new w 35 #[it k, it nd, .string nm, .string tx, .string zn, .slice ha H.length hc])
  have hb := one_new w (.cells #[it k, it nd, .string nm, .string tx, .string zn, .slice ha H.length hc] 35)
  have HR := Lib.hid (hh.below hb)
  have HB := Lib.hid hb
  obtain ⟨m, hm⟩ : ∃ m, m = H.length := ⟨_, rfl⟩
  obtain ⟨r, hr⟩ : ∃ r, r = fitB k nd nm tx zn H := ⟨_, rfl⟩
  rw [← hr]
  unfold fitB at hr
  rw [← hm] at HC HR HB hl hr ⊢
  have HM := Lib.hid hm
  have HRR := Lib.hid hr
  clear hb hh hm hr
  go_enter Try.func30, Try.ntmps30
  go_upto_region 1 with fail
  generalize w.alloc _ = wA at *
  obtain ⟨c0, c1, c2, c3, c4, c5⟩ := c6 HC.out
  go_cut [3, 4] from 3 to 13 (fun a b wx => a = .bool (nd == 0) ∧ b = .bool (m == 0) ∧ Below wA.heap.size wA wx)
  case first =>
    have q1 : ((m : Int) == 0) = (m == 0) := by rw [Bool.eq_iff_iff]; simp
    go_quiet (fail)
    go_wp2
    go_meet
    exact ⟨rfl, rfl, below_drewN' _ _⟩
  case rest =>
    obtain ⟨rfl, rfl, hb1⟩ := hcut
    obtain ⟨c0, c1, c2, c3, c4, c5⟩ := c6 (HC.out.below hb1)
    have HB1 := Lib.hid hb1
    clear hb1
    go_upto_region 2 with fail
    go_cut [5, 6] from 5 to 24 (fun a b wx => a = .bool (em nm && em tx) ∧ b = .bool (em zn) ∧ Below wA.heap.size wA wx)
    case first =>
      have e3 : (zn.toList == []) = em zn := rfl
      cases hen : em nm with
      | true =>
        have e1 : (nm.toList == []) = true := hen
        have e2 : (tx.toList == []) = em tx := rfl
        go_quiet (fail)
        go_wp2
        go_meet
        exact ⟨by first | rfl | (rw [hen]; rfl), rfl, HB1.out.trans ((below_drewN' _ _).mono HB1.out.size)⟩
      | false =>
        have e1 : (nm.toList == []) = false := hen
        go_quiet (fail)
        go_wp2
        go_meet
        exact ⟨by first | rfl | (rw [hen]; rfl), rfl, HB1.out.trans ((below_drewN' _ _).mono HB1.out.size)⟩
    case rest =>
      obtain ⟨rfl, rfl, hb2⟩ := hcut
      have hC2 := HC.out.below hb2
      obtain ⟨c0, c1, c2, c3, c4, c5⟩ := c6 hC2
      have HR2 := Lib.hid (HR.out.below hb2)
      have HB2 := Lib.hid (HB.out.trans (hb2.mono HB.out.size))
      have HHI := Lib.hid (hints_any HR2.out (by have := HM.out; omega))
      have HNO := Lib.hid (fun w' => node_any nd w')
      have HNM := Lib.hid (fun w' => name_any' nm (by omega) w')
      have HZN := Lib.hid (fun w' => name_any' zn (by omega) w')
      have HC2 := Lib.hid hC2
      clear hb2 hC2 HB1
      have HRQ := HRR.out
      generalize (em nm && em tx) = A at *
      generalize em zn = Z at *
      generalize (nd == 0) = N at *
      generalize (m == 0) = M at *
      clear HRR
      by_cases hk12 : k = 1 ∨ k = 2
      · rw [if_pos hk12] at HRQ
        have HRX := Lib.hid HRQ
        clear HRQ
        rcases hk12 with rfl | rfl
        all_goals
          go_wp2_with fail
          refine (HNO.out _).mono ?_
          rintro e w2 ⟨rfl, rfl⟩
          generalize nodeB nd = D at *
          cases D <;> cases A <;> cases Z <;> cases M
          all_goals
            go_wp2
            go_ret
            exact ⟨by rw [HRX.out]; rfl, HB2.out⟩
      · have t1 : (k == 1) = false := by simp; exact fun h => hk12 (.inl h)
        have t2 : (k == 2) = false := by simp; exact fun h => hk12 (.inr h)
        rw [if_neg hk12] at HRQ
        by_cases hk3 : k = 3
        · rw [if_pos hk3] at HRQ
          have HRX := Lib.hid HRQ
          have t3 : (k == 3) = true := by simp [hk3]
          clear HRQ hk12 hk3
          by_cases hall : N = true ∧ A = true ∧ Z = true ∧ M = false
          · obtain ⟨rfl, rfl, rfl, rfl⟩ := hall
            go_wp2_with fail
            refine HHI.out.mono ?_
            rintro e w2 ⟨rfl, hb3⟩
            have HB3 := Lib.hid (HB2.out.trans (hb3.mono HB2.out.size))
            clear hb3
            go_wp2
            go_ret
            exact ⟨by rw [HRX.out]; rfl, HB3.out⟩
          · cases N <;> cases A <;> cases Z <;> cases M
            all_goals first
              | exact absurd ⟨rfl, rfl, rfl, rfl⟩ hall
              | (clear hall
                 go_wp2
                 go_ret
                 exact ⟨by rw [HRX.out]; rfl, HB2.out⟩)
        · have t3 : (k == 3) = false := by simpa using hk3
          rw [if_neg hk3] at HRQ
          by_cases hk4 : k = 4
          · rw [if_pos hk4] at HRQ
            have HRX := Lib.hid HRQ
            have t4 : (k == 4) = true := by simp [hk4]
            clear HRQ hk12 hk3 hk4
            cases N with
            | true =>
              go_wp2_with fail
              refine (HNM.out _).mono ?_
              rintro e w2 ⟨rfl, hb3⟩
              have HB3 := Lib.hid (HB2.out.trans (hb3.mono HB2.out.size))
              obtain ⟨c0, c1, c2, c3, c4, c5⟩ := c6 (HC2.out.below hb3)
              clear hb3
              generalize (chk (bl nm) == 0) = G at *
              by_cases ht : tx.size ≤ 200
              · have q1 : decide ((tx.size : Int) ≤ 200) = true := by simp; omega
                have q2 : decide (tx.size ≤ 200) = true := by simp; omega
                have HRY := Lib.hid HRX.out
                rw [q2] at HRY
                cases G <;> cases Z <;> cases M
                all_goals
                  go_wp2
                  go_ret
                  exact ⟨by rw [HRY.out]; rfl, HB3.out⟩
              · have q1 : decide ((tx.size : Int) ≤ 200) = false := by simp; omega
                have q2 : decide (tx.size ≤ 200) = false := by simp; omega
                have HRY := Lib.hid HRX.out
                rw [q2] at HRY
                cases G <;> cases Z <;> cases M
                all_goals
                  go_wp2
                  go_ret
                  exact ⟨by rw [HRY.out]; rfl, HB3.out⟩
            | false =>
              cases Z <;> cases M
              all_goals
                go_wp2
                go_ret
                exact ⟨by rw [HRX.out]; rfl, HB2.out⟩
          · have t4 : (k == 4) = false := by simpa using hk4
            rw [if_neg hk4] at HRQ
            by_cases hk5 : k = 5
            · rw [if_pos hk5] at HRQ
              have HRX := Lib.hid HRQ
              have t5 : (k == 5) = true := by simp [hk5]
              clear HRQ hk12 hk3 hk4 hk5
              by_cases hall : N = true ∧ A = true
              · obtain ⟨rfl, rfl⟩ := hall
                go_wp2_with fail
                refine (HZN.out _).mono ?_
                rintro e w2 ⟨rfl, hb3⟩
                have HB3 := Lib.hid (HB2.out.trans (hb3.mono HB2.out.size))
                clear hb3
                generalize (chk (bl zn) == 0) = G at *
                cases G <;> cases M
                all_goals
                  go_wp2
                  go_ret
                  exact ⟨by rw [HRX.out]; rfl, HB3.out⟩
              · cases N <;> cases A <;> cases M
                all_goals first
                  | exact absurd ⟨rfl, rfl⟩ hall
                  | (clear hall
                     go_wp2
                     go_ret
                     exact ⟨by rw [HRX.out]; rfl, HB2.out⟩)
            · have t5 : (k == 5) = false := by simpa using hk5
              rw [if_neg hk5] at HRQ
              have HRX := Lib.hid HRQ
              clear HRQ hk12 hk3 hk4 hk5
              go_wp2
              go_ret
              exact ⟨by rw [HRX.out]; rfl, HB2.out⟩
set_option maxRecDepth 100000 in
set_option maxHeartbeats 3200000 in
theorem ocheck_any {w : World} {k nd : Int} {nm tx zn : ByteArray} {hv : Value} {H : List ByteArray} (hh : RdX elS w hv H) (hl : H.length ≤ 1000000) (hnm : nm.size ≤ 1000000) (hzn : zn.size ≤ 1000000) :
    Calls Try.prog 17 #[.agg #[it k, it nd, .string nm, .string tx, .string zn, hv]] w fun e w' => e = .returned (it (if fitB k nd nm tx zn H = true then 0 else 1)) ∧ Below w.heap.size w w' := by
  obtain ⟨ha, hc, rfl, _⟩ := hh.shape
  have HC := Lib.hid (Ce.new w 35 #[it k, it nd, .string nm, .string tx, .string zn, .slice ha H.length hc])
  have hb := one_new w (.cells #[it k, it nd, .string nm, .string tx, .string zn, .slice ha H.length hc] 35)
  have HF := Lib.hid (fits_any (k := k) (nd := nd) (tx := tx) (hh.below hb) hl hnm hzn)
  have HB := Lib.hid hb
  generalize fitB k nd nm tx zn H = r at *
  generalize H.length = m at *
  clear hb hh
  go_enter Try.func17, Try.ntmps17
  go_upto_region 1 with fail
  generalize w.alloc _ = wA at *
  obtain ⟨c0, c1, c2, c3, c4, c5⟩ := c6 HC.out
  go_wp2_with fail
  refine HF.out.mono ?_
  rintro e w2 ⟨rfl, hb2⟩
  have HB2 := Lib.hid (HB.out.trans (hb2.mono HB.out.size))
  clear hb2
  cases r
  all_goals
    go_wp2
    go_ret
    exact ⟨rfl, HB2.out⟩
end Go.Proofs.Ytjoplnkagfkffaa
