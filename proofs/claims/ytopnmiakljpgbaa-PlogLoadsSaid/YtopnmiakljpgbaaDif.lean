/-
  The first place where two lists of entries differ by a test.
-/
import Derived.Test.YtopnmiakljpgbaaGets
namespace Go.Proofs.Ytopnmiakljpgbaa
open Go.RowKit
def sameT (x y : En) : Bool := decide (x.term = y.term)
def sameA (x y : En) : Bool := decide (x = y)
theorem sameT_any (x y : En) (w : World) : Calls Try.prog 65 #[x.v, y.v] w fun e w' => e = .returned (.bool (sameT x y)) ∧ Below w.heap.size w w' := by
  obtain ⟨x0, x1, x2⟩ := x
  obtain ⟨y0, y1, y2⟩ := y
  have hb := (two_new w #[it x0, it x1, .string x2] #[it y0, it y1, .string y2] 31 31).2.2.2
  unfold sameT
  by_cases h : x0 = y0
  · subst h
    go_enter Try.func65, Try.ntmps65
    go_wp2
    go_ret
    exact ⟨congrArg (fun b => Ending.returned (Value.bool b)) (by simp), hb⟩
  · have q : (x0 == y0) = false := by simpa using h
    go_enter Try.func65, Try.ntmps65
    go_wp2
    go_ret
    exact ⟨congrArg (fun b => Ending.returned (Value.bool b)) (by simp [h]), hb⟩
theorem tl_eq {s t : ByteArray} : s.toList = t.toList ↔ s = t := by
  refine ⟨fun e => ?_, fun e => by rw [e]⟩
  rw [ByteArray.toList_eq, ByteArray.toList_eq] at e
  exact ByteArray.ext (Array.toList_inj.1 e)
theorem sameA_any (x y : En) (w : World) : Calls Try.prog 50 #[x.v, y.v] w fun e w' => e = .returned (.bool (sameA x y)) ∧ Below w.heap.size w w' := by
  obtain ⟨x0, x1, x2⟩ := x
  obtain ⟨y0, y1, y2⟩ := y
  unfold sameA
  have hk : decide ((⟨x0, x1, x2⟩ : En) = ⟨y0, y1, y2⟩) = (decide (x0 = y0) && decide (x1 = y1) && decide (x2.toList = y2.toList)) := by
    simp only [En.mk.injEq, tl_eq, Bool.decide_and, Bool.and_assoc]
  rw [hk]
  clear hk
  go_enter Try.func50, Try.ntmps50
  go_wp2
  all_goals
    go_ret
    exact ⟨congrArg (fun b => Ending.returned (Value.bool b)) (by simp_all), (two_new w _ _ _ _).2.2.2⟩
theorem RdE.shape {w : World} {v : Value} {L : List En} (h : RdE w v L) : ∃ a cap, v = .slice a L.length cap ∧ L.length ≤ cap ∧ cap ≤ maxLen := let ⟨a, cap, e, h1, h2, _⟩ := h; ⟨a, cap, e, h1, h2⟩
/-- The first place where two lists differ by a test. -/
def dif {α : Type} (T : α → α → Bool) : List α → List α → Nat
  | a :: r, b :: s => if T a b = true then dif T r s + 1 else 0
  | _, _ => 0
theorem dif_le {α : Type} (T : α → α → Bool) : ∀ A B : List α, dif T A B ≤ A.length ∧ dif T A B ≤ B.length
  | [], _ => ⟨Nat.zero_le _, Nat.zero_le _⟩
  | _ :: _, [] => ⟨Nat.zero_le _, Nat.zero_le _⟩
  | a :: r, b :: s => by
    have := dif_le T r s
    unfold dif
    split
    · simp; omega
    · simp
theorem dif_step {α : Type} (T : α → α → Bool) : ∀ (A B : List α) (k : Nat) (x y : α), A[k]? = some x → B[k]? = some y → (∀ (i : Nat) a b, i < k → A[i]? = some a → B[i]? = some b → T a b = true) → T x y = false → dif T A B = k
  | a :: r, b :: s, 0, x, y, hx, hy, _, ht => by
    have e1 : a = x := by simpa using hx
    have e2 : b = y := by simpa using hy
    subst e1 e2
    unfold dif
    rw [if_neg (by rw [ht]; decide)]
  | a :: r, b :: s, k + 1, x, y, hx, hy, hp, ht => by
    have h0 := hp 0 a b (Nat.succ_pos _) rfl rfl
    unfold dif
    rw [if_pos h0, dif_step T r s k x y (by simpa using hx) (by simpa using hy) (fun i a b hi ha hb => hp (i + 1) a b (by omega) (by simpa using ha) (by simpa using hb)) ht]
  | [], _, _, _, _, hx, _, _, _ => by simp at hx
  | _ :: _, [], _, _, _, _, hy, _, _ => by simp at hy
theorem dif_end {α : Type} (T : α → α → Bool) : ∀ (A B : List α), (∀ (i : Nat) a b, A[i]? = some a → B[i]? = some b → T a b = true) → dif T A B = min A.length B.length
  | [], _, _ => by simp [dif]
  | _ :: _, [], _ => by simp [dif]
  | a :: r, b :: s, hp => by
    unfold dif
    rw [if_pos (hp 0 a b rfl rfl), dif_end T r s (fun i x y hx hy => hp (i + 1) x y (by simpa using hx) (by simpa using hy))]
    simp
theorem info31 : (Try.prog.info? 31).map (fun i => (i.zero, i.size, i.bytes)) = some (some (.agg #[it 0, it 0, .string ⟨#[]⟩]), 3, 32) := by kernel_rfl
theorem idx_run (g o n cap k : Nat) (hk : k < n) : ∀ w : World, (Instr.indexAt 22 (.slice (some ⟨g, o, none⟩) n cap) (it (k : Int))).run Try.prog w = .ok (.pointer (some ⟨g, o + k * 3, none⟩)) w := by
  intro w
  obtain ⟨i, hi, hz0, hz1, hz2⟩ := info_parts info31
  have e : (⟨g, o, none⟩ : Addr).add (k * 3) = ⟨g, o + k * 3, none⟩ := by
    unfold Addr.add
    split
    · rename_i h; rw [h]; rfl
    · rfl
  simp [Instr.indexAt, run_underlying Try.underlying22, asIntOf, sizeOf, typeInfo, hi, hz1, hk, e]
set_option maxRecDepth 100000 in
set_option maxHeartbeats 3200000 in
theorem difT_any {w : World} {v u : Value} {A B : List En} (hv : RdE w v A) (hu : RdE w u B) (hl : A.length ≤ 1000000) (hm : B.length ≤ 1000000) :
    Calls Try.prog 49 #[v, u, .func (.func 65) #[] #[]] w fun e w' => e = .returned (it (dif sameT A B : Nat)) ∧ Below w.heap.size w w' := by
  obtain ⟨va, vc, rfl, _⟩ := hv.shape
  obtain ⟨ua, uc, rfl, _⟩ := hu.shape
  have HV := Lib.hid hv
  have HU := Lib.hid hu
  obtain ⟨R, hR⟩ : ∃ R, R = dif sameT A B := ⟨_, rfl⟩
  have HR := Lib.hid hR
  rw [← hR]
  obtain ⟨n, hn⟩ : ∃ n, n = A.length := ⟨_, rfl⟩
  obtain ⟨m, hm'⟩ : ∃ m, m = B.length := ⟨_, rfl⟩
  have HN := Lib.hid hn
  have HM := Lib.hid hm'
  rw [← hn] at HV hl ⊢
  rw [← hm'] at HU hm ⊢
  clear hv hu hR hn hm'
  obtain ⟨z, hz⟩ : ∃ z : Nat, z = min n m := ⟨_, rfl⟩
  have HZ := Lib.hid hz
  have hz1 : z ≤ 1000000 := by omega
  clear hz
  go_enter Try.func49, Try.ntmps49
  go_upto_region 1 with fail
  go_cut [7] from 9 to 13 (fun c wx => c = it (z : Int) ∧ w = wx)
  case first =>
    have hz := HZ.out
    go_wp2
    all_goals
      go_meet
      exact ⟨congrArg it (by omega), rfl⟩
  case rest =>
    obtain ⟨rfl, rfl⟩ := hcut
    skip
    go_wp2
    go_loopw [8, 15] (fun _ i wr => ∃ k : Nat, k ≤ z ∧ i = it (k : Int) ∧ (∀ (i : Nat) a b, i < k → A[i]? = some a → B[i]? = some b → sameT a b = true) ∧ Below w.heap.size w wr) (fun _ i _ => z - (intOf i).toNat)
    case atStart => exact ⟨0, by omega, rfl, (fun i a b hi => absurd hi (Nat.not_lt_zero _)), Below.refl _ _⟩
    case round =>
      obtain ⟨k, hk, rfl, hP, hbr⟩ := hrel
      have HP := Lib.hid hP
      have HB := Lib.hid hbr
      by_cases hlt : k < z
      · have q : (k : Int) < (z : Int) := by omega
        obtain ⟨x, hx⟩ : ∃ x, A[k]? = some x := ⟨_, List.getElem?_eq_getElem (by have := HN.out; have := HZ.out; omega)⟩
        obtain ⟨y, hy⟩ : ∃ y, B[k]? = some y := ⟨_, List.getElem?_eq_getElem (by have := HM.out; have := HZ.out; omega)⟩
        obtain ⟨e1, g, o, rfl, hg, c0, c1, c2⟩ := HV.out.at hx
        obtain ⟨e2, g', o', rfl, hg', d0, d1, d2⟩ := HU.out.at hy
        clear e1 e2
        have HK : Hid (∀ w', Below w.heap.size w w' → w'.cell? ⟨g, o + k * 3, none⟩ = some (it x.term) ∧ w'.cell? ⟨g, o + k * 3 + 1, none⟩ = some (it x.kind) ∧ w'.cell? ⟨g, o + k * 3 + 2, none⟩ = some (.string x.data) ∧
            w'.cell? ⟨g', o' + k * 3, none⟩ = some (it y.term) ∧ w'.cell? ⟨g', o' + k * 3 + 1, none⟩ = some (it y.kind) ∧ w'.cell? ⟨g', o' + k * 3 + 2, none⟩ = some (.string y.data)) := Lib.hid (fun w' hb =>
          ⟨(hb.cell (p := ⟨g, o + k * 3, none⟩) hg).trans c0, (hb.cell (p := ⟨g, o + k * 3 + 1, none⟩) hg).trans c1, (hb.cell (p := ⟨g, o + k * 3 + 2, none⟩) hg).trans c2,
           (hb.cell (p := ⟨g', o' + k * 3, none⟩) hg').trans d0, (hb.cell (p := ⟨g', o' + k * 3 + 1, none⟩) hg').trans d1, (hb.cell (p := ⟨g', o' + k * 3 + 2, none⟩) hg').trans d2⟩)
        have HX := Lib.hid hx
        have HY := Lib.hid hy
        obtain ⟨t, ht⟩ : ∃ t, t = sameT x y := ⟨_, rfl⟩
        have HT := Lib.hid ht
        have HC := Lib.hid (fun w' => sameT_any x y w')
        rw [← ht] at HC
        have H0 : Hid (Below w.heap.size w wr.drew) := Lib.hid hbr.drew
        have q1 : k < n := by have := HZ.out; omega
        have q2 : k < m := by have := HZ.out; omega
        have q1' : (k : Int) < (n : Int) := by omega
        have q2' : (k : Int) < (m : Int) := by omega
        have q0 : (0 : Int) ≤ (k : Int) := by omega
        have I1 := idx_run g o n vc k q1
        have I2 := idx_run g' o' m uc k q2
        clear hP hbr hx hy c0 c1 c2 d0 d1 d2 ht
        go_upto_region 5 with fail
        go_region_held3 (fun w' => w'.cell? ⟨g, o + k * 3, none⟩ = some (it x.term) ∧ w'.cell? ⟨g, o + k * 3 + 1, none⟩ = some (it x.kind) ∧ w'.cell? ⟨g, o + k * 3 + 2, none⟩ = some (.string x.data) ∧
            w'.cell? ⟨g', o' + k * 3, none⟩ = some (it y.term) ∧ w'.cell? ⟨g', o' + k * 3 + 1, none⟩ = some (it y.kind) ∧ w'.cell? ⟨g', o' + k * 3 + 2, none⟩ = some (.string y.data))
          (first | with_reducible exact HK.out _ HB2.out | with_reducible exact HK.out _ H0.out | fail)
          (first | (go_at_call 65; refine (HC.out _).mono ?_; rintro e w2 ⟨rfl, hb2⟩; have HB2 : Hid (Below w.heap.size w w2) := Lib.hid (H0.out.trans (hb2.mono H0.out.size)); clear hb2) | fail)
        all_goals
          cases t with
          | true =>
            have hrel : ∀ (i : Nat) (a b : En), i < k + 1 → A[i]? = some a → B[i]? = some b → sameT a b = true := by
              intro i a b hi ha hb
              by_cases e : i = k
              · subst e
                have e1 : x = a := by have := HX.out; rw [ha] at this; exact (Option.some.inj this).symm
                have e2 : y = b := by have := HY.out; rw [hb] at this; exact (Option.some.inj this).symm
                rw [← e1, ← e2, ← HT.out]
              · exact HP.out i a b (by omega) ha hb
            have HREL := Lib.hid hrel
            clear hrel
            go_wp2
            go_roundw
            case rel => exact ⟨k + 1, by omega, by go_num, HREL.out, HB2.out⟩
            case measure => simp [intOf]; omega
          | false =>
            have HR2 : Hid (R = k) := Lib.hid (by rw [HR.out]; exact dif_step _ A B k x y HX.out HY.out HP.out HT.out.symm)
            go_wp2
            go_ret
            exact ⟨by rw [HR2.out]; rfl, HB2.out⟩
      · have q : decide ((k : Int) < (z : Int)) = false := by simp; omega
        have hz : k = z := by omega
        have HR2 : Hid (R = z) := Lib.hid (by rw [HR.out, dif_end _ _ _ (fun i a b ha hb => HP.out i a b (by have h1 := (List.getElem?_eq_some_iff.1 ha).1; have h2 := (List.getElem?_eq_some_iff.1 hb).1; have := HN.out; have := HM.out; have := HZ.out; omega) ha hb), ← HN.out, ← HM.out, ← HZ.out])
        clear hP hbr
        go_wp2
        go_ret
        exact ⟨by rw [HR2.out]; rfl, HB.out⟩
set_option maxRecDepth 100000 in
set_option maxHeartbeats 3200000 in
theorem difA_any {w : World} {v u : Value} {A B : List En} (hv : RdE w v A) (hu : RdE w u B) (hl : A.length ≤ 1000000) (hm : B.length ≤ 1000000) :
    Calls Try.prog 49 #[v, u, .func (.func 50) #[] #[]] w fun e w' => e = .returned (it (dif sameA A B : Nat)) ∧ Below w.heap.size w w' := by
  obtain ⟨va, vc, rfl, _⟩ := hv.shape
  obtain ⟨ua, uc, rfl, _⟩ := hu.shape
  have HV := Lib.hid hv
  have HU := Lib.hid hu
  obtain ⟨R, hR⟩ : ∃ R, R = dif sameA A B := ⟨_, rfl⟩
  have HR := Lib.hid hR
  rw [← hR]
  obtain ⟨n, hn⟩ : ∃ n, n = A.length := ⟨_, rfl⟩
  obtain ⟨m, hm'⟩ : ∃ m, m = B.length := ⟨_, rfl⟩
  have HN := Lib.hid hn
  have HM := Lib.hid hm'
  rw [← hn] at HV hl ⊢
  rw [← hm'] at HU hm ⊢
  clear hv hu hR hn hm'
  obtain ⟨z, hz⟩ : ∃ z : Nat, z = min n m := ⟨_, rfl⟩
  have HZ := Lib.hid hz
  have hz1 : z ≤ 1000000 := by omega
  clear hz
  go_enter Try.func49, Try.ntmps49
  go_upto_region 1 with fail
  go_cut [7] from 9 to 13 (fun c wx => c = it (z : Int) ∧ w = wx)
  case first =>
    have hz := HZ.out
    go_wp2
    all_goals
      go_meet
      exact ⟨congrArg it (by omega), rfl⟩
  case rest =>
    obtain ⟨rfl, rfl⟩ := hcut
    skip
    go_wp2
    go_loopw [8, 15] (fun _ i wr => ∃ k : Nat, k ≤ z ∧ i = it (k : Int) ∧ (∀ (i : Nat) a b, i < k → A[i]? = some a → B[i]? = some b → sameA a b = true) ∧ Below w.heap.size w wr) (fun _ i _ => z - (intOf i).toNat)
    case atStart => exact ⟨0, by omega, rfl, (fun i a b hi => absurd hi (Nat.not_lt_zero _)), Below.refl _ _⟩
    case round =>
      obtain ⟨k, hk, rfl, hP, hbr⟩ := hrel
      have HP := Lib.hid hP
      have HB := Lib.hid hbr
      by_cases hlt : k < z
      · have q : (k : Int) < (z : Int) := by omega
        obtain ⟨x, hx⟩ : ∃ x, A[k]? = some x := ⟨_, List.getElem?_eq_getElem (by have := HN.out; have := HZ.out; omega)⟩
        obtain ⟨y, hy⟩ : ∃ y, B[k]? = some y := ⟨_, List.getElem?_eq_getElem (by have := HM.out; have := HZ.out; omega)⟩
        obtain ⟨e1, g, o, rfl, hg, c0, c1, c2⟩ := HV.out.at hx
        obtain ⟨e2, g', o', rfl, hg', d0, d1, d2⟩ := HU.out.at hy
        clear e1 e2
        have HK : Hid (∀ w', Below w.heap.size w w' → w'.cell? ⟨g, o + k * 3, none⟩ = some (it x.term) ∧ w'.cell? ⟨g, o + k * 3 + 1, none⟩ = some (it x.kind) ∧ w'.cell? ⟨g, o + k * 3 + 2, none⟩ = some (.string x.data) ∧
            w'.cell? ⟨g', o' + k * 3, none⟩ = some (it y.term) ∧ w'.cell? ⟨g', o' + k * 3 + 1, none⟩ = some (it y.kind) ∧ w'.cell? ⟨g', o' + k * 3 + 2, none⟩ = some (.string y.data)) := Lib.hid (fun w' hb =>
          ⟨(hb.cell (p := ⟨g, o + k * 3, none⟩) hg).trans c0, (hb.cell (p := ⟨g, o + k * 3 + 1, none⟩) hg).trans c1, (hb.cell (p := ⟨g, o + k * 3 + 2, none⟩) hg).trans c2,
           (hb.cell (p := ⟨g', o' + k * 3, none⟩) hg').trans d0, (hb.cell (p := ⟨g', o' + k * 3 + 1, none⟩) hg').trans d1, (hb.cell (p := ⟨g', o' + k * 3 + 2, none⟩) hg').trans d2⟩)
        have HX := Lib.hid hx
        have HY := Lib.hid hy
        obtain ⟨t, ht⟩ : ∃ t, t = sameA x y := ⟨_, rfl⟩
        have HT := Lib.hid ht
        have HC := Lib.hid (fun w' => sameA_any x y w')
        rw [← ht] at HC
        have H0 : Hid (Below w.heap.size w wr.drew) := Lib.hid hbr.drew
        have q1 : k < n := by have := HZ.out; omega
        have q2 : k < m := by have := HZ.out; omega
        have q1' : (k : Int) < (n : Int) := by omega
        have q2' : (k : Int) < (m : Int) := by omega
        have q0 : (0 : Int) ≤ (k : Int) := by omega
        have I1 := idx_run g o n vc k q1
        have I2 := idx_run g' o' m uc k q2
        clear hP hbr hx hy c0 c1 c2 d0 d1 d2 ht
        go_upto_region 5 with fail
        go_region_held3 (fun w' => w'.cell? ⟨g, o + k * 3, none⟩ = some (it x.term) ∧ w'.cell? ⟨g, o + k * 3 + 1, none⟩ = some (it x.kind) ∧ w'.cell? ⟨g, o + k * 3 + 2, none⟩ = some (.string x.data) ∧
            w'.cell? ⟨g', o' + k * 3, none⟩ = some (it y.term) ∧ w'.cell? ⟨g', o' + k * 3 + 1, none⟩ = some (it y.kind) ∧ w'.cell? ⟨g', o' + k * 3 + 2, none⟩ = some (.string y.data))
          (first | with_reducible exact HK.out _ HB2.out | with_reducible exact HK.out _ H0.out | fail)
          (first | (go_at_call 50; refine (HC.out _).mono ?_; rintro e w2 ⟨rfl, hb2⟩; have HB2 : Hid (Below w.heap.size w w2) := Lib.hid (H0.out.trans (hb2.mono H0.out.size)); clear hb2) | fail)
        all_goals
          cases t with
          | true =>
            have hrel : ∀ (i : Nat) (a b : En), i < k + 1 → A[i]? = some a → B[i]? = some b → sameA a b = true := by
              intro i a b hi ha hb
              by_cases e : i = k
              · subst e
                have e1 : x = a := by have := HX.out; rw [ha] at this; exact (Option.some.inj this).symm
                have e2 : y = b := by have := HY.out; rw [hb] at this; exact (Option.some.inj this).symm
                rw [← e1, ← e2, ← HT.out]
              · exact HP.out i a b (by omega) ha hb
            have HREL := Lib.hid hrel
            clear hrel
            go_wp2
            go_roundw
            case rel => exact ⟨k + 1, by omega, by go_num, HREL.out, HB2.out⟩
            case measure => simp [intOf]; omega
          | false =>
            have HR2 : Hid (R = k) := Lib.hid (by rw [HR.out]; exact dif_step _ A B k x y HX.out HY.out HP.out HT.out.symm)
            go_wp2
            go_ret
            exact ⟨by rw [HR2.out]; rfl, HB2.out⟩
      · have q : decide ((k : Int) < (z : Int)) = false := by simp; omega
        have hz : k = z := by omega
        have HR2 : Hid (R = z) := Lib.hid (by rw [HR.out, dif_end _ _ _ (fun i a b ha hb => HP.out i a b (by have h1 := (List.getElem?_eq_some_iff.1 ha).1; have h2 := (List.getElem?_eq_some_iff.1 hb).1; have := HN.out; have := HM.out; have := HZ.out; omega) ha hb), ← HN.out, ← HM.out, ← HZ.out])
        clear hP hbr
        go_wp2
        go_ret
        exact ⟨by rw [HR2.out]; rfl, HB.out⟩
end Go.Proofs.Ytopnmiakljpgbaa
