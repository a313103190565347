/-
  Loading: the state that records make.
-/
import Derived.Test.YtopnmiakljpgbaaRestore
import Derived.Test.YtopnmiakljpgbaaSave
namespace Go.Proofs.Ytopnmiakljpgbaa
open Go.RowKit
def ldF (S : Hs) : List Bs → Option Hs
  | [] => some S
  | r :: rs => (stp S r).bind fun S' => ldF S' rs
theorem ldF_snoc (r : Bs) : ∀ (A : List Bs) (S : Hs), ldF S (A ++ [r]) = (ldF S A).bind fun S' => stp S' r
  | [], S => by
    show (stp S r).bind (fun S' => some S') = stp S r
    cases stp S r <;> rfl
  | a :: A, S => by
    show (stp S a).bind (fun S' => ldF S' (A ++ [r])) = ((stp S a).bind fun S' => ldF S' A).bind fun S' => stp S' r
    cases stp S a with
    | none => rfl
    | some S' => exact ldF_snoc r A S'
theorem ldF_app : ∀ (A B : List Bs) (S : Hs), ldF S (A ++ B) = (ldF S A).bind fun S' => ldF S' B
  | [], B, S => rfl
  | a :: A, B, S => by
    show (stp S a).bind (fun S' => ldF S' (A ++ B)) = ((stp S a).bind fun S' => ldF S' A).bind fun S' => ldF S' B
    cases stp S a with
    | none => rfl
    | some S' => exact ldF_app A B S'
def isW : Bs → Bool
  | [] => false
  | c :: _ => c == 87
def ld : List Bs → Option Hs
  | [] => some Hs.zero
  | r :: rs => if isW r = true then ldF Hs.zero (r :: rs) else none
def ldok (S : Hs) : Bool := chk S.ba S.bt S.L && idx S.t && idx S.vo
def loadM (T : List Bs) : Option Hs := (ld T).bind fun S => if ldok S = true then some S else none
theorem num1_len {r : Bs} {p : Int × Bs} (h : num1 r = some p) : p.2.length ≤ r.length := by
  have := (num1_ge h).2.2.1
  rw [this, List.length_drop]; omega
theorem byt1_len {r : Bs} {k : Int} {p : Bs × Bs} (h : byt1 r k = some p) : p.1.length ≤ r.length ∧ p.2.length ≤ r.length := by
  unfold byt1 at h
  split at h
  · cases h
    exact ⟨by rw [List.length_take]; omega, by rw [List.length_drop]; omega⟩
  · cases h
/-- What always holds. -/
def Hs.Ok (S : Hs) (k : Nat) : Prop := 0 ≤ S.ba ∧ S.ba ≤ 2199023255552 ∧ S.L.length ≤ k ∧ ∀ e ∈ S.L, e.data.size ≤ 1000000
theorem stp_ok {S S' : Hs} {k : Nat} {rec : Bs} (h : S.Ok k) (hr : rec.length ≤ 1000000) (hs : stp S rec = some S') : S'.Ok (k + 1) := by
  obtain ⟨h1, h2, h3, h4⟩ := h
  cases rec with
  | nil => cases hs
  | cons c r =>
    have hrl : r.length ≤ 1000000 := by simp at hr; omega
    have hs : (if c = 87 then stW r else if c = 84 then stT S r else if c = 69 then stE S r else none) = some S' := hs
    split at hs
    · unfold stW at hs
      obtain ⟨t, _, hs⟩ := Option.bind_eq_some_iff.1 hs
      obtain ⟨vo, _, hs⟩ := Option.bind_eq_some_iff.1 hs
      obtain ⟨ba, hba, hs⟩ := Option.bind_eq_some_iff.1 hs
      obtain ⟨bt, _, hs⟩ := Option.bind_eq_some_iff.1 hs
      obtain ⟨n, _, hs⟩ := Option.bind_eq_some_iff.1 hs
      obtain ⟨d, _, hs⟩ := Option.bind_eq_some_iff.1 hs
      obtain ⟨m, _, hs⟩ := Option.bind_eq_some_iff.1 hs
      obtain ⟨s, _, hs⟩ := Option.bind_eq_some_iff.1 hs
      split at hs
      · cases hs
        have := num1_ge hba
        exact ⟨this.1, by show ba.1 ≤ _; omega, Nat.zero_le _, fun e he => by cases he⟩
      · cases hs
    · split at hs
      · unfold stT at hs
        obtain ⟨p, _, hs⟩ := Option.bind_eq_some_iff.1 hs
        obtain ⟨q, _, hs⟩ := Option.bind_eq_some_iff.1 hs
        split at hs
        · cases hs
          exact ⟨h1, h2, Nat.le_succ_of_le h3, h4⟩
        · cases hs
      · split at hs
        · unfold stE at hs
          obtain ⟨p, hp, hs⟩ := Option.bind_eq_some_iff.1 hs
          obtain ⟨q, hq, hs⟩ := Option.bind_eq_some_iff.1 hs
          obtain ⟨b, hb, hs⟩ := Option.bind_eq_some_iff.1 hs
          split at hs
          · cases hs
            refine ⟨h1, h2, ?_, ?_⟩
            · show (S.L.take _ ++ [_]).length ≤ k + 1
              rw [List.length_append, List.length_take]
              simp
              omega
            · intro e he
              rcases List.mem_append.1 he with he | he
              · exact h4 e (List.mem_of_mem_take he)
              · obtain rfl := List.mem_singleton.1 he
                show (⟨b.2.toArray⟩ : ByteArray).size ≤ _
                rw [ba_len']
                have := num1_len hp
                have := num1_len hq
                have := (byt1_len hb).2
                omega
          · cases hs
        · cases hs
theorem resHt {fn : Func} {w : World} {tmps : Array Value} {n : Nat} {v0 v1 v2 v3 v4 v5 v6 : Value} {t u : Tmp} (h : fn.results = #[.cell t 42, .tmp u]) (e1 : tmps.getD t undef = ptr n) (h1 : Ce w n 42 #[v0, v1, v2, v3, v4, v5, v6]) :
    (results fn tmps).run Try.prog w = .ok (.tuple #[.agg #[v0, v1, v2, v3, v4, v5, v6], tmps.getD u undef]) w := by
  obtain ⟨a0, a1, a2, a3, a4, a5, a6⟩ := c7 h1
  rw [Array.getD_eq_getD_getElem?] at e1
  simp [results, h, e1, go_sem, a0, a1, a2, a3, a4, a5, a6]
theorem form_any (r : Bs) (hr : r.length ≤ 1000000) (w : World) : Calls Try.prog 58 #[str r] w fun e w' => e = .returned (str (r.take 1)) ∧ w = w' := by
  cases r with
  | nil => exact form_nil w
  | cons c r => exact form_cons c r (by simp at hr; omega) w
theorem isW_take (r : Bs) : (r.take 1 == [87]) = isW r := by
  cases r with
  | nil => rfl
  | cons c r =>
    show ([c] == [87]) = (c == 87)
    simp
theorem loadM_cons (r : Bs) (rs : List Bs) : loadM (r :: rs) = (if isW r = true then ldF Hs.zero (r :: rs) else none).bind fun S => if ldok S = true then some S else none := rfl
theorem load_fail {T : List Bs} {j : Nat} (h : ldF Hs.zero (T.take j) = none) : loadM T = none := by
  cases T with
  | nil => rw [List.take_nil] at h; cases h
  | cons r rs =>
    rw [loadM_cons]
    by_cases hw : isW r = true
    · rw [if_pos hw, ← List.take_append_drop j (r :: rs), ldF_app, h]; rfl
    · rw [if_neg hw]; rfl
theorem load_notW {r : Bs} {rs : List Bs} (h : isW r = false) : loadM (r :: rs) = none := by
  rw [loadM_cons, h]; rfl
theorem load_all {T : List Bs} {S : Hs} (h : ldF Hs.zero T = some S) (hw : 0 < T.length → ∃ r rs, T = r :: rs ∧ isW r = true) : loadM T = if ldok S = true then some S else none := by
  cases T with
  | nil => cases h; rfl
  | cons r rs =>
    obtain ⟨r', rs', e, hw⟩ := hw (by simp)
    cases e
    rw [loadM_cons, if_pos hw, h]; rfl
/-- What loading tells. -/
def LoadR (T : List Bs) (S : Hs) (er : Int) : Prop := match loadM T with | some S0 => er = 0 ∧ S = S0 | none => er = 10 ∧ S = Hs.zero
theorem LoadR.no {T : List Bs} (h : loadM T = none) : LoadR T Hs.zero 10 := by unfold LoadR; rw [h]; exact ⟨rfl, rfl⟩
theorem LoadR.yes {T : List Bs} {S : Hs} (h : loadM T = some S) : LoadR T S 0 := by unfold LoadR; rw [h]; exact ⟨rfl, rfl⟩
abbrev zerosH : Array Value := #[it 0, it 0, .slice none 0 0, .string ⟨#[]⟩, it 0, it 0, .slice none 0 0]
set_option maxRecDepth 100000 in
set_option maxHeartbeats 12800000 in
theorem load_any {w : World} {v : Value} {T : List Bs} (hvv : RdV w v (tv T)) (hl : T.length ≤ 5000) (hd : ∀ b ∈ T, b.length ≤ 1000000) :
    Calls Try.prog 35 #[v] w fun e w' => ∃ S vs es er, e = .returned (.tuple #[hv S.t S.vo vs S.sn S.ba S.bt es, it er]) ∧ RdN w' vs S.V ∧ RdE w' es S.L ∧ Below w.heap.size w w' ∧ LoadR T S er := by
  obtain ⟨va, vc, rfl, _⟩ := hvv.shape
  have HV := Lib.hid hvv
  have HDD := Lib.hid hd
  obtain ⟨m, hm⟩ : ∃ m, m = (tv T).length := ⟨_, rfl⟩
  have hm2 : m = T.length := by rw [hm, List.length_map]
  have HM := Lib.hid hm2
  rw [← hm] at HV ⊢
  have HA := Lib.hid (two_new w zerosH zerosH 42 42)
  have hm5 : m ≤ 5000 := by omega
  have HM5 := Lib.hid hm5
  clear hvv hd hm hm2 hm5 hl
  go_enter Try.func35, Try.ntmps35
  go_upto_region 2 with fail
  generalize (w.alloc _).alloc _ = wA at *
  obtain ⟨B, hB⟩ : ∃ B, B = w.heap.size := ⟨_, rfl⟩
  have HBB := Lib.hid hB
  rw [← hB] at HA ⊢
  clear hB
  have HW : Hid (Below B w wA) := Lib.hid HA.out.2.2.2
  have HZ : Hid (wA.heap.size = B + 2) := Lib.hid HA.out.2.2.1
  have HR0 : Hid (Ce wA B 42 zerosH) := Lib.hid HA.out.1
  have HI0 : Hid (HvI wA (B + 1) Hs.zero) := Lib.hid ⟨_, _, HA.out.2.1, OwnV.nil _ _ _, ownE_nil _ _⟩
  clear HA
  go_upto_region 3 with fail
  go_loopw [5, 6, 9] (fun _ _ i wr => ∃ (k : Nat) (S : Hs), k ≤ m ∧ i = it (k : Int) ∧ HvI wr (B + 1) S ∧ Below (B + 1) wA wr ∧ S.Ok k ∧ ldF Hs.zero (T.take k) = some S ∧ (0 < k → ∃ r rs, T = r :: rs ∧ isW r = true)) (fun _ _ i _ => m - (intOf i).toNat)
  case atStart => exact ⟨0, Hs.zero, by omega, rfl, HI0.out, Below.refl _ _, ⟨by decide, by decide, Nat.le_refl _, fun e he => by cases he⟩, rfl, fun h => absurd h (by decide)⟩
  case round =>
    obtain ⟨k, S, hk, rfl, hI, hbr, hok, hld, hw⟩ := hrel
    have HI := Lib.hid hI
    have HBR := Lib.hid hbr
    have HOK := Lib.hid hok
    have HLD := Lib.hid hld
    have HWW := Lib.hid hw
    have HBW : Hid (Below w.heap.size w wr) := Lib.hid (by rw [← HBB.out]; exact HW.out.trans (hbr.mono (Nat.le_succ _)))
    have HR := Lib.hid (show Ce wr B 42 zerosH from (hbr.block B (Nat.lt_succ_self _)).trans HR0.out)
    clear hI hbr hok hld hw
    by_cases hlt : k < m
    · have p1 : (k : Int) < (m : Int) := by omega
      have hm5 := HM5.out
      obtain ⟨r, hr⟩ : ∃ r, T[k]? = some r := ⟨_, List.getElem?_eq_getElem (by have := HM.out; omega)⟩
      have hrl : r.length ≤ 1000000 := HDD.out r (List.mem_of_getElem? hr)
      have hr' : (tv T)[k]? = some (str r) := by rw [List.getElem?_map, hr]; rfl
      obtain ⟨e1, g, o, rfl, hg, c0⟩ := HV.out.at hr'
      have c0 := (HBW.out.cell (p := ⟨g, o + k, none⟩) hg).trans c0
      have FO := Lib.hid (form_any r hrl wr)
      have RS := Lib.hid (restore_any (H := B + 1) (S := S) HI.out ⟨HOK.out.1, by have := HOK.out.2.1; omega⟩ (by have := HOK.out.2.2.1; omega) r hrl)
      have HSN := Lib.hid (ldF_snoc r (T.take k) Hs.zero)
      rw [← take_succ_of hr, HLD.out] at HSN
      have HRL := Lib.hid hrl
      have HRR := Lib.hid hr
      obtain ⟨R, hR⟩ : ∃ R : ByteArray, R = ⟨r.toArray⟩ := ⟨_, rfl⟩
      obtain ⟨E, hE⟩ : ∃ E : ByteArray, E = ⟨(r.take 1).toArray⟩ := ⟨_, rfl⟩
      obtain ⟨iw, hiw⟩ : ∃ iw, iw = isW r := ⟨_, rfl⟩
      have t1 : (E.toList == [87]) = iw := by rw [ByteArray.toList_eq, hE, hiw]; exact isW_take r
      unfold str at FO RS c0
      rw [← hR] at FO RS c0
      rw [← hE] at FO
      have HIW := Lib.hid hiw
      clear hr hr' hrl e1 hR hE hiw
      have HWr : Hid (Below B w wr) := Lib.hid (by rw [HBB.out]; exact HBW.out)
      by_cases hk0 : k = 0
      · have qk : ((k : Int) == 0) = true := by rw [hk0]; rfl
        have HT : Hid (∃ rs, T = r :: rs) := Lib.hid (by
          have := HRR.out
          rw [hk0] at this
          cases T with
          | nil => simp at this
          | cons a rs => simp at this; exact ⟨rs, by rw [this]⟩)
        clear hk0
        go_wp2_with fail
        refine FO.out.mono ?_
        rintro e w1 ⟨rfl, rfl⟩
        cases iw with
        | false =>
          have HBX := HWr
          have HRX := HR
          have HNO := Lib.hid (show loadM T = none from by obtain ⟨rs, hT⟩ := HT.out; rw [hT]; exact load_notW HIW.out.symm)
          obtain ⟨z0, z1, z2, z3, z4, z5, z6⟩ := c7 HRX.out
          obtain ⟨f2, f3', f4, f5, f6⟩ := f7 HRX.out
          obtain ⟨f0, f1⟩ := f7a HRX.out
          go_wp2
          refine bodyPost_ret (resHt rfl rfl (set7_ce HRX.out _ _ _ _ _ _ _)) rfl ?_
          have HBF := set7_below (n := B) (by rw [← HBB.out]; exact HBX.out) (by rw [← HBB.out]; exact Nat.le_refl _) (it 0) (it 0) (.slice none 0 0) (.string ⟨#[]⟩) (it 0) (it 0) (.slice none 0 0)
          exact ⟨Hs.zero, .slice none 0 0, .slice none 0 0, 10, rfl, RdN.nil _, RdE.nil _, HBF, LoadR.no HNO.out⟩
        | true =>
          go_wp2_with fail
          refine RS.out.mono ?_
          rintro e w2 ⟨b, S', rfl, h1, h2, h3⟩
          have HBX : Hid (Below B w w2) := Lib.hid (HWr.out.trans (h2.mono (Nat.le_succ _)))
          have HRX : Hid (Ce w2 B 42 zerosH) := Lib.hid ((h2.block B (Nat.lt_succ_self _)).trans HR.out)
          have H1 := Lib.hid h1
          have H2 := Lib.hid (HBR.out.trans h2)
          have H3 := Lib.hid h3
          clear h1 h2 h3
          cases b with
          | false =>
            have HNO := Lib.hid (show loadM T = none from load_fail (by rw [HSN.out]; show stp S r = none; rw [H3.out]; rfl))
            obtain ⟨z0, z1, z2, z3, z4, z5, z6⟩ := c7 HRX.out
            obtain ⟨f2, f3', f4, f5, f6⟩ := f7 HRX.out
            obtain ⟨f0, f1⟩ := f7a HRX.out
            go_wp2
            refine bodyPost_ret (resHt rfl rfl (set7_ce HRX.out _ _ _ _ _ _ _)) rfl ?_
            have HBF := set7_below (n := B) (by rw [← HBB.out]; exact HBX.out) (by rw [← HBB.out]; exact Nat.le_refl _) (it 0) (it 0) (.slice none 0 0) (.string ⟨#[]⟩) (it 0) (it 0) (.slice none 0 0)
            exact ⟨Hs.zero, .slice none 0 0, .slice none 0 0, 10, rfl, RdN.nil _, RdE.nil _, HBF, LoadR.no HNO.out⟩
          | true =>
            have HS3 : Hid (stp S r = some S') := Lib.hid (by rw [H3.out]; rfl)
            have hwk : IntKind.i64.wrap ((k : Int) + 1) = ((k + 1 : Nat) : Int) := by unfold IntKind.wrap; simp only [IntKind.bits, IntKind.signed]; simp; omega
            go_wp2
            go_roundw
            case rel => exact ⟨k + 1, S', by omega, rfl, H1.out, H2.out, stp_ok HOK.out HRL.out HS3.out, by rw [HSN.out]; exact HS3.out, fun _ => by obtain ⟨rs, hT⟩ := HT.out; exact ⟨r, rs, hT, HIW.out.symm⟩⟩
            case measure => simp [intOf]; omega
      · have qk : ((k : Int) == 0) = false := by simp; omega
        go_wp2_with fail
        refine RS.out.mono ?_
        rintro e w2 ⟨b, S', rfl, h1, h2, h3⟩
        have HBX : Hid (Below B w w2) := Lib.hid (HWr.out.trans (h2.mono (Nat.le_succ _)))
        have HRX : Hid (Ce w2 B 42 zerosH) := Lib.hid ((h2.block B (Nat.lt_succ_self _)).trans HR.out)
        have H1 := Lib.hid h1
        have H2 := Lib.hid (HBR.out.trans h2)
        have H3 := Lib.hid h3
        clear h1 h2 h3
        cases b with
        | false =>
          have HNO := Lib.hid (show loadM T = none from load_fail (by rw [HSN.out]; show stp S r = none; rw [H3.out]; rfl))
          obtain ⟨z0, z1, z2, z3, z4, z5, z6⟩ := c7 HRX.out
          obtain ⟨f2, f3', f4, f5, f6⟩ := f7 HRX.out
          obtain ⟨f0, f1⟩ := f7a HRX.out
          go_wp2
          refine bodyPost_ret (resHt rfl rfl (set7_ce HRX.out _ _ _ _ _ _ _)) rfl ?_
          have HBF := set7_below (n := B) (by rw [← HBB.out]; exact HBX.out) (by rw [← HBB.out]; exact Nat.le_refl _) (it 0) (it 0) (.slice none 0 0) (.string ⟨#[]⟩) (it 0) (it 0) (.slice none 0 0)
          exact ⟨Hs.zero, .slice none 0 0, .slice none 0 0, 10, rfl, RdN.nil _, RdE.nil _, HBF, LoadR.no HNO.out⟩
        | true =>
          have HS3 : Hid (stp S r = some S') := Lib.hid (by rw [H3.out]; rfl)
          have hwk : IntKind.i64.wrap ((k : Int) + 1) = ((k + 1 : Nat) : Int) := by unfold IntKind.wrap; simp only [IntKind.bits, IntKind.signed]; simp; omega
          go_wp2
          go_roundw
          case rel => exact ⟨k + 1, S', by omega, rfl, H1.out, H2.out, stp_ok HOK.out HRL.out HS3.out, by rw [HSN.out]; exact HS3.out, fun _ => HWW.out (by omega)⟩
          case measure => simp [intOf]; omega
    · have p1 : decide ((k : Int) < (m : Int)) = false := decide_eq_false (by omega)
      have p2 : decide (k < m) = false := decide_eq_false (by omega)
      have hld := HLD.out
      rw [show T.take k = T from List.take_of_length_le (by have := HM.out; omega)] at hld
      have HALL := Lib.hid (load_all hld (fun h => HWW.out (by have := HM.out; omega)))
      obtain ⟨vs, es, hC, hV, hE⟩ := HI.out
      obtain ⟨xa, xc, rfl, _⟩ := hV.shape
      obtain ⟨ya, yc, rfl, _⟩ := hE.rd.shape
      obtain ⟨t, vo, V, sn, ba, bt, L⟩ := S
      dsimp only at hC hV hE
      have CK := Lib.hid (check_any (base := ba) (bt := bt) hE.rd (by have := HOK.out.2.2.1; have := HM5.out; dsimp only at *; omega) HOK.out.2.2.2)
      obtain ⟨ce, hce⟩ : ∃ ce, ce = chk ba bt L := ⟨_, rfl⟩
      have hchE : chE ba bt L = if ce = true then 0 else 1 := by rw [hce]; rfl
      rw [hchE] at CK
      obtain ⟨it1, hit1⟩ : ∃ b, b = idx t := ⟨_, rfl⟩
      obtain ⟨iv1, hiv1⟩ : ∃ b, b = idx vo := ⟨_, rfl⟩
      have HOKB : Hid (ldok ⟨t, vo, V, sn, ba, bt, L⟩ = (ce && it1 && iv1)) := Lib.hid (by unfold ldok; rw [hce, hit1, hiv1])
      have I1 : Hid (∀ w', Calls Try.prog 47 #[it t] w' fun e w'' => e = .returned (.bool it1) ∧ w' = w'') := Lib.hid (fun w' => by rw [hit1]; exact idx_any t w')
      have I2 : Hid (∀ w', Calls Try.prog 47 #[it vo] w' fun e w'' => e = .returned (.bool iv1) ∧ w' = w'') := Lib.hid (fun w' => by rw [hiv1]; exact idx_any vo w')
      generalize (ivs V).length = zV at *
      generalize L.length = zL at *
      have HC := Lib.hid hC
      have HVV := Lib.hid hV
      have HEE := Lib.hid hE
      clear hld hC hV hE hce hchE hit1 hiv1
      obtain ⟨c0, c1, c2, c3', c4, c5, c6⟩ := c7 HC.out
      go_wp2_with fail
      refine CK.out.mono ?_
      rintro e w2 ⟨rfl, hb⟩
      have HRX := Lib.hid (HR.out.below hb)
      have HCX := Lib.hid (HC.out.below hb)
      have HVX := Lib.hid (HVV.out.below hb)
      have HEX := Lib.hid (HEE.out.below hb)
      have HBX : Hid (Below B w w2) := Lib.hid (by have := HBW.out.trans (hb.mono HBW.out.size); rw [HBB.out]; exact this)
      clear hb c0 c1 c2 c3' c4 c5 c6
      obtain ⟨c0, c1, c2, c3', c4, c5, c6⟩ := c7 HCX.out
      cases ce with
      | false =>
        rw [show (if false = true then (0 : Int) else 1) = 1 from rfl]
        have HNO := Lib.hid (show loadM T = none from by rw [HALL.out, if_neg (by rw [HOKB.out]; simp)])
        obtain ⟨z0, z1, z2, z3, z4, z5, z6⟩ := c7 HRX.out
        obtain ⟨f2, f3', f4, f5, f6⟩ := f7 HRX.out
        obtain ⟨f0, f1⟩ := f7a HRX.out
        go_wp2
        refine bodyPost_ret (resHt rfl rfl (set7_ce HRX.out _ _ _ _ _ _ _)) rfl ?_
        have HBF := set7_below (n := B) (by rw [← HBB.out]; exact HBX.out) (by rw [← HBB.out]; exact Nat.le_refl _) (it 0) (it 0) (.slice none 0 0) (.string ⟨#[]⟩) (it 0) (it 0) (.slice none 0 0)
        exact ⟨Hs.zero, .slice none 0 0, .slice none 0 0, 10, rfl, RdN.nil _, RdE.nil _, HBF, LoadR.no HNO.out⟩
      | true =>
        rw [show (if true = true then (0 : Int) else 1) = 0 from rfl]
        go_wp2_with fail
        refine (I1.out _).mono ?_
        rintro e w3 ⟨rfl, rfl⟩
        cases it1 with
        | false =>
          have HNO := Lib.hid (show loadM T = none from by rw [HALL.out, if_neg (by rw [HOKB.out]; simp)])
          obtain ⟨z0, z1, z2, z3, z4, z5, z6⟩ := c7 HRX.out
          obtain ⟨f2, f3', f4, f5, f6⟩ := f7 HRX.out
          obtain ⟨f0, f1⟩ := f7a HRX.out
          go_wp2
          refine bodyPost_ret (resHt rfl rfl (set7_ce HRX.out _ _ _ _ _ _ _)) rfl ?_
          have HBF := set7_below (n := B) (by rw [← HBB.out]; exact HBX.out) (by rw [← HBB.out]; exact Nat.le_refl _) (it 0) (it 0) (.slice none 0 0) (.string ⟨#[]⟩) (it 0) (it 0) (.slice none 0 0)
          exact ⟨Hs.zero, .slice none 0 0, .slice none 0 0, 10, rfl, RdN.nil _, RdE.nil _, HBF, LoadR.no HNO.out⟩
        | true =>
          go_wp2_with fail
          refine (I2.out _).mono ?_
          rintro e w3 ⟨rfl, rfl⟩
          cases iv1 with
          | false =>
            have HNO := Lib.hid (show loadM T = none from by rw [HALL.out, if_neg (by rw [HOKB.out]; simp)])
            obtain ⟨z0, z1, z2, z3, z4, z5, z6⟩ := c7 HRX.out
            obtain ⟨f2, f3', f4, f5, f6⟩ := f7 HRX.out
            obtain ⟨f0, f1⟩ := f7a HRX.out
            go_wp2
            refine bodyPost_ret (resHt rfl rfl (set7_ce HRX.out _ _ _ _ _ _ _)) rfl ?_
            have HBF := set7_below (n := B) (by rw [← HBB.out]; exact HBX.out) (by rw [← HBB.out]; exact Nat.le_refl _) (it 0) (it 0) (.slice none 0 0) (.string ⟨#[]⟩) (it 0) (it 0) (.slice none 0 0)
            exact ⟨Hs.zero, .slice none 0 0, .slice none 0 0, 10, rfl, RdN.nil _, RdE.nil _, HBF, LoadR.no HNO.out⟩
          | true =>
            have HYES := Lib.hid (show loadM T = some ⟨t, vo, V, sn, ba, bt, L⟩ from by rw [HALL.out, if_pos (by rw [HOKB.out]; rfl)])
            obtain ⟨z0, z1, z2, z3, z4, z5, z6⟩ := c7 HRX.out
            obtain ⟨f2, f3', f4, f5, f6⟩ := f7 HRX.out
            obtain ⟨f0, f1⟩ := f7a HRX.out
            go_wp2
            refine bodyPost_ret (resHt rfl rfl (set7_ce HRX.out _ _ _ _ _ _ _)) rfl ?_
            have HBF := set7_below (n := B) (by rw [← HBB.out]; exact HBX.out) (by rw [← HBB.out]; exact Nat.le_refl _) (it t) (it vo) (.slice xa zV xc) (.string sn) (it ba) (it bt) (.slice ya zL yc)
            have hV2 := ((((((HVX.out.set (b := B) (i := 0) (by omega) (it t)).set (b := B) (i := 1) (by omega) (it vo)).set (b := B) (i := 2) (by omega) (.slice xa zV xc)).set (b := B) (i := 3) (by omega) (.string sn)).set (b := B) (i := 4) (by omega) (it ba)).set (b := B) (i := 5) (by omega) (it bt)).set (b := B) (i := 6) (by omega) (.slice ya zL yc)
            have hE2 := HEX.out.set7 (b := B) (by omega) (it t) (it vo) (.slice xa zV xc) (.string sn) (it ba) (it bt) (.slice ya zL yc)
            exact ⟨⟨t, vo, V, sn, ba, bt, L⟩, _, _, 0, rfl, hV2.rdN, hE2.rd, HBF, LoadR.yes HYES.out⟩
end Go.Proofs.Ytopnmiakljpgbaa
