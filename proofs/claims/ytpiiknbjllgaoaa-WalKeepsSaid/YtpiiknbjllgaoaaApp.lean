/-
  What Append leaves and answers.
-/
import Derived.Test.YtpiiknbjllgaoaaPre
namespace Go.Proofs.Ytpiiknbjllgaoaa
open Go.RowKit Go.Maps
def withF (fs : List Fl) (k : ByteArray) (c : Fl → Fl) : List Fl := match findF fs k with
  | some f0 => updF fs k fun f => ⟨f.name, (c f0).data, (c f0).dur⟩
  | none => fs
def putIf (d : Dk) (k : ByteArray) : Dk := if (findF d.fs k).isSome then d else { d with fs := ⟨k, [], 0⟩ :: delF d.fs k }
def addTo (d : Dk) (k : ByteArray) (s : Bs) : Dk := { putIf d k with fs := withF (putIf d k).fs k fun f => ⟨f.name, f.data ++ s, f.dur⟩ }
def fitE (d : Dk) (n : Nat) : Int := if d.used + n ≤ d.room then 0 else 15
def appE (d : Dk) (s : Bs) : Int := preE d (fitE d s.length)
def appD (d : Dk) (k : ByteArray) (s : Bs) : Dk := if appE d s = 0 then addTo (stepD d) k s else preD d (fitE d s.length)
theorem preD_ok {d : Dk} {E : Int} (h : preE d E = 0) : preD d E = stepD d := by
  unfold preE at h
  unfold preD
  split at h
  · omega
  · rename_i h1
    rw [if_neg h1]
    split at h
    · omega
    · rename_i h2
      rw [if_neg h2]
      split at h
      · omega
      · rename_i h3
        rw [if_neg h3]
theorem named_wk (v : Value) (w : World) (hv : ∃ a n cap, v = .slice a n cap) : Calls Try.prog 58 #[v] w fun e w' => e = .returned (.func (.func 76) #[] #[ptr w.heap.size]) ∧ w'.cell? ⟨w.heap.size, 0, none⟩ = some v ∧ Below w.heap.size w w' := by
  refine (named_any v w hv).mono ?_
  rintro e w' ⟨rfl, rfl⟩
  exact ⟨rfl, by simp, (Below.refl _ _).alloc (Nat.le_refl _) _⟩
theorem fits_wk (v : Value) (hv : v = nop ∨ ∃ b, v = ptr b) (n : Nat) (w : World) : Calls Try.prog 80 #[v, .int .i64 (n : Int)] w fun e w' => e = .returned (.func (.func 83) #[] #[ptr (w.heap.size + 1), ptr w.heap.size]) ∧ w'.cell? ⟨w.heap.size + 1, 0, none⟩ = some (.int .i64 (n : Int)) ∧ w'.cell? ⟨w.heap.size, 0, none⟩ = some v ∧ Below w.heap.size w w' := by
  refine (fits_any v hv n w).mono ?_
  rintro e w' ⟨rfl, rfl⟩
  have hb := ((Below.refl w.heap.size w).alloc (Nat.le_refl _) (.cells #[v] 34))
  refine ⟨rfl, ?_, ?_, hb.alloc (by simp) _⟩
  · simp
  · simp
theorem has_wk (v : Value) (hv : v = nop ∨ ∃ b, v = ptr b) (k : ByteArray) (w : World) : Calls Try.prog 59 #[v, .string k] w fun e w' => e = .returned (.func (.func 77) #[] #[ptr w.heap.size, ptr (w.heap.size + 1)]) ∧ w'.cell? ⟨w.heap.size, 0, none⟩ = some v ∧ w'.cell? ⟨w.heap.size + 1, 0, none⟩ = some (.string k) ∧ Below w.heap.size w w' := by
  refine (has_any v hv k w).mono ?_
  rintro e w' ⟨rfl, rfl⟩
  have hb := ((Below.refl w.heap.size w).alloc (Nat.le_refl _) (.cells #[v] 34))
  refine ⟨rfl, ?_, ?_, hb.alloc (by simp) _⟩
  · simp
  · simp
/-- One name, where it is tested. -/
theorem nm_one {w w2 : World} {k : ByteArray} (hk : Gn k) {C cap : Nat} (hC : w2.cell? ⟨C, 0, none⟩ = some (.slice (some ⟨w.heap.size, 0, none⟩) 1 cap)) (hb : Below (w.heap.size + 1) (w.alloc (.cells #[.string k] 9)) w2) : Nm C w2 := by
  refine ⟨fun _ => k, w.heap.size, 1, cap, by decide, hC, fun j hj => ⟨hk, ?_⟩⟩
  obtain rfl : j = 0 := by omega
  have : (w.alloc (.cells #[.string k] 9)).cell? ⟨w.heap.size, 0, none⟩ = some (.string k) := by simp
  exact (hb.cell (by show w.heap.size < _; omega)).trans this
section
variable {S : Nat → Prop} {b : Nat} {d : Dk} {w : World}
theorem put_any (h : PD S b d w) (hn : d.fs.length ≤ 1000000) (g : Ge) (hk : g.f.name.size ≤ 40) {S2 : Nat → Prop} (hf : FV S2 g.b g.f.data g.v g.f.dur w) (hS2 : ∀ k, its g.b g.v k → S2 k) (hd : ∀ k, S2 k → ¬ S k) :
    Calls Try.prog 67 #[ptr b, .string g.f.name, ptr g.b] w fun e w' => (∃ v, e = .returned v) ∧ PD (fun k => (S k ∨ S2 k) ∨ w.heap.size ≤ k) b { d with fs := g.f :: delF d.fs g.f.name } w' ∧ Tr (fun k => S k ∨ S2 k) w w' := by
  obtain ⟨G, mv, h⟩ := h
  cases mv with
  | none =>
    refine (put_none h g hk hf hS2 hd).mono ?_
    rintro e w' ⟨he, hp, ht⟩
    exact ⟨he, hp, ht.mono fun k => .inl⟩
  | some m =>
    have hl : G.length ≤ 1000000 := by have := h.perm.length_eq; rw [List.length_map] at this; omega
    refine (put_some (S := fun k => S k ∨ S2 k) (h.mono fun _ => .inl) hl g hk (hf.mono fun _ => .inr) (fun x hx _ k hk hk' => ?_)).mono ?_
    · have hx := h.file x hx
      exact hd k (hS2 k hk) (hk'.elim (fun e => e ▸ hx.1.own) (hx.1.rowS k))
    · rintro e w' ⟨he, hp, ht⟩
      exact ⟨he, hp, ht⟩
/-- The tests where they are laid. -/
theorem pre4_at (h : PD S b d w) (h1 : d.steps ≤ 1000000000) (h2 : d.left ≤ mostL) (C : Nat) (hC : Nm C w) (mid : Tst) (E : Int) (hmN : ∀ args w, (callFunc mid.N args).run Try.prog w = .ok (.enter mid.N args) w)
    (hmid : ∀ w1, Below w.heap.size w w1 → Calls Try.prog mid.N (mid.fs ++ mid.cs) w1 fun e w2 => e = .returned (.int .i64 E) ∧ Below w1.heap.size w1 w2) :
    Calls Try.prog 56 #[.slice (some ⟨w.heap.size, 0, none⟩) 4 4] (w.alloc (.cells #[(tPow b).val, (tNam C).val, mid.val, (tCnt b).val] 44)) fun e w' => e = .returned (.int .i64 (preE d E)) ∧ PD S b (preD d E) w' ∧ Tr (fun j => j = b) w w' := by
  have hb : Below w.heap.size w (w.alloc (.cells #[(tPow b).val, (tNam C).val, mid.val, (tCnt b).val] 44)) := (Below.refl _ _).alloc (Nat.le_refl _) _
  refine (pre4 (h.below hb) h1 h2 C (hC.below hb) mid E hmN (fun w1 hw1 => hmid w1 (hb.trans (hw1.mono hb.size))) w.heap.size (by simp) (by simp) (by simp) (by simp)).mono ?_
  rintro e w' ⟨he, hp, ht⟩
  exact ⟨he, hp, (Tr.of_below hb).then ht⟩
theorem pre3_at (h : PD S b d w) (C : Nat) (hC : Nm C w) (mid : Tst) (E : Int) (hmN : ∀ args w, (callFunc mid.N args).run Try.prog w = .ok (.enter mid.N args) w)
    (hmid : ∀ w1, Below w.heap.size w w1 → Calls Try.prog mid.N (mid.fs ++ mid.cs) w1 fun e w2 => e = .returned (.int .i64 E) ∧ Below w1.heap.size w1 w2) :
    Calls Try.prog 56 #[.slice (some ⟨w.heap.size, 0, none⟩) 3 3] (w.alloc (.cells #[(tPow b).val, (tNam C).val, mid.val] 44)) fun e w' => e = .returned (.int .i64 (if d.off then 14 else E)) ∧ Below w.heap.size w w' := by
  have hb : Below w.heap.size w (w.alloc (.cells #[(tPow b).val, (tNam C).val, mid.val] 44)) := (Below.refl _ _).alloc (Nat.le_refl _) _
  refine (pre3 (h.below hb) C (hC.below hb) mid E hmN (fun w1 hw1 => hmid w1 (hb.trans (hw1.mono hb.size))) w.heap.size (by simp) (by simp) (by simp)).mono ?_
  rintro e w' ⟨he, ht⟩
  exact ⟨he, hb.trans (ht.mono hb.size)⟩
/-- The bytes of a file, behind a step's tests: where it lies. -/
theorem DV.file_of {G : List Ge} {mv : Option Nat} (h : DV S b d G mv w) {k : ByteArray} {f0 : Fl} (hf : findF d.fs k = some f0) : ∃ g ∈ G, findG G k = some g ∧ g.f = f0 ∧ g.f.name = k := by
  rw [h.find] at hf
  cases hg : findG G k with
  | none => rw [hg] at hf; cases hf
  | some g =>
    rw [hg] at hf
    obtain ⟨hm, hn⟩ := findG_mem hg
    exact ⟨g, hm, rfl, by simpa using hf, hn⟩
set_option maxRecDepth 100000 in
set_option maxHeartbeats 6400000 in
theorem append_any (h : PD S b d w) (k : ByteArray) (hk : Gn k) (s : ByteArray) (hs : s.size ≤ 1000000) (h1 : d.steps ≤ 1000000000) (h2 : d.left ≤ mostL) (hU : d.used ≤ 900000000) (hR : d.room ≤ 1000000000) (hL : d.fs.length ≤ 1000000) :
    Calls Try.prog 69 #[ptr b, .string k, .string s] w fun e w' => e = .returned (.int .i64 (appE d s.data.toList)) ∧ Lft S b (appD d k s.data.toList) w w' := by
  have hmf : ∀ (fn : Fn) (first cap : Array Value) (w : World), (Instr.makeFunc fn first cap).run Try.prog w = .ok (.func fn first cap) w := fun _ _ _ _ => rfl
  have HP := Lib.hid h
  have HK := Lib.hid hk
  have HSZ := Lib.hid (size_list s)
  have HE : Hid (appE d s.data.toList = preE d (fitE d s.size)) := Lib.hid (by unfold appE; rw [← size_list])
  have HD : Hid (appD d k s.data.toList = if appE d s.data.toList = 0 then addTo (stepD d) k s.data.toList else preD d (fitE d s.size)) := Lib.hid (by unfold appD; rw [← size_list])
  obtain ⟨E, hEE⟩ : ∃ E, E = appE d s.data.toList := ⟨_, rfl⟩
  rw [← hEE] at HE HD ⊢
  obtain ⟨D', hDD⟩ : ∃ D', D' = appD d k s.data.toList := ⟨_, rfl⟩
  rw [← hDD] at HD ⊢
  clear h hk hEE hDD
  go_enter Try.func69, Try.ntmps69
  go_wp2_with fail
  refine (named_wk _ _ ⟨_, _, _, rfl⟩).mono ?_
  rintro e w2 ⟨rfl, hc2, hb2⟩
  have hN2 : Hid (Nm (w.heap.size + 1) w2) := Lib.hid (nm_one (w := w) HK.out (by simpa using hc2) (by simpa using hb2))
  have HB2 := Lib.hid (((Below.refl w.heap.size w).alloc (Nat.le_refl _) (.cells #[.string k] 9)).trans (hb2.mono (by simp)))
  clear hc2 hb2
  go_wp2_with fail
  refine (fits_wk _ (.inr ⟨b, rfl⟩) s.size w2).mono ?_
  rintro e w3 ⟨rfl, hc3, hd3, hb3⟩
  have hN3 := Lib.hid (hN2.out.below hb3)
  have HB3 := Lib.hid (HB2.out.trans (hb3.mono HB2.out.size))
  have C3 := Lib.hid hc3
  have D3 := Lib.hid hd3
  clear hN2 hc3 hd3 hb3
  go_wp2_with fail
  have hpre := pre4_at (HP.out.below HB3.out) h1 h2 (w.heap.size + 1) hN3.out ⟨83, #[], #[ptr (w2.heap.size + 1), ptr w2.heap.size]⟩ (fitE d s.size) ent39 (fun w1 hb => by
    have := fitsf_any (HP.out.below (HB3.out.trans (hb.mono HB3.out.size))) s.size (w2.heap.size + 1) w2.heap.size (by omega) hR ((hb.cell (w3.block_lt_of_cell? _ C3.out)).trans C3.out) ((hb.cell (w3.block_lt_of_cell? _ D3.out)).trans D3.out)
    exact this)
  rw [← HE.out] at hpre
  refine hpre.mono ?_
  rintro e w5 ⟨rfl, hp5, ht5⟩
  have P5 := Lib.hid hp5
  have T5 : Hid (Tr (fun j => j = b) w w5) := Lib.hid ((Tr.of_below HB3.out).then ht5)
  clear hpre hp5 ht5 hN3 HB3 HB2 C3 D3
  by_cases hE : E = 0
  · have hok := preD_ok (HE.out.symm.trans hE)
    rw [hok] at P5
    have hD' : D' = addTo (stepD d) k s.data.toList := by rw [HD.out, if_pos hE]
    have HD' := Lib.hid hD'
    subst hE
    clear hok hD' HE HD HP
    have hk40 : k.size ≤ 40 := HK.out.2
    have hsz5 := T5.out.size
    obtain ⟨G, mv, hp⟩ := P5.out
    have c0 : w5.cell? ⟨b, 0, none⟩ = some (.map mv) := hp.cell 0 _ rfl
    have hl := hp.look k hk40 (Below.refl _ w5)
    have hfi := hp.find k
    have HOWN := Lib.hid hp.own
    have hbl := hp.lt
    clear hp
    obtain ⟨o, ho⟩ : ∃ o, o = (findG G k).isNone := ⟨_, rfl⟩
    have HO := Lib.hid ho
    clear ho
    go_upto_region 4 with fail
    go_cut [31] from 25 to 36 (fun v wx => v = .bool o ∧ w5 = wx)
    case first =>
      cases hg : findG G k with
      | some g =>
        rw [hg] at hl
        have hl : (Instr.lookup 62 (.map mv) (.string k) false).run Try.prog w5 = .ok (ptr g.b) w5 := hl
        go_wp2
        go_meet
        case rel => exact ⟨by rw [HO.out, hg]; rfl, rfl⟩
      | none =>
        rw [hg] at hl
        have hl : (Instr.lookup 62 (.map mv) (.string k) false).run Try.prog w5 = .ok nop w5 := hl
        go_wp2
        go_meet
        case rel => exact ⟨by rw [HO.out, hg]; rfl, rfl⟩
    case rest =>
    obtain ⟨rfl, rfl⟩ := hcut
    clear hl c0
    go_upto_if 31 with fail
    go_cut [36] from 32 to 36 (fun _ wx => ∃ S6 : Nat → Prop, (∀ j, S6 j → S j ∨ w.heap.size ≤ j) ∧ PD S6 b (putIf (stepD d) k) wx ∧ Tr S w wx)
    case first =>
      cases o with
      | false =>
        obtain ⟨g, hg⟩ : ∃ g, findG G k = some g := by
          have := HO.out
          cases hg : findG G k with
          | none => rw [hg] at this; cases this
          | some g => exact ⟨g, rfl⟩
        rw [hg] at hfi
        have hpi : putIf (stepD d) k = stepD d := by unfold putIf; rw [hfi]; rfl
        have HF : Hid (∃ S6 : Nat → Prop, (∀ j, S6 j → S j ∨ w.heap.size ≤ j) ∧ PD S6 b (putIf (stepD d) k) w5 ∧ Tr S w w5) := Lib.hid ⟨S, fun _ => .inl, by rw [hpi]; exact P5.out, T5.out.mono fun j e => by rw [e]; exact HOWN.out⟩
        clear hfi hpi hg
        go_wp2
        go_meet
        case rel => exact HF.out
      | true =>
        have hg : findG G k = none := by
          have := HO.out
          cases hg : findG G k with
          | none => rfl
          | some g => rw [hg] at this; cases this
        rw [hg] at hfi
        have hpi : putIf (stepD d) k = { stepD d with fs := ⟨k, [], 0⟩ :: delF (stepD d).fs k } := by unfold putIf; rw [hfi]; rfl
        have HPI := Lib.hid hpi
        have hba : Below w5.heap.size w5 (w5.alloc (.cells #[.slice none 0 0, .int .i64 0] 85)) := (Below.refl _ _).alloc (Nat.le_refl _) _
        have hFV : FV (fun j => j = w5.heap.size) w5.heap.size [] (.slice none 0 0) 0 (w5.alloc (.cells #[.slice none 0 0, .int .i64 0] 85)) := ⟨heap_alloc_new w5 _, .inl ⟨rfl, rfl⟩, fun j hj => by simp [Value.ownBlock] at hj, rfl, Nat.le_refl _⟩
        have hput := put_any (g := ⟨⟨k, [], 0⟩, w5.heap.size, .slice none 0 0⟩) ((P5.out.now).below hba) hL hk40 hFV (fun j hj => hj.elim id fun e => by simp [Value.ownBlock] at e) (fun j e hj => by have := hj.2; omega)
        have HPUT := Lib.hid hput
        have HBA := Lib.hid hba
        clear hfi hpi hg hba hFV hput
        go_wp2_with fail
        refine HPUT.out.mono ?_
        rintro e w6 ⟨⟨u, rfl⟩, hp6, ht6⟩
        have hp7 : PD (fun j => ((S j ∧ j < w5.heap.size) ∨ j = w5.heap.size) ∨ (w5.alloc (.cells #[.slice none 0 0, .int .i64 0] 85)).heap.size ≤ j) b (putIf (stepD d) k) w6 := by rw [HPI.out]; exact hp6
        have HF : Hid (∃ S6 : Nat → Prop, (∀ j, S6 j → S j ∨ w.heap.size ≤ j) ∧ PD S6 b (putIf (stepD d) k) w6 ∧ Tr S w w6) := Lib.hid ⟨_, (fun j hj => by
          rcases hj with (hj | hj) | hj
          · exact .inl hj.1
          · right; omega
          · right; have := HBA.out.size; omega), hp7, ((T5.out.mono fun j e => by rw [e]; exact HOWN.out).then (Tr.of_below HBA.out)).trans ht6 (fun j hj => by
          rcases hj with hj | hj
          · exact .inl hj.1
          · right; omega)⟩
        clear hp6 ht6 hp7
        go_wp2
        go_meet
        case rel => exact HF.out
    case rest =>
      obtain ⟨S6, hS6, hp6, ht6⟩ := hcut
      have HS6 := Lib.hid hS6
      have HT6 := Lib.hid ht6
      have hfind : ∃ f0, findF (putIf (stepD d) k).fs k = some f0 := by
        unfold putIf
        by_cases hh : (findF (stepD d).fs k).isSome = true
        · rw [if_pos hh]; exact Option.isSome_iff_exists.1 hh
        · rw [if_neg hh]; exact ⟨⟨k, [], 0⟩, by simp [findF]⟩
      have hu6 : (putIf (stepD d) k).used ≤ 900000000 := by
        have hdel : ∀ l : List Fl, usedL (delF l k) ≤ usedL l := by
          intro l
          induction l with
          | nil => exact Nat.le_refl _
          | cons x r ih =>
            unfold delF usedL at ih ⊢
            rw [List.filter_cons]
            split
            · simp only [List.map_cons, List.sum_cons]; omega
            · simp only [List.map_cons, List.sum_cons]; omega
        unfold putIf
        split
        · exact hU
        · have := hdel (stepD d).fs
          show usedL (⟨k, [], 0⟩ :: delF (stepD d).fs k) ≤ _
          unfold usedL at this ⊢
          simp only [List.map_cons, List.sum_cons]
          show 0 + _ ≤ _
          unfold Dk.used usedL at hU
          have e : (stepD d).fs = d.fs := rfl
          rw [e] at this ⊢
          omega
      obtain ⟨f0, hf0⟩ := hfind
      have hadd : addTo (stepD d) k s.data.toList = { putIf (stepD d) k with fs := updF (putIf (stepD d) k).fs k fun f => ⟨f.name, f0.data ++ s.data.toList, f0.dur⟩ } := by
        unfold addTo withF
        rw [hf0]
      rw [hadd] at HD'
      obtain ⟨d6, hd6⟩ : ∃ d6, d6 = putIf (stepD d) k := ⟨_, rfl⟩
      rw [← hd6] at hp6 hf0 hu6 HD'
      obtain ⟨G6, mv6, hv6⟩ := hp6
      obtain ⟨g, hg, hfg, rfl, hgn⟩ := hv6.file_of hf0
      have hlen : g.f.data.length ≤ 900000000 := by
        have h1 := usedL_perm hv6.perm
        have h2 : ∀ (l : List Ge) (g : Ge), g ∈ l → g.f.data.length ≤ usedL (l.map fun g => g.f) := by
          intro l
          induction l with
          | nil => intro g hg; cases hg
          | cons x r ih =>
            intro g hg
            unfold usedL at ih ⊢
            simp only [List.map_cons, List.sum_cons]
            rcases List.mem_cons.1 hg with rfl | hg
            · exact Nat.le_add_right _ _
            · have := ih g hg; omega
        have h3 := h2 G6 g hg
        have : (G6.map fun g => g.f) = G6.map fun x => x.f := rfl
        unfold Dk.used at hu6
        omega
      have e0 : wc.cell? ⟨b, 0, none⟩ = some (.map mv6) := hv6.cell 0 _ rfl
      have hl6 : (Instr.lookup 62 (.map mv6) (.string k) false).run Try.prog wc = .ok (ptr g.b) wc := by
        have := hv6.look k hk40 (Below.refl _ wc)
        rw [hfg] at this
        exact this
      have hfv0 := (hv6.file g hg).1.least
      have hupd := fun R' t' w' (hf : Fd (andNew (its g.b g.v) wc.heap.size) g.b R' t' w') (ht : Tr (its g.b g.v) wc w') => hv6.upd hg (R := R') (t := t') hf ht
      rw [hgn] at hupd
      obtain ⟨⟨nm, R, t⟩, fb, v⟩ := g
      have hfv : FV (its fb v) fb R v t wc := hfv0
      have hupd : ∀ R' t' w', Fd (andNew (its fb v) wc.heap.size) fb R' t' w' → Tr (its fb v) wc w' → Lft S6 b { d6 with fs := updF d6.fs k fun f => ⟨f.name, R', t'⟩ } wc w' := hupd
      have hl6 : (Instr.lookup 62 (.map mv6) (.string k) false).run Try.prog wc = .ok (ptr fb) wc := hl6
      have hlen : R.length ≤ 900000000 := hlen
      have HD' : Hid (D' = { d6 with fs := updF d6.fs k fun f => ⟨f.name, R ++ s.data.toList, t⟩ }) := HD'
      have d0 := hfv.blk.cell0
      have f0' := hfv.blk.frozen0
      have HFV := Lib.hid hfv
      have HUP := Lib.hid hupd
      obtain ⟨a, cap, rfl, _, _⟩ := hfv.row.shape
      have hsz2 : R.length + s.size ≤ 1000000000 := by omega
      obtain ⟨nn, hnn⟩ : ∃ nn, nn = R.length := ⟨_, rfl⟩
      have HNN := Lib.hid hnn
      rw [← hnn] at d0 hsz2
      clear hadd hd6 hv6 hfg hg hgn hfv hfv0 hupd hf0 hu6 hlen hS6 ht6 hfi hnn
      go_wp2_with (at_builtin; refine wpList_app _ rfl (.tmp 47) (.tmp 48) rfl rfl _ R rfl (by rw [HNN.out]; exact HFV.out.row) s rfl (by rw [← HNN.out]; exact hsz2) ?_)
      intro v7 w7 hrow hg7 hloc
      obtain ⟨a7, c7, rfl, _, _⟩ := hrow.shape
      have A := Lib.hid (HFV.out.app hrow (by rw [← HNN.out]; exact hg7) (by rw [← HNN.out]; exact hloc))
      obtain ⟨n7, hn7⟩ : ∃ n7, n7 = (R ++ s.data.toList).length := ⟨_, rfl⟩
      have HN7 := Lib.hid hn7
      rw [← hn7] at A ⊢
      have e7 := A.out.1.cell0
      have f7 := A.out.1.frozen0
      clear hrow hg7 hloc d0 f0' hn7
      go_wp2
      go_ret
      have L := HUP.out _ _ _ A.out.2.1 A.out.2.2
      rw [HD'.out]
      exact ⟨rfl, L.1.mono fun j hj => hj.elim (fun h => HS6.out j h) fun h => .inr (Nat.le_trans HT6.out.size h), HT6.out.trans L.2 fun j hj => HS6.out j hj⟩
  · have hD' : D' = preD d (fitE d s.size) := by rw [HD.out, if_neg hE]
    have q1 : (E == 0) = false := by simpa using hE
    have q2 : (E != 0) = true := by simpa using hE
    have HF : Hid (Lft S b D' w w5) := Lib.hid ⟨by rw [hD']; exact P5.out.mono fun _ => .inl, T5.out.mono fun j e => by rw [e]; exact HP.out.own⟩
    clear hD' HE HD P5 T5
    go_wp2
    go_ret
    exact ⟨rfl, HF.out⟩
end
end Go.Proofs.Ytpiiknbjllgaoaa
