/-
  A flush.
-/
import Derived.Test.YtjoplnkagfkffaaDelF
namespace Go.Proofs.Ytjoplnkagfkffaa
open Go.RowKit
theorem enters {N : Nat} {fn : Func} (h : Try.prog.funcs[N]? = some fn) (h1 : (fn.name == "runtime.NumGoroutine") = false) (h2 : fn.body.isNone = false) (args : Array Value) (w : World) : (callFunc N args).run Try.prog w = .ok (.enter N args) w := by
  simp [callFunc, h, go_sem]
  have e1 : ¬ fn.name = "runtime.NumGoroutine" := by simpa using h1
  have e2 : ¬ fn.body = none := by intro e; rw [e] at h2; cases h2
  rw [if_neg e1, if_neg e2]
theorem ent54 (args : Array Value) (w : World) : (callFunc 54 args).run Try.prog w = .ok (.enter 54 args) w := enters Try.func54 (by kernel_rfl) (by kernel_rfl) args w
set_option maxRecDepth 100000 in
set_option maxHeartbeats 3200000 in
theorem within_any {w : World} {b : Nat} {z : ByteArray} (hb : Ce w b 9 #[.string z]) (f : Fl') (hf : f.zone.size ≤ 1000000) (hz : z.size ≤ 1000000) :
    Calls Try.prog 54 (#[f.v] ++ #[ptr b]) w fun e w' => e = .returned (.bool (und (bl f.zone) (bl z))) ∧ Below w.heap.size w w' := by
  have hbA := one_new w (.cells #[it f.ep, .string f.zone] 48)
  have HB := Lib.hid hbA
  have c0 : (w.alloc (.cells #[it f.ep, .string f.zone] 48)).cell? ⟨b, 0, none⟩ = some (.string z) := by rw [(hb.below hbA).cell]; rfl
  have HU := Lib.hid (under_any f.zone z hf hz (w.alloc (.cells #[it f.ep, .string f.zone] 48)))
  clear hbA hb
  show Calls Try.prog 54 #[.agg #[it f.ep, .string f.zone], ptr b] w _
  go_enter Try.func54, Try.ntmps54
  go_wp2_with fail
  refine HU.out.mono ?_
  rintro e w2 ⟨rfl, hb2⟩
  have HB2 := Lib.hid (HB.out.trans (hb2.mono HB.out.size))
  clear hb2
  go_wp2
  go_ret
  exact ⟨rfl, HB2.out⟩
theorem c5 {w : World} {n : Nat} {T : TypeId} {v0 v1 v2 v3 v4 : Value} (h : Ce w n T #[v0, v1, v2, v3, v4]) : w.cell? ⟨n, 0, none⟩ = some v0 ∧ w.cell? ⟨n, 1, none⟩ = some v1 ∧ w.cell? ⟨n, 2, none⟩ = some v2 ∧ w.cell? ⟨n, 3, none⟩ = some v3 ∧ w.cell? ⟨n, 4, none⟩ = some v4 := by
  refine ⟨?_, ?_, ?_, ?_, ?_⟩ <;> (rw [h.cell]; rfl)
theorem f5 {w : World} {n : Nat} {T : TypeId} {cs : Array Value} (h : Ce w n T cs) : w.frozen? ⟨n, 0, none⟩ = false ∧ w.frozen? ⟨n, 1, none⟩ = false ∧ w.frozen? ⟨n, 2, none⟩ = false ∧ w.frozen? ⟨n, 3, none⟩ = false ∧ w.frozen? ⟨n, 4, none⟩ = false :=
  ⟨h.frozen 0, h.frozen 1, h.frozen 2, h.frozen 3, h.frozen 4⟩
theorem op_app {α : Type} (E : El α) {o : Oper} {a : Act} {w : World} {K : Act → World → Prop} {Q : Exit → Act → World → Prop} (s x : Operand)
    (ho : o.op = .call { callee := .builtin .append, args := #[s, x], argTypes := #[E.t, E.t] }) (base : Nat) (v : Value) (L M : List α) (hs : a.eval s = v) (hown : OwnX E w base v L)
    (u : Value) (hx : a.eval x = u) (hr : RdX E w u M) (hn : L.length + M.length ≤ 1000000) (hbase : base ≤ w.heap.size)
    (h : ∀ v' w', OwnX E w' base v' (L ++ M) → w.grownBy w' v.ownBlock → (v'.ownBlock = v.ownBlock ∨ v'.ownBlock = some w.heap.size) → K (a.put o.dst v') w') : o.wp Try.prog a w K Q := by
  obtain ⟨v', w', hrun, h2, h3, h4⟩ := run_app E o.type base v L M hown u hr hn hbase
  unfold Oper.wp execOp
  simp only [ho, resolve, invoke, builtin, Sem.run_bind, Sem.run_pure, Result.andThen_ok, List.map_toArray, List.map_cons, List.map_nil, hs, hx, hrun]
  exact h v' w' h2 h3 h4
theorem rdX_one {α : Type} (E : El α) (w : World) (x : α) (cs : Array Value) (h : E.enc x = cs.toList) : RdX E (w.alloc (.cells cs E.e)) (.slice (some ⟨w.heap.size, 0, none⟩) 1 1) [x] := by
  refine ⟨_, 1, rfl, Nat.le_refl _, by decide, .inr ⟨w.heap.size, 0, rfl, fun j u hu => ?_⟩⟩
  rw [El.fl_cons, h] at hu
  simp [El.fl] at hu
  rw [(Ce.new w E.e cs).cell, Nat.zero_add]
  exact hu
set_option maxRecDepth 100000 in
set_option maxHeartbeats 6400000 in
theorem flush_any {w : World} {B base : Nat} {r h a fs : Value} {ep : Int} {L : List Fl'} {z : ByteArray} (hC : Ce w B 29 #[r, h, a, it ep, fs]) (hO : OwnX elF w base fs L) (hbase : base ≤ w.heap.size) (hep : 0 ≤ ep ∧ ep < 1099511627776) (hl : L.length ≤ 1000) (hz : z.size ≤ 1000000) (hzs : ∀ f ∈ L, f.zone.size ≤ 1000000) :
    Calls Try.prog 34 #[ptr B, .string z] w fun e w' => e = .returned (it 0) ∧ ∃ fs', Ce w' B 29 #[r, h, a, it (ep + 1), fs'] ∧ OwnX elF w' base fs' (flF ep L z) ∧ Tr (fun b => b = B ∨ fs.ownBlock = some b) w w' := by
  have hb := one_new w (.cells #[.string z] 9)
  have HZB := Lib.hid (Ce.new w 9 #[.string z])
  have HC := Lib.hid (hC.below hb)
  have HO := Lib.hid (hO.below hb)
  have HT : Hid (Tr (fun b => b = B ∨ fs.ownBlock = some b) w (w.alloc (.cells #[.string z] 9))) := Lib.hid (Tr.of_below hb)
  have HBS : Hid (base ≤ (w.alloc (.cells #[.string z] 9)).heap.size) := Lib.hid (by have := hb.size; omega)
  have HNB : Hid (B < w.heap.size) := Lib.hid hC.lt
  have HL := Lib.hid hl
  have HZS := Lib.hid hzs
  obtain ⟨fa, fc, hfs, _⟩ := hO.shape
  obtain ⟨e1, e2⟩ := hep
  have q1 : decide (1099511627776 ≤ ep) = false := by simp; omega
  have q2 : wrap64 (ep + 1) = ep + 1 := by unfold wrap64; omega
  have HFS := Lib.hid hfs
  obtain ⟨zb, hzb⟩ : ∃ zb, zb = w.heap.size := ⟨_, rfl⟩
  rw [← hzb] at HZB HNB
  have HZE := Lib.hid hzb
  clear hb hC hO hl hzs hbase hfs e1 e2
  have hmf : ∀ (fn : Fn) (first cap : Array Value) (w : World), (Instr.makeFunc fn first cap).run Try.prog w = .ok (.func fn first cap) w := fun _ _ _ _ => rfl
  go_enter Try.func34, Try.ntmps34
  go_upto_region 1 with fail
  generalize w.alloc _ = wA at *
  rw [← hzb]
  clear hzb
  obtain ⟨c0, c1, c2, c3, c4⟩ := c5 HC.out
  obtain ⟨f0, f1, fv2, f3, f4⟩ := f5 HC.out
  go_upto_region 4 with fail
  generalize hwB : World.setCell wA _ _ = wB
  have HCB : Hid (Ce wB B 29 #[r, h, a, it (ep + 1), fs]) := Lib.hid (by rw [← hwB]; exact HC.out.set _ (i := 3))
  have HZBB : Hid (Ce wB zb 9 #[.string z]) := Lib.hid (by rw [← hwB]; exact HZB.out.other (by have := HNB.out; omega) _)
  have HOB : Hid (OwnX elF wB base fs L) := Lib.hid (by rw [← hwB]; exact HO.out.setT HC.out (by decide) _)
  have HTB : Hid (Tr (fun b => b = B ∨ fs.ownBlock = some b) w wB) := Lib.hid (by rw [← hwB]; exact HT.out.setCell (.inl (.inl rfl)) _)
  have HBSB : Hid (base ≤ wB.heap.size) := Lib.hid (by rw [← hwB]; simpa using HBS.out)
  clear hwB c0 c1 c2 c3 c4 f0 f1 fv2 f3 f4 HC HZB HO HT HBS
  have HNS := Lib.hid (HOB.out.ne HCB.out (by decide))
  have HNZ := Lib.hid (HOB.out.ne HZBB.out (by decide))
  have HDEL := Lib.hid (delF_any HOB.out (by have := HL.out; omega) 54 #[ptr zb] (fun f => und (bl f.zone) (bl z)) ent54 (fun W x hx hT => within_any (HZBB.out.tr hT (by exact HNZ.out)) x (HZS.out x hx) hz))
  obtain ⟨c0, c1, c2, c3, c4⟩ := c5 HCB.out
  go_wp2_with fail
  refine HDEL.out.mono ?_
  rintro e w2 ⟨fv2, rfl, ho2, hob2, ht2⟩
  have HC2 := Lib.hid (HCB.out.tr ht2 HNS.out)
  have HZ2 := Lib.hid (HZBB.out.tr ht2 HNZ.out)
  have HT2 : Hid (Tr (fun b => b = B ∨ fs.ownBlock = some b) w w2) := Lib.hid (HTB.out.trans ht2 (fun i hi => .inl (.inr hi)))
  have HO2 : Hid (OwnX elF w2 base fv2 (kept L z)) := Lib.hid ho2
  have HOB2 := Lib.hid hob2
  have HBS2 : Hid (base ≤ w2.heap.size) := Lib.hid (by have := ht2.size; have := HBSB.out; omega)
  clear ho2 hob2 ht2 HDEL HCB HZBB HOB HTB HBSB HNS HNZ c0 c1 c2 c3 c4
  obtain ⟨ka, kc, hk2, _⟩ := HO2.out.shape
  subst hk2
  obtain ⟨n, hn⟩ : ∃ n, n = (kept L z).length := ⟨_, rfl⟩
  have HN := Lib.hid hn
  have HLK : Hid ((kept L z).length ≤ L.length) := Lib.hid (List.length_filter_le _ _)
  rw [← hn] at HO2 HOB2 HLK ⊢
  clear hn
  obtain ⟨c0, c1, c2, c3, c4⟩ := c5 HC2.out
  obtain ⟨f0, f1, f2', f3, f4⟩ := f5 HC2.out
  go_upto_region 6 with fail
  generalize hwC : World.setCell w2 _ _ = wC
  have HC3 : Hid (Ce wC B 29 #[r, h, a, it (ep + 1), .slice ka n kc]) := Lib.hid (by rw [← hwC]; exact HC2.out.set _ (i := 4))
  have HZ3 : Hid (Ce wC zb 9 #[.string z]) := Lib.hid (by rw [← hwC]; exact HZ2.out.other (by have := HNB.out; omega) _)
  have HO3 : Hid (OwnX elF wC base (.slice ka n kc) (kept L z)) := Lib.hid (by rw [← hwC]; exact HO2.out.setT HC2.out (by decide) _)
  have HT3 : Hid (Tr (fun b => b = B ∨ fs.ownBlock = some b) w wC) := Lib.hid (by rw [← hwC]; exact HT2.out.setCell (.inl (.inl rfl)) _)
  have HBS3 : Hid (base ≤ wC.heap.size) := Lib.hid (by rw [← hwC]; simpa using HBS2.out)
  clear hwC HC2 HZ2 HO2 HT2 HBS2 c0 c1 c2 c3 c4 f0 f1 f2' f3 f4
  obtain ⟨c0, c1, c2, c3, c4⟩ := c5 HC3.out
  obtain ⟨f0, f1, f2', f3, f4⟩ := f5 HC3.out
  have hzc : wC.cell? ⟨zb, 0, none⟩ = some (.string z) := by rw [HZ3.out.cell]; rfl
  have hzf : wC.frozen? ⟨zb, 0, none⟩ = false := HZ3.out.frozen 0
  go_upto_if 33 with fail
  go_cut [] from 28 to 36 (fun wx => ∃ (f3 : Value) (L3 : List Fl') (z3 : ByteArray), Ce wx B 29 #[r, h, a, it (ep + 1), f3] ∧ Ce wx zb 9 #[.string z3] ∧ OwnX elF wx base f3 L3 ∧ Tr (fun b => b = B ∨ fs.ownBlock = some b) w wx ∧ base ≤ wx.heap.size ∧ (f3.ownBlock = fs.ownBlock ∨ f3.ownBlock = none) ∧ L3.length ≤ 1000 ∧ z3.size ≤ 1000000 ∧ flF ep L z = L3 ++ [⟨ep + 1, lowA z3⟩])
  case first =>
    by_cases hk : 32 ≤ n
    · have q3 : decide ((32 : Int) ≤ (n : Int)) = true := by simp; omega
      have q4 : decide (32 ≤ n) = true := by simp; omega
      have HF : Hid (flF ep L z = [] ++ [⟨ep + 1, lowA ⟨#[0]⟩⟩]) := Lib.hid (by
        unfold flF
        rw [if_pos (by rw [← HN.out]; exact hk), List.nil_append]
        congr 2)
      go_wp2
      go_meet
      refine ⟨.slice none 0 0, [], ⟨#[0]⟩, (HC3.out.set _ (i := 4)).other (by have := HNB.out; omega) _, ?_, OwnX.nil _ _, (HT3.out.setCell (.inl (.inl rfl)) _).setCell (.inr (by have := HZE.out; omega)) _, by simpa using HBS3.out, .inr rfl, by simp, by decide, HF.out⟩
      exact (HZ3.out.other (by have := HNB.out; omega) _).set _ (i := 0)
    · have q3 : decide ((32 : Int) ≤ (n : Int)) = false := by simp; omega
      have q4 : decide (32 ≤ n) = false := by simp; omega
      have HF : Hid (flF ep L z = kept L z ++ [⟨ep + 1, lowA z⟩]) := Lib.hid (by
        unfold flF
        rw [if_neg (by rw [← HN.out]; exact hk)])
      go_wp2
      go_meet
      exact ⟨_, _, z, HC3.out, HZ3.out, HO3.out, HT3.out, HBS3.out, .inl HOB2.out, by have := HLK.out; have := HL.out; have := HN.out; omega, hz, HF.out⟩
  case rest =>
    obtain ⟨f4v, L3, z3, hC4, hZ4, hO4, hT4, hB4, hOw4, hL4, hz4, hF4⟩ := hcut
    clear HC3 HZ3 HO3 HT3 HBS3 c0 c1 c2 c3 c4 f0 f1 f2' f3 f4 hzc hzf HOB2 HN HLK
    obtain ⟨ma, mc, rfl, _⟩ := hO4.shape
    have HNEB := Lib.hid (hO4.ne hC4 (by decide))
    have HNEZ := Lib.hid (hO4.ne hZ4 (by decide))
    obtain ⟨m, hm⟩ : ∃ m, m = L3.length := ⟨_, rfl⟩
    rw [← hm] at hC4 hO4 hL4 hOw4 HNEB HNEZ
    have HC4 := Lib.hid hC4
    have HZ4 := Lib.hid hZ4
    have HO4 := Lib.hid hO4
    have HT4 := Lib.hid hT4
    have HB4 := Lib.hid hB4
    have HOW4 := Lib.hid hOw4
    have HM := Lib.hid hm
    have HF4 := Lib.hid hF4
    have HLW := Lib.hid (fun w' => lower_any z3 (by omega) w')
    obtain ⟨lz, hlz⟩ : ∃ lz : ByteArray, lz = lowA z3 := ⟨_, rfl⟩
    have HLZ := Lib.hid hlz
    rw [show (⟨(low z3.data.toList).toArray⟩ : ByteArray) = lz from hlz.symm] at HLW
    have H0 : Hid (Below wc.heap.size wc wc.drew) := Lib.hid (Below.refl _ wc).drew
    have HK := Lib.hid (fun w' (hb : Below wc.heap.size wc w') => (show w'.cell? ⟨B, 3, none⟩ = some (it (ep + 1)) ∧ w'.cell? ⟨B, 4, none⟩ = some (.slice ma m mc) ∧ w'.cell? ⟨zb, 0, none⟩ = some (.string z3) from
      ⟨(c5 (HC4.out.below hb)).2.2.2.1, (c5 (HC4.out.below hb)).2.2.2.2, by rw [(HZ4.out.below hb).cell]; rfl⟩))
    have HFZ := Lib.hid (fun w' (hb : Below wc.heap.size wc w') => (HC4.out.below hb).frozen 4)
    clear hC4 hZ4 hO4 hT4 hB4 hOw4 hm hF4 hlz
    have HKS := Lib.hid (fun w' (hC : Ce w' B 29 #[r, h, a, it (ep + 1), .slice ma m mc]) (hZ : Ce w' zb 9 #[.string z3]) => (show w'.cell? ⟨B, 3, none⟩ = some (it (ep + 1)) ∧ w'.cell? ⟨zb, 0, none⟩ = some (.string z3) from ⟨(c5 hC).2.2.2.1, by rw [hZ.cell]; rfl⟩))
    have HKS7 := Lib.hid (fun w' {f : Value} (hC : Ce w' B 29 #[r, h, a, it (ep + 1), f]) (hZ : Ce w' zb 9 #[.string z3]) => (show w'.cell? ⟨B, 3, none⟩ = some (it (ep + 1)) ∧ w'.cell? ⟨zb, 0, none⟩ = some (.string z3) from ⟨(c5 hC).2.2.2.1, by rw [hZ.cell]; rfl⟩))
    have HCa := Lib.hid (HC4.out.below H0.out)
    have HZa := Lib.hid (HZ4.out.below H0.out)
    go_upto_region 8 with fail
    obtain ⟨c0, c1, c2, c3, c4⟩ := c5 HCa.out
    refine wp_region_held_drew (S := fun w' => w'.cell? ⟨B, 3, none⟩ = some (it (ep + 1)) ∧ w'.cell? ⟨zb, 0, none⟩ = some (.string z3)) (by kernel_rfl) (HKS.out _ HCa.out HZa.out) (fun hHeld => ?_)
    refine' wpAnyH_take (i := 0) (v := ?v1) rfl (by kernel_rfl) (by kernel_rfl) (by kernel_rfl) (fun _ _ _ h => h) (Or.inl ⟨by rfl, ?y1⟩) (by assumption) ?r1
    case y1 => (intro w hSw; (try dsimp only at hSw); go_simp; try with_reducible rfl)
    try simp only [Act.put, List.getElem_toArray, List.getElem_cons_zero, List.setIfInBounds_toArray, List.set_cons_zero, List.set_cons_succ]
    refine' wpAnyH_take (i := 1) (v := ?v2) rfl (by kernel_rfl) (by kernel_rfl) (by kernel_rfl) (fun _ _ _ h => h) (Or.inl ⟨by rfl, ?y2⟩) (by assumption) ?r2
    case y2 => (intro w hSw; (try dsimp only at hSw); go_simp; try with_reducible rfl)
    try simp only [Act.put, List.getElem_toArray, List.getElem_cons_succ, List.getElem_cons_zero, List.setIfInBounds_toArray, List.set_cons_zero, List.set_cons_succ]
    refine' wpAnyH_take (i := 5) (v := ?v3) rfl (by kernel_rfl) (by kernel_rfl) (by kernel_rfl) (fun _ _ _ h => h) (Or.inl ⟨by rfl, ?y3⟩) (by assumption) ?r3
    case y3 => (intro w hSw; (try dsimp only at hSw); go_simp; try with_reducible rfl)
    try simp only [Act.put, List.getElem_toArray, List.getElem_cons_succ, List.getElem_cons_zero, List.setIfInBounds_toArray, List.set_cons_zero, List.set_cons_succ]
    refine' wpAnyH_take (i := 9) (v := ?v4) rfl (by kernel_rfl) (by kernel_rfl) (by kernel_rfl) (fun _ _ _ h => h) (Or.inl ⟨by rfl, ?y4⟩) (by assumption) ?r4
    case y4 => (intro w hSw; (try dsimp only at hSw); go_simp; try with_reducible rfl)
    try simp only [Act.put, List.getElem_toArray, List.getElem_cons_succ, List.getElem_cons_zero, List.setIfInBounds_toArray, List.set_cons_zero, List.set_cons_succ]
    refine' wpAnyH_take (i := 2) (v := ?v5) rfl (by kernel_rfl) (by kernel_rfl) (by kernel_rfl) (fun _ _ _ h => h) (Or.inl ⟨by rfl, ?y5⟩) (by assumption) ?r5
    case y5 => (intro w hSw; (try dsimp only at hSw); go_simp; try with_reducible rfl)
    try simp only [Act.put, List.getElem_toArray, List.getElem_cons_succ, List.getElem_cons_zero, List.setIfInBounds_toArray, List.set_cons_zero, List.set_cons_succ]
    refine' wpAnyH_take (i := 6) (v := ?v6) rfl (by kernel_rfl) (by kernel_rfl) (by kernel_rfl) (fun _ _ _ h => h) (Or.inl ⟨by rfl, ?y6⟩) (by assumption) ?r6
    case y6 => (intro w hSw; (try dsimp only at hSw); go_simp; try with_reducible rfl)
    try simp only [Act.put, List.getElem_toArray, List.getElem_cons_succ, List.getElem_cons_zero, List.setIfInBounds_toArray, List.set_cons_zero, List.set_cons_succ]
    refine' wpAnyH_take (i := 3) (v := ?v7) rfl (by kernel_rfl) (by kernel_rfl) (by kernel_rfl) (fun _ _ _ h => h) (Or.inl ⟨by rfl, ?y7⟩) (by assumption) ?r7
    case y7 => (intro w hSw; (try dsimp only at hSw); go_simp; try with_reducible rfl)
    try simp only [Act.put, List.getElem_toArray, List.getElem_cons_succ, List.getElem_cons_zero, List.setIfInBounds_toArray, List.set_cons_zero, List.set_cons_succ]
    refine' wpAnyH_take (i := 7) (v := ?v8) rfl (by kernel_rfl) (by kernel_rfl) (by kernel_rfl) (fun _ _ _ h => h) (Or.inl ⟨by rfl, ?y8⟩) (by assumption) ?r8
    case y8 => (intro w hSw; (try dsimp only at hSw); go_simp; try with_reducible rfl)
    try simp only [Act.put, List.getElem_toArray, List.getElem_cons_succ, List.getElem_cons_zero, List.setIfInBounds_toArray, List.set_cons_zero, List.set_cons_succ]
    refine' wpAnyH_take (i := 8) (v := ?v9) rfl (by kernel_rfl) (by kernel_rfl) (by kernel_rfl) (fun _ _ _ h => h) (Or.inl ⟨by rfl, ?y9⟩) (by assumption) ?r9
    case y9 => (intro w hSw; (try dsimp only at hSw); go_simp; try with_reducible rfl)
    try simp only [Act.put, List.getElem_toArray, List.getElem_cons_succ, List.getElem_cons_zero, List.setIfInBounds_toArray, List.set_cons_zero, List.set_cons_succ]
    refine wpAnyH_ready (rs := [4, 10]) (by kernel_rfl) (by simp) ?_
    refine AllReadyH.cons rfl (fun K hK => ?_) ?_
    ·
      go_simp
      refine hK.out _ _ (by first | with_reducible exact HKS.out _ HCa.out HZa.out | exact HKS.out _ HCa.out HZa.out) (fun hHeld => ?_)
      clear hK K
      try simp only [Act.put, List.getElem_toArray, List.getElem_cons_succ, List.getElem_cons_zero, List.setIfInBounds_toArray, List.set_cons_zero, List.set_cons_succ]
      refine wpAnyH_ready (rs := [10]) (by kernel_rfl) (by simp) ?_
      refine AllReadyH.cons rfl (fun K hK => ?_) AllReadyH.nil
      go_simp
      refine (HLW.out _).mono ?_
      rintro e w5 ⟨rfl, hb5⟩
      have HD_1 : Hid (Below wc.heap.size wc w5) := Lib.hid (H0.out.trans (hb5.mono H0.out.size))
      have HC_2 := Lib.hid (HC4.out.below HD_1.out)
      have HZ_3 := Lib.hid (HZ4.out.below HD_1.out)
      obtain ⟨c0, c1, c2, c3, c4⟩ := c5 HC_2.out
      clear hb5
      go_wp2_with fail
      refine hK.out _ _ (by first | with_reducible exact HKS.out _ HC_2.out HZ_3.out | exact HKS.out _ HC_2.out HZ_3.out) (fun hHeld => ?_)
      clear hK K
      try simp only [Act.put, List.getElem_toArray, List.getElem_cons_succ, List.getElem_cons_zero, List.setIfInBounds_toArray, List.set_cons_zero, List.set_cons_succ]
      refine' wpAnyH_take (i := 11) (v := ?v10) rfl (by kernel_rfl) (by kernel_rfl) (by kernel_rfl) (fun _ _ _ h => h) (Or.inl ⟨by rfl, ?y10⟩) (by assumption) ?r10
      case y10 => (intro w hSw; (try dsimp only at hSw); go_simp; try with_reducible rfl)
      try simp only [Act.put, List.getElem_toArray, List.getElem_cons_succ, List.getElem_cons_zero, List.setIfInBounds_toArray, List.set_cons_zero, List.set_cons_succ]
      refine wpAnyH_ready (rs := [12]) (by kernel_rfl) (by simp) ?_
      refine AllReadyH.cons rfl (fun K hK => ?_) AllReadyH.nil
      go_simp
      have HD_4 : Hid (Below wc.heap.size wc (w5.alloc (.cells #[it (ep + 1), .string lz] 48))) := Lib.hid (HD_1.out.trans ((one_new w5 (.cells #[it (ep + 1), .string lz] 48)).mono HD_1.out.size))
      have HC_5 := Lib.hid (HC4.out.below HD_4.out)
      have HZ_6 := Lib.hid (HZ4.out.below HD_4.out)
      obtain ⟨c0, c1, c2, c3, c4⟩ := c5 HC_5.out
      refine hK.out _ _ (by first | with_reducible exact HKS.out _ HC_5.out HZ_6.out | exact HKS.out _ HC_5.out HZ_6.out) (fun hHeld => ?_)
      clear hK K
      try simp only [Act.put, List.getElem_toArray, List.getElem_cons_succ, List.getElem_cons_zero, List.setIfInBounds_toArray, List.set_cons_zero, List.set_cons_succ]
      refine wpAnyH_ready (rs := [13]) (by kernel_rfl) (by simp) ?_
      refine AllReadyH.cons rfl (fun K hK => ?_) AllReadyH.nil
      have OW := Lib.hid (HO4.out.below HD_4.out)
      have RV := Lib.hid ((rdX_one elF w5 ⟨ep + 1, lz⟩ #[it (ep + 1), .string lz] rfl))
      refine op_app elF (.tmp 41) (.tmp 49) rfl base _ L3 [⟨ep + 1, lz⟩] rfl OW.out _ rfl RV.out (by have := HM.out; simp; omega) (by have := HB4.out; have := HD_4.out.size; omega) ?_
      intro v6 w6 ho6 hg6 hv6
      replace hg6 : World.grownBy _ w6 (Value.slice ma m mc).ownBlock := hg6
      clear hv6
      have HC6 : Hid (Ce w6 B 29 #[r, h, a, it (ep + 1), .slice ma m mc]) := Lib.hid ((hg6.block B HC_5.out.lt (fun e => HNEB.out e.symm)).trans HC_5.out)
      have HZ6 : Hid (Ce w6 zb 9 #[.string z3]) := Lib.hid ((hg6.block zb HZ_6.out.lt (fun e => HNEZ.out e.symm)).trans HZ_6.out)
      obtain ⟨xa, xc, rfl, _⟩ := ho6.shape
      have HLE : Hid (L3 ++ [(⟨ep + 1, lz⟩ : Fl')] = flF ep L z) := Lib.hid (by rw [HF4.out, HLZ.out])
      rw [HLE.out] at ho6 ⊢
      obtain ⟨y, hy⟩ : ∃ y, y = (flF ep L z).length := ⟨_, rfl⟩
      rw [← hy] at ho6 ⊢
      have HG6 := Lib.hid hg6
      have HO6 := Lib.hid ho6
      have HT6 : Hid (Tr (fun b => b = B ∨ fs.ownBlock = some b) w w6) := Lib.hid ((HT4.out.then (Tr.of_below HD_4.out)).grown hg6 (fun k hk => by rcases HOW4.out with e | e; exact .inl (.inr (e ▸ hk)); rw [e] at hk; cases hk))
      have HC7 := Lib.hid (HC6.out.set (.slice xa y xc) (i := 4))
      have HO7 := Lib.hid (HO6.out.setT HC6.out (by decide) (i := 4) (.slice xa y xc))
      have HT7 := Lib.hid (HT6.out.setCell (i := 4) (.inl (.inl rfl)) (.slice xa y xc))
      have HZ7 : Hid (Ce (w6.setCell ⟨B, 4, none⟩ (.slice xa y xc)) zb 9 #[.string z3]) := Lib.hid (HZ6.out.other (by have := HNB.out; omega) (.slice xa y xc))
      obtain ⟨c0, c1, c2, c3, c4⟩ := c5 HC6.out
      obtain ⟨f0, f1, f2, f3, f4⟩ := f5 HC6.out
      clear ho6 hg6 hy
      refine hK.out _ _ (by first | with_reducible exact HKS.out _ HC6.out HZ6.out | exact HKS.out _ HC6.out HZ6.out) (fun hHeld => ?_)
      clear hK K
      try simp only [Act.put, List.getElem_toArray, List.getElem_cons_succ, List.getElem_cons_zero, List.setIfInBounds_toArray, List.set_cons_zero, List.set_cons_succ]
      refine' wpAnyH_take (i := 14) (v := ?v11) rfl (by kernel_rfl) (by kernel_rfl) (by kernel_rfl) (fun _ _ _ h => h) (Or.inl ⟨by rfl, ?y11⟩) (by assumption) ?r11
      case y11 => (intro w hSw; (try dsimp only at hSw); go_simp; try with_reducible rfl)
      try simp only [Act.put, List.getElem_toArray, List.getElem_cons_succ, List.getElem_cons_zero, List.setIfInBounds_toArray, List.set_cons_zero, List.set_cons_succ]
      refine' wpAnyH_take (i := 15) (v := ?v12) rfl (by kernel_rfl) (by kernel_rfl) (by kernel_rfl) (fun _ _ _ h => h) (Or.inl ⟨by rfl, ?y12⟩) (by assumption) ?r12
      case y12 => (intro w hSw; (try dsimp only at hSw); go_simp; try with_reducible rfl)
      try simp only [Act.put, List.getElem_toArray, List.getElem_cons_succ, List.getElem_cons_zero, List.setIfInBounds_toArray, List.set_cons_zero, List.set_cons_succ]
      refine wpAnyH_ready (rs := [16]) (by kernel_rfl) (by simp) ?_
      refine AllReadyH.cons rfl (fun K hK => ?_) AllReadyH.nil
      go_simp
      refine hK.out _ _ (by first | with_reducible exact HKS7.out _ HC7.out HZ7.out | exact HKS7.out _ HC7.out HZ7.out) (fun hHeld => ?_)
      clear hK K
      try simp only [Act.put, List.getElem_toArray, List.getElem_cons_succ, List.getElem_cons_zero, List.setIfInBounds_toArray, List.set_cons_zero, List.set_cons_succ]
      refine wpAnyH_done (by kernel_rfl) ?_ _
      go_wp2
      go_ret
      exact ⟨rfl, _, HC7.out, HO7.out, HT7.out⟩
    refine AllReadyH.cons rfl (fun K hK => ?_) AllReadyH.nil
    go_simp
    refine (HLW.out _).mono ?_
    rintro e w5 ⟨rfl, hb5⟩
    have HD_7 : Hid (Below wc.heap.size wc w5) := Lib.hid (H0.out.trans (hb5.mono H0.out.size))
    have HC_8 := Lib.hid (HC4.out.below HD_7.out)
    have HZ_9 := Lib.hid (HZ4.out.below HD_7.out)
    obtain ⟨c0, c1, c2, c3, c4⟩ := c5 HC_8.out
    clear hb5
    go_wp2_with fail
    refine hK.out _ _ (by first | with_reducible exact HKS.out _ HC_8.out HZ_9.out | exact HKS.out _ HC_8.out HZ_9.out) (fun hHeld => ?_)
    clear hK K
    try simp only [Act.put, List.getElem_toArray, List.getElem_cons_succ, List.getElem_cons_zero, List.setIfInBounds_toArray, List.set_cons_zero, List.set_cons_succ]
    refine' wpAnyH_take (i := 11) (v := ?v13) rfl (by kernel_rfl) (by kernel_rfl) (by kernel_rfl) (fun _ _ _ h => h) (Or.inl ⟨by rfl, ?y13⟩) (by assumption) ?r13
    case y13 => (intro w hSw; (try dsimp only at hSw); go_simp; try with_reducible rfl)
    try simp only [Act.put, List.getElem_toArray, List.getElem_cons_succ, List.getElem_cons_zero, List.setIfInBounds_toArray, List.set_cons_zero, List.set_cons_succ]
    refine wpAnyH_ready (rs := [4, 12]) (by kernel_rfl) (by simp) ?_
    refine AllReadyH.cons rfl (fun K hK => ?_) ?_
    ·
      go_simp
      refine hK.out _ _ (by first | with_reducible exact HKS.out _ HC_8.out HZ_9.out | exact HKS.out _ HC_8.out HZ_9.out) (fun hHeld => ?_)
      clear hK K
      try simp only [Act.put, List.getElem_toArray, List.getElem_cons_succ, List.getElem_cons_zero, List.setIfInBounds_toArray, List.set_cons_zero, List.set_cons_succ]
      refine wpAnyH_ready (rs := [12]) (by kernel_rfl) (by simp) ?_
      refine AllReadyH.cons rfl (fun K hK => ?_) AllReadyH.nil
      go_simp
      have HD_10 : Hid (Below wc.heap.size wc (w5.alloc (.cells #[it (ep + 1), .string lz] 48))) := Lib.hid (HD_7.out.trans ((one_new w5 (.cells #[it (ep + 1), .string lz] 48)).mono HD_7.out.size))
      have HC_11 := Lib.hid (HC4.out.below HD_10.out)
      have HZ_12 := Lib.hid (HZ4.out.below HD_10.out)
      obtain ⟨c0, c1, c2, c3, c4⟩ := c5 HC_11.out
      refine hK.out _ _ (by first | with_reducible exact HKS.out _ HC_11.out HZ_12.out | exact HKS.out _ HC_11.out HZ_12.out) (fun hHeld => ?_)
      clear hK K
      try simp only [Act.put, List.getElem_toArray, List.getElem_cons_succ, List.getElem_cons_zero, List.setIfInBounds_toArray, List.set_cons_zero, List.set_cons_succ]
      refine wpAnyH_ready (rs := [13]) (by kernel_rfl) (by simp) ?_
      refine AllReadyH.cons rfl (fun K hK => ?_) AllReadyH.nil
      have OW := Lib.hid (HO4.out.below HD_10.out)
      have RV := Lib.hid ((rdX_one elF w5 ⟨ep + 1, lz⟩ #[it (ep + 1), .string lz] rfl))
      refine op_app elF (.tmp 41) (.tmp 49) rfl base _ L3 [⟨ep + 1, lz⟩] rfl OW.out _ rfl RV.out (by have := HM.out; simp; omega) (by have := HB4.out; have := HD_10.out.size; omega) ?_
      intro v6 w6 ho6 hg6 hv6
      replace hg6 : World.grownBy _ w6 (Value.slice ma m mc).ownBlock := hg6
      clear hv6
      have HC6 : Hid (Ce w6 B 29 #[r, h, a, it (ep + 1), .slice ma m mc]) := Lib.hid ((hg6.block B HC_11.out.lt (fun e => HNEB.out e.symm)).trans HC_11.out)
      have HZ6 : Hid (Ce w6 zb 9 #[.string z3]) := Lib.hid ((hg6.block zb HZ_12.out.lt (fun e => HNEZ.out e.symm)).trans HZ_12.out)
      obtain ⟨xa, xc, rfl, _⟩ := ho6.shape
      have HLE : Hid (L3 ++ [(⟨ep + 1, lz⟩ : Fl')] = flF ep L z) := Lib.hid (by rw [HF4.out, HLZ.out])
      rw [HLE.out] at ho6 ⊢
      obtain ⟨y, hy⟩ : ∃ y, y = (flF ep L z).length := ⟨_, rfl⟩
      rw [← hy] at ho6 ⊢
      have HG6 := Lib.hid hg6
      have HO6 := Lib.hid ho6
      have HT6 : Hid (Tr (fun b => b = B ∨ fs.ownBlock = some b) w w6) := Lib.hid ((HT4.out.then (Tr.of_below HD_10.out)).grown hg6 (fun k hk => by rcases HOW4.out with e | e; exact .inl (.inr (e ▸ hk)); rw [e] at hk; cases hk))
      have HC7 := Lib.hid (HC6.out.set (.slice xa y xc) (i := 4))
      have HO7 := Lib.hid (HO6.out.setT HC6.out (by decide) (i := 4) (.slice xa y xc))
      have HT7 := Lib.hid (HT6.out.setCell (i := 4) (.inl (.inl rfl)) (.slice xa y xc))
      have HZ7 : Hid (Ce (w6.setCell ⟨B, 4, none⟩ (.slice xa y xc)) zb 9 #[.string z3]) := Lib.hid (HZ6.out.other (by have := HNB.out; omega) (.slice xa y xc))
      obtain ⟨c0, c1, c2, c3, c4⟩ := c5 HC6.out
      obtain ⟨f0, f1, f2, f3, f4⟩ := f5 HC6.out
      clear ho6 hg6 hy
      refine hK.out _ _ (by first | with_reducible exact HKS.out _ HC6.out HZ6.out | exact HKS.out _ HC6.out HZ6.out) (fun hHeld => ?_)
      clear hK K
      try simp only [Act.put, List.getElem_toArray, List.getElem_cons_succ, List.getElem_cons_zero, List.setIfInBounds_toArray, List.set_cons_zero, List.set_cons_succ]
      refine' wpAnyH_take (i := 14) (v := ?v14) rfl (by kernel_rfl) (by kernel_rfl) (by kernel_rfl) (fun _ _ _ h => h) (Or.inl ⟨by rfl, ?y14⟩) (by assumption) ?r14
      case y14 => (intro w hSw; (try dsimp only at hSw); go_simp; try with_reducible rfl)
      try simp only [Act.put, List.getElem_toArray, List.getElem_cons_succ, List.getElem_cons_zero, List.setIfInBounds_toArray, List.set_cons_zero, List.set_cons_succ]
      refine' wpAnyH_take (i := 15) (v := ?v15) rfl (by kernel_rfl) (by kernel_rfl) (by kernel_rfl) (fun _ _ _ h => h) (Or.inl ⟨by rfl, ?y15⟩) (by assumption) ?r15
      case y15 => (intro w hSw; (try dsimp only at hSw); go_simp; try with_reducible rfl)
      try simp only [Act.put, List.getElem_toArray, List.getElem_cons_succ, List.getElem_cons_zero, List.setIfInBounds_toArray, List.set_cons_zero, List.set_cons_succ]
      refine wpAnyH_ready (rs := [16]) (by kernel_rfl) (by simp) ?_
      refine AllReadyH.cons rfl (fun K hK => ?_) AllReadyH.nil
      go_simp
      refine hK.out _ _ (by first | with_reducible exact HKS7.out _ HC7.out HZ7.out | exact HKS7.out _ HC7.out HZ7.out) (fun hHeld => ?_)
      clear hK K
      try simp only [Act.put, List.getElem_toArray, List.getElem_cons_succ, List.getElem_cons_zero, List.setIfInBounds_toArray, List.set_cons_zero, List.set_cons_succ]
      refine wpAnyH_done (by kernel_rfl) ?_ _
      go_wp2
      go_ret
      exact ⟨rfl, _, HC7.out, HO7.out, HT7.out⟩
    refine AllReadyH.cons rfl (fun K hK => ?_) AllReadyH.nil
    go_simp
    have HD_13 : Hid (Below wc.heap.size wc (w5.alloc (.cells #[it (ep + 1), .string lz] 48))) := Lib.hid (HD_7.out.trans ((one_new w5 (.cells #[it (ep + 1), .string lz] 48)).mono HD_7.out.size))
    have HC_14 := Lib.hid (HC4.out.below HD_13.out)
    have HZ_15 := Lib.hid (HZ4.out.below HD_13.out)
    obtain ⟨c0, c1, c2, c3, c4⟩ := c5 HC_14.out
    refine hK.out _ _ (by first | with_reducible exact HKS.out _ HC_14.out HZ_15.out | exact HKS.out _ HC_14.out HZ_15.out) (fun hHeld => ?_)
    clear hK K
    try simp only [Act.put, List.getElem_toArray, List.getElem_cons_succ, List.getElem_cons_zero, List.setIfInBounds_toArray, List.set_cons_zero, List.set_cons_succ]
    refine wpAnyH_ready (rs := [4]) (by kernel_rfl) (by simp) ?_
    refine AllReadyH.cons rfl (fun K hK => ?_) AllReadyH.nil
    go_simp
    refine hK.out _ _ (by first | with_reducible exact HKS.out _ HC_14.out HZ_15.out | exact HKS.out _ HC_14.out HZ_15.out) (fun hHeld => ?_)
    clear hK K
    try simp only [Act.put, List.getElem_toArray, List.getElem_cons_succ, List.getElem_cons_zero, List.setIfInBounds_toArray, List.set_cons_zero, List.set_cons_succ]
    refine wpAnyH_ready (rs := [13]) (by kernel_rfl) (by simp) ?_
    refine AllReadyH.cons rfl (fun K hK => ?_) AllReadyH.nil
    have OW := Lib.hid (HO4.out.below HD_13.out)
    have RV := Lib.hid ((rdX_one elF w5 ⟨ep + 1, lz⟩ #[it (ep + 1), .string lz] rfl))
    refine op_app elF (.tmp 41) (.tmp 49) rfl base _ L3 [⟨ep + 1, lz⟩] rfl OW.out _ rfl RV.out (by have := HM.out; simp; omega) (by have := HB4.out; have := HD_13.out.size; omega) ?_
    intro v6 w6 ho6 hg6 hv6
    replace hg6 : World.grownBy _ w6 (Value.slice ma m mc).ownBlock := hg6
    clear hv6
    have HC6 : Hid (Ce w6 B 29 #[r, h, a, it (ep + 1), .slice ma m mc]) := Lib.hid ((hg6.block B HC_14.out.lt (fun e => HNEB.out e.symm)).trans HC_14.out)
    have HZ6 : Hid (Ce w6 zb 9 #[.string z3]) := Lib.hid ((hg6.block zb HZ_15.out.lt (fun e => HNEZ.out e.symm)).trans HZ_15.out)
    obtain ⟨xa, xc, rfl, _⟩ := ho6.shape
    have HLE : Hid (L3 ++ [(⟨ep + 1, lz⟩ : Fl')] = flF ep L z) := Lib.hid (by rw [HF4.out, HLZ.out])
    rw [HLE.out] at ho6 ⊢
    obtain ⟨y, hy⟩ : ∃ y, y = (flF ep L z).length := ⟨_, rfl⟩
    rw [← hy] at ho6 ⊢
    have HG6 := Lib.hid hg6
    have HO6 := Lib.hid ho6
    have HT6 : Hid (Tr (fun b => b = B ∨ fs.ownBlock = some b) w w6) := Lib.hid ((HT4.out.then (Tr.of_below HD_13.out)).grown hg6 (fun k hk => by rcases HOW4.out with e | e; exact .inl (.inr (e ▸ hk)); rw [e] at hk; cases hk))
    have HC7 := Lib.hid (HC6.out.set (.slice xa y xc) (i := 4))
    have HO7 := Lib.hid (HO6.out.setT HC6.out (by decide) (i := 4) (.slice xa y xc))
    have HT7 := Lib.hid (HT6.out.setCell (i := 4) (.inl (.inl rfl)) (.slice xa y xc))
    have HZ7 : Hid (Ce (w6.setCell ⟨B, 4, none⟩ (.slice xa y xc)) zb 9 #[.string z3]) := Lib.hid (HZ6.out.other (by have := HNB.out; omega) (.slice xa y xc))
    obtain ⟨c0, c1, c2, c3, c4⟩ := c5 HC6.out
    obtain ⟨f0, f1, f2, f3, f4⟩ := f5 HC6.out
    clear ho6 hg6 hy
    refine hK.out _ _ (by first | with_reducible exact HKS.out _ HC6.out HZ6.out | exact HKS.out _ HC6.out HZ6.out) (fun hHeld => ?_)
    clear hK K
    try simp only [Act.put, List.getElem_toArray, List.getElem_cons_succ, List.getElem_cons_zero, List.setIfInBounds_toArray, List.set_cons_zero, List.set_cons_succ]
    refine' wpAnyH_take (i := 14) (v := ?v16) rfl (by kernel_rfl) (by kernel_rfl) (by kernel_rfl) (fun _ _ _ h => h) (Or.inl ⟨by rfl, ?y16⟩) (by assumption) ?r16
    case y16 => (intro w hSw; (try dsimp only at hSw); go_simp; try with_reducible rfl)
    try simp only [Act.put, List.getElem_toArray, List.getElem_cons_succ, List.getElem_cons_zero, List.setIfInBounds_toArray, List.set_cons_zero, List.set_cons_succ]
    refine' wpAnyH_take (i := 15) (v := ?v17) rfl (by kernel_rfl) (by kernel_rfl) (by kernel_rfl) (fun _ _ _ h => h) (Or.inl ⟨by rfl, ?y17⟩) (by assumption) ?r17
    case y17 => (intro w hSw; (try dsimp only at hSw); go_simp; try with_reducible rfl)
    try simp only [Act.put, List.getElem_toArray, List.getElem_cons_succ, List.getElem_cons_zero, List.setIfInBounds_toArray, List.set_cons_zero, List.set_cons_succ]
    refine wpAnyH_ready (rs := [16]) (by kernel_rfl) (by simp) ?_
    refine AllReadyH.cons rfl (fun K hK => ?_) AllReadyH.nil
    go_simp
    refine hK.out _ _ (by first | with_reducible exact HKS7.out _ HC7.out HZ7.out | exact HKS7.out _ HC7.out HZ7.out) (fun hHeld => ?_)
    clear hK K
    try simp only [Act.put, List.getElem_toArray, List.getElem_cons_succ, List.getElem_cons_zero, List.setIfInBounds_toArray, List.set_cons_zero, List.set_cons_succ]
    refine wpAnyH_done (by kernel_rfl) ?_ _
    go_wp2
    go_ret
    exact ⟨rfl, _, HC7.out, HO7.out, HT7.out⟩
end Go.Proofs.Ytjoplnkagfkffaa
