/-
  The map that counts the items of each way: what a key is, what is counted.
-/
import Derived.Test.YtocmgdhhlofajaaFns
import Derived.DeepKeys4
import Derived.WideKeyEntry
import Derived.Maps.Own
import Derived.Maps.Views
namespace Go.Proofs.Ytocmgdhhlofajaa
open Go.RowKit Go.Maps
theorem laidOutT : laidOutB Try.prog = true := by kernel_rfl
theorem row85 : (85 : TypeId) < Try.prog.types.size := of_decide_eq_true (by kernel_rfl)
theorem wide85 : (match Try.prog.underlying 85 with | some (.array _ _) | some (.struct _) => true | _ => false) = true := by rw [Try.underlying85]
theorem klaw : WideMaps.KeyLaw Try.prog 85 := deep_law_laid laidOutT (m := 3) (by omega) row85 (by kernel_rfl) wide85
theorem cells85 : Try.prog.cellsOf 85 = 2 := by kernel_rfl
theorem cells3 : Try.prog.cellsOf 3 = 1 := by kernel_rfl
theorem ktype85 : Try.prog.keyType 85 = true := by kernel_rfl
theorem i64_wf {n : Int} (h : I64 n) : (Lit.int .i64 n).wf = true := by
  simpa [Lit.wf, IntKind.min, IntKind.max, IntKind.signed, IntKind.bits, I64] using h
theorem lits_of (D : Nat) (c t : Int) (hc : I64 c) (ht : I64 t) : Try.prog.keyLits (D + 2) 85 [.int .i64 c, .int .i64 t] = some [.int .i64 c, .int .i64 t] := by
  have hw1 := i64_wf hc
  have hw2 := i64_wf ht
  simp [Program.keyLits, Try.underlying85, Try.underlying3, cells85, cells3, hw1, hw2]
theorem two_more {n m : Nat} (h : m < n) (hm : 0 < m) : ∃ d, n + 1 = d + 2 := ⟨n - 1, by omega⟩
theorem formed85 {c0 c1 : Value} : (Value.agg #[c0, c1]).formed Try.prog 85 = true := by simp [Value.formed, Try.underlying85, cells85]
theorem key_of (c t : Int) (hc : I64 c) (ht : I64 t) : ∃ kl, keyOf Try.prog 85 (.agg #[.int .i64 c, .int .i64 t]) = some kl := by
  obtain ⟨d, hd⟩ := two_more row85 (by decide)
  have hl := lits_of d c t hc ht
  rw [← hd] at hl
  unfold keyOf
  rw [Try.underlying85]
  have e : (Value.agg #[.int .i64 c, .int .i64 t]).cells.toList = [.int .i64 c, .int .i64 t] := rfl
  rw [e, hl, ktype85, formed85]
  exact ⟨_, rfl⟩
theorem zero3 (w : World) : (zeroValue 3).run Try.prog w = .ok (.int .i64 0) w := by
  obtain ⟨i0, hi, hz0, hz1, hz2⟩ := info_parts info3
  simp [zeroValue, typeInfo, hi, hz0]
abbrev OwnM (w : World) (M n : Nat) (D : DataW Unit) : Prop := w.ownsMap Try.prog 85 (plainElem Try.prog 3) M n D
theorem setBlock_inj {w : World} {b : Nat} {o o' : Obj} (hb : b < w.heap.size) (h : ChangeMaps.setBlock w b o = ChangeMaps.setBlock w b o') : o = o' := by
  have h1 : (ChangeMaps.setBlock w b o).heap[b]? = (ChangeMaps.setBlock w b o').heap[b]? := by rw [h]
  simpa [ChangeMaps.setBlock, hb] using h1
theorem ent_law {w : World} {M n : Nat} {D : DataW Unit} (h : OwnM w M n D) (hn : n < 1000000) {key : Value} {kl : Lit} (hkey : keyOf Try.prog 85 key = some kl) :
    ∃ (c : Int) (st : Nat) (w1 : World), D.atKey kl (.lit (.int .i64 0)) = .lit (.int .i64 c) ∧
      (Instr.lookup 83 (.map (some M)) key false).run Try.prog w = .ok (.int .i64 c) w ∧
      (Instr.mapEntry 83 (.map (some M)) key).run Try.prog w = .ok (.tuple #[.int .i64 c, .int .i64 st]) w1 ∧
      (Instr.lookup 83 (.map (some M)) key false).run Try.prog w1 = .ok (.int .i64 c) w1 ∧ w.grownBy w1 (some M) ∧
      ∀ x, I64 x → ∃ w2, (Instr.entryStore 83 (.map (some M)) (.int .i64 st) (.int .i64 x)).run Try.prog w1 = .ok () w2 ∧ OwnM w2 M (n + 1) (D.put kl (.lit (.int .i64 x))) ∧ w1.grownBy w2 (some M) := by
  have K : Keyed Try.prog 85 := Keyed.of_law klaw
  obtain ⟨c, hrun, hat, hwc⟩ := h.lookup_int K Try.underlying83 Try.underlying3 (zero3 w) hkey
  have hup := fun (x : Int) (hx : I64 x) => h.update K Try.underlying83 (by unfold maxLen; omega) hkey (plainElem_int (H := Unit) Try.underlying3 (i64_wf hx))
  obtain ⟨es, clock, hb, F, hs, rfl⟩ := h
  have hbl : M < w.heap.size := (Array.getElem?_eq_some_iff.1 hb).1
  obtain ⟨v0, st, es1, clock1, hme, _, hst⟩ := WideElems.entry_then_store klaw Try.underlying83 zero3 hb F hkey
  have hw1 : (ChangeMaps.setBlock w M (.map es1 clock1)).heap[M]? = some (.map es1 clock1) := by simp [ChangeMaps.setBlock, hbl]
  have hg1 : w.grownBy (ChangeMaps.setBlock w M (.map es1 clock1)) (some M) := ⟨rfl, rfl, rfl, by simp [ChangeMaps.setBlock], fun k _ hk => ChangeMaps.heap_setBlock_other hb _ (fun e => hk (by rw [e]))⟩
  have hv : v0 = .int .i64 c ∧ (Instr.lookup 83 (.map (some M)) key false).run Try.prog (ChangeMaps.setBlock w M (.map es1 clock1)) = .ok (.int .i64 c) (ChangeMaps.setBlock w M (.map es1 clock1)) := by
    rcases K.find w hkey es.toList F.keys with ⟨h1, h2⟩ | ⟨j, e0, h1, h2, h3⟩
    · have hl : (Instr.lookup 83 (.map (some M)) key false).run Try.prog w = .ok (.int .i64 0) w := by
        simp [Instr.lookup, run_underlying Try.underlying83, MapKept.run_getObj_map hb, K.check w _ hkey, h1, Result.andThen]
      have hc : c = 0 := by rw [hl] at hrun; simpa using hrun.symm
      have hm : (Instr.mapEntry 83 (.map (some M)) key).run Try.prog w = .ok (.tuple #[.int .i64 0, goInt clock]) (ChangeMaps.setBlock w M (.map (es.push ⟨key, .int .i64 0, clock⟩) (clock + 1))) := by
        simp [Instr.mapEntry, run_underlying Try.underlying83, MapKept.run_getObj_map hb, K.check w false hkey, h1, MapKept.run_setObj_map _ hb, Result.andThen, ChangeMaps.setBlock]
      rw [hm] at hme
      injection hme with e1 e2
      have e3 := setBlock_inj hbl e2
      injection e3 with e4 e5
      have e6 : v0 = .int .i64 0 := by
        have := e1
        simp at this
        exact this.1.symm
      refine ⟨by rw [e6, hc], ?_⟩
      have hks : ∀ e ∈ es1.toList, ∃ l, keyOf Try.prog 85 e.key = some l := by
        rw [← e4]
        intro e he
        simp only [Array.toList_push, List.mem_append, List.mem_singleton] at he
        rcases he with he | rfl
        · exact F.keys e he
        · exact ⟨kl, hkey⟩
      rcases K.find (ChangeMaps.setBlock w M (.map es1 clock1)) hkey es1.toList hks with ⟨_, g2⟩ | ⟨j, e0, g1, g2, g3⟩
      · exact absurd rfl (g2 ⟨key, .int .i64 0, clock⟩ (by rw [← e4]; simp))
      · have hval : e0.val = .int .i64 0 := by
          have hm := List.mem_of_getElem? g2
          rw [← e4] at hm
          simp only [Array.toList_push, List.mem_append, List.mem_singleton] at hm
          rcases hm with hm | rfl
          · exact absurd g3 (h2 e0 hm)
          · rfl
        simp [Instr.lookup, run_underlying Try.underlying83, MapKept.run_getObj_map hw1, K.check _ _ hkey, g1, hval, hc, Result.andThen]
    · have hl : (Instr.lookup 83 (.map (some M)) key false).run Try.prog w = .ok e0.val w := by
        simp [Instr.lookup, run_underlying Try.underlying83, MapKept.run_getObj_map hb, K.check w _ hkey, h1, Result.andThen]
      have hc : e0.val = .int .i64 c := by rw [hl] at hrun; simpa using hrun
      have hj : es[j]? = some e0 := by simpa using h2
      have hsame : es.modify j (fun e => { e with key := key }) = es := by
        apply Array.ext'
        rw [Array.toList_modify, ChangeMaps.modify_eq_set _ _ _ _ h2]
        have : ({ e0 with key := key } : MapEntry) = e0 := by rw [← h3]
        rw [this]
        exact WideElems.set_self _ _ _ h2
      have hm : (Instr.mapEntry 83 (.map (some M)) key).run Try.prog w = .ok (.tuple #[e0.val, goInt e0.born]) (ChangeMaps.setBlock w M (.map es clock)) := by
        simp [Instr.mapEntry, run_underlying Try.underlying83, MapKept.run_getObj_map hb, K.check w false hkey, h1, hj, h3, K.stays w hkey, hsame, MapKept.run_setObj_map _ hb, Result.andThen, ChangeMaps.setBlock]
      rw [hm] at hme
      injection hme with e1 e2
      have e3 := setBlock_inj hbl e2
      injection e3 with e4 e5
      have e6 : v0 = e0.val := by
        have := e1
        simp at this
        exact this.1.symm
      refine ⟨by rw [e6, hc], ?_⟩
      subst e4
      have hw1' := hw1
      rcases K.find (ChangeMaps.setBlock w M (.map es clock1)) hkey es.toList F.keys with ⟨_, g2⟩ | ⟨j', e0', g1, g2, g3⟩
      · exact absurd h3 (g2 e0 (List.mem_of_getElem? h2))
      · have hl2 : (Instr.lookup 83 (.map (some M)) key false).run Try.prog (ChangeMaps.setBlock w M (.map es clock1)) = .ok e0'.val (ChangeMaps.setBlock w M (.map es clock1)) := by
          simp [Instr.lookup, run_underlying Try.underlying83, MapKept.run_getObj_map hw1, K.check _ _ hkey, g1, Result.andThen]
        have hsm : e0'.val = .int .i64 c := by
          have hn2 : es.toList.Pairwise (fun x y => x.key ≠ y.key) := ((MapKept.stamped_iff es clock).1 F.stamped).2.2
          have : j' = j := by
            by_cases hlt : j' < j
            · have := List.pairwise_iff_getElem.1 hn2 j' j (List.getElem?_eq_some_iff.1 g2).1 (List.getElem?_eq_some_iff.1 h2).1 hlt
              rw [(List.getElem?_eq_some_iff.1 g2).2, (List.getElem?_eq_some_iff.1 h2).2, g3, h3] at this
              exact absurd rfl this
            · by_cases hgt : j < j'
              · have := List.pairwise_iff_getElem.1 hn2 j j' (List.getElem?_eq_some_iff.1 h2).1 (List.getElem?_eq_some_iff.1 g2).1 hgt
                rw [(List.getElem?_eq_some_iff.1 g2).2, (List.getElem?_eq_some_iff.1 h2).2, g3, h3] at this
                exact absurd rfl this
              · omega
          subst this
          rw [h2] at g2
          cases g2
          exact hc
        rw [hl2, hsm]
  refine ⟨c, st, _, hat, hrun, ?_, hv.2, hg1, fun x hx => ?_⟩
  · rw [hme, hv.1]; rfl
  · obtain ⟨es', clock', s1, s2⟩ := hst _ (.int .i64 x) hw1
    obtain ⟨w', u1, u2, u3⟩ := hup x hx
    rw [s2] at u1
    injection u1 with _ u1
    have e7 : ChangeMaps.setBlock (ChangeMaps.setBlock w M (.map es1 clock1)) M (.map es' clock') = ChangeMaps.setBlock w M (.map es' clock') := by
      simp [ChangeMaps.setBlock]
    refine ⟨_, s1, ?_, ⟨rfl, rfl, rfl, by simp [ChangeMaps.setBlock], fun k _ hk => ChangeMaps.heap_setBlock_other hw1 _ (fun e => hk (by rw [e]))⟩⟩
    rw [e7, u1]
    exact u2
end Go.Proofs.Ytocmgdhhlofajaa
