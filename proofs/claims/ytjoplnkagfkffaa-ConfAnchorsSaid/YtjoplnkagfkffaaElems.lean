/-
  The four types of elements; clones; the greatest of some numbers.
-/
import Derived.Test.YtjoplnkagfkffaaCMath
namespace Go.Proofs.Ytjoplnkagfkffaa
open Go.RowKit
/-- An anchor. -/
structure An where
  name : ByteArray
  text : ByteArray
  deriving DecidableEq
theorem infoI : (Try.prog.info? 3).map (fun i => (i.zero, i.size, i.bytes)) = some (some (.int .i64 0), 1, 8) := by kernel_rfl
theorem infoS : (Try.prog.info? 9).map (fun i => (i.zero, i.size, i.bytes)) = some (some (.string ⟨#[]⟩), 1, 16) := by kernel_rfl
theorem infoA : (Try.prog.info? 43).map (fun i => (i.zero, i.size, i.bytes)) = some (some (.agg #[.string ⟨#[]⟩, .string ⟨#[]⟩]), 2, 32) := by kernel_rfl
theorem infoF : (Try.prog.info? 48).map (fun i => (i.zero, i.size, i.bytes)) = some (some (.agg #[.int .i64 0, .string ⟨#[]⟩]), 2, 24) := by kernel_rfl
def elI : El Int := ⟨25, 3, 1, fun n => [it n], _, 8, Try.underlying25, infoI, rfl, by decide, by decide, by decide, fun _ => rfl, fun x u hu => by rw [List.mem_singleton.1 hu]; rfl⟩
def elS : El ByteArray := ⟨22, 9, 1, fun s => [.string s], _, 16, Try.underlying22, infoS, rfl, by decide, by decide, by decide, fun _ => rfl, fun x u hu => by rw [List.mem_singleton.1 hu]; rfl⟩
def elA : El An := ⟨26, 43, 2, fun a => [.string a.name, .string a.text], _, 32, Try.underlying26, infoA, rfl, by decide, by decide, by decide, fun _ => rfl, fun x u hu => by rcases List.mem_cons.1 hu with rfl | hu; rfl; rw [List.mem_singleton.1 hu]; rfl⟩
def elF : El Fl' := ⟨27, 48, 2, fun f => [it f.ep, .string f.zone], _, 24, Try.underlying27, infoF, rfl, by decide, by decide, by decide, fun _ => rfl, fun x u hu => by rcases List.mem_cons.1 hu with rfl | hu; rfl; rw [List.mem_singleton.1 hu]; rfl⟩
theorem ownX_empty {α : Type} (E : El α) (w : World) : OwnX E (w.alloc (.cells #[] E.e)) w.heap.size (.slice (some ⟨w.heap.size, 0, none⟩) 0 0) [] :=
  ⟨by simp [El.fl], .inr ⟨w.heap.size, 0, #[], rfl, Nat.le_refl _, heap_alloc_new w _, Nat.le_refl _, Nat.zero_le _, by simp, by simp [El.fl]⟩⟩
set_option maxRecDepth 100000 in
set_option maxHeartbeats 3200000 in
theorem cloneI_any {w : World} {v : Value} {L : List Int} (h : RdX elI w v L) (hl : L.length ≤ 1000000) :
    Calls Try.prog 26 #[v] w fun e w' => ∃ v', e = .returned v' ∧ OwnX elI w' w.heap.size v' L ∧ Below w.heap.size w w' := by
  obtain ⟨a, cap, rfl, _⟩ := h.shape
  cases a with
  | none =>
    obtain ⟨rfl, _⟩ := h.none
    show Calls Try.prog _ #[.slice none 0 cap] w _
    have hq : ∀ w : World, (binOp .eql 25 (.slice none 0 cap) (.slice none 0 0)).run Try.prog w = .ok (.bool true) w := fun w => Lib.run_eql_slice_nil w 25 3 none _ _ _ _ Try.underlying25
    go_enter Try.func26, Try.ntmps26
    go_wp2
    go_ret
    exact ⟨_, rfl, OwnX.nil _ _, Below.refl _ _⟩
  | some ad =>
    have hq : ∀ w : World, (binOp .eql 25 (.slice (some ad) L.length cap) (.slice none 0 0)).run Try.prog w = .ok (.bool false) w := fun w => Lib.run_eql_slice_nil w 25 3 (some ad) _ _ _ _ Try.underlying25
    have hb := one_new w (.cells #[] 3)
    have HR := Lib.hid (h.below hb)
    have HE := Lib.hid (ownX_empty elI w)
    have HB := Lib.hid hb
    have HN : Hid (([] : List Int).length + L.length ≤ 1000000) := Lib.hid (by simpa using hl)
    have HS := Lib.hid hb.size
    obtain ⟨n, hn⟩ : ∃ n, n = L.length := ⟨_, rfl⟩
    rw [← hn] at hq HR ⊢
    clear h hn hl hb
    go_enter Try.func26, Try.ntmps26
    go_wp2_with (at_builtin; refine wp_app elI rfl (.tmp 5) (.tmp 6) rfl w.heap.size _ [] L rfl HE.out _ rfl HR.out HN.out HS.out ?_)
    intro v' w2 ho hg hv
    have HO := Lib.hid ho
    have HG := Lib.hid hg
    clear ho hg hv
    go_wp2
    go_ret
    refine ⟨_, rfl, by simpa using HO.out, HB.out.trans ⟨HG.out.os, HG.out.tape, HG.out.output, HG.out.size, fun i hi => HG.out.block i (by have := HB.out.size; omega) (fun e => by have e : i = w.heap.size := Option.some.inj e; omega)⟩⟩
set_option maxRecDepth 100000 in
set_option maxHeartbeats 3200000 in
theorem cloneS_any {w : World} {v : Value} {L : List ByteArray} (h : RdX elS w v L) (hl : L.length ≤ 1000000) :
    Calls Try.prog 27 #[v] w fun e w' => ∃ v', e = .returned v' ∧ OwnX elS w' w.heap.size v' L ∧ Below w.heap.size w w' := by
  obtain ⟨a, cap, rfl, _⟩ := h.shape
  cases a with
  | none =>
    obtain ⟨rfl, _⟩ := h.none
    show Calls Try.prog _ #[.slice none 0 cap] w _
    have hq : ∀ w : World, (binOp .eql 22 (.slice none 0 cap) (.slice none 0 0)).run Try.prog w = .ok (.bool true) w := fun w => Lib.run_eql_slice_nil w 22 9 none _ _ _ _ Try.underlying22
    go_enter Try.func27, Try.ntmps27
    go_wp2
    go_ret
    exact ⟨_, rfl, OwnX.nil _ _, Below.refl _ _⟩
  | some ad =>
    have hq : ∀ w : World, (binOp .eql 22 (.slice (some ad) L.length cap) (.slice none 0 0)).run Try.prog w = .ok (.bool false) w := fun w => Lib.run_eql_slice_nil w 22 9 (some ad) _ _ _ _ Try.underlying22
    have hb := one_new w (.cells #[] 9)
    have HR := Lib.hid (h.below hb)
    have HE := Lib.hid (ownX_empty elS w)
    have HB := Lib.hid hb
    have HN : Hid (([] : List ByteArray).length + L.length ≤ 1000000) := Lib.hid (by simpa using hl)
    have HS := Lib.hid hb.size
    obtain ⟨n, hn⟩ : ∃ n, n = L.length := ⟨_, rfl⟩
    rw [← hn] at hq HR ⊢
    clear h hn hl hb
    go_enter Try.func27, Try.ntmps27
    go_wp2_with (at_builtin; refine wp_app elS rfl (.tmp 5) (.tmp 6) rfl w.heap.size _ [] L rfl HE.out _ rfl HR.out HN.out HS.out ?_)
    intro v' w2 ho hg hv
    have HO := Lib.hid ho
    have HG := Lib.hid hg
    clear ho hg hv
    go_wp2
    go_ret
    refine ⟨_, rfl, by simpa using HO.out, HB.out.trans ⟨HG.out.os, HG.out.tape, HG.out.output, HG.out.size, fun i hi => HG.out.block i (by have := HB.out.size; omega) (fun e => by have e : i = w.heap.size := Option.some.inj e; omega)⟩⟩
set_option maxRecDepth 100000 in
set_option maxHeartbeats 3200000 in
theorem cloneA_any {w : World} {v : Value} {L : List An} (h : RdX elA w v L) (hl : L.length ≤ 1000000) :
    Calls Try.prog 28 #[v] w fun e w' => ∃ v', e = .returned v' ∧ OwnX elA w' w.heap.size v' L ∧ Below w.heap.size w w' := by
  obtain ⟨a, cap, rfl, _⟩ := h.shape
  cases a with
  | none =>
    obtain ⟨rfl, _⟩ := h.none
    show Calls Try.prog _ #[.slice none 0 cap] w _
    have hq : ∀ w : World, (binOp .eql 26 (.slice none 0 cap) (.slice none 0 0)).run Try.prog w = .ok (.bool true) w := fun w => Lib.run_eql_slice_nil w 26 43 none _ _ _ _ Try.underlying26
    go_enter Try.func28, Try.ntmps28
    go_wp2
    go_ret
    exact ⟨_, rfl, OwnX.nil _ _, Below.refl _ _⟩
  | some ad =>
    have hq : ∀ w : World, (binOp .eql 26 (.slice (some ad) L.length cap) (.slice none 0 0)).run Try.prog w = .ok (.bool false) w := fun w => Lib.run_eql_slice_nil w 26 43 (some ad) _ _ _ _ Try.underlying26
    have hb := one_new w (.cells #[] 43)
    have HR := Lib.hid (h.below hb)
    have HE := Lib.hid (ownX_empty elA w)
    have HB := Lib.hid hb
    have HN : Hid (([] : List An).length + L.length ≤ 1000000) := Lib.hid (by simpa using hl)
    have HS := Lib.hid hb.size
    obtain ⟨n, hn⟩ : ∃ n, n = L.length := ⟨_, rfl⟩
    rw [← hn] at hq HR ⊢
    clear h hn hl hb
    go_enter Try.func28, Try.ntmps28
    go_wp2_with (at_builtin; refine wp_app elA rfl (.tmp 5) (.tmp 6) rfl w.heap.size _ [] L rfl HE.out _ rfl HR.out HN.out HS.out ?_)
    intro v' w2 ho hg hv
    have HO := Lib.hid ho
    have HG := Lib.hid hg
    clear ho hg hv
    go_wp2
    go_ret
    refine ⟨_, rfl, by simpa using HO.out, HB.out.trans ⟨HG.out.os, HG.out.tape, HG.out.output, HG.out.size, fun i hi => HG.out.block i (by have := HB.out.size; omega) (fun e => by have e : i = w.heap.size := Option.some.inj e; omega)⟩⟩
set_option maxRecDepth 100000 in
set_option maxHeartbeats 3200000 in
theorem cloneF_any {w : World} {v : Value} {L : List Fl'} (h : RdX elF w v L) (hl : L.length ≤ 1000000) :
    Calls Try.prog 29 #[v] w fun e w' => ∃ v', e = .returned v' ∧ OwnX elF w' w.heap.size v' L ∧ Below w.heap.size w w' := by
  obtain ⟨a, cap, rfl, _⟩ := h.shape
  cases a with
  | none =>
    obtain ⟨rfl, _⟩ := h.none
    show Calls Try.prog _ #[.slice none 0 cap] w _
    have hq : ∀ w : World, (binOp .eql 27 (.slice none 0 cap) (.slice none 0 0)).run Try.prog w = .ok (.bool true) w := fun w => Lib.run_eql_slice_nil w 27 48 none _ _ _ _ Try.underlying27
    go_enter Try.func29, Try.ntmps29
    go_wp2
    go_ret
    exact ⟨_, rfl, OwnX.nil _ _, Below.refl _ _⟩
  | some ad =>
    have hq : ∀ w : World, (binOp .eql 27 (.slice (some ad) L.length cap) (.slice none 0 0)).run Try.prog w = .ok (.bool false) w := fun w => Lib.run_eql_slice_nil w 27 48 (some ad) _ _ _ _ Try.underlying27
    have hb := one_new w (.cells #[] 48)
    have HR := Lib.hid (h.below hb)
    have HE := Lib.hid (ownX_empty elF w)
    have HB := Lib.hid hb
    have HN : Hid (([] : List Fl').length + L.length ≤ 1000000) := Lib.hid (by simpa using hl)
    have HS := Lib.hid hb.size
    obtain ⟨n, hn⟩ : ∃ n, n = L.length := ⟨_, rfl⟩
    rw [← hn] at hq HR ⊢
    clear h hn hl hb
    go_enter Try.func29, Try.ntmps29
    go_wp2_with (at_builtin; refine wp_app elF rfl (.tmp 5) (.tmp 6) rfl w.heap.size _ [] L rfl HE.out _ rfl HR.out HN.out HS.out ?_)
    intro v' w2 ho hg hv
    have HO := Lib.hid ho
    have HG := Lib.hid hg
    clear ho hg hv
    go_wp2
    go_ret
    refine ⟨_, rfl, by simpa using HO.out, HB.out.trans ⟨HG.out.os, HG.out.tape, HG.out.output, HG.out.size, fun i hi => HG.out.block i (by have := HB.out.size; omega) (fun e => by have e : i = w.heap.size := Option.some.inj e; omega)⟩⟩
end Go.Proofs.Ytjoplnkagfkffaa
