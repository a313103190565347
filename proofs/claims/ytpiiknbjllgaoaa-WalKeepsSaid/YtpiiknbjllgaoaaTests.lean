/-
  What the tests answer: if there is power, if names may be names, if there is room, if a file is there.
-/
import Derived.Test.YtpiiknbjllgaoaaFirst
namespace Go.Proofs.Ytpiiknbjllgaoaa
open Go.RowKit Go.Maps
theorem Below.three {w w' : World} {a b c : Addr} {x y z : Value} (h : w.cell? a = some x ∧ w.cell? b = some y ∧ w.cell? c = some z) (hb : Below w.heap.size w w') : w'.cell? a = some x ∧ w'.cell? b = some y ∧ w'.cell? c = some z :=
  ⟨(hb.cell (w.block_lt_of_cell? _ h.1)).trans h.1, (hb.cell (w.block_lt_of_cell? _ h.2.1)).trans h.2.1, (hb.cell (w.block_lt_of_cell? _ h.2.2)).trans h.2.2⟩
section
variable {S : Nat → Prop} {b : Nat} {d : Dk} {w : World}
set_option maxRecDepth 100000 in
set_option maxHeartbeats 1600000 in
theorem fitsf_any (h : PD S b d w) (n B C : Nat) (hB : d.used ≤ 1000000000) (hR : d.room ≤ 1000000000) (hb : w.cell? ⟨B, 0, none⟩ = some (.int .i64 (n : Int))) (hc : w.cell? ⟨C, 0, none⟩ = some (ptr b)) :
    Calls Try.prog 83 #[ptr B, ptr C] w fun e w' => e = .returned (.int .i64 (if d.used + n ≤ d.room then 0 else 15)) ∧ Below w.heap.size w w' := by
  have HU := Lib.hid (used_any (w := w.drew) (h.below (Below.refl _ w).drew) hB)
  obtain ⟨G, mv, h⟩ := h
  have c1 : w.cell? ⟨b, 1, none⟩ = some (.int .i64 (d.room : Int)) := h.cell 1 _ rfl
  clear h
  generalize d.used = u at *
  generalize d.room = r at *
  have HK := Lib.hid (fun w' => Below.three (w' := w') ⟨hb, hc, c1⟩)
  have H0 := Lib.hid ((Below.refl w.heap.size w).drew)
  have x1 : IntKind.i64.wrap ((r : Int) - (u : Int)) = (r : Int) - (u : Int) := by simp [IntKind.wrap, IntKind.bits, IntKind.signed]; omega
  by_cases hf : u + n ≤ r
  · rw [if_pos hf]
    have q : decide ((r : Int) - (u : Int) < (n : Int)) = false := by simp; omega
    clear hb hc c1
    go_enter Try.func83, Try.ntmps83
    go_upto_region 1 with fail
    go_region_held3 (fun w' => w'.cell? ⟨B, 0, none⟩ = some (.int .i64 (n : Int)) ∧ w'.cell? ⟨C, 0, none⟩ = some (ptr b) ∧ w'.cell? ⟨b, 1, none⟩ = some (.int .i64 (r : Int)))
      (first | with_reducible exact HK.out _ HB2.out | with_reducible exact HK.out _ H0.out | fail)
      (first | (go_at_call 84; refine HU.out.mono ?_; rintro e w2 ⟨rfl, hb2⟩; have HB2 : Hid (Below w.heap.size w w2) := Lib.hid (H0.out.trans hb2); clear hb2) | fail)
    go_wp2
    go_ret
    exact ⟨rfl, HB2.out⟩
  · rw [if_neg hf]
    have q : (r : Int) - (u : Int) < (n : Int) := by omega
    clear hb hc c1
    go_enter Try.func83, Try.ntmps83
    go_upto_region 1 with fail
    go_region_held3 (fun w' => w'.cell? ⟨B, 0, none⟩ = some (.int .i64 (n : Int)) ∧ w'.cell? ⟨C, 0, none⟩ = some (ptr b) ∧ w'.cell? ⟨b, 1, none⟩ = some (.int .i64 (r : Int)))
      (first | with_reducible exact HK.out _ HB2.out | with_reducible exact HK.out _ H0.out | fail)
      (first | (go_at_call 84; refine HU.out.mono ?_; rintro e w2 ⟨rfl, hb2⟩; have HB2 : Hid (Below w.heap.size w w2) := Lib.hid (H0.out.trans hb2); clear hb2) | fail)
    go_wp2
    go_ret
    exact ⟨rfl, HB2.out⟩
theorem findF_of {l : List Fl} (hn : (l.map Fl.name).Nodup) {f : Fl} (hf : f ∈ l) : findF l f.name = some f := by
  induction l with
  | nil => cases hf
  | cons x r ih =>
    simp only [List.map_cons, List.nodup_cons] at hn
    unfold findF
    rcases List.mem_cons.1 hf with rfl | hf
    · simp
    · have : x.name ≠ f.name := fun e => hn.1 (by rw [e]; exact List.mem_map.2 ⟨f, hf, rfl⟩)
      rw [List.find?_cons_of_neg (by simpa using this)]
      exact ih hn.2 hf
theorem DV.nodup {G : List Ge} {mv : Option Nat} (h : DV S b d G mv w) : (d.fs.map Fl.name).Nodup := by
  have e : (G.map fun g => g.f.name) = (G.map fun g => g.f).map Fl.name := by rw [List.map_map]; rfl
  have := h.nd
  rw [e] at this
  exact (h.perm.map _).nodup_iff.1 this
theorem DV.find {G : List Ge} {mv : Option Nat} (h : DV S b d G mv w) (k : ByteArray) : findF d.fs k = (findG G k).map fun g => g.f := by
  cases hg : findG G k with
  | none =>
    refine List.find?_eq_none.2 fun f hf => ?_
    obtain ⟨g, hg', rfl⟩ := List.mem_map.1 (h.perm.mem_iff.2 hf)
    simpa using findG_none hg g hg'
  | some g =>
    obtain ⟨hm, rfl⟩ := findG_mem hg
    exact findF_of h.nodup (h.perm.mem_iff.1 (List.mem_map.2 ⟨g, hm, rfl⟩))
/-- m[name], of a disk. -/
theorem DV.look {G : List Ge} {mv : Option Nat} (h : DV S b d G mv w) (k : ByteArray) (hk : k.size ≤ 40) {w' : World} (ht : Below w.heap.size w w') :
    (Instr.lookup 62 (.map mv) (.string k) false).run Try.prog w' = .ok (match findG G k with | some g => ptr g.b | none => nop) w' := by
  rcases h.mp with ⟨rfl, rfl⟩ | ⟨m, D, rfl, _, ho, t⟩
  · exact look_no k (by unfold maxLen; omega)
  · exact look_any (own_tr ho (Tr.of_below (S := fun _ => False) ht) (fun h => h)) t k (by unfold maxLen; omega)
set_option maxRecDepth 100000 in
set_option maxHeartbeats 1600000 in
theorem hasf_any (h : PD S b d w) (k : ByteArray) (hk : k.size ≤ 40) (B C : Nat) (hb : w.cell? ⟨B, 0, none⟩ = some (ptr b)) (hc : w.cell? ⟨C, 0, none⟩ = some (.string k)) :
    Calls Try.prog 77 #[ptr B, ptr C] w fun e w' => e = .returned (.int .i64 (if (findF d.fs k).isSome then 0 else 12)) ∧ Below w.heap.size w w' := by
  obtain ⟨G, mv, h⟩ := h
  have c0 : w.cell? ⟨b, 0, none⟩ = some (.map mv) := h.cell 0 _ rfl
  have hl := h.look k hk (Below.refl _ w).drew
  have hf : (findF d.fs k).isSome = (findG G k).isSome := by rw [h.find]; cases findG G k <;> rfl
  rw [hf]
  clear h
  have HB : Hid (Below w.heap.size w w.drew) := Lib.hid (Below.refl _ w).drew
  cases hg : findG G k with
  | none =>
    rw [hg] at hl
    have hl : (Instr.lookup 62 (.map mv) (.string k) false).run Try.prog w.drew = .ok nop w.drew := hl
    go_enter Try.func77, Try.ntmps77
    go_upto_region 1 with fail
    go_still_tail 6, (by kernel_rfl)
    change wpList _ _ _ _ _ w.drew
    go_wp2
    go_ret
    exact ⟨rfl, HB.out⟩
  | some g =>
    rw [hg] at hl
    have hl : (Instr.lookup 62 (.map mv) (.string k) false).run Try.prog w.drew = .ok (ptr g.b) w.drew := hl
    go_enter Try.func77, Try.ntmps77
    go_upto_region 1 with fail
    go_still_tail 6, (by kernel_rfl)
    change wpList _ _ _ _ _ w.drew
    go_wp2
    go_ret
    exact ⟨rfl, HB.out⟩
end
end Go.Proofs.Ytpiiknbjllgaoaa
