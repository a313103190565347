/-
  How many bytes all files have, whatever order they come in.
-/
import Derived.Test.YtpiiknbjllgaoaaPrims
namespace Go.Proofs.Ytpiiknbjllgaoaa
open Go.RowKit Go.Maps
/-- The files that have come. -/
def come (G : List Ge) (left : Lit → Bool) : List Ge := G.filter fun g => !left (ky g.f.name)
theorem come_start {D : DataW Unit} {G : List Ge} (h : Tied D G) (hn : (G.map fun g => g.f.name).Nodup) : come G (Maps.has D) = [] := by
  unfold come
  rw [List.filter_eq_nil_iff]
  intro g hg
  rw [has_iff h, findG_of hn hg]
  simp
theorem come_end {G : List Ge} {left : Lit → Bool} (h : ∀ kl, left kl = false) : come G left = G := by
  unfold come
  rw [List.filter_eq_self]
  intro g _
  rw [h]; rfl
theorem sameKy (a b : ByteArray) (hb : b.size ≤ maxLen) : (ky a).sameKey (ky b) = decide (a = b) := by
  by_cases e : a = b
  · subst e
    rw [WideAt.sameKey_self (ky_key a hb)]
    simp
  · rw [sameKey_ne (fun e' => e (ky_inj e'))]
    simp [e]
/-- One more has come. -/
theorem come_step {G : List Ge} (hn : (G.map fun g => g.f.name).Nodup) {left : Lit → Bool} {g : Ge} (hg : g ∈ G) (hk : g.f.name.size ≤ maxLen) (hl : left (ky g.f.name) = true) :
    (come G fun z => left z && !z.sameKey (ky g.f.name)).Perm (g :: come G left) := by
  induction G with
  | nil => cases hg
  | cons x r ih =>
    simp only [List.map_cons, List.nodup_cons] at hn
    unfold come at ih ⊢
    by_cases e : x = g
    · subst e
      have hr : (r.filter fun y => !(left (ky y.f.name) && !(ky y.f.name).sameKey (ky x.f.name))) = r.filter fun y => !left (ky y.f.name) := by
        apply List.filter_congr
        intro y hy
        have hne : y.f.name ≠ x.f.name := fun e => hn.1 (by rw [← e]; exact List.mem_map.2 ⟨y, hy, rfl⟩)
        rw [sameKy _ _ hk]
        simp [hne]
      rw [List.filter_cons_of_pos (by show (!(left _ && !(ky x.f.name).sameKey (ky x.f.name))) = true; rw [sameKy _ _ hk]; simp), List.filter_cons_of_neg (by simp [hl]), hr]
    · have hgr : g ∈ r := by rcases List.mem_cons.1 hg with h | h; exact absurd h.symm e; exact h
      have hne : x.f.name ≠ g.f.name := fun e' => hn.1 (by rw [e']; exact List.mem_map.2 ⟨g, hgr, rfl⟩)
      have h2 := ih hn.2 hgr
      cases hx : left (ky x.f.name)
      · rw [List.filter_cons_of_pos (by simp [hx]), List.filter_cons_of_pos (by simp [hx])]
        exact (h2.cons x).trans (List.Perm.swap _ _ _)
      · rw [List.filter_cons_of_neg (by show ¬ (!(left (ky x.f.name) && !(ky x.f.name).sameKey (ky g.f.name))) = true; rw [sameKy _ _ hk]; simp [hx, hne]), List.filter_cons_of_neg (by simp [hx])]
        exact h2
def usedG (G : List Ge) : Nat := usedL (G.map fun g => g.f)
theorem usedG_perm {a b : List Ge} (h : a.Perm b) : usedG a = usedG b := usedL_perm (h.map _)
theorem usedG_cons (g : Ge) (G : List Ge) : usedG (g :: G) = g.f.data.length + usedG G := by simp [usedG, usedL, Fl.size]
theorem usedG_come (G : List Ge) (left : Lit → Bool) : usedG (come G left) ≤ usedG G := by
  induction G with
  | nil => exact Nat.le_refl _
  | cons x r ih =>
    unfold come at ih ⊢
    rw [List.filter_cons]
    split
    · rw [usedG_cons, usedG_cons]; omega
    · rw [usedG_cons]; omega
/-- An entry that comes is a file. -/
theorem came {D : DataW Unit} {G : List Ge} (h : Tied D G) (hn : (G.map fun g => g.f.name).Nodup) {x : ByteArray} {kl : Lit} {v : Value} {y : DataW Unit × List MemPlace} (hkey : keyOf Try.prog 9 (.string x) = some kl) (hv : pR v = some y) (hat : ∀ zd, D.atKey kl zd = y.1) :
    ∃ g ∈ G, x = g.f.name ∧ kl = ky g.f.name ∧ v = ptr g.b := by
  obtain ⟨g, hg, e⟩ := h.has kl (has_true_of_atKey hat)
  have hx : x.size ≤ maxLen := by
    unfold keyOf at hkey
    simp [Try.underlying9, mapKey] at hkey
    exact hkey.1
  have e1 : kl = ky x := by rw [ky_of hx] at hkey; exact (Option.some.inj hkey).symm
  obtain rfl : x = g.f.name := ky_inj (e1.symm.trans e)
  refine ⟨g, hg, rfl, e, ?_⟩
  have hl := h.look g.f.name
  rw [← e, hat] at hl
  unfold atG at hl
  rw [findG_of hn hg] at hl
  exact pR_ptr_inv hv hl
theorem invK (key : Value) (kl : Lit) (h : keyOf Try.prog 9 key = some kl) : ∃ x : ByteArray, key = .string x := by
  unfold keyOf at h
  cases key <;> simp [Try.underlying9, mapKey] at h
  exact ⟨_, rfl⟩
section
variable {S : Nat → Prop} {b : Nat} {d : Dk} {w : World}
set_option maxRecDepth 100000 in
set_option maxHeartbeats 1600000 in
theorem used_none (h : ∃ G, DV S b d G none w) : Calls Try.prog 84 #[ptr b] w fun e w' => e = .returned (.int .i64 0) ∧ Below w.heap.size w w' := by
  obtain ⟨G, h⟩ := h
  have c0 : w.cell? ⟨b, 0, none⟩ = some (.map none) := h.cell 0 _ rfl
  clear h
  have hrg := run_range_nilMap (P := Try.prog) w 62 9 74 Try.underlying62
  have hnx : ∀ ty, (Instr.next (.pointer (some ⟨w.heap.size, 0, none⟩)) false ty).run Try.prog (w.alloc (.mapIter none 0 #[] 0)) = _ := fun ty => run_next_nilMap w ty 0 0 #[]
  have HB : Hid (Below w.heap.size w (w.alloc (.mapIter none 0 #[] 0))) := Lib.hid ((Below.refl _ w).alloc (Nat.le_refl _) _)
  go_enter Try.func84, Try.ntmps84
  go_wp2
  refine wp_loop_rounds 1 ?_
  rw [rounds_succ]
  go_wp2
  go_ret
  exact ⟨rfl, HB.out⟩
set_option maxRecDepth 100000 in
set_option maxHeartbeats 1600000 in
theorem used_any (h : PD S b d w) (hB : d.used ≤ 1000000000) : Calls Try.prog 84 #[ptr b] w fun e w' => e = .returned (.int .i64 (d.used : Int)) ∧ Below w.heap.size w w' := by
  obtain ⟨G, mv, h⟩ := h
  have hU : usedG G = d.used := usedL_perm h.perm
  rcases h.mp with ⟨rfl, rfl⟩ | ⟨m, D, rfl, hs, ho, ht⟩
  · rw [← hU]
    exact used_none ⟨_, h⟩
  · have c0 : w.cell? ⟨b, 0, none⟩ = some (.map (some m)) := h.cell 0 _ rfl
    have HS := Lib.hid (come_start ht h.nd)
    have HT := Lib.hid ht
    have HP := Lib.hid h
    have HU := Lib.hid hU
    have HO := Lib.hid ho
    clear h hs ht ho
    go_enter Try.func84, Try.ntmps84
    go_wp2_with (first
      | (at_range; refine wpList_range_own _ rfl _ 62 rfl 9 74 law9 Try.underlying62 pR m G.length D rfl HO.out ?_; intro w0 hrg0 hg0 hs0)
      | go_in)
    go_frame
    have HRG := Lib.hid hrg0
    have HB0 := Lib.hid ((Below.refl w.heap.size w).grown hg0 (Nat.le_refl _) (fun j hj => by cases hj))
    clear hrg0 hg0 hs0
    go_loopw [3, 5] (fun u _ wr => ∃ (left : Lit → Bool) (cnt : Nat), wr.ranges Try.prog 9 pR m w.heap.size G.length D left cnt ∧ u = .int .i64 (usedG (come G left) : Int) ∧ Below w.heap.size w wr) (fun _ _ wr => wr.rangeLeft m w.heap.size)
    case atStart => exact ⟨_, _, HRG.out, by rw [HS.out]; rfl, HB0.out⟩
    case round =>
      obtain ⟨left, cnt, hrg, rfl, hbe⟩ := hrel
      have HR := Lib.hid hrg
      have HBE := Lib.hid hbe
      have hub := usedG_come G left
      rw [HU.out] at hub
      clear hrg hbe
      go_wp2_with (first
        | (at_next; refine wpList_next_ranges (α := ByteArray) (β := Value) _ rfl _ rfl 9 law9 pR Value.string id invK (fun v y _ => ⟨v, rfl⟩) m w.heap.size G.length _ _ _ rfl HR.out ?_ ?_)
        | go_in)
      · intro _ hl0
        rw [come_end hl0, HU.out]
        go_wp2
        go_ret
        exact ⟨rfl, HBE.out⟩
      · intro x v kl y ps w1 cnt1 hkey hlk hv hat hrg1 hlt hg1 hs1 hen
        obtain ⟨g, hg, rfl, rfl, e⟩ := came (y := (y, ps)) HT.out HP.out.nd hkey hv hat
        have e : v = ptr g.b := e
        subst e
        have hf := HP.out.file g hg
        have hst := come_step HP.out.nd hg (by have := hf.2; unfold maxLen; omega) hlk
        have hu1 : usedG (come G fun z => left z && !z.sameKey (ky g.f.name)) = g.f.data.length + usedG (come G left) := by rw [usedG_perm hst, usedG_cons]
        have hu2 := usedG_come G fun z => left z && !z.sameKey (ky g.f.name)
        rw [HU.out, hu1] at hu2
        have hb1 : Below w.heap.size wr w1 := (Below.refl _ wr).grown hg1 HBE.out.size (fun j hj => by cases hj; exact Nat.le_refl _)
        have hf1 := hf.1.below (HBE.out.trans hb1)
        have d0 := hf1.blk.cell0
        obtain ⟨a, cap, e, _, _⟩ := hf1.row.shape
        rw [e] at d0
        have HR1 := Lib.hid hrg1
        have HU1 := Lib.hid hu1
        have HB1 := Lib.hid (HBE.out.trans hb1)
        have HLT := Lib.hid hlt
        obtain ⟨n, hn⟩ : ∃ n, n = g.f.data.length := ⟨_, rfl⟩
        obtain ⟨q, hq⟩ : ∃ q, q = usedG (come G left) := ⟨_, rfl⟩
        rw [← hn] at d0 hu2 HU1
        rw [← hq] at hu2 HU1 ⊢
        clear hf hst hu1 hb1 hf1 hrg1 hlt hg1 hs1 hv hat hkey hlk hn hq hub e
        go_wp2
        go_roundw
        case rel => exact ⟨_, cnt1, HR1.out, by rw [HU1.out]; go_num, HB1.out⟩
        case measure => rw [HR1.out.left_eq, HR.out.left_eq]; exact HLT.out
end
end Go.Proofs.Ytpiiknbjllgaoaa
