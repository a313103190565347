/-
  What a crash leaves of a disk: of each file, in the order of the names, what the picks say.
-/
import Derived.Test.YtpiiknbjllgaoaaSync
namespace Go.Proofs.Ytpiiknbjllgaoaa
open Go.RowKit Go.Maps
section
variable {S : Nat → Prop} {b : Nat} {d : Dk} {G : List Ge} {mv : Option Nat} {w : World}
/-- A file's bytes have turned, and blocks beside the disk. -/
theorem DV.upd2 {X : Nat → Prop} (hX : ∀ k, X k → ¬ S k) (h : DV S b d G mv w) {g : Ge} (hg : g ∈ G) {R : Bs} {t : Nat} {w' : World} (hf : Fd (andNew (its g.b g.v) w.heap.size) g.b R t w') (ht : Tr (fun k => its g.b g.v k ∨ X k) w w') :
    PD (andNew S w.heap.size) b { d with fs := updF d.fs g.f.name fun f => ⟨f.name, R, t⟩ } w' := by
  obtain ⟨v', hv⟩ := hf
  have hS : ∀ k, its g.b g.v k → S k := fun k hk => hk.elim (fun e => e ▸ (h.file g hg).1.own) ((h.file g hg).1.rowS k)
  have same : ∀ x ∈ G, x.f.name = g.f.name → x = g := fun x hx e => by
    have h1 := findG_of h.nd hx
    rw [e, findG_of h.nd hg] at h1
    exact (Option.some.inj h1).symm
  refine ⟨G.map fun x => if x.f.name = g.f.name then ⟨⟨x.f.name, R, t⟩, x.b, v'⟩ else x, mv, ?_⟩
  refine ⟨(ht.block b h.lt (fun e => e.elim (h.not_b hg) fun e => hX b e h.own)).trans h.blk, ?_, ?_, ?_, ?_, ?_, .inl h.own⟩
  · have e : (G.map fun x => if x.f.name = g.f.name then (⟨⟨x.f.name, R, t⟩, x.b, v'⟩ : Ge) else x).map (fun x => x.f) = (G.map fun x => x.f).map fun f => if f.name = g.f.name then ⟨f.name, R, t⟩ else f := by
      rw [List.map_map, List.map_map]
      congr 1
      funext x
      simp only [Function.comp]
      split <;> rfl
    rw [e]
    exact h.perm.map _
  · have e : (G.map fun x => if x.f.name = g.f.name then (⟨⟨x.f.name, R, t⟩, x.b, v'⟩ : Ge) else x).map (fun x => x.f.name) = G.map fun x => x.f.name := by
      rw [List.map_map]
      congr 1
      funext x
      simp only [Function.comp]
      split <;> rfl
    rw [e]
    exact h.nd
  · intro y hy
    obtain ⟨x, hx, rfl⟩ := List.mem_map.1 hy
    have hn := (h.file x hx).2
    by_cases e : x.f.name = g.f.name
    · obtain rfl := same x hx e
      rw [if_pos rfl]
      exact ⟨hv.mono fun k hk => hk.elim (fun hk => .inl (hS k hk)) .inr, hn⟩
    · rw [if_neg e]
      refine ⟨?_, hn⟩
      have := ((h.file x hx).1.least.tr ht fun k _ hk => fun e' => e'.elim (h.apart x hx g hg e k hk) fun e' => hX k e' (hk.elim (fun e => e ▸ (h.file x hx).1.own) ((h.file x hx).1.rowS k)))
      exact ⟨this.blk, this.row, fun k hk => .inl ((h.file x hx).1.rowS k hk), .inl (h.file x hx).1.own, this.le⟩
  · have old : ∀ x ∈ G, ∀ k, its x.b x.v k → k < w.heap.size := fun x hx => (h.file x hx).1.lt
    have new : ∀ k, its g.b v' k → its g.b g.v k ∨ w.heap.size ≤ k := fun k hk => hk.elim (fun e => .inl (.inl e)) (hv.rowS k)
    intro y hy z hz
    obtain ⟨x, hx, rfl⟩ := List.mem_map.1 hy
    obtain ⟨u, hu, rfl⟩ := List.mem_map.1 hz
    by_cases e : x.f.name = g.f.name <;> by_cases e' : u.f.name = g.f.name
    · rw [if_pos e, if_pos e']
      intro hne
      exact absurd (e.trans e'.symm) hne
    · obtain rfl := same x hx e
      rw [if_pos rfl, if_neg e']
      intro hne k hk hk'
      rcases new k hk with h1 | h1
      · exact h.apart x hg u hu hne k h1 hk'
      · have := old u hu k hk'; omega
    · obtain rfl := same u hu e'
      rw [if_neg e, if_pos rfl]
      intro hne k hk hk'
      rcases new k hk' with h1 | h1
      · exact h.apart x hx u hg hne k hk h1
      · have := old x hx k hk; omega
    · rw [if_neg e, if_neg e']
      exact h.apart x hx u hu
  · rcases h.mp with ⟨h1, h2⟩ | ⟨m, D, e, hs, ho, t⟩
    · exact .inl ⟨h1, by rw [h2]; rfl⟩
    · refine .inr ⟨m, D, e, .inl hs, by rw [List.length_map]; exact own_tr ho ht (fun e => e.elim (h.not_m hg ho) fun e => hX m e hs), t.same _ fun x => ?_⟩
      split <;> exact ⟨rfl, rfl⟩
end
/-- The files in the order of their names. -/
theorem perm_map_inv {α β : Type} (f : α → β) {l l2 : List β} (h : l.Perm l2) : ∀ m : List α, l2 = m.map f → ∃ m' : List α, m'.Perm m ∧ m'.map f = l := by
  induction h with
  | nil =>
    intro m hm
    cases m with
    | nil => exact ⟨[], List.Perm.refl _, rfl⟩
    | cons a m => cases hm
  | cons x _ ih =>
    intro m hm
    cases m with
    | nil => cases hm
    | cons a m =>
      simp only [List.map_cons, List.cons.injEq] at hm
      obtain ⟨m', hp, he⟩ := ih m hm.2
      exact ⟨a :: m', hp.cons a, by simp [he, hm.1]⟩
  | swap x y l =>
    intro m hm
    match m, hm with
    | a :: c :: m, hm =>
      simp only [List.map_cons, List.cons.injEq] at hm
      exact ⟨c :: a :: m, List.Perm.swap _ _ _, by simp [hm.1, hm.2.1, hm.2.2]⟩
  | trans _ _ ih1 ih2 =>
    intro m hm
    obtain ⟨m1, hp1, he1⟩ := ih2 m hm
    obtain ⟨m2, hp2, he2⟩ := ih1 m1 he1.symm
    exact ⟨m2, hp2.trans hp1, he2⟩
def dropK : Nat → List Int → List Int
  | 0, ps => ps
  | k + 1, ps => dropK k ps.tail.tail
theorem dropK_succ : ∀ (k : Nat) (ps : List Int), dropK (k + 1) ps = (dropK k ps).tail.tail
  | 0, _ => rfl
  | k + 1, ps => dropK_succ k ps.tail.tail
theorem crL_take : ∀ (L : List Fl) (ps : List Int) (k : Nat) (f : Fl), L[k]? = some f → crL (L.take (k + 1)) ps = crL (L.take k) ps ++ [crF f (dropK k ps)]
  | [], _, _, _, h => by simp at h
  | x :: L, ps, 0, f, h => by
    simp at h
    subst h
    simp [crL, dropK]
  | x :: L, ps, k + 1, f, h => by
    simp only [List.getElem?_cons_succ] at h
    rw [List.take_succ_cons, List.take_succ_cons]
    unfold crL
    rw [crL_take L ps.tail.tail k f h]
    rfl
theorem crL_names : ∀ (L : List Fl) (ps : List Int), (crL L ps).map Fl.name = L.map Fl.name
  | [], _ => rfl
  | f :: L, ps => by
    unfold crL
    rw [List.map_cons, List.map_cons, crL_names L]
    rfl
/-- A list in which no name stands twice, one file of it turned. -/
theorem updF_one {A B : List Fl} {f : Fl} {g : Fl → Fl} (hn : ((A ++ f :: B).map Fl.name).Nodup) : updF (A ++ f :: B) f.name g = A ++ g f :: B := by
  have hno : ∀ (L : List Fl), (∀ x ∈ L, x.name ≠ f.name) → L.map (fun x => if x.name = f.name then g x else x) = L := by
    intro L hL
    conv => rhs; rw [← List.map_id L]
    apply List.map_congr_left
    intro x hx
    rw [if_neg (hL x hx)]
    rfl
  simp only [List.map_append, List.map_cons, List.nodup_append, List.nodup_cons] at hn
  obtain ⟨hA, ⟨hB1, hB2⟩, hAB⟩ := hn
  unfold updF
  rw [List.map_append, List.map_cons, if_pos rfl, hno A (fun x hx e => hAB x.name (List.mem_map.2 ⟨x, hx, rfl⟩) f.name (by simp) e), hno B (fun x hx e => hB1 (List.mem_map.2 ⟨x, hx, e⟩))]
/-- Picks that lie in memory. -/
def RdI (T : Nat → Prop) (w : World) (v : Value) (ps : List Int) : Prop := (∀ p ∈ ps, I64 p) ∧ ps.length ≤ 9223372036854775807 ∧ ∃ a cap, v = .slice a ps.length cap ∧ ps.length ≤ cap ∧ cap ≤ maxLen ∧ (ps = [] ∨ ∃ g k, a = some ⟨g, k, none⟩ ∧ T g ∧ ∀ i p, ps[i]? = some p → w.cell? ⟨g, k + i, none⟩ = some (.int .i64 p))
theorem RdI.boxed {T : Nat → Prop} {w : World} {v : Value} {ps : List Int} (h : RdI T w v ps) : Pk (fun g => T g ∧ g < w.heap.size) w.heap.size ps (w.alloc (.cells #[v] 39)) := by
  obtain ⟨hn, hl, a, cap, rfl, h1, h2, h3⟩ := h
  refine ⟨hn, hl, a, cap, heap_alloc_new w _, h1, h2, ?_⟩
  rcases h3 with rfl | ⟨g, k, rfl, hT, hc⟩
  · exact .inl rfl
  · cases ps with
    | nil => exact .inl rfl
    | cons p r =>
      have hg : g < w.heap.size := w.block_lt_of_cell? _ (hc 0 p rfl)
      exact .inr ⟨g, k, rfl, ⟨by omega, hT, hg⟩, fun i p hp => (((Below.refl w.heap.size w).alloc (Nat.le_refl _) _).cell (p := ⟨g, k + i, none⟩) hg).trans (hc i p hp)⟩
def crashD (d : Dk) (L : List Fl) (ps : List Int) : Dk := { d with fs := crL L ps, off := false, sch := false, left := 0 }
section
variable {S : Nat → Prop} {b : Nat} {d : Dk} {w : World}
set_option maxRecDepth 100000 in
set_option maxHeartbeats 6400000 in
theorem crash_any {T : Nat → Prop} (h : PD S b d w) (hS : ∀ k, S k → k < w.heap.size) {v : Value} {ps : List Int} (hp : RdI T w v ps) (hT : ∀ g, T g → ¬ S g) (hU : ∀ f ∈ d.fs, f.data.length ≤ 1000000000) (hL : d.fs.length ≤ 1000000) :
    Calls Try.prog 24 #[ptr b, v] w fun e w' => (∃ u, e = .returned u) ∧ (∃ L, L.Perm d.fs ∧ PD (andNew S w.heap.size) b (crashD d L ps) w') ∧ Tr S w w' := by
  have HPK := Lib.hid hp.boxed
  have HSL := Lib.hid hS
  have HTS := Lib.hid hT
  have HUF := Lib.hid hU
  have hal : Below w.heap.size w (w.alloc (.cells #[v] 39)) := (Below.refl _ _).alloc (Nat.le_refl _) _
  have HB0 := Lib.hid hal
  have HN1 := Lib.hid (names_any (h.below hal) hL)
  have HP1 := Lib.hid (h.below hal)
  obtain ⟨_, _, a, cap, rfl, _⟩ := hp
  have hmf : ∀ (fn : Fn) (first cap : Array Value) (w : World), (Instr.makeFunc fn first cap).run Try.prog w = .ok (.func fn first cap) w := fun _ _ _ _ => rfl
  clear h hS hT hU hal
  go_enter Try.func24, Try.ntmps24
  go_wp2_with fail
  refine HN1.out.mono ?_
  rintro e w2 ⟨v1, l, rfl, hr1, hpm, hv1, hb1⟩
  obtain ⟨L, hLp, hLn⟩ := perm_map_inv Fl.name hpm d.fs rfl
  have hlen : l.length = L.length := by rw [← hLn, List.length_map]
  have hLl : L.length ≤ 1000000 := by rw [hLp.length_eq]; exact hL
  have P2 := Lib.hid (HP1.out.below hb1)
  have K2 := Lib.hid (HPK.out.tr (Tr.of_below (S := fun _ => False) hb1) (fun h => h) (fun _ _ _ h => h))
  have HB2 : Hid (Below w.heap.size w w2) := Lib.hid (HB0.out.trans (hb1.mono HB0.out.size))
  have hsz : w.heap.size + 1 ≤ w2.heap.size := by have := hb1.size; simpa using this
  have HV1 : Hid (∀ j, v1.ownBlock = some j → w.heap.size + 1 ≤ j) := Lib.hid (fun j hj => by simpa using hv1 j hj)
  have HR1 := Lib.hid hr1
  have HLN := Lib.hid hLn
  have HLP := Lib.hid hLp
  obtain ⟨an, cn, ev0, hlc, _, hcell⟩ := hr1
  obtain ⟨n, hn⟩ : ∃ n, n = L.length := ⟨_, rfl⟩
  have ev : v1 = .slice an n cn := by rw [ev0, hn, hlen]
  clear ev0
  subst ev
  rw [hlen, ← hn] at hlc
  rw [← hn] at hLl
  have HCE := Lib.hid hcell
  have HN := Lib.hid hn
  clear hpm hv1 hb1 hLp hLn hlen hcell HN1 HP1 hn
  go_wp2_with fail
  go_loopw [6, 13] (fun _ i wr => ∃ (k : Nat) (S' : Nat → Prop), k ≤ n ∧ i = .int .i64 (k : Int) ∧ (∀ j, S' j → (S j ∨ w2.heap.size ≤ j) ∧ j < wr.heap.size) ∧ PD S' b { d with fs := crL (L.take k) ps ++ L.drop k } wr ∧ Pk (fun g => T g ∧ g < w.heap.size) w.heap.size (dropK k ps) wr ∧ Tr (fun j => S j ∨ j = w.heap.size) w2 wr) (fun _ i _ => n - (intOf i).toNat)
  case atStart => exact ⟨0, S, by omega, rfl, fun j hj => ⟨.inl hj, by have := HSL.out j hj; omega⟩, by
    simp only [List.take_zero, List.drop_zero]
    exact P2.out.perm HLP.out.symm ⟨rfl, rfl, rfl, rfl, rfl⟩, K2.out, Tr.refl _ _⟩
  case round =>
    obtain ⟨k, S', hk, rfl, hS', hp, hpk, htr⟩ := hrel
    have HPD := Lib.hid hp
    have HPK2 := Lib.hid hpk
    have HTR := Lib.hid htr
    have HS' := Lib.hid hS'
    have hwr := htr.size
    clear hp hpk htr hS'
    by_cases hlt : k < n
    · have q1 : (k : Int) < (n : Int) := by omega
      obtain ⟨f, hf⟩ : ∃ f, L[k]? = some f := ⟨_, List.getElem?_eq_getElem (by rw [← HN.out]; exact hlt)⟩
      have hlk : l[k]? = some f.name := by rw [← HLN.out, List.getElem?_map, hf]; rfl
      have hdrop : L.drop k = f :: L.drop (k + 1) := by
        rw [List.drop_eq_getElem_cons (by rw [← HN.out]; exact hlt)]
        congr 1
        exact (List.getElem?_eq_some_iff.1 hf).2
      have htake := crL_take L ps k f hf
      have hfU : f.data.length ≤ 1000000000 := HUF.out f (HLP.out.mem_iff.1 (List.mem_of_getElem? hf))
      obtain ⟨gn, kn, rfl, cname⟩ : ∃ gn kn, an = some ⟨gn, kn, none⟩ ∧ w2.cell? ⟨gn, kn + k, none⟩ = some (.string f.name) := by
        rcases HCE.out with rfl | ⟨g, k', rfl, hc⟩
        · cases hlk
        · exact ⟨g, k', rfl, hc k _ hlk⟩
      have hgn := HV1.out gn rfl
      have hgl := w2.block_lt_of_cell? _ cname
      have cname : wr.cell? ⟨gn, kn + k, none⟩ = some (.string f.name) := (HTR.out.cell (p := ⟨gn, kn + k, none⟩) hgl (fun e => e.elim (fun e => by have := HSL.out gn e; omega) (fun e => by have e : gn = w.heap.size := e; omega))).trans cname
      obtain ⟨G, mv, hv⟩ := HPD.out
      rw [hdrop] at hv
      have hff : findF ({ d with fs := crL (L.take k) ps ++ f :: L.drop (k + 1) } : Dk).fs f.name = some f := findF_of hv.nodup (by simp)
      obtain ⟨g, hg, hfg, hgf, hgn2⟩ := hv.file_of hff
      have c0 : wr.cell? ⟨b, 0, none⟩ = some (.map mv) := hv.cell 0 _ rfl
      have hn40 : f.name.size ≤ 40 := by rw [← hgn2]; exact (hv.file g hg).2
      have hl := hv.look f.name hn40 (Below.refl _ wr)
      rw [hfg] at hl
      have hl : (Instr.lookup 62 (.map mv) (.string f.name) false).run Try.prog wr = .ok (ptr g.b) wr := hl
      have hfv := (hv.file g hg).1.least
      rw [hgf] at hfv
      have hits : ∀ j, its g.b g.v j → S' j := fun j hj => hj.elim (fun e => e ▸ (hv.file g hg).1.own) ((hv.file g hg).1.rowS j)
      have hCS : ¬ S' w.heap.size := fun e => (HS'.out _ e).1.elim (fun e => by have := HSL.out _ e; omega) (fun e => by omega)
      have HCR := Lib.hid (fcrash_any (f := f) hfv HPK2.out ⟨fun e => hCS (hits _ e), by omega⟩ (fun j hj => ⟨fun e => by
        rcases (HS'.out j (hits j e)).1 with h | h
        · exact HTS.out j hj.1 h
        · have := hj.2; omega, by have := hj.2; omega⟩) hfU)
      have hup := fun R' t' w' (hf : Fd (andNew (its g.b g.v) wr.heap.size) g.b R' t' w') (ht : Tr (fun j => its g.b g.v j ∨ j = w.heap.size) wr w') => hv.upd2 (X := fun j => j = w.heap.size) (fun j e => by rw [e]; exact hCS) hg (R := R') (t := t') hf ht
      rw [hgn2] at hup
      have HUP := Lib.hid hup
      have HIT := Lib.hid hits
      have HOB := Lib.hid hv.own
      have hnd := hv.nodup
      have HFS : Hid (∀ R t, updF (crL (L.take k) ps ++ f :: L.drop (k + 1)) f.name (fun x => ⟨x.name, R, t⟩) = crL (L.take k) ps ++ ⟨f.name, R, t⟩ :: L.drop (k + 1)) := Lib.hid (fun R t => updF_one hnd)
      have HTK := Lib.hid htake
      clear hv hff hfg hgf hgn2 hfv hits hCS hup hnd htake hdrop hlk hf hfU hg
      go_wp2_with fail
      refine HCR.out.mono ?_
      rintro e w4 ⟨⟨u, rfl⟩, hf4, hp4, ht4⟩
      have hpd := HUP.out _ _ _ hf4 ht4
      rw [HFS.out] at hpd
      have hfin : PD (fun j => andNew S' wr.heap.size j ∧ j < w4.heap.size) b { d with fs := crL (L.take (k + 1)) ps ++ L.drop (k + 1) } w4 := by
        rw [HTK.out, List.append_assoc]
        exact hpd.now
      have HFIN := Lib.hid hfin
      have HP4 : Hid (Pk (fun g => T g ∧ g < w.heap.size) w.heap.size (dropK (k + 1) ps) w4) := Lib.hid (by rw [dropK_succ]; exact hp4)
      have HT4 : Hid (Tr (fun j => S j ∨ j = w.heap.size) w2 w4) := Lib.hid (HTR.out.trans ht4 fun j hj => hj.elim (fun h => ((HS'.out j (HIT.out j h)).1).elim (fun h => .inl (.inl h)) .inr) fun h => .inl (.inr h))
      have HW4 : Hid (∀ j, (andNew S' wr.heap.size j ∧ j < w4.heap.size) → (S j ∨ w2.heap.size ≤ j) ∧ j < w4.heap.size) := Lib.hid (fun j hj => ⟨hj.1.elim (fun h => (HS'.out j h).1) (fun h => .inr (Nat.le_trans hwr h)), hj.2⟩)
      clear hf4 hp4 ht4 hpd hfin HUP HCR
      go_wp2
      go_roundw
      case rel => exact ⟨k + 1, _, by omega, by go_num, HW4.out, HFIN.out, HP4.out, HT4.out⟩
      case measure => simp [intOf]; omega
    · have q1 : decide ((k : Int) < (n : Int)) = false := by simp; omega
      obtain rfl : k = n := by omega
      obtain ⟨G, mv, hv⟩ := HPD.out
      have e1 : crL (L.take k) ps ++ L.drop k = crL L ps := by rw [HN.out, List.take_length, List.drop_length, List.append_nil]
      rw [e1] at hv
      have f3 := hv.fz 3
      have f4 := hv.fz 4
      have f5 := hv.fz 5
      have c3 := hv.cell 3 _ rfl
      have c4 := hv.cell 4 _ rfl
      have c5 := hv.cell 5 _ rfl
      have HB := Lib.hid (heap_setCell_same _ b 3 _ _ (.int .i64 0) (heap_setCell_same _ b 5 _ _ (.bool false) (heap_setCell_same wr b 4 _ _ (.bool false) hv.blk)))
      have HV := Lib.hid hv
      have HOB := Lib.hid hv.own
      clear hv e1
      go_wp2
      go_end0
      have ht := (((Tr.refl (fun j => j = b) wr).setCell (b := b) (i := 4) (.inl rfl) (.bool false)).setCell (b := b) (i := 5) (.inl rfl) (.bool false)).setCell (b := b) (i := 3) (.inl rfl) (.int .i64 0)
      have hfin := HV.out.nums (d' := crashD d L ps) rfl ht HB.out
      refine ⟨⟨_, rfl⟩, ⟨L, HLP.out, ⟨G, mv, hfin.mono fun j hj => (HS'.out j hj).1.imp id fun e => by omega⟩⟩, ?_⟩
      exact ((Tr.of_below HB2.out).trans HTR.out fun j hj => hj.elim .inl fun e => .inr (Nat.le_of_eq e.symm)).trans ht fun j e => by rw [e]; exact (HS'.out _ HOB.out).1.imp id fun e => by omega
end
end Go.Proofs.Ytpiiknbjllgaoaa
