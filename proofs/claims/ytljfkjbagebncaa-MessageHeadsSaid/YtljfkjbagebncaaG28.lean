/-
  WrQ: What writing a message's elements one by one leaves, as long as there is room.
  WrE: What writing lists of elements leaves: all of them, or too much.
-/
import Derived.Test.YtljfkjbagebncaaG25
import Derived.Test.YtljfkjbagebncaaG27

/- WrQ -/
namespace Go.Proofs.Ytljfkjbagebncaa
open Go.RowKit
abbrev St := Bs × Kn
/-- A question that is put, and a record. -/
def qP (s : St) (q : Qn) : St := (pkB true s.1 s.2 q.n.data.toList ++ word q.t ++ word q.c, pkL true s.1 s.2 q.n.data.toList)
def rP (s : St) (r : Rc) : St := (rpB s.1 s.2 r, rpL s.1 s.2 r)
abbrev FitS (s : St) : Prop := Fit s.1 s.2
theorem qP_fit {s : St} {q : Qn} (h : FitS s) (g : qck q = 0) : FitS (qP s q) ∧ s.1.length ≤ (qP s q).1.length ∧ (qP s q).1.length ≤ s.1.length + 2400 := by
  have hn : q.n.data.toList.length ≤ 255 := (chk_zero.1 g).2
  have h1 := pk_le (pts := true) (n := q.n.data.toList) h.l
  refine ⟨((h.name true q.n.data.toList).app _).app _, ?_, ?_⟩
  · simp only [qP, List.length_append, word_length]; omega
  · simp only [qP, List.length_append, word_length]; omega
theorem rP_fit {s : St} {r : Rc} (h : FitS s) : FitS (rP s r) ∧ s.1.length ≤ (rP s r).1.length ∧ (rP s r).1.length ≤ s.1.length + 2400 := by
  have h1 := rp_fit (r := r) h
  refine ⟨h1.1, h1.2.1, ?_⟩
  have := h1.2.2
  show (rpB s.1 s.2 r).length ≤ _
  omega
/-- What the closures of write hold. -/
abbrev wk (pb rb lb b : Nat) (lim : Int) : List (Nat × Obj) := [(pb, .cells #[ptr b] 86), (rb, .cells #[.func (.func 57) #[] #[ptr pb, ptr lb]] 89), (lb, .cells #[.int .i64 lim] 3)]
set_option maxRecDepth 100000 in
set_option maxHeartbeats 6400000 in
theorem q60_any (q : Qn) (hq : q.Ok) (g : qck q = 0) (S : Nat → Prop) (w0 : World) (pb rb lb b : Nat) (lim : Int) (B : Bs) (L : Kn) (w : World) (h : QP S w0 b (wk pb rb lb b lim) B L w) (hf : Fit B L) (hB : B.length ≤ 780000) :
    Calls Try.prog 60 #[q.v, ptr pb, ptr rb] w fun e w' => e = .returned (.int .i64 (rmE lim (qP (B, L) q).1.length)) ∧ QP S w0 b (wk pb rb lb b lim) (qP (B, L) q).1 (qP (B, L) q).2 w' := by
  have hfq := qP_fit (s := (B, L)) (q := q) hf g
  have h1 := h.box (.cells q.cells 44)
  obtain ⟨R, hR⟩ : ∃ R, R = qP (B, L) q := ⟨_, rfl⟩
  rw [← hR] at hfq ⊢
  have HR : Hid (R.1 = pkB true B L q.n.data.toList ++ word q.t ++ word q.c ∧ R.2 = pkL true B L q.n.data.toList) := Lib.hid (by rw [hR]; exact ⟨rfl, rfl⟩)
  have hg : chk q.n.data.toList = 0 := g
  obtain ⟨n, t, c⟩ := q
  obtain ⟨hn, ht, hc⟩ := hq
  simp only at hn ht hc HR hg
  have H1 := Lib.hid h1
  have HG := Lib.hid hg
  have HF := Lib.hid hf
  have hp := pk_le (pts := true) (n := n.data.toList) hf.l
  have hnl := (chk_zero.1 hg).2
  have HP := Lib.hid hp
  have HNL := Lib.hid hnl
  have x0 := (h1.ce (g := w.heap.size) (T := 44) (cs := #[.string n, .int .u16 (t : Int), .int .u16 (c : Int)]) (by simp)).cell 0
  have y0 := (h1.ce (g := pb) (T := 86) (cs := #[ptr b]) (by simp)).cell 0
  simp at x0 y0
  clear hR g hg h1 hf h hp hnl
  go_enter Try.func60, Try.ntmps60
  go_wp2_with fail
  refine (QP.call H1.out (fun S' hS => pname_any n hn true S' b B L _ hS (by omega) HF.out.l HF.out.k)).mono ?_
  rintro e w2 ⟨rfl, h2⟩
  clear x0 y0
  have x1 := (h2.ce (g := w.heap.size) (T := 44) (cs := #[.string n, .int .u16 (t : Int), .int .u16 (c : Int)]) (by simp)).cell 1
  have y1 := (h2.ce (g := pb) (T := 86) (cs := #[ptr b]) (by simp)).cell 0
  simp at x1 y1
  have H2 := Lib.hid h2
  clear h2 H1
  go_wp2_with fail
  refine (QP.call H2.out (fun S' hS => pword_any t ht S' b _ _ _ hS (by have := HP.out; have := HNL.out; omega))).mono ?_
  rintro e w3 ⟨⟨v3, rfl⟩, h3⟩
  clear x1 y1
  have x2 := (h3.ce (g := w.heap.size) (T := 44) (cs := #[.string n, .int .u16 (t : Int), .int .u16 (c : Int)]) (by simp)).cell 2
  have y2 := (h3.ce (g := pb) (T := 86) (cs := #[ptr b]) (by simp)).cell 0
  simp at x2 y2
  have H3 := Lib.hid h3
  clear h3 H2
  go_wp2_with fail
  refine (QP.call H3.out (fun S' hS => pword_any c hc S' b _ _ _ hS (by have := HP.out; have := HNL.out; rw [List.length_append, word_length]; omega))).mono ?_
  rintro e w4 ⟨⟨v4, rfl⟩, h4⟩
  rw [← HR.out.1, ← HR.out.2] at h4
  have z0 := (h4.ce (g := rb) (T := 89) (cs := #[.func (.func 57) #[] #[ptr pb, ptr lb]]) (by simp)).cell 0
  simp at z0
  have H4 := Lib.hid (h4.sub (K' := wk pb rb lb b lim) (fun p hp => List.mem_cons_of_mem _ hp))
  clear h4 H3 x2 y2
  go_wp2_with fail
  obtain ⟨S4, hS4, _⟩ := H4.out.step
  refine (room_any S4 b pb lb lim _ _ w4 hS4 (H4.out.ce (by simp)) (H4.out.ce (by simp))).mono ?_
  rintro e w5 ⟨rfl, hb5⟩
  have H5 := Lib.hid (H4.out.under hb5)
  clear hb5 z0 hS4
  go_wp2
  go_ret
  exact ⟨rfl, H5.out⟩
set_option maxRecDepth 100000 in
set_option maxHeartbeats 6400000 in
theorem r63_any (r : Rc) (hr : r.Ok) (g : rck r = 0) (S : Nat → Prop) (w0 : World) (pb rb lb b : Nat) (lim : Int) (B : Bs) (L : Kn) (w : World) (h : QP S w0 b (wk pb rb lb b lim) B L w) (hf : Fit B L) (hB : B.length ≤ 780000) :
    Calls Try.prog 63 #[r.v, ptr pb, ptr rb] w fun e w' => e = .returned (.int .i64 (rmE lim (rP (B, L) r).1.length)) ∧ QP S w0 b (wk pb rb lb b lim) (rP (B, L) r).1 (rP (B, L) r).2 w' := by
  have h1 := h.box (.cells r.cells 61)
  obtain ⟨R, hR⟩ : ∃ R, R = rP (B, L) r := ⟨_, rfl⟩
  rw [← hR]
  have HR : Hid (R.1 = rpB B L r ∧ R.2 = rpL B L r) := Lib.hid (by rw [hR]; exact ⟨rfl, rfl⟩)
  have HC : Hid (∀ S' w, PK S' b B L w → Calls Try.prog 64 #[ptr b, r.v] w fun e w' => e = .returned (.int .i64 0) ∧ Lft S' b R.1 R.2 w w') := Lib.hid fun S' w hS => by
    have := put_yes r hr g S' b B L w hS hf (by omega)
    rw [HR.out.1, HR.out.2]
    exact this
  obtain ⟨n, t, c, l, d⟩ := r
  have H1 := Lib.hid h1
  obtain ⟨x0, x1, x2, x3, x4⟩ := c5 (h1.ce (g := w.heap.size) (T := 61) (cs := #[.string n, .int .u16 (t : Int), .int .u16 (c : Int), .int .u32 (l : Int), .string d]) (by simp))
  have y0 := (h1.ce (g := pb) (T := 86) (cs := #[ptr b]) (by simp)).cell 0
  simp at y0
  clear hR g h1 hf h hB hr HR
  go_enter Try.func63, Try.ntmps63
  go_wp2_with fail
  refine (QP.call H1.out (fun S' hS => HC.out S' _ hS)).mono ?_
  rintro e w4 ⟨rfl, h4⟩
  have z0 := (h4.ce (g := rb) (T := 89) (cs := #[.func (.func 57) #[] #[ptr pb, ptr lb]]) (by simp)).cell 0
  simp at z0
  have H4 := Lib.hid (h4.sub (K' := wk pb rb lb b lim) (fun p hp => List.mem_cons_of_mem _ hp))
  clear h4 H1 x0 x1 x2 x3 x4 y0
  go_wp2_with fail
  obtain ⟨S4, hS4, _⟩ := H4.out.step
  refine (room_any S4 b pb lb lim _ _ w4 hS4 (H4.out.ce (by simp)) (H4.out.ce (by simp))).mono ?_
  rintro e w5 ⟨rfl, hb5⟩
  have H5 := Lib.hid (H4.out.under hb5)
  clear hb5 z0 hS4
  go_wp2
  go_ret
  exact ⟨rfl, H5.out⟩
end Go.Proofs.Ytljfkjbagebncaa

/- WrE -/
namespace Go.Proofs.Ytljfkjbagebncaa
open Go.RowKit
/-- What was written is all, or both are too long. -/
def Wr (lim : Int) (R F : St) : Prop := R = F ∨ (lim < (R.1.length : Int) ∧ lim < (F.1.length : Int))
theorem foldQ_fit : ∀ (qs : List Qn) (s : St), FitS s → (∀ q ∈ qs, qck q = 0) → FitS (qs.foldl qP s) ∧ s.1.length ≤ (qs.foldl qP s).1.length := by
  intro qs
  induction qs with
  | nil => intro s h _; exact ⟨h, Nat.le_refl _⟩
  | cons q qs ih =>
    intro s h hc
    have h1 := qP_fit (q := q) h (hc q (by simp))
    have h2 := ih (qP s q) h1.1 (fun x hx => hc x (by simp [hx]))
    exact ⟨h2.1, Nat.le_trans h1.2.1 h2.2⟩
theorem foldR_fit : ∀ (rs : List Rc) (s : St), FitS s → FitS (rs.foldl rP s) ∧ s.1.length ≤ (rs.foldl rP s).1.length := by
  intro rs
  induction rs with
  | nil => intro s h; exact ⟨h, Nat.le_refl _⟩
  | cons r rs ih =>
    intro s h
    have h1 := rP_fit (r := r) h
    have h2 := ih (rP s r) h1.1
    exact ⟨h2.1, Nat.le_trans h1.2.1 h2.2⟩
theorem fold_next {T : Type} {f : St → T → St} {xs : List T} {k : Nat} {x : T} (h : xs[k]? = some x) (s : St) : (xs.take (k + 1)).foldl f s = f ((xs.take k).foldl f s) x := by
  obtain ⟨hk, e⟩ := List.getElem?_eq_some_iff.1 h
  rw [List.take_succ_eq_append_getElem hk, e, List.foldl_append]
  rfl
theorem fold_rest {T : Type} (f : St → T → St) (xs : List T) (k : Nat) (s : St) : xs.foldl f s = (xs.drop k).foldl f ((xs.take k).foldl f s) := by
  rw [← List.foldl_append, List.take_append_drop]
/-- What writing a list leaves. -/
def WrPost (S : Nat → Prop) (w0 : World) (b : Nat) (K : List (Nat × Obj)) (lim : Int) (s F : St) (c : Nat) (w' : World) : Prop :=
  ∃ R : St, QP S w0 b K R.1 R.2 w' ∧ FitS R ∧ s.1.length ≤ R.1.length ∧ R.1.length ≤ c + 2400 ∧ Wr lim R F
set_option maxRecDepth 100000 in
set_option maxHeartbeats 6400000 in
theorem eachWQ_any (s : Sl) (qs : List Qn) (hok : ∀ q ∈ qs, q.Ok) (hck : ∀ q ∈ qs, qck q = 0) (hlen : qs.length ≤ 1000000) (S : Nat → Prop) (w0 : World) (hS : ∀ k, S k → w0.heap.size ≤ k) (pb rb lb b : Nat) (lim : Int) (hlim : lim ≤ 4096) (st : St) (c : Nat) (hc : 4096 ≤ c ∧ c ≤ 770000)
    (w : World) (h : QP S w0 b (wk pb rb lb b lim) st.1 st.2 w) (hf : FitS st) (hB : st.1.length ≤ c) (hl : RdQ w0 s qs) :
    Calls Try.prog 51 #[s.v, .func (.func 60) #[] #[ptr pb, ptr rb]] w fun e w' => (∃ v, e = .returned v) ∧ WrPost S w0 b (wk pb rb lb b lim) lim st (qs.foldl qP st) c w' := by
  have HL := Lib.hid hl
  have HOK := Lib.hid hok
  have HCK := Lib.hid hck
  have HF := Lib.hid hf
  have HS := Lib.hid hS
  have HC := Lib.hid hc
  have HB := Lib.hid hB
  have HLIM := Lib.hid hlim
  have HQ := Lib.hid h
  clear h hl hok hck hf hS hc hB hlim
  obtain ⟨sa, sn, sc⟩ := s
  show Calls Try.prog 51 #[.slice sa sn sc, .func (.func 60) #[] #[ptr pb, ptr rb]] w _
  have hsn : sn = qs.length := HL.out.1
  have HSN := Lib.hid hsn
  have hsb : (sn : Int) ≤ 1000000 := by omega
  clear hsn hlen
  go_enter Try.func51, Try.ntmps51
  go_wp2
  go_loopw [10] (fun i wr => ∃ (k : Nat) (R : St), k ≤ sn ∧ i = .int .i64 k ∧ QP S w0 b (wk pb rb lb b lim) R.1 R.2 wr ∧ R = (qs.take k).foldl qP st ∧ R.1.length ≤ c) (fun i _ => sn - (intOf i).toNat)
  case atStart => exact ⟨0, st, by omega, rfl, HQ.out, rfl, HB.out⟩
  case round =>
    obtain ⟨k, R, hk, rfl, hq, hR, hBR⟩ := hrel
    by_cases hlt : k < sn
    · have q1 : (k : Int) < (sn : Int) := by omega
      obtain ⟨q, hqk⟩ : ∃ q, qs[k]? = some q := ⟨_, List.getElem?_eq_getElem (by rw [← HSN.out]; exact hlt)⟩
      obtain ⟨bq, off, hsa, hbl, c0, c1, c2⟩ := HL.out.get hqk
      simp only at hsa
      subst hsa
      have hb := hq.below HS.out
      have d0 := (hb.cell (p := ⟨bq, off + k * 3, none⟩) hbl).trans c0
      have d1 := (hb.cell (p := ⟨bq, off + k * 3 + 1, none⟩) hbl).trans c1
      have d2 := (hb.cell (p := ⟨bq, off + k * 3 + 2, none⟩) hbl).trans c2
      have hmem := List.mem_of_getElem? hqk
      have hqo := HOK.out q hmem
      have hq0 := HCK.out q hmem
      have hfR : FitS R := hR ▸ (foldQ_fit (qs.take k) st HF.out (fun x hx => HCK.out x (List.mem_of_mem_take hx))).1
      have hfQ := qP_fit (q := q) hfR hq0
      have hnx : qP R q = (qs.take (k + 1)).foldl qP st := by rw [fold_next hqk, ← hR]
      have h2 : QP S w0 b (wk pb rb lb b lim) R.1 R.2 (wr.alloc (.cells #[.string q.n, .int .u16 (q.t : Int), .int .u16 (q.c : Int)] 44)) := hq.under (one_box wr _)
      have C := q60_any q hqo hq0 S w0 pb rb lb b lim R.1 R.2 _ h2 hfR (by have := HC.out; omega)
      have e0 : qP (R.1, R.2) q = qP R q := rfl
      rw [e0] at C
      have hlong : FitS (qP R q) → (qP R q).1.length ≤ (qs.foldl qP st).1.length := fun hf2 => by
        rw [fold_rest qP qs (k + 1) st, ← hnx]
        exact (foldQ_fit _ _ hf2 (fun x hx => HCK.out x (List.mem_of_mem_drop hx))).2
      have hst : st.1.length ≤ (qP R q).1.length := by
        rw [hnx]; exact (foldQ_fit _ _ HF.out (fun x hx => HCK.out x (List.mem_of_mem_take hx))).2
      obtain ⟨R1, hR1⟩ : ∃ R1, R1 = qP R q := ⟨_, rfl⟩
      rw [← hR1] at C hnx hfQ hlong hst
      obtain ⟨n1, hn1⟩ : ∃ n1, n1 = R1.1.length := ⟨_, rfl⟩
      have HN1 := Lib.hid hn1
      have HNX := Lib.hid hnx
      have HFQ := Lib.hid hfQ
      have HLG := Lib.hid (hlong hfQ.1)
      have HST := Lib.hid hst
      have HBR := Lib.hid hBR
      have HQR := Lib.hid hq
      rw [← hn1] at C
      obtain ⟨qn, qt, qc⟩ := q
      simp only at d0 d1 d2 C
      clear c0 c1 c2 hb hmem hqo hq0 hfR hfQ hnx h2 e0 hlong hst hR1 hn1 hBR hq hR hqk hbl
      by_cases g : lim < (n1 : Int)
      · have hE : rmE lim n1 = 11 := if_pos g
        rw [hE] at C
        have HC1 := Lib.hid C
        have HG := Lib.hid g
        clear C hE g
        go_wp2_with fail
        refine HC1.out.mono ?_
        rintro e w2 ⟨rfl, h2⟩
        have H2 := Lib.hid h2
        clear h2
        go_wp2
        go_ret
        refine ⟨⟨_, rfl⟩, R1, H2.out, HFQ.out.1, HST.out, ?_, .inr ⟨by rw [← HN1.out]; exact HG.out, ?_⟩⟩
        · have := HFQ.out.2.2; have := HBR.out; omega
        · have := HLG.out; have := HG.out; have := HN1.out; omega
      · have hE : rmE lim n1 = 0 := if_neg g
        rw [hE] at C
        have HC1 := Lib.hid C
        have HG := Lib.hid g
        clear C hE g
        go_wp2_with fail
        refine HC1.out.mono ?_
        rintro e w2 ⟨rfl, h2⟩
        have H2 := Lib.hid h2
        clear h2
        go_wp2
        go_roundw
        case rel => exact ⟨k + 1, R1, by omega, by go_num, H2.out, HNX.out, by have := HG.out; have := HLIM.out; have := HC.out; have := HN1.out; omega⟩
        case measure => simp [intOf]; omega
    · have q1 : decide ((k : Int) < (sn : Int)) = false := by simp; omega
      have e : qs.take k = qs := List.take_of_length_le (by rw [← HSN.out]; omega)
      rw [e] at hR
      have hfR := foldQ_fit qs st HF.out HCK.out
      rw [← hR] at hfR
      have HR := Lib.hid hR
      have HFR := Lib.hid hfR
      have HQR := Lib.hid hq
      have HBR := Lib.hid hBR
      clear e hR hfR hq hBR
      go_wp2
      go_ret
      exact ⟨⟨_, rfl⟩, R, HQR.out, HFR.out.1, HFR.out.2, by have := HBR.out; omega, .inl HR.out⟩
set_option maxRecDepth 100000 in
set_option maxHeartbeats 6400000 in
theorem eachWR_any (s : Sl) (qs : List Rc) (hok : ∀ q ∈ qs, q.Ok) (hck : ∀ q ∈ qs, rck q = 0) (hlen : qs.length ≤ 1000000) (S : Nat → Prop) (w0 : World) (hS : ∀ k, S k → w0.heap.size ≤ k) (pb rb lb b : Nat) (lim : Int) (hlim : lim ≤ 4096) (st : St) (c : Nat) (hc : 4096 ≤ c ∧ c ≤ 770000)
    (w : World) (h : QP S w0 b (wk pb rb lb b lim) st.1 st.2 w) (hf : FitS st) (hB : st.1.length ≤ c) (hl : RdR w0 s qs) :
    Calls Try.prog 54 #[s.v, .func (.func 63) #[] #[ptr pb, ptr rb]] w fun e w' => (∃ v, e = .returned v) ∧ WrPost S w0 b (wk pb rb lb b lim) lim st (qs.foldl rP st) c w' := by
  have HL := Lib.hid hl
  have HOK := Lib.hid hok
  have HCK := Lib.hid hck
  have HF := Lib.hid hf
  have HS := Lib.hid hS
  have HC := Lib.hid hc
  have HB := Lib.hid hB
  have HLIM := Lib.hid hlim
  have HQ := Lib.hid h
  clear h hl hok hck hf hS hc hB hlim
  obtain ⟨sa, sn, sc⟩ := s
  show Calls Try.prog 54 #[.slice sa sn sc, .func (.func 63) #[] #[ptr pb, ptr rb]] w _
  have hsn : sn = qs.length := HL.out.1
  have HSN := Lib.hid hsn
  have hsb : (sn : Int) ≤ 1000000 := by omega
  clear hsn hlen
  go_enter Try.func54, Try.ntmps54
  go_wp2
  go_loopw [10] (fun i wr => ∃ (k : Nat) (R : St), k ≤ sn ∧ i = .int .i64 k ∧ QP S w0 b (wk pb rb lb b lim) R.1 R.2 wr ∧ R = (qs.take k).foldl rP st ∧ R.1.length ≤ c) (fun i _ => sn - (intOf i).toNat)
  case atStart => exact ⟨0, st, by omega, rfl, HQ.out, rfl, HB.out⟩
  case round =>
    obtain ⟨k, R, hk, rfl, hq, hR, hBR⟩ := hrel
    by_cases hlt : k < sn
    · have q1 : (k : Int) < (sn : Int) := by omega
      obtain ⟨q, hqk⟩ : ∃ q, qs[k]? = some q := ⟨_, List.getElem?_eq_getElem (by rw [← HSN.out]; exact hlt)⟩
      obtain ⟨bq, off, hsa, hbl, c0, c1, c2, c3, c4⟩ := HL.out.get hqk
      simp only at hsa
      subst hsa
      have hb := hq.below HS.out
      have d0 := (hb.cell (p := ⟨bq, off + k * 5, none⟩) hbl).trans c0
      have d1 := (hb.cell (p := ⟨bq, off + k * 5 + 1, none⟩) hbl).trans c1
      have d2 := (hb.cell (p := ⟨bq, off + k * 5 + 2, none⟩) hbl).trans c2
      have d3 := (hb.cell (p := ⟨bq, off + k * 5 + 3, none⟩) hbl).trans c3
      have d4 := (hb.cell (p := ⟨bq, off + k * 5 + 4, none⟩) hbl).trans c4
      have hmem := List.mem_of_getElem? hqk
      have hqo := HOK.out q hmem
      have hq0 := HCK.out q hmem
      have hfR : FitS R := hR ▸ (foldR_fit (qs.take k) st HF.out).1
      have hfQ := rP_fit (r := q) hfR
      have hnx : rP R q = (qs.take (k + 1)).foldl rP st := by rw [fold_next hqk, ← hR]
      have h2 : QP S w0 b (wk pb rb lb b lim) R.1 R.2 (wr.alloc (.cells #[.string q.n, .int .u16 (q.t : Int), .int .u16 (q.c : Int), .int .u32 (q.l : Int), .string q.d] 61)) := hq.under (one_box wr _)
      have C := r63_any q hqo hq0 S w0 pb rb lb b lim R.1 R.2 _ h2 hfR (by have := HC.out; omega)
      have e0 : rP (R.1, R.2) q = rP R q := rfl
      rw [e0] at C
      have hlong : FitS (rP R q) → (rP R q).1.length ≤ (qs.foldl rP st).1.length := fun hf2 => by
        rw [fold_rest rP qs (k + 1) st, ← hnx]
        exact (foldR_fit _ _ hf2).2
      have hst : st.1.length ≤ (rP R q).1.length := by
        rw [hnx]; exact (foldR_fit _ _ HF.out).2
      obtain ⟨R1, hR1⟩ : ∃ R1, R1 = rP R q := ⟨_, rfl⟩
      rw [← hR1] at C hnx hfQ hlong hst
      obtain ⟨n1, hn1⟩ : ∃ n1, n1 = R1.1.length := ⟨_, rfl⟩
      have HN1 := Lib.hid hn1
      have HNX := Lib.hid hnx
      have HFQ := Lib.hid hfQ
      have HLG := Lib.hid (hlong hfQ.1)
      have HST := Lib.hid hst
      have HBR := Lib.hid hBR
      have HQR := Lib.hid hq
      rw [← hn1] at C
      obtain ⟨qn, qt, qc, ql, qd⟩ := q
      simp only at d0 d1 d2 d3 d4 C
      clear c0 c1 c2 c3 c4 hb hmem hqo hq0 hfR hfQ hnx h2 e0 hlong hst hR1 hn1 hBR hq hR hqk hbl
      by_cases g : lim < (n1 : Int)
      · have hE : rmE lim n1 = 11 := if_pos g
        rw [hE] at C
        have HC1 := Lib.hid C
        have HG := Lib.hid g
        clear C hE g
        go_wp2_with fail
        refine HC1.out.mono ?_
        rintro e w2 ⟨rfl, h2⟩
        have H2 := Lib.hid h2
        clear h2
        go_wp2
        go_ret
        refine ⟨⟨_, rfl⟩, R1, H2.out, HFQ.out.1, HST.out, ?_, .inr ⟨by rw [← HN1.out]; exact HG.out, ?_⟩⟩
        · have := HFQ.out.2.2; have := HBR.out; omega
        · have := HLG.out; have := HG.out; have := HN1.out; omega
      · have hE : rmE lim n1 = 0 := if_neg g
        rw [hE] at C
        have HC1 := Lib.hid C
        have HG := Lib.hid g
        clear C hE g
        go_wp2_with fail
        refine HC1.out.mono ?_
        rintro e w2 ⟨rfl, h2⟩
        have H2 := Lib.hid h2
        clear h2
        go_wp2
        go_roundw
        case rel => exact ⟨k + 1, R1, by omega, by go_num, H2.out, HNX.out, by have := HG.out; have := HLIM.out; have := HC.out; have := HN1.out; omega⟩
        case measure => simp [intOf]; omega
    · have q1 : decide ((k : Int) < (sn : Int)) = false := by simp; omega
      have e : qs.take k = qs := List.take_of_length_le (by rw [← HSN.out]; omega)
      rw [e] at hR
      have hfR := foldR_fit qs st HF.out
      rw [← hR] at hfR
      have HR := Lib.hid hR
      have HFR := Lib.hid hfR
      have HQR := Lib.hid hq
      have HBR := Lib.hid hBR
      clear e hR hfR hq hBR
      go_wp2
      go_ret
      exact ⟨⟨_, rfl⟩, R, HQR.out, HFR.out.1, HFR.out.2, by have := HBR.out; omega, .inl HR.out⟩
end Go.Proofs.Ytljfkjbagebncaa
