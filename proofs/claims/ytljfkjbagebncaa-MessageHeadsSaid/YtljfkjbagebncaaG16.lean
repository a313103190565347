/-
  RPName: What the Name of the document's packer leaves and answers; all else is as it was.
-/
import Derived.Test.YtljfkjbagebncaaG08
import Derived.Test.YtljfkjbagebncaaG03
import Derived.Test.YtljfkjbagebncaaG07
import Derived.Deep.RegionLaw
import Derived.Deep.LoopGhost

/- RPName -/
namespace Go.Proofs.Ytljfkjbagebncaa
open Go.RowKit
theorem RLft.pre {S : Nat → Prop} {b : Nat} {B : Bs} {L : Kn} {w1 w2 w3 : World} (h : Below w1.heap.size w1 w2) (k : RLft S b B L w2 w3) : RLft S b B L w1 w3 :=
  ⟨k.1.mono fun i hi => by
    rcases hi with hi | hi
    · exact .inl hi
    · exact .inr (Nat.le_trans h.size hi), (Tr.of_below h).then k.2⟩
theorem RV.more {S : Nat → Prop} {b : Nat} {B : Bs} {L : Kn} {lv : Value} {w : World} (h : RV S b B L lv w) (y : ByteArray) : RLft S b (B ++ y.data.toList) L w ((w.setCell ⟨b, 0, none⟩ (.string (⟨B.toArray⟩ ++ y))).drew) := by
  have e : (.string (⟨B.toArray⟩ ++ y) : Value) = str (B ++ y.data.toList) := by
    rw [show y = ⟨y.data.toList.toArray⟩ from rfl, cat]
  rw [e]
  exact (h.text (Below.refl _ _)).post ((Below.refl _ _).drew)
/-- Where the list grows: what the walk wants, and what is left. -/
theorem RV.list {S : Nat → Prop} {b a : Nat} {n B : Bs} {L : Kn} {lv v' : Value} {w wa w1 : World} (h : RV S b B L lv w) (ha : Below w.heap.size w wa)
    (hown : w1.ownsRow 0 143 2 v' (L.length + 1) (lc L ++ [str n, .int .i64 (a : Int)])) (hg : wa.grownBy w1 lv.ownBlock) (hloc : v'.ownBlock = lv.ownBlock ∨ ∃ k, v'.ownBlock = some k ∧ w.heap.size ≤ k) :
    Blk 98 w1 b (str B) lv ∧ RLft S b B (L ++ [(n, a)]) w (w1.setCell ⟨b, 1, none⟩ v') := by
  have h2 := h.below ha
  have hk1 := h2.blk.kept hg (h2.blk.not_row h2.row (by decide))
  have ht : Tr S w w1 := (Tr.of_below ha).grown hg (fun k hk => .inl (h.rowS k hk))
  refine ⟨hk1, ⟨v', hk1.set1 v', ?_, ?_, .inl h.own⟩, ht.setCell (.inl h.own) _⟩
  · have := hk1.row hown (by decide) (u := v') 1
    rw [List.length_append, lc_snoc]
    exact this
  · intro k hk
    rcases hloc with e | ⟨k', e, hk'⟩
    · exact .inl (h.rowS k (by rw [← e]; exact hk))
    · rw [hk] at e; cases e; exact .inr hk'
theorem list_law {S : Nat → Prop} {b a lL g1 cap1 cap5 : Nat} {a5 : Option Addr} {B : Bs} {L : Kn} {w w1 : World} {o : Obj} {t : ByteArray} (h : RV S b B L (.slice a5 L.length cap5) w) (hL : lL = L.length)
    (hown : w1.ownsRow 0 143 2 (.slice (some ⟨g1, 0, none⟩) (lL + 1) cap1) (lL + 1) (lc L ++ [.string t, .int .i64 (a : Int)])) (hg : (w.alloc o).drew.grownBy w1 (Value.slice a5 lL cap5).ownBlock) (hat : (Value.slice a5 lL cap5).ownBlock = some g1 ∨ g1 = (w.alloc o).drew.heap.size) :
    Blk 98 w1 b (str B) (.slice a5 lL cap5) ∧ RLft S b B (L ++ [(t.data.toList, a)]) w (w1.setCell ⟨b, 1, none⟩ (.slice (some ⟨g1, 0, none⟩) (lL + 1) cap1)) := by
  subst hL
  refine h.list (((Below.refl _ _).alloc (Nat.le_refl _) o).drew) hown hg ?_
  rcases hat with e | e
  · exact .inl e.symm
  · exact .inr ⟨g1, rfl, by
      have : (w.alloc o).drew.heap.size = w.heap.size + 1 := World.size_alloc w o
      omega⟩
set_option maxRecDepth 100000 in
set_option maxHeartbeats 8000000 in
theorem rpname_bad (s : ByteArray) (hs : s.size ≤ 1000000) (pts : Bool) (b : Nat) (w : World) (g : ¬ chk s.data.toList = 0) :
    Calls Try.prog 68 #[ptr b, .string s, .bool pts] w fun e w' => e = .returned (.int .i64 (chk s.data.toList)) ∧ Below w.heap.size w w' := by
  have q : (chk s.data.toList == 0) = false := by simpa using g
  have q' : (chk s.data.toList != 0) = true := by simpa using g
  have C := rlabels_no s hs g w
  have HC := Lib.hid C
  clear g C
  go_enter Try.func68, Try.ntmps68
  go_wp2_with fail
  refine HC.out.mono ?_
  rintro e w1 ⟨rfl, hb1⟩
  go_wp2
  go_ret
  exact ⟨rfl, hb1⟩
/-- What the loop of Name knows. -/
def RnL (S : Nat → Prop) (b : Nat) (ls : List Bs) (pts : Bool) (R : Bs × Kn) (K : Nat) (wL : World) (k : Nat) (wr : World) : Prop :=
  ∃ (B : Bs) (L : Kn), putN pts B L (ls.drop k) = R ∧ RLft S b B L wL wr ∧ OkK L ∧ L.length ≤ B.length ∧ B.length + (enc (ls.drop k)).length ≤ K
theorem cells_str {w : World} {base n : Nat} {v : Value} {ls : List Bs} (h : w.ownsRow base 9 1 v n (ls.map str)) (hn : 0 < n) : ∃ g cap, v = .slice (some ⟨g, 0, none⟩) n cap ∧ n ≤ cap ∧ base ≤ g ∧ g < w.heap.size ∧ ∀ j x, ls[j]? = some x → w.cell? ⟨g, j, none⟩ = some (str x) := by
  have hc := @World.ownsRow.cells w base 9 1 _ n _ h
  rcases h.2 with ⟨_, h0⟩ | ⟨g, cap', cur, rfl, hb, hg, hle, _⟩
  · omega
  · refine ⟨g, cap', rfl, hle, hb, (Array.getElem?_eq_some_iff.1 hg).1, fun j x hj => ?_⟩
    have := hc (g := g) rfl j (str x) (by simp [hj])
    rw [show (⟨g, 0, none⟩ : Addr).add j = ⟨g, j, none⟩ by unfold Addr.add; split <;> simp_all] at this
    exact this
set_option maxRecDepth 100000 in
set_option maxHeartbeats 16000000 in
theorem rpname_good (s : ByteArray) (pts : Bool) (S : Nat → Prop) (b : Nat) (B0 : Bs) (L0 : Kn) (w : World) (h : RK S b B0 L0 w) (hS : ∀ k, S k → k < w.heap.size) (g : chk s.data.toList = 0) (hB0 : B0.length ≤ 900000) (hL0 : L0.length ≤ B0.length) (hK0 : OkK L0) :
    Calls Try.prog 68 #[ptr b, .string s, .bool pts] w fun e w' => e = .returned (.int .i64 0) ∧ RLft S b (putN pts B0 L0 (labs s.data.toList)).1 (putN pts B0 L0 (labs s.data.toList)).2 w w' := by
  obtain ⟨R, hR⟩ : ∃ R, putN pts B0 L0 (labs s.data.toList) = R := ⟨_, rfl⟩
  rw [hR]
  obtain ⟨g1, g2⟩ := chk_zero.1 g
  have hss : s.size ≤ 255 := by rw [size_list]; exact g2
  have hen : (enc (labs s.data.toList)).length ≤ 254 := by
    have := congrArg List.length (name_split g)
    rw [List.length_append] at this
    simp only [List.length_singleton] at this
    omega
  have C := rlabels_yes s (by omega) g w
  obtain ⟨ls, hls⟩ : ∃ ls, ls = labs s.data.toList := ⟨_, rfl⟩
  have hok := labs_ok s.data.toList
  rw [← hls] at C hR hen hok
  have HH := Lib.hid h
  have HR0 := Lib.hid hR
  have HEN := Lib.hid hen
  have HC := Lib.hid C
  have HOK := Lib.hid hok
  have hln := length_le_enc ls
  obtain ⟨n, hn⟩ : ∃ n, n = ls.length := ⟨_, rfl⟩
  have hnb : n ≤ 254 := by omega
  have HN := Lib.hid hn
  clear h hR hen g g1 g2 C hls hok hln hn
  obtain ⟨i0, hi, hz0, hz1, hz2⟩ := info_parts info84
  go_enter Try.func68, Try.ntmps68
  go_wp2_with fail
  refine HC.out.mono ?_
  rintro e wL ⟨v, rfl, hown, hb1⟩
  have HL0 := Lib.hid (HH.out.below hb1)
  have HOW : Hid (wL.ownsRow w.heap.size 9 1 v n (ls.map str)) := Lib.hid (by rw [HN.out]; exact hown)
  have HB1 := Lib.hid hb1
  have hsz := hb1.size
  obtain ⟨a7, cap7, rfl⟩ := row_slice HOW.out
  clear hown hb1
  go_wp2
  go_loopw [9] (fun i wr => ∃ k : Nat, k ≤ n ∧ i = .int .i64 k ∧ RnL S b ls pts R (B0.length + 254) wL k wr) (fun i _ => n - (intOf i).toNat)
  case atStart => exact ⟨0, by omega, rfl, B0, L0, HR0.out, RLft.refl HL0.out, hK0, hL0, by have := HEN.out; simp; omega⟩
  case round =>
    obtain ⟨k, hk, rfl, B, L, hr, hl, hokk, hll, hbk⟩ := hrel
    have HR := Lib.hid hr
    have HL := Lib.hid hl
    have HOKK := Lib.hid hokk
    clear hr hl hokk
    by_cases hlt : k < n
    · have q1 : (k : Int) < (n : Int) := by omega
      obtain ⟨g7, _, e7, hcap, hg7, hg7l, hcells⟩ := cells_str HOW.out (by omega)
      injection e7 with e71 e72 e73
      subst e71
      subst e73
      have hnS : ¬ S g7 := fun h => by have := hS _ h; omega
      have hcells2 : ∀ j x, ls[j]? = some x → wr.cell? ⟨g7, j, none⟩ = some (str x) := fun j x hj => (HL.out.2.cell (p := ⟨g7, j, none⟩) hg7l hnS).trans (hcells j x hj)
      have hg7r : g7 < wr.heap.size := Nat.lt_of_lt_of_le hg7l HL.out.2.size
      have hck : ¬ cap7 = k := by omega
      have HCE := Lib.hid hcells2
      clear hcells hcells2 e72
      obtain ⟨x, hx⟩ : ∃ x, ls[k]? = some x := ⟨_, List.getElem?_eq_getElem (by rw [← HN.out]; exact hlt)⟩
      have hxk := HCE.out k x hx
      obtain ⟨xs, hxs⟩ : ∃ xs, xs = ls.drop (k + 1) := ⟨_, rfl⟩
      have hdr : ls.drop k = x :: xs := by
        obtain ⟨hk', e⟩ := List.getElem?_eq_some_iff.1 hx
        rw [List.drop_eq_getElem_cons hk', e, hxs]
      have hxok : OkL x := HOK.out x (List.mem_of_getElem? hx)
      have hokd : ∀ y ∈ ls.drop k, OkL y := fun y hy => HOK.out y (List.mem_of_mem_drop hy)
      have hend : (enc (ls.drop k)).length ≤ 254 := by
        have h1 := congrArg List.length (enc_append (ls.take k) (ls.drop k))
        rw [List.take_append_drop, List.length_append] at h1
        have := HEN.out
        omega
      have M := rmake_some g7 k (cap7 - k) (ls.drop k) wr hg7r (fun j y hj => HCE.out (k + j) y (by rw [List.getElem?_drop] at hj; exact hj)) (by rw [List.length_drop, ← HN.out]; omega) (fun y hy => by have := (hokd y hy).2; omega)
      have hme := mkE_is hokd hend
      rw [mkS_zero hme, hme, List.length_drop, ← HN.out, hdr] at M
      rw [hdr] at hbk
      have HM := Lib.hid M
      have HR1 : Hid (putN pts B L (x :: xs) = R) := Lib.hid (by rw [← hdr]; exact HR.out)
      have HXS := Lib.hid hxs
      obtain ⟨t, ht⟩ : ∃ t : ByteArray, t = ⟨(enc (x :: xs) ++ [0]).toArray⟩ := ⟨_, rfl⟩
      have htl : t.data.toList = enc (x :: xs) ++ [0] := by rw [ht]
      have hts : str (enc (x :: xs) ++ [0]) = .string t := by rw [ht]
      have HTL := Lib.hid htl
      have HTS := Lib.hid hts
      have he2 : (enc (x :: xs)).length = x.length + 1 + (enc xs).length := by rw [enc_cons, List.length_append, enc1_length]
      obtain ⟨hx1, hx2⟩ := hxok
      obtain ⟨y, hy⟩ : ∃ y : ByteArray, y = ⟨x.toArray⟩ := ⟨_, rfl⟩
      have hyl : y.data.toList = x := by rw [hy]
      have hys : y.size = x.length := by rw [size_list, hyl]
      rw [show str x = .string y by rw [hy]] at hxk
      have HYL := Lib.hid hyl
      have hyb : (y.size : Int) ≤ 63 := by omega
      have HYS := Lib.hid hys
      have HBK : Hid (B.length + x.length + 1 + (enc xs).length ≤ B0.length + 254) := Lib.hid (by omega)
      clear hx hxs hdr hokd hend M hme ht htl hts he2 hy hyl hbk HR hys
      have hBb : B.length ≤ 1000000 := by have := HBK.out; omega
      go_wp2_with fail
      refine HM.out.mono ?_
      rintro e w5 ⟨rfl, hb5⟩
      rw [HTS.out]
      have HL5 := Lib.hid (HL.out.post hb5)
      have hyk := (hb5.cell (p := ⟨g7, k, none⟩) hg7r).trans hxk
      have hg75 : g7 < w5.heap.size := Nat.lt_of_lt_of_le hg7r hb5.size
      clear hb5 hxk hg7r HL
      cases hf : find L (enc (x :: xs) ++ [0]) with
      | some a =>
        have ha := HOKK.out.find hf
        have HF := Lib.hid hf
        have hfd : fdI (find L t.data.toList) = (a : Int) := by rw [HTL.out, hf]; rfl
        have FD := Lib.hid hfd
        clear hf hfd
        have hai : (a : Int) < 16384 := by omega
        have r1 : decide ((a : Int) < 0) = false := by simp
        have r2 : decide ((0 : Int) ≤ (a : Int)) = true := by simp
        cases pts with
        | true =>
          have HR2 := Lib.hid (HR1.out.symm.trans (putN_point _ _ _ _ _ HF.out))
          go_wp2_with fail
          refine (rfind_any t _ _ _ _ _ HL5.out.1 (by omega) HOKK.out).mono ?_
          rintro e w' ⟨rfl, rfl⟩
          rw [FD.out]
          have C2 := rnum_any (49152 + a) 2 (by omega) (by decide) _ _ _ _ _ HL5.out.1 hBb
          rw [show ((49152 + a : Nat) : Int) = 49152 + (a : Int) by omega, nb_two] at C2
          have HC2 := Lib.hid C2
          clear C2
          go_wp2_with fail
          refine HC2.out.mono ?_
          rintro e w6 ⟨⟨v6, rfl⟩, hL6⟩
          have R6 := Lib.hid (HL5.out.trans hL6)
          clear hL6
          go_wp2
          go_ret
          exact ⟨rfl, by rw [HR2.out]; exact R6.out.pre HB1.out⟩
        | false =>
          go_wp2_with fail
          refine (rfind_any t _ _ _ _ _ HL5.out.1 (by omega) HOKK.out).mono ?_
          rintro e w' ⟨rfl, rfl⟩
          rw [FD.out]
          go_wp2_with fail
          refine (rnum_any y.size 1 (by omega) (by decide) _ _ _ _ _ HL5.out.1 hBb).mono ?_
          rintro e w6 ⟨⟨v6, rfl⟩, hL6⟩
          rw [nb_one] at hL6
          have hyk6 := (hL6.2.cell (p := ⟨g7, k, none⟩) hg75 (fun h => by
            rcases h with h | h
            · exact hnS h
            · have h' : wL.heap.size ≤ g7 := h
              omega)).trans hyk
          have H6 := Lib.hid (HL5.out.trans hL6)
          obtain ⟨lv6, hr6⟩ := H6.out.1
          have d0 := hr6.blk.cell0
          have f0 := hr6.blk.frozen0
          have HR6 := Lib.hid hr6
          have hadd : ∀ w, (Op.stringOp .add ⟨(B ++ [UInt8.ofNat y.size]).toArray⟩ y).run Try.prog w = .ok (.string (⟨(B ++ [UInt8.ofNat y.size]).toArray⟩ ++ y)) w := fun w => run_string_add_sum w _ _ (by rw [size_list]; show (B ++ [UInt8.ofNat y.size]).length + y.size ≤ _; rw [List.length_append]; simp; omega)
          clear hL6 hr6 hyk
          go_wp2
          go_region
          go_wp2
          go_roundw
          case rel => exact ⟨k + 1, by omega, by go_num, B ++ [UInt8.ofNat y.size] ++ y.data.toList, L, by rw [HYL.out, HYS.out, ← HXS.out, show B ++ [UInt8.ofNat x.length] ++ x = B ++ enc1 x by simp [enc1]]; exact by have := HR1.out; rw [putN_pass _ _ _ _ _ HF.out] at this; exact this, H6.out.trans (HR6.out.more y), HOKK.out, by rw [List.length_append, List.length_append]; omega, by have := HBK.out; rw [← HXS.out, List.length_append, List.length_append, HYL.out]; simp; omega⟩
          case measure => simp [intOf]; omega
      | none =>
        have HF := Lib.hid hf
        have hfd : fdI (find L t.data.toList) = -1 := by rw [HTL.out, hf]; rfl
        have FD := Lib.hid hfd
        clear hf hfd
        by_cases hB : B.length < 16384
        · have hmore := Lib.hid (more_near (B := B) (L := L) (n := enc (x :: xs) ++ [0]) hB)
          have q3 : decide ((B.length : Int) < 16384) = true := by simp; omega
          obtain ⟨lv5, hr5⟩ := HL5.out.1
          obtain ⟨a5, cap5, rfl⟩ := row_slice hr5.row
          have c0 := hr5.blk.cell0
          have c1 := hr5.blk.cell1
          have f1 := hr5.blk.frozen1
          have hbl := hr5.blk.lt
          have hbn : b ≠ w5.heap.size := by omega
          obtain ⟨tB, htB⟩ : ∃ tB : ByteArray, tB = ⟨B.toArray⟩ := ⟨_, rfl⟩
          have htbs : tB.size = B.length := by rw [size_list, htB]
          rw [show str B = .string tB by rw [htB]] at c0
          obtain ⟨lL, hlL⟩ : ∃ lL, lL = L.length := ⟨_, rfl⟩
          have hrow := hr5.row
          rw [← hlL] at hrow c1
          have hlLb : lL ≤ 1000000 := by omega
          have HROW := Lib.hid hrow
          have HLL := Lib.hid hlL
          have HR5 := Lib.hid hr5
          have HTB := Lib.hid htB
          obtain ⟨nB, hnB⟩ : ∃ nB, nB = tB.size := ⟨_, rfl⟩
          have hnBl : nB = B.length := by rw [hnB, htbs]
          have hn16 : (nB : Int) < 16384 := by omega
          have q4 : decide ((tB.size : Int) < 16384) = true := by simp; omega
          have HNB := Lib.hid hnBl
          have HNT := Lib.hid hnB
          clear hr5 hrow hlL htB htbs hnBl hnB
          cases pts with
          | true =>
            go_wp2_with fail
            refine (rfind_any t _ _ _ _ _ HL5.out.1 (by omega) HOKK.out).mono ?_
            rintro e w' ⟨rfl, rfl⟩
            rw [FD.out]
            go_wp2
            go_region_law ((refine step_append_lies _ rfl (.tmp 60) (.tmp 68) 96 rfl 0 143 i0 (.agg #[.string ⟨#[]⟩, .int .i64 0]) 2 24 Try.underlying96 hi hz0 hz1 hz2 rfl (by decide) (.slice a5 lL cap5) lL _ (by simp [Act.eval]) (HROW.out.alloc _).drew ⟨w5.heap.size, 0, none⟩ 1 1 [.string t, .int .i64 (tB.size : Int)] (by simp [Act.eval]) rfl (fun j u hj => World.news_of_block (cs := #[.string t, .int .i64 (tB.size : Int)]) (t := 143) (fr := (0, 0)) (heap_alloc_new w5 _) j u hj) (by simp [Value.oneCell']) (by decide) (by unfold maxLen; omega) (by omega) (Nat.zero_le _) _ rfl ?_; intro g1 cap1 w6 hown6 hg6 hat6 hlt6; have A := Lib.hid (list_law HR5.out (t := t) (a := tB.size) HLL.out hown6 hg6 hat6); have d1 := A.out.1.cell1; have e1 := A.out.1.frozen1; clear hown6 hg6 hat6 hlt6))
            all_goals
              clear c0 c1 f1
              have hykX := (A.out.2.2.cell (p := ⟨g7, k, none⟩) hg75 (fun h => by
                rcases h with h | h
                · exact hnS h
                · have h' : wL.heap.size ≤ g7 := h
                  omega)).trans hyk
              have hg7X := Nat.lt_of_lt_of_le hg75 A.out.2.2.size
              have HX := Lib.hid (HL5.out.trans A.out.2)
              clear d1 e1
              go_wp2_with fail
              refine (rnum_any y.size 1 (by omega) (by decide) _ _ _ _ _ HX.out.1 hBb).mono ?_
              rintro e w7 ⟨⟨v7, rfl⟩, hL7⟩
              rw [nb_one] at hL7
              have hyk7 := (hL7.2.cell (p := ⟨g7, k, none⟩) hg7X (fun h => by
                rcases h with h | h
                · exact hnS h
                · have h' : wL.heap.size ≤ g7 := h
                  omega)).trans hykX
              have H7 := Lib.hid (HX.out.trans hL7)
              obtain ⟨lv7, hr7⟩ := H7.out.1
              have d0 := hr7.blk.cell0
              have f0 := hr7.blk.frozen0
              have HR7 := Lib.hid hr7
              have hadd : ∀ w, (Op.stringOp .add ⟨(B ++ [UInt8.ofNat y.size]).toArray⟩ y).run Try.prog w = .ok (.string (⟨(B ++ [UInt8.ofNat y.size]).toArray⟩ ++ y)) w := fun w => run_string_add_sum w _ _ (by rw [size_list]; show (B ++ [UInt8.ofNat y.size]).length + y.size ≤ _; rw [List.length_append]; simp; omega)
              clear hL7 hr7 hykX A
              go_wp2
              go_region
              go_wp2
              go_roundw
              case rel => exact ⟨k + 1, by omega, by go_num, B ++ [UInt8.ofNat y.size] ++ y.data.toList, L ++ [(t.data.toList, tB.size)], by rw [HYL.out, HYS.out, ← HXS.out, show B ++ [UInt8.ofNat x.length] ++ x = B ++ enc1 x by simp [enc1]]; exact by have := HR1.out; rw [putN_new _ _ _ _ _ HF.out, hmore.out] at this; rw [HTL.out, ← HNT.out, HNB.out]; exact this, H7.out.trans (HR7.out.more y), by have h := okK_more (B := B) (n := enc (x :: xs) ++ [0]) HOKK.out; rw [hmore.out] at h; rw [HTL.out, ← HNT.out, HNB.out]; exact h, by rw [List.length_append, List.length_append, List.length_append]; simp; omega, by have := HBK.out; rw [← HXS.out, List.length_append, List.length_append, HYL.out]; simp; omega⟩
              case measure => simp [intOf]; omega
          | false =>
            go_wp2_with fail
            refine (rfind_any t _ _ _ _ _ HL5.out.1 (by omega) HOKK.out).mono ?_
            rintro e w' ⟨rfl, rfl⟩
            rw [FD.out]
            go_wp2
            go_region_law ((refine step_append_lies _ rfl (.tmp 60) (.tmp 68) 96 rfl 0 143 i0 (.agg #[.string ⟨#[]⟩, .int .i64 0]) 2 24 Try.underlying96 hi hz0 hz1 hz2 rfl (by decide) (.slice a5 lL cap5) lL _ (by simp [Act.eval]) (HROW.out.alloc _).drew ⟨w5.heap.size, 0, none⟩ 1 1 [.string t, .int .i64 (tB.size : Int)] (by simp [Act.eval]) rfl (fun j u hj => World.news_of_block (cs := #[.string t, .int .i64 (tB.size : Int)]) (t := 143) (fr := (0, 0)) (heap_alloc_new w5 _) j u hj) (by simp [Value.oneCell']) (by decide) (by unfold maxLen; omega) (by omega) (Nat.zero_le _) _ rfl ?_; intro g1 cap1 w6 hown6 hg6 hat6 hlt6; have A := Lib.hid (list_law HR5.out (t := t) (a := tB.size) HLL.out hown6 hg6 hat6); have d1 := A.out.1.cell1; have e1 := A.out.1.frozen1; clear hown6 hg6 hat6 hlt6))
            all_goals
              clear c0 c1 f1
              have hykX := (A.out.2.2.cell (p := ⟨g7, k, none⟩) hg75 (fun h => by
                rcases h with h | h
                · exact hnS h
                · have h' : wL.heap.size ≤ g7 := h
                  omega)).trans hyk
              have hg7X := Nat.lt_of_lt_of_le hg75 A.out.2.2.size
              have HX := Lib.hid (HL5.out.trans A.out.2)
              clear d1 e1
              go_wp2_with fail
              refine (rnum_any y.size 1 (by omega) (by decide) _ _ _ _ _ HX.out.1 hBb).mono ?_
              rintro e w7 ⟨⟨v7, rfl⟩, hL7⟩
              rw [nb_one] at hL7
              have hyk7 := (hL7.2.cell (p := ⟨g7, k, none⟩) hg7X (fun h => by
                rcases h with h | h
                · exact hnS h
                · have h' : wL.heap.size ≤ g7 := h
                  omega)).trans hykX
              have H7 := Lib.hid (HX.out.trans hL7)
              obtain ⟨lv7, hr7⟩ := H7.out.1
              have d0 := hr7.blk.cell0
              have f0 := hr7.blk.frozen0
              have HR7 := Lib.hid hr7
              have hadd : ∀ w, (Op.stringOp .add ⟨(B ++ [UInt8.ofNat y.size]).toArray⟩ y).run Try.prog w = .ok (.string (⟨(B ++ [UInt8.ofNat y.size]).toArray⟩ ++ y)) w := fun w => run_string_add_sum w _ _ (by rw [size_list]; show (B ++ [UInt8.ofNat y.size]).length + y.size ≤ _; rw [List.length_append]; simp; omega)
              clear hL7 hr7 hykX A
              go_wp2
              go_region
              go_wp2
              go_roundw
              case rel => exact ⟨k + 1, by omega, by go_num, B ++ [UInt8.ofNat y.size] ++ y.data.toList, L ++ [(t.data.toList, tB.size)], by rw [HYL.out, HYS.out, ← HXS.out, show B ++ [UInt8.ofNat x.length] ++ x = B ++ enc1 x by simp [enc1]]; exact by have := HR1.out; rw [putN_new _ _ _ _ _ HF.out, hmore.out] at this; rw [HTL.out, ← HNT.out, HNB.out]; exact this, H7.out.trans (HR7.out.more y), by have h := okK_more (B := B) (n := enc (x :: xs) ++ [0]) HOKK.out; rw [hmore.out] at h; rw [HTL.out, ← HNT.out, HNB.out]; exact h, by rw [List.length_append, List.length_append, List.length_append]; simp; omega, by have := HBK.out; rw [← HXS.out, List.length_append, List.length_append, HYL.out]; simp; omega⟩
              case measure => simp [intOf]; omega
        · have hmore := Lib.hid (more_far (B := B) (L := L) (n := enc (x :: xs) ++ [0]) hB)
          have q3 : decide ((B.length : Int) < 16384) = false := by simp; omega
          obtain ⟨lv5, hr5⟩ := HL5.out.1
          have c0 := hr5.blk.cell0
          have hstl : (⟨B.toArray⟩ : ByteArray).size = B.length := by rw [size_list]
          have q4 : decide (((⟨B.toArray⟩ : ByteArray).size : Int) < 16384) = false := by rw [hstl]; exact q3
          clear hr5 hstl
          cases pts with
          | true =>
            go_wp2_with fail
            refine (rfind_any t _ _ _ _ _ HL5.out.1 (by omega) HOKK.out).mono ?_
            rintro e w' ⟨rfl, rfl⟩
            rw [FD.out]
            go_wp2_with fail
            refine (rnum_any y.size 1 (by omega) (by decide) _ _ _ _ _ HL5.out.1 hBb).mono ?_
            rintro e w6 ⟨⟨v6, rfl⟩, hL6⟩
            rw [nb_one] at hL6
            have hyk6 := (hL6.2.cell (p := ⟨g7, k, none⟩) hg75 (fun h => by
              rcases h with h | h
              · exact hnS h
              · have h' : wL.heap.size ≤ g7 := h
                omega)).trans hyk
            have H6 := Lib.hid (HL5.out.trans hL6)
            obtain ⟨lv6, hr6⟩ := H6.out.1
            have d0 := hr6.blk.cell0
            have f0 := hr6.blk.frozen0
            have HR6 := Lib.hid hr6
            have hadd : ∀ w, (Op.stringOp .add ⟨(B ++ [UInt8.ofNat y.size]).toArray⟩ y).run Try.prog w = .ok (.string (⟨(B ++ [UInt8.ofNat y.size]).toArray⟩ ++ y)) w := fun w => run_string_add_sum w _ _ (by rw [size_list]; show (B ++ [UInt8.ofNat y.size]).length + y.size ≤ _; rw [List.length_append]; simp; omega)
            clear hL6 hr6 hyk
            go_wp2
            go_region
            go_wp2
            go_roundw
            case rel => exact ⟨k + 1, by omega, by go_num, B ++ [UInt8.ofNat y.size] ++ y.data.toList, L, by rw [HYL.out, HYS.out, ← HXS.out, show B ++ [UInt8.ofNat x.length] ++ x = B ++ enc1 x by simp [enc1]]; exact by have := HR1.out; rw [putN_new _ _ _ _ _ HF.out, hmore.out] at this; exact this, H6.out.trans (HR6.out.more y), HOKK.out, by rw [List.length_append, List.length_append]; omega, by have := HBK.out; rw [← HXS.out, List.length_append, List.length_append, HYL.out]; simp; omega⟩
            case measure => simp [intOf]; omega
          | false =>
            go_wp2_with fail
            refine (rfind_any t _ _ _ _ _ HL5.out.1 (by omega) HOKK.out).mono ?_
            rintro e w' ⟨rfl, rfl⟩
            rw [FD.out]
            go_wp2_with fail
            refine (rnum_any y.size 1 (by omega) (by decide) _ _ _ _ _ HL5.out.1 hBb).mono ?_
            rintro e w6 ⟨⟨v6, rfl⟩, hL6⟩
            rw [nb_one] at hL6
            have hyk6 := (hL6.2.cell (p := ⟨g7, k, none⟩) hg75 (fun h => by
              rcases h with h | h
              · exact hnS h
              · have h' : wL.heap.size ≤ g7 := h
                omega)).trans hyk
            have H6 := Lib.hid (HL5.out.trans hL6)
            obtain ⟨lv6, hr6⟩ := H6.out.1
            have d0 := hr6.blk.cell0
            have f0 := hr6.blk.frozen0
            have HR6 := Lib.hid hr6
            have hadd : ∀ w, (Op.stringOp .add ⟨(B ++ [UInt8.ofNat y.size]).toArray⟩ y).run Try.prog w = .ok (.string (⟨(B ++ [UInt8.ofNat y.size]).toArray⟩ ++ y)) w := fun w => run_string_add_sum w _ _ (by rw [size_list]; show (B ++ [UInt8.ofNat y.size]).length + y.size ≤ _; rw [List.length_append]; simp; omega)
            clear hL6 hr6 hyk
            go_wp2
            go_region
            go_wp2
            go_roundw
            case rel => exact ⟨k + 1, by omega, by go_num, B ++ [UInt8.ofNat y.size] ++ y.data.toList, L, by rw [HYL.out, HYS.out, ← HXS.out, show B ++ [UInt8.ofNat x.length] ++ x = B ++ enc1 x by simp [enc1]]; exact by have := HR1.out; rw [putN_new _ _ _ _ _ HF.out, hmore.out] at this; exact this, H6.out.trans (HR6.out.more y), HOKK.out, by rw [List.length_append, List.length_append]; omega, by have := HBK.out; rw [← HXS.out, List.length_append, List.length_append, HYL.out]; simp; omega⟩
            case measure => simp [intOf]; omega
    · have q1 : decide ((k : Int) < (n : Int)) = false := by simp; omega
      have e : ls.drop k = [] := List.drop_of_length_le (by rw [← HN.out]; omega)
      rw [e] at hbk
      have HR2 := Lib.hid (HR.out.symm.trans (by rw [e, putN_nil]))
      clear e
      go_wp2_with fail
      refine (rnum_any 0 1 (by decide) (by decide) _ _ _ _ _ HL.out.1 (by simp [enc] at hbk; omega)).mono ?_
      rintro e w3 ⟨⟨v3, rfl⟩, hL3⟩
      have R3 := Lib.hid (HL.out.trans hL3)
      clear hL3
      go_wp2
      go_ret
      refine ⟨rfl, ?_⟩
      rw [HR2.out]
      exact ⟨R3.out.1.mono fun i hi => by
        rcases hi with hi | hi
        · exact .inl hi
        · exact .inr (Nat.le_trans hsz hi), (Tr.of_below HB1.out).then R3.out.2⟩
/-- WHAT NAME LEAVES AND ANSWERS, by the document. -/
theorem rpname_any (s : ByteArray) (hs : s.size ≤ 1000000) (pts : Bool) (S : Nat → Prop) (b : Nat) (B : Bs) (L : Kn) (w : World) (h : RK S b B L w) (hS : ∀ k, S k → k < w.heap.size) (hB : B.length ≤ 900000) (hL : L.length ≤ B.length) (hK : OkK L) :
    Calls Try.prog 68 #[ptr b, .string s, .bool pts] w fun e w' => e = .returned (.int .i64 (chk s.data.toList)) ∧ RLft S b (pkB pts B L s.data.toList) (pkL pts B L s.data.toList) w w' := by
  by_cases g : chk s.data.toList = 0
  · unfold pkB pkL
    rw [if_pos g, if_pos g, g]
    exact rpname_good s pts S b B L w h hS g hB hL hK
  · unfold pkB pkL
    rw [if_neg g, if_neg g]
    exact (rpname_bad s hs pts b w g).mono fun e w' ⟨h1, h2⟩ => ⟨h1, (RLft.refl h).post h2⟩
end Go.Proofs.Ytljfkjbagebncaa
