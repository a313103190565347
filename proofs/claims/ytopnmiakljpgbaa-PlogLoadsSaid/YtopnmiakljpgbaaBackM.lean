/-
  What was saved is loaded again: the mathematics.
-/
import Derived.Test.YtopnmiakljpgbaaLoad
import Derived.Test.YtopnmiakljpgbaaRSave
namespace Go.Proofs.Ytopnmiakljpgbaa
open Go.RowKit
theorem beV_cons8 (a b c d e f g h : UInt8) : beV [a, b, c, d, e, f, g, h] = ((((((a.toNat * 256 + b.toNat) * 256 + c.toNat) * 256 + d.toNat) * 256 + e.toNat) * 256 + f.toNat) * 256 + g.toNat) * 256 + h.toNat := by
  simp [beV]
theorem lowB_nat (n : Int) : ((lowB n).toNat : Int) = n % 256 := by
  unfold lowB
  have h1 : 0 ≤ n % 256 := Int.emod_nonneg _ (by decide)
  have h2 : n % 256 < 256 := Int.emod_lt_of_pos _ (by decide)
  rw [UInt8.toNat_ofNat']
  omega
theorem beV_nb8 (x : Int) (h0 : 0 ≤ x) (h1 : x < 2199023255552) : (beV (nb8 x) : Int) = x := by
  unfold nb8
  rw [beV_cons8]
  simp only [Int.natCast_add, Int.natCast_mul, lowB_nat]
  omega
theorem num1_nb (x : Int) (r : Bs) (h0 : 0 ≤ x) (h1 : x < 2199023255552) : num1 (nb8 x ++ r) = some (x, r) := by
  have hl : (nb8 x).length = 8 := rfl
  have hv := beV_nb8 x h0 h1
  have ht : (nb8 x ++ r).take 8 = nb8 x := by rw [← hl]; exact List.take_left
  have hd : (nb8 x ++ r).drop 8 = r := by rw [← hl]; exact List.drop_left
  unfold num1
  rw [ht, hd, if_pos ⟨by rw [List.length_append, hl]; omega, by omega⟩, hv]
theorem byt1_app (d r : Bs) : byt1 (d ++ r) (d.length : Int) = some (d, r) := by
  unfold byt1
  rw [if_pos (by rw [List.length_append]; omega)]
  simp
/-- A number of a node. -/
def vGood (V : List Int) : Prop := (∀ x ∈ V, 0 ≤ x ∧ x < 64) ∧ ∀ i, 0 < i → i < V.length → V.getD (i - 1) 0 < V.getD i 0
theorem vot_data {V : List Int} (h : ∀ x ∈ V, 0 ≤ x ∧ x < 64) : vot (dataB V) = V := by
  unfold vot dataB
  rw [List.map_map]
  conv => rhs; rw [← List.map_id V]
  apply List.map_congr_left
  intro x hx
  have := h x hx
  show ((lowB x).toNat : Int) = x
  rw [lowB_nat]
  omega
theorem lok_data {V : List Int} (h : vGood V) : lok (dataB V) = true := by
  unfold lok
  rw [decide_eq_true_eq]
  intro i hi
  have hl : (dataB V).length = V.length := by simp [dataB]
  rw [hl] at hi
  have hg : ∀ j, j < V.length → ((dataB V).getD j 0).toNat = (V.getD j 0).toNat ∧ 0 ≤ V.getD j 0 ∧ V.getD j 0 < 64 := by
    intro j hj
    have h1 : V[j]? = some V[j] := List.getElem?_eq_getElem hj
    have h2 : (dataB V)[j]? = some (lowB V[j]) := by unfold dataB; rw [List.getElem?_map, h1]; rfl
    have h3 := h.1 V[j] (List.getElem_mem hj)
    rw [List.getD_eq_getElem?_getD, List.getD_eq_getElem?_getD, h1, h2]
    have := lowB_nat V[j]
    exact ⟨by show (lowB V[j]).toNat = V[j].toNat; omega, h3⟩
  have hgi := hg i hi
  refine ⟨by rw [hgi.1]; omega, fun h0 => ?_⟩
  have hgj := hg (i - 1) (by omega)
  have := h.2 i h0 hi
  rw [hgi.1, hgj.1]
  omega
theorem stp_term (S : Hs) (t vo : Int) (h1 : 0 ≤ t) (h2 : t < 2199023255552) (h3 : 0 ≤ vo) (h4 : vo < 2199023255552) : stp S (84 :: numsB [t, vo]) = some ⟨t, vo, S.V, S.sn, S.ba, S.bt, S.L⟩ := by
  show stT S (numsB [t, vo]) = _
  rw [numsB_two]
  unfold stT
  rw [num1_nb t _ h1 h2]
  simp only [Option.bind_some]
  have := num1_nb vo [] h3 h4
  rw [List.append_nil] at this
  rw [this]
  simp
theorem stp_ent (S : Hs) (k : Nat) (e : En) (hb : 0 ≤ S.ba ∧ S.ba ≤ 1099511627776) (hk : k ≤ S.L.length) (hk2 : k ≤ 10000) (ht : 0 ≤ e.term ∧ e.term ≤ 1099511627776) (hkd : 0 ≤ e.kind ∧ e.kind ≤ 2) :
    stp S (entB (S.ba + k + 1) e) = some ⟨S.t, S.vo, S.V, S.sn, S.ba, S.bt, S.L.take k ++ [e]⟩ := by
  show stE S (numsB [S.ba + k + 1, e.term] ++ [lowB e.kind] ++ e.data.data.toList) = _
  rw [numsB_two, List.append_assoc, List.append_assoc]
  unfold stE
  rw [num1_nb _ _ (by omega) (by omega)]
  simp only [Option.bind_some]
  rw [num1_nb _ _ ht.1 (by omega)]
  simp only [Option.bind_some]
  have hb1 := byt1_app [lowB e.kind] e.data.data.toList
  rw [show (([lowB e.kind] : Bs).length : Int) = 1 from rfl] at hb1
  rw [hb1]
  simp only [Option.bind_some]
  rw [if_pos ⟨by omega, by omega⟩]
  have hkk : (S.ba + (k : Int) + 1 - S.ba - 1).toNat = k := by omega
  have hkn : (((([lowB e.kind] : Bs).headD 0).toNat : Nat) : Int) = e.kind := by
    show ((lowB e.kind).toNat : Int) = _
    rw [lowB_nat]; omega
  rw [hkk, hkn]
theorem ldF_ents (M : List En) : ∀ (S : Hs) (k : Nat), 0 ≤ S.ba ∧ S.ba ≤ 1099511627776 → k ≤ S.L.length → k + M.length ≤ 10000 → (∀ e ∈ M, (0 ≤ e.term ∧ e.term ≤ 1099511627776) ∧ 0 ≤ e.kind ∧ e.kind ≤ 2) →
    ldF S (entsB (S.ba + k) M) = some ⟨S.t, S.vo, S.V, S.sn, S.ba, S.bt, if M = [] then S.L else S.L.take k ++ M⟩ := by
  induction M with
  | nil => intro S k _ _ _ _; rfl
  | cons e r ih =>
    intro S k hb hk hm he
    show (stp S (entB (S.ba + k + 1) e)).bind (fun S' => ldF S' (entsB (S.ba + k + 1) r)) = _
    have h0 := he e (List.mem_cons_self ..)
    rw [stp_ent S k e hb hk (by simp at hm; omega) h0.1 h0.2]
    simp only [Option.bind_some]
    have hlen : (S.L.take k ++ [e]).length = k + 1 := by rw [List.length_append, List.length_take]; simp; omega
    have := ih ⟨S.t, S.vo, S.V, S.sn, S.ba, S.bt, S.L.take k ++ [e]⟩ (k + 1) hb (by show k + 1 ≤ (S.L.take k ++ [e]).length; omega) (by simp at hm; omega) (fun x hx => he x (List.mem_cons_of_mem _ hx))
    rw [show S.ba + (k : Int) + 1 = S.ba + ((k + 1 : Nat) : Int) by omega]
    rw [this]
    have ht : (S.L.take k ++ [e]).take (k + 1) = S.L.take k ++ [e] := List.take_of_length_le (by omega)
    cases r with
    | nil => simp
    | cons x q =>
      rw [if_neg (by simp), if_neg (by simp)]
      show some (Hs.mk _ _ _ _ _ _ ((S.L.take k ++ [e]).take (k + 1) ++ x :: q)) = _
      rw [ht]
      simp
theorem stW_full (H : Hd) (h1 : 0 ≤ H.t ∧ H.t ≤ 1099511627776) (h2 : 0 ≤ H.vo ∧ H.vo ≤ 1099511627776) (h3 : 0 ≤ H.ba ∧ H.ba ≤ 1099511627776) (h4 : 0 ≤ H.bt ∧ H.bt ≤ 1099511627776) (hV : vGood H.V) (hVl : H.V.length ≤ 100000) (hs : H.sn.size ≤ 50000) (S : Hs) :
    stp S (fullB H) = some ⟨H.t, H.vo, H.V, H.sn, H.ba, H.bt, []⟩ := by
  have e : fullB H = 87 :: (nb8 H.t ++ (nb8 H.vo ++ (nb8 H.ba ++ (nb8 H.bt ++ (nb8 (H.V.length : Int) ++ (dataB H.V ++ (nb8 (H.sn.size : Int) ++ (H.sn.data.toList ++ [])))))))) := by
    rw [fullB_eight]; simp
  rw [e]
  show stW _ = _
  unfold stW
  rw [num1_nb _ _ h1.1 (by omega)]
  simp only [Option.bind_some]
  rw [num1_nb _ _ h2.1 (by omega)]
  simp only [Option.bind_some]
  rw [num1_nb _ _ h3.1 (by omega)]
  simp only [Option.bind_some]
  rw [num1_nb _ _ h4.1 (by omega)]
  simp only [Option.bind_some]
  rw [num1_nb _ _ (by omega) (by omega)]
  simp only [Option.bind_some]
  have hd := byt1_app (dataB H.V) (nb8 (H.sn.size : Int) ++ (H.sn.data.toList ++ []))
  rw [show (dataB H.V).length = H.V.length by simp [dataB]] at hd
  rw [hd]
  simp only [Option.bind_some]
  rw [num1_nb _ _ (by omega) (by omega)]
  simp only [Option.bind_some]
  have hsn := byt1_app H.sn.data.toList []
  rw [← size_list] at hsn
  rw [hsn]
  simp only [Option.bind_some]
  rw [if_pos ⟨trivial, lok_data hV, by rw [← size_list]; exact hs⟩, vot_data hV.1, ← ba_of]
/-- A node's state, without where it lies. -/
def Hd.S (H : Hd) : Hs := ⟨H.t, H.vo, H.V, H.sn, H.ba, H.bt, H.L⟩
/-- What may be saved. -/
def Hd.May (X : Hd) : Prop := (0 ≤ X.t ∧ X.t ≤ 1099511627776) ∧ (0 ≤ X.vo ∧ X.vo ≤ 1099511627776) ∧ (0 ≤ X.ba ∧ X.ba ≤ 1099511627776) ∧ (0 ≤ X.bt ∧ X.bt ≤ 1099511627776) ∧ vGood X.V ∧ (∀ e ∈ X.L, (0 ≤ e.term ∧ e.term ≤ 1099511627776) ∧ 0 ≤ e.kind ∧ e.kind ≤ 2)
theorem ldF_whole (X : Hd) (hm : X.May) (ht : X.Tame) : ldF Hs.zero (svW X) = some X.S := by
  obtain ⟨m1, m2, m3, m4, m5, m6⟩ := hm
  obtain ⟨t1, t2, t3, t4⟩ := ht
  show (stp Hs.zero (fullB X)).bind (fun S' => ldF S' (entsB X.ba X.L)) = _
  rw [stW_full X m1 m2 m3 m4 m5 (by omega) (by omega)]
  simp only [Option.bind_some]
  have := ldF_ents X.L ⟨X.t, X.vo, X.V, X.sn, X.ba, X.bt, []⟩ 0 m3 (Nat.le_refl _) (by omega) m6
  rw [show (Hs.mk X.t X.vo X.V X.sn X.ba X.bt []).ba + ((0 : Nat) : Int) = X.ba by simp] at this
  rw [this]
  unfold Hd.S
  congr 2
  split
  · rename_i h; rw [h]
  · rfl
theorem dif_take {α : Type} [DecidableEq α] (T : α → α → Bool) (hT : ∀ a b, T a b = true → a = b) : ∀ (A B : List α), A.take (dif T A B) = B.take (dif T A B)
  | a :: r, b :: s => by
    unfold dif
    split
    · rename_i h
      rw [List.take_succ_cons, List.take_succ_cons, hT a b h, dif_take T hT r s]
    · rfl
  | [], b => by simp [dif]
  | a :: r, [] => by simp [dif]
theorem ldF_part (N X : Hd) (hm : X.May) (ht : X.Tame) (hnb : svB N X = false) : ldF N.S (svP N X) = some X.S := by
  obtain ⟨m1, m2, m3, m4, m5, m6⟩ := hm
  obtain ⟨t1, t2, t3, t4⟩ := ht
  unfold svB at hnb
  obtain ⟨hS, hA⟩ := Bool.or_eq_false_iff.1 hnb
  have hA : alk N X = true := by simpa using hA
  rw [alk_all] at hA
  simp only [Bool.and_eq_true, decide_eq_true_eq] at hA
  obtain ⟨⟨⟨a1, a2⟩, a3⟩, a4⟩ := hA
  have hd := dif_take sameA (fun a b h => of_decide_eq_true h) N.L X.L
  have hle := dif_le sameA N.L X.L
  unfold svP svN
  unfold svS svN at hS
  generalize dif sameA N.L X.L = n at *
  have h1 : ldF N.S (svR N X) = some ⟨X.t, X.vo, N.V, N.sn, N.ba, N.bt, N.L⟩ := by
    unfold svR
    split
    · rename_i h
      show some N.S = _
      unfold Hd.S
      rw [h.1, h.2]
    · show (stp N.S (84 :: numsB [X.t, X.vo])).bind (fun S' => some S') = _
      rw [stp_term _ _ _ m1.1 (by omega) m2.1 (by omega)]
      rfl
  rw [ldF_app, h1]
  simp only [Option.bind_some]
  have h2 := ldF_ents (X.L.drop n) ⟨X.t, X.vo, N.V, N.sn, N.ba, N.bt, N.L⟩ n (by rw [show (Hs.mk X.t X.vo N.V N.sn N.ba N.bt N.L).ba = N.ba from rfl, a1]; exact m3) hle.1 (by rw [List.length_drop]; omega) (fun e he => m6 e (List.mem_of_mem_drop he))
  rw [show (Hs.mk X.t X.vo N.V N.sn N.ba N.bt N.L).ba = X.ba from a1] at h2
  rw [h2]
  unfold Hd.S
  simp only [a2, a3, a4]
  congr 2
  split
  · rename_i h
    have hn : n = X.L.length := by
      have := List.drop_eq_nil_iff.1 h
      omega
    have : ¬ n < N.L.length := by
      intro hlt
      rw [decide_eq_true hn, decide_eq_true hlt] at hS
      cases hS
    rw [List.take_of_length_le (by omega), List.take_of_length_le (by omega)] at hd
    exact hd
  · rw [hd, List.take_append_drop]
end Go.Proofs.Ytopnmiakljpgbaa
