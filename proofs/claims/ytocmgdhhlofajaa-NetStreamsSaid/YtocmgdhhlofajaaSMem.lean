/-
  The network beside the four arrays of the law NetStreams.
-/
import Derived.Test.YtocmgdhhlofajaaLawLost
import Derived.Test.YtocmgdhhlofajaaSMath
namespace Go.Proofs.Ytocmgdhhlofajaa
open Go.RowKit
/-- Ten cells. -/
def arrV (f : Nat → Value) : Array Value := ((List.range 10).map f).toArray
theorem arrV_get (f : Nat → Value) {i : Nat} (h : i < 10) : (arrV f)[i]? = some (f i) := by
  unfold arrV
  simp [h]
theorem arrV_set (f : Nat → Value) (q : Nat) (v : Value) : (arrV f).setIfInBounds q v = arrV (put f q v) := by
  unfold arrV put
  apply Array.ext'
  simp only [Array.toList_setIfInBounds]
  apply List.ext_getElem?
  intro i
  rw [List.getElem?_set]
  by_cases h : i < 10
  · by_cases e : q = i
    · subst e
      simp [h]
    · have e' : ¬ i = q := fun x => e x.symm
      simp [h, e, e']
  · by_cases e : q = i
    · subst e
      simp [h]
    · simp [h, e]
def vS (W : Nat → ByteArray) : Nat → Value := fun i => .string (W i)
def vB (O : Nat → Bool) : Nat → Value := fun i => .bool (O i)
def vI (E : Nat → Int) : Nat → Value := fun i => .int .i64 (E i)
theorem vS_put (W : Nat → ByteArray) (q : Nat) (v : ByteArray) : put (vS W) q (.string v) = vS (put W q v) := by
  funext i
  unfold vS put
  split <;> rfl
theorem vB_put (W : Nat → Bool) (q : Nat) (v : Bool) : put (vB W) q (.bool v) = vB (put W q v) := by
  funext i
  unfold vB put
  split <;> rfl
theorem vI_put (W : Nat → Int) (q : Nat) (v : Int) : put (vI W) q (.int .i64 v) = vI (put W q v) := by
  funext i
  unfold vI put
  split <;> rfl
/-- Where the network and the arrays are. -/
structure Pl5 where
  n : Nat
  b : Nat
  W : Nat
  M : Nat
  O : Nat
  E : Nat
structure SJ (L : Pl5) (w0 : World) (W M : Nat → ByteArray) (O : Nat → Bool) (E : Nat → Int) (S : Nat → Prop) (s : St) (w : World) : Prop where
  p : NP L.n S w0 L.b s w
  cW : Ce w L.W 45 (arrV (vS W))
  cM : Ce w L.M 45 (arrV (vS M))
  cO : Ce w L.O 47 (arrV (vB O))
  cE : Ce w L.E 49 (arrV (vI E))
  fW : ¬ S L.W
  fM : ¬ S L.M
  fO : ¬ S L.O
  fE : ¬ S L.E
  nW : L.n ≤ L.W
  hM : L.W < L.M
  hO : L.M < L.O
  hE : L.O < L.E
section
variable {L : Pl5} {w0 : World} {W M : Nat → ByteArray} {O : Nat → Bool} {E : Nat → Int} {S : Nat → Prop} {s s1 : St} {w w' : World}
theorem SJ.step (h : SJ L w0 W M O E S s w) (hl : Pl S L.b s1 w w') : ∃ S1, SJ L w0 W M O E S1 s1 w' ∧ Keeps S S1 w w' := by
  obtain ⟨S1, h1, k, _⟩ := h.p.step hl
  exact ⟨S1, ⟨h1, (k.ce h.cW h.fW).1, (k.ce h.cM h.fM).1, (k.ce h.cO h.fO).1, (k.ce h.cE h.fE).1, (k.ce h.cW h.fW).2, (k.ce h.cM h.fM).2, (k.ce h.cO h.fO).2, (k.ce h.cE h.fE).2, h.nW, h.hM, h.hO, h.hE⟩, k⟩
theorem SJ.mv (h : SJ L w0 W M O E S s w) (hb : Below w.heap.size w w') : SJ L w0 W M O E S s w' :=
  ⟨h.p.mv hb, h.cW.below hb h.cW.lt, h.cM.below hb h.cM.lt, h.cO.below hb h.cO.lt, h.cE.below hb h.cE.lt, h.fW, h.fM, h.fO, h.fE, h.nW, h.hM, h.hO, h.hE⟩
theorem SJ.setW (h : SJ L w0 W M O E S s w) (q : Nat) (v : ByteArray) : SJ L w0 (put W q v) M O E S s (w.setCell ⟨L.W, q, none⟩ (.string v)) := by
  have ht : Tr (· = L.W) w (w.setCell ⟨L.W, q, none⟩ (.string v)) := (Tr.refl (· = L.W) w).setCell (.inl rfl) _
  have := h.nW; have := h.hM; have := h.hO; have := h.hE
  refine ⟨h.p.tr ht (fun k hk e => h.fW (e ▸ hk)) (fun k e => e ▸ h.nW), ?_, h.cM.tr ht (by omega), h.cO.tr ht (by omega), h.cE.tr ht (by omega), h.fW, h.fM, h.fO, h.fE, h.nW, h.hM, h.hO, h.hE⟩
  have := h.cW.set q (.string v)
  rw [arrV_set, vS_put] at this
  exact this
theorem SJ.setM (h : SJ L w0 W M O E S s w) (q : Nat) (v : ByteArray) : SJ L w0 W (put M q v) O E S s (w.setCell ⟨L.M, q, none⟩ (.string v)) := by
  have ht : Tr (· = L.M) w (w.setCell ⟨L.M, q, none⟩ (.string v)) := (Tr.refl (· = L.M) w).setCell (.inl rfl) _
  have := h.nW; have := h.hM; have := h.hO; have := h.hE
  refine ⟨h.p.tr ht (fun k hk e => h.fM (e ▸ hk)) (fun k e => by have : k = L.M := e; omega), h.cW.tr ht (by omega), ?_, h.cO.tr ht (by omega), h.cE.tr ht (by omega), h.fW, h.fM, h.fO, h.fE, h.nW, h.hM, h.hO, h.hE⟩
  have := h.cM.set q (.string v)
  rw [arrV_set, vS_put] at this
  exact this
theorem SJ.setO (h : SJ L w0 W M O E S s w) (q : Nat) (v : Bool) : SJ L w0 W M (put O q v) E S s (w.setCell ⟨L.O, q, none⟩ (.bool v)) := by
  have ht : Tr (· = L.O) w (w.setCell ⟨L.O, q, none⟩ (.bool v)) := (Tr.refl (· = L.O) w).setCell (.inl rfl) _
  have := h.nW; have := h.hM; have := h.hO; have := h.hE
  refine ⟨h.p.tr ht (fun k hk e => h.fO (e ▸ hk)) (fun k e => by have : k = L.O := e; omega), h.cW.tr ht (by omega), h.cM.tr ht (by omega), ?_, h.cE.tr ht (by omega), h.fW, h.fM, h.fO, h.fE, h.nW, h.hM, h.hO, h.hE⟩
  have := h.cO.set q (.bool v)
  rw [arrV_set, vB_put] at this
  exact this
theorem SJ.setE (h : SJ L w0 W M O E S s w) (q : Nat) (v : Int) : SJ L w0 W M O (put E q v) S s (w.setCell ⟨L.E, q, none⟩ (.int .i64 v)) := by
  have ht : Tr (· = L.E) w (w.setCell ⟨L.E, q, none⟩ (.int .i64 v)) := (Tr.refl (· = L.E) w).setCell (.inl rfl) _
  have := h.nW; have := h.hM; have := h.hO; have := h.hE
  refine ⟨h.p.tr ht (fun k hk e => h.fE (e ▸ hk)) (fun k e => by have : k = L.E := e; omega), h.cW.tr ht (by omega), h.cM.tr ht (by omega), h.cO.tr ht (by omega), ?_, h.fW, h.fM, h.fO, h.fE, h.nW, h.hM, h.hO, h.hE⟩
  have := h.cE.set q (.int .i64 v)
  rw [arrV_set, vI_put] at this
  exact this
theorem SJ.atW (h : SJ L w0 W M O E S s w) {i : Nat} (hi : i < 10) : w.cell? ⟨L.W, i, none⟩ = some (.string (W i)) := by rw [h.cW.cell, arrV_get _ hi]; rfl
theorem SJ.atM (h : SJ L w0 W M O E S s w) {i : Nat} (hi : i < 10) : w.cell? ⟨L.M, i, none⟩ = some (.string (M i)) := by rw [h.cM.cell, arrV_get _ hi]; rfl
theorem SJ.atO (h : SJ L w0 W M O E S s w) {i : Nat} (hi : i < 10) : w.cell? ⟨L.O, i, none⟩ = some (.bool (O i)) := by rw [h.cO.cell, arrV_get _ hi]; rfl
theorem SJ.atE (h : SJ L w0 W M O E S s w) {i : Nat} (hi : i < 10) : w.cell? ⟨L.E, i, none⟩ = some (.int .i64 (E i)) := by rw [h.cE.cell, arrV_get _ hi]; rfl
/-- A block beside them all. -/
def Bx (L : Pl5) (S : Nat → Prop) (B : Nat) (cs : Array Value) (T : TypeId) (w : World) : Prop := Ce w B T cs ∧ ¬ S B ∧ L.E < B
theorem Bx.step {S1 : Nat → Prop} {B : Nat} {cs : Array Value} {T : TypeId} (h : Bx L S B cs T w) (k : Keeps S S1 w w') : Bx L S1 B cs T w' := ⟨(k.ce h.1 h.2.1).1, (k.ce h.1 h.2.1).2, h.2.2⟩
theorem Bx.mv {B : Nat} {cs : Array Value} {T : TypeId} (h : Bx L S B cs T w) (hb : Below w.heap.size w w') : Bx L S B cs T w' := ⟨h.1.below hb h.1.lt, h.2.1, h.2.2⟩
theorem Bx.set {B g i : Nat} {v : Value} {cs : Array Value} {T : TypeId} (h : Bx L S B cs T w) (hg : g ≤ L.E) : Bx L S B cs T (w.setCell ⟨g, i, none⟩ v) :=
  ⟨h.1.tr ((Tr.refl (· = g) w).setCell (.inl rfl) _) (by have := h.2.2; omega), h.2⟩
end
end Go.Proofs.Ytocmgdhhlofajaa
