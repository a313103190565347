/-
  What is so of any message that comes in, and of what the law's cut leaves.
-/
import Derived.Test.YtljfkjbagebncaaG35
namespace Go.Proofs.Ytljfkjbagebncaa
open Go.RowKit
/-- What is so of the numbers of any message. -/
structure Ms.Num (m : Ms) : Prop where
  id : m.id < 65536
  op : -9223372036854775808 ≤ m.op ∧ m.op ≤ 9223372036854775807
  cd : -9223372036854775808 ≤ m.cd ∧ m.cd ≤ 9223372036854775807
  qs : ∀ q ∈ m.qs, q.Num
  an : ∀ r ∈ m.an, r.Num
  au : ∀ r ∈ m.au, r.Num
  ex : ∀ r ∈ m.ex, r.Num
theorem LimQ.ok {qs : List Qn} (h : LimQ qs) : ∀ q ∈ qs, q.Ok := fun q hq => ⟨by have := (h.q q hq).2; omega, (h.q q hq).1.t, (h.q q hq).1.c⟩
theorem Lim.ok {rs : List Rc} (h : Lim rs) : ∀ r ∈ rs, r.Ok := fun r hr => ⟨by have := (h.r r hr).2.1; omega, by have := (h.r r hr).2.2; omega, (h.r r hr).1.t, (h.r r hr).1.c, (h.r r hr).1.l⟩
theorem lim_mok {id : Nat} {r a t d v : Bool} {op cd : Int} {qs : List Qn} {an au ex : List Rc} (hid : id < 65536) (hop : -9223372036854775808 ≤ op ∧ op ≤ 9223372036854775807) (hcd : -9223372036854775808 ≤ cd ∧ cd ≤ 9223372036854775807)
    (lq : LimQ qs) (lx : Lim an) (ly : Lim au) (lz : Lim ex) : (⟨id, r, a, t, d, v, op, cd, qs, an, au, ex⟩ : Ms).Ok :=
  ⟨hid, hop, hcd, lq.ok, lx.ok, ly.ok, lz.ok, by have := lq.n; show qs.length ≤ _; omega, by have := lx.n; show an.length ≤ _; omega, by have := ly.n; show au.length ≤ _; omega, by have := lz.n; show ex.length ≤ _; omega⟩
theorem Lay.other {w w' : World} {m : Ms} {q x y z : Sl} {g : Nat} {T : TypeId} {cs : Array Value} (h : Lay w m q x y z) (hc : Ce w g T cs) (hn : NoS cs) (hs : w.heap.size ≤ w'.heap.size) (hk : ∀ k, k ≠ g → w'.heap[k]? = w.heap[k]?) : Lay w' m q x y z :=
  ⟨h.q.other hc hn hs hk, h.x.other hc hn hs hk, h.y.other hc hn hs hk, h.z.other hc hn hs hk⟩
end Go.Proofs.Ytljfkjbagebncaa
