/-
  Trees in memory: a node's fields and the row of its kids, each in blocks of Q. No program, no condition.
-/
import Derived.Test.YtijchmcajhdcoaaGreatDoorJBrk
import Derived.Test.YtijchmcajhdcoaaGreatDoorJApp
namespace Go.Proofs.YtijchmcajhdcoaaGreatDoor
open Go.RowKit

/-- A node as it lies: its fields, and its kids by their address. -/
structure NV where
  op : Int
  text : Bs
  num : Int
  id : Int
  ka : Option Addr
  kl : Nat
  kc : Nat
  pos : Int

/-- The program's nodes and the document's lie alike. -/
def encN : Enc NV := ⟨fun v => [.int .i64 v.op, .string ⟨v.text.toArray⟩, .int .i64 v.num, .int .u64 v.id, .slice v.ka v.kl v.kc, .int .i64 v.pos], 6, fun _ => rfl, by decide, by intro x u h; simp at h; rcases h with rfl | rfl | rfl | rfl | rfl | rfl <;> rfl⟩

/-- These rows lie there, the kids of each in blocks of Q. -/
def FoIn (Q : Nat → Prop) (w : World) : Fo → List NV → Prop
  | .nil, vs => vs = []
  | .cons op text num id kids pos next, vs => ∃ v r, vs = v :: r ∧ (v.op = op ∧ v.text = text ∧ v.num = num ∧ v.id = id ∧ v.pos = pos ∧ v.kl = len kids ∧ v.kl ≤ v.kc) ∧
      (∃ us, RdG encN w v.ka us ∧ (0 < us.length → ∀ a, v.ka = some a → Q a.block) ∧ FoIn Q w kids us) ∧ FoIn Q w next r

/-- This node lies there. -/
structure NdIn (Q : Nat → Prop) (w : World) (v : NV) (n : Nd) : Prop where
  op : v.op = n.op
  text : v.text = n.text
  num : v.num = n.num
  id : v.id = n.id
  pos : v.pos = n.pos
  kl : v.kl = len n.kids
  kc : v.kl ≤ v.kc
  kids : ∃ us, RdG encN w v.ka us ∧ (0 < us.length → ∀ a, v.ka = some a → Q a.block) ∧ FoIn Q w n.kids us

theorem FoIn.len {Q : Nat → Prop} {w : World} : ∀ {f : Fo} {vs : List NV}, FoIn Q w f vs → vs.length = Go.Proofs.YtijchmcajhdcoaaGreatDoor.len f
  | .nil, vs, h => by
    obtain rfl : vs = [] := h
    rfl
  | .cons op text num id kids pos next, vs, h => by
    obtain ⟨v, r, rfl, _, _, h4⟩ := h
    rw [List.length_cons, FoIn.len h4]
    rfl

theorem RdG.turnN {α : Type} {E : Enc α} {S : Nat → Prop} {w w' : World} {ao : Option Addr} {xs : List α} (h : RdG E w ao xs) (ht : Turned S w w') (hS : 0 < xs.length → ∀ a, ao = some a → ¬ S a.block) : RdG E w' ao xs := by
  intro h0
  obtain ⟨b, off, rfl, hlt, hc⟩ := h h0
  refine ⟨b, off, rfl, Nat.lt_of_lt_of_le hlt ht.size, fun i x hx j u hu => ?_⟩
  rw [ht.cell (p := ⟨b, off + (i * E.size + j), none⟩) hlt (hS h0 ⟨b, off, none⟩ rfl)]
  exact hc i x hx j u hu

/-- What is turned elsewhere. -/
theorem FoIn.turned {Q S : Nat → Prop} {w w' : World} (ht : Turned S w w') (hQ : ∀ b, Q b → ¬ S b) : ∀ {f : Fo} {vs : List NV}, FoIn Q w f vs → FoIn Q w' f vs
  | .nil, vs, h => h
  | .cons op text num id kids pos next, vs, h => by
    obtain ⟨v, r, rfl, h2, ⟨us, h3, h4, h5⟩, h6⟩ := h
    exact ⟨v, r, rfl, h2, ⟨us, h3.turnN ht (fun q a e => hQ _ (h4 q a e)), h4, FoIn.turned ht hQ h5⟩, FoIn.turned ht hQ h6⟩
theorem FoIn.below {Q : Nat → Prop} {w w' : World} (hb : Below w.heap.size w w') : ∀ {f : Fo} {vs : List NV}, FoIn Q w f vs → FoIn Q w' f vs
  | .nil, vs, h => h
  | .cons op text num id kids pos next, vs, h => by
    obtain ⟨v, r, rfl, h2, ⟨us, h3, h4, h5⟩, h6⟩ := h
    exact ⟨v, r, rfl, h2, ⟨us, h3.below hb, h4, FoIn.below hb h5⟩, FoIn.below hb h6⟩
theorem FoIn.mono {Q R : Nat → Prop} {w : World} (hQ : ∀ b, Q b → R b) : ∀ {f : Fo} {vs : List NV}, FoIn Q w f vs → FoIn R w f vs
  | .nil, vs, h => h
  | .cons op text num id kids pos next, vs, h => by
    obtain ⟨v, r, rfl, h2, ⟨us, h3, h4, h5⟩, h6⟩ := h
    exact ⟨v, r, rfl, h2, ⟨us, h3, fun q a e => hQ _ (h4 q a e), FoIn.mono hQ h5⟩, FoIn.mono hQ h6⟩

section
variable {Q : Nat → Prop} {w : World}
theorem NdIn.turned {S : Nat → Prop} {w' : World} {v : NV} {n : Nd} (h : NdIn Q w v n) (ht : Turned S w w') (hQ : ∀ b, Q b → ¬ S b) : NdIn Q w' v n := by
  obtain ⟨us, a, b, c⟩ := h.kids
  exact ⟨h.op, h.text, h.num, h.id, h.pos, h.kl, h.kc, us, a.turnN ht (fun q x e => hQ _ (b q x e)), b, c.turned ht hQ⟩
theorem NdIn.below {w' : World} {v : NV} {n : Nd} (h : NdIn Q w v n) (hb : Below w.heap.size w w') : NdIn Q w' v n := by
  obtain ⟨us, a, b, c⟩ := h.kids
  exact ⟨h.op, h.text, h.num, h.id, h.pos, h.kl, h.kc, us, a.below hb, b, c.below hb⟩
theorem NdIn.mono {R : Nat → Prop} {v : NV} {n : Nd} (h : NdIn Q w v n) (hQ : ∀ b, Q b → R b) : NdIn R w v n := by
  obtain ⟨us, a, b, c⟩ := h.kids
  exact ⟨h.op, h.text, h.num, h.id, h.pos, h.kl, h.kc, us, a, fun q x e => hQ _ (b q x e), c.mono hQ⟩

/-- A row of nodes, one by one. -/
inductive NdsIn (Q : Nat → Prop) (w : World) : List NV → List Nd → Prop
  | nil : NdsIn Q w [] []
  | cons {v : NV} {n : Nd} {vs : List NV} {ns : List Nd} : NdIn Q w v n → NdsIn Q w vs ns → NdsIn Q w (v :: vs) (n :: ns)
theorem NdsIn.fo : ∀ {vs : List NV} {ns : List Nd}, NdsIn Q w vs ns → FoIn Q w (foOf ns) vs
  | _, _, .nil => rfl
  | _, _, .cons h k => ⟨_, _, rfl, ⟨h.op, h.text, h.num, h.id, h.pos, h.kl, h.kc⟩, h.kids, k.fo⟩
/-- The trees of a row. -/
def ndL : Fo → List Nd
  | .nil => []
  | .cons op text num id kids pos next => ⟨op, text, num, id, kids, pos⟩ :: ndL next
theorem fo_ndL : ∀ f : Fo, foOf (ndL f) = f
  | .nil => rfl
  | .cons op text num id kids pos next => by
    show Nd.onto ⟨op, text, num, id, kids, pos⟩ (foOf (ndL next)) = _
    rw [fo_ndL next]
    rfl
theorem ndL_fo : ∀ l : List Nd, ndL (foOf l) = l
  | [] => rfl
  | n :: l => by
    show ndL (Nd.onto n (foOf l)) = _
    simp only [Nd.onto, ndL, ndL_fo l]
theorem ndL_len : ∀ f : Fo, (ndL f).length = len f
  | .nil => rfl
  | .cons op text num id kids pos next => by simp only [ndL, List.length_cons, ndL_len next, len]
theorem FoIn.nds : ∀ {f : Fo} {vs : List NV}, FoIn Q w f vs → NdsIn Q w vs (ndL f)
  | .nil, vs, h => by
    obtain rfl : vs = [] := h
    exact .nil
  | .cons op text num id kids pos next, vs, h => by
    obtain ⟨v, r, rfl, ⟨a, b, c, d, e, g, i⟩, k, l⟩ := h
    exact .cons ⟨a, b, c, d, e, g, i, k⟩ l.nds
theorem NdsIn.len : ∀ {vs : List NV} {ns : List Nd}, NdsIn Q w vs ns → vs.length = ns.length
  | _, _, .nil => rfl
  | _, _, .cons _ k => by rw [List.length_cons, List.length_cons, k.len]
theorem NdsIn.snoc : ∀ {vs : List NV} {ns : List Nd}, NdsIn Q w vs ns → ∀ {v : NV} {n : Nd}, NdIn Q w v n → NdsIn Q w (vs ++ [v]) (ns ++ [n])
  | _, _, .nil, _, _, h => .cons h .nil
  | _, _, .cons a k, _, _, h => .cons a (k.snoc h)
theorem NdsIn.app : ∀ {vs : List NV} {ns : List Nd}, NdsIn Q w vs ns → ∀ {us : List NV} {ms : List Nd}, NdsIn Q w us ms → NdsIn Q w (vs ++ us) (ns ++ ms)
  | _, _, .nil, _, _, h => h
  | _, _, .cons a k, _, _, h => .cons a (k.app h)
theorem NdsIn.take : ∀ {vs : List NV} {ns : List Nd}, NdsIn Q w vs ns → ∀ j, NdsIn Q w (vs.take j) (ns.take j)
  | _, _, .nil, j => by rw [List.take_nil, List.take_nil]; exact .nil
  | _, _, .cons a k, 0 => by rw [List.take_zero, List.take_zero]; exact .nil
  | _, _, .cons a k, j + 1 => by rw [List.take_succ_cons, List.take_succ_cons]; exact .cons a (k.take j)
theorem NdsIn.drop : ∀ {vs : List NV} {ns : List Nd}, NdsIn Q w vs ns → ∀ j, NdsIn Q w (vs.drop j) (ns.drop j)
  | _, _, .nil, j => by rw [List.drop_nil, List.drop_nil]; exact .nil
  | _, _, .cons a k, 0 => .cons a k
  | _, _, .cons a k, j + 1 => by rw [List.drop_succ_cons, List.drop_succ_cons]; exact k.drop j
theorem NdsIn.get : ∀ {vs : List NV} {ns : List Nd}, NdsIn Q w vs ns → ∀ {i : Nat} {n : Nd}, ns[i]? = some n → ∃ v, vs[i]? = some v ∧ NdIn Q w v n
  | _, _, .nil, i, n, h => by simp at h
  | _, _, .cons a k, 0, n, h => by
    simp at h
    subst h
    exact ⟨_, by simp, a⟩
  | _, _, .cons a k, i + 1, n, h => by
    simp at h
    obtain ⟨v, e, q⟩ := k.get h
    exact ⟨v, by simpa using e, q⟩
theorem NdsIn.turned {S : Nat → Prop} {w' : World} (ht : Turned S w w') (hQ : ∀ b, Q b → ¬ S b) : ∀ {vs : List NV} {ns : List Nd}, NdsIn Q w vs ns → NdsIn Q w' vs ns
  | _, _, .nil => .nil
  | _, _, .cons a k => .cons (a.turned ht hQ) (k.turned ht hQ)
theorem NdsIn.stays {w' : World} (hb : Below w.heap.size w w') : ∀ {vs : List NV} {ns : List Nd}, NdsIn Q w vs ns → NdsIn Q w' vs ns
  | _, _, .nil => .nil
  | _, _, .cons a k => .cons (a.below hb) (k.stays hb)
theorem NdsIn.mono {R : Nat → Prop} (hQ : ∀ b, Q b → R b) : ∀ {vs : List NV} {ns : List Nd}, NdsIn Q w vs ns → NdsIn R w vs ns
  | _, _, .nil => .nil
  | _, _, .cons a k => .cons (a.mono hQ) (k.mono hQ)

/-- A node's kids. -/
theorem NdIn.rows {v : NV} {n : Nd} (h : NdIn Q w v n) : ∃ us, RdG encN w v.ka us ∧ (0 < us.length → ∀ a, v.ka = some a → Q a.block) ∧ NdsIn Q w us (ndL n.kids) ∧ us.length = v.kl := by
  obtain ⟨us, a, b, c⟩ := h.kids
  exact ⟨us, a, b, c.nds, by rw [c.len, h.kl]⟩
/-- A node made of a row that lies there. -/
theorem NdIn.made {ns : List Nd} {us : List NV} {ka : Option Addr} {kc : Nat} (op : Int) (text : Bs) (num id pos : Int) (h : NdsIn Q w us ns) (hr : RdG encN w ka us) (hQ : 0 < us.length → ∀ a, ka = some a → Q a.block) (hc : us.length ≤ kc) : NdIn Q w ⟨op, text, num, id, ka, us.length, kc, pos⟩ ⟨op, text, num, id, foOf ns, pos⟩ :=
  ⟨rfl, rfl, rfl, rfl, rfl, by rw [len_fo]; exact h.len, hc, us, hr, hQ, h.fo⟩
/-- The cells of a node in a row. -/
theorem RdG.node {b off : Nat} {vs : List NV} (h : RdG encN w (some ⟨b, off, none⟩) vs) {i : Nat} {v : NV} (hx : vs[i]? = some v) :
    w.cell? ⟨b, off + i * 6, none⟩ = some (.int .i64 v.op) ∧ w.cell? ⟨b, off + i * 6 + 1, none⟩ = some (.string ⟨v.text.toArray⟩) ∧ w.cell? ⟨b, off + i * 6 + 2, none⟩ = some (.int .i64 v.num) ∧ w.cell? ⟨b, off + i * 6 + 3, none⟩ = some (.int .u64 v.id) ∧
    w.cell? ⟨b, off + i * 6 + 4, none⟩ = some (.slice v.ka v.kl v.kc) ∧ w.cell? ⟨b, off + i * 6 + 5, none⟩ = some (.int .i64 v.pos) := by
  obtain ⟨b', off', e, hlt, hc⟩ := h (by rcases Nat.lt_or_ge i vs.length with q | q
                                         · omega
                                         · rw [List.getElem?_eq_none q] at hx; cases hx)
  obtain ⟨rfl, rfl⟩ : b = b' ∧ off = off' := by simpa using e
  have h0 := hc i v hx 0 _ rfl
  have h1 := hc i v hx 1 _ rfl
  have h2 := hc i v hx 2 _ rfl
  have h3 := hc i v hx 3 _ rfl
  have h4 := hc i v hx 4 _ rfl
  have h5 := hc i v hx 5 _ rfl
  exact ⟨by simpa [encN] using h0, by simpa [encN, Nat.add_assoc] using h1, by simpa [encN, Nat.add_assoc] using h2, by simpa [encN, Nat.add_assoc] using h3, by simpa [encN, Nat.add_assoc] using h4, by simpa [encN, Nat.add_assoc] using h5⟩
end

end Go.Proofs.YtijchmcajhdcoaaGreatDoor
