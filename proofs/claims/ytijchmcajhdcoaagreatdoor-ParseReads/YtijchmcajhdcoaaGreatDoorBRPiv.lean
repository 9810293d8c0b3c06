/-
  The reference's Parse: its state at the head of a round, and what a step makes of it. No condition.
-/
import Derived.Test.YtijchmcajhdcoaaGreatDoorJCl
import Derived.Test.YtijchmcajhdcoaaGreatDoorJAnz
namespace Go.Proofs.YtijchmcajhdcoaaGreatDoor
open Go.RowKit

/-- Where nodes may lie: above the state's box, and not in the row of what waits. -/
abbrev Qs (mS : Nat) (u : World) (wa : Option Addr) : Nat → Prop := fun g => mS < g ∧ g < u.heap.size ∧ ∀ a, wa = some a → a.block ≠ g

/-- The state as it lies. -/
structure SP (mS m2 : Nat) (w wr : World) (ns : List Nd) (ws : List Wt) (na : Option Addr) (nl nc : Nat) (wa : Option Addr) (wl wk : Nat) : Prop where
  box : Box2 wr mS 58 (.slice na nl nc) (.slice wa wl wk)
  res : Box6 wr m2 34 (.int .i64 0) (.string ⟨#[]⟩) (.int .i64 0) (.int .u64 0) (.slice none 0 0) (.int .i64 0)
  st : St (Qs mS wr wa) (mS + 1) wr na nl nc wa wl wk ns ws
  bel : Below w.heap.size w wr
  ord : m2 < mS ∧ w.heap.size ≤ m2

section
variable {mS m2 : Nat} {w wr u : World} {ns : List Nd} {ws : List Wt} {na : Option Addr} {nl nc : Nat} {wa : Option Addr} {wl wk : Nat}
theorem SP.below (h : SP mS m2 w wr ns ws na nl nc wa wl wk) (hb : Below wr.heap.size wr u) : SP mS m2 w u ns ws na nl nc wa wl wk :=
  ⟨h.box.below hb, h.res.below hb, (h.st.below hb).mono (fun _ q => ⟨q.1, Nat.lt_of_lt_of_le q.2.1 hb.size, q.2.2⟩), h.bel.trans (hb.mono h.bel.size), h.ord⟩
theorem SP.lt (h : SP mS m2 w wr ns ws na nl nc wa wl wk) : mS < wr.heap.size := h.box.lt
/-- Another state is stored. -/
theorem SP.put (h : SP mS m2 w wr ns ws na nl nc wa wl wk) (hb : Below wr.heap.size wr u) {Q : Nat → Prop} {ns' : List Nd} {ws' : List Wt} {na' : Option Addr} {nl' nc' : Nat} {wa' : Option Addr} {wl' wk' : Nat}
    (s : St Q (mS + 1) u na' nl' nc' wa' wl' wk' ns' ws') (hQ : ∀ g, Q g → Qs mS u wa' g) :
    SP mS m2 w ((u.setCell ⟨mS, 0, none⟩ (.slice na' nl' nc')).setCell ⟨mS, 1, none⟩ (.slice wa' wl' wk')) ns' ws' na' nl' nc' wa' wl' wk' := by
  have T : Turned (fun g => g = mS) u ((u.setCell ⟨mS, 0, none⟩ (.slice na' nl' nc')).setCell ⟨mS, 1, none⟩ (.slice wa' wl' wk')) := ((Turned.refl (fun g => g = mS) u).setCell (p := ⟨mS, 0, none⟩) (.inl rfl) _).setCell (p := ⟨mS, 1, none⟩) (.inl rfl) _
  have hs : ((u.setCell ⟨mS, 0, none⟩ (.slice na' nl' nc')).setCell ⟨mS, 1, none⟩ (.slice wa' wl' wk')).heap.size = u.heap.size := by simp [World.size_setCell]
  obtain ⟨o1, o2⟩ := h.ord
  have hb2 : Below w.heap.size w u := h.bel.trans (hb.mono h.bel.size)
  refine ⟨((h.box.below hb).put0 _).put1 _, (h.res.below hb).turned T (by omega), (s.turned T (fun g e e2 => ?_) (fun g q e2 => ?_)).mono (fun g q => ?_), hb2.trans (T.below hb2.size (fun g hg e => by omega)), h.ord⟩
  · have := (s.wts.lt g e).1
    omega
  · have := (hQ g q).1
    omega
  · have := hQ g q
    exact ⟨this.1, by rw [hs]; exact this.2.1, this.2.2⟩
/-- One more waits. -/
theorem SP.wait (h : SP mS m2 w wr ns ws na nl nc wa wl wk) {v : Wt} {u : World} {wa' : Option Addr} {wk' : Nat} (ho : OwnG encW 62 u (mS + 1) (.slice wa' (wl + 1) wk') (ws.reverse ++ [v]))
    (hm : Moved wr (.slice wa wl wk) (.slice wa' (wl + 1) wk')) (ht : Turned (fun k => (Value.slice wa wl wk).ownBlock = some k) wr u) :
    SP mS m2 w (u.setCell ⟨mS, 1, none⟩ (.slice wa' (wl + 1) wk')) ns (v :: ws) na nl nc wa' (wl + 1) wk' := by
  obtain ⟨o1, o2⟩ := h.ord
  have hlt := h.box.lt
  have own : ∀ k, (Value.slice wa wl wk).ownBlock = some k → mS + 1 ≤ k ∧ k < wr.heap.size := fun k e => h.st.wts.lt k e
  have T : Turned (fun g => g = mS) u (u.setCell ⟨mS, 1, none⟩ (.slice wa' (wl + 1) wk')) := (Turned.refl (fun g => g = mS) u).setCell (p := ⟨mS, 1, none⟩) (.inl rfl) _
  have hs : (u.setCell ⟨mS, 1, none⟩ (.slice wa' (wl + 1) wk')).heap.size = u.heap.size := by simp [World.size_setCell]
  have hb2 : Below w.heap.size w u := h.bel.trans (ht.below h.bel.size (fun k hk e => by have := own k e; omega))
  have hfar : ∀ g, Qs mS wr wa g → Qs mS u wa' g := by
    intro g q
    refine ⟨q.1, Nat.lt_of_lt_of_le q.2.1 ht.size, fun a e e2 => ?_⟩
    rcases hm with hm | hm
    · subst e
      cases wa with
      | none => simp [Value.ownBlock] at hm
      | some b =>
        have : a.block = b.block := by simpa [Value.ownBlock] using hm
        exact q.2.2 b rfl (by omega)
    · have := hm a.block (by rw [e]; rfl)
      have := q.2.1
      omega
  obtain ⟨us, h1, h2, h3, h4, h5⟩ := h.st.nds
  have hno : ∀ g, Qs mS wr wa g → ¬ (Value.slice wa wl wk).ownBlock = some g := by
    intro g q e
    cases wa with
    | none => simp [Value.ownBlock] at e
    | some b =>
      have : b.block = g := by simpa [Value.ownBlock] using e
      exact q.2.2 b rfl this
  have st1 : St (Qs mS wr wa) (mS + 1) u na nl nc wa' (wl + 1) wk' ns (v :: ws) := by
    refine ⟨by rw [List.reverse_cons]; exact ho, by rw [List.length_cons, h.st.wl], us, h1.turnN ht (fun q a e => hno _ (h4 q a e)), h2, h3, h4, h5.turned ht hno⟩
  refine ⟨(h.box.turned ht (fun e => by have := own _ e; omega)).put1 _, (h.res.turned ht (fun e => by have := own _ e; omega)).turned T (by omega), (st1.turned T (fun g e e2 => ?_) (fun g q e2 => ?_)).mono (fun g q => ?_), hb2.trans (T.below hb2.size (fun g hg e => by omega)), h.ord⟩
  · have := (ho.lt g e).1
    omega
  · have := q.1
    omega
  · have := hfar g q
    exact ⟨this.1, by rw [hs]; exact this.2.1, this.2.2⟩
/-- Other nodes are stored. -/
theorem SP.nodes (h : SP mS m2 w wr ns ws na nl nc wa wl wk) {u : World} {a9 : Option Addr} {n9 c9 : Nat} {l : List NV} {ns' : List Nd} (j : Gone wr u (.slice a9 n9 c9) l) (hn : NdsIn (Qs mS u wa) u l ns'.reverse) :
    SP mS m2 w (u.setCell ⟨mS, 0, none⟩ (.slice a9 n9 c9)) ns' ws a9 n9 c9 wa wl wk := by
  obtain ⟨o1, o2⟩ := h.ord
  have hlt := h.box.lt
  have T : Turned (fun g => g = mS) u (u.setCell ⟨mS, 0, none⟩ (.slice a9 n9 c9)) := (Turned.refl (fun g => g = mS) u).setCell (p := ⟨mS, 0, none⟩) (.inl rfl) _
  have hs : (u.setCell ⟨mS, 0, none⟩ (.slice a9 n9 c9)).heap.size = u.heap.size := by simp [World.size_setCell]
  have hb2 : Below w.heap.size w u := h.bel.trans (j.bel.mono h.bel.size)
  obtain ⟨a8, c8, e8, hle, _, r8, _⟩ := OwnG.form j.own
  have hl := own_len j.own
  injection e8 with e81 e82 e83
  subst e81 e83
  have st1 : St (Qs mS u wa) (mS + 1) u a9 n9 c9 wa wl wk ns' ws := by
    refine ⟨h.st.wts.below j.bel, h.st.wl, l, r8, hl, by omega, fun h0 a e => ?_, hn⟩
    have h8 := j.own.lt a.block (by rw [e]; rfl)
    refine ⟨by omega, h8.2, fun b e2 e3 => ?_⟩
    have := (h.st.owner b e2).2
    omega
  refine ⟨(h.box.below j.bel).put0 _, (h.res.below j.bel).turned T (by omega), (st1.turned T (fun g e e2 => ?_) (fun g q e2 => ?_)).mono (fun g q => ⟨q.1, by rw [hs]; exact q.2.1, q.2.2⟩), hb2.trans (T.below hb2.size (fun g hg e => by omega)), h.ord⟩
  · have := (st1.wts.lt g e).1
    omega
  · have := q.1
    omega
end

theorem fiveT (w : World) (g : Nat) (x0 x1 x2 x3 x4 : Value) : Turned (fun q => q = g) w (((((w.setCell ⟨g, 0, none⟩ x0).setCell ⟨g, 1, none⟩ x1).setCell ⟨g, 2, none⟩ x2).setCell ⟨g, 3, none⟩ x3).setCell ⟨g, 4, none⟩ x4) :=
  (((((Turned.refl (fun q => q = g) w).setCell (p := ⟨g, 0, none⟩) (.inl rfl) x0).setCell (p := ⟨g, 1, none⟩) (.inl rfl) x1).setCell (p := ⟨g, 2, none⟩) (.inl rfl) x2).setCell (p := ⟨g, 3, none⟩) (.inl rfl) x3).setCell (p := ⟨g, 4, none⟩) (.inl rfl) x4
theorem infoW : (Tryz.prog.info? 62).map (fun i => (i.zero, i.size, i.bytes)) = some (some (.agg #[.int .i64 0, .int .i64 0, .string ⟨#[]⟩, .bool false, .int .i64 0]), 5, 48) := by kernel_rfl
theorem SP.apart {mS m2 : Nat} {w wr : World} {ns : List Nd} {ws : List Wt} {na : Option Addr} {nl nc : Nat} {wa : Option Addr} {wl wk : Nat} (h : SP mS m2 w wr ns ws na nl nc wa wl wk) : ¬ (Value.slice wa wl wk).ownBlock = some mS := by
  intro e
  have := (h.st.wts.lt mS e).1
  omega

/-- What the reference's Parse tells. -/
def Rz (E : Int) (ts : List Tk) (Q : Nat → Prop) (v : NV) (a c : Int) (u : World) : Prop :=
  (∃ p, rn E [] [] true ts = .err p ∧ a = p ∧ c = 31 ∧ v = nv0) ∨ (∃ nd, rn E [] [] true ts = .ok nd ∧ 24 < nd.dep ∧ a = 0 ∧ c = 32 ∧ v = nv0) ∨ (∃ nd, rn E [] [] true ts = .ok nd ∧ nd.dep ≤ 24 ∧ a = 0 ∧ c = 0 ∧ NdIn Q u v nd)

/-- At the head of a round. -/
structure PI (E : Int) (ts : List Tk) (mS m2 : Nat) (w wr : World) (i : Nat) (b : Bool) (ns : List Nd) (ws : List Wt) (na : Option Addr) (nl nc : Nat) (wa : Option Addr) (wl wk : Nat) : Prop where
  sp : SP mS m2 w wr ns ws na nl nc wa wl wk
  eq : rn E ns ws b (ts.drop i) = rn E [] [] true ts
  vk : Vk (ns.length + (if b then 1 else 0)) ws
  len : nl ≤ i ∧ wl ≤ i

theorem vk_nodes {ns : List Nd} {ws : List Wt} (h : Vk ns.length ws) : ∀ v r, (red 1 ns ws).2 = v :: r → v.nodes ≤ (red 1 ns ws).1.length := by
  intro v r e
  have h1 := Vk.red 1 ws ns h
  have h2 := red_top ws ns h.rk
  rw [e] at h1
  rcases h2 with h2 | ⟨v2, r2, h2, h3⟩
  · rw [e] at h2
    cases h2
  · rw [e] at h2
    injection h2 with h4 h5
    subst h4 h5
    unfold Vk at h1
    rw [if_pos h3] at h1
    split at h1
    · omega
    · omega

/-! ### The document's stack, a step of it -/
section
variable {E : Int} {us : List Tk} {i j k : Nat} {ns : List Nd} {ws : List Wt} {A : Ans} {tp ti tn : Int} {tx : Bs} {un ui up : Int}
theorem drop_more {t : Tk} (h : us.drop i = t :: us.drop (i + 1)) (hj : j = i + 1) : us.drop i = t :: us.drop j := by rw [hj]; exact h
theorem hd_lt {q : Tk → Bool} (h : hd q (us.drop k) = true) : k < us.length := by
  rcases Nat.lt_or_ge k us.length with h1 | h1
  · exact h1
  · rw [List.drop_eq_nil_of_le h1] at h
    cases h
theorem want_call0 {nl : Nat} (h : rn E ns ws true (us.drop i) = A) (hd0 : us.drop i = ⟨1, tx, tn, ti, tp⟩ :: us.drop (i + 1)) (hj : j = i + 1 ∧ pk (us.drop j) = ⟨5, [40], un, ui, up⟩) (hk : k = j + 1) (hb : hd (sB [41]) (us.drop k) = false) (hn : ns.length = nl) :
    rn E ns (⟨0, tp, tx, true, nl⟩ :: ws) true (us.drop k) = A := by
  obtain ⟨rfl, hp⟩ := hj
  subst hk
  have hh : hd (sB [40]) (us.drop (i + 1)) = true := by rw [hd_pk (by rfl), hp]; rfl
  rw [hd0, rn_want, if_pos ⟨rfl, hh⟩, List.drop_drop, if_neg (by rw [hb]; simp), hn] at h
  exact h
theorem want_call1 {ns9 : List Nd} {ws9 : List Wt} (h : rn E ns ws true (us.drop i) = A) (hd0 : us.drop i = ⟨1, tx, tn, ti, tp⟩ :: us.drop (i + 1)) (hj : j = i + 1 ∧ pk (us.drop j) = ⟨5, [40], un, ui, up⟩) (hk : k = j + 1) (hb : hd (sB [41]) (us.drop k) = true)
    (hq : ns9 = ⟨5, tx, 0, 0, foOf [], tp⟩ :: ns ∧ ws9 = ws) : rn E ns9 ws9 false (us.drop (k + 1)) = A := by
  obtain ⟨rfl, hp⟩ := hj
  subst hk
  obtain ⟨rfl, rfl⟩ := hq
  have hh : hd (sB [40]) (us.drop (i + 1)) = true := by rw [hd_pk (by rfl), hp]; rfl
  rw [hd0, rn_want, if_pos ⟨rfl, hh⟩, List.drop_drop, if_pos hb, List.drop_drop] at h
  exact h
theorem shut_call {nl : Nat} {ns9 : List Nd} {ws9 : List Wt} (ht : tx ≠ []) (hn : ns.length = nl) (h : shutB ns (⟨0, tp, tx, true, nl⟩ :: ws) = some (ns9, ws9)) : ns9 = ⟨5, tx, 0, 0, foOf [], tp⟩ :: ns ∧ ws9 = ws := by
  subst hn
  simp only [shutB] at h
  rw [if_pos ht, Nat.sub_self] at h
  injection h with h
  injection h with h1 h2
  exact ⟨h1.symm, h2.symm⟩
theorem vk_call {nl : Nat} (h : Vk (ns.length + (if true then 1 else 0)) ws) (hn : ns.length = nl) (ht : tx ≠ []) : Vk (ns.length + (if true then 1 else 0)) (⟨0, tp, tx, true, nl⟩ :: ws) := by
  subst hn
  unfold Vk
  rw [if_pos rfl, if_neg ht]
  exact ⟨Nat.le_refl _, h⟩
end

section
variable {E : Int} {us : List Tk} {i j : Nat} {ns : List Nd} {ws : List Wt} {A : Ans} {tk tp ti tn : Int} {tx : Bs} {nl : Nat}
theorem want_open (h : rn E ns ws true (us.drop i) = A) (hd0 : us.drop i = ⟨5, [40], tn, ti, tp⟩ :: us.drop (i + 1)) (hj : j = i + 1) (hn : ns.length = nl) : rn E ns (⟨0, 0, [], true, nl⟩ :: ws) true (us.drop j) = A := by
  subst hj
  subst hn
  rw [hd0, rn_want, if_neg (by simp), if_neg (by simp), if_pos rfl] at h
  exact h
theorem want_not (h : rn E ns ws true (us.drop i) = A) (hd0 : us.drop i = ⟨5, [33], tn, ti, tp⟩ :: us.drop (i + 1)) (hj : j = i + 1) : rn E ns (⟨11, tp, [], false, 0⟩ :: ws) true (us.drop j) = A := by
  subst hj
  rw [hd0, rn_want, if_neg (by simp), if_neg (by simp), if_neg (by simp), if_pos rfl] at h
  exact h
theorem want_err (hd0 : us.drop i = ⟨5, tx, tn, ti, tp⟩ :: us.drop (i + 1)) (h1 : ¬ tx = [40]) (h2 : ¬ tx = [33]) : rn E ns ws true (us.drop i) = .err tp := by
  rw [hd0, rn_want, if_neg (by simp), if_neg (by simp), if_neg h1, if_neg h2]
theorem have_err (hd0 : us.drop i = ⟨tk, tx, tn, ti, tp⟩ :: us.drop (i + 1)) (h1 : ¬ tk = 5) : rn E ns ws false (us.drop i) = .err tp := by
  rw [hd0, rn_have, if_pos h1]
theorem vk_open (h : Vk (ns.length + (if true then 1 else 0)) ws) (hn : ns.length = nl) : Vk (ns.length + (if true then 1 else 0)) (⟨0, 0, [], true, nl⟩ :: ws) := by
  subst hn
  unfold Vk
  rw [if_pos rfl, if_pos rfl]
  exact ⟨rfl, h⟩
theorem vk_not {x : Nat} (h : Vk x ws) : Vk x (⟨11, tp, [], false, 0⟩ :: ws) := by
  unfold Vk
  rw [if_neg (by simp), if_pos rfl]
  exact h
end

theorem pk_lt {us : List Tk} {j : Nat} {tx : Bs} {tn ti tp : Int} (h : pk (us.drop j) = ⟨5, tx, tn, ti, tp⟩) : j < us.length := by
  rcases Nat.lt_or_ge j us.length with h1 | h1
  · exact h1
  · rw [pk_end h1] at h
    simp [tk0] at h
theorem cells_stay {u u' : World} {cs : List Value} {bx : Nat} (h : ∀ j c, cs[j]? = some c → u.cell? ((⟨bx, 0, none⟩ : Addr).add j) = some c) (hlt : bx < u.heap.size) (hb : Below u.heap.size u u') : ∀ j c, cs[j]? = some c → u'.cell? ((⟨bx, 0, none⟩ : Addr).add j) = some c := by
  intro j c hc
  have := h j c hc
  rw [addr_at] at this ⊢
  exact (hb.cell (p := ⟨bx, j, none⟩) hlt).trans this
theorem cells_turn {S : Nat → Prop} {u u' : World} {cs : List Value} {bx : Nat} (h : ∀ j c, cs[j]? = some c → u.cell? ((⟨bx, 0, none⟩ : Addr).add j) = some c) (hlt : bx < u.heap.size) (ht : Turned S u u') (hS : ¬ S bx) : ∀ j c, cs[j]? = some c → u'.cell? ((⟨bx, 0, none⟩ : Addr).add j) = some c := by
  intro j c hc
  have := h j c hc
  rw [addr_at] at this ⊢
  rw [ht.cell (p := ⟨bx, j, none⟩) hlt hS]
  exact this
theorem enters_leaf : ∀ args w, (callFunc 16 args).run Tryz.prog w = .ok (.enter 16 args) w := enters_of Tryz.func16 (by kernel_rfl) rfl
theorem leaf_rows {mS : Nat} {wr u : World} {wa : Option Addr} {zs : List NV} {ns : List Nd} {t : Tk} {LO : Int} (h : NdsIn (Qs mS wr wa) wr zs ns.reverse) (hL : leafOp t.kind = LO) (hb : Below wr.heap.size wr u) :
    NdsIn (Qs mS u wa) u (zs ++ [⟨LO, t.text, t.num, t.id, none, 0, 0, t.pos⟩]) (leafN t :: ns).reverse := by
  subst hL
  rw [List.reverse_cons]
  exact ((h.stays hb).mono (fun _ q => ⟨q.1, Nat.lt_of_lt_of_le q.2.1 hb.size, q.2.2⟩)).snoc ⟨rfl, rfl, rfl, rfl, rfl, rfl, Nat.le_refl _, [], RdG.nil _ _ _, fun q => by simp at q, rfl⟩
theorem want_leaf {E : Int} {us : List Tk} {i j : Nat} {ns : List Nd} {ws : List Wt} {A : Ans} {tk tp ti tn : Int} {tx : Bs} (h : rn E ns ws true (us.drop i) = A) (hd0 : us.drop i = ⟨tk, tx, tn, ti, tp⟩ :: us.drop (i + 1)) (hj : j = i + 1) (hno : ¬ (tk = 1 ∧ hd (sB [40]) (us.drop j) = true)) (h5 : ¬ tk = 5) :
    rn E (leafN ⟨tk, tx, tn, ti, tp⟩ :: ns) ws false (us.drop j) = A := by
  subst hj
  rw [hd0, rn_want, if_neg hno, if_pos h5] at h
  exact h

/-- A result that lies in a cell, and two that don't. -/
theorem results_cell3 {P : Program} {w : World} {fn : Func} {b t u : Tmp} {ty : TypeId} (h : fn.results = #[.cell b ty, .tmp t, .tmp u]) (tmps : Array Value) (a : Addr) (hb : tmps.getD b undef = .pointer (some a)) {v : Value} (hl : (loadVar ty a).run P w = .ok v w) :
    (results fn tmps).run P w = .ok (.tuple #[v, tmps.getD t undef, tmps.getD u undef]) w := by
  have hb' : tmps[b]?.getD undef = .pointer (some a) := by simpa using hb
  simp [results, h, hb', asAddr, hl, Result.andThen]
theorem load6 {w : World} {b : Nat} {x0 x1 x2 x3 x4 x5 : Value} (h : Box6 w b 34 x0 x1 x2 x3 x4 x5) : (loadVar 34 ⟨b, 0, none⟩).run Tryz.prog w = .ok (.agg #[x0, x1, x2, x3, x4, x5]) w := by
  obtain ⟨c0, c1, c2, c3, c4, c5⟩ := h.cells
  go_simp

end Go.Proofs.YtijchmcajhdcoaaGreatDoor
