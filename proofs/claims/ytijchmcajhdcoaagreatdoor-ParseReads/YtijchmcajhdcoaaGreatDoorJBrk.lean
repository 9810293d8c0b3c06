import Derived.Test.YtijchmcajhdcoaaGreatDoorJShw
/-!
  Texts side by side; tokens that lie elsewhere, and what may stand behind them: the grammar reads the same tree, but for the places. Brackets, signs between brackets, calls, nots. No program, no condition.
-/
namespace Go.Proofs.YtijchmcajhdcoaaGreatDoor
open Go.RowKit

/-- A token, with what may follow the text. -/
theorem tok1_ext2 (l s : Bs) (h : 0 < (tok1 l).2) (hs : Sp s) : tok1 (l ++ s) = tok1 l := by
  cases l with
  | nil => simp [tok1] at h
  | cons c r =>
    by_cases h1 : isLo c = true
    · rw [List.cons_append, tok1_lo c _ h1, tok1_lo c r h1]
      unfold nameT
      have e := spn_sp isNm (fun _ q => q) hs (c :: r)
      have hle := spn_le isNm (c :: r)
      rw [← List.cons_append, e, List.take_append_of_le_length hle]
    have h1' : isLo c = false := by simpa using h1
    by_cases h2 : isDi c = true
    · rw [List.cons_append, tok1_di c _ h1' h2, tok1_di c r h1' h2]
      unfold numT
      have e := spn_sp isDi (fun _ q => nm_di q) hs (c :: r)
      have hle := spn_le isDi (c :: r)
      rw [← List.cons_append, e, List.take_append_of_le_length hle]
      simp
    have h2' : isDi c = false := by simpa using h2
    by_cases h3 : c.toNat = 39
    · obtain rfl : c = 39 := UInt8.toNat_inj.1 h3
      rw [List.cons_append, tok1_q, tok1_q]
      rw [tok1_q] at h
      unfold textT at h ⊢
      simp only [List.drop_succ_cons, List.drop_zero] at h ⊢
      split at h
      · rename_i hq
        have hlt := (List.getElem?_eq_some_iff.1 hq).1
        have e := spn_short isTx s r hlt
        rw [e, List.getElem?_append_left hlt, List.take_append_of_le_length (by omega)]
      · simp at h
    by_cases h4 : c.toNat = 35
    · obtain rfl : c = 35 := UInt8.toNat_inj.1 h4
      rw [List.cons_append, tok1_h, tok1_h]
      rw [tok1_h] at h
      unfold hashT at h ⊢
      split at h
      · simp at h
      · rename_i hlen
        have hlen' : ¬ (35 :: (r ++ s)).length < 17 := by simp at hlen ⊢; omega
        have e : hash16 (35 :: (r ++ s)) = hash16 (35 :: r) := by
          unfold hash16
          simp only [List.drop_succ_cons, List.drop_zero]
          rw [List.take_append_of_le_length (by simp at hlen; omega)]
        rw [if_neg hlen', e, if_neg hlen]
    have e : tok1 (c :: r) = signT (c :: r) := by simp [tok1, h1', h2', h3, h4]
    rw [e] at h ⊢
    unfold signT signG at h ⊢
    split at h
    · rename_i g hg
      have hm := List.mem_of_find?_eq_some hg
      have hp0 := List.find?_some hg
      obtain ⟨x, hx⟩ := List.isPrefixOf_iff_prefix.1 hp0
      rw [← hx, List.append_assoc]
      exact sign_one g (x ++ s) hm
    · simp at h

/-- Two texts side by side, the second beginning with no letter, digit or underline. -/
theorem Sc.glue {p : Nat} {l : Bs} {ts : List Tk} {e0 : Option Nat} (h : Sc p l ts e0) (h0 : e0 = none) {m : Bs} (hm : Sp m) {us : List Tk} {e : Option Nat} (k : Sc (p + l.length) m us e) : Sc p (l ++ m) (ts ++ us) e := by
  induction h with
  | done p => simpa using k
  | @skip p c r ts e hb _ ih =>
    refine .skip hb (ih h0 ?_)
    have : p + (c :: r).length = p + 1 + r.length := by simp; omega
    rw [this] at k
    exact k
  | bad _ _ => cases h0
  | @tok p n c r ts e hb hn hp _ ih =>
    have hle := tok1_le (c :: r)
    rw [hn] at hle
    have ht := tok1_ext2 (c :: r) m (by omega) hm
    rw [List.cons_append] at ht
    rw [List.cons_append, List.cons_append, ← ht]
    refine .tok hb (by rw [ht]; exact hn) hp ?_
    rw [← List.cons_append, List.drop_append_of_le_length hle]
    refine ih h0 ?_
    have : p + (c :: r).length = p + n + ((c :: r).drop n).length := by rw [List.length_drop]; omega
    rw [this] at k
    exact k
/-- A sign ahead of a text. -/
theorem Sc.sign {p : Nat} {g : Bs} (hg : g ∈ sgs) {m : Bs} {us : List Tk} {e : Option Nat} (k : Sc (p + g.length) m us e) : Sc p (g ++ m) ((sgT g).at p :: us) e := by
  have h1 := sign_one g m hg
  have hp := sgs_pos g hg
  have hb := (gd_sign hg).nb
  cases g with
  | nil => simp at hp
  | cons c x =>
    have hb := hb c rfl
    have e1 : (sgT (c :: x)).at p = (tok1 (c :: x ++ m)).1.at p := by rw [h1]; rfl
    rw [e1]
    rw [List.cons_append] at h1 ⊢
    refine .tok hb (by rw [h1]) hp ?_
    rw [← List.cons_append, List.drop_left]
    exact k

theorem up_z (d : Nat) (ts : List Tk) : (ts.map (Tk.up d)).map Tk.z = ts.map Tk.z := by rw [List.map_map]; rfl

/-! ### Tokens that lie elsewhere -/

theorem z_fields {u v : Tk} (h : u.z = v.z) : u.kind = v.kind ∧ u.text = v.text ∧ u.num = v.num ∧ u.id = v.id := by
  simp only [Tk.z, Tk.at, Tk.mk.injEq] at h
  exact ⟨h.1, h.2.1, h.2.2.1, h.2.2.2.1⟩
theorem sB_z {u v : Tk} (h : u.z = v.z) (s : Bs) : sB s u = sB s v := by
  obtain ⟨a, b, _, _⟩ := z_fields h
  unfold sB; rw [a, b]
theorem kB_z {u v : Tk} (h : u.z = v.z) (k : Int) : kB k u = kB k v := by
  obtain ⟨a, b, _, _⟩ := z_fields h
  unfold kB; rw [a]
theorem sgl_z {u v : Tk} (h : u.z = v.z) : sgl u = sgl v := by
  obtain ⟨a, b, _, _⟩ := z_fields h
  unfold sgl; rw [a, b]
theorem lB_z {u v : Tk} (h : u.z = v.z) (L : Int) : lB L u = lB L v := by unfold lB; rw [sgl_z h]

/-- What may stand behind a tree that is whole. -/
structure Wg (w : List Tk) : Prop where
  l1 : hd (lB 1) w = false
  l2 : hd (lB 2) w = false
  l3 : hd (lB 3) w = false
  up : hd (sB [94]) w = false
  nu : hd (kB 2) w = false
  op : hd (sB [40]) w = false
  no : hd (sB [33]) w = false
theorem Wg.nil : Wg [] := ⟨rfl, rfl, rfl, rfl, rfl, rfl, rfl⟩
theorem Wg.of {u : Tk} {r : List Tk} {s : Bs} (h : u.z = sgT s) (hs : s = [41] ∨ s = [44]) : Wg (u :: r) := by
  have h1 : u.kind = 5 := congrArg Tk.kind h
  have h2 : u.text = s := congrArg Tk.text h
  rcases hs with rfl | rfl
  · exact ⟨hd_lB h 1 (by decide), hd_lB h 2 (by decide), hd_lB h 3 (by decide), by simp [hd, sB, h2], by simp [hd, kB, h1], by simp [hd, sB, h2], by simp [hd, sB, h2]⟩
  · exact ⟨hd_lB h 1 (by decide), hd_lB h 2 (by decide), hd_lB h 3 (by decide), by simp [hd, sB, h2], by simp [hd, kB, h1], by simp [hd, sB, h2], by simp [hd, sB, h2]⟩

theorem hd_far {q : Tk → Bool} (hq : ∀ u v : Tk, u.z = v.z → q u = q v) {l l' : List Tk} (h : l'.map Tk.z = l.map Tk.z) {w : List Tk} (hl : hd q l = false) (hw : hd q w = false) : hd q (l' ++ w) = false := by
  cases l' with
  | nil => simpa using hw
  | cons u l' =>
    cases l with
    | nil => simp at h
    | cons v l =>
      simp only [List.map_cons, List.cons.injEq] at h
      show q u = false
      rw [hq u v h.1]
      exact hl
theorem hd_far2 {q : Tk → Bool} (hq : ∀ u v : Tk, u.z = v.z → q u = q v) {l l' : List Tk} (h : l'.map Tk.z = l.map Tk.z) {w : List Tk} (hl : hd q l = false) (hne : l ≠ []) : hd q (l' ++ w) = false := by
  cases l' with
  | nil => cases l with
    | nil => exact absurd rfl hne
    | cons v l => simp at h
  | cons u l' =>
    cases l with
    | nil => simp at h
    | cons v l =>
      simp only [List.map_cons, List.cons.injEq] at h
      show q u = false
      rw [hq u v h.1]
      exact hl

theorem foOf_e : ∀ {l' l : List Nd}, l'.map Nd.e = l.map Nd.e → (foOf l').e = (foOf l).e
  | [], [], _ => rfl
  | [], _ :: _, h => by simp at h
  | _ :: _, [], h => by simp at h
  | x :: l', y :: l, h => by
    simp only [List.map_cons, List.cons.injEq] at h
    have h2 := foOf_e h.2
    exact e_onto (m := x) (op := y.op) (num := y.num) (id := y.id) (pos := y.pos) (text := y.text) (kids := y.kids) (next := foOf l) h.1 h2

theorem binN_e {u v : Tk} {x x' y y' : Nd} (h : u.z = v.z) (hx : x'.e = x.e) (hy : y'.e = y.e) : (binN u x' y').e = (binN v x y).e := by
  simp only [binN, Nd.e, (z_fields h).2.1, foOf_e (l' := [x', y']) (l := [x, y]) (by simp [hx, hy])]
theorem notN_e {u v : Tk} {x x' : Nd} (hx : x'.e = x.e) : (notN u x').e = (notN v x).e := by
  simp only [notN, Nd.e, foOf_e (l' := [x']) (l := [x]) (by simp [hx])]
theorem upN_e {u v : Tk} {k : Int} {x x' : Nd} (hx : x'.e = x.e) : (upN u k x').e = (upN v k x).e := by
  simp only [upN, Nd.e, foOf_e (l' := [x']) (l := [x]) (by simp [hx])]
theorem callN_e {u v : Tk} {l l' : List Nd} (h : u.z = v.z) (hl : l'.map Nd.e = l.map Nd.e) : (callN u l').e = (callN v l).e := by
  simp only [callN, Nd.e, (z_fields h).2.1, foOf_e hl]
theorem leafN_e {u v : Tk} (h : u.z = v.z) : (leafN u).e = (leafN v).e := by
  obtain ⟨a, b, c, d⟩ := z_fields h
  simp only [leafN, Nd.e, a, b, c, d]

inductive MoZ : Mo → Mo → Prop
  | row (L : Int) : (L = 1 ∨ L = 2) → MoZ (.row L) (.row L)
  | rows (L : Int) {n n' : Nd} : (L = 1 ∨ L = 2) → n'.e = n.e → MoZ (.rows L n) (.rows L n')
  | range : MoZ .range .range
  | unary : MoZ .unary .unary
  | post : MoZ .post .post
  | ups {n n' : Nd} : n'.e = n.e → MoZ (.ups n) (.ups n')
  | atom : MoZ .atom .atom
  | args {t t' : Tk} {ks ks' : List Nd} : t'.z = t.z → ks'.map Nd.e = ks.map Nd.e → MoZ (.args t ks) (.args t' ks')
theorem moz_low {L : Int} (h : L = 1 ∨ L = 2) : MoZ (lowM L) (lowM L) := by
  rcases h with rfl | rfl
  · exact .row 2 (.inr rfl)
  · exact .range

theorem atom_ne {E : Int} {l r : List Tk} {n : Nd} (h : Gm E .atom l (.ok n r)) : l ≠ [] := by cases h <;> simp
theorem unary_ne {E : Int} {l r : List Tk} {n : Nd} (h : Gm E .unary l (.ok n r)) : l ≠ [] := by
  cases h with
  | nots => simp
  | unary _ hp => cases hp with | post ha _ => exact atom_ne ha
theorem row_ne {E : Int} {l r : List Tk} {n : Nd} (h : Gm E (.row 1) l (.ok n r)) : l ≠ [] := by
  cases h with
  | row _ h1 _ =>
    have h1 : Gm E (.row 2) l _ := h1
    cases h1 with
    | row _ h2 _ =>
      have h2 : Gm E .range l _ := h2
      cases h2 with
      | range h3 _ _ => exact unary_ne h3
      | range1 h3 _ => exact unary_ne h3

theorem z_cons {l' : List Tk} {t : Tk} {l : List Tk} (h : l'.map Tk.z = (t :: l).map Tk.z) : ∃ u m, l' = u :: m ∧ u.z = t.z ∧ m.map Tk.z = l.map Tk.z := by
  rw [List.map_cons] at h
  obtain ⟨u, Y, e, h1, h2⟩ := List.map_eq_cons_iff.1 h
  exact ⟨u, Y, e, h1, h2⟩

/-- The same tokens elsewhere, and more behind them. -/
theorem Gm.moved {E : Int} {m : Mo} {l : List Tk} {o : Out} (h : Gm E m l o) (E' : Int) : ∀ n r, o = .ok n r → ∀ m' l', MoZ m m' → l'.map Tk.z = l.map Tk.z → ∃ n' r', n'.e = n.e ∧ r'.map Tk.z = r.map Tk.z ∧ ∀ w, Wg w → Gm E' m' (l' ++ w) (.ok n' (r' ++ w)) := by
  induction h with
  | row hL _ _ ih1 ih2 =>
    intro n r e m' l' hm hl
    cases hm with
    | row _ _ =>
      obtain ⟨n1, r1, a1, b1, c1⟩ := ih1 _ _ rfl _ l' (moz_low hL) hl
      obtain ⟨n2, r2, a2, b2, c2⟩ := ih2 n r e _ r1 (.rows _ hL a1) b1
      exact ⟨n2, r2, a2, b2, fun w hw => .row hL (c1 w hw) (c2 w hw)⟩
  | more ht _ _ ih1 ih2 =>
    intro n r e m' l' hm hl
    cases hm with
    | rows _ hL hn =>
      obtain ⟨u, k, rfl, hu, hk⟩ := z_cons hl
      obtain ⟨n1, r1, a1, b1, c1⟩ := ih1 _ _ rfl _ k (moz_low hL) hk
      obtain ⟨n2, r2, a2, b2, c2⟩ := ih2 n r e _ r1 (.rows _ hL (binN_e hu hn a1)) b1
      exact ⟨n2, r2, a2, b2, fun w hw => .more (by rw [sgl_z hu]; exact ht) (c1 w hw) (c2 w hw)⟩
  | done hh =>
    intro n r e m' l' hm hl
    cases e
    cases hm with
    | rows _ hL hn =>
      refine ⟨_, l', hn, hl, fun w hw => .done (hd_far (fun u v q => lB_z q _) hl hh ?_)⟩
      rcases hL with rfl | rfl
      exact hw.l1
      exact hw.l2
  | range _ ht _ ih1 ih2 =>
    intro n r e m' l' hm hl
    cases e
    cases hm with
    | range =>
      obtain ⟨n1, r1, a1, b1, c1⟩ := ih1 _ _ rfl _ l' .unary hl
      obtain ⟨u, k, rfl, hu, hk⟩ := z_cons b1
      obtain ⟨n2, r2, a2, b2, c2⟩ := ih2 _ _ rfl _ k .unary hk
      exact ⟨_, r2, binN_e hu a1 a2, b2, fun w hw => .range (c1 w hw) (by rw [sgl_z hu]; exact ht) (c2 w hw)⟩
  | range1 _ hh ih =>
    intro n r e m' l' hm hl
    cases e
    cases hm with
    | range =>
      obtain ⟨n1, r1, a1, b1, c1⟩ := ih _ _ rfl _ l' .unary hl
      exact ⟨n1, r1, a1, b1, fun w hw => .range1 (c1 w hw) (hd_far (fun u v q => lB_z q _) b1 hh hw.l3)⟩
  | nots ht _ ih =>
    intro n r e m' l' hm hl
    cases e
    cases hm with
    | unary =>
      obtain ⟨u, k, rfl, hu, hk⟩ := z_cons hl
      obtain ⟨n1, r1, a1, b1, c1⟩ := ih _ _ rfl _ k .unary hk
      exact ⟨_, r1, notN_e a1, b1, fun w hw => .nots (by rw [sB_z hu]; exact ht) (c1 w hw)⟩
  | unary hh _ ih =>
    intro n r e m' l' hm hl
    cases hm with
    | unary =>
      obtain ⟨n1, r1, a1, b1, c1⟩ := ih _ _ e _ l' .post hl
      exact ⟨n1, r1, a1, b1, fun w hw => .unary (hd_far (fun u v q => sB_z q _) hl hh hw.no) (c1 w hw)⟩
  | post _ _ ih1 ih2 =>
    intro n r e m' l' hm hl
    cases hm with
    | post =>
      obtain ⟨n1, r1, a1, b1, c1⟩ := ih1 _ _ rfl _ l' .atom hl
      obtain ⟨n2, r2, a2, b2, c2⟩ := ih2 _ _ e _ r1 (.ups a1) b1
      exact ⟨n2, r2, a2, b2, fun w hw => .post (c1 w hw) (c2 w hw)⟩
  | up ht hh _ ih =>
    intro n r e m' l' hm hl
    cases hm with
    | ups hn =>
      obtain ⟨u, k, rfl, hu, hk⟩ := z_cons hl
      obtain ⟨n1, r1, a1, b1, c1⟩ := ih _ _ e _ k (.ups (upN_e (u := u) hn)) hk
      exact ⟨n1, r1, a1, b1, fun w hw => .up (by rw [sB_z hu]; exact ht) (hd_far (fun u v q => kB_z q _) hk hh hw.nu) (c1 w hw)⟩
  | upK ht h2 h0 _ ih =>
    intro n r e m' l' hm hl
    cases hm with
    | ups hn =>
      obtain ⟨u, k, rfl, hu, hk⟩ := z_cons hl
      obtain ⟨v, k2, rfl, hv, hk2⟩ := z_cons hk
      obtain ⟨f1, f2, f3, f4⟩ := z_fields hv
      obtain ⟨n1, r1, a1, b1, c1⟩ := ih _ _ e _ k2 (.ups (upN_e (u := u) hn)) hk2
      refine ⟨n1, r1, a1, b1, fun w hw => .upK (by rw [sB_z hu]; exact ht) (by rw [f1]; exact h2) (by rw [f3]; exact h0) ?_⟩
      rw [f3]
      exact c1 w hw
  | upped hh =>
    intro n r e m' l' hm hl
    cases e
    cases hm with
    | ups hn => exact ⟨_, l', hn, hl, fun w hw => .upped (hd_far (fun u v q => sB_z q _) hl hh hw.up)⟩
  | leaf h5 hh =>
    intro n r e m' l' hm hl
    cases e
    cases hm with
    | atom =>
      obtain ⟨u, k, rfl, hu, hk⟩ := z_cons hl
      obtain ⟨f1, f2, f3, f4⟩ := z_fields hu
      exact ⟨_, k, leafN_e hu, hk, fun w hw => .leaf (by rw [f1]; exact h5) (fun q => hd_far (fun u v q => sB_z q _) hk (hh (by rw [← f1]; exact q)) hw.op)⟩
  | brac ht _ hu2 ih =>
    intro n r e m' l' hm hl
    cases e
    cases hm with
    | atom =>
      obtain ⟨u, k, rfl, hu, hk⟩ := z_cons hl
      obtain ⟨n1, r1, a1, b1, c1⟩ := ih _ _ rfl _ k (.row 1 (.inl rfl)) hk
      obtain ⟨v, k2, rfl, hv, hk2⟩ := z_cons b1
      exact ⟨n1, k2, a1, hk2, fun w hw => .brac (by rw [sB_z hu]; exact ht) (c1 w hw) (by rw [sB_z hv]; exact hu2)⟩
  | call0 hk1 ht h1 h2 =>
    intro n r e m' l' hm hl
    cases e
    cases hm with
    | atom =>
      obtain ⟨t', k, rfl, ht', hk⟩ := z_cons hl
      obtain ⟨u, k2, rfl, hu, hk2⟩ := z_cons hk
      obtain ⟨v, k3, rfl, hv, hk3⟩ := z_cons hk2
      obtain ⟨f1, f2, f3, f4⟩ := z_fields ht'
      exact ⟨_, k3, callN_e ht' rfl, hk3, fun w hw => .call0 (by rw [f1]; exact hk1) (by rw [f2]; exact ht) (by rw [sB_z hu]; exact h1) (by rw [sB_z hv]; exact h2)⟩
  | call hk1 ht h1 hh hr _ ih1 ih2 =>
    intro n r e m' l' hm hl
    cases hm with
    | atom =>
      obtain ⟨t', k, rfl, ht', hk⟩ := z_cons hl
      obtain ⟨u, k2, rfl, hu, hk2⟩ := z_cons hk
      obtain ⟨f1, f2, f3, f4⟩ := z_fields ht'
      obtain ⟨n1, r1, a1, b1, c1⟩ := ih1 _ _ rfl _ k2 (.row 1 (.inl rfl)) hk2
      obtain ⟨n2, r2, a2, b2, c2⟩ := ih2 _ _ e _ r1 (.args (ks' := [n1]) ht' (by simp [a1])) b1
      exact ⟨n2, r2, a2, b2, fun w hw => .call (by rw [f1]; exact hk1) (by rw [f2]; exact ht) (by rw [sB_z hu]; exact h1) (hd_far2 (fun u v q => sB_z q _) hk2 hh (row_ne hr)) (c1 w hw) (c2 w hw)⟩
  | arg hu1 _ _ ih1 ih2 =>
    intro n r e m' l' hm hl
    cases hm with
    | @args _ t' _ ks' ht' hks =>
      obtain ⟨u, k, rfl, hu, hk⟩ := z_cons hl
      obtain ⟨n1, r1, a1, b1, c1⟩ := ih1 _ _ rfl _ k (.row 1 (.inl rfl)) hk
      obtain ⟨n2, r2, a2, b2, c2⟩ := ih2 _ _ e _ r1 (.args ht' (ks' := ks' ++ [n1]) (by rw [List.map_append, List.map_append, hks]; simp [a1])) b1
      exact ⟨n2, r2, a2, b2, fun w hw => .arg (by rw [sB_z hu]; exact hu1) (c1 w hw) (c2 w hw)⟩
  | close hu1 =>
    intro n r e m' l' hm hl
    cases e
    cases hm with
    | args ht' hks =>
      obtain ⟨u, k, rfl, hu, hk⟩ := z_cons hl
      exact ⟨_, k, callN_e ht' hks, hk, fun w hw => .close (by rw [sB_z hu]; exact hu1)⟩
  | rowE _ _ _ | moreE _ _ _ | rangeE _ _ _ _ _ | rangeF _ _ | notsE _ _ _ | postE _ _ | upE _ _ _ | none | bracE _ _ _ _ | bracF _ _ _ | sign _ _ _ | callE _ _ _ _ _ _ | argE _ _ _ | closeE _ _ => intro n r e; cases e

end Go.Proofs.YtijchmcajhdcoaaGreatDoor

/-!
  Brackets about a text, a sign between two texts in brackets, a call of two texts, nots and brackets about a name: how they are scanned and read. Depths. No program, no condition.
-/
namespace Go.Proofs.YtijchmcajhdcoaaGreatDoor
open Go.RowKit

/-- The depth of the deepest of a row of trees. -/
def dep : Fo → Nat
  | .nil => 0
  | .cons _ _ _ _ kids _ next => max (dep kids + 1) (dep next)
def Nd.dep (n : Nd) : Nat := Go.Proofs.YtijchmcajhdcoaaGreatDoor.dep n.kids + 1
theorem dep_e : ∀ f : Fo, dep f.e = dep f
  | .nil => rfl
  | .cons op text num id kids pos next => by simp only [Fo.e, dep, dep_e kids, dep_e next]
theorem Nd.dep_e (n : Nd) : n.e.dep = n.dep := by
  show Go.Proofs.YtijchmcajhdcoaaGreatDoor.dep n.kids.e + 1 = _
  rw [Go.Proofs.YtijchmcajhdcoaaGreatDoor.dep_e]; rfl
theorem dep_same {n m : Nd} (h : n.e = m.e) : n.dep = m.dep := by rw [← n.dep_e, ← m.dep_e, h]
theorem dep_bin (t : Tk) (x y : Nd) : (binN t x y).dep = max x.dep y.dep + 1 := by
  simp [binN, Nd.dep, foOf, Nd.onto, dep]
theorem dep_not (t : Tk) (x : Nd) : (notN t x).dep = x.dep + 1 := by
  simp [notN, Nd.dep, foOf, Nd.onto, dep]
theorem dep_call2 (t : Tk) (x y : Nd) : (callN t [x, y]).dep = max x.dep y.dep + 1 := by
  simp [callN, Nd.dep, foOf, Nd.onto, dep]

/-- A token ahead of a text. -/
theorem Sc.one {p : Nat} {t : Tk} (g : Gd t) {m : Bs} (hm : Sp m) {us : List Tk} {e : Option Nat} (k : Sc (p + (st t).length) m us e) : Sc p (st t ++ m) (t.at p :: us) e := by
  obtain ⟨c, x, hx⟩ : ∃ c x, st t = c :: x := by
    have := g.pos
    cases hst : st t with
    | nil => rw [hst] at this; simp at this
    | cons c x => exact ⟨c, x, rfl⟩
  have hnb := g.nb c (by rw [hx]; rfl)
  have ho := g.ext hm
  have e1 : t.at p = (tok1 (st t ++ m)).1.at p := by rw [ho]; rfl
  rw [hx, List.cons_append] at e1 ho ⊢
  rw [e1]
  refine .tok hnb (by rw [ho]) (by simp) ?_
  rw [← List.cons_append, List.drop_left, ← hx]
  exact k

/-- A text that is read, anywhere. -/
theorem Gm.away {E : Int} {ts : List Tk} {n : Nd} (h : Gm E (.row 1) ts (.ok n [])) (E' : Int) {ts' : List Tk} (hz : ts'.map Tk.z = ts.map Tk.z) : ∃ n', n'.e = n.e ∧ ∀ w, Wg w → Gm E' (.row 1) (ts' ++ w) (.ok n' w) := by
  obtain ⟨n', r', a, b, c⟩ := h.moved E' n [] rfl _ ts' (.row 1 (.inl rfl)) hz
  obtain rfl : r' = [] := by simpa using b
  exact ⟨n', a, fun w hw => by simpa using c w hw⟩
/-- In brackets it is an atom. -/
theorem Gm.inBr {E : Int} {ts : List Tk} {n : Nd} (h : Gm E (.row 1) ts (.ok n [])) (E' : Int) {ts' : List Tk} (hz : ts'.map Tk.z = ts.map Tk.z) {u v : Tk} (hu : u.z = sgT [40]) (hv : v.z = sgT [41]) : ∃ n', n'.e = n.e ∧ ∀ r, Gm E' .atom ((u :: (ts' ++ [v])) ++ r) (.ok n' r) := by
  obtain ⟨n', a, c⟩ := h.away E' hz
  refine ⟨n', a, fun r => ?_⟩
  have := Gm.brac (z_sB hu) (c (v :: r) (.of hv (.inl rfl))) (z_sB hv)
  simpa using this

theorem sg_z (g : Bs) (p : Nat) : ((sgT g).at p).z = sgT g := rfl

section
variable {E F : Int} {a b : Bs} {ts us : List Tk} {n m : Nd}

theorem brackets (hs : Sc 0 a ts none) (h : Gm E (.row 1) ts (.ok n [])) (E' : Int) : ∃ vs n', Sc 0 ([32, 40, 32] ++ a ++ [32, 41, 32]) vs none ∧ n'.e = n.e ∧ Gm E' (.row 1) vs (.ok n' []) := by
  have h1 := hs.shift 3
  simp only [Nat.zero_add, Option.map_none] at h1
  have h2 : Sc (3 + a.length + 1) [41, 32] [(sgT [41]).at (3 + a.length + 1)] none := Sc.sign (g := [41]) (by decide) (.skip (by decide) (.done _))
  have h3 := h1.join rfl h2
  have h4 : Sc 0 (32 :: ([40] ++ (32 :: (a ++ 32 :: [41, 32])))) _ none := .skip (by decide) (Sc.sign (p := 0 + 1) (g := [40]) (by decide) (.skip (by decide) h3))
  obtain ⟨n', e, k⟩ := h.inBr E' (up_z 3 ts) (sg_z [40] (0 + 1)) (sg_z [41] (3 + a.length + 1))
  refine ⟨_, n', by simpa using h4, e, ?_⟩
  have := low1 E' (low2 E' (low3 E' (low4 E' (low5 E' (fun r _ => k r))))) [] (.ok n' []) ⟨rfl, rfl, rfl⟩ rfl rfl (.done rfl)
  simpa using this

/-- A sign between two atoms. -/
theorem between_atoms {X Y : List Tk} {x y : Nd} (hx : ∀ r, Gm E .atom (X ++ r) (.ok x r)) (hy : ∀ r, Gm E .atom (Y ++ r) (.ok y r)) {u : Tk} {g : Bs} (hu : u.z = sgT g) (hg : opOf g ≠ 0) : Gm E (.row 1) (X ++ u :: Y) (.ok (binN u x y) []) := by
  have hs : sgl u = lvl (opOf g) := by rw [z_sgl hu, if_pos hg]
  have hr : opOf g = 0 ∨ opOf g = 6 ∨ opOf g = 7 ∨ opOf g = 8 ∨ opOf g = 9 ∨ opOf g = 10 := by
    unfold opOf
    repeat (split; simp)
    simp
  have hf : Fw (u :: Y) := fw_of hu (by intro q; subst q; simp [opOf] at hg) (by intro q; subst q; simp [opOf] at hg)
  have f0 : Fw [] := ⟨rfl, rfl, rfl⟩
  have x4 := low4 E (low5 E (fun r _ => hx r))
  have y4 := low4 E (low5 E (fun r _ => hy r))
  rcases hr with q | q
  · exact absurd q hg
  have hl : sgl u = 1 ∨ sgl u = 2 ∨ sgl u = 3 := by
    rw [hs]
    rcases q with q | q | q | q | q <;> rw [q] <;> decide
  rcases hl with k | k | k
  · have h2 := low2 E (low3 E y4) [] (.ok y []) f0 rfl (.done rfl)
    rw [List.append_nil] at h2
    exact low1 E (low2 E (low3 E x4)) (u :: Y) _ hf (by simp [hd, lB, k]) (by simp [hd, lB, k]) (.more k h2 (.done rfl))
  · have h2 := low3 E y4 [] f0 rfl
    rw [List.append_nil] at h2
    exact .row (.inl rfl) (low2 E (low3 E x4) (u :: Y) (.ok (binN u x y) []) hf (by simp [hd, lB, k]) (.more k h2 (.done rfl))) (.done rfl)
  · have h2 := y4 [] f0
    rw [List.append_nil] at h2
    exact .row (.inl rfl) (.row (.inr rfl) (.range (x4 (u :: Y) hf) k h2) (.done rfl)) (.done rfl)

theorem between (hs : Sc 0 a ts none) (h : Gm E (.row 1) ts (.ok n [])) (ks : Sc 0 b us none) (k : Gm F (.row 1) us (.ok m [])) (E' : Int) {g : Bs} (hm : g ∈ sgs) (hg : opOf g ≠ 0) :
    ∃ vs x y, Sc 0 ([40] ++ a ++ [41] ++ g ++ [40] ++ b ++ [41]) vs none ∧ x.e = n.e ∧ y.e = m.e ∧ Gm E' (.row 1) vs (.ok (binN ((sgT g).at (a.length + 2)) x y) []) := by
  have s1 := hs.shift 1
  have s2 := ks.shift (1 + a.length + 1 + g.length + 1)
  simp only [Nat.zero_add, Option.map_none] at s1 s2
  have t1 : Sc (1 + a.length + 1 + g.length + 1 + b.length) [41] [(sgT [41]).at (1 + a.length + 1 + g.length + 1 + b.length)] none := Sc.sign (g := [41]) (by decide) (.done _)
  have t2 := s2.glue rfl (Sp.cons (by decide)) t1
  have t3 := Sc.sign (p := 1 + a.length + 1 + g.length) (g := [40]) (by decide) t2
  have t4 := Sc.sign (p := 1 + a.length + 1) (g := g) hm t3
  have t5 := Sc.sign (p := 1 + a.length) (g := [41]) (by decide) t4
  have t6 := s1.glue rfl (Sp.cons (by decide)) t5
  have t7 := Sc.sign (p := 0) (g := [40]) (by decide) t6
  obtain ⟨x, ex, kx⟩ := h.inBr E' (up_z 1 ts) (sg_z [40] 0) (sg_z [41] (1 + a.length))
  obtain ⟨y, ey, ky⟩ := k.inBr E' (up_z (1 + a.length + 1 + g.length + 1) us) (sg_z [40] (1 + a.length + 1 + g.length)) (sg_z [41] (1 + a.length + 1 + g.length + 1 + b.length))
  refine ⟨_, x, y, by simpa using t7, ex, ey, ?_⟩
  have := between_atoms kx ky (sg_z g (1 + a.length + 1)) hg
  rw [show a.length + 2 = 1 + a.length + 1 by omega]
  simpa using this

theorem gd_f : Gd (nmT [102]) := (tok1_ok [102] (by decide)).2
theorem gd_a : Gd (nmT [97]) := (tok1_ok [97] (by decide)).2

theorem called (hs : Sc 0 a ts none) (h : Gm E (.row 1) ts (.ok n [])) (ks : Sc 0 b us none) (k : Gm F (.row 1) us (.ok m [])) (E' : Int) :
    ∃ vs x y, Sc 0 ([102, 40] ++ a ++ [44] ++ b ++ [41]) vs none ∧ x.e = n.e ∧ y.e = m.e ∧ Gm E' (.row 1) vs (.ok (callN ((nmT [102]).at 0) [x, y]) []) := by
  have s1 := hs.shift 2
  have s2 := ks.shift (2 + a.length + 1)
  simp only [Nat.zero_add, Option.map_none] at s1 s2
  have t1 : Sc (2 + a.length + 1 + b.length) [41] [(sgT [41]).at (2 + a.length + 1 + b.length)] none := Sc.sign (g := [41]) (by decide) (.done _)
  have t2 := s2.glue rfl (Sp.cons (by decide)) t1
  have t3 := Sc.sign (p := 2 + a.length) (g := [44]) (by decide) t2
  have t4 := s1.glue rfl (Sp.cons (by decide)) t3
  have t5 := Sc.sign (p := 0 + 1) (g := [40]) (by decide) t4
  have t6 := Sc.one (p := 0) (t := nmT [102]) gd_f (Sp.cons (by decide)) t5
  obtain ⟨x, ex, kx⟩ := h.away E' (up_z 2 ts)
  obtain ⟨y, ey, ky⟩ := k.away E' (up_z (2 + a.length + 1) us)
  refine ⟨_, x, y, by simpa [st, nmT] using t6, ex, ey, ?_⟩
  have c1 := kx ((sgT [44]).at (2 + a.length) :: (us.map (Tk.up (2 + a.length + 1)) ++ [(sgT [41]).at (2 + a.length + 1 + b.length)])) (.of (sg_z _ _) (.inr rfl))
  have c2 := ky [(sgT [41]).at (2 + a.length + 1 + b.length)] (.of (sg_z _ _) (.inl rfl))
  have c3 : Gm E' .atom _ _ := Gm.call (t := (nmT [102]).at 0) rfl (by simp [nmT, Tk.at]) (z_sB (sg_z [40] (0 + 1))) (no41 c1) c1 (.arg (z_sB (sg_z [44] _)) c2 (.close (z_sB (sg_z [41] _))))
  have := Gm.row (.inl rfl) (Gm.row (L := 2) (.inr rfl) (Gm.range1 (.unary (atom_head c3) (.post c3 (.upped rfl))) rfl) (.done rfl)) (.done rfl)
  exact this
end

/-! ### Nots and brackets -/

theorem sc_rep (g : UInt8) (hg : [g] ∈ sgs) : ∀ (n p : Nat) (m : Bs) (us : List Tk) (e : Option Nat), Sc (p + n) m us e → ∃ vs, Sc p (List.replicate n g ++ m) (vs ++ us) e ∧ vs.map Tk.z = List.replicate n (sgT [g])
  | 0, p, m, us, e, h => ⟨[], by simpa using h, rfl⟩
  | n + 1, p, m, us, e, h => by
    obtain ⟨vs, h1, h2⟩ := sc_rep g hg n (p + 1) m us e (by rw [show p + 1 + n = p + (n + 1) by omega]; exact h)
    refine ⟨(sgT [g]).at p :: vs, ?_, by rw [List.map_cons, h2, List.replicate_succ]; rfl⟩
    rw [List.replicate_succ]
    exact Sc.sign (g := [g]) hg h1

theorem in_brs (E : Int) {t : Tk} (ht : t.kind = 1) : ∀ (k : Nat) (O C r : List Tk), O.map Tk.z = List.replicate k (sgT [40]) → C.map Tk.z = List.replicate k (sgT [41]) → hd (sB [40]) r = false → Gm E .atom (O ++ t :: (C ++ r)) (.ok (leafN t) r)
  | 0, O, C, r, hO, hC, hr => by
    obtain rfl : O = [] := by simpa using hO
    obtain rfl : C = [] := by simpa using hC
    exact .leaf (by rw [ht]; decide) (fun _ => hr)
  | k + 1, O, C, r, hO, hC, hr => by
    rw [List.replicate_succ] at hO
    rw [List.replicate_succ'] at hC
    obtain ⟨u, O', rfl, hu, hO'⟩ := List.map_eq_cons_iff.1 hO
    obtain ⟨C', V, rfl, hC', hV⟩ := List.map_eq_append_iff.1 hC
    obtain ⟨v, V', rfl, hv, hV'⟩ := List.map_eq_cons_iff.1 hV
    obtain rfl : V' = [] := by simpa using hV'
    have h0 : ∀ w, hd (sB [40]) w = false → Gm E .atom ((O' ++ t :: C') ++ w) (.ok (leafN t) w) := fun w hw => by
      have := in_brs E ht k O' C' w hO' hC' hw
      simpa using this
    have h1 := low1 E (low2 E (low3 E (low4 E (low5 E h0)))) (v :: r) (.ok (leafN t) (v :: r)) (fw_of hv (by decide) (by decide)) (hd_lB hv 3 (by decide)) (hd_lB hv 2 (by decide)) (.done (hd_lB hv 1 (by decide)))
    have := Gm.brac (z_sB hu) h1 (z_sB hv)
    simpa using this

theorem nots_of (E : Int) {l r : List Tk} : ∀ (n : Nat) (N : List Tk) (x : Nd), N.map Tk.z = List.replicate n (sgT [33]) → Gm E .unary l (.ok x r) → ∃ y, y.dep = x.dep + n ∧ Gm E .unary (N ++ l) (.ok y r)
  | 0, N, x, hN, h => by
    obtain rfl : N = [] := by simpa using hN
    exact ⟨x, rfl, h⟩
  | n + 1, N, x, hN, h => by
    rw [List.replicate_succ] at hN
    obtain ⟨u, N', rfl, hu, hN'⟩ := List.map_eq_cons_iff.1 hN
    obtain ⟨y, e, k⟩ := nots_of E n N' x hN' h
    exact ⟨notN u y, by rw [dep_not, e]; omega, .nots (z_sB hu) k⟩

theorem deep (E : Int) (n k : Nat) : ∃ us x, Sc 0 (List.replicate n 33 ++ (List.replicate k 40 ++ 97 :: List.replicate k 41)) us none ∧ Gm E (.row 1) us (.ok x []) ∧ x.dep = n + 1 := by
  obtain ⟨C, c1, c2⟩ := sc_rep 41 (by decide) k (0 + n + k + 1) [] [] none (.done _)
  have s1 : Sc (0 + n + k) (97 :: List.replicate k 41) ((nmT [97]).at (0 + n + k) :: C) none := by
    rw [List.append_nil, List.append_nil] at c1
    have hsp : Sp (List.replicate k (41 : UInt8)) := by
      cases k with
      | zero => exact Sp.nil
      | succ k => rw [List.replicate_succ]; exact Sp.cons (by decide)
    exact Sc.one (t := nmT [97]) gd_a hsp c1
  obtain ⟨O, o1, o2⟩ := sc_rep 40 (by decide) k (0 + n) _ _ none s1
  obtain ⟨N, n1, n2⟩ := sc_rep 33 (by decide) n 0 _ _ none o1
  have h0 : Gm E .atom (O ++ (nmT [97]).at (0 + n + k) :: C) (.ok (leafN ((nmT [97]).at (0 + n + k))) []) := by
    have := in_brs E (t := (nmT [97]).at (0 + n + k)) rfl k O C [] o2 c2 rfl
    rwa [List.append_nil] at this
  obtain ⟨y, e, h1⟩ := nots_of E n N _ n2 (.unary (atom_head h0) (.post h0 (.upped rfl)))
  refine ⟨_, y, n1, ?_, by rw [e]; simp [leafN, Nd.dep, dep]; omega⟩
  exact .row (.inl rfl) (.row (L := 2) (.inr rfl) (.range1 h1 rfl) (.done rfl)) (.done rfl)

end Go.Proofs.YtijchmcajhdcoaaGreatDoor
