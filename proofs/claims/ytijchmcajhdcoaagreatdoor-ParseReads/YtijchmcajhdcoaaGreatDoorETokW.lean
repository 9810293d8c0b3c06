/-
  Tokens written down, and read again: each token of a text is written as it stood there. No program, no condition.
-/
import Derived.Test.YtijchmcajhdcoaaGreatDoorEToks
import Derived.Test.YtijchmcajhdcoaaGreatDoorERound
namespace Go.Proofs.YtijchmcajhdcoaaGreatDoor
open Go.RowKit

/-- A token as it stands in a text. -/
def st (t : Tk) : Bs := if t.kind = 2 then Lib.itoa t.num else if t.kind = 3 then 39 :: (t.text ++ [39]) else if t.kind = 4 then 35 :: hexTail t.id 16 else t.text

/-- Texts side by side, a blank between each two. -/
def jn : List Bs → Bs
  | [] => []
  | x :: r => x ++ r.flatMap (fun y => 32 :: y)
theorem jn_snoc (xs : List Bs) (y : Bs) (h : 0 < xs.length) : jn (xs ++ [y]) = jn xs ++ 32 :: y := by
  cases xs with
  | nil => simp at h
  | cons x r => simp [jn]
theorem jn_cons (x y : Bs) (r : List Bs) : jn (x :: y :: r) = x ++ 32 :: jn (y :: r) := by simp [jn]
def wr (ts : List Tk) : Bs := jn (ts.map st)

theorem decV_snoc (l : Bs) (c : UInt8) : decV (l ++ [c]) = decV l * 10 + (c.toNat - 48) := by simp [decV]

theorem isDi_iff (c : UInt8) : isDi c = true ↔ 48 ≤ c.toNat ∧ c.toNat ≤ 57 := by simp [isDi]

theorem snoc_ind {P : Bs → Prop} (h0 : P []) (h1 : ∀ l c, P l → P (l ++ [c])) (l : Bs) : P l := by
  have h : ∀ r : Bs, P r.reverse := by
    intro r
    induction r with
    | nil => exact h0
    | cons c r ih => rw [List.reverse_cons]; exact h1 _ _ ih
  have := h l.reverse
  rwa [List.reverse_reverse] at this

theorem decV_lt (l : Bs) : l.all isDi = true → decV l < 10 ^ l.length := by
  refine snoc_ind (P := fun l => l.all isDi = true → decV l < 10 ^ l.length) ?_ ?_ l
  · intro _; simp [decV]
  · intro l c ih h
    simp only [List.all_append, List.all_cons, List.all_nil, Bool.and_true, Bool.and_eq_true] at h
    have := ih h.1
    have hc := (isDi_iff c).1 h.2
    rw [decV_snoc, List.length_append, List.length_singleton, Nat.pow_succ]
    omega

theorem decV_pos (l : Bs) : l.all isDi = true → 0 < l.length → l.head? ≠ some 48 → 0 < decV l := by
  refine snoc_ind (P := fun l => l.all isDi = true → 0 < l.length → l.head? ≠ some 48 → 0 < decV l) ?_ ?_ l
  · intro _ h; simp at h
  · intro l c ih h _ hh
    simp only [List.all_append, List.all_cons, List.all_nil, Bool.and_true, Bool.and_eq_true] at h
    have hc := (isDi_iff c).1 h.2
    rw [decV_snoc]
    cases l with
    | nil =>
      simp only [List.nil_append, List.head?_cons, ne_eq, Option.some.injEq] at hh
      have : c.toNat ≠ 48 := fun q => hh (UInt8.toNat_inj.1 q)
      simp [decV]
      omega
    | cons b l =>
      have := ih h.1 (by simp) (by simpa using hh)
      omega

theorem byte_back (c : UInt8) (n : Nat) (h : n = c.toNat) : UInt8.ofNat n = c := by subst h; simp

theorem dec_back (l : Bs) : l.all isDi = true → 0 < l.length → (l.length = 1 ∨ l.head? ≠ some 48) → Lib.decDigits (decV l) = l := by
  refine snoc_ind (P := fun l => l.all isDi = true → 0 < l.length → (l.length = 1 ∨ l.head? ≠ some 48) → Lib.decDigits (decV l) = l) ?_ ?_ l
  · intro _ h; simp at h
  · intro l c ih h _ hh
    simp only [List.all_append, List.all_cons, List.all_nil, Bool.and_true, Bool.and_eq_true] at h
    have hc := (isDi_iff c).1 h.2
    cases l with
    | nil =>
      have e : decV ([] ++ [c]) = c.toNat - 48 := by simp [decV]
      rw [e, Lib.decDigits, dif_pos (by omega), byte_back c _ (by omega)]
      rfl
    | cons b l =>
      have hh' : (b :: l).head? ≠ some 48 := by
        rcases hh with hh | hh
        · simp at hh
        · simpa using hh
      have h0 := decV_pos (b :: l) h.1 (by simp) hh'
      have hi := ih h.1 (by simp) (.inr hh')
      rw [decV_snoc, Lib.decDigits, dif_neg (by omega)]
      have e1 : (decV (b :: l) * 10 + (c.toNat - 48)) / 10 = decV (b :: l) := by omega
      have e2 : (decV (b :: l) * 10 + (c.toNat - 48)) % 10 = c.toNat - 48 := by omega
      rw [e1, e2, hi, byte_back c _ (by omega)]

theorem itoa_nat (n : Nat) : Lib.itoa (n : Int) = Lib.decDigits n := by
  unfold Lib.itoa
  rw [if_neg (by omega)]
  simp

/-- What may stand behind a token. -/
def Suf (s : Bs) : Prop := s = [] ∨ ∃ m, s = 32 :: m
theorem Suf.spn {s : Bs} (h : Suf s) (p : UInt8 → Bool) (hp : p 32 = false) (x : Bs) (hx : x.all p = true) : spn p (x ++ s) = x.length := by
  rcases h with rfl | ⟨m, rfl⟩
  · rw [List.append_nil]; exact spn_all p x hx
  · rw [spn_app p 32 hp m x]; exact spn_all p x hx

/-- What is told of a token: written down it is read again; its numbers are no greater than they can be. -/
structure Gd (t : Tk) : Prop where
  ok : ∀ s, Suf s → tok1 (st t ++ s) = (t.at 0, (st t).length)
  pos : 0 < (st t).length
  nb : ∀ c, (st t).head? = some c → isBl c = false
  num : 0 ≤ t.num ∧ t.num ≤ 999999999
  id : 0 ≤ t.id ∧ t.id < 18446744073709551616
  txt : t.text.length ≤ (st t).length

theorem Tk.at_at (t : Tk) (p q : Nat) : (t.at p).at q = t.at q := rfl
theorem st_at (t : Tk) (p : Nat) : st (t.at p) = st t := rfl
theorem Gd.at {t : Tk} (h : Gd t) (p : Nat) : Gd (t.at p) := ⟨h.ok, h.pos, h.nb, h.num, h.id, h.txt⟩

theorem isLo_nb (c : UInt8) (h : isLo c = true) : isBl c = false := by
  simp [isLo, isBl] at *; omega
theorem isDi_nb (c : UInt8) (h : isDi c = true) : isBl c = false := by
  simp [isDi, isBl] at *; omega
theorem isLo_nm (c : UInt8) (h : isLo c = true) : isNm c = true := by simp [isNm, h]

theorem tok1_lo (c : UInt8) (r : Bs) (h : isLo c = true) : tok1 (c :: r) = nameT (c :: r) := by simp [tok1, h]
theorem tok1_di (c : UInt8) (r : Bs) (h1 : isLo c = false) (h2 : isDi c = true) : tok1 (c :: r) = numT (c :: r) := by simp [tok1, h1, h2]

theorem take_cons_pos {c : UInt8} {r : Bs} {n : Nat} (h : 0 < n) : ∃ x, (c :: r).take n = c :: x := by
  obtain ⟨k, rfl⟩ : ∃ k, n = k + 1 := ⟨n - 1, by omega⟩
  exact ⟨r.take k, by simp⟩

theorem nameT_ok (c : UInt8) (r : Bs) (h : isLo c = true) (hn : 0 < (nameT (c :: r)).2) : st (nameT (c :: r)).1 = (c :: r).take (nameT (c :: r)).2 ∧ Gd (nameT (c :: r)).1 := by
  unfold nameT at hn ⊢
  split at hn
  · simp at hn
  · rename_i hle
    rw [if_neg hle]
    have hall := spn_take_all isNm (c :: r)
    have hlen : ((c :: r).take (spn isNm (c :: r))).length = spn isNm (c :: r) := by rw [List.length_take]; have := spn_le isNm (c :: r); omega
    obtain ⟨x, hx⟩ := take_cons_pos (c := c) (r := r) hn
    have e : st ⟨1, (c :: r).take (spn isNm (c :: r)), 0, 0, 0⟩ = (c :: r).take (spn isNm (c :: r)) := by simp [st]
    refine ⟨e, ⟨?_, ?_, ?_, by simp, by simp, by rw [e]; exact Nat.le_refl _⟩⟩
    · intro s hs
      have h1 := hs.spn isNm (by decide) _ hall
      rw [e]
      rw [hx] at h1 hlen ⊢
      rw [List.cons_append, tok1_lo _ _ h, nameT, ← List.cons_append, h1, if_neg (by rw [hlen]; exact hle)]
      simp [Tk.at]
    · rw [e, hlen]; exact hn
    · intro d hd
      rw [e, hx] at hd
      simp at hd
      subst hd
      exact isLo_nb _ h

theorem numT_ok (c : UInt8) (r : Bs) (h0 : isLo c = false) (h : isDi c = true) (hn : 0 < (numT (c :: r)).2) : st (numT (c :: r)).1 = (c :: r).take (numT (c :: r)).2 ∧ Gd (numT (c :: r)).1 := by
  unfold numT at hn ⊢
  split at hn
  · simp at hn
  · rename_i hle
    rw [if_neg hle]
    have hall := spn_take_all isDi (c :: r)
    have hlen : ((c :: r).take (spn isDi (c :: r))).length = spn isDi (c :: r) := by rw [List.length_take]; have := spn_le isDi (c :: r); omega
    obtain ⟨x, hx⟩ := take_cons_pos (c := c) (r := r) hn
    have hlt := decV_lt _ hall
    have hb := dec_back _ hall (by rw [hlen]; exact hn) (by
      rw [hx] at hlen ⊢
      rw [hlen]
      simp only [List.head?_cons] at hle ⊢
      by_cases q : spn isDi (c :: r) = 1
      · exact .inl q
      · refine .inr (fun k => hle (.inr ⟨?_, k⟩))
        simp only at hn
        omega)
    have e : st ⟨2, [], (decV ((c :: r).take (spn isDi (c :: r))) : Int), 0, 0⟩ = (c :: r).take (spn isDi (c :: r)) := by
      simp only [st, if_true]
      rw [itoa_nat, hb]
    refine ⟨e, ⟨?_, ?_, ?_, ?_, by simp, by simp⟩⟩
    · intro s hs
      have h1 := hs.spn isDi (by decide) _ hall
      rw [e]
      generalize hX : decV ((c :: r).take (spn isDi (c :: r))) = X at *
      rw [hx] at h1 hlen hX ⊢
      rw [List.cons_append, tok1_di _ _ h0 h, numT, ← List.cons_append, h1, if_neg (by rw [hlen]; simpa using hle), List.take_left, hX]
      simp [Tk.at]
    · rw [e, hlen]; exact hn
    · intro d hd
      rw [e, hx] at hd
      simp at hd
      subst hd
      exact isDi_nb _ h
    · rw [hlen] at hlt
      have : 10 ^ spn isDi (c :: r) ≤ 10 ^ 9 := Nat.pow_le_pow_right (by decide) (by
        simp only [not_or, Nat.not_lt] at hle
        exact hle.1)
      simp only
      omega

theorem tok1_q (r : Bs) : tok1 (39 :: r) = textT (39 :: r) := by
  simp only [tok1]
  rw [if_neg (by decide), if_neg (by decide), if_pos (by decide)]
theorem tok1_h (r : Bs) : tok1 (35 :: r) = hashT (35 :: r) := by
  simp only [tok1]
  rw [if_neg (by decide), if_neg (by decide), if_neg (by decide), if_pos (by decide)]

theorem textT_ok (r : Bs) (hn : 0 < (textT (39 :: r)).2) : st (textT (39 :: r)).1 = (39 :: r).take (textT (39 :: r)).2 ∧ Gd (textT (39 :: r)).1 := by
  unfold textT at hn ⊢
  simp only [List.drop_succ_cons, List.drop_zero] at hn ⊢
  split at hn
  · rename_i hq
    rw [if_pos hq]
    obtain ⟨hlt, hget⟩ := List.getElem?_eq_some_iff.1 hq
    have hall := spn_take_all isTx r
    have hlen : (r.take (spn isTx r)).length = spn isTx r := by rw [List.length_take]; omega
    have e : st ⟨3, r.take (spn isTx r), 0, 0, 0⟩ = 39 :: (r.take (spn isTx r) ++ [39]) := by simp [st]
    have e2 : (39 :: r).take (spn isTx r + 2) = 39 :: (r.take (spn isTx r) ++ [39]) := by
      rw [List.take_succ_cons, List.take_succ_eq_append_getElem hlt, hget]
    refine ⟨by rw [e, e2], ⟨?_, ?_, ?_, by simp, by simp, by rw [e]; simp; omega⟩⟩
    · intro s _
      rw [e]
      generalize hX : r.take (spn isTx r) = X at *
      have hs : spn isTx (X ++ [39] ++ s) = X.length := by
        rw [List.append_assoc, List.singleton_append, spn_app isTx 39 (by decide) s X]
        exact spn_all isTx X hall
      rw [List.cons_append, tok1_q, textT]
      simp only [List.drop_succ_cons, List.drop_zero]
      rw [hs, List.append_assoc, List.getElem?_append_right (Nat.le_refl _), List.take_left]
      simp [Tk.at]
    · rw [e]; simp
    · intro d hd
      rw [e] at hd
      simp at hd
      subst hd
      decide
  · simp at hn

theorem hashT_ok (r : Bs) (hn : 0 < (hashT (35 :: r)).2) : st (hashT (35 :: r)).1 = (35 :: r).take (hashT (35 :: r)).2 ∧ Gd (hashT (35 :: r)).1 := by
  unfold hashT at hn ⊢
  split at hn
  · simp at hn
  rename_i hlen
  rw [if_neg hlen]
  split at hn
  · rename_i hz
    rw [if_pos hz]
    have hp : parOf ⟨(r.take 16).toArray⟩ = ((hash16 (35 :: r)).1, 0) := by
      have : hash16 (35 :: r) = parOf ⟨(r.take 16).toArray⟩ := rfl
      rw [← this]
      exact Prod.ext rfl hz
    obtain ⟨i0, i1, hx⟩ := hex_par _ _ hp
    have hx2 : hexTail (hash16 (35 :: r)).1 16 = r.take 16 := by
      have := congrArg (fun b : ByteArray => b.data.toList) hx
      simpa [hexS] using this
    have e : st ⟨4, [], 0, (hash16 (35 :: r)).1, 0⟩ = 35 :: r.take 16 := by simp [st, hx2]
    have h16 : (r.take 16).length = 16 := by rw [List.length_take]; simp at hlen; omega
    refine ⟨by rw [e]; rfl, ⟨?_, ?_, ?_, by simp, ⟨i0, i1⟩, by simp⟩⟩
    · intro s _
      rw [e]
      generalize hX : r.take 16 = X at *
      have h1 : hash16 (35 :: X ++ s) = hash16 (35 :: r) := by
        unfold hash16
        simp only [List.cons_append, List.drop_succ_cons, List.drop_zero]
        rw [← h16, List.take_left, h16, hX]
      rw [List.cons_append, tok1_h, ← List.cons_append, hashT, if_neg (by simp [h16]), h1, if_pos hz]
      simp [Tk.at, h16]
    · rw [e]; simp
    · intro d hd
      rw [e] at hd
      simp at hd
      subst hd
      decide
  · simp at hn

theorem sign_one (g s : Bs) (hg : g ∈ sgs) : tok1 (g ++ s) = (⟨5, g, 0, 0, 0⟩, g.length) := by
  simp only [sgs, List.mem_cons, List.not_mem_nil, or_false] at hg
  rcases hg with rfl | rfl | rfl | rfl | rfl | rfl | rfl | rfl | rfl | rfl <;>
    simp [tok1, isLo, isDi, signT, signG, sgs, List.isPrefixOf]

theorem signT_ok (l : Bs) (hn : 0 < (signT l).2) : st (signT l).1 = l.take (signT l).2 ∧ Gd (signT l).1 := by
  unfold signT signG at hn ⊢
  split at hn
  · rename_i g hg
    have hm := List.mem_of_find?_eq_some hg
    have hp0 := List.find?_some hg
    have hp := List.isPrefixOf_iff_prefix.1 hp0
    have e : st ⟨5, g, 0, 0, 0⟩ = g := by simp [st]
    refine ⟨?_, ⟨?_, ?_, ?_, by simp, by simp, by rw [e]; exact Nat.le_refl _⟩⟩
    · rw [e]; exact List.prefix_iff_eq_take.1 hp
    · intro s _
      rw [e, sign_one g s hm]
      rfl
    · rw [e]; exact hn
    · intro d hd
      rw [e] at hd
      simp only [sgs, List.mem_cons, List.not_mem_nil, or_false] at hm
      rcases hm with rfl | rfl | rfl | rfl | rfl | rfl | rfl | rfl | rfl | rfl <;> (simp at hd; subst hd; decide)
  · simp at hn

/-- A token is written as it stood. -/
theorem tok1_ok (l : Bs) (hn : 0 < (tok1 l).2) : st (tok1 l).1 = l.take (tok1 l).2 ∧ Gd (tok1 l).1 := by
  cases l with
  | nil => simp [tok1] at hn
  | cons c r =>
    by_cases h1 : isLo c = true
    · rw [tok1_lo c r h1] at hn ⊢
      exact nameT_ok c r h1 hn
    have h1' : isLo c = false := by simpa using h1
    by_cases h2 : isDi c = true
    · rw [tok1_di c r h1' h2] at hn ⊢
      exact numT_ok c r h1' h2 hn
    have h2' : isDi c = false := by simpa using h2
    by_cases h3 : c.toNat = 39
    · obtain rfl : c = 39 := UInt8.toNat_inj.1 h3
      rw [tok1_q] at hn ⊢
      exact textT_ok r hn
    by_cases h4 : c.toNat = 35
    · obtain rfl : c = 35 := UInt8.toNat_inj.1 h4
      rw [tok1_h] at hn ⊢
      exact hashT_ok r hn
    have e : tok1 (c :: r) = signT (c :: r) := by simp [tok1, h1', h2', h3, h4]
    rw [e] at hn ⊢
    exact signT_ok (c :: r) hn

theorem Sc.good {p : Nat} {l : Bs} {ts : List Tk} {e : Option Nat} (h : Sc p l ts e) : ∀ t ∈ ts, Gd t := by
  induction h with
  | done p => simp
  | skip _ _ ih => exact ih
  | bad _ _ => simp
  | @tok p n c r ts e _ hn h0 _ ih =>
    intro t ht
    rcases List.mem_cons.1 ht with rfl | ht
    · exact ((tok1_ok (c :: r) (by omega)).2).at p
    · exact ih t ht

/-- How long what is written is. -/
theorem Sc.long {p : Nat} {l : Bs} {ts : List Tk} {e : Option Nat} (h : Sc p l ts e) : ((ts.map st).map List.length).sum ≤ l.length := by
  induction h with
  | done p => simp
  | skip _ _ ih => simp only [List.length_cons]; omega
  | bad _ _ => simp
  | @tok p n c r ts e _ hn h0 _ ih =>
    have hle := tok1_le (c :: r)
    rw [hn] at hle
    have hs := (tok1_ok (c :: r) (by omega)).1
    rw [hn] at hs
    rw [List.length_drop] at ih
    simp only [List.map_cons, List.sum_cons, st_at, hs, List.length_take]
    omega

theorem jn_long : ∀ xs : List Bs, (jn xs).length ≤ (xs.map List.length).sum + xs.length
  | [] => by simp [jn]
  | [x] => by simp [jn]
  | x :: y :: r => by
    have := jn_long (y :: r)
    rw [jn_cons]
    simp only [List.length_append, List.length_cons, List.map_cons, List.sum_cons] at *
    omega

theorem jn_len (xs : List Bs) (h : 0 < xs.length) : (jn xs).length + 1 = (xs.flatMap (fun y => (32 : UInt8) :: y)).length := by
  cases xs with
  | nil => simp at h
  | cons x r => simp [jn]
theorem jn_take (xs : List Bs) (j : Nat) : (jn (xs.take j)).length ≤ (jn xs).length := by
  rcases Nat.eq_zero_or_pos (xs.take j).length with q | q
  · rw [List.eq_nil_of_length_eq_zero q]; simp [jn]
  · have h1 := jn_len _ q
    have h2 := jn_len xs (by rw [List.length_take] at q; omega)
    have h3 : xs.flatMap (fun y => (32 : UInt8) :: y) = (xs.take j).flatMap (fun y => (32 : UInt8) :: y) ++ (xs.drop j).flatMap (fun y => (32 : UInt8) :: y) := by
      rw [← List.flatMap_append, List.take_append_drop]
    rw [h3, List.length_append] at h2
    omega
theorem wr_take (ts : List Tk) (j : Nat) : (wr (ts.take j)).length ≤ (wr ts).length := by
  unfold wr
  rw [List.map_take]
  exact jn_take _ j
theorem wr_first (ts : List Tk) (t : Tk) (h : ts[0]? = some t) : wr (ts.take 1) = st t := by
  cases ts with
  | nil => simp at h
  | cons u ts => simp at h; subst h; simp [wr, jn]
theorem wr_next (ts : List Tk) (i : Nat) (t : Tk) (h : ts[i]? = some t) (hi : 0 < i) : wr (ts.take (i + 1)) = wr (ts.take i) ++ 32 :: st t := by
  obtain ⟨hlt, rfl⟩ := List.getElem?_eq_some_iff.1 h
  unfold wr
  rw [List.take_succ_eq_append_getElem hlt, List.map_append]
  exact jn_snoc _ _ (by rw [List.length_map, List.length_take]; omega)

/-- The fields but the place. -/
def Tk.z (t : Tk) : Tk := t.at 0

/-- What was written is read again. -/
theorem wr_back : ∀ (ts : List Tk), (∀ t ∈ ts, Gd t) → ∀ p, ∃ us, Sc p (wr ts) us none ∧ us.map Tk.z = ts.map Tk.z
  | [], _, p => ⟨[], .done p, rfl⟩
  | t :: ts, h, p => by
    have g := h t List.mem_cons_self
    obtain ⟨us, k, ku⟩ := wr_back ts (fun u hu => h u (List.mem_cons_of_mem _ hu)) (p + (st t).length + (if ts = [] then 0 else 1))
    obtain ⟨c, x, hx⟩ : ∃ c x, st t = c :: x := by
      have := g.pos
      cases hst : st t with
      | nil => rw [hst] at this; simp at this
      | cons c x => exact ⟨c, x, rfl⟩
    have hnb := g.nb c (by rw [hx]; rfl)
    obtain ⟨s, hs, hw⟩ : ∃ s, Suf s ∧ wr (t :: ts) = st t ++ s ∧ Sc (p + (st t).length) s us none := by
      cases ts with
      | nil =>
        refine ⟨[], .inl rfl, by simp [wr, jn], ?_⟩
        simpa [wr, jn] using k
      | cons u ts =>
        refine ⟨32 :: wr (u :: ts), .inr ⟨_, rfl⟩, by simp only [wr, List.map_cons]; rw [jn_cons], ?_⟩
        exact .skip (by decide) (by simpa using k)
    have ho := g.ok s hs
    refine ⟨t.at p :: us, ?_, by simp only [List.map_cons, ku]; rfl⟩
    rw [hw.1]
    have e1 : t.at p = (tok1 (st t ++ s)).1.at p := by rw [ho]; rfl
    rw [hx, List.cons_append] at e1 ho ⊢
    rw [e1]
    refine .tok hnb (by rw [ho]) (by simp) ?_
    rw [← List.cons_append, List.drop_left, ← hx]
    exact hw.2

theorem st_z (t : Tk) : st t.z = st t := rfl
theorem wr_z (ts us : List Tk) (h : us.map Tk.z = ts.map Tk.z) : wr us = wr ts := by
  have e : ∀ l : List Tk, l.map st = (l.map Tk.z).map st := by
    intro l
    rw [List.map_map]
    rfl
  unfold wr
  rw [e us, e ts, h]

end Go.Proofs.YtijchmcajhdcoaaGreatDoor
