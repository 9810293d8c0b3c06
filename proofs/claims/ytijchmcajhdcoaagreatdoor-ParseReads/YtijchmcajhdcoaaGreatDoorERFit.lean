/-
  What the reference's Scan holds of the token that it is at, in memory, and what that says of the text. No program, no condition.
-/
import Derived.Test.YtijchmcajhdcoaaGreatDoorELScn
namespace Go.Proofs.YtijchmcajhdcoaaGreatDoor
open Go.RowKit

/-- What the reference's token and its end say of the text from a place on. -/
def Fit (l : Bs) (p : Nat) (k : Int) (x : ByteArray) (m i : Int) (n : Nat) : Prop :=
  (k = 0 ∧ (tok1 (l.drop p)).2 = 0) ∨ (k ≠ 0 ∧ tok1 (l.drop p) = (⟨k, x.data.toList, m, i, 0⟩, n) ∧ 0 < n)

/-- The token in its block, behind whatever was done. -/
structure Tb (wr : World) (p : Nat) (k : Int) (x : ByteArray) (m i : Int) (u : World) : Prop where
  box : Box5 u wr.heap.size 60 (.int .i64 k) (.string x) (.int .i64 m) (.int .u64 i) (.int .i64 p)
  bel : Below wr.heap.size wr u
theorem Tb.new (wr : World) (p : Nat) : Tb wr p 0 ⟨#[]⟩ 0 0 (wr.alloc (.cells #[.int .i64 0, .string ⟨#[]⟩, .int .i64 0, .int .u64 0, .int .i64 (p : Int)] 60)) :=
  ⟨Box5.new _ _ _ _ _ _ _, (Below.refl _ wr).alloc (Nat.le_refl _) _⟩
section
variable {wr u u' : World} {p : Nat} {k m i : Int} {x : ByteArray}
theorem Tb.below (h : Tb wr p k x m i u) (hb : Below u.heap.size u u') : Tb wr p k x m i u' := ⟨h.box.below hb, h.bel.trans (hb.mono h.bel.size)⟩
theorem Tb.kind (h : Tb wr p k x m i u) (k' : Int) : Tb wr p k' x m i (u.setCell ⟨wr.heap.size, 0, none⟩ (.int .i64 k')) := ⟨h.box.put0 _, h.bel.setCell (p := ⟨wr.heap.size, 0, none⟩) (Nat.le_refl _) _⟩
theorem Tb.text (h : Tb wr p k x m i u) (x' : ByteArray) : Tb wr p k x' m i (u.setCell ⟨wr.heap.size, 1, none⟩ (.string x')) := ⟨h.box.put1 _, h.bel.setCell (p := ⟨wr.heap.size, 1, none⟩) (Nat.le_refl _) _⟩
theorem Tb.num (h : Tb wr p k x m i u) (m' : Int) : Tb wr p k x m' i (u.setCell ⟨wr.heap.size, 2, none⟩ (.int .i64 m')) := ⟨h.box.put2 _, h.bel.setCell (p := ⟨wr.heap.size, 2, none⟩) (Nat.le_refl _) _⟩
theorem Tb.id (h : Tb wr p k x m i u) (i' : Int) : Tb wr p k x m i' (u.setCell ⟨wr.heap.size, 3, none⟩ (.int .u64 i')) := ⟨h.box.put3 _, h.bel.setCell (p := ⟨wr.heap.size, 3, none⟩) (Nat.le_refl _) _⟩
end

theorem ext_mid (s : ByteArray) (i j : Nat) : (s.extract i j).data.toList = (s.data.toList.drop i).take (j - i) := by
  have := ByteArray.extract_mk s.data.toList i j
  have e : s.extract i j = ⟨((s.data.toList.drop i).take (j - i)).toArray⟩ := by simpa using this
  rw [e]

theorem tok1_at {l : Bs} {p : Nat} {c : UInt8} (h : l[p]? = some c) : tok1 (l.drop p) = if isLo c then nameT (l.drop p) else if isDi c then numT (l.drop p) else if c.toNat = 39 then textT (l.drop p) else if c.toNat = 35 then hashT (l.drop p) else signT (l.drop p) := by
  rw [drop_at h]
  rfl

/-- A step of a loop over bytes of a kind, from a place on. -/
theorem span_go {q : UInt8 → Bool} {l : Bs} {p e : Nat} {d : UInt8} (hp : p ≤ e) (h : e - p ≤ spn q (l.drop p)) (hd : l[e]? = some d) : (q d = true → e + 1 - p ≤ spn q (l.drop p)) ∧ (q d = false → e = p + spn q (l.drop p)) := by
  have hg : (l.drop p)[e - p]? = some d := by rw [List.getElem?_drop, show p + (e - p) = e by omega]; exact hd
  have := spn_step q (l.drop p) (e - p) h d hg
  exact ⟨fun k => by have := this.1 k; omega, fun k => by have := this.2 k; omega⟩
theorem span_out {q : UInt8 → Bool} {l : Bs} {p e : Nat} (hp : p ≤ e) (h : e - p ≤ spn q (l.drop p)) (he : e = l.length) : e = p + spn q (l.drop p) := by
  have := spn_end q (l.drop p) (e - p) h (by rw [List.length_drop]; omega)
  omega


theorem head_drop {l : Bs} {p : Nat} {c : UInt8} (h : l[p]? = some c) : (l.drop p).head? = some c := by rw [drop_at h]; rfl

theorem spn_pos {q : UInt8 → Bool} {l : Bs} {p : Nat} {c : UInt8} (h : l[p]? = some c) (hq : q c = true) : 0 < spn q (l.drop p) := by
  rw [drop_at h, spn_cons, if_pos hq]
  omega

theorem fit_name {s : ByteArray} {p e : Nat} {c : UInt8} (hc : s.data.toList[p]? = some c) (h1 : isLo c = true) (ht : tok1 (s.data.toList.drop p) = nameT (s.data.toList.drop p)) (he : e = p + spn isNm (s.data.toList.drop p)) (h16 : e ≤ p + 16) :
    Fit s.data.toList p 1 (s.extract p e) 0 0 (e - p) := by
  have h0 := spn_pos (q := isNm) hc (isLo_nm c h1)
  refine .inr ⟨by decide, ?_, by omega⟩
  have e1 : spn isNm (s.data.toList.drop p) = e - p := by omega
  rw [ht, nameT, e1, if_neg (by omega), ext_mid]
theorem fit_name_no {l : Bs} {p e : Nat} {x : ByteArray} {m i : Int} {n : Nat} (ht : tok1 (l.drop p) = nameT (l.drop p)) (he : e = p + spn isNm (l.drop p)) (h16 : ¬ e ≤ p + 16) : Fit l p 0 x m i n := by
  refine .inl ⟨rfl, ?_⟩
  rw [ht, nameT, if_pos (by omega)]

/-- The number of the first digits, of nine at most. -/
def numAt (l : Bs) (j : Nat) : Nat := decV (l.take (min j 9))
theorem numAt_step {l : Bs} {j : Nat} {d : UInt8} (hj : j < 9) (hd : l[j]? = some d) : numAt l (j + 1) = numAt l j * 10 + (d.toNat - 48) := by
  obtain ⟨hlt, rfl⟩ := List.getElem?_eq_some_iff.1 hd
  unfold numAt
  rw [show min (j + 1) 9 = j + 1 by omega, show min j 9 = j by omega, List.take_succ_eq_append_getElem hlt, decV_snoc]
theorem numAt_stay {l : Bs} {j : Nat} (hj : ¬ j < 9) : numAt l (j + 1) = numAt l j := by
  unfold numAt
  rw [show min (j + 1) 9 = 9 by omega, show min j 9 = 9 by omega]
theorem numAt_lt {l : Bs} {j : Nat} (h : j ≤ spn isDi l) : numAt l j ≤ 999999999 := by
  have hall := spn_take_all isDi l
  have h2 : (l.take (min j 9)).all isDi = true := by
    rw [List.all_eq_true] at hall ⊢
    intro x hx
    exact hall x (List.mem_of_mem_take (by rw [List.take_take, show min (min j 9) (spn isDi l) = min j 9 by omega]; exact hx))
  have := decV_lt _ h2
  have h3 : (l.take (min j 9)).length ≤ 9 := by rw [List.length_take]; omega
  have h4 : 10 ^ (l.take (min j 9)).length ≤ 10 ^ 9 := Nat.pow_le_pow_right (by decide) h3
  unfold numAt
  omega

theorem fit_num {l : Bs} {p e : Nat} {c : UInt8} {m : Int} {x : ByteArray} (hx : x = ⟨#[]⟩) (hc : l[p]? = some c) (h1 : isDi c = true) (ht : tok1 (l.drop p) = numT (l.drop p)) (he : e = p + spn isDi (l.drop p)) (hm : m = numAt (l.drop p) (e - p)) (h9 : e ≤ p + 9) (h48 : c.toNat ≠ 48 ∨ e = p + 1) :
    Fit l p 2 x m 0 (e - p) := by
  subst hx
  have h0 := spn_pos (q := isDi) hc h1
  refine .inr ⟨by decide, ?_, by omega⟩
  have e1 : spn isDi (l.drop p) = e - p := by omega
  rw [ht, numT, e1, if_neg, hm, numAt, show min (e - p) 9 = e - p by omega]
  rintro (q | ⟨q, r⟩)
  · omega
  · rw [head_drop hc] at r
    have : c = 48 := Option.some.inj r
    subst this
    rcases h48 with q2 | q2
    · exact q2 rfl
    · omega
theorem fit_num_no {l : Bs} {p e : Nat} {c : UInt8} {x : ByteArray} {m i : Int} {n : Nat} (hc : l[p]? = some c) (ht : tok1 (l.drop p) = numT (l.drop p)) (he : e = p + spn isDi (l.drop p)) (h : ¬ e ≤ p + 9 ∨ (c.toNat = 48 ∧ ¬ e = p + 1 ∧ isDi c = true)) : Fit l p 0 x m i n := by
  refine .inl ⟨rfl, ?_⟩
  rw [ht, numT, if_pos]
  rcases h with h | ⟨h, k, hd⟩
  · exact .inl (by omega)
  · have h0 := spn_pos (q := isDi) hc hd
    refine .inr ⟨by omega, ?_⟩
    rw [head_drop hc, UInt8.toNat_inj.1 (show c.toNat = (48 : UInt8).toNat from h)]

theorem fit_text {s : ByteArray} {p e : Nat} (ht : tok1 (s.data.toList.drop p) = textT (s.data.toList.drop p)) (he : e = p + 1 + spn isTx (s.data.toList.drop (p + 1))) (h39 : s.data.toList[e]? = some 39) :
    Fit s.data.toList p 3 (s.extract (p + 1) e) 0 0 (e + 1 - p) := by
  refine .inr ⟨by decide, ?_, by omega⟩
  have e1 : spn isTx (s.data.toList.drop (p + 1)) = e - (p + 1) := by omega
  rw [ht, textT, List.drop_drop, e1, List.getElem?_drop, show p + 1 + (e - (p + 1)) = e by omega, if_pos h39, ext_mid, show e - (p + 1) + 2 = e + 1 - p by omega]
theorem fit_text_no {l : Bs} {p e : Nat} {x : ByteArray} {m i : Int} {n : Nat} (ht : tok1 (l.drop p) = textT (l.drop p)) (he : e = p + 1 + spn isTx (l.drop (p + 1))) (h39 : l[e]? ≠ some 39) : Fit l p 0 x m i n := by
  refine .inl ⟨rfl, ?_⟩
  have e1 : spn isTx (l.drop (p + 1)) = e - (p + 1) := by omega
  rw [ht, textT, List.drop_drop, e1, List.getElem?_drop, show p + 1 + (e - (p + 1)) = e by omega, if_neg h39]

theorem hash_mid (s : ByteArray) (p : Nat) : parOf (s.extract (p + 1) (p + 17)) = hash16 (s.data.toList.drop p) := by
  unfold hash16
  have := ByteArray.extract_mk s.data.toList (p + 1) (p + 17)
  have e : s.extract (p + 1) (p + 17) = ⟨((s.data.toList.drop (p + 1)).take 16).toArray⟩ := by
    rw [show p + 17 - (p + 1) = 16 by omega] at this
    simpa using this
  rw [e, List.drop_drop]
theorem fit_hash {l : Bs} {p : Nat} {i : Int} {x : ByteArray} (hx : x = ⟨#[]⟩) (ht : tok1 (l.drop p) = hashT (l.drop p)) (hl : p + 17 ≤ l.length) (h : hash16 (l.drop p) = (i, 0)) : Fit l p 4 x 0 i 17 := by
  subst hx
  refine .inr ⟨by decide, ?_, by omega⟩
  rw [ht, hashT, if_neg (by rw [List.length_drop]; omega), h, if_pos rfl]
theorem fit_hash_no {l : Bs} {p : Nat} {x : ByteArray} {m i : Int} {n : Nat} (ht : tok1 (l.drop p) = hashT (l.drop p)) (h : l.length < p + 17 ∨ (hash16 (l.drop p)).2 ≠ 0) : Fit l p 0 x m i n := by
  refine .inl ⟨rfl, ?_⟩
  rw [ht, hashT]
  rcases h with h | h
  · rcases Nat.lt_or_ge p l.length with q | q
    · rw [if_pos (by rw [List.length_drop]; omega)]
    · rw [if_pos (by rw [List.length_drop]; omega)]
  · split <;> rfl

/-- What the loop over the signs has found so far. -/
def SgSo (l : Bs) (p j : Nat) (k : Int) (x : ByteArray) (e : Nat) : Prop :=
  (k = 0 ∧ x = ⟨#[]⟩ ∧ e = p ∧ ∀ i, i < j → (sgAt i).isPrefixOf (l.drop p) = false) ∨ (∃ i, i < j ∧ i < 10 ∧ (sgAt i).isPrefixOf (l.drop p) = true ∧ k = 5 ∧ x.data.toList = sgAt i ∧ e = p + (sgAt i).length)
theorem sg_apart : ∀ i, i < 10 → ∀ j, j < 10 → (sgAt i).isPrefixOf (sgAt j) = true → i = j := by decide
theorem sg_one {l : Bs} {i j : Nat} (hi : i < 10) (hj : j < 10) (h1 : (sgAt i).isPrefixOf l = true) (h2 : (sgAt j).isPrefixOf l = true) : i = j := by
  rw [List.isPrefixOf_iff_prefix] at h1 h2
  rcases Nat.le_total (sgAt i).length (sgAt j).length with q | q
  · exact sg_apart i hi j hj (List.isPrefixOf_iff_prefix.2 (List.prefix_of_prefix_length_le h1 h2 q))
  · exact (sg_apart j hj i hi (List.isPrefixOf_iff_prefix.2 (List.prefix_of_prefix_length_le h2 h1 q))).symm
theorem SgSo.start (l : Bs) (p : Nat) : SgSo l p 0 0 ⟨#[]⟩ p := .inl ⟨rfl, rfl, rfl, fun i hi => by omega⟩
theorem SgSo.miss {l : Bs} {p j : Nat} {k : Int} {x : ByteArray} {e : Nat} (h : SgSo l p j k x e) (hm : (sgAt j).isPrefixOf (l.drop p) = false) : SgSo l p (j + 1) k x e := by
  rcases h with ⟨a, b, c, d⟩ | ⟨i, a, b⟩
  · refine .inl ⟨a, b, c, fun i hi => ?_⟩
    by_cases q : i = j
    · rw [q]; exact hm
    · exact d i (by omega)
  · exact .inr ⟨i, by omega, b⟩
theorem SgSo.hit {l : Bs} {p j : Nat} (hj : j < 10) (hm : (sgAt j).isPrefixOf (l.drop p) = true) {x : ByteArray} (hx : x.data.toList = sgAt j) : SgSo l p (j + 1) 5 x (p + (sgAt j).length) :=
  .inr ⟨j, by omega, hj, hm, rfl, hx, rfl⟩
theorem SgSo.fit {l : Bs} {p : Nat} {k : Int} {x : ByteArray} {e : Nat} (h : SgSo l p 10 k x e) (ht : tok1 (l.drop p) = signT (l.drop p)) : Fit l p k x 0 0 (e - p) := by
  rcases h with ⟨rfl, _, _, d⟩ | ⟨i, _, hi, hm, rfl, hx, he⟩
  · refine .inl ⟨rfl, ?_⟩
    rw [ht, sign_miss _ d]
  · have hlen := sg_len i hi
    refine .inr ⟨by decide, ?_, by omega⟩
    rw [ht, sign_hit (l.drop p) i hi hm (fun j hj => by
      cases q : (sgAt j).isPrefixOf (l.drop p) with
      | false => rfl
      | true => have := sg_one (by omega) hi q hm; omega), hx, show e - p = (sgAt i).length by omega]
theorem sg_match (l : Bs) (p j : Nat) : (sgAt j).isPrefixOf (l.drop p) = ((l.drop p).take (sgAt j).length == sgAt j) := by
  rw [Bool.eq_iff_iff, List.isPrefixOf_iff_prefix, beq_iff_eq, List.prefix_iff_eq_take]
  exact ⟨fun h => h.symm, fun h => h.symm⟩
theorem sg_far {l : Bs} {p j : Nat} (h : l.length < p + (sgAt j).length) (hp : p ≤ l.length) : (sgAt j).isPrefixOf (l.drop p) = false := by
  cases q : (sgAt j).isPrefixOf (l.drop p) with
  | false => rfl
  | true =>
    have := List.IsPrefix.length_le (List.isPrefixOf_iff_prefix.1 q)
    rw [List.length_drop] at this
    omega

end Go.Proofs.YtijchmcajhdcoaaGreatDoor
