/-
  Several texts, laid together.
-/
import Derived.Test.YtjlokpjflgbgdaaGreatML20
import Derived.Test.YtjlokpjflgbgdaaGreatML14
set_option maxHeartbeats 6400000
set_option maxRecDepth 100000
namespace Go.Proofs.YtjlokpjflgbgdaaGreat
open Go.RowKit
theorem nget_skip {α : Type} {l : List (Nm α)} {n : Bs} : ∀ {i : Nat}, (∀ j, j < i -> ∀ m v, l[j]? = some (m, v) -> m ≠ n) -> nget l n = nget (l.drop i) n := by
 induction l with
 | nil => intro i _; simp
 | cons f t ih =>
  intro i h
  cases i with
  | zero => rfl
  | succ i =>
   have h0 : f.1 ≠ n := h 0 (by omega) f.1 f.2 rfl
   simp only [nget, if_neg h0, List.drop_succ_cons]
   exact ih (i := i) (λ j hj m v hm => h (j + 1) (by omega) m v hm)
theorem nget_first {α : Type} {l : List (Nm α)} {n : Bs} {v : α} {i : Nat} (h : ∀ j, j < i -> ∀ m v, l[j]? = some (m, v) -> m ≠ n) (hi : l[i]? = some (n, v)) : nget l n = some v := by
 obtain ⟨hlt, e⟩ := List.getElem?_eq_some_iff.1 hi
 rw [nget_skip h, List.drop_eq_getElem_cons hlt, e]
 simp [nget]
theorem get_nm {α : Type} {l : List (Nm α)} {i n : Nat} (hl : l.length = n) (hi : i < n) : ∃ m v, l[i]? = some (m, v) := ⟨(l[i]'(by omega)).1, (l[i]'(by omega)).2, List.getElem?_eq_getElem (by omega)⟩
theorem nout_take {α : Type} {l : List (Nm α)} {n m : Bs} {v : α} {i : Nat} (h : l[i]? = some (m, v)) : nout (l.take (i + 1)) n = nout (l.take i) n ++ (if m == n then [] else [(m, v)]) := by
 rw [List.take_add_one, h]
 unfold nout
 rw [List.filter_append]
 congr 1
 cases e : m == n <;> simp [e]
theorem nins_small {α : Type} {n : Bs} {v : α} : ∀ {a b : List (Nm α)}, (∀ f ∈ a, ¬ n < f.1) -> nins (a ++ b) n v = a ++ nins b n v
 | [], b, _ => rfl
 | f :: t, b, h => by
  have h1 : ¬ n < f.1 := h f List.mem_cons_self
  have ih := nins_small (v := v) (b := b) (λ g hg => h g (List.mem_cons_of_mem _ hg) : ∀ g ∈ t, ¬ n < g.1)
  simp only [List.cons_append, nins]
  rw [if_neg h1, ih]
theorem nins_snoc {α : Type} {n : Bs} {v : α} {x : Nm α} : ∀ {l : List (Nm α)}, (∃ f ∈ l, n < f.1) -> nins (l ++ [x]) n v = nins l n v ++ [x]
 | [], h => by obtain ⟨f, hf, _⟩ := h; cases hf
 | f :: t, h => by
  simp only [List.cons_append, nins]
  split
  ·simp
  ·rename_i h1
   obtain ⟨g, hg, hn⟩ := h
   rcases List.mem_cons.1 hg with rfl | q
   ·exact absurd hn h1
   ·rw [nins_snoc ⟨g, q, hn⟩]
    rfl
theorem Tryz.info150 : (Tryz.prog.info? 150).map (λ i => (i.zero, i.size, i.bytes)) = some (some (.agg #[.string ⟨#[]⟩, .int .u64 0]), 2, 24) := by kernel_rfl
theorem rfindN_any {ao : Option Addr} {L c : Nat} (l : List (Nm UInt64)) (n : Bs) (w : World) (h : RdG encN w ao l) (hL : l.length = L) (hl : L <= 1000000) :
  Calls Tryz.prog 133 #[.slice ao L c, tx n] w λ e w' => ∃ r, e = .returned (.int .i64 r) /\ Hid (((nget l n).isSome = false /\ r = -1) ∨ ((nget l n).isSome = true /\ ∃ i : Nat, r = (i : Int))) /\ w' = w := by
 have H : Hid (RdG encN w ao l /\ l.length = L) := ⟨h, hL⟩
 clear h hL
 go_enter Tryz.func133, Tryz.ntmps133
 go_wp2_with fail
 go_loopg [5] L (λ k iv wr => wr = w /\ ∃ i : Nat, iv = .int .i64 i /\ i + k = L /\ Hid (∀ j, j < i -> ∀ m v, l[j]? = some (m, v) -> m ≠ n))
 case atStart => exact ⟨rfl, 0, rfl, by omega, λ j hj => by omega⟩
 case round =>
  obtain ⟨hwr, i, rfl, hi, HT⟩ := hrel
  subst hwr
  by_cases hin : i < L
  ·have id : (i : Int) < (L : Int) := by omega
   obtain ⟨m, v, hm⟩ := get_nm H.out.2 hin
   obtain ⟨b1, o1, rfl, hlt⟩ := H.out.1.some_of hm
   have cc := (H.out.1.named hm).2.1
   have X : Hid (l[i]? = some (m, v)) := hm
   clear hm
   cases hxy : m == n with
   | true =>
    go_wp2
    go_ret
    have e : m = n := by simpa using hxy
    subst e
    exact ⟨_, rfl, .inr ⟨by rw [nget_first HT.out X.out]; rfl, i, rfl⟩, rfl⟩
   | false =>
    go_wp2
    go_roundg (gk - 1)
    all_goals first
     | omega
     | exact ⟨rfl, i + 1, by go_num, by omega, λ j hj m' v' hm' => by
       rcases Nat.lt_or_ge j i with q | q
       ·exact HT.out j q m' v' hm'
       ·obtain rfl : j = i := by omega
        rw [X.out] at hm'
        cases hm'
        simpa using hxy⟩
  ·obtain rfl : i = L := by omega
   go_wp2
   go_ret
   refine ⟨_, rfl, .inl ⟨?_, rfl⟩, rfl⟩
   rw [nget_skip HT.out, List.drop_of_length_le (by rw [H.out.2]; exact Nat.le_refl _)]
   rfl
theorem nwithout_any {ao : Option Addr} {L c : Nat} (l : List (Nm UInt64)) (n : Bs) (w : World) (h : RdG encN w ao l) (hL : l.length = L) (hl : L <= 1000000) :
  Calls Tryz.prog 179 #[.slice ao L c, tx n] w λ e w' => ∃ v, e = .returned v /\ Hid (OwnG encN 150 w' w.heap.size v (nout l n) /\ Below w.heap.size w w') := by
 have H : Hid (RdG encN w ao l /\ l.length = L) := ⟨h, hL⟩
 clear h hL
 go_enter Tryz.func179, Tryz.ntmps179
 go_wp2_with fail
 go_loopg [5, 6] L (λ k lv iv wr => ∃ i : Nat, iv = .int .i64 i /\ i + k = L /\ Hid (OwnG encN 150 wr w.heap.size lv (nout (l.take i) n) /\ Below w.heap.size w wr))
 case atStart => exact ⟨0, rfl, by omega, OwnG.nil _ _ _ _, Below.refl _ _⟩
 case round =>
  obtain ⟨i, rfl, hi, HR⟩ := hrel
  by_cases hin : i < L
  ·have id : (i : Int) < (L : Int) := by omega
   obtain ⟨m, v, hm⟩ := get_nm H.out.2 hin
   have R := H.out.1.below HR.out.2
   obtain ⟨b1, o1, rfl, hlt⟩ := R.some_of hm
   obtain ⟨_, cc, cd⟩ := R.named hm
   have T : Hid (nout (l.take (i + 1)) n = nout (l.take i) n ++ (if m == n then [] else [(m, v)]) /\ (nout (l.take i) n).length <= 1000000) := ⟨nout_take hm, Nat.le_trans (List.length_filter_le _ _) (by rw [List.length_take]; omega)⟩
   clear R hm
   cases hxy : m == n with
   | true =>
    have hxy2 : (!m == n) = false := by rw [hxy]; rfl
    go_wp2
    go_roundg (gk - 1)
    all_goals first
     | omega
     | exact ⟨i + 1, by go_num, by omega, by have := T.out.1; rw [hxy] at this; rw [this]; simpa using HR.out.1, HR.out.2⟩
   | false =>
    have hxy2 : (!m == n) = true := by rw [hxy]; rfl
    go_wp2_with (at_builtin; (refine appG_one encN 150 30 24 _ rfl Tryz.info150 Tryz.underlying30 rfl (.tmp 20) (.tmp 25) rfl w.heap.size _ (nout (l.take i) n) (m, v) 150 rfl HR.out.1 rfl (by have := T.out.2; omega) (by have := T.out.2; simp only [maxLen]; omega) HR.out.2.size _ rfl ?_; intro v2 w2 O2 B2 _ _))
    go_wp2
    go_roundg (gk - 1)
    all_goals first
     | omega
     | exact ⟨i + 1, by go_num, by omega, by have := T.out.1; rw [hxy] at this; rw [this]; exact O2, HR.out.2.trans B2⟩
  ·obtain rfl : i = L := by omega
   have e0 : l.take i = l := List.take_of_length_le (by rw [H.out.2]; exact Nat.le_refl _)
   go_wp2
   go_ret
   exact ⟨_, rfl, by have := HR.out.1; rw [e0] at this; exact this, HR.out.2⟩
def LaidN (l : List (Nm UInt64)) (n : Bs) (v : UInt64) (i : Nat) (dn : Bool) (out : List (Nm UInt64)) : Prop := (dn = false /\ (∀ f ∈ l.take i, ¬ n < f.1) /\ out = l.take i) ∨ (dn = true /\ (∃ f ∈ l.take i, n < f.1) /\ out = nins (l.take i) n v)
section
variable {l out : List (Nm UInt64)} {n m : Bs} {v u : UInt64} {i : Nat}
theorem takeN_snoc {x : Nm UInt64} (h : l[i]? = some x) : l.take (i + 1) = l.take i ++ [x] := by rw [List.take_add_one, h]; rfl
theorem laidN_len (h : LaidN l n v i false out) : out.length <= i := by
 rcases h with ⟨_, _, e⟩ | ⟨q, _⟩
 ·rw [e, List.length_take]; omega
 ·cases q
theorem laidN_less (h : LaidN l n v i false out) (hx : l[i]? = some (m, u)) (hm : ¬ n < m) : LaidN l n v (i + 1) false (out ++ [(m, u)]) := by
 rcases h with ⟨_, h1, h2⟩ | ⟨q, _⟩
 ·refine .inl ⟨rfl, ?_, by rw [h2, takeN_snoc hx]⟩
  intro f hf
  rw [takeN_snoc hx] at hf
  rcases List.mem_append.1 hf with q | q
  ·exact h1 f q
  ·simp at q; rw [q]; exact hm
 ·cases q
theorem laidN_more (h : LaidN l n v i false out) (hx : l[i]? = some (m, u)) (hm : n < m) : LaidN l n v (i + 1) true (out ++ [(n, v)] ++ [(m, u)]) := by
 rcases h with ⟨_, h1, h2⟩ | ⟨q, _⟩
 ·refine .inr ⟨rfl, ⟨(m, u), by rw [takeN_snoc hx]; simp, hm⟩, ?_⟩
  rw [takeN_snoc hx, nins_small h1, h2]
  simp [nins, hm]
 ·cases q
theorem laidN_done (h : LaidN l n v i true out) (hx : l[i]? = some (m, u)) : LaidN l n v (i + 1) true (out ++ [(m, u)]) := by
 rcases h with ⟨q, _⟩ | ⟨_, h1, h2⟩
 ·cases q
 ·refine .inr ⟨rfl, ?_, ?_⟩
  ·obtain ⟨f, hf, hn⟩ := h1
   exact ⟨f, by rw [takeN_snoc hx]; exact List.mem_append_left _ hf, hn⟩
  ·rw [takeN_snoc hx, nins_snoc h1, h2]
end
theorem nwith_any {ao : Option Addr} {L c : Nat} (l0 : List (Nm UInt64)) (n : Bs) (v : UInt64) (w : World) (h : RdG encN w ao l0) (hL : l0.length = L) (hl : L <= 1000000) :
  Calls Tryz.prog 178 #[.slice ao L c, .agg #[tx n, .int .u64 (v.toNat : Int)]] w λ e w' => ∃ u, e = .returned u /\ Hid (OwnG encN 150 w' w.heap.size u (nwith l0 n v) /\ Below w.heap.size w w') := by
 obtain ⟨l, hln⟩ : ∃ l, nout l0 n = l := ⟨_, rfl⟩
 have ew : nwith l0 n v = nins l n v := by unfold nwith; rw [hln]
 rw [ew]
 have hlo : l.length <= 1000000 := by rw [<- hln]; exact Nat.le_trans (List.length_filter_le _ _) (by omega)
 obtain ⟨W, hW⟩ : ∃ W, w.alloc (.cells #[tx n, .int .u64 (v.toNat : Int)] 150) = W := ⟨_, rfl⟩
 have HW : Hid (Below w.heap.size w W /\ W.cell? ⟨w.heap.size, 0, none⟩ = some (tx n) /\ W.cell? ⟨w.heap.size, 1, none⟩ = some (.int .u64 (v.toNat : Int)) /\ w.heap.size < W.heap.size) := by rw [<- hW]; exact ⟨bz1 _ _, by simp, by simp, by simp⟩
 have hwo := nwithout_any (c := c) l0 n W (h.below HW.out.1) hL hl
 rw [hln] at hwo
 have x0 := HW.out.2.1
 have HV : Hid (l.length <= 1000000) := hlo
 clear h hL hl hln ew hlo
 go_enter Tryz.func178, Tryz.ntmps178
 go_wp2_with fail
 refine hwo.mono ?_
 rintro e w1 ⟨v1, rfl, O1⟩
 obtain ⟨a1, c1, hv1, h1, h2, r1, _⟩ := OwnG.form O1.out.1
 obtain ⟨L1, hL1⟩ : ∃ L1, l.length = L1 := ⟨_, rfl⟩
 rw [hL1] at hv1
 subst hv1
 have H : Hid (RdG encN w1 a1 l /\ l.length = L1 /\ Below W.heap.size W w1) := ⟨r1, hL1, O1.out.2⟩
 have lb : L1 <= 1000000 := by rw [<- hL1]; exact HV.out
 clear O1 h1 h2 r1 hL1 hwo x0
 go_wp2_with fail
 go_loopg [5, 6, 7] L1 (λ k lv dv iv wr => ∃ (i : Nat) (dn : Bool) (out : List (Nm UInt64)), iv = .int .i64 i /\ i + k = L1 /\ dv = .bool dn /\ Hid (LaidN l n v i dn out /\ out.length <= i + 1 /\ OwnG encN 150 wr w1.heap.size lv out /\ Below w1.heap.size w1 wr))
 case atStart => exact ⟨0, false, [], rfl, by omega, rfl, .inl ⟨rfl, by simp, by simp⟩, by simp, OwnG.nil _ _ _ _, Below.refl _ _⟩
 case round =>
  obtain ⟨i, dn, out, rfl, hi, rfl, HR⟩ := hrel
  have BB : Below W.heap.size W wr := H.out.2.2.trans (HR.out.2.2.2.mono H.out.2.2.size)
  have k0 := (BB.cell (p := ⟨w.heap.size, 0, none⟩) HW.out.2.2.2).trans HW.out.2.1
  have k1 := (BB.cell (p := ⟨w.heap.size, 1, none⟩) HW.out.2.2.2).trans HW.out.2.2.1
  have sz : w1.heap.size <= wr.heap.size := HR.out.2.2.2.size
  clear BB
  by_cases hin : i < L1
  ·have id : (i : Int) < (L1 : Int) := by omega
   obtain ⟨m, u, hm⟩ := get_nm H.out.2.1 hin
   have R := H.out.1.below HR.out.2.2.2
   obtain ⟨b1, o1, rfl, hlt⟩ := R.some_of hm
   obtain ⟨_, cc, cd⟩ := R.named hm
   have X : Hid (l[i]? = some (m, u)) := hm
   have G : Hid (LaidN l n v i dn out /\ out.length <= i + 1 /\ OwnG encN 150 wr w1.heap.size u5 out /\ Below w1.heap.size w1 wr) := HR
   clear R hm HR
   cases dn with
   | false =>
    by_cases hgt : n < m
    ·have q1 : Op.bytesLess n m = true := by rw [less_eq, decide_eq_true_iff]; exact hgt
     have Q : Hid (n < m) := hgt
     have X2 : Hid (∀ w2, Below w1.heap.size w1 w2 -> w2.cell? ⟨b1, o1 + i * 2, none⟩ = some (tx m) /\ w2.cell? ⟨b1, o1 + i * 2 + 1, none⟩ = some (.int .u64 (u.toNat : Int)) /\ b1 < w2.heap.size) := λ w2 b2 => ⟨((H.out.1.below b2).named X.out).2.1, ((H.out.1.below b2).named X.out).2.2, ((H.out.1.below b2).named X.out).1⟩
     clear hgt
     go_wp2_with fail
     go_quiet (fail)
     go_wp2_with (first
      | (at_builtin; (refine appG_one encN 150 30 24 _ rfl Tryz.info150 Tryz.underlying30 rfl (.tmp 30) (.tmp 32) rfl w1.heap.size _ out (n, v) 150 (by rfl) (G.out.2.2.1.below (below_drewN (Below.refl _ _) _)) (by rfl) (by have := G.out.2.1; omega) (by simp only [maxLen]; have := G.out.2.1; omega) sz _ rfl ?_; intro v2 w2 O2 B2 _ _; have C : Hid (OwnG encN 150 w2 w1.heap.size v2 (out ++ [(n, v)]) /\ Below w1.heap.size w1 w2) := ⟨O2, (below_drewN G.out.2.2.2 _).trans B2⟩; obtain ⟨y0, y1, ylt⟩ := X2.out w2 C.out.2; have sz2 : w1.heap.size <= w2.heap.size := C.out.2.size; clear O2 B2))
      | (at_builtin; (refine appG_one encN 150 30 24 _ rfl Tryz.info150 Tryz.underlying30 rfl (.tmp 34) (.tmp 39) rfl w1.heap.size _ (out ++ [(n, v)]) (m, u) 150 (by rfl) C.out.1 (by rfl) (by have := G.out.2.1; simp; omega) (by simp only [maxLen]; have := G.out.2.1; simp; omega) sz2 _ rfl ?_; intro v3 w3 O3 B3 _ _)))
     go_wp2
     go_roundg (gk - 1)
     all_goals first
      | omega
      | exact ⟨i + 1, true, _, by go_num, by omega, rfl, laidN_more G.out.1 X.out Q.out, by have := laidN_len G.out.1; simp; omega, O3, C.out.2.trans B3⟩
    ·have q1 : Op.bytesLess n m = false := by rw [less_eq, decide_eq_false_iff_not]; exact hgt
     have Q : Hid (¬ n < m) := hgt
     clear hgt
     go_wp2_with fail
     go_quiet (fail)
     go_wp2_with (at_builtin; (refine appG_one encN 150 30 24 _ rfl Tryz.info150 Tryz.underlying30 rfl (.tmp 34) (.tmp 39) rfl w1.heap.size _ out (m, u) 150 (by rfl) (G.out.2.2.1.below (below_drewN (Below.refl _ _) _)) (by rfl) (by have := G.out.2.1; omega) (by simp only [maxLen]; have := G.out.2.1; omega) sz _ rfl ?_; intro v3 w3 O3 B3 _ _))
     go_wp2
     go_roundg (gk - 1)
     all_goals first
      | omega
      | exact ⟨i + 1, false, _, by go_num, by omega, rfl, laidN_less G.out.1 X.out Q.out, by have := G.out.2.1; simp; omega, O3, (below_drewN G.out.2.2.2 _).trans B3⟩
   | true =>
    go_wp2_with fail
    go_quiet (fail)
    go_wp2_with (at_builtin; (refine appG_one encN 150 30 24 _ rfl Tryz.info150 Tryz.underlying30 rfl (.tmp 34) (.tmp 39) rfl w1.heap.size _ out (m, u) 150 (by rfl) (G.out.2.2.1.below (below_drewN (Below.refl _ _) _)) (by rfl) (by have := G.out.2.1; omega) (by simp only [maxLen]; have := G.out.2.1; omega) sz _ rfl ?_; intro v3 w3 O3 B3 _ _))
    go_wp2
    go_roundg (gk - 1)
    all_goals first
     | omega
     | exact ⟨i + 1, true, _, by go_num, by omega, rfl, laidN_done G.out.1 X.out, by have := G.out.2.1; simp; omega, O3, (below_drewN G.out.2.2.2 _).trans B3⟩
  ·obtain rfl : i = L1 := by omega
   have e0 : l.take i = l := List.take_of_length_le (by rw [H.out.2.1]; exact Nat.le_refl _)
   have hLa := HR.out.1
   unfold LaidN at hLa
   rw [e0] at hLa
   have G : Hid (OwnG encN 150 wr w1.heap.size u5 out /\ Below w1.heap.size w1 wr /\ out.length <= i + 1) := ⟨HR.out.2.2.1, HR.out.2.2.2, HR.out.2.1⟩
   have LH : Hid _ := hLa
   have BW : Hid (Below w.heap.size w w1) := HW.out.1.trans (H.out.2.2.mono HW.out.1.size)
   clear HR hLa
   cases dn with
   | false =>
    have hf : nins l n v = out ++ [(n, v)] := by
     rcases LH.out with ⟨_, h1, h2⟩ | ⟨q, _⟩
     ·have := nins_small (v := v) (b := []) h1
      rw [List.append_nil] at this
      rw [this, h2]; rfl
     ·cases q
    clear LH
    go_wp2_with (at_builtin; (refine appG_one encN 150 30 24 _ rfl Tryz.info150 Tryz.underlying30 rfl (.tmp 43) (.tmp 45) rfl w1.heap.size _ out (n, v) 150 rfl G.out.1 rfl (by have := G.out.2.2; omega) (by have := G.out.2.2; simp only [maxLen]; omega) sz _ rfl ?_; intro v2 w2 O2 B2 _ _))
    go_wp2
    go_ret
    rw [hf]
    exact ⟨_, rfl, OwnG.low O2 BW.out.size, BW.out.trans ((G.out.2.1.trans B2).mono BW.out.size)⟩
   | true =>
    have hf : nins l n v = out := by
     rcases LH.out with ⟨q, _⟩ | ⟨_, _, h2⟩
     ·cases q
     ·exact h2.symm
    clear LH
    go_wp2
    go_ret
    rw [hf]
    exact ⟨_, rfl, OwnG.low G.out.1 BW.out.size, BW.out.trans (G.out.2.1.mono BW.out.size)⟩
end Go.Proofs.YtjlokpjflgbgdaaGreat

namespace Go.Proofs.YtjlokpjflgbgdaaGreat
open Go.RowKit
def Bad (es : List En) (i k : Nat) : Prop := ∃ a b, es[i]? = some a /\ es[k]? = some b /\ ((i < k /\ ¬ a.1 < b.1) ∨ (i ≠ k /\ under a.1 b.1 = true))
theorem tr_get {es : List En} (h : Tr es) {i k : Nat} {a b : En} (hik : i < k) (ha : es[i]? = some a) (hb : es[k]? = some b) : Ahead a b := by
 obtain ⟨hi, rfl⟩ := List.getElem?_eq_some_iff.1 ha
 obtain ⟨hk, rfl⟩ := List.getElem?_eq_some_iff.1 hb
 exact List.pairwise_iff_getElem.1 h i k hi hk hik
theorem bad_not {es : List En} {i k : Nat} (h : Bad es i k) : ¬ Tr es := by
 intro ht
 obtain ⟨a, b, ha, hb, q⟩ := h
 rcases q with ⟨h1, h2⟩ | ⟨h1, h2⟩
 ·exact h2 (tr_get ht h1 ha hb).1
 ·rcases Nat.lt_or_gt_of_ne h1 with q | q
  ·exact under_le h2 (tr_get ht q ha hb).1
  ·have := (tr_get ht q hb ha).2
   rw [h2] at this
   cases this
theorem not_bad {es : List En} (h : ∀ i k, ¬ Bad es i k) : Tr es := by
 refine List.pairwise_iff_getElem.2 (λ i k hi hk hik => ⟨?_, ?_⟩)
 ·by_cases q : es[i].1 < es[k].1
  ·exact q
  ·exact absurd ⟨es[i], es[k], List.getElem?_eq_getElem hi, List.getElem?_eq_getElem hk, .inl ⟨hik, q⟩⟩ (h i k)
 ·cases q : under es[k].1 es[i].1 with
  | false => rfl
  | true => exact absurd ⟨es[k], es[i], List.getElem?_eq_getElem hk, List.getElem?_eq_getElem hi, .inr ⟨by omega, q⟩⟩ (h k i)
theorem app_str (a b : ByteArray) : (a ++ b).data.toList = a.data.toList ++ b.data.toList := by
 rw [ByteArray.data_append]
 simp
theorem app_size (a b : ByteArray) : (a ++ b).size = a.size + b.size := by
 rw [bsize, app_str, List.length_append, bsize, bsize]
theorem rnum_at (n k : Nat) (hn : n < 18446744073709551616) (hk : k <= 8) (z : ByteArray) (hz : z = ⟨(low k n).toArray⟩) (w : World) (u : SW (Grew w)) :
  Calls Tryz.prog 104 #[.int .u64 (n : Int), .int .i64 (k : Int)] u.w λ e w' => e = .returned (.string z) /\ ∃ u' : SW (Grew w), w' = u'.w := by
 subst hz
 refine (rnumber_any n k hn hk u.w).mono ?_
 rintro e w' ⟨rfl, hb⟩
 exact ⟨rfl, ⟨w', u.ok.trans (hb.mono u.ok.size)⟩, rfl⟩
theorem rtree_any {ao : Option Addr} {c n : Nat} {es : List En} (w : World) (hr : RdG encE w ao es) (hl : es.length = n) :
  Calls Tryz.prog 122 #[.slice ao n c] w λ e w' => e = .returned (.tuple #[tx (ftree es).1, .int .i64 (ftree es).2]) /\ Below w.heap.size w w' := by
 by_cases h64 : 64 < n
 ·have q : (64 : Int) < (n : Int) := by omega
  have e : ctree es = 4 := by unfold ctree; rw [if_pos (by omega)]
  have e2 : ftree es = ([], 4) := by unfold ftree; rw [e]; rfl
  rw [e2]
  clear hr hl e e2
  go_enter Tryz.func122, Tryz.ntmps122
  go_wp2
  refine bodyPost_ret (results_tmp2 rfl _ _ _) rfl ?_
  exact ⟨rfl, Below.refl _ _⟩
 have q : decide ((64 : Int) < (n : Int)) = false := by rw [decide_eq_false_iff_not]; omega
 have H : Hid (RdG encE w ao es /\ es.length = n) := ⟨hr, hl⟩
 clear hr hl
 go_enter Tryz.func122, Tryz.ntmps122
 go_wp2_with fail
 go_loopg [4, 5] n (λ m sv iv wr => ∃ (i : Nat) (s : ByteArray), iv = .int .i64 i /\ i + m = n /\ sv = .string s /\ Hid (s = ⟨(treeB (es.take i)).toArray⟩ /\ ((es.take i).all λ e => isPath e.1) = true /\ Below w.heap.size w wr))
 case atStart => exact ⟨0, _, rfl, by omega, rfl, rfl, rfl, Below.refl _ _⟩
 case round =>
  obtain ⟨i, s, rfl, hi, rfl, HR⟩ := hrel
  by_cases hin : i < n
  ·have id : (i : Int) < (n : Int) := by omega
   have id0 : (0 : Int) <= (i : Int) := by omega
   obtain ⟨e, he⟩ := get_some H.out.2 hin
   obtain ⟨b, off, rfl, hlt⟩ := H.out.1.some_of he
   obtain ⟨hbw, c0, c1⟩ := (H.out.1.below HR.out.2.2).ents he
   obtain ⟨d, z⟩ := e
   obtain ⟨t, ht⟩ : ∃ t : ByteArray, t = ⟨d.toArray⟩ := ⟨_, rfl⟩
   have hts : t.size = d.length := by rw [ht]; show d.toArray.size = _; simp
   simp only at c0 c1
   rw [show tx d = .string t by rw [ht]] at c0
   have HE : Hid (es[i]? = some (d, z) /\ t = ⟨d.toArray⟩ /\ t.size = d.length) := ⟨he, ht, hts⟩
   have hri : ∀ f, isPath d = f -> Calls Tryz.prog 183 #[.string t] wr λ e w' => e = .returned (.bool f) /\ Below wr.heap.size wr w' := λ f hf => by rw [ht]; exact ris_at d f hf wr
   clear he ht hts
   cases hp : isPath d with
   | false =>
    have hri2 := hri false hp
    have hct : ftree es = ([], 2) := by
     have : ctree es = 2 := by
      unfold ctree
      rw [if_neg (by rw [H.out.2]; exact h64), if_pos (allE_miss HE.out.1 hp)]
     unfold ftree
     rw [this]
     rfl
    clear hri
    go_wp2_with fail
    refine hri2.mono ?_
    rintro e w2 ⟨rfl, hb2⟩
    go_wp2
    refine bodyPost_ret (results_tmp2 rfl _ _ _) rfl ?_
    exact ⟨by rw [hct]; rfl, HR.out.2.2.trans (hb2.mono HR.out.2.2.size)⟩
   | true =>
    have hri2 := hri true hp
    clear hri
    go_wp2_with fail
    refine hri2.mono ?_
    rintro e w2 ⟨rfl, hb2⟩
    clear hri2 c0 c1
    have B2 := HR.out.2.2.trans (hb2.mono HR.out.2.2.size)
    have hps := path_short hp
    have hlen : s.size <= 264 * 64 := by
     rw [HR.out.1]
     show (treeB (es.take i)).toArray.size <= _
     have h1 := treeB_len (es := es.take i) (λ x hx => by have := path_short (List.all_eq_true.1 HR.out.2.1 x hx); omega)
     have h2 : (es.take i).length <= 64 := by rw [List.length_take, H.out.2]; omega
     simp only [List.size_toArray]
     omega
    obtain ⟨z1, hz1⟩ : ∃ z1 : ByteArray, z1 = ⟨(low 1 t.size).toArray⟩ := ⟨_, rfl⟩
    obtain ⟨z8, hz8⟩ : ∃ z8 : ByteArray, z8 = ⟨(low 8 z.toNat).toArray⟩ := ⟨_, rfl⟩
    have l1 : z1.size = 1 := by rw [hz1]; show (low 1 t.size).toArray.size = 1; simp [low_len]
    have l8 : z8.size = 8 := by rw [hz8]; show (low 8 z.toNat).toArray.size = 8; simp [low_len]
    have lt' : t.size <= 102 := by rw [HE.out.2.2]; exact hps
    have NE : Nonempty (SW (Grew w2)) := ⟨⟨w2, Below.refl _ _⟩⟩
    have bu : ∀ u : SW (Grew w2), Below w.heap.size w u.w := λ u => B2.trans (u.ok.mono B2.size)
    have k0 : ∀ u : SW (Grew w2), u.w.cell? ⟨b, off + i * 2, none⟩ = some (.string t) := λ u => by
     have := ((H.out.1.below (bu u)).ents HE.out.1).2.1
     rw [HE.out.2.1]
     exact this
    have k1 : ∀ u : SW (Grew w2), u.w.cell? ⟨b, off + i * 2 + 1, none⟩ = some (.int .u64 (z.toNat : Int)) := λ u => ((H.out.1.below (bu u)).ents HE.out.1).2.2
    have n1 : ∀ u : SW (Grew w2), Calls Tryz.prog 104 #[.int .u64 (t.size : Int), .int .i64 1] u.w λ e w' => e = .returned (.string z1) /\ ∃ u' : SW (Grew w2), w' = u'.w := rnum_at t.size 1 (by omega) (by omega) z1 hz1 w2
    have n8 : ∀ u : SW (Grew w2), Calls Tryz.prog 104 #[.int .u64 (z.toNat : Int), .int .i64 8] u.w λ e w' => e = .returned (.string z8) /\ ∃ u' : SW (Grew w2), w' = u'.w := rnum_at z.toNat 8 z.toNat_lt (by omega) z8 hz8 w2
    have wr1 : IntKind.u64.wrap (t.size : Int) = (t.size : Int) := by rw [IntKind.wrap_u64]; omega
    have a1 : ¬ (9223372036854775807 < s.size + z1.size) := by omega
    have a2 : ¬ (9223372036854775807 < (s ++ z1).size + t.size) := by rw [app_size]; omega
    have a3 : ¬ (9223372036854775807 < (s ++ z1 ++ t).size + z8.size) := by rw [app_size, app_size]; omega
    have HN : Hid (s ++ z1 ++ t ++ z8 = ⟨(treeB (es.take (i + 1))).toArray⟩) := by
     show _ = _
     rw [treeB_take HE.out.1, HR.out.1, hz1, hz8, HE.out.2.1]
     have e1 : low 1 (⟨d.toArray⟩ : ByteArray).size = [UInt8.ofNat d.length] := by
      have : (⟨d.toArray⟩ : ByteArray).size = d.length := by show d.toArray.size = _; simp
      rw [this]; rfl
     rw [e1]
     apply ByteArray.ext
     simp [b8]
    have HB2 : Hid (Below w.heap.size w w2 /\ isPath d = true) := ⟨B2, hp⟩
    clear bu hps hlen l1 l8 lt' hz1 hz8 B2 hb2
    go_wp2_with fail
    refine wp_region_class (S := Grew w2) (by kernel_rfl) (by kernel_rfl) (Below.refl _ w2).drew ?_
    repeat (go_big_quiet_step (first | with_reducible exact n1 _ | with_reducible exact n8 _))
    refine wpQuiet_nil ?_
    intro _ hw'
    obtain ⟨u, hw''⟩ := hw'
    subst hw''
    have N4 : Hid (Below w.heap.size w u.w) := HB2.out.1.trans (u.ok.mono HB2.out.1.size)
    obtain ⟨w4, hw4⟩ : ∃ w4, w4 = u.w := ⟨_, rfl⟩
    rw [<- hw4] at N4 ⊢
    clear hw4 k0 k1 n1 n8 NE u
    go_wp2
    go_roundg (gk - 1)
    case measure => omega
    case rel => exact ⟨i + 1, _, by go_num, by omega, rfl, HN.out, allE_step HE.out.1 HR.out.2.1 HB2.out.2, N4.out⟩
  ·obtain rfl : i = n := by omega
   have htk : es.take i = es := List.take_of_length_le (by rw [H.out.2]; omega)
   have HA : Hid (s = ⟨(treeB es).toArray⟩ /\ ((es.all λ e => isPath e.1) = true) /\ Below w.heap.size w wr) := by
    have := HR.out
    rw [htk] at this
    exact this
   obtain ⟨w1, hw1⟩ : ∃ w1, w1 = wr := ⟨_, rfl⟩
   rw [<- hw1] at HA ⊢
   clear htk hw1 HR wr hin hi
   go_wp2_with fail
   go_loopg [6, 7] i (λ m iv _ wr => ∃ k : Nat, iv = .int .i64 k /\ k + m = i /\ Hid ((∀ j l, j < k -> ¬ Bad es j l) /\ Below w.heap.size w wr))
   case atStart => exact ⟨0, rfl, by omega, λ j l h => absurd h (by omega), HA.out.2.2⟩
   case round =>
    obtain ⟨k, rfl, hi, HR⟩ := hrel
    by_cases hin : k < i
    ·have id : (k : Int) < (i : Int) := by omega
     have id0 : (0 : Int) <= (k : Int) := by omega
     obtain ⟨w2, hw2⟩ : ∃ w2, w2 = wr := ⟨_, rfl⟩
     rw [<- hw2] at HR ⊢
     clear hw2 wr
     go_wp2_with fail
     go_loopg [7] i (λ m iv wr => ∃ l : Nat, iv = .int .i64 l /\ l + m = i /\ Hid ((∀ j, j < l -> ¬ Bad es k j) /\ Below w.heap.size w wr))
     case atStart => exact ⟨0, rfl, by omega, λ j h => absurd h (by omega), HR.out.2⟩
     case round =>
      obtain ⟨l, rfl, hl, HQ⟩ := hrel
      by_cases hln : l < i
      ·have ld : (l : Int) < (i : Int) := by omega
       have ld0 : (0 : Int) <= (l : Int) := by omega
       obtain ⟨x, hx⟩ := get_some H.out.2 hin
       obtain ⟨y, hy⟩ := get_some H.out.2 hln
       obtain ⟨b, off, rfl, hlt⟩ := H.out.1.some_of hx
       obtain ⟨xp, xb⟩ := x
       obtain ⟨yp, yb⟩ := y
       have NE : Nonempty (SW (Grew wr)) := ⟨⟨wr, Below.refl _ _⟩⟩
       have bu : ∀ u : SW (Grew wr), Below w.heap.size w u.w := λ u => HQ.out.2.trans (u.ok.mono HQ.out.2.size)
       have k0 : ∀ u : SW (Grew wr), u.w.cell? ⟨b, off + k * 2, none⟩ = some (tx xp) := λ u => ((H.out.1.below (bu u)).ents hx).2.1
       have k1 : ∀ u : SW (Grew wr), u.w.cell? ⟨b, off + l * 2, none⟩ = some (tx yp) := λ u => ((H.out.1.below (bu u)).ents hy).2.1
       obtain ⟨f, hf⟩ : ∃ f, under xp yp = f := ⟨_, rfl⟩
       have hun : ∀ u : SW (Grew wr), Calls Tryz.prog 184 #[tx xp, tx yp] u.w λ e w' => e = .returned (.bool f) /\ ∃ u' : SW (Grew wr), w' = u'.w := λ u => by
        refine (runder_any ⟨xp.toArray⟩ ⟨yp.toArray⟩ u.w).mono ?_
        rintro e w' ⟨rfl, rfl⟩
        exact ⟨by rw [<- hf], u, rfl⟩
       have HX : Hid (es[k]? = some (xp, xb) /\ es[l]? = some (yp, yb) /\ under xp yp = f) := ⟨hx, hy, hf⟩
       have fine : ∀ u : SW (Grew wr), ¬ Bad es k l -> Hid ((∀ j, j < l + 1 -> ¬ Bad es k j) /\ Below w.heap.size w u.w) := λ u hb => by
        refine ⟨λ j hj => ?_, bu u⟩
        rcases Nat.lt_or_ge j l with q | q
        ·exact HQ.out.1 j q
        ·obtain rfl : j = l := by omega
         exact hb
       have wrong : Bad es k l -> ftree es = ([], 12) := λ hb => by
        have : ctree es = 12 := by
         unfold ctree
         rw [if_neg (by rw [H.out.2]; exact h64), if_neg (by rw [HA.out.2.1]; decide), if_neg (bad_not hb)]
        unfold ftree
        rw [this]
        rfl
       have HW : Hid ((∀ u : SW (Grew wr), ¬ Bad es k l -> Hid ((∀ j, j < l + 1 -> ¬ Bad es k j) /\ Below w.heap.size w u.w)) /\ (Bad es k l -> ftree es = ([], 12)) /\ ∀ u : SW (Grew wr), Below w.heap.size w u.w) := ⟨fine, wrong, bu⟩
       clear hx hy hf fine wrong bu
       rcases Nat.lt_trichotomy k l with hkl | hkl | hkl
       ·have d1 : decide ((k : Int) < (l : Int)) = true := by rw [decide_eq_true_iff]; omega
        have d2 : ((k : Int) != (l : Int)) = true := by rw [bne_iff_ne]; omega
        have d3 : (k : Int) < (l : Int) := by omega
        by_cases hxy : xp < yp
        ·have q1 : Op.bytesLess xp yp = true := by rw [less_eq, decide_eq_true_iff]; exact hxy
         have q2 : Op.bytesLess yp xp = false := by rw [less_eq, decide_eq_false_iff_not]; exact List.lt_asymm hxy
         have q3 : (yp == xp) = false := by rw [beq_eq_false_iff_ne]; rintro rfl; exact List.lt_irrefl _ hxy
         have q4 : (xp == yp) = false := by rw [beq_eq_false_iff_ne]; rintro rfl; exact List.lt_irrefl _ hxy
         go_wp2_with fail
         refine wp_region_class (S := Grew wr) (by kernel_rfl) (by kernel_rfl) (Below.refl _ wr).drew ?_
         repeat (go_big_quiet_step (with_reducible exact hun _))
         refine wpQuiet_nil ?_
         intro _ hw'
         obtain ⟨u, hw''⟩ := hw'
         subst hw''
         have HU := HW.out.1 u
         have HV : Hid (Below w.heap.size w u.w) := HW.out.2.2 u
         have HU' : Hid (¬ Bad es k l -> Hid ((∀ j, j < l + 1 -> ¬ Bad es k j) /\ Below w.heap.size w u.w)) := HU
         obtain ⟨w4, hw4⟩ : ∃ w4, w4 = u.w := ⟨_, rfl⟩
         rw [<- hw4] at HU' HV ⊢
         clear HU hw4 k0 k1 hun NE u
         cases f with
         | true =>
          have hct := HW.out.2.1 (⟨_, _, HX.out.1, HX.out.2.1, .inr ⟨by omega, HX.out.2.2⟩⟩)
          clear HU'
          go_wp2
          refine bodyPost_ret (results_tmp2 rfl _ _ _) rfl ?_
          exact ⟨by rw [hct]; rfl, HV.out⟩
         | false =>
          have N := HU'.out (by
            rintro ⟨a, b', h1, h2, h3⟩
            rw [HX.out.1] at h1
            rw [HX.out.2.1] at h2
            cases h1
            cases h2
            rcases h3 with ⟨g1, g2⟩ | ⟨g1, g2⟩
            ·first | exact g2 hxy | omega
            ·first | omega | (rw [HX.out.2.2] at g2; cases g2))
          clear HU'
          go_wp2
          go_roundg (gk - 1)
          case measure => omega
          case rel => exact ⟨l + 1, by go_num, by omega, N⟩
        ·by_cases hq : xp = yp
         ·have hct := HW.out.2.1 ⟨_, _, HX.out.1, HX.out.2.1, .inl ⟨hkl, hxy⟩⟩
          have q1 : Op.bytesLess xp yp = false := by rw [less_eq, decide_eq_false_iff_not]; exact hxy
          have q2 : Op.bytesLess yp xp = false := by rw [less_eq, decide_eq_false_iff_not, <- hq]; exact List.lt_irrefl _
          have q3 : (yp == xp) = true := by rw [beq_iff_eq]; exact hq.symm
          have q4 : (xp == yp) = true := by rw [beq_iff_eq]; exact hq
          clear hq
          go_wp2_with fail
          refine wp_region_class (S := Grew wr) (by kernel_rfl) (by kernel_rfl) (Below.refl _ wr).drew ?_
          repeat (go_big_quiet_step (with_reducible exact hun _))
          refine wpQuiet_nil ?_
          intro _ hw'
          obtain ⟨u, hw''⟩ := hw'
          subst hw''
          have HU := HW.out.1 u
          have HV : Hid (Below w.heap.size w u.w) := HW.out.2.2 u
          have HU' : Hid (¬ Bad es k l -> Hid ((∀ j, j < l + 1 -> ¬ Bad es k j) /\ Below w.heap.size w u.w)) := HU
          obtain ⟨w4, hw4⟩ : ∃ w4, w4 = u.w := ⟨_, rfl⟩
          rw [<- hw4] at HU' HV ⊢
          clear HU hw4 k0 k1 hun NE u
          clear HU'
          go_wp2
          refine bodyPost_ret (results_tmp2 rfl _ _ _) rfl ?_
          exact ⟨by rw [hct]; rfl, HV.out⟩
         ·have hct := HW.out.2.1 ⟨_, _, HX.out.1, HX.out.2.1, .inl ⟨hkl, hxy⟩⟩
          have hlt2 : yp < xp := by
           by_cases k' : yp < xp
           ·exact k'
           ·exact absurd (List.le_antisymm k' hxy) hq
          have q1 : Op.bytesLess xp yp = false := by rw [less_eq, decide_eq_false_iff_not]; exact hxy
          have q2 : Op.bytesLess yp xp = true := by rw [less_eq, decide_eq_true_iff]; exact hlt2
          have q3 : (yp == xp) = false := by rw [beq_eq_false_iff_ne]; exact λ e => hq e.symm
          have q4 : (xp == yp) = false := by rw [beq_eq_false_iff_ne]; exact hq
          clear hq hlt2
          go_wp2_with fail
          refine wp_region_class (S := Grew wr) (by kernel_rfl) (by kernel_rfl) (Below.refl _ wr).drew ?_
          repeat (go_big_quiet_step (with_reducible exact hun _))
          refine wpQuiet_nil ?_
          intro _ hw'
          obtain ⟨u, hw''⟩ := hw'
          subst hw''
          have HU := HW.out.1 u
          have HV : Hid (Below w.heap.size w u.w) := HW.out.2.2 u
          have HU' : Hid (¬ Bad es k l -> Hid ((∀ j, j < l + 1 -> ¬ Bad es k j) /\ Below w.heap.size w u.w)) := HU
          obtain ⟨w4, hw4⟩ : ∃ w4, w4 = u.w := ⟨_, rfl⟩
          rw [<- hw4] at HU' HV ⊢
          clear HU hw4 k0 k1 hun NE u
          clear HU'
          go_wp2
          refine bodyPost_ret (results_tmp2 rfl _ _ _) rfl ?_
          exact ⟨by rw [hct]; rfl, HV.out⟩
       ·subst hkl
        have hnb : ¬ Bad es k k := by
         rintro ⟨a, b', h1, h2, h3⟩
         rcases h3 with ⟨g1, g2⟩ | ⟨g1, g2⟩
         ·omega
         ·exact g1 rfl
        have HNB : Hid (¬ Bad es k k) := hnb
        clear hnb
        go_wp2_with fail
        refine wp_region_class (S := Grew wr) (by kernel_rfl) (by kernel_rfl) (Below.refl _ wr).drew ?_
        repeat (go_big_quiet_step (with_reducible exact hun _))
        refine wpQuiet_nil ?_
        intro _ hw'
        obtain ⟨u, hw''⟩ := hw'
        subst hw''
        have HU := HW.out.1 u
        have HV : Hid (Below w.heap.size w u.w) := HW.out.2.2 u
        have HU' : Hid (¬ Bad es k k -> Hid ((∀ j, j < k + 1 -> ¬ Bad es k j) /\ Below w.heap.size w u.w)) := HU
        obtain ⟨w4, hw4⟩ : ∃ w4, w4 = u.w := ⟨_, rfl⟩
        rw [<- hw4] at HU' HV ⊢
        clear HU hw4 k0 k1 hun NE u
        have N := HU'.out (HNB.out)
        clear HU'
        go_wp2
        go_roundg (gk - 1)
        case measure => omega
        case rel => exact ⟨k + 1, by go_num, by omega, N⟩
       ·have d1 : decide ((k : Int) < (l : Int)) = false := by rw [decide_eq_false_iff_not]; omega
        have d4 : decide (k < l) = false := by rw [decide_eq_false_iff_not]; omega
        have d5 : ((k : Int) == (l : Int)) = false := by rw [beq_eq_false_iff_ne]; omega
        have d6 : (k == l) = false := by rw [beq_eq_false_iff_ne]; omega
        have d7 : (k != l) = true := by rw [bne_iff_ne]; omega
        have d2 : ((k : Int) != (l : Int)) = true := by rw [bne_iff_ne]; omega
        go_wp2_with fail
        refine wp_region_class (S := Grew wr) (by kernel_rfl) (by kernel_rfl) (Below.refl _ wr).drew ?_
        repeat (go_big_quiet_step (with_reducible exact hun _))
        refine wpQuiet_nil ?_
        intro _ hw'
        obtain ⟨u, hw''⟩ := hw'
        subst hw''
        have HU := HW.out.1 u
        have HV : Hid (Below w.heap.size w u.w) := HW.out.2.2 u
        have HU' : Hid (¬ Bad es k l -> Hid ((∀ j, j < l + 1 -> ¬ Bad es k j) /\ Below w.heap.size w u.w)) := HU
        obtain ⟨w4, hw4⟩ : ∃ w4, w4 = u.w := ⟨_, rfl⟩
        rw [<- hw4] at HU' HV ⊢
        clear HU hw4 k0 k1 hun NE u
        cases f with
        | true =>
         have hct := HW.out.2.1 (⟨_, _, HX.out.1, HX.out.2.1, .inr ⟨by omega, HX.out.2.2⟩⟩)
         clear HU'
         go_wp2
         refine bodyPost_ret (results_tmp2 rfl _ _ _) rfl ?_
         exact ⟨by rw [hct]; rfl, HV.out⟩
        | false =>
         have N := HU'.out (by
           rintro ⟨a, b', h1, h2, h3⟩
           rw [HX.out.1] at h1
           rw [HX.out.2.1] at h2
           cases h1
           cases h2
           rcases h3 with ⟨g1, g2⟩ | ⟨g1, g2⟩
           ·omega
           ·first | omega | (rw [HX.out.2.2] at g2; cases g2))
         clear HU'
         go_wp2
         go_roundg (gk - 1)
         case measure => omega
         case rel => exact ⟨l + 1, by go_num, by omega, N⟩
      ·obtain rfl : l = i := by omega
       have HZ : Hid (∀ j l, j < k + 1 -> ¬ Bad es j l) := λ j l hj hb => by
        rcases Nat.lt_or_ge j k with q | q
        ·exact HR.out.1 j l q hb
        ·obtain rfl : j = k := by omega
         have hb2 := hb
         obtain ⟨_, _, _, h2, _⟩ := hb2
         exact HQ.out.1 l (by have := (List.getElem?_eq_some_iff.1 h2).1; rw [H.out.2] at this; exact this) hb
       go_wp2
       go_roundg (l - (k + 1))
       case measure => omega
       case rel => exact ⟨k + 1, by go_num, by omega, HZ.out, HQ.out.2⟩
    ·obtain rfl : k = i := by omega
     have htr : Tr es := not_bad (λ j l hb => by
      have hb2 := hb
      obtain ⟨_, _, h1, _, _⟩ := hb2
      exact HR.out.1 j l (by have := (List.getElem?_eq_some_iff.1 h1).1; rw [H.out.2] at this; exact this) hb)
     have hct : ftree es = (treeB es, 0) := by
      unfold ftree
      rw [if_pos (ctree_mk (by rw [H.out.2]; omega) HA.out.2.1 htr)]
     clear htr
     go_wp2
     refine bodyPost_ret (results_tmp2 rfl _ _ _) rfl ?_
     exact ⟨by rw [hct, HA.out.1]; rfl, HR.out.2⟩
end Go.Proofs.YtjlokpjflgbgdaaGreat

namespace Go.Proofs.YtjlokpjflgbgdaaGreat
open Go.RowKit
theorem one_read {r : Rs} (hr : r.2 = false) (hne : r.1 ≠ []) :
  ((rnum (rtxt r).2).2.2 = false /\ one r.1 = some (((rtxt r).1, UInt64.ofNat (rnum (rtxt r).2).1), (rnum (rtxt r).2).2.1)) ∨ ((rnum (rtxt r).2).2 = ([], true) /\ one r.1 = none) := by
 obtain ⟨l, s⟩ := r
 simp only at hr hne
 subst hr
 cases l with
 | nil => exact absurd rfl hne
 | cons x t =>
  have hx := x.toNat_lt
  have e1 : rcnt (x :: t, false) = (x.toNat, (t, false)) := by
   have := rcnt_app x.toNat (by omega) t false
   simpa using this
  have e2 : rtxt (x :: t, false) = rtake x.toNat (t, false) := by
   unfold rtxt
   rw [e1]
  rw [e2]
  by_cases h1 : t.length < x.toNat
  ·right
   have e3 : rtake x.toNat (t, false) = ([], ([], true)) := by unfold rtake; rw [if_pos h1]
   rw [e3]
   refine ⟨by unfold rnum rtake; simp, ?_⟩
   simp only [one]
   rw [if_pos (by omega)]
  ·have e3 : rtake x.toNat (t, false) = (t.take x.toNat, (t.drop x.toNat, false)) := by unfold rtake; rw [if_neg h1]
   rw [e3]
   by_cases h2 : t.length < x.toNat + 8
   ·right
    refine ⟨?_, ?_⟩
    ·unfold rnum rtake
     simp only
     rw [if_pos (by rw [List.length_drop]; omega)]
    ·simp only [one]
     rw [if_pos h2]
   ·left
    have e4 : rtake 8 (t.drop x.toNat, false) = ((t.drop x.toNat).take 8, ((t.drop x.toNat).drop 8, false)) := by
     unfold rtake
     simp only
     rw [if_neg (by rw [List.length_drop]; omega)]
    unfold rnum
    simp only
    rw [e4]
    refine ⟨rfl, ?_⟩
    simp only [one]
    rw [if_neg h2, List.drop_drop]
theorem read_less {r : Rs} (hr : r.2 = false) (hne : r.1 ≠ []) : (rnum (rtxt r).2).2.1.length < r.1.length := by
 rcases one_read hr hne with ⟨_, h⟩ | ⟨h, _⟩
 ·have := (one_some h).1
  have l := congrArg List.length this
  rw [List.length_append, entB_len] at l
  omega
 ·rw [h]
  cases hl : r.1 with
  | nil => exact absurd hl hne
  | cons x t => simp
def HalfT (bs : Bs) (es : List En) (r : Rs) : Prop := es.length <= 65 /\ Sm es /\ ((r.2 = false /\ bs = treeB es ++ r.1) ∨ (r = ([], true) /\ RT bs [] 9))
theorem HalfT.start (bs : Bs) : HalfT bs [] (bs, false) := ⟨by simp, λ e h => by simp at h, .inl ⟨rfl, by simp [treeB]⟩⟩
theorem HalfT.step {bs : Bs} {es : List En} {r : Rs} (h : HalfT bs es r) (hne : r.1 ≠ []) (h64 : es.length <= 64) :
  HalfT bs (es ++ [((rtxt r).1, UInt64.ofNat (rnum (rtxt r).2).1)]) (rnum (rtxt r).2).2 /\ (rnum (rtxt r).2).2.1.length < r.1.length := by
 obtain ⟨_, h2, h3⟩ := h
 rcases h3 with ⟨h3, h4⟩ | ⟨h3, _⟩
 ·refine ⟨⟨by simp; omega, h2.snoc (rtxt_len r), ?_⟩, read_less h3 hne⟩
  rcases one_read h3 hne with ⟨q1, q2⟩ | ⟨q1, q2⟩
  ·left
   refine ⟨q1, ?_⟩
   rw [treeB_snoc, List.append_assoc, <- (one_some q2).1]
   exact h4
  ·right
   exact ⟨q1, rt_none h2 h4 hne q2⟩
 ·rw [h3] at hne
  exact absurd rfl hne
theorem readTree_any {a : Option Addr} {n c : Nat} {bs : Bs} (w : World) (hb : BAt w (.slice a n c) bs) (hl : bs.length = n) :
  Calls Tryz.prog 81 #[.slice a n c] w λ e w' => ∃ es er v, e = .returned (.tuple #[v, .int .i64 er]) /\ Hid (RT bs es er /\ OwnG encE 69 w' w.heap.size v es /\ Below w.heap.size w w') := by
 have H : Hid (Rdr (w.alloc (.cells #[.slice a n c, .bool false] 260)) w.heap.size (bs, false) /\ Below w.heap.size w (w.alloc (.cells #[.slice a n c, .bool false] 260)) /\ (w.alloc (.cells #[.slice a n c, .bool false] 260)).heap.size = w.heap.size + 1 /\ bs.length = n) :=
  ⟨Rdr.new hb hl, bz1 _ _, by simp, hl⟩
 clear hb hl
 go_enter Tryz.func81, Tryz.ntmps81
 go_wp2_with fail
 go_loopg [5] n (λ m lv wr => ∃ (es : List En) (r : Rs) (la : Option Addr) (lc L : Nat), lv = .slice la L lc /\ L <= 65 /\ m = r.1.length /\ Hid (L = es.length /\ HalfT bs es r /\ Rdr wr w.heap.size r /\ OwnG encE 69 wr (w.heap.size + 1) lv es /\ Below w.heap.size w wr /\ w.heap.size + 1 <= wr.heap.size))
 case atStart => exact ⟨[], (bs, false), none, 0, 0, rfl, by omega, H.out.2.2.2.symm, rfl, HalfT.start bs, H.out.1, OwnG.nil _ _ _ _, H.out.2.1, by rw [H.out.2.2.1]; exact Nat.le_refl _⟩
 case round =>
  obtain ⟨es, r, la, lc, L, rfl, hL, hm, HR⟩ := hrel
  obtain ⟨ra, rc, hbx, _⟩ := HR.out.2.2.1.at_
  rw [<- hm] at hbx
  obtain ⟨x0, x1⟩ := hbx.cells
  clear hbx
  by_cases h0 : gk = 0
  ·subst h0
   have hr0 : r.1 = [] := List.eq_nil_of_length_eq_zero hm.symm
   have hh := HR.out.2.1
   obtain ⟨_, hsm, hq⟩ := hh
   clear hm
   cases hs : r.2 with
   | true =>
    rw [hs] at x1
    have hrt : RT bs [] 9 := by
     rcases hq with ⟨q1, _⟩ | ⟨_, q2⟩
     ·rw [hs] at q1; cases q1
     ·exact q2
    have HH : Hid (RT bs [] 9) := hrt
    clear hq hrt hs hr0 hsm
    go_wp2
    refine bodyPost_ret (results_tmp2 rfl _ _ _) rfl ?_
    exact ⟨[], 9, _, rfl, HH.out, OwnG.nil _ _ _ _, HR.out.2.2.2.2.1⟩
   | false =>
    rw [hs] at x1
    have hbs : bs = treeB es := by
     rcases hq with ⟨_, q2⟩ | ⟨q1, _⟩
     ·rw [hr0, List.append_nil] at q2; exact q2
     ·rw [q1] at hs; cases hs
    obtain ⟨ao', cap', e', o1, _, o3, _⟩ := OwnG.form HR.out.2.2.2.1
    rw [<- HR.out.1] at e' o1
    cases e'
    have hct := ctree_any wr o3 HR.out.1.symm (λ e he => by have := hsm e he; omega) o1
    obtain ⟨ce, hce⟩ : ∃ ce, ctree es = ce := ⟨_, rfl⟩
    rw [hce] at hct
    have HH : Hid (bs = treeB es /\ Sm es /\ ctree es = ce) := ⟨hbs, hsm, hce⟩
    clear hq hbs hsm hce o1 o3 hs hr0
    by_cases hc0 : ce = 0
    ·subst hc0
     go_wp2_with fail
     refine hct.mono ?_
     rintro e w2 ⟨rfl, hb2⟩
     go_wp2
     refine bodyPost_ret (results_tmp2 rfl _ _ _) rfl ?_
     exact ⟨es, 0, _, rfl, .inl ⟨rfl, HH.out.2.2, HH.out.1.symm⟩, (HR.out.2.2.2.1.below hb2).low (Nat.le_succ _), HR.out.2.2.2.2.1.trans (hb2.mono HR.out.2.2.2.2.1.size)⟩
    ·have m0 : (ce == 0) = false := by simpa using hc0
     have m1 : (ce != 0) = true := by simpa using hc0
     go_wp2_with fail
     refine hct.mono ?_
     rintro e w2 ⟨rfl, hb2⟩
     go_wp2
     refine bodyPost_ret (results_tmp2 rfl _ _ _) rfl ?_
     exact ⟨[], 9, _, rfl, rt_bad HH.out.2.1 HH.out.1.symm (by rw [HH.out.2.2]; exact hc0), OwnG.nil _ _ _ _, HR.out.2.2.2.2.1.trans (hb2.mono HR.out.2.2.2.2.1.size)⟩
  ·have d0 : (0 : Int) < (gk : Int) := by omega
   have hne : r.1 ≠ [] := by intro q; rw [q] at hm; simp at hm; exact h0 hm
   by_cases h64 : L <= 64
   ·have d1 : (L : Int) <= 64 := by omega
    have hst := HR.out.2.1.step hne (by rw [<- HR.out.1]; exact h64)
    obtain ⟨t, ht⟩ : ∃ t : ByteArray, t = ⟨(rtxt r).1.toArray⟩ := ⟨_, rfl⟩
    have htx := txt_any HR.out.2.2.1 t (rtxt r).2 (by rw [ht])
    obtain ⟨r1, hr1⟩ : ∃ r1, (rtxt r).2 = r1 := ⟨_, rfl⟩
    rw [hr1] at htx hst
    obtain ⟨v, hv⟩ : ∃ v, (rnum r1).1 = v := ⟨_, rfl⟩
    obtain ⟨r2, hr2⟩ : ∃ r2, (rnum r1).2 = r2 := ⟨_, rfl⟩
    have hrn : rnum r1 = (v, r2) := by rw [<- hv, <- hr2]
    have hvl : (UInt64.ofNat v).toNat = v := by
     have := rnum_lt r1
     rw [hv] at this
     rw [UInt64.toNat_ofNat']
     omega
    rw [hv, hr2] at hst
    have HS : Hid (HalfT bs (es ++ [((rtxt r).1, UInt64.ofNat v)]) r2 /\ r2.1.length < r.1.length /\ rnum r1 = (v, r2) /\ t = ⟨(rtxt r).1.toArray⟩ /\ (UInt64.ofNat v).toNat = v) := ⟨hst.1, hst.2, hrn, ht, hvl⟩
    clear hst hr1 hv hr2 hrn hvl ht
    go_wp2_with fail
    refine htx.mono ?_
    rintro e w2 ⟨rfl, J2⟩
    have hnu := num_any J2.out.1 v r2 HS.out.2.2.1
    clear htx x0 x1
    go_wp2_with fail
    refine hnu.mono ?_
    rintro e w3 ⟨rfl, J3⟩
    have T3 : Turned (λ i => i = w.heap.size) wr w3 := J2.out.2.trans J3.out.2 (λ _ _ q => q)
    have B3 : Below w.heap.size w w3 := HR.out.2.2.2.2.1.trans (T3.below HR.out.2.2.2.2.1.size (λ k hk q => by have q' : k = w.heap.size := q; omega))
    have o3 := HR.out.2.2.2.1.stays T3 (λ g hg q => by have := (HR.out.2.2.2.1.lt g hg).1; have q' : g = w.heap.size := q; omega)
    have s3 : w.heap.size + 1 <= w3.heap.size := Nat.le_trans HR.out.2.2.2.2.2 T3.size
    have J4 : Hid (OwnG encE 69 w3 (w.heap.size + 1) (.slice la L lc) es /\ Below w.heap.size w w3 /\ w.heap.size + 1 <= w3.heap.size) := ⟨o3, B3, s3⟩
    clear T3 B3 o3 s3 hnu
    go_wp2_with (at_builtin; refine appG_one encE 69 57 24 _ rfl Tryz.info69 Tryz.underlying57 rfl (.tmp 19) (.tmp 23) rfl (w.heap.size + 1) _ es ((rtxt r).1, UInt64.ofNat v) _ rfl J4.out.1 rfl (by rw [<- HR.out.1]; omega) (by rw [<- HR.out.1]; simp only [maxLen]; omega) J4.out.2.2 _ (by show _ = #[tx (rtxt r).1, Value.int .u64 ((UInt64.ofNat v).toNat : Int)]; rw [HS.out.2.2.2.2, HS.out.2.2.2.1]) ?_; intro v4 w4 ho4 hb4 hm4 ht4)
    obtain ⟨a4, c4, rfl, _, _, _, _⟩ := OwnG.form ho4
    have l4 : (es ++ [((rtxt r).1, UInt64.ofNat v)]).length = L + 1 := by rw [List.length_append, <- HR.out.1]; rfl
    rw [l4] at ho4 ⊢
    go_wp2
    go_roundg r2.1.length
    case measure => have := HS.out.2.1; omega
    case rel =>
     exact ⟨_, r2, a4, c4, L + 1, rfl, by omega, rfl, l4.symm, HS.out.1, J3.out.1.over hb4, ho4, J4.out.2.1.trans (hb4.mono (Nat.le_succ _)), Nat.le_trans J4.out.2.2 hb4.size⟩
   ·have d1 : decide ((L : Int) <= 64) = false := by rw [decide_eq_false_iff_not]; omega
    have hh := HR.out.2.1
    obtain ⟨_, hsm, hq⟩ := hh
    have hq2 : r.2 = false /\ bs = treeB es ++ r.1 := by
     rcases hq with q | ⟨q, _⟩
     ·exact q
     ·rw [q] at hne; exact absurd rfl hne
    rw [hq2.1] at x1
    have hrt : RT bs [] 9 := rt_long hsm (by rw [<- HR.out.1]; omega) hq2.2
    obtain ⟨ao', cap', e', o1, _, o3, _⟩ := OwnG.form HR.out.2.2.2.1
    rw [<- HR.out.1] at e' o1
    cases e'
    have hct := ctree_any wr o3 HR.out.1.symm (λ e he => by have := hsm e he; omega) o1
    have hce : ctree es = 4 := by unfold ctree; rw [if_pos (by rw [<- HR.out.1]; omega)]
    rw [hce] at hct
    have HH : Hid (RT bs [] 9) := hrt
    clear hq hq2 hsm hce o1 o3 hrt
    go_wp2_with fail
    refine hct.mono ?_
    rintro e w2 ⟨rfl, hb2⟩
    go_wp2
    refine bodyPost_ret (results_tmp2 rfl _ _ _) rfl ?_
    exact ⟨[], 9, _, rfl, HH.out, OwnG.nil _ _ _ _, HR.out.2.2.2.2.1.trans (hb2.mono HR.out.2.2.2.2.1.size)⟩
end Go.Proofs.YtjlokpjflgbgdaaGreat

namespace Go.Proofs.YtjlokpjflgbgdaaGreat
open Go.RowKit
theorem rvalue_at (t : ByteArray) (ht : t.size <= 8) (v : Nat) (hv : val t.data.toList = v) (w : World) :
  Calls Tryz.prog 110 #[.string t] w λ e w' => e = .returned (.int .u64 (v : Int)) /\ w' = w := by
 rw [<- hv]
 exact rvalue_any t ht w
theorem rreadTree_any (bs : Bs) (hn : bs.length <= 1000000) (w : World) :
  Calls Tryz.prog 139 #[tx bs] w λ e w' => ∃ es er v, e = .returned (.tuple #[v, .int .i64 er]) /\ Hid (RT bs es er /\ OwnG encE 230 w' w.heap.size v es /\ Below w.heap.size w w') := by
 obtain ⟨s, hs⟩ : ∃ s : ByteArray, s = ⟨bs.toArray⟩ := ⟨_, rfl⟩
 obtain ⟨N, hN⟩ : ∃ N, s.size = N := ⟨_, rfl⟩
 have hbl : bs.length = N := by rw [<- hN, hs]; show _ = bs.toArray.size; simp
 rw [show tx bs = .string s by rw [hs]]
 have H : Hid (s = ⟨bs.toArray⟩ /\ bs.length = N) := ⟨hs, hbl⟩
 have hN2 : N <= 1000000 := by omega
 clear hs hbl hn
 go_enter Tryz.func139, Tryz.ntmps139
 go_wp2_with fail
 go_loopg [4, 5] N (λ m lv av wr => ∃ (at_ L : Nat) (es : List En) (la : Option Addr) (lc : Nat), av = .int .i64 at_ /\ at_ + m = N /\ lv = .slice la L lc /\ L <= 65 /\ Hid (L = es.length /\ Sm es /\ bs = treeB es ++ bs.drop at_ /\ OwnG encE 230 wr w.heap.size lv es /\ Below w.heap.size w wr))
 case atStart => exact ⟨0, 0, [], none, 0, rfl, by omega, rfl, by omega, rfl, λ e h => by simp at h, by simp [treeB], OwnG.nil _ _ _ _, Below.refl _ _⟩
 case round =>
  obtain ⟨p, L, es, la, lc, rfl, hm, rfl, hL, HR⟩ := hrel
  by_cases hin : p < N
  ·have id : (p : Int) < (N : Int) := by omega
   have id0 : (0 : Int) <= (p : Int) := by omega
   have hps : p < s.size := by omega
   obtain ⟨y, hy⟩ : ∃ y, s[p] = y := ⟨_, rfl⟩
   have hyl := y.toNat_lt
   have wy : IntKind.i64.wrap (y.toNat : Int) = (y.toNat : Int) := by rw [IntKind.wrap_i64]; omega
   have hdr : bs.drop p = y :: bs.drop (p + 1) := by
    have hpl : p < bs.length := by rw [H.out.2]; exact hin
    rw [List.drop_eq_getElem_cons hpl]
    congr 1
    rw [<- hy]
    have hs := H.out.1
    subst hs
    simp [ByteArray.getElem_eq_getElem_data]
   obtain ⟨yn, hyn⟩ : ∃ yn, y.toNat = yn := ⟨_, rfl⟩
   obtain ⟨p1, hp1⟩ : ∃ p1, p + 1 = p1 := ⟨_, rfl⟩
   obtain ⟨p2, hp2⟩ : ∃ p2, p1 + yn = p2 := ⟨_, rfl⟩
   obtain ⟨p3, hp3⟩ : ∃ p3, p + yn + 9 = p3 := ⟨_, rfl⟩
   rw [hyn] at wy hyl
   have i1 : (p : Int) + 1 = (p1 : Int) := by omega
   have i2 : (p1 : Int) + (yn : Int) = (p2 : Int) := by omega
   have i3 : (p : Int) + (yn : Int) + 9 = (p3 : Int) := by omega
   by_cases hbad : N < p3
   ·have d1 : (N : Int) < (p3 : Int) := by omega
    have hrt : RT bs [] 9 := rt_none HR.out.2.1 HR.out.2.2.1 (by rw [hdr]; simp) (by
     rw [hdr]
     simp only [one]
     rw [if_pos (by rw [List.length_drop, H.out.2, hyn]; omega)])
    have HH : Hid (RT bs [] 9) := hrt
    clear hrt hdr hp1 hp2 hp3
    go_wp2
    refine bodyPost_ret (results_tmp2 rfl _ _ _) rfl ?_
    exact ⟨[], 9, _, rfl, HH.out, OwnG.nil _ _ _ _, HR.out.2.2.2.2⟩
   ·have d1 : decide ((N : Int) < (p3 : Int)) = false := by rw [decide_eq_false_iff_not]; omega
    by_cases h64 : 64 < L
    ·have d2 : (64 : Int) < (L : Int) := by omega
     have hrt : RT bs [] 9 := rt_long HR.out.2.1 (by rw [<- HR.out.1]; exact h64) HR.out.2.2.1
     have HH : Hid (RT bs [] 9) := hrt
     clear hrt hdr hp1 hp2 hp3
     go_wp2
     refine bodyPost_ret (results_tmp2 rfl _ _ _) rfl ?_
     exact ⟨[], 9, _, rfl, HH.out, OwnG.nil _ _ _ _, HR.out.2.2.2.2⟩
    ·have d2 : decide ((64 : Int) < (L : Int)) = false := by rw [decide_eq_false_iff_not]; omega
     have e1 : (0 : Int) <= (p1 : Int) := by omega
     have e2 : (p1 : Int) <= (p2 : Int) := by omega
     have e3 : (p2 : Int) <= (p3 : Int) := by omega
     have e4 : (p3 : Int) <= (N : Int) := by omega
     have e5 : (p2 : Int) <= (N : Int) := by omega
     have e6 : (0 : Int) <= (p2 : Int) := by omega
     have g1 : IntKind.i64.wrap (p1 : Int) = (p1 : Int) := by rw [IntKind.wrap_i64]; omega
     have g2 : IntKind.i64.wrap (p2 : Int) = (p2 : Int) := by rw [IntKind.wrap_i64]; omega
     have g3 : IntKind.i64.wrap (p3 : Int) = (p3 : Int) := by rw [IntKind.wrap_i64]; omega
     have g4 : IntKind.i64.wrap ((p : Int) + (yn : Int)) = (p : Int) + (yn : Int) := by rw [IntKind.wrap_i64]; omega
     obtain ⟨t1, ht1⟩ : ∃ t1, s.extract p1 p2 = t1 := ⟨_, rfl⟩
     obtain ⟨t2, ht2⟩ : ∃ t2, s.extract p2 p3 = t2 := ⟨_, rfl⟩
     obtain ⟨v, hv⟩ : ∃ v, val t2.data.toList = v := ⟨_, rfl⟩
     have ht2s : t2.size <= 8 := by rw [<- ht2, ByteArray.size_extract]; omega
     have hval := λ u => rvalue_at t2 ht2s v hv u
     have ht2l : t2.data.toList.length = t2.size := rfl
     have hvl : (UInt64.ofNat v).toNat = v := by rw [<- hv]; exact toNat_val (by omega)
     have hone : one (bs.drop p) = some ((t1.data.toList, UInt64.ofNat v), bs.drop p3) := by
      rw [hdr]
      simp only [one]
      rw [if_neg (by rw [List.length_drop, H.out.2, hyn]; omega), hyn, <- hv, <- ht1, <- ht2, H.out.1, ext_data, ext_data, List.drop_drop, List.drop_drop]
      rw [show p + 1 = p1 from hp1, show p2 - p1 = yn by omega, show p3 - p2 = 8 by omega, show p1 + yn = p2 from hp2, show p1 + (yn + 8) = p3 by omega]
     obtain ⟨ho1, ho2⟩ := one_some hone
     have hnew : bs = treeB (es ++ [(t1.data.toList, UInt64.ofNat v)]) ++ bs.drop p3 := by
      rw [treeB_snoc, List.append_assoc, <- ho1]
      exact HR.out.2.2.1
     have HV : Hid (∀ u, Calls Tryz.prog 110 #[.string t2] u λ e w' => e = .returned (.int .u64 (v : Int)) /\ w' = u) := hval
     have HZ : Hid (bs = treeB (es ++ [(t1.data.toList, UInt64.ofNat v)]) ++ bs.drop p3 /\ Sm (es ++ [(t1.data.toList, UInt64.ofNat v)]) /\ (UInt64.ofNat v).toNat = v) := ⟨hnew, HR.out.2.1.snoc ho2, hvl⟩
     have hp3N : p < p3 /\ p3 <= N := by omega
     clear hval hnew ho1 ho2 hone hvl hv hdr ht2s ht2l hp1 hp2 hp3
     go_wp2_with fail
     have HC : Hid (∀ j u, (encE.cells (t1.data.toList, UInt64.ofNat v))[j]? = some u -> (wr.drew.alloc (.cells #[.string t1, .int .u64 (v : Int)] 230)).cell? ((⟨wr.heap.size, 0, none⟩ : Addr).add j) = some u) := by
      have := cells_new encE wr.drew (t1.data.toList, UInt64.ofNat v) 230
      have e : (encE.cells (t1.data.toList, UInt64.ofNat v)).toArray = #[.string t1, .int .u64 (v : Int)] := by
       show #[tx t1.data.toList, Value.int .u64 ((UInt64.ofNat v).toNat : Int)] = _
       rw [HZ.out.2.2]
      rw [e] at this
      exact this
     have HX0 : Hid (Below w.heap.size w wr) := HR.out.2.2.2.2
     have HX1 : Hid (Below w.heap.size w wr.drew) := HR.out.2.2.2.2.drew
     go_region_held3 (λ u => Hid (Below w.heap.size w u))
      (first | with_reducible assumption | (refine keepA ?_; with_reducible assumption) | (refine keepD ?_; with_reducible assumption) | (refine keepD (keepA ?_); with_reducible assumption))
      (first
       | (refine stepG_at encE 230 117 24 _ rfl Tryz.info230 Tryz.underlying117 rfl (.tmp 29) (.tmp 50) rfl w.heap.size _ es (t1.data.toList, UInt64.ofNat v) rfl (HR.out.2.2.2.1.below ((Below.refl _ wr).drew.trans (bz1 wr.drew _))) wr.heap.size rfl HC.out (by rw [<- HR.out.1]; omega) (by rw [<- HR.out.1]; simp only [maxLen]; omega) (by have := HR.out.2.2.2.2.size; simp; omega) ?_; intro v4 w4 ho4 hb4 hm4 ht4; have HX4 : Hid (Below w.heap.size w w4) := HR.out.2.2.2.2.trans ((((bz1 wr _).drew).mono HR.out.2.2.2.2.size).trans hb4))
       | (go_at_call 110; (with_reducible refine (HV.out _).mono ?_); rintro e w3 ⟨rfl, hw3⟩; rw [hw3]; clear hw3 w3))
     all_goals
      obtain ⟨a4, c4, rfl, _, _, _, _⟩ := OwnG.form ho4
      have l4 : (es ++ [(t1.data.toList, UInt64.ofNat v)]).length = L + 1 := by rw [List.length_append, <- HR.out.1]; rfl
      rw [l4] at ho4 ⊢
      have HO : Hid (OwnG encE 230 w4 w.heap.size (.slice a4 (L + 1) c4) (es ++ [(t1.data.toList, UInt64.ofNat v)]) /\ (es ++ [(t1.data.toList, UInt64.ofNat v)]).length = L + 1) := ⟨ho4, l4⟩
      clear hb4 hm4 ht4 ho4 l4
      go_wp2
      go_roundg (N - p3)
      case measure => omega
      case rel => exact ⟨p3, L + 1, _, a4, c4, by go_num, by omega, rfl, by omega, HO.out.2.symm, HZ.out.2.1, HZ.out.1, HO.out.1, HX4.out⟩
  ·obtain rfl : p = N := by omega
   have hbs : bs = treeB es := by
    have := HR.out.2.2.1
    rw [List.drop_of_length_le (by rw [H.out.2]; omega), List.append_nil] at this
    exact this
   obtain ⟨ao', cap', e', o1, _, o3, _⟩ := OwnG.form HR.out.2.2.2.1
   rw [<- HR.out.1] at e' o1
   cases e'
   have hrt := rtree_any (c := lc) wr o3 HR.out.1.symm
   obtain ⟨fe, hfe⟩ : ∃ fe, (ftree es).2 = fe := ⟨_, rfl⟩
   obtain ⟨fb, hfb⟩ : ∃ fb : ByteArray, fb = ⟨(ftree es).1.toArray⟩ := ⟨_, rfl⟩
   rw [show tx (ftree es).1 = .string fb by rw [hfb], hfe] at hrt
   have HH : Hid (bs = treeB es /\ (ftree es).2 = fe) := ⟨hbs, hfe⟩
   clear o1 o3 hbs hfe hfb
   by_cases hf0 : fe = 0
   ·subst hf0
    go_wp2_with fail
    refine hrt.mono ?_
    rintro e w2 ⟨rfl, hb2⟩
    go_wp2
    refine bodyPost_ret (results_tmp2 rfl _ _ _) rfl ?_
    have hg : RT bs es 0 := by
     have := ftree_rt HH.out.2
     have h2 := this.back
     unfold ftree at h2
     split at h2
     ·rename_i q
      exact .inl ⟨rfl, q, HH.out.1.symm⟩
     ·rename_i q
      simp only [Prod.mk.injEq] at h2
      exact absurd h2.2 q
    exact ⟨es, 0, _, rfl, hg, HR.out.2.2.2.1.below hb2, HR.out.2.2.2.2.trans (hb2.mono HR.out.2.2.2.2.size)⟩
   ·have m0 : (fe == 0) = false := by simpa using hf0
    have m1 : (fe != 0) = true := by simpa using hf0
    go_wp2_with fail
    refine hrt.mono ?_
    rintro e w2 ⟨rfl, hb2⟩
    go_wp2
    refine bodyPost_ret (results_tmp2 rfl _ _ _) rfl ?_
    have hg : RT bs [] 9 := rt_bad HR.out.2.1 HH.out.1.symm (λ q => hf0 (by
     have := HH.out.2
     unfold ftree at this
     rw [if_pos q] at this
     exact this.symm))
    exact ⟨[], 9, _, rfl, hg, OwnG.nil _ _ _ _, HR.out.2.2.2.2.trans (hb2.mono HR.out.2.2.2.2.size)⟩
end Go.Proofs.YtjlokpjflgbgdaaGreat
