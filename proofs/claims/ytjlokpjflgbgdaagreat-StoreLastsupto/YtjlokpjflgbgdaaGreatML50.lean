/-
  Several texts, laid together.
-/
import Derived.Test.YtjlokpjflgbgdaaGreatML49
set_option maxHeartbeats 6400000
set_option maxRecDepth 100000
namespace Go.Proofs.YtjlokpjflgbgdaaGreat
open Go.RowKit
structure Wd.ans (v : Wd) : Prop where
 bl : ∀ i ∈ v.bl, v.st.has 1 i = true
 tl : ∀ i ∈ v.tl, v.st.has 2 i = true
 cl : ∀ i ∈ v.cl, v.st.has 3 i = true
theorem Stp.has {st st' : St} {d d' : Dk} (h : Stp st d st' d') {k : Int} {i : UInt64} (hh : st.has k i = true) : st'.has k i = true := by
 rcases h with ⟨rfl, rfl⟩ | ⟨f, _, _, rfl, rfl⟩
 ·exact hh
 ·unfold sapp
  simp only
  split
  ·exact has_take f hh
  ·exact hh
theorem snoc_all {P : UInt64 -> Prop} {xs : List UInt64} {x : UInt64} {q : Prop} [Decidable q] (h : ∀ i ∈ xs, P i) (hx : q -> P x) : ∀ i ∈ (if q then xs ++ [x] else xs), P i := by
 split
 ·rename_i hq
  intro i hi
  rcases List.mem_append.1 hi with r | r
  ·exact h i r
  ·rw [List.mem_singleton] at r
   rw [r]
   exact hx hq
 ·exact h
theorem sput_there {st : St} {d : Dk} {k : Int} {b : Bs} (h4 : k ≠ 4) (h5 : k ≠ 5) (h : (sput st d k b).2.2 = 0) : (sput st d k b).1.1.has k (sput st d k b).2.1 = true := by
 obtain ⟨g, e⟩ := sput_got h4 h5 h
 rw [e]
 exact has_get.2 ⟨_, g⟩
theorem Wd.ans.step {v : Wd} (h : v.ans) (hst : v.st.ok) (a : Ac) : (wstep a v).ans := by
 have hs := wstep_stp hst a
 have kb : ∀ i ∈ v.bl, (wstep a v).st.has 1 i = true := λ i q => hs.has (h.bl i q)
 have kt : ∀ i ∈ v.tl, (wstep a v).st.has 2 i = true := λ i q => hs.has (h.tl i q)
 have kc : ∀ i ∈ v.cl, (wstep a v).st.has 3 i = true := λ i q => hs.has (h.cl i q)
 clear hs
 unfold wstep at kb kt kc ⊢
 split
 ·rename_i q
  simp only [q, if_true] at kb kt kc
  refine ⟨snoc_all kb (λ hq => ?_), kt, kc⟩
  unfold sblob at hq ⊢
  split
  ·rename_i q2
   rw [if_pos q2] at hq
   simp at hq
  ·rename_i q2
   rw [if_neg q2] at hq
   exact sput_there (by decide) (by decide) hq
 ·rename_i q
  simp only [q, if_false] at kb kt kc
  split
  ·rename_i q1
   simp only [q1, if_true] at kb kt kc
   refine ⟨kb, snoc_all kt (λ hq => ?_), kc⟩
   unfold stree at hq ⊢
   split
   ·rename_i q2
    rw [if_pos q2] at hq
    exact absurd hq q2
   ·rename_i q2
    rw [if_neg q2] at hq
    split
    ·rename_i q3
     rw [if_pos q3] at hq
     simp at hq
    ·rename_i q3
     rw [if_neg q3] at hq
     exact sput_there (by decide) (by decide) hq
  ·rename_i q1
   simp only [q1, if_false] at kb kt kc
   split
   ·rename_i q2
    simp only [q2, if_true] at kb kt kc
    refine ⟨kb, kt, snoc_all kc (λ hq => ?_)⟩
    unfold scom at hq ⊢
    split
    ·rename_i q3
     rw [if_pos q3] at hq
     exact absurd hq q3
    ·rename_i q3
     rw [if_neg q3] at hq
     split
     ·rename_i q4
      rw [if_pos q4] at hq
      simp at hq
     ·rename_i q4
      rw [if_neg q4] at hq
      exact sput_there (by decide) (by decide) hq
   ·rename_i q2
    simp only [q2, if_false] at kb kt kc
    split
    ·rename_i q3
     simp only [q3, if_true] at kb kt kc
     exact ⟨kb, kt, kc⟩
    ·rename_i q3
     simp only [q3, if_false] at kb kt kc
     split
     ·rename_i q4
      simp only [q4, if_true] at kb kt kc
      exact ⟨kb, kt, kc⟩
     ·rename_i q4
      simp only [q4, if_false] at kb kt kc
      split
      ·rename_i q5
       simp only [q5, if_true] at kb kt kc
       exact ⟨kb, kt, kc⟩
      ·exact h
theorem coms_len (st : St) : st.coms.length = (st.objs.filter (λ o => decide (o.kind = 3))).length := by
 unfold St.coms
 rw [risU_len, List.length_map]
theorem coms_take (st : St) (f : Fr) : st.coms.length <= (st.take f).coms.length /\ (st.take f).coms.length <= st.coms.length + 1 := by
 rw [coms_len, coms_len]
 unfold St.take
 split
 ·exact ⟨Nat.le_refl _, Nat.le_succ _⟩
 ·split
  ·exact ⟨Nat.le_refl _, Nat.le_succ _⟩
  ·simp only [List.filter_append, List.length_append]
   have : (List.filter (λ o : Ob => decide (o.kind = 3)) [⟨f.1, oid f.1 f.2, f.2⟩]).length <= 1 := List.length_filter_le _ _
   omega
structure Wd.good (v : Wd) (n : Nat) : Prop where
 fine : v.fine n
 lk : Lk v.st v.d
 ans : v.ans
theorem Wd.good.step {v : Wd} {n : Nat} (h : v.good n) (a : Ac) : (wstep a v).good (n + 1) := ⟨h.fine.step a, h.lk.step h.fine.d.rise (wstep_stp h.fine.st a), h.ans.step h.fine.st a⟩
theorem Wd.good.more {v : Wd} {n : Nat} (h : v.good n) : v.good (n + 1) := ⟨h.fine.more, h.lk, h.ans⟩
structure Lasts (v : Wd) (st : St) : Prop where
 ok : st.ok
 size : st.size <= 262144
 bl : ∀ i ∈ v.bl, st.has 1 i = true
 tl : ∀ i ∈ v.tl, st.has 2 i = true
 cl : ∀ i ∈ v.cl, st.has 3 i = true
 few : v.st.coms.length <= st.coms.length /\ st.coms.length <= v.st.coms.length + 1
theorem Wd.good.lasts {v : Wd} {n : Nat} (h : v.good n) {st : St} {d : Dk} (hf : d.files = v.d.files) (he : st = (sread st0 (ofile d)).1) : Lasts v st := by
 have ho : ofile d = ofile v.d := by unfold ofile; rw [hf]
 rw [ho] at he
 subst he
 have hr := sread_ok (ofile v.d) St.ok0 rfl
 have hl : (ofile v.d).length <= 262144 := by
  unfold ofile
  cases q : fget v.d.files fileN with
  | none => simp
  | some b => exact h.fine.d.get q
 refine ⟨hr.1, by omega, ?_, ?_, ?_, ?_⟩
 all_goals
  rcases h.lk.back with q | ⟨f, _, _, q⟩
 ·rw [q]; exact h.ans.bl
 ·rw [q]; exact λ i hi => has_take f (h.ans.bl i hi)
 ·rw [q]; exact h.ans.tl
 ·rw [q]; exact λ i hi => has_take f (h.ans.tl i hi)
 ·rw [q]; exact h.ans.cl
 ·rw [q]; exact λ i hi => has_take f (h.ans.cl i hi)
 ·rw [q]; omega
 ·rw [q]; exact coms_take _ f
end Go.Proofs.YtjlokpjflgbgdaaGreat

namespace Go.Proofs.YtjlokpjflgbgdaaGreat
open Go.RowKit
section
variable {w w' : World} {s b : Nat} {st : St} {d d' : Dk} {U : Nat -> Prop}
theorem Duo.cuts (h : Duo w s b st d U) {x y : Int} (hx : -9223372036854775808 <= x /\ x <= 9223372036854775807) (hy : -9223372036854775808 <= y /\ y <= 9223372036854775807) :
  Calls Tryz.prog 16 #[.pointer (some ⟨b, 0, none⟩), .int .i64 x, .int .i64 y] w λ e w' => ∃ r, e = .returned (.int .i64 r) /\ Hid (r = (dcut d x y).2 /\ Duo w' s b st (dcut d x y).1 U /\ Turned (λ i => i = b) w w' /\ U b) := by
 obtain ⟨S, T, h1, h2, h3, h4, h5⟩ := h
 have hb : T b := by
  obtain ⟨m, f, a, k, q⟩ := h2
  exact q.mine.1
 refine (cut_at h2 hx hy).mono ?_
 rintro e w' ⟨r, rfl, hr, k1, k2⟩
 exact ⟨r, rfl, hr.out, ⟨S, T, h1.stays k2 (λ i q r => by have r' : i = b := r; rw [r'] at q; exact h3 _ q hb), k1, h3, h4, λ i q => Nat.lt_of_lt_of_le (h5 i q) k2.size⟩, k2, h4 _ (.inr hb)⟩
theorem Duo.deads (h : Duo w s b st d U) : Calls Tryz.prog 18 #[.pointer (some ⟨b, 0, none⟩)] w λ e w' => e = .returned (.bool d.dead) /\ w' = w := by
 obtain ⟨S, T, h1, h2, h3, h4, h5⟩ := h
 exact dead_at h2
end
theorem WI.disk {B : Nat} {E : Nat -> Prop} {w w' : World} {s b : Nat} {vf vo vr vt xb xt xc : Value} {U : Nat -> Prop} {st : St} {d d' : Dk} {bl tl cl : List UInt64} (h : WI B E w s b vf vo vr vt xb xt xc U st d bl tl cl) (hd : Duo w' s b st d' U) (ht : Turned (λ i => i = b) w w') (hb : U b) (hf : d'.files = d.files) : WI B E w' s b vf vo vr vt xb xt xc U st d' bl tl cl := by
 have ne : ∀ {v : Value}, (∀ g, v.ownBlock = some g -> ¬ U g) -> ∀ g, v.ownBlock = some g -> ¬ (λ i => i = b) g := by
  intro v q g hg r
  have r' : g = b := r
  rw [r'] at hg
  exact q b hg hb
 refine ⟨hd, h.low, ?_, h.fe, λ i q => Nat.lt_of_lt_of_le (h.elt i q) ht.size, h.ob.stays ht (ne h.fb), h.ot.stays ht (ne h.ft), h.oc.stays ht (ne h.fc), h.fb, h.ft, h.fc, h.bt, h.bc, h.tc⟩
 have hr := h.ref.turned ht (λ i q => by have q' : i = b := q; rw [q']; exact .inl (.inl hb))
 obtain ⟨fa, fl, fc, oa, on, oc, ra, rn, rc, ta, tn, tc, e, h1, h2, h3, h4⟩ := hr
 simp only [Value.agg.injEq, Array.mk.injEq, List.cons.injEq, and_true, true_and] at e
 obtain ⟨e1, e2, e3, e4⟩ := e
 refine ⟨fa, fl, fc, oa, on, oc, ra, rn, rc, ta, tn, tc, ?_, ?_, h2, h3, h4⟩
 ·rw [e1, e2, e3, e4]
 ·rw [hf]; exact h1
theorem dcut_files (d : Dk) (x y : Int) : (dcut d x y).1.files = d.files := by
 unfold dcut
 split
 ·rfl
 ·split <;> rfl
end Go.Proofs.YtjlokpjflgbgdaaGreat
