/-
  Several texts, laid together.
-/
import Derived.Test.YtjlokpjflgbgdaaGreatML16
import Derived.Test.YtjlokpjflgbgdaaGreatML31
set_option maxHeartbeats 6400000
set_option maxRecDepth 100000
namespace Go.Proofs.YtjlokpjflgbgdaaGreat
open Go.RowKit
theorem sapp_ok {st : St} {d : Dk} {f : Fr} (h : st.ok) (hf : st.fits f = true) (hl : f.2.length <= 8192) : (sapp st d f).1.ok := by
 unfold sapp
 simp only
 split
 ·exact ok_take h hf hl
 ·exact h
theorem sapp_more {st : St} {d : Dk} {f : Fr} (h : st.ok) : More st (sapp st d f).1 d (sapp st d f).2.1 := by
 have wr : (dapp d fileN (fseal f).1).1.writes <= d.writes + 1 := wr_lay _ _ _ _
 refine ⟨?_, wr, λ q => ok_app q _ _⟩
 unfold sapp
 simp only
 split
 ·exact size_take h
 ·omega
theorem sput_ok {st : St} {d : Dk} {k : Int} {b : Bs} (h : st.ok) (hk : k = 1 ∨ k = 2 ∨ k = 3) (hr : st.right (k, b) = true) (hl : b.length <= 8192) : (sput st d k b).1.1.ok := by
 unfold sput
 cases e : oget st.objs k (oid k b) with
 | some old =>
  simp only
  split <;> exact h
 | none =>
  simp only
  split
  ·exact h
  ·rename_i h0
   refine sapp_ok h ?_ hl
   unfold St.fits
   rw [if_neg (by show ¬ (k = 4 ∨ k = 5); omega), hr]
   have hh : st.has k (oid k b) = false := by
    unfold St.has
    rw [e]
    rfl
   simp [h0, hh]
theorem sblob_ok {st : St} {d : Dk} {b : Bs} (h : st.ok) : (sblob st d b).1.1.ok := by
 unfold sblob
 split
 ·exact h
 ·exact sput_ok h (.inl rfl) (by unfold St.right; rw [if_pos rfl]; simp; omega) (by omega)
theorem stree_ok {st : St} {d : Dk} {es : List En} (h : st.ok) : (stree st d es).1.1.ok := by
 unfold stree
 split
 ·exact h
 ·rename_i h1
  split
  ·exact h
  ·rename_i h2
   obtain ⟨c1, c2⟩ := ftree_zero (by simpa using h1)
   rw [c2]
   refine sput_ok h (.inr (.inl rfl)) ?_ (tree_short c1)
   unfold St.right
   rw [if_neg (by show ¬ (2 : Int) = 1; omega), if_pos rfl]
   simp only [rdtree_of c1]
   simpa using h2
theorem scom_ok {st : St} {d : Dk} {c : Cm} (h : st.ok) : (scom st d c).1.1.ok := by
 unfold scom
 split
 ·exact h
 ·rename_i h1
  split
  ·exact h
  ·rename_i h2
   obtain ⟨c1, c2⟩ := fcom_zero (by simpa using h1)
   rw [c2]
   refine sput_ok h (.inr (.inr rfl)) ?_ (by
    have h3 := (com_read c1).2.1
    have h4 := ccom_ok c1
    omega)
   unfold St.right
   rw [if_neg (by show ¬ (3 : Int) = 1; omega), if_neg (by show ¬ (3 : Int) = 2; omega), if_pos rfl]
   simp only [rdcom_of c1]
   simpa using h2
theorem sref_fits {st : St} {n : Bs} {i : UInt64} (hst : st.ok) (hin : isName n = true) (hg : st.has 3 i = true) : st.fits (4, labB i n) = true := by
 have hi0 : i ≠ 0 := by
  intro e
  rw [e, has_zero hst] at hg
  cases hg
 unfold St.fits
 rw [if_pos (.inl rfl)]
 simp [labI_of, labN_of, labB_len, hin, hg, hi0]
theorem lab_short {n : Bs} (i : UInt64) (h : isName n = true) : (labB i n).length <= 8192 := by
 rw [labB_len]
 have := name_len h
 omega
theorem sref_ok {st : St} {d : Dk} {n : Bs} {i : UInt64} (h : st.ok) : (sref st d n i).1.ok /\ More st (sref st d n i).1 d (sref st d n i).2.1 := by
 unfold sref
 split
 ·exact ⟨h, More.same _ _⟩
 ·rename_i h1
  split
  ·exact ⟨h, More.same _ _⟩
  ·rename_i h2
   have h1' : isName n = true := by simpa using h1
   exact ⟨sapp_ok h (sref_fits h h1' (by simpa using h2)) (lab_short i h1'), sapp_more h⟩
theorem stag_ok {st : St} {d : Dk} {n : Bs} {i : UInt64} (h : st.ok) : (stag st d n i).1.ok /\ More st (stag st d n i).1 d (stag st d n i).2.1 := by
 unfold stag
 split
 ·exact ⟨h, More.same _ _⟩
 ·rename_i h1
  split
  ·exact ⟨h, More.same _ _⟩
  ·rename_i h2
   split
   ·exact ⟨h, More.same _ _⟩
   ·rename_i h3
    have h1' : isName n = true := by simpa using h1
    have h2' : st.has 3 i = true := by simpa using h2
    have h3' : (nget st.tags n).isSome = false := by simpa using h3
    refine ⟨sapp_ok h ?_ (lab_short i h1'), sapp_more h⟩
    unfold St.fits
    rw [if_pos (.inr rfl)]
    simp [labI_of, labN_of, labB_len, h1', h2', h3']
theorem sdrop_ok {st : St} {d : Dk} {n : Bs} (h : st.ok) : (sdrop st d n).1.ok /\ More st (sdrop st d n).1 d (sdrop st d n).2.1 := by
 unfold sdrop
 split
 ·exact ⟨h, More.same _ _⟩
 ·rename_i h1
  split
  ·exact ⟨h, More.same _ _⟩
  ·rename_i h2
   have h1' : isName n = true := by simpa using h1
   have h2' : (nget st.refs n).isSome = true := by
    cases q : (nget st.refs n).isSome with
    | true => rfl
    | false => exact absurd q h2
   refine ⟨sapp_ok h ?_ (lab_short 0 h1'), sapp_more h⟩
   unfold St.fits
   rw [if_pos (.inl rfl)]
   simp [labI_of, labN_of, labB_len, h1', h2']
structure Wd where
 st : St
 d : Dk
 bl : List UInt64
 tl : List UInt64
 cl : List UInt64
structure Ac where
 k : Int
 data : Bs
 ps : List Bs
 qs : List Int
 nm : Bs
 dt : Int
def wstep (a : Ac) (v : Wd) : Wd :=
 if a.k = 0 then ⟨(sblob v.st v.d a.data).1.1, (sblob v.st v.d a.data).1.2, if (sblob v.st v.d a.data).2.2 = 0 then v.bl ++ [(sblob v.st v.d a.data).2.1] else v.bl, v.tl, v.cl⟩
 else if a.k = 1 then ⟨(stree v.st v.d (aents a.ps a.qs v.bl)).1.1, (stree v.st v.d (aents a.ps a.qs v.bl)).1.2, v.bl, if (stree v.st v.d (aents a.ps a.qs v.bl)).2.2 = 0 then v.tl ++ [(stree v.st v.d (aents a.ps a.qs v.bl)).2.1] else v.tl, v.cl⟩
 else if a.k = 2 then ⟨(scom v.st v.d (anode a.data a.qs a.dt v.tl v.cl)).1.1, (scom v.st v.d (anode a.data a.qs a.dt v.tl v.cl)).1.2, v.bl, v.tl, if (scom v.st v.d (anode a.data a.qs a.dt v.tl v.cl)).2.2 = 0 then v.cl ++ [(scom v.st v.d (anode a.data a.qs a.dt v.tl v.cl)).2.1] else v.cl⟩
 else if a.k = 3 then ⟨(sref v.st v.d a.nm (pickU v.cl (pickI a.qs 0))).1, (sref v.st v.d a.nm (pickU v.cl (pickI a.qs 0))).2.1, v.bl, v.tl, v.cl⟩
 else if a.k = 4 then ⟨(stag v.st v.d a.nm (pickU v.cl (pickI a.qs 0))).1, (stag v.st v.d a.nm (pickU v.cl (pickI a.qs 0))).2.1, v.bl, v.tl, v.cl⟩
 else if a.k = 5 then ⟨(sdrop v.st v.d a.nm).1, (sdrop v.st v.d a.nm).2.1, v.bl, v.tl, v.cl⟩
 else v
structure Wd.fine (v : Wd) (n : Nat) : Prop where
 st : v.st.ok
 d : v.d.ok
 writes : v.d.writes <= n
 size : v.st.size <= n
 bl : v.bl.length <= n
 tl : v.tl.length <= n
 cl : v.cl.length <= n
theorem snoc_len {xs : List UInt64} {x : UInt64} {p : Prop} [Decidable p] {n : Nat} (h : xs.length <= n) : (if p then xs ++ [x] else xs).length <= n + 1 := by
 split
 ·simp; omega
 ·omega
theorem Wd.fine.more {v : Wd} {n : Nat} (h : v.fine n) : v.fine (n + 1) := ⟨h.st, h.d, by have := h.writes; omega, by have := h.size; omega, by have := h.bl; omega, by have := h.tl; omega, by have := h.cl; omega⟩
theorem Wd.fine.step {v : Wd} {n : Nat} (h : v.fine n) (a : Ac) : (wstep a v).fine (n + 1) := by
 have hb := h.bl
 have ht := h.tl
 have hc := h.cl
 have hw := h.writes
 have hs := h.size
 have mk : ∀ {st' : St} {d' : Dk}, st'.ok -> More v.st st' v.d d' -> st'.ok /\ d'.ok /\ d'.writes <= n + 1 /\ st'.size <= n + 1 := by
  intro st' d' q m
  exact ⟨q, m.ok h.d, by have := m.writes; omega, by have := m.size; omega⟩
 unfold wstep
 split
 ·obtain ⟨q1, q2, q3, q4⟩ := mk (sblob_ok h.st) (sblob_more v.st v.d a.data)
  exact ⟨q1, q2, q3, q4, snoc_len hb, Nat.le_succ_of_le ht, Nat.le_succ_of_le hc⟩
 ·split
  ·obtain ⟨q1, q2, q3, q4⟩ := mk (stree_ok h.st) (stree_more v.st v.d (aents a.ps a.qs v.bl))
   exact ⟨q1, q2, q3, q4, Nat.le_succ_of_le hb, snoc_len ht, Nat.le_succ_of_le hc⟩
  ·split
   ·obtain ⟨q1, q2, q3, q4⟩ := mk (scom_ok h.st) (scom_more v.st v.d (anode a.data a.qs a.dt v.tl v.cl))
    exact ⟨q1, q2, q3, q4, Nat.le_succ_of_le hb, Nat.le_succ_of_le ht, snoc_len hc⟩
   ·split
    ·obtain ⟨q1, q2, q3, q4⟩ := mk (sref_ok h.st).1 (sref_ok h.st).2
     exact ⟨q1, q2, q3, q4, Nat.le_succ_of_le hb, Nat.le_succ_of_le ht, Nat.le_succ_of_le hc⟩
    ·split
     ·obtain ⟨q1, q2, q3, q4⟩ := mk (stag_ok h.st).1 (stag_ok h.st).2
      exact ⟨q1, q2, q3, q4, Nat.le_succ_of_le hb, Nat.le_succ_of_le ht, Nat.le_succ_of_le hc⟩
     ·split
      ·obtain ⟨q1, q2, q3, q4⟩ := mk (sdrop_ok h.st).1 (sdrop_ok h.st).2
       exact ⟨q1, q2, q3, q4, Nat.le_succ_of_le hb, Nat.le_succ_of_le ht, Nat.le_succ_of_le hc⟩
      ·exact h.more
end Go.Proofs.YtjlokpjflgbgdaaGreat

namespace Go.Proofs.YtjlokpjflgbgdaaGreat
open Go.RowKit
abbrev nilV : Value := .slice none 0 0
abbrev rm0 : Value := rm dk0 nilV nilV nilV nilV
theorem lg_nil {α : Type} (E : Enc α) (Z : Nat -> Prop) (w : World) : LG E Z w none 0 0 [] := ⟨rfl, Nat.le_refl _, RdG.nil _ _ _, λ h => absurd h (by omega)⟩
theorem rms0 (Z : Nat -> Prop) (w : World) : RMS Z w rm0 st0 dk0 :=
 ⟨none, 0, 0, none, 0, 0, none, 0, 0, none, 0, 0, rfl, lg_nil _ _ _, lg_nil _ _ _, lg_nil _ _ _, lg_nil _ _ _⟩
theorem rcut_none : (fcut []).1.length = 0 := by
 rw [fcut]
 simp
theorem ropen_none (w : World) :
  Calls Tryz.prog 47 #[.agg #[nilV, .int .i64 0, .bool false, .bool false, .int .i64 0, .int .i64 0]] w λ e w' => e = .returned (.tuple #[rm0, .int .i64 0]) /\ Below w.heap.size w w' := by
 obtain ⟨W, hW⟩ : ∃ W, ((w.alloc (.cells #[nilV, .int .i64 0, .bool false, .bool false, .int .i64 0, .int .i64 0] 28)).alloc zeroC).alloc zeroC = W := ⟨_, rfl⟩
 have NB : Hid (BoxA W w.heap.size 28 #[nilV, .int .i64 0, .bool false, .bool false, .int .i64 0, .int .i64 0] /\ BoxA W (w.heap.size + 1) 32 #[nilV, .int .i64 0, .bool false, .bool false, .int .i64 0, .int .i64 0, nilV, nilV, nilV] /\ BoxA W (w.heap.size + 2) 32 #[nilV, .int .i64 0, .bool false, .bool false, .int .i64 0, .int .i64 0, nilV, nilV, nilV] /\ Below w.heap.size w W) := by
  rw [<- hW]
  exact node_boxes3 _ _ _ _ _ _ _
 have HW : Hid (((w.alloc (.cells #[nilV, .int .i64 0, .bool false, .bool false, .int .i64 0, .int .i64 0] 28)).alloc zeroC).alloc zeroC = W) := hW
 clear hW
 have hda : Hid (Calls Tryz.prog 117 #[.agg #[nilV, .int .i64 0, .bool false, .bool false, .int .i64 0, .int .i64 0], .string ⟨#[111, 98, 106, 101, 99, 116, 115]⟩] W λ e w' => e = .returned (.string ⟨#[]⟩) /\ Below W.heap.size W w') := data_none (c := 0) dk0 fileN W (RdG.nil _ _ _) rfl (by omega) rfl
 have hcu : Hid (∀ w1, Calls Tryz.prog 118 #[.string ⟨#[]⟩] w1 λ e w' => ∃ a c n r, e = .returned (.tuple #[.slice a 0 c, .int .i64 n, .int .i64 r]) /\ Below w1.heap.size w1 w') := by
  intro w1
  refine (rcut_any [] w1 (by simp)).mono ?_
  rintro e w' ⟨lv, rfl, h⟩
  obtain ⟨a, c, e5, _, _, _, _⟩ := OwnG.form h.out.1
  have e0 := rcut_none
  rw [e0] at e5
  exact ⟨a, c, _, _, by rw [e5], h.out.2⟩
 have x0 := NB.out.1.cell (j := 0) rfl
 have x1 := NB.out.1.cell (j := 1) rfl
 have x2 := NB.out.1.cell (j := 2) rfl
 have x3 := NB.out.1.cell (j := 3) rfl
 have x4 := NB.out.1.cell (j := 4) rfl
 have x5 := NB.out.1.cell (j := 5) rfl
 go_enter Tryz.func47, Tryz.ntmps47
 go_upto_region 2 with fail
 rw [HW.out]
 go_wp2_with fail
 refine hda.out.mono ?_
 rintro e w1 ⟨rfl, b1⟩
 have B1 : Hid (Below W.heap.size W w1) := b1
 clear b1
 go_wp2_with fail
 refine (hcu.out w1).mono ?_
 rintro e w2 ⟨a, c, n, r, rfl, b2⟩
 have B2 : Hid (Below W.heap.size W w2) := B1.out.trans (b2.mono B1.out.size)
 clear b2 x0 x1 x2 x3 x4 x5
 go_wp2_with fail
 go_loopg [9, 10] 0 (λ m av iv wr => av = .int .i64 0 /\ iv = .int .i64 0 /\ Hid (Below W.heap.size W wr))
 case atStart => exact ⟨rfl, rfl, B2.out⟩
 case round =>
  obtain ⟨rfl, rfl, HR⟩ := hrel
  have y := λ (j : Nat) (v : Value) (h : #[nilV, .int .i64 0, .bool false, .bool false, .int .i64 0, .int .i64 0, nilV, nilV, nilV][j]? = some v) => (NB.out.2.2.1.below HR.out NB.out.2.2.1.lt).cell h
  have y0 := y 0 _ rfl
  have y1 := y 1 _ rfl
  have y2 := y 2 _ rfl
  have y3 := y 3 _ rfl
  have y4 := y 4 _ rfl
  have y5 := y 5 _ rfl
  have y6 := y 6 _ rfl
  have y7 := y 7 _ rfl
  have y8 := y 8 _ rfl
  have z := λ (j : Nat) (v : Value) (h : #[nilV, .int .i64 0, .bool false, .bool false, .int .i64 0, .int .i64 0, nilV, nilV, nilV][j]? = some v) => (NB.out.2.1.below HR.out NB.out.2.1.lt).cell h
  have f := (NB.out.2.1.below HR.out NB.out.2.1.lt).thaw
  have z0 := z 0 _ rfl
  have z1 := z 1 _ rfl
  have z2 := z 2 _ rfl
  have z3 := z 3 _ rfl
  have z4 := z 4 _ rfl
  have z5 := z 5 _ rfl
  have z6 := z 6 _ rfl
  have z7 := z 7 _ rfl
  have z8 := z 8 _ rfl
  have f0 := f 0
  have f1 := f 1
  have f2 := f 2
  have f3 := f 3
  have f4 := f 4
  have f5 := f 5
  have f6 := f 6
  have f7 := f 7
  have f8 := f 8
  have sz : (⟨#[]⟩ : ByteArray).size = 0 := rfl
  clear y z f
  go_wp2
  refine bodyPost_ret (v := .tuple #[.agg #[nilV, .int .i64 0, .bool false, .bool false, .int .i64 0, .int .i64 0, nilV, nilV, nilV], .int .i64 0]) ?_ rfl ⟨rfl, ?_⟩
  ·simp [results, Tryz.f47]
   go_simp
  ·have ht := lay_nine wr (w.heap.size + 1) nilV (.int .i64 0) (.bool false) (.bool false) (.int .i64 0) (.int .i64 0) nilV nilV nilV
   have b := NB.out.2.2.2.trans (HR.out.mono NB.out.2.2.2.size)
   exact b.trans (ht.below b.size (λ k hk q => by have q' : k = w.heap.size + 1 := q; omega))
end Go.Proofs.YtjlokpjflgbgdaaGreat

namespace Go.Proofs.YtjlokpjflgbgdaaGreat
open Go.RowKit
section
variable {S : Nat -> Prop} {X : Bs -> Prop} {w : World} {b m : Nat} {f : Bs -> Option Value} {a k : Int} {d : Dk}
theorem turned_mine {w' : World} (hb : S b) (h : Turned (λ i => i = b) w w') : Turned S w w' := h.mono (T := S) (λ i _ e => by rw [e]; exact hb)
theorem DiskM.since {w' : World} {d' : Dk} {f' : Bs -> Option Value} {a' : Int} (hD : DiskM w' b m f' a' k d' S) (w : World) : DiskAt w' b d' (Since S w w') :=
 ⟨m, f', a', k, DiskX.mono hD (λ _ q => .inl q) (λ _ q => q) (λ i hi => by
  rcases hi with q | q
  ·exact hD.lt i q
  ·exact q.2)⟩
end
end Go.Proofs.YtjlokpjflgbgdaaGreat

namespace Go.Proofs.YtjlokpjflgbgdaaGreat
open Go.RowKit
section
variable {S : Nat -> Prop} {w : World} {b m : Nat} {f : Bs -> Option Value} {a k : Int} {d : Dk}
theorem trim_bad (b : Nat) (n : Bs) (z : Int) (hg : isName n = false) : Calls Tryz.prog 79 #[.pointer (some ⟨b, 0, none⟩), tx n, .int .i64 z] w λ e w' => e = .returned (.int .i64 2) /\ w' = w := by
 have hc := find_bad (w := w) b n hg
 clear hg
 go_enter Tryz.func79, Tryz.ntmps79
 go_wp2_with fail
 refine hc.mono ?_
 rintro e w1 ⟨rfl, rfl⟩
 go_wp2
 go_ret
 exact ⟨rfl, rfl⟩
theorem trim_none (h : DiskM w b m f a k d S) (n : Bs) (z : Int) (hg : isName n = true) (hn : n.length <= maxLen) (hf : f n = none) : Calls Tryz.prog 79 #[.pointer (some ⟨b, 0, none⟩), tx n, .int .i64 z] w λ e w' => e = .returned (.int .i64 5) /\ w' = w := by
 have hc := find_none h n hg hn hf
 clear h hg hf
 go_enter Tryz.func79, Tryz.ntmps79
 go_wp2_with fail
 refine hc.mono ?_
 rintro e w1 ⟨rfl, rfl⟩
 go_wp2
 go_ret
 exact ⟨rfl, rfl⟩
theorem trim_range (h : DiskM w b m f a k d S) (n : Bs) (z : Int) (hg : isName n = true) (hn : n.length <= maxLen) {v : Value} {bs : Bs} (hf : f n = some v) (hO : OwnB w v bs) (hz : z < 0 ∨ (bs.length : Int) < z) :
  Calls Tryz.prog 79 #[.pointer (some ⟨b, 0, none⟩), tx n, .int .i64 z] w λ e w' => e = .returned (.int .i64 3) /\ w' = w := by
 have hc := find_ok h n hg hn hf
 obtain ⟨ao, cc, rfl, _⟩ := OwnG.form hO
 obtain ⟨L, hL⟩ : ∃ L, bs.length = L := ⟨_, rfl⟩
 rw [hL] at hz hc
 clear h hg hf hO hL
 by_cases h0 : z < 0
 ·have p : decide (z < 0) = true := by simpa using h0
  go_enter Tryz.func79, Tryz.ntmps79
  go_wp2_with fail
  refine hc.mono ?_
  rintro e w1 ⟨rfl, rfl⟩
  go_wp2
  go_ret
  exact ⟨rfl, rfl⟩
 ·have p : decide (z < 0) = false := by simpa using h0
  have p2 : decide ((L : Int) < z) = true := by rw [decide_eq_true_eq]; omega
  go_enter Tryz.func79, Tryz.ntmps79
  go_wp2_with fail
  refine hc.mono ?_
  rintro e w1 ⟨rfl, rfl⟩
  go_wp2
  go_ret
  exact ⟨rfl, rfl⟩
theorem trim_off (h : DiskM w b m f a k d S) (n : Bs) (z : Int) (hg : isName n = true) (hn : n.length <= maxLen) {v : Value} {bs : Bs} (hf : f n = some v) (hO : OwnB w v bs) (h0 : 0 <= z) (h1 : z <= (bs.length : Int)) (hb : d.after < 9223372036854775808) (hw : d.writes < 4611686018427387904) (hdo : (dnext d).2.1 = false) :
  Calls Tryz.prog 79 #[.pointer (some ⟨b, 0, none⟩), tx n, .int .i64 z] w λ e w' => e = .returned (.int .i64 8) /\ ∃ a', DiskM w' b m f a' k (dnext d).1 S /\ Turned (λ i => i = b) w w' := by
 have hc := find_ok h n hg hn hf
 have hwr := write_any h hb hw
 obtain ⟨ao, cc, rfl, _⟩ := OwnG.form hO
 obtain ⟨L, hL⟩ : ∃ L, bs.length = L := ⟨_, rfl⟩
 rw [hL] at h1 hc
 clear h hg hf hO hL
 have p : decide (z < 0) = false := by simpa using h0
 have p2 : decide ((L : Int) < z) = false := by rw [decide_eq_false_iff_not]; omega
 go_enter Tryz.func79, Tryz.ntmps79
 go_wp2_with fail
 refine hc.mono ?_
 rintro e w1 ⟨rfl, hw1⟩
 rw [hw1]
 clear hw1 w1
 go_wp2_with fail
 refine hwr.mono ?_
 rintro e w2 ⟨r, a', rfl, hr, hD, ht2⟩
 have er : r = 8 := by rw [hr.out, if_neg (by rw [hdo]; simp)]
 subst er
 have W2 : Hid (DiskM w2 b m f a' k (dnext d).1 S /\ Turned (λ i => i = b) w w2) := ⟨hD, ht2⟩
 clear hD ht2 hr
 go_wp2
 go_ret
 exact ⟨rfl, a', W2.out⟩
theorem fresh_mid {w1 w2 w3 : World} {v3 : Value} {cs : Bs} {a' : Int} {d' : Dk} (h : S b) (hS : ∀ i, S i -> i < w.heap.size) (T1 : Turned (λ i => i = b) w w1) (hD : DiskM w1 b m f a' k d' S) (hw2 : w1 = w2) (B3 : Below w2.heap.size w2 w3) (hO : OwnG encB 5 w3 w2.heap.size v3 cs) :
  DiskM w3 b m f a' k d' (Since S w w3) /\ OwnB w3 v3 cs /\ (∀ y u g, f y = some u -> u.ownBlock = some g -> v3.ownBlock ≠ some g) /\ (∀ g, v3.ownBlock = some g -> Since S w w3 g) /\ Turned S w w3 := by
 subst hw2
 have hsz := T1.size
 refine ⟨DiskX.mono (DiskX.below hD B3) (λ _ q => .inl q) (λ _ q => q) (λ i hi => ?_), OwnG.low hO (Nat.zero_le _), ?_, ?_, (turned_mine h T1).trans (Turned.ofBelow (S := S) B3) (λ _ _ q => q)⟩
 ·rcases hi with q | q
  ·exact Nat.lt_of_lt_of_le (hS i q) (Nat.le_trans hsz B3.size)
  ·exact q.2
 ·intro y u g hu hg q
  have h1 := (hO.lt g q).1
  have h2 := DiskM.row_lt hD hu hg
  omega
 ·intro g hg
  have h1 := hO.lt g hg
  exact .inr ⟨by omega, h1.2⟩
theorem trim_ok (h : DiskM w b m f a k d S) (hrise : FRise d.files) (hfl : d.files.length <= 1000) (n : Bs) (z : Nat) (hg : isName n = true) (hn : n.length <= 140737488355328) {v : Value} {bs : Bs} (hf : f n = some v) (hO : OwnB w v bs) (hbl : bs.length <= 262144) (h1 : z <= bs.length) (hb : d.after < 9223372036854775808) (hw : d.writes < 4611686018427387904) (hdo : (dnext d).2.1 = true) :
  Calls Tryz.prog 79 #[.pointer (some ⟨b, 0, none⟩), tx n, .int .i64 (z : Int)] w λ e w' => e = .returned (.int .i64 0) /\ DiskAt w' b { (dnext d).1 with files := fwith d.files n (bs.take z) } (Since S w w') /\ Turned S w w' := by
 have hc := find_ok h n hg (by simp only [maxLen]; omega) hf
 have hwr := write_any h hb hw
 have H : Hid (DiskM w b m f a k d S /\ FRise d.files /\ d.files.length <= 1000 /\ f n = some v /\ OwnB w v bs) := ⟨h, hrise, hfl, hf, hO⟩
 obtain ⟨v', hsl, hsb⟩ := bslice_j (j := z) w (OwnB.at hO) h1
 have SB : Hid (∀ w, BAt w v bs -> BAt w v' (bs.take z)) := hsb
 obtain ⟨ao, cc, rfl, _⟩ := OwnG.form hO
 obtain ⟨L, hL⟩ : ∃ L, bs.length = L := ⟨_, rfl⟩
 rw [hL] at h1 hc H SB hsl hbl
 have LL : Hid (bs.length = L) := hL
 clear h hg hf hO hL hsb
 have p : decide ((z : Int) < 0) = false := by rw [decide_eq_false_iff_not]; omega
 have p2 : decide ((L : Int) < (z : Int)) = false := by rw [decide_eq_false_iff_not]; omega
 go_enter Tryz.func79, Tryz.ntmps79
 go_wp2_with fail
 refine hc.mono ?_
 rintro e w1 ⟨rfl, hw1⟩
 rw [hw1]
 clear hw1 w1
 go_wp2_with fail
 refine hwr.mono ?_
 rintro e w2 ⟨r, a', rfl, hr, hD, ht2⟩
 have er : r = 0 := by rw [hr.out, if_pos hdo]
 subst er
 have ef : (dnext d).1.files = d.files := dnext_files d
 have W2 : Hid (DiskM w2 b m f a' k (dnext d).1 S /\ Turned (λ i => i = b) w w2) := ⟨hD, ht2⟩
 have b2 : OwnB w2 (.slice ao L cc) bs := H.out.2.2.2.2.turned ht2 (λ g hg e => (DiskM.row_ne H.out.1 H.out.2.2.2.1 hg).1 e)
 have hcl := bclone_any w2 (SB.out w2 (OwnB.at b2)) (by rw [List.length_take, LL.out]; omega)
 clear hD ht2 hr hwr hc b2
 go_wp2_with fail
 refine hcl.mono ?_
 rintro e w3 ⟨v3, rfl, O3, B3⟩
 have F := fresh_mid H.out.1.mine.1 H.out.1.lt W2.out.2 W2.out.1 rfl B3 O3
 have hs := set_any F.1 (by rw [ef]; exact H.out.2.1) (by rw [ef]; exact H.out.2.2.1) hn (λ _ q => q.elim) F.2.1 (λ y u g _ hu hg => F.2.2.1 y u g hu hg) F.2.2.2.1
 have FT : Hid (Turned S w w3) := F.2.2.2.2
 clear F O3 B3 hcl
 go_wp2_with fail
 refine hs.mono ?_
 rintro e w4 ⟨rfl, D4, T4⟩
 have E := lay_end H.out.1.mine.2 FT.out D4 T4
 rw [ef] at E
 clear D4 T4 hs
 go_wp2
 go_ret
 exact ⟨rfl, E.1, E.2⟩
theorem trim_at (h : DiskAt w b d S) (hk : d.ok) (hw : d.writes < 4611686018427387904) (n : Bs) (hn : n.length <= 140737488355328) (z : Int) :
  Calls Tryz.prog 79 #[.pointer (some ⟨b, 0, none⟩), tx n, .int .i64 z] w λ e w' => ∃ r, e = .returned (.int .i64 r) /\ Hid (r = (dtrim d n z).2) /\ DiskAt w' b (dtrim d n z).1 (Since S w w') /\ Turned S w w' := by
 obtain ⟨m, f, a, k, h⟩ := h
 have hn' : n.length <= maxLen := by simp only [maxLen]; omega
 unfold dtrim
 by_cases hg : isName n = false
 ·refine (trim_bad b n z hg).mono ?_
  rintro e w' ⟨rfl, rfl⟩
  rw [if_pos hg]
  exact ⟨2, rfl, rfl, DiskM.same h, Turned.refl _ _⟩
 ·rw [if_neg hg]
  have hg' : isName n = true := by simpa using hg
  rcases h.file n with ⟨h1, h2⟩ | ⟨bs, v, h1, h2, ho⟩
  ·refine (trim_none h n z hg' hn' h2).mono ?_
   rintro e w' ⟨rfl, rfl⟩
   rw [h1]
   exact ⟨5, rfl, rfl, DiskM.same h, Turned.refl _ _⟩
  ·rw [h1]
   have ho : OwnB w v bs := ho.elim False.elim id
   by_cases hz : z < 0 ∨ (bs.length : Int) < z
   ·refine (trim_range h n z hg' hn' h2 ho hz).mono ?_
    rintro e w' ⟨rfl, rfl⟩
    simp only [hz, if_true]
    exact ⟨3, rfl, rfl, DiskM.same h, Turned.refl _ _⟩
   ·obtain ⟨q, rfl⟩ : ∃ q : Nat, z = (q : Int) := ⟨z.toNat, by omega⟩
    by_cases hdo : (dnext d).2.1 = true
    ·refine (trim_ok h hk.rise (by have := hk.few; omega) n q hg' hn h2 ho (hk.get h1) (by omega) hk.after hw hdo).mono ?_
     rintro e w' ⟨rfl, h3, h4⟩
     simp only [hz, hdo, if_true, if_false, Int.toNat_natCast]
     exact ⟨0, rfl, rfl, h3, h4⟩
    ·have hdo' : (dnext d).2.1 = false := by simpa using hdo
     refine (trim_off h n q hg' hn' h2 ho (by omega) (by omega) hk.after hw hdo').mono ?_
     rintro e w' ⟨rfl, a', h3, h4⟩
     simp only [hz, hdo', Bool.false_eq_true, if_false]
     exact ⟨8, rfl, rfl, DiskM.since h3 w, turned_mine h.mine.1 h4⟩
end
end Go.Proofs.YtjlokpjflgbgdaaGreat
