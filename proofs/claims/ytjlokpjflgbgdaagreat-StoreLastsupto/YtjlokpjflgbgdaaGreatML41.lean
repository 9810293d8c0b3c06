/-
  Several texts, laid together.
-/
import Derived.Test.YtjlokpjflgbgdaaGreatML40
import Derived.Sort.Defs
set_option maxHeartbeats 6400000
set_option maxRecDepth 100000
namespace Go.Proofs.YtjlokpjflgbgdaaGreat
open Go.RowKit
theorem sealB_parts (k : Int) (body rest : Bs) : sealB k body ++ rest = b4 body.length ++ (UInt8.ofNat k.toNat :: (body ++ (b4 (crc (headB k body)) ++ rest))) := by
 simp [sealB, headB]
theorem take4 (n : Nat) (t : Bs) : (b4 n ++ t).take 4 = b4 n := by
 rw [List.take_append_of_le_length (by rw [b4_len]; exact Nat.le_refl _), List.take_of_length_le (by rw [b4_len]; exact Nat.le_refl _)]
theorem fopen_seal {k : Int} {body : Bs} (rest : Bs) (h0 : 0 <= k) (h1 : k <= 255) (hl : body.length <= 8192) : fopen (sealB k body ++ rest) = ((k, body), 9 + body.length, 0) := by
 have hp := sealB_parts k body rest
 have ht : (sealB k body ++ rest).take 4 = b4 body.length := by rw [hp, take4]
 have hv : val ((sealB k body ++ rest).take 4) = body.length := by rw [ht, val_b4 (by omega)]
 have hlen : (sealB k body ++ rest).length = 9 + body.length + rest.length := by rw [List.length_append, sealB_len]
 have hh : (sealB k body ++ rest).take (5 + body.length) = headB k body := by
  rw [sealB, List.append_assoc, List.take_append_of_le_length (by rw [headB_len]; exact Nat.le_refl _), List.take_of_length_le (by rw [headB_len]; exact Nat.le_refl _)]
 have hd : (sealB k body ++ rest).drop (5 + body.length) = b4 (crc (headB k body)) ++ rest := by
  rw [sealB, List.append_assoc, List.drop_append_of_le_length (by rw [headB_len]; exact Nat.le_refl _), List.drop_of_length_le (by rw [headB_len]; exact Nat.le_refl _), List.nil_append]
 have h4 : (sealB k body ++ rest).getD 4 0 = UInt8.ofNat k.toNat := by rw [hp]; rfl
 have h5 : ((sealB k body ++ rest).drop 5).take body.length = body := by
  rw [hp]
  show (body ++ _).take body.length = body
  rw [List.take_append_of_le_length (Nat.le_refl _), List.take_of_length_le (Nat.le_refl _)]
 unfold fopen
 rw [hv, if_neg (by omega), if_neg (by omega), if_neg (by omega), hh, hd, take4, val_b4 (crc_lt _), if_neg (by simp), h4, h5]
 have e : ((UInt8.ofNat k.toNat).toNat : Int) = k := by rw [UInt8.toNat_ofNat']; omega
 rw [e]
theorem fopen_torn {k : Int} {body : Bs} {m : Nat} (hl : body.length <= 8192) (hm : m < 9 + body.length) : fopen ((sealB k body).take m) = ((0, []), 0, 10) := by
 have hlen : ((sealB k body).take m).length = m := by rw [List.length_take, sealB_len]; omega
 unfold fopen
 by_cases h : m < 4
 ·rw [if_pos (by omega)]
 ·have ht : ((sealB k body).take m).take 4 = b4 body.length := by
   rw [List.take_take, Nat.min_eq_left (by omega)]
   have := sealB_parts k body []
   rw [List.append_nil] at this
   rw [this, take4]
  rw [if_neg (by omega), ht, val_b4 (by omega), if_neg (by omega), if_pos (by omega)]
theorem fseal_ok {k : Int} {body : Bs} (h0 : 0 <= k) (h1 : k <= 255) (hl : body.length <= 8192) : fseal (k, body) = (sealB k body, 0) := by
 unfold fseal
 rw [if_neg (by simp only; omega), if_neg (by simp only; omega)]
theorem fopen_ext {b c : Bs} (h : (fopen b).2.2 = 0) (he : c.take (fopen b).2.1 = b.take (fopen b).2.1) (hl : (fopen b).2.1 <= c.length) : fopen c = fopen b := by
 obtain ⟨h1, h2, h3, h4, h5⟩ := fopen_ok h
 rw [h5] at he hl ⊢
 simp only at he hl
 obtain ⟨v, hv⟩ : ∃ v, val (b.take 4) = v := ⟨_, rfl⟩
 rw [hv] at h2 h3 h4 h5 he hl ⊢
 have tk : ∀ k, k <= 9 + v -> c.take k = b.take k := by
  intro k hk
  have := congrArg (List.take k) he
  rw [List.take_take, List.take_take, Nat.min_eq_left hk] at this
  exact this
 have dt : ∀ i k, i + k <= 9 + v -> (c.drop i).take k = (b.drop i).take k := by
  intro i k hk
  have := congrArg (List.drop i) (tk (i + k) hk)
  rw [List.drop_take, List.drop_take, show i + k - i = k by omega] at this
  exact this
 have g4 : c.getD 4 0 = b.getD 4 0 := by
  have e := congrArg (λ l : Bs => l[4]?) (tk 5 (by omega))
  simp only [List.getElem?_take] at e
  simp only [show (4 : Nat) < 5 by omega, if_true] at e
  rw [List.getD_eq_getElem?_getD, List.getD_eq_getElem?_getD, e]
 have hv' : val (c.take 4) = v := by rw [tk 4 (by omega), hv]
 unfold fopen
 rw [hv', if_neg (by omega), if_neg (by omega), if_neg (by omega), dt (5 + v) 4 (by omega), tk (5 + v) (by omega), if_neg (by rw [h4]; simp), g4, dt 5 v (by omega)]
theorem fopen_app {b : Bs} (r : Bs) (h : (fopen b).2.2 = 0) : fopen (b ++ r) = fopen b := by
 have h9 := fopen_n h
 exact fopen_ext h (List.take_append_of_le_length h9.2.1) (by rw [List.length_append]; omega)
theorem sread_app : ∀ (n : Nat) (b r : Bs) (s0 st : St), b.length <= n -> sread s0 b = (st, b.length) -> sread s0 (b ++ r) = ((sread st r).1, b.length + (sread st r).2)
 | n, b, r, s0, st, hn, h => by
  by_cases h0 : b = []
  ·subst h0
   rw [sread_nil] at h
   cases h
   simp
  ·have hp : 0 < b.length := by
    rcases b with _ | _
    ·exact absurd rfl h0
    ·simp
   by_cases hf : (fopen b).2.2 = 0 /\ s0.fits (fopen b).1 = true
   ·rw [sread_step hp hf] at h
    have h9 := fopen_n hf.1
    obtain ⟨e1, e2⟩ := Prod.mk.inj h
    obtain ⟨k, hk⟩ : ∃ k, (fopen b).2.1 = k := ⟨_, rfl⟩
    have ih : sread (s0.take (fopen b).1) (b.drop (fopen b).2.1) = (st, (b.drop (fopen b).2.1).length) := by
     rw [List.length_drop]
     refine Prod.ext e1 ?_
     show (sread _ _).2 = _
     omega
    cases n with
    | zero => omega
    | succ n =>
     have := sread_app n (b.drop (fopen b).2.1) r _ st (by rw [List.length_drop]; omega) ih
     have ha := fopen_app r hf.1
     rw [sread_step (by rw [List.length_append]; omega) (by rw [ha]; exact hf), ha, List.drop_append_of_le_length h9.2.1, this, List.length_drop]
     refine Prod.ext rfl ?_
     show _ + (_ + _) = _ + _
     omega
   ·rw [sread_stop hf] at h
    have := (Prod.mk.inj h).2
    omega
theorem sread_seal {st : St} {f : Fr} (hf : st.fits f = true) (hl : f.2.length <= 8192) : sread st (sealB f.1 f.2) = (st.take f, (sealB f.1 f.2).length) := by
 have hk := fits_kind hf
 have ho := fopen_seal (k := f.1) (body := f.2) [] (by omega) (by omega) hl
 rw [List.append_nil] at ho
 have e : ((f.1, f.2) : Fr) = f := rfl
 rw [sread_step (by rw [sealB_len]; omega) (by rw [ho]; exact ⟨rfl, hf⟩), ho]
 simp only
 rw [List.drop_of_length_le (by rw [sealB_len]; exact Nat.le_refl _), sread_nil, sealB_len]
 rfl
theorem sread_torn {st : St} {f : Fr} (hf : st.fits f = true) (hl : f.2.length <= 8192) (m : Nat) : (sread st ((sealB f.1 f.2).take m)).1 = st ∨ (sread st ((sealB f.1 f.2).take m)).1 = st.take f := by
 by_cases hm : m < 9 + f.2.length
 ·left
  rw [sread_stop (by rw [fopen_torn hl hm]; simp)]
 ·right
  rw [List.take_of_length_le (by rw [sealB_len]; omega), sread_seal hf hl]
def Stp (st : St) (d : Dk) (st' : St) (d' : Dk) : Prop := (st' = st /\ d' = d) ∨ ∃ f, st.fits f = true /\ f.2.length <= 8192 /\ st' = (sapp st d f).1 /\ d' = (sapp st d f).2.1
theorem sput_stp {st : St} {d : Dk} {k : Int} {b : Bs} (hk : k = 1 ∨ k = 2 ∨ k = 3) (hr : st.right (k, b) = true) (hl : b.length <= 8192) : Stp st d (sput st d k b).1.1 (sput st d k b).1.2 := by
 unfold sput
 cases e : oget st.objs k (oid k b) with
 | some old =>
  simp only
  split <;> exact .inl ⟨rfl, rfl⟩
 | none =>
  simp only
  split
  ·exact .inl ⟨rfl, rfl⟩
  ·rename_i h0
   refine .inr ⟨(k, b), ?_, hl, rfl, rfl⟩
   unfold St.fits
   rw [if_neg (by show ¬ (k = 4 ∨ k = 5); omega), hr]
   have hh : st.has k (oid k b) = false := by
    unfold St.has
    rw [e]
    rfl
   simp [h0, hh]
theorem wstep_stp {v : Wd} (hst : v.st.ok) (a : Ac) : Stp v.st v.d (wstep a v).st (wstep a v).d := by
 unfold wstep
 split
 ·show Stp v.st v.d (sblob v.st v.d a.data).1.1 (sblob v.st v.d a.data).1.2
  unfold sblob
  split
  ·exact .inl ⟨rfl, rfl⟩
  ·exact sput_stp (.inl rfl) (by unfold St.right; rw [if_pos rfl]; simp; omega) (by omega)
 ·split
  ·obtain ⟨es, hes⟩ : ∃ es, aents a.ps a.qs v.bl = es := ⟨_, rfl⟩
   show Stp v.st v.d (stree v.st v.d (aents a.ps a.qs v.bl)).1.1 (stree v.st v.d (aents a.ps a.qs v.bl)).1.2
   rw [hes]
   unfold stree
   split
   ·exact .inl ⟨rfl, rfl⟩
   ·rename_i h1
    split
    ·exact .inl ⟨rfl, rfl⟩
    ·rename_i h2
     obtain ⟨c1, c2⟩ := ftree_zero (by simpa using h1)
     rw [c2]
     refine sput_stp (.inr (.inl rfl)) ?_ (tree_short c1)
     unfold St.right
     rw [if_neg (by show ¬ (2 : Int) = 1; omega), if_pos rfl]
     simp only [rdtree_of c1]
     simpa using h2
  ·split
   ·obtain ⟨c, hc⟩ : ∃ c, anode a.data a.qs a.dt v.tl v.cl = c := ⟨_, rfl⟩
    show Stp v.st v.d (scom v.st v.d (anode a.data a.qs a.dt v.tl v.cl)).1.1 (scom v.st v.d (anode a.data a.qs a.dt v.tl v.cl)).1.2
    rw [hc]
    unfold scom
    split
    ·exact .inl ⟨rfl, rfl⟩
    ·rename_i h1
     split
     ·exact .inl ⟨rfl, rfl⟩
     ·rename_i h2
      obtain ⟨c1, c2⟩ := fcom_zero (by simpa using h1)
      rw [c2]
      refine sput_stp (.inr (.inr rfl)) ?_ (by
       have h3 := (com_read c1).2.1
       have h4 := ccom_ok c1
       omega)
      unfold St.right
      rw [if_neg (by show ¬ (3 : Int) = 1; omega), if_neg (by show ¬ (3 : Int) = 2; omega), if_pos rfl]
      simp only [rdcom_of c1]
      simpa using h2
   ·split
    ·obtain ⟨i, hi⟩ : ∃ i, pickU v.cl (pickI a.qs 0) = i := ⟨_, rfl⟩
     show Stp v.st v.d (sref v.st v.d a.nm (pickU v.cl (pickI a.qs 0))).1 (sref v.st v.d a.nm (pickU v.cl (pickI a.qs 0))).2.1
     rw [hi]
     unfold sref
     split
     ·exact .inl ⟨rfl, rfl⟩
     ·rename_i h1
      split
      ·exact .inl ⟨rfl, rfl⟩
      ·rename_i h2
       have h1' : isName a.nm = true := by simpa using h1
       exact .inr ⟨_, sref_fits hst h1' (by simpa using h2), lab_short i h1', rfl, rfl⟩
    ·split
     ·obtain ⟨i, hi⟩ : ∃ i, pickU v.cl (pickI a.qs 0) = i := ⟨_, rfl⟩
      show Stp v.st v.d (stag v.st v.d a.nm (pickU v.cl (pickI a.qs 0))).1 (stag v.st v.d a.nm (pickU v.cl (pickI a.qs 0))).2.1
      rw [hi]
      unfold stag
      split
      ·exact .inl ⟨rfl, rfl⟩
      ·rename_i h1
       split
       ·exact .inl ⟨rfl, rfl⟩
       ·rename_i h2
        split
        ·exact .inl ⟨rfl, rfl⟩
        ·rename_i h3
         have h1' : isName a.nm = true := by simpa using h1
         have h2' : v.st.has 3 i = true := by simpa using h2
         have h3' : (nget v.st.tags a.nm).isSome = false := by simpa using h3
         refine .inr ⟨_, ?_, lab_short i h1', rfl, rfl⟩
         unfold St.fits
         rw [if_pos (.inr rfl)]
         simp [labI_of, labN_of, labB_len, h1', h2', h3']
     ·split
      ·show Stp v.st v.d (sdrop v.st v.d a.nm).1 (sdrop v.st v.d a.nm).2.1
       unfold sdrop
       split
       ·exact .inl ⟨rfl, rfl⟩
       ·rename_i h1
        split
        ·exact .inl ⟨rfl, rfl⟩
        ·rename_i h2
         have h1' : isName a.nm = true := by simpa using h1
         have h2' : (nget v.st.refs a.nm).isSome = true := by
          cases q : (nget v.st.refs a.nm).isSome with
          | true => rfl
          | false => exact absurd q h2
         refine .inr ⟨_, ?_, lab_short 0 h1', rfl, rfl⟩
         unfold St.fits
         rw [if_pos (.inl rfl)]
         simp [labI_of, labN_of, labB_len, h1', h2']
      ·exact .inl ⟨rfl, rfl⟩
def Lk (st : St) (d : Dk) : Prop := (d.dead = false /\ sread st0 (ofile d) = (st, (ofile d).length)) ∨
 (d.dead = true /\ ∃ good f m, ofile d = good ++ (sealB f.1 f.2).take m /\ sread st0 good = (st, good.length) /\ st.fits f = true /\ f.2.length <= 8192)
theorem ofile_with {d : Dk} {x : Dk} {b : Bs} (hr : FRise d.files) (hx : x.files = fwith d.files fileN b) : ofile x = b := by
 unfold ofile
 rw [hx, fget_with _ _ _ hr, if_pos rfl]
 rfl
theorem dapp_cases {d : Dk} (hd : FRise d.files) (b : Bs) :
  (∃ e, e ≠ 0 /\ dapp d fileN b = (d, e)) ∨
  (d.dead = false /\ ∃ d', dapp d fileN b = (d', 0) /\ ofile d' = ofile d ++ b /\ d'.dead = false) ∨
  (d.dead = false /\ d.armed = true /\ ∃ d', dapp d fileN b = (d', 8) /\ ofile d' = ofile d ++ b.take d.keep /\ d'.dead = true) := by
 unfold dapp dlay
 rw [if_neg (by rw [fileN_name]; simp)]
 split
 ·exact .inl ⟨7, by decide, rfl⟩
 ·by_cases hdead : d.dead = true
  ·left
   have e : dnext d = (d, false, false) := by unfold dnext; rw [if_pos hdead]
   rw [e]
   exact ⟨8, by decide, rfl⟩
  ·have hdf : d.dead = false := by simpa using hdead
   by_cases ha : (d.armed && d.after == 0) = true
   ·right; right
    have e : dnext d = ({ d with dead := true, armed := false }, false, true) := by unfold dnext; rw [if_neg hdead, if_pos ha]
    rw [e]
    have ha2 : d.armed = true := by rw [Bool.and_eq_true] at ha; exact ha.1
    exact ⟨hdf, ha2, _, rfl, ofile_with hd rfl, rfl⟩
   ·right; left
    have e : dnext d = ({ d with after := if d.armed then d.after - 1 else d.after, writes := d.writes + 1 }, true, false) := by unfold dnext; rw [if_neg hdead, if_neg ha]
    rw [e]
    exact ⟨hdf, _, rfl, ofile_with hd rfl, hdf⟩
theorem sapp_cases {st : St} {d : Dk} {f : Fr} (hd : FRise d.files) (hf : st.fits f = true) (hl : f.2.length <= 8192) :
  ((sapp st d f).1 = st /\ (sapp st d f).2.1 = d) ∨
  (d.dead = false /\ (sapp st d f).1 = st.take f /\ ofile (sapp st d f).2.1 = ofile d ++ sealB f.1 f.2 /\ (sapp st d f).2.1.dead = false) ∨
  (d.dead = false /\ d.armed = true /\ (sapp st d f).1 = st /\ ofile (sapp st d f).2.1 = ofile d ++ (sealB f.1 f.2).take d.keep /\ (sapp st d f).2.1.dead = true) := by
 have hk := fits_kind hf
 have hs : fseal f = (sealB f.1 f.2, 0) := fseal_ok (k := f.1) (body := f.2) (by omega) (by omega) hl
 unfold sapp
 rw [hs]
 rcases dapp_cases hd (sealB f.1 f.2) with ⟨e, h0, h1⟩ | ⟨h0, d', h1, h2, h3⟩ | ⟨h0, ha, d', h1, h2, h3⟩
 ·left
  rw [h1]
  simp [h0]
 ·right; left
  rw [h1]
  exact ⟨h0, by simp, h2, h3⟩
 ·right; right
  rw [h1]
  exact ⟨h0, ha, by simp, h2, h3⟩
theorem Lk.step {st st' : St} {d d' : Dk} (h : Lk st d) (hd : FRise d.files) (hs : Stp st d st' d') : Lk st' d' := by
 rcases hs with ⟨rfl, rfl⟩ | ⟨f, hf, hl, rfl, rfl⟩
 ·exact h
 ·rcases sapp_cases hd hf hl with ⟨e1, e2⟩ | ⟨e0, e1, e2, e3⟩ | ⟨e0, _, e1, e2, e3⟩
  ·rw [e1, e2]; exact h
  ·rw [e1]
   rcases h with ⟨_, h⟩ | ⟨h, _⟩
   ·refine .inl ⟨e3, ?_⟩
    rw [e2, sread_app _ _ _ _ _ (Nat.le_refl _) h, sread_seal hf hl, List.length_append]
   ·rw [e0] at h; cases h
  ·rw [e1]
   rcases h with ⟨_, h⟩ | ⟨h, _⟩
   ·exact .inr ⟨e3, _, f, _, e2, h, hf, hl⟩
   ·rw [e0] at h; cases h
theorem Lk.back {st : St} {d : Dk} (h : Lk st d) : (sread st0 (ofile d)).1 = st ∨ ∃ f, st.fits f = true /\ f.2.length <= 8192 /\ (sread st0 (ofile d)).1 = st.take f := by
 rcases h with ⟨_, h⟩ | ⟨_, good, f, m, e, h, hf, hl⟩
 ·left; rw [h]
 ·rw [e, sread_app _ _ _ _ _ (Nat.le_refl _) h]
  rcases sread_torn hf hl m with q | q
  ·exact .inl q
  ·exact .inr ⟨f, hf, hl, q⟩
theorem has_take {st : St} (f : Fr) {k : Int} {i : UInt64} (h : st.has k i = true) : (st.take f).has k i = true := by
 unfold St.take
 split
 ·exact h
 ·split
  ·exact h
  ·exact has_snoc h
theorem sopen_calm {d : Dk} (hc : Calm d) (hr : FRise d.files) : (sopen d).2.2 = 0 /\ (sopen d).1 = (sread st0 (ofile d)).1 /\ Calm (sopen d).2.1 /\ ofile (sopen d).2.1 = (ofile d).take (sread st0 (ofile d)).2 /\ (sopen d).2.1.writes <= d.writes + 1 /\ ((sread st0 (ofile d)).2 = (ofile d).length -> (sopen d).2.1 = d) := by
 obtain ⟨ha, hd⟩ := hc
 have hle := (sread_ok (ofile d) St.ok0 rfl).2.2
 unfold sopen
 split
 ·rename_i hlt
  have e : dnext d = ({ d with writes := d.writes + 1 }, true, false) := by
   unfold dnext
   rw [ha, hd]
   simp
  obtain ⟨b, hb⟩ : ∃ b, fget d.files fileN = some b := by
   cases q : fget d.files fileN with
   | some b => exact ⟨b, rfl⟩
   | none =>
    have : ofile d = [] := by unfold ofile; rw [q]; rfl
    rw [this] at hlt
    simp at hlt
  have hob : ofile d = b := by unfold ofile; rw [hb]; rfl
  have ht : dtrim d fileN ((sread st0 (ofile d)).2 : Int) = ({ d with writes := d.writes + 1, files := fwith d.files fileN (b.take (sread st0 (ofile d)).2) }, 0) := by
   unfold dtrim
   rw [if_neg (by rw [fileN_name]; simp), hb]
   simp only
   rw [if_neg (by rw [<- hob]; omega), e]
   simp
  rw [ht]
  simp only [if_true]
  refine ⟨trivial, trivial, ⟨ha, hd⟩, ?_, Nat.le_refl _, λ q => absurd q (by omega)⟩
  rw [ofile_with hr rfl, hob]
 ·rename_i hge
  refine ⟨rfl, rfl, ⟨ha, hd⟩, ?_, Nat.le_succ _, λ _ => rfl⟩
  show ofile d = _
  rw [List.take_of_length_le (by omega)]
theorem sopen_armed {d : Dk} (hd : d.dead = false) (ha : d.armed = true) (h0 : d.after = 0) : ((sopen d).2.2 = 0 /\ (sopen d).1 = (sread st0 (ofile d)).1 /\ (sopen d).2.1 = d) ∨ ((sopen d).2.2 = 8 /\ (sopen d).2.1 = { d with dead := true, armed := false }) := by
 have hle := (sread_ok (ofile d) St.ok0 rfl).2.2
 unfold sopen
 split
 ·rename_i hlt
  right
  have e : dnext d = ({ d with dead := true, armed := false }, false, true) := by
   unfold dnext
   rw [hd, ha, h0]
   simp
  obtain ⟨b, hb⟩ : ∃ b, fget d.files fileN = some b := by
   cases q : fget d.files fileN with
   | some b => exact ⟨b, rfl⟩
   | none =>
    have : ofile d = [] := by unfold ofile; rw [q]; rfl
    rw [this] at hlt
    simp at hlt
  have hob : ofile d = b := by unfold ofile; rw [hb]; rfl
  have ht : dtrim d fileN ((sread st0 (ofile d)).2 : Int) = ({ d with dead := true, armed := false }, 8) := by
   unfold dtrim
   rw [if_neg (by rw [fileN_name]; simp), hb]
   simp only
   rw [if_neg (by rw [<- hob]; omega), e]
   simp
  rw [ht]
  exact ⟨rfl, rfl⟩
 ·left
  exact ⟨rfl, rfl, rfl⟩
end Go.Proofs.YtjlokpjflgbgdaaGreat

namespace Go.Proofs.YtjlokpjflgbgdaaGreat
open Go.RowKit Go.Sort
abbrev uv (x : UInt64) : Value := .int .u64 (x.toNat : Int)
def ltU (x y : UInt64) : Bool := decide (x < y)
def SR (w : World) (g : Nat) (d : Array UInt64) : Prop := ∃ cur : Array Value, w.heap[g]? = some (.cells cur 56 (0, 0)) /\ ∀ i, i < d.size -> cur[i]? = some (uv d[i]!)
section
variable {w w' : World} {g : Nat} {d : Array UInt64}
theorem SR.lt (h : SR w g d) : g < w.heap.size := by
 obtain ⟨cur, h, _⟩ := h
 exact (Array.getElem?_eq_some_iff.1 h).1
theorem SR.cell (h : SR w g d) {i : Nat} (hi : i < d.size) : w.cell? ⟨g, i, none⟩ = some (uv d[i]!) := by
 obtain ⟨cur, h1, h2⟩ := h
 simp [World.cell?, h1, h2 i hi]
theorem SR.thaw (h : SR w g d) (i : Nat) : w.frozen? ⟨g, i, none⟩ = false := by
 obtain ⟨cur, h1, h2⟩ := h
 simp [World.frozen?, h1]
theorem SR.below (h : SR w g d) (hb : Below w.heap.size w w') : SR w' g d := by
 have hl := h.lt
 obtain ⟨cur, h1, h2⟩ := h
 exact ⟨cur, (hb.block g hl).trans h1, h2⟩
theorem SR.turned {S : Nat -> Prop} (h : SR w g d) (ht : Turned S w w') (hS : ¬ S g) : SR w' g d := by
 have hl := h.lt
 obtain ⟨cur, h1, h2⟩ := h
 exact ⟨cur, (ht.block g hl hS).trans h1, h2⟩
theorem SR.set (h : SR w g d) (i : Nat) (x : UInt64) : SR (w.setCell ⟨g, i, none⟩ (uv x)) g (d.setIfInBounds i x) := by
 obtain ⟨cur, h1, h2⟩ := h
 refine ⟨cur.setIfInBounds i (uv x), ?_, ?_⟩
 ·simp [World.setCell, Array.getElem?_modify, h1]
 ·intro j hj
  have hj' : j < d.size := by simpa using hj
  have h3 := h2 j hj'
  have hjc : j < cur.size := (Array.getElem?_eq_some_iff.1 h3).1
  by_cases e : j = i
  ·subst e
   simp [hjc, hj', getElem!_pos]
  ·rw [Array.getElem?_setIfInBounds_ne (Ne.symm e), h3]
   congr 2
   simp [getElem!_pos, hj', Ne.symm e]
theorem SR.swap (h : SR w g d) (i j : Nat) : SR ((w.setCell ⟨g, i, none⟩ (uv d[j]!)).setCell ⟨g, j, none⟩ (uv d[i]!)) g (swp d i j) := (h.set i d[j]!).set j d[i]!
theorem swp_size (d : Array UInt64) (i j : Nat) : (swp d i j).size = d.size := by simp [swp]
theorem turn2 {S : Nat -> Prop} {a : World} (h : Turned S a w) (hg : S g) (i j : Nat) (p q : Value) : Turned S a ((w.setCell ⟨g, i, none⟩ p).setCell ⟨g, j, none⟩ q) := (h.setCell (.inl hg) p).setCell (.inl hg) q
end
theorem OwnG.sr {w : World} {base g n cap : Nat} {xs : List UInt64} (h : OwnG encU 56 w base (.slice (some ⟨g, 0, none⟩) n cap) xs) : SR w g xs.toArray /\ xs.length = n := by
 rcases h.2 with ⟨e, _⟩ | ⟨g', cap', cur, e, h1, h2, h3, h4, h5, h6⟩
 ·cases e
 ·cases e
  refine ⟨⟨cur, h2, λ i hi => ?_⟩, rfl⟩
  have hi' : i < xs.length := by simpa using hi
  obtain ⟨b', off', e', _, hc⟩ := h.rdc.1 (by omega)
  cases e'
  have h7 := hc i xs[i] (List.getElem?_eq_getElem hi') 0 _ rfl
  have h8 : w.cell? ⟨g, i, none⟩ = some (uv xs[i]) := by simpa [encU] using h7
  have h9 : w.cell? ⟨g, i, none⟩ = cur[i]? := by simp [World.cell?, h2]
  rw [<- h9, h8]
  congr 2
  simp [getElem!_pos, hi']
theorem isNaN_any (x : Int) (w : World) : Calls Tryz.prog 254 #[.int .u64 x] w λ e w' => e = .returned (.bool false) /\ w' = w := by
 go_enter Tryz.func254, Tryz.ntmps254
 go_wp2
 go_ret
 exact ⟨by simp, rfl⟩
theorem less_any (x y : UInt64) (f : Bool) (hf : ltU x y = f) (w : World) : Calls Tryz.prog 210 #[uv x, uv y] w λ e w' => e = .returned (.bool f) /\ w' = w := by
 have e : decide (x.toNat < y.toNat) = f := by
  rw [<- hf]
  unfold ltU
  rw [decide_eq_decide, UInt64.lt_iff_toNat_lt]
 have hx := isNaN_any (x.toNat : Int) w
 clear hf
 go_enter Tryz.func210, Tryz.ntmps210
 go_wp2_with fail
 refine hx.mono ?_
 rintro e1 w1 ⟨rfl, rfl⟩
 clear hx
 go_wp2
 go_ret
 exact ⟨by rw [<- e]; rfl, rfl⟩
end Go.Proofs.YtjlokpjflgbgdaaGreat

namespace Go.Proofs.YtjlokpjflgbgdaaGreat
open Go.RowKit Go.Sort
theorem insInner_stop {a j : Nat} {d : Array UInt64} (h : ¬ a < j) : insInner ltU a j d = d := by
 cases j with
 | zero => rfl
 | succ j =>
  unfold insInner
  rw [if_neg]
  simp
  omega
theorem insInner_step {a t : Nat} {d : Array UInt64} (h : a < t + 1) (f : Bool) (hf : ltU d[t + 1]! d[t]! = f) : insInner ltU a (t + 1) d = if f = true then insInner ltU a t (swp d (t + 1) t) else d := by
 rw [insInner, hf]
 have : (decide (t + 1 > a) && f) = f := by simp; omega
 cases f with
 | true => simp [h]
 | false => simp
theorem insOuter_step {a b i : Nat} {d : Array UInt64} (h : i < b) : insOuter ltU a b i d = insOuter ltU a b (i + 1) (insInner ltU a i d) := by
 rw [insOuter, if_pos h]
theorem insOuter_stop {a b i : Nat} {d : Array UInt64} (h : ¬ i < b) : insOuter ltU a b i d = d := by
 rw [insOuter, if_neg h]
theorem less_cls {wr : World} (x y : UInt64) (f : Bool) (hf : ltU x y = f) (u : SW (Grew wr)) : Calls Tryz.prog 210 #[uv x, uv y] u.w λ e w' => e = .returned (.bool f) /\ ∃ u' : SW (Grew wr), w' = u'.w := by
 refine (less_any x y f hf u.w).mono ?_
 rintro e w' ⟨rfl, rfl⟩
 exact ⟨rfl, u, rfl⟩
theorem ins_any {w : World} {g n c a b : Nat} {d : Array UInt64} (h : SR w g d) (hd : d.size = n) (hab : a <= b) (hb : b <= n) (hn : n <= 4000000000000000000) :
  Calls Tryz.prog 204 #[.slice (some ⟨g, 0, none⟩) n c, .int .i64 (a : Int), .int .i64 (b : Int)] w λ e w' => e = .returned (.tuple #[]) /\ Hid (SR w' g (insertionSort ltU d a b) /\ Turned (λ k => k = g) w w') := by
 obtain ⟨D, hD⟩ : ∃ D, insertionSort ltU d a b = D := ⟨_, rfl⟩
 rw [hD]
 have H : Hid (SR w g d /\ d.size = n /\ insOuter ltU a b (a + 1) d = D) := ⟨h, hd, hD⟩
 clear h hd hD
 go_enter Tryz.func204, Tryz.ntmps204
 go_wp2_with fail
 go_loopg [6] (b - a) (λ k v wr => ∃ (i : Nat), v = .int .i64 i /\ i + k = b + 1 /\ a + 1 <= i /\ Hid (∃ e : Array UInt64, e.size = n /\ insOuter ltU a b i e = D /\ SR wr g e /\ Turned (λ k => k = g) w wr))
 case atStart => exact ⟨a + 1, by go_num, by omega, Nat.le_refl _, d, H.out.2.1, H.out.2.2, H.out.1, Turned.refl _ _⟩
 case round =>
  obtain ⟨i, rfl, hi, hai, HR⟩ := hrel
  obtain ⟨e0, s0, o0, r0, t0⟩ := HR.out
  by_cases hin : i < b
  ·have id : (i : Int) < (b : Int) := by omega
   obtain ⟨go, hgo⟩ : ∃ go, go = gk := ⟨_, rfl⟩
   have GO : Hid (i + go = b + 1 /\ go = gk) := ⟨by rw [hgo]; exact hi, hgo⟩
   have G0 : Hid (insOuter ltU a b (i + 1) (insInner ltU a i e0) = D) := by
    show _ = D
    rw [<- insOuter_step hin]
    exact o0
   have W0 : Hid (SR wr g e0 /\ e0.size = n /\ Turned (λ k => k = g) w wr) := ⟨r0, s0, t0⟩
   clear HR r0 s0 t0 o0 hgo
   go_wp2_with fail
   go_loopg [7] i (λ k v wr => v = .int .i64 (k : Int) /\ k <= i /\ Hid (∃ e : Array UInt64, e.size = n /\ insInner ltU a k e = insInner ltU a i e0 /\ SR wr g e /\ Turned (λ k => k = g) w wr))
   case atStart => exact ⟨rfl, Nat.le_refl _, e0, W0.out.2.1, rfl, W0.out.1, W0.out.2.2⟩
   case round =>
    obtain ⟨rfl, hki, HJ⟩ := hrel
    obtain ⟨e1, s1, o1, r1, t1⟩ := HJ.out
    by_cases haj : a < gk
    ·obtain ⟨t, ht⟩ : ∃ t, t + 1 = gk := ⟨gk - 1, by omega⟩
     obtain ⟨x, hx⟩ : ∃ x, e1[gk]! = x := ⟨_, rfl⟩
     obtain ⟨y, hy⟩ : ∃ y, e1[t]! = y := ⟨_, rfl⟩
     obtain ⟨f, hf⟩ : ∃ f, ltU x y = f := ⟨_, rfl⟩
     have hst : insInner ltU a gk e1 = if f = true then insInner ltU a t (swp e1 gk t) else e1 := by
      subst ht
      exact insInner_step haj f (by rw [hx, hy]; exact hf)
     have q0 : ∀ u : SW (Grew wr), u.w.cell? ⟨g, gk, none⟩ = some (uv x) := λ u => by rw [<- hx]; exact (r1.below u.ok).cell (by omega)
     have q1 : ∀ u : SW (Grew wr), u.w.cell? ⟨g, t, none⟩ = some (uv y) := λ u => by rw [<- hy]; exact (r1.below u.ok).cell (by omega)
     have hL := λ u => less_cls (wr := wr) x y f hf u
     have NE : Nonempty (SW (Grew wr)) := ⟨⟨wr, Below.refl _ wr⟩⟩
     have ja : (a : Int) < (gk : Int) := by omega
     have jd : decide ((a : Int) < (gk : Int)) = true := by simpa using ja
     have jd2 : decide (a < gk) = true := by simpa using haj
     have jn : (gk : Int) < (n : Int) := by omega
     have j0 : (0 : Int) <= (gk : Int) := by omega
     have jn2 : (t : Int) < (n : Int) := by omega
     have js : (gk : Int) - 1 = (t : Int) := by omega
     have jw : IntKind.i64.wrap (t : Int) = (t : Int) := by rw [IntKind.wrap_i64]; omega
     have J0 : Hid (SR wr g e1 /\ e1.size = n /\ Turned (λ k => k = g) w wr /\ e1[gk]! = x /\ e1[t]! = y /\ (if f = true then insInner ltU a t (swp e1 gk t) else e1) = insInner ltU a i e0 /\ t + 1 = gk /\ gk < n) := ⟨r1, s1, t1, hx, hy, by rw [<- hst]; exact o1, ht, by omega⟩
     clear HJ s1 o1 r1 t1 hst hx hy hf ht
     cases f with
     | true =>
      go_upto_region 4 with fail
      refine wp_region_class (S := Grew wr) (by kernel_rfl) (by kernel_rfl) (Below.refl _ wr).drew ?_
      repeat (go_big_quiet_step (with_reducible exact hL _))
      refine wpQuiet_nil ?_
      intro _ hw'
      obtain ⟨u, hw''⟩ := hw'
      subst hw''
      obtain ⟨w4, hw4⟩ : ∃ w4, w4 = u.w := ⟨_, rfl⟩
      have BU : Hid (SR w4 g e1 /\ Turned (λ k => k = g) w w4) := by
       rw [hw4]
       exact ⟨J0.out.1.below u.ok, J0.out.2.2.1.trans (Turned.ofBelow u.ok) (λ _ _ q => q)⟩
      rw [<- hw4]
      clear hL q0 q1 NE hw4 u
      have c0 : w4.cell? ⟨g, gk, none⟩ = some (uv x) := by rw [<- J0.out.2.2.2.1]; exact BU.out.1.cell (by have := J0.out.2.1; have := J0.out.2.2.2.2.2.2; omega)
      have c1 : w4.cell? ⟨g, t, none⟩ = some (uv y) := by rw [<- J0.out.2.2.2.2.1]; exact BU.out.1.cell (by have := J0.out.2.1; have := J0.out.2.2.2.2.2.2; omega)
      have f0 := BU.out.1.thaw gk
      have f1 := BU.out.1.thaw t
      have nt : ¬ gk = t := by have := J0.out.2.2.2.2.2.2.1; omega
      go_wp2_with fail
      go_region
      go_wp2
      go_roundg t
      case measure => omega
      case rel =>
       have hs := (BU.out.1.below (Below.refl _ w4).drew).swap gk t
       rw [J0.out.2.2.2.1, J0.out.2.2.2.2.1] at hs
       exact ⟨by go_num, by have := J0.out.2.2.2.2.2.2.1; omega, swp e1 gk t, by rw [swp_size]; exact J0.out.2.1, by have := J0.out.2.2.2.2.2.1; simpa using this, hs, turn2 (BU.out.2.trans (Turned.ofBelow (S := λ _ => False) (Below.refl _ w4).drew) (λ _ _ q => q.elim)) rfl _ _ _ _⟩
     | false =>
      go_upto_region 4 with fail
      refine wp_region_class (S := Grew wr) (by kernel_rfl) (by kernel_rfl) (Below.refl _ wr).drew ?_
      repeat (go_big_quiet_step (with_reducible exact hL _))
      refine wpQuiet_nil ?_
      intro _ hw'
      obtain ⟨u, hw''⟩ := hw'
      subst hw''
      obtain ⟨w4, hw4⟩ : ∃ w4, w4 = u.w := ⟨_, rfl⟩
      have BU : Hid (SR w4 g e1 /\ Turned (λ k => k = g) w w4) := by
       rw [hw4]
       exact ⟨J0.out.1.below u.ok, J0.out.2.2.1.trans (Turned.ofBelow u.ok) (λ _ _ q => q)⟩
      rw [<- hw4]
      clear hL q0 q1 NE hw4 u
      have FIN : Hid (∃ e : Array UInt64, e.size = n /\ insOuter ltU a b (i + 1) e = D /\ SR w4 g e /\ Turned (λ k => k = g) w w4) := by
       have q := J0.out.2.2.2.2.2.1
       have q' : e1 = insInner ltU a i e0 := by simpa using q
       exact ⟨e1, J0.out.2.1, by rw [q']; exact G0.out, BU.out.1, BU.out.2⟩
      go_wp2
      go_roundg (go - 1)
      case measure => have := GO.out; omega
      case rel => exact ⟨i + 1, by go_num, by have := GO.out; omega, by omega, FIN.out⟩
    ·have q' : e1 = insInner ltU a i e0 := by rw [<- o1, insInner_stop haj]
     have FIN : Hid (∃ e : Array UInt64, e.size = n /\ insOuter ltU a b (i + 1) e = D /\ SR wr g e /\ Turned (λ k => k = g) w wr) := ⟨e1, s1, by rw [q']; exact G0.out, r1, t1⟩
     have ja : ¬ (a : Int) < (gk : Int) := by omega
     have jd : decide ((a : Int) < (gk : Int)) = false := by simpa using ja
     clear HJ s1 o1 r1 t1 q'
     go_wp2_with fail
     go_quiet (fail)
     go_wp2
     go_roundg (go - 1)
     case measure => have := GO.out; omega
     case rel =>
      obtain ⟨e, q1, q2, q3, q4⟩ := FIN.out
      have hq := below_drewN (Below.refl wr.heap.size wr) nq
      exact ⟨i + 1, by go_num, by have := GO.out; omega, by omega, e, q1, q2, q3.below hq, q4.trans (Turned.ofBelow (S := λ _ => False) hq) (λ _ _ q => q.elim)⟩
  ·have FIN : Hid (SR wr g D /\ Turned (λ k => k = g) w wr) := by
    have q := insOuter_stop (a := a) (d := e0) hin
    rw [q] at o0
    rw [<- o0]
    exact ⟨r0, t0⟩
   clear HR r0 s0 t0 o0
   go_wp2
   refine bodyPost_end (v := .tuple #[]) (results_none rfl _ _ _) rfl ?_
   exact ⟨rfl, FIN⟩
end Go.Proofs.YtjlokpjflgbgdaaGreat

namespace Go.Proofs.YtjlokpjflgbgdaaGreat
open Go.RowKit Go.Sort
theorem rev_step {i j : Nat} {d : Array UInt64} (h : i < j) : reverseLoop i j d = reverseLoop (i + 1) (j - 1) (swp d i j) := by
 rw [reverseLoop, if_pos h]
theorem rev_stop {i j : Nat} {d : Array UInt64} (h : ¬ i < j) : reverseLoop i j d = d := by
 rw [reverseLoop, if_neg h]
theorem SR.drewSwap {w : World} {g : Nat} {d : Array UInt64} (h : SR w g d) {i j : Nat} {x y : UInt64} (hx : d[i]! = x) (hy : d[j]! = y) : SR ((w.drew.setCell ⟨g, i, none⟩ (uv y)).setCell ⟨g, j, none⟩ (uv x)) g (swp d i j) := by
 have hs := (h.below (Below.refl _ w).drew).swap i j
 rw [hx, hy] at hs
 exact hs
theorem turnSwap {a w : World} {g : Nat} (h : Turned (λ k => k = g) a w) (i j : Nat) (p q : Value) : Turned (λ k => k = g) a ((w.drew.setCell ⟨g, i, none⟩ p).setCell ⟨g, j, none⟩ q) :=
 turn2 (h.trans (Turned.ofBelow (S := λ _ => False) (Below.refl _ w).drew) (λ _ _ q => q.elim)) rfl _ _ _ _
theorem rev_any {w : World} {g n c a b : Nat} {d : Array UInt64} (h : SR w g d) (hd : d.size = n) (hab : a < b) (hb : b <= n) (hn : n <= 4000000000000000000) :
  Calls Tryz.prog 208 #[.slice (some ⟨g, 0, none⟩) n c, .int .i64 (a : Int), .int .i64 (b : Int)] w λ e w' => e = .returned (.tuple #[]) /\ Hid (SR w' g (reverseRange d a b) /\ Turned (λ k => k = g) w w') := by
 obtain ⟨D, hD⟩ : ∃ D, reverseRange d a b = D := ⟨_, rfl⟩
 rw [hD]
 have H : Hid (SR w g d /\ d.size = n /\ reverseLoop a (b - 1) d = D) := ⟨h, hd, hD⟩
 have b1 : (b : Int) - 1 = ((b - 1 : Nat) : Int) := by omega
 obtain ⟨bb, hbb⟩ : ∃ bb, b - 1 = bb := ⟨_, rfl⟩
 rw [hbb] at b1 H
 have B1 : Hid (bb + 1 = b) := by show _ = b; omega
 have bw : IntKind.i64.wrap (bb : Int) = (bb : Int) := by rw [IntKind.wrap_i64]; omega
 clear h hd hD hbb
 go_enter Tryz.func208, Tryz.ntmps208
 go_wp2_with fail
 go_loopg [6, 7] b (λ k v6 v7 wr => ∃ i j : Nat, v6 = .int .i64 i /\ v7 = .int .i64 j /\ j < b /\ j - i <= k /\ i <= b /\ Hid (∃ e : Array UInt64, e.size = n /\ reverseLoop i j e = D /\ SR wr g e /\ Turned (λ k => k = g) w wr))
 case atStart => exact ⟨a, bb, rfl, rfl, by have := B1.out; omega, by have := B1.out; omega, by omega, d, H.out.2.1, H.out.2.2, H.out.1, Turned.refl _ _⟩
 case round =>
  obtain ⟨i, j, rfl, rfl, hjb, hk, hib, HR⟩ := hrel
  obtain ⟨e1, s1, o1, r1, t1⟩ := HR.out
  by_cases hij : i < j
  ·have id : (i : Int) < (j : Int) := by omega
   have id0 : (0 : Int) <= (i : Int) := by omega
   have jd0 : (0 : Int) <= (j : Int) := by omega
   have idn : (i : Int) < (n : Int) := by omega
   have jdn : (j : Int) < (n : Int) := by omega
   obtain ⟨x, hx⟩ : ∃ x, e1[i]! = x := ⟨_, rfl⟩
   obtain ⟨y, hy⟩ : ∃ y, e1[j]! = y := ⟨_, rfl⟩
   have c0 : wr.cell? ⟨g, i, none⟩ = some (uv x) := by rw [<- hx]; exact r1.cell (by omega)
   have c1 : wr.cell? ⟨g, j, none⟩ = some (uv y) := by rw [<- hy]; exact r1.cell (by omega)
   have f0 := r1.thaw i
   have f1 := r1.thaw j
   have nt : ¬ i = j := by omega
   have nt2 : ¬ j = i := by omega
   have js : (j : Int) - 1 = ((j - 1 : Nat) : Int) := by omega
   obtain ⟨jj, hjj⟩ : ∃ jj, j - 1 = jj := ⟨_, rfl⟩
   rw [hjj] at js
   have jw : IntKind.i64.wrap (jj : Int) = (jj : Int) := by rw [IntKind.wrap_i64]; omega
   have J0 : Hid (SR wr g e1 /\ e1.size = n /\ Turned (λ k => k = g) w wr /\ e1[i]! = x /\ e1[j]! = y /\ reverseLoop (i + 1) jj (swp e1 i j) = D /\ jj + 1 = j) := ⟨r1, s1, t1, hx, hy, by rw [<- hjj, <- rev_step hij]; exact o1, by omega⟩
   clear HR s1 o1 r1 t1 hx hy hjj
   go_wp2_with fail
   go_region
   go_wp2
   go_roundg (gk - 1)
   case measure => omega
   case rel => exact ⟨i + 1, jj, by go_num, by go_num, by have := J0.out.2.2.2.2.2.2; omega, by have := J0.out.2.2.2.2.2.2; omega, by omega, swp e1 i j, by rw [swp_size]; exact J0.out.2.1, J0.out.2.2.2.2.2.1, J0.out.1.drewSwap J0.out.2.2.2.1 J0.out.2.2.2.2.1, turnSwap J0.out.2.2.1 _ _ _ _⟩
  ·have id : ¬ (i : Int) < (j : Int) := by omega
   have FIN : Hid (SR wr g D /\ Turned (λ k => k = g) w wr) := by
    rw [rev_stop hij] at o1
    rw [<- o1]
    exact ⟨r1, t1⟩
   clear HR r1 s1 t1 o1
   go_wp2
   refine bodyPost_end (v := .tuple #[]) (results_none rfl _ _ _) rfl ?_
   exact ⟨rfl, FIN⟩
end Go.Proofs.YtjlokpjflgbgdaaGreat
