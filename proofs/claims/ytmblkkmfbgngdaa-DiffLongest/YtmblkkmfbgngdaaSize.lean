/-
  diff.sizeAfter by a contract: whether hunks fit, and how many lines they make. At most 256 lines, and 4 * 10^18 new ones.
-/
import Derived.Test.YtmblkkmfbgngdaaBegins
namespace Go.Proofs.Ytmblkkmfbgngdaa
open Go.RowKit

/-- How many new lines hunks have. -/
def tot (hs : List Hk) : Nat := (hs.map (fun h => h.new.length)).sum

theorem tot_drop {hs : List Hk} {i : Nat} {h : Hk} (hi : hs[i]? = some h) : tot (hs.drop i) = h.new.length + tot (hs.drop (i + 1)) := by
  obtain ⟨h1, h2⟩ := List.getElem?_eq_some_iff.1 hi
  rw [List.drop_eq_getElem_cons h1, h2]
  simp [tot]

/-- Some hunks are done. -/
structure AI (xs : List Bs) (hs : List Hk) (i p : Nat) (out : List Bs) : Prop where
  split : applyFrom xs p out (hs.drop i) = applyFrom xs 0 [] hs
  low : p ≤ xs.length

theorem AI.start (xs : List Bs) (hs : List Hk) : AI xs hs 0 0 [] := ⟨rfl, Nat.zero_le _⟩

/-- What a hunk that fits must be. -/
def Fits (xs : List Bs) (p : Nat) (out : List Bs) (h : Hk) : Prop := (p : Int) ≤ h.a ∧ h.a ≤ xs.length ∧ h.gone.isPrefixOf (xs.drop h.a.toNat) = true ∧ h.b = ((out ++ cutL xs p h.a.toNat).length : Int)

theorem drop_get {hs : List Hk} {i : Nat} {h : Hk} (hi : hs[i]? = some h) : hs.drop i = h :: hs.drop (i + 1) := by
  obtain ⟨h1, h2⟩ := List.getElem?_eq_some_iff.1 hi
  rw [List.drop_eq_getElem_cons h1, h2]

theorem AI.bad {xs : List Bs} {hs : List Hk} {i p : Nat} {out : List Bs} {h : Hk} (k : AI xs hs i p out) (hi : hs[i]? = some h) (hf : ¬ Fits xs p out h) : applyFrom xs 0 [] hs = none := by
  rw [← k.split, drop_get hi]
  simp only [applyFrom]
  exact if_neg hf

theorem AI.next {xs : List Bs} {hs : List Hk} {i p : Nat} {out : List Bs} {h : Hk} (k : AI xs hs i p out) (hi : hs[i]? = some h) (hf : Fits xs p out h) : AI xs hs (i + 1) (h.a.toNat + h.gone.length) (out ++ cutL xs p h.a.toNat ++ h.new) := by
  refine ⟨?_, ?_⟩
  · rw [← k.split, drop_get hi]
    simp only [applyFrom]
    exact (if_pos hf).symm
  · have := List.isPrefixOf_iff_prefix.1 hf.2.2.1
    have := this.length_le
    have := hf.1
    have := hf.2.1
    simp at *
    omega

theorem AI.done {xs : List Bs} {hs : List Hk} {p : Nat} {out : List Bs} {K : Nat} (k : AI xs hs K p out) (hK : hs.length ≤ K) : applyFrom xs 0 [] hs = some (out ++ xs.drop p) := by
  rw [← k.split, List.drop_eq_nil_of_le hK]
  rfl

theorem out_len {xs : List Bs} {p A : Nat} {out : List Bs} (h : A ≤ xs.length) : (out ++ cutL xs p A).length = out.length + (A - p) := by
  rw [List.length_append, cutL_len h]

/-- A hunk in a block of its own. -/
def HunkAt (w : World) (B : Nat) (t : TypeId) (za zb : Int) (g m : Value) : Prop := w.heap[B]? = some (.cells #[.int .i64 za, .int .i64 zb, g, m] t (0, 0))

theorem HunkAt.lt {w : World} {B : Nat} {t : TypeId} {za zb : Int} {g m : Value} (h : HunkAt w B t za zb g m) : B < w.heap.size := (Array.getElem?_eq_some_iff.1 h).1
theorem HunkAt.cells {w : World} {B : Nat} {t : TypeId} {za zb : Int} {g m : Value} (h : HunkAt w B t za zb g m) : w.cell? ⟨B, 0, none⟩ = some (.int .i64 za) ∧ w.cell? ⟨B, 1, none⟩ = some (.int .i64 zb) ∧ w.cell? ⟨B, 2, none⟩ = some g ∧ w.cell? ⟨B, 3, none⟩ = some m := by
  unfold HunkAt at h
  simp [World.cell?, h]
theorem HunkAt.below {w w' : World} {B : Nat} {t : TypeId} {za zb : Int} {g m : Value} (h : HunkAt w B t za zb g m) (hb : Below w.heap.size w w') : HunkAt w' B t za zb g m := (hb.block B h.lt).trans h
theorem HunkAt.turned {S : Nat → Prop} {w w' : World} {B : Nat} {t : TypeId} {za zb : Int} {g m : Value} (h : HunkAt w B t za zb g m) (ht : Turned S w w') (hS : ¬ S B) : HunkAt w' B t za zb g m := (ht.block B h.lt hS).trans h
theorem HunkAt.new (w : World) (t : TypeId) (za zb : Int) (g m : Value) : HunkAt (w.alloc (.cells #[.int .i64 za, .int .i64 zb, g, m] t)) w.heap.size t za zb g m := by
  unfold HunkAt World.alloc
  simp

set_option maxHeartbeats 3200000 in
set_option maxRecDepth 100000 in
theorem size_any {ao ho : Option Addr} {n c K d : Nat} {xs : List Bs} {vs : List HV} {hs : List Hk} (w : World) (ha : Rd w ao xs) (hl : xs.length = n) (hn : n ≤ 256) (hc : n ≤ c) (hv : RdG encH w ho vs) (hh : Hks w vs hs) (hK : hs.length = K) (hK2 : K ≤ 4000000000000000000) (hT : n + tot hs ≤ 4000000000000000000) (r : Option (List Bs)) (hr : applyFrom xs 0 [] hs = r) :
    Calls Try.prog 20 #[.slice ao n c, .slice ho K d] w fun e w' => (∃ l, r = some l ∧ e = .returned (.tuple #[.int .i64 l.length, .bool true]) ∨ r = none ∧ e = .returned (.tuple #[.int .i64 0, .bool false])) ∧ Below w.heap.size w w' := by
  have H : Hid (Rd w ao xs ∧ xs.length = n ∧ RdG encH w ho vs ∧ Hks w vs hs ∧ hs.length = K ∧ applyFrom xs 0 [] hs = r) := ⟨ha, hl, hv, hh, hK, hr⟩
  clear ha hl hv hh hK hr
  go_enter Try.func20, Try.ntmps20
  go_wp2_with fail
  go_loopg [6, 7, 9, 12] K (fun k pv sv _ iv wr => ∃ (i p sz : Nat) (out : List Bs), iv = .int .i64 i ∧ pv = .int .i64 p ∧ sv = .int .i64 sz ∧ i + k = K ∧ p ≤ n ∧ sz ≤ 4000000000000000000 ∧ Hid (AI xs hs i p out ∧ out.length = sz ∧ sz + tot (hs.drop i) + n ≤ n + tot hs + p ∧ Below w.heap.size w wr))
  case atStart => exact ⟨0, 0, 0, [], rfl, rfl, rfl, by omega, by omega, by omega, AI.start _ _, rfl, by simp [Nat.add_comm], Below.refl _ _⟩
  case round =>
    obtain ⟨i, p, sz, out, rfl, rfl, rfl, hi, hp, hsz, HR⟩ := hrel
    by_cases hin : i < K
    · have id : (i : Int) < (K : Int) := by omega
      obtain ⟨v, h, e1, e2, hk⟩ := H.out.2.2.2.1.get (i := i) (by rw [H.out.2.2.2.2.1]; exact hin)
      obtain ⟨b, off, rfl, hlt⟩ := H.out.2.2.1.some_of e1
      obtain ⟨c1, c2, c3, c4⟩ := H.out.2.2.1.hunk e1
      have k1 := (HR.out.2.2.2.cell (p := ⟨b, off + i * 4, none⟩) hlt).trans c1
      have k2 := (HR.out.2.2.2.cell (p := ⟨b, off + i * 4 + 1, none⟩) hlt).trans c2
      have k3 := (HR.out.2.2.2.cell (p := ⟨b, off + i * 4 + 2, none⟩) hlt).trans c3
      have k4 := (HR.out.2.2.2.cell (p := ⟨b, off + i * 4 + 3, none⟩) hlt).trans c4
      obtain ⟨za, zb, ga, gl, gc, na, nl, nc⟩ := v
      obtain ⟨ya, yb, gone, new⟩ := h
      have q1 := hk.a
      have q2 := hk.b
      simp only at q1 q2 k1 k2 k3 k4
      subst q1 q2
      have X : Hid (hs[i]? = some ⟨za, zb, gone, new⟩ ∧ gone.length = gl ∧ new.length = nl ∧ Rd w ga gone ∧ Rd w na new) := ⟨e2, hk.gl, hk.nl, hk.rg, hk.rn⟩
      clear e1 e2 hk c1 c2 c3 c4
      go_upto_region 5 with fail
      obtain ⟨wE, hwE⟩ : ∃ wE, wE = wr.alloc (.cells #[.int .i64 za, .int .i64 zb, .slice ga gl gc, .slice na nl nc] 46) := ⟨_, rfl⟩
      obtain ⟨Bh, hBh⟩ : ∃ Bh, wr.heap.size = Bh := ⟨_, rfl⟩
      have bE : Below wr.heap.size wr wE := by rw [hwE]; exact (Below.refl _ wr).alloc (Nat.le_refl _) _
      have J : Hid (Below w.heap.size w wE ∧ HunkAt wE Bh 46 za zb (.slice ga gl gc) (.slice na nl nc)) := by
        refine ⟨HR.out.2.2.2.trans (bE.mono HR.out.2.2.2.size), by rw [hwE, ← hBh]; exact HunkAt.new wr 46 za zb _ _⟩
      rw [← hwE, hBh]
      clear hwE hBh bE k1 k2 k3 k4
      obtain ⟨k1, k2, k3, k4⟩ := J.out.2.cells
      by_cases h1 : za < (p : Int)
      · have d1 : decide (za < (p : Int)) = true := decide_eq_true h1
        have hbad : r = none := by
          rw [← H.out.2.2.2.2.2]
          exact HR.out.1.bad X.out.1 (fun q => by have := q.1; simp only at this; omega)
        go_wp2_with fail
        go_quiet (fail)
        go_wp2
        refine bodyPost_ret (results_tmp2 rfl _ _ _) rfl ?_
        exact ⟨⟨[], .inr ⟨hbad, rfl⟩⟩, below_drewN J.out.1 _⟩
      · have d1 : decide (za < (p : Int)) = false := decide_eq_false h1
        by_cases h2 : (n : Int) < za
        · have d2 : decide ((n : Int) < za) = true := decide_eq_true h2
          have hbad : r = none := by
            rw [← H.out.2.2.2.2.2]
            exact HR.out.1.bad X.out.1 (fun q => by have := q.2.1; have := H.out.2.1; simp only at *; omega)
          go_wp2_with fail
          go_quiet (fail)
          go_wp2
          refine bodyPost_ret (results_tmp2 rfl _ _ _) rfl ?_
          exact ⟨⟨[], .inr ⟨hbad, rfl⟩⟩, below_drewN J.out.1 _⟩
        · have d2 : decide ((n : Int) < za) = false := decide_eq_false h2
          obtain ⟨A, rfl⟩ : ∃ A : Nat, za = (A : Int) := ⟨za.toNat, by omega⟩
          have hAn : A ≤ n := by omega
          have hpA : p ≤ A := by omega
          obtain ⟨sa, sk, sc, sl1, sl2, sl3, sl4, sl5⟩ := slice_i (ao := ao) (c := c) H.out.2.1 hc hAn
          obtain ⟨f, hf⟩ : ∃ f, gone.isPrefixOf (xs.drop A) = f := ⟨_, rfl⟩
          have hbeg : ∀ q, Calls Try.prog 21 #[.slice sa sk sc, .slice ga gl gc] (wE.drewN q) fun e w' => e = .returned (.bool f) ∧ ∃ m, w' = (wE.drewN q).drewN m := fun q =>
            begins_any (wE.drewN q) ((sl5 _ (H.out.1.below J.out.1)).below (below_drewN (Below.refl _ _) q)) ((X.out.2.2.2.1.below J.out.1).below (below_drewN (Below.refl _ _) q)) sl2 X.out.2.1 sl4 (by omega) f hf
          have FF : Hid (gone.isPrefixOf (xs.drop A) = f) := hf
          clear sl2 sl3 sl4 sl5 hf h1 h2
          cases f with
          | false =>
            have hbad : r = none := by
              rw [← H.out.2.2.2.2.2]
              refine HR.out.1.bad X.out.1 (fun q => ?_)
              have := q.2.2.1
              simp only [Int.toNat_natCast] at this
              rw [FF.out] at this
              cases this
            go_wp2_with fail
            go_quiet (first | (go_at_call 21; exact Calls.quiet_of (hbeg _)))
            go_wp2
            refine bodyPost_ret (results_tmp2 rfl _ _ _) rfl ?_
            exact ⟨⟨[], .inr ⟨hbad, rfl⟩⟩, below_drewN J.out.1 _⟩
          | true =>
            have hgl : A + gl ≤ n := by
              have := (List.isPrefixOf_iff_prefix.1 FF.out).length_le
              rw [X.out.2.1, List.length_drop, H.out.2.1] at this
              omega
            have hnl : sz + (A - p) + nl ≤ 4000000000000000000 := by
              have := HR.out.2.2.1
              rw [tot_drop X.out.1] at this
              have := X.out.2.2.1
              simp only at *
              omega
            have hApi : (p : Int) ≤ (A : Int) := by omega
            have hfit : Hid (zb = ((sz + (A - p) : Nat) : Int) ↔ Fits xs p out ⟨A, zb, gone, new⟩) := by
              show _ ↔ _
              unfold Fits
              simp only [Int.toNat_natCast]
              rw [out_len (by rw [H.out.2.1]; exact hAn), HR.out.2.1, H.out.2.1]
              exact ⟨fun q => ⟨by omega, by omega, FF.out, q⟩, fun q => q.2.2.2⟩
            by_cases h3 : zb = (sz : Int) + ((A : Int) - (p : Int))
            · have N : Hid (AI xs hs (i + 1) (A + gl) (out ++ cutL xs p A ++ new) ∧ (out ++ cutL xs p A ++ new).length = sz + (A - p) + nl) := by
                have := HR.out.1.next X.out.1 (hfit.out.1 (by omega))
                simp only [Int.toNat_natCast, X.out.2.1] at this
                refine ⟨this, ?_⟩
                rw [List.length_append, out_len (by rw [H.out.2.1]; exact hAn), HR.out.2.1, X.out.2.2.1]
              go_wp2_with fail
              go_quiet (first | (go_at_call 21; exact Calls.quiet_of (hbeg _)))
              go_wp2
              go_roundg (gk - 1)
              case measure => omega
              case rel =>
                refine ⟨i + 1, A + gl, sz + (A - p) + nl, _, by go_num, by go_num, ?_, by omega, by omega, by omega, N.out.1, N.out.2, ?_, below_drewN J.out.1 _⟩
                · congr 1; omega
                · have := HR.out.2.2.1
                  rw [tot_drop X.out.1] at this
                  have := X.out.2.2.1
                  simp only at *
                  omega
            · have hbad : r = none := by
                rw [← H.out.2.2.2.2.2]
                refine HR.out.1.bad X.out.1 (fun q => h3 ?_)
                have := hfit.out.2 q
                omega
              go_wp2_with fail
              go_quiet (first | (go_at_call 21; exact Calls.quiet_of (hbeg _)))
              go_wp2
              refine bodyPost_ret (results_tmp2 rfl _ _ _) rfl ?_
              exact ⟨⟨[], .inr ⟨hbad, rfl⟩⟩, below_drewN J.out.1 _⟩
    · obtain rfl : i = K := by omega
      have hd := HR.out.1.done (K := i) (by rw [H.out.2.2.2.2.1]; omega)
      rw [H.out.2.2.2.2.2] at hd
      have DD : Hid (r = some (out ++ xs.drop p)) := hd
      clear hd
      have hpi : (p : Int) ≤ (n : Int) := by omega
      go_wp2
      refine bodyPost_ret (results_tmp2 rfl _ _ _) rfl ?_
      refine ⟨⟨_, .inl ⟨DD.out, ?_⟩⟩, HR.out.2.2.2⟩
      rw [List.length_append, List.length_drop, HR.out.2.1, H.out.2.1]
      show Ending.returned (Value.tuple #[Value.int .i64 _, Value.bool true]) = _
      congr 5
      omega

end Go.Proofs.Ytmblkkmfbgngdaa
