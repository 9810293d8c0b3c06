/-
  The reference's ReadTree, by a contract: the tree of which the bytes are, or none. No condition but that there are at most a million bytes.
-/
import Derived.Test.YtadjcmekpcimjaaRTrees
import Derived.Test.YtadjcmekpcimjaaRead
namespace Go.Proofs.Ytadjcmekpcimjaa
open Go.RowKit

theorem ext_data (bs : Bs) (i j : Nat) : ((⟨bs.toArray⟩ : ByteArray).extract i j).data.toList = (bs.drop i).take (j - i) := by
  simp [ByteArray.data_extract, List.extract_eq_take_drop]

theorem keepA {w1 u : World} {o : Obj} (h : Hid (Below w1.heap.size w1 u)) : Hid (Below w1.heap.size w1 (u.alloc o)) := h.out.trans ((bz1 u o).mono h.out.size)
theorem keepD {w1 u : World} (h : Hid (Below w1.heap.size w1 u)) : Hid (Below w1.heap.size w1 u.drew) := h.out.drew

theorem rvalue_at (t : ByteArray) (ht : t.size ≤ 8) (v : Nat) (hv : val t.data.toList = v) (w : World) :
    Calls Try.prog 30 #[.string t] w fun e w' => e = .returned (.int .u64 (v : Int)) ∧ w' = w := by
  rw [← hv]
  exact rvalue_any t ht w

set_option maxHeartbeats 3200000 in
set_option maxRecDepth 100000 in
/-- The reference's ReadTree. -/
theorem rreadTree_any (bs : Bs) (hn : bs.length ≤ 1000000) (w : World) :
    Calls Try.prog 12 #[tx bs] w fun e w' => ∃ es er v, e = .returned (.tuple #[v, .int .i64 er]) ∧ Hid (RT bs es er ∧ OwnG encE 68 w' w.heap.size v es ∧ Below w.heap.size w w') := by
  obtain ⟨s, hs⟩ : ∃ s : ByteArray, s = ⟨bs.toArray⟩ := ⟨_, rfl⟩
  obtain ⟨N, hN⟩ : ∃ N, s.size = N := ⟨_, rfl⟩
  have hbl : bs.length = N := by rw [← hN, hs]; show _ = bs.toArray.size; simp
  rw [show tx bs = .string s by rw [hs]]
  have H : Hid (s = ⟨bs.toArray⟩ ∧ bs.length = N) := ⟨hs, hbl⟩
  have hN2 : N ≤ 1000000 := by omega
  clear hs hbl hn
  go_enter Try.func12, Try.ntmps12
  go_wp2_with fail
  go_loopg [4, 5] N (fun m lv av wr => ∃ (at_ L : Nat) (es : List En) (la : Option Addr) (lc : Nat), av = .int .i64 at_ ∧ at_ + m = N ∧ lv = .slice la L lc ∧ L ≤ 65 ∧ Hid (L = es.length ∧ Sm es ∧ bs = treeB es ++ bs.drop at_ ∧ OwnG encE 68 wr w.heap.size lv es ∧ Below w.heap.size w wr))
  case atStart => exact ⟨0, 0, [], none, 0, rfl, by omega, rfl, by omega, rfl, fun e h => by simp at h, by simp [treeB], OwnG.nil _ _ _ _, Below.refl _ _⟩
  case round =>
    obtain ⟨p, L, es, la, lc, rfl, hm, rfl, hL, HR⟩ := hrel
    by_cases hin : p < N
    · have id : (p : Int) < (N : Int) := by omega
      have id0 : (0 : Int) ≤ (p : Int) := by omega
      have hps : p < s.size := by omega
      obtain ⟨y, hy⟩ : ∃ y, s[p] = y := ⟨_, rfl⟩
      have hyl := y.toNat_lt
      have wy : IntKind.i64.wrap (y.toNat : Int) = (y.toNat : Int) := by rw [IntKind.wrap_i64]; omega
      have hdr : bs.drop p = y :: bs.drop (p + 1) := by
        have hpl : p < bs.length := by rw [H.out.2]; exact hin
        rw [List.drop_eq_getElem_cons hpl]
        congr 1
        rw [← hy]
        have hs := H.out.1
        subst hs
        simp [ByteArray.getElem_eq_getElem_data]
      obtain ⟨yn, hyn⟩ : ∃ yn, y.toNat = yn := ⟨_, rfl⟩
      obtain ⟨p1, hp1⟩ : ∃ p1, p + 1 = p1 := ⟨_, rfl⟩
      obtain ⟨p2, hp2⟩ : ∃ p2, p1 + yn = p2 := ⟨_, rfl⟩
      obtain ⟨p3, hp3⟩ : ∃ p3, p + yn + 9 = p3 := ⟨_, rfl⟩
      rw [hyn] at wy hyl
      have i1 : (p : Int) + 1 = (p1 : Int) := by omega
      have i2 : (p1 : Int) + (yn : Int) = (p2 : Int) := by omega
      have i3 : (p : Int) + (yn : Int) + 9 = (p3 : Int) := by omega
      by_cases hbad : N < p3
      · have d1 : (N : Int) < (p3 : Int) := by omega
        have hrt : RT bs [] 9 := rt_none HR.out.2.1 HR.out.2.2.1 (by rw [hdr]; simp) (by
          rw [hdr]
          simp only [one]
          rw [if_pos (by rw [List.length_drop, H.out.2, hyn]; omega)])
        have HH : Hid (RT bs [] 9) := hrt
        clear hrt hdr hp1 hp2 hp3
        go_wp2
        refine bodyPost_ret (results_tmp2 rfl _ _ _) rfl ?_
        exact ⟨[], 9, _, rfl, HH.out, OwnG.nil _ _ _ _, HR.out.2.2.2.2⟩
      · have d1 : decide ((N : Int) < (p3 : Int)) = false := by rw [decide_eq_false_iff_not]; omega
        by_cases h64 : 64 < L
        · have d2 : (64 : Int) < (L : Int) := by omega
          have hrt : RT bs [] 9 := rt_long HR.out.2.1 (by rw [← HR.out.1]; exact h64) HR.out.2.2.1
          have HH : Hid (RT bs [] 9) := hrt
          clear hrt hdr hp1 hp2 hp3
          go_wp2
          refine bodyPost_ret (results_tmp2 rfl _ _ _) rfl ?_
          exact ⟨[], 9, _, rfl, HH.out, OwnG.nil _ _ _ _, HR.out.2.2.2.2⟩
        · have d2 : decide ((64 : Int) < (L : Int)) = false := by rw [decide_eq_false_iff_not]; omega
          have e1 : (0 : Int) ≤ (p1 : Int) := by omega
          have e2 : (p1 : Int) ≤ (p2 : Int) := by omega
          have e3 : (p2 : Int) ≤ (p3 : Int) := by omega
          have e4 : (p3 : Int) ≤ (N : Int) := by omega
          have e5 : (p2 : Int) ≤ (N : Int) := by omega
          have e6 : (0 : Int) ≤ (p2 : Int) := by omega
          have g1 : IntKind.i64.wrap (p1 : Int) = (p1 : Int) := by rw [IntKind.wrap_i64]; omega
          have g2 : IntKind.i64.wrap (p2 : Int) = (p2 : Int) := by rw [IntKind.wrap_i64]; omega
          have g3 : IntKind.i64.wrap (p3 : Int) = (p3 : Int) := by rw [IntKind.wrap_i64]; omega
          have g4 : IntKind.i64.wrap ((p : Int) + (yn : Int)) = (p : Int) + (yn : Int) := by rw [IntKind.wrap_i64]; omega
          obtain ⟨t1, ht1⟩ : ∃ t1, s.extract p1 p2 = t1 := ⟨_, rfl⟩
          obtain ⟨t2, ht2⟩ : ∃ t2, s.extract p2 p3 = t2 := ⟨_, rfl⟩
          obtain ⟨v, hv⟩ : ∃ v, val t2.data.toList = v := ⟨_, rfl⟩
          have ht2s : t2.size ≤ 8 := by rw [← ht2, ByteArray.size_extract]; omega
          have hval := fun u => rvalue_at t2 ht2s v hv u
          have ht2l : t2.data.toList.length = t2.size := rfl
          have hvl : (UInt64.ofNat v).toNat = v := by rw [← hv]; exact toNat_val (by omega)
          have hone : one (bs.drop p) = some ((t1.data.toList, UInt64.ofNat v), bs.drop p3) := by
            rw [hdr]
            simp only [one]
            rw [if_neg (by rw [List.length_drop, H.out.2, hyn]; omega), hyn, ← hv, ← ht1, ← ht2, H.out.1, ext_data, ext_data, List.drop_drop, List.drop_drop]
            rw [show p + 1 = p1 from hp1, show p2 - p1 = yn by omega, show p3 - p2 = 8 by omega, show p1 + yn = p2 from hp2, show p1 + (yn + 8) = p3 by omega]
          obtain ⟨ho1, ho2⟩ := one_some hone
          have hnew : bs = treeB (es ++ [(t1.data.toList, UInt64.ofNat v)]) ++ bs.drop p3 := by
            rw [treeB_snoc, List.append_assoc, ← ho1]
            exact HR.out.2.2.1
          have HV : Hid (∀ u, Calls Try.prog 30 #[.string t2] u fun e w' => e = .returned (.int .u64 (v : Int)) ∧ w' = u) := hval
          have HZ : Hid (bs = treeB (es ++ [(t1.data.toList, UInt64.ofNat v)]) ++ bs.drop p3 ∧ Sm (es ++ [(t1.data.toList, UInt64.ofNat v)]) ∧ (UInt64.ofNat v).toNat = v) := ⟨hnew, HR.out.2.1.snoc ho2, hvl⟩
          have hp3N : p < p3 ∧ p3 ≤ N := by omega
          clear hval hnew ho1 ho2 hone hvl hv hdr ht2s ht2l hp1 hp2 hp3
          go_wp2_with fail
          have HC : Hid (∀ j u, (encE.cells (t1.data.toList, UInt64.ofNat v))[j]? = some u → (wr.drew.alloc (.cells #[.string t1, .int .u64 (v : Int)] 68)).cell? ((⟨wr.heap.size, 0, none⟩ : Addr).add j) = some u) := by
            have := cells_new encE wr.drew (t1.data.toList, UInt64.ofNat v) 68
            have e : (encE.cells (t1.data.toList, UInt64.ofNat v)).toArray = #[.string t1, .int .u64 (v : Int)] := by
              show #[tx t1.data.toList, Value.int .u64 ((UInt64.ofNat v).toNat : Int)] = _
              rw [HZ.out.2.2]
            rw [e] at this
            exact this
          have HX0 : Hid (Below w.heap.size w wr) := HR.out.2.2.2.2
          have HX1 : Hid (Below w.heap.size w wr.drew) := HR.out.2.2.2.2.drew
          go_region_held3 (fun u => Hid (Below w.heap.size w u))
            (first | with_reducible assumption | (refine keepA ?_; with_reducible assumption) | (refine keepD ?_; with_reducible assumption) | (refine keepD (keepA ?_); with_reducible assumption))
            (first
              | (refine stepG_at encE 68 30 24 _ rfl Try.info68 Try.underlying30 rfl (.tmp 29) (.tmp 50) rfl w.heap.size _ es (t1.data.toList, UInt64.ofNat v) rfl (HR.out.2.2.2.1.below ((Below.refl _ wr).drew.trans (bz1 wr.drew _))) wr.heap.size rfl HC.out (by rw [← HR.out.1]; omega) (by rw [← HR.out.1]; simp only [maxLen]; omega) (by have := HR.out.2.2.2.2.size; simp; omega) ?_; intro v4 w4 ho4 hb4 hm4 ht4; have HX4 : Hid (Below w.heap.size w w4) := HR.out.2.2.2.2.trans ((((bz1 wr _).drew).mono HR.out.2.2.2.2.size).trans hb4))
              | (go_at_call 30; (with_reducible refine (HV.out _).mono ?_); rintro e w3 ⟨rfl, hw3⟩; rw [hw3]; clear hw3 w3))
          all_goals
            obtain ⟨a4, c4, rfl, _, _, _, _⟩ := OwnG.form ho4
            have l4 : (es ++ [(t1.data.toList, UInt64.ofNat v)]).length = L + 1 := by rw [List.length_append, ← HR.out.1]; rfl
            rw [l4] at ho4 ⊢
            have HO : Hid (OwnG encE 68 w4 w.heap.size (.slice a4 (L + 1) c4) (es ++ [(t1.data.toList, UInt64.ofNat v)]) ∧ (es ++ [(t1.data.toList, UInt64.ofNat v)]).length = L + 1) := ⟨ho4, l4⟩
            clear hb4 hm4 ht4 ho4 l4
            go_wp2
            go_roundg (N - p3)
            case measure => omega
            case rel => exact ⟨p3, L + 1, _, a4, c4, by go_num, by omega, rfl, by omega, HO.out.2.symm, HZ.out.2.1, HZ.out.1, HO.out.1, HX4.out⟩
    · obtain rfl : p = N := by omega
      have hbs : bs = treeB es := by
        have := HR.out.2.2.1
        rw [List.drop_of_length_le (by rw [H.out.2]; omega), List.append_nil] at this
        exact this
      obtain ⟨ao', cap', e', o1, _, o3, _⟩ := OwnG.form HR.out.2.2.2.1
      rw [← HR.out.1] at e' o1
      cases e'
      have hrt := rtree_any (c := lc) wr o3 HR.out.1.symm
      obtain ⟨fe, hfe⟩ : ∃ fe, (ftree es).2 = fe := ⟨_, rfl⟩
      obtain ⟨fb, hfb⟩ : ∃ fb : ByteArray, fb = ⟨(ftree es).1.toArray⟩ := ⟨_, rfl⟩
      rw [show tx (ftree es).1 = .string fb by rw [hfb], hfe] at hrt
      have HH : Hid (bs = treeB es ∧ (ftree es).2 = fe) := ⟨hbs, hfe⟩
      clear o1 o3 hbs hfe hfb
      by_cases hf0 : fe = 0
      · subst hf0
        go_wp2_with fail
        refine hrt.mono ?_
        rintro e w2 ⟨rfl, hb2⟩
        go_wp2
        refine bodyPost_ret (results_tmp2 rfl _ _ _) rfl ?_
        have hg : RT bs es 0 := by
          have := ftree_rt HH.out.2
          have h2 := this.back
          unfold ftree at h2
          split at h2
          · rename_i q
            exact .inl ⟨rfl, q, HH.out.1.symm⟩
          · rename_i q
            simp only [Prod.mk.injEq] at h2
            exact absurd h2.2 q
        exact ⟨es, 0, _, rfl, hg, HR.out.2.2.2.1.below hb2, HR.out.2.2.2.2.trans (hb2.mono HR.out.2.2.2.2.size)⟩
      · have m0 : (fe == 0) = false := by simpa using hf0
        have m1 : (fe != 0) = true := by simpa using hf0
        go_wp2_with fail
        refine hrt.mono ?_
        rintro e w2 ⟨rfl, hb2⟩
        go_wp2
        refine bodyPost_ret (results_tmp2 rfl _ _ _) rfl ?_
        have hg : RT bs [] 9 := rt_bad HR.out.2.1 HH.out.1.symm (fun q => hf0 (by
          have := HH.out.2
          unfold ftree at this
          rw [if_pos q] at this
          exact this.symm))
        exact ⟨[], 9, _, rfl, hg, OwnG.nil _ _ _ _, HR.out.2.2.2.2.trans (hb2.mono HR.out.2.2.2.2.size)⟩

end Go.Proofs.Ytadjcmekpcimjaa
