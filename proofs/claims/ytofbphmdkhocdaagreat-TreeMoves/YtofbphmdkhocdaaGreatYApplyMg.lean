/-
  tree.Apply by a contract: of a list whose paths rise, without the blob 0, and of changes, at most 200000 of each, no path longer than any text can be.
-/
import Derived.Test.YtofbphmdkhocdaaGreatYCanonMg
namespace Go.Proofs.YtofbphmdkhocdaaGreat
open Go.RowKit Go.Shelf Go.Sort

/-- slices.SortFunc of a row of entries, or of none. -/
theorem sortE_any {w : World} {base : Nat} {v : Value} {es : List En} (h : OwnG encE 52 w base v es) (hn : es.length ≤ 1000000) :
    Calls Tryz.prog 41 #[v, .func (.func 42) #[] #[]] w fun e w' => e = .returned (.tuple #[]) ∧ ∃ ts : List En, ts.Perm es ∧ ts.Pairwise (fun a b => ¬ b.1 < a.1) ∧ OwnG encE 52 w' base v ts ∧ Turned (fun k => v.ownBlock = some k) w w' := by
  rcases h.2 with ⟨rfl, h0⟩ | ⟨g, cap, cur, rfl, _⟩
  · obtain rfl : es = [] := List.eq_nil_of_length_eq_zero h0
    have hcon := AnyF.slices_SortFunc_none laySortE none 0 (.func (.func 42) #[] #[]) w
    refine (show Calls Tryz.prog 41 _ _ _ from hcon).mono ?_
    rintro e w' ⟨rfl, rfl⟩
    exact ⟨rfl, [], List.Perm.refl _, List.Pairwise.nil, OwnG.nil _ _ _ _, Turned.refl _ _⟩
  · refine (sortE_row h hn).mono ?_
    rintro e w' ⟨rfl, ts, h1, h2, h3, h4⟩
    exact ⟨rfl, ts, h1, h2, h3, (Turned.refl _ w).grown h4 (fun k _ e => e)⟩

theorem ftree_code (es : List En) : (ftree es).2 = ctree es := by
  unfold ftree
  by_cases h : ctree es = 0
  · rw [if_pos h, h]
  · rw [if_neg h]

theorem brings_snoc {cs : List Chg} {i : Nat} {c : Chg} (h : cs[i]? = some c) : (cs.take (i + 1)).filterMap brings = (cs.take i).filterMap brings ++ (if c.2.2 = 0 then [] else [(c.1, c.2.2)]) := by
  rw [takeE_snoc h, List.filterMap_append]
  congr 1
  by_cases q : c.2.2 = 0 <;> simp [brings, q]

set_option maxHeartbeats 3200000 in
set_option maxRecDepth 100000 in
theorem apply_bad {ao bo : Option Addr} {n c m d : Nat} {A : List En} {cs : List Chg} (w : World) (ha : RdG encE w ao A) (hb : RdG encC w bo cs) (hl : A.length = n) (hk : cs.length = m) (hn : n ≤ 200000) (hm : m ≤ 200000) (rA : Rise A) (fA : Fine A) (fC : FineC cs) (hg : goodC A cs = false) :
    Calls Tryz.prog 20 #[.slice ao n c, .slice bo m d] w fun e w' => e = .returned (.tuple #[.slice none 0 0, .int .i64 9]) ∧ Below w.heap.size w w' := by
  have hne := news_any (c := c) (d := d) w ha hb hl hk hn hm rA fA fC false hg
  clear ha hb hl hk rA fA fC hg
  go_enter Tryz.func20, Tryz.ntmps20
  go_wp2_with fail
  refine hne.mono ?_
  rintro e w1 ⟨rv, re, rfl, NI, B1⟩
  have G1 : Hid (Below w.heap.size w w1) := B1
  obtain ⟨rfl, rfl⟩ : re = .int .i64 9 ∧ rv = .map none := by
    rcases NI.out with ⟨q, _⟩ | ⟨_, q⟩
    · cases q
    · exact q
  clear B1 NI hne
  go_wp2
  refine bodyPost_ret (results_tmp2 rfl _ _ _) rfl ?_
  exact ⟨rfl, G1.out.trans ((bz1 w1 _).mono G1.out.size)⟩

set_option maxHeartbeats 3200000 in
set_option maxRecDepth 100000 in
theorem apply_good {ao bo : Option Addr} {n c m d : Nat} {A : List En} {cs : List Chg} (w : World) (ha : RdG encE w ao A) (hb : RdG encC w bo cs) (hl : A.length = n) (hk : cs.length = m) (hn : n ≤ 200000) (hm : m ≤ 200000) (rA : Rise A) (zA : NZ A) (fA : Fine A) (fC : FineC cs) (hg : goodC A cs = true) (es : List En) (hes : canon A cs = es) (ce : Int) (hce : ctree es = ce) :
    Calls Tryz.prog 20 #[.slice ao n c, .slice bo m d] w fun e w' => ∃ v', e = .returned (.tuple #[v', .int .i64 ce]) ∧ OwnG encE 52 w' w.heap.size v' (if ce = 0 then es else []) ∧ Below w.heap.size w w' := by
  have hne := news_any (c := c) (d := d) w ha hb hl hk hn hm rA fA fC true hg
  have H : Hid (RdG encE w ao A ∧ RdG encC w bo cs ∧ A.length = n ∧ cs.length = m ∧ Rise A ∧ NZ A ∧ Fine A ∧ FineC cs ∧ goodC A cs = true ∧ canon A cs = es ∧ ctree es = ce) := ⟨ha, hb, hl, hk, rA, zA, fA, fC, hg, hes, hce⟩
  clear ha hb hl hk rA zA fA fC hg hes hce
  go_enter Tryz.func20, Tryz.ntmps20
  go_wp2_with fail
  refine hne.mono ?_
  rintro e w1 ⟨rv, re, rfl, NI, B1⟩
  obtain ⟨rfl, M, q, rfl, MP⟩ : re = .int .i64 0 ∧ ∃ M q, rv = .map (some M) ∧ MapG kS w1 M (newsF cs) q := by
    rcases NI.out with ⟨_, q⟩ | ⟨q, _⟩
    · exact q
    · cases q
  have G1 : Hid (Below w.heap.size w w1 ∧ MapG kS w1 M (newsF cs) q) := ⟨B1, MP⟩
  clear B1 NI hne MP
  go_upto_region 2 with fail
  obtain ⟨w2, hw2⟩ : ∃ w2, w2 = w1.alloc (.cells #[.map (some M)] 85) := ⟨_, rfl⟩
  obtain ⟨B, hB⟩ : ∃ B, w1.heap.size = B := ⟨_, rfl⟩
  have G2 : Hid (Below w.heap.size w w2 ∧ Held w2 B M cs ∧ B < w2.heap.size ∧ M < w2.heap.size) := by
    have h1 : Below w1.heap.size w1 w2 := by rw [hw2]; exact bz1 _ _
    have h2 : Held w2 B M cs := ⟨by rw [hw2, ← hB]; simp, q, G1.out.2.turned (S := fun _ => False) (Turned.ofBelow h1) (fun q => q)⟩
    exact ⟨G1.out.1.trans (h1.mono G1.out.1.size), h2, h2.lt⟩
  rw [← hw2, hB]
  clear hw2 hB G1
  have hcl := eclone_any (c := c) w2 (H.out.1.below G2.out.1) H.out.2.2.1 (by omega)
  go_wp2_with fail
  refine hcl.mono ?_
  rintro e w3 ⟨v3, rfl, O3, B3⟩
  have nb : ∀ k, v3.ownBlock = some k → w2.heap.size ≤ k := fun k hk => (O3.lt k hk).1
  have hde := del_any w3 (G2.out.2.1.below B3) O3 (by rw [H.out.2.2.1]; omega) H.out.2.2.2.2.2.2.1 (fun e => by have := nb _ e; have := G2.out.2.2.1; omega) (fun e => by have := nb _ e; have := G2.out.2.2.2; omega)
  have G3 : Hid (Below w2.heap.size w2 w3 ∧ ∀ k, v3.ownBlock = some k → w2.heap.size ≤ k) := ⟨B3, nb⟩
  clear O3 B3 nb hcl
  go_wp2_with fail
  refine hde.mono ?_
  rintro e w4 ⟨v4, rfl, O4, T4, _⟩
  have G4 : Hid (OwnG encE 52 w4 w2.heap.size v4 (A.filter (fun e => !pdel cs e)) ∧ Below w2.heap.size w2 w4) := ⟨O4, G3.out.1.trans (T4.below G3.out.1.size (fun k hk e => by have := G3.out.2 k e; omega))⟩
  clear O4 T4 hde G3
  go_wp2_with fail
  go_loopg [8, 28] m (fun k ov v wr => ∃ i : Nat, v = .int .i64 i ∧ i + k = m ∧ Hid (OwnG encE 52 wr w2.heap.size ov (A.filter (fun e => !pdel cs e) ++ (cs.take i).filterMap brings) ∧ Below w2.heap.size w2 wr))
  case atStart => exact ⟨0, rfl, by omega, by simpa using G4.out.1, G4.out.2⟩
  case round =>
    obtain ⟨i, rfl, hi, HR⟩ := hrel
    have hml : (A.filter (fun e => !pdel cs e) ++ (cs.take i).filterMap brings).length ≤ 400000 := by
      have h1 := List.length_filter_le (fun e => !pdel cs e) A
      have h2 := List.length_filterMap_le brings (cs.take i)
      have h3 := List.length_take_le i cs
      have h4 := H.out.2.2.1
      rw [List.length_append]
      omega
    by_cases hin : i < m
    · have id : (i : Int) < (m : Int) := by omega
      obtain ⟨e, he⟩ := get_some H.out.2.2.2.1 hin
      obtain ⟨b, off, rfl, hlt⟩ := H.out.2.1.some_of he
      have hbw : Below w.heap.size w wr := G2.out.1.trans (HR.out.2.mono G2.out.1.size)
      obtain ⟨c0, c1, c2⟩ := (H.out.2.1.below hbw).chgs he
      have hst := brings_snoc he
      obtain ⟨p, o, o2⟩ := e
      simp only at c0 c1 c2 hst
      obtain ⟨L, hL⟩ : ∃ L, A.filter (fun e => !pdel cs e) ++ (cs.take i).filterMap brings = L := ⟨_, rfl⟩
      have ST : Hid (A.filter (fun e => !pdel cs e) ++ (cs.take (i + 1)).filterMap brings = L ++ (if o2 = 0 then [] else [(p, o2)])) := by
        show _ = _
        rw [hst, ← List.append_assoc, hL]
      rw [hL] at HR hml
      clear he hst hL hbw hlt
      go_upto_region 8 with fail
      obtain ⟨w5, hw5⟩ : ∃ w5, w5 = wr.alloc (.cells #[.string ⟨p.toArray⟩, .int .u64 (o.toNat : Int), .int .u64 (o2.toNat : Int)] 58) := ⟨_, rfl⟩
      obtain ⟨R, hR⟩ : ∃ R, wr.heap.size = R := ⟨_, rfl⟩
      have B5 : Hid (Box3 w5 R 58 (tx p) (.int .u64 (o.toNat : Int)) (.int .u64 (o2.toNat : Int)) ∧ Below wr.heap.size wr w5) := by
        rw [hw5, ← hR]
        exact ⟨Box3.new wr 58 _ _ _, bz1 wr _⟩
      have X5 : Hid (OwnG encE 52 w5 w2.heap.size _ L ∧ Below w2.heap.size w2 w5) := ⟨HR.out.1.below B5.out.2, HR.out.2.trans (B5.out.2.mono HR.out.2.size)⟩
      rw [← hw5, hR]
      clear hw5 hR c0 c1 c2
      obtain ⟨j0, j1, j2⟩ := B5.out.1.cells
      by_cases h0 : o2 = 0
      · subst h0
        have j2' : w5.cell? ⟨R, 2, none⟩ = some (.int .u64 0) := j2
        go_wp2
        go_roundg (gk - 1)
        case measure => omega
        case rel => exact ⟨i + 1, by go_num, by omega, by rw [ST.out]; simpa using X5.out.1, X5.out.2⟩
      · have h0' : ((o2.toNat : Int) != 0) = true := by
          simp only [bne_iff_ne, ne_eq]
          intro e
          exact h0 (UInt64.toNat_inj.1 (show o2.toNat = 0 by omega))
        have h0'' : ((o2.toNat : Int) == 0) = false := by simpa using h0'
        go_wp2_with (at_builtin; refine appG_one encE 52 22 24 (.agg #[.string ⟨#[]⟩, .int .u64 0]) rfl Tryz.info52 Tryz.underlying22 rfl (.tmp 35) (.tmp 41) rfl w2.heap.size _ L (p, o2) _ rfl X5.out.1 rfl (by omega) (by simp only [maxLen]; omega) X5.out.2.size _ rfl ?_; intro v8 w8 hown8 hbel8 _ _)
        go_roundg (gk - 1)
        case measure => omega
        case rel => exact ⟨i + 1, by go_num, by omega, by rw [ST.out, if_neg h0]; exact hown8, X5.out.2.trans hbel8⟩
    · obtain rfl : i = m := by omega
      have e : cs.take i = cs := List.take_of_length_le (by rw [H.out.2.2.2.1]; omega)
      rw [e] at HR hml
      obtain ⟨wo, hwo⟩ : ∃ wo, wo = wr := ⟨_, rfl⟩
      subst hwo
      have hso := sortE_any HR.out.1 (by omega)
      clear e
      have hfine : Fine (madeL A cs) := by
        intro x hx
        unfold madeL at hx
        rcases List.mem_append.1 hx with k | k
        · exact H.out.2.2.2.2.2.2.1 x (List.mem_filter.1 k).1
        · obtain ⟨y, hy, hyb⟩ := List.mem_filterMap.1 k
          rw [(brings_some hyb).1]
          exact H.out.2.2.2.2.2.2.2.1 y hy
      have FF : Hid (Fine (madeL A cs)) := hfine
      clear hfine
      go_wp2_with fail
      refine hso.mono ?_
      rintro e w6 ⟨rfl, ts, hp, hs, O6, T6⟩
      have ets : ts = es := by rw [← H.out.2.2.2.2.2.2.2.2.2.1]; exact canon_eq H.out.2.2.2.2.2.2.2.2.1 H.out.2.2.2.2.1 H.out.2.2.2.2.2.1 hp hs
      have hfe : Fine es := by
        intro x hx
        rw [← ets] at hx
        exact FF.out x (hp.mem_iff.1 hx)
      rw [ets] at O6
      obtain ⟨a6, c6, rfl, k1, k2, R6, _⟩ := O6.form
      obtain ⟨kn, hkn⟩ : ∃ kn, es.length = kn := ⟨_, rfl⟩
      have htr := tree_any w6 R6 hkn hfe (by rw [← hkn]; exact k1)
      rw [ftree_code, H.out.2.2.2.2.2.2.2.2.2.2] at htr
      rw [hkn] at O6 ⊢
      have G6 : Hid (OwnG encE 52 w6 w2.heap.size (.slice a6 kn c6) es ∧ Below w2.heap.size w2 w6) := ⟨O6, HR.out.2.trans (T6.below HR.out.2.size (fun k hk e => by have := (HR.out.1.lt k e).1; omega))⟩
      clear hp hs O6 T6 hso ets hkn k1 k2 R6 hfe
      go_wp2_with fail
      refine htr.mono ?_
      rintro e w7 ⟨v7, rfl, G7⟩
      have G8 : Hid (OwnG encE 52 w7 w.heap.size (.slice a6 kn c6) es ∧ Below w.heap.size w w7) := ⟨(G6.out.1.below G7.out.2).low G2.out.1.size, (G2.out.1.trans (G6.out.2.mono G2.out.1.size)).trans (G7.out.2.mono (Nat.le_trans G2.out.1.size G6.out.2.size))⟩
      clear G7 htr
      by_cases hc0 : ce = 0
      · subst hc0
        go_wp2
        refine bodyPost_ret (results_tmp2 rfl _ _ _) rfl ?_
        exact ⟨_, rfl, by first | exact G8.out.1 | (rw [if_pos rfl]; exact G8.out.1), G8.out.2⟩
      · have hc1 : (ce != 0) = true := by simpa using hc0
        have hc2 : (ce == 0) = false := by simpa using hc0
        have HC : Hid (¬ ce = 0) := hc0
        go_wp2
        refine bodyPost_ret (results_tmp2 rfl _ _ _) rfl ?_
        exact ⟨_, rfl, by first | exact OwnG.nil _ _ _ _ | (rw [if_neg HC.out]; exact OwnG.nil _ _ _ _), G8.out.2⟩

/-- tree.Apply. -/
theorem apply_any {ao bo : Option Addr} {n c m d : Nat} {A : List En} {cs : List Chg} (w : World) (ha : RdG encE w ao A) (hb : RdG encC w bo cs) (hl : A.length = n) (hk : cs.length = m) (hn : n ≤ 200000) (hm : m ≤ 200000) (rA : Rise A) (zA : NZ A) (fA : Fine A) (fC : FineC cs) (es : List En) (ce : Int) (hes : fapply A cs = (es, ce)) :
    Calls Tryz.prog 20 #[.slice ao n c, .slice bo m d] w fun e w' => ∃ v', e = .returned (.tuple #[v', .int .i64 ce]) ∧ OwnG encE 52 w' w.heap.size v' es ∧ Below w.heap.size w w' := by
  unfold fapply at hes
  cases hg : goodC A cs with
  | false =>
    rw [hg] at hes
    obtain ⟨rfl, rfl⟩ : [] = es ∧ (9 : Int) = ce := by simpa using hes
    refine (apply_bad w ha hb hl hk hn hm rA fA fC hg).mono ?_
    rintro e w' ⟨rfl, hb⟩
    exact ⟨_, rfl, OwnG.nil _ _ _ _, hb⟩
  | true =>
    rw [hg] at hes
    by_cases h0 : ctree (canon A cs) = 0
    · obtain ⟨rfl, rfl⟩ : canon A cs = es ∧ (0 : Int) = ce := by simpa [h0] using hes
      exact apply_good w ha hb hl hk hn hm rA zA fA fC hg _ rfl 0 h0
    · obtain ⟨rfl, rfl⟩ : [] = es ∧ ctree (canon A cs) = ce := by simpa [h0] using hes
      refine (apply_good w ha hb hl hk hn hm rA zA fA fC hg _ rfl _ rfl).mono ?_
      rintro e w' ⟨v', rfl, h1, h2⟩
      rw [if_neg h0] at h1
      exact ⟨v', rfl, h1, h2⟩

end Go.Proofs.YtofbphmdkhocdaaGreat
