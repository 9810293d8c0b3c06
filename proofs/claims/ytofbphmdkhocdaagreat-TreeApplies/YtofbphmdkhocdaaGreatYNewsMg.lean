/-
  tree.newBlobs by a contract: of a list whose paths rise, and of changes, at most 200000 of each, no path longer than any text can be.
-/
import Derived.Test.YtofbphmdkhocdaaGreatM18
import Derived.Test.YtofbphmdkhocdaaGreatYGoneMg
namespace Go.Proofs.YtofbphmdkhocdaaGreat
open Go.RowKit

/-- Do all changes fit: no path told twice, and each Old what is there? -/
def goodC (A : List En) (l : List Chg) : Bool := decide ((l.map (·.1)).Nodup) && l.all (fun c => blobOf A c.1 == c.2.1)

theorem good_snoc (A : List En) (l : List Chg) (c : Chg) : goodC A (l ++ [c]) = (goodC A l && (!(l.any (fun x => x.1 == c.1)) && (blobOf A c.1 == c.2.1))) := by
  have e : decide (((l ++ [c]).map (·.1)).Nodup) = (decide ((l.map (·.1)).Nodup) && !(l.any (fun x => x.1 == c.1))) := by
    rw [Bool.eq_iff_iff, Bool.and_eq_true, decide_eq_true_iff, decide_eq_true_iff, List.map_append, List.nodup_append]
    simp only [List.map_cons, List.map_nil, Bool.not_eq_true', List.any_eq_false, beq_iff_eq]
    constructor
    · rintro ⟨h1, _, h3⟩
      exact ⟨h1, fun x hx e => h3 x.1 (List.mem_map.2 ⟨x, hx, rfl⟩) c.1 (by simp) e⟩
    · rintro ⟨h1, h2⟩
      refine ⟨h1, by simp, ?_⟩
      intro y hy z hz e
      obtain ⟨x, hx, rfl⟩ := List.mem_map.1 hy
      rw [List.mem_singleton.1 hz] at e
      exact h2 x hx e
  unfold goodC
  rw [e, List.all_append]
  simp only [List.all_cons, List.all_nil, Bool.and_true]
  cases decide ((l.map (·.1)).Nodup) <;> cases (l.any fun x => x.1 == c.1) <;> cases (l.all fun c => blobOf A c.1 == c.2.1) <;> rfl

theorem good_pre {A : List En} {l : List Chg} {i : Nat} (h : goodC A (l.take i) = false) : goodC A l = false := by
  cases hg : goodC A l with
  | false => rfl
  | true =>
    unfold goodC at h hg
    rw [Bool.and_eq_true, decide_eq_true_iff, List.all_eq_true] at hg
    rw [Bool.and_eq_false_iff, decide_eq_false_iff_not] at h
    rcases h with q | q
    · refine absurd ?_ q
      exact List.Nodup.sublist ((List.take_sublist i l).map _) hg.1
    · rw [List.all_eq_false] at q
      obtain ⟨x, hx, hn⟩ := q
      exact absurd (hg.2 x (List.mem_of_mem_take hx)) hn

def u64V (x : UInt64) : Value := .int .u64 (x.toNat : Int)
/-- What is at the changed paths; what was at all. -/
def newsF (l : List Chg) (x : Bs) : Option Value := (l.find? (fun c => c.1 == x)).map (fun c => u64V c.2.2)
def oldsF (l : List En) (x : Bs) : Option Value := (ffind l x).map u64V

theorem newsF_some (l : List Chg) (x : Bs) : (newsF l x).isSome = l.any (fun c => c.1 == x) := by
  unfold newsF
  rw [Option.isSome_map, Bool.eq_iff_iff]
  simp

theorem newsF_snoc {l : List Chg} {c : Chg} (h : l.any (fun x => x.1 == c.1) = false) : newsF (l ++ [c]) = gput (newsF l) c.1 (u64V c.2.2) := by
  funext x
  unfold newsF gput
  rw [List.find?_append]
  by_cases e : x = c.1
  · subst e
    have : l.find? (fun y => y.1 == c.1) = none := by
      rw [List.find?_eq_none]
      intro y hy q
      rw [List.any_eq_false] at h
      exact h y hy q
    rw [this]
    simp
  · have e' : (c.1 == x) = false := by simpa using fun q => e q.symm
    rw [if_neg e]
    cases hf : l.find? (fun y => y.1 == x) with
    | none => simp [hf, e']
    | some y => simp [hf]

theorem oldsF_snoc {l : List En} {e : En} (h : ∀ x ∈ l, x.1 ≠ e.1) : oldsF (l ++ [e]) = gput (oldsF l) e.1 (u64V e.2) := by
  funext x
  unfold oldsF gput ffind
  rw [List.find?_append]
  by_cases q : x = e.1
  · subst q
    have : l.find? (fun y => y.1 == e.1) = none := by
      rw [List.find?_eq_none]
      intro y hy k
      exact h y hy (by simpa using k)
    rw [this]
    simp
  · have q' : (e.1 == x) = false := by simpa using fun k => q k.symm
    rw [if_neg q]
    cases hf : l.find? (fun y => y.1 == x) with
    | none => simp [hf, q']
    | some y => simp [hf]

theorem zeroI (w : World) : (zeroValue 50).run Tryz.prog w = .ok (.int .u64 0) w := by
  obtain ⟨i0, hi0, hz0, _, _⟩ := info_parts Tryz.info50
  simp [zeroValue, typeInfo, hi0, hz0]

theorem olds_blob (A : List En) (p : Bs) : (oldsF A p).getD (.int .u64 0) = u64V (blobOf A p) := by
  unfold oldsF blobOf
  cases ffind A p <;> rfl

/-- What newBlobs tells. -/
def NewsIs (w : World) (g : Bool) (rv re : Value) (cs : List Chg) : Prop := (g = true ∧ re = .int .i64 0 ∧ ∃ M q, rv = .map (some M) ∧ MapG kS w M (newsF cs) q) ∨ (g = false ∧ re = .int .i64 9 ∧ rv = .map none)

set_option maxHeartbeats 3200000 in
set_option maxRecDepth 100000 in
/-- tree.newBlobs. -/
theorem news_any {ao bo : Option Addr} {n c m d : Nat} {A : List En} {cs : List Chg} (w : World) (ha : RdG encE w ao A) (hb : RdG encC w bo cs) (hl : A.length = n) (hk : cs.length = m) (hn : n ≤ 200000) (hm : m ≤ 200000) (rA : Rise A) (fA : Fine A) (fC : FineC cs) (g : Bool) (hg : goodC A cs = g) :
    Calls Tryz.prog 37 #[.slice ao n c, .slice bo m d] w fun e w' => ∃ rv re, e = .returned (.tuple #[rv, re]) ∧ Hid (NewsIs w' g rv re cs) ∧ Below w.heap.size w w' := by
  have H : Hid (RdG encE w ao A ∧ RdG encC w bo cs ∧ A.length = n ∧ cs.length = m ∧ Rise A ∧ Fine A ∧ FineC cs ∧ goodC A cs = g) := ⟨ha, hb, hl, hk, rA, fA, fC, hg⟩
  clear ha hb hl hk rA fA fC hg
  have hmk := run_makeMap (P := Tryz.prog) 85 w
  have hb0 : Below w.heap.size w (w.alloc (.map #[] 0)) := bz1 _ _
  have G0 : Hid (MapG kS (w.alloc (.map #[] 0)) w.heap.size (oldsF []) 0 ∧ Below w.heap.size w (w.alloc (.map #[] 0))) := ⟨MapG.new (by unfold World.alloc; simp), hb0⟩
  clear hb0
  go_enter Tryz.func37, Tryz.ntmps37
  go_wp2_with fail
  go_loopg [17] n (fun k v wr => ∃ (i : Nat), v = .int .i64 i ∧ i + k = n ∧ Hid (∃ q, MapG kS wr w.heap.size (oldsF (A.take i)) q ∧ q ≤ i ∧ Below w.heap.size w wr))
  case atStart => exact ⟨0, rfl, by omega, 0, G0.out.1, Nat.le_refl _, G0.out.2⟩
  case round =>
    obtain ⟨i, rfl, hi, HR⟩ := hrel
    obtain ⟨q, MP, hq, HB⟩ := HR.out
    by_cases hin : i < n
    · have id : (i : Int) < (n : Int) := by omega
      obtain ⟨e, he⟩ := get_some H.out.2.2.1 hin
      obtain ⟨b, off, rfl, hlt⟩ := H.out.1.some_of he
      obtain ⟨_, c0, c1⟩ := (H.out.1.below HB).ents he
      have hxl : e.1.length ≤ 9223372036854775807 := H.out.2.2.2.2.2.1 e (List.mem_of_getElem? he)
      have hst : oldsF (A.take (i + 1)) = gput (oldsF (A.take i)) e.1 (u64V e.2) := by
        rw [takeE_snoc he]
        refine oldsF_snoc (fun x hx ee => ?_)
        have hr : Rise (A.take (i + 1)) := List.Pairwise.sublist (List.take_sublist _ _) H.out.2.2.2.2.1
        rw [takeE_snoc he] at hr
        have := (List.pairwise_append.1 hr).2.2 x hx e (by simp)
        rw [ee] at this
        exact bl_irrefl _ this
      obtain ⟨p, x⟩ := e
      simp only at c0 c1 hxl hst
      have GG : Hid (MapG kS wr w.heap.size (oldsF (A.take i)) q ∧ q ≤ i ∧ Below w.heap.size w wr) := ⟨MP, hq, HB⟩
      have ST : Hid (oldsF (A.take (i + 1)) = gput (oldsF (A.take i)) p (u64V x)) := hst
      clear he hst MP hq HB HR hlt
      go_upto_region 5 with fail
      obtain ⟨w2, hw2⟩ : ∃ w2, w2 = wr.alloc (.cells #[.string ⟨p.toArray⟩, .int .u64 (x.toNat : Int)] 52) := ⟨_, rfl⟩
      obtain ⟨R, hR⟩ : ∃ R, wr.heap.size = R := ⟨_, rfl⟩
      have X2 : Hid (Box w2 R 52 (tx p) (.int .u64 (x.toNat : Int)) ∧ Below wr.heap.size wr w2) := by
        rw [hw2, ← hR]
        exact ⟨Box.new wr 52 _ _, bz1 wr _⟩
      rw [← hw2, hR]
      clear hw2 hR c0 c1
      obtain ⟨j0, j1⟩ := X2.out.1.cells
      obtain ⟨w5, hu5, MP5, gr5⟩ := MapG.put (MapG.turned (S := fun _ => False) GG.out.1 (Turned.ofBelow X2.out.2) (fun q => q)) Tryz.underlying85 p (show p.length ≤ maxLen by simp only [maxLen]; exact hxl) (by have := GG.out.2.1; simp only [maxLen]; omega) (u64V x)
      have hu6 : (Instr.mapUpdate 85 (.map (some w.heap.size)) (tx p) (.int .u64 (x.toNat : Int))).run Tryz.prog w2 = .ok () w5 := hu5
      have FIN : Hid (∃ q', MapG kS w5 w.heap.size (oldsF (A.take (i + 1))) q' ∧ q' ≤ i + 1 ∧ Below w.heap.size w w5) := by
        refine ⟨_, by rw [ST.out]; exact MP5, by have := GG.out.2.1; split <;> omega, ?_⟩
        have h1 : Below w.heap.size w w2 := GG.out.2.2.trans (X2.out.2.mono GG.out.2.2.size)
        exact h1.trans (((Turned.refl (fun k => k = w.heap.size) w2).grown gr5 (fun k _ e => (Option.some.inj e).symm)).below h1.size (fun k hk e => by omega))
      clear MP5 gr5 hu5
      go_wp2
      go_roundg (gk - 1)
      case measure => omega
      case rel => exact ⟨i + 1, by go_num, by omega, FIN⟩
    · obtain rfl : i = n := by omega
      have e : A.take i = A := List.take_of_length_le (by rw [H.out.2.2.1]; omega)
      rw [e] at MP
      have G1 : Hid (MapG kS wr w.heap.size (oldsF A) q ∧ Below w.heap.size w wr) := ⟨MP, HB⟩
      clear e MP HB HR hq
      obtain ⟨w1, hw1⟩ : ∃ w1, w1 = wr := ⟨_, rfl⟩
      subst hw1
      have hmk1 := run_makeMap (P := Tryz.prog) 85 w1
      obtain ⟨M, hM⟩ : ∃ M, w1.heap.size = M := ⟨_, rfl⟩
      have G2 : Hid (MapG kS (w1.alloc (.map #[] 0)) w.heap.size (oldsF A) q ∧ MapG kS (w1.alloc (.map #[] 0)) M (newsF []) 0 ∧ Below w.heap.size w (w1.alloc (.map #[] 0)) ∧ w.heap.size < M) := by
        refine ⟨MapG.turned (S := fun _ => False) G1.out.1 (Turned.ofBelow (bz1 w1 _)) (fun q => q), ?_, G1.out.2.trans ((bz1 w1 _).mono G1.out.2.size), by rw [← hM]; exact G1.out.1.lt⟩
        rw [← hM]
        exact MapG.new (by unfold World.alloc; simp)
      rw [hM] at hmk1
      clear hM hmk G0
      go_wp2_with fail
      go_loopg [30] m (fun k v wr => ∃ (i : Nat), v = .int .i64 i ∧ i + k = m ∧ Hid (∃ q', MapG kS wr w.heap.size (oldsF A) q ∧ MapG kS wr M (newsF (cs.take i)) q' ∧ q' ≤ i ∧ Below w.heap.size w wr ∧ goodC A (cs.take i) = true))
      case atStart => exact ⟨0, rfl, by omega, 0, G2.out.1, G2.out.2.1, Nat.le_refl _, G2.out.2.2.1, rfl⟩
      case round =>
        obtain ⟨j, rfl, hj, HJ⟩ := hrel
        obtain ⟨q', MO, MN, hq', HB, hgd⟩ := HJ.out
        by_cases hjn : j < m
        · have jd : (j : Int) < (m : Int) := by omega
          obtain ⟨e, he⟩ := get_some H.out.2.2.2.1 hjn
          obtain ⟨b, off, rfl, hlt⟩ := H.out.2.1.some_of he
          obtain ⟨c0, c1, c2⟩ := (H.out.2.1.below HB).chgs he
          have hxl : e.1.length ≤ 9223372036854775807 := H.out.2.2.2.2.2.2.1 e (List.mem_of_getElem? he)
          have hsn := good_snoc A (cs.take j) e
          rw [← takeE_snoc he, hgd, Bool.true_and] at hsn
          have hnf : (cs.take j).any (fun x => x.1 == e.1) = false → newsF (cs.take (j + 1)) = gput (newsF (cs.take j)) e.1 (u64V e.2.2) := fun h => by rw [takeE_snoc he]; exact newsF_snoc h
          have hiS := newsF_some (cs.take j) e.1
          have hob := olds_blob A e.1
          obtain ⟨p, o, o2⟩ := e
          simp only at c0 c1 c2 hxl hsn hnf hiS hob
          have GG : Hid (MapG kS wr w.heap.size (oldsF A) q ∧ MapG kS wr M (newsF (cs.take j)) q' ∧ q' ≤ j ∧ Below w.heap.size w wr) := ⟨MO, MN, hq', HB⟩
          obtain ⟨st, hst⟩ : ∃ st, (cs.take j).any (fun x => x.1 == p) = st := ⟨_, rfl⟩
          rw [hst] at hsn hnf hiS
          have SN : Hid (goodC A (cs.take (j + 1)) = (!st && (blobOf A p == o)) ∧ (st = false → newsF (cs.take (j + 1)) = gput (newsF (cs.take j)) p (u64V o2)) ∧ (newsF (cs.take j) p).isSome = st) := ⟨hsn, hnf, hiS⟩
          obtain ⟨bv, hbv⟩ : ∃ bv, blobOf A p = bv := ⟨_, rfl⟩
          rw [hbv] at hob SN
          have OB : Hid ((oldsF A p).getD (.int .u64 0) = u64V bv) := hob
          clear he hsn hnf hiS hob MO MN hq' HB HJ hlt hst hbv hgd
          go_upto_region 11 with fail
          obtain ⟨w3, hw3⟩ : ∃ w3, w3 = wr.alloc (.cells #[.string ⟨p.toArray⟩, .int .u64 (o.toNat : Int), .int .u64 (o2.toNat : Int)] 58) := ⟨_, rfl⟩
          obtain ⟨R, hR⟩ : ∃ R, wr.heap.size = R := ⟨_, rfl⟩
          have X3 : Hid (Box3 w3 R 58 (tx p) (.int .u64 (o.toNat : Int)) (.int .u64 (o2.toNat : Int)) ∧ Below wr.heap.size wr w3) := by
            rw [hw3, ← hR]
            exact ⟨Box3.new wr 58 _ _ _, bz1 wr _⟩
          rw [← hw3, hR]
          clear hw3 hR c0 c1 c2
          obtain ⟨j0, j1, j2⟩ := X3.out.1.cells
          have G3 : Hid (MapG kS w3 w.heap.size (oldsF A) q ∧ MapG kS w3 M (newsF (cs.take j)) q' ∧ Below w.heap.size w w3) := ⟨MapG.turned (S := fun _ => False) GG.out.1 (Turned.ofBelow X3.out.2) (fun q => q), MapG.turned (S := fun _ => False) GG.out.2.1 (Turned.ofBelow X3.out.2) (fun q => q), GG.out.2.2.2.trans (X3.out.2.mono GG.out.2.2.2.size)⟩
          have hpm : p.length ≤ maxLen := by simp only [maxLen]; exact hxl
          obtain ⟨nv, hnv⟩ : ∃ nv, (newsF (cs.take j) p).getD (.int .u64 0) = nv := ⟨_, rfl⟩
          have hlk1 : (Instr.lookup 85 (.map (some M)) (tx p) true).run Tryz.prog w3 = .ok (.tuple #[nv, .bool st]) w3 := by
            have := G3.out.2.1.look Tryz.underlying85 (zeroI _) p hpm
            rw [hnv, SN.out.2.2] at this
            exact this
          have hlk2 : (Instr.lookup 85 (.map (some w.heap.size)) (tx p) false).run Tryz.prog w3 = .ok (.int .u64 (bv.toNat : Int)) w3 := by
            have := G3.out.1.look1 Tryz.underlying85 (zeroI _) p hpm
            rw [OB.out] at this
            exact this
          clear hnv
          cases st with
          | true =>
            have GF : Hid (g = false) := by
              show _ = _
              rw [← H.out.2.2.2.2.2.2.2]
              exact good_pre (i := j + 1) (by rw [SN.out.1]; rfl)
            go_wp2
            refine bodyPost_ret (results_tmp2 rfl _ _ _) rfl ?_
            exact ⟨_, _, rfl, .inr ⟨GF.out, rfl, rfl⟩, G3.out.2.2⟩
          | false =>
            by_cases hbo : bv = o
            · subst hbo
              obtain ⟨w5, hu5, MP5, gr5⟩ := MapG.put G3.out.2.1 Tryz.underlying85 p hpm (by have := GG.out.2.2.1; simp only [maxLen]; omega) (u64V o2)
              have hu6 : (Instr.mapUpdate 85 (.map (some M)) (tx p) (.int .u64 (o2.toNat : Int))).run Tryz.prog w3 = .ok () w5 := hu5
              have FIN : Hid (∃ q2, MapG kS w5 w.heap.size (oldsF A) q ∧ MapG kS w5 M (newsF (cs.take (j + 1))) q2 ∧ q2 ≤ j + 1 ∧ Below w.heap.size w w5 ∧ goodC A (cs.take (j + 1)) = true) := by
                have ht5 : Turned (fun k => k = M) w3 w5 := (Turned.refl _ _).grown gr5 (fun k _ e => (Option.some.inj e).symm)
                have hlt := G2.out.2.2.2
                exact ⟨_, MapG.turned G3.out.1 ht5 (fun e => by omega), by rw [SN.out.2.1 rfl]; exact MP5, by have := GG.out.2.2.1; split <;> omega, G3.out.2.2.trans (ht5.below G3.out.2.2.size (fun k hk e => by omega)), by rw [SN.out.1]; simp⟩
              clear MP5 gr5 hu5
              go_wp2
              go_roundg (gk - 1)
              case measure => omega
              case rel => exact ⟨j + 1, by go_num, by omega, FIN⟩
            · have hne : ((bv.toNat : Int) != (o.toNat : Int)) = true := by
                simp only [bne_iff_ne, ne_eq]
                intro e
                exact hbo (UInt64.toNat_inj.1 (by omega))
              have hne2 : ((bv.toNat : Int) == (o.toNat : Int)) = false := by simpa using hne
              have GF : Hid (g = false) := by
                show _ = _
                rw [← H.out.2.2.2.2.2.2.2]
                refine good_pre (i := j + 1) ?_
                rw [SN.out.1]
                simpa using hbo
              go_wp2
              refine bodyPost_ret (results_tmp2 rfl _ _ _) rfl ?_
              exact ⟨_, _, rfl, .inr ⟨GF.out, rfl, rfl⟩, G3.out.2.2⟩
        · obtain rfl : j = m := by omega
          have e : cs.take j = cs := List.take_of_length_le (by rw [H.out.2.2.2.1]; omega)
          rw [e] at MN hgd
          have G : Hid (MapG kS wr M (newsF cs) q' ∧ Below w.heap.size w wr ∧ g = true) := ⟨MN, HB, by rw [← H.out.2.2.2.2.2.2.2]; exact hgd⟩
          clear e MN MO HB HJ hq' hgd
          go_wp2
          refine bodyPost_ret (results_tmp2 rfl _ _ _) rfl ?_
          exact ⟨_, _, rfl, .inl ⟨G.out.2.2, rfl, M, q', rfl, G.out.1⟩, G.out.2.1⟩

end Go.Proofs.YtofbphmdkhocdaaGreat
