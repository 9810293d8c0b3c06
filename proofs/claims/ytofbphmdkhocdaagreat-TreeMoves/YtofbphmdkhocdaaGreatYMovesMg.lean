/-
  tree.Moves by a contract: of two lists whose paths rise, none longer than any text can be, and of at most 100000 entries each.
-/
import Derived.Test.YtofbphmdkhocdaaGreatYGoneMg
import Derived.Test.YtofbphmdkhocdaaGreatYCapMg
namespace Go.Proofs.YtofbphmdkhocdaaGreat
open Go.RowKit

abbrev Mv := Bs × Bs
def encM : Enc Mv := ⟨fun c => [tx c.1, tx c.2], 2, fun _ => rfl, by decide, by intro x u h; simp at h; rcases h with rfl | rfl <;> rfl⟩
theorem Tryz.info47 : (Tryz.prog.info? 47).map (fun i => (i.zero, i.size, i.bytes)) = some (some (.agg #[.string ⟨#[]⟩, .string ⟨#[]⟩]), 2, 32) := by kernel_rfl
theorem els25 : Tryz.prog.elem 37 = 58 := by kernel_rfl

theorem add_block (p : Addr) (k : Nat) : (p.add k).block = p.block := by
  unfold Addr.add
  split <;> rfl

/-- s[k:], and in which block it lies. -/
theorem sliceG_b {α : Type} (E : Enc α) (e t bytes : Nat) (z : Value) (hinfo : (Tryz.prog.info? e).map (fun i => (i.zero, i.size, i.bytes)) = some (some z, E.size, bytes)) (hu : Tryz.prog.underlying t = some (.slice e)) (he : Tryz.prog.elem t = e)
    {ao : Option Addr} {n c k : Nat} (hc : n ≤ c) (hk : k ≤ n) :
    ∃ a' c', (∀ w, (Instr.slice t (.slice ao n c) (some (.int .i64 (k : Int))) none none).run Tryz.prog w = .ok (.slice a' (n - k) c') w) ∧ n - k ≤ c' ∧ c' ≤ c ∧ (∀ w (xs : List α), xs.length = n → RdG E w ao xs → RdG E w a' (xs.drop k)) ∧ ∀ p, a' = some p → ∃ p0, ao = some p0 ∧ p.block = p0.block := by
  obtain ⟨i0, hi0, hz0, hz1, hz2⟩ := info_parts hinfo
  refine ⟨if c = k then ao else ao.map (·.add (k * E.size)), c - k, fun w => ?_, by omega, by omega, ?_, ?_⟩
  · rw [run_slice_l w t ao n c (by rw [he]; exact hu) .i64 (k : Int) (by omega) (by omega)]
    have : (sizeOf (Tryz.prog.elem t)).run Tryz.prog w = .ok E.size w := by
      rw [he]
      simp [sizeOf, typeInfo, hi0, hz1]
    rw [this]
    simp only [Result.andThen, sliced, Int.toNat_natCast]
  · intro w xs hl h
    split
    · intro h0
      simp at h0
      omega
    · intro h0
      obtain ⟨b, off, rfl, hlt, hcc⟩ := h (by simp at h0; omega)
      simp only [Option.map_some, addr_plus]
      exact RdG.drop (E := E) (b := b) (off := off) (xs := xs) (fun _ => ⟨b, off, rfl, hlt, hcc⟩) k h0
  · intro p hp
    split at hp
    · exact ⟨p, hp, rfl⟩
    · obtain ⟨p0, h1, h2⟩ := Option.map_eq_some_iff.1 hp
      exact ⟨p0, h1, by rw [← h2, add_block]⟩

/-- One change gone through: what is free, and the moves. -/
def mstep (st : (UInt64 → List Chg) × List Mv) (c : Chg) : (UInt64 → List Chg) × List Mv :=
  if c.2.1 = 0 then (match st.1 c.2.2 with | [] => st | x :: t => (fun y => if y = c.2.2 then t else st.1 y, st.2 ++ [(x.1, c.1)])) else st
def mgo (cs : List Chg) (i : Nat) : (UInt64 → List Chg) × List Mv := (cs.take i).foldl mstep (goneL cs, [])
/-- The files that are elsewhere, out of the changes. -/
def pmoves (cs : List Chg) : List Mv := (mgo cs cs.length).2

theorem mgo_step {cs : List Chg} {i : Nat} {c : Chg} (h : cs[i]? = some c) : mgo cs (i + 1) = mstep (mgo cs i) c := by
  unfold mgo
  rw [takeE_snoc h, List.foldl_append]
  rfl
theorem mgo_len (cs : List Chg) : ∀ i, (mgo cs i).2.length ≤ i
  | 0 => by simp [mgo]
  | i + 1 => by
    have ih := mgo_len cs i
    rcases Nat.lt_or_ge i cs.length with q | q
    · rw [mgo_step (List.getElem?_eq_getElem q)]
      unfold mstep
      split
      · split
        · omega
        · simp; omega
      · omega
    · have : mgo cs (i + 1) = mgo cs i := by
        unfold mgo
        rw [List.take_of_length_le q, List.take_of_length_le (by omega)]
      rw [this]
      omega

/-- What is free, by its blob, as it lies in a map: the lists can be read in an earlier world. -/
structure FreeX (w0 w : World) (m : Nat) (f : UInt64 → Option Value) (n : Nat) (g : UInt64 → List Chg) : Prop where
  map : MapG kU w m f n
  tur : Turned (fun k => k = m) w0 w
  old : m < w0.heap.size
  row : ∀ x, ∃ a k c, (f x).getD (.slice none 0 0) = .slice a k c ∧ (g x).length = k ∧ k ≤ c ∧ c ≤ 9223372036854775807 ∧ RdG encC w0 a (g x) ∧ ∀ p, a = some p → p.block ≠ m

theorem GoneX.free {w : World} {B m n : Nat} {f : UInt64 → Option Value} {g : UInt64 → List Chg} (h : GoneX w B m f n g) : FreeX w w m f n g := by
  refine ⟨h.map, Turned.refl _ _, h.map.lt, fun x => ?_⟩
  obtain ⟨a, c, e, h1, h2, h3, h4⟩ := (h.row x).form
  refine ⟨a, _, c, e, rfl, h1, h2, h3, fun p hp ee => ?_⟩
  have hr := h.row x
  rw [e] at hr
  exact h.off x p.block (by rw [e, hp]; exact own_at_head hr hp) ee

theorem FreeX.below {w0 w w' : World} {m n : Nat} {f : UInt64 → Option Value} {g : UInt64 → List Chg} (h : FreeX w0 w m f n g) (hb : Below w.heap.size w w') : FreeX w0 w' m f n g :=
  ⟨h.map.turned (S := fun _ => False) (Turned.ofBelow hb) (fun q => q), h.tur.trans (Turned.ofBelow (S := fun _ => False) hb) (fun _ _ q => q.elim), h.old, h.row⟩

/-- A step that turns none of the blocks that were there at first. -/
theorem FreeX.later {w0 w w' : World} {m n B : Nat} {f : UInt64 → Option Value} {g : UInt64 → List Chg} (h : FreeX w0 w m f n g) (hB : w0.heap.size ≤ B) (hb : Below B w w') : FreeX w0 w' m f n g := by
  have ht : Turned (fun k => B ≤ k) w w' := ⟨hb.os, hb.tape, hb.output, hb.size, fun k _ hn => hb.block k (by omega)⟩
  refine ⟨h.map.turned ht (fun q => by have := h.old; omega), h.tur.trans ht (fun i hi q => by omega), h.old, h.row⟩

theorem FreeX.next {w0 w w' : World} {m n : Nat} {f : UInt64 → Option Value} {g : UInt64 → List Chg} (h : FreeX w0 w m f n g) (x : UInt64) {a' : Option Addr} {k' c' : Nat} {l : List Chg}
    (hl : l.length = k') (hc : k' ≤ c') (hm : c' ≤ 9223372036854775807) (hr : RdG encC w0 a' l) (hn : ∀ p, a' = some p → p.block ≠ m)
    (hp : MapG kU w' m (gput f x (.slice a' k' c')) (if (f x).isSome then n else n + 1)) (hg : w.grownBy w' (some m)) :
    FreeX w0 w' m (gput f x (.slice a' k' c')) (if (f x).isSome then n else n + 1) (fun y => if y = x then l else g y) := by
  refine ⟨hp, h.tur.trans ((Turned.refl (fun k => k = m) w).grown hg (fun k _ e => (Option.some.inj e).symm)) (fun _ _ q => q), h.old, fun y => ?_⟩
  unfold gput
  by_cases e : y = x
  · rw [if_pos e, if_pos e]
    exact ⟨a', k', c', rfl, hl, hc, hm, hr, hn⟩
  · rw [if_neg e, if_neg e]
    exact h.row y

set_option maxHeartbeats 3200000 in
set_option maxRecDepth 100000 in
/-- tree.Moves. -/
theorem moves_cap {ao bo : Option Addr} {n c m d : Nat} {A B : List En} (w : World) (ha : RdG encE w ao A) (hb : RdG encE w bo B) (hl : A.length = n) (hk : B.length = m) (hnc : n ≤ c) (hmd : m ≤ d) (hn : n ≤ 100000) (hm : m ≤ 100000)
    (rA : Rise A) (rB : Rise B) (fA : Fine A) (fB : Fine B) (cs : List Chg) (hcs : fdiff (hasS []) A B = cs) (hcl : cs.length ≤ 200000) :
    Calls Tryz.prog 16 #[.slice ao n c, .slice bo m d] w fun e w' => ∃ v', e = .returned v' ∧ OwnG encM 47 w' w.heap.size v' (pmoves cs) ∧ Below w.heap.size w w' := by
  have hdi := diff_cap (K := max c d) (lc := 0) (lo := none) (ln := 0) w ha hb hl hk hnc hmd (Nat.le_max_left _ _) (Nat.le_max_right _ _) hn hm rA rB fA fB (Rd.nil w none) rfl (by omega)
  rw [hcs] at hdi
  clear ha hb hl hk rA rB fA fB hcs hnc hmd hn hm
  go_enter Tryz.func16, Tryz.ntmps16
  go_wp2_with fail
  refine hdi.mono ?_
  rintro e w1 ⟨v1, rfl, O1, B1⟩
  obtain ⟨a1, c1, rfl, _, _, R1, _⟩ := O1.form
  obtain ⟨k, hk⟩ : ∃ k, cs.length = k := ⟨_, rfl⟩
  rw [hk] at hcl ⊢
  have G1 : Hid (RdG encC w1 a1 cs ∧ cs.length = k ∧ Below w.heap.size w w1) := ⟨R1, hk, B1⟩
  have hgo := gone_any (c := c1) w1 R1 hk hcl
  clear O1 B1 R1 hk hdi
  go_wp2_with fail
  refine hgo.mono ?_
  rintro e w2 ⟨f, q, rfl, GX, hq, B2⟩
  obtain ⟨M, hM⟩ : ∃ M, w1.heap.size = M := ⟨_, rfl⟩
  have N1 : ∀ p, a1 = some p → 0 < cs.length → p.block ≠ M := by
    intro p hp h0
    obtain ⟨b', off', e, hlt, _⟩ := G1.out.1 h0
    rw [hp] at e
    cases e
    show b' ≠ M
    omega
  rw [hM] at GX ⊢
  have G2 : Hid (FreeX w2 w2 M f q (goneL cs) ∧ q ≤ k ∧ Below w.heap.size w w2 ∧ RdG encC w2 a1 cs ∧ cs.length = k ∧ w.heap.size ≤ M ∧ (∀ p, a1 = some p → 0 < cs.length → p.block ≠ M)) := ⟨GX.free, hq, G1.out.2.2.trans (B2.mono G1.out.2.2.size), G1.out.1.below B2, G1.out.2.1, by rw [← hM]; exact G1.out.2.2.size, N1⟩
  clear GX hq B2 hgo G1 hM N1
  go_wp2_with fail
  go_loopg [7, 19] k (fun t ov v wr => ∃ (i : Nat), v = .int .i64 i ∧ i + t = k ∧ Hid (OwnG encM 47 wr w2.heap.size ov (mgo cs i).2 ∧ ∃ f q, FreeX w2 wr M f q (mgo cs i).1 ∧ q ≤ k + i))
  case atStart => exact ⟨0, rfl, by omega, OwnG.nil _ _ _ _, f, q, G2.out.1, by have := G2.out.2.1; omega⟩
  case round =>
    obtain ⟨i, rfl, hi, HR⟩ := hrel
    obtain ⟨OW, f', q', FX, hq'⟩ := HR.out
    by_cases hin : i < k
    · have id : (i : Int) < (k : Int) := by omega
      obtain ⟨e, he⟩ := get_some G2.out.2.2.2.2.1 hin
      have hR := RdG.turned G2.out.2.2.2.1 FX.tur (fun h0 p hp => G2.out.2.2.2.2.2.2 p hp h0)
      obtain ⟨b, off, rfl, hlt⟩ := hR.some_of he
      obtain ⟨c0, c1', c2⟩ := hR.chgs he
      have hst := mgo_step he
      have hml := mgo_len cs i
      obtain ⟨p, o, o2⟩ := e
      simp only at c0 c1' c2
      have WW : Hid (OwnG encM 47 wr w2.heap.size _ (mgo cs i).2 ∧ FreeX w2 wr M f' q' (mgo cs i).1 ∧ q' ≤ k + i) := ⟨OW, FX, hq'⟩
      have ST : Hid (mgo cs (i + 1) = mstep (mgo cs i) (p, o, o2) ∧ (mgo cs i).2.length ≤ i) := ⟨hst, hml⟩
      clear he hst hml OW FX hq' HR hR hlt
      go_upto_region 7 with fail
      obtain ⟨w3, hw3⟩ : ∃ w3, w3 = wr.alloc (.cells #[.string ⟨p.toArray⟩, .int .u64 (o.toNat : Int), .int .u64 (o2.toNat : Int)] 58) := ⟨_, rfl⟩
      obtain ⟨R, hR⟩ : ∃ R, wr.heap.size = R := ⟨_, rfl⟩
      have B3 : Hid (Box3 w3 R 58 (tx p) (.int .u64 (o.toNat : Int)) (.int .u64 (o2.toNat : Int)) ∧ Below wr.heap.size wr w3) := by
        rw [hw3, ← hR]
        exact ⟨Box3.new wr 58 _ _ _, bz1 wr _⟩
      have X3 : Hid (Box3 w3 R 58 (tx p) (.int .u64 (o.toNat : Int)) (.int .u64 (o2.toNat : Int)) ∧ OwnG encM 47 w3 w2.heap.size _ (mgo cs i).2 ∧ FreeX w2 w3 M f' q' (mgo cs i).1 ∧ wr.heap.size ≤ R) := ⟨B3.out.1, WW.out.1.below B3.out.2, WW.out.2.1.below B3.out.2, Nat.le_of_eq hR⟩
      rw [← hw3, hR]
      clear hw3 hR c0 c1' c2
      obtain ⟨j0, j1, j2⟩ := X3.out.1.cells
      by_cases h0 : o = 0
      · subst h0
        have j1' : w3.cell? ⟨R, 1, none⟩ = some (.int .u64 0) := j1
        obtain ⟨fa, fk, fc, hfv, fl1, fl2, fl3, fr, fnm⟩ := X3.out.2.2.1.row o2
        have hlk : (Instr.lookup 81 (.map (some M)) (.int .u64 (o2.toNat : Int)) false).run Tryz.prog w3 = .ok (.slice fa fk fc) w3 := by rw [← hfv]; exact X3.out.2.2.1.map.look1 Tryz.underlying81 (zeroC _) o2 trivial
        cases hgl : (mgo cs i).1 o2 with
        | nil =>
          rw [hgl] at fl1
          have fl0 : fk = 0 := fl1.symm
          subst fl0
          have EN : Hid (mgo cs (i + 1) = mgo cs i) := by
            show _ = _
            rw [ST.out.1, mstep]
            simp [hgl]
          clear hgl fl1 fl2 fl3 fr fnm hfv
          go_wp2
          go_roundg (gk - 1)
          case measure => omega
          case rel => exact ⟨i + 1, by go_num, by omega, by rw [EN.out]; exact X3.out.2.1, f', q', by rw [EN.out]; exact X3.out.2.2.1, by have := WW.out.2.2; omega⟩
        | cons x t =>
          have hR3 := RdG.turned fr X3.out.2.2.1.tur (fun _ p hp => fnm p hp)
          rw [hgl] at hR3 fr fl1
          obtain ⟨bf, of, rfl, hltf⟩ := hR3.some_of (i := 0) (x := x) rfl
          obtain ⟨k0, _, _⟩ := hR3.chgs (i := 0) (c := x) rfl
          rw [Nat.zero_mul, Nat.add_zero] at k0
          obtain ⟨x1, x2, x3⟩ := x
          simp only at k0
          have hfk : (0 : Int) < (fk : Int) := by simp at fl1; omega
          obtain ⟨a', c', hs1, hs2, hs3, hs4, hs5⟩ := sliceG_b encC 58 37 32 _ Tryz.info58 Tryz.underlying37 els25 (ao := some ⟨bf, of, none⟩) (k := 1) fl2 (by simp at fl1; omega)
          have hs1' : ∀ w, (Instr.slice 37 (.slice (some ⟨bf, of, none⟩) fk fc) (some (.int .i64 1)) none none).run Tryz.prog w = .ok (.slice a' (fk - 1) c') w := hs1
          have FT : Hid (t.length = fk - 1 ∧ fk - 1 ≤ c' ∧ c' ≤ 9223372036854775807 ∧ RdG encC w2 a' t ∧ (∀ p, a' = some p → p.block ≠ M)) := by
            refine ⟨by simp at fl1; omega, hs2, by omega, ?_, ?_⟩
            · exact hs4 w2 _ fl1 fr
            · intro p hp
              obtain ⟨p0, e1, e2⟩ := hs5 p hp
              rw [e2]
              exact fnm p0 e1
          have EN : Hid (mgo cs (i + 1) = (fun y => if y = o2 then t else (mgo cs i).1 y, (mgo cs i).2 ++ [(x1, p)])) := by
            show _ = _
            rw [ST.out.1, mstep]
            simp [hgl]
          have kk0 : (w3.alloc (.cells #[.string ⟨x1.toArray⟩, .string ⟨p.toArray⟩] 47)).cell? ⟨bf, of, none⟩ = some (tx x1) := ((bz1 w3 _).cell (p := ⟨bf, of, none⟩) hltf).trans k0
          have BA : Hid (Below w3.heap.size w3 (w3.alloc (.cells #[.string ⟨x1.toArray⟩, .string ⟨p.toArray⟩] 47)).drew) := (bz1 w3 _).drew
          have XA : Hid (Box3 (w3.alloc (.cells #[.string ⟨x1.toArray⟩, .string ⟨p.toArray⟩] 47)).drew R 58 (tx p) (.int .u64 0) (.int .u64 (o2.toNat : Int)) ∧ OwnG encM 47 (w3.alloc (.cells #[.string ⟨x1.toArray⟩, .string ⟨p.toArray⟩] 47)).drew w2.heap.size _ (mgo cs i).2 ∧ FreeX w2 (w3.alloc (.cells #[.string ⟨x1.toArray⟩, .string ⟨p.toArray⟩] 47)).drew M f' q' (mgo cs i).1) := ⟨X3.out.1.below BA.out, X3.out.2.1.below BA.out, X3.out.2.2.1.below BA.out⟩
          obtain ⟨jj0, jj1, jj2⟩ := XA.out.1.cells
          have hs2w : w2.heap.size ≤ w3.heap.size := X3.out.2.2.1.tur.size
          clear hgl fl1 fl2 fl3 fr fnm hfv hR3 hs1 hs2 hs3 hs4 hs5
          go_upto_region 10 with fail
          go_cut [7] (fun mv u => Hid (OwnG encM 47 u w2.heap.size mv ((mgo cs i).2 ++ [(x1, p)]) ∧ FreeX w2 u M f' q' (mgo cs i).1 ∧ Box3 u R 58 (tx p) (.int .u64 0) (.int .u64 (o2.toNat : Int))))
          case first =>
            go_region_law (refine stepG_at encM 47 42 32 (.agg #[.string ⟨#[]⟩, .string ⟨#[]⟩]) rfl Tryz.info47 Tryz.underlying42 rfl (.tmp 33) (.tmp 41) rfl w2.heap.size _ (mgo cs i).2 (x1, p) rfl XA.out.2.1 w3.heap.size rfl (cells_new encM w3.drew (x1, p) 47) (by have := ST.out.2; omega) (by have := ST.out.2; simp only [maxLen]; omega) (by simp; omega) ?_; intro v4 w4 ho4 hb4 hm4 ht4; have FIN : Hid (OwnG encM 47 w4 w2.heap.size v4 ((mgo cs i).2 ++ [(x1, p)]) ∧ FreeX w2 w4 M f' q' (mgo cs i).1 ∧ Box3 w4 R 58 (tx p) (.int .u64 0) (.int .u64 (o2.toNat : Int))) := ⟨ho4, FreeX.later XA.out.2.2 (Nat.le_refl _) hb4, Box3.turned XA.out.1 ht4 (by intro e; have h1 := (WW.out.1.lt R e).2; have h2 := X3.out.2.2.2; omega)⟩; clear ho4 hb4 hm4 ht4)
            all_goals
              go_wp2_with fail
              go_meet
              exact FIN
          case rest =>
            have G4 : Hid (OwnG encM 47 wc w2.heap.size _ ((mgo cs i).2 ++ [(x1, p)]) ∧ FreeX w2 wc M f' q' (mgo cs i).1 ∧ Box3 wc R 58 (tx p) (.int .u64 0) (.int .u64 (o2.toNat : Int))) := hcut
            obtain ⟨l0, l1, l2⟩ := G4.out.2.2.cells
            have FD := G4.out.2.1.below (Below.refl _ wc).drew
            have OD := G4.out.1.below (Below.refl _ wc).drew
            obtain ⟨w5, hu5, MP5, gr5⟩ := MapG.put FD.map Tryz.underlying81 o2 trivial (by have := WW.out.2.2; simp only [maxLen]; omega) (.slice a' (fk - 1) c')
            have hu6 : (Instr.mapUpdate 81 (.map (some M)) (.int .u64 (o2.toNat : Int)) (.slice a' (fk - 1) c')).run Tryz.prog wc.drew = .ok () w5 := hu5
            have ht5 : Turned (fun k => k = M) wc.drew w5 := (Turned.refl _ _).grown gr5 (fun k _ e => (Option.some.inj e).symm)
            have FIN : Hid (OwnG encM 47 w5 w2.heap.size _ ((mgo cs i).2 ++ [(x1, p)]) ∧ ∃ f2 n2, FreeX w2 w5 M f2 n2 (fun y => if y = o2 then t else (mgo cs i).1 y) ∧ n2 ≤ k + i + 1) := ⟨OwnG.stays OD ht5 (fun g hg e => by have h1 := (OD.lt g hg).1; have h2 := FD.old; omega), _, _, FreeX.next FD o2 FT.out.1 FT.out.2.1 FT.out.2.2.1 FT.out.2.2.2.1 FT.out.2.2.2.2 MP5 gr5, by have := WW.out.2.2; split <;> omega⟩
            clear hcut FD OD MP5 gr5 hu5 ht5 kk0 jj0 jj1 jj2 j0 j1 j2 j1' k0 hlk
            go_wp2_with fail
            go_region
            all_goals
              go_wp2
              go_roundg (gk - 1)
              case measure => omega
              case rel =>
                obtain ⟨h1, f2, n2, h2, h3⟩ := FIN.out
                exact ⟨i + 1, by go_num, by omega, by rw [EN.out]; exact h1, f2, n2, by rw [EN.out]; exact h2, by omega⟩
      · have h0' : ((o.toNat : Int) != 0) = true := by
          simp only [bne_iff_ne, ne_eq]
          intro e
          exact h0 (UInt64.toNat_inj.1 (show o.toNat = 0 by omega))
        have h0'' : ((o.toNat : Int) == 0) = false := by simpa using h0'
        have EN : Hid (mgo cs (i + 1) = mgo cs i) := by
          show _ = _
          rw [ST.out.1, mstep]
          simp [h0]
        go_wp2
        go_roundg (gk - 1)
        case measure => omega
        case rel => exact ⟨i + 1, by go_num, by omega, by rw [EN.out]; exact X3.out.2.1, f', q', by rw [EN.out]; exact X3.out.2.2.1, by have := WW.out.2.2; omega⟩
    · obtain rfl : i = k := by omega
      have e : pmoves cs = (mgo cs i).2 := by rw [pmoves, G2.out.2.2.2.2.1]
      have G : Hid (OwnG encM 47 wr w2.heap.size _ (mgo cs i).2 ∧ pmoves cs = (mgo cs i).2 ∧ Turned (fun k => k = M) w2 wr) := ⟨OW, e, FX.tur⟩
      clear OW FX hq' HR e
      go_wp2
      go_ret
      refine ⟨_, rfl, ?_, G2.out.2.2.1.trans (G.out.2.2.below G2.out.2.2.1.size (fun k hk e => by have := G2.out.2.2.2.2.2.1; omega))⟩
      rw [G.out.2.1]
      exact OwnG.low G.out.1 G2.out.2.2.1.size

/-- tree.Moves. -/
theorem moves_any {ao bo : Option Addr} {n c m d : Nat} {A B : List En} (w : World) (ha : RdG encE w ao A) (hb : RdG encE w bo B) (hl : A.length = n) (hk : B.length = m) (hnc : n ≤ c) (hmd : m ≤ d) (_hc : c ≤ 4000000000000000000) (_hd : d ≤ 4000000000000000000) (hn : n ≤ 100000) (hm : m ≤ 100000)
    (rA : Rise A) (rB : Rise B) (fA : Fine A) (fB : Fine B) (cs : List Chg) (hcs : fdiff (hasS []) A B = cs) (hcl : cs.length ≤ 200000) :
    Calls Tryz.prog 16 #[.slice ao n c, .slice bo m d] w fun e w' => ∃ v', e = .returned v' ∧ OwnG encM 47 w' w.heap.size v' (pmoves cs) ∧ Below w.heap.size w w' :=
  moves_cap w ha hb hl hk hnc hmd hn hm rA rB fA fB cs hcs hcl

end Go.Proofs.YtofbphmdkhocdaaGreat
