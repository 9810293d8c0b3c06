/-
  tree.goneByBlob by a contract: what is gone, by its blob, each list in a row of its own. Of at most 200000 changes.
-/
import Derived.Test.YtofbphmdkhocdaaGreatYDiffMg
import Derived.Test.YtofbphmdkhocdaaGreatM14
namespace Go.Proofs.YtofbphmdkhocdaaGreat
open Go.RowKit

section
variable {α : Type} {K : KeyK α} {w w' : World} {m n : Nat} {f : α → Option Value}
/-- m[k]. -/
theorem MapG.look1 (h : MapG K w m f n) {t e : TypeId} (ht : Tryz.prog.underlying t = some (.map K.ty e)) {z : Value} (hz : (zeroValue e).run Tryz.prog w = .ok z w) (x : α) (hx : K.fit x) :
    (Instr.lookup t (.map (some m)) (K.val x) false).run Tryz.prog w = .ok ((f x).getD z) w := by
  obtain ⟨D, ho, _, hh, ha⟩ := h
  obtain ⟨v, ps, hrun, hv⟩ := ho.lookup K.keyed ht hz (zd := .held z) (zp := []) rfl (K.key x hx)
  rw [hrun]
  have e : DataW.held v = D.atKey (K.lit x) (.held z) := by
    have := Option.some.inj hv
    exact congrArg Prod.fst this
  cases hf : f x with
  | none =>
    rw [Maps.atKey_of_not_has (by rw [hh, hf]; rfl)] at e
    cases e
    rfl
  | some u =>
    rw [ha _ u hf] at e
    cases e
    rfl
end

/-- The changes whose file is gone, of a blob. -/
def goneL (cs : List Chg) (x : UInt64) : List Chg := cs.filter (fun c => (c.2.2 == 0) && (c.2.1 == x))

theorem gone_step {cs : List Chg} {i : Nat} {c : Chg} (h : cs[i]? = some c) (x : UInt64) : goneL (cs.take (i + 1)) x = goneL (cs.take i) x ++ (if (c.2.2 == 0) && (c.2.1 == x) then [c] else []) := by
  unfold goneL
  rw [takeE_snoc h, List.filter_append]
  congr 1
  by_cases q : ((c.2.2 == 0) && (c.2.1 == x)) = true <;> simp [q]

theorem Tryz.info37 : (Tryz.prog.info? 37).map (fun i => (i.zero, i.size, i.bytes)) = some (some (.slice none 0 0), 1, 24) := by kernel_rfl
theorem zeroC (w : World) : (zeroValue 37).run Tryz.prog w = .ok (.slice none 0 0) w := by
  obtain ⟨i0, hi0, hz0, _, _⟩ := info_parts Tryz.info37
  simp [zeroValue, typeInfo, hi0, hz0]

/-- A map of lists of changes, each list in a row of its own. -/
structure GoneX (w : World) (B m : Nat) (f : UInt64 → Option Value) (n : Nat) (g : UInt64 → List Chg) : Prop where
  map : MapG kU w m f n
  base : B ≤ m
  row : ∀ x, OwnG encC 58 w B ((f x).getD (.slice none 0 0)) (g x)
  off : ∀ x b, ((f x).getD (.slice none 0 0)).ownBlock = some b → b ≠ m
  apart : ∀ x y b, x ≠ y → ((f x).getD (.slice none 0 0)).ownBlock = some b → ((f y).getD (.slice none 0 0)).ownBlock = some b → False

theorem GoneX.below {w w' : World} {B m n : Nat} {f : UInt64 → Option Value} {g : UInt64 → List Chg} (h : GoneX w B m f n g) (hb : Below w.heap.size w w') : GoneX w' B m f n g :=
  ⟨h.map.turned (S := fun _ => False) (Turned.ofBelow hb) (fun q => q), h.base, fun x => (h.row x).below hb, h.off, h.apart⟩

theorem GoneX.new (w : World) : GoneX (w.alloc (.map #[] 0)) w.heap.size w.heap.size (fun _ => none) 0 (fun _ => []) :=
  ⟨MapG.new (by unfold World.alloc; simp), Nat.le_refl _, fun _ => OwnG.nil _ _ _ _, (fun _ _ h => nomatch h), (fun _ _ _ _ h => nomatch h)⟩

/-- One change more behind the list of x, and the map told of it. -/
theorem GoneX.put {w w1 w2 : World} {B m n : Nat} {f : UInt64 → Option Value} {g : UInt64 → List Chg} (h : GoneX w B m f n g) (x : UInt64) (v' : Value) (l : List Chg)
    (hown : OwnG encC 58 w1 B v' l) (hm : Moved w ((f x).getD (.slice none 0 0)) v') (ht : Turned (fun k => ((f x).getD (.slice none 0 0)).ownBlock = some k) w w1)
    (hp : MapG kU w2 m (gput f x v') (if (f x).isSome then n else n + 1)) (hg : w1.grownBy w2 (some m)) :
    GoneX w2 B m (gput f x v') (if (f x).isSome then n else n + 1) (fun y => if y = x then l else g y) := by
  have ht2 : Turned (fun k => k = m) w1 w2 := (Turned.refl _ w1).grown hg (fun k _ e => (Option.some.inj e).symm)
  have hml := h.map.lt
  have hv' : ∀ b, v'.ownBlock = some b → b ≠ m := by
    intro b hb e
    rcases hm with q | q
    · rw [q] at hb
      exact h.off x b hb e
    · have := q b hb
      omega
  have hget : ∀ y, (gput f x v' y).getD (.slice none 0 0) = if y = x then v' else (f y).getD (.slice none 0 0) := by
    intro y
    unfold gput
    by_cases e : y = x <;> simp [e]
  refine ⟨hp, h.base, fun y => ?_, fun y b hb => ?_, fun y z b hyz h1 h2 => ?_⟩
  · rw [hget]
    by_cases e : y = x
    · rw [if_pos e, if_pos e]
      exact OwnG.stays hown ht2 (fun b hb q => hv' b hb q)
    · rw [if_neg e, if_neg e]
      refine OwnG.stays (OwnG.stays (h.row y) ht (fun b hb q => h.apart y x b e hb q)) ht2 (fun b hb q => h.off y b hb q)
  · rw [hget] at hb
    by_cases e : y = x
    · rw [if_pos e] at hb
      exact hv' b hb
    · rw [if_neg e] at hb
      exact h.off y b hb
  · have key : ∀ y b, y ≠ x → v'.ownBlock = some b → ((f y).getD (.slice none 0 0)).ownBlock = some b → False := by
      intro y b e k1 k2
      rcases hm with q | q
      · rw [q] at k1
        exact h.apart x y b (fun ee => e ee.symm) k1 k2
      · have q1 := q b k1
        have q2 := ((h.row y).lt b k2).2
        omega
    rw [hget] at h1 h2
    by_cases e1 : y = x
    · rw [if_pos e1] at h1
      rw [if_neg (fun e => hyz (by rw [e1, e]))] at h2
      exact key z b (fun e => hyz (by rw [e1, e])) h1 h2
    · rw [if_neg e1] at h1
      by_cases e2 : z = x
      · rw [if_pos e2] at h2
        exact key y b e1 h2 h1
      · rw [if_neg e2] at h2
        exact h.apart y z b hyz h1 h2

theorem RdG.chgs {w : World} {b off : Nat} {cs : List Chg} (h : RdG encC w (some ⟨b, off, none⟩) cs) {i : Nat} {c : Chg} (hx : cs[i]? = some c) : w.cell? ⟨b, off + i * 3, none⟩ = some (tx c.1) ∧ w.cell? ⟨b, off + i * 3 + 1, none⟩ = some (.int .u64 (c.2.1.toNat : Int)) ∧ w.cell? ⟨b, off + i * 3 + 2, none⟩ = some (.int .u64 (c.2.2.toNat : Int)) := by
  obtain ⟨b', off', e, hlt, hc⟩ := h (by rcases Nat.lt_or_ge i cs.length with q | q
                                         · omega
                                         · rw [List.getElem?_eq_none q] at hx; cases hx)
  obtain ⟨rfl, rfl⟩ : b = b' ∧ off = off' := by simpa using e
  have h0 := hc i c hx 0 _ rfl
  have h1 := hc i c hx 1 _ rfl
  have h2 := hc i c hx 2 _ rfl
  exact ⟨by simpa [encC] using h0, by simpa [encC, Nat.add_assoc] using h1, by simpa [encC, Nat.add_assoc] using h2⟩

/-- What holds behind one round that takes a change. -/
theorem gone_fin {w w2 w4 w5 : World} {i q : Nat} {cs : List Chg} {p : Bs} {o : UInt64} {f : UInt64 → Option Value} {v0 v4 : Value} (hq : q ≤ i) (hx : GoneX w2 w.heap.size w.heap.size f q (goneL (cs.take i))) (hb : Below w.heap.size w w2) (hv : (f o).getD (.slice none 0 0) = v0)
    (hst : ∀ x, goneL (cs.take (i + 1)) x = goneL (cs.take i) x ++ (if ((0 : UInt64) == 0) && (o == x) then [(p, o, 0)] else []))
    (ho4 : OwnG encC 58 w4 w.heap.size v4 (goneL (cs.take i) o ++ [(p, o, 0)])) (hb4 : Below w.heap.size w2 w4) (hm4 : Moved w2 v0 v4) (ht4 : Turned (fun k => v0.ownBlock = some k) w2 w4)
    (MP5 : MapG kU w5 w.heap.size (gput f o v4) (if (f o).isSome then q else q + 1)) (gr5 : w4.grownBy w5 (some w.heap.size)) :
    Hid (∃ f' q', GoneX w5 w.heap.size w.heap.size f' q' (goneL (cs.take (i + 1))) ∧ q' ≤ i + 1 ∧ Below w.heap.size w w5) := by
  have hgx := GoneX.put hx o v4 (goneL (cs.take i) o ++ [(p, o, 0)]) ho4 (by rw [hv]; exact hm4) (by rw [hv]; exact ht4) MP5 gr5
  have hb4' : Below w.heap.size w w4 := hb.trans hb4
  have hb5 : Below w.heap.size w4 w5 := ((Turned.refl (fun k => k = w.heap.size) w4).grown gr5 (fun k _ e => (Option.some.inj e).symm)).below hb4'.size (fun k hk e => by omega)
  refine ⟨gput f o v4, (if (f o).isSome then q else q + 1), ?_, ?_, hb4'.trans hb5⟩
  · have e : goneL (cs.take (i + 1)) = fun y => if y = o then goneL (cs.take i) o ++ [(p, o, 0)] else goneL (cs.take i) y := by
      funext x
      rw [hst x]
      by_cases hx : x = o
      · subst hx
        simp
      · have : (o == x) = false := by simpa using fun e => hx e.symm
        simp [hx, this]
    rw [e]
    exact hgx
  · split <;> omega

set_option maxHeartbeats 1600000 in
set_option maxRecDepth 100000 in
theorem gone_any {ao : Option Addr} {c n : Nat} {cs : List Chg} (w : World) (ha : RdG encC w ao cs) (hl : cs.length = n) (hn : n ≤ 200000) :
    Calls Tryz.prog 34 #[.slice ao n c] w fun e w' => ∃ f k, e = .returned (.map (some w.heap.size)) ∧ GoneX w' w.heap.size w.heap.size f k (goneL cs) ∧ k ≤ n ∧ Below w.heap.size w w' := by
  have H : Hid (RdG encC w ao cs ∧ cs.length = n) := ⟨ha, hl⟩
  clear ha hl
  have hmk := run_makeMap (P := Tryz.prog) 81 w
  have G0 : Hid (GoneX (w.alloc (.map #[] 0)) w.heap.size w.heap.size (fun _ => none) 0 (fun _ => []) ∧ Below w.heap.size w (w.alloc (.map #[] 0))) := ⟨GoneX.new w, bz1 _ _⟩
  go_enter Tryz.func34, Tryz.ntmps34
  go_wp2_with fail
  go_loopg [9] n (fun k v wr => ∃ (i : Nat), v = .int .i64 i ∧ i + k = n ∧ Hid (∃ f q, GoneX wr w.heap.size w.heap.size f q (goneL (cs.take i)) ∧ q ≤ i ∧ Below w.heap.size w wr))
  case atStart => exact ⟨0, rfl, by omega, fun _ => none, 0, G0.out.1, Nat.le_refl _, G0.out.2⟩
  case round =>
    obtain ⟨i, rfl, hi, HR⟩ := hrel
    obtain ⟨f, q, HG, hq, HB⟩ := HR.out
    by_cases hin : i < n
    · have id : (i : Int) < (n : Int) := by omega
      obtain ⟨c, he⟩ := get_some H.out.2 hin
      obtain ⟨b, off, rfl, hlt⟩ := H.out.1.some_of he
      obtain ⟨c0, c1, c2⟩ := (H.out.1.below HB).chgs he
      obtain ⟨p, o, o2⟩ := c
      simp only at c0 c1 c2
      have hst := gone_step he
      have GG : Hid (GoneX wr w.heap.size w.heap.size f q (goneL (cs.take i)) ∧ Below w.heap.size w wr ∧ q ≤ i) := ⟨HG, HB, hq⟩
      have ST : Hid (∀ x, goneL (cs.take (i + 1)) x = goneL (cs.take i) x ++ (if (o2 == 0) && (o == x) then [(p, o, o2)] else [])) := hst
      have GL : Hid ((goneL (cs.take i) o).length ≤ 200000) := by
        show _ ≤ _
        have h1 := List.length_filter_le (fun c : Chg => (c.2.2 == 0) && (c.2.1 == o)) (cs.take i)
        have h2 := List.length_take_le i cs
        unfold goneL
        omega
      clear he hst HG HB hq HR hlt
      go_upto_region 5 with fail
      obtain ⟨w2, hw2⟩ : ∃ w2, w2 = wr.alloc (.cells #[.string ⟨p.toArray⟩, .int .u64 (o.toNat : Int), .int .u64 (o2.toNat : Int)] 58) := ⟨_, rfl⟩
      obtain ⟨R, hR⟩ : ∃ R, wr.heap.size = R := ⟨_, rfl⟩
      have X2 : Hid (Box3 w2 R 58 (tx p) (.int .u64 (o.toNat : Int)) (.int .u64 (o2.toNat : Int)) ∧ GoneX w2 w.heap.size w.heap.size f q (goneL (cs.take i)) ∧ Below w.heap.size w w2 ∧ wr.heap.size ≤ R) := by
        rw [hw2, ← hR]
        exact ⟨Box3.new wr 58 _ _ _, GG.out.1.below (bz1 _ _), GG.out.2.1.trans ((bz1 wr _).mono GG.out.2.1.size), Nat.le_refl _⟩
      rw [← hw2, hR]
      clear hw2 hR c0 c1 c2
      obtain ⟨j0, j1, j2⟩ := X2.out.1.cells
      by_cases h0 : o2 = 0
      · subst h0
        have j2' : w2.cell? ⟨R, 2, none⟩ = some (.int .u64 0) := j2
        go_upto_region 6 with fail
        obtain ⟨v0, hv0⟩ : ∃ v0, (f o).getD (.slice none 0 0) = v0 := ⟨_, rfl⟩
        have XD : Hid (GoneX w2.drew w.heap.size w.heap.size f q (goneL (cs.take i))) := X2.out.2.1.below (Below.refl _ w2).drew
        have hlk1 : (Instr.lookup 81 (.map (some w.heap.size)) (.int .u64 (o.toNat : Int)) false).run Tryz.prog w2.drew = .ok v0 w2.drew := by rw [← hv0]; exact XD.out.map.look1 Tryz.underlying81 (zeroC _) o trivial
        have hlk2 : (Instr.lookup 81 (.map (some w.heap.size)) (.int .u64 (o.toNat : Int)) false).run Tryz.prog (w2.alloc (.cells #[.string ⟨p.toArray⟩, .int .u64 (o.toNat : Int), .int .u64 0] 58)).drew = .ok v0 (w2.alloc (.cells #[.string ⟨p.toArray⟩, .int .u64 (o.toNat : Int), .int .u64 0] 58)).drew := by rw [← hv0]; exact (XD.out.below (bz1 _ (.cells #[.string ⟨p.toArray⟩, .int .u64 (o.toNat : Int), .int .u64 0] 58))).map.look1 Tryz.underlying81 (zeroC _) o trivial
        have V0 : Hid ((f o).getD (.slice none 0 0) = v0) := hv0
        have own0 : Hid (OwnG encC 58 (w2.drew.alloc (.cells #[.string ⟨p.toArray⟩, .int .u64 (o.toNat : Int), .int .u64 0] 58)) w.heap.size v0 (goneL (cs.take i) o)) := by
          show OwnG _ _ _ _ _ _
          rw [← hv0]
          exact (XD.out.below (bz1 _ _)).row o
        have BX : Hid (Box3 (w2.alloc (.cells #[.string ⟨p.toArray⟩, .int .u64 (o.toNat : Int), .int .u64 0] 58)) R 58 (tx p) (.int .u64 (o.toNat : Int)) (.int .u64 0) ∧ v0.ownBlock ≠ some R) := ⟨X2.out.1.below (bz1 _ _), fun e => by
          have h1 := ((GG.out.1.row o).lt R (by rw [hv0]; exact e)).2
          have h2 := X2.out.2.2.2
          omega⟩
        obtain ⟨jj0, jj1, jj2⟩ := BX.out.1.cells
        have BA : Hid (Below w2.heap.size w2 (w2.alloc (.cells #[.string ⟨p.toArray⟩, .int .u64 (o.toNat : Int), .int .u64 0] 58)).drew) := (bz1 w2 _).drew
        have XA : Hid (GoneX (w2.alloc (.cells #[.string ⟨p.toArray⟩, .int .u64 (o.toNat : Int), .int .u64 0] 58)).drew w.heap.size w.heap.size f q (goneL (cs.take i)) ∧ Box3 (w2.alloc (.cells #[.string ⟨p.toArray⟩, .int .u64 (o.toNat : Int), .int .u64 0] 58)).drew R 58 (tx p) (.int .u64 (o.toNat : Int)) (.int .u64 0)) := ⟨X2.out.2.1.below BA.out, X2.out.1.below BA.out⟩
        clear hv0
        have BD : Hid (Below w.heap.size w (w2.alloc (.cells #[.string ⟨p.toArray⟩, .int .u64 (o.toNat : Int), .int .u64 0] 58)).drew) := X2.out.2.2.1.trans (BA.out.mono X2.out.2.2.1.size)
        go_region_law (refine stepG_at encC 58 37 32 (.agg #[.string ⟨#[]⟩, .int .u64 0, .int .u64 0]) rfl Tryz.info58 Tryz.underlying37 rfl (.tmp 22) (.tmp 24) rfl w.heap.size v0 (goneL (cs.take i) o) (p, o, 0) rfl own0.out w2.heap.size rfl (cells_new encC w2.drew (p, o, 0) 58) (by have := GL.out; omega) (by have := GL.out; simp only [maxLen]; omega) (by have := X2.out.2.2.1.size; simp; omega) ?_; intro v4 w4 ho4 hb4 hm4 ht4; obtain ⟨i0, i1, i2⟩ := (Box3.turned (S := fun k => v0.ownBlock = some k) XA.out.2 ht4 (fun e => BX.out.2 e)).cells; obtain ⟨w5, hu5, MP5, gr5⟩ := MapG.put (MapG.turned (S := fun k => v0.ownBlock = some k) XA.out.1.map ht4 (fun e => XD.out.off o w.heap.size (by rw [V0.out]; exact e) rfl)) Tryz.underlying81 o trivial (by have := GG.out.2.2; simp only [maxLen]; omega) v4; have hu6 : (Instr.mapUpdate 81 (.map (some w.heap.size)) (.int .u64 (o.toNat : Int)) v4).run Tryz.prog w4 = .ok () w5 := hu5; have FIN := gone_fin GG.out.2.2 XA.out.1 BD.out V0.out ST.out ho4 hb4 hm4 ht4 MP5 gr5; clear ho4 hb4 hm4 ht4 MP5 gr5 hu5)
        all_goals
          clear hlk1 hlk2 jj0 jj1 jj2 j0 j1 j2 j2' i0 i1 i2 hu6 BX XA BA BD own0 XD V0 GL ST GG X2 hmk
          go_wp2
          go_roundg (gk - 1)
          case measure => omega
          case rel => exact ⟨i + 1, by go_num, by omega, FIN⟩
      · have h0' : ((o2.toNat : Int) == 0) = false := by
          simp only [beq_eq_false_iff_ne, ne_eq]
          intro e
          exact h0 (UInt64.toNat_inj.1 (show o2.toNat = 0 by omega))
        go_wp2
        go_roundg (gk - 1)
        case measure => omega
        case rel =>
          refine ⟨i + 1, by go_num, by omega, f, q, ?_, by have := GG.out.2.2; omega, X2.out.2.2.1⟩
          have e : goneL (cs.take (i + 1)) = goneL (cs.take i) := by
            funext x
            rw [ST.out x]
            have : (o2 == 0) = false := by simpa using h0
            simp [this]
          rw [e]
          exact X2.out.2.1
    · obtain rfl : i = n := by omega
      have e : cs.take i = cs := List.take_of_length_le (by rw [H.out.2]; omega)
      rw [e] at HG
      have G : Hid (GoneX wr w.heap.size w.heap.size f q (goneL cs) ∧ q ≤ i ∧ Below w.heap.size w wr) := ⟨HG, hq, HB⟩
      clear HG hq HB HR e
      go_wp2
      go_ret
      exact ⟨f, q, rfl, G.out⟩

end Go.Proofs.YtofbphmdkhocdaaGreat
