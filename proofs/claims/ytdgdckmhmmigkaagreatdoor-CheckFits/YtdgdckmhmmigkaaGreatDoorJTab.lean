import Derived.Test.YtdgdckmhmmigkaaGreatDoorCSem
import Derived.Test.YtdgdckmhmmigkaaGreatDoorBJoi
/-!
  The table of functions as it lies: its cells, and the rows that they name. No condition.
-/
namespace Go.Proofs.YtdgdckmhmmigkaaGreatDoor
open Go.RowKit

/-- A row of the table as it lies. -/
structure FvV where
  na : Option Addr
  nl : Nat
  nc : Nat
  ta : Option Addr
  tl : Nat
  tc : Nat
  least : Int
  most : Int
  comes : Int
def FvV.cells (v : FvV) : List Value := [.slice v.na v.nl v.nc, .slice v.ta v.tl v.tc, .int .i64 v.least, .int .i64 v.most, .int .i64 v.comes]
def encFv : Enc FvV := ⟨fun v => v.cells, 5, fun _ => rfl, by decide, by intro x u h; simp [FvV.cells] at h; rcases h with rfl | rfl | rfl | rfl | rfl <;> rfl⟩
/-- The row lies there. -/
structure FvAt (w : World) (v : FvV) (f : FR) : Prop where
  nm : Rd w v.na f.names
  nl : v.nl = f.names.length
  nc : v.nl ≤ v.nc
  tk : RdG encI w v.ta f.takes
  tl : v.tl = f.takes.length
  tc : v.tl ≤ v.tc
  least : v.least = f.least
  most : v.most = f.most
  comes : v.comes = f.comes
theorem FvAt.below {w w' : World} {v : FvV} {f : FR} (h : FvAt w v f) (hb : Below w.heap.size w w') : FvAt w' v f := ⟨h.nm.below hb, h.nl, h.nc, h.tk.below hb, h.tl, h.tc, h.least, h.most, h.comes⟩
theorem FvAt.turned {S : Nat → Prop} {w w' : World} {v : FvV} {f : FR} (h : FvAt w v f) (ht : Turned S w w') (h1 : ∀ a, v.na = some a → ¬ S a.block) (h2 : ∀ a, v.ta = some a → ¬ S a.block) : FvAt w' v f :=
  ⟨h.nm.turned ht (fun _ => h1), h.nl, h.nc, h.tk.turnN ht (fun _ => h2), h.tl, h.tc, h.least, h.most, h.comes⟩
/-- The table lies there. -/
structure FnsV (w : World) (v0 v1 v2 v3 v4 v5 v6 v7 : FvV) : Prop where
  pos : ∃ t fz, w.heap[0]? = some (.cells (encFv.all [v0, v1, v2, v3, v4, v5, v6, v7]).toArray t fz)
  r0 : FvAt w v0 fT0
  r1 : FvAt w v1 fT1
  r2 : FvAt w v2 fT2
  r3 : FvAt w v3 fT3
  r4 : FvAt w v4 fT4
  r5 : FvAt w v5 fT5
  r6 : FvAt w v6 fT6
  r7 : FvAt w v7 fT7
def Fns (w : World) : Prop := ∃ v0 v1 v2 v3 v4 v5 v6 v7, FnsV w v0 v1 v2 v3 v4 v5 v6 v7
theorem Fns.below {w w' : World} (h : Fns w) (hb : Below w.heap.size w w') : Fns w' := by
  obtain ⟨v0, v1, v2, v3, v4, v5, v6, v7, ⟨t, fz, ha⟩, h0, h1, h2, h3, h4, h5, h6, h7⟩ := h
  exact ⟨v0, v1, v2, v3, v4, v5, v6, v7, ⟨t, fz, (hb.block _ (Array.getElem?_eq_some_iff.1 ha).1).trans ha⟩, h0.below hb, h1.below hb, h2.below hb, h3.below hb, h4.below hb, h5.below hb, h6.below hb, h7.below hb⟩

set_option maxRecDepth 100000 in
theorem fnAt (v0 v1 v2 v3 v4 v5 v6 v7 : FvV) (i : Nat) (v : FvV) (h : [v0, v1, v2, v3, v4, v5, v6, v7][i]? = some v) : ∀ w, (Instr.index 37 (.agg (encFv.all [v0, v1, v2, v3, v4, v5, v6, v7]).toArray) (.int .i64 (i : Int))).run Tryz.prog w = .ok (.agg v.cells.toArray) w := by
  match i, h with
  | 0, h => cases h; exact fun _ => by kernel_rfl
  | 1, h => cases h; exact fun _ => by kernel_rfl
  | 2, h => cases h; exact fun _ => by kernel_rfl
  | 3, h => cases h; exact fun _ => by kernel_rfl
  | 4, h => cases h; exact fun _ => by kernel_rfl
  | 5, h => cases h; exact fun _ => by kernel_rfl
  | 6, h => cases h; exact fun _ => by kernel_rfl
  | 7, h => cases h; exact fun _ => by kernel_rfl
  | k + 8, h => simp at h

/-- The rows, by their places. -/
theorem FnsV.get {w : World} {v0 v1 v2 v3 v4 v5 v6 v7 : FvV} (h : FnsV w v0 v1 v2 v3 v4 v5 v6 v7) (i : Nat) (hi : i < 8) : ∃ v f, [v0, v1, v2, v3, v4, v5, v6, v7][i]? = some v ∧ ftab[i]? = some f ∧ FvAt w v f := by
  match i, hi with
  | 0, _ => exact ⟨_, _, rfl, rfl, h.r0⟩
  | 1, _ => exact ⟨_, _, rfl, rfl, h.r1⟩
  | 2, _ => exact ⟨_, _, rfl, rfl, h.r2⟩
  | 3, _ => exact ⟨_, _, rfl, rfl, h.r3⟩
  | 4, _ => exact ⟨_, _, rfl, rfl, h.r4⟩
  | 5, _ => exact ⟨_, _, rfl, rfl, h.r5⟩
  | 6, _ => exact ⟨_, _, rfl, rfl, h.r6⟩
  | 7, _ => exact ⟨_, _, rfl, rfl, h.r7⟩
  | k + 8, hi => omega

set_option maxHeartbeats 800000 in
set_option maxRecDepth 100000 in
/-- slices.Index of texts. -/
theorem cindex_any (ao : Option Addr) (n c : Nat) (ss : List Bs) (x : Bs) (hl : ss.length = n) (hn : n ≤ 1000) (w : World) (h : Rd w ao ss) :
    Calls Tryz.prog 36 #[.slice ao n c, .string ⟨x.toArray⟩] w fun e w' => ∃ k : Int, e = .returned (.int .i64 k) ∧ (0 ≤ k ↔ x ∈ ss) ∧ w' = w := by
  have H : Hid (Rd w ao ss ∧ ss.length = n) := ⟨h, hl⟩
  clear h hl
  go_enter Tryz.func36, Tryz.ntmps36
  go_wp2_with fail
  go_loopg [8] n (fun g v wr => ∃ (i : Nat), v = .int .i64 i ∧ i + g = n ∧ wr = w ∧ Hid (¬ x ∈ ss.take i))
  case atStart =>
    have h1 : ¬ x ∈ ss.take 0 := by simp
    exact ⟨0, rfl, by omega, rfl, h1⟩
  case round =>
    obtain ⟨i, rfl, hi, rfl, HN⟩ := hrel
    by_cases hin : i < n
    · have hii : (i : Int) < (n : Int) := by omega
      have hil : i < ss.length := by have := H.out.2; omega
      obtain ⟨y, hye⟩ : ∃ y, el ss i = y := ⟨_, rfl⟩
      have hy : ss[i]? = some y := by rw [← hye, el_get hil, List.getElem?_eq_getElem hil]
      obtain ⟨b, off, rfl, hlt, hc⟩ := H.out.1 (by omega)
      have hcell := hc i hil
      rw [hye] at hcell
      have HT : Hid (ss.take (i + 1) = ss.take i ++ [y]) := by
        show _ = _
        rw [List.take_add_one, hy]
        rfl
      have HY : Hid (y ∈ ss) := List.mem_of_getElem? hy
      clear hy hc hil hye
      by_cases hxy : x = y
      · subst hxy
        have hxx : (x == x) = true := by simp
        go_wp2_with fail
        go_ret
        exact ⟨_, rfl, ⟨fun _ => HY.out, fun _ => by omega⟩, rfl⟩
      · have hne : (x == y) = false := by rw [beq_eq_false_iff_ne]; exact hxy
        go_wp2_with fail
        go_roundg (gk - 1)
        case measure => omega
        case rel =>
          have h0 := HN.out
          have h1 : ¬ x ∈ ss.take (i + 1) := by
            rw [HT.out, List.mem_append, List.mem_singleton]
            exact fun q => q.elim h0 hxy
          exact ⟨i + 1, by go_num, by omega, rfl, h1⟩
    · obtain rfl : i = n := by omega
      clear hi hin
      go_wp2_with fail
      go_ret
      refine ⟨-1, rfl, ⟨fun q => by omega, fun q => absurd q ?_⟩, rfl⟩
      have := HN.out
      rwa [List.take_of_length_le (by have := H.out.2; omega)] at this

set_option maxHeartbeats 800000 in
set_option maxRecDepth 100000 in
theorem contains_any (ao : Option Addr) (n c : Nat) (ss : List Bs) (x : Bs) (hl : ss.length = n) (hn : n ≤ 1000) (w : World) (h : Rd w ao ss) :
    Calls Tryz.prog 20 #[.slice ao n c, .string ⟨x.toArray⟩] w fun e w' => e = .returned (.bool (decide (x ∈ ss))) ∧ w' = w := by
  have hc := cindex_any ao n c ss x hl hn w h
  obtain ⟨b, hb⟩ : ∃ b, decide (x ∈ ss) = b := ⟨_, rfl⟩
  rw [hb]
  clear h hl
  go_enter Tryz.func20, Tryz.ntmps20
  go_wp2_with fail
  refine hc.mono ?_
  rintro e w1 ⟨k, rfl, hk, rfl⟩
  have e : decide (0 ≤ k) = b := by
    rw [← hb]
    exact decide_eq_decide.2 hk
  clear hk hb hc
  go_wp2_with fail
  go_ret
  exact ⟨rfl, rfl⟩

set_option maxHeartbeats 800000 in
set_option maxRecDepth 100000 in
/-- The type that is taken at a place. -/
theorem takesAt_any (v : FvV) (f : FR) (i : Nat) (hi : i ≤ 17592186044416) (h0 : f.takes ≠ []) (w : World) (h : FvAt w v f) (hl : f.takes.length ≤ 100) :
    Calls Tryz.prog 13 #[.agg v.cells.toArray, .int .i64 i] w fun e w' => e = .returned (.int .i64 (f.at i)) ∧ Below w.heap.size w w' := by
  obtain ⟨na, nl, nc, ta, tl, tc, least, most, comes⟩ := v
  have htl : tl = f.takes.length := h.tl
  have htc : tl ≤ tc := h.tc
  have hpos : 0 < tl := by
    rw [htl]
    exact List.length_pos_iff.2 h0
  obtain ⟨m, hm⟩ : ∃ m, min i (f.takes.length - 1) = m := ⟨_, rfl⟩
  have hml : m < tl := by omega
  obtain ⟨z, hz⟩ : ∃ z, f.takes[m]? = some z := ⟨_, List.getElem?_eq_getElem (by omega)⟩
  have hat : f.at i = z := by
    unfold FR.at
    rw [hm, hz]
    rfl
  rw [hat]
  have hrd : RdG encI w ta f.takes := h.tk
  obtain ⟨b, off, rfl, hblt⟩ := hrd.some_of hz
  obtain ⟨W1, m1, hW1, hm1, hx1, bW1, c1, hB1, hlt1⟩ := lay5 (Below.refl _ w) (Nat.le_refl _) 36 (.slice na nl nc) (.slice (some ⟨b, off, none⟩) tl tc) (.int .i64 least) (.int .i64 most) (.int .i64 comes)
  have hce := (hrd.below c1).ints hz
  obtain ⟨e0, e1, e2, e3, e4⟩ := hx1.cells
  have HB : Hid (Below w.heap.size w W1) := bW1
  have hmin : (min (i : Int) ((tl : Int) - 1)).toNat = m := by omega
  have ht100 : tl ≤ 100 := by omega
  clear hx1 bW1 c1 hrd hz h hm htl hat h0
  simp only [FvV.cells]
  go_enter Tryz.func13, Tryz.ntmps13
  go_upto_region 1 with fail
  clear hW1 hm1
  go_wp2_with fail
  go_ret
  exact ⟨rfl, HB.out⟩

end Go.Proofs.YtdgdckmhmmigkaaGreatDoor

/-!
  check.find by a contract. No condition but that the table of functions lies as the program's text lays it.
-/
namespace Go.Proofs.YtdgdckmhmmigkaaGreatDoor
open Go.RowKit

theorem fgo_at {name : Bs} {n : Int} {i : Nat} {f : FR} (h : ftab[i]? = some f) : fgo name n (ftab.drop i) = if name ∈ f.names then (if n < f.least ∨ f.most < n then (fr0, 34) else (f, 0)) else fgo name n (ftab.drop (i + 1)) := by
  have hlt := (List.getElem?_eq_some_iff.1 h).1
  have e : ftab[i] = f := (List.getElem?_eq_some_iff.1 h).2
  rw [List.drop_eq_getElem_cons hlt, e]
  rfl
theorem ftab_small : ∀ f ∈ ftab, f.names.length ≤ 7 ∧ f.takes.length ≤ 2 := by decide
theorem fgo_mem (name : Bs) (n : Int) : ∀ l : List FR, (fgo name n l).2 = 0 → (fgo name n l).1 ∈ l
  | [], h => by cases h
  | f :: l, h => by
    unfold fgo at h ⊢
    split at h
    · rename_i q
      rw [if_pos q]
      split at h
      · cases h
      · rename_i q2
        rw [if_neg q2]
        exact List.mem_cons_self
    · rename_i q
      rw [if_neg q]
      exact List.mem_cons_of_mem _ (fgo_mem name n l h)

theorem fgo_fits (name : Bs) (n : Int) : ∀ l : List FR, (fgo name n l).2 = 0 → (fgo name n l).1.least ≤ n ∧ n ≤ (fgo name n l).1.most
  | [], h => by cases h
  | f :: l, h => by
    unfold fgo at h ⊢
    split at h
    · rename_i q
      rw [if_pos q]
      split at h
      · cases h
      · rename_i q2
        rw [if_neg q2]
        simp only
        exact ⟨by omega, by omega⟩
    · rename_i q
      rw [if_neg q]
      exact fgo_fits name n l h
def fvz : FvV := ⟨none, 0, 0, none, 0, 0, 0, 0, 0⟩
theorem results_cell2 {P : Program} {w : World} {fn : Func} {b t : Tmp} {ty : TypeId} (h : fn.results = #[.cell b ty, .tmp t]) (tmps : Array Value) (a : Addr) (hb : tmps.getD b undef = .pointer (some a)) {v : Value} (hl : (loadVar ty a).run P w = .ok v w) :
    (results fn tmps).run P w = .ok (.tuple #[v, tmps.getD t undef]) w := by
  have hb' : tmps[b]?.getD undef = .pointer (some a) := by simpa using hb
  simp [results, h, hb', asAddr, hl, Result.andThen]
theorem load5f {w : World} {b : Nat} {x0 x1 x2 x3 x4 : Value} (h : Box5 w b 36 x0 x1 x2 x3 x4) : (loadVar 36 ⟨b, 0, none⟩).run Tryz.prog w = .ok (.agg #[x0, x1, x2, x3, x4]) w := by
  obtain ⟨c0, c1, c2, c3, c4⟩ := h.cells
  go_simp
theorem five_put {w : World} {b : Nat} {t : TypeId} {a0 a1 a2 a3 a4 : Value} (h : Box5 w b t a0 a1 a2 a3 a4) (x0 x1 x2 x3 x4 : Value) : Box5 (((((w.setCell ⟨b, 0, none⟩ x0).setCell ⟨b, 1, none⟩ x1).setCell ⟨b, 2, none⟩ x2).setCell ⟨b, 3, none⟩ x3).setCell ⟨b, 4, none⟩ x4) b t x0 x1 x2 x3 x4 :=
  ((((h.put0 x0).put1 x1).put2 x2).put3 x3).put4 x4

set_option maxHeartbeats 1600000 in
set_option maxRecDepth 100000 in
theorem find_any (name : Bs) (n : Int) (w : World) (h : Fns w) :
    Calls Tryz.prog 12 #[.string ⟨name.toArray⟩, .int .i64 n] w fun e w' => ∃ v : FvV, e = .returned (.tuple #[.agg v.cells.toArray, .int .i64 (fgo name n ftab).2]) ∧ ((fgo name n ftab).2 = 0 → FvAt w' v (fgo name n ftab).1) ∧ Below w.heap.size w w' := by
  obtain ⟨v0, v1, v2, v3, v4, v5, v6, v7, hF⟩ := h
  obtain ⟨tt, fz, hat⟩ := hF.pos
  have hlt0 : 0 < w.heap.size := (Array.getElem?_eq_some_iff.1 hat).1
  have hget := hF.get
  have hidx := fnAt v0 v1 v2 v3 v4 v5 v6 v7
  have hsz : (Tryz.prog.info? 37).map (·.size) = some (encFv.all [v0, v1, v2, v3, v4, v5, v6, v7]).toArray.size := by kernel_rfl
  obtain ⟨vs, hvs⟩ : ∃ vs, [v0, v1, v2, v3, v4, v5, v6, v7] = vs := ⟨_, rfl⟩
  rw [hvs] at hat hget hidx hsz
  clear hvs hF
  obtain ⟨V, hV⟩ : ∃ V, (encFv.all vs).toArray = V := ⟨_, rfl⟩
  rw [hV] at hat hidx hsz
  clear hV
  obtain ⟨W0, m0, hW0, hm0, hx0, bW0, c0, hB0, hlt1⟩ := lay5 (Below.refl _ w) (Nat.le_refl _) 36 (.slice none 0 0) (.slice none 0 0) (.int .i64 0) (.int .i64 0) (.int .i64 0)
  have hat0 : W0.heap[0]? = some (.cells V tt fz) := (bW0.block _ hlt0).trans hat
  have HG : Hid (∀ i, i < 8 → ∃ v f, vs[i]? = some v ∧ ftab[i]? = some f ∧ FvAt w v f) := hget
  have H0 : Hid (Below w.heap.size w W0 ∧ Box5 W0 m0 36 (.slice none 0 0) (.slice none 0 0) (.int .i64 0) (.int .i64 0) (.int .i64 0) ∧ w.heap.size ≤ m0 ∧ m0 < W0.heap.size) := ⟨bW0, hx0, hB0, hlt1⟩
  clear hget hat bW0 hx0 c0
  obtain ⟨R, hR⟩ : ∃ R, fgo name n ftab = R := ⟨_, rfl⟩
  rw [hR]
  have HR : Hid (fgo name n ftab = R) := hR
  clear hR
  go_enter Tryz.func12, Tryz.ntmps12
  go_upto_region 1 with fail
  clear hW0 hm0
  go_wp2_with (refine wpList_load_row rfl 37 _ rfl 0 rfl tt _ fz _ hat0 Tryz.underlying37 rfl hsz ?_)
  go_loopg [9] 8 (fun g u wr => ∃ (i : Nat), u = .int .i64 i ∧ i + g = 8 ∧ Hid (Below W0.heap.size W0 wr ∧ fgo name n (ftab.drop i) = R))
  case atStart => exact ⟨0, rfl, rfl, Below.refl _ _, HR.out⟩
  case round =>
    obtain ⟨i, rfl, hi, HB⟩ := hrel
    by_cases h8 : i < 8
    · have hii : (i : Int) < 8 := by omega
      obtain ⟨v, f, hv, hf, hvf⟩ := HG.out i h8
      have hix := hidx i v hv
      have hBw : Below w.heap.size w wr := H0.out.1.trans (HB.out.1.mono H0.out.1.size)
      have hE := HB.out.2
      rw [fgo_at hf] at hE
      have hsm := ftab_small f (List.mem_of_getElem? hf)
      obtain ⟨na, nl, nc, ta, tl, tc, least, most, comes⟩ := v
      have hvf1 := hvf.below hBw
      obtain ⟨W1, m1, hW1, hm1, hx1, bW1, c1, hB1, hlt2⟩ := lay5 HB.out.1 HB.out.1.size 36 (.slice na nl nc) (.slice ta tl tc) (.int .i64 least) (.int .i64 most) (.int .i64 comes)
      have hct := contains_any na nl nc f.names name hvf.nl.symm (by have := hvf.nl; simp only at this; omega) W1 (hvf1.below c1).nm
      have hle : least = f.least := hvf.least
      have hmo : most = f.most := hvf.most
      rw [← hle, ← hmo] at hE
      clear hle hmo
      obtain ⟨e0, e1, e2, e3, e4⟩ := hx1.cells
      obtain ⟨d0, d1, d2, d3, d4⟩ := (H0.out.2.1.below bW1).cells
      obtain ⟨t0, t1, t2, t3, t4⟩ := (H0.out.2.1.below bW1).thaw
      have HF : Hid (FvAt w ⟨na, nl, nc, ta, tl, tc, least, most, comes⟩ f ∧ Below W0.heap.size W0 W1 ∧ w.heap.size ≤ m1) := ⟨hvf, bW1, by have := H0.out.2.2.1; have := H0.out.2.2.2; omega⟩
      simp only [FvV.cells] at hix
      by_cases hnm : name ∈ f.names
      · rw [if_pos hnm] at hE
        rw [show decide (name ∈ f.names) = true by simpa using hnm] at hct
        have HE : Hid ((if n < least ∨ most < n then (fr0, (34 : Int)) else (f, 0)) = R) := hE
        have HC : Hid (Calls Tryz.prog 20 #[.slice na nl nc, .string ⟨name.toArray⟩] W1 fun e w' => e = .returned (.bool true) ∧ w' = W1) := hct
        clear hct hE hnm hvf hvf1 hv hf hx1 bW1 c1 hBw
        go_upto_region 4 with fail
        clear hW1 hm1 hix
        by_cases h1 : n < least
        · have HE1 : Hid (R = (fr0, (34 : Int))) := by show R = _; rw [← HE.out, if_pos (.inl h1)]
          go_wp2_with (go_at_call 20; refine HC.out.mono ?_; rintro e w2 ⟨rfl, rfl⟩)
          refine bodyPost_ret (results_cell2 rfl _ _ rfl (load5f (five_put (H0.out.2.1.below HF.out.2.1) _ _ _ _ _))) rfl ?_
          exact ⟨fvz, by rw [HE1.out]; rfl, fun q => (by rw [HE1.out] at q; cases q), set5 (H0.out.1.trans (HF.out.2.1.mono H0.out.1.size)) m0 H0.out.2.2.1 _ _ _ _ _⟩
        · by_cases h2 : most < n
          · have HE1 : Hid (R = (fr0, (34 : Int))) := by show R = _; rw [← HE.out, if_pos (.inr h2)]
            go_wp2_with (go_at_call 20; refine HC.out.mono ?_; rintro e w2 ⟨rfl, rfl⟩)
            refine bodyPost_ret (results_cell2 rfl _ _ rfl (load5f (five_put (H0.out.2.1.below HF.out.2.1) _ _ _ _ _))) rfl ?_
            exact ⟨fvz, by rw [HE1.out]; rfl, fun q => (by rw [HE1.out] at q; cases q), set5 (H0.out.1.trans (HF.out.2.1.mono H0.out.1.size)) m0 H0.out.2.2.1 _ _ _ _ _⟩
          · have HE1 : Hid (R = (f, (0 : Int))) := by show R = _; rw [← HE.out, if_neg (by omega)]
            go_wp2_with (go_at_call 20; refine HC.out.mono ?_; rintro e w2 ⟨rfl, rfl⟩)
            refine bodyPost_ret (results_cell2 rfl _ _ rfl (load5f (five_put (H0.out.2.1.below HF.out.2.1) _ _ _ _ _))) rfl ?_
            refine ⟨⟨na, nl, nc, ta, tl, tc, least, most, comes⟩, by rw [HE1.out]; rfl, fun q => ?_, set5 (H0.out.1.trans (HF.out.2.1.mono H0.out.1.size)) m0 H0.out.2.2.1 _ _ _ _ _⟩
            rw [HE1.out]
            exact HF.out.1.below (set5 (H0.out.1.trans (HF.out.2.1.mono H0.out.1.size)) m0 H0.out.2.2.1 _ _ _ _ _)
      · rw [if_neg hnm] at hE
        rw [show decide (name ∈ f.names) = false by simpa using hnm] at hct
        have HE : Hid (fgo name n (ftab.drop (i + 1)) = R) := hE
        have HC : Hid (Calls Tryz.prog 20 #[.slice na nl nc, .string ⟨name.toArray⟩] W1 fun e w' => e = .returned (.bool false) ∧ w' = W1) := hct
        clear hct hE hnm hvf hvf1 hv hf hx1 bW1 c1 hBw
        go_upto_region 4 with fail
        clear hW1 hm1 hix
        go_wp2_with (go_at_call 20; refine HC.out.mono ?_; rintro e w2 ⟨rfl, rfl⟩)
        go_roundg (gk - 1)
        case measure => omega
        case rel => exact ⟨i + 1, by go_num, by omega, HF.out.2.1, HE.out⟩
    · obtain rfl : i = 8 := by omega
      clear hi h8
      have hE : (fr0, (33 : Int)) = R := HB.out.2
      have HE : Hid (fgo name n ftab = (fr0, (33 : Int))) := HR.out.trans hE.symm
      obtain ⟨d0, d1, d2, d3, d4⟩ := (H0.out.2.1.below HB.out.1).cells
      obtain ⟨t0, t1, t2, t3, t4⟩ := (H0.out.2.1.below HB.out.1).thaw
      clear hE
      have HE1 : Hid (R = (fr0, (33 : Int))) := by show R = _; rw [← HR.out, HE.out]
      go_wp2_with fail
      refine bodyPost_ret (results_cell2 rfl _ _ rfl (load5f (five_put (H0.out.2.1.below HB.out.1) _ _ _ _ _))) rfl ?_
      exact ⟨fvz, by rw [HE1.out]; rfl, fun q => (by rw [HE1.out] at q; cases q), set5 (H0.out.1.trans (HB.out.1.mono H0.out.1.size)) m0 H0.out.2.2.1 _ _ _ _ _⟩

end Go.Proofs.YtdgdckmhmmigkaaGreatDoor
