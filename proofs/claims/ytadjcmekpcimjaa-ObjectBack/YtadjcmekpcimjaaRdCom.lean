/-
  object.ReadCommit, by a contract: the commit of which the bytes are, or none. No condition.
-/
import Derived.Test.YtadjcmekpcimjaaLCom
namespace Go.Proofs.Ytadjcmekpcimjaa
open Go.RowKit

theorem sgn_wrap {v : Nat} (h : v < 18446744073709551616) : IntKind.i64.wrap (v : Int) = sgn v := by
  rw [IntKind.wrap_i64]
  unfold sgn
  split <;> omega

theorem keepA' {w1 u : World} {o : Obj} (h : Hid (Below w1.heap.size w1 u)) : Hid (Below w1.heap.size w1 (u.alloc o)) := h.out.trans ((bz1 u o).mono h.out.size)
theorem keepD' {w1 u : World} (h : Hid (Below w1.heap.size w1 u)) : Hid (Below w1.heap.size w1 u.drew) := h.out.drew
theorem keepS' {w1 u : World} {C j : Nat} {v : Value} (hC : w1.heap.size + 1 < C) (h : Hid (Below w1.heap.size w1 u)) : Hid (Below w1.heap.size w1 (u.setCell ⟨C, j, none⟩ v)) :=
  h.out.trans ((turned_set (b := C) j v).below h.out.size (fun k hk q => by have q' : k = C := q; omega))

/-- All that lies about while the parents are read. -/
structure RP (w : World) (C : Nat) (tr : Int) (wr : World) (lv : Value) (dt : Int) (nt : ByteArray) (xs : List UInt64) (r : Rs) : Prop where
  res : Box4 wr w.heap.size 44 (.int .u64 0) (.slice none 0 0) (.int .i64 0) (.string ⟨#[]⟩)
  com : Box4 wr C 44 (.int .u64 tr) lv (.int .i64 dt) (.string nt)
  rdr : Rdr wr (w.heap.size + 1) r
  row : OwnG encU 37 wr (C + 1) lv xs
  bel : Below w.heap.size w wr
  lo : w.heap.size + 1 < C

theorem RP.turn {w wr w' : World} {C : Nat} {tr dt : Int} {lv : Value} {nt : ByteArray} {xs : List UInt64} {r r' : Rs} (h : RP w C tr wr lv dt nt xs r) (hr : Rdr w' (w.heap.size + 1) r') (ht : Turned (fun i => i = w.heap.size + 1) wr w') : RP w C tr w' lv dt nt xs r' where
  res := h.res.turned ht (by omega)
  com := h.com.turned ht (by have := h.lo; omega)
  rdr := hr
  row := h.row.stays ht (fun g hg q => by have := (h.row.lt g hg).1; have := h.lo; have q' : g = w.heap.size + 1 := q; omega)
  bel := h.bel.trans (ht.below h.bel.size (fun k hk q => by have q' : k = w.heap.size + 1 := q; omega))
  lo := h.lo

theorem RP.drew {w wr : World} {C : Nat} {tr dt : Int} {lv : Value} {nt : ByteArray} {xs : List UInt64} {r : Rs} (h : RP w C tr wr lv dt nt xs r) : RP w C tr wr.drew lv dt nt xs r where
  res := h.res
  com := h.com
  rdr := h.rdr.below (Below.refl _ wr).drew
  row := h.row.below (Below.refl _ wr).drew
  bel := h.bel.drew
  lo := h.lo

/-- One parent more: its row, and then the cell that tells it. -/
theorem RP.add {w wr w4 : World} {C : Nat} {tr dt : Int} {lv lv' : Value} {nt : ByteArray} {xs ys : List UInt64} {r : Rs} (h : RP w C tr wr lv dt nt xs r) (hb : Below (C + 1) wr w4) (ho : OwnG encU 37 w4 (C + 1) lv' ys) : RP w C tr (w4.setCell ⟨C, 1, none⟩ lv') lv' dt nt ys r := by
  have ht : Turned (fun k => k = C) w4 (w4.setCell ⟨C, 1, none⟩ lv') := turned_set 1 _
  have hC : C < w4.heap.size := Nat.lt_of_lt_of_le h.com.lt hb.size
  have lo := h.lo
  have hb2 : Below C w4 (w4.setCell ⟨C, 1, none⟩ lv') := ht.below (by omega) (fun k hk q => by have q' : k = C := q; omega)
  exact {
    res := (h.res.below hb (by omega)).turned ht (by omega)
    com := (h.com.below hb (by omega)).put1 _
    rdr := (h.rdr.over (hb.mono (by omega))).over (hb2.mono (by omega))
    row := ho.stays ht (fun g hg q => by have := (ho.lt g hg).1; have q' : g = C := q; omega)
    bel := (h.bel.trans (hb.mono (by omega))).trans (hb2.mono (by omega))
    lo := lo }

theorem RP.date {w wr : World} {C : Nat} {tr dt : Int} {lv : Value} {nt : ByteArray} {xs : List UInt64} {r : Rs} (h : RP w C tr wr lv dt nt xs r) (d : Int) : RP w C tr (wr.setCell ⟨C, 2, none⟩ (.int .i64 d)) lv d nt xs r := by
  have ht : Turned (fun k => k = C) wr (wr.setCell ⟨C, 2, none⟩ (.int .i64 d)) := turned_set 2 _
  have hC := h.com.lt
  have lo := h.lo
  have hb2 : Below C wr (wr.setCell ⟨C, 2, none⟩ (.int .i64 d)) := ht.below (by omega) (fun k hk q => by have q' : k = C := q; omega)
  exact {
    res := h.res.turned ht (by omega)
    com := h.com.put2 _
    rdr := h.rdr.over (hb2.mono (by omega))
    row := h.row.stays ht (fun g hg q => by have := (h.row.lt g hg).1; have q' : g = C := q; omega)
    bel := h.bel.trans (hb2.mono (by omega))
    lo := lo }

theorem RP.note {w wr : World} {C : Nat} {tr dt : Int} {lv : Value} {nt : ByteArray} {xs : List UInt64} {r : Rs} (h : RP w C tr wr lv dt nt xs r) (d : ByteArray) : RP w C tr (wr.setCell ⟨C, 3, none⟩ (.string d)) lv dt d xs r := by
  have ht : Turned (fun k => k = C) wr (wr.setCell ⟨C, 3, none⟩ (.string d)) := turned_set 3 _
  have hC := h.com.lt
  have lo := h.lo
  have hb2 : Below C wr (wr.setCell ⟨C, 3, none⟩ (.string d)) := ht.below (by omega) (fun k hk q => by have q' : k = C := q; omega)
  exact {
    res := h.res.turned ht (by omega)
    com := h.com.put3 _
    rdr := h.rdr.over (hb2.mono (by omega))
    row := h.row.stays ht (fun g hg q => by have := (h.row.lt g hg).1; have q' : g = C := q; omega)
    bel := h.bel.trans (hb2.mono (by omega))
    lo := lo }

set_option maxHeartbeats 6400000 in
set_option maxRecDepth 100000 in
/-- object.ReadCommit. -/
theorem readCom_any {a : Option Addr} {n c0 : Nat} {bs : Bs} (w : World) (hb : BAt w (.slice a n c0) bs) (hl : bs.length = n) :
    Calls Try.prog 17 #[.slice a n c0] w fun e w' => ∃ (c : Cm) (er : Int) (pa : Option Addr) (pc : Nat), e = .returned (.tuple #[.agg #[.int .u64 (c.tree.toNat : Int), .slice pa c.ps.length pc, .int .i64 c.date, tx c.note], .int .i64 er]) ∧ Hid (RC bs c er ∧ RdG encU w' pa c.ps ∧ c.ps.length ≤ pc ∧ Below w.heap.size w w') := by
  obtain ⟨R1, hR1⟩ : ∃ R1, rnum (bs, false) = R1 := ⟨_, rfl⟩
  obtain ⟨R2, hR2⟩ : ∃ R2, rcnt R1.2 = R2 := ⟨_, rfl⟩
  obtain ⟨R3, hR3⟩ : ∃ R3, rnums R2.1 R2.2 = R3 := ⟨_, rfl⟩
  obtain ⟨R4, hR4⟩ : ∃ R4, rnum R3.2 = R4 := ⟨_, rfl⟩
  obtain ⟨R5, hR5⟩ : ∃ R5, rtxt R4.2 = R5 := ⟨_, rfl⟩
  have hp : pcom bs = (⟨UInt64.ofNat R1.1, R3.1, sgn R4.1, R5.1⟩, R5.2) := by
    unfold pcom
    rw [hR1, hR2, hR3, hR4, hR5]
  have v1 : R1.1 < 18446744073709551616 := by rw [← hR1]; exact rnum_lt _
  have v2 : R2.1 ≤ 255 := by rw [← hR2]; exact rcnt_le _
  have v4 : R4.1 < 18446744073709551616 := by rw [← hR4]; exact rnum_lt _
  have v3 : R3.1.length = R2.1 := by rw [← hR3]; exact rnums_len _ _
  have HP : Hid (pcom bs = (⟨UInt64.ofNat R1.1, R3.1, sgn R4.1, R5.1⟩, R5.2) ∧ rnum (bs, false) = R1 ∧ rcnt R1.2 = R2 ∧ rnums R2.1 R2.2 = R3 ∧ rnum R3.2 = R4 ∧ rtxt R4.2 = R5 ∧ R3.1.length = R2.1) := ⟨hp, hR1, hR2, hR3, hR4, hR5, v3⟩
  clear hp hR1 hR2 hR3 hR4 hR5 v3
  obtain ⟨tn, r1⟩ := R1
  obtain ⟨cn, r2⟩ := R2
  obtain ⟨dn, r4⟩ := R4
  simp only at HP v1 v2 v4
  have sA : (w.alloc (.cells #[.int .u64 0, .slice none 0 0, .int .i64 0, .string ⟨#[]⟩] 44)).heap.size = w.heap.size + 1 := by simp
  have hbA : BAt (w.alloc (.cells #[.int .u64 0, .slice none 0 0, .int .i64 0, .string ⟨#[]⟩] 44)) (.slice a n c0) bs := hb.below (bz1 _ _)
  have hrd := Rdr.new hbA hl
  rw [sA] at hrd
  have hnu := num_any hrd tn r1 HP.out.2.1
  have HW : Hid (Box4 ((w.alloc (.cells #[.int .u64 0, .slice none 0 0, .int .i64 0, .string ⟨#[]⟩] 44)).alloc (.cells #[.slice a n c0, .bool false] 72)) w.heap.size 44 (.int .u64 0) (.slice none 0 0) (.int .i64 0) (.string ⟨#[]⟩) ∧ Below w.heap.size w ((w.alloc (.cells #[.int .u64 0, .slice none 0 0, .int .i64 0, .string ⟨#[]⟩] 44)).alloc (.cells #[.slice a n c0, .bool false] 72)) ∧ ((w.alloc (.cells #[.int .u64 0, .slice none 0 0, .int .i64 0, .string ⟨#[]⟩] 44)).alloc (.cells #[.slice a n c0, .bool false] 72)).heap.size = w.heap.size + 2) :=
    ⟨(Box4.new _ _ _ _ _ _).below (bz1 _ _) (by rw [sA]; omega), bz2 _ _ _, by simp⟩
  clear hb hl sA hbA hrd
  go_enter Try.func17, Try.ntmps17
  go_wp2_with fail
  refine hnu.mono ?_
  rintro e w1 ⟨rfl, J1⟩
  clear hnu
  have S1 : Hid (w.heap.size + 2 ≤ w1.heap.size) := by have := J1.out.2.size; rw [HW.out.2.2] at this; exact this
  have P1 : Hid (RP w w1.heap.size (tn : Int) (w1.alloc (.cells #[.int .u64 (tn : Int), .slice none 0 0, .int .i64 0, .string ⟨#[]⟩] 44)) (.slice none 0 0) 0 ⟨#[]⟩ [] r1) := {
    res := (HW.out.1.turned J1.out.2 (by omega)).below (bz1 w1 _) (by have := S1.out; omega)
    com := Box4.new _ _ _ _ _ _
    rdr := J1.out.1.below (bz1 w1 _)
    row := OwnG.nil _ _ _ _
    bel := (HW.out.2.1.trans (J1.out.2.below HW.out.2.1.size (fun k hk q => by have q' : k = w.heap.size + 1 := q; omega))).trans ((bz1 w1 _).mono (by have := S1.out; omega))
    lo := by have := S1.out; omega }
  have hcn := cnt_any P1.out.rdr cn r2 HP.out.2.2.1
  clear J1
  go_wp2_with fail
  refine hcn.mono ?_
  rintro e w2 ⟨rfl, J2⟩
  have P2 : Hid (RP w w1.heap.size (tn : Int) w2 (.slice none 0 0) 0 ⟨#[]⟩ [] r2) := P1.out.turn J2.out.1 J2.out.2
  clear hcn J2 P1
  obtain ⟨C, hC⟩ : ∃ C, w1.heap.size = C := ⟨_, rfl⟩
  rw [hC] at P2 ⊢
  clear hC S1
  go_wp2_with fail
  go_loopg [11] cn (fun m iv wr => ∃ (i : Nat) (la : Option Addr) (lc : Nat), iv = .int .i64 i ∧ i + m = cn ∧ Hid (RP w C (tn : Int) wr (.slice la i lc) 0 ⟨#[]⟩ (rnums i r2).1 (rnums i r2).2))
  case atStart => exact ⟨0, none, 0, rfl, by omega, P2.out⟩
  case round =>
    obtain ⟨i, la, lc, rfl, hi, HR⟩ := hrel
    by_cases hin : i < cn
    · have id : (i : Int) < (cn : Int) := by omega
      obtain ⟨x0, x1, x2, x3⟩ := HR.out.com.cells
      obtain ⟨v, r', hv⟩ : ∃ v r', rnum (rnums i r2).2 = (v, r') := ⟨_, _, rfl⟩
      have hvl : (UInt64.ofNat v).toNat = v := by
        have := rnum_lt (rnums i r2).2
        rw [hv] at this
        rw [UInt64.toNat_ofNat']
        simp only at this
        omega
      have hst : rnums (i + 1) r2 = ((rnums i r2).1 ++ [UInt64.ofNat v], r') := by
        show ((rnums i r2).1 ++ [UInt64.ofNat (rnum (rnums i r2).2).1], (rnum (rnums i r2).2).2) = _
        rw [hv]
      have hll : (rnums i r2).1.length = i := rnums_len _ _
      have HN : Hid (Calls Try.prog 29 #[.pointer (some ⟨w.heap.size + 1, 0, none⟩)] wr.drew fun e w' => e = .returned (.int .u64 (v : Int)) ∧ Hid (Rdr w' (w.heap.size + 1) r' ∧ Turned (fun i => i = w.heap.size + 1) wr.drew w')) := num_any HR.out.drew.rdr v r' hv
      have HX : Hid (rnums (i + 1) r2 = ((rnums i r2).1 ++ [UInt64.ofNat v], r') ∧ (UInt64.ofNat v).toNat = v ∧ (rnums i r2).1.length = i ∧ ((rnums i r2).1 ++ [UInt64.ofNat v]).length = i + 1) := ⟨hst, hvl, hll, by rw [List.length_append, hll]; rfl⟩
      have lo : w.heap.size + 1 < C := HR.out.lo
      clear hst hvl hll hv
      go_wp2_with fail
      have HB0 : Hid (Below w.heap.size w wr) := HR.out.bel
      go_region_law
        (first
          | (refine stepG_at encU 37 42 8 _ rfl Try.info37 Try.underlying42 rfl (.tmp 14) (.tmp 16) rfl (C + 1) _ (rnums i r2).1 (UInt64.ofNat v) rfl (P3.out.row.below (bz1 w3 _)) w3.heap.size rfl HC3.out (by rw [HX.out.2.2.1]; omega) (by rw [HX.out.2.2.1]; simp only [maxLen]; omega) (by have := P3.out.com.lt; simp; omega) ?_; intro v4 w4 ho4 hb4 hm4 ht4; obtain ⟨a4, c4, e4, _, _, _, _⟩ := OwnG.form ho4; rw [HX.out.2.2.2] at e4; subst e4; have J4 : Hid (OwnG encU 37 w4 (C + 1) (.slice a4 (i + 1) c4) ((rnums i r2).1 ++ [UInt64.ofNat v]) ∧ Below (C + 1) w3 w4) := ⟨ho4, ((bz1 w3 _).mono (by have := P3.out.com.lt; omega)).trans hb4⟩; have HB4 : Hid (Below w.heap.size w w4) := P3.out.bel.trans (J4.out.2.mono (by omega)); have z4 := (P3.out.com.below J4.out.2 (by omega)).cells; have g4 := (P3.out.com.below J4.out.2 (by omega)).thaw; obtain ⟨z0, z1, z2, z3⟩ := z4; obtain ⟨g0, g1, g2, g3⟩ := g4; clear ho4 hb4 hm4 ht4)
          | (go_simp; (with_reducible refine HN.out.mono ?_); rintro e w3 ⟨rfl, J3⟩; have P3 : Hid (RP w C (tn : Int) w3 (.slice la i lc) 0 ⟨#[]⟩ (rnums i r2).1 r') := HR.out.drew.turn J3.out.1 J3.out.2; have k3 := P3.out.com.cells.2.1; have k3' := (P3.out.com.below (bz1 w3 (.cells #[.int .u64 (v : Int)] 37)) P3.out.com.lt).cells.2.1; have HB3 : Hid (Below w.heap.size w w3) := P3.out.bel; have HC3 : Hid (∀ j u, (encU.cells (UInt64.ofNat v))[j]? = some u → (w3.alloc (.cells #[.int .u64 (v : Int)] 37)).cell? ((⟨w3.heap.size, 0, none⟩ : Addr).add j) = some u) := (by have := cells_new encU w3 (UInt64.ofNat v) 37; rw [show (encU.cells (UInt64.ofNat v)).toArray = #[Value.int .u64 (v : Int)] from (by show #[Value.int .u64 ((UInt64.ofNat v).toNat : Int)] = _; rw [HX.out.2.1])] at this; exact this)))
      all_goals
        have P4 : Hid (RP w C (tn : Int) (w4.setCell ⟨C, 1, none⟩ (.slice a4 (i + 1) c4)) (.slice a4 (i + 1) c4) 0 ⟨#[]⟩ (rnums (i + 1) r2).1 (rnums (i + 1) r2).2) := by
          rw [HX.out.1]
          exact P3.out.add J4.out.2 J4.out.1
        go_wp2
        go_roundg (gk - 1)
        case measure => omega
        case rel => exact ⟨i + 1, a4, c4, by go_num, by omega, P4.out⟩
    · obtain rfl : i = cn := by omega
      have P3 : Hid (RP w C (tn : Int) wr (.slice la i lc) 0 ⟨#[]⟩ R3.1 R3.2) := by
        have := HR.out
        rw [HP.out.2.2.2.1] at this
        exact this
      have hnu := num_any P3.out.rdr dn r4 HP.out.2.2.2.2.1
      obtain ⟨dt, hdt⟩ : ∃ dt, sgn dn = dt := ⟨_, rfl⟩
      have hwd : IntKind.i64.wrap (dn : Int) = dt := by rw [← hdt]; exact sgn_wrap v4
      have HD : Hid (sgn dn = dt) := hdt
      clear HR hdt
      go_wp2_with fail
      refine hnu.mono ?_
      rintro e w4 ⟨rfl, J4⟩
      have P4 : Hid (RP w C (tn : Int) w4 (.slice la i lc) 0 ⟨#[]⟩ R3.1 r4) := P3.out.turn J4.out.1 J4.out.2
      obtain ⟨x0, x1, x2, x3⟩ := P4.out.com.cells
      obtain ⟨f0, f1, f2, f3⟩ := P4.out.com.thaw
      have P5 : Hid (RP w C (tn : Int) (w4.setCell ⟨C, 2, none⟩ (.int .i64 dt)) (.slice la i lc) dt ⟨#[]⟩ R3.1 r4) := P4.out.date dt
      obtain ⟨t, ht⟩ : ∃ t : ByteArray, t = ⟨R5.1.toArray⟩ := ⟨_, rfl⟩
      obtain ⟨r5, hr5⟩ : ∃ r5, R5.2 = r5 := ⟨_, rfl⟩
      have htx := txt_any P5.out.rdr t r5 (by rw [HP.out.2.2.2.2.2.1, ht, ← hr5])
      have HT : Hid (t = ⟨R5.1.toArray⟩ ∧ R5.2 = r5) := ⟨ht, hr5⟩
      clear hnu J4 P3 ht hr5
      go_wp2_with fail
      refine htx.mono ?_
      rintro e w6 ⟨rfl, J6⟩
      have P6 : Hid (RP w C (tn : Int) w6 (.slice la i lc) dt ⟨#[]⟩ R3.1 r5) := P5.out.turn J6.out.1 J6.out.2
      clear x0 x1 x2 x3 f0 f1 f2 f3
      obtain ⟨x0, x1, x2, x3⟩ := P6.out.com.cells
      obtain ⟨f0, f1, f2, f3⟩ := P6.out.com.thaw
      obtain ⟨w7, hw7⟩ : ∃ w7, w6.setCell ⟨C, 3, none⟩ (.string t) = w7 := ⟨_, rfl⟩
      have P7 : Hid (RP w C (tn : Int) w7 (.slice la i lc) dt t R3.1 r5) := by
        rw [← hw7]
        exact P6.out.note t
      obtain ⟨ra, rc, hbx, _⟩ := P7.out.rdr.at_
      obtain ⟨y0, y1⟩ := hbx.cells
      obtain ⟨z0, z1, z2, z3⟩ := P7.out.com.cells
      obtain ⟨q0, q1, q2, q3⟩ := P7.out.res.cells
      obtain ⟨g0, g1, g2, g3⟩ := P7.out.res.thaw
      obtain ⟨rl, hrl⟩ : ∃ rl, r5.1.length = rl := ⟨_, rfl⟩
      rw [hrl] at y0
      have HL : Hid (r5.1.length = rl) := hrl
      clear htx J6 P5 hbx hrl
      have zero : ∀ S : World, S = (((w7.setCell ⟨w.heap.size, 0, none⟩ (.int .u64 0)).setCell ⟨w.heap.size, 1, none⟩ (.slice none 0 0)).setCell ⟨w.heap.size, 2, none⟩ (.int .i64 0)).setCell ⟨w.heap.size, 3, none⟩ (.string ⟨#[]⟩) → Below w.heap.size w S := by
        rintro S rfl
        have ht := lay_four w7 w.heap.size (.int .u64 0) (.slice none 0 0) (.int .i64 0) (.string ⟨#[]⟩)
        exact P7.out.bel.trans (ht.below P7.out.bel.size (fun k hk q => by have q' : k = w.heap.size := q; omega))
      have HZ : Hid (∀ S : World, S = (((w7.setCell ⟨w.heap.size, 0, none⟩ (.int .u64 0)).setCell ⟨w.heap.size, 1, none⟩ (.slice none 0 0)).setCell ⟨w.heap.size, 2, none⟩ (.int .i64 0)).setCell ⟨w.heap.size, 3, none⟩ (.string ⟨#[]⟩) → Below w.heap.size w S) := zero
      clear zero
      cases hs : r5.2 with
      | true =>
        rw [hs] at y1
        have hrc : RC bs zcm 9 := rc_bad (.inl (by rw [HP.out.1]; simp only; rw [HT.out.2]; intro q; rw [q] at hs; cases hs))
        have HC : Hid (RC bs zcm 9) := hrc
        clear hrc hs
        go_wp2
        refine bodyPost_ret (v := .tuple #[.agg #[.int .u64 0, .slice none 0 0, .int .i64 0, .string ⟨#[]⟩], .int .i64 9]) ?_ rfl ?_
        · simp [results, Try.f17]
          go_simp
        · exact ⟨zcm, 9, none, 0, rfl, HC.out, RdG.nil _ _ _, Nat.le_refl _, HZ.out _ rfl⟩
      | false =>
        rw [hs] at y1
        by_cases hr0 : 0 < rl
        · have d1 : (0 : Int) < (rl : Int) := by omega
          have hrc : RC bs zcm 9 := rc_bad (.inl (by rw [HP.out.1]; simp only; rw [HT.out.2]; intro q; have := HL.out; rw [q] at this; simp at this; omega))
          have HC : Hid (RC bs zcm 9) := hrc
          clear hrc hs
          go_wp2
          refine bodyPost_ret (v := .tuple #[.agg #[.int .u64 0, .slice none 0 0, .int .i64 0, .string ⟨#[]⟩], .int .i64 9]) ?_ rfl ?_
          · simp [results, Try.f17]
            go_simp
          · exact ⟨zcm, 9, none, 0, rfl, HC.out, RdG.nil _ _ _, Nat.le_refl _, HZ.out _ rfl⟩
        · have hrl0 : rl = 0 := by omega
          subst hrl0
          have hr5 : R5.2 = ([], false) := by
            rw [HT.out.2]
            exact Prod.ext (List.eq_nil_of_length_eq_zero HL.out) hs
          have hpl : R3.1.length = i := HP.out.2.2.2.2.2.2
          obtain ⟨hrr, hrc⟩ := P7.out.row.rdc
          obtain ⟨cc, hcc⟩ : ∃ cc : Cm, (⟨UInt64.ofNat tn, R3.1, dt, R5.1⟩ : Cm) = cc := ⟨_, rfl⟩
          have e1 : cc.ps = R3.1 := by rw [← hcc]
          have e2 : cc.date = dt := by rw [← hcc]
          have e3 : cc.note = R5.1 := by rw [← hcc]
          have e4 : (cc.tree.toNat : Int) = (tn : Int) := by rw [← hcc]; simp only; rw [UInt64.toNat_ofNat']; omega
          have hpc : pcom bs = (cc, ([], false)) := by rw [HP.out.1, ← hcc, hr5, HD.out]
          have hck := ccom_any (c := cc) (w := w7) (by rw [e1]; exact hrr) (by rw [e1]; exact hpl) hrc t (by rw [e3]; exact HT.out.1) dt e2 (tn : Int)
          obtain ⟨ce, hce⟩ : ∃ ce, ccom cc = ce := ⟨_, rfl⟩
          rw [hce] at hck
          have HQ : Hid (cc.ps = R3.1 ∧ cc.date = dt ∧ cc.note = R5.1 ∧ (cc.tree.toNat : Int) = (tn : Int) ∧ pcom bs = (cc, ([], false)) ∧ ccom cc = ce ∧ R3.1.length = i ∧ i ≤ lc) := ⟨e1, e2, e3, e4, hpc, hce, hpl, hrc⟩
          clear e1 e2 e3 e4 hpc hce hpl hrr hrc hr5 hcc hs
          by_cases hc0 : ce = 0
          · subst hc0
            go_wp2_with fail
            refine hck.mono ?_
            rintro e w8 ⟨rfl, hb8⟩
            have B8 : Hid (Below w7.heap.size w7 w8) := hb8
            clear hb8 z0 z1 z2 z3 q0 q1 q2 q3 g0 g1 g2 g3 y0 y1
            obtain ⟨z0, z1, z2, z3⟩ := (P7.out.com.below B8.out P7.out.com.lt).cells
            obtain ⟨q0, q1, q2, q3⟩ := (P7.out.res.below B8.out P7.out.res.lt).cells
            obtain ⟨g0, g1, g2, g3⟩ := (P7.out.res.below B8.out P7.out.res.lt).thaw
            go_wp2
            refine bodyPost_ret (v := .tuple #[.agg #[.int .u64 (tn : Int), .slice la i lc, .int .i64 dt, .string t], .int .i64 0]) ?_ rfl ?_
            · simp [results, Try.f17]
              go_simp
            · have ht := lay_four w8 w.heap.size (.int .u64 (tn : Int)) (.slice la i lc) (.int .i64 dt) (.string t)
              have bel : Below w.heap.size w w8 := P7.out.bel.trans (B8.out.mono P7.out.bel.size)
              have hrow := (P7.out.row.below B8.out).stays ht (fun g hg q => by have := (P7.out.row.lt g hg).1; have := P7.out.lo; have q' : g = w.heap.size := q; omega)
              have hg := rc_good (b := bs) (by rw [HQ.out.2.2.2.2.1]) (by rw [HQ.out.2.2.2.2.1]; exact HQ.out.2.2.2.2.2.1)
              rw [HQ.out.2.2.2.2.1] at hg
              refine ⟨cc, 0, la, lc, ?_, hg, ?_, ?_, bel.trans (ht.below bel.size (fun k hk q => by have q' : k = w.heap.size := q; omega))⟩
              · rw [HQ.out.1, HQ.out.2.1, HQ.out.2.2.1, HQ.out.2.2.2.1, HQ.out.2.2.2.2.2.2.1, HT.out.1]
              · rw [HQ.out.1]; exact hrow.rdc.1
              · rw [HQ.out.1, HQ.out.2.2.2.2.2.2.1]; exact HQ.out.2.2.2.2.2.2.2
          · have m0 : (ce == 0) = false := by simpa using hc0
            have m1 : (ce != 0) = true := by simpa using hc0
            go_wp2_with fail
            refine hck.mono ?_
            rintro e w8 ⟨rfl, hb8⟩
            have B8 : Hid (Below w7.heap.size w7 w8) := hb8
            clear hb8 z0 z1 z2 z3 q0 q1 q2 q3 g0 g1 g2 g3 y0 y1
            obtain ⟨q0, q1, q2, q3⟩ := (P7.out.res.below B8.out P7.out.res.lt).cells
            obtain ⟨g0, g1, g2, g3⟩ := (P7.out.res.below B8.out P7.out.res.lt).thaw
            go_wp2
            refine bodyPost_ret (v := .tuple #[.agg #[.int .u64 0, .slice none 0 0, .int .i64 0, .string ⟨#[]⟩], .int .i64 9]) ?_ rfl ?_
            · simp [results, Try.f17]
              go_simp
            · have ht := lay_four w8 w.heap.size (.int .u64 0) (.slice none 0 0) (.int .i64 0) (.string ⟨#[]⟩)
              have bel : Below w.heap.size w w8 := P7.out.bel.trans (B8.out.mono P7.out.bel.size)
              have hg : RC bs zcm 9 := rc_bad (.inr (by rw [HQ.out.2.2.2.2.1]; simp only; rw [HQ.out.2.2.2.2.2.1]; exact hc0))
              exact ⟨zcm, 9, none, 0, rfl, hg, RdG.nil _ _ _, Nat.le_refl _, bel.trans (ht.below bel.size (fun k hk q => by have q' : k = w.heap.size := q; omega))⟩

end Go.Proofs.Ytadjcmekpcimjaa
