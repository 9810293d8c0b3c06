/-
  A frame with one byte changed is not a frame of that length; the law FrameTurned, walked: of any frame, place and mask it returns true, and what was there is as it was. No condition.
-/
import Derived.Test.YtlcaphickofccaaAwake
namespace Go.Proofs.Ytlcaphickofccaa
open Go.RowKit

theorem val_one {a t : Bs} {x y : UInt8} (h : val (a ++ x :: t) = val (a ++ y :: t)) : x = y := by
  have e : ∀ z : UInt8, val (a ++ z :: t) = val a * 256 ^ (t.length + 1) + (val [z] * 256 ^ t.length + val t) := by
    intro z
    rw [val_add, show z :: t = [z] ++ t from rfl, val_add]
    simp
  rw [e, e] at h
  have p : 0 < 256 ^ t.length := Nat.pow_pos (by decide)
  have h2 : val [x] * 256 ^ t.length = val [y] * 256 ^ t.length := by omega
  have h3 : val [x] = val [y] := Nat.eq_of_mul_eq_mul_right p h2
  have e1 : ∀ z : UInt8, val [z] = z.toNat := by intro z; simp [val]
  rw [e1, e1] at h3
  exact UInt8.toNat_inj.1 h3

theorem take_at (a t : Bs) {i : Nat} (h : a.length < i) : ∃ r : Bs, ∀ x : UInt8, (a ++ x :: t).take i = a ++ x :: r := by
  obtain ⟨j, hj⟩ : ∃ j, i - a.length = j + 1 := ⟨i - a.length - 1, by omega⟩
  refine ⟨t.take j, fun x => ?_⟩
  rw [List.take_append, List.take_of_length_le (by omega), hj, List.take_succ_cons]
theorem take_off (a t : Bs) {i : Nat} (h : i ≤ a.length) (x : UInt8) : (a ++ x :: t).take i = a.take i := List.take_append_of_le_length h
theorem drop_at (a t : Bs) {i : Nat} (h : i ≤ a.length) (x : UInt8) : (a ++ x :: t).drop i = a.drop i ++ x :: t := List.drop_append_of_le_length h
theorem drop_off (a t : Bs) {i : Nat} (h : a.length < i) : ∃ r : Bs, ∀ x : UInt8, (a ++ x :: t).drop i = r := by
  obtain ⟨j, hj⟩ : ∃ j, i - a.length = j + 1 := ⟨i - a.length - 1, by omega⟩
  refine ⟨t.drop j, fun x => ?_⟩
  rw [List.drop_append, List.drop_of_length_le (by omega), hj, List.nil_append, List.drop_succ_cons]

theorem turned_one {a t : Bs} {x y : UInt8} (h : (fopen (a ++ x :: t)).2.2 = 0) (hn : (fopen (a ++ x :: t)).2.1 = (a ++ x :: t).length) (k : (fopen (a ++ y :: t)).2.2 = 0) (kn : (fopen (a ++ y :: t)).2.1 = (a ++ y :: t).length) : x = y := by
  obtain ⟨_, _, _, h4, h5⟩ := fopen_ok h
  obtain ⟨_, _, _, k4, k5⟩ := fopen_ok k
  rw [h5] at hn
  rw [k5] at kn
  simp only [List.length_append, List.length_cons] at hn kn
  obtain ⟨L, hL⟩ : ∃ L, val ((a ++ x :: t).take 4) = L := ⟨_, rfl⟩
  have kL : val ((a ++ y :: t).take 4) = L := by omega
  rw [hL] at h4
  rw [kL] at k4
  by_cases c1 : a.length < 4
  · obtain ⟨r, hr⟩ := take_at a t c1
    rw [← kL, hr, hr] at hL
    exact val_one hL
  · by_cases c2 : a.length < 5 + L
    · obtain ⟨r, hr⟩ := take_at a t c2
      obtain ⟨d, hd⟩ := drop_off a t c2
      rw [hr, hd] at h4 k4
      exact crc_one (h4.symm.trans k4)
    · rw [take_off a t (by omega), drop_at a t (by omega)] at h4 k4
      obtain ⟨r, hr⟩ := take_at (a.drop (5 + L)) t (i := 4) (by rw [List.length_drop]; omega)
      rw [hr] at h4 k4
      exact val_one (h4.trans k4.symm)

theorem xor_moves {y m : UInt8} (hm : m ≠ 0) : y ^^^ m ≠ y := by
  intro h
  apply hm
  have := congrArg (y ^^^ ·) h
  simpa [← UInt8.xor_assoc] using this

/-- A sealed frame with one byte turned. -/
theorem turned_no {k : Int} {body : Bs} {i : Nat} {y m : UInt8} (h0 : 0 ≤ k) (h1 : k ≤ 255) (hl : body.length ≤ 8192) (hy : (sealB k body)[i]? = some y) (hm : m ≠ 0) : (fopen ((sealB k body).set i (y ^^^ m))).2.2 ≠ 0 ∨ (fopen ((sealB k body).set i (y ^^^ m))).2.1 < (sealB k body).length := by
  obtain ⟨hi, e⟩ := List.getElem?_eq_some_iff.1 hy
  have hs := fopen_seal [] h0 h1 hl
  rw [List.append_nil] at hs
  have hlen := sealB_len k body
  have e1 : sealB k body = (sealB k body).take i ++ y :: (sealB k body).drop (i + 1) := by
    rw [← e, List.getElem_cons_drop, List.take_append_drop]
  have e2 : ∀ z, (sealB k body).set i z = (sealB k body).take i ++ z :: (sealB k body).drop (i + 1) := fun z => List.set_eq_take_append_cons_drop ▸ by simp [hi]
  rw [e2]
  by_cases q : (fopen ((sealB k body).take i ++ (y ^^^ m) :: (sealB k body).drop (i + 1))).2.2 = 0
  · right
    have hn := fopen_n q
    have hle : ((sealB k body).take i ++ (y ^^^ m) :: (sealB k body).drop (i + 1)).length = (sealB k body).length := by rw [← e2, List.length_set]
    rcases Nat.lt_or_ge (fopen ((sealB k body).take i ++ (y ^^^ m) :: (sealB k body).drop (i + 1))).2.1 (sealB k body).length with g | g
    · exact g
    · exfalso
      have := turned_one (x := y) (y := y ^^^ m) (a := (sealB k body).take i) (t := (sealB k body).drop (i + 1)) (by rw [← e1, hs]) (by rw [← e1, hs]; show 9 + body.length = _; omega) q (by omega)
      exact xor_moves hm this.symm
  · exact .inl q

set_option maxHeartbeats 6400000 in
set_option maxRecDepth 100000 in
theorem turned_walk (k : Int) (ba : Option Addr) (n c : Nat) (body : Bs) (at_ : Int) (m : UInt8) (W : World) (hb : BAt W (.slice ba n c) body) (hl : body.length = n) :
    Calls Try.prog 6 #[.agg #[.int .i64 k, .slice ba n c], .int .i64 at_, .int .u8 (m.toNat : Int)] W fun e w' => e = .returned (.bool true) ∧ Below W.heap.size W w' := by
  have H : Hid (BAt W (.slice ba n c) body ∧ body.length = n) := ⟨hb, hl⟩
  clear hb hl
  go_enter Try.func6, Try.ntmps6
  obtain ⟨W1, hW1⟩ : ∃ W1, W.alloc (.cells #[.int .i64 k, .slice ba n c] 29) = W1 := ⟨_, rfl⟩
  have b1 : Below W.heap.size W W1 := by rw [← hW1]; exact bz1 _ _
  have bx1 : Box W1 W.heap.size 29 (.int .i64 k) (.slice ba n c) := by rw [← hW1]; exact Box.new W _ _ _
  go_wp2_with fail
  refine (awake_walk W1).mono ?_
  rintro e w0 ⟨rfl, B0⟩
  obtain ⟨x0, x1⟩ := (bx1.below B0).cells
  have HB : Hid (Below W.heap.size W w0) := b1.trans (B0.mono b1.size)
  have hs := seal_any (w := w0) (k := k) (H.out.1.below HB.out) H.out.2
  obtain ⟨sd, hsd⟩ : ∃ sd, fseal (k, body) = sd := ⟨_, rfl⟩
  rw [hsd] at hs
  obtain ⟨sl, se⟩ := sd
  simp only at hs
  have HS : Hid (fseal (k, body) = (sl, se)) := hsd
  clear b1 bx1 B0 hsd
  go_wp2_with fail
  refine hs.mono ?_
  rintro e w2 ⟨v2, rfl, J2⟩
  clear hs x0 x1
  obtain ⟨a2, c2, rfl, _, _, _, q2⟩ := OwnG.form J2.out.1
  obtain ⟨n2, hn2⟩ : ∃ n2, sl.length = n2 := ⟨_, rfl⟩
  rw [hn2] at J2 q2 ⊢
  have N2 : Hid (OwnG encB 5 w2 w0.heap.size (.slice a2 n2 c2) sl ∧ Below W.heap.size W w2 ∧ W.heap.size ≤ w0.heap.size ∧ sl.length = n2) := ⟨J2.out.1, HB.out.trans (J2.out.2.mono HB.out.size), HB.out.size, hn2⟩
  have hmx : n2 ≤ 8201 := by have := fseal_max (k, body); rw [HS.out] at this; rw [← hn2]; exact this
  clear J2 hn2
  by_cases hse : se = 0
  · subst hse
    by_cases hm : m = 0
    · subst hm
      go_wp2
      go_ret
      exact ⟨by simp, N2.out.2.1⟩
    · have m0 : ((m.toNat : Int) == 0) = false := by
        have : m.toNat ≠ 0 := fun q => hm (UInt8.toNat_inj.1 (by simpa using q))
        simp only [beq_eq_false_iff_ne]; omega
      by_cases ha : at_ < 0
      · go_wp2
        go_ret
        exact ⟨by simp, N2.out.2.1⟩
      · have ha' : decide (at_ < 0) = false := by rw [decide_eq_false_iff_not]; exact ha
        obtain ⟨i, rfl⟩ := Int.eq_ofNat_of_zero_le (by omega : 0 ≤ at_)
        by_cases hi : n2 ≤ i
        · have hi' : ((n2 : Int) ≤ (i : Int)) := by omega
          go_wp2
          go_ret
          exact ⟨by simp, N2.out.2.1⟩
        · have hi' : (i : Int) < (n2 : Int) := by omega
          have hi2 : decide ((n2 : Int) ≤ (i : Int)) = false := by rw [decide_eq_false_iff_not]; omega
          obtain ⟨g, rfl⟩ := q2 (by omega)
          obtain ⟨y, hy, ky, fy⟩ := byte_at N2.out.1 (i := i) (by rw [N2.out.2.2.2]; omega)
          have hx : bits BinOp.xor IntKind.u8 (y.toNat : Int) (m.toNat : Int) = ((y ^^^ m).toNat : Int) := by
            rw [u8_xor_nat _ _ y.toNat_lt m.toNat_lt, UInt8.toNat_xor]
          obtain ⟨z, hz⟩ : ∃ z, y ^^^ m = z := ⟨_, rfl⟩
          rw [hz] at hx
          have hse := fseal_iff (f := (k, body)) (by rw [HS.out])
          rw [HS.out] at hse
          have hno := turned_no (m := m) hse.1 hse.2.1 hse.2.2.1 (by rw [← hse.2.2.2]; exact hy) hm
          rw [← hse.2.2.2, hz] at hno
          simp only at hno
          obtain ⟨w3, hw3⟩ : ∃ w3, w2.setCell ⟨g, i, none⟩ (.int .u8 (z.toNat : Int)) = w3 := ⟨_, rfl⟩
          have o3 : OwnG encB 5 w3 w0.heap.size (.slice (some ⟨g, 0, none⟩) n2 c2) (sl.set i z) := by
            rw [← hw3]; exact byte_put N2.out.1 (by rw [N2.out.2.2.2]; omega) z
          have b3 : Below W.heap.size W w3 := by
            have hge := (N2.out.1.lt g rfl).1
            rw [← hw3]
            exact N2.out.2.1.trans ((turned_set i _).below N2.out.2.1.size (fun k hk q => by have := N2.out.2.2.1; omega))
          have hop := open_any (OwnB.at (OwnG.low o3 (Nat.zero_le _))) (by rw [List.length_set]; exact N2.out.2.2.2) (by omega)
          obtain ⟨fo, hfo⟩ : ∃ fo, fopen (sl.set i z) = fo := ⟨_, rfl⟩
          have hbad := fopen_bad (b := sl.set i z)
          rw [hfo] at hop hno hbad
          obtain ⟨⟨fk, fb⟩, fn, fe⟩ := fo
          simp only at hop hno hbad
          rw [N2.out.2.2.2] at hno
          clear o3 hy hse hfo
          have B3 : Hid (Below W.heap.size W w3) := b3
          clear b3 HS
          by_cases hfe : fe = 0
          · subst hfe
            have hlt : fn < n2 := by
              rcases hno with q | q
              · exact absurd rfl q
              · exact q
            have hlt' : (fn : Int) < (n2 : Int) := by omega
            go_wp2_with fail
            refine hop.mono ?_
            rintro e w4 ⟨fv, rfl, J4⟩
            obtain ⟨fa, fc, rfl, _, _, _, _⟩ := OwnG.form J4.out.1
            obtain ⟨w5, hw5⟩ : ∃ w5, w4.alloc (.cells #[.int .i64 fk, .slice fa fb.length fc] 29) = w5 := ⟨_, rfl⟩
            have B5 : Hid (Below W.heap.size W w5) := by
              have b4 := B3.out.trans (J4.out.2.mono B3.out.size)
              rw [← hw5]
              exact b4.trans ((bz1 _ _).mono b4.size)
            clear J4 hop
            go_wp2
            go_ret
            exact ⟨by simp, B5.out⟩
          · have m1 : (fe != 0) = true := by simpa using hfe
            have m2 : (fe == 0) = false := by simpa using hfe
            obtain ⟨e1, _, _⟩ := hbad hfe
            simp only [Prod.mk.injEq] at e1
            obtain ⟨⟨rfl, rfl⟩, rfl, _⟩ := e1
            go_wp2_with fail
            refine hop.mono ?_
            rintro e w4 ⟨fv, rfl, J4⟩
            obtain ⟨fa, fc, rfl, _, _, _, _⟩ := OwnG.form J4.out.1
            obtain ⟨w5, hw5⟩ : ∃ w5, w4.alloc (.cells #[.int .i64 0, .slice fa 0 fc] 29) = w5 := ⟨_, rfl⟩
            have bx5 : Box w5 w4.heap.size 29 (.int .i64 0) (.slice fa 0 fc) := by rw [← hw5]; exact Box.new w4 _ _ _
            obtain ⟨x0, x1⟩ := bx5.cells
            have B5 : Hid (Below W.heap.size W w5) := by
              have b4 := B3.out.trans (J4.out.2.mono B3.out.size)
              rw [← hw5]
              exact b4.trans ((bz1 _ _).mono b4.size)
            clear J4 hop bx5
            go_wp2
            go_ret
            exact ⟨by simp, B5.out⟩
  · have m0 : (se == 0) = false := by simpa using hse
    have m1 : (se != 0) = true := by simpa using hse
    go_wp2
    go_ret
    exact ⟨by simp, N2.out.2.1⟩

end Go.Proofs.Ytlcaphickofccaa
