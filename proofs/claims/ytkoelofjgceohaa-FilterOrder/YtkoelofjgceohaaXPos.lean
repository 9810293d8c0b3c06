/-
  filter.Positions, Bits and place, and the reference's Positions and Bits, each by a contract. No condition but that each number fits its kind, and that no text is longer than any text can be.
-/
import Derived.Test.YtkoelofjgceohaaXForms
namespace Go.Proofs.Ytkoelofjgceohaa
open Go.RowKit

def xints (bs : Bs) : List Int := bs.map (fun b => (b.toNat : Int))

theorem xints_get {bs : Bs} {j : Nat} (hj : j < bs.length) : (xints bs).getD j 0 = (bs[j].toNat : Int) := by
  simp [xints, List.getD, List.getElem?_eq_getElem hj]

theorem BAt.xbytes {w : World} {v : Value} {bs : Bs} (h : BAt w v bs) : BytesAt w v (xints bs) := by
  obtain ⟨ao, c, rfl, h1, h2, h3⟩ := h
  refine ⟨ao, c, by simp [xints], by simp [xints]; omega, ?_⟩
  by_cases h0 : 0 < bs.length
  · obtain ⟨b, off, rfl, hlt, hc⟩ := h3 h0
    refine .inr ⟨b, off, rfl, fun j hj => ?_⟩
    have hj' : j < bs.length := by simpa [xints] using hj
    rw [xints_get hj']
    have := hc j bs[j] (List.getElem?_eq_getElem hj') 0 _ rfl
    rw [show off + (j * encB.size + 0) = off + j from (by show off + (j * 1 + 0) = off + j; omega)] at this
    exact this
  · obtain rfl : bs = [] := List.eq_nil_of_length_eq_zero (by omega)
    exact .inl rfl

theorem xpart {w : World} {v : Value} {bs : Bs} (h : BAt w v bs) (t : TypeId) : PartsAt (w.alloc (.cells #[v] t)) (.slice (some ⟨w.heap.size, 0, none⟩) 1 1) [xints bs] := by
  refine ⟨_, 1, rfl, by simp, .inr ⟨w.heap.size, 0, rfl, fun j hj => ?_⟩⟩
  obtain rfl : j = 0 := by simpa using hj
  exact ⟨v, by simp, (h.below (bz1 w _)).xbytes⟩

/-- The remainder of a spread number, as it is reckoned. -/
theorem pos_wrap (x : Int) {m : Int} (m1 : 1 ≤ m) (m2 : m ≤ 9223372036854775807) : wrap64 (x % m) = x % m := by
  have k0 := Int.emod_nonneg x (b := m) (by omega)
  have k1 := Int.emod_lt_of_pos x (b := m) (by omega)
  rw [wrap64]
  omega

theorem all_rep {α : Type} (E : Enc α) (x : α) (v : Value) (h : E.cells x = [v]) : ∀ n, E.all (List.replicate n x) = List.replicate n v
  | 0 => rfl
  | n + 1 => by
    have := all_rep E x v h n
    simp only [Enc.all, List.replicate_succ, List.flatMap_cons, h] at this ⊢
    rw [this]
    rfl

theorem Try.info3 : (Try.prog.info? 3).map (fun i => (i.zero, i.size, i.bytes)) = some (some (.int .i64 0), 1, 8) := by kernel_rfl

/-- make([]int, n). -/
theorem make_ints (n : Nat) (hn : n ≤ 1000000) (w : World) :
    ∃ w', (Instr.makeSlice 30 (.int .i64 (n : Int)) (.int .i64 (n : Int))).run Try.prog w = .ok (.slice (some ⟨w.heap.size, 0, none⟩) n n) w' ∧ OwnG encI 3 w' w.heap.size (.slice (some ⟨w.heap.size, 0, none⟩) n n) (List.replicate n 0) ∧ Below w.heap.size w w' := by
  obtain ⟨i0, hi0, hz0, hz1, hz2⟩ := info_parts Try.info3
  obtain ⟨w', h1, h2, h3⟩ := run_make_full (P := Try.prog) w w.heap.size 30 3 i0 _ 1 Try.underlying30 hi0 hz0 hz1 .i64 .i64 n (by rw [hz2]; omega) (by simp only [maxLen]; omega) (Nat.le_refl _)
  refine ⟨w', h1, ?_, (Below.refl _ w).grown h3 (Nat.le_refl _) (fun k hk => by cases hk)⟩
  unfold OwnG
  have e : encI.all (List.replicate n (0 : Int)) = (madeCells (Value.int .i64 0).cells (n * 1)).toList := by
    rw [show (Value.int .i64 0).cells = #[.int .i64 0] from rfl, toList_madeCells_one, Nat.mul_one]
    exact all_rep encI 0 _ rfl n
  rw [List.length_replicate, e]
  exact h2

/-- make([]byte, n). -/
theorem make_bytes (n : Nat) (hn : n ≤ 1000000) (w : World) :
    ∃ w', (Instr.makeSlice 25 (.int .i64 (n : Int)) (.int .i64 (n : Int))).run Try.prog w = .ok (.slice (some ⟨w.heap.size, 0, none⟩) n n) w' ∧ OwnG encB 5 w' w.heap.size (.slice (some ⟨w.heap.size, 0, none⟩) n n) (List.replicate n 0) ∧ Below w.heap.size w w' := by
  obtain ⟨i0, hi0, hz0, hz1, hz2⟩ := info_parts Try.info5
  obtain ⟨w', h1, h2, h3⟩ := run_make_full (P := Try.prog) w w.heap.size 25 5 i0 _ 1 Try.underlying25 hi0 hz0 hz1 .i64 .i64 n (by rw [hz2]; omega) (by simp only [maxLen]; omega) (Nat.le_refl _)
  refine ⟨w', h1, ?_, (Below.refl _ w).grown h3 (Nat.le_refl _) (fun k hk => by cases hk)⟩
  unfold OwnG
  have e : encB.all (List.replicate n (0 : UInt8)) = (madeCells (Value.int .u8 0).cells (n * 1)).toList := by
    rw [show (Value.int .u8 0).cells = #[.int .u8 0] from rfl, toList_madeCells_one, Nat.mul_one]
    exact all_rep encB 0 _ rfl n
  rw [List.length_replicate, e]
  exact h2

/-- A cell of a row of numbers, and the row with one of them stored anew. -/
theorem int_at {w : World} {base g n cap : Nat} {zs : List Int} (h : OwnG encI 3 w base (.slice (some ⟨g, 0, none⟩) n cap) zs) {i : Nat} (hi : i < zs.length) :
    w.cell? ⟨g, i, none⟩ = some (.int .i64 zs[i]) ∧ w.frozen? ⟨g, i, none⟩ = false := by
  have hn : zs.length = n := own_len h
  subst hn
  have h' : w.ownsRow base 3 1 (.slice (some ⟨g, 0, none⟩) zs.length cap) zs.length (encI.all zs) := h
  refine ⟨?_, h'.frozenAt _⟩
  rw [h'.cellAt _ (by rw [Nat.mul_one]; exact hi)]
  have := encI.all_get zs i 0 zs[i] (List.getElem?_eq_getElem hi) (by decide)
  rw [show i * encI.size + 0 = i from (by show i * 1 + 0 = i; omega)] at this
  rw [this]
  rfl

theorem int_put {w : World} {base g n cap : Nat} {zs : List Int} (h : OwnG encI 3 w base (.slice (some ⟨g, 0, none⟩) n cap) zs) {i : Nat} (hi : i < zs.length) (y : Int) :
    OwnG encI 3 (w.setCell ⟨g, i, none⟩ (.int .i64 y)) base (.slice (some ⟨g, 0, none⟩) n cap) (zs.set i y) := by
  have := OwnG.put h (i := i) (j := 0) (List.getElem?_eq_getElem hi) (by decide) y (.int .i64 y) (by simp [encI])
  rw [show i * encI.size + 0 = i from (by show i * 1 + 0 = i; omega)] at this
  exact this

theorem fill_step {p : Bs} {m : Int} (hm : 1 ≤ m) {i : Nat} (hi : i < 3) : ((poss p m).take i ++ List.replicate (3 - i) 0).set i (pos1 p m i) = (poss p m).take (i + 1) ++ List.replicate (3 - (i + 1)) 0 := by
  have h : ¬ m < 1 := by omega
  match i, hi with
  | 0, _ => simp [poss, h, List.replicate]
  | 1, _ => simp [poss, h, List.replicate]
  | 2, _ => simp [poss, h]

set_option maxHeartbeats 400000 in
theorem positions_none (p : Bs) (m : Int) (hm : m < 1) (w : World) :
    Calls Try.prog 14 #[tx p, .int .i64 m] w fun e w' => e = .returned (.slice none 0 0) ∧ w' = w := by
  go_enter Try.func14, Try.ntmps14
  go_wp2
  go_ret
  exact ⟨rfl, rfl⟩

set_option maxHeartbeats 800000 in
set_option maxRecDepth 100000 in
theorem positions_some (p : Bs) (m : Int) (hm : 1 ≤ m) (hm2 : m ≤ 9223372036854775807) (hp : p.length ≤ 9223372036854775807) (w : World) :
    Calls Try.prog 14 #[tx p, .int .i64 m] w fun e w' => ∃ v', e = .returned v' ∧ OwnG encI 3 w' w.heap.size v' (poss p m) ∧ Below w.heap.size w w' := by
  have hlt : ¬ m < 1 := by omega
  obtain ⟨W1, c1, hc1, B1, S1, R1, l1, l2⟩ := bytes_of w p
  have A1 : BAt W1 (.slice (some ⟨w.heap.size, 0, none⟩) p.length c1) p := R1.at l1 (l2 hp)
  have hid := id_any 9 _ _ _ (xpart A1 25)
  have G : Hid (Below w.heap.size w W1 ∧ W1.heap.size = w.heap.size + 1) := ⟨B1, S1⟩
  clear B1 S1 R1 A1 l1 l2
  go_enter Try.func14, Try.ntmps14
  go_wp2_with fail
  refine hid.mono ?_
  rintro e w2 ⟨rfl, hw2⟩
  have ID : Hid (idFolds (idStep 14695981039346656037 (9 % 256)) [xints p] = pid p) := rfl
  obtain ⟨d, hd⟩ : ∃ d, idFolds (idStep 14695981039346656037 (9 % 256)) [xints p] = d := ⟨_, rfl⟩
  rw [hd] at ID ⊢
  have B2 : Hid (Below w.heap.size w w2) := by
    show Below _ _ _
    rw [hw2]
    exact G.out.1.trans ((bz1 W1 _).mono G.out.1.size)
  clear hw2 hid hd hc1 G
  obtain ⟨w3, hm3, O3, B3⟩ := make_ints 3 (by decide) w2
  have hm3' : (Instr.makeSlice 30 (.int .i64 3) (.int .i64 3)).run Try.prog w2 = .ok (.slice (some ⟨w2.heap.size, 0, none⟩) 3 3) w3 := hm3
  have G3 : Hid (OwnG encI 3 w3 w.heap.size (.slice (some ⟨w2.heap.size, 0, none⟩) 3 3) (List.replicate 3 0) ∧ Below w.heap.size w w3) := ⟨O3.low B2.out.size, B2.out.trans (B3.mono B2.out.size)⟩
  clear hm3 O3 B3
  go_wp2_with fail
  go_loopg [17] 3 (fun k v wr => ∃ i : Nat, v = .int .i64 i ∧ i + k = 3 ∧ Hid (OwnG encI 3 wr w.heap.size (.slice (some ⟨w2.heap.size, 0, none⟩) 3 3) ((poss p m).take i ++ List.replicate (3 - i) 0) ∧ Below w.heap.size w wr))
  case atStart => exact ⟨0, rfl, by omega, G3.out⟩
  case round =>
    obtain ⟨i, rfl, hi, HR⟩ := hrel
    by_cases hin : i < 3
    · have id : (i : Int) < 3 := by omega
      have hlen : ((poss p m).take i ++ List.replicate (3 - i) 0).length = 3 := by simp [poss_len hm]; omega
      obtain ⟨c0, f0⟩ := int_at HR.out.1 (i := i) (by rw [hlen]; exact hin)
      obtain ⟨y, hy⟩ : ∃ y, wr.cell? ⟨w2.heap.size, i, none⟩ = some y := ⟨_, c0⟩
      clear c0
      have hput := int_put HR.out.1 (i := i) (by rw [hlen]; exact hin) (pos1 p m i)
      rw [fill_step hm hin] at hput
      have hsr := spread_range d i
      obtain ⟨sp, hsp⟩ : ∃ sp, spread d i = sp := ⟨_, rfl⟩
      have e1 : pos1 p m i = sp % m := by rw [pos1, ← ID.out, hsp]
      rw [hsp] at hsr
      have hw := pos_wrap sp hm hm2
      have hspc : ∀ w, Calls Try.prog 29 #[.int .u64 d, .int .i64 i] w fun e w' => e = .returned (.int .u64 sp) ∧ w' = w := fun w => by rw [← hsp]; exact spread_any d i w
      have PU : Hid _ := hput
      have E1 : Hid (pos1 p m i = sp % m) := e1
      clear hlen hput hsp e1
      go_wp2_with (go_at_call 29; refine (hspc _).mono ?_; rintro e w' ⟨rfl, rfl⟩)
      go_roundg (gk - 1)
      case measure => omega
      case rel =>
        refine ⟨i + 1, by go_num, by omega, ?_, HR.out.2.trans (OwnG.turn HR.out.1 HR.out.2.size ((Turned.refl (fun k => (Value.slice (some ⟨w2.heap.size, 0, none⟩) 3 3).ownBlock = some k) _).setCell (p := ⟨w2.heap.size, i, none⟩) (.inl rfl) _))⟩
        rw [← E1.out]
        exact PU.out
    · obtain rfl : i = 3 := by omega
      have e : (poss p m).take 3 ++ List.replicate (3 - 3) 0 = poss p m := by rw [List.take_of_length_le (by rw [poss_len hm]; omega)]; simp
      rw [e] at HR
      go_wp2
      go_ret
      exact ⟨_, rfl, HR.out.1, HR.out.2⟩

/-- filter.Positions. -/
theorem positions_any (p : Bs) (m : Int) (hm2 : m ≤ 9223372036854775807) (hp : p.length ≤ 9223372036854775807) (w : World) :
    Calls Try.prog 14 #[tx p, .int .i64 m] w fun e w' => ∃ v', e = .returned v' ∧ OwnG encI 3 w' w.heap.size v' (poss p m) ∧ Below w.heap.size w w' := by
  by_cases h : m < 1
  · rw [poss_none h]
    refine (positions_none p m h w).mono ?_
    rintro e w' ⟨rfl, rfl⟩
    exact ⟨_, rfl, OwnG.nil _ _ _ _, Below.refl _ _⟩
  · exact positions_some p m (by omega) hm2 hp w

theorem poss_take {p : Bs} {m : Int} (hm : 1 ≤ m) {i : Nat} (hi : i < 3) : (poss p m).take (i + 1) = (poss p m).take i ++ [pos1 p m i] := by
  have h : ¬ m < 1 := by omega
  match i, hi with
  | 0, _ => simp [poss, h]
  | 1, _ => simp [poss, h]
  | 2, _ => simp [poss, h]

set_option maxHeartbeats 800000 in
set_option maxRecDepth 100000 in
theorem rpositions_none (p : Bs) (m : Int) (hm : m < 1) (hp : p.length ≤ 9223372036854775807) (w : World) :
    Calls Try.prog 15 #[tx p, .int .i64 m] w fun e w' => ∃ v', e = .returned v' ∧ OwnG encI 3 w' w.heap.size v' [] ∧ Below w.heap.size w w' := by
  have hge : ¬ 1 ≤ m := by omega
  obtain ⟨W1, c1, hc1, B1, S1, R1, l1, l2⟩ := bytes_of w p
  have A1 : BAt W1 (.slice (some ⟨w.heap.size, 0, none⟩) p.length c1) p := R1.at l1 (l2 hp)
  have hid := rid_any 9 _ _ _ A1.xbytes
  have G : Hid (Below w.heap.size w W1) := B1
  clear B1 S1 R1 A1 l1 l2
  go_enter Try.func15, Try.ntmps15
  go_wp2_with fail
  refine hid.mono ?_
  rintro e w2 ⟨rfl, rfl⟩
  clear hid hc1
  go_wp2_with fail
  refine wp_loop_rounds 1 ?_
  rw [rounds_succ]
  go_wp2
  go_ret
  exact ⟨_, rfl, OwnG.nil _ _ _ _, G.out⟩

set_option maxHeartbeats 800000 in
set_option maxRecDepth 100000 in
theorem rpositions_some (p : Bs) (m : Int) (hm : 1 ≤ m) (hm2 : m ≤ 9223372036854775807) (hp : p.length ≤ 9223372036854775807) (w : World) :
    Calls Try.prog 15 #[tx p, .int .i64 m] w fun e w' => ∃ v', e = .returned v' ∧ OwnG encI 3 w' w.heap.size v' (poss p m) ∧ Below w.heap.size w w' := by
  obtain ⟨W1, c1, hc1, B1, S1, R1, l1, l2⟩ := bytes_of w p
  have A1 : BAt W1 (.slice (some ⟨w.heap.size, 0, none⟩) p.length c1) p := R1.at l1 (l2 hp)
  have hid := rid_any 9 _ _ _ A1.xbytes
  have G : Hid (Below w.heap.size w W1) := B1
  clear B1 S1 R1 A1 l1 l2
  go_enter Try.func15, Try.ntmps15
  go_wp2_with fail
  refine hid.mono ?_
  rintro e w2 ⟨rfl, rfl⟩
  have ID : Hid (idFold (idStep 14695981039346656037 (9 % 256)) (xints p) = pid p) := rfl
  obtain ⟨d, hd⟩ : ∃ d, idFold (idStep 14695981039346656037 (9 % 256)) (xints p) = d := ⟨_, rfl⟩
  rw [hd] at ID ⊢
  clear hid hd hc1
  go_wp2_with fail
  go_loopg [5, 7] 3 (fun k ov v wr => ∃ i : Nat, v = .int .i64 i ∧ i + k = 3 ∧ Hid (OwnG encI 3 wr w.heap.size ov ((poss p m).take i) ∧ Below w.heap.size w wr))
  case atStart => exact ⟨0, rfl, by omega, OwnG.nil _ _ _ _, G.out⟩
  case round =>
    obtain ⟨i, rfl, hi, HR⟩ := hrel
    by_cases hin : i < 3
    · have id : (i : Int) < 3 := by omega
      have hlen : ((poss p m).take i).length = i := by simp [poss_len hm]; omega
      have hsr := spread_range d i
      obtain ⟨sp, hsp⟩ : ∃ sp, spread d i = sp := ⟨_, rfl⟩
      have e1 : pos1 p m i = sp % m := by rw [pos1, ← ID.out, hsp]
      rw [hsp] at hsr
      have hw := pos_wrap sp hm hm2
      have hspc : ∀ w, Calls Try.prog 31 #[.int .u64 d, .int .i64 i] w fun e w' => e = .returned (.int .u64 sp) ∧ w' = w := fun w => by rw [← hsp]; exact rspread_any d i w
      have E1 : Hid (pos1 p m i = sp % m ∧ ((poss p m).take i).length = i) := ⟨e1, hlen⟩
      clear hsp e1 hlen
      go_wp2_with (first
        | (go_at_call 31; refine (hspc _).mono ?_; rintro e w' ⟨rfl, rfl⟩)
        | (at_builtin; refine appG_one encI 3 30 8 (.int .i64 0) rfl Try.info3 Try.underlying30 rfl (.tmp 19) (.tmp 27) rfl w.heap.size _ ((poss p m).take i) (sp % m) _ rfl HR.out.1 rfl (by rw [E1.out.2]; omega) (by rw [E1.out.2]; simp only [maxLen]; omega) HR.out.2.size _ rfl ?_; intro v4 w4 hown4 hbel4 _ _))
      go_roundg (gk - 1)
      case measure => omega
      case rel => exact ⟨i + 1, by go_num, by omega, by rw [poss_take hm hin, E1.out.1]; exact hown4, HR.out.2.trans hbel4⟩
    · obtain rfl : i = 3 := by omega
      have e : (poss p m).take 3 = poss p m := List.take_of_length_le (by rw [poss_len hm]; omega)
      rw [e] at HR
      go_wp2
      go_ret
      exact ⟨_, rfl, HR.out.1, HR.out.2⟩

/-- The reference's Positions. -/
theorem rpositions_any (p : Bs) (m : Int) (hm2 : m ≤ 9223372036854775807) (hp : p.length ≤ 9223372036854775807) (w : World) :
    Calls Try.prog 15 #[tx p, .int .i64 m] w fun e w' => ∃ v', e = .returned v' ∧ OwnG encI 3 w' w.heap.size v' (poss p m) ∧ Below w.heap.size w w' := by
  by_cases h : m < 1
  · rw [poss_none h]
    exact rpositions_none p m h hp w
  · exact rpositions_some p m (by omega) hm2 hp w

end Go.Proofs.Ytkoelofjgceohaa
