/-
  object.checkCommit and object.Commit, each by a contract over commits. No condition but that the lists and texts are no longer than any can be.
-/
import Derived.Test.YtadjcmekpcimjaaLists
import Derived.Test.YtadjcmekpcimjaaReader
namespace Go.Proofs.Ytadjcmekpcimjaa
open Go.RowKit

/-- Four cells in a block of their own. -/
def Box4 (w : World) (B : Nat) (t : TypeId) (x y z v : Value) : Prop := w.heap[B]? = some (.cells #[x, y, z, v] t (0, 0))
section
variable {w w' : World} {B : Nat} {t : TypeId} {x y z v : Value}
theorem Box4.lt (h : Box4 w B t x y z v) : B < w.heap.size := (Array.getElem?_eq_some_iff.1 h).1
theorem Box4.below {K : Nat} (h : Box4 w B t x y z v) (hb : Below K w w') (hK : B < K) : Box4 w' B t x y z v := (hb.block B hK).trans h
theorem Box4.turned {S : Nat → Prop} (h : Box4 w B t x y z v) (ht : Turned S w w') (hS : ¬ S B) : Box4 w' B t x y z v := (ht.block B h.lt hS).trans h
theorem Box4.cells (h : Box4 w B t x y z v) : w.cell? ⟨B, 0, none⟩ = some x ∧ w.cell? ⟨B, 1, none⟩ = some y ∧ w.cell? ⟨B, 2, none⟩ = some z ∧ w.cell? ⟨B, 3, none⟩ = some v := by
  unfold Box4 at h
  simp [World.cell?, h]
theorem Box4.thaw (h : Box4 w B t x y z v) : w.frozen? ⟨B, 0, none⟩ = false ∧ w.frozen? ⟨B, 1, none⟩ = false ∧ w.frozen? ⟨B, 2, none⟩ = false ∧ w.frozen? ⟨B, 3, none⟩ = false := by
  unfold Box4 at h
  simp [World.frozen?, h]
theorem Box4.new (w : World) (t : TypeId) (x y z v : Value) : Box4 (w.alloc (.cells #[x, y, z, v] t)) w.heap.size t x y z v := by
  unfold Box4 World.alloc
  simp
theorem Box4.put1 (h : Box4 w B t x y z v) (y' : Value) : Box4 (w.setCell ⟨B, 1, none⟩ y') B t x y' z v := by
  unfold Box4 at h ⊢
  simp [World.setCell, Array.getElem?_modify, h]
theorem Box4.put2 (h : Box4 w B t x y z v) (z' : Value) : Box4 (w.setCell ⟨B, 2, none⟩ z') B t x y z' v := by
  unfold Box4 at h ⊢
  simp [World.setCell, Array.getElem?_modify, h]
theorem Box4.put3 (h : Box4 w B t x y z v) (v' : Value) : Box4 (w.setCell ⟨B, 3, none⟩ v') B t x y z v' := by
  unfold Box4 at h ⊢
  simp [World.setCell, Array.getElem?_modify, h]
end

theorem nodup_step {xs : List UInt64} {i : Nat} {x : UInt64} (h : xs[i]? = some x) (hn : (xs.take i).Nodup) (hx : (xs.take i).any (fun y => x == y) = false) : (xs.take (i + 1)).Nodup := by
  rw [List.take_add_one, h]
  show (xs.take i ++ [x]).Nodup
  rw [List.nodup_append]
  refine ⟨hn, by simp, ?_⟩
  intro a ha b hb
  obtain rfl : b = x := by simpa using hb
  rw [List.any_eq_false] at hx
  have := hx a ha
  intro e
  subst e
  simp at this
theorem nodup_not {xs : List UInt64} {i : Nat} {x : UInt64} (h : xs[i]? = some x) (hx : (xs.take i).any (fun y => x == y) = true) : ¬ xs.Nodup := by
  intro hn
  obtain ⟨y, hy, e⟩ := List.any_eq_true.1 hx
  obtain rfl : x = y := by simpa using e
  have hs : (xs.take (i + 1)).Nodup := hn.sublist (List.take_sublist _ _)
  rw [List.take_add_one, h] at hs
  have hs' : (xs.take i ++ [x]).Nodup := hs
  rw [List.nodup_append] at hs'
  exact hs'.2.2 x hy x (by simp) rfl

section
variable {w : World} {c : Cm} {pa : Option Addr} {pn pc : Nat}

set_option maxHeartbeats 1600000 in
set_option maxRecDepth 100000 in
/-- object.checkCommit. -/
theorem ccom_any (hr : RdG encU w pa c.ps) (hl : c.ps.length = pn) (hpc : pn ≤ pc) (nt : ByteArray) (hnt : nt = ⟨c.note.toArray⟩) (dt : Int) (hdt : c.date = dt) (tr : Int) :
    Calls Try.prog 31 #[.agg #[.int .u64 tr, .slice pa pn pc, .int .i64 dt, .string nt]] w fun e w' => e = .returned (.int .i64 (ccom c)) ∧ Below w.heap.size w w' := by
  have hnl : nt.size = c.note.length := by rw [hnt]; show c.note.toArray.size = _; simp
  by_cases h8 : 8 < pn
  · have q : (8 : Int) < (pn : Int) := by omega
    have e : ccom c = 4 := by unfold ccom; rw [if_pos (by omega)]
    rw [e]
    clear hr hl hnt hnl e hpc hdt
    go_enter Try.func31, Try.ntmps31
    go_wp2
    go_ret
    exact ⟨rfl, bz1 _ _⟩
  have q : decide ((8 : Int) < (pn : Int)) = false := by rw [decide_eq_false_iff_not]; omega
  by_cases h64 : 64 < nt.size
  · have q2 : (64 : Int) < (nt.size : Int) := by omega
    have e : ccom c = 4 := by unfold ccom; rw [if_pos (by omega)]
    rw [e]
    clear hr hl hnt hnl e hpc hdt
    go_enter Try.func31, Try.ntmps31
    go_wp2
    go_ret
    exact ⟨rfl, bz1 _ _⟩
  have q2 : decide ((64 : Int) < (nt.size : Int)) = false := by rw [decide_eq_false_iff_not]; omega
  have h4 : ¬ (8 < c.ps.length ∨ 64 < c.note.length) := by omega
  obtain ⟨W, hW⟩ : ∃ W, w.alloc (.cells #[.int .u64 tr, .slice pa pn pc, .int .i64 dt, .string nt] 44) = W := ⟨_, rfl⟩
  have bW : Below w.heap.size w W := by rw [← hW]; exact bz1 _ _
  have bx : Box4 W w.heap.size 44 (.int .u64 tr) (.slice pa pn pc) (.int .i64 dt) (.string nt) := by rw [← hW]; exact Box4.new _ _ _ _ _ _
  obtain ⟨x0, x1, x2, x3⟩ := bx.cells
  have H : Hid (RdG encU W pa c.ps ∧ c.ps.length = pn ∧ pn ≤ pc ∧ Below w.heap.size w W ∧ ¬ (8 < c.ps.length ∨ 64 < c.note.length) ∧ c.date = dt) := ⟨hr.below bW, hl, hpc, bW, h4, hdt⟩
  clear hr hl hnt hnl hpc bW bx h4 hdt
  go_enter Try.func31, Try.ntmps31
  go_wp2_with fail
  go_loopg [18] pn (fun m iv wr => ∃ i : Nat, iv = .int .i64 i ∧ i + m = pn ∧ wr = W ∧ Hid ((c.ps.take i).Nodup))
  case atStart => exact ⟨0, rfl, by omega, rfl, by simp [Hid]⟩
  case round =>
    obtain ⟨i, rfl, hi, rfl, HR⟩ := hrel
    by_cases hin : i < pn
    · have id : (i : Int) < (pn : Int) := by omega
      have id0 : (0 : Int) ≤ (i : Int) := by omega
      obtain ⟨x, hx⟩ := get_some H.out.2.1 hin
      obtain ⟨b, off, rfl, hlt⟩ := H.out.1.some_of hx
      obtain ⟨_, c0⟩ := H.out.1.nums hx
      obtain ⟨a3, c3, s3, o3, _, r3⟩ := sliceG_h encU 37 42 8 _ Try.info37 Try.underlying42 (by kernel_rfl) (ao := some ⟨b, off, none⟩) (k := i) H.out.2.2.1 (by omega)
      obtain ⟨f, hf⟩ : ∃ f, (c.ps.take i).any (fun y => x == y) = f := ⟨_, rfl⟩
      have hc := contains_num (n := i) (c := c3) x wr (r3 wr _ H.out.1) (by rw [List.length_take, H.out.2.1]; omega) (by omega) f hf
      have HX : Hid (c.ps[i]? = some x ∧ (c.ps.take i).any (fun y => x == y) = f) := ⟨hx, hf⟩
      clear hx hf r3 o3
      cases f with
      | true =>
        have hct : ccom c = 6 := by
          unfold ccom
          rw [if_neg H.out.2.2.2.2.1, if_pos (nodup_not HX.out.1 HX.out.2)]
        go_wp2_with fail
        refine hc.mono ?_
        rintro e w2 ⟨rfl, hw2⟩
        rw [hw2]
        go_wp2
        go_ret
        exact ⟨by first | rfl | (rw [hct]; rfl), H.out.2.2.2.1⟩
      | false =>
        go_wp2_with fail
        refine hc.mono ?_
        rintro e w2 ⟨rfl, hw2⟩
        rw [hw2]
        go_wp2
        go_roundg (gk - 1)
        case measure => omega
        case rel => exact ⟨i + 1, by go_num, by omega, rfl, nodup_step HX.out.1 HR.out HX.out.2⟩
    · obtain rfl : i = pn := by omega
      have hnd := HR.out
      rw [List.take_of_length_le (by rw [H.out.2.1]; omega)] at hnd
      by_cases hd : dt < 0
      · have d1 : decide (dt < 0) = true := by simpa using hd
        have hct : ccom c = 3 := by
          unfold ccom
          rw [if_neg H.out.2.2.2.2.1, if_neg (by simpa using hnd), if_pos (by rw [H.out.2.2.2.2.2]; exact .inl hd)]
        clear hnd
        go_wp2
        go_ret
        exact ⟨by first | rfl | (rw [hct]; rfl), H.out.2.2.2.1⟩
      · have d1 : decide (dt < 0) = false := by simpa using hd
        by_cases hd2 : 1099511627776 < dt
        · have d2 : decide (1099511627776 < dt) = true := by simpa using hd2
          have hct : ccom c = 3 := by
            unfold ccom
            rw [if_neg H.out.2.2.2.2.1, if_neg (by simpa using hnd), if_pos (by rw [H.out.2.2.2.2.2]; exact .inr hd2)]
          clear hnd
          go_wp2
          go_ret
          exact ⟨by first | rfl | (rw [hct]; rfl), H.out.2.2.2.1⟩
        · have d2 : decide (1099511627776 < dt) = false := by simpa using hd2
          have hct : ccom c = 0 := by
            unfold ccom
            rw [if_neg H.out.2.2.2.2.1, if_neg (by simpa using hnd), if_neg (by rw [H.out.2.2.2.2.2]; omega)]
          clear hnd
          go_wp2
          go_ret
          exact ⟨by first | rfl | (rw [hct]; rfl), H.out.2.2.2.1⟩

theorem low_dw {d : Int} (h0 : 0 ≤ d) : low 8 d.toNat = b8 (dw d) := by
  unfold b8
  have key : ∀ k a b, a % 256 ^ k = b % 256 ^ k → low k a = low k b := by
    intro k a b h
    have h1 := low_val (low k a)
    have h2 := low_val (low k b)
    rw [low_len, val_low] at h1 h2
    rw [← h1, ← h2, h]
  apply key
  have := dw_toNat d
  have e : 256 ^ 8 = 18446744073709551616 := by decide
  omega

set_option maxHeartbeats 1600000 in
set_option maxRecDepth 100000 in
theorem com_err (hr : RdG encU w pa c.ps) (hl : c.ps.length = pn) (hpc : pn ≤ pc) (nt : ByteArray) (hnt : nt = ⟨c.note.toArray⟩) (dt : Int) (hdt : c.date = dt) (tr : Int) (ce : Int) (h : ccom c = ce) (h0 : ce ≠ 0) :
    Calls Try.prog 14 #[.agg #[.int .u64 tr, .slice pa pn pc, .int .i64 dt, .string nt]] w fun e w' => e = .returned (.tuple #[.slice none 0 0, .int .i64 ce]) ∧ Below w.heap.size w w' := by
  obtain ⟨W, hW⟩ : ∃ W, w.alloc (.cells #[.int .u64 tr, .slice pa pn pc, .int .i64 dt, .string nt] 44) = W := ⟨_, rfl⟩
  have bW : Below w.heap.size w W := by rw [← hW]; exact bz1 _ _
  have bx : Box4 W w.heap.size 44 (.int .u64 tr) (.slice pa pn pc) (.int .i64 dt) (.string nt) := by rw [← hW]; exact Box4.new _ _ _ _ _ _
  obtain ⟨x0, x1, x2, x3⟩ := bx.cells
  have hct := ccom_any (hr.below bW) hl hpc nt hnt dt hdt tr
  rw [h] at hct
  have m0 : (ce == 0) = false := by simpa using h0
  have m1 : (ce != 0) = true := by simpa using h0
  have H : Hid (Below w.heap.size w W) := bW
  clear hr hl hpc hnt hdt h h0 bW bx
  go_enter Try.func14, Try.ntmps14
  go_wp2_with fail
  refine hct.mono ?_
  rintro e w1 ⟨rfl, hb⟩
  go_wp2
  refine bodyPost_ret (results_tmp2 rfl _ _ _) rfl ?_
  exact ⟨rfl, H.out.trans (hb.mono H.out.size)⟩

set_option maxHeartbeats 3200000 in
set_option maxRecDepth 100000 in
theorem com_ok (hr : RdG encU w pa c.ps) (hl : c.ps.length = pn) (hpc : pn ≤ pc) (nt : ByteArray) (hnt : nt = ⟨c.note.toArray⟩) (dt : Int) (hdt : c.date = dt) (h : ccom c = 0) :
    Calls Try.prog 14 #[.agg #[.int .u64 (c.tree.toNat : Int), .slice pa pn pc, .int .i64 dt, .string nt]] w fun e w' => ∃ v, e = .returned (.tuple #[v, .int .i64 0]) ∧ Hid (OwnG encB 5 w' w.heap.size v (comB c) ∧ Below w.heap.size w w') := by
  obtain ⟨W, hW⟩ : ∃ W, w.alloc (.cells #[.int .u64 (c.tree.toNat : Int), .slice pa pn pc, .int .i64 dt, .string nt] 44) = W := ⟨_, rfl⟩
  have bW : Below w.heap.size w W := by rw [← hW]; exact bz1 _ _
  have sW : W.heap.size = w.heap.size + 1 := by rw [← hW]; simp
  have bx : Box4 W w.heap.size 44 (.int .u64 (c.tree.toNat : Int)) (.slice pa pn pc) (.int .i64 dt) (.string nt) := by rw [← hW]; exact Box4.new _ _ _ _ _ _
  obtain ⟨x0, x1, x2, x3⟩ := bx.cells
  have hct := ccom_any (hr.below bW) hl hpc nt hnt dt hdt (c.tree.toNat : Int)
  rw [h] at hct
  obtain ⟨g1, g2, _, g4, g5⟩ := ccom_ok h
  rw [hdt] at g4 g5
  have hpn : pn ≤ 8 := by omega
  have hww : IntKind.u64.wrap dt = (dt.toNat : Int) := by rw [IntKind.wrap_u64]; omega
  obtain ⟨y, hy⟩ : ∃ y : UInt8, UInt8.ofNat pn = y := ⟨_, rfl⟩
  have HY : Hid ((y.toNat : Int) = (pn : Int)) := by show _ = _; rw [← hy, UInt8.toNat_ofNat']; omega
  obtain ⟨dn, hdn⟩ : ∃ dn, dt.toNat = dn := ⟨_, rfl⟩
  rw [hdn] at hww
  have hld : low 8 dn = b8 (dw c.date) := by rw [← hdn, hdt]; exact low_dw g4
  have H : Hid (Below w.heap.size w W ∧ W.heap.size = w.heap.size + 1 ∧ Box4 W w.heap.size 44 (.int .u64 (c.tree.toNat : Int)) (.slice pa pn pc) (.int .i64 dt) (.string nt) ∧ RdG encU W pa c.ps ∧ c.ps.length = pn ∧ UInt8.ofNat pn = y ∧ low 8 dn = b8 (dw c.date) ∧ nt = ⟨c.note.toArray⟩ ∧ c.note.length ≤ 64) := ⟨bW, sW, bx, hr.below bW, hl, hy, hld, hnt, g2⟩
  clear hr hl hpc hnt hdt h bW bx sW hy hld hdn g1 g2 g4 g5
  go_enter Try.func14, Try.ntmps14
  go_wp2_with fail
  refine hct.mono ?_
  rintro e w1 ⟨rfl, hb1⟩
  have B1 : Hid (Below W.heap.size W w1) := hb1
  clear hb1 hct x0 x1 x2 x3
  obtain ⟨x0, x1, x2, x3⟩ := (H.out.2.2.1.below B1.out (by have := H.out.2.1; omega)).cells
  have h1 := appNum_any c.tree.toNat (OwnG.nil encB 5 w1 W.heap.size) B1.out.size (by simp)
  rw [List.nil_append] at h1
  go_wp2_with fail
  refine h1.mono ?_
  rintro e w2 ⟨v2, rfl, J2⟩
  have B2 : Hid (Below W.heap.size W w2) := B1.out.trans J2.out.2.1
  clear h1 x0 x1 x2 x3
  obtain ⟨x0, x1, x2, x3⟩ := (H.out.2.2.1.below B2.out (by have := H.out.2.1; omega)).cells
  have h64 : (low 8 c.tree.toNat).length = 8 := low_len _ _
  go_wp2_with (at_builtin; refine appG_one encB 5 23 1 (.int .u8 0) rfl Try.info5 Try.underlying23 rfl (.tmp 16) (.tmp 21) rfl W.heap.size _ _ y _ rfl J2.out.1 rfl (by rw [h64]; omega) (by rw [h64]; simp only [maxLen]; omega) B2.out.size _ (by show _ = #[Value.int .u8 (y.toNat : Int)]; rw [HY.out]) ?_; intro v3 w3 ho3 hb3 _ _; have B3 : Hid (Below W.heap.size W w3 ∧ OwnG encB 5 w3 W.heap.size v3 (low 8 c.tree.toNat ++ [y])) := ⟨B2.out.trans hb3, ho3⟩; clear ho3 hb3 x0 x1 x2 x3; have x4 := (H.out.2.2.1.below B3.out.1 (by have := H.out.2.1; omega)).cells; obtain ⟨x0, x1, x2, x3⟩ := x4)
  go_loopg [5, 26] pn (fun m bv iv wr => ∃ i : Nat, iv = .int .i64 i ∧ i + m = pn ∧ Hid (OwnG encB 5 wr W.heap.size bv (low 8 c.tree.toNat ++ [y] ++ psB (c.ps.take i)) ∧ Below W.heap.size W wr))
  case atStart => exact ⟨0, rfl, by omega, by simpa [psB] using B3.out.2, B3.out.1⟩
  case round =>
    obtain ⟨i, rfl, hi, HR⟩ := hrel
    by_cases hin : i < pn
    · have id : (i : Int) < (pn : Int) := by omega
      obtain ⟨x, hx⟩ := get_some H.out.2.2.2.2.1 hin
      obtain ⟨b, off, rfl, hlt⟩ := H.out.2.2.2.1.some_of hx
      obtain ⟨_, c0⟩ := (H.out.2.2.2.1.below HR.out.2).nums hx
      have hps : psB (c.ps.take (i + 1)) = psB (c.ps.take i) ++ b8 x := by rw [List.take_add_one, hx]; exact psB_snoc _ _
      have hln : (low 8 c.tree.toNat ++ [y] ++ psB (c.ps.take i)).length ≤ 1000 := by
        rw [List.length_append, List.length_append, h64, psB_len, List.length_take]
        simp
        omega
      have ha := appNum_any x.toNat HR.out.1 HR.out.2.size (by omega)
      have HP : Hid (psB (c.ps.take (i + 1)) = psB (c.ps.take i) ++ b8 x) := hps
      clear hps hln hx
      go_wp2_with fail
      refine ha.mono ?_
      rintro e w4 ⟨v4, rfl, J4⟩
      clear ha
      go_wp2
      go_roundg (gk - 1)
      case measure => omega
      case rel => exact ⟨i + 1, by go_num, by omega, by rw [HP.out, ← List.append_assoc]; exact J4.out.1, HR.out.2.trans J4.out.2.1⟩
    · obtain rfl : i = pn := by omega
      have htk : c.ps.take i = c.ps := List.take_of_length_le (by have := H.out.2.2.2.2.1; omega)
      have HQ : Hid (OwnG encB 5 wr W.heap.size u5 (low 8 c.tree.toNat ++ [y] ++ psB c.ps) ∧ Below W.heap.size W wr) := by
        have := HR.out
        rw [htk] at this
        exact this
      have hln : (low 8 c.tree.toNat ++ [y] ++ psB c.ps).length ≤ 1000 := by
        rw [List.length_append, List.length_append, h64, psB_len]
        have := H.out.2.2.2.2.1
        simp
        omega
      have ha := appNum_any dn HQ.out.1 HQ.out.2.size (by omega)
      clear x0 x1 x2 x3
      obtain ⟨x0, x1, x2, x3⟩ := (H.out.2.2.1.below HQ.out.2 (by have := H.out.2.1; omega)).cells
      clear htk HR
      go_wp2_with fail
      refine ha.mono ?_
      rintro e w5 ⟨v5, rfl, J5⟩
      have B5 : Hid (Below W.heap.size W w5) := HQ.out.2.trans J5.out.2.1
      clear ha x0 x1 x2 x3
      obtain ⟨x0, x1, x2, x3⟩ := (H.out.2.2.1.below B5.out (by have := H.out.2.1; omega)).cells
      have hb' := appText_any c.note (by have := H.out.2.2.2.2.2.2.2.2; omega) J5.out.1 B5.out.size (by rw [List.length_append, low_len]; omega)
      rw [show tx c.note = .string nt by rw [H.out.2.2.2.2.2.2.2.1]] at hb'
      go_wp2_with fail
      refine hb'.mono ?_
      rintro e w6 ⟨v6, rfl, J6⟩
      have B6 : Hid (Below W.heap.size W w6) := B5.out.trans J6.out.2.1
      clear hb' x0 x1 x2 x3
      go_wp2
      refine bodyPost_ret (results_tmp2 rfl _ _ _) rfl ?_
      have ec : low 8 c.tree.toNat ++ [y] ++ psB c.ps ++ low 8 dn ++ UInt8.ofNat c.note.length :: c.note = comB c := by
        unfold comB
        rw [H.out.2.2.2.2.2.2.1, H.out.2.2.2.2.1, H.out.2.2.2.2.2.1]
        simp [b8]
      refine ⟨_, rfl, ?_, H.out.1.trans (B6.out.mono H.out.1.size)⟩
      rw [← ec]
      exact J6.out.1.low H.out.1.size

/-- object.Commit. -/
theorem com_any (hr : RdG encU w pa c.ps) (hl : c.ps.length = pn) (hpc : pn ≤ pc) (nt : ByteArray) (hnt : nt = ⟨c.note.toArray⟩) (dt : Int) (hdt : c.date = dt) :
    Calls Try.prog 14 #[.agg #[.int .u64 (c.tree.toNat : Int), .slice pa pn pc, .int .i64 dt, .string nt]] w fun e w' => ∃ v, e = .returned (.tuple #[v, .int .i64 (fcom c).2]) ∧ Hid (OwnG encB 5 w' w.heap.size v (fcom c).1 ∧ Below w.heap.size w w') := by
  unfold fcom
  by_cases h : ccom c = 0
  · rw [if_pos h]
    exact com_ok hr hl hpc nt hnt dt hdt h
  · rw [if_neg h]
    refine (com_err hr hl hpc nt hnt dt hdt _ _ rfl h).mono ?_
    rintro e w' ⟨rfl, hb⟩
    exact ⟨_, rfl, OwnG.nil _ _ _ _, hb⟩
end

end Go.Proofs.Ytadjcmekpcimjaa
