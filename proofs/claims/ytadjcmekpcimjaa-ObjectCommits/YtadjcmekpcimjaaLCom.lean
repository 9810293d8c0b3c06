/-
  The statements' Commit (a commit as the reference has it) and the reference's SameCommit, each by a contract. No condition but that the lists are no longer than any can be.
-/
import Derived.Test.YtadjcmekpcimjaaCom
namespace Go.Proofs.Ytadjcmekpcimjaa
open Go.RowKit

theorem three_boxes (w : World) (x y z v x' y' z' v' x'' y'' z'' v'' : Value) (t t' t'' : TypeId) :
    Box4 (((w.alloc (.cells #[x, y, z, v] t)).alloc (.cells #[x', y', z', v'] t')).alloc (.cells #[x'', y'', z'', v''] t'')) w.heap.size t x y z v ∧
    Box4 (((w.alloc (.cells #[x, y, z, v] t)).alloc (.cells #[x', y', z', v'] t')).alloc (.cells #[x'', y'', z'', v''] t'')) (w.heap.size + 1) t' x' y' z' v' ∧
    Box4 (((w.alloc (.cells #[x, y, z, v] t)).alloc (.cells #[x', y', z', v'] t')).alloc (.cells #[x'', y'', z'', v''] t'')) (w.heap.size + 2) t'' x'' y'' z'' v'' := by
  have s1 : (w.alloc (.cells #[x, y, z, v] t)).heap.size = w.heap.size + 1 := by simp
  have s2 : ((w.alloc (.cells #[x, y, z, v] t)).alloc (.cells #[x', y', z', v'] t')).heap.size = w.heap.size + 2 := by simp
  refine ⟨?_, ?_, ?_⟩
  · have h := Box4.new w t x y z v
    exact (h.below (bz1 _ (.cells #[x', y', z', v'] t')) (by rw [s1]; omega)).below (bz1 _ (.cells #[x'', y'', z'', v''] t'')) (by rw [s2]; omega)
  · have h := Box4.new (w.alloc (.cells #[x, y, z, v] t)) t' x' y' z' v'
    rw [s1] at h
    exact h.below (bz1 _ (.cells #[x'', y'', z'', v''] t'')) (by rw [s2]; omega)
  · have h := Box4.new ((w.alloc (.cells #[x, y, z, v] t)).alloc (.cells #[x', y', z', v'] t')) t'' x'' y'' z'' v''
    rw [s2] at h
    exact h

theorem OwnG.rdc {α : Type} {E : Enc α} {e : TypeId} {w : World} {base n cap : Nat} {ao : Option Addr} {xs : List α} (h : OwnG E e w base (.slice ao n cap) xs) : RdG E w ao xs ∧ n ≤ cap := by
  have hn : xs.length = n := own_len h
  obtain ⟨a, c, q, h1, _, r, _⟩ := OwnG.form h
  rw [hn] at q h1
  cases q
  exact ⟨r, h1⟩
theorem lay_four (w : World) (Q : Nat) (a b c d : Value) : Turned (fun i => i = Q) w ((((w.setCell ⟨Q, 0, none⟩ a).setCell ⟨Q, 1, none⟩ b).setCell ⟨Q, 2, none⟩ c).setCell ⟨Q, 3, none⟩ d) :=
  ((((Turned.refl (fun i => i = Q) w).setCell (p := ⟨Q, 0, none⟩) (.inl (show Q = Q from rfl)) a).setCell (p := ⟨Q, 1, none⟩) (.inl (show Q = Q from rfl)) b).setCell (p := ⟨Q, 2, none⟩) (.inl (show Q = Q from rfl)) c).setCell (p := ⟨Q, 3, none⟩) (.inl (show Q = Q from rfl)) d

theorem bz3 (u : World) (o1 o2 o3 : Obj) : Below u.heap.size u (((u.alloc o1).alloc o2).alloc o3) := (bz2 u o1 o2).trans ((bz1 _ o3).mono (bz2 u o1 o2).size)

set_option maxHeartbeats 3200000 in
set_option maxRecDepth 100000 in
/-- The statements' Commit. -/
theorem toRef_any {w : World} {pa : Option Addr} {pn pc : Nat} {xs : List UInt64} (hr : RdG encU w pa xs) (hl : xs.length = pn) (hn : pn * 8 ≤ 140737488355328) (nt : ByteArray) (dt tr : Int) :
    Calls Try.prog 16 #[.agg #[.int .u64 tr, .slice pa pn pc, .int .i64 dt, .string nt]] w fun e w' => ∃ qa qc, e = .returned (.agg #[.int .u64 tr, .slice qa pn qc, .int .i64 dt, .string nt]) ∧ Hid (RdG encU w' qa xs ∧ pn ≤ qc ∧ Below w.heap.size w w') := by
  have H : Hid (RdG encU w pa xs ∧ xs.length = pn) := ⟨hr, hl⟩
  clear hr hl
  go_enter Try.func16, Try.ntmps16
  go_wp2_with fail
  go_loopg [4] pn (fun m iv wr => ∃ (i : Nat) (qa : Option Addr) (qc : Nat), iv = .int .i64 i ∧ i + m = pn ∧ Hid (Box4 wr w.heap.size 44 (.int .u64 tr) (.slice pa pn pc) (.int .i64 dt) (.string nt) ∧ Box4 wr (w.heap.size + 1) 49 (.int .u64 0) (.slice none 0 0) (.int .i64 0) (.string ⟨#[]⟩) ∧ Box4 wr (w.heap.size + 1 + 1) 49 (.int .u64 tr) (.slice qa i qc) (.int .i64 dt) (.string nt) ∧ OwnG encU 36 wr (w.heap.size + 3) (.slice qa i qc) (xs.take i) ∧ Below w.heap.size w wr))
  case atStart =>
    have hb := three_boxes w (.int .u64 tr) (.slice pa pn pc) (.int .i64 dt) (.string nt) (.int .u64 0) (.slice none 0 0) (.int .i64 0) (.string ⟨#[]⟩) (.int .u64 tr) (.slice none 0 0) (.int .i64 dt) (.string nt) 44 49 49
    exact ⟨0, none, 0, rfl, by omega, hb.1, hb.2.1, hb.2.2, OwnG.nil _ _ _ _, bz3 _ _ _ _⟩
  case round =>
    obtain ⟨i, qa, qc, rfl, hi, HR⟩ := hrel
    obtain ⟨x0, x1, x2, x3⟩ := HR.out.1.cells
    by_cases hin : i < pn
    · have id : (i : Int) < (pn : Int) := by omega
      have id0 : (0 : Int) ≤ (i : Int) := by omega
      obtain ⟨x, hx⟩ := get_some H.out.2 hin
      obtain ⟨b, off, rfl, hlt⟩ := H.out.1.some_of hx
      obtain ⟨hbw, c0⟩ := (H.out.1.below HR.out.2.2.2.2).nums hx
      obtain ⟨y0, y1, y2, y3⟩ := HR.out.2.2.1.cells
      obtain ⟨f0, f1, f2, f3⟩ := HR.out.2.2.1.thaw
      have hs3 : w.heap.size + 1 + 1 < wr.heap.size := HR.out.2.2.1.lt
      have hll : (xs.take i).length = i := by rw [List.length_take, H.out.2]; omega
      have htk : xs.take (i + 1) = xs.take i ++ [x] := by rw [List.take_add_one, hx]; rfl
      have HX : Hid (xs.take (i + 1) = xs.take i ++ [x] ∧ (xs.take i).length = i ∧ (xs.take i ++ [x]).length = i + 1) := ⟨htk, hll, by rw [List.length_append, hll]; rfl⟩
      clear hx htk hll
      go_wp2_with fail
      go_region_law (refine stepG_at encU 36 47 8 _ rfl Try.info36 Try.underlying47 rfl (.tmp 20) (.tmp 26) rfl (w.heap.size + 3) _ (xs.take i) x rfl (HR.out.2.2.2.1.below ((Below.refl _ wr).drew.trans (bz1 wr.drew _))) wr.heap.size rfl (cells_new encU wr.drew x 36) (by rw [HX.out.2.1]; omega) (by rw [HX.out.2.1]; simp only [maxLen]; omega) (by simp; omega) ?_; intro v4 w4 ho4 hb4 hm4 ht4; obtain ⟨a4, c4, e4, _, _, _, _⟩ := OwnG.form ho4; rw [HX.out.2.2] at e4; subst e4; have J4 : Hid (OwnG encU 36 w4 (w.heap.size + 3) (.slice a4 (i + 1) c4) (xs.take i ++ [x]) ∧ Below (w.heap.size + 3) wr w4) := ⟨ho4, ((bz1 wr _).drew.mono (by omega)).trans hb4⟩; have z4 := (HR.out.2.2.1.below J4.out.2 (by omega)).cells; have g4 := (HR.out.2.2.1.below J4.out.2 (by omega)).thaw; obtain ⟨z0, z1, z2, z3⟩ := z4; obtain ⟨g0, g1, g2, g3⟩ := g4; clear ho4 hb4 hm4 ht4)
      all_goals
        have HO : Hid ((∀ S : World, S = w4.setCell ⟨w.heap.size + 1 + 1, 1, none⟩ (.slice a4 (i + 1) c4) → Box4 S w.heap.size 44 (.int .u64 tr) (.slice (some ⟨b, off, none⟩) pn pc) (.int .i64 dt) (.string nt) ∧ Box4 S (w.heap.size + 1) 49 (.int .u64 0) (.slice none 0 0) (.int .i64 0) (.string ⟨#[]⟩) ∧ Box4 S (w.heap.size + 1 + 1) 49 (.int .u64 tr) (.slice a4 (i + 1) c4) (.int .i64 dt) (.string nt) ∧ OwnG encU 36 S (w.heap.size + 3) (.slice a4 (i + 1) c4) (xs.take (i + 1)) ∧ Below w.heap.size w S)) := by
          rintro S rfl
          have ht : Turned (fun k => k = w.heap.size + 1 + 1) w4 (w4.setCell ⟨w.heap.size + 1 + 1, 1, none⟩ (.slice a4 (i + 1) c4)) := turned_set 1 _
          have hs4 := J4.out.2.size
          refine ⟨(HR.out.1.below J4.out.2 (by omega)).turned ht (by omega), (HR.out.2.1.below J4.out.2 (by omega)).turned ht (by omega), (HR.out.2.2.1.below J4.out.2 (by omega)).put1 _, ?_, ?_⟩
          · rw [HX.out.1]
            exact J4.out.1.stays ht (fun g hg q => by have := (J4.out.1.lt g hg).1; have q' : g = w.heap.size + 1 + 1 := q; omega)
          · have b1 : Below w.heap.size w w4 := HR.out.2.2.2.2.trans (J4.out.2.mono (by omega))
            exact b1.trans (ht.below b1.size (fun k hk q => by have q' : k = w.heap.size + 1 + 1 := q; omega))
        go_wp2
        go_roundg (gk - 1)
        case measure => omega
        case rel => exact ⟨i + 1, a4, c4, by go_num, by omega, HO.out _ rfl⟩
    · obtain rfl : i = pn := by omega
      obtain ⟨y0, y1, y2, y3⟩ := HR.out.2.2.1.cells
      obtain ⟨z0, z1, z2, z3⟩ := HR.out.2.1.cells
      obtain ⟨f0, f1, f2, f3⟩ := HR.out.2.1.thaw
      have htk : xs.take i = xs := List.take_of_length_le (by rw [H.out.2]; omega)
      have HH : Hid (OwnG encU 36 wr (w.heap.size + 3) (.slice qa i qc) xs) := by
        have := HR.out.2.2.2.1
        rw [htk] at this
        exact this
      clear htk
      go_wp2
      refine bodyPost_ret (v := .agg #[.int .u64 tr, .slice qa i qc, .int .i64 dt, .string nt]) ?_ rfl ?_
      · simp [results, Try.f16]
        go_simp
      · have ht := lay_four wr (w.heap.size + 1) (.int .u64 tr) (.slice qa i qc) (.int .i64 dt) (.string nt)
        have o := HH.out.stays ht (fun g hg q => by have := (HH.out.lt g hg).1; have q' : g = w.heap.size + 1 := q; omega)
        obtain ⟨r, hc⟩ := o.rdc
        exact ⟨qa, qc, rfl, r, hc, HR.out.2.2.2.2.trans (ht.below HR.out.2.2.2.2.size (fun k hk q => by have q' : k = w.heap.size + 1 := q; omega))⟩

set_option maxHeartbeats 3200000 in
set_option maxRecDepth 100000 in
/-- The reference's SameCommit, of two alike commits. -/
theorem sameCom_any {w : World} {pa qa : Option Addr} {pn pc qc : Nat} {xs : List UInt64} (hr : RdG encU w pa xs) (hr2 : RdG encU w qa xs) (hl : xs.length = pn) (hn : pn ≤ 4000000000000000000) (nt : ByteArray) (dt tr : Int) :
    Calls Try.prog 19 #[.agg #[.int .u64 tr, .slice pa pn pc, .int .i64 dt, .string nt], .agg #[.int .u64 tr, .slice qa pn qc, .int .i64 dt, .string nt]] w fun e w' => e = .returned (.bool true) ∧ Below w.heap.size w w' := by
  obtain ⟨W, hW⟩ : ∃ W, (w.alloc (.cells #[.int .u64 tr, .slice pa pn pc, .int .i64 dt, .string nt] 49)).alloc (.cells #[.int .u64 tr, .slice qa pn qc, .int .i64 dt, .string nt] 49) = W := ⟨_, rfl⟩
  have bW : Below w.heap.size w W := by rw [← hW]; exact bz2 _ _ _
  have s1 : (w.alloc (.cells #[.int .u64 tr, .slice pa pn pc, .int .i64 dt, .string nt] 49)).heap.size = w.heap.size + 1 := by simp
  have bx : Box4 W w.heap.size 49 (.int .u64 tr) (.slice pa pn pc) (.int .i64 dt) (.string nt) := by
    rw [← hW]
    exact (Box4.new _ _ _ _ _ _).below (bz1 _ _) (by rw [s1]; omega)
  have by_ : Box4 W (w.heap.size + 1) 49 (.int .u64 tr) (.slice qa pn qc) (.int .i64 dt) (.string nt) := by
    have := Box4.new (w.alloc (.cells #[.int .u64 tr, .slice pa pn pc, .int .i64 dt, .string nt] 49)) 49 (.int .u64 tr) (.slice qa pn qc) (.int .i64 dt) (.string nt)
    rw [s1, hW] at this
    exact this
  have H : Hid (RdG encU W pa xs ∧ RdG encU W qa xs ∧ xs.length = pn ∧ Below w.heap.size w W ∧ Box4 W w.heap.size 49 (.int .u64 tr) (.slice pa pn pc) (.int .i64 dt) (.string nt) ∧ Box4 W (w.heap.size + 1) 49 (.int .u64 tr) (.slice qa pn qc) (.int .i64 dt) (.string nt)) := ⟨hr.below bW, hr2.below bW, hl, bW, bx, by_⟩
  obtain ⟨x0, x1, x2, x3⟩ := bx.cells
  obtain ⟨y0, y1, y2, y3⟩ := by_.cells
  clear hr hr2 hl bx by_ bW s1
  go_enter Try.func19, Try.ntmps19
  go_wp2_with fail
  go_loopg [5] pn (fun m iv wr => ∃ i : Nat, iv = .int .i64 i ∧ i + m = pn ∧ Hid (Below W.heap.size W wr))
  case atStart => exact ⟨0, rfl, by omega, Below.refl _ _⟩
  case round =>
    obtain ⟨i, rfl, hi, HR⟩ := hrel
    have hs := H.out.2.2.2.2.2.lt
    clear x0 x1 x2 x3 y0 y1 y2 y3
    obtain ⟨x0, x1, x2, x3⟩ := (H.out.2.2.2.2.1.below HR.out (by omega)).cells
    obtain ⟨y0, y1, y2, y3⟩ := (H.out.2.2.2.2.2.below HR.out (by omega)).cells
    by_cases hin : i < pn
    · have id : (i : Int) < (pn : Int) := by omega
      have id0 : (0 : Int) ≤ (i : Int) := by omega
      obtain ⟨x, hx⟩ := get_some H.out.2.2.1 hin
      obtain ⟨b, off, rfl, hlt⟩ := H.out.1.some_of hx
      obtain ⟨b2, off2, rfl, hlt2⟩ := H.out.2.1.some_of hx
      obtain ⟨hbw, c0⟩ := (H.out.1.below HR.out).nums hx
      obtain ⟨hbw2, c1⟩ := (H.out.2.1.below HR.out).nums hx
      clear hx
      go_wp2_with fail
      go_quiet (fail)
      go_wp2
      go_roundg (gk - 1)
      case measure => omega
      case rel => exact ⟨i + 1, by go_num, by omega, HR.out.trans ((below_drewN _ _).mono HR.out.size)⟩
    · obtain rfl : i = pn := by omega
      go_wp2
      go_ret
      exact ⟨rfl, H.out.2.2.2.1.trans (HR.out.mono H.out.2.2.2.1.size)⟩

end Go.Proofs.Ytadjcmekpcimjaa
