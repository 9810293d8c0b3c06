/-
  The law ObjectCommits, walked: of any commit and any bytes it returns true, and what was there is as it was. No condition but that what is handed in is no longer than any memory holds.
-/
import Derived.Test.YtadjcmekpcimjaaBackLaw
import Derived.Test.YtadjcmekpcimjaaRRdCom
namespace Go.Proofs.Ytadjcmekpcimjaa
open Go.RowKit

/-- All that the last line reads. -/
structure Four (A I D M : Nat) (tr : Int) (pv iv : Value) (dt : Int) (nt : ByteArray) (r8 : Int) (dv mv : Value) (d8 : Int) (t8 : ByteArray) (bv : Value) (gb : Bs) (u : World) : Prop where
  a : Box4 u A 44 (.int .u64 tr) pv (.int .i64 dt) (.string nt)
  i : Box4 u I 44 (.int .u64 tr) iv (.int .i64 dt) (.string nt)
  d : Box4 u D 44 (.int .u64 r8) dv (.int .i64 d8) (.string t8)
  m : Box4 u M 49 (.int .u64 r8) mv (.int .i64 d8) (.string t8)
  b : BAt u bv gb
theorem Four.below {A I D M : Nat} {tr : Int} {pv iv : Value} {dt : Int} {nt : ByteArray} {r8 : Int} {dv mv : Value} {d8 : Int} {t8 : ByteArray} {bv : Value} {gb : Bs} {u u' : World} (h : Four A I D M tr pv iv dt nt r8 dv mv d8 t8 bv gb u) (hb : Below u.heap.size u u') : Four A I D M tr pv iv dt nt r8 dv mv d8 t8 bv gb u' :=
  ⟨h.a.below hb h.a.lt, h.i.below hb h.i.lt, h.d.below hb h.d.lt, h.m.below hb h.m.lt, h.b.below hb⟩
theorem Four.cells {A I D M : Nat} {tr : Int} {pv iv : Value} {dt : Int} {nt : ByteArray} {r8 : Int} {dv mv : Value} {d8 : Int} {t8 : ByteArray} {bv : Value} {gb : Bs} {u : World} (h : Four A I D M tr pv iv dt nt r8 dv mv d8 t8 bv gb u) (gs : ByteArray) (hg : gs = ⟨gb.toArray⟩) :
    (convert 23 9 bv).run Try.prog u = .ok (.string gs) u ∧
    u.cell? ⟨A, 0, none⟩ = some (.int .u64 tr) ∧ u.cell? ⟨A, 1, none⟩ = some pv ∧ u.cell? ⟨A, 2, none⟩ = some (.int .i64 dt) ∧ u.cell? ⟨A, 3, none⟩ = some (.string nt) ∧
    u.cell? ⟨I, 0, none⟩ = some (.int .u64 tr) ∧ u.cell? ⟨I, 1, none⟩ = some iv ∧ u.cell? ⟨I, 2, none⟩ = some (.int .i64 dt) ∧ u.cell? ⟨I, 3, none⟩ = some (.string nt) ∧
    u.cell? ⟨D, 0, none⟩ = some (.int .u64 r8) ∧ u.cell? ⟨D, 1, none⟩ = some dv ∧ u.cell? ⟨D, 2, none⟩ = some (.int .i64 d8) ∧ u.cell? ⟨D, 3, none⟩ = some (.string t8) ∧
    u.cell? ⟨M, 0, none⟩ = some (.int .u64 r8) ∧ u.cell? ⟨M, 1, none⟩ = some mv ∧ u.cell? ⟨M, 2, none⟩ = some (.int .i64 d8) ∧ u.cell? ⟨M, 3, none⟩ = some (.string t8) := by
  have hc := conv_str h.b
  rw [show tx gb = .string gs by rw [hg]] at hc
  exact ⟨hc, h.a.cells.1, h.a.cells.2.1, h.a.cells.2.2.1, h.a.cells.2.2.2, h.i.cells.1, h.i.cells.2.1, h.i.cells.2.2.1, h.i.cells.2.2.2, h.d.cells.1, h.d.cells.2.1, h.d.cells.2.2.1, h.d.cells.2.2.2, h.m.cells.1, h.m.cells.2.1, h.m.cells.2.2.1, h.m.cells.2.2.2⟩

set_option maxHeartbeats 6400000 in
set_option maxRecDepth 100000 in
theorem commits_walk (cc : Cm) (pa : Option Addr) (pn pk : Nat) (ba : Option Addr) (bn bc : Nat) (bs : Bs) (W : World)
    (pr : RdG encU W pa cc.ps) (pl : cc.ps.length = pn) (pm : pn ≤ pk) (po : pn * 8 ≤ 140737488355328) (hb : BAt W (.slice ba bn bc) bs) (hbl : bs.length = bn) (hbm : bn ≤ 140737488355328) :
    Calls Try.prog 4 #[.agg #[.int .u64 (cc.tree.toNat : Int), .slice pa pn pk, .int .i64 cc.date, tx cc.note], .slice ba bn bc] W fun e w' => e = .returned (.bool true) ∧ Below W.heap.size W w' := by
  obtain ⟨nt, hnt⟩ : ∃ nt : ByteArray, nt = ⟨cc.note.toArray⟩ := ⟨_, rfl⟩
  obtain ⟨dt, hdt⟩ : ∃ dt, cc.date = dt := ⟨_, rfl⟩
  obtain ⟨s, hs⟩ : ∃ s : ByteArray, s = ⟨bs.toArray⟩ := ⟨_, rfl⟩
  obtain ⟨tr, htr⟩ : ∃ tr : Int, (cc.tree.toNat : Int) = tr := ⟨_, rfl⟩
  rw [show tx cc.note = .string nt by rw [hnt], hdt, htr]
  have H : Hid (BAt W (.slice ba bn bc) bs ∧ bs.length = bn ∧ s = ⟨bs.toArray⟩) := ⟨hb, hbl, hs⟩
  have HC : Hid (RdG encU W pa cc.ps ∧ cc.ps.length = pn ∧ pn ≤ pk ∧ nt = ⟨cc.note.toArray⟩ ∧ cc.date = dt ∧ (cc.tree.toNat : Int) = tr) := ⟨pr, pl, pm, hnt, hdt, htr⟩
  obtain ⟨W1, hW1⟩ : ∃ W1, W.alloc (.cells #[.int .u64 tr, .slice pa pn pk, .int .i64 dt, .string nt] 44) = W1 := ⟨_, rfl⟩
  have HW : Hid (Below W.heap.size W W1 ∧ Box4 W1 W.heap.size 44 (.int .u64 tr) (.slice pa pn pk) (.int .i64 dt) (.string nt) ∧ W1.heap.size = W.heap.size + 1) := by
    rw [← hW1]
    exact ⟨bz1 _ _, Box4.new _ _ _ _ _ _, by simp⟩
  clear pr pl pm hnt hdt hs hb hbl htr
  go_enter Try.func4, Try.ntmps4
  go_wp2_with fail
  refine (awake_walk W1).mono ?_
  rintro e w0 ⟨rfl, B0⟩
  have P0 : Hid (Below W1.heap.size W1 w0) := B0
  clear B0
  have bw : ∀ u, Below W1.heap.size W1 u → Below W.heap.size W u := fun u hu => HW.out.1.trans (hu.mono HW.out.1.size)
  have BW : Hid (∀ u, Below W1.heap.size W1 u → Below W.heap.size W u) := bw
  clear bw
  obtain ⟨x0, x1, x2, x3⟩ := (HW.out.2.1.below P0.out (by have := HW.out.2.2; omega)).cells
  go_upto_region 4 with fail
  obtain ⟨w1, hw1⟩ : ∃ w1, w0.alloc (.cells #[.int .u64 tr, .slice pa pn pk, .int .i64 dt, .string nt] 44) = w1 := ⟨_, rfl⟩
  have P1 : Hid (Below W1.heap.size W1 w1 ∧ Box4 w1 w0.heap.size 44 (.int .u64 tr) (.slice pa pn pk) (.int .i64 dt) (.string nt) ∧ W1.heap.size ≤ w0.heap.size ∧ w1.heap.size = w0.heap.size + 1) := by
    rw [← hw1]
    exact ⟨P0.out.trans ((bz1 w0 _).mono P0.out.size), Box4.new _ _ _ _ _ _, P0.out.size, by simp⟩
  obtain ⟨I, hI⟩ : ∃ I, w0.heap.size = I := ⟨_, rfl⟩
  rw [hI] at P1
  rw [hw1, hI]
  clear hw1 hI P0 x0 x1 x2 x3
  obtain ⟨x0, x1, x2, x3⟩ := (HW.out.2.1.below P1.out.1 (by have := HW.out.2.2; omega)).cells
  have x1' := (HW.out.2.1.below (P1.out.1.trans ((bz1 w1 (.cells #[] 37)).mono P1.out.1.size)) (by have := HW.out.2.2; omega)).cells.2.1
  go_wp2_with (at_builtin; (refine appG_list encU 37 42 8 _ rfl Try.info37 Try.underlying42 rfl (.tmp 17) (.tmp 19) rfl w1.heap.size _ [] cc.ps pa pn pk rfl (own_new encU 37 w1) rfl ((HC.out.1.below (BW.out _ P1.out.1)).below (bz1 w1 _)) HC.out.2.1 (by simp; omega) (by simp only [maxLen, List.length_nil]; omega) (by simp) ?_; intro v2 w2 ho2 hb2 _ _; rw [List.nil_append] at ho2; have q2 := ho2.whole HC.out.2.1; obtain ⟨ia, ik, e2, hik, r2⟩ := q2; subst e2; have P2 : Hid (Below w1.heap.size w1 w2 ∧ OwnG encU 37 w2 w1.heap.size (.slice ia pn ik) cc.ps ∧ pn ≤ ik) := ⟨(bz1 w1 _).trans hb2, ho2, hik⟩; have y4 := (P1.out.2.1.below P2.out.1 P1.out.2.1.lt).cells; have g4 := (P1.out.2.1.below P2.out.1 P1.out.2.1.lt).thaw; obtain ⟨y0, y1, y2, y3⟩ := y4; obtain ⟨g0, g1, g2, g3⟩ := g4; clear ho2 hb2 hik r2))
  clear x0 x1 x2 x3 x1' y0 y1 y2 y3 g0 g1 g2 g3
  obtain ⟨w3, hw3⟩ : ∃ w3, w2.setCell ⟨I, 1, none⟩ (.slice ia pn ik) = w3 := ⟨_, rfl⟩
  have P3 : Hid (Below W1.heap.size W1 w3 ∧ Box4 w3 I 44 (.int .u64 tr) (.slice ia pn ik) (.int .i64 dt) (.string nt) ∧ OwnG encU 37 w3 w1.heap.size (.slice ia pn ik) cc.ps ∧ W.heap.size < I ∧ pn ≤ ik) := by
    have ht : Turned (fun k => k = I) w2 (w2.setCell ⟨I, 1, none⟩ (.slice ia pn ik)) := turned_set 1 _
    have hI := P1.out.2.2.1
    have hI2 := P1.out.2.2.2
    have hI3 := HW.out.2.2
    have b2 : Below W1.heap.size W1 w2 := P1.out.1.trans (P2.out.1.mono P1.out.1.size)
    rw [← hw3]
    exact ⟨b2.trans (ht.below b2.size (fun k hk q => by have q' : k = I := q; omega)), (P1.out.2.1.below P2.out.1 P1.out.2.1.lt).put1 _, P2.out.2.1.stays ht (fun g hg q => by have := (P2.out.2.1.lt g hg).1; have q' : g = I := q; omega), by omega, P2.out.2.2⟩
  rw [hw3]
  clear hw3 P2 P1
  obtain ⟨x0, x1, x2, x3⟩ := P3.out.2.1.cells
  have h4 := com_any (w := w3) (c := cc) (pc := ik) (P3.out.2.2.1.rdc.1) HC.out.2.1 P3.out.2.2.2.2 nt HC.out.2.2.2.1 dt HC.out.2.2.2.2.1
  obtain ⟨ge, hge⟩ : ∃ ge, (fcom cc).2 = ge := ⟨_, rfl⟩
  obtain ⟨gb, hgb⟩ : ∃ gb, (fcom cc).1 = gb := ⟨_, rfl⟩
  obtain ⟨gs, hgs⟩ : ∃ gs : ByteArray, gs = ⟨gb.toArray⟩ := ⟨_, rfl⟩
  rw [hge, hgb, HC.out.2.2.2.2.2] at h4
  have HG : Hid ((fcom cc).2 = ge ∧ (fcom cc).1 = gb ∧ gs = ⟨gb.toArray⟩) := ⟨hge, hgb, hgs⟩
  clear hge hgb hgs
  go_wp2_with fail
  refine h4.mono ?_
  rintro e w4 ⟨v4, rfl, J4⟩
  clear h4 x0 x1 x2 x3
  obtain ⟨n4, hn4⟩ : ∃ n4, gb.length = n4 := ⟨_, rfl⟩
  obtain ⟨a4, c4, rfl, _, _⟩ := J4.out.1.whole hn4
  have P4 : Hid (Below w3.heap.size w3 w4 ∧ BAt w4 (.slice a4 n4 c4) gb) := ⟨J4.out.2, OwnB.at (OwnG.low J4.out.1 (Nat.zero_le _))⟩
  clear J4 hn4
  have b4 : Below W1.heap.size W1 w4 := P3.out.1.trans (P4.out.1.mono P3.out.1.size)
  obtain ⟨x0, x1, x2, x3⟩ := (HW.out.2.1.below b4 (by have := HW.out.2.2; omega)).cells
  have h5 := toRef_any (w := w4) (pc := pk) (HC.out.1.below (BW.out _ b4)) HC.out.2.1 po nt dt tr
  have B4 : Hid (Below W1.heap.size W1 w4) := b4
  clear b4
  go_wp2_with fail
  refine h5.mono ?_
  rintro e w5 ⟨qa, qc, rfl, J5⟩
  clear h5 x0 x1 x2 x3
  have h6 := write_any (w := w5) (c := cc) (pc := qc) J5.out.1 HC.out.2.1 nt HC.out.2.2.2.1 dt HC.out.2.2.2.2.1
  rw [HG.out.1, HG.out.2.1, HC.out.2.2.2.2.2, show tx gb = .string gs by rw [HG.out.2.2]] at h6
  have P5 : Hid (Below w3.heap.size w3 w5 ∧ BAt w5 (.slice a4 n4 c4) gb) := ⟨P4.out.1.trans (J5.out.2.2.mono P4.out.1.size), P4.out.2.below J5.out.2.2⟩
  clear J5 P4 B4
  go_wp2_with fail
  refine h6.mono ?_
  rintro e w6 ⟨rfl, B6⟩
  clear h6
  have P6 : Hid (Below w3.heap.size w3 w6 ∧ BAt w6 (.slice a4 n4 c4) gb ∧ Below W1.heap.size W1 w6) := by
    have b : Below w3.heap.size w3 w6 := P5.out.1.trans (B6.mono P5.out.1.size)
    exact ⟨b, P5.out.2.below B6, P3.out.1.trans (b.mono P3.out.1.size)⟩
  clear P5 B6
  go_wp2_with (at_builtin; (refine appB rfl (.tmp 34) (.tmp 35) rfl w6.heap.size _ _ [] bs rfl (ownB_zero w6) rfl ((H.out.1.below (BW.out _ P6.out.2.2)).below (bz1 w6 _)) (by rw [H.out.2.1]; simp; omega) (by simp) ?_; intro v7 w7 ho7 hb7 _ _; rw [List.nil_append] at ho7; have q7 := ho7.whole H.out.2.1; obtain ⟨a7, c7, e7, _, _⟩ := q7; subst e7; have P7 : Hid (Below w6.heap.size w6 w7 ∧ BAt w7 (.slice a7 bn c7) bs) := ⟨(bz1 w6 _).trans hb7, OwnB.at (OwnG.low ho7 (Nat.zero_le _))⟩; clear ho7 hb7))
  have h8 := readCom_any w7 P7.out.2 H.out.2.1
  refine h8.mono ?_
  rintro e w8 ⟨c8, e8, pa8, k8, rfl, J8⟩
  clear h8
  obtain ⟨ln, hln⟩ : ∃ ln, c8.ps.length = ln := ⟨_, rfl⟩
  obtain ⟨t8, ht8⟩ : ∃ t8 : ByteArray, t8 = ⟨c8.note.toArray⟩ := ⟨_, rfl⟩
  obtain ⟨d8, hd8⟩ : ∃ d8, c8.date = d8 := ⟨_, rfl⟩
  obtain ⟨r8, hr8⟩ : ∃ r8 : Int, (c8.tree.toNat : Int) = r8 := ⟨_, rfl⟩
  rw [hln, hd8, hr8, show tx c8.note = .string t8 by rw [ht8]]
  have hl8 : ln ≤ 8 := by
    rw [← hln]
    rcases J8.out.1 with ⟨_, q, _⟩ | ⟨_, q, _⟩
    · exact (ccom_ok q).1
    · rw [q]; simp [zcm]
  have P8 : Hid (Below w6.heap.size w6 w8 ∧ RC bs c8 e8 ∧ RdG encU w8 pa8 c8.ps ∧ c8.ps.length = ln ∧ t8 = ⟨c8.note.toArray⟩ ∧ c8.date = d8 ∧ (c8.tree.toNat : Int) = r8) := ⟨P7.out.1.trans (J8.out.2.2.2.mono P7.out.1.size), J8.out.1, J8.out.2.1, hln, ht8, hd8, hr8⟩
  clear J8 P7 hln ht8 hd8 hr8
  go_upto_region 8 with fail
  obtain ⟨w9, hw9⟩ : ∃ w9, w8.alloc (.cells #[.int .u64 r8, .slice pa8 ln k8, .int .i64 d8, .string t8] 44) = w9 := ⟨_, rfl⟩
  have P9 : Hid (Below w8.heap.size w8 w9 ∧ Box4 w9 w8.heap.size 44 (.int .u64 r8) (.slice pa8 ln k8) (.int .i64 d8) (.string t8) ∧ Below w6.heap.size w6 w9) := by
    rw [← hw9]
    exact ⟨bz1 _ _, Box4.new _ _ _ _ _ _, P8.out.1.trans ((bz1 w8 _).mono P8.out.1.size)⟩
  obtain ⟨D, hD⟩ : ∃ D, w8.heap.size = D := ⟨_, rfl⟩
  rw [hw9, hD]
  have PD : Hid (w8.heap.size = D) := hD
  clear hw9 hD
  have b9 : Below W1.heap.size W1 w9 := P6.out.2.2.trans (P9.out.2.2.mono P6.out.2.2.size)
  have hcb : (convert 23 9 (.slice ba bn bc)).run Try.prog w9 = .ok (.string s) w9 := by
    have := conv_str (H.out.1.below (BW.out _ b9))
    rw [H.out.2.2]
    exact this
  have h10 := rreadCom_any bs (by rw [H.out.2.1]; omega) w9
  rw [show tx bs = .string s by rw [H.out.2.2]] at h10
  clear b9
  go_wp2_with fail
  refine h10.mono ?_
  rintro e w10 ⟨c10, e10, pa10, k10, rfl, J10⟩
  clear h10 hcb
  obtain ⟨rfl, rfl⟩ := P8.out.2.1.uniq J10.out.1
  rw [P8.out.2.2.2.1, P8.out.2.2.2.2.2.1, P8.out.2.2.2.2.2.2, show tx c8.note = .string t8 by rw [P8.out.2.2.2.2.1]]
  have P10 : Hid (Below w9.heap.size w9 w10 ∧ RdG encU w10 pa10 c8.ps) := ⟨J10.out.2.2.2, J10.out.2.1⟩
  clear J10
  go_upto_region 9 with fail
  obtain ⟨w11, hw11⟩ : ∃ w11, w10.alloc (.cells #[.int .u64 r8, .slice pa10 ln k10, .int .i64 d8, .string t8] 49) = w11 := ⟨_, rfl⟩
  have P11 : Hid (Below w9.heap.size w9 w11 ∧ RdG encU w11 pa10 c8.ps ∧ Box4 w11 w10.heap.size 49 (.int .u64 r8) (.slice pa10 ln k10) (.int .i64 d8) (.string t8)) := by
    rw [← hw11]
    exact ⟨P10.out.1.trans ((bz1 w10 _).mono P10.out.1.size), P10.out.2.below (bz1 w10 _), Box4.new _ _ _ _ _ _⟩
  obtain ⟨M, hM⟩ : ∃ M, w10.heap.size = M := ⟨_, rfl⟩
  rw [hM] at P11
  rw [hw11, hM]
  clear hw11 hM P10
  have b11 : Below w3.heap.size w3 w11 := P6.out.1.trans ((P9.out.2.2.trans (P11.out.1.mono P9.out.2.2.size)).mono P6.out.1.size)
  have PE : Hid (Below W1.heap.size W1 w11 ∧ Box4 w11 W.heap.size 44 (.int .u64 tr) (.slice pa pn pk) (.int .i64 dt) (.string nt) ∧ Box4 w11 I 44 (.int .u64 tr) (.slice ia pn ik) (.int .i64 dt) (.string nt) ∧ Box4 w11 D 44 (.int .u64 r8) (.slice pa8 ln k8) (.int .i64 d8) (.string t8) ∧ Box4 w11 M 49 (.int .u64 r8) (.slice pa10 ln k10) (.int .i64 d8) (.string t8) ∧ RdG encU w11 pa cc.ps ∧ RdG encU w11 ia cc.ps ∧ RdG encU w11 pa8 c8.ps ∧ RdG encU w11 pa10 c8.ps ∧ BAt w11 (.slice a4 n4 c4) gb) := by
    have b1 : Below W1.heap.size W1 w11 := P3.out.1.trans (b11.mono P3.out.1.size)
    have b8 : Below w8.heap.size w8 w11 := P9.out.1.trans (P11.out.1.mono P9.out.1.size)
    have bx := P9.out.2.1
    rw [PD.out] at bx
    refine ⟨b1, HW.out.2.1.below b1 (by have := HW.out.2.2; omega), P3.out.2.1.below b11 P3.out.2.1.lt, bx.below P11.out.1 bx.lt, P11.out.2.2, HC.out.1.below (BW.out _ b1), P3.out.2.2.1.rdc.1.below b11, P8.out.2.2.1.below b8, P11.out.2.1, P6.out.2.1.below (P9.out.2.2.trans (P11.out.1.mono P9.out.2.2.size))⟩
  clear b11 P11 P9 P6 P3 PD
  have F11 : Hid (Four W.heap.size I D M tr (.slice pa pn pk) (.slice ia pn ik) dt nt r8 (.slice pa8 ln k8) (.slice pa10 ln k10) d8 t8 (.slice a4 n4 c4) gb w11) := ⟨PE.out.2.1, PE.out.2.2.1, PE.out.2.2.2.1, PE.out.2.2.2.2.1, PE.out.2.2.2.2.2.2.2.2.2⟩
  have KD : Hid (∀ u, Below w11.heap.size w11 u → Calls Try.prog 16 #[.agg #[.int .u64 r8, .slice pa8 ln k8, .int .i64 d8, .string t8]] u fun e w' => ∃ qa qc, e = .returned (.agg #[.int .u64 r8, .slice qa ln qc, .int .i64 d8, .string t8]) ∧ Hid (RdG encU w' qa c8.ps ∧ ln ≤ qc ∧ Below u.heap.size u w')) := fun u hu => toRef_any (PE.out.2.2.2.2.2.2.2.1.below hu) P8.out.2.2.2.1 (by omega) t8 d8 r8
  have KI : Hid (∀ u, Below w11.heap.size w11 u → Calls Try.prog 16 #[.agg #[.int .u64 tr, .slice ia pn ik, .int .i64 dt, .string nt]] u fun e w' => ∃ qa qc, e = .returned (.agg #[.int .u64 tr, .slice qa pn qc, .int .i64 dt, .string nt]) ∧ Hid (RdG encU w' qa cc.ps ∧ pn ≤ qc ∧ Below u.heap.size u w')) := fun u hu => toRef_any (PE.out.2.2.2.2.2.2.1.below hu) HC.out.2.1 po nt dt tr
  have KC : Hid (∀ u, Below w11.heap.size w11 u → Calls Try.prog 16 #[.agg #[.int .u64 tr, .slice pa pn pk, .int .i64 dt, .string nt]] u fun e w' => ∃ qa qc, e = .returned (.agg #[.int .u64 tr, .slice qa pn qc, .int .i64 dt, .string nt]) ∧ Hid (RdG encU w' qa cc.ps ∧ pn ≤ qc ∧ Below u.heap.size u w')) := fun u hu => toRef_any (PE.out.2.2.2.2.2.1.below hu) HC.out.2.1 po nt dt tr
  have hd0 : Below w11.heap.size w11 w11.drew := (Below.refl _ w11).drew
  have HD0 : Hid (Below w11.heap.size w11 w11.drew) := hd0
  have kS0 := (F11.out.below hd0).cells gs HG.out.2.2
  clear hd0
  go_region_held3 (fun u => (convert 23 9 (.slice a4 n4 c4)).run Try.prog u = .ok (.string gs) u ∧ u.cell? ⟨W.heap.size, 0, none⟩ = some (.int .u64 tr) ∧ u.cell? ⟨W.heap.size, 1, none⟩ = some (.slice pa pn pk) ∧ u.cell? ⟨W.heap.size, 2, none⟩ = some (.int .i64 dt) ∧ u.cell? ⟨W.heap.size, 3, none⟩ = some (.string nt) ∧ u.cell? ⟨I, 0, none⟩ = some (.int .u64 tr) ∧ u.cell? ⟨I, 1, none⟩ = some (.slice ia pn ik) ∧ u.cell? ⟨I, 2, none⟩ = some (.int .i64 dt) ∧ u.cell? ⟨I, 3, none⟩ = some (.string nt) ∧ u.cell? ⟨D, 0, none⟩ = some (.int .u64 r8) ∧ u.cell? ⟨D, 1, none⟩ = some (.slice pa8 ln k8) ∧ u.cell? ⟨D, 2, none⟩ = some (.int .i64 d8) ∧ u.cell? ⟨D, 3, none⟩ = some (.string t8) ∧ u.cell? ⟨M, 0, none⟩ = some (.int .u64 r8) ∧ u.cell? ⟨M, 1, none⟩ = some (.slice pa10 ln k10) ∧ u.cell? ⟨M, 2, none⟩ = some (.int .i64 d8) ∧ u.cell? ⟨M, 3, none⟩ = some (.string t8))
    (first | with_reducible exact kS0 | with_reducible exact kS1 | with_reducible exact kS2 | with_reducible exact kS3 | with_reducible exact kS4 | with_reducible exact kS5)
    (first
      | (go_at_call 19; (with_reducible refine (sameCom_any (pc := qc3) (qc := qc4) (J3.out.1.below J4.out.2.2) J4.out.1 HC.out.2.1 (by omega) nt dt tr).mono ?_); rintro e u5 ⟨rfl, B5⟩; have HD5 : Hid (Below w11.heap.size w11 u5) := HD4.out.trans (B5.mono HD4.out.size); have kS5 := (F11.out.below HD5.out).cells gs HG.out.2.2; clear B5)
      | (go_at_call 16; (with_reducible refine (KC.out _ HD3.out).mono ?_); rintro e u4 ⟨qa4, qc4, rfl, J4⟩; have HD4 : Hid (Below w11.heap.size w11 u4) := HD3.out.trans (J4.out.2.2.mono HD3.out.size); have kS4 := (F11.out.below HD4.out).cells gs HG.out.2.2)
      | (go_at_call 16; (with_reducible refine (KI.out _ HD2.out).mono ?_); rintro e u3 ⟨qa3, qc3, rfl, J3⟩; have HD3 : Hid (Below w11.heap.size w11 u3) := HD2.out.trans (J3.out.2.2.mono HD2.out.size); have kS3 := (F11.out.below HD3.out).cells gs HG.out.2.2)
      | (go_at_call 19; (with_reducible refine (sameCom_any (pc := qc1) (qc := k10) J1.out.1 (PE.out.2.2.2.2.2.2.2.2.1.below HD1.out) P8.out.2.2.2.1 (by omega) t8 d8 r8).mono ?_); rintro e u2 ⟨rfl, B2⟩; have HD2 : Hid (Below w11.heap.size w11 u2) := HD1.out.trans (B2.mono HD1.out.size); have kS2 := (F11.out.below HD2.out).cells gs HG.out.2.2; clear B2)
      | (go_at_call 16; (with_reducible refine (KD.out _ HD0.out).mono ?_); rintro e u1 ⟨qa1, qc1, rfl, J1⟩; have HD1 : Hid (Below w11.heap.size w11 u1) := HD0.out.trans (J1.out.2.2.mono HD0.out.size); have kS1 := (F11.out.below HD1.out).cells gs HG.out.2.2))
  have BE : Hid (Below W1.heap.size W1 u5) := PE.out.1.trans (HD5.out.mono PE.out.1.size)
  clear kS0 kS1 kS2 kS3 kS4 kS5
  go_wp2
  go_ret
  exact ⟨by simp, BW.out _ BE.out⟩

end Go.Proofs.Ytadjcmekpcimjaa
