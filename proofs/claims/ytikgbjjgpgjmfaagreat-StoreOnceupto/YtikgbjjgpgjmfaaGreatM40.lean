/-
  Several texts, laid together.
-/
import Derived.Test.YtikgbjjgpgjmfaaGreatM36
import Derived.Test.YtikgbjjgpgjmfaaGreatM13
import Derived.Test.YtikgbjjgpgjmfaaGreatVPlay0Mg
import Derived.Test.YtikgbjjgpgjmfaaGreatVPlay2Mg
import Derived.Test.YtikgbjjgpgjmfaaGreatM15
import Derived.Test.YtikgbjjgpgjmfaaGreatM11

/-
  The statements' Play of a negative kind: nothing.
-/
namespace Go.Proofs.YtikgbjjgpgjmfaaGreat
open Go.RowKit

set_option maxHeartbeats 6400000 in
set_option maxRecDepth 100000 in
theorem play_none {B : Nat} {E : Nat → Prop} {w0 w : World} {s b : Nat} {fa oa ra ta xa ya za : Option Addr} {fl fc on oc rn rc tn tc xn xc yn yc zn zc : Nat} {U : Nat → Prop} {st : St} {d : Dk} {bl tl cl : List UInt64}
    (hI : WI B E w s b (.slice fa fl fc) (.slice oa on oc) (.slice ra rn rc) (.slice ta tn tc) (.slice xa xn xc) (.slice ya yn yc) (.slice za zn zc) U st d bl tl cl) (h0 : Below B w0 w) (hB : B ≤ w.heap.size) (k : Int) (hk : k < 0) (dv pv qv : Value) (nm : ByteArray) (dt kp : Int) :
    Calls Tryz.prog 9 #[.agg (wdV s b d (.slice fa fl fc) (.slice oa on oc) (.slice ra rn rc) (.slice ta tn tc) (.slice xa xn xc) (.slice ya yn yc) (.slice za zn zc)), .agg (actC k dv pv qv nm dt kp)] w fun e w' => e = .returned (.tuple #[.agg (wdV s b d (.slice fa fl fc) (.slice oa on oc) (.slice ra rn rc) (.slice ta tn tc) (.slice xa xn xc) (.slice ya yn yc) (.slice za zn zc)), .bool true]) ∧ Hid (WI B E w' s b (.slice fa fl fc) (.slice oa on oc) (.slice ra rn rc) (.slice ta tn tc) (.slice xa xn xc) (.slice ya yn yc) (.slice za zn zc) U st d bl tl cl ∧ Below B w0 w' ∧ ∀ i, E i → w'.heap[i]? = w.heap[i]?) := by
  obtain ⟨W, hW⟩ : ∃ W, ((w.alloc (.cells (wdV s b d (.slice fa fl fc) (.slice oa on oc) (.slice ra rn rc) (.slice ta tn tc) (.slice xa xn xc) (.slice ya yn yc) (.slice za zn zc)) 35)).alloc (.cells (actC k dv pv qv nm dt kp) 43)).alloc (.cells zeroW 35) = W := ⟨_, rfl⟩
  have bW : Below w.heap.size w W := by rw [← hW]; exact bz3 _ _ _ _
  have hBX : Bx w.heap.size W (wdV s b d (.slice fa fl fc) (.slice oa on oc) (.slice ra rn rc) (.slice ta tn tc) (.slice xa xn xc) (.slice ya yn yc) (.slice za zn zc)) (actC k dv pv qv nm dt kp) := by rw [← hW]; exact Bx.new _ _ _
  have MD : Hid (Md B w.heap.size E (fun i => Fb w.heap.size i ∨ E i) w0 w W s b (.slice fa fl fc) (.slice oa on oc) (.slice ra rn rc) (.slice ta tn tc) (.slice xa xn xc) (.slice ya yn yc) (.slice za zn zc) U st d bl tl cl (wdV s b d (.slice fa fl fc) (.slice oa on oc) (.slice ra rn rc) (.slice ta tn tc) (.slice xa xn xc) (.slice ya yn yc) (.slice za zn zc)) (actC k dv pv qv nm dt kp)) := Md.start hI h0 hB hBX bW
  have y0 := MD.out.bx.act.cell (j := 0) rfl
  have p0 := MD.out.bx.box.cell (j := 0) rfl
  have s0 := MD.out.bx.res.cell (j := 0) rfl
  have f0 := MD.out.bx.res.thaw 0
  have p1 := MD.out.bx.box.cell (j := 1) rfl
  have s1 := MD.out.bx.res.cell (j := 1) rfl
  have f1 := MD.out.bx.res.thaw 1
  have p2 := MD.out.bx.box.cell (j := 2) rfl
  have s2 := MD.out.bx.res.cell (j := 2) rfl
  have f2 := MD.out.bx.res.thaw 2
  have p3 := MD.out.bx.box.cell (j := 3) rfl
  have s3 := MD.out.bx.res.cell (j := 3) rfl
  have f3 := MD.out.bx.res.thaw 3
  have p4 := MD.out.bx.box.cell (j := 4) rfl
  have s4 := MD.out.bx.res.cell (j := 4) rfl
  have f4 := MD.out.bx.res.thaw 4
  have p5 := MD.out.bx.box.cell (j := 5) rfl
  have s5 := MD.out.bx.res.cell (j := 5) rfl
  have f5 := MD.out.bx.res.thaw 5
  have p6 := MD.out.bx.box.cell (j := 6) rfl
  have s6 := MD.out.bx.res.cell (j := 6) rfl
  have f6 := MD.out.bx.res.thaw 6
  have p7 := MD.out.bx.box.cell (j := 7) rfl
  have s7 := MD.out.bx.res.cell (j := 7) rfl
  have f7 := MD.out.bx.res.thaw 7
  have p8 := MD.out.bx.box.cell (j := 8) rfl
  have s8 := MD.out.bx.res.cell (j := 8) rfl
  have f8 := MD.out.bx.res.thaw 8
  have p9 := MD.out.bx.box.cell (j := 9) rfl
  have s9 := MD.out.bx.res.cell (j := 9) rfl
  have f9 := MD.out.bx.res.thaw 9
  have p10 := MD.out.bx.box.cell (j := 10) rfl
  have s10 := MD.out.bx.res.cell (j := 10) rfl
  have f10 := MD.out.bx.res.thaw 10
  have p11 := MD.out.bx.box.cell (j := 11) rfl
  have s11 := MD.out.bx.res.cell (j := 11) rfl
  have f11 := MD.out.bx.res.thaw 11
  have p12 := MD.out.bx.box.cell (j := 12) rfl
  have s12 := MD.out.bx.res.cell (j := 12) rfl
  have f12 := MD.out.bx.res.thaw 12
  have p13 := MD.out.bx.box.cell (j := 13) rfl
  have s13 := MD.out.bx.res.cell (j := 13) rfl
  have f13 := MD.out.bx.res.thaw 13
  have n0 : (k == 0) = false := by rw [beq_eq_false_iff_ne]; omega
  have m0 : ¬ k = 0 := by omega
  have n1 : (k == 1) = false := by rw [beq_eq_false_iff_ne]; omega
  have m1 : ¬ k = 1 := by omega
  have n2 : (k == 2) = false := by rw [beq_eq_false_iff_ne]; omega
  have m2 : ¬ k = 2 := by omega
  have n3 : (k == 3) = false := by rw [beq_eq_false_iff_ne]; omega
  have m3 : ¬ k = 3 := by omega
  have n4 : (k == 4) = false := by rw [beq_eq_false_iff_ne]; omega
  have m4 : ¬ k = 4 := by omega
  have n5 : (k == 5) = false := by rw [beq_eq_false_iff_ne]; omega
  have m5 : ¬ k = 5 := by omega
  have n6 : (k == 6) = false := by rw [beq_eq_false_iff_ne]; omega
  have m6 : ¬ k = 6 := by omega
  have n7 : (k == 7) = false := by rw [beq_eq_false_iff_ne]; omega
  have m7 : ¬ k = 7 := by omega
  have n8 : (k == 8) = false := by rw [beq_eq_false_iff_ne]; omega
  have m8 : ¬ k = 8 := by omega
  clear hI h0 hB hBX bW hk
  go_enter Tryz.func9, Tryz.ntmps9
  go_upto_region 54 with fail
  clear hW
  go_wp2
  refine bodyPost_ret (v := .tuple #[.agg (wdV s b d (.slice fa fl fc) (.slice oa on oc) (.slice ra rn rc) (.slice ta tn tc) (.slice xa xn xc) (.slice ya yn yc) (.slice za zn zc)), .bool true]) ?_ rfl ⟨rfl, ?_⟩
  · simp [results, Tryz.f9]
    go_simp
  · have ht := lay_all (W := W) (w.heap.size + 2) [.pointer (some ⟨b, 0, none⟩), .pointer (some ⟨s, 0, none⟩), .slice fa fl fc, .int .i64 (d.writes : Int), .bool d.armed, .bool d.dead, .int .i64 (d.after : Int), .int .i64 (d.keep : Int), .slice oa on oc, .slice ra rn rc, .slice ta tn tc, .slice xa xn xc, .slice ya yn yc, .slice za zn zc] 0
    simp only [layL, Nat.reduceAdd] at ht
    exact MD.out.done ht

end Go.Proofs.YtikgbjjgpgjmfaaGreat

/-
  A list of acts in memory.
-/
namespace Go.Proofs.YtikgbjjgpgjmfaaGreat
open Go.RowKit

/-- An act as it lies in memory. -/
structure AV where
  k : Int
  da : Option Addr
  dn : Nat
  dc : Nat
  pa : Option Addr
  pn : Nat
  pc : Nat
  qa : Option Addr
  qn : Nat
  qc : Nat
  nm : ByteArray
  dt : Int
  kp : Int
abbrev AV.val (a : AV) : Value := actV a.k (.slice a.da a.dn a.dc) (.slice a.pa a.pn a.pc) (.slice a.qa a.qn a.qc) a.nm a.dt a.kp
def encA : Enc AV := ⟨fun a => [.int .i64 a.k, .slice a.da a.dn a.dc, .slice a.pa a.pn a.pc, .slice a.qa a.qn a.qc, .string a.nm, .int .i64 a.dt, .int .i64 a.kp], 7, fun _ => rfl, by decide, by intro x u h; simp at h; rcases h with rfl | rfl | rfl | rfl | rfl | rfl | rfl <;> rfl⟩

theorem RdG.acts {w : World} {b off : Nat} {l : List AV} (h : RdG encA w (some ⟨b, off, none⟩) l) {i : Nat} {a : AV} (hx : l[i]? = some a) : b < w.heap.size ∧ w.cell? ⟨b, off + i * 7, none⟩ = some (.int .i64 a.k) ∧ w.cell? ⟨b, off + i * 7 + 1, none⟩ = some (.slice a.da a.dn a.dc) ∧ w.cell? ⟨b, off + i * 7 + 2, none⟩ = some (.slice a.pa a.pn a.pc) ∧ w.cell? ⟨b, off + i * 7 + 3, none⟩ = some (.slice a.qa a.qn a.qc) ∧ w.cell? ⟨b, off + i * 7 + 4, none⟩ = some (.string a.nm) ∧ w.cell? ⟨b, off + i * 7 + 5, none⟩ = some (.int .i64 a.dt) ∧ w.cell? ⟨b, off + i * 7 + 6, none⟩ = some (.int .i64 a.kp) := by
  obtain ⟨b', off', e', hlt, hc⟩ := h (by rcases Nat.lt_or_ge i l.length with q | q
                                          · omega
                                          · rw [List.getElem?_eq_none q] at hx; cases hx)
  obtain ⟨rfl, rfl⟩ : b = b' ∧ off = off' := by simpa using e'
  have h0 := hc i a hx 0 _ rfl
  have h1 := hc i a hx 1 _ rfl
  have h2 := hc i a hx 2 _ rfl
  have h3 := hc i a hx 3 _ rfl
  have h4 := hc i a hx 4 _ rfl
  have h5 := hc i a hx 5 _ rfl
  have h6 := hc i a hx 6 _ rfl
  refine ⟨hlt, ?_, ?_, ?_, ?_, ?_, ?_, ?_⟩
  · simpa [encA] using h0
  · simpa [encA, Nat.add_assoc] using h1
  · simpa [encA, Nat.add_assoc] using h2
  · simpa [encA, Nat.add_assoc] using h3
  · simpa [encA, Nat.add_assoc] using h4
  · simpa [encA, Nat.add_assoc] using h5
  · simpa [encA, Nat.add_assoc] using h6

/-- What an act says, within bounds. -/
structure ActAt (w : World) (a : AV) (data : Bs) (ps : List Bs) (qs : List Int) : Prop where
  hd : BAt w (.slice a.da a.dn a.dc) data
  dl : data.length = a.dn
  dm : a.dn ≤ 140737488355328
  hp : RdG encT w a.pa ps
  pl : ps.length = a.pn
  pm : a.pn * 24 ≤ 140737488355328
  pf : ∀ p ∈ ps, p.length ≤ 9223372036854775807
  hq : RdG encI w a.qa qs
  ql : qs.length = a.qn
  qm : a.qn * 8 ≤ 140737488355328

/-- A list of acts. -/
structure Acts (w : World) (ao : Option Addr) (n : Nat) (l : List AV) : Prop where
  rd : RdG encA w ao l
  len : l.length = n
  each : ∀ a ∈ l, ∃ data ps qs, ActAt w a data ps qs

end Go.Proofs.YtikgbjjgpgjmfaaGreat

/-
  Play of every kind under 3.
-/
namespace Go.Proofs.YtikgbjjgpgjmfaaGreat
open Go.RowKit

/-- What a call does, without a program. -/
def Rel (k : Int) (data : Bs) (ps : List Bs) (qs : List Int) (dt : Int) (st : St) (d : Dk) (bl tl cl : List UInt64) (st' : St) (d' : Dk) (bl' tl' cl' : List UInt64) : Prop :=
  (k < 0 ∧ st' = st ∧ d' = d ∧ bl' = bl ∧ tl' = tl ∧ cl' = cl) ∨
  (k = 0 ∧ ∃ Q, sblob st d data = Q ∧ st' = Q.1.1 ∧ d' = Q.1.2 ∧ (bl' = if Q.2.2 = 0 then bl ++ [Q.2.1] else bl) ∧ tl' = tl ∧ cl' = cl) ∨
  (k = 1 ∧ ∃ Q, stree st d (aents ps qs bl) = Q ∧ st' = Q.1.1 ∧ d' = Q.1.2 ∧ bl' = bl ∧ (tl' = if Q.2.2 = 0 then tl ++ [Q.2.1] else tl) ∧ cl' = cl) ∨
  (k = 2 ∧ ∃ Q, scom st d (anode data qs dt tl cl) = Q ∧ st' = Q.1.1 ∧ d' = Q.1.2 ∧ bl' = bl ∧ tl' = tl ∧ (cl' = if Q.2.2 = 0 then cl ++ [Q.2.1] else cl))

theorem WI.form {B : Nat} {E : Nat → Prop} {w : World} {s b : Nat} {vf vo vr vt xb xt xc : Value} {U : Nat → Prop} {st : St} {d : Dk} {bl tl cl : List UInt64} (h : WI B E w s b vf vo vr vt xb xt xc U st d bl tl cl) :
    ∃ fa fl fc oa on oc ra rn rc ta tn tc xa xn xd ya yn yc za zn zc, vf = .slice fa fl fc ∧ vo = .slice oa on oc ∧ vr = .slice ra rn rc ∧ vt = .slice ta tn tc ∧ xb = .slice xa xn xd ∧ xt = .slice ya yn yc ∧ xc = .slice za zn zc := by
  obtain ⟨fa, fl, fc, oa, on, oc, ra, rn, rc, ta, tn, tc, e, _⟩ := h.ref
  obtain ⟨xa, xd, e1, _⟩ := h.ob.whole rfl
  obtain ⟨ya, yc, e2, _⟩ := h.ot.whole rfl
  obtain ⟨za, zc, e3, _⟩ := h.oc.whole rfl
  simp at e
  exact ⟨fa, fl, fc, oa, on, oc, ra, rn, rc, ta, tn, tc, xa, _, xd, ya, _, yc, za, _, zc, e.1, e.2.1, e.2.2.1, e.2.2.2, e1, e2, e3⟩

theorem WI.more {B : Nat} {E G : Nat → Prop} {w w' : World} {s b : Nat} {vf vo vr vt xb xt xc : Value} {U : Nat → Prop} {st : St} {d : Dk} {bl tl cl : List UInt64} (h : WI B E w s b vf vo vr vt xb xt xc U st d bl tl cl) (hb : Below w.heap.size w w') (hG : ∀ i, G i → w.heap.size ≤ i ∧ i < w'.heap.size) : WI B (fun i => E i ∨ G i) w' s b vf vo vr vt xb xt xc U st d bl tl cl := by
  have h' := h.below hb
  refine ⟨h'.duo, h.low, (h.ref.into (fun i hi q => ?_)).below hb, fun i q r => ?_, fun i q => q.elim (h'.elt i) (fun q => (hG i q).2), h'.ob, h'.ot, h'.oc, h.fb, h.ft, h.fc, h.bt, h.bc, h.tc⟩
  · rcases q with q | q | q
    · exact .inl q
    · exact .inr q
    · have := (hG i q).1
      omega
  · rcases r with r | r
    · exact h.fe i q r
    · have := (hG i r).1
      have := (h.lt i q).2
      omega
theorem WI.turn {B : Nat} {E G : Nat → Prop} {w w' : World} {s b : Nat} {vf vo vr vt xb xt xc : Value} {U : Nat → Prop} {st : St} {d : Dk} {bl tl cl : List UInt64} (h : WI B E w s b vf vo vr vt xb xt xc U st d bl tl cl) (ht : Turned G w w') (hG : ∀ i, G i → E i) : WI B E w' s b vf vo vr vt xb xt xc U st d bl tl cl := by
  have ne : ∀ i, Rows U xb xt xc i → ¬ G i := fun i q r => h.fe i q (hG i r)
  exact ⟨h.duo.stays ht (fun i q => ne i (.inl q)), h.low, h.ref.turned ht (fun i q => .inr (hG i q)), h.fe, fun i q => Nat.lt_of_lt_of_le (h.elt i q) ht.size, h.ob.stays ht (fun g q => ne g (.inr (.inl q))), h.ot.stays ht (fun g q => ne g (.inr (.inr (.inl q)))), h.oc.stays ht (fun g q => ne g (.inr (.inr (.inr q)))), h.fb, h.ft, h.fc, h.bt, h.bc, h.tc⟩
theorem WI.less {B : Nat} {E E' : Nat → Prop} {w : World} {s b : Nat} {vf vo vr vt xb xt xc : Value} {U : Nat → Prop} {st : St} {d : Dk} {bl tl cl : List UInt64} (h : WI B E w s b vf vo vr vt xb xt xc U st d bl tl cl) (hE : ∀ i, E' i → E i) : WI B E' w s b vf vo vr vt xb xt xc U st d bl tl cl :=
  ⟨h.duo, h.low, h.ref.mono (fun i q => q.imp id (hE i)), fun i q r => h.fe i q (hE i r), fun i q => h.elt i (hE i q), h.ob, h.ot, h.oc, h.fb, h.ft, h.fc, h.bt, h.bc, h.tc⟩

theorem enters_Play : ∀ args w, (callFunc 9 args).run Tryz.prog w = .ok (.enter 9 args) w := enters_of Tryz.func9 (by kernel_rfl) rfl

set_option maxRecDepth 100000 in
theorem play_all {B : Nat} {E : Nat → Prop} {w0 w : World} {s b : Nat} {fa oa ra ta xa ya za : Option Addr} {fl fc on oc rn rc tn tc xn xc yn yc zn zc : Nat} {U : Nat → Prop} {st : St} {d : Dk} {bl tl cl : List UInt64} {a : AV} {data : Bs} {ps : List Bs} {qs : List Int}
    (hI : WI B E w s b (.slice fa fl fc) (.slice oa on oc) (.slice ra rn rc) (.slice ta tn tc) (.slice xa xn xc) (.slice ya yn yc) (.slice za zn zc) U st d bl tl cl) (h0 : Below B w0 w) (hB0 : w0.heap.size = B) (hB : B ≤ w.heap.size) (hA : ActAt w0 a data ps qs) (hk : a.k < 3) (hok : d.ok) (hw : d.writes ≤ 1000000) (hsz : st.size ≤ 1000000) (hbn : bl.length ≤ 1000000) (htn : tl.length ≤ 1000000) (hcn : cl.length ≤ 1000000) :
    Calls Tryz.prog 9 #[.agg (wdV s b d (.slice fa fl fc) (.slice oa on oc) (.slice ra rn rc) (.slice ta tn tc) (.slice xa xn xc) (.slice ya yn yc) (.slice za zn zc)), a.val] w fun e w' => ∃ v, e = .returned v ∧ Hid (∃ fa' fl' fc' oa' on' oc' ra' rn' rc' ta' tn' tc' xa' xn' xc' ya' yn' yc' za' zn' zc' U' st' d' bl' tl' cl', v = .tuple #[.agg (wdV s b d' (.slice fa' fl' fc') (.slice oa' on' oc') (.slice ra' rn' rc') (.slice ta' tn' tc') (.slice xa' xn' xc') (.slice ya' yn' yc') (.slice za' zn' zc')), .bool true] ∧ WI B E w' s b (.slice fa' fl' fc') (.slice oa' on' oc') (.slice ra' rn' rc') (.slice ta' tn' tc') (.slice xa' xn' xc') (.slice ya' yn' yc') (.slice za' zn' zc') U' st' d' bl' tl' cl' ∧ Below B w0 w' ∧ (∀ i, E i → w'.heap[i]? = w.heap[i]?) ∧ OwnG encU 56 w' B (.slice xa xn xc) bl ∧ OwnG encU 56 w' B (.slice ya yn yc) tl ∧ OwnG encU 56 w' B (.slice za zn zc) cl ∧ Rel a.k data ps qs a.dt st d bl tl cl st' d' bl' tl' cl') := by
  obtain ⟨k, da, dn, dc, pa, pn, pc, qa, qn, qc, nm, dt, kp⟩ := a
  obtain ⟨a1, a2, a3, a4, a5, a6, a7, a8, a9, a10⟩ := hA
  simp only at a1 a2 a3 a4 a5 a6 a7 a8 a9 a10 hk
  have hc : k < 0 ∨ k = 0 ∨ k = 1 ∨ k = 2 := by omega
  rcases hc with q | rfl | rfl | rfl
  · refine (play_none hI h0 hB k q _ _ _ nm dt kp).mono ?_
    rintro e w' ⟨rfl, h⟩
    obtain ⟨h1, h2, h3⟩ := h.out
    exact ⟨_, rfl, _, _, _, _, _, _, _, _, _, _, _, _, _, _, _, _, _, _, _, _, _, _, _, _, _, _, _, rfl, h1, h2, h3, h1.ob, h1.ot, h1.oc, .inl ⟨q, rfl, rfl, rfl, rfl, rfl⟩⟩
  · refine (play_blob hI h0 hB0 hB a1 a2 a3 hok hw hsz _ _ nm dt kp _ rfl _ rfl hbn).mono ?_
    rintro e w' ⟨vf, vo, vr, vt, x, rfl, h⟩
    obtain ⟨U', h1, h2, h3, h4⟩ := h.out
    obtain ⟨fa', fl', fc', oa', on', oc', ra', rn', rc', ta', tn', tc', xa', xn', xc', _, _, _, _, _, _, rfl, rfl, rfl, rfl, rfl, _, _⟩ := h1.form
    exact ⟨_, rfl, _, _, _, _, _, _, _, _, _, _, _, _, _, _, _, _, _, _, _, _, _, _, _, _, _, _, _, rfl, h1, h2, h3, h4, h1.ot, h1.oc, .inr (.inl ⟨rfl, _, rfl, rfl, rfl, rfl, rfl, rfl⟩)⟩
  · refine (play_tree hI h0 hB0 hB a4 a5 a6 a7 a8 a9 (by omega) hok hw hsz _ nm dt kp _ rfl _ rfl hbn htn).mono ?_
    rintro e w' ⟨vf, vo, vr, vt, x, rfl, h⟩
    obtain ⟨U', h1, h2, h3, h4⟩ := h.out
    obtain ⟨fa', fl', fc', oa', on', oc', ra', rn', rc', ta', tn', tc', _, _, _, ya', yn', yc', _, _, _, rfl, rfl, rfl, rfl, _, rfl, _⟩ := h1.form
    exact ⟨_, rfl, _, _, _, _, _, _, _, _, _, _, _, _, _, _, _, _, _, _, _, _, _, _, _, _, _, _, _, rfl, h1, h2, h3, h1.ob, h4, h1.oc, .inr (.inr (.inl ⟨rfl, _, rfl, rfl, rfl, rfl, rfl, rfl⟩))⟩
  · refine (play_com hI h0 hB0 hB a1 a8 a9 a10 hok hw hsz _ nm dt kp _ rfl _ rfl htn hcn).mono ?_
    rintro e w' ⟨vf, vo, vr, vt, x, rfl, h⟩
    obtain ⟨U', h1, h2, h3, h4⟩ := h.out
    obtain ⟨fa', fl', fc', oa', on', oc', ra', rn', rc', ta', tn', tc', _, _, _, _, _, _, za', zn', zc', rfl, rfl, rfl, rfl, _, _, rfl⟩ := h1.form
    exact ⟨_, rfl, _, _, _, _, _, _, _, _, _, _, _, _, _, _, _, _, _, _, _, _, _, _, _, _, _, _, _, rfl, h1, h2, h3, h1.ob, h1.ot, h4, .inr (.inr (.inr ⟨rfl, _, rfl, rfl, rfl, rfl, rfl, rfl⟩))⟩

end Go.Proofs.YtikgbjjgpgjmfaaGreat

/-
  Puts without a program: again; another; how much more.
-/
namespace Go.Proofs.YtikgbjjgpgjmfaaGreat
open Go.RowKit

/-- What a put does. -/
theorem sput_cases (st : St) (d : Dk) (k : Int) (b : Bs) (h4 : k ≠ 4) (h5 : k ≠ 5) :
    (oget st.objs k (oid k b) = some b ∧ sput st d k b = ((st, d), oid k b, 0)) ∨
    (∃ e, e ≠ 0 ∧ (sput st d k b).2.2 = e ∧ (sput st d k b).1.1 = st ∧ ((sput st d k b).1.2 = d ∨ (sput st d k b).1.2 = (dapp d fileN (fseal (k, b)).1).1)) ∨
    (oget st.objs k (oid k b) = none ∧ sput st d k b = (({ st with objs := st.objs ++ [⟨k, oid k b, b⟩] }, (dapp d fileN (fseal (k, b)).1).1), oid k b, 0)) := by
  cases e : oget st.objs k (oid k b) with
  | some old =>
    by_cases ho : old = b
    · subst ho
      left
      refine ⟨rfl, ?_⟩
      unfold sput
      rw [e]
      simp
    · right; left
      refine ⟨13, by decide, ?_⟩
      unfold sput
      rw [e]
      simp [ho]
  | none =>
    by_cases h0 : oid k b = 0
    · right; left
      refine ⟨13, by decide, ?_⟩
      unfold sput
      rw [e]
      simp [h0]
    · by_cases hc : (dapp d fileN (fseal (k, b)).1).2 = 0
      · right; right
        refine ⟨rfl, ?_⟩
        unfold sput
        rw [e]
        simp only [h0, if_false]
        unfold sapp
        simp only [hc, if_true]
        unfold St.take
        simp [h4, h5]
      · right; left
        refine ⟨(dapp d fileN (fseal (k, b)).1).2, hc, ?_⟩
        unfold sput
        rw [e]
        simp only [h0, if_false]
        unfold sapp
        simp [hc]

theorem oget_more {l : List Ob} {o : Ob} {k : Int} {i : UInt64} {b : Bs} (h : oget l k i = some b) : oget (l ++ [o]) k i = some b := by
  rw [oget_snoc, h]

theorem sput_has {st : St} {d : Dk} {k : Int} {b : Bs} (h4 : k ≠ 4) (h5 : k ≠ 5) {j : Int} {i : UInt64} {x : Bs} (h : oget st.objs j i = some x) : oget (sput st d k b).1.1.objs j i = some x := by
  rcases sput_cases st d k b h4 h5 with ⟨_, e⟩ | ⟨_, _, _, e, _⟩ | ⟨_, e⟩
  · rw [e]; exact h
  · rw [e]; exact h
  · rw [e]; exact oget_more h

theorem sput_got {st : St} {d : Dk} {k : Int} {b : Bs} (h4 : k ≠ 4) (h5 : k ≠ 5) (h : (sput st d k b).2.2 = 0) : oget (sput st d k b).1.1.objs k (oid k b) = some b ∧ (sput st d k b).2.1 = oid k b := by
  rcases sput_cases st d k b h4 h5 with ⟨g, e⟩ | ⟨e, h0, h1, _⟩ | ⟨g, e⟩
  · rw [e]; exact ⟨g, rfl⟩
  · rw [h] at h1; exact absurd h1.symm h0
  · rw [e]
    refine ⟨?_, rfl⟩
    show oget (st.objs ++ [⟨k, oid k b, b⟩]) k (oid k b) = some b
    rw [oget_snoc, g]
    simp

theorem sput_here {st : St} {d : Dk} {k : Int} {b : Bs} (h : oget st.objs k (oid k b) = some b) : sput st d k b = ((st, d), oid k b, 0) := by
  unfold sput
  rw [h]
  simp

theorem has_get {st : St} {k : Int} {i : UInt64} : st.has k i = true ↔ ∃ b, oget st.objs k i = some b := by
  unfold St.has
  rw [Option.isSome_iff_exists]

theorem blobs_more {st st' : St} (h : ∀ j i x, oget st.objs j i = some x → oget st'.objs j i = some x) {es : List En} (hb : st.blobs es = true) : st'.blobs es = true := by
  unfold St.blobs at hb ⊢
  rw [List.all_eq_true] at hb ⊢
  intro e he
  obtain ⟨b, q⟩ := has_get.1 (hb e he)
  exact has_get.2 ⟨b, h _ _ _ q⟩
theorem above_more {st st' : St} (h : ∀ j i x, oget st.objs j i = some x → oget st'.objs j i = some x) {c : Cm} (hb : st.above c = true) : st'.above c = true := by
  unfold St.above at hb ⊢
  rw [Bool.and_eq_true, List.all_eq_true] at hb ⊢
  refine ⟨fun p hp => ?_, ?_⟩
  · obtain ⟨b, q⟩ := has_get.1 (hb.1 p hp)
    exact has_get.2 ⟨b, h _ _ _ q⟩
  · obtain ⟨b, q⟩ := has_get.1 hb.2
    exact has_get.2 ⟨b, h _ _ _ q⟩

/-- Put again: the same answer, and nothing is written. -/
theorem sblob_again {st : St} {d : Dk} {b : Bs} (h : (sblob st d b).2.2 = 0) : sblob (sblob st d b).1.1 (sblob st d b).1.2 b = ((sblob st d b).1, (sblob st d b).2.1, 0) := by
  by_cases hl : 4096 < b.length
  · unfold sblob at h
    rw [if_pos hl] at h
    cases h
  · have e : ∀ st d, sblob st d b = sput st d 1 b := fun st d => by unfold sblob; rw [if_neg hl]
    rw [e] at h
    have g := sput_got (by decide) (by decide) h
    rw [e st d, e, sput_here g.1, g.2]
theorem stree_again {st : St} {d : Dk} {es : List En} (h : (stree st d es).2.2 = 0) : stree (stree st d es).1.1 (stree st d es).1.2 es = ((stree st d es).1, (stree st d es).2.1, 0) := by
  by_cases h1 : (ftree es).2 ≠ 0
  · unfold stree at h
    rw [if_pos h1] at h
    exact absurd h h1
  by_cases h2 : st.blobs es = false
  · unfold stree at h
    rw [if_neg h1, if_pos h2] at h
    cases h
  have e : stree st d es = sput st d 2 (ftree es).1 := by unfold stree; rw [if_neg h1, if_neg h2]
  rw [e] at h ⊢
  have g := sput_got (by decide) (by decide) h
  have hb := blobs_more (st' := (sput st d 2 (ftree es).1).1.1) (fun j i x q => sput_has (by decide) (by decide) q) (by simpa using h2)
  unfold stree
  rw [if_neg h1, if_neg (by rw [hb]; decide), sput_here g.1, g.2]
theorem scom_again {st : St} {d : Dk} {c : Cm} (h : (scom st d c).2.2 = 0) : scom (scom st d c).1.1 (scom st d c).1.2 c = ((scom st d c).1, (scom st d c).2.1, 0) := by
  by_cases h1 : (fcom c).2 ≠ 0
  · unfold scom at h
    rw [if_pos h1] at h
    exact absurd h h1
  by_cases h2 : st.above c = false
  · unfold scom at h
    rw [if_neg h1, if_pos h2] at h
    cases h
  have e : scom st d c = sput st d 3 (fcom c).1 := by unfold scom; rw [if_neg h1, if_neg h2]
  rw [e] at h ⊢
  have g := sput_got (by decide) (by decide) h
  have hb := above_more (st' := (sput st d 3 (fcom c).1).1.1) (fun j i x q => sput_has (by decide) (by decide) q) (by simpa using h2)
  unfold scom
  rw [if_neg h1, if_neg (by rw [hb]; decide), sput_here g.1, g.2]

/-- Other bytes have another ID, or are refused. -/
theorem sblob_other {st : St} {d : Dk} {b b' : Bs} (hne : b' ≠ b) (h : (sblob st d b).2.2 = 0) (h' : (sblob (sblob st d b).1.1 (sblob st d b).1.2 b').2.2 = 0) : (sblob (sblob st d b).1.1 (sblob st d b).1.2 b').2.1 ≠ (sblob st d b).2.1 := by
  have hl : ¬ 4096 < b.length := by
    intro q
    unfold sblob at h
    rw [if_pos q] at h
    cases h
  have e : ∀ st d, sblob st d b = sput st d 1 b := fun st d => by unfold sblob; rw [if_neg hl]
  rw [e] at h h' ⊢
  have hl' : ¬ 4096 < b'.length := by
    intro q
    unfold sblob at h'
    rw [if_pos q] at h'
    cases h'
  have e' : ∀ st d, sblob st d b' = sput st d 1 b' := fun st d => by unfold sblob; rw [if_neg hl']
  rw [e'] at h' ⊢
  have g := sput_got (by decide) (by decide) h
  have g' := sput_got (by decide) (by decide) h'
  rw [g.2, g'.2]
  intro q
  have k1 := sput_has (k := 1) (b := b') (d := (sput st d 1 b).1.2) (by decide) (by decide) g.1
  rw [q] at g'
  rw [k1] at g'
  exact hne (Option.some.inj g'.1).symm

/-- At most one more. -/
structure More (st st' : St) (d d' : Dk) : Prop where
  size : st'.size ≤ st.size + 1
  writes : d'.writes ≤ d.writes + 1
  ok : d.ok → d'.ok
theorem More.same (st : St) (d : Dk) : More st st d d := ⟨by omega, by omega, fun h => h⟩
theorem sput_more (st : St) (d : Dk) (k : Int) (b : Bs) (h4 : k ≠ 4) (h5 : k ≠ 5) : More st (sput st d k b).1.1 d (sput st d k b).1.2 := by
  have wr : (dapp d fileN (fseal (k, b)).1).1.writes ≤ d.writes + 1 := wr_lay _ _ _ _
  rcases sput_cases st d k b h4 h5 with ⟨_, e⟩ | ⟨_, _, _, e, e2 | e2⟩ | ⟨_, e⟩
  · rw [e]; exact More.same _ _
  · rw [e, e2]; exact More.same _ _
  · rw [e, e2]; exact ⟨by omega, wr, fun h => ok_app h _ _⟩
  · rw [e]
    refine ⟨?_, wr, fun h => ok_app h _ _⟩
    unfold St.size
    simp
    omega
theorem sblob_more (st : St) (d : Dk) (b : Bs) : More st (sblob st d b).1.1 d (sblob st d b).1.2 := by
  unfold sblob
  split
  · exact More.same _ _
  · exact sput_more st d 1 b (by decide) (by decide)
theorem stree_more (st : St) (d : Dk) (es : List En) : More st (stree st d es).1.1 d (stree st d es).1.2 := by
  unfold stree
  split
  · exact More.same _ _
  · split
    · exact More.same _ _
    · exact sput_more st d 2 _ (by decide) (by decide)
theorem scom_more (st : St) (d : Dk) (c : Cm) : More st (scom st d c).1.1 d (scom st d c).1.2 := by
  unfold scom
  split
  · exact More.same _ _
  · split
    · exact More.same _ _
    · exact sput_more st d 3 _ (by decide) (by decide)

end Go.Proofs.YtikgbjjgpgjmfaaGreat
