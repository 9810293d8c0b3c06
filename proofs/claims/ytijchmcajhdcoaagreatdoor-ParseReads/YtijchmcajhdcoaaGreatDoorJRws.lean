import Derived.Test.YtijchmcajhdcoaaGreatDoorJBld
import Derived.Test.YtijchmcajhdcoaaGreatDoorJNod
import Derived.Test.YtijchmcajhdcoaaGreatDoorJDep
import Derived.Test.YtijchmcajhdcoaaGreatDoorBROps
import Derived.Test.YtijchmcajhdcoaaGreatDoorJHex
/-!
  The reference's Digits and Write, each by a contract. No condition but that the tokens are such as Scan tells.
-/
namespace Go.Proofs.YtijchmcajhdcoaaGreatDoor
open Go.RowKit

/-- The digits of a number, none of 0. -/
def dD (n : Nat) : Bs := if n = 0 then [] else Lib.decDigits n
theorem dD_step (n : Nat) : Lib.decDigits n = dD (n / 10) ++ [UInt8.ofNat (48 + n % 10)] := by
  unfold dD
  by_cases h : n < 10
  · rw [if_pos (by omega), Lib.decDigits, dif_pos h, Nat.mod_eq_of_lt h]
    rfl
  · rw [if_neg (by omega)]
    conv => lhs; rw [Lib.decDigits, dif_neg h]
theorem dD_pos (n : Nat) (h : 0 < n) : dD n = dD (n / 10) ++ [UInt8.ofNat (48 + n % 10)] := by
  have : dD n = Lib.decDigits n := by unfold dD; rw [if_neg (by omega)]
  rw [this]
  exact dD_step n

theorem dig_char (n : Nat) : ((48 : Int) + (n : Int) % 10).toNat.toUInt8 = UInt8.ofNat (48 + n % 10) := by
  have : ((48 : Int) + (n : Int) % 10).toNat = 48 + n % 10 := by omega
  rw [this]

set_option maxHeartbeats 800000 in
set_option maxRecDepth 100000 in
theorem digits_any (n : Nat) (h : n ≤ 999999999) (w : World) :
    Calls Tryz.prog 27 #[.int .i64 (n : Int)] w fun e w' => e = .returned (.string ⟨(Lib.decDigits n).toArray⟩) ∧ Below w.heap.size w w' := by
  have hcv : ∀ (m : Nat) (ww : World), _ := fun m ww => conv_one ww ((48 : Int) + (m : Int) % 10) (by omega) (by omega)
  have hwr : ∀ m : Nat, IntKind.u8.wrap ((48 : Int) + (m : Int) % 10) = 48 + (m : Int) % 10 := fun m => by rw [IntKind.wrap_u8]; omega
  have hcn := hcv n
  have hwn := hwr n
  rw [dig_char] at hcn
  go_enter Tryz.func27, Tryz.ntmps27
  go_wp2
  go_loopg [0, 3] n (fun g a b u => ∃ (m : Nat) (X : ByteArray), a = .int .i64 (m : Int) ∧ b = .string X ∧ m ≤ g ∧ X.size + m ≤ n + 1 ∧ Hid (Lib.decDigits n = dD m ++ X.data.toList) ∧ Hid (Below w.heap.size w u))
  case atStart => exact ⟨n / 10, _, by go_num, rfl, by omega, by show 1 + n / 10 ≤ _; omega, dD_step n, (Below.refl _ w).alloc (Nat.le_refl _) _⟩
  case round =>
    obtain ⟨m, X, rfl, rfl, hm, hX, HD, HW⟩ := hrel
    have hcm := hcv m
    have hwm := hwr m
    rw [dig_char] at hcm
    by_cases h0 : 0 < m
    · have h0i : (0 : Int) < (m : Int) := by omega
      have HN := dD_pos m h0
      have HNN : Hid (_ = _) := HN
      clear HN
      go_wp2
      go_roundg (gk - 1)
      case measure => omega
      case rel =>
        refine ⟨m / 10, _, by go_num, rfl, by omega, ?_, ?_, ?_⟩
        · rw [ByteArray.size_append]
          show 1 + X.size + m / 10 ≤ _
          omega
        · show _ = _
          rw [HD.out, HNN.out, ByteArray.data_append]
          simp
        · exact HW.out.trans ((bz1 wr _).mono HW.out.size)
    · obtain rfl : m = 0 := by omega
      go_wp2
      go_ret
      refine ⟨?_, HW.out⟩
      have := HD.out
      rw [show dD 0 = [] from rfl, List.nil_append] at this
      rw [this]
      rfl

theorem one_size (c : UInt8) : ({ data := #[c] } : ByteArray).size = 1 := rfl

end Go.Proofs.YtijchmcajhdcoaaGreatDoor

/-!
  The reference's Show (and in) by contracts: of a tree the text that it is shown by. No condition but that the tree is one that is read.
-/
namespace Go.Proofs.YtijchmcajhdcoaaGreatDoor
open Go.RowKit

/-- What is to be shown of a tree. -/
def RSh (n : Nd) : Prop := n.wt ≤ 200000 → ∀ (Q : Nat → Prop) (w : World) (v : NV), NdIn Q w v n → Calls Tryz.prog 10 #[v.val] w fun e w' => e = .returned (.string ⟨(txt n.ps).toArray⟩) ∧ Below w.heap.size w w'
theorem ba_eq {A : ByteArray} {l : Bs} (h : A.data.toList = l) : A = ⟨l.toArray⟩ := by
  cases A with
  | mk d =>
    subst h
    simp
theorem kid_wt (n k : Nd) (hk : k ∈ ndL n.kids) : k.wt ≤ n.wt := by
  have h1 := fw_kids n.kids
  have h2 : ∀ l : List Nd, k ∈ l → k.wt ≤ (l.map fun k => k.wt + 4).sum := by
    intro l
    induction l with
    | nil => intro h; cases h
    | cons a l ih =>
      intro h
      simp only [List.map_cons, List.sum_cons]
      rcases List.mem_cons.1 h with rfl | h
      · omega
      · have := ih h
        omega
  have h3 := h2 _ hk
  unfold Nd.wt at h3 h1 ⊢
  omega
theorem hex_size (id : Int) : (hexS id).size ≤ 100 := by
  show (hexTail id 16).length ≤ 100
  simp [hexTail]
theorem brk_size {F : Int} {x : Nd} (hw : WfT x) (h : x.wt ≤ 200000) : (brk F (x.op, txt x.ps)).length ≤ 200002 := by
  have h1 := brk_len F (x.op, txt x.ps)
  have h2 := shown_len x hw
  simp only at h1
  omega
theorem sadd (a b : ByteArray) (h : a.size + b.size ≤ 1000000) (w : World) : (Op.stringOp .add a b).run Tryz.prog w = .ok (.string (a ++ b)) w := by
  have h1 : ¬ (((a.size + b.size : Nat) : Int) > IntKind.i64.max) := by
    have : IntKind.i64.max = 9223372036854775807 := by decide
    rw [this]
    omega
  unfold Op.stringOp
  simp
  omega
theorem ret_eq {A : ByteArray} {l : Bs} (h : A.data.toList = l) : Ending.returned (.string A) = .returned (.string ⟨l.toArray⟩) := by rw [ba_eq h]

set_option maxHeartbeats 1600000 in
set_option maxRecDepth 100000 in
/-- in: a text, in brackets if its level is too low. -/
theorem rin_any (k : Nd) (hkw : WfT k ∧ k.wt ≤ 200000) (h : RSh k) (want : Int) (Q : Nat → Prop) (w : World) (v : NV) (hv : NdIn Q w v k) :
    Calls Tryz.prog 28 #[v.val, .int .i64 want] w fun e w' => e = .returned (.string ⟨(brk want (k.op, txt k.ps)).toArray⟩) ∧ Below w.heap.size w w' := by
  have hop := hv.op
  obtain ⟨vo, vt, vn, vi, va, vl, vc, vp⟩ := v
  simp only at hop
  obtain ⟨W3, m3, hW3, hm3, hx3, bW3, _, hB3, hlt3⟩ := lay6 (Below.refl _ w) (Nat.le_refl _) 34 (.int .i64 vo) (.string ⟨vt.toArray⟩) (.int .i64 vn) (.int .u64 vi) (.slice va vl vc) (.int .i64 vp)
  obtain ⟨e0, e1, e2, e3, e4, e5⟩ := hx3.cells
  obtain ⟨T, hT⟩ : ∃ T : ByteArray, (⟨(txt k.ps).toArray⟩ : ByteArray) = T := ⟨_, rfl⟩
  have hsh := h hkw.2 Q W3 _ (hv.below bW3)
  rw [hT] at hsh
  have hTs : T.size ≤ 200000 := by
    have := shown_len k hkw.1
    rw [← hT]
    show (txt k.ps).length ≤ _
    omega
  have HS : Hid (Calls Tryz.prog 10 #[.agg #[.int .i64 vo, .string ⟨vt.toArray⟩, .int .i64 vn, .int .u64 vi, .slice va vl vc, .int .i64 vp]] W3 fun e w' => e = .returned (.string T) ∧ Below W3.heap.size W3 w') := hsh
  have HT : Hid (T.data.toList = txt k.ps ∧ vo = k.op ∧ Below w.heap.size w W3) := ⟨by rw [← hT], hop, bW3⟩
  have hlv := rlevel_any vo W3
  obtain ⟨V, hV⟩ : ∃ V, lvl vo = V := ⟨_, rfl⟩
  rw [hV] at hlv
  have HV : Hid (lvl vo = V) := hV
  clear hx3 hsh hT hop hv bW3 hV
  go_enter Tryz.func28, Tryz.ntmps28
  go_upto_region 1 with fail
  clear hW3 hm3
  by_cases hw : V < want
  · go_wp2_with (first
      | (go_at_call 18; refine hlv.mono ?_; rintro e w6 ⟨rfl, hw6⟩; rw [hw6]; clear hw6)
      | (go_at_call 10; refine HS.out.mono ?_; rintro e w7 ⟨rfl, b7⟩))
    go_ret
    refine ⟨ret_eq ?_, HT.out.2.2.trans (b7.mono HT.out.2.2.size)⟩
    rw [brk, if_pos (by rw [← HT.out.2.1, HV.out]; exact hw), ← HT.out.1]
    simp
  · go_wp2_with (first
      | (go_at_call 18; refine hlv.mono ?_; rintro e w6 ⟨rfl, hw6⟩; rw [hw6]; clear hw6)
      | (go_at_call 10; refine HS.out.mono ?_; rintro e w7 ⟨rfl, b7⟩))
    go_ret
    refine ⟨ret_eq ?_, HT.out.2.2.trans (b7.mono HT.out.2.2.size)⟩
    rw [brk, if_neg (by rw [← HT.out.2.1, HV.out]; omega), ← HT.out.1]

set_option maxHeartbeats 3200000 in
set_option maxRecDepth 100000 in
theorem rshow_name (nd : Nd) (hw : WfT nd) (hop : nd.op = 1) : RSh nd := by
  intro hwt Q w v hv
  have hvo := hv.op
  have hvt := hv.text
  have hvn := hv.num
  have hvi := hv.id
  rw [hop] at hvo
  have hwf := hw.1
  rw [hop] at hwf
  obtain ⟨vo, vt, vn, vi, va, vl, vc, vp⟩ := v
  simp only at hvo hvt hvn hvi
  subst hvo
  obtain ⟨W3, m3, hW3, hm3, hx3, bW3, _, hB3, hlt3⟩ := lay6 (Below.refl _ w) (Nat.le_refl _) 34 (.int .i64 1) (.string ⟨vt.toArray⟩) (.int .i64 vn) (.int .u64 vi) (.slice va vl vc) (.int .i64 vp)
  obtain ⟨e0, e1, e2, e3, e4, e5⟩ := hx3.cells
  have HB : Hid (Below w.heap.size w W3 ∧ vt = nd.text) := ⟨bW3, hvt⟩
  clear bW3
  clear hx3 hv hw hwf hvt hvn hvi hwt
  go_enter Tryz.func10, Tryz.ntmps10
  go_upto_region 1 with fail
  clear hW3 hm3
  go_wp2_with fail
  go_ret
  exact ⟨ret_eq (by rw [shown_name hop, ← HB.out.2]), HB.out.1⟩

set_option maxHeartbeats 3200000 in
set_option maxRecDepth 100000 in
theorem rshow_hash (nd : Nd) (hw : WfT nd) (hop : nd.op = 2) : RSh nd := by
  intro hwt Q w v hv
  have hvo := hv.op
  have hvt := hv.text
  have hvn := hv.num
  have hvi := hv.id
  rw [hop] at hvo
  have hwf := hw.1
  rw [hop] at hwf
  obtain ⟨vo, vt, vn, vi, va, vl, vc, vp⟩ := v
  simp only at hvo hvt hvn hvi
  subst hvo
  obtain ⟨W3, m3, hW3, hm3, hx3, bW3, _, hB3, hlt3⟩ := lay6 (Below.refl _ w) (Nat.le_refl _) 34 (.int .i64 2) (.string ⟨vt.toArray⟩) (.int .i64 vn) (.int .u64 vi) (.slice va vl vc) (.int .i64 vp)
  obtain ⟨e0, e1, e2, e3, e4, e5⟩ := hx3.cells
  have hg : Gd (haT nd.id) := by
    rcases hwf with ⟨h, _⟩ | ⟨_, _, _, h, _⟩ | ⟨h, _⟩ | ⟨h, _⟩ | ⟨h, _⟩ | ⟨h, _⟩ | ⟨h, _⟩ | ⟨h, _⟩
    · exact absurd h (by decide)
    · exact h
    · exact absurd h (by decide)
    · exact absurd h (by decide)
    · exact absurd h (by decide)
    · exact absurd h (by decide)
    · exact absurd h (by decide)
    · exact absurd h (by decide)
  have hid : 0 ≤ vi ∧ vi < 18446744073709551616 := by rw [hvi]; exact hg.id
  have hhx := rhex_any vi hid.1 hid.2 W3
  obtain ⟨T, hT⟩ : ∃ T : ByteArray, hexS vi = T := ⟨_, rfl⟩
  rw [hT] at hhx
  have hTs : T.size ≤ 100 := by rw [← hT]; exact hex_size vi
  have HB : Hid (Below w.heap.size w W3 ∧ hexS vi = T ∧ vi = nd.id) := ⟨bW3, hT, hvi⟩
  clear bW3 hT hg hid
  clear hx3 hv hw hwf hvt hvn hvi hwt
  go_enter Tryz.func10, Tryz.ntmps10
  go_upto_region 1 with fail
  clear hW3 hm3
  go_wp2_with (go_at_call 26; refine hhx.mono ?_; rintro e w6 ⟨rfl, b6⟩)
  go_ret
  refine ⟨ret_eq ?_, HB.out.1.trans (b6.mono HB.out.1.size)⟩
  rw [shown_hash hop, ← HB.out.2.1, ← HB.out.2.2]
  simp [st, haT, hexS]

set_option maxHeartbeats 3200000 in
set_option maxRecDepth 100000 in
theorem rshow_num (nd : Nd) (hw : WfT nd) (hop : nd.op = 3) : RSh nd := by
  intro hwt Q w v hv
  have hvo := hv.op
  have hvt := hv.text
  have hvn := hv.num
  have hvi := hv.id
  rw [hop] at hvo
  have hwf := hw.1
  rw [hop] at hwf
  obtain ⟨vo, vt, vn, vi, va, vl, vc, vp⟩ := v
  simp only at hvo hvt hvn hvi
  subst hvo
  obtain ⟨W3, m3, hW3, hm3, hx3, bW3, _, hB3, hlt3⟩ := lay6 (Below.refl _ w) (Nat.le_refl _) 34 (.int .i64 3) (.string ⟨vt.toArray⟩) (.int .i64 vn) (.int .u64 vi) (.slice va vl vc) (.int .i64 vp)
  obtain ⟨e0, e1, e2, e3, e4, e5⟩ := hx3.cells
  have hg : Gd (nuT nd.num) := by
    rcases hwf with ⟨h, _⟩ | ⟨h, _⟩ | ⟨_, _, h, _⟩ | ⟨h, _⟩ | ⟨h, _⟩ | ⟨h, _⟩ | ⟨h, _⟩ | ⟨h, _⟩
    · exact absurd h (by decide)
    · exact absurd h (by decide)
    · exact h
    · exact absurd h (by decide)
    · exact absurd h (by decide)
    · exact absurd h (by decide)
    · exact absurd h (by decide)
    · exact absurd h (by decide)
  obtain ⟨m, hm⟩ : ∃ m : Nat, vn = (m : Int) := ⟨vn.toNat, by have := hg.num.1; rw [hvn]; simp only [nuT] at this; omega⟩
  subst hm
  have hdg := digits_any m (by have := hg.num.2; simp only [nuT] at this; omega) W3
  obtain ⟨T, hT⟩ : ∃ T : ByteArray, (⟨(Lib.decDigits m).toArray⟩ : ByteArray) = T := ⟨_, rfl⟩
  rw [hT] at hdg
  have HB : Hid (Below w.heap.size w W3 ∧ T.data.toList = Lib.decDigits m ∧ (m : Int) = nd.num) := ⟨bW3, by rw [← hT], hvn⟩
  clear bW3 hT hg
  clear hx3 hv hw hwf hvt hvn hvi hwt
  go_enter Tryz.func10, Tryz.ntmps10
  go_upto_region 1 with fail
  clear hW3 hm3
  go_wp2_with (go_at_call 27; refine hdg.mono ?_; rintro e w6 ⟨rfl, b6⟩)
  go_ret
  refine ⟨ret_eq ?_, HB.out.1.trans (b6.mono HB.out.1.size)⟩
  rw [shown_num hop, HB.out.2.1, ← HB.out.2.2]
  exact (itoa_nat m).symm

set_option maxHeartbeats 3200000 in
set_option maxRecDepth 100000 in
theorem rshow_text (nd : Nd) (hw : WfT nd) (hop : nd.op = 4) : RSh nd := by
  intro hwt Q w v hv
  have hvo := hv.op
  have hvt := hv.text
  have hvn := hv.num
  have hvi := hv.id
  rw [hop] at hvo
  have hwf := hw.1
  rw [hop] at hwf
  obtain ⟨vo, vt, vn, vi, va, vl, vc, vp⟩ := v
  simp only at hvo hvt hvn hvi
  subst hvo
  obtain ⟨W3, m3, hW3, hm3, hx3, bW3, _, hB3, hlt3⟩ := lay6 (Below.refl _ w) (Nat.le_refl _) 34 (.int .i64 4) (.string ⟨vt.toArray⟩) (.int .i64 vn) (.int .u64 vi) (.slice va vl vc) (.int .i64 vp)
  obtain ⟨e0, e1, e2, e3, e4, e5⟩ := hx3.cells
  have hvl : vt.length ≤ 200000 := by rw [hvt]; unfold Nd.wt at hwt; omega
  have HB : Hid (Below w.heap.size w W3 ∧ vt = nd.text) := ⟨bW3, hvt⟩
  clear bW3
  clear hx3 hv hw hwf hvt hvn hvi hwt
  go_enter Tryz.func10, Tryz.ntmps10
  go_upto_region 1 with fail
  clear hW3 hm3
  go_wp2_with fail
  go_ret
  refine ⟨ret_eq ?_, HB.out.1⟩
  rw [shown_text hop, ← HB.out.2]
  simp [st, txT]

set_option maxHeartbeats 3200000 in
set_option maxRecDepth 100000 in
theorem rshow_or (nd : Nd) (hw : WfT nd) (hop : nd.op = 6) (hP : ∀ k ∈ ndL nd.kids, RSh k) : RSh nd := by
  intro hwt Q w v hv
  have hvo := hv.op
  have hvt := hv.text
  have hvn := hv.num
  have hvi := hv.id
  rw [hop] at hvo
  have hwf := hw.1
  rw [hop] at hwf
  have hkw : ∀ k ∈ ndL nd.kids, WfT k ∧ k.wt ≤ 200000 := fun k hk => ⟨wf_kids _ hw.2 k hk, Nat.le_trans (kid_wt nd k hk) hwt⟩
  obtain ⟨us, hrd, _, hns, hul⟩ := hv.rows
  have hkl := hv.kl
  have hkc := hv.kc
  obtain ⟨vo, vt, vn, vi, va, vl, vc, vp⟩ := v
  simp only at hvo hvt hvn hvi hrd hul hkl hkc
  subst hvo
  obtain ⟨W3, m3, hW3, hm3, hx3, bW3, _, hB3, hlt3⟩ := lay6 (Below.refl _ w) (Nat.le_refl _) 34 (.int .i64 6) (.string ⟨vt.toArray⟩) (.int .i64 vn) (.int .u64 vi) (.slice va vl vc) (.int .i64 vp)
  obtain ⟨x, y, hks⟩ := kids_two (n := nd) (by rcases hwf with ⟨h, _⟩ | ⟨h, _⟩ | ⟨h, _⟩ | ⟨h, _⟩ | ⟨h, _⟩ | ⟨_, _, _, _, h⟩ | ⟨h, _⟩ | ⟨h, _⟩ <;> first | exact h | exact absurd h (by decide))
  rw [hks] at hns
  obtain ⟨v0, hv0, hn0⟩ := hns.get (i := 0) (n := x) rfl
  obtain ⟨v1, hv1, hn1⟩ := hns.get (i := 1) (n := y) rfl
  obtain ⟨kb, ko, e9, hkb⟩ := hrd.some_of hv0
  subst e9
  have hl2 : vl = 2 := by rw [hkl, ← ndL_len, hks]; rfl
  subst hl2
  have hc0 := fun u (hu : Below W3.heap.size W3 u) => ((hrd.below bW3).below hu).node hv0
  have hc1 := fun u (hu : Below W3.heap.size W3 u) => ((hrd.below bW3).below hu).node hv1
  obtain ⟨o0, t0, n0, i0, a0, l0, c0, p0⟩ := v0
  obtain ⟨o1, t1, n1, i1, a1, l1, c1, p1⟩ := v1
  obtain ⟨T0, hT0⟩ : ∃ T : ByteArray, (⟨(brk 1 (x.op, txt x.ps)).toArray⟩ : ByteArray) = T := ⟨_, rfl⟩
  obtain ⟨T1, hT1⟩ : ∃ T : ByteArray, (⟨(brk 2 (y.op, txt y.ps)).toArray⟩ : ByteArray) = T := ⟨_, rfl⟩
  have HK0 : Hid (∀ u, Below W3.heap.size W3 u → Calls Tryz.prog 28 #[.agg #[.int .i64 o0, .string ⟨t0.toArray⟩, .int .i64 n0, .int .u64 i0, .slice a0 l0 c0, .int .i64 p0], .int .i64 1] u fun e w' => e = .returned (.string T0) ∧ Below u.heap.size u w') := fun u hu => by
    have hm : x ∈ ndL nd.kids := by rw [hks]; simp
    have hin := rin_any x (hkw x hm) (hP x hm) 1 Q u ⟨o0, t0, n0, i0, a0, l0, c0, p0⟩ ((hn0.below bW3).below hu)
    rw [hT0] at hin
    exact hin
  have HK1 : Hid (∀ u, Below W3.heap.size W3 u → Calls Tryz.prog 28 #[.agg #[.int .i64 o1, .string ⟨t1.toArray⟩, .int .i64 n1, .int .u64 i1, .slice a1 l1 c1, .int .i64 p1], .int .i64 2] u fun e w' => e = .returned (.string T1) ∧ Below u.heap.size u w') := fun u hu => by
    have hm : y ∈ ndL nd.kids := by rw [hks]; simp
    have hin := rin_any y (hkw y hm) (hP y hm) 2 Q u ⟨o1, t1, n1, i1, a1, l1, c1, p1⟩ ((hn1.below bW3).below hu)
    rw [hT1] at hin
    exact hin
  have KS : Hid (∀ u, Below W3.heap.size W3 u → u.cell? ⟨m3, 4, none⟩ = some (.slice (some ⟨kb, ko, none⟩) 2 vc) ∧ u.cell? ⟨kb, ko, none⟩ = some (.int .i64 o0) ∧ u.cell? ⟨kb, ko + 1, none⟩ = some (.string ⟨t0.toArray⟩) ∧ u.cell? ⟨kb, ko + 2, none⟩ = some (.int .i64 n0) ∧ u.cell? ⟨kb, ko + 3, none⟩ = some (.int .u64 i0) ∧ u.cell? ⟨kb, ko + 4, none⟩ = some (.slice a0 l0 c0) ∧ u.cell? ⟨kb, ko + 5, none⟩ = some (.int .i64 p0) ∧ u.cell? ⟨kb, ko + 6, none⟩ = some (.int .i64 o1) ∧ u.cell? ⟨kb, ko + 7, none⟩ = some (.string ⟨t1.toArray⟩) ∧ u.cell? ⟨kb, ko + 8, none⟩ = some (.int .i64 n1) ∧ u.cell? ⟨kb, ko + 9, none⟩ = some (.int .u64 i1) ∧ u.cell? ⟨kb, ko + 10, none⟩ = some (.slice a1 l1 c1) ∧ u.cell? ⟨kb, ko + 11, none⟩ = some (.int .i64 p1)) := fun u hu => by
    have h4 := (hx3.below hu).cells.2.2.2.2.1
    obtain ⟨z0, z1, z2, z3, z4, z5⟩ := hc0 u hu
    obtain ⟨y0, y1, y2, y3, y4, y5⟩ := hc1 u hu
    simp only [Nat.zero_mul, Nat.add_zero, Nat.one_mul, Nat.add_assoc, Nat.reduceAdd] at z0 z1 z2 z3 z4 z5 y0 y1 y2 y3 y4 y5
    exact ⟨h4, z0, z1, z2, z3, z4, z5, y0, y1, y2, y3, y4, y5⟩
  have hz0 : T0.size ≤ 200002 := by rw [← hT0]; exact brk_size (hkw x (by rw [hks]; simp)).1 (hkw x (by rw [hks]; simp)).2
  have hz1 : T1.size ≤ 200002 := by rw [← hT1]; exact brk_size (hkw y (by rw [hks]; simp)).1 (hkw y (by rw [hks]; simp)).2
  have HB : Hid (Below w.heap.size w W3 ∧ T0.data.toList = brk 1 (x.op, txt x.ps) ∧ T1.data.toList = brk 2 (y.op, txt y.ps) ∧ ndL nd.kids = [x, y]) := ⟨bW3, by rw [← hT0], by rw [← hT1], hks⟩
  obtain ⟨e0, e1, e2, e3, e4, e5⟩ := hx3.cells
  obtain ⟨_, z0, z1, z2, z3, z4, z5, y0, y1, y2, y3, y4, y5⟩ := KS.out W3 (Below.refl _ _)
  clear hx3 hv hwf hvt hvn hvi bW3 hc0 hc1 hT0 hT1 hn0 hn1 hv0 hv1 hrd hns hul hkl hP hks hkb hkw hwt
  go_enter Tryz.func10, Tryz.ntmps10
  go_upto_region 1 with fail
  clear hW3 hm3
  have ha0 := sadd T0 ⟨#[32, 124, 32]⟩ (by show T0.size + 3 ≤ _; omega)
  have ha1 := sadd (T0 ++ ⟨#[32, 124, 32]⟩) T1 (by rw [ByteArray.size_append]; show T0.size + 3 + T1.size ≤ _; omega)
  go_upto_region 18 with fail
  go_region_held3 (fun u => u.cell? ⟨m3, 4, none⟩ = some (.slice (some ⟨kb, ko, none⟩) 2 vc) ∧ u.cell? ⟨kb, ko, none⟩ = some (.int .i64 o0) ∧ u.cell? ⟨kb, ko + 1, none⟩ = some (.string ⟨t0.toArray⟩) ∧ u.cell? ⟨kb, ko + 2, none⟩ = some (.int .i64 n0) ∧ u.cell? ⟨kb, ko + 3, none⟩ = some (.int .u64 i0) ∧ u.cell? ⟨kb, ko + 4, none⟩ = some (.slice a0 l0 c0) ∧ u.cell? ⟨kb, ko + 5, none⟩ = some (.int .i64 p0) ∧ u.cell? ⟨kb, ko + 6, none⟩ = some (.int .i64 o1) ∧ u.cell? ⟨kb, ko + 7, none⟩ = some (.string ⟨t1.toArray⟩) ∧ u.cell? ⟨kb, ko + 8, none⟩ = some (.int .i64 n1) ∧ u.cell? ⟨kb, ko + 9, none⟩ = some (.int .u64 i1) ∧ u.cell? ⟨kb, ko + 10, none⟩ = some (.slice a1 l1 c1) ∧ u.cell? ⟨kb, ko + 11, none⟩ = some (.int .i64 p1))
    (first | with_reducible exact kS7 | with_reducible exact kS6 | go_keep)
    (first
      | (go_at_call 28; (with_reducible refine (HK1.out _ B6.out).mono ?_); rintro e w7 ⟨rfl, b7⟩; have B7 : Hid (Below W3.heap.size W3 w7) := B6.out.trans (b7.mono B6.out.size); have kS7 := KS.out _ B7.out; clear b7)
      | (go_at_call 28; (with_reducible refine (HK0.out _ (by exact (Below.refl _ W3).drew)).mono ?_); rintro e w6 ⟨rfl, b6⟩; have B6 : Hid (Below W3.heap.size W3 w6) := undrewB b6; have kS6 := KS.out _ B6.out; clear b6)
      | fail)
  go_wp2_with fail
  go_ret
  refine ⟨ret_eq ?_, HB.out.1.trans (B7.out.mono HB.out.1.size)⟩
  rw [shown_bin (i := 0) (hx := rfl) hop (by rw [← ndL_len, HB.out.2.2.2]; rfl)]
  show _ = wk [32, 124, 32] 1 2 ((ndL nd.kids).map _)
  rw [HB.out.2.2.2]
  simp [wk, HB.out.2.1, HB.out.2.2.1]

set_option maxHeartbeats 3200000 in
set_option maxRecDepth 100000 in
theorem rshow_minus (nd : Nd) (hw : WfT nd) (hop : nd.op = 7) (hP : ∀ k ∈ ndL nd.kids, RSh k) : RSh nd := by
  intro hwt Q w v hv
  have hvo := hv.op
  have hvt := hv.text
  have hvn := hv.num
  have hvi := hv.id
  rw [hop] at hvo
  have hwf := hw.1
  rw [hop] at hwf
  have hkw : ∀ k ∈ ndL nd.kids, WfT k ∧ k.wt ≤ 200000 := fun k hk => ⟨wf_kids _ hw.2 k hk, Nat.le_trans (kid_wt nd k hk) hwt⟩
  obtain ⟨us, hrd, _, hns, hul⟩ := hv.rows
  have hkl := hv.kl
  have hkc := hv.kc
  obtain ⟨vo, vt, vn, vi, va, vl, vc, vp⟩ := v
  simp only at hvo hvt hvn hvi hrd hul hkl hkc
  subst hvo
  obtain ⟨W3, m3, hW3, hm3, hx3, bW3, _, hB3, hlt3⟩ := lay6 (Below.refl _ w) (Nat.le_refl _) 34 (.int .i64 7) (.string ⟨vt.toArray⟩) (.int .i64 vn) (.int .u64 vi) (.slice va vl vc) (.int .i64 vp)
  obtain ⟨x, y, hks⟩ := kids_two (n := nd) (by rcases hwf with ⟨h, _⟩ | ⟨h, _⟩ | ⟨h, _⟩ | ⟨h, _⟩ | ⟨h, _⟩ | ⟨_, _, _, _, h⟩ | ⟨h, _⟩ | ⟨h, _⟩ <;> first | exact h | exact absurd h (by decide))
  rw [hks] at hns
  obtain ⟨v0, hv0, hn0⟩ := hns.get (i := 0) (n := x) rfl
  obtain ⟨v1, hv1, hn1⟩ := hns.get (i := 1) (n := y) rfl
  obtain ⟨kb, ko, e9, hkb⟩ := hrd.some_of hv0
  subst e9
  have hl2 : vl = 2 := by rw [hkl, ← ndL_len, hks]; rfl
  subst hl2
  have hc0 := fun u (hu : Below W3.heap.size W3 u) => ((hrd.below bW3).below hu).node hv0
  have hc1 := fun u (hu : Below W3.heap.size W3 u) => ((hrd.below bW3).below hu).node hv1
  obtain ⟨o0, t0, n0, i0, a0, l0, c0, p0⟩ := v0
  obtain ⟨o1, t1, n1, i1, a1, l1, c1, p1⟩ := v1
  obtain ⟨T0, hT0⟩ : ∃ T : ByteArray, (⟨(brk 1 (x.op, txt x.ps)).toArray⟩ : ByteArray) = T := ⟨_, rfl⟩
  obtain ⟨T1, hT1⟩ : ∃ T : ByteArray, (⟨(brk 2 (y.op, txt y.ps)).toArray⟩ : ByteArray) = T := ⟨_, rfl⟩
  have HK0 : Hid (∀ u, Below W3.heap.size W3 u → Calls Tryz.prog 28 #[.agg #[.int .i64 o0, .string ⟨t0.toArray⟩, .int .i64 n0, .int .u64 i0, .slice a0 l0 c0, .int .i64 p0], .int .i64 1] u fun e w' => e = .returned (.string T0) ∧ Below u.heap.size u w') := fun u hu => by
    have hm : x ∈ ndL nd.kids := by rw [hks]; simp
    have hin := rin_any x (hkw x hm) (hP x hm) 1 Q u ⟨o0, t0, n0, i0, a0, l0, c0, p0⟩ ((hn0.below bW3).below hu)
    rw [hT0] at hin
    exact hin
  have HK1 : Hid (∀ u, Below W3.heap.size W3 u → Calls Tryz.prog 28 #[.agg #[.int .i64 o1, .string ⟨t1.toArray⟩, .int .i64 n1, .int .u64 i1, .slice a1 l1 c1, .int .i64 p1], .int .i64 2] u fun e w' => e = .returned (.string T1) ∧ Below u.heap.size u w') := fun u hu => by
    have hm : y ∈ ndL nd.kids := by rw [hks]; simp
    have hin := rin_any y (hkw y hm) (hP y hm) 2 Q u ⟨o1, t1, n1, i1, a1, l1, c1, p1⟩ ((hn1.below bW3).below hu)
    rw [hT1] at hin
    exact hin
  have KS : Hid (∀ u, Below W3.heap.size W3 u → u.cell? ⟨m3, 4, none⟩ = some (.slice (some ⟨kb, ko, none⟩) 2 vc) ∧ u.cell? ⟨kb, ko, none⟩ = some (.int .i64 o0) ∧ u.cell? ⟨kb, ko + 1, none⟩ = some (.string ⟨t0.toArray⟩) ∧ u.cell? ⟨kb, ko + 2, none⟩ = some (.int .i64 n0) ∧ u.cell? ⟨kb, ko + 3, none⟩ = some (.int .u64 i0) ∧ u.cell? ⟨kb, ko + 4, none⟩ = some (.slice a0 l0 c0) ∧ u.cell? ⟨kb, ko + 5, none⟩ = some (.int .i64 p0) ∧ u.cell? ⟨kb, ko + 6, none⟩ = some (.int .i64 o1) ∧ u.cell? ⟨kb, ko + 7, none⟩ = some (.string ⟨t1.toArray⟩) ∧ u.cell? ⟨kb, ko + 8, none⟩ = some (.int .i64 n1) ∧ u.cell? ⟨kb, ko + 9, none⟩ = some (.int .u64 i1) ∧ u.cell? ⟨kb, ko + 10, none⟩ = some (.slice a1 l1 c1) ∧ u.cell? ⟨kb, ko + 11, none⟩ = some (.int .i64 p1)) := fun u hu => by
    have h4 := (hx3.below hu).cells.2.2.2.2.1
    obtain ⟨z0, z1, z2, z3, z4, z5⟩ := hc0 u hu
    obtain ⟨y0, y1, y2, y3, y4, y5⟩ := hc1 u hu
    simp only [Nat.zero_mul, Nat.add_zero, Nat.one_mul, Nat.add_assoc, Nat.reduceAdd] at z0 z1 z2 z3 z4 z5 y0 y1 y2 y3 y4 y5
    exact ⟨h4, z0, z1, z2, z3, z4, z5, y0, y1, y2, y3, y4, y5⟩
  have hz0 : T0.size ≤ 200002 := by rw [← hT0]; exact brk_size (hkw x (by rw [hks]; simp)).1 (hkw x (by rw [hks]; simp)).2
  have hz1 : T1.size ≤ 200002 := by rw [← hT1]; exact brk_size (hkw y (by rw [hks]; simp)).1 (hkw y (by rw [hks]; simp)).2
  have HB : Hid (Below w.heap.size w W3 ∧ T0.data.toList = brk 1 (x.op, txt x.ps) ∧ T1.data.toList = brk 2 (y.op, txt y.ps) ∧ ndL nd.kids = [x, y]) := ⟨bW3, by rw [← hT0], by rw [← hT1], hks⟩
  obtain ⟨e0, e1, e2, e3, e4, e5⟩ := hx3.cells
  obtain ⟨_, z0, z1, z2, z3, z4, z5, y0, y1, y2, y3, y4, y5⟩ := KS.out W3 (Below.refl _ _)
  clear hx3 hv hwf hvt hvn hvi bW3 hc0 hc1 hT0 hT1 hn0 hn1 hv0 hv1 hrd hns hul hkl hP hks hkb hkw hwt
  go_enter Tryz.func10, Tryz.ntmps10
  go_upto_region 1 with fail
  clear hW3 hm3
  have ha0 := sadd T0 ⟨#[32, 45, 32]⟩ (by show T0.size + 3 ≤ _; omega)
  have ha1 := sadd (T0 ++ ⟨#[32, 45, 32]⟩) T1 (by rw [ByteArray.size_append]; show T0.size + 3 + T1.size ≤ _; omega)
  go_upto_region 20 with fail
  go_region_held3 (fun u => u.cell? ⟨m3, 4, none⟩ = some (.slice (some ⟨kb, ko, none⟩) 2 vc) ∧ u.cell? ⟨kb, ko, none⟩ = some (.int .i64 o0) ∧ u.cell? ⟨kb, ko + 1, none⟩ = some (.string ⟨t0.toArray⟩) ∧ u.cell? ⟨kb, ko + 2, none⟩ = some (.int .i64 n0) ∧ u.cell? ⟨kb, ko + 3, none⟩ = some (.int .u64 i0) ∧ u.cell? ⟨kb, ko + 4, none⟩ = some (.slice a0 l0 c0) ∧ u.cell? ⟨kb, ko + 5, none⟩ = some (.int .i64 p0) ∧ u.cell? ⟨kb, ko + 6, none⟩ = some (.int .i64 o1) ∧ u.cell? ⟨kb, ko + 7, none⟩ = some (.string ⟨t1.toArray⟩) ∧ u.cell? ⟨kb, ko + 8, none⟩ = some (.int .i64 n1) ∧ u.cell? ⟨kb, ko + 9, none⟩ = some (.int .u64 i1) ∧ u.cell? ⟨kb, ko + 10, none⟩ = some (.slice a1 l1 c1) ∧ u.cell? ⟨kb, ko + 11, none⟩ = some (.int .i64 p1))
    (first | with_reducible exact kS7 | with_reducible exact kS6 | go_keep)
    (first
      | (go_at_call 28; (with_reducible refine (HK1.out _ B6.out).mono ?_); rintro e w7 ⟨rfl, b7⟩; have B7 : Hid (Below W3.heap.size W3 w7) := B6.out.trans (b7.mono B6.out.size); have kS7 := KS.out _ B7.out; clear b7)
      | (go_at_call 28; (with_reducible refine (HK0.out _ (by exact (Below.refl _ W3).drew)).mono ?_); rintro e w6 ⟨rfl, b6⟩; have B6 : Hid (Below W3.heap.size W3 w6) := undrewB b6; have kS6 := KS.out _ B6.out; clear b6)
      | fail)
  go_wp2_with fail
  go_ret
  refine ⟨ret_eq ?_, HB.out.1.trans (B7.out.mono HB.out.1.size)⟩
  rw [shown_bin (i := 1) (hx := rfl) hop (by rw [← ndL_len, HB.out.2.2.2]; rfl)]
  show _ = wk [32, 45, 32] 1 2 ((ndL nd.kids).map _)
  rw [HB.out.2.2.2]
  simp [wk, HB.out.2.1, HB.out.2.2.1]

set_option maxHeartbeats 3200000 in
set_option maxRecDepth 100000 in
theorem rshow_and (nd : Nd) (hw : WfT nd) (hop : nd.op = 8) (hP : ∀ k ∈ ndL nd.kids, RSh k) : RSh nd := by
  intro hwt Q w v hv
  have hvo := hv.op
  have hvt := hv.text
  have hvn := hv.num
  have hvi := hv.id
  rw [hop] at hvo
  have hwf := hw.1
  rw [hop] at hwf
  have hkw : ∀ k ∈ ndL nd.kids, WfT k ∧ k.wt ≤ 200000 := fun k hk => ⟨wf_kids _ hw.2 k hk, Nat.le_trans (kid_wt nd k hk) hwt⟩
  obtain ⟨us, hrd, _, hns, hul⟩ := hv.rows
  have hkl := hv.kl
  have hkc := hv.kc
  obtain ⟨vo, vt, vn, vi, va, vl, vc, vp⟩ := v
  simp only at hvo hvt hvn hvi hrd hul hkl hkc
  subst hvo
  obtain ⟨W3, m3, hW3, hm3, hx3, bW3, _, hB3, hlt3⟩ := lay6 (Below.refl _ w) (Nat.le_refl _) 34 (.int .i64 8) (.string ⟨vt.toArray⟩) (.int .i64 vn) (.int .u64 vi) (.slice va vl vc) (.int .i64 vp)
  obtain ⟨x, y, hks⟩ := kids_two (n := nd) (by rcases hwf with ⟨h, _⟩ | ⟨h, _⟩ | ⟨h, _⟩ | ⟨h, _⟩ | ⟨h, _⟩ | ⟨_, _, _, _, h⟩ | ⟨h, _⟩ | ⟨h, _⟩ <;> first | exact h | exact absurd h (by decide))
  rw [hks] at hns
  obtain ⟨v0, hv0, hn0⟩ := hns.get (i := 0) (n := x) rfl
  obtain ⟨v1, hv1, hn1⟩ := hns.get (i := 1) (n := y) rfl
  obtain ⟨kb, ko, e9, hkb⟩ := hrd.some_of hv0
  subst e9
  have hl2 : vl = 2 := by rw [hkl, ← ndL_len, hks]; rfl
  subst hl2
  have hc0 := fun u (hu : Below W3.heap.size W3 u) => ((hrd.below bW3).below hu).node hv0
  have hc1 := fun u (hu : Below W3.heap.size W3 u) => ((hrd.below bW3).below hu).node hv1
  obtain ⟨o0, t0, n0, i0, a0, l0, c0, p0⟩ := v0
  obtain ⟨o1, t1, n1, i1, a1, l1, c1, p1⟩ := v1
  obtain ⟨T0, hT0⟩ : ∃ T : ByteArray, (⟨(brk 2 (x.op, txt x.ps)).toArray⟩ : ByteArray) = T := ⟨_, rfl⟩
  obtain ⟨T1, hT1⟩ : ∃ T : ByteArray, (⟨(brk 3 (y.op, txt y.ps)).toArray⟩ : ByteArray) = T := ⟨_, rfl⟩
  have HK0 : Hid (∀ u, Below W3.heap.size W3 u → Calls Tryz.prog 28 #[.agg #[.int .i64 o0, .string ⟨t0.toArray⟩, .int .i64 n0, .int .u64 i0, .slice a0 l0 c0, .int .i64 p0], .int .i64 2] u fun e w' => e = .returned (.string T0) ∧ Below u.heap.size u w') := fun u hu => by
    have hm : x ∈ ndL nd.kids := by rw [hks]; simp
    have hin := rin_any x (hkw x hm) (hP x hm) 2 Q u ⟨o0, t0, n0, i0, a0, l0, c0, p0⟩ ((hn0.below bW3).below hu)
    rw [hT0] at hin
    exact hin
  have HK1 : Hid (∀ u, Below W3.heap.size W3 u → Calls Tryz.prog 28 #[.agg #[.int .i64 o1, .string ⟨t1.toArray⟩, .int .i64 n1, .int .u64 i1, .slice a1 l1 c1, .int .i64 p1], .int .i64 3] u fun e w' => e = .returned (.string T1) ∧ Below u.heap.size u w') := fun u hu => by
    have hm : y ∈ ndL nd.kids := by rw [hks]; simp
    have hin := rin_any y (hkw y hm) (hP y hm) 3 Q u ⟨o1, t1, n1, i1, a1, l1, c1, p1⟩ ((hn1.below bW3).below hu)
    rw [hT1] at hin
    exact hin
  have KS : Hid (∀ u, Below W3.heap.size W3 u → u.cell? ⟨m3, 4, none⟩ = some (.slice (some ⟨kb, ko, none⟩) 2 vc) ∧ u.cell? ⟨kb, ko, none⟩ = some (.int .i64 o0) ∧ u.cell? ⟨kb, ko + 1, none⟩ = some (.string ⟨t0.toArray⟩) ∧ u.cell? ⟨kb, ko + 2, none⟩ = some (.int .i64 n0) ∧ u.cell? ⟨kb, ko + 3, none⟩ = some (.int .u64 i0) ∧ u.cell? ⟨kb, ko + 4, none⟩ = some (.slice a0 l0 c0) ∧ u.cell? ⟨kb, ko + 5, none⟩ = some (.int .i64 p0) ∧ u.cell? ⟨kb, ko + 6, none⟩ = some (.int .i64 o1) ∧ u.cell? ⟨kb, ko + 7, none⟩ = some (.string ⟨t1.toArray⟩) ∧ u.cell? ⟨kb, ko + 8, none⟩ = some (.int .i64 n1) ∧ u.cell? ⟨kb, ko + 9, none⟩ = some (.int .u64 i1) ∧ u.cell? ⟨kb, ko + 10, none⟩ = some (.slice a1 l1 c1) ∧ u.cell? ⟨kb, ko + 11, none⟩ = some (.int .i64 p1)) := fun u hu => by
    have h4 := (hx3.below hu).cells.2.2.2.2.1
    obtain ⟨z0, z1, z2, z3, z4, z5⟩ := hc0 u hu
    obtain ⟨y0, y1, y2, y3, y4, y5⟩ := hc1 u hu
    simp only [Nat.zero_mul, Nat.add_zero, Nat.one_mul, Nat.add_assoc, Nat.reduceAdd] at z0 z1 z2 z3 z4 z5 y0 y1 y2 y3 y4 y5
    exact ⟨h4, z0, z1, z2, z3, z4, z5, y0, y1, y2, y3, y4, y5⟩
  have hz0 : T0.size ≤ 200002 := by rw [← hT0]; exact brk_size (hkw x (by rw [hks]; simp)).1 (hkw x (by rw [hks]; simp)).2
  have hz1 : T1.size ≤ 200002 := by rw [← hT1]; exact brk_size (hkw y (by rw [hks]; simp)).1 (hkw y (by rw [hks]; simp)).2
  have HB : Hid (Below w.heap.size w W3 ∧ T0.data.toList = brk 2 (x.op, txt x.ps) ∧ T1.data.toList = brk 3 (y.op, txt y.ps) ∧ ndL nd.kids = [x, y]) := ⟨bW3, by rw [← hT0], by rw [← hT1], hks⟩
  obtain ⟨e0, e1, e2, e3, e4, e5⟩ := hx3.cells
  obtain ⟨_, z0, z1, z2, z3, z4, z5, y0, y1, y2, y3, y4, y5⟩ := KS.out W3 (Below.refl _ _)
  clear hx3 hv hwf hvt hvn hvi bW3 hc0 hc1 hT0 hT1 hn0 hn1 hv0 hv1 hrd hns hul hkl hP hks hkb hkw hwt
  go_enter Tryz.func10, Tryz.ntmps10
  go_upto_region 1 with fail
  clear hW3 hm3
  have ha0 := sadd T0 ⟨#[32, 38, 32]⟩ (by show T0.size + 3 ≤ _; omega)
  have ha1 := sadd (T0 ++ ⟨#[32, 38, 32]⟩) T1 (by rw [ByteArray.size_append]; show T0.size + 3 + T1.size ≤ _; omega)
  go_upto_region 22 with fail
  go_region_held3 (fun u => u.cell? ⟨m3, 4, none⟩ = some (.slice (some ⟨kb, ko, none⟩) 2 vc) ∧ u.cell? ⟨kb, ko, none⟩ = some (.int .i64 o0) ∧ u.cell? ⟨kb, ko + 1, none⟩ = some (.string ⟨t0.toArray⟩) ∧ u.cell? ⟨kb, ko + 2, none⟩ = some (.int .i64 n0) ∧ u.cell? ⟨kb, ko + 3, none⟩ = some (.int .u64 i0) ∧ u.cell? ⟨kb, ko + 4, none⟩ = some (.slice a0 l0 c0) ∧ u.cell? ⟨kb, ko + 5, none⟩ = some (.int .i64 p0) ∧ u.cell? ⟨kb, ko + 6, none⟩ = some (.int .i64 o1) ∧ u.cell? ⟨kb, ko + 7, none⟩ = some (.string ⟨t1.toArray⟩) ∧ u.cell? ⟨kb, ko + 8, none⟩ = some (.int .i64 n1) ∧ u.cell? ⟨kb, ko + 9, none⟩ = some (.int .u64 i1) ∧ u.cell? ⟨kb, ko + 10, none⟩ = some (.slice a1 l1 c1) ∧ u.cell? ⟨kb, ko + 11, none⟩ = some (.int .i64 p1))
    (first | with_reducible exact kS7 | with_reducible exact kS6 | go_keep)
    (first
      | (go_at_call 28; (with_reducible refine (HK1.out _ B6.out).mono ?_); rintro e w7 ⟨rfl, b7⟩; have B7 : Hid (Below W3.heap.size W3 w7) := B6.out.trans (b7.mono B6.out.size); have kS7 := KS.out _ B7.out; clear b7)
      | (go_at_call 28; (with_reducible refine (HK0.out _ (by exact (Below.refl _ W3).drew)).mono ?_); rintro e w6 ⟨rfl, b6⟩; have B6 : Hid (Below W3.heap.size W3 w6) := undrewB b6; have kS6 := KS.out _ B6.out; clear b6)
      | fail)
  go_wp2_with fail
  go_ret
  refine ⟨ret_eq ?_, HB.out.1.trans (B7.out.mono HB.out.1.size)⟩
  rw [shown_bin (i := 2) (hx := rfl) hop (by rw [← ndL_len, HB.out.2.2.2]; rfl)]
  show _ = wk [32, 38, 32] 2 3 ((ndL nd.kids).map _)
  rw [HB.out.2.2.2]
  simp [wk, HB.out.2.1, HB.out.2.2.1]

set_option maxHeartbeats 3200000 in
set_option maxRecDepth 100000 in
theorem rshow_range (nd : Nd) (hw : WfT nd) (hop : nd.op = 9) (hP : ∀ k ∈ ndL nd.kids, RSh k) : RSh nd := by
  intro hwt Q w v hv
  have hvo := hv.op
  have hvt := hv.text
  have hvn := hv.num
  have hvi := hv.id
  rw [hop] at hvo
  have hwf := hw.1
  rw [hop] at hwf
  have hkw : ∀ k ∈ ndL nd.kids, WfT k ∧ k.wt ≤ 200000 := fun k hk => ⟨wf_kids _ hw.2 k hk, Nat.le_trans (kid_wt nd k hk) hwt⟩
  obtain ⟨us, hrd, _, hns, hul⟩ := hv.rows
  have hkl := hv.kl
  have hkc := hv.kc
  obtain ⟨vo, vt, vn, vi, va, vl, vc, vp⟩ := v
  simp only at hvo hvt hvn hvi hrd hul hkl hkc
  subst hvo
  obtain ⟨W3, m3, hW3, hm3, hx3, bW3, _, hB3, hlt3⟩ := lay6 (Below.refl _ w) (Nat.le_refl _) 34 (.int .i64 9) (.string ⟨vt.toArray⟩) (.int .i64 vn) (.int .u64 vi) (.slice va vl vc) (.int .i64 vp)
  obtain ⟨x, y, hks⟩ := kids_two (n := nd) (by rcases hwf with ⟨h, _⟩ | ⟨h, _⟩ | ⟨h, _⟩ | ⟨h, _⟩ | ⟨h, _⟩ | ⟨_, _, _, _, h⟩ | ⟨h, _⟩ | ⟨h, _⟩ <;> first | exact h | exact absurd h (by decide))
  rw [hks] at hns
  obtain ⟨v0, hv0, hn0⟩ := hns.get (i := 0) (n := x) rfl
  obtain ⟨v1, hv1, hn1⟩ := hns.get (i := 1) (n := y) rfl
  obtain ⟨kb, ko, e9, hkb⟩ := hrd.some_of hv0
  subst e9
  have hl2 : vl = 2 := by rw [hkl, ← ndL_len, hks]; rfl
  subst hl2
  have hc0 := fun u (hu : Below W3.heap.size W3 u) => ((hrd.below bW3).below hu).node hv0
  have hc1 := fun u (hu : Below W3.heap.size W3 u) => ((hrd.below bW3).below hu).node hv1
  obtain ⟨o0, t0, n0, i0, a0, l0, c0, p0⟩ := v0
  obtain ⟨o1, t1, n1, i1, a1, l1, c1, p1⟩ := v1
  obtain ⟨T0, hT0⟩ : ∃ T : ByteArray, (⟨(brk 4 (x.op, txt x.ps)).toArray⟩ : ByteArray) = T := ⟨_, rfl⟩
  obtain ⟨T1, hT1⟩ : ∃ T : ByteArray, (⟨(brk 4 (y.op, txt y.ps)).toArray⟩ : ByteArray) = T := ⟨_, rfl⟩
  have HK0 : Hid (∀ u, Below W3.heap.size W3 u → Calls Tryz.prog 28 #[.agg #[.int .i64 o0, .string ⟨t0.toArray⟩, .int .i64 n0, .int .u64 i0, .slice a0 l0 c0, .int .i64 p0], .int .i64 4] u fun e w' => e = .returned (.string T0) ∧ Below u.heap.size u w') := fun u hu => by
    have hm : x ∈ ndL nd.kids := by rw [hks]; simp
    have hin := rin_any x (hkw x hm) (hP x hm) 4 Q u ⟨o0, t0, n0, i0, a0, l0, c0, p0⟩ ((hn0.below bW3).below hu)
    rw [hT0] at hin
    exact hin
  have HK1 : Hid (∀ u, Below W3.heap.size W3 u → Calls Tryz.prog 28 #[.agg #[.int .i64 o1, .string ⟨t1.toArray⟩, .int .i64 n1, .int .u64 i1, .slice a1 l1 c1, .int .i64 p1], .int .i64 4] u fun e w' => e = .returned (.string T1) ∧ Below u.heap.size u w') := fun u hu => by
    have hm : y ∈ ndL nd.kids := by rw [hks]; simp
    have hin := rin_any y (hkw y hm) (hP y hm) 4 Q u ⟨o1, t1, n1, i1, a1, l1, c1, p1⟩ ((hn1.below bW3).below hu)
    rw [hT1] at hin
    exact hin
  have KS : Hid (∀ u, Below W3.heap.size W3 u → u.cell? ⟨m3, 4, none⟩ = some (.slice (some ⟨kb, ko, none⟩) 2 vc) ∧ u.cell? ⟨kb, ko, none⟩ = some (.int .i64 o0) ∧ u.cell? ⟨kb, ko + 1, none⟩ = some (.string ⟨t0.toArray⟩) ∧ u.cell? ⟨kb, ko + 2, none⟩ = some (.int .i64 n0) ∧ u.cell? ⟨kb, ko + 3, none⟩ = some (.int .u64 i0) ∧ u.cell? ⟨kb, ko + 4, none⟩ = some (.slice a0 l0 c0) ∧ u.cell? ⟨kb, ko + 5, none⟩ = some (.int .i64 p0) ∧ u.cell? ⟨kb, ko + 6, none⟩ = some (.int .i64 o1) ∧ u.cell? ⟨kb, ko + 7, none⟩ = some (.string ⟨t1.toArray⟩) ∧ u.cell? ⟨kb, ko + 8, none⟩ = some (.int .i64 n1) ∧ u.cell? ⟨kb, ko + 9, none⟩ = some (.int .u64 i1) ∧ u.cell? ⟨kb, ko + 10, none⟩ = some (.slice a1 l1 c1) ∧ u.cell? ⟨kb, ko + 11, none⟩ = some (.int .i64 p1)) := fun u hu => by
    have h4 := (hx3.below hu).cells.2.2.2.2.1
    obtain ⟨z0, z1, z2, z3, z4, z5⟩ := hc0 u hu
    obtain ⟨y0, y1, y2, y3, y4, y5⟩ := hc1 u hu
    simp only [Nat.zero_mul, Nat.add_zero, Nat.one_mul, Nat.add_assoc, Nat.reduceAdd] at z0 z1 z2 z3 z4 z5 y0 y1 y2 y3 y4 y5
    exact ⟨h4, z0, z1, z2, z3, z4, z5, y0, y1, y2, y3, y4, y5⟩
  have hz0 : T0.size ≤ 200002 := by rw [← hT0]; exact brk_size (hkw x (by rw [hks]; simp)).1 (hkw x (by rw [hks]; simp)).2
  have hz1 : T1.size ≤ 200002 := by rw [← hT1]; exact brk_size (hkw y (by rw [hks]; simp)).1 (hkw y (by rw [hks]; simp)).2
  have HB : Hid (Below w.heap.size w W3 ∧ T0.data.toList = brk 4 (x.op, txt x.ps) ∧ T1.data.toList = brk 4 (y.op, txt y.ps) ∧ ndL nd.kids = [x, y]) := ⟨bW3, by rw [← hT0], by rw [← hT1], hks⟩
  obtain ⟨e0, e1, e2, e3, e4, e5⟩ := hx3.cells
  obtain ⟨_, z0, z1, z2, z3, z4, z5, y0, y1, y2, y3, y4, y5⟩ := KS.out W3 (Below.refl _ _)
  clear hx3 hv hwf hvt hvn hvi bW3 hc0 hc1 hT0 hT1 hn0 hn1 hv0 hv1 hrd hns hul hkl hP hks hkb hkw hwt
  go_enter Tryz.func10, Tryz.ntmps10
  go_upto_region 1 with fail
  clear hW3 hm3
  have ha0 := sadd T0 ⟨#[46, 46]⟩ (by show T0.size + 2 ≤ _; omega)
  have ha1 := sadd (T0 ++ ⟨#[46, 46]⟩) T1 (by rw [ByteArray.size_append]; show T0.size + 2 + T1.size ≤ _; omega)
  go_upto_region 24 with fail
  go_region_held3 (fun u => u.cell? ⟨m3, 4, none⟩ = some (.slice (some ⟨kb, ko, none⟩) 2 vc) ∧ u.cell? ⟨kb, ko, none⟩ = some (.int .i64 o0) ∧ u.cell? ⟨kb, ko + 1, none⟩ = some (.string ⟨t0.toArray⟩) ∧ u.cell? ⟨kb, ko + 2, none⟩ = some (.int .i64 n0) ∧ u.cell? ⟨kb, ko + 3, none⟩ = some (.int .u64 i0) ∧ u.cell? ⟨kb, ko + 4, none⟩ = some (.slice a0 l0 c0) ∧ u.cell? ⟨kb, ko + 5, none⟩ = some (.int .i64 p0) ∧ u.cell? ⟨kb, ko + 6, none⟩ = some (.int .i64 o1) ∧ u.cell? ⟨kb, ko + 7, none⟩ = some (.string ⟨t1.toArray⟩) ∧ u.cell? ⟨kb, ko + 8, none⟩ = some (.int .i64 n1) ∧ u.cell? ⟨kb, ko + 9, none⟩ = some (.int .u64 i1) ∧ u.cell? ⟨kb, ko + 10, none⟩ = some (.slice a1 l1 c1) ∧ u.cell? ⟨kb, ko + 11, none⟩ = some (.int .i64 p1))
    (first | with_reducible exact kS7 | with_reducible exact kS6 | go_keep)
    (first
      | (go_at_call 28; (with_reducible refine (HK1.out _ B6.out).mono ?_); rintro e w7 ⟨rfl, b7⟩; have B7 : Hid (Below W3.heap.size W3 w7) := B6.out.trans (b7.mono B6.out.size); have kS7 := KS.out _ B7.out; clear b7)
      | (go_at_call 28; (with_reducible refine (HK0.out _ (by exact (Below.refl _ W3).drew)).mono ?_); rintro e w6 ⟨rfl, b6⟩; have B6 : Hid (Below W3.heap.size W3 w6) := undrewB b6; have kS6 := KS.out _ B6.out; clear b6)
      | fail)
  go_wp2_with fail
  go_ret
  refine ⟨ret_eq ?_, HB.out.1.trans (B7.out.mono HB.out.1.size)⟩
  rw [shown_bin (i := 3) (hx := rfl) hop (by rw [← ndL_len, HB.out.2.2.2]; rfl)]
  show _ = wk [46, 46] 4 4 ((ndL nd.kids).map _)
  rw [HB.out.2.2.2]
  simp [wk, HB.out.2.1, HB.out.2.2.1]

set_option maxHeartbeats 3200000 in
set_option maxRecDepth 100000 in
theorem rshow_between (nd : Nd) (hw : WfT nd) (hop : nd.op = 10) (hP : ∀ k ∈ ndL nd.kids, RSh k) : RSh nd := by
  intro hwt Q w v hv
  have hvo := hv.op
  have hvt := hv.text
  have hvn := hv.num
  have hvi := hv.id
  rw [hop] at hvo
  have hwf := hw.1
  rw [hop] at hwf
  have hkw : ∀ k ∈ ndL nd.kids, WfT k ∧ k.wt ≤ 200000 := fun k hk => ⟨wf_kids _ hw.2 k hk, Nat.le_trans (kid_wt nd k hk) hwt⟩
  obtain ⟨us, hrd, _, hns, hul⟩ := hv.rows
  have hkl := hv.kl
  have hkc := hv.kc
  obtain ⟨vo, vt, vn, vi, va, vl, vc, vp⟩ := v
  simp only at hvo hvt hvn hvi hrd hul hkl hkc
  subst hvo
  obtain ⟨W3, m3, hW3, hm3, hx3, bW3, _, hB3, hlt3⟩ := lay6 (Below.refl _ w) (Nat.le_refl _) 34 (.int .i64 10) (.string ⟨vt.toArray⟩) (.int .i64 vn) (.int .u64 vi) (.slice va vl vc) (.int .i64 vp)
  obtain ⟨x, y, hks⟩ := kids_two (n := nd) (by rcases hwf with ⟨h, _⟩ | ⟨h, _⟩ | ⟨h, _⟩ | ⟨h, _⟩ | ⟨h, _⟩ | ⟨_, _, _, _, h⟩ | ⟨h, _⟩ | ⟨h, _⟩ <;> first | exact h | exact absurd h (by decide))
  rw [hks] at hns
  obtain ⟨v0, hv0, hn0⟩ := hns.get (i := 0) (n := x) rfl
  obtain ⟨v1, hv1, hn1⟩ := hns.get (i := 1) (n := y) rfl
  obtain ⟨kb, ko, e9, hkb⟩ := hrd.some_of hv0
  subst e9
  have hl2 : vl = 2 := by rw [hkl, ← ndL_len, hks]; rfl
  subst hl2
  have hc0 := fun u (hu : Below W3.heap.size W3 u) => ((hrd.below bW3).below hu).node hv0
  have hc1 := fun u (hu : Below W3.heap.size W3 u) => ((hrd.below bW3).below hu).node hv1
  obtain ⟨o0, t0, n0, i0, a0, l0, c0, p0⟩ := v0
  obtain ⟨o1, t1, n1, i1, a1, l1, c1, p1⟩ := v1
  obtain ⟨T0, hT0⟩ : ∃ T : ByteArray, (⟨(brk 4 (x.op, txt x.ps)).toArray⟩ : ByteArray) = T := ⟨_, rfl⟩
  obtain ⟨T1, hT1⟩ : ∃ T : ByteArray, (⟨(brk 4 (y.op, txt y.ps)).toArray⟩ : ByteArray) = T := ⟨_, rfl⟩
  have HK0 : Hid (∀ u, Below W3.heap.size W3 u → Calls Tryz.prog 28 #[.agg #[.int .i64 o0, .string ⟨t0.toArray⟩, .int .i64 n0, .int .u64 i0, .slice a0 l0 c0, .int .i64 p0], .int .i64 4] u fun e w' => e = .returned (.string T0) ∧ Below u.heap.size u w') := fun u hu => by
    have hm : x ∈ ndL nd.kids := by rw [hks]; simp
    have hin := rin_any x (hkw x hm) (hP x hm) 4 Q u ⟨o0, t0, n0, i0, a0, l0, c0, p0⟩ ((hn0.below bW3).below hu)
    rw [hT0] at hin
    exact hin
  have HK1 : Hid (∀ u, Below W3.heap.size W3 u → Calls Tryz.prog 28 #[.agg #[.int .i64 o1, .string ⟨t1.toArray⟩, .int .i64 n1, .int .u64 i1, .slice a1 l1 c1, .int .i64 p1], .int .i64 4] u fun e w' => e = .returned (.string T1) ∧ Below u.heap.size u w') := fun u hu => by
    have hm : y ∈ ndL nd.kids := by rw [hks]; simp
    have hin := rin_any y (hkw y hm) (hP y hm) 4 Q u ⟨o1, t1, n1, i1, a1, l1, c1, p1⟩ ((hn1.below bW3).below hu)
    rw [hT1] at hin
    exact hin
  have KS : Hid (∀ u, Below W3.heap.size W3 u → u.cell? ⟨m3, 4, none⟩ = some (.slice (some ⟨kb, ko, none⟩) 2 vc) ∧ u.cell? ⟨kb, ko, none⟩ = some (.int .i64 o0) ∧ u.cell? ⟨kb, ko + 1, none⟩ = some (.string ⟨t0.toArray⟩) ∧ u.cell? ⟨kb, ko + 2, none⟩ = some (.int .i64 n0) ∧ u.cell? ⟨kb, ko + 3, none⟩ = some (.int .u64 i0) ∧ u.cell? ⟨kb, ko + 4, none⟩ = some (.slice a0 l0 c0) ∧ u.cell? ⟨kb, ko + 5, none⟩ = some (.int .i64 p0) ∧ u.cell? ⟨kb, ko + 6, none⟩ = some (.int .i64 o1) ∧ u.cell? ⟨kb, ko + 7, none⟩ = some (.string ⟨t1.toArray⟩) ∧ u.cell? ⟨kb, ko + 8, none⟩ = some (.int .i64 n1) ∧ u.cell? ⟨kb, ko + 9, none⟩ = some (.int .u64 i1) ∧ u.cell? ⟨kb, ko + 10, none⟩ = some (.slice a1 l1 c1) ∧ u.cell? ⟨kb, ko + 11, none⟩ = some (.int .i64 p1)) := fun u hu => by
    have h4 := (hx3.below hu).cells.2.2.2.2.1
    obtain ⟨z0, z1, z2, z3, z4, z5⟩ := hc0 u hu
    obtain ⟨y0, y1, y2, y3, y4, y5⟩ := hc1 u hu
    simp only [Nat.zero_mul, Nat.add_zero, Nat.one_mul, Nat.add_assoc, Nat.reduceAdd] at z0 z1 z2 z3 z4 z5 y0 y1 y2 y3 y4 y5
    exact ⟨h4, z0, z1, z2, z3, z4, z5, y0, y1, y2, y3, y4, y5⟩
  have hz0 : T0.size ≤ 200002 := by rw [← hT0]; exact brk_size (hkw x (by rw [hks]; simp)).1 (hkw x (by rw [hks]; simp)).2
  have hz1 : T1.size ≤ 200002 := by rw [← hT1]; exact brk_size (hkw y (by rw [hks]; simp)).1 (hkw y (by rw [hks]; simp)).2
  have HB : Hid (Below w.heap.size w W3 ∧ T0.data.toList = brk 4 (x.op, txt x.ps) ∧ T1.data.toList = brk 4 (y.op, txt y.ps) ∧ ndL nd.kids = [x, y]) := ⟨bW3, by rw [← hT0], by rw [← hT1], hks⟩
  obtain ⟨e0, e1, e2, e3, e4, e5⟩ := hx3.cells
  obtain ⟨_, z0, z1, z2, z3, z4, z5, y0, y1, y2, y3, y4, y5⟩ := KS.out W3 (Below.refl _ _)
  clear hx3 hv hwf hvt hvn hvi bW3 hc0 hc1 hT0 hT1 hn0 hn1 hv0 hv1 hrd hns hul hkl hP hks hkb hkw hwt
  go_enter Tryz.func10, Tryz.ntmps10
  go_upto_region 1 with fail
  clear hW3 hm3
  have ha0 := sadd T0 ⟨#[58, 58]⟩ (by show T0.size + 2 ≤ _; omega)
  have ha1 := sadd (T0 ++ ⟨#[58, 58]⟩) T1 (by rw [ByteArray.size_append]; show T0.size + 2 + T1.size ≤ _; omega)
  go_upto_region 26 with fail
  go_region_held3 (fun u => u.cell? ⟨m3, 4, none⟩ = some (.slice (some ⟨kb, ko, none⟩) 2 vc) ∧ u.cell? ⟨kb, ko, none⟩ = some (.int .i64 o0) ∧ u.cell? ⟨kb, ko + 1, none⟩ = some (.string ⟨t0.toArray⟩) ∧ u.cell? ⟨kb, ko + 2, none⟩ = some (.int .i64 n0) ∧ u.cell? ⟨kb, ko + 3, none⟩ = some (.int .u64 i0) ∧ u.cell? ⟨kb, ko + 4, none⟩ = some (.slice a0 l0 c0) ∧ u.cell? ⟨kb, ko + 5, none⟩ = some (.int .i64 p0) ∧ u.cell? ⟨kb, ko + 6, none⟩ = some (.int .i64 o1) ∧ u.cell? ⟨kb, ko + 7, none⟩ = some (.string ⟨t1.toArray⟩) ∧ u.cell? ⟨kb, ko + 8, none⟩ = some (.int .i64 n1) ∧ u.cell? ⟨kb, ko + 9, none⟩ = some (.int .u64 i1) ∧ u.cell? ⟨kb, ko + 10, none⟩ = some (.slice a1 l1 c1) ∧ u.cell? ⟨kb, ko + 11, none⟩ = some (.int .i64 p1))
    (first | with_reducible exact kS7 | with_reducible exact kS6 | go_keep)
    (first
      | (go_at_call 28; (with_reducible refine (HK1.out _ B6.out).mono ?_); rintro e w7 ⟨rfl, b7⟩; have B7 : Hid (Below W3.heap.size W3 w7) := B6.out.trans (b7.mono B6.out.size); have kS7 := KS.out _ B7.out; clear b7)
      | (go_at_call 28; (with_reducible refine (HK0.out _ (by exact (Below.refl _ W3).drew)).mono ?_); rintro e w6 ⟨rfl, b6⟩; have B6 : Hid (Below W3.heap.size W3 w6) := undrewB b6; have kS6 := KS.out _ B6.out; clear b6)
      | fail)
  go_wp2_with fail
  go_ret
  refine ⟨ret_eq ?_, HB.out.1.trans (B7.out.mono HB.out.1.size)⟩
  rw [shown_bin (i := 4) (hx := rfl) hop (by rw [← ndL_len, HB.out.2.2.2]; rfl)]
  show _ = wk [58, 58] 4 4 ((ndL nd.kids).map _)
  rw [HB.out.2.2.2]
  simp [wk, HB.out.2.1, HB.out.2.2.1]

set_option maxHeartbeats 3200000 in
set_option maxRecDepth 100000 in
theorem rshow_not (nd : Nd) (hw : WfT nd) (hop : nd.op = 11) (hP : ∀ k ∈ ndL nd.kids, RSh k) : RSh nd := by
  intro hwt Q w v hv
  have hvo := hv.op
  have hvt := hv.text
  have hvn := hv.num
  have hvi := hv.id
  rw [hop] at hvo
  have hwf := hw.1
  rw [hop] at hwf
  have hkw : ∀ k ∈ ndL nd.kids, WfT k ∧ k.wt ≤ 200000 := fun k hk => ⟨wf_kids _ hw.2 k hk, Nat.le_trans (kid_wt nd k hk) hwt⟩
  obtain ⟨us, hrd, _, hns, hul⟩ := hv.rows
  have hkl := hv.kl
  have hkc := hv.kc
  obtain ⟨vo, vt, vn, vi, va, vl, vc, vp⟩ := v
  simp only at hvo hvt hvn hvi hrd hul hkl hkc
  subst hvo
  obtain ⟨W3, m3, hW3, hm3, hx3, bW3, _, hB3, hlt3⟩ := lay6 (Below.refl _ w) (Nat.le_refl _) 34 (.int .i64 11) (.string ⟨vt.toArray⟩) (.int .i64 vn) (.int .u64 vi) (.slice va vl vc) (.int .i64 vp)
  obtain ⟨x, hks⟩ := kids_one (n := nd) (by rcases hwf with ⟨h, _⟩ | ⟨h, _⟩ | ⟨h, _⟩ | ⟨h, _⟩ | ⟨h, _⟩ | ⟨h, _⟩ | ⟨_, _, _, _, h⟩ | ⟨_, _, _, _, h⟩ <;> first | exact h | exact absurd h (by decide))
  rw [hks] at hns
  obtain ⟨v0, hv0, hn0⟩ := hns.get (i := 0) (n := x) rfl
  obtain ⟨kb, ko, e9, hkb⟩ := hrd.some_of hv0
  subst e9
  have hl1 : vl = 1 := by rw [hkl, ← ndL_len, hks]; rfl
  subst hl1
  have hc0 := (hrd.below bW3).node hv0
  obtain ⟨o0, t0, n0, i0, a0, l0, c0, p0⟩ := v0
  obtain ⟨z0, z1, z2, z3, z4, z5⟩ := hc0
  simp only [Nat.zero_mul, Nat.add_zero] at z0 z1 z2 z3 z4 z5
  obtain ⟨T0, hT0⟩ : ∃ T : ByteArray, (⟨(brk 4 (x.op, txt x.ps)).toArray⟩ : ByteArray) = T := ⟨_, rfl⟩
  have HK0 : Hid (∀ u, Below W3.heap.size W3 u → Calls Tryz.prog 28 #[.agg #[.int .i64 o0, .string ⟨t0.toArray⟩, .int .i64 n0, .int .u64 i0, .slice a0 l0 c0, .int .i64 p0], .int .i64 4] u fun e w' => e = .returned (.string T0) ∧ Below u.heap.size u w') := fun u hu => by
    have hm : x ∈ ndL nd.kids := by rw [hks]; simp
    have hin := rin_any x (hkw x hm) (hP x hm) 4 Q u ⟨o0, t0, n0, i0, a0, l0, c0, p0⟩ ((hn0.below bW3).below hu)
    rw [hT0] at hin
    exact hin
  have hz0 : T0.size ≤ 200002 := by rw [← hT0]; exact brk_size (hkw x (by rw [hks]; simp)).1 (hkw x (by rw [hks]; simp)).2
  have HB : Hid (Below w.heap.size w W3 ∧ T0.data.toList = brk 4 (x.op, txt x.ps) ∧ ndL nd.kids = [x]) := ⟨bW3, by rw [← hT0], hks⟩
  obtain ⟨e0, e1, e2, e3, e4, e5⟩ := hx3.cells
  clear hx3 hv hwf hvt hvn hvi bW3 hT0 hn0 hv0 hrd hns hul hkl hP hks hkb hkw hwt
  go_enter Tryz.func10, Tryz.ntmps10
  go_upto_region 1 with fail
  clear hW3 hm3
  go_wp2_with (go_at_call 28; refine (HK0.out _ (Below.refl _ _)).mono ?_; rintro e w6 ⟨rfl, b6⟩)
  go_ret
  refine ⟨ret_eq ?_, HB.out.1.trans (b6.mono HB.out.1.size)⟩
  rw [shown_not hop (by rw [← ndL_len, HB.out.2.2]; rfl)]
  show _ = [33] ++ wk [] 4 4 ((ndL nd.kids).map _)
  rw [HB.out.2.2]
  simp [wk, HB.out.2.1]

set_option maxHeartbeats 3200000 in
set_option maxRecDepth 100000 in
theorem rshow_up (nd : Nd) (hw : WfT nd) (hop : nd.op = 12) (hP : ∀ k ∈ ndL nd.kids, RSh k) : RSh nd := by
  intro hwt Q w v hv
  have hvo := hv.op
  have hvt := hv.text
  have hvn := hv.num
  have hvi := hv.id
  rw [hop] at hvo
  have hwf := hw.1
  rw [hop] at hwf
  have hkw : ∀ k ∈ ndL nd.kids, WfT k ∧ k.wt ≤ 200000 := fun k hk => ⟨wf_kids _ hw.2 k hk, Nat.le_trans (kid_wt nd k hk) hwt⟩
  obtain ⟨us, hrd, _, hns, hul⟩ := hv.rows
  have hkl := hv.kl
  have hkc := hv.kc
  obtain ⟨vo, vt, vn, vi, va, vl, vc, vp⟩ := v
  simp only at hvo hvt hvn hvi hrd hul hkl hkc
  subst hvo
  obtain ⟨W3, m3, hW3, hm3, hx3, bW3, _, hB3, hlt3⟩ := lay6 (Below.refl _ w) (Nat.le_refl _) 34 (.int .i64 12) (.string ⟨vt.toArray⟩) (.int .i64 vn) (.int .u64 vi) (.slice va vl vc) (.int .i64 vp)
  obtain ⟨x, hks⟩ := kids_one (n := nd) (by rcases hwf with ⟨h, _⟩ | ⟨h, _⟩ | ⟨h, _⟩ | ⟨h, _⟩ | ⟨h, _⟩ | ⟨h, _⟩ | ⟨_, _, _, _, h⟩ | ⟨_, _, _, _, h⟩ <;> first | exact h | exact absurd h (by decide))
  rw [hks] at hns
  obtain ⟨v0, hv0, hn0⟩ := hns.get (i := 0) (n := x) rfl
  obtain ⟨kb, ko, e9, hkb⟩ := hrd.some_of hv0
  subst e9
  have hl1 : vl = 1 := by rw [hkl, ← ndL_len, hks]; rfl
  subst hl1
  have hc0 := (hrd.below bW3).node hv0
  obtain ⟨o0, t0, n0, i0, a0, l0, c0, p0⟩ := v0
  obtain ⟨z0, z1, z2, z3, z4, z5⟩ := hc0
  simp only [Nat.zero_mul, Nat.add_zero] at z0 z1 z2 z3 z4 z5
  obtain ⟨T0, hT0⟩ : ∃ T : ByteArray, (⟨(brk 5 (x.op, txt x.ps)).toArray⟩ : ByteArray) = T := ⟨_, rfl⟩
  have HK0 : Hid (∀ u, Below W3.heap.size W3 u → Calls Tryz.prog 28 #[.agg #[.int .i64 o0, .string ⟨t0.toArray⟩, .int .i64 n0, .int .u64 i0, .slice a0 l0 c0, .int .i64 p0], .int .i64 5] u fun e w' => e = .returned (.string T0) ∧ Below u.heap.size u w') := fun u hu => by
    have hm : x ∈ ndL nd.kids := by rw [hks]; simp
    have hin := rin_any x (hkw x hm) (hP x hm) 5 Q u ⟨o0, t0, n0, i0, a0, l0, c0, p0⟩ ((hn0.below bW3).below hu)
    rw [hT0] at hin
    exact hin
  have hg : nd.num = 0 ∨ nd.num ≠ 0 ∧ Gd (nuT nd.num) := by
    rcases hwf with ⟨h, _⟩ | ⟨h, _⟩ | ⟨h, _⟩ | ⟨h, _⟩ | ⟨h, _⟩ | ⟨h, _⟩ | ⟨h, _⟩ | ⟨_, _, h, _⟩ <;> first | exact h | exact absurd h (by decide)
  have hz0 : T0.size ≤ 200002 := by rw [← hT0]; exact brk_size (hkw x (by rw [hks]; simp)).1 (hkw x (by rw [hks]; simp)).2
  have HB : Hid (Below w.heap.size w W3 ∧ T0.data.toList = brk 5 (x.op, txt x.ps) ∧ ndL nd.kids = [x] ∧ vn = nd.num) := ⟨bW3, by rw [← hT0], hks, hvn⟩
  obtain ⟨e0, e1, e2, e3, e4, e5⟩ := hx3.cells
  have HX : Hid (Box6 W3 m3 34 (.int .i64 12) (.string ⟨vt.toArray⟩) (.int .i64 vn) (.int .u64 vi) (.slice (some ⟨kb, ko, none⟩) 1 vc) (.int .i64 vp)) := hx3
  clear hx3 hv hwf hvt hvi bW3 hT0 hn0 hv0 hrd hns hul hkl hP hks hkb hkw hwt
  have HVN : Hid (vn = nd.num) := hvn
  clear hvn
  by_cases h0 : vn = 0
  · subst h0
    clear hg
    go_enter Tryz.func10, Tryz.ntmps10
    go_upto_region 1 with fail
    clear hW3 hm3
    go_wp2_with (go_at_call 28; refine (HK0.out _ (Below.refl _ _)).mono ?_; rintro e w6 ⟨rfl, b6⟩; obtain ⟨f0, f1, f2, f3, f4, f5⟩ := (HX.out.below b6).cells)
    go_ret
    refine ⟨ret_eq ?_, HB.out.1.trans (b6.mono HB.out.1.size)⟩
    rw [shown_up hop (by rw [← ndL_len, HB.out.2.2.1]; rfl), if_pos HB.out.2.2.2.symm]
    show _ = wk [] 5 5 ((ndL nd.kids).map _) ++ [94] ++ []
    rw [HB.out.2.2.1]
    simp [wk, HB.out.2.1]
  · have h0' : (vn == 0) = false := by rw [beq_eq_false_iff_ne]; exact h0
    have hgd : Gd (nuT nd.num) := by
      rcases hg with h | h
      · exact absurd (HVN.out.trans h) h0
      · exact h.2
    obtain ⟨m, hm⟩ : ∃ m : Nat, vn = (m : Int) := ⟨vn.toNat, by have := hgd.num.1; rw [HVN.out]; simp only [nuT] at this; omega⟩
    have hml : m ≤ 999999999 := by have := hgd.num.2; have := HVN.out; simp only [nuT] at *; omega
    obtain ⟨T, hT⟩ : ∃ T : ByteArray, (⟨(Lib.decDigits m).toArray⟩ : ByteArray) = T := ⟨_, rfl⟩
    have hTs : T.size ≤ 100 := by
      have h1 := num_len hgd
      rw [← HVN.out, hm, show st (nuT (m : Int)) = Lib.decDigits m from itoa_nat m] at h1
      rw [← hT]
      show (Lib.decDigits m).length ≤ 100
      omega
    have HD : Hid (∀ u, Calls Tryz.prog 27 #[.int .i64 vn] u fun e w' => e = .returned (.string T) ∧ Below u.heap.size u w') := fun u => by rw [hm, ← hT]; exact digits_any m hml u
    have HM : Hid (T.data.toList = Lib.decDigits m ∧ vn = (m : Int) ∧ ¬ vn = 0) := ⟨by rw [← hT], hm, h0⟩
    clear hg hgd hm hml hT h0
    go_enter Tryz.func10, Tryz.ntmps10
    go_upto_region 1 with fail
    clear hW3 hm3
    go_wp2_with (first
      | (go_at_call 28; refine (HK0.out _ (Below.refl _ _)).mono ?_; rintro e w6 ⟨rfl, b6⟩; obtain ⟨f0, f1, f2, f3, f4, f5⟩ := (HX.out.below b6).cells)
      | (go_at_call 27; refine (HD.out _).mono ?_; rintro e w7 ⟨rfl, b7⟩))
    go_ret
    refine ⟨ret_eq ?_, HB.out.1.trans ((b6.trans (b7.mono b6.size)).mono HB.out.1.size)⟩
    rw [shown_up hop (by rw [← ndL_len, HB.out.2.2.1]; rfl), if_neg (by rw [← HB.out.2.2.2]; exact HM.out.2.2)]
    show _ = wk [] 5 5 ((ndL nd.kids).map _) ++ [94] ++ _
    rw [HB.out.2.2.1, ← HB.out.2.2.2, HM.out.2.1]
    rw [show st (nuT (m : Int)) = Lib.decDigits m from itoa_nat m]
    simp [wk, HB.out.2.1, HM.out.1]

set_option maxHeartbeats 3200000 in
set_option maxRecDepth 100000 in
theorem rshow_call (nd : Nd) (hw : WfT nd) (hop : nd.op = 5) (hP : ∀ k ∈ ndL nd.kids, RSh k) : RSh nd := by
  intro hwt Q w v hv
  have hvo := hv.op
  have hvt := hv.text
  have hvn := hv.num
  have hvi := hv.id
  rw [hop] at hvo
  have hwf := hw.1
  rw [hop] at hwf
  have hkw : ∀ k ∈ ndL nd.kids, WfT k ∧ k.wt ≤ 200000 := fun k hk => ⟨wf_kids _ hw.2 k hk, Nat.le_trans (kid_wt nd k hk) hwt⟩
  obtain ⟨us, hrd, _, hns, hul⟩ := hv.rows
  have hkl := hv.kl
  have hkc := hv.kc
  obtain ⟨vo, vt, vn, vi, va, vl, vc, vp⟩ := v
  simp only at hvo hvt hvn hvi hrd hul hkl hkc
  subst hvo
  obtain ⟨W3, m3, hW3, hm3, hx3, bW3, _, hB3, hlt3⟩ := lay6 (Below.refl _ w) (Nat.le_refl _) 34 (.int .i64 5) (.string ⟨vt.toArray⟩) (.int .i64 vn) (.int .u64 vi) (.slice va vl vc) (.int .i64 vp)
  have HB : Hid (Below w.heap.size w W3 ∧ vt = nd.text ∧ RdG encN W3 va us ∧ us.length = vl ∧ (ndL nd.kids).length = vl ∧ NdsIn Q W3 us (ndL nd.kids)) := ⟨bW3, hvt, hrd.below bW3, hul, by rw [ndL_len]; exact hkl.symm, hns.stays bW3⟩
  have HX : Hid (Box6 W3 m3 34 (.int .i64 5) (.string ⟨vt.toArray⟩) (.int .i64 vn) (.int .u64 vi) (.slice va vl vc) (.int .i64 vp)) := hx3
  have HP : Hid (∀ k ∈ ndL nd.kids, RSh k ∧ WfT k ∧ k.wt ≤ 200000) := fun k hk => ⟨hP k hk, hkw k hk⟩
  have hvl : vt.length ≤ 200000 := by rw [hvt]; unfold Nd.wt at hwt; omega
  have hvll : vl ≤ 200000 := by rw [hkl]; have h1 := len_sz nd.kids; have h2 := nd.wt_sz; simp only [Nd.sz] at h2; omega
  obtain ⟨e0, e1, e2, e3, e4, e5⟩ := hx3.cells
  clear hx3 hv hwf hvt hvi hvn bW3 hrd hns hul hkl hP hkw hwt
  go_enter Tryz.func10, Tryz.ntmps10
  go_upto_region 1 with fail
  clear hW3 hm3
  go_wp2_with fail
  go_loopg [3, 4] vl (fun g sv iv wr => ∃ (i : Nat) (T : ByteArray), sv = .string T ∧ iv = .int .i64 (i : Int) ∧ i + g = vl ∧ T.size ≤ 200001 + i * 200004 ∧ Hid (T.data.toList = nd.text ++ [40] ++ wk [44, 32] 1 1 (nd.kt.take i) ∧ Below W3.heap.size W3 wr))
  case atStart => exact ⟨0, _, rfl, rfl, by omega, by rw [ByteArray.size_append]; show vt.length + 1 ≤ _; omega, by rw [← HB.out.2.1]; simp [wk], Below.refl _ _⟩
  case round =>
    obtain ⟨i, T, rfl, rfl, hi, hTi, HI⟩ := hrel
    have hTb : T.size ≤ 40000000000000 := by have h1 : i ≤ 200000 := (by omega); omega
    obtain ⟨f0, f1, f2, f3, f4, f5⟩ := (HX.out.below HI.out.2).cells
    by_cases hin : i < vl
    · have hii : (i : Int) < (vl : Int) := by omega
      have hi0 : (0 : Int) ≤ (i : Int) := by omega
      obtain ⟨x, hx⟩ : ∃ x, (ndL nd.kids)[i]? = some x := ⟨_, List.getElem?_eq_getElem (by have := HB.out.2.2.2.2.1; omega)⟩
      obtain ⟨v0, hv0, hn0⟩ := HB.out.2.2.2.2.2.get hx
      obtain ⟨kb, ko, e9, hkb⟩ := HB.out.2.2.1.some_of hv0
      subst e9
      have hc0 := (HB.out.2.2.1.below HI.out.2).node hv0
      obtain ⟨o0, t0, n0, i0, a0, l0, c0, p0⟩ := v0
      obtain ⟨z0, z1, z2, z3, z4, z5⟩ := hc0
      obtain ⟨T0, hT0⟩ : ∃ T : ByteArray, (⟨(brk 1 (x.op, txt x.ps)).toArray⟩ : ByteArray) = T := ⟨_, rfl⟩
      have hxm := List.mem_of_getElem? hx
      have hin0 := rin_any x (HP.out x hxm).2 (HP.out x hxm).1 1 Q wr _ (hn0.below HI.out.2)
      rw [hT0] at hin0
      have hz0 : T0.size ≤ 200002 := by rw [← hT0]; exact brk_size (HP.out x hxm).2.1 (HP.out x hxm).2.2
      have HK0 : Hid (Calls Tryz.prog 28 #[.agg #[.int .i64 o0, .string ⟨t0.toArray⟩, .int .i64 n0, .int .u64 i0, .slice a0 l0 c0, .int .i64 p0], .int .i64 1] wr fun e w' => e = .returned (.string T0) ∧ Below wr.heap.size wr w') := hin0
      have HE : Hid (T0.data.toList = brk 1 (x.op, txt x.ps) ∧ nd.kt[i]? = some (x.op, txt x.ps)) := ⟨by rw [← hT0], by unfold Nd.kt; rw [List.getElem?_map, hx]; rfl⟩
      clear hx hv0 hn0 hkb hT0 hin0 hxm
      by_cases h0 : i = 0
      · subst h0
        simp only [Nat.zero_mul, Nat.add_zero] at z0 z1 z2 z3 z4 z5
        go_wp2_with (go_at_call 28; refine HK0.out.mono ?_; rintro e w6 ⟨rfl, b6⟩; have B6 : Hid (Below W3.heap.size W3 w6) := HI.out.2.trans (b6.mono HI.out.2.size); clear b6)
        go_roundg (gk - 1)
        case measure => omega
        case rel => exact ⟨1, _, rfl, by go_num, by omega, by rw [ByteArray.size_append]; omega, by rw [wk_take _ _ _ HE.out.2, if_pos rfl, ByteArray.data_append, Array.toList_append, HI.out.1, HE.out.1]; simp, B6.out⟩
      · have h0i : (0 : Int) < (i : Int) := by omega
        go_wp2_with (go_at_call 28; refine HK0.out.mono ?_; rintro e w6 ⟨rfl, b6⟩; have B6 : Hid (Below W3.heap.size W3 w6) := HI.out.2.trans (b6.mono HI.out.2.size); clear b6)
        go_roundg (gk - 1)
        case measure => omega
        case rel => exact ⟨i + 1, _, rfl, by go_num, by omega, by rw [ByteArray.size_append, ByteArray.size_append]; show T.size + 2 + T0.size ≤ _; omega, by rw [wk_take _ _ _ HE.out.2, if_neg h0, ByteArray.data_append, Array.toList_append, ByteArray.data_append, Array.toList_append, HI.out.1, HE.out.1]; simp, B6.out⟩
    · obtain rfl : i = vl := by omega
      clear hi hin hTi
      go_wp2_with fail
      go_ret
      refine ⟨ret_eq ?_, HB.out.1.trans (HI.out.2.mono HB.out.1.size)⟩
      rw [shown_call hop, ByteArray.data_append, Array.toList_append, HI.out.1, List.take_of_length_le (by unfold Nd.kt; rw [List.length_map]; have := HB.out.2.2.2.2.1; omega)]

/-- Show of whatever tree is read. -/
theorem rshow_any (nd : Nd) : WfT nd → RSh nd := by
  induction nd using Nd.ind with
  | h nd ih =>
    intro hw
    have hP : ∀ k ∈ ndL nd.kids, RSh k := fun k hk => ih k hk (wf_kids _ hw.2 k hk)
    rcases hw.1 with ⟨h, _⟩ | ⟨h, _⟩ | ⟨h, _⟩ | ⟨h, _⟩ | ⟨h, _⟩ | ⟨h, _⟩ | ⟨h, _⟩ | ⟨h, _⟩
    · exact rshow_name nd hw h
    · exact rshow_hash nd hw h
    · exact rshow_num nd hw h
    · exact rshow_text nd hw h
    · exact rshow_call nd hw h hP
    · rcases h with h | h | h | h | h
      · exact rshow_or nd hw h hP
      · exact rshow_minus nd hw h hP
      · exact rshow_and nd hw h hP
      · exact rshow_range nd hw h hP
      · exact rshow_between nd hw h hP
    · exact rshow_not nd hw h hP
    · exact rshow_up nd hw h hP

end Go.Proofs.YtijchmcajhdcoaaGreatDoor
