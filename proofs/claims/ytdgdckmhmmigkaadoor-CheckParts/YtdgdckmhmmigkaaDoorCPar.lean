/-
  CheckParts by a contract. Its condition: the texts are no longer than a form's reach, and the program's variables hold what its text lays there.
-/
import Derived.Test.YtdgdckmhmmigkaaDoorJBck
namespace Go.Proofs.YtdgdckmhmmigkaaDoor
open Go.RowKit

theorem size_cat (x y : ByteArray) : (x ++ y).size = x.size + y.size := by simp

/-- What the whole comes to, from what the two sides come to. -/
theorem parts_two {x y n m : Nd} {t : Tk} (hx : x.e = n.e) (hy : y.e = m.e) (hop : 6 ≤ (binN t x y).op) :
    (binN t x y).ck = if n.ck.2.2 ≠ 0 then (0, x.ck.2.1, n.ck.2.2) else if n.ck.1 ≠ 1 then (0, x.pos, 35) else if m.ck.2.2 ≠ 0 then (0, y.ck.2.1, m.ck.2.2) else if m.ck.1 ≠ 1 then (0, y.pos, 35) else (1, 0, 0) := by
  rw [ck_bin t x y hop]
  have a := ck_same hx
  have b := ck_same hy
  simp only [over, a.1, a.2, b.1, b.2]

/-- What is held of the two trees, at whatever world above. -/
structure Tw (w W8 : World) (m5 m8 m4 : Nat) (o : Int) (y : Bs) (i j : Int) (p : Option Addr) (l q : Nat) (r : Int) (o2 : Int) (y2 : Bs) (i2 j2 : Int) (p2 : Option Addr) (l2 q2 : Nat) (r2 : Int) : Prop where
  b5 : Box6 W8 m5 28 (.int .i64 o) (.string ⟨y.toArray⟩) (.int .i64 i) (.int .u64 j) (.slice p l q) (.int .i64 r)
  b8 : Box6 W8 m8 28 (.int .i64 o2) (.string ⟨y2.toArray⟩) (.int .i64 i2) (.int .u64 j2) (.slice p2 l2 q2) (.int .i64 r2)
  sg : Box5 W8 m4 42 (.string ⟨#[124]⟩) (.string ⟨#[45]⟩) (.string ⟨#[38]⟩) (.string ⟨#[46, 46]⟩) (.string ⟨#[58, 58]⟩)
  bel : Below w.heap.size w W8

theorem mod_five (n0 : Int) : ∃ N : Nat, wrap64 ((IntKind.u64.wrap n0).tmod 5) = (N : Int) ∧ N < 5 := by
  have a := Int.tmod_lt_of_pos (IntKind.u64.wrap n0) (show (0 : Int) < 5 by omega)
  have hw : 0 ≤ IntKind.u64.wrap n0 := by rw [IntKind.wrap_u64]; omega
  have b := Int.tmod_nonneg 5 hw
  refine ⟨((IntKind.u64.wrap n0).tmod 5).toNat, ?_, by omega⟩
  have c : wrap64 ((IntKind.u64.wrap n0).tmod 5) = (IntKind.u64.wrap n0).tmod 5 := by
    unfold wrap64
    omega
  rw [c]
  omega

set_option maxHeartbeats 6400000 in
set_option maxRecDepth 100000 in
theorem parts_walk (a b : ByteArray) (s0 : Int) (hma : a.size ≤ 140737488355328) (hmb : b.size ≤ 140737488355328) (w : World) (hg : Gl w) (hi : Inf w) (hf : Fns w) :
    Calls Tryd.prog 4 #[.string a, .string b, .int .i64 s0] w fun e w' => e = .returned (.bool true) ∧ Below w.heap.size w w' := by
  have ha := awake24 w hg hi hf
  have H : Hid (Gl w ∧ Inf w ∧ Fns w) := ⟨hg, hi, hf⟩
  clear hg hi hf
  go_enter Tryd.func4, Tryd.ntmps4
  go_wp2_with fail
  refine ha.mono ?_
  rintro e w1 ⟨rfl, b1⟩
  obtain ⟨W4, m4, hW4, hm4, hx4, bW4, c4, hB4, hlt4⟩ := lay5 b1 b1.size 42 (.string ⟨#[124]⟩) (.string ⟨#[45]⟩) (.string ⟨#[38]⟩) (.string ⟨#[46, 46]⟩) (.string ⟨#[58, 58]⟩)
  have B4 : Hid (Below w.heap.size w W4) := bW4
  have HX4 : Hid (Box5 W4 m4 42 (.string ⟨#[124]⟩) (.string ⟨#[45]⟩) (.string ⟨#[38]⟩) (.string ⟨#[46, 46]⟩) (.string ⟨#[58, 58]⟩)) := hx4
  clear ha b1 hx4 bW4 c4
  go_upto_region 4 with fail
  clear hW4 hm4
  obtain ⟨k, hk, hk5⟩ := mod_five s0
  go_upto_region 5 with fail
  rw [hk]
  clear hk
  go_wp2_with fail
  refine (parse_any a (by omega) W4 (H.out.1.below B4.out) (H.out.2.1.below B4.out)).mono ?_
  rintro e w2 ⟨⟨o, y, i, j, p, l, q, r⟩, a1, c1, rfl, b2, hp1⟩
  obtain ⟨W5, m5, hW5, hm5, hx5, bW5, c5, hB5, hlt5⟩ := lay6 (B4.out.trans (b2.mono B4.out.size)) (by have := B4.out.size; have := b2.size; omega) 28 (.int .i64 o) (.string ⟨y.toArray⟩) (.int .i64 i) (.int .u64 j) (.slice p l q) (.int .i64 r)
  have B5 : Hid (Below w.heap.size w W5 ∧ Below w2.heap.size w2 W5 ∧ Below W4.heap.size W4 W5) := ⟨bW5, c5, b2.trans (c5.mono b2.size)⟩
  have HX5 : Hid (Box6 W5 m5 28 (.int .i64 o) (.string ⟨y.toArray⟩) (.int .i64 i) (.int .u64 j) (.slice p l q) (.int .i64 r)) := hx5
  have HP1 : Hid (Pw a.data.toList (Bt W4.heap.size w2.heap.size) ⟨o, y, i, j, p, l, q, r⟩ a1 c1 w2) := hp1
  clear b2 hp1 hx5 bW5 c5
  go_upto_region 6 with fail
  clear hW5 hm5
  go_wp2_with fail
  refine (parse_any b (by omega) W5 (H.out.1.below B5.out.1) (H.out.2.1.below B5.out.1)).mono ?_
  rintro e w3 ⟨⟨o2, y2, i2, j2, p2, l2, q2, r2⟩, a2, c2, rfl, b3, hp2⟩
  obtain ⟨W8, m8, hW8, hm8, hx8, bW8, c8, hB8, hlt8⟩ := lay6 (B5.out.1.trans (b3.mono B5.out.1.size)) (by have := B5.out.1.size; have := b3.size; omega) 28 (.int .i64 o2) (.string ⟨y2.toArray⟩) (.int .i64 i2) (.int .u64 j2) (.slice p2 l2 q2) (.int .i64 r2)
  have B8 : Hid (Below w3.heap.size w3 W8 ∧ Below W5.heap.size W5 W8) := ⟨c8, b3.trans (c8.mono b3.size)⟩
  have HT : Hid (Tw w W8 m5 m8 m4 o y i j p l q r o2 y2 i2 j2 p2 l2 q2 r2) := ⟨HX5.out.below B8.out.2, hx8, (HX4.out.below B5.out.2.2).below B8.out.2, bW8⟩
  have HP2 : Hid (Pw b.data.toList (Bt W5.heap.size w3.heap.size) ⟨o2, y2, i2, j2, p2, l2, q2, r2⟩ a2 c2 w3) := hp2
  clear b3 hp2 hx8 bW8 c8
  go_upto_region 7 with fail
  clear hW8 hm8
  obtain ⟨G, hG, hGs, hcell⟩ : ∃ G : ByteArray, G.data.toList = opT (6 + (k : Int)) ∧ G.size ≤ 2 ∧ W8.cell? ⟨m4, k, none⟩ = some (.string G) := by
    obtain ⟨q0, q1, q2, q3, q4⟩ := HT.out.sg.cells
    obtain rfl | rfl | rfl | rfl | rfl : k = 0 ∨ k = 1 ∨ k = 2 ∨ k = 3 ∨ k = 4 := by omega
    · exact ⟨_, by decide, by decide, q0⟩
    · exact ⟨_, by decide, by decide, q1⟩
    · exact ⟨_, by decide, by decide, q2⟩
    · exact ⟨_, by decide, by decide, q3⟩
    · exact ⟨_, by decide, by decide, q4⟩
  have hi0 : (0 : Int) ≤ (k : Int) := by omega
  have hii : (k : Int) < 5 := by omega
  have hxl : ((⟨#[40]⟩ : ByteArray) ++ a ++ ⟨#[41]⟩ ++ G ++ ⟨#[40]⟩ ++ b ++ ⟨#[41]⟩).data.toList = [40] ++ a.data.toList ++ [41] ++ opT (6 + (k : Int)) ++ [40] ++ b.data.toList ++ [41] := by rw [← hG]; simp
  have hxs : ((⟨#[40]⟩ : ByteArray) ++ a ++ ⟨#[41]⟩ ++ G ++ ⟨#[40]⟩ ++ b ++ ⟨#[41]⟩).size ≤ 9223372036854775807 := by
    simp only [size_cat]
    show 1 + a.size + 1 + G.size + 1 + b.size + 1 ≤ _
    omega
  rcases HP1.out with ⟨ts, n, hl1, hs1, hg1, hd1, rfl, rfl, hn1⟩ | ⟨_, hc1⟩
  rotate_left
  · have e1 : (c1 == 0) = false := by rw [beq_eq_false_iff_ne]; omega
    have e2 : ¬ c1 = 0 := by omega
    clear hc1 HP1 HP2 hG
    go_wp2_with fail
    refine (parse_any _ hxs W8 (H.out.1.below HT.out.bel) (H.out.2.1.below HT.out.bel)).mono ?_
    rintro e w4 ⟨⟨o3, y3, i3, j3, p3, l3, q3, r3⟩, a3, c3, rfl, b4, _⟩
    obtain ⟨W9, m9, hW9, hm9, hx9, bW9, c9, hB9, hlt9⟩ := lay6 (HT.out.bel.trans (b4.mono HT.out.bel.size)) (by have := HT.out.bel.size; have := b4.size; omega) 28 (.int .i64 o3) (.string ⟨y3.toArray⟩) (.int .i64 i3) (.int .u64 j3) (.slice p3 l3 q3) (.int .i64 r3)
    have B9 : Hid (Below w.heap.size w W9) := bW9
    clear b4 hx9 bW9 c9
    go_upto_region 8 with fail
    clear hW9 hm9
    go_wp2_with fail
    go_ret
    exact ⟨rfl, B9.out⟩
  rcases HP2.out with ⟨us, m, hl2, hs2, hg2, hd2, rfl, rfl, hn2⟩ | ⟨_, hc2⟩
  rotate_left
  · have e1 : (c2 == 0) = false := by rw [beq_eq_false_iff_ne]; omega
    have e2 : ¬ c2 = 0 := by omega
    clear hc2 HP1 HP2 hG hs1 hg1 hd1 hn1 hl1
    go_wp2_with fail
    refine (parse_any _ hxs W8 (H.out.1.below HT.out.bel) (H.out.2.1.below HT.out.bel)).mono ?_
    rintro e w4 ⟨⟨o3, y3, i3, j3, p3, l3, q3, r3⟩, a3, c3, rfl, b4, _⟩
    obtain ⟨W9, m9, hW9, hm9, hx9, bW9, c9, hB9, hlt9⟩ := lay6 (HT.out.bel.trans (b4.mono HT.out.bel.size)) (by have := HT.out.bel.size; have := b4.size; omega) 28 (.int .i64 o3) (.string ⟨y3.toArray⟩) (.int .i64 i3) (.int .u64 j3) (.slice p3 l3 q3) (.int .i64 r3)
    have B9 : Hid (Below w.heap.size w W9) := bW9
    clear b4 hx9 bW9 c9
    go_upto_region 8 with fail
    clear hW9 hm9
    go_wp2_with fail
    go_ret
    exact ⟨rfl, B9.out⟩
  clear HP1 HP2
  obtain ⟨_, _, f1'⟩ := read_wf hs1 hl1 hg1
  obtain ⟨_, _, f2'⟩ := read_wf hs2 hl2 hg2
  by_cases hlong : 1024 < ((⟨#[40]⟩ : ByteArray) ++ a ++ ⟨#[41]⟩ ++ G ++ ⟨#[40]⟩ ++ b ++ ⟨#[41]⟩).size
  · have hpl := parse_long _ hxs hlong W8
    clear hG hs1 hg1 hd1 hn1 hl1 hs2 hg2 hd2 hn2 hl2 f1' f2' hlong hxl hxs
    go_wp2_with fail
    refine hpl.mono ?_
    rintro e w4 ⟨rfl, b4⟩
    have B4' : Hid (Below w.heap.size w w4) := HT.out.bel.trans (b4.mono HT.out.bel.size)
    clear b4 hpl
    go_upto_region 8 with fail
    obtain ⟨W9, m9, hW9, hm9, hx9, bW9, c9, hB9, hlt9⟩ := lay6 B4'.out B4'.out.size 28 (.int .i64 0) (.string ⟨#[]⟩) (.int .i64 0) (.int .u64 0) (.slice none 0 0) (.int .i64 0)
    have B9 : Hid (Below w.heap.size w W9) := bW9
    clear hx9 bW9 c9
    rw [hW9, hm9]
    clear hW9 hm9
    go_wp2_with fail
    go_ret
    exact ⟨rfl, B9.out⟩
  obtain ⟨vs, x, y', hvs, hxe, hye, hxg⟩ := between hs1 hg1 hs2 hg2 (((⟨#[40]⟩ : ByteArray) ++ a ++ ⟨#[41]⟩ ++ G ++ ⟨#[40]⟩ ++ b ++ ⟨#[41]⟩).size : Int) (opT_mem (6 + (k : Int))) (by rw [opOf_opT _ (by omega)]; omega)
  rw [← hxl] at hvs
  have hbo : (opOf ((sgT (opT (6 + (k : Int)))).at (a.data.toList.length + 2)).text) = 6 + (k : Int) := opOf_opT _ (by omega)
  have hpa := parse_ans _ (by omega) hvs W8 (H.out.1.below HT.out.bel) (H.out.2.1.below HT.out.bel)
  by_cases hdp : 24 < (binN ((sgT (opT (6 + (k : Int)))).at (a.data.toList.length + 2)) x y').dep
  · have HR : Hid (rn _ [] [] true vs = .ok (binN ((sgT (opT (6 + (k : Int)))).at (a.data.toList.length + 2)) x y')) := rn_of hxg
    clear hG hs1 hg1 hd1 hn1 hl1 hs2 hg2 hd2 hn2 hl2 f1' f2' hlong hxl hxs hvs hxe hye hxg hbo
    go_wp2_with fail
    refine hpa.mono ?_
    rintro e w4 ⟨v3, a3, c3, rfl, b4, hp3⟩
    obtain ⟨rfl, rfl, rfl⟩ := hp3.deep HR.out hdp
    have B4' : Hid (Below w.heap.size w w4) := HT.out.bel.trans (b4.mono HT.out.bel.size)
    clear b4 hpa hp3
    go_upto_region 8 with fail
    obtain ⟨W9, m9, hW9, hm9, hx9, bW9, c9, hB9, hlt9⟩ := lay6 B4'.out B4'.out.size 28 (.int .i64 0) (.string ⟨#[]⟩) (.int .i64 0) (.int .u64 0) (.slice none 0 0) (.int .i64 0)
    have B9 : Hid (Below w.heap.size w W9) := bW9
    clear hx9 bW9 c9
    rw [hW9, hm9]
    clear hW9 hm9
    go_wp2_with fail
    go_ret
    exact ⟨rfl, B9.out⟩
  have HXS : Hid (((⟨#[40]⟩ : ByteArray) ++ a ++ ⟨#[41]⟩ ++ G ++ ⟨#[40]⟩ ++ b ++ ⟨#[41]⟩).size ≤ 1024) := by show _ ≤ _; omega
  go_wp2_with fail
  refine hpa.mono ?_
  rintro e w21 ⟨⟨o3, y3, i3, j3, p3, l3, q3, r3⟩, a3, c3, rfl, b21, hp3⟩
  obtain ⟨rfl, rfl, hn3, hg3⟩ := hp3.okay (rn_of hxg) (by omega)
  obtain ⟨_, hx1, hx2⟩ := read_wf hvs (by rw [← bsize]; exact HXS.out) hg3
  obtain rfl : o3 = 6 + (k : Int) := hn3.op.trans hbo
  obtain rfl : y3 = [] := hn3.text
  obtain rfl : i3 = 0 := hn3.num
  obtain rfl : j3 = 0 := hn3.id
  obtain rfl : l3 = 2 := hn3.kl
  obtain ⟨zs, hzr, _, hzn, hzl⟩ := hn3.rows
  obtain ⟨⟨o4, y4, i4, j4, p4, l4, q4, r4⟩, ⟨o5, y5, i5, j5, p5, l5, q5, r5⟩, rfl⟩ : ∃ u v : NV, zs = [u, v] := by
    match zs, hzl with
    | [u, v], _ => exact ⟨u, v, rfl⟩
  have hzn2 : NdsIn (Bt W8.heap.size w21.heap.size) w21 [⟨o4, y4, i4, j4, p4, l4, q4, r4⟩, ⟨o5, y5, i5, j5, p5, l5, q5, r5⟩] [x, y'] := by
    have := hzn
    rwa [show ndL (binN ((sgT (opT (6 + (k : Int)))).at (a.data.toList.length + 2)) x y').kids = [x, y'] from ndL_fo _] at this
  obtain ⟨u1, hu1, hk1⟩ := hzn2.get (i := 0) (n := x) rfl
  obtain ⟨u2, hu2, hk2⟩ := hzn2.get (i := 1) (n := y') rfl
  cases hu1
  cases hu2
  obtain ⟨kb, ko, rfl, _⟩ := hzr.some_of (i := 0) rfl
  obtain ⟨W9, m9, hW9, hm9, hx9, bW9, c9, hB9, hlt9⟩ := lay6 (HT.out.bel.trans (b21.mono HT.out.bel.size)) (by have := HT.out.bel.size; have := b21.size; omega) 28 (.int .i64 (6 + (k : Int))) (.string ⟨#[]⟩) (.int .i64 0) (.int .u64 0) (.slice (some ⟨kb, ko, none⟩) 2 q3) (.int .i64 r3)
  have B9 : Hid (Below w.heap.size w W9) := bW9
  have B89 : Below W8.heap.size W8 W9 := b21.trans (c9.mono b21.size)
  have hcn := fun u (hu : Below W9.heap.size W9 u) => tcheck_any n (by omega) _ u _ (H.out.2.2.below (bW9.trans (hu.mono bW9.size))) ((((hn1.below B5.out.2.1).below B8.out.2).below B89).below hu)
  have hcm := fun u (hu : Below W9.heap.size W9 u) => tcheck_any m (by omega) _ u _ (H.out.2.2.below (bW9.trans (hu.mono bW9.size))) (((hn2.below B8.out.1).below B89).below hu)
  have hcx := fun u (hu : Below W9.heap.size W9 u) => tcheck_any _ (by omega) _ u _ (H.out.2.2.below (bW9.trans (hu.mono bW9.size))) ((hn3.below c9).below hu)
  have hpt := parts_two hxe hye (show 6 ≤ (binN ((sgT (opT (6 + (k : Int)))).at (a.data.toList.length + 2)) x y').op by rw [show (binN ((sgT (opT (6 + (k : Int)))).at (a.data.toList.length + 2)) x y').op = 6 + (k : Int) from hbo]; omega)
  obtain ⟨⟨rt, ra, re⟩, hR⟩ : ∃ R, n.ck = R := ⟨_, rfl⟩
  obtain ⟨⟨st, sa, se⟩, hS⟩ : ∃ R, m.ck = R := ⟨_, rfl⟩
  obtain ⟨⟨xt, xa, xe⟩, hX⟩ : ∃ R, (binN ((sgT (opT (6 + (k : Int)))).at (a.data.toList.length + 2)) x y').ck = R := ⟨_, rfl⟩
  rw [hX, hR, hS, ← show r4 = x.pos from hk1.pos, ← show r5 = y'.pos from hk2.pos] at hpt
  rw [hR] at hcn
  rw [hS] at hcm
  rw [hX] at hcx
  have HCn : Hid (∀ u, Below W9.heap.size W9 u → Calls Tryd.prog 8 #[.agg #[.int .i64 o, .string ⟨y.toArray⟩, .int .i64 i, .int .u64 j, .slice p l q, .int .i64 r]] u fun e w' => e = .returned (ckV (rt, ra, re)) ∧ Below u.heap.size u w') := hcn
  have HCm : Hid (∀ u, Below W9.heap.size W9 u → Calls Tryd.prog 8 #[.agg #[.int .i64 o2, .string ⟨y2.toArray⟩, .int .i64 i2, .int .u64 j2, .slice p2 l2 q2, .int .i64 r2]] u fun e w' => e = .returned (ckV (st, sa, se)) ∧ Below u.heap.size u w') := hcm
  have HCx : Hid (∀ u, Below W9.heap.size W9 u → Calls Tryd.prog 8 #[.agg #[.int .i64 (6 + (k : Int)), .string ⟨#[]⟩, .int .i64 0, .int .u64 0, .slice (some ⟨kb, ko, none⟩) 2 q3, .int .i64 r3]] u fun e w' => e = .returned (ckV (xt, xa, xe)) ∧ Below u.heap.size u w') := hcx
  have KS : Hid (∀ u, Below W9.heap.size W9 u → u.cell? ⟨m5, 0, none⟩ = some (.int .i64 o) ∧ u.cell? ⟨m5, 1, none⟩ = some (.string ⟨y.toArray⟩) ∧ u.cell? ⟨m5, 2, none⟩ = some (.int .i64 i) ∧ u.cell? ⟨m5, 3, none⟩ = some (.int .u64 j) ∧ u.cell? ⟨m5, 4, none⟩ = some (.slice p l q) ∧ u.cell? ⟨m5, 5, none⟩ = some (.int .i64 r) ∧
      u.cell? ⟨m8, 0, none⟩ = some (.int .i64 o2) ∧ u.cell? ⟨m8, 1, none⟩ = some (.string ⟨y2.toArray⟩) ∧ u.cell? ⟨m8, 2, none⟩ = some (.int .i64 i2) ∧ u.cell? ⟨m8, 3, none⟩ = some (.int .u64 j2) ∧ u.cell? ⟨m8, 4, none⟩ = some (.slice p2 l2 q2) ∧ u.cell? ⟨m8, 5, none⟩ = some (.int .i64 r2) ∧
      u.cell? ⟨m9, 0, none⟩ = some (.int .i64 (6 + (k : Int))) ∧ u.cell? ⟨m9, 1, none⟩ = some (.string ⟨#[]⟩) ∧ u.cell? ⟨m9, 2, none⟩ = some (.int .i64 0) ∧ u.cell? ⟨m9, 3, none⟩ = some (.int .u64 0) ∧ u.cell? ⟨m9, 4, none⟩ = some (.slice (some ⟨kb, ko, none⟩) 2 q3) ∧ u.cell? ⟨m9, 5, none⟩ = some (.int .i64 r3) ∧
      u.cell? ⟨kb, ko + 5, none⟩ = some (.int .i64 r4) ∧ u.cell? ⟨kb, ko + 11, none⟩ = some (.int .i64 r5)) := fun u hu => by
    obtain ⟨a0, a1, a2, a3, a4, a5⟩ := ((HT.out.b5.below B89).below hu).cells
    obtain ⟨b0, b1, b2, b3, b4, b5⟩ := ((HT.out.b8.below B89).below hu).cells
    obtain ⟨d0, d1, d2, d3, d4, d5⟩ := (hx9.below hu).cells
    obtain ⟨_, _, _, _, _, e5⟩ := ((hzr.below c9).below hu).node (i := 0) rfl
    obtain ⟨_, _, _, _, _, f5⟩ := ((hzr.below c9).below hu).node (i := 1) rfl
    simp only [Nat.zero_mul, Nat.add_zero, Nat.one_mul, Nat.add_assoc, Nat.reduceAdd] at e5 f5
    exact ⟨a0, a1, a2, a3, a4, a5, b0, b1, b2, b3, b4, b5, d0, d1, d2, d3, d4, d5, e5, f5⟩
  clear hG hs1 hg1 hd1 hn1 hl1 hs2 hg2 hd2 hn2 hl2 f1' f2' hlong hxl hxs hvs hxe hye hxg hbo hpa hp3 hn3 hg3 hx1 hx2 hzr hzn hzl hzn2 hk1 hk2 b21 hx9 bW9 c9 B89 hcn hcm hcx hR hS hX hdp
  go_upto_region 8 with fail
  clear hW9 hm9
  obtain ⟨x0, x1, x2, x3, x4, x5, y0, y1, y2', y3', y4', y5', z0, z1, z2, z3, z4, z5, k0, k1⟩ := KS.out W9 (Below.refl _ _)
  by_cases h1 : re = 0
  · subst h1
    by_cases h2 : rt = 1
    · subst h2
      by_cases h3 : se = 0
      · subst h3
        by_cases h4 : st = 1
        · subst h4
          obtain ⟨rfl, rfl, rfl⟩ : xt = 1 ∧ xa = 0 ∧ xe = 0 := by simpa using hpt
          clear hpt
          go_wp2_with fail
          refine (HCn.out W9 (Below.refl _ _)).mono ?_
          rintro e w10 ⟨rfl, b10⟩
          have B10 : Hid (Below W9.heap.size W9 w10) := b10
          clear b10 x0 x1 x2 x3 x4 x5 y0 y1 y2' y3' y4' y5' z0 z1 z2 z3 z4 z5 k0 k1
          simp only [ckV]
          obtain ⟨x0, x1, x2, x3, x4, x5, y0, y1, y2', y3', y4', y5', z0, z1, z2, z3, z4, z5, k0, k1⟩ := KS.out w10 B10.out
          go_wp2_with fail
          refine (HCm.out w10 B10.out).mono ?_
          rintro e w11 ⟨rfl, b11⟩
          have B11 : Hid (Below W9.heap.size W9 w11) := B10.out.trans (b11.mono B10.out.size)
          clear b11 x0 x1 x2 x3 x4 x5 y0 y1 y2' y3' y4' y5' z0 z1 z2 z3 z4 z5 k0 k1
          simp only [ckV]
          obtain ⟨x0, x1, x2, x3, x4, x5, y0, y1, y2', y3', y4', y5', z0, z1, z2, z3, z4, z5, k0, k1⟩ := KS.out w11 B11.out
          go_wp2_with fail
          refine (HCx.out w11 B11.out).mono ?_
          rintro e w12 ⟨rfl, b12⟩
          have B12 : Hid (Below W9.heap.size W9 w12) := B11.out.trans (b12.mono B11.out.size)
          clear b12 x0 x1 x2 x3 x4 x5 y0 y1 y2' y3' y4' y5' z0 z1 z2 z3 z4 z5 k0 k1
          simp only [ckV]
          obtain ⟨x0, x1, x2, x3, x4, x5, y0, y1, y2', y3', y4', y5', z0, z1, z2, z3, z4, z5, k0, k1⟩ := KS.out w12 B12.out
          go_wp2_with fail
          go_ret
          exact ⟨by simp, B9.out.trans (B12.out.mono B9.out.size)⟩
        · obtain ⟨rfl, rfl, rfl⟩ : xt = 0 ∧ xa = r5 ∧ xe = 35 := by simpa [h4] using hpt
          have e4 : (st == 1) = false := by rw [beq_eq_false_iff_ne]; exact h4
          clear hpt
          go_wp2_with fail
          refine (HCn.out W9 (Below.refl _ _)).mono ?_
          rintro e w10 ⟨rfl, b10⟩
          have B10 : Hid (Below W9.heap.size W9 w10) := b10
          clear b10 x0 x1 x2 x3 x4 x5 y0 y1 y2' y3' y4' y5' z0 z1 z2 z3 z4 z5 k0 k1
          simp only [ckV]
          obtain ⟨x0, x1, x2, x3, x4, x5, y0, y1, y2', y3', y4', y5', z0, z1, z2, z3, z4, z5, k0, k1⟩ := KS.out w10 B10.out
          go_wp2_with fail
          refine (HCm.out w10 B10.out).mono ?_
          rintro e w11 ⟨rfl, b11⟩
          have B11 : Hid (Below W9.heap.size W9 w11) := B10.out.trans (b11.mono B10.out.size)
          clear b11 x0 x1 x2 x3 x4 x5 y0 y1 y2' y3' y4' y5' z0 z1 z2 z3 z4 z5 k0 k1
          simp only [ckV]
          obtain ⟨x0, x1, x2, x3, x4, x5, y0, y1, y2', y3', y4', y5', z0, z1, z2, z3, z4, z5, k0, k1⟩ := KS.out w11 B11.out
          go_wp2_with fail
          refine (HCx.out w11 B11.out).mono ?_
          rintro e w12 ⟨rfl, b12⟩
          have B12 : Hid (Below W9.heap.size W9 w12) := B11.out.trans (b12.mono B11.out.size)
          clear b12 x0 x1 x2 x3 x4 x5 y0 y1 y2' y3' y4' y5' z0 z1 z2 z3 z4 z5 k0 k1
          simp only [ckV]
          obtain ⟨x0, x1, x2, x3, x4, x5, y0, y1, y2', y3', y4', y5', z0, z1, z2, z3, z4, z5, k0, k1⟩ := KS.out w12 B12.out
          go_wp2_with fail
          go_ret
          exact ⟨by simp, B9.out.trans (B12.out.mono B9.out.size)⟩
      · obtain ⟨rfl, _, rfl⟩ : xt = 0 ∧ xa = y'.ck.2.1 ∧ xe = se := by simpa [h3] using hpt
        have e4 : (xe == 0) = false := by rw [beq_eq_false_iff_ne]; exact h3
        clear hpt
        go_wp2_with fail
        refine (HCn.out W9 (Below.refl _ _)).mono ?_
        rintro e w10 ⟨rfl, b10⟩
        have B10 : Hid (Below W9.heap.size W9 w10) := b10
        clear b10 x0 x1 x2 x3 x4 x5 y0 y1 y2' y3' y4' y5' z0 z1 z2 z3 z4 z5 k0 k1
        simp only [ckV]
        obtain ⟨x0, x1, x2, x3, x4, x5, y0, y1, y2', y3', y4', y5', z0, z1, z2, z3, z4, z5, k0, k1⟩ := KS.out w10 B10.out
        go_wp2_with fail
        refine (HCm.out w10 B10.out).mono ?_
        rintro e w11 ⟨rfl, b11⟩
        have B11 : Hid (Below W9.heap.size W9 w11) := B10.out.trans (b11.mono B10.out.size)
        clear b11 x0 x1 x2 x3 x4 x5 y0 y1 y2' y3' y4' y5' z0 z1 z2 z3 z4 z5 k0 k1
        simp only [ckV]
        obtain ⟨x0, x1, x2, x3, x4, x5, y0, y1, y2', y3', y4', y5', z0, z1, z2, z3, z4, z5, k0, k1⟩ := KS.out w11 B11.out
        go_wp2_with fail
        refine (HCx.out w11 B11.out).mono ?_
        rintro e w12 ⟨rfl, b12⟩
        have B12 : Hid (Below W9.heap.size W9 w12) := B11.out.trans (b12.mono B11.out.size)
        clear b12 x0 x1 x2 x3 x4 x5 y0 y1 y2' y3' y4' y5' z0 z1 z2 z3 z4 z5 k0 k1
        simp only [ckV]
        obtain ⟨x0, x1, x2, x3, x4, x5, y0, y1, y2', y3', y4', y5', z0, z1, z2, z3, z4, z5, k0, k1⟩ := KS.out w12 B12.out
        go_wp2_with fail
        go_ret
        exact ⟨by simp, B9.out.trans (B12.out.mono B9.out.size)⟩
    · obtain ⟨rfl, rfl, rfl⟩ : xt = 0 ∧ xa = r4 ∧ xe = 35 := by simpa [h2] using hpt
      have e4 : (rt == 1) = false := by rw [beq_eq_false_iff_ne]; exact h2
      clear hpt
      go_wp2_with fail
      refine (HCn.out W9 (Below.refl _ _)).mono ?_
      rintro e w10 ⟨rfl, b10⟩
      have B10 : Hid (Below W9.heap.size W9 w10) := b10
      clear b10 x0 x1 x2 x3 x4 x5 y0 y1 y2' y3' y4' y5' z0 z1 z2 z3 z4 z5 k0 k1
      simp only [ckV]
      obtain ⟨x0, x1, x2, x3, x4, x5, y0, y1, y2', y3', y4', y5', z0, z1, z2, z3, z4, z5, k0, k1⟩ := KS.out w10 B10.out
      go_wp2_with fail
      refine (HCm.out w10 B10.out).mono ?_
      rintro e w11 ⟨rfl, b11⟩
      have B11 : Hid (Below W9.heap.size W9 w11) := B10.out.trans (b11.mono B10.out.size)
      clear b11 x0 x1 x2 x3 x4 x5 y0 y1 y2' y3' y4' y5' z0 z1 z2 z3 z4 z5 k0 k1
      simp only [ckV]
      obtain ⟨x0, x1, x2, x3, x4, x5, y0, y1, y2', y3', y4', y5', z0, z1, z2, z3, z4, z5, k0, k1⟩ := KS.out w11 B11.out
      go_wp2_with fail
      refine (HCx.out w11 B11.out).mono ?_
      rintro e w12 ⟨rfl, b12⟩
      have B12 : Hid (Below W9.heap.size W9 w12) := B11.out.trans (b12.mono B11.out.size)
      clear b12 x0 x1 x2 x3 x4 x5 y0 y1 y2' y3' y4' y5' z0 z1 z2 z3 z4 z5 k0 k1
      simp only [ckV]
      obtain ⟨x0, x1, x2, x3, x4, x5, y0, y1, y2', y3', y4', y5', z0, z1, z2, z3, z4, z5, k0, k1⟩ := KS.out w12 B12.out
      go_wp2_with fail
      go_ret
      exact ⟨by simp, B9.out.trans (B12.out.mono B9.out.size)⟩
  · obtain ⟨rfl, _, rfl⟩ : xt = 0 ∧ xa = x.ck.2.1 ∧ xe = re := by simpa [h1] using hpt
    have e4 : (xe == 0) = false := by rw [beq_eq_false_iff_ne]; exact h1
    clear hpt
    go_wp2_with fail
    refine (HCn.out W9 (Below.refl _ _)).mono ?_
    rintro e w10 ⟨rfl, b10⟩
    have B10 : Hid (Below W9.heap.size W9 w10) := b10
    clear b10 x0 x1 x2 x3 x4 x5 y0 y1 y2' y3' y4' y5' z0 z1 z2 z3 z4 z5 k0 k1
    simp only [ckV]
    obtain ⟨x0, x1, x2, x3, x4, x5, y0, y1, y2', y3', y4', y5', z0, z1, z2, z3, z4, z5, k0, k1⟩ := KS.out w10 B10.out
    go_wp2_with fail
    refine (HCm.out w10 B10.out).mono ?_
    rintro e w11 ⟨rfl, b11⟩
    have B11 : Hid (Below W9.heap.size W9 w11) := B10.out.trans (b11.mono B10.out.size)
    clear b11 x0 x1 x2 x3 x4 x5 y0 y1 y2' y3' y4' y5' z0 z1 z2 z3 z4 z5 k0 k1
    simp only [ckV]
    obtain ⟨x0, x1, x2, x3, x4, x5, y0, y1, y2', y3', y4', y5', z0, z1, z2, z3, z4, z5, k0, k1⟩ := KS.out w11 B11.out
    go_wp2_with fail
    refine (HCx.out w11 B11.out).mono ?_
    rintro e w12 ⟨rfl, b12⟩
    have B12 : Hid (Below W9.heap.size W9 w12) := B11.out.trans (b12.mono B11.out.size)
    clear b12 x0 x1 x2 x3 x4 x5 y0 y1 y2' y3' y4' y5' z0 z1 z2 z3 z4 z5 k0 k1
    simp only [ckV]
    obtain ⟨x0, x1, x2, x3, x4, x5, y0, y1, y2', y3', y4', y5', z0, z1, z2, z3, z4, z5, k0, k1⟩ := KS.out w12 B12.out
    go_wp2_with fail
    go_ret
    exact ⟨by simp, B9.out.trans (B12.out.mono B9.out.size)⟩

end Go.Proofs.YtdgdckmhmmigkaaDoor
