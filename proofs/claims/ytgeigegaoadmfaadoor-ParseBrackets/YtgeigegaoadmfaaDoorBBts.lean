/-
  ParseBrackets by a contract. No condition but that the program's variables hold what its text lays there.
-/
import Derived.Test.YtgeigegaoadmfaaDoorJCal
namespace Go.Proofs.YtgeigegaoadmfaaDoor
open Go.RowKit

theorem cat3 (x y z : ByteArray) : (x ++ y ++ z).data.toList = x.data.toList ++ y.data.toList ++ z.data.toList := by simp
theorem size_cat (x y : ByteArray) : (x ++ y).size = x.size + y.size := by simp

/-- What is held of the two trees, at whatever world above. -/
structure Two (w W8 : World) (m5 m8 : Nat) (o : Int) (y : Bs) (i j : Int) (p : Option Addr) (l q : Nat) (r : Int) (o2 : Int) (y2 : Bs) (i2 j2 : Int) (p2 : Option Addr) (l2 q2 : Nat) (r2 : Int) (Q1 Q2 : Nat → Prop) (n m : Nd) (a b : Bs) (ts us : List Tk) : Prop where
  b5 : Box6 W8 m5 28 (.int .i64 o) (.string ⟨y.toArray⟩) (.int .i64 i) (.int .u64 j) (.slice p l q) (.int .i64 r)
  b8 : Box6 W8 m8 28 (.int .i64 o2) (.string ⟨y2.toArray⟩) (.int .i64 i2) (.int .u64 j2) (.slice p2 l2 q2) (.int .i64 r2)
  n1 : NdIn Q1 W8 ⟨o, y, i, j, p, l, q, r⟩ n
  n2 : NdIn Q2 W8 ⟨o2, y2, i2, j2, p2, l2, q2, r2⟩ m
  s1 : Sc 0 a ts none
  s2 : Sc 0 b us none
  g1 : Gm a.length (.row 1) ts (.ok n [])
  g2 : Gm b.length (.row 1) us (.ok m [])
  f1 : n.wt ≤ 42000 ∧ n.sz ≤ 2000
  f2 : m.wt ≤ 42000 ∧ m.sz ≤ 2000
  bel : Below w.heap.size w W8

set_option maxHeartbeats 3200000 in
set_option maxRecDepth 100000 in
theorem brackets_walk (a b : ByteArray) (hma : a.size ≤ 9223372036854775807) (hmb : b.size ≤ 9223372036854775807) (w : World) (hg : Gl w) (hi : Inf w) :
    Calls Tryd.prog 4 #[.string a, .string b] w fun e w' => e = .returned (.bool true) ∧ Below w.heap.size w w' := by
  have ha := awake_any w hg hi
  have H : Hid (Gl w ∧ Inf w) := ⟨hg, hi⟩
  clear hg hi
  go_enter Tryd.func4, Tryd.ntmps4
  go_wp2_with fail
  refine ha.mono ?_
  rintro e w1 ⟨rfl, b1⟩
  have B1 : Hid (Below w.heap.size w w1) := b1
  clear ha b1
  go_wp2_with fail
  refine (parse_any a hma w1 (H.out.1.below B1.out) (H.out.2.below B1.out)).mono ?_
  rintro e w2 ⟨⟨o, y, i, j, p, l, q, r⟩, a1, c1, rfl, b2, hp1⟩
  obtain ⟨W5, m5, hW5, hm5, hx5, bW5, c5, hB5, hlt5⟩ := lay6 (B1.out.trans (b2.mono B1.out.size)) (by have := B1.out.size; have := b2.size; omega) 28 (.int .i64 o) (.string ⟨y.toArray⟩) (.int .i64 i) (.int .u64 j) (.slice p l q) (.int .i64 r)
  have B5 : Hid (Below w.heap.size w W5 ∧ Below w2.heap.size w2 W5) := ⟨bW5, c5⟩
  have HX5 : Hid (Box6 W5 m5 28 (.int .i64 o) (.string ⟨y.toArray⟩) (.int .i64 i) (.int .u64 j) (.slice p l q) (.int .i64 r)) := hx5
  have HP1 : Hid (Pw a.data.toList (Bt w1.heap.size w2.heap.size) ⟨o, y, i, j, p, l, q, r⟩ a1 c1 w2) := hp1
  clear b2 hp1 hx5 bW5 c5
  go_upto_region 4 with fail
  clear hW5 hm5
  go_wp2_with fail
  refine (parse_any b hmb W5 (H.out.1.below B5.out.1) (H.out.2.below B5.out.1)).mono ?_
  rintro e w3 ⟨⟨o2, y2, i2, j2, p2, l2, q2, r2⟩, a2, c2, rfl, b3, hp2⟩
  obtain ⟨W8, m8, hW8, hm8, hx8, bW8, c8, hB8, hlt8⟩ := lay6 (B5.out.1.trans (b3.mono B5.out.1.size)) (by have := B5.out.1.size; have := b3.size; omega) 28 (.int .i64 o2) (.string ⟨y2.toArray⟩) (.int .i64 i2) (.int .u64 j2) (.slice p2 l2 q2) (.int .i64 r2)
  have B8 : Hid (Below w.heap.size w W8 ∧ Below w3.heap.size w3 W8 ∧ Below W5.heap.size W5 W8) := ⟨bW8, c8, b3.trans (c8.mono b3.size)⟩
  have HX8 : Hid (Box6 W8 m8 28 (.int .i64 o2) (.string ⟨y2.toArray⟩) (.int .i64 i2) (.int .u64 j2) (.slice p2 l2 q2) (.int .i64 r2)) := hx8
  have HP2 : Hid (Pw b.data.toList (Bt W5.heap.size w3.heap.size) ⟨o2, y2, i2, j2, p2, l2, q2, r2⟩ a2 c2 w3) := hp2
  clear b3 hp2 hx8 bW8 c8
  go_upto_region 5 with fail
  clear hW8 hm8
  rcases HP1.out with ⟨ts, n, hl1, hs1, hg1, hd1, rfl, rfl, hn1⟩ | ⟨_, hc1⟩
  rotate_left
  · have e1 : (c1 == 0) = false := by rw [beq_eq_false_iff_ne]; omega
    have e2 : ¬ c1 = 0 := by omega
    clear hc1
    go_wp2_with fail
    go_ret
    exact ⟨rfl, B8.out.1⟩
  rcases HP2.out with ⟨us, m, hl2, hs2, hg2, hd2, rfl, rfl, hn2⟩ | ⟨_, hc2⟩
  rotate_left
  · have e1 : (c2 == 0) = false := by rw [beq_eq_false_iff_ne]; omega
    have e2 : ¬ c2 = 0 := by omega
    clear hc2 hs1 hg1 hd1 hn1 hl1
    go_wp2_with fail
    go_ret
    exact ⟨rfl, B8.out.1⟩
  clear HP1 HP2
  obtain ⟨_, f1, f1'⟩ := read_wf hs1 hl1 hg1
  obtain ⟨_, f2, f2'⟩ := read_wf hs2 hl2 hg2
  have has : a.size ≤ 1024 := by rw [bsize]; exact hl1
  have hbs : b.size ≤ 1024 := by rw [bsize]; exact hl2
  have HT : Hid (Two w W8 m5 m8 o y i j p l q r o2 y2 i2 j2 p2 l2 q2 r2 (Bt w1.heap.size w2.heap.size) (Bt W5.heap.size w3.heap.size) n m a.data.toList b.data.toList ts us) :=
    ⟨HX5.out.below B8.out.2.2, HX8.out, (hn1.below B5.out.2).below B8.out.2.2, hn2.below B8.out.2.1, hs1, hs2, hg1, hg2, ⟨f1, f1'⟩, ⟨f2, f2'⟩, B8.out.1⟩
  clear hn1 hn2 hs1 hs2 hg1 hg2 f1 f1' f2 f2' hl1 hl2
  by_cases hsz : 1000 < a.size + b.size
  · have e1 : (1000 : Int) < (a.size : Int) + (b.size : Int) := by omega
    go_wp2_with fail
    go_ret
    exact ⟨rfl, HT.out.bel⟩
  have e1 : ¬ (1000 : Int) < (a.size : Int) + (b.size : Int) := by omega
  have hN1 : Hid (∀ u, Below W8.heap.size W8 u → Calls Tryd.prog 9 _ _ _) := fun u (hu : Below W8.heap.size W8 u) => lnode_any n (by have := HT.out.f1.2; omega) _ u _ (HT.out.n1.below hu)
  have hN2 : Hid (∀ u, Below W8.heap.size W8 u → Calls Tryd.prog 9 _ _ _) := fun u (hu : Below W8.heap.size W8 u) => lnode_any m (by have := HT.out.f2.2; omega) _ u _ (HT.out.n2.below hu)
  obtain ⟨x0, x1, x2, x3, x4, x5⟩ := HT.out.b5.cells
  go_wp2_with (go_at_call 9; refine (hN1.out W8 (Below.refl _ _)).mono ?_; rintro e w9 ⟨_, rfl, v9, rfl, hn9, b9⟩)
  have B9 : Hid (Below W8.heap.size W8 w9) := b9
  clear b9 x0 x1 x2 x3 x4 x5
  have hD1 := rdepth_any n (by have := HT.out.f1.2; omega) _ w9 v9 hn9
  clear hn9
  obtain ⟨D, hD⟩ : ∃ D, n.dep = D := ⟨_, rfl⟩
  rw [hD] at hD1 hd1
  by_cases h24 : 24 ≤ D
  · have e3 : (24 : Int) ≤ (D : Int) := by omega
    go_wp2_with (go_at_call 11; refine hD1.mono ?_; rintro e w10 ⟨rfl, b10⟩)
    go_ret
    exact ⟨rfl, HT.out.bel.trans ((B9.out.trans (b10.mono B9.out.size)).mono HT.out.bel.size)⟩
  have e3 : ¬ (24 : Int) ≤ (D : Int) := by omega
  go_wp2_with (go_at_call 11; refine hD1.mono ?_; rintro e w10 ⟨rfl, b10⟩; have B10 : Hid (Below W8.heap.size W8 w10) := B9.out.trans (b10.mono B9.out.size); clear hD1 b10; obtain ⟨x0, x1, x2, x3, x4, x5⟩ := (HT.out.b8.below B10.out).cells)
  refine (hN2.out w10 B10.out).mono ?_
  rintro e w11 ⟨_, rfl, v11, rfl, hn11, b11⟩
  have B11 : Hid (Below W8.heap.size W8 w11) := B10.out.trans (b11.mono B10.out.size)
  have hD2 := rdepth_any m (by have := HT.out.f2.2; omega) _ w11 v11 hn11
  clear hn11 b11 x0 x1 x2 x3 x4 x5
  obtain ⟨D2, hD'⟩ : ∃ D, m.dep = D := ⟨_, rfl⟩
  rw [hD'] at hD2 hd2
  by_cases h24' : 24 ≤ D2
  · have e4 : (24 : Int) ≤ (D2 : Int) := by omega
    go_wp2_with (go_at_call 11; refine hD2.mono ?_; rintro e w12 ⟨rfl, b12⟩)
    go_ret
    exact ⟨rfl, HT.out.bel.trans ((B11.out.trans (b12.mono B11.out.size)).mono HT.out.bel.size)⟩
  have e4 : ¬ (24 : Int) ≤ (D2 : Int) := by omega
  go_wp2_with (go_at_call 11; refine hD2.mono ?_; rintro e w12 ⟨rfl, b12⟩; have B12 : Hid (Below W8.heap.size W8 w12) := B11.out.trans (b12.mono B11.out.size); clear hD2 b12)
  clear hd1 hd2
  have hdn : n.dep < 24 := by omega
  have hdm : m.dep < 24 := by omega
  have HDD : Hid (n.dep < 24 ∧ m.dep < 24) := ⟨hdn, hdm⟩
  clear hD hD' h24 h24' e3 e4 hdn hdm
  obtain ⟨vs, x, hvs, hxe, hxg⟩ := brackets HT.out.s1 HT.out.g1 (((⟨#[32, 40, 32]⟩ : ByteArray) ++ a ++ ⟨#[32, 41, 32]⟩).size : Int)
  have hxl : ((⟨#[32, 40, 32]⟩ : ByteArray) ++ a ++ ⟨#[32, 41, 32]⟩).data.toList = [32, 40, 32] ++ a.data.toList ++ [32, 41, 32] := cat3 _ _ _
  have hxs : ((⟨#[32, 40, 32]⟩ : ByteArray) ++ a ++ ⟨#[32, 41, 32]⟩).size ≤ 1024 := by rw [size_cat, size_cat]; show 3 + a.size + 3 ≤ 1024; omega
  rw [← hxl] at hvs
  have B012 : Hid (Below w.heap.size w w12) := HT.out.bel.trans (B12.out.mono HT.out.bel.size)
  refine (parse_ans _ hxs hvs w12 (H.out.1.below B012.out) (H.out.2.below B012.out)).mono ?_
  rintro e w13 ⟨⟨o3, y3, i3, j3, p3, l3, q3, r3⟩, a3, c3, rfl, b13, hp3⟩
  obtain ⟨rfl, rfl, hn3, hg3⟩ := hp3.okay (rn_of hxg) (by rw [dep_same hxe]; have := HDD.out.1; omega)
  obtain ⟨_, hx1, hx2⟩ := read_wf hvs (by rw [← bsize]; exact hxs) hg3
  obtain ⟨W14, m11, hW14, hm11, hx14, bW14, c14, hB14, hlt14⟩ := lay6 (B12.out.trans (b13.mono B12.out.size)) (by have := B12.out.size; have := b13.size; omega) 28 (.int .i64 o3) (.string ⟨y3.toArray⟩) (.int .i64 i3) (.int .u64 j3) (.slice p3 l3 q3) (.int .i64 r3)
  have B14 : Hid (Below W8.heap.size W8 W14) := bW14
  have KS : Hid (∀ u, Below W14.heap.size W14 u → u.cell? ⟨m11, 0, none⟩ = some (.int .i64 o3) ∧ u.cell? ⟨m11, 1, none⟩ = some (.string ⟨y3.toArray⟩) ∧ u.cell? ⟨m11, 2, none⟩ = some (.int .i64 i3) ∧ u.cell? ⟨m11, 3, none⟩ = some (.int .u64 j3) ∧ u.cell? ⟨m11, 4, none⟩ = some (.slice p3 l3 q3) ∧ u.cell? ⟨m11, 5, none⟩ = some (.int .i64 r3) ∧
      u.cell? ⟨m5, 0, none⟩ = some (.int .i64 o) ∧ u.cell? ⟨m5, 1, none⟩ = some (.string ⟨y.toArray⟩) ∧ u.cell? ⟨m5, 2, none⟩ = some (.int .i64 i) ∧ u.cell? ⟨m5, 3, none⟩ = some (.int .u64 j) ∧ u.cell? ⟨m5, 4, none⟩ = some (.slice p l q) ∧ u.cell? ⟨m5, 5, none⟩ = some (.int .i64 r)) := fun u b => by
    obtain ⟨a0, a1, a2, a3, a4, a5⟩ := (hx14.below b).cells
    obtain ⟨b0, b1, b2, b3, b4, b5⟩ := ((HT.out.b5.below B14.out).below b).cells
    exact ⟨a0, a1, a2, a3, a4, a5, b0, b1, b2, b3, b4, b5⟩
  have H1 : Hid (∀ u, Below W14.heap.size W14 u → Calls Tryd.prog 9 _ _ _) := fun u (hu : Below W14.heap.size W14 u) => lnode_any x (by omega) _ u _ ((hn3.below c14).below hu)
  have H2 : Hid (∀ u, Below W14.heap.size W14 u → Calls Tryd.prog 9 _ _ _) := fun u (hu : Below W14.heap.size W14 u) => hN1.out u (B14.out.trans (hu.mono B14.out.size))
  have H3 : Hid (∀ (Q R : Nat → Prop) (w : World) (v u : NV), NdIn Q w v x → NdIn R w u n → Calls Tryd.prog 8 #[v.val, u.val, .bool false] w fun e w' => e = .returned (.bool true) ∧ Below w.heap.size w w') := rsame_any x (by omega) n false ⟨hxe, fun q => by cases q⟩
  clear hvs hxe hxg hxl hxs b13 hp3 hn3 hg3 hx1 hx2 hx14 bW14 c14
  go_upto_region 8 with fail
  clear hW14 hm11
  obtain ⟨x0, x1, x2, x3, x4, x5, z0, z1, z2, z3, z4, z5⟩ := KS.out W14 (Below.refl _ _)
  go_region_held3 (fun u => u.cell? ⟨m11, 0, none⟩ = some (.int .i64 o3) ∧ u.cell? ⟨m11, 1, none⟩ = some (.string ⟨y3.toArray⟩) ∧ u.cell? ⟨m11, 2, none⟩ = some (.int .i64 i3) ∧ u.cell? ⟨m11, 3, none⟩ = some (.int .u64 j3) ∧ u.cell? ⟨m11, 4, none⟩ = some (.slice p3 l3 q3) ∧ u.cell? ⟨m11, 5, none⟩ = some (.int .i64 r3) ∧
      u.cell? ⟨m5, 0, none⟩ = some (.int .i64 o) ∧ u.cell? ⟨m5, 1, none⟩ = some (.string ⟨y.toArray⟩) ∧ u.cell? ⟨m5, 2, none⟩ = some (.int .i64 i) ∧ u.cell? ⟨m5, 3, none⟩ = some (.int .u64 j) ∧ u.cell? ⟨m5, 4, none⟩ = some (.slice p l q) ∧ u.cell? ⟨m5, 5, none⟩ = some (.int .i64 r))
    (first | with_reducible exact kS9 | with_reducible exact kS8 | with_reducible exact kS7 | go_keep)
    (first
      | (go_at_call 8; (with_reducible refine (H3.out _ _ _ _ _ (HV7.out.below B78.out) HV8.out).mono ?_); rintro e w19 ⟨rfl, b9⟩; have B19 : Hid (Below W14.heap.size W14 w19) := B18.out.trans (b9.mono B18.out.size); have kS9 := KS.out _ B19.out; clear b9)
      | (go_at_call 9; (with_reducible refine (H1.out _ (by exact (Below.refl _ W14).drew)).mono ?_); rintro e w17 ⟨_, rfl, v7, rfl, hn7, b7⟩; have B17 : Hid (Below W14.heap.size W14 w17) := undrewB b7; have HV7 : Hid (NdIn _ w17 v7 x) := hn7; have kS7 := KS.out _ B17.out; clear hn7 b7)
      | (go_at_call 9; (with_reducible refine (H2.out _ B17.out).mono ?_); rintro e w18 ⟨_, rfl, v8, rfl, hn8, b8⟩; have B18 : Hid (Below W14.heap.size W14 w18) := B17.out.trans (b8.mono B17.out.size); have HV8 : Hid (NdIn _ w18 v8 n) := hn8; have B78 : Hid (Below w17.heap.size w17 w18) := b8; have kS8 := KS.out _ B18.out; clear hn8 b8))
  clear x0 x1 x2 x3 x4 x5 z0 z1 z2 z3 z4 z5 kS7 kS8 kS9
  have B19' : Hid (Below W8.heap.size W8 w19) := B14.out.trans (B19.out.mono B14.out.size)
  clear KS H1 H2 H3 HV7 HV8 B78
  obtain ⟨W20, m14, hW20, hm14, hx20, bW20, c20, hB20, hlt20⟩ := lay5 B19'.out B19'.out.size 40 (.string ⟨#[124]⟩) (.string ⟨#[45]⟩) (.string ⟨#[38]⟩) (.string ⟨#[46, 46]⟩) (.string ⟨#[58, 58]⟩)
  have HX20 : Hid (Box5 W20 m14 40 (.string ⟨#[124]⟩) (.string ⟨#[45]⟩) (.string ⟨#[38]⟩) (.string ⟨#[46, 46]⟩) (.string ⟨#[58, 58]⟩) ∧ Below W8.heap.size W8 W20) := ⟨hx20, bW20⟩
  clear hx20 bW20 c20
  go_upto_region 11 with fail
  clear hW20 hm14
  go_wp2_with fail
  go_loopg [15] 5 (fun g iv wr => ∃ i : Nat, iv = .int .i64 i ∧ i + g = 5 ∧ Hid (Below W20.heap.size W20 wr))
  case atStart => exact ⟨0, rfl, by omega, Below.refl _ _⟩
  case round =>
    obtain ⟨k, rfl, hk, HB⟩ := hrel
    have HW : Hid (Below W8.heap.size W8 wr) := HX20.out.2.trans (HB.out.mono HX20.out.2.size)
    have HW0 : Hid (Below w.heap.size w wr) := HT.out.bel.trans (HW.out.mono HT.out.bel.size)
    by_cases hin : k < 5
    · have hii : (k : Int) < 5 := by omega
      have hi0 : (0 : Int) ≤ (k : Int) := by omega
      obtain ⟨G, hG, hGs, hcell⟩ : ∃ G : ByteArray, G.data.toList = opT (6 + (k : Int)) ∧ G.size ≤ 2 ∧ wr.cell? ⟨m14, k, none⟩ = some (.string G) := by
        obtain ⟨q0, q1, q2, q3, q4⟩ := (HX20.out.1.below HB.out).cells
        obtain rfl | rfl | rfl | rfl | rfl : k = 0 ∨ k = 1 ∨ k = 2 ∨ k = 3 ∨ k = 4 := by omega
        · exact ⟨_, by decide, by decide, q0⟩
        · exact ⟨_, by decide, by decide, q1⟩
        · exact ⟨_, by decide, by decide, q2⟩
        · exact ⟨_, by decide, by decide, q3⟩
        · exact ⟨_, by decide, by decide, q4⟩
      obtain ⟨vs, x', y', hvs, hxe, hye, hxg⟩ := between HT.out.s1 HT.out.g1 HT.out.s2 HT.out.g2 (((⟨#[40]⟩ : ByteArray) ++ a ++ ⟨#[41]⟩ ++ G ++ ⟨#[40]⟩ ++ b ++ ⟨#[41]⟩).size : Int) (opT_mem (6 + (k : Int))) (by rw [opOf_opT _ (by omega)]; omega)
      have hxl : ((⟨#[40]⟩ : ByteArray) ++ a ++ ⟨#[41]⟩ ++ G ++ ⟨#[40]⟩ ++ b ++ ⟨#[41]⟩).data.toList = [40] ++ a.data.toList ++ [41] ++ opT (6 + (k : Int)) ++ [40] ++ b.data.toList ++ [41] := by rw [← hG]; simp
      have hxs : ((⟨#[40]⟩ : ByteArray) ++ a ++ ⟨#[41]⟩ ++ G ++ ⟨#[40]⟩ ++ b ++ ⟨#[41]⟩).size ≤ 1024 := by
        simp only [size_cat]
        show 1 + a.size + 1 + G.size + 1 + b.size + 1 ≤ 1024
        omega
      rw [← hxl] at hvs
      have hbo : (opOf ((sgT (opT (6 + (k : Int)))).at (a.data.toList.length + 2)).text) = 6 + (k : Int) := opOf_opT _ (by omega)
      go_wp2_with fail
      refine (parse_ans _ hxs hvs wr (H.out.1.below HW0.out) (H.out.2.below HW0.out)).mono ?_
      rintro e w21 ⟨⟨o3, y3, i3, j3, p3, l3, q3, r3⟩, a3, c3, rfl, b21, hp3⟩
      obtain ⟨rfl, rfl, hn3, hg3⟩ := hp3.okay (rn_of hxg) (by rw [dep_bin, dep_same hxe, dep_same hye]; have := HDD.out; omega)
      obtain ⟨_, hx1, hx2⟩ := read_wf hvs (by rw [← bsize]; exact hxs) hg3
      obtain rfl : o3 = 6 + (k : Int) := hn3.op.trans hbo
      obtain rfl : y3 = [] := hn3.text
      obtain rfl : i3 = 0 := hn3.num
      obtain rfl : j3 = 0 := hn3.id
      obtain rfl : l3 = 2 := hn3.kl
      obtain rfl : r3 = (a.size : Int) + 2 := by
        rw [bsize]
        exact hn3.pos
      obtain ⟨zs, hzr, _, hzn, hzl⟩ := hn3.rows
      obtain ⟨⟨o4, y4, i4, j4, p4, l4, q4, r4⟩, ⟨o5, y5, i5, j5, p5, l5, q5, r5⟩, rfl⟩ : ∃ u v : NV, zs = [u, v] := by
        match zs, hzl with
        | [u, v], _ => exact ⟨u, v, rfl⟩
      have hzn2 : NdsIn (Bt wr.heap.size w21.heap.size) w21 [⟨o4, y4, i4, j4, p4, l4, q4, r4⟩, ⟨o5, y5, i5, j5, p5, l5, q5, r5⟩] [x', y'] := by
        have := hzn
        rwa [show ndL (binN ((sgT (opT (6 + (k : Int)))).at (a.data.toList.length + 2)) x' y').kids = [x', y'] from ndL_fo _] at this
      obtain ⟨u1, hu1, hk1⟩ := hzn2.get (i := 0) (n := x') rfl
      obtain ⟨u2, hu2, hk2⟩ := hzn2.get (i := 1) (n := y') rfl
      cases hu1
      cases hu2
      obtain ⟨kb, ko, rfl, _⟩ := hzr.some_of (i := 0) rfl
      have hsx : x'.sz ≤ 2000 ∧ y'.sz ≤ 2000 := by
        have h1 := ndL_sz (foOf [x', y']) x' (by rw [ndL_fo]; simp)
        have h2 := ndL_sz (foOf [x', y']) y' (by rw [ndL_fo]; simp)
        have h3 : (binN ((sgT (opT (6 + (k : Int)))).at (a.data.toList.length + 2)) x' y').sz = sz (foOf [x', y']) + 1 := rfl
        omega
      obtain ⟨W22, m16, hW22, hm16, hx22, bW22, c22, hB22, hlt22⟩ := lay6 (HW.out.trans (b21.mono HW.out.size)) (by have := HW.out.size; have := b21.size; omega) 28 (.int .i64 (6 + (k : Int))) (.string ⟨#[]⟩) (.int .i64 0) (.int .u64 0) (.slice (some ⟨kb, ko, none⟩) 2 q3) (.int .i64 ((a.size : Int) + 2))
      have B22 : Hid (Below W8.heap.size W8 W22 ∧ Below W20.heap.size W20 W22) := ⟨bW22, HB.out.trans ((b21.trans (c22.mono b21.size)).mono HB.out.size)⟩
      have KS : Hid (∀ u, Below W22.heap.size W22 u → u.cell? ⟨m16, 0, none⟩ = some (.int .i64 (6 + (k : Int))) ∧ u.cell? ⟨m16, 1, none⟩ = some (.string ⟨#[]⟩) ∧ u.cell? ⟨m16, 2, none⟩ = some (.int .i64 0) ∧ u.cell? ⟨m16, 3, none⟩ = some (.int .u64 0) ∧ u.cell? ⟨m16, 4, none⟩ = some (.slice (some ⟨kb, ko, none⟩) 2 q3) ∧ u.cell? ⟨m16, 5, none⟩ = some (.int .i64 ((a.size : Int) + 2)) ∧ u.cell? ⟨kb, ko, none⟩ = some (.int .i64 o4) ∧ u.cell? ⟨kb, ko + 1, none⟩ = some (.string ⟨y4.toArray⟩) ∧ u.cell? ⟨kb, ko + 2, none⟩ = some (.int .i64 i4) ∧ u.cell? ⟨kb, ko + 3, none⟩ = some (.int .u64 j4) ∧ u.cell? ⟨kb, ko + 4, none⟩ = some (.slice p4 l4 q4) ∧ u.cell? ⟨kb, ko + 5, none⟩ = some (.int .i64 r4) ∧ u.cell? ⟨kb, ko + 6, none⟩ = some (.int .i64 o5) ∧ u.cell? ⟨kb, ko + 7, none⟩ = some (.string ⟨y5.toArray⟩) ∧ u.cell? ⟨kb, ko + 8, none⟩ = some (.int .i64 i5) ∧ u.cell? ⟨kb, ko + 9, none⟩ = some (.int .u64 j5) ∧ u.cell? ⟨kb, ko + 10, none⟩ = some (.slice p5 l5 q5) ∧ u.cell? ⟨kb, ko + 11, none⟩ = some (.int .i64 r5) ∧ u.cell? ⟨m5, 0, none⟩ = some (.int .i64 o) ∧ u.cell? ⟨m5, 1, none⟩ = some (.string ⟨y.toArray⟩) ∧ u.cell? ⟨m5, 2, none⟩ = some (.int .i64 i) ∧ u.cell? ⟨m5, 3, none⟩ = some (.int .u64 j) ∧ u.cell? ⟨m5, 4, none⟩ = some (.slice p l q) ∧ u.cell? ⟨m5, 5, none⟩ = some (.int .i64 r) ∧ u.cell? ⟨m8, 0, none⟩ = some (.int .i64 o2) ∧ u.cell? ⟨m8, 1, none⟩ = some (.string ⟨y2.toArray⟩) ∧ u.cell? ⟨m8, 2, none⟩ = some (.int .i64 i2) ∧ u.cell? ⟨m8, 3, none⟩ = some (.int .u64 j2) ∧ u.cell? ⟨m8, 4, none⟩ = some (.slice p2 l2 q2) ∧ u.cell? ⟨m8, 5, none⟩ = some (.int .i64 r2)) := fun u b => by
        obtain ⟨a0, a1, a2, a3, a4, a5⟩ := (hx22.below b).cells
        obtain ⟨b0, b1, b2, b3, b4, b5⟩ := ((HT.out.b5.below B22.out.1).below b).cells
        obtain ⟨d0, d1, d2, d3, d4, d5⟩ := ((HT.out.b8.below B22.out.1).below b).cells
        obtain ⟨e0, e1, e2, e3, e4, e5⟩ := ((hzr.below c22).below b).node (i := 0) rfl
        obtain ⟨f0, f1, f2, f3, f4, f5⟩ := ((hzr.below c22).below b).node (i := 1) rfl
        simp only [Nat.zero_mul, Nat.add_zero, Nat.one_mul, Nat.add_assoc, Nat.reduceAdd] at e0 e1 e2 e3 e4 e5 f0 f1 f2 f3 f4 f5
        exact ⟨a0, a1, a2, a3, a4, a5, e0, e1, e2, e3, e4, e5, f0, f1, f2, f3, f4, f5, b0, b1, b2, b3, b4, b5, d0, d1, d2, d3, d4, d5⟩
      have H1 : Hid (∀ u, Below W22.heap.size W22 u → Calls Tryd.prog 9 _ _ _) := fun u (hu : Below W22.heap.size W22 u) => lnode_any x' (by omega) _ u _ ((hk1.below c22).below hu)
      have H2 : Hid (∀ u, Below W22.heap.size W22 u → Calls Tryd.prog 9 _ _ _) := fun u (hu : Below W22.heap.size W22 u) => hN1.out u (B22.out.1.trans (hu.mono B22.out.1.size))
      have H3 : Hid (∀ (Q R : Nat → Prop) (w : World) (v u : NV), NdIn Q w v x' → NdIn R w u n → Calls Tryd.prog 8 #[v.val, u.val, .bool false] w fun e w' => e = .returned (.bool true) ∧ Below w.heap.size w w') := rsame_any x' (by omega) n false ⟨hxe, fun q => by cases q⟩
      have H4 : Hid (∀ u, Below W22.heap.size W22 u → Calls Tryd.prog 9 _ _ _) := fun u (hu : Below W22.heap.size W22 u) => lnode_any y' (by omega) _ u _ ((hk2.below c22).below hu)
      have H5 : Hid (∀ u, Below W22.heap.size W22 u → Calls Tryd.prog 9 _ _ _) := fun u (hu : Below W22.heap.size W22 u) => hN2.out u (B22.out.1.trans (hu.mono B22.out.1.size))
      have H6 : Hid (∀ (Q R : Nat → Prop) (w : World) (v u : NV), NdIn Q w v y' → NdIn R w u m → Calls Tryd.prog 8 #[v.val, u.val, .bool false] w fun e w' => e = .returned (.bool true) ∧ Below w.heap.size w w') := rsame_any y' (by omega) m false ⟨hye, fun q => by cases q⟩
      have h6 : IntKind.i64.wrap (6 + (k : Int)) = 6 + (k : Int) := by rw [IntKind.wrap_i64]; omega
      have h62 : IntKind.i64.wrap ((a.size : Int) + 2) = (a.size : Int) + 2 := by rw [IntKind.wrap_i64]; omega
      clear hvs hxe hye hxg hxl hxs hbo b21 hp3 hn3 hg3 hx1 hx2 hzr hzn hzn2 hzl hk1 hk2 hsx hx22 bW22 c22 hG hGs hcell
      go_upto_region 15 with fail
      clear hW22 hm16
      obtain ⟨a0, a1, a2, a3, a4, a5, e0, e1, e2, e3, e4, e5, f0, f1, f2, f3, f4, f5, b0, b1, b2, b3, b4, b5, d0, d1, d2, d3, d4, d5⟩ := KS.out W22 (Below.refl _ _)
      go_region_held3 (fun u => u.cell? ⟨m16, 0, none⟩ = some (.int .i64 (6 + (k : Int))) ∧ u.cell? ⟨m16, 1, none⟩ = some (.string ⟨#[]⟩) ∧ u.cell? ⟨m16, 2, none⟩ = some (.int .i64 0) ∧ u.cell? ⟨m16, 3, none⟩ = some (.int .u64 0) ∧ u.cell? ⟨m16, 4, none⟩ = some (.slice (some ⟨kb, ko, none⟩) 2 q3) ∧ u.cell? ⟨m16, 5, none⟩ = some (.int .i64 ((a.size : Int) + 2)) ∧ u.cell? ⟨kb, ko, none⟩ = some (.int .i64 o4) ∧ u.cell? ⟨kb, ko + 1, none⟩ = some (.string ⟨y4.toArray⟩) ∧ u.cell? ⟨kb, ko + 2, none⟩ = some (.int .i64 i4) ∧ u.cell? ⟨kb, ko + 3, none⟩ = some (.int .u64 j4) ∧ u.cell? ⟨kb, ko + 4, none⟩ = some (.slice p4 l4 q4) ∧ u.cell? ⟨kb, ko + 5, none⟩ = some (.int .i64 r4) ∧ u.cell? ⟨kb, ko + 6, none⟩ = some (.int .i64 o5) ∧ u.cell? ⟨kb, ko + 7, none⟩ = some (.string ⟨y5.toArray⟩) ∧ u.cell? ⟨kb, ko + 8, none⟩ = some (.int .i64 i5) ∧ u.cell? ⟨kb, ko + 9, none⟩ = some (.int .u64 j5) ∧ u.cell? ⟨kb, ko + 10, none⟩ = some (.slice p5 l5 q5) ∧ u.cell? ⟨kb, ko + 11, none⟩ = some (.int .i64 r5) ∧ u.cell? ⟨m5, 0, none⟩ = some (.int .i64 o) ∧ u.cell? ⟨m5, 1, none⟩ = some (.string ⟨y.toArray⟩) ∧ u.cell? ⟨m5, 2, none⟩ = some (.int .i64 i) ∧ u.cell? ⟨m5, 3, none⟩ = some (.int .u64 j) ∧ u.cell? ⟨m5, 4, none⟩ = some (.slice p l q) ∧ u.cell? ⟨m5, 5, none⟩ = some (.int .i64 r) ∧ u.cell? ⟨m8, 0, none⟩ = some (.int .i64 o2) ∧ u.cell? ⟨m8, 1, none⟩ = some (.string ⟨y2.toArray⟩) ∧ u.cell? ⟨m8, 2, none⟩ = some (.int .i64 i2) ∧ u.cell? ⟨m8, 3, none⟩ = some (.int .u64 j2) ∧ u.cell? ⟨m8, 4, none⟩ = some (.slice p2 l2 q2) ∧ u.cell? ⟨m8, 5, none⟩ = some (.int .i64 r2))
        (first | with_reducible exact kS28 | with_reducible exact kS27 | with_reducible exact kS26 | with_reducible exact kS25 | with_reducible exact kS24 | with_reducible exact kS23 | go_keep)
        (first
          | (go_at_call 8; (with_reducible refine (H6.out _ _ _ _ _ (HV26.out.below B267.out) HV27.out).mono ?_); rintro e w28 ⟨rfl, b9⟩; have B28 : Hid (Below W22.heap.size W22 w28) := B27.out.trans (b9.mono B27.out.size); have kS28 := KS.out _ B28.out; clear b9)
          | (go_at_call 9; (with_reducible refine (H5.out _ B26.out).mono ?_); rintro e w27 ⟨_, rfl, v27, rfl, hn8, b8⟩; have B27 : Hid (Below W22.heap.size W22 w27) := B26.out.trans (b8.mono B26.out.size); have HV27 : Hid (NdIn _ w27 v27 m) := hn8; have B267 : Hid (Below w26.heap.size w26 w27) := b8; have kS27 := KS.out _ B27.out; clear hn8 b8)
          | (go_at_call 9; (with_reducible refine (H4.out _ B25.out).mono ?_); rintro e w26 ⟨_, rfl, v26, rfl, hn7, b7⟩; have B26 : Hid (Below W22.heap.size W22 w26) := B25.out.trans (b7.mono B25.out.size); have HV26 : Hid (NdIn _ w26 v26 y') := hn7; have kS26 := KS.out _ B26.out; clear hn7 b7)
          | (go_at_call 8; (with_reducible refine (H3.out _ _ _ _ _ (HV23.out.below B234.out) HV24.out).mono ?_); rintro e w25 ⟨rfl, b9⟩; have B25 : Hid (Below W22.heap.size W22 w25) := B24.out.trans (b9.mono B24.out.size); have kS25 := KS.out _ B25.out; clear b9)
          | (go_at_call 9; (with_reducible refine (H2.out _ B23.out).mono ?_); rintro e w24 ⟨_, rfl, v24, rfl, hn8, b8⟩; have B24 : Hid (Below W22.heap.size W22 w24) := B23.out.trans (b8.mono B23.out.size); have HV24 : Hid (NdIn _ w24 v24 n) := hn8; have B234 : Hid (Below w23.heap.size w23 w24) := b8; have kS24 := KS.out _ B24.out; clear hn8 b8)
          | (go_at_call 9; (with_reducible refine (H1.out _ (by exact (Below.refl _ W22).drew)).mono ?_); rintro e w23 ⟨_, rfl, v23, rfl, hn7, b7⟩; have B23 : Hid (Below W22.heap.size W22 w23) := undrewB b7; have HV23 : Hid (NdIn _ w23 v23 x') := hn7; have kS23 := KS.out _ B23.out; clear hn7 b7)
          | fail)
      go_wp2_with fail
      go_roundg (gk - 1)
      case measure => omega
      case rel => exact ⟨k + 1, by go_num, by omega, B22.out.2.trans (B28.out.mono B22.out.2.size)⟩
    · obtain rfl : k = 5 := by omega
      clear hk hin
      have B16 : Hid (Below W8.heap.size W8 wr) := HW.out
      obtain ⟨vs, x', y', hvs, hxe, hye, hxg⟩ := called HT.out.s1 HT.out.g1 HT.out.s2 HT.out.g2 (((⟨#[102, 40]⟩ : ByteArray) ++ a ++ ⟨#[44]⟩ ++ b ++ ⟨#[41]⟩).size : Int)
      have hxl : ((⟨#[102, 40]⟩ : ByteArray) ++ a ++ ⟨#[44]⟩ ++ b ++ ⟨#[41]⟩).data.toList = [102, 40] ++ a.data.toList ++ [44] ++ b.data.toList ++ [41] := by simp
      have hxs : ((⟨#[102, 40]⟩ : ByteArray) ++ a ++ ⟨#[44]⟩ ++ b ++ ⟨#[41]⟩).size ≤ 1024 := by
        simp only [size_cat]
        show 2 + a.size + 1 + b.size + 1 ≤ 1024
        omega
      rw [← hxl] at hvs
      obtain ⟨Z, hZ⟩ : ∃ Z, callN ((nmT [102]).at 0) [x', y'] = Z := ⟨_, rfl⟩
      have hZe : Z.e = (⟨5, [102], 0, 0, foOf [n, m], 0⟩ : Nd).e := by
        rw [← hZ]
        show (⟨5, [102], 0, 0, (foOf [x', y']).e, 0⟩ : Nd) = ⟨5, [102], 0, 0, (foOf [n, m]).e, 0⟩
        rw [foOf_e (l' := [x', y']) (l := [n, m]) (by simp [hxe, hye])]
      have hZd : Z.dep ≤ 24 := by
        rw [← hZ, dep_call2, dep_same hxe, dep_same hye]
        have := HDD.out
        omega
      rw [hZ] at hxg
      go_wp2_with fail
      refine (parse_ans _ hxs hvs wr (H.out.1.below HW0.out) (H.out.2.below HW0.out)).mono ?_
      rintro e w21 ⟨⟨o3, y3, i3, j3, p3, l3, q3, r3⟩, a3, c3, rfl, b21, hp3⟩
      obtain ⟨rfl, rfl, hn3, hg3⟩ := hp3.okay (rn_of hxg) hZd
      obtain ⟨_, hx1, hx2⟩ := read_wf hvs (by rw [← bsize]; exact hxs) hg3
      obtain ⟨W22, m19, hW22, hm19, hx22, bW22, c22, hB22, hlt22⟩ := lay6 (HW.out.trans (b21.mono HW.out.size)) (by have := HW.out.size; have := b21.size; omega) 28 (.int .i64 o3) (.string ⟨y3.toArray⟩) (.int .i64 i3) (.int .u64 j3) (.slice p3 l3 q3) (.int .i64 r3)
      have B22 : Hid (Below W8.heap.size W8 W22) := bW22
      have KS : Hid (∀ u, Below W22.heap.size W22 u → u.cell? ⟨m19, 0, none⟩ = some (.int .i64 o3) ∧ u.cell? ⟨m19, 1, none⟩ = some (.string ⟨y3.toArray⟩) ∧ u.cell? ⟨m19, 2, none⟩ = some (.int .i64 i3) ∧ u.cell? ⟨m19, 3, none⟩ = some (.int .u64 j3) ∧ u.cell? ⟨m19, 4, none⟩ = some (.slice p3 l3 q3) ∧ u.cell? ⟨m19, 5, none⟩ = some (.int .i64 r3) ∧ u.cell? ⟨m5, 0, none⟩ = some (.int .i64 o) ∧ u.cell? ⟨m5, 1, none⟩ = some (.string ⟨y.toArray⟩) ∧ u.cell? ⟨m5, 2, none⟩ = some (.int .i64 i) ∧ u.cell? ⟨m5, 3, none⟩ = some (.int .u64 j) ∧ u.cell? ⟨m5, 4, none⟩ = some (.slice p l q) ∧ u.cell? ⟨m5, 5, none⟩ = some (.int .i64 r) ∧ u.cell? ⟨m8, 0, none⟩ = some (.int .i64 o2) ∧ u.cell? ⟨m8, 1, none⟩ = some (.string ⟨y2.toArray⟩) ∧ u.cell? ⟨m8, 2, none⟩ = some (.int .i64 i2) ∧ u.cell? ⟨m8, 3, none⟩ = some (.int .u64 j2) ∧ u.cell? ⟨m8, 4, none⟩ = some (.slice p2 l2 q2) ∧ u.cell? ⟨m8, 5, none⟩ = some (.int .i64 r2)) := fun u b => by
        obtain ⟨a0, a1, a2, a3, a4, a5⟩ := (hx22.below b).cells
        obtain ⟨b0, b1, b2, b3, b4, b5⟩ := ((HT.out.b5.below B22.out).below b).cells
        obtain ⟨d0, d1, d2, d3, d4, d5⟩ := ((HT.out.b8.below B22.out).below b).cells
        exact ⟨a0, a1, a2, a3, a4, a5, b0, b1, b2, b3, b4, b5, d0, d1, d2, d3, d4, d5⟩
      have H1 : Hid (∀ u, Below W22.heap.size W22 u → Calls Tryd.prog 9 _ _ _) := fun u (hu : Below W22.heap.size W22 u) => lnode_any Z (by omega) _ u _ ((hn3.below c22).below hu)
      have hcw : (⟨5, [102], 0, 0, foOf [n, m], 0⟩ : Nd).wt ≤ 90000 := by
        have h1 : (⟨5, [102], 0, 0, foOf [n, m], 0⟩ : Nd).wt = 1 + 32 + fw (foOf [n, m]) := rfl
        rw [fw_two] at h1
        have := HT.out.f1.1
        have := HT.out.f2.1
        omega
      have H2 : Hid (∀ (u : World) (g : Nat), Below W22.heap.size W22 u → RdG encN u (some ⟨g, 0, none⟩) [⟨o, y, i, j, p, l, q, r⟩, ⟨o2, y2, i2, j2, p2, l2, q2, r2⟩] → Calls Tryd.prog 12 #[.string ⟨#[102]⟩, .slice (some ⟨g, 0, none⟩) 2 2] u fun e w' => ∃ x, e = .returned x ∧ Nw u ⟨5, [102], 0, 0, foOf [n, m], 0⟩ x w') := by
        intro u g hu hr
        refine pcall_any ⟨5, [102], 0, 0, foOf [n, m], 0⟩ (by omega) (Q := fun _ => True) _ [102] _ 2 2 ?_
        exact NdIn.made 5 [102] 0 0 0 (.cons (((HT.out.n1.below B22.out).below hu).mono (fun _ _ => trivial)) (.cons (((HT.out.n2.below B22.out).below hu).mono (fun _ _ => trivial)) .nil)) hr (fun _ _ _ => trivial) (Nat.le_refl _)
      have HRN : Hid (∀ u : World, RdG encN (u.alloc (.cells #[.int .i64 o, .string ⟨y.toArray⟩, .int .i64 i, .int .u64 j, .slice p l q, .int .i64 r, .int .i64 o2, .string ⟨y2.toArray⟩, .int .i64 i2, .int .u64 j2, .slice p2 l2 q2, .int .i64 r2] 28)) (some ⟨u.heap.size, 0, none⟩) [⟨o, y, i, j, p, l, q, r⟩, ⟨o2, y2, i2, j2, p2, l2, q2, r2⟩]) := fun u => rdG_new encN u [⟨o, y, i, j, p, l, q, r⟩, ⟨o2, y2, i2, j2, p2, l2, q2, r2⟩] _ _ rfl
      have H3 : Hid (∀ (Q : Nat → Prop) (w : World) (v : NV), NdIn Q w v ⟨5, [102], 0, 0, foOf [n, m], 0⟩ → Calls Tryd.prog 9 #[v.val] w fun e w' => ∃ x, e = .returned x ∧ Nw w ⟨5, [102], 0, 0, foOf [n, m], 0⟩ x w') := fun Q w v hv => lnode_any ⟨5, [102], 0, 0, foOf [n, m], 0⟩ (by have h1 := (⟨5, [102], 0, 0, foOf [n, m], 0⟩ : Nd).wt_sz; omega) Q w v hv
      have H4 : Hid (∀ (Q R : Nat → Prop) (w : World) (v u : NV), NdIn Q w v Z → NdIn R w u ⟨5, [102], 0, 0, foOf [n, m], 0⟩ → Calls Tryd.prog 8 #[v.val, u.val, .bool false] w fun e w' => e = .returned (.bool true) ∧ Below w.heap.size w w') := rsame_any Z (by omega) _ false ⟨hZe, fun q => by cases q⟩
      clear hvs hxe hye hxg hxl hxs b21 hp3 hn3 hg3 hx1 hx2 hx22 bW22 c22 hZ hZe hZd hcw
      go_upto_region 18 with fail
      clear hW22 hm19
      obtain ⟨a0, a1, a2, a3, a4, a5, b0, b1, b2, b3, b4, b5, d0, d1, d2, d3, d4, d5⟩ := KS.out W22 (Below.refl _ _)
      go_region_held3 (fun u => u.cell? ⟨m19, 0, none⟩ = some (.int .i64 o3) ∧ u.cell? ⟨m19, 1, none⟩ = some (.string ⟨y3.toArray⟩) ∧ u.cell? ⟨m19, 2, none⟩ = some (.int .i64 i3) ∧ u.cell? ⟨m19, 3, none⟩ = some (.int .u64 j3) ∧ u.cell? ⟨m19, 4, none⟩ = some (.slice p3 l3 q3) ∧ u.cell? ⟨m19, 5, none⟩ = some (.int .i64 r3) ∧ u.cell? ⟨m5, 0, none⟩ = some (.int .i64 o) ∧ u.cell? ⟨m5, 1, none⟩ = some (.string ⟨y.toArray⟩) ∧ u.cell? ⟨m5, 2, none⟩ = some (.int .i64 i) ∧ u.cell? ⟨m5, 3, none⟩ = some (.int .u64 j) ∧ u.cell? ⟨m5, 4, none⟩ = some (.slice p l q) ∧ u.cell? ⟨m5, 5, none⟩ = some (.int .i64 r) ∧ u.cell? ⟨m8, 0, none⟩ = some (.int .i64 o2) ∧ u.cell? ⟨m8, 1, none⟩ = some (.string ⟨y2.toArray⟩) ∧ u.cell? ⟨m8, 2, none⟩ = some (.int .i64 i2) ∧ u.cell? ⟨m8, 3, none⟩ = some (.int .u64 j2) ∧ u.cell? ⟨m8, 4, none⟩ = some (.slice p2 l2 q2) ∧ u.cell? ⟨m8, 5, none⟩ = some (.int .i64 r2))
        (first | with_reducible exact kS26 | with_reducible exact kS25 | with_reducible exact kS24 | with_reducible exact kS23 | go_keep)
        (first
          | (go_at_call 8; (with_reducible refine (H4.out _ _ _ _ _ (HV23.out.below B235.out) HV25.out).mono ?_); rintro e w26 ⟨rfl, b9⟩; have B26 : Hid (Below W22.heap.size W22 w26) := B25.out.trans (b9.mono B25.out.size); have kS26 := KS.out _ B26.out; clear b9)
          | (go_at_call 9; (with_reducible refine (H1.out _ (by exact (Below.refl _ W22).drew)).mono ?_); rintro e w23 ⟨_, rfl, v23, rfl, hn7, b7⟩; have B23 : Hid (Below W22.heap.size W22 w23) := undrewB b7; have HV23 : Hid (NdIn _ w23 v23 Z) := hn7; have kS23 := KS.out _ B23.out; clear hn7 b7)
          | (go_at_call 9; (with_reducible refine (H1.out _ (by exact (bz1 W22 _).drew)).mono ?_); rintro e w23 ⟨_, rfl, v23, rfl, hn7, b7⟩; have B23 : Hid (Below W22.heap.size W22 w23) := (bz1 W22 _).trans ((undrewB b7).mono (bz1 W22 _).size); have HRD : Hid (RdG encN w23 (some ⟨W22.heap.size, 0, none⟩) [⟨o, y, i, j, p, l, q, r⟩, ⟨o2, y2, i2, j2, p2, l2, q2, r2⟩]) := (HRN.out W22).below (undrewB b7); have HV23 : Hid (NdIn _ w23 v23 Z) := hn7; have kS23 := KS.out _ B23.out; clear hn7 b7)
          | (go_at_call 12; (with_reducible refine (H2.out _ _ B23.out HRD.out).mono ?_); rintro e w24 ⟨_, rfl, v24, rfl, hn8, b8⟩; have B234 : Hid (Below w23.heap.size w23 w24) := b8; have B24 : Hid (Below W22.heap.size W22 w24) := B23.out.trans (B234.out.mono B23.out.size); have HV24 : Hid (NdIn _ w24 v24 ⟨5, [102], 0, 0, foOf [n, m], 0⟩) := hn8; have kS24 := KS.out _ B24.out; clear hn8 b8)
          | (go_at_call 12; (with_reducible refine (H2.out _ _ (B23.out.trans ((bz1 w23 _).mono B23.out.size)) (HRN.out w23)).mono ?_); rintro e w24 ⟨_, rfl, v24, rfl, hn8, b8⟩; have B234 : Hid (Below w23.heap.size w23 w24) := (bz1 w23 _).trans (b8.mono (bz1 w23 _).size); have B24 : Hid (Below W22.heap.size W22 w24) := B23.out.trans (B234.out.mono B23.out.size); have HV24 : Hid (NdIn _ w24 v24 ⟨5, [102], 0, 0, foOf [n, m], 0⟩) := hn8; have kS24 := KS.out _ B24.out; clear hn8 b8)
          | (go_at_call 9; (with_reducible refine (H3.out _ _ _ HV24.out).mono ?_); rintro e w25 ⟨_, rfl, v25, rfl, hn8, b8⟩; have B25 : Hid (Below W22.heap.size W22 w25) := B24.out.trans (b8.mono B24.out.size); have HV25 : Hid (NdIn _ w25 v25 ⟨5, [102], 0, 0, foOf [n, m], 0⟩) := hn8; have B235 : Hid (Below w23.heap.size w23 w25) := B234.out.trans (b8.mono B234.out.size); have kS25 := KS.out _ B25.out; clear hn8 b8)
          | fail)
      all_goals
        go_wp2_with fail
        go_ret
        exact ⟨rfl, HT.out.bel.trans ((B22.out.trans (B26.out.mono B22.out.size)).mono HT.out.bel.size)⟩

end Go.Proofs.YtgeigegaoadmfaaDoor
