/-
  text.Runs by a contract: the runs of the numbers, in a new row; what is handed in is left as it was. At most 1,000,000 numbers.
-/
import Derived.Test.YtnodkpnbfklmhaaDoorIntSort
import Derived.Test.YtnodkpnbfklmhaaDoorRuns
namespace Go.Proofs.YtnodkpnbfklmhaaDoor
open Go.RowKit

theorem info37 : (Tryd.prog.info? 37).map (fun i => (i.zero, i.size, i.bytes)) = some (some (.agg #[.int .i64 0, .int .i64 0]), 2, 16) := by kernel_rfl

/-- The cells of a row of pairs. -/
theorem pair_cells {e : TypeId} {w : World} {base g n cap : Nat} {xs : List Pr} (h : OwnG encP e w base (.slice (some ⟨g, 0, none⟩) n cap) xs) {i : Nat} {x : Pr} (hx : xs[i]? = some x) :
    w.cell? ⟨g, i * 2, none⟩ = some (.int .i64 x.1) ∧ w.cell? ⟨g, i * 2 + 1, none⟩ = some (.int .i64 x.2) ∧ w.frozen? ⟨g, i * 2 + 1, none⟩ = false ∧ g < w.heap.size := by
  have hn : xs.length = n := own_len h
  subst hn
  obtain ⟨ao, cap', e', _, _, R, _⟩ := h.form
  obtain ⟨rfl, _⟩ : some ⟨g, 0, none⟩ = ao ∧ True := by simp at e'; exact ⟨e'.1, trivial⟩
  obtain ⟨h1, h2⟩ := R.pairs hx
  rw [Nat.zero_add] at h1 h2
  exact ⟨h1, h2, h.frozenAt _, (h.lt g rfl).2⟩

theorem own_some {e : TypeId} {w : World} {base : Nat} {v : Value} {xs : List Pr} (h : OwnG encP e w base v xs) (h0 : 0 < xs.length) {m : Nat} (hm : xs.length = m) : ∃ g cap, v = .slice (some ⟨g, 0, none⟩) m cap ∧ m ≤ cap ∧ cap ≤ 9223372036854775807 ∧ base ≤ g := by
  obtain ⟨ao, cap, rfl, h1, h2, _, h3⟩ := h.form
  obtain ⟨g, rfl⟩ := h3 h0
  subst hm
  exact ⟨g, cap, rfl, h1, h2, (h.lt g rfl).1⟩

/-- The last run's end is stored. -/
theorem put_last {e : TypeId} {w : World} {base g n cap : Nat} {ys : List Pr} {r : Pr} (h : OwnG encP e w base (.slice (some ⟨g, 0, none⟩) n cap) (ys ++ [r])) (z : Int) {m : Nat} (hm : ys.length = m) :
    OwnG encP e (w.setCell ⟨g, m * 2 + 1, none⟩ (.int .i64 z)) base (.slice (some ⟨g, 0, none⟩) n cap) (ys ++ [(r.1, z)]) := by
  subst hm
  have := h.put (i := ys.length) (j := 1) (x := r) (by simp) (by decide) (r.1, z) (.int .i64 z) rfl
  have e1 : (ys ++ [r]).set ys.length (r.1, z) = ys ++ [(r.1, z)] := by simp
  rw [e1] at this
  exact this

theorem addRun_none (n : Int) : addRun [] n = [] ++ [(n, n)] := rfl
theorem addRun_yes {ys : List Pr} {r : Pr} {n : Int} (h : (r.2 == n || r.2 == wrap64 (n - 1)) = true) : addRun (ys ++ [r]) n = ys ++ [(r.1, n)] := by
  unfold addRun
  simp only [List.getLast?_concat, List.dropLast_concat]
  rw [if_pos h]
theorem addRun_no {ys : List Pr} {r : Pr} {n : Int} (h : (r.2 == n || r.2 == wrap64 (n - 1)) = false) : addRun (ys ++ [r]) n = ys ++ [r] ++ [(n, n)] := by
  unfold addRun
  simp only [List.getLast?_concat]
  rw [if_neg (by rw [h]; decide)]

theorem below_put {W w : World} {B g k : Nat} (h : Below B W w) (hB : B ≤ g) (hW : B ≤ W.heap.size) (u : Value) : Below B W (w.setCell ⟨g, k, none⟩ u) :=
  h.trans ((Turned.refl (fun k => k = g) w).setCell (.inl rfl) u |>.below (Nat.le_trans hW h.size) (fun k hk q => by omega))

theorem take_one {T : List Int} {i : Nat} {x : Int} (h : T[i]? = some x) : T.take (i + 1) = T.take i ++ [x] := by
  rw [List.take_add_one, h]
  rfl

theorem up_to {T : List Int} (hup : T.Pairwise (fun x y => x ≤ y)) {i : Nat} {x : Int} (h : T[i]? = some x) : ∀ y ∈ T.take i, y ≤ x := by
  intro y hy
  obtain ⟨j, hj, rfl⟩ := List.mem_iff_getElem.1 hy
  have hj' : j < i ∧ j < T.length := by simp at hj; omega
  obtain ⟨hi, e⟩ := List.getElem?_eq_some_iff.1 h
  have := List.pairwise_iff_getElem.1 hup j i hj'.2 hi hj'.1
  rw [List.getElem_take, ← e]
  exact this

set_option maxHeartbeats 3200000 in
set_option maxRecDepth 100000 in
/-- text.Runs. -/
theorem runs_any {ao : Option Addr} {c n : Nat} {zs : List Int} (w : World) (ha : RdG encI w ao zs) (hl : zs.length = n) (hn : n ≤ 1000000) (hint : ∀ x ∈ zs, isInt x) :
    Calls Tryd.prog 13 #[.slice ao n c] w fun e w' => ∃ v' R, e = .returned v' ∧ OwnG encP 37 w' w.heap.size v' R ∧ Made (sortI zs) R ∧ R.length ≤ n ∧ Below w.heap.size w w' := by
  have hclone := clone_int (c := c) w ha hl (by omega)
  have hTl : (sortI zs).length = n := by rw [sortI_len]; exact hl
  have hTi : ∀ x ∈ sortI zs, isInt x := fun x hx => hint x ((sortI_mem zs x).1 hx)
  have hTu := sortI_up zs
  obtain ⟨T, hT⟩ : ∃ T, sortI zs = T := ⟨_, rfl⟩
  have S : Hid (∀ (w : World) (base : Nat) (v : Value), OwnG encI 3 w base v zs → Calls Tryd.prog 20 #[v] w fun e w' => e = .returned (.tuple #[]) ∧ OwnG encI 3 w' base v T ∧ Turned (fun k => v.ownBlock = some k) w w') := by
    intro w base v h
    have := sort_int w h (by omega)
    rw [hT] at this
    exact this
  rw [hT] at hTl hTi hTu ⊢
  have TT : Hid (T.length = n ∧ (∀ x ∈ T, isInt x) ∧ T.Pairwise (fun x y => x ≤ y)) := ⟨hTl, hTi, hTu⟩
  clear hT hTl hTi hTu ha hl hint
  go_enter Tryd.func13, Tryd.ntmps13
  go_wp2_with fail
  refine hclone.mono ?_
  rintro e w1 ⟨v1, rfl, ho1, hb1⟩
  have hso := S.out w1 w.heap.size v1 ho1
  have B1 : Hid (Below w.heap.size w w1 ∧ OwnG encI 3 w1 w.heap.size v1 zs) := ⟨hb1, ho1⟩
  clear hclone hb1 ho1
  go_wp2_with fail
  refine hso.mono ?_
  rintro e w2 ⟨rfl, ho2, ht2⟩
  have hb2 : Below w.heap.size w w2 := B1.out.1.trans (OwnG.turn B1.out.2 B1.out.1.size ht2)
  obtain ⟨a1, c1, rfl, _, _, R2, _⟩ := ho2.form
  have G : Hid (RdG encI w2 a1 T ∧ Below w.heap.size w w2) := ⟨R2, hb2⟩
  rw [TT.out.1]
  clear hso ho2 ht2 hb2 R2 B1
  go_wp2_with fail
  go_loopg [4, 6, 13] n (fun k ov _ iv wr => ∃ (i : Nat) (R : List Pr), iv = .int .i64 i ∧ i + k = n ∧ R.length ≤ i ∧ Hid (Made (T.take i) R ∧ OwnG encP 37 wr w2.heap.size ov R ∧ Below w2.heap.size w2 wr))
  case atStart => exact ⟨0, [], rfl, by omega, by simp, Made.nil, OwnG.nil _ _ _ _, Below.refl _ _⟩
  case round =>
    obtain ⟨i, R, rfl, hi, hRl, HR⟩ := hrel
    by_cases hin : i < n
    · have id : (i : Int) < (n : Int) := by omega
      obtain ⟨x, hx⟩ := get_at (ss := T) (i := i) (by rw [TT.out.1]; exact hin)
      have RT := G.out.1.below HR.out.2.2
      obtain ⟨b1, o1, rfl, hlt⟩ := RT.some_of hx
      have c1 := RT.ints hx
      have X : Hid (T[i]? = some x) := hx
      have M1 : Hid (Made (T.take (i + 1)) (addRun R x)) := by
        show Made _ _
        rw [take_one hx]
        exact HR.out.1.add (up_to TT.out.2.2 hx) (TT.out.2.1 x (List.mem_of_getElem? hx)) (fun y hy => TT.out.2.1 y (List.mem_of_mem_take hy))
      clear RT hx
      rcases List.eq_nil_or_concat R with rfl | ⟨ys, r, rfl⟩
      · obtain ⟨ao0, cap0, rfl, _, _, _, _⟩ := HR.out.2.1.form
        go_wp2_with (at_builtin; refine appG_one encP 37 30 16 _ rfl info37 Tryd.underlying30 rfl (.tmp 32) (.tmp 35) rfl w2.heap.size _ [] (x, 0) _ rfl HR.out.2.1 rfl (by simp) (by simp [maxLen]) HR.out.2.2.size _ rfl ?_; intro v' w4 hown4 hbel4 _ _; obtain ⟨g, cap, rfl, hc1, hc2, hbg⟩ := own_some hown4 (by simp) (m := 1) rfl; obtain ⟨k1, k2, k3, k4⟩ := pair_cells hown4 (i := 0) (x := (x, 0)) rfl)
        go_roundg (gk - 1)
        case measure => omega
        case rel => exact ⟨i + 1, [] ++ [(x, x)], by go_num, by omega, by simp, M1.out, put_last hown4 x (m := 0) rfl, below_put (HR.out.2.2.trans hbel4) hbg (Nat.le_refl _) _⟩
      · obtain ⟨m, hm⟩ : ∃ m, ys.length = m := ⟨_, rfl⟩
        have hRl' : m + 1 ≤ i := by rw [List.concat_eq_append] at hRl; simp [hm] at hRl; exact hRl
        rw [List.concat_eq_append] at HR M1
        clear hRl
        obtain ⟨g, cap, rfl, hc1, hc2, hbg⟩ := own_some HR.out.2.1 (by simp) (m := m + 1) (by simp [hm])
        obtain ⟨k1, k2, k3, k4⟩ := pair_cells HR.out.2.1 (i := m) (x := r) (by rw [← hm]; simp)
        have HM : Hid (ys.length = m) := hm
        clear hm
        obtain ⟨f, hf⟩ : ∃ f, (r.2 == x || r.2 == wrap64 (x - 1)) = f := ⟨_, rfl⟩
        have hre := fun w => reaches_any r.2 x w f hf
        have F : Hid ((r.2 == x || r.2 == wrap64 (x - 1)) = f) := hf
        clear hf
        cases f with
        | true =>
          go_wp2_with (go_at_call 21; refine (hre _).mono ?_; rintro e w' ⟨rfl, rfl⟩)
          go_roundg (gk - 1)
          case measure => omega
          case rel => exact ⟨i + 1, ys ++ [(r.1, x)], by go_num, by omega, by simp [HM.out]; omega, by have := M1.out; rw [addRun_yes F.out] at this; exact this, put_last HR.out.2.1 x HM.out, below_put HR.out.2.2 hbg (Nat.le_refl _) _⟩
        | false =>
          go_wp2_with (first
            | (go_at_call 21; refine (hre _).mono ?_; rintro e w' ⟨rfl, rfl⟩)
            | (at_builtin; refine appG_one encP 37 30 16 _ rfl info37 Tryd.underlying30 rfl (.tmp 32) (.tmp 35) rfl w2.heap.size _ (ys ++ [r]) (x, 0) _ rfl HR.out.2.1 rfl (by simp [HM.out]; omega) (by simp [maxLen, HM.out]; omega) HR.out.2.2.size _ rfl ?_; intro v' w4 hown4 hbel4 _ _; obtain ⟨g', cap', rfl, hc1', hc2', hbg'⟩ := own_some hown4 (by simp) (m := m + 1 + 1) (by simp [HM.out]); obtain ⟨j1, j2, j3, j4⟩ := pair_cells hown4 (i := m + 1) (x := (x, 0)) (by rw [← HM.out]; simp)))
          go_roundg (gk - 1)
          case measure => omega
          case rel => exact ⟨i + 1, ys ++ [r] ++ [(x, x)], by go_num, by omega, by simp [HM.out]; omega, by have := M1.out; rw [addRun_no F.out] at this; exact this, put_last hown4 x (m := m + 1) (by simp [HM.out]), below_put (HR.out.2.2.trans hbel4) hbg' (Nat.le_refl _) _⟩
    · obtain rfl : i = n := by omega
      go_wp2
      go_ret
      refine ⟨_, R, rfl, HR.out.2.1.low G.out.2.size, ?_, hRl, G.out.2.trans (HR.out.2.2.mono G.out.2.size)⟩
      have := HR.out.1
      rw [List.take_of_length_le (by rw [TT.out.1]; omega)] at this
      exact this

end Go.Proofs.YtnodkpnbfklmhaaDoor
