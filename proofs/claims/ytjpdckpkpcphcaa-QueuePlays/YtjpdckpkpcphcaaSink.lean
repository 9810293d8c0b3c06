/-
  The way down of the queue's heap, by its contract: a queue of at most 1,000,000 items, in order but for the first one.
-/
import Derived.Test.YtjpdckpkpcphcaaSift
namespace Go.Proofs.Ytjpdckpkpcphcaa
open Go.RowKit

set_option maxHeartbeats 4000000 in
set_option maxRecDepth 1000000 in
theorem sink_row {base b g n cap : Nat} {xs : List It} (w : World) (hq : QAt w base b (.slice (some ⟨g, 0, none⟩) n cap) xs) (hm : n ≤ 1000000) (hdn : PileDown xs 0) :
    Calls Try.prog 17 #[.pointer (some ⟨b, 0, none⟩)] w fun e w' => e = .returned (.tuple #[]) ∧
      ∃ ys, QAt w' base b (.slice (some ⟨g, 0, none⟩) n cap) ys ∧ ys.Perm xs ∧ Pile ys ∧ Turned (fun k => k = g) w w' := by
  have H : Hid (QAt w base b (.slice (some ⟨g, 0, none⟩) n cap) xs ∧ PileDown xs 0) := ⟨hq, hdn⟩
  clear hq hdn
  go_enter Try.func17, Try.ntmps17
  go_wp2
  go_loopg [2] n (fun k s wr => ∃ (p : Nat) (ys : List It), s = .int .i64 p ∧ p ≤ n ∧ n - p ≤ k ∧ ys.length = n ∧ Hid (QAt wr base b (.slice (some ⟨g, 0, none⟩) n cap) ys ∧ ys.Perm xs ∧ PileDown ys p ∧ Turned (fun k => k = g) w wr))
  case atStart =>
    obtain ⟨h1, h3⟩ := H.out
    exact ⟨0, xs, by go_num, by omega, by omega, own_len h1.own, ⟨h1, List.Perm.refl _, h3, Turned.refl _ _⟩⟩
  case round =>
    obtain ⟨p, ys, rfl, hpn, hpk, hyl, HR⟩ := hrel
    go_wp2_with fail
    refine (below_any wr HR.out.1 (by omega) (by omega)).mono ?_
    rintro e w1 ⟨rfl, hbel⟩
    obtain ⟨c, hcc⟩ : ∃ c, fb ys p = c := ⟨_, rfl⟩
    have HQ : Hid (QAt w1 base b (.slice (some ⟨g, 0, none⟩) n cap) ys ∧ ys.Perm xs ∧ PileDown ys p ∧ Turned (fun k => k = g) w w1) :=
      ⟨HR.out.1.below hbel, HR.out.2.1, HR.out.2.2.1, HR.out.2.2.2.trans (Turned.ofBelow (S := fun _ => False) hbel) (fun _ _ q => q.elim)⟩
    have hfp : p < c ∧ c ≤ 2 * p + 2 := by rw [← hcc]; exact (fb_par ys p).2
    rw [hcc]
    have C : Hid (fb ys p = c) := hcc
    clear hcc hbel HR
    have hc1 := HQ.out.1.cell
    by_cases hcn : n ≤ c
    · have hd : decide ((n : Int) ≤ (c : Int)) = true := decide_eq_true (by omega)
      go_wp2_with fail
      go_quiet (fail)
      go_wp2
      obtain ⟨h1, h2, h3, h4⟩ := HQ.out
      refine bodyPost_ret (v := .tuple #[]) (results_none rfl _ _ _) rfl ?_
      exact ⟨rfl, ys, h1.drewN _, h2, down_stop h3 (.inl (by rw [C.out]; omega)), h4.drewN _⟩
    · have hd : decide ((n : Int) ≤ (c : Int)) = false := decide_eq_false (by omega)
      obtain ⟨x, hx⟩ : ∃ x, el ys p = x := ⟨_, rfl⟩
      obtain ⟨y, hy⟩ : ∃ y, el ys c = y := ⟨_, rfl⟩
      obtain ⟨x0, x1, x2, x3⟩ := own_cells (i := p) HQ.out.1.own (by omega)
      obtain ⟨y0, y1, y2, y3⟩ := own_cells (i := c) HQ.out.1.own (by omega)
      rw [hx] at x0 x1
      rw [hy] at y0 y1
      have pi : (p : Int) < (n : Int) := by omega
      have ci : (c : Int) < (n : Int) := by omega
      have X : Hid (el ys p = x ∧ el ys c = y) := ⟨hx, hy⟩
      clear hx hy
      go_wp2_with fail
      by_cases hA : ahd y x = true
      · go_region_held3 (fun w' => w'.cell? ⟨b, 0, none⟩ = some (.slice (some ⟨g, 0, none⟩) n cap) ∧ w'.cell? ⟨g, p * 2, none⟩ = some (.int .i64 x.1) ∧ w'.cell? ⟨g, p * 2 + 1, none⟩ = some (.int .u64 x.2) ∧
            w'.cell? ⟨g, c * 2, none⟩ = some (.int .i64 y.1) ∧ w'.cell? ⟨g, c * 2 + 1, none⟩ = some (.int .u64 y.2)) (go_keep)
          (first | (go_at_call 18; refine (ahead_raw y x _).mono ?_; rintro e w' ⟨rfl, rfl⟩))
        go_wp2_with fail
        obtain ⟨wq, hwq⟩ : ∃ wq, wq = ((w1.alloc (Obj.cells #[Value.int IntKind.i64 y.fst, Value.int IntKind.u64 y.snd] 31)).alloc (Obj.cells #[Value.int IntKind.i64 x.fst, Value.int IntKind.u64 x.snd] 31)).drew := ⟨_, rfl⟩
        rw [← hwq]
        have HS : Hid (QAt wq base b (.slice (some ⟨g, 0, none⟩) n cap) ys ∧ ys.Perm xs ∧ PileDown ys p ∧ Turned (fun k => k = g) w wq) :=
          ⟨by rw [hwq]; exact (HQ.out.1.below (below_alloc2 w1 _ _)).drew, HQ.out.2.1, HQ.out.2.2.1, by rw [hwq]; exact ((HQ.out.2.2.2.alloc _).alloc _).drew⟩
        have hbg : b ≠ g := fun e => HQ.out.1.apart (by rw [e]; rfl)
        have npc : p ≠ c := by omega
        clear hwq x0 x1 x2 x3 y0 y1 y2 y3 hc1 HQ
        obtain ⟨x0, x1, x2, x3⟩ := own_cells (i := p) HS.out.1.own (by omega)
        obtain ⟨y0, y1, y2, y3⟩ := own_cells (i := c) HS.out.1.own (by omega)
        rw [X.out.1] at x0 x1
        rw [X.out.2] at y0 y1
        have c1 := HS.out.1.cell
        go_region
        go_wp2
        go_roundg (n - c)
        case measure => omega
        case rel =>
          obtain ⟨hx, hy⟩ := X.out
          obtain ⟨h1, h2, h3, h4⟩ := HS.out
          have hst := down_step h3 (by rw [C.out]; omega) (by rw [C.out, hx, hy]; exact hA)
          rw [C.out] at hst
          exact ⟨c, sw ys p c, rfl, by omega, by omega, by rw [sw_length]; exact hyl, ⟨(h1.swap hx hy).drew, (sw_perm (by omega) (by omega)).trans h2, hst, (h4.swap rfl _ _ _ _).drew⟩⟩
      · have hA' : ahd y x = false := by simpa using hA
        go_region_held3 (fun w' => w'.cell? ⟨b, 0, none⟩ = some (.slice (some ⟨g, 0, none⟩) n cap) ∧ w'.cell? ⟨g, p * 2, none⟩ = some (.int .i64 x.1) ∧ w'.cell? ⟨g, p * 2 + 1, none⟩ = some (.int .u64 x.2) ∧
            w'.cell? ⟨g, c * 2, none⟩ = some (.int .i64 y.1) ∧ w'.cell? ⟨g, c * 2 + 1, none⟩ = some (.int .u64 y.2)) (go_keep)
          (first | (go_at_call 18; refine (ahead_raw y x _).mono ?_; rintro e w' ⟨rfl, rfl⟩))
        go_wp2
        obtain ⟨hx, hy⟩ := X.out
        obtain ⟨h1, h2, h3, h4⟩ := HQ.out
        refine bodyPost_ret (v := .tuple #[]) (results_none rfl _ _ _) rfl ?_
        exact ⟨rfl, ys, (h1.below (below_alloc2 w1 _ _)).drew, h2, down_stop h3 (.inr (by rw [C.out, hx, hy]; exact hA')), ((h4.alloc _).alloc _).drew⟩

end Go.Proofs.Ytjpdckpkpcphcaa
