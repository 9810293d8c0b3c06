/-
  The way up of the queue's heap, by its contract: a queue of 1 to 1,000,000 items, in order but for the last one.
-/
import Derived.Test.YtjpdckpkpcphcaaSift
namespace Go.Proofs.Ytjpdckpkpcphcaa
open Go.RowKit

set_option maxHeartbeats 4000000 in
set_option maxRecDepth 1000000 in
theorem rise_row {base b g n cap : Nat} {xs : List It} (w : World) (hq : QAt w base b (.slice (some ⟨g, 0, none⟩) n cap) xs) (hn : n = xs.length) (h0 : 0 < n) (hm : n ≤ 1000000) (hup : PileUp xs (n - 1)) :
    Calls Try.prog 15 #[.pointer (some ⟨b, 0, none⟩)] w fun e w' => e = .returned (.tuple #[]) ∧
      ∃ ys, QAt w' base b (.slice (some ⟨g, 0, none⟩) n cap) ys ∧ ys.Perm xs ∧ Pile ys ∧ Turned (fun k => k = g) w w' := by
  have hc := hq.cell
  have H : Hid (QAt w base b (.slice (some ⟨g, 0, none⟩) n cap) xs ∧ n = xs.length ∧ PileUp xs (n - 1)) := ⟨hq, hn, hup⟩
  have e0 : (n : Int) - 1 = ((n - 1 : Nat) : Int) := by omega
  clear hq hn hup
  go_enter Try.func15, Try.ntmps15
  go_wp2
  go_loopg [2] n (fun k s wr => ∃ (p : Nat) (ys : List It), s = .int .i64 p ∧ p < n ∧ p ≤ k ∧ ys.length = n ∧ Hid (QAt wr base b (.slice (some ⟨g, 0, none⟩) n cap) ys ∧ ys.Perm xs ∧ PileUp ys p ∧ Turned (fun k => k = g) w wr))
  case atStart =>
    obtain ⟨h1, h2, h3⟩ := H.out
    exact ⟨n - 1, xs, by go_num, by omega, by omega, h2.symm, ⟨h1, List.Perm.refl _, h3, Turned.refl _ _⟩⟩
  case round =>
    obtain ⟨p, ys, rfl, hpn, hpk, hyl, HR⟩ := hrel
    by_cases hp0 : 0 < p
    · obtain ⟨q, hqq⟩ : ∃ q, (p - 1) / 2 = q := ⟨_, rfl⟩
      have hqi : ((p : Int) - 1).tdiv 2 = (q : Int) := by
        rw [Int.tdiv_eq_ediv_of_nonneg (by omega)]; omega
      have hqp : q < p := by omega
      obtain ⟨x, hx⟩ : ∃ x, el ys p = x := ⟨_, rfl⟩
      obtain ⟨y, hy⟩ : ∃ y, el ys q = y := ⟨_, rfl⟩
      obtain ⟨x0, x1, x2, x3⟩ := own_cells (i := p) HR.out.1.own (by omega)
      obtain ⟨y0, y1, y2, y3⟩ := own_cells (i := q) HR.out.1.own (by omega)
      rw [hx] at x0 x1
      rw [hy] at y0 y1
      have hb : b < wr.heap.size := HR.out.1.lt
      have hg : g < wr.heap.size := own_lt HR.out.1.own
      have hcr := HR.out.1.cell
      have pi : (p : Int) < (n : Int) := by omega
      have qi : (q : Int) < (n : Int) := by omega
      have hpos : (0 : Int) < (p : Int) := by omega
      have X : Hid (el ys p = x ∧ el ys q = y ∧ (p - 1) / 2 = q) := ⟨hx, hy, hqq⟩
      clear hx hy hqq
      go_wp2_with fail
      by_cases hA : ahd x y = true
      · go_region_held3 (fun w' => w'.cell? ⟨b, 0, none⟩ = some (.slice (some ⟨g, 0, none⟩) n cap) ∧ w'.cell? ⟨g, p * 2, none⟩ = some (.int .i64 x.1) ∧ w'.cell? ⟨g, p * 2 + 1, none⟩ = some (.int .u64 x.2) ∧
            w'.cell? ⟨g, q * 2, none⟩ = some (.int .i64 y.1) ∧ w'.cell? ⟨g, q * 2 + 1, none⟩ = some (.int .u64 y.2)) (go_keep)
          (first | (go_at_call 18; refine (ahead_raw x y _).mono ?_; rintro e w' ⟨rfl, rfl⟩))
        go_wp2_with fail
        obtain ⟨wq, hwq⟩ : ∃ wq, wq = ((wr.alloc (Obj.cells #[Value.int IntKind.i64 x.fst, Value.int IntKind.u64 x.snd] 31)).alloc (Obj.cells #[Value.int IntKind.i64 y.fst, Value.int IntKind.u64 y.snd] 31)).drew := ⟨_, rfl⟩
        rw [← hwq]
        have HQ : Hid (QAt wq base b (.slice (some ⟨g, 0, none⟩) n cap) ys ∧ ys.Perm xs ∧ PileUp ys p ∧ Turned (fun k => k = g) w wq) :=
          ⟨by rw [hwq]; exact (HR.out.1.below (below_alloc2 wr _ _)).drew, HR.out.2.1, HR.out.2.2.1, by rw [hwq]; exact ((HR.out.2.2.2.alloc _).alloc _).drew⟩
        have hbg : b ≠ g := fun e => HR.out.1.apart (by rw [e]; rfl)
        have npq : p ≠ q := by omega
        clear hwq x0 x1 x2 x3 y0 y1 y2 y3 hcr hc HR
        obtain ⟨x0, x1, x2, x3⟩ := own_cells (i := p) HQ.out.1.own (by omega)
        obtain ⟨y0, y1, y2, y3⟩ := own_cells (i := q) HQ.out.1.own (by omega)
        rw [X.out.1] at x0 x1
        rw [X.out.2.1] at y0 y1
        have c1 := HQ.out.1.cell
        go_region
        go_wp2
        go_roundg q
        case measure => omega
        case rel =>
          obtain ⟨hx, hy, hqq⟩ := X.out
          obtain ⟨h1, h2, h3, h4⟩ := HQ.out
          have hst := up_step h3 hp0 (by omega) (by rw [hqq, hx, hy]; exact hA)
          rw [hqq] at hst
          exact ⟨q, sw ys p q, rfl, by omega, by omega, by rw [sw_length]; exact hyl, ⟨(h1.swap hx hy).drew, (sw_perm (by omega) (by omega)).trans h2, hst, (h4.swap rfl _ _ _ _).drew⟩⟩
      · have hA' : ahd x y = false := by simpa using hA
        go_region_held3 (fun w' => w'.cell? ⟨b, 0, none⟩ = some (.slice (some ⟨g, 0, none⟩) n cap) ∧ w'.cell? ⟨g, p * 2, none⟩ = some (.int .i64 x.1) ∧ w'.cell? ⟨g, p * 2 + 1, none⟩ = some (.int .u64 x.2) ∧
            w'.cell? ⟨g, q * 2, none⟩ = some (.int .i64 y.1) ∧ w'.cell? ⟨g, q * 2 + 1, none⟩ = some (.int .u64 y.2)) (go_keep)
          (first | (go_at_call 18; refine (ahead_raw x y _).mono ?_; rintro e w' ⟨rfl, rfl⟩))
        go_wp2
        obtain ⟨hx, hy, hqq⟩ := X.out
        obtain ⟨h1, h2, h3, h4⟩ := HR.out
        refine bodyPost_ret (v := .tuple #[]) (results_none rfl _ _ _) rfl ?_
        exact ⟨rfl, ys, (h1.below (below_alloc2 wr _ _)).drew, h2, up_stop h3 (.inr (by rw [hqq, hx, hy]; exact hA')), ((h4.alloc _).alloc _).drew⟩
    · obtain rfl : p = 0 := by omega
      obtain ⟨h1, h2, h3, h4⟩ := HR.out
      have R : Hid (∃ ys, QAt wr base b (.slice (some ⟨g, 0, none⟩) n cap) ys ∧ ys.Perm xs ∧ Pile ys ∧ Turned (fun k => k = g) w wr) := ⟨ys, h1, h2, up_stop h3 (.inl rfl), h4⟩
      clear h1 h2 h3 h4 HR
      go_wp2
      go_end0
      exact ⟨rfl, R.out⟩

end Go.Proofs.Ytjpdckpkpcphcaa
