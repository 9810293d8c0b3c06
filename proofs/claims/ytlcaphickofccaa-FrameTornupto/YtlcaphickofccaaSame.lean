/-
  The statements' Same: the program's frames and the document's, told alike. No condition but that there are no more than any memory holds.
-/
import Derived.Test.YtlcaphickofccaaRCut
namespace Go.Proofs.Ytlcaphickofccaa
open Go.RowKit

set_option maxHeartbeats 3200000 in
set_option maxRecDepth 100000 in
theorem same_walk {w : World} {fa ra : Option Addr} {n c d : Nat} {vs : List FV} {fs : List Fr} (h1 : RdG encV w fa vs) (h2 : Fvs w vs fs) (h3 : RdG encR w ra fs) (hl : fs.length = n) (hn : n ≤ 1000000000000) :
    Calls Try.prog 15 #[.slice fa n c, .slice ra n d] w fun e w' => e = .returned (.bool true) ∧ Below w.heap.size w w' := by
  have H : Hid (RdG encV w fa vs ∧ Fvs w vs fs ∧ RdG encR w ra fs ∧ fs.length = n) := ⟨h1, h2, h3, hl⟩
  clear h1 h2 h3 hl
  go_enter Try.func15, Try.ntmps15
  go_wp2_with fail
  go_loopg [5] n (fun m iv wr => ∃ i : Nat, iv = .int .i64 i ∧ i + m = n ∧ Hid (Below w.heap.size w wr))
  case atStart => exact ⟨0, rfl, by omega, Below.refl _ _⟩
  case round =>
    obtain ⟨i, rfl, hi, HR⟩ := hrel
    by_cases hin : i < n
    · have id : (i : Int) < (n : Int) := by omega
      obtain ⟨v, f, e1, e2, hv⟩ := H.out.2.1.get (i := i) (by rw [H.out.2.2.2]; exact hin)
      obtain ⟨b, off, rfl, hlt⟩ := H.out.1.some_of e1
      obtain ⟨_, c0, c1⟩ := H.out.1.frames e1
      obtain ⟨rb, ro, rfl, rlt⟩ := H.out.2.2.1.some_of e2
      obtain ⟨_, d0, d1⟩ := H.out.2.2.1.rframes e2
      obtain ⟨vk, va, vn, vc⟩ := v
      obtain ⟨fk, body⟩ := f
      obtain ⟨q1, q2, q3⟩ := hv
      simp only at q1 q2 q3 c0 c1 d0 d1
      subst q1
      have NE : Nonempty (SW (Grew wr)) := ⟨⟨wr, Below.refl _ _⟩⟩
      have bw : ∀ u : SW (Grew wr), Below w.heap.size w u.w := fun u => HR.out.trans (u.ok.mono HR.out.size)
      have k0 : ∀ u : SW (Grew wr), u.w.cell? ⟨b, off + i * 2, none⟩ = some (.int .i64 vk) := fun u => ((bw u).cell (p := ⟨b, off + i * 2, none⟩) hlt).trans c0
      have k1 : ∀ u : SW (Grew wr), u.w.cell? ⟨b, off + i * 2 + 1, none⟩ = some (.slice va vn vc) := fun u => ((bw u).cell (p := ⟨b, off + i * 2 + 1, none⟩) hlt).trans c1
      have l0 : ∀ u : SW (Grew wr), u.w.cell? ⟨rb, ro + i * 2, none⟩ = some (.int .i64 vk) := fun u => ((bw u).cell (p := ⟨rb, ro + i * 2, none⟩) rlt).trans d0
      have l1 : ∀ u : SW (Grew wr), u.w.cell? ⟨rb, ro + i * 2 + 1, none⟩ = some (tx body) := fun u => ((bw u).cell (p := ⟨rb, ro + i * 2 + 1, none⟩) rlt).trans d1
      have hcs : ∀ u : SW (Grew wr), (convert 24 9 (.slice va vn vc)).run Try.prog u.w = .ok (tx body) u.w := fun u => conv_str (q3.below (bw u))
      clear bw c0 c1 d0 d1 q2 q3 e1 e2
      go_upto_region 6 with fail
      refine wp_region_class (S := Grew wr) (by kernel_rfl) (by kernel_rfl) (Below.refl _ wr).drew ?_
      repeat (go_big_quiet_step (fail))
      refine wpQuiet_nil ?_
      intro _ hw'
      obtain ⟨u, hw''⟩ := hw'
      subst hw''
      have N4 : Hid (Below w.heap.size w u.w) := HR.out.trans (u.ok.mono HR.out.size)
      obtain ⟨w4, hw4⟩ : ∃ w4, w4 = u.w := ⟨_, rfl⟩
      rw [← hw4] at N4 ⊢
      clear hw4 k0 k1 l0 l1 hcs NE u
      go_wp2
      go_roundg (gk - 1)
      case measure => omega
      case rel => exact ⟨i + 1, by go_num, by omega, N4⟩
    · obtain rfl : i = n := by omega
      go_wp2
      go_ret
      exact ⟨rfl, HR.out⟩

end Go.Proofs.Ytlcaphickofccaa
