/-
  The reference's Cut, by a contract over frames. No condition but that what is handed in is no longer than any memory holds.
-/
import Derived.Test.YtlcaphickofccaaROpen
import Derived.Test.YtlcaphickofccaaCut
namespace Go.Proofs.Ytlcaphickofccaa
open Go.RowKit

/-- Frames of the document: a number and a text each. -/
def encR : Enc Fr := ⟨fun f => [.int .i64 f.1, tx f.2], 2, fun _ => rfl, by decide, by intro x u h; simp at h; rcases h with rfl | rfl <;> rfl⟩
theorem info33 : (Try.prog.info? 33).map (fun i => (i.zero, i.size, i.bytes)) = some (some (.agg #[.int .i64 0, .string ⟨#[]⟩]), 2, 24) := by kernel_rfl

theorem RdG.rframes {w : World} {b off : Nat} {fs : List Fr} (h : RdG encR w (some ⟨b, off, none⟩) fs) {i : Nat} {f : Fr} (hx : fs[i]? = some f) : b < w.heap.size ∧ w.cell? ⟨b, off + i * 2, none⟩ = some (.int .i64 f.1) ∧ w.cell? ⟨b, off + i * 2 + 1, none⟩ = some (tx f.2) := by
  obtain ⟨b', off', e, hlt, hc⟩ := h (by rcases Nat.lt_or_ge i fs.length with q | q
                                         · omega
                                         · rw [List.getElem?_eq_none q] at hx; cases hx)
  obtain ⟨rfl, rfl⟩ : b = b' ∧ off = off' := by simpa using e
  have h0 := hc i f hx 0 _ rfl
  have h1 := hc i f hx 1 _ rfl
  exact ⟨hlt, by simpa [encR] using h0, by simpa [encR, Nat.add_assoc] using h1⟩

theorem ropen_at (bs : Bs) (w : World) (s : ByteArray) (hs : s = ⟨bs.toArray⟩) (fk : Int) (fb : Bs) (fn : Nat) (fe : Int) (h : fopen bs = ((fk, fb), fn, fe)) : Calls Try.prog 12 #[.string s] w fun e w' => e = .returned (.tuple #[.agg #[.int .i64 fk, tx fb], .int .i64 (fn : Int), .int .i64 fe]) ∧ Below w.heap.size w w' := by
  have := ropen_any bs w
  rw [h, show tx bs = .string s by rw [hs]] at this
  exact this

set_option maxHeartbeats 3200000 in
set_option maxRecDepth 100000 in
/-- The reference's Cut. -/
theorem rcut_any (bs : Bs) (w : World) (hn : bs.length ≤ 1000000000000) :
    Calls Try.prog 14 #[tx bs] w fun e w' => ∃ lv, e = .returned (.tuple #[lv, .int .i64 ((fcut bs).2.1 : Int), .int .i64 (fcut bs).2.2]) ∧ Hid (OwnG encR 33 w' w.heap.size lv (fcut bs).1 ∧ Below w.heap.size w w') := by
  obtain ⟨s, hs⟩ : ∃ s : ByteArray, s = ⟨bs.toArray⟩ := ⟨_, rfl⟩
  obtain ⟨n, hz⟩ : ∃ n, s.size = n := ⟨_, rfl⟩
  have hl : bs.length = n := by rw [← hz, hs]; show _ = bs.toArray.size; simp
  rw [show tx bs = .string s by rw [hs]]
  have H : Hid (bs.length = n ∧ s = ⟨bs.toArray⟩) := ⟨hl, hs⟩
  have hn' : n ≤ 1000000000000 := by omega
  clear hl hs hn
  go_enter Try.func14, Try.ntmps14
  go_wp2_with fail
  go_loopg [5, 6] n (fun m lv dv wr => ∃ (d : Nat) (fs : List Fr), dv = .int .i64 d ∧ d ≤ n ∧ m = n - d ∧ Hid (OwnG encR 33 wr w.heap.size lv fs ∧ Below w.heap.size w wr ∧ CutAt bs fs d))
  case atStart => exact ⟨0, [], rfl, Nat.zero_le _, by omega, OwnG.nil _ _ _ _, Below.refl _ _, CutAt.start bs⟩
  case round =>
    obtain ⟨d, fs, rfl, hd, hm, HR⟩ := hrel
    by_cases hdn : d < n
    · have id : (d : Int) < (n : Int) := by omega
      have id2 : (d : Int) ≤ (n : Int) := by omega
      have hd0 : (0 : Int) ≤ (d : Int) := by omega
      obtain ⟨fo, hfo⟩ : ∃ fo, fopen (bs.drop d) = fo := ⟨_, rfl⟩
      obtain ⟨⟨fk, fb⟩, fn, fe⟩ := fo
      obtain ⟨p, hp⟩ : ∃ p, s.extract d n = p := ⟨_, rfl⟩
      have ep : p = ⟨(bs.drop d).toArray⟩ := by
        have := ext_data bs d n
        rw [← H.out.2, hp] at this
        have e2 : (bs.drop d).take (n - d) = bs.drop d := List.take_of_length_le (by rw [List.length_drop, H.out.1]; omega)
        rw [e2] at this
        rw [← this]
      have ho := ropen_at (bs.drop d) wr p ep fk fb fn fe hfo
      have HF : Hid (fopen (bs.drop d) = ((fk, fb), fn, fe)) := hfo
      clear hfo ep
      go_wp2_with fail
      refine ho.mono ?_
      rintro e w2 ⟨rfl, B2⟩
      clear ho
      by_cases he : fe = 0
      · subst he
        have hn2 := fopen_n (b := bs.drop d) (by rw [HF.out])
        rw [HF.out, List.length_drop, H.out.1] at hn2
        simp only at hn2
        have fn1 : fn ≤ n - d := hn2.2.1
        have fn9 : 9 ≤ fn := hn2.1
        obtain ⟨wA, hwA⟩ : ∃ wA, w2.alloc (.cells #[.int .i64 fk, tx fb] 33) = wA := ⟨_, rfl⟩
        have bA : Below wr.heap.size wr wA := by rw [← hwA]; exact B2.trans ((bz1 w2 _).mono B2.size)
        have bx : Box wA w2.heap.size 33 (.int .i64 fk) (tx fb) := by rw [← hwA]; exact Box.new w2 _ _ _
        have JA : Hid (OwnG encR 33 wA w.heap.size u5 fs ∧ Below w.heap.size w wA ∧ CutAt bs fs d) := ⟨HR.out.1.below bA, HR.out.2.1.trans (bA.mono HR.out.2.1.size), HR.out.2.2⟩
        obtain ⟨x0, x1⟩ := bx.cells
        have hvl : 9 * fs.length ≤ d := HR.out.2.2.2.1
        clear bA bx B2 hn2
        go_wp2_with (at_builtin; refine appG_one encR 33 42 24 _ rfl info33 Try.underlying42 rfl (.tmp 27) (.tmp 29) rfl w.heap.size _ fs (fk, fb) _ rfl JA.out.1 rfl (by omega) (by simp only [maxLen]; omega) JA.out.2.1.size _ rfl ?_; intro v4 w4 ho4 hb4 hm4 ht4)
        have J4 : Hid (OwnG encR 33 w4 w.heap.size v4 (fs ++ [(fk, fb)]) ∧ Below w.heap.size w w4 ∧ CutAt bs (fs ++ [(fk, fb)]) (d + fn)) := by
          refine ⟨ho4, JA.out.2.1.trans hb4, ?_⟩
          have := JA.out.2.2.step (by rw [H.out.1]; exact hdn) (by rw [HF.out])
          rw [HF.out] at this
          exact this
        clear ho4 hb4 hm4 ht4
        go_wp2
        go_roundg (n - (d + fn))
        case measure => omega
        case rel => exact ⟨d + fn, _, by go_num, by omega, rfl, J4⟩
      · have m0 : (fe != 0) = true := by simpa using he
        have hst := HR.out.2.2.stop (by rw [H.out.1]; exact hdn) (by rw [HF.out]; exact he)
        rw [HF.out] at hst
        simp only at hst
        have HH : Hid (OwnG encR 33 (w2.alloc (.cells #[.int .i64 fk, tx fb] 33)) w.heap.size u5 fs ∧ Below w.heap.size w (w2.alloc (.cells #[.int .i64 fk, tx fb] 33))) := by
          have bA : Below wr.heap.size wr (w2.alloc (.cells #[.int .i64 fk, tx fb] 33)) := B2.trans ((bz1 w2 _).mono B2.size)
          exact ⟨HR.out.1.below bA, HR.out.2.1.trans (bA.mono HR.out.2.1.size)⟩
        clear B2
        go_wp2
        refine bodyPost_ret (v := .tuple #[u5, .int .i64 (d : Int), .int .i64 fe]) ?_ rfl ?_
        · simp [results, Try.f14]
        · rw [hst]
          exact ⟨u5, rfl, HH.out⟩
    · obtain rfl : d = n := by omega
      have hdo := HR.out.2.2.done (by rw [H.out.1]; omega)
      go_wp2
      refine bodyPost_ret (v := .tuple #[u5, .int .i64 (d : Int), .int .i64 0]) ?_ rfl ?_
      · simp [results, Try.f14]
      · rw [hdo]
        exact ⟨u5, rfl, HR.out.1, HR.out.2.1⟩

end Go.Proofs.Ytlcaphickofccaa
