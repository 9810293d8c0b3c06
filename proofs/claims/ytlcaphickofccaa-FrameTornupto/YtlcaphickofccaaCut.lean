/-
  frame.Cut, by a contract over frames: the list of frames and all their bytes lie in new memory. No condition but that what is handed in is no longer than any memory holds.
-/
import Derived.Test.YtlcaphickofccaaOpen
import Derived.Test.YtlcaphickofccaaRow
namespace Go.Proofs.Ytlcaphickofccaa
open Go.RowKit

/-- Frames whose bytes lie in blocks from B on, and not in block g. -/
def FarV (S : Nat → Prop) (vs : List FV) : Prop := ∀ v ∈ vs, 0 < v.n → ∀ p, v.a = some p → ¬ S p.block

theorem FarV.nil (S : Nat → Prop) : FarV S [] := fun _ h => by cases h
theorem FarV.add {S : Nat → Prop} {vs : List FV} (h : FarV S vs) {v : FV} (k : 0 < v.n → ∀ p, v.a = some p → ¬ S p.block) : FarV S (vs ++ [v]) := by
  intro u hu
  rcases List.mem_append.1 hu with q | q
  · exact h u q
  · obtain rfl : u = v := by simpa using q
    exact k
theorem FarV.mono {S T : Nat → Prop} {vs : List FV} (h : FarV S vs) (k : ∀ i, T i → S i) : FarV T vs := fun v hv h0 p hp q => h v hv h0 p hp (k _ q)

theorem BAt.turned {S : Nat → Prop} {w w' : World} {a : Option Addr} {n c : Nat} {bs : Bs} (h : BAt w (.slice a n c) bs) (ht : Turned S w w') (hS : 0 < n → ∀ p, a = some p → ¬ S p.block) : BAt w' (.slice a n c) bs := by
  obtain ⟨ao, c', e, h1, h2, h3⟩ := h
  cases e
  exact ⟨a, c, rfl, h1, h2, h3.turned ht hS⟩

theorem Fvs.turned {S : Nat → Prop} {w w' : World} {vs : List FV} {fs : List Fr} (h : Fvs w vs fs) (ht : Turned S w w') (hS : FarV S vs) : Fvs w' vs fs :=
  ⟨h.len, fun i v f h1 h2 => ⟨(h.at_ i v f h1 h2).1, (h.at_ i v f h1 h2).2.1, (h.at_ i v f h1 h2).2.2.turned ht (hS v (List.mem_of_getElem? h1))⟩⟩

theorem info29 : (Try.prog.info? 29).map (fun i => (i.zero, i.size, i.bytes)) = some (some (.agg #[.int .i64 0, .slice none 0 0]), 2, 32) := by kernel_rfl

/-- A list of frames that grows: its row, its bytes, all in blocks from B on. -/
structure CI (w wr : World) (lv : Value) (vs : List FV) (fs : List Fr) : Prop where
  row : OwnG encV 29 wr w.heap.size lv vs
  at_ : Fvs wr vs fs
  far : FarV (fun k => lv.ownBlock = some k) vs
  low : FarV (fun k => k < w.heap.size) vs
  bel : Below w.heap.size w wr

theorem CI.start (w : World) : CI w w (.slice none 0 0) [] [] := ⟨OwnG.nil _ _ _ _, Fvs.nil _, FarV.nil _, FarV.nil _, Below.refl _ _⟩

theorem CI.below {w wr w' : World} {lv : Value} {vs : List FV} {fs : List Fr} (h : CI w wr lv vs fs) (hb : Below wr.heap.size wr w') : CI w w' lv vs fs :=
  ⟨h.row.below hb, h.at_.below hb, h.far, h.low, h.bel.trans (hb.mono h.bel.size)⟩

theorem Fvs.far {w : World} {vs : List FV} {fs : List Fr} (h : Fvs w vs fs) : FarV (fun k => w.heap.size ≤ k) vs := by
  intro v hv h0 p hp q
  obtain ⟨i, hi⟩ := List.getElem?_of_mem hv
  have hil : i < vs.length := (List.getElem?_eq_some_iff.1 hi).1
  obtain ⟨v', f, e1, e2, hf⟩ := h.get (i := i) (by rw [← h.len]; exact hil)
  rw [hi] at e1
  cases e1
  obtain ⟨ao, c', e, _, _, h3⟩ := hf.2.2
  simp only [Value.slice.injEq] at e
  obtain ⟨b, off, e2, hlt, _⟩ := h3 (by rw [hf.2.1]; exact h0)
  rw [← e.1, hp] at e2
  cases e2
  have q' : w.heap.size ≤ b := q
  omega

/-- One frame more. -/
theorem CI.add {w wr w8 : World} {lv lv' : Value} {vs : List FV} {fs : List Fr} {v : FV} {f : Fr} (h : CI w wr lv vs fs) (hv : FvAt wr v f) (hl : 0 < v.n → ∀ p, v.a = some p → ¬ p.block < w.heap.size) (hn : 0 < v.n → ∀ p, v.a = some p → ¬ lv.ownBlock = some p.block)
    (ho : OwnG encV 29 w8 w.heap.size lv' (vs ++ [v])) (hm : Moved wr lv lv') (ht : Turned (fun k => lv.ownBlock = some k) wr w8) : CI w w8 lv' (vs ++ [v]) (fs ++ [f]) := by
  have f1 : FarV (fun k => lv.ownBlock = some k) (vs ++ [v]) := h.far.add hn
  have a1 := h.at_.add hv
  refine ⟨ho, a1.turned ht f1, ?_, h.low.add hl, h.bel.trans (ht.below h.bel.size (fun k hk q => by have := (h.row.lt k q).1; omega))⟩
  rcases hm with e | e
  · rw [e]; exact f1
  · exact a1.far.mono (fun i q => e i q)

set_option maxHeartbeats 3200000 in
set_option maxRecDepth 100000 in
/-- frame.Cut. -/
theorem cut_any {w : World} {a : Option Addr} {n c : Nat} {bs : Bs} (hb : BAt w (.slice a n c) bs) (hl : bs.length = n) (hn : n ≤ 1000000000000) :
    Calls Try.prog 13 #[.slice a n c] w fun e w' => ∃ lv vs, e = .returned (.tuple #[lv, .int .i64 ((fcut bs).2.1 : Int), .int .i64 (fcut bs).2.2]) ∧ Hid (CI w w' lv vs (fcut bs).1) := by
  have H : Hid (BAt w (.slice a n c) bs ∧ bs.length = n) := ⟨hb, hl⟩
  clear hb hl
  go_enter Try.func13, Try.ntmps13
  go_wp2_with fail
  go_loopg [5, 6] n (fun m lv dv wr => ∃ (d : Nat) (vs : List FV) (fs : List Fr), dv = .int .i64 d ∧ d ≤ n ∧ m = n - d ∧ Hid (CI w wr lv vs fs ∧ CutAt bs fs d))
  case atStart => exact ⟨0, [], [], rfl, Nat.zero_le _, by omega, CI.start w, CutAt.start bs⟩
  case round =>
    obtain ⟨d, vs, fs, rfl, hd, hm, HR⟩ := hrel
    by_cases hdn : d < n
    · have id : (d : Int) < (n : Int) := by omega
      have hd0 : (0 : Int) ≤ (d : Int) := by omega
      obtain ⟨a2, c2, hs2, o1, o2, r2⟩ : ∃ a2 c2, (∀ w, (Instr.slice 24 (.slice a n c) (some (.int .i64 (d : Int))) none none).run Try.prog w = .ok (.slice a2 (n - d) c2) w) ∧ n - d ≤ c2 ∧ c2 ≤ c ∧ ∀ w (xs : Bs), xs.length = n → RdG encB w a xs → RdG encB w a2 (xs.drop d) := by
        obtain ⟨ao, c', e, h1, h2, h3⟩ := H.out.1
        rw [H.out.2] at e
        cases e
        exact sliceB_l (by rw [H.out.2] at h1; exact h1) hd
      have hB : BAt wr (.slice a2 (n - d) c2) (bs.drop d) := by
        obtain ⟨ao, c', e, h1, h2, h3⟩ := H.out.1
        rw [H.out.2] at e
        cases e
        exact ⟨a2, c2, by rw [List.length_drop, H.out.2], by rw [List.length_drop, H.out.2]; exact o1, by omega, r2 wr bs H.out.2 (h3.below HR.out.1.bel)⟩
      have ho := open_any hB (by rw [List.length_drop, H.out.2]) (by omega)
      obtain ⟨fo, hfo⟩ : ∃ fo, fopen (bs.drop d) = fo := ⟨_, rfl⟩
      rw [hfo] at ho
      obtain ⟨⟨fk, fb⟩, fn, fe⟩ := fo
      simp only at ho
      have HF : Hid (fopen (bs.drop d) = ((fk, fb), fn, fe)) := hfo
      clear hB o1 o2 r2 hfo
      go_wp2_with fail
      refine ho.mono ?_
      rintro e w2 ⟨fv, rfl, J2⟩
      clear ho
      obtain ⟨fa, fc, rfl, _, _, _, _⟩ := OwnG.form J2.out.1
      obtain ⟨bl, hbl⟩ : ∃ bl, fb.length = bl := ⟨_, rfl⟩
      rw [hbl] at J2 ⊢
      have HBL : Hid (fb.length = bl) := hbl
      clear hbl
      by_cases he : fe = 0
      · subst he
        have hn2 := fopen_n (b := bs.drop d) (by rw [HF.out])
        rw [HF.out, List.length_drop, H.out.2] at hn2
        simp only at hn2
        have fn1 : fn ≤ n - d := hn2.2.1
        have fn9 : 9 ≤ fn := hn2.1
        obtain ⟨wA, hwA⟩ : ∃ wA, w2.alloc (.cells #[.int .i64 fk, .slice fa bl fc] 29) = wA := ⟨_, rfl⟩
        have bA : Below w2.heap.size w2 wA := by rw [← hwA]; exact bz1 _ _
        have bx : Box wA w2.heap.size 29 (.int .i64 fk) (.slice fa bl fc) := by rw [← hwA]; exact Box.new w2 _ _ _
        have JA : Hid (CI w wA u5 vs fs ∧ FvAt wA ⟨fk, fa, bl, fc⟩ (fk, fb) ∧ (0 < bl → ∀ p, fa = some p → wr.heap.size ≤ p.block) ∧ CutAt bs fs d) := by
          refine ⟨(HR.out.1.below J2.out.2).below bA, ⟨rfl, HBL.out, ?_⟩, fun h0 p hp => ?_, HR.out.2⟩
          · have := OwnB.at (OwnG.low J2.out.1 (Nat.zero_le _))
            exact this.below bA
          · exact (J2.out.1.lt p.block (by rw [hp]; exact own_at_head J2.out.1 (by rw [hp]))).1
        obtain ⟨x0, x1⟩ := bx.cells
        have hvl : 9 * vs.length ≤ d := by rw [HR.out.1.at_.len]; exact HR.out.2.2.1
        clear bA bx J2 hn2
        go_wp2_with (at_builtin; refine appG_one encV 29 22 32 _ rfl info29 Try.underlying22 rfl (.tmp 27) (.tmp 29) rfl w.heap.size _ vs ⟨fk, fa, bl, fc⟩ _ rfl JA.out.1.row rfl (by omega) (by simp only [maxLen]; omega) JA.out.1.bel.size _ rfl ?_; intro v4 w4 ho4 hb4 hm4 ht4)
        have J4 : Hid (CI w w4 v4 (vs ++ [⟨fk, fa, bl, fc⟩]) (fs ++ [(fk, fb)]) ∧ CutAt bs (fs ++ [(fk, fb)]) (d + fn)) := by
          refine ⟨JA.out.1.add JA.out.2.1 (fun h0 p hp q => ?_) (fun h0 p hp q => ?_) ho4 hm4 ht4, ?_⟩
          · have := JA.out.2.2.1 h0 p hp
            have := HR.out.1.bel.size
            omega
          · have h1 := JA.out.2.2.1 h0 p hp
            have h2 := (HR.out.1.row.lt _ q).2
            omega
          · have := JA.out.2.2.2.step (by rw [H.out.2]; exact hdn) (by rw [HF.out])
            rw [HF.out] at this
            exact this
        clear ho4 hb4 hm4 ht4
        go_wp2
        go_roundg (n - (d + fn))
        case measure => omega
        case rel => exact ⟨d + fn, _, _, by go_num, by omega, rfl, J4⟩
      · have m0 : (fe == 0) = false := by simpa using he
        have hst := HR.out.2.stop (by rw [H.out.2]; exact hdn) (by rw [HF.out]; exact he)
        rw [HF.out] at hst
        simp only at hst
        have HH : Hid (CI w (w2.alloc (.cells #[.int .i64 fk, .slice fa bl fc] 29)) u5 vs fs) := (HR.out.1.below J2.out.2).below (bz1 _ _)
        clear J2
        go_wp2
        refine bodyPost_ret (v := .tuple #[u5, .int .i64 (d : Int), .int .i64 fe]) ?_ rfl ?_
        · simp [results, Try.f13]
        · rw [hst]
          exact ⟨u5, vs, rfl, HH.out⟩
    · obtain rfl : d = n := by omega
      have hdo := HR.out.2.done (by rw [H.out.2]; omega)
      go_wp2
      refine bodyPost_ret (v := .tuple #[u5, .int .i64 (d : Int), .int .i64 0]) ?_ rfl ?_
      · simp [results, Try.f13]
      · rw [hdo]
        exact ⟨u5, vs, rfl, HR.out.1⟩

end Go.Proofs.Ytlcaphickofccaa
