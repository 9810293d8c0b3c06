/-
  Several texts, laid together.
-/
import Derived.Test.YtikgbjjgpgjmfaaGreatM08
import Derived.Test.YtikgbjjgpgjmfaaGreatFOpenMg
import Derived.Test.YtikgbjjgpgjmfaaGreatFROpenMg
import Derived.Test.YtikgbjjgpgjmfaaGreatM11

/-
  Frames in memory; frame.Row, by a contract over frames. No condition but that all bytes together fit any memory.
-/
namespace Go.Proofs.YtikgbjjgpgjmfaaGreat
open Go.RowKit

/-- A frame, as it lies in memory. -/
structure FV where
  k : Int
  a : Option Addr
  n : Nat
  c : Nat

def encV : Enc FV := ⟨fun v => [.int .i64 v.k, .slice v.a v.n v.c], 2, fun _ => rfl, by decide, by intro x u h; simp at h; rcases h with rfl | rfl <;> rfl⟩

/-- .. and what it reads as. -/
def FvAt (w : World) (v : FV) (f : Fr) : Prop := v.k = f.1 ∧ f.2.length = v.n ∧ BAt w (.slice v.a v.n v.c) f.2

theorem FvAt.below {w w' : World} {v : FV} {f : Fr} (h : FvAt w v f) (hb : Below w.heap.size w w') : FvAt w' v f := ⟨h.1, h.2.1, h.2.2.below hb⟩

structure Fvs (w : World) (vs : List FV) (fs : List Fr) : Prop where
  len : vs.length = fs.length
  at_ : ∀ (i : Nat) (v : FV) (f : Fr), vs[i]? = some v → fs[i]? = some f → FvAt w v f

theorem Fvs.nil (w : World) : Fvs w [] [] := ⟨rfl, fun i v f h => by simp at h⟩
theorem Fvs.below {w w' : World} {vs : List FV} {fs : List Fr} (h : Fvs w vs fs) (hb : Below w.heap.size w w') : Fvs w' vs fs := ⟨h.len, fun i v f h1 h2 => (h.at_ i v f h1 h2).below hb⟩
theorem Fvs.get {w : World} {vs : List FV} {fs : List Fr} (h : Fvs w vs fs) {i : Nat} (hi : i < fs.length) : ∃ v f, vs[i]? = some v ∧ fs[i]? = some f ∧ FvAt w v f := by
  have hv : i < vs.length := by rw [h.len]; exact hi
  exact ⟨vs[i], fs[i], List.getElem?_eq_getElem hv, List.getElem?_eq_getElem hi, h.at_ i _ _ (List.getElem?_eq_getElem hv) (List.getElem?_eq_getElem hi)⟩
theorem Fvs.add {w : World} {vs : List FV} {fs : List Fr} (h : Fvs w vs fs) {v : FV} {f : Fr} (k : FvAt w v f) : Fvs w (vs ++ [v]) (fs ++ [f]) := by
  refine ⟨by simp [h.len], fun i u g h1 h2 => ?_⟩
  by_cases hi : i < vs.length
  · rw [List.getElem?_append_left hi] at h1
    rw [List.getElem?_append_left (by rw [← h.len]; exact hi)] at h2
    exact h.at_ i u g h1 h2
  · rw [List.getElem?_append_right (by omega)] at h1
    rw [List.getElem?_append_right (by rw [← h.len]; omega)] at h2
    have e : i - vs.length = 0 := by
      rcases Nat.eq_zero_or_pos (i - vs.length) with q | q
      · exact q
      · rw [List.getElem?_eq_none (by simp; omega)] at h1; cases h1
    rw [← h.len, e] at h2
    rw [e] at h1
    cases h1
    cases h2
    exact k

theorem RdG.frames {w : World} {b off : Nat} {vs : List FV} (h : RdG encV w (some ⟨b, off, none⟩) vs) {i : Nat} {v : FV} (hx : vs[i]? = some v) : b < w.heap.size ∧ w.cell? ⟨b, off + i * 2, none⟩ = some (.int .i64 v.k) ∧ w.cell? ⟨b, off + i * 2 + 1, none⟩ = some (.slice v.a v.n v.c) := by
  obtain ⟨b', off', e, hlt, hc⟩ := h (by rcases Nat.lt_or_ge i vs.length with q | q
                                         · omega
                                         · rw [List.getElem?_eq_none q] at hx; cases hx)
  obtain ⟨rfl, rfl⟩ : b = b' ∧ off = off' := by simpa using e
  have h0 := hc i v hx 0 _ rfl
  have h1 := hc i v hx 1 _ rfl
  exact ⟨hlt, by simpa [encV] using h0, by simpa [encV, Nat.add_assoc] using h1⟩

/-- All sealed frames. -/
def rowB (fs : List Fr) : Bs := fs.flatMap (fun f => (fseal f).1)

theorem frow_split : ∀ (a b : List Fr), (∀ f ∈ a, (fseal f).2 = 0) → frow (a ++ b) = if (frow b).2 ≠ 0 then ([], (frow b).2) else (rowB a ++ (frow b).1, 0)
  | [], b, _ => by
    by_cases q : (frow b).2 = 0
    · simp [rowB, q]
      exact Prod.ext rfl q
    · simp [q]
      cases b with
      | nil => simp [frow] at q
      | cons f t =>
        unfold frow at q ⊢
        split
        · rfl
        · rename_i h1
          rw [if_neg h1] at q
          split
          · rfl
          · rename_i h2
            rw [if_neg h2] at q
            exact absurd rfl q
  | f :: t, b, h => by
    have ih := frow_split t b (fun g hg => h g (List.mem_cons_of_mem _ hg))
    have hf := h f List.mem_cons_self
    rw [List.cons_append, frow, if_neg (by rw [hf]; simp), ih]
    by_cases q : (frow b).2 = 0
    · simp [q, rowB]
    · simp [q]

theorem frow_err {fs : List Fr} {i : Nat} {f : Fr} (h : ∀ g ∈ fs.take i, (fseal g).2 = 0) (hi : fs[i]? = some f) (hf : (fseal f).2 ≠ 0) : frow fs = ([], (fseal f).2) := by
  obtain ⟨hlt, e⟩ := List.getElem?_eq_some_iff.1 hi
  have hs := frow_split (fs.take i) (fs.drop i) h
  rw [List.take_append_drop, List.drop_eq_getElem_cons hlt, e] at hs
  have : frow (f :: fs.drop (i + 1)) = ([], (fseal f).2) := by rw [frow, if_pos hf]
  rw [hs, this, if_pos hf]

theorem frow_all {fs : List Fr} (h : ∀ g ∈ fs, (fseal g).2 = 0) : frow fs = (rowB fs, 0) := by
  have := frow_split fs [] h
  rw [List.append_nil] at this
  rw [this]
  simp [frow]

theorem rowB_take {fs : List Fr} {i : Nat} {f : Fr} (hi : fs[i]? = some f) : rowB (fs.take (i + 1)) = rowB (fs.take i) ++ (fseal f).1 := by
  rw [List.take_add_one, hi]
  simp [rowB]

theorem fseal_max (f : Fr) : (fseal f).1.length ≤ 8201 := by
  unfold fseal
  split
  · simp
  · split
    · simp
    · simp [sealB_len]; omega

/-- How many bytes sealed frames have, at most. -/
theorem rowB_max : ∀ fs : List Fr, (rowB fs).length ≤ fs.length * 8201
  | [] => by simp [rowB]
  | f :: t => by
    have := rowB_max t
    have h2 := fseal_max f
    simp only [rowB, List.flatMap_cons, List.length_append, List.length_cons] at this ⊢
    omega

end Go.Proofs.YtikgbjjgpgjmfaaGreat

/-
  frame.Cut, by a contract over frames: the list of frames and all their bytes lie in new memory. No condition but that what is handed in is no longer than any memory holds.
-/
namespace Go.Proofs.YtikgbjjgpgjmfaaGreat
open Go.RowKit

/-- Frames whose bytes lie in blocks from B on, and not in block g. -/
def FarV (S : Nat → Prop) (vs : List FV) : Prop := ∀ v ∈ vs, 0 < v.n → ∀ p, v.a = some p → ¬ S p.block

theorem FarV.nil (S : Nat → Prop) : FarV S [] := fun _ h => by cases h
theorem FarV.add {S : Nat → Prop} {vs : List FV} (h : FarV S vs) {v : FV} (k : 0 < v.n → ∀ p, v.a = some p → ¬ S p.block) : FarV S (vs ++ [v]) := by
  intro u hu
  rcases List.mem_append.1 hu with q | q
  · exact h u q
  · obtain rfl : u = v := by simpa using q
    exact k
theorem FarV.mono {S T : Nat → Prop} {vs : List FV} (h : FarV S vs) (k : ∀ i, T i → S i) : FarV T vs := fun v hv h0 p hp q => h v hv h0 p hp (k _ q)

theorem Fvs.turned {S : Nat → Prop} {w w' : World} {vs : List FV} {fs : List Fr} (h : Fvs w vs fs) (ht : Turned S w w') (hS : FarV S vs) : Fvs w' vs fs :=
  ⟨h.len, fun i v f h1 h2 => ⟨(h.at_ i v f h1 h2).1, (h.at_ i v f h1 h2).2.1, (h.at_ i v f h1 h2).2.2.turned ht (hS v (List.mem_of_getElem? h1))⟩⟩

theorem info29 : (Tryz.prog.info? 172).map (fun i => (i.zero, i.size, i.bytes)) = some (some (.agg #[.int .i64 0, .slice none 0 0]), 2, 32) := by kernel_rfl

/-- A list of frames that grows: its row, its bytes, all in blocks from B on. -/
structure CI (w wr : World) (lv : Value) (vs : List FV) (fs : List Fr) : Prop where
  row : OwnG encV 172 wr w.heap.size lv vs
  at_ : Fvs wr vs fs
  far : FarV (fun k => lv.ownBlock = some k) vs
  low : FarV (fun k => k < w.heap.size) vs
  bel : Below w.heap.size w wr

theorem CI.start (w : World) : CI w w (.slice none 0 0) [] [] := ⟨OwnG.nil _ _ _ _, Fvs.nil _, FarV.nil _, FarV.nil _, Below.refl _ _⟩

theorem CI.below {w wr w' : World} {lv : Value} {vs : List FV} {fs : List Fr} (h : CI w wr lv vs fs) (hb : Below wr.heap.size wr w') : CI w w' lv vs fs :=
  ⟨h.row.below hb, h.at_.below hb, h.far, h.low, h.bel.trans (hb.mono h.bel.size)⟩

theorem Fvs.far {w : World} {vs : List FV} {fs : List Fr} (h : Fvs w vs fs) : FarV (fun k => w.heap.size ≤ k) vs := by
  intro v hv h0 p hp q
  obtain ⟨i, hi⟩ := List.getElem?_of_mem hv
  have hil : i < vs.length := (List.getElem?_eq_some_iff.1 hi).1
  obtain ⟨v', f, e1, e2, hf⟩ := h.get (i := i) (by rw [← h.len]; exact hil)
  rw [hi] at e1
  cases e1
  obtain ⟨ao, c', e, _, _, h3⟩ := hf.2.2
  simp only [Value.slice.injEq] at e
  obtain ⟨b, off, e2, hlt, _⟩ := h3 (by rw [hf.2.1]; exact h0)
  rw [← e.1, hp] at e2
  cases e2
  have q' : w.heap.size ≤ b := q
  omega

/-- One frame more. -/
theorem CI.add {w wr w8 : World} {lv lv' : Value} {vs : List FV} {fs : List Fr} {v : FV} {f : Fr} (h : CI w wr lv vs fs) (hv : FvAt wr v f) (hl : 0 < v.n → ∀ p, v.a = some p → ¬ p.block < w.heap.size) (hn : 0 < v.n → ∀ p, v.a = some p → ¬ lv.ownBlock = some p.block)
    (ho : OwnG encV 172 w8 w.heap.size lv' (vs ++ [v])) (hm : Moved wr lv lv') (ht : Turned (fun k => lv.ownBlock = some k) wr w8) : CI w w8 lv' (vs ++ [v]) (fs ++ [f]) := by
  have f1 : FarV (fun k => lv.ownBlock = some k) (vs ++ [v]) := h.far.add hn
  have a1 := h.at_.add hv
  refine ⟨ho, a1.turned ht f1, ?_, h.low.add hl, h.bel.trans (ht.below h.bel.size (fun k hk q => by have := (h.row.lt k q).1; omega))⟩
  rcases hm with e | e
  · rw [e]; exact f1
  · exact a1.far.mono (fun i q => e i q)

end Go.Proofs.YtikgbjjgpgjmfaaGreat

/-
  The reference's Cut, by a contract over frames. No condition but that what is handed in is no longer than any memory holds.
-/
namespace Go.Proofs.YtikgbjjgpgjmfaaGreat
open Go.RowKit

/-- Frames of the document: a number and a text each. -/
def encR : Enc Fr := ⟨fun f => [.int .i64 f.1, tx f.2], 2, fun _ => rfl, by decide, by intro x u h; simp at h; rcases h with rfl | rfl <;> rfl⟩
theorem info33 : (Tryz.prog.info? 161).map (fun i => (i.zero, i.size, i.bytes)) = some (some (.agg #[.int .i64 0, .string ⟨#[]⟩]), 2, 24) := by kernel_rfl

theorem RdG.rframes {w : World} {b off : Nat} {fs : List Fr} (h : RdG encR w (some ⟨b, off, none⟩) fs) {i : Nat} {f : Fr} (hx : fs[i]? = some f) : b < w.heap.size ∧ w.cell? ⟨b, off + i * 2, none⟩ = some (.int .i64 f.1) ∧ w.cell? ⟨b, off + i * 2 + 1, none⟩ = some (tx f.2) := by
  obtain ⟨b', off', e, hlt, hc⟩ := h (by rcases Nat.lt_or_ge i fs.length with q | q
                                         · omega
                                         · rw [List.getElem?_eq_none q] at hx; cases hx)
  obtain ⟨rfl, rfl⟩ : b = b' ∧ off = off' := by simpa using e
  have h0 := hc i f hx 0 _ rfl
  have h1 := hc i f hx 1 _ rfl
  exact ⟨hlt, by simpa [encR] using h0, by simpa [encR, Nat.add_assoc] using h1⟩

theorem ropen_at (bs : Bs) (w : World) (s : ByteArray) (hs : s = ⟨bs.toArray⟩) (fk : Int) (fb : Bs) (fn : Nat) (fe : Int) (h : fopen bs = ((fk, fb), fn, fe)) : Calls Tryz.prog 125 #[.string s] w fun e w' => e = .returned (.tuple #[.agg #[.int .i64 fk, tx fb], .int .i64 (fn : Int), .int .i64 fe]) ∧ Below w.heap.size w w' := by
  have := ropen_any bs w
  rw [h, show tx bs = .string s by rw [hs]] at this
  exact this

set_option maxHeartbeats 3200000 in
set_option maxRecDepth 100000 in
/-- The reference's Cut. -/
theorem rcut_any (bs : Bs) (w : World) (hn : bs.length ≤ 1000000000000) :
    Calls Tryz.prog 77 #[tx bs] w fun e w' => ∃ lv, e = .returned (.tuple #[lv, .int .i64 ((fcut bs).2.1 : Int), .int .i64 (fcut bs).2.2]) ∧ Hid (OwnG encR 161 w' w.heap.size lv (fcut bs).1 ∧ Below w.heap.size w w') := by
  obtain ⟨s, hs⟩ : ∃ s : ByteArray, s = ⟨bs.toArray⟩ := ⟨_, rfl⟩
  obtain ⟨n, hz⟩ : ∃ n, s.size = n := ⟨_, rfl⟩
  have hl : bs.length = n := by rw [← hz, hs]; show _ = bs.toArray.size; simp
  rw [show tx bs = .string s by rw [hs]]
  have H : Hid (bs.length = n ∧ s = ⟨bs.toArray⟩) := ⟨hl, hs⟩
  have hn' : n ≤ 1000000000000 := by omega
  clear hl hs hn
  go_enter Tryz.func77, Tryz.ntmps77
  go_wp2_with fail
  go_loopg [5, 6] n (fun m lv dv wr => ∃ (d : Nat) (fs : List Fr), dv = .int .i64 d ∧ d ≤ n ∧ m = n - d ∧ Hid (OwnG encR 161 wr w.heap.size lv fs ∧ Below w.heap.size w wr ∧ CutAt bs fs d))
  case atStart => exact ⟨0, [], rfl, Nat.zero_le _, by omega, OwnG.nil _ _ _ _, Below.refl _ _, CutAt.start bs⟩
  case round =>
    obtain ⟨d, fs, rfl, hd, hm, HR⟩ := hrel
    by_cases hdn : d < n
    · have id : (d : Int) < (n : Int) := by omega
      have id2 : (d : Int) ≤ (n : Int) := by omega
      have hd0 : (0 : Int) ≤ (d : Int) := by omega
      obtain ⟨fo, hfo⟩ : ∃ fo, fopen (bs.drop d) = fo := ⟨_, rfl⟩
      obtain ⟨⟨fk, fb⟩, fn, fe⟩ := fo
      obtain ⟨p, hp⟩ : ∃ p, s.extract d n = p := ⟨_, rfl⟩
      have ep : p = ⟨(bs.drop d).toArray⟩ := by
        have := ext_data bs d n
        rw [← H.out.2, hp] at this
        have e2 : (bs.drop d).take (n - d) = bs.drop d := List.take_of_length_le (by rw [List.length_drop, H.out.1]; omega)
        rw [e2] at this
        rw [← this]
      have ho := ropen_at (bs.drop d) wr p ep fk fb fn fe hfo
      have HF : Hid (fopen (bs.drop d) = ((fk, fb), fn, fe)) := hfo
      clear hfo ep
      go_wp2_with fail
      refine ho.mono ?_
      rintro e w2 ⟨rfl, B2⟩
      clear ho
      by_cases he : fe = 0
      · subst he
        have hn2 := fopen_n (b := bs.drop d) (by rw [HF.out])
        rw [HF.out, List.length_drop, H.out.1] at hn2
        simp only at hn2
        have fn1 : fn ≤ n - d := hn2.2.1
        have fn9 : 9 ≤ fn := hn2.1
        obtain ⟨wA, hwA⟩ : ∃ wA, w2.alloc (.cells #[.int .i64 fk, tx fb] 161) = wA := ⟨_, rfl⟩
        have bA : Below wr.heap.size wr wA := by rw [← hwA]; exact B2.trans ((bz1 w2 _).mono B2.size)
        have bx : Box wA w2.heap.size 161 (.int .i64 fk) (tx fb) := by rw [← hwA]; exact Box.new w2 _ _ _
        have JA : Hid (OwnG encR 161 wA w.heap.size u5 fs ∧ Below w.heap.size w wA ∧ CutAt bs fs d) := ⟨HR.out.1.below bA, HR.out.2.1.trans (bA.mono HR.out.2.1.size), HR.out.2.2⟩
        obtain ⟨x0, x1⟩ := bx.cells
        have hvl : 9 * fs.length ≤ d := HR.out.2.2.2.1
        clear bA bx B2 hn2
        go_wp2_with (at_builtin; refine appG_one encR 161 155 24 _ rfl info33 Tryz.underlying155 rfl (.tmp 27) (.tmp 29) rfl w.heap.size _ fs (fk, fb) _ rfl JA.out.1 rfl (by omega) (by simp only [maxLen]; omega) JA.out.2.1.size _ rfl ?_; intro v4 w4 ho4 hb4 hm4 ht4)
        have J4 : Hid (OwnG encR 161 w4 w.heap.size v4 (fs ++ [(fk, fb)]) ∧ Below w.heap.size w w4 ∧ CutAt bs (fs ++ [(fk, fb)]) (d + fn)) := by
          refine ⟨ho4, JA.out.2.1.trans hb4, ?_⟩
          have := JA.out.2.2.step (by rw [H.out.1]; exact hdn) (by rw [HF.out])
          rw [HF.out] at this
          exact this
        clear ho4 hb4 hm4 ht4
        go_wp2
        go_roundg (n - (d + fn))
        case measure => omega
        case rel => exact ⟨d + fn, _, by go_num, by omega, rfl, J4⟩
      · have m0 : (fe != 0) = true := by simpa using he
        have hst := HR.out.2.2.stop (by rw [H.out.1]; exact hdn) (by rw [HF.out]; exact he)
        rw [HF.out] at hst
        simp only at hst
        have HH : Hid (OwnG encR 161 (w2.alloc (.cells #[.int .i64 fk, tx fb] 161)) w.heap.size u5 fs ∧ Below w.heap.size w (w2.alloc (.cells #[.int .i64 fk, tx fb] 161))) := by
          have bA : Below wr.heap.size wr (w2.alloc (.cells #[.int .i64 fk, tx fb] 161)) := B2.trans ((bz1 w2 _).mono B2.size)
          exact ⟨HR.out.1.below bA, HR.out.2.1.trans (bA.mono HR.out.2.1.size)⟩
        clear B2
        go_wp2
        refine bodyPost_ret (v := .tuple #[u5, .int .i64 (d : Int), .int .i64 fe]) ?_ rfl ?_
        · simp [results, Tryz.f77]
        · rw [hst]
          exact ⟨u5, rfl, HH.out⟩
    · obtain rfl : d = n := by omega
      have hdo := HR.out.2.2.done (by rw [H.out.1]; omega)
      go_wp2
      refine bodyPost_ret (v := .tuple #[u5, .int .i64 (d : Int), .int .i64 0]) ?_ rfl ?_
      · simp [results, Tryz.f77]
      · rw [hdo]
        exact ⟨u5, rfl, HR.out.1, HR.out.2.1⟩

end Go.Proofs.YtikgbjjgpgjmfaaGreat

/-
  The store's label and readLabel, each by a contract. No condition but the lengths that any memory holds.
-/
namespace Go.Proofs.YtikgbjjgpgjmfaaGreat
open Go.RowKit

set_option maxHeartbeats 1600000 in
set_option maxRecDepth 100000 in
/-- readLabel. -/
theorem readLabel_any {w : World} {a : Option Addr} {L c : Nat} {bs : Bs} (h : BAt w (.slice a L c) bs) (hl : bs.length = L) (h8 : 8 ≤ L) :
    Calls Tryz.prog 143 #[.slice a L c] w fun e w' => e = .returned (.tuple #[tx (labN bs), .int .u64 ((labI bs).toNat : Int)]) ∧ w' = w := by
  obtain ⟨h1, h2, h3⟩ : L ≤ c ∧ c ≤ 9223372036854775807 ∧ RdG encB w a bs := by
    obtain ⟨ao, c', e, h1, h2, h3⟩ := h
    cases e
    exact ⟨h1, h2, h3⟩
  clear h
  obtain ⟨a1, c1, s1, q1, _, r1⟩ := sliceB_h (ao := a) (k := 8) h1 h8
  obtain ⟨a2, c2, s2, q2, q2', r2⟩ := sliceB_l (ao := a) (k := 8) h1 h8
  have e8 : ((8 : Nat) : Int) = 8 := rfl
  rw [e8] at s1 s2
  have hcv := conv_str (w := w) (v := .slice a2 (L - 8) c2) (bs := bs.drop 8) ⟨a2, c2, by rw [List.length_drop, hl], by rw [List.length_drop, hl]; exact q2, by omega, r2 w bs hl h3⟩
  have hv : (labI bs).toNat = val (bs.take 8) := toNat_val (by rw [List.length_take]; omega)
  have H : Hid (RdG encB w a1 (bs.take 8) ∧ (bs.take 8).length = 8) := ⟨r1 w bs h3, by rw [List.length_take]; omega⟩
  rw [hv]
  unfold labN
  obtain ⟨tl, htl⟩ : ∃ tl, tx (bs.drop 8) = .string tl := ⟨_, rfl⟩
  rw [htl] at hcv ⊢
  obtain ⟨hd, hhd⟩ : ∃ hd, bs.take 8 = hd := ⟨_, rfl⟩
  rw [hhd] at H ⊢
  clear h1 h2 h3 r1 r2 hv hhd htl hl
  go_enter Tryz.func143, Tryz.ntmps143
  go_wp2_with fail
  go_loopg [4, 10] 8 (fun m vv iv wr => wr = w ∧ ∃ (i v : Nat), iv = .int .i64 i ∧ i + m = 8 ∧ vv = .int .u64 (v : Int) ∧ Hid (val (hd.take i) = v))
  case atStart => exact ⟨rfl, 0, 0, rfl, by omega, rfl, rfl⟩
  case round =>
    obtain ⟨hwr, i, v, rfl, hi, rfl, HR⟩ := hrel
    subst hwr
    by_cases hin : i < 8
    · have id : (i : Int) < 8 := by omega
      obtain ⟨b, off, rfl, hlt, hc⟩ := H.out.1 (by rw [H.out.2]; omega)
      have hil : i < hd.length := by rw [H.out.2]; exact hin
      obtain ⟨y, hy⟩ : ∃ y, hd[i] = y := ⟨_, rfl⟩
      have cy : wr.cell? ⟨b, off + i, none⟩ = some (.int .u8 (y.toNat : Int)) := by
        have := hc i y (by rw [List.getElem?_eq_getElem hil, hy]) 0 _ rfl
        rw [show i * encB.size + 0 = i from (by show i * 1 + 0 = i; omega)] at this
        exact this
      have hvt := val_take hd i hil
      have hlt2 := val_lt (hd.take i)
      rw [HR.out] at hvt hlt2
      rw [hy] at hvt
      have hv2 : v < 72057594037927936 := by
        have : (hd.take i).length ≤ 7 := by rw [List.length_take]; omega
        have := Nat.pow_le_pow_right (n := 256) (by decide) this
        have e : 256 ^ 7 = 72057594037927936 := by decide
        omega
      have hor := or_step y hv2
      have HV : Hid (val (hd.take (i + 1)) = v * 256 + y.toNat) := hvt
      clear hvt hlt2 hil hc hy
      go_wp2
      go_roundg (gk - 1)
      case measure => omega
      case rel => exact ⟨rfl, i + 1, v * 256 + y.toNat, by go_num, by omega, by go_num, HV.out⟩
    · obtain rfl : i = 8 := by omega
      have e : hd.take 8 = hd := List.take_of_length_le (by rw [H.out.2]; omega)
      have HH : Hid (val hd = v) := by rw [← e]; exact HR.out
      clear e
      go_wp2
      refine bodyPost_ret (results_tmp2 rfl _ _ _) rfl ?_
      exact ⟨by rw [HH.out]; rfl, rfl⟩

theorem label_mid {w W wr w5 : World} {n : Nat} {nm : Bs} {v5 : Value} (hx : Box W w.heap.size 172 (.int .i64 0) (.slice none 0 0)) (hr : Below (w.heap.size + 1) W wr) (ho : OwnG encB 5 w5 (w.heap.size + 1) v5 (low (8 - 0) (n / 256 ^ 0) ++ nm)) (hb : Below (w.heap.size + 1) wr w5) :
    ∃ a5 c5 n5, v5 = .slice a5 n5 c5 ∧ Hid (n5 = 8 + nm.length) ∧ Hid (OwnG encB 5 w5 (w.heap.size + 1) v5 (low 8 n ++ nm) ∧ Below (w.heap.size + 1) W w5) ∧ w5.cell? ⟨w.heap.size, 0, none⟩ = some (.int .i64 0) ∧ w5.cell? ⟨w.heap.size, 1, none⟩ = some (.slice none 0 0) ∧ w5.frozen? ⟨w.heap.size, 0, none⟩ = false ∧ w5.frozen? ⟨w.heap.size, 1, none⟩ = false ∧ w.heap.size < w5.heap.size := by
  have ho' : OwnG encB 5 w5 (w.heap.size + 1) v5 (low 8 n ++ nm) := by simpa using ho
  have b5 : Box w5 w.heap.size 172 (.int .i64 0) (.slice none 0 0) := ((hr.trans hb).block _ (by omega)).trans hx
  obtain ⟨a5, c5, e, h1, _⟩ := OwnG.form ho'
  obtain ⟨x0, x1⟩ := b5.cells
  obtain ⟨f0, f1⟩ := b5.thaw
  exact ⟨a5, c5, _, e, (by show _ = _; rw [List.length_append, low_len]), ⟨ho', hr.trans hb⟩, x0, x1, f0, f1, b5.lt⟩

set_option maxHeartbeats 1600000 in
set_option maxRecDepth 100000 in
/-- label. -/
theorem label_any (k : Int) (nm : Bs) (hnm : nm.length ≤ 1000000) (i : UInt64) (w : World) :
    Calls Tryz.prog 86 #[.int .i64 k, tx nm, .int .u64 (i.toNat : Int)] w fun e w' => ∃ a c, e = .returned (.agg #[.int .i64 k, .slice a (8 + nm.length) c]) ∧ Hid (BAt w' (.slice a (8 + nm.length) c) (labB i nm) ∧ (∀ j, Blk a (8 + nm.length) j → w.heap.size ≤ j) ∧ Below w.heap.size w w') := by
  obtain ⟨n, hn⟩ : ∃ n, i.toNat = n := ⟨_, rfl⟩
  have eb : labB i nm = low 8 n ++ nm := by unfold labB b8; rw [hn]
  rw [hn, eb]
  obtain ⟨W, hW⟩ : ∃ W, w.alloc (.cells #[.int .i64 0, .slice none 0 0] 172) = W := ⟨_, rfl⟩
  have bW : Below w.heap.size w W := by rw [← hW]; exact bz1 _ _
  have bx : Box W w.heap.size 172 (.int .i64 0) (.slice none 0 0) := by rw [← hW]; exact Box.new _ _ _ _
  have sW : W.heap.size = w.heap.size + 1 := by rw [← hW]; simp
  obtain ⟨s, hs⟩ : ∃ s : ByteArray, s = ⟨nm.toArray⟩ := ⟨_, rfl⟩
  rw [show tx nm = .string s by rw [hs]]
  have H : Hid (Below w.heap.size w W ∧ Box W w.heap.size 172 (.int .i64 0) (.slice none 0 0) ∧ s = ⟨nm.toArray⟩ ∧ nm.length ≤ 1000000 ∧ W.heap.size = w.heap.size + 1) := ⟨bW, bx, hs, hnm, sW⟩
  clear bW bx hs hnm eb hn sW
  go_enter Tryz.func86, Tryz.ntmps86
  go_wp2_with fail
  go_loopg [7, 8] 8 (fun m bv iv wr => iv = .int .i64 (8 * (m : Int) - 8) ∧ m ≤ 8 ∧ Hid (OwnG encB 5 wr (w.heap.size + 1) bv (low (8 - m) (n / 256 ^ m)) ∧ Below (w.heap.size + 1) W wr))
  case atStart => exact ⟨rfl, Nat.le_refl _, by simpa [low] using OwnG.nil encB 5 W (w.heap.size + 1), Below.refl _ _⟩
  case round =>
    obtain ⟨rfl, hm, HR⟩ := hrel
    cases gk with
    | zero =>
      have hll : (low (8 - 0) (n / 256 ^ 0)).length ≤ 8 := by rw [low_len]; omega
      go_wp2_with (at_builtin; refine appS rfl (.tmp 21) (.tmp 22) rfl (w.heap.size + 1) _ _ nm rfl HR.out.1 (by show Value.string s = _; rw [H.out.2.2.1]) (by have := H.out.2.2.2.1; omega) (by have := HR.out.2.size; have := H.out.2.2.2.2; omega) ?_; intro v5 w5 ho5 hb5 ht5; obtain ⟨a5, c5, n5, hv5, B5, HR5, x0, x1, f0, f1, lt5⟩ := label_mid H.out.2.1 HR.out.2 ho5 hb5; subst hv5; clear ho5 hb5 ht5 hll)
      refine bodyPost_ret (v := .agg #[.int .i64 k, .slice a5 n5 c5]) ?_ rfl ⟨a5, c5, by rw [B5.out], ?_⟩
      · simp [results, Tryz.f86]
        go_simp
      · have t6 : Turned (fun j => j = w.heap.size) w5 ((w5.setCell ⟨w.heap.size, 0, none⟩ (.int .i64 k)).setCell ⟨w.heap.size, 1, none⟩ (.slice a5 n5 c5)) := ((Turned.refl (fun j => j = w.heap.size) w5).setCell (p := ⟨w.heap.size, 0, none⟩) (.inl rfl) _).setCell (p := ⟨w.heap.size, 1, none⟩) (.inl rfl) _
        have o6 := HR5.out.1.stays t6 (fun g hg q => by have := (HR5.out.1.lt g hg).1; omega)
        have bel : Below w.heap.size w w5 := H.out.1.trans (HR5.out.2.mono (by omega))
        refine ⟨?_, ?_, bel.trans (t6.below bel.size (fun j hj q => by omega))⟩
        · have := OwnB.at (OwnG.low o6 (Nat.zero_le _))
          rw [← B5.out]
          exact this
        · rintro j ⟨h0, p, rfl, rfl⟩
          obtain ⟨a6, c6, e6, _, _, _, q4⟩ := OwnG.form o6
          simp only [Value.slice.injEq] at e6
          obtain ⟨g, eg⟩ := q4 (by rw [List.length_append, low_len]; omega)
          rw [eg] at e6
          obtain ⟨e6, -, -⟩ := e6
          cases e6
          have := (o6.lt g rfl).1
          show w.heap.size ≤ g
          omega
    | succ gk =>
      obtain ⟨y, hy⟩ : ∃ y : UInt8, UInt8.ofNat (n / 256 ^ gk) = y := ⟨_, rfl⟩
      have hc : (n : Int) / 2 ^ (8 * (gk + 1) - 8) % 256 = (y.toNat : Int) := by
        have e1 : ((2 : Int) ^ (8 * gk)) = ((256 ^ gk : Nat) : Int) := by
          rw [show (256 : Nat) ^ gk = 2 ^ (8 * gk) by rw [Nat.pow_mul]]
          exact (Int.natCast_pow 2 (8 * gk)).symm
        rw [← hy, UInt8.toNat_ofNat', show 8 * (gk + 1) - 8 = 8 * gk by omega, e1, ← Int.natCast_ediv]
        omega
      have hs : low (8 - gk) (n / 256 ^ gk) = low (8 - (gk + 1)) (n / 256 ^ (gk + 1)) ++ [y] := by
        rw [show 8 - gk = (8 - (gk + 1)) + 1 by omega, low, hy, Nat.div_div_eq_div_mul, ← Nat.pow_succ]
      have HS : Hid _ := hs
      have hll : (low (8 - (gk + 1)) (n / 256 ^ (gk + 1))).length ≤ 8 := by
        rw [low_len]
        omega
      clear hs hy
      go_wp2_with (at_builtin; refine appG_one encB 5 39 1 (.int .u8 0) rfl Tryz.info5 Tryz.underlying39 rfl (.tmp 13) (.tmp 18) rfl (w.heap.size + 1) _ _ y _ rfl HR.out.1 rfl (by omega) (by simp only [maxLen]; omega) (by have := HR.out.2.size; have := H.out.2.2.2.2; omega) _ (by first | rfl | (rw [hc]; rfl)) ?_; intro v4 w4 ho4 hb4 hm4 ht4)
      go_wp2
      go_roundg gk
      case measure => omega
      case rel => exact ⟨by go_num, by omega, by rw [HS.out]; exact ho4, HR.out.2.trans hb4⟩

end Go.Proofs.YtikgbjjgpgjmfaaGreat
