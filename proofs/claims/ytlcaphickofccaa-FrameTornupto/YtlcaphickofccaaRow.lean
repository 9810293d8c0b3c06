/-
  Frames in memory; frame.Row, by a contract over frames. No condition but that all bytes together fit any memory.
-/
import Derived.Test.YtlcaphickofccaaSeal
namespace Go.Proofs.Ytlcaphickofccaa
open Go.RowKit

/-- A frame, as it lies in memory. -/
structure FV where
  k : Int
  a : Option Addr
  n : Nat
  c : Nat

def encV : Enc FV := ⟨fun v => [.int .i64 v.k, .slice v.a v.n v.c], 2, fun _ => rfl, by decide, by intro x u h; simp at h; rcases h with rfl | rfl <;> rfl⟩

/-- .. and what it reads as. -/
def FvAt (w : World) (v : FV) (f : Fr) : Prop := v.k = f.1 ∧ f.2.length = v.n ∧ BAt w (.slice v.a v.n v.c) f.2

theorem FvAt.below {w w' : World} {v : FV} {f : Fr} (h : FvAt w v f) (hb : Below w.heap.size w w') : FvAt w' v f := ⟨h.1, h.2.1, h.2.2.below hb⟩

structure Fvs (w : World) (vs : List FV) (fs : List Fr) : Prop where
  len : vs.length = fs.length
  at_ : ∀ (i : Nat) (v : FV) (f : Fr), vs[i]? = some v → fs[i]? = some f → FvAt w v f

theorem Fvs.nil (w : World) : Fvs w [] [] := ⟨rfl, fun i v f h => by simp at h⟩
theorem Fvs.below {w w' : World} {vs : List FV} {fs : List Fr} (h : Fvs w vs fs) (hb : Below w.heap.size w w') : Fvs w' vs fs := ⟨h.len, fun i v f h1 h2 => (h.at_ i v f h1 h2).below hb⟩
theorem Fvs.get {w : World} {vs : List FV} {fs : List Fr} (h : Fvs w vs fs) {i : Nat} (hi : i < fs.length) : ∃ v f, vs[i]? = some v ∧ fs[i]? = some f ∧ FvAt w v f := by
  have hv : i < vs.length := by rw [h.len]; exact hi
  exact ⟨vs[i], fs[i], List.getElem?_eq_getElem hv, List.getElem?_eq_getElem hi, h.at_ i _ _ (List.getElem?_eq_getElem hv) (List.getElem?_eq_getElem hi)⟩
theorem Fvs.add {w : World} {vs : List FV} {fs : List Fr} (h : Fvs w vs fs) {v : FV} {f : Fr} (k : FvAt w v f) : Fvs w (vs ++ [v]) (fs ++ [f]) := by
  refine ⟨by simp [h.len], fun i u g h1 h2 => ?_⟩
  by_cases hi : i < vs.length
  · rw [List.getElem?_append_left hi] at h1
    rw [List.getElem?_append_left (by rw [← h.len]; exact hi)] at h2
    exact h.at_ i u g h1 h2
  · rw [List.getElem?_append_right (by omega)] at h1
    rw [List.getElem?_append_right (by rw [← h.len]; omega)] at h2
    have e : i - vs.length = 0 := by
      rcases Nat.eq_zero_or_pos (i - vs.length) with q | q
      · exact q
      · rw [List.getElem?_eq_none (by simp; omega)] at h1; cases h1
    rw [← h.len, e] at h2
    rw [e] at h1
    cases h1
    cases h2
    exact k

theorem RdG.frames {w : World} {b off : Nat} {vs : List FV} (h : RdG encV w (some ⟨b, off, none⟩) vs) {i : Nat} {v : FV} (hx : vs[i]? = some v) : b < w.heap.size ∧ w.cell? ⟨b, off + i * 2, none⟩ = some (.int .i64 v.k) ∧ w.cell? ⟨b, off + i * 2 + 1, none⟩ = some (.slice v.a v.n v.c) := by
  obtain ⟨b', off', e, hlt, hc⟩ := h (by rcases Nat.lt_or_ge i vs.length with q | q
                                         · omega
                                         · rw [List.getElem?_eq_none q] at hx; cases hx)
  obtain ⟨rfl, rfl⟩ : b = b' ∧ off = off' := by simpa using e
  have h0 := hc i v hx 0 _ rfl
  have h1 := hc i v hx 1 _ rfl
  exact ⟨hlt, by simpa [encV] using h0, by simpa [encV, Nat.add_assoc] using h1⟩

/-- All sealed frames. -/
def rowB (fs : List Fr) : Bs := fs.flatMap (fun f => (fseal f).1)

theorem frow_split : ∀ (a b : List Fr), (∀ f ∈ a, (fseal f).2 = 0) → frow (a ++ b) = if (frow b).2 ≠ 0 then ([], (frow b).2) else (rowB a ++ (frow b).1, 0)
  | [], b, _ => by
    by_cases q : (frow b).2 = 0
    · simp [rowB, q]
      exact Prod.ext rfl q
    · simp [q]
      cases b with
      | nil => simp [frow] at q
      | cons f t =>
        unfold frow at q ⊢
        split
        · rfl
        · rename_i h1
          rw [if_neg h1] at q
          split
          · rfl
          · rename_i h2
            rw [if_neg h2] at q
            exact absurd rfl q
  | f :: t, b, h => by
    have ih := frow_split t b (fun g hg => h g (List.mem_cons_of_mem _ hg))
    have hf := h f List.mem_cons_self
    rw [List.cons_append, frow, if_neg (by rw [hf]; simp), ih]
    by_cases q : (frow b).2 = 0
    · simp [q, rowB]
    · simp [q]

theorem frow_err {fs : List Fr} {i : Nat} {f : Fr} (h : ∀ g ∈ fs.take i, (fseal g).2 = 0) (hi : fs[i]? = some f) (hf : (fseal f).2 ≠ 0) : frow fs = ([], (fseal f).2) := by
  obtain ⟨hlt, e⟩ := List.getElem?_eq_some_iff.1 hi
  have hs := frow_split (fs.take i) (fs.drop i) h
  rw [List.take_append_drop, List.drop_eq_getElem_cons hlt, e] at hs
  have : frow (f :: fs.drop (i + 1)) = ([], (fseal f).2) := by rw [frow, if_pos hf]
  rw [hs, this, if_pos hf]

theorem frow_all {fs : List Fr} (h : ∀ g ∈ fs, (fseal g).2 = 0) : frow fs = (rowB fs, 0) := by
  have := frow_split fs [] h
  rw [List.append_nil] at this
  rw [this]
  simp [frow]

theorem rowB_take {fs : List Fr} {i : Nat} {f : Fr} (hi : fs[i]? = some f) : rowB (fs.take (i + 1)) = rowB (fs.take i) ++ (fseal f).1 := by
  rw [List.take_add_one, hi]
  simp [rowB]

theorem fseal_max (f : Fr) : (fseal f).1.length ≤ 8201 := by
  unfold fseal
  split
  · simp
  · split
    · simp
    · simp [sealB_len]; omega

/-- How many bytes sealed frames have, at most. -/
theorem rowB_max : ∀ fs : List Fr, (rowB fs).length ≤ fs.length * 8201
  | [] => by simp [rowB]
  | f :: t => by
    have := rowB_max t
    have h2 := fseal_max f
    simp only [rowB, List.flatMap_cons, List.length_append, List.length_cons] at this ⊢
    omega

set_option maxHeartbeats 3200000 in
set_option maxRecDepth 100000 in
/-- frame.Row. -/
theorem row_any {w : World} {fa : Option Addr} {n c : Nat} {vs : List FV} {fs : List Fr} (hr : RdG encV w fa vs) (hf : Fvs w vs fs) (hl : fs.length = n) (ht : n * 8201 ≤ 140737488355328) :
    Calls Try.prog 10 #[.slice fa n c] w fun e w' => ∃ v, e = .returned (.tuple #[v, .int .i64 (frow fs).2]) ∧ Hid (OwnG encB 5 w' w.heap.size v (frow fs).1 ∧ Below w.heap.size w w') := by
  have H : Hid (RdG encV w fa vs ∧ Fvs w vs fs ∧ fs.length = n) := ⟨hr, hf, hl⟩
  clear hr hf hl
  go_enter Try.func10, Try.ntmps10
  go_wp2_with fail
  go_loopg [4, 11] n (fun m rv iv wr => ∃ i : Nat, iv = .int .i64 i ∧ i + m = n ∧ Hid (OwnG encB 5 wr w.heap.size rv (rowB (fs.take i)) ∧ Below w.heap.size w wr ∧ ∀ g ∈ fs.take i, (fseal g).2 = 0))
  case atStart => exact ⟨0, rfl, by omega, OwnG.nil _ _ _ _, Below.refl _ _, by simp⟩
  case round =>
    obtain ⟨i, rfl, hi, HR⟩ := hrel
    by_cases hin : i < n
    · have id : (i : Int) < (n : Int) := by omega
      obtain ⟨v, f, e1, e2, hv⟩ := H.out.2.1.get (i := i) (by rw [H.out.2.2]; exact hin)
      obtain ⟨b, off, rfl, hlt⟩ := H.out.1.some_of e1
      obtain ⟨_, c0, c1⟩ := H.out.1.frames e1
      have k0 := (HR.out.2.1.cell (p := ⟨b, off + i * 2, none⟩) hlt).trans c0
      have k1 := (HR.out.2.1.cell (p := ⟨b, off + i * 2 + 1, none⟩) hlt).trans c1
      obtain ⟨vk, va, vn, vc⟩ := v
      obtain ⟨fk, body⟩ := f
      obtain ⟨q1, q2, q3⟩ := hv
      simp only at q1 q2 q3 k0 k1
      subst q1
      have hs := seal_any (w := wr.alloc (.cells #[.int .i64 vk, .slice va vn vc] 29)) (k := vk) ((q3.below HR.out.2.1).below (bz1 wr _)) q2
      obtain ⟨sd, hsd⟩ : ∃ sd, fseal (vk, body) = sd := ⟨_, rfl⟩
      rw [hsd] at hs
      have HE : Hid (fs[i]? = some (vk, body) ∧ fseal (vk, body) = sd ∧ rowB (fs.take (i + 1)) = rowB (fs.take i) ++ sd.1 ∧ (rowB (fs.take i)).length + sd.1.length ≤ 140737488355328) := by
        have r := rowB_take e2
        rw [hsd] at r
        have l := rowB_max (fs.take (i + 1))
        rw [r, List.length_append] at l
        have : (fs.take (i + 1)).length ≤ n := by rw [List.length_take, H.out.2.2]; omega
        exact ⟨e2, hsd, r, by omega⟩
      clear c0 c1 q2 q3 e1 e2 hsd
      obtain ⟨sb, se⟩ := sd
      simp only at hs
      go_wp2_with fail
      refine hs.mono ?_
      rintro e w2 ⟨v2, rfl, J2⟩
      clear hs k0 k1
      by_cases he : se = 0
      · subst he
        have J3 : Hid (OwnG encB 5 w2 w.heap.size u4 (rowB (fs.take i)) ∧ BAt w2 v2 sb ∧ Below w.heap.size w w2) := by
          have b2 := (bz1 wr (.cells #[.int .i64 vk, .slice va vn vc] 29)).trans (J2.out.2.mono (bz1 wr _).size)
          exact ⟨HR.out.1.below b2, OwnB.at (OwnG.low J2.out.1 (Nat.zero_le _)), HR.out.2.1.trans (b2.mono HR.out.2.1.size)⟩
        clear J2
        go_wp2_with (at_builtin; refine appB rfl (.tmp 23) (.tmp 24) rfl w.heap.size _ _ (rowB (fs.take i)) sb rfl J3.out.1 rfl J3.out.2.1 HE.out.2.2.2 J3.out.2.2.size ?_; intro v4 w4 ho4 hb4 _ _)
        go_wp2
        go_roundg (gk - 1)
        case measure => omega
        case rel =>
          refine ⟨i + 1, by go_num, by omega, by rw [HE.out.2.2.1]; exact ho4, J3.out.2.2.trans hb4, fun g hg => ?_⟩
          rw [List.take_add_one, HE.out.1] at hg
          rcases List.mem_append.1 hg with q | q
          · exact HR.out.2.2 g q
          · have : g = (vk, body) := by simpa using q
            rw [this, HE.out.2.1]
      · have m0 : (se == 0) = false := by simpa using he
        have hfr : frow fs = ([], se) := by
          have := frow_err HR.out.2.2 HE.out.1 (by rw [HE.out.2.1]; exact he)
          rw [this, HE.out.2.1]
        have J3 : Hid (Below w.heap.size w w2) := by
          have b2 := (bz1 wr (.cells #[.int .i64 vk, .slice va vn vc] 29)).trans (J2.out.2.mono (bz1 wr _).size)
          exact HR.out.2.1.trans (b2.mono HR.out.2.1.size)
        clear J2
        go_wp2
        refine bodyPost_ret (results_tmp2 rfl _ _ _) rfl ?_
        rw [hfr]
        exact ⟨_, rfl, OwnG.nil _ _ _ _, J3.out⟩
    · obtain rfl : i = n := by omega
      have htk : fs.take i = fs := List.take_of_length_le (by have := H.out.2.2; omega)
      have hfr : frow fs = (rowB fs, 0) := frow_all (by have := HR.out.2.2; rw [htk] at this; exact this)
      have HH : Hid (OwnG encB 5 wr w.heap.size u4 (rowB fs) ∧ Below w.heap.size w wr) := ⟨by have := HR.out.1; rw [htk] at this; exact this, HR.out.2.1⟩
      clear htk
      go_wp2
      refine bodyPost_ret (results_tmp2 rfl _ _ _) rfl ?_
      rw [hfr]
      exact ⟨_, rfl, HH.out.1, HH.out.2⟩

end Go.Proofs.Ytlcaphickofccaa
