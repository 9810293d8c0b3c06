/-
  The store's Open, by a contract over the document's store and disk. No condition but the lengths that any memory holds.
-/
import Derived.Test.YtikgbjjgpgjmfaaGreatM32
namespace Go.Proofs.YtikgbjjgpgjmfaaGreat
open Go.RowKit

/-- A store that is being made: k of its four maps are there. -/
def mm (B k j : Nat) : Value := if j < k then .map (some (B + 3 + j)) else .map none
structure OpI (w : World) (b k : Nat) (wr : World) : Prop where
  sz : wr.heap.size = w.heap.size + 3 + k
  cells : wr.heap[w.heap.size + 2]? = some (.cells #[.pointer (some ⟨b, 0, none⟩), mm w.heap.size k 0, mm w.heap.size k 1, mm w.heap.size k 2, mm w.heap.size k 3, .map (some w.heap.size), .map (some (w.heap.size + 1))] 131 (0, 0))
  maps : ∀ j, j < k → wr.heap[w.heap.size + 3 + j]? = some (.map #[] 0)
  r : wr.heap[w.heap.size]? = some (.map #[] 0)
  t : wr.heap[w.heap.size + 1]? = some (.map #[] 0)
  bel : Below w.heap.size w wr

theorem OpI.cell {w wr : World} {b k : Nat} (h : OpI w b k wr) (j : Nat) (hj : j < 4) : wr.cell? ⟨w.heap.size + 2, 1 + j, none⟩ = some (mm w.heap.size k j) ∧ wr.frozen? ⟨w.heap.size + 2, 1 + j, none⟩ = false := by
  have h4 : j = 0 ∨ j = 1 ∨ j = 2 ∨ j = 3 := by omega
  rcases h4 with rfl | rfl | rfl | rfl <;> simp [World.cell?, World.frozen?, h.cells]

theorem OpI.step {w wr : World} {b k : Nat} (h : OpI w b k wr) (hk : k < 4) : OpI w b (k + 1) ((wr.setCell ⟨w.heap.size + 2, 1 + k, none⟩ (.map (some (w.heap.size + 3 + k)))).alloc (.map #[] 0)) := by
  obtain ⟨W, hW⟩ : ∃ W, wr.setCell ⟨w.heap.size + 2, 1 + k, none⟩ (.map (some (w.heap.size + 3 + k))) = W := ⟨_, rfl⟩
  have set : Turned (fun i => i = w.heap.size + 2) wr W := by rw [← hW]; exact turned_set _ _
  have szW : W.heap.size = w.heap.size + 3 + k := by rw [← hW]; simp [World.setCell, h.sz]
  have hc := set_block h.cells (1 + k) (.map (some (w.heap.size + 3 + k)))
  rw [hW] at hc ⊢
  have hn := heap_alloc_new W (.map #[] 0)
  rw [szW] at hn
  have hsz := h.sz
  have old : ∀ i, i < w.heap.size + 3 + k → (W.alloc (.map #[] 0)).heap[i]? = W.heap[i]? := fun i hi => (bz1 W (.map #[] 0)).block i (by rw [szW]; exact hi)
  have oth : ∀ i, i < w.heap.size + 3 + k → i ≠ w.heap.size + 2 → W.heap[i]? = wr.heap[i]? := fun i hi hne => set.block i (by omega) hne
  refine ⟨by simp [szW]; omega, ?_, ?_, ?_, ?_, ?_⟩
  · rw [old _ (by omega), hc]
    have h4 : k = 0 ∨ k = 1 ∨ k = 2 ∨ k = 3 := by omega
    rcases h4 with rfl | rfl | rfl | rfl <;> simp [mm]
  · intro j hj
    by_cases e : j = k
    · rw [e]; exact hn
    · rw [old _ (by omega), oth _ (by omega) (by omega)]
      exact h.maps j (by omega)
  · rw [old _ (by omega), oth _ (by omega) (by omega)]; exact h.r
  · rw [old _ (by omega), oth _ (by omega) (by omega)]; exact h.t
  · exact h.bel.trans ((set.below (by omega) (fun i hi q => by omega)).trans ((bz1 W _).mono (by omega)))

theorem OpI.start (w : World) (b : Nat) : OpI w b 0 (((w.alloc (.map #[] 0)).alloc (.map #[] 0)).alloc (.cells #[.pointer (some ⟨b, 0, none⟩), .map none, .map none, .map none, .map none, .map (some w.heap.size), .map (some (w.heap.size + 1))] 131)) := by
  have e1 : (w.alloc (.map #[] 0)).heap.size = w.heap.size + 1 := by simp
  have e2 : ((w.alloc (.map #[] 0)).alloc (.map #[] 0)).heap.size = w.heap.size + 2 := by simp
  have h1 := heap_alloc_new w (.map #[] 0)
  have h2 := heap_alloc_new (w.alloc (.map #[] 0)) (.map #[] 0)
  rw [e1] at h2
  have h3 := heap_alloc_new ((w.alloc (.map #[] 0)).alloc (.map #[] 0)) (.cells #[.pointer (some ⟨b, 0, none⟩), .map none, .map none, .map none, .map none, .map (some w.heap.size), .map (some (w.heap.size + 1))] 131)
  rw [e2] at h3
  refine ⟨by simp, ?_, fun j hj => by omega, ?_, ?_, bz3 _ _ _ _⟩
  · rw [h3]
    simp [mm]
  · rw [(bz1 _ _).block _ (by rw [e2]; omega), (bz1 _ _).block _ (by rw [e1]; omega)]
    exact h1
  · rw [(bz1 _ _).block _ (by rw [e2]; omega)]
    exact h2

theorem OpI.store {w wr : World} {b : Nat} (h : OpI w b 4 wr) : StoreAt wr (w.heap.size + 2) b st0 (fun i => w.heap.size ≤ i ∧ i < w.heap.size + 7) := by
  refine ⟨fun k => w.heap.size + 3 + k, w.heap.size, w.heap.size + 1, _, StoreX.zero ?_ (fun k hk => h.maps k hk) h.r h.t (fun j k _ _ e => by omega) ⟨fun k _ => ⟨by omega, by omega⟩, by omega⟩ ⟨by omega, by omega, by omega, fun k hk => by omega⟩ (fun i hi => by rw [h.sz]; omega)⟩
  rw [h.cells]
  simp [mm]

section
variable {w : World} {b : Nat} {d : Dk} {T : Nat → Prop}

/-- What an Open leaves of the disk. -/
def Left (w w' : World) (b : Nat) (d' : Dk) (T : Nat → Prop) (T' : Nat → Prop) : Prop := DiskAt w' b d' T' ∧ (∀ i, T' i → T i ∨ w.heap.size ≤ i) ∧ Turned T w w'

set_option maxHeartbeats 6400000 in
set_option maxRecDepth 100000 in
theorem open_store (hT : DiskAt w b d T) (hok : d.ok) (hw : d.writes ≤ 1000000) :
    Calls Tryz.prog 16 #[.pointer (some ⟨b, 0, none⟩)] w fun e w' => ∃ T', Hid (Left w w' b (sopen d).2.1 T T') ∧
      ((Hid ((sopen d).2.2 = 0) ∧ ∃ s, e = .returned (.tuple #[.pointer (some ⟨s, 0, none⟩), .int .i64 0]) ∧ Hid (∃ S, StoreAt w' s b (sopen d).1 S ∧ ∀ i, S i → w.heap.size ≤ i ∧ ¬ T' i)) ∨
       (∃ r, e = .returned (.tuple #[.pointer none, .int .i64 r]) ∧ Hid ((sopen d).2.2 = r ∧ r ≠ 0))) := by
  obtain ⟨Z, hZ⟩ : ∃ Z, sopen d = Z := ⟨_, rfl⟩
  rw [hZ]
  have H : Hid (DiskAt w b d T ∧ d.ok ∧ d.writes ≤ 1000000 ∧ sopen d = Z) := ⟨hT, hok, hw, hZ⟩
  have hTl := hT.lt
  have hmk := fun W => run_makeMap (P := Tryz.prog) 127 W
  have hmk2 := fun W => run_makeMap (P := Tryz.prog) 128 W
  obtain ⟨W, hW⟩ : ∃ W, ((w.alloc (.map #[] 0)).alloc (.map #[] 0)).alloc (.cells #[.pointer (some ⟨b, 0, none⟩), .map none, .map none, .map none, .map none, .map (some w.heap.size), .map (some (w.heap.size + 1))] 131) = W := ⟨_, rfl⟩
  have I0 : Hid (OpI w b 0 W) := by rw [← hW]; exact OpI.start w b
  have HT : Hid (∀ i, T i → i < w.heap.size) := hTl
  clear hT hok hw hZ hTl
  go_enter Tryz.func16, Tryz.ntmps16
  go_wp2_with fail
  go_loopg [15] 4 (fun m iv wr => ∃ k : Nat, iv = .int .i64 (k : Int) ∧ k + m = 4 ∧ Hid (OpI w b k wr))
  case atStart => exact ⟨0, rfl, by omega, I0⟩
  case round =>
    obtain ⟨k, rfl, hk, I⟩ := hrel
    by_cases hk4 : k < 4
    · have sz := I.out.sz
      have st := I.out.step hk4
      have hc := I.out.cell k hk4
      have h4 : k = 0 ∨ k = 1 ∨ k = 2 ∨ k = 3 := by omega
      rcases h4 with rfl | rfl | rfl | rfl
      all_goals
        obtain ⟨c1, f1⟩ := hc
        simp only [mm, Nat.lt_irrefl, if_false] at c1
        simp only [Nat.add_zero, Nat.reduceAdd] at c1 f1 st sz
        have ST : Hid _ := st
        clear st hk4
        go_wp2
        go_roundg (gk - 1)
        case measure => omega
        case rel => first | exact ⟨1, rfl, by omega, ST⟩ | exact ⟨2, rfl, by omega, ST⟩ | exact ⟨3, rfl, by omega, ST⟩ | exact ⟨4, rfl, by omega, ST⟩
    · obtain rfl : k = 4 := by omega
      have t4 : decide ((4 : Int) < 4) = false := by decide
      have hDs := H.out.1.below I.out.bel
      have hrd := read_at hDs fileN (by decide) (fun bs hb => H.out.2.1.get hb)
      obtain ⟨fl, hfl⟩ : ∃ fl, (fget d.files fileN).getD [] = fl := ⟨_, rfl⟩
      have hlen : fl.length ≤ 262144 := by
        rw [← hfl]
        cases e : fget d.files fileN with
        | none => simp
        | some bs => exact H.out.2.1.get e
      rw [hfl] at hrd
      obtain ⟨g0, hg0⟩ : ∃ g0, (fget d.files fileN).isSome = g0 := ⟨_, rfl⟩
      rw [hg0] at hrd
      have HF : Hid ((fget d.files fileN).getD [] = fl ∧ fl.length ≤ 262144) := ⟨hfl, hlen⟩
      clear hDs hfl hlen hg0
      go_wp2_with fail
      refine hrd.mono ?_
      rintro e w5 ⟨v5, rfl, O5, B5⟩
      obtain ⟨a5, c5, n5, hv5, N5⟩ : ∃ a5 c5 n5, v5 = .slice a5 n5 c5 ∧ Hid (fl.length = n5) := by
        obtain ⟨a2, c2, e, _⟩ := OwnG.form O5
        exact ⟨a2, c2, _, e, rfl⟩
      subst hv5
      have szr := I.out.sz
      have hva : BAt w5 (.slice a5 n5 c5) fl := OwnB.at (OwnG.low O5 (Nat.zero_le _))
      have hnew : NewRow wr a5 n5 := O5.newRow (Nat.le_refl _)
      have hre := read_any (I.out.store.below B5) St.ok0 rfl hva N5.out (by have := N5.out; have := HF.out.2; omega) (fun i q r => by
        obtain ⟨h0, p, hp, rfl⟩ := q
        have := hnew h0 p hp
        omega)
      obtain ⟨stR, hstR⟩ : ∃ stR, (sread st0 fl).1 = stR := ⟨_, rfl⟩
      obtain ⟨gR, hgR⟩ : ∃ gR, (sread st0 fl).2 = gR := ⟨_, rfl⟩
      rw [hstR, hgR] at hre
      have HR : Hid ((sread st0 fl).1 = stR ∧ (sread st0 fl).2 = gR ∧ gR ≤ fl.length) := ⟨hstR, hgR, by rw [← hgR]; exact (sread_ok fl St.ok0 rfl).2.2⟩
      have HB5 : Hid (Below wr.heap.size wr w5) := B5
      clear hva hnew hstR hgR O5 B5 hrd szr
      go_wp2_with fail
      refine hre.mono ?_
      rintro e w6 ⟨g6, rfl, R6⟩
      have eg : g6 = gR := R6.out.1
      subst eg
      clear hre
      have szr := I.out.sz
      have bel5 : Below w.heap.size w w5 := I.out.bel.trans (HB5.out.mono I.out.bel.size)
      have D6 : DiskAt w6 b d T := (H.out.1.below bel5).stays R6.out.2.2.1 (fun i hi q => by have := HT.out i hi; omega)
      have t6 : Turned T w w6 := by
        have : Below w.heap.size w5 w6 := R6.out.2.2.1.below bel5.size (fun k hk q => by omega)
        exact Turned.ofBelow (S := T) (bel5.trans this)
      have s6 : ∀ i, Since (fun i => w.heap.size ≤ i ∧ i < w.heap.size + 7) w5 w6 i → w.heap.size ≤ i := fun i q => q.elim (fun q => q.1) (fun q => Nat.le_trans bel5.size q.1)
      have G6 : Hid (DiskAt w6 b d T ∧ Turned T w w6 ∧ StoreAt w6 (w.heap.size + 2) b stR (Since (fun i => w.heap.size ≤ i ∧ i < w.heap.size + 7) w5 w6) ∧ ∀ i, Since (fun i => w.heap.size ≤ i ∧ i < w.heap.size + 7) w5 w6 i → w.heap.size ≤ i) := ⟨D6, t6, R6.out.2.1, s6⟩
      clear szr bel5 D6 t6 s6 R6
      by_cases hlt : g6 < n5
      · have tl : (g6 : Int) < (n5 : Int) := by omega
        have htr := trim_at G6.out.1 H.out.2.1 (by have := H.out.2.2.1; omega) fileN (by decide) (g6 : Int)
        obtain ⟨d7, hd7⟩ : ∃ d7, (dtrim d fileN (g6 : Int)).1 = d7 := ⟨_, rfl⟩
        obtain ⟨cd, hcd⟩ : ∃ cd, (dtrim d fileN (g6 : Int)).2 = cd := ⟨_, rfl⟩
        rw [hd7, hcd] at htr
        have ez : Z = (if cd = 0 then stR else st0, d7, cd) := by
          rw [← H.out.2.2.2]
          unfold sopen ofile
          rw [HF.out.1, HR.out.2.1, if_pos (by rw [N5.out]; exact hlt), hd7, hcd, HR.out.1]
        have EZ : Hid (Z = (if cd = 0 then stR else st0, d7, cd)) := ez
        clear hd7 hcd ez hlt
        go_wp2_with fail
        refine htr.mono ?_
        rintro e w7 ⟨r7, rfl, hr7, D7, T7⟩
        have er : r7 = cd := hr7.out
        subst er
        have LL : Hid (Left w w7 b d7 T (Since T w6 w7)) := ⟨D7, fun i q => q.elim .inl (fun q => .inr (Nat.le_trans G6.out.2.1.size q.1)), G6.out.2.1.trans T7 (fun _ _ q => q)⟩
        have SS : Hid (StoreAt w7 (w.heap.size + 2) b stR (Since (fun i => w.heap.size ≤ i ∧ i < w.heap.size + 7) w5 w6) ∧ ∀ i, Since (fun i => w.heap.size ≤ i ∧ i < w.heap.size + 7) w5 w6 i → w.heap.size ≤ i ∧ ¬ (Since T w6 w7) i) := by
          refine ⟨G6.out.2.2.1.stays T7 (fun i hi q => ?_), fun i hi => ⟨G6.out.2.2.2 i hi, fun q => ?_⟩⟩
          · have := G6.out.2.2.2 i hi
            have := HT.out i q
            omega
          · rcases q with q | q
            · have := G6.out.2.2.2 i hi
              have := HT.out i q
              omega
            · have := G6.out.2.2.1.lt i hi
              omega
        clear hr7 D7 T7 htr
        by_cases hz : r7 = 0
        · subst hz
          go_wp2
          refine bodyPost_ret (results_tmp2 rfl _ _ _) rfl ?_
          rw [EZ.out]
          exact ⟨_, LL, .inl ⟨rfl, _, rfl, _, SS.out⟩⟩
        · have m0 : (r7 != 0) = true := by simpa using hz
          go_wp2
          refine bodyPost_ret (results_tmp2 rfl _ _ _) rfl ?_
          rw [EZ.out]
          exact ⟨_, LL, .inr ⟨_, rfl, rfl, hz⟩⟩
      · have tl : decide ((g6 : Int) < (n5 : Int)) = false := by rw [decide_eq_false_iff_not]; omega
        have ez : Z = (stR, d, 0) := by
          rw [← H.out.2.2.2]
          unfold sopen ofile
          rw [HF.out.1, HR.out.2.1, if_neg (by rw [N5.out]; exact hlt), HR.out.1]
        have EZ : Hid (Z = (stR, d, 0)) := ez
        clear ez
        have tl2 : ¬ (g6 : Int) < (n5 : Int) := by omega
        go_wp2
        refine bodyPost_ret (results_tmp2 rfl _ _ _) rfl ?_
        rw [EZ.out]
        refine ⟨T, ⟨G6.out.1, fun i q => .inl q, G6.out.2.1⟩, .inl ⟨rfl, _, rfl, _, G6.out.2.2.1, fun i hi => ⟨G6.out.2.2.2 i hi, fun q => ?_⟩⟩⟩
        have := G6.out.2.2.2 i hi
        have := HT.out i q
        omega

end

end Go.Proofs.YtikgbjjgpgjmfaaGreat
