/-
  The statements' Tells: of a disk and the document's disk that is the same it returns true, and turns nothing that was there. No condition but that the disk is one that calls have made.
-/
import Derived.Test.YtlhlipjbcapidaaParts
import Derived.Test.YtlhlipjbcapidaaGClass
namespace Go.Proofs.Ytlhlipjbcapidaa
open Go.RowKit

theorem byte_at {w : World} {base g n cap : Nat} {bs : Bs} (h : OwnG encB 5 w base (.slice (some ⟨g, 0, none⟩) n cap) bs) {i : Nat} (hi : i < bs.length) :
    ∃ y : UInt8, bs[i]? = some y ∧ w.cell? ⟨g, i, none⟩ = some (.int .u8 (y.toNat : Int)) ∧ w.frozen? ⟨g, i, none⟩ = false := by
  have hn : bs.length = n := own_len h
  subst hn
  have h' : w.ownsRow base 5 1 (.slice (some ⟨g, 0, none⟩) bs.length cap) bs.length (encB.all bs) := h
  refine ⟨bs[i], List.getElem?_eq_getElem hi, ?_, h'.frozenAt _⟩
  rw [h'.cellAt _ (by rw [Nat.mul_one]; exact hi)]
  have := encB.all_get bs i 0 bs[i] (List.getElem?_eq_getElem hi) (by decide)
  rw [show i * encB.size + 0 = i from (by show i * 1 + 0 = i; omega)] at this
  rw [this]
  rfl

theorem byte_put {w : World} {base g n cap : Nat} {bs : Bs} (h : OwnG encB 5 w base (.slice (some ⟨g, 0, none⟩) n cap) bs) {i : Nat} (hi : i < bs.length) (y : UInt8) :
    OwnG encB 5 (w.setCell ⟨g, i, none⟩ (.int .u8 (y.toNat : Int))) base (.slice (some ⟨g, 0, none⟩) n cap) (bs.set i y) := by
  have := OwnG.put h (i := i) (j := 0) (List.getElem?_eq_getElem hi) (by decide) y (.int .u8 (y.toNat : Int)) (by simp [encB])
  rw [show i * encB.size + 0 = i from (by show i * 1 + 0 = i; omega)] at this
  exact this

/-- Raised by one. -/
theorem byte_up (y : UInt8) : ((y + 1).toNat : Int) = ((y.toNat : Int) + 1) % 256 := by
  rw [UInt8.toNat_add]
  simp

theorem no_file {d : Dk} (hk : d.ok) : fget d.files [110, 111, 32, 102, 105, 108, 101] = none := by
  rw [fget_none]
  intro f hf e
  have := (hk.each f hf).1
  rw [e] at this
  revert this
  decide

theorem name_short {d : Dk} (hk : d.ok) {i : Nat} {n v : Bs} (h : d.files[i]? = some (n, v)) : n.length ≤ 1000000 ∧ v.length ≤ 262144 := by
  have hm := List.mem_of_getElem? h
  have h1 := hk.each _ hm
  have h2 := h1.1
  simp only [isName, Bool.and_eq_true, decide_eq_true_eq] at h2
  have := h2.1.2
  exact ⟨by omega, h1.2⟩

theorem rise_get {l : Fs} (h : FRise l) {i : Nat} {n v : Bs} (hi : l[i]? = some (n, v)) : fget l n = some v := by
  refine fget_first (i := i) (fun j hj m u hm e => ?_) hi
  have := List.pairwise_iff_getElem.1 h
  obtain ⟨h1, e1⟩ := List.getElem?_eq_some_iff.1 hm
  obtain ⟨h2, e2⟩ := List.getElem?_eq_some_iff.1 hi
  have := this j i h1 h2 hj
  rw [e1, e2] at this
  simp only at this
  rw [e] at this
  exact fs_irrefl _ this

/-- A world that has grown. -/
def Grew (w u : World) : Prop := Below w.heap.size w u

section
variable {S : Nat → Prop} {w : World} {b : Nat} {d : Dk}

/-- How the names stand in the round i: those from i on are still there. -/
def Names (L i : Nat) (fs : Fs) (ls : List Bs) : Prop := ls.length = L ∧ ∀ j n v, i ≤ j → fs[j]? = some (n, v) → ls[j]? = some n

theorem Names.start {fs : Fs} {L : Nat} (h : fs.length = L) : Names L 0 fs (fs.map (·.1)) := ⟨by simpa using h, fun j n v _ hj => by rw [List.getElem?_map, hj]; rfl⟩
theorem Names.put {L i : Nat} {fs : Fs} {ls : List Bs} (h : Names L i fs ls) (y : Bs) : Names L (i + 1) fs (ls.set i y) := ⟨by simpa using h.1, fun j n v hj e => by rw [List.getElem?_set_ne (by omega)]; exact h.2 j n v (by omega) e⟩

set_option maxHeartbeats 3200000 in
set_option maxRecDepth 100000 in
theorem tells_walk (h : DiskAt w b d S) (hk : d.ok) {ao : Option Addr} {L c : Nat} (hL : d.files.length = L) (hR : RdG encF w ao d.files) :
    Calls Try.prog 10 #[.pointer (some ⟨b, 0, none⟩), rv ao L c d] w fun e w' => e = .returned (.bool true) ∧ Below w.heap.size w w' := by
  obtain ⟨W, hW⟩ : ∃ W, w.alloc (.cells #[.slice ao L c, .int .i64 (d.writes : Int), .bool d.armed, .bool d.dead, .int .i64 (d.after : Int), .int .i64 (d.keep : Int)] 28) = W := ⟨_, rfl⟩
  have B0 : Below w.heap.size w W := by rw [← hW]; exact bz1 _ _
  have T : Six W w.heap.size (.slice ao L c) (.int .i64 (d.writes : Int)) (.bool d.armed) (.bool d.dead) (.int .i64 (d.after : Int)) (.int .i64 (d.keep : Int)) := by rw [← hW]; exact Six.new w _ _ _ _ _ _
  have hl : L ≤ 1000 := by have := hk.few; omega
  have H : Hid (Below w.heap.size w W ∧ Six W w.heap.size (.slice ao L c) (.int .i64 (d.writes : Int)) (.bool d.armed) (.bool d.dead) (.int .i64 (d.after : Int)) (.int .i64 (d.keep : Int)) ∧ RdG encF W ao d.files ∧ d.files.length = L ∧ DiskAt W b d S ∧ d.ok) := ⟨B0, T, hR.below B0, hL, h.below B0, hk⟩
  clear hR hL B0 T h hk
  have hnm := names_at H.out.2.2.2.2.1 H.out.2.2.2.2.2.rise H.out.2.2.2.2.2.few
  go_enter Try.func10, Try.ntmps10
  go_wp2_with fail
  refine hnm.mono ?_
  rintro e w1 ⟨lv, rfl, O1, B1⟩
  obtain ⟨la, lc, rfl, hc1, hc2, R1⟩ := O1.form
  have hll : (d.files.map (·.1)).length = L := by rw [List.length_map]; exact H.out.2.2.2.1
  rw [hll] at O1 hc1 ⊢
  have N1 : Hid (Own w1 W.heap.size (.slice la L lc) (d.files.map (·.1)) ∧ Below W.heap.size W w1) := ⟨O1, B1⟩
  clear O1 B1 R1 hnm hll
  have NE : Nonempty (SW (Grew w1)) := ⟨⟨w1, Below.refl _ _⟩⟩
  have sx := (H.out.2.1.below N1.out.2)
  have x0 : ∀ u : SW (Grew w1), u.w.cell? ⟨w.heap.size, 0, none⟩ = some (.slice ao L c) := fun u => (sx.below u.ok).cells.1
  have x1 : ∀ u : SW (Grew w1), u.w.cell? ⟨w.heap.size, 1, none⟩ = some (.int .i64 (d.writes : Int)) := fun u => (sx.below u.ok).cells.2.1
  have x3 : ∀ u : SW (Grew w1), u.w.cell? ⟨w.heap.size, 3, none⟩ = some (.bool d.dead) := fun u => (sx.below u.ok).cells.2.2.2.1
  have dd : ∀ u : SW (Grew w1), Calls Try.prog 18 #[.pointer (some ⟨b, 0, none⟩)] u.w fun e w' => e = .returned (.bool d.dead) ∧ ∃ u' : SW (Grew w1), w' = u'.w := fun u => (dead_at ((H.out.2.2.2.2.1.below N1.out.2).below u.ok)).mono (fun e w' h => ⟨h.1, u, h.2⟩)
  have dw : ∀ u : SW (Grew w1), Calls Try.prog 23 #[.pointer (some ⟨b, 0, none⟩)] u.w fun e w' => e = .returned (.int .i64 (d.writes : Int)) ∧ ∃ u' : SW (Grew w1), w' = u'.w := fun u => (writes_at ((H.out.2.2.2.2.1.below N1.out.2).below u.ok)).mono (fun e w' h => ⟨h.1, u, h.2⟩)
  clear sx
  go_upto_region 2 with fail
  refine wp_region_class (S := Grew w1) (by kernel_rfl) (by kernel_rfl) (Below.refl _ w1).drew ?_
  repeat (go_big_quiet_step (first | with_reducible exact dd _ | with_reducible exact dw _))
  refine wpQuiet_nil ?_
  intro _ hw'
  obtain ⟨u, hw''⟩ := hw'
  subst hw''
  have N2 : Hid (Own u.w W.heap.size (.slice la L lc) (d.files.map (·.1)) ∧ Below W.heap.size W u.w) := ⟨N1.out.1.below u.ok, N1.out.2.trans (u.ok.mono N1.out.2.size)⟩
  obtain ⟨w2, hw2⟩ : ∃ w2, w2 = u.w := ⟨_, rfl⟩
  rw [← hw2] at N2 ⊢
  clear hw2 x0 x1 x3 dd dw NE N1 u
  go_wp2_with fail
  go_loopg [6] L (fun k iv wr => ∃ (i : Nat) (ls : List Bs), iv = .int .i64 i ∧ i + k = L ∧ Hid (Own wr W.heap.size (.slice la L lc) ls ∧ Names L i d.files ls ∧ Below W.heap.size W wr))
  case atStart => exact ⟨0, _, rfl, by omega, N2.out.1, Names.start H.out.2.2.2.1, N2.out.2⟩
  case round =>
    obtain ⟨i, ls, rfl, hi, HR⟩ := hrel
    obtain ⟨wo, hwo⟩ : ∃ wo, wo = wr := ⟨_, rfl⟩
    subst hwo
    obtain ⟨ok, hok⟩ : ∃ ok, ok = gk := ⟨_, rfl⟩
    subst hok
    by_cases hin : i < L
    · have id : (i : Int) < (L : Int) := by omega
      obtain ⟨n, v, hnv⟩ := get_fs H.out.2.2.2.1 hin
      have hg := rise_get H.out.2.2.2.2.2.rise hnv
      have hs := name_short H.out.2.2.2.2.2 hnv
      have hln := HR.out.2.1.2 i n v (Nat.le_refl _) hnv
      obtain ⟨hil, hle⟩ := List.getElem?_eq_some_iff.1 hln
      have F := own_form HR.out.1
      rw [HR.out.2.1.1] at F
      obtain ⟨la', lc', e', _, _, hgg⟩ := F
      cases e'
      obtain ⟨g, rfl⟩ := hgg (by omega)
      have hel : el ls i = n := by rw [el_get hil]; exact hle
      have kl := own_at HR.out.1 hil
      rw [hel] at kl
      have hgW : W.heap.size ≤ g := (HR.out.1.lt g rfl).1
      have hgw : g < wo.heap.size := (HR.out.1.lt g rfl).2
      have hrd := read_at (H.out.2.2.2.2.1.below HR.out.2.2) n (by simp only [maxLen]; omega) (fun bs hb => H.out.2.2.2.2.2.get hb)
      rw [hg] at hrd
      have KL : Hid (wo.cell? ⟨g, i, none⟩ = some (tx n)) := kl.1
      have kl1 := kl.1
      obtain ⟨fb, fo, rfl, hfl, hfc⟩ := H.out.2.2.1 (by rw [H.out.2.2.2.1]; omega)
      have kf := RdG.files (fun _ => ⟨fb, fo, rfl, hfl, hfc⟩) hnv
      have HF : Hid (W.cell? ⟨fb, fo + i * 2, none⟩ = some (tx n) ∧ W.cell? ⟨fb, fo + i * 2 + 1, none⟩ = some (tx v) ∧ fb < W.heap.size ∧ fget d.files n = some v ∧ d.files[i]? = some (n, v) ∧ v.length ≤ 262144 ∧ n.length ≤ 1000000) := ⟨kf.1, kf.2, hfl, hg, hnv, hs.2, hs.1⟩
      clear hg hnv hs hln hle hel kl hfc kf hgg hil
      go_wp2_with fail
      refine hrd.mono ?_
      rintro e w3 ⟨v1, rfl, O3, B3⟩
      obtain ⟨a3, c3, rfl, _, _, _, hb3⟩ := OwnG.form O3
      rw [show (some v : Option Bs).getD [] = v from rfl] at O3 hb3 ⊢
      obtain ⟨vl, hvl⟩ : ∃ vl, v.length = vl := ⟨_, rfl⟩
      rw [hvl] at O3 hb3 ⊢
      have N3 : Hid (OwnG encB 5 w3 wo.heap.size (.slice a3 vl c3) v ∧ Below wo.heap.size wo w3 ∧ v.length = vl ∧ (0 < vl → ∃ g, a3 = some ⟨g, 0, none⟩)) := ⟨O3, B3, hvl, hb3⟩
      have hvb : vl ≤ 262144 := by rw [← hvl]; exact HF.out.2.2.2.2.2.1
      clear hrd O3 B3 kl1 hb3 hvl
      have NE : Nonempty (SW (Grew w3)) := ⟨⟨w3, Below.refl _ _⟩⟩
      have bW : ∀ u : SW (Grew w3), Below W.heap.size W u.w := fun u => by
        have b1 := HR.out.2.2.trans (N3.out.2.1.mono HR.out.2.2.size)
        exact b1.trans (u.ok.mono b1.size)
      have x0 : ∀ u : SW (Grew w3), u.w.cell? ⟨w.heap.size, 0, none⟩ = some (.slice (some ⟨fb, fo, none⟩) L c) := fun u => (H.out.2.1.below (bW u)).cells.1
      have y0 : ∀ u : SW (Grew w3), u.w.cell? ⟨g, i, none⟩ = some (tx n) := fun u => ((N3.out.2.1.trans (u.ok.mono N3.out.2.1.size)).cell (p := ⟨g, i, none⟩) hgw).trans KL.out
      have z0 : ∀ u : SW (Grew w3), u.w.cell? ⟨fb, fo + i * 2, none⟩ = some (tx n) := fun u => ((bW u).cell (p := ⟨fb, fo + i * 2, none⟩) HF.out.2.2.1).trans HF.out.1
      have z1 : ∀ u : SW (Grew w3), u.w.cell? ⟨fb, fo + i * 2 + 1, none⟩ = some (tx v) := fun u => ((bW u).cell (p := ⟨fb, fo + i * 2 + 1, none⟩) HF.out.2.2.1).trans HF.out.2.1
      have hcs : ∀ u : SW (Grew w3), (convert 31 9 (.slice a3 vl c3)).run Try.prog u.w = .ok (tx v) u.w := fun u => conv_str (OwnB.at (OwnG.low (N3.out.1.below u.ok) (Nat.zero_le _)))
      clear bW
      go_upto_region 8 with fail
      refine wp_region_class (S := Grew w3) (by kernel_rfl) (by kernel_rfl) (Below.refl _ w3).drew ?_
      repeat (go_big_quiet_step (fail))
      refine wpQuiet_nil ?_
      intro _ hw'
      obtain ⟨u, hw''⟩ := hw'
      subst hw''
      have N4 : Hid (OwnG encB 5 u.w wo.heap.size (.slice a3 vl c3) v ∧ Below wo.heap.size wo u.w) := ⟨N3.out.1.below u.ok, N3.out.2.1.trans (u.ok.mono N3.out.2.1.size)⟩
      obtain ⟨w4, hw4⟩ : ∃ w4, w4 = u.w := ⟨_, rfl⟩
      rw [← hw4] at N4 ⊢
      clear hw4 x0 y0 z0 z1 hcs NE u
      go_wp2_with fail
      go_loopg [9] vl (fun k jv wq => ∃ (j : Nat) (bs : Bs), jv = .int .i64 j ∧ j + k = vl ∧ Hid (OwnG encB 5 wq wo.heap.size (.slice a3 vl c3) bs ∧ Below wo.heap.size wo wq))
      case atStart => exact ⟨0, v, rfl, by omega, N4.out⟩
      case round =>
        obtain ⟨j, bs, rfl, hj, HQ⟩ := hrel
        by_cases hjn : j < vl
        · have jd : (j : Int) < (vl : Int) := by omega
          obtain ⟨h3, rfl⟩ := N3.out.2.2.2 (by omega)
          have hbl : bs.length = vl := own_len HQ.out.1
          obtain ⟨y, hy, ky, fy⟩ := byte_at HQ.out.1 (i := j) (by omega)
          clear hy
          go_wp2
          go_roundg (gk - 1)
          case measure => omega
          case rel =>
            have hge : wo.heap.size ≤ h3 := (HQ.out.1.lt h3 rfl).1
            refine ⟨j + 1, bs.set j (y + 1), by go_num, by omega, ?_, HQ.out.2.trans ((turned_set j _).below HQ.out.2.size (fun k hk q => by omega))⟩
            rw [← byte_up]
            exact byte_put HQ.out.1 (by omega) (y + 1)
        · obtain rfl : j = vl := by omega
          have BQ : Hid (Below W.heap.size W wr) := HR.out.2.2.trans (HQ.out.2.mono HR.out.2.2.size)
          have OQ := HR.out.1.below HQ.out.2
          obtain ⟨cl, fl⟩ := own_at OQ (i := i) (by rw [HR.out.2.1.1]; exact hin)
          have HO : Hid (Own wr W.heap.size (.slice (some ⟨g, 0, none⟩) L lc) ls) := OQ
          clear OQ
          go_wp2
          go_roundg (ok - 1)
          case measure => omega
          case rel => exact ⟨i + 1, ls.set i [109, 97, 114, 107, 101, 100], by go_num, by omega, own_put HO.out i _, HR.out.2.1.put _, BQ.out.trans ((turned_set i _).below BQ.out.size (fun k hk q => by omega))⟩
    · obtain rfl : i = L := by omega
      have hrd := read_at (H.out.2.2.2.2.1.below HR.out.2.2) [110, 111, 32, 102, 105, 108, 101] (by simp [maxLen]) (fun bs hb => H.out.2.2.2.2.2.get hb)
      rw [no_file H.out.2.2.2.2.2] at hrd
      go_wp2_with fail
      refine hrd.mono ?_
      rintro e w3 ⟨v1, rfl, O3, B3⟩
      obtain ⟨a3, c3, rfl, _, _, _, _⟩ := OwnG.form O3
      have BB : Hid (Below w.heap.size w w3) := by
        have b1 := H.out.1.trans (HR.out.2.2.mono H.out.1.size)
        exact b1.trans (B3.mono b1.size)
      clear O3 B3 hrd
      go_wp2
      go_ret
      exact ⟨rfl, BB.out⟩
end
end Go.Proofs.Ytlhlipjbcapidaa
