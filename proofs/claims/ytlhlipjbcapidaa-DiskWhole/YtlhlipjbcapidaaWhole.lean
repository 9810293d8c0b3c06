/-
  DiskWhole's walk: whatever is handed in, it returns true and turns nothing that was there. No condition but that what is handed in is no longer than any memory holds.
-/
import Derived.Test.YtlhlipjbcapidaaHeld
namespace Go.Proofs.Ytlhlipjbcapidaa
open Go.RowKit

/-- What a raw write that lays no bytes answers where the power goes off: it is refused, or nothing has changed. -/
def Off (E : Dk) (k : Nat) (p : Dk × Int) : Prop := (p.1 = doff E k ∧ p.2 = 8) ∨ (p.1 = dcut0 E k ∧ p.2 ≠ 0 ∧ p.2 ≠ 8)

theorem Off.no {E : Dk} {k : Nat} {c : Int} (h1 : c ≠ 0) (h2 : c ≠ 8) : Off E k (dcut0 E k, c) := .inr ⟨rfl, h1, h2⟩

theorem off_trim (E : Dk) (k : Nat) (n : Bs) (z : Int) : Off E k (dtrim (dcut0 E k) n z) := by
  unfold dtrim
  rw [dnext_off]
  split
  · exact Off.no (by decide) (by decide)
  · split
    · exact Off.no (by decide) (by decide)
    · split
      · exact Off.no (by decide) (by decide)
      · exact .inl ⟨rfl, rfl⟩
theorem off_ren (E : Dk) (k : Nat) (n t : Bs) : Off E k (dren (dcut0 E k) n t) := by
  unfold dren
  rw [dnext_off]
  split
  · exact Off.no (by decide) (by decide)
  · split
    · exact Off.no (by decide) (by decide)
    · exact .inl ⟨rfl, rfl⟩
theorem off_rem (E : Dk) (k : Nat) (n : Bs) : Off E k (drem (dcut0 E k) n) := by
  unfold drem
  rw [dnext_off]
  split
  · exact Off.no (by decide) (by decide)
  · split
    · exact Off.no (by decide) (by decide)
    · exact .inl ⟨rfl, rfl⟩

theorem doff_ok {D : Dk} (h : D.ok) (k : Nat) : (doff D k).ok := ⟨h.rise, h.few, h.each, by show (0 : Nat) < _; decide⟩

/-- The disk ahead of a round. -/
def WI (w0 wr : World) (b : Nat) (F : Fs) : Prop := ∃ E : Dk, Held w0.heap.size w0 wr b (dres E) [] ∧ E.ok ∧ E.writes ≤ 1000000 ∧ E.files = F

set_option maxHeartbeats 6400000 in
set_option maxRecDepth 100000 in
theorem whole_walk (so : Option Addr) (n sc : Nat) (xs : List AV) (nm tt : Bs) (z keep : Int) (W : World) (hl : xs.length = n) (hn : n ≤ 4611686018427387904) (hr : RdG encA W so xs) (ha : ∀ a ∈ xs, ActIn W a) (h1 : nm.length ≤ 140737488355328) (h2 : tt.length ≤ 140737488355328) (hkr : keep ≤ 9223372036854775807) :
    Calls Try.prog 5 #[.slice so n sc, tx nm, tx tt, .int .i64 z, .int .i64 keep] W fun e w' => e = .returned (.bool true) ∧ Below W.heap.size W w' := by
  have H : Hid (xs.length = n ∧ n ≤ 4611686018427387904 ∧ RdG encA W so xs ∧ ∀ a ∈ xs, ActIn W a) := ⟨hl, hn, hr, ha⟩
  obtain ⟨k, hk, hk63⟩ : ∃ k : Nat, max keep 0 = (k : Int) ∧ (k : Int) ≤ 9223372036854775807 := ⟨(max keep 0).toNat, by omega, by omega⟩
  clear hl hn hr ha
  go_enter Try.func5, Try.ntmps5
  go_wp2_with fail
  refine (awake_walk W).mono ?_
  rintro e w0 ⟨rfl, B0⟩
  have HB : Hid (Below W.heap.size W w0) := B0
  clear B0
  go_wp2_with fail
  refine (built_walk so n sc xs w0 H.out.1 H.out.2.1 (H.out.2.2.1.below HB.out) (fun a ha => by
    obtain ⟨data, q⟩ := (H.out.2.2.2 a ha).at HB.out (S := fun _ => False) (fun _ q => q.elim)
    exact ⟨data, q⟩)).mono ?_
  rintro e w1 ⟨b, rfl, M1⟩
  obtain ⟨D, M1, ok1, wr1⟩ := M1.out
  have HM : Hid (Held w0.heap.size w0 w1 b D [] ∧ D.ok ∧ D.writes ≤ 200) := ⟨Held.of M1, ok1, wr1⟩
  clear M1 ok1 wr1
  go_wp2_with fail
  refine (hres HM.out.1 (Nat.le_refl _)).mono ?_
  rintro e w2 ⟨rfl, M2⟩
  go_wp2_with fail
  refine (hdata M2.out (Nat.le_refl _) (ok_res HM.out.2.1)).mono ?_
  rintro e w3 ⟨rfl, M3⟩
  obtain ⟨F, hF⟩ : ∃ F, D.files = F := ⟨_, rfl⟩
  have e0 : (dres D).files = F := hF
  rw [e0]
  have W3 : Hid (WI w0 w3 b F) := ⟨D, M3.out, HM.out.2.1, by have := HM.out.2.2; omega, hF⟩
  clear M2 M3 HM e0 hF hk
  go_wp2_with fail
  go_loopg [14, 15] 3 (fun m iv _ wr => ∃ i : Nat, iv = .int .i64 i ∧ i + m = 3 ∧ Hid (WI w0 wr b F))
  case atStart => exact ⟨0, rfl, by omega, W3⟩
  case round =>
    obtain ⟨i, rfl, hi, HR⟩ := hrel
    by_cases hin : i < 3
    · have id : (i : Int) < 3 := by omega
      obtain ⟨E, HE, okE, wrE, flE⟩ := HR.out
      have H2 : Hid (E.ok ∧ E.writes ≤ 1000000 ∧ E.files = F) := ⟨okE, wrE, flE⟩
      have hc := hcut HE (Nat.le_refl _) (x := 0) (y := (k : Int)) (by omega) (by omega) _ (dcut0_eq E k)
      clear HE okE wrE flE
      have trim := fun u (hu : Held w0.heap.size w0 u b (dcut0 E k) []) => htrim hu (Nat.le_refl _) (dcut0_ok H2.out.1 k) H2.out.2.1 nm h1 z _ rfl
      have ren := fun u (hu : Held w0.heap.size w0 u b (dcut0 E k) []) => hren hu (Nat.le_refl _) (dcut0_ok H2.out.1 k) H2.out.2.1 nm tt h1 h2 _ rfl
      have rem := fun u (hu : Held w0.heap.size w0 u b (dcut0 E k) []) => hrem hu (Nat.le_refl _) (dcut0_ok H2.out.1 k) H2.out.2.1 nm h1 _ rfl
      have o1 := off_trim E k nm z
      have o2 := off_ren E k nm tt
      have o3 := off_rem E k nm
      obtain ⟨p1, hp1⟩ : ∃ p, dtrim (dcut0 E k) nm z = p := ⟨_, rfl⟩
      obtain ⟨p2, hp2⟩ : ∃ p, dren (dcut0 E k) nm tt = p := ⟨_, rfl⟩
      obtain ⟨p3, hp3⟩ : ∃ p, drem (dcut0 E k) nm = p := ⟨_, rfl⟩
      rw [hp1] at trim o1
      rw [hp2] at ren o2
      rw [hp3] at rem o3
      have HO : Hid (Off E k p1 ∧ Off E k p2 ∧ Off E k p3) := ⟨o1, o2, o3⟩
      clear hp1 hp2 hp3 o1 o2 o3
      have fin : ∀ (p : Dk × Int), Off E k p → (p.2 = 8 ∧ p.1.dead = true ∨ (p.2 ≠ 0 ∧ p.2 ≠ 8 ∧ p.1.dead = false)) ∧ p.1.ok ∧ p.1.files = F ∧ p.1.writes ≤ 1000000 := by
        rintro p (⟨q1, q2⟩ | ⟨q1, q2, q3⟩)
        · rw [q1]
          exact ⟨.inl ⟨q2, rfl⟩, doff_ok H2.out.1 k, H2.out.2.2, H2.out.2.1⟩
        · rw [q1]
          exact ⟨.inr ⟨q2, q3, rfl⟩, dcut0_ok H2.out.1 k, H2.out.2.2, H2.out.2.1⟩
      have HFin : Hid _ := fin
      clear fin
      go_wp2_with fail
      refine hc.mono ?_
      rintro e w4 ⟨rfl, M4⟩
      clear hc
      have h3 : i = 0 ∨ i = 1 ∨ i = 2 := by omega
      rcases h3 with rfl | rfl | rfl
      · go_wp2_with fail
        refine (trim w4 M4.out).mono ?_
        rintro e w5 ⟨rfl, M5⟩
        obtain ⟨hcase, okp, flp, wrp⟩ := HFin.out p1 HO.out.1
        have HP : Hid (p1.1.ok ∧ p1.1.files = F ∧ p1.1.writes ≤ 1000000) := ⟨okp, flp, wrp⟩
        obtain ⟨c, hc⟩ : ∃ c, p1.2 = c := ⟨_, rfl⟩
        rw [hc] at hcase ⊢
        have hdd := hdead M5.out
        clear okp flp wrp trim ren rem
        rcases hcase with ⟨rfl, hd⟩ | ⟨n0, n8, hd⟩
        · rw [hd] at hdd
          go_wp2_with fail
          refine hdd.mono ?_
          rintro e w6 ⟨rfl, hw6⟩
          rw [hw6]
          clear hw6 w6
          go_wp2_with fail
          refine (hdata M5.out (Nat.le_refl _) HP.out.1).mono ?_
          rintro e w6 ⟨rfl, M6⟩
          rw [HP.out.2.1]
          go_wp2_with fail
          refine (hres M6.out (Nat.le_refl _)).mono ?_
          rintro e w7 ⟨rfl, M7⟩
          have W7 : Hid (WI w0 w7 b F) := ⟨_, M7.out, HP.out.1, HP.out.2.2, HP.out.2.1⟩
          clear M5 M6 M7
          go_wp2
          go_roundg (gk - 1)
          case measure => omega
          case rel => exact ⟨1, by go_num, by omega, W7⟩
        · have m0 : (c == 0) = false := by simpa using n0
          have m8 : (c == 8) = false := by simpa using n8
          rw [hd] at hdd
          go_wp2_with fail
          refine hdd.mono ?_
          rintro e w6 ⟨rfl, hw6⟩
          rw [hw6]
          clear hw6 w6
          go_wp2_with fail
          refine (hdata M5.out (Nat.le_refl _) HP.out.1).mono ?_
          rintro e w6 ⟨rfl, M6⟩
          rw [HP.out.2.1]
          go_wp2_with fail
          refine (hres M6.out (Nat.le_refl _)).mono ?_
          rintro e w7 ⟨rfl, M7⟩
          have W7 : Hid (WI w0 w7 b F) := ⟨_, M7.out, HP.out.1, HP.out.2.2, HP.out.2.1⟩
          clear M5 M6 M7
          go_wp2
          go_roundg (gk - 1)
          case measure => omega
          case rel => exact ⟨1, by go_num, by omega, W7⟩
      · go_wp2_with fail
        refine (ren w4 M4.out).mono ?_
        rintro e w5 ⟨rfl, M5⟩
        obtain ⟨hcase, okp, flp, wrp⟩ := HFin.out p2 HO.out.2.1
        have HP : Hid (p2.1.ok ∧ p2.1.files = F ∧ p2.1.writes ≤ 1000000) := ⟨okp, flp, wrp⟩
        obtain ⟨c, hc⟩ : ∃ c, p2.2 = c := ⟨_, rfl⟩
        rw [hc] at hcase ⊢
        have hdd := hdead M5.out
        clear okp flp wrp trim ren rem
        rcases hcase with ⟨rfl, hd⟩ | ⟨n0, n8, hd⟩
        · rw [hd] at hdd
          go_wp2_with fail
          refine hdd.mono ?_
          rintro e w6 ⟨rfl, hw6⟩
          rw [hw6]
          clear hw6 w6
          go_wp2_with fail
          refine (hdata M5.out (Nat.le_refl _) HP.out.1).mono ?_
          rintro e w6 ⟨rfl, M6⟩
          rw [HP.out.2.1]
          go_wp2_with fail
          refine (hres M6.out (Nat.le_refl _)).mono ?_
          rintro e w7 ⟨rfl, M7⟩
          have W7 : Hid (WI w0 w7 b F) := ⟨_, M7.out, HP.out.1, HP.out.2.2, HP.out.2.1⟩
          clear M5 M6 M7
          go_wp2
          go_roundg (gk - 1)
          case measure => omega
          case rel => exact ⟨2, by go_num, by omega, W7⟩
        · have m0 : (c == 0) = false := by simpa using n0
          have m8 : (c == 8) = false := by simpa using n8
          rw [hd] at hdd
          go_wp2_with fail
          refine hdd.mono ?_
          rintro e w6 ⟨rfl, hw6⟩
          rw [hw6]
          clear hw6 w6
          go_wp2_with fail
          refine (hdata M5.out (Nat.le_refl _) HP.out.1).mono ?_
          rintro e w6 ⟨rfl, M6⟩
          rw [HP.out.2.1]
          go_wp2_with fail
          refine (hres M6.out (Nat.le_refl _)).mono ?_
          rintro e w7 ⟨rfl, M7⟩
          have W7 : Hid (WI w0 w7 b F) := ⟨_, M7.out, HP.out.1, HP.out.2.2, HP.out.2.1⟩
          clear M5 M6 M7
          go_wp2
          go_roundg (gk - 1)
          case measure => omega
          case rel => exact ⟨2, by go_num, by omega, W7⟩
      · go_wp2_with fail
        refine (rem w4 M4.out).mono ?_
        rintro e w5 ⟨rfl, M5⟩
        obtain ⟨hcase, okp, flp, wrp⟩ := HFin.out p3 HO.out.2.2
        have HP : Hid (p3.1.ok ∧ p3.1.files = F ∧ p3.1.writes ≤ 1000000) := ⟨okp, flp, wrp⟩
        obtain ⟨c, hc⟩ : ∃ c, p3.2 = c := ⟨_, rfl⟩
        rw [hc] at hcase ⊢
        have hdd := hdead M5.out
        clear okp flp wrp trim ren rem
        rcases hcase with ⟨rfl, hd⟩ | ⟨n0, n8, hd⟩
        · rw [hd] at hdd
          go_wp2_with fail
          refine hdd.mono ?_
          rintro e w6 ⟨rfl, hw6⟩
          rw [hw6]
          clear hw6 w6
          go_wp2_with fail
          refine (hdata M5.out (Nat.le_refl _) HP.out.1).mono ?_
          rintro e w6 ⟨rfl, M6⟩
          rw [HP.out.2.1]
          go_wp2_with fail
          refine (hres M6.out (Nat.le_refl _)).mono ?_
          rintro e w7 ⟨rfl, M7⟩
          have W7 : Hid (WI w0 w7 b F) := ⟨_, M7.out, HP.out.1, HP.out.2.2, HP.out.2.1⟩
          clear M5 M6 M7
          go_wp2
          go_roundg (gk - 1)
          case measure => omega
          case rel => exact ⟨3, by go_num, by omega, W7⟩
        · have m0 : (c == 0) = false := by simpa using n0
          have m8 : (c == 8) = false := by simpa using n8
          rw [hd] at hdd
          go_wp2_with fail
          refine hdd.mono ?_
          rintro e w6 ⟨rfl, hw6⟩
          rw [hw6]
          clear hw6 w6
          go_wp2_with fail
          refine (hdata M5.out (Nat.le_refl _) HP.out.1).mono ?_
          rintro e w6 ⟨rfl, M6⟩
          rw [HP.out.2.1]
          go_wp2_with fail
          refine (hres M6.out (Nat.le_refl _)).mono ?_
          rintro e w7 ⟨rfl, M7⟩
          have W7 : Hid (WI w0 w7 b F) := ⟨_, M7.out, HP.out.1, HP.out.2.2, HP.out.2.1⟩
          clear M5 M6 M7
          go_wp2
          go_roundg (gk - 1)
          case measure => omega
          case rel => exact ⟨3, by go_num, by omega, W7⟩
    · obtain rfl : i = 3 := by omega
      have BE : Hid (Below W.heap.size W wr) := by
        obtain ⟨E, HE, _⟩ := HR.out
        exact HB.out.trans (HE.bel.mono HB.out.size)
      go_wp2
      go_ret
      exact ⟨rfl, BE.out⟩

end Go.Proofs.Ytlhlipjbcapidaa
