/-
  filter.Bits, place and Maybe, and the reference's Bits, Maybe and has, each by a contract. No condition but that no text and no bytes are longer than any memory holds.
-/
import Derived.Test.YtkoelofjgceohaaXPos
namespace Go.Proofs.Ytkoelofjgceohaa
open Go.RowKit

theorem fbits_nil {f : Bs} (h : f.length = 0) : fbits f = 0 := by simp [fbits, h]
theorem fbits_no {f : Bs} {x : UInt8} (h : f[0]? = some x) (hx : x ≠ 1) : fbits f = 0 := by
  unfold fbits
  rw [if_pos (.inr (by rw [h]; simpa using hx))]
theorem fbits_yes {f : Bs} (h : f[0]? = some 1) : fbits f = 8 * ((f.length : Int) - 1) := by
  have h0 : ¬ (f.length = 0 ∨ f[0]? ≠ some 1) := by
    rintro (q | q)
    · rw [List.eq_nil_of_length_eq_zero q] at h
      cases h
    · exact q h
  unfold fbits
  rw [if_neg h0]
theorem fbits_le (f : Bs) : fbits f ≤ 8 * (f.length : Int) := by
  unfold fbits
  split <;> omega

/-- The first byte. -/
theorem BAt.first {w : World} {ao : Option Addr} {n c : Nat} {f : Bs} (h : BAt w (.slice ao n c) f) (h0 : 0 < n) : ∃ b off x, ao = some ⟨b, off, none⟩ ∧ b < w.heap.size ∧ f[0]? = some x ∧ w.cell? ⟨b, off, none⟩ = some (.int .u8 (x.toNat : Int)) := by
  obtain ⟨ao', c', e, h1, h2, h3⟩ := h
  cases e
  obtain ⟨b, off, rfl, hlt, hc⟩ := h3 h0
  have hx : f[0]? = some f[0] := List.getElem?_eq_getElem h0
  exact ⟨b, off, f[0], rfl, hlt, hx, hc 0 _ hx 0 _ rfl⟩

theorem BAt.byte {w : World} {b off n c : Nat} {f : Bs} (h : BAt w (.slice (some ⟨b, off, none⟩) n c) f) {i : Nat} {x : UInt8} (hx : f[i]? = some x) : w.cell? ⟨b, off + i, none⟩ = some (.int .u8 (x.toNat : Int)) := by
  obtain ⟨ao', c', e, h1, h2, h3⟩ := h
  cases e
  obtain ⟨b', off', e, hlt, hc⟩ := h3 (by rcases Nat.eq_zero_or_pos f.length with q | q
                                          · rw [List.eq_nil_of_length_eq_zero q] at hx; cases hx
                                          · exact q)
  cases e
  have := hc i x hx 0 _ rfl
  rw [show off + (i * encB.size + 0) = off + i from (by show off + (i * 1 + 0) = off + i; omega)] at this
  exact this

set_option maxHeartbeats 400000 in
theorem bits_any {ao : Option Addr} {n c : Nat} {f : Bs} (w : World) (h : BAt w (.slice ao n c) f) (hl : f.length = n) (hn : n ≤ 1000000000000000) (z : Int) (hz : fbits f = z) :
    Calls Try.prog 16 #[.slice ao n c] w fun e w' => e = .returned (.int .i64 z) ∧ w' = w := by
  subst hz
  by_cases h0 : n = 0
  · rw [fbits_nil (by rw [hl, h0])]
    subst h0
    clear hl h
    go_enter Try.func16, Try.ntmps16
    go_wp2
    go_ret
    exact ⟨rfl, rfl⟩
  · obtain ⟨b, off, x, rfl, _, hx, c0⟩ := h.first (by omega)
    have h0' : ¬ (n : Int) = 0 := by omega
    by_cases h1 : x = 1
    · subst h1
      have c1 : w.cell? ⟨b, off, none⟩ = some (.int .u8 1) := c0
      rw [fbits_yes hx, hl]
      clear hl h hx c0
      go_enter Try.func16, Try.ntmps16
      go_wp2
      go_ret
      exact ⟨by congr 2; go_num, rfl⟩
    · rw [fbits_no hx h1]
      have h1' : ¬ ((x.toNat : Int) = 1) := by
        intro e
        exact h1 (UInt8.toNat_inj.1 (show x.toNat = 1 by omega))
      obtain ⟨y, hy⟩ : ∃ y : Int, (x.toNat : Int) = y := ⟨_, rfl⟩
      rw [hy] at c0 h1'
      have h2 : (y != 1) = true := by simpa using h1'
      have h3 : (y == 1) = false := by simpa using h1'
      clear hl h hx hy
      go_enter Try.func16, Try.ntmps16
      go_wp2
      go_ret
      exact ⟨rfl, rfl⟩

set_option maxHeartbeats 400000 in
theorem place_any (k : Nat) (hk : k ≤ 10000000000000000) (q : Nat) (hq : 1 + k / 8 = q) (b : Int) (hb : ((2 ^ (k % 8) : Nat) : Int) = b) (w : World) :
    Calls Try.prog 25 #[.int .i64 (k : Int)] w fun e w' => e = .returned (.tuple #[.int .i64 (q : Int), .int .u8 b]) ∧ ∃ m, w' = w.drewN m := by
  have e1 : (1 + (k : Int) / 8) = (q : Int) := by omega
  have e2 : (2 : Int) ^ (k % 8) % 256 = b := by
    have h : ∀ j : Fin 8, ((2 ^ j.val : Nat) : Int) = (2 : Int) ^ j.val % 256 := by decide
    rw [← hb]
    exact (h ⟨k % 8, Nat.mod_lt _ (by decide)⟩).symm
  have E : Hid (_ ∧ _) := ⟨e1, e2⟩
  clear e1 e2 hq hb
  go_enter Try.func25, Try.ntmps25
  go_wp2_with fail
  go_quiet (fail)
  rw [E.out.1, E.out.2]
  go_wp2
  refine bodyPost_ret (results_tmp2 rfl _ _ _) rfl ?_
  exact ⟨rfl, _, rfl⟩

theorem fbit_at {f : Bs} {k : Nat} {x : UInt8} (hx : f[1 + k / 8]? = some x) : (bits BinOp.and IntKind.u8 (x.toNat : Int) ((2 ^ (k % 8) : Nat) : Int) == 0) = !fbit f (k : Int) := by
  rw [and_bit x (Nat.mod_lt _ (by decide)), fbit, Int.toNat_natCast, List.getD_eq_getElem?_getD, hx]
  rfl

theorem maybe_place {f p : Bs} {z : Int} (h : z ∈ poss p (fbits f)) : ∃ (k : Nat) (x : UInt8), z = (k : Int) ∧ f[1 + k / 8]? = some x ∧ 1 + k / 8 < f.length ∧ k ≤ 8 * f.length := by
  obtain ⟨h0, h1⟩ := poss_mem h
  obtain ⟨k, rfl⟩ : ∃ k : Nat, z = k := ⟨z.toNat, by omega⟩
  unfold fbits at h1
  split at h1
  · omega
  · have hk : 1 + k / 8 < f.length := by omega
    exact ⟨k, f[1 + k / 8], rfl, List.getElem?_eq_getElem hk, hk, by omega⟩

theorem all_take_step {α : Type} {l : List α} {i : Nat} {x : α} {g : α → Bool} (hx : l[i]? = some x) (h : (l.take i).all g = true) (hg : g x = true) : (l.take (i + 1)).all g = true := by
  rw [List.take_add_one, hx]
  simp [h, hg]
theorem all_take_miss {α : Type} {l : List α} {i : Nat} {x : α} {g : α → Bool} (hx : l[i]? = some x) (hg : g x = false) : l.all g = false := by
  rw [List.all_eq_false]
  exact ⟨x, List.mem_of_getElem? hx, by simp [hg]⟩

set_option maxHeartbeats 800000 in
set_option maxRecDepth 100000 in
/-- filter.Maybe. -/
theorem maybe_any {ao : Option Addr} {n c : Nat} {f : Bs} (p : Bs) (w : World) (h : BAt w (.slice ao n c) f) (hl : f.length = n) (hn : n ≤ 1000000000000000) (hp : p.length ≤ 9223372036854775807) (g : Bool) (hg : fmaybe f p = g) :
    Calls Try.prog 13 #[.slice ao n c, tx p] w fun e w' => e = .returned (.bool g) ∧ Below w.heap.size w w' := by
  subst hg
  obtain ⟨z, hz⟩ : ∃ z, fbits f = z := ⟨_, rfl⟩
  have hbl := fbits_le f
  rw [hz, hl] at hbl
  have hbi := bits_any w h hl hn z hz
  have hpo := positions_any p z (by omega) hp w
  have hM : fmaybe f p = (poss p z).all (fbit f) := by rw [fmaybe, hz]
  obtain ⟨ps, hps⟩ : ∃ ps, poss p z = ps := ⟨_, rfl⟩
  have hps3 : ps.length ≤ 3 := by rw [← hps]; exact poss_le p z
  rw [hps] at hpo hM
  have PL : Hid (∀ y ∈ ps, ∃ (k : Nat) (x : UInt8), y = (k : Int) ∧ f[1 + k / 8]? = some x ∧ 1 + k / 8 < f.length ∧ k ≤ 8 * f.length) := fun y hy => maybe_place (p := p) (by rw [hz, hps]; exact hy)
  have M : Hid (fmaybe f p = ps.all (fbit f)) := hM
  have H : Hid (BAt w (.slice ao n c) f ∧ f.length = n) := ⟨h, hl⟩
  clear hM hps h hl hz
  go_enter Try.func13, Try.ntmps13
  go_wp2_with fail
  refine hbi.mono ?_
  rintro e w' ⟨rfl, rfl⟩
  go_wp2_with fail
  refine hpo.mono ?_
  rintro e w1 ⟨v1, rfl, O1, B1⟩
  obtain ⟨ao1, c1, rfl, _, _, R1, _⟩ := O1.form
  obtain ⟨pn, hpn⟩ : ∃ pn, ps.length = pn := ⟨_, rfl⟩
  rw [hpn] at hps3 ⊢
  have G : Hid (RdG encI w1 ao1 ps ∧ ps.length = pn ∧ Below w'.heap.size w' w1 ∧ BAt w1 (.slice ao n c) f) := ⟨R1, hpn, B1, H.out.1.below B1⟩
  clear O1 B1 R1 hpn hpo hbi
  go_wp2_with fail
  go_loopg [14] pn (fun k v wr => ∃ i : Nat, v = .int .i64 i ∧ i + k = pn ∧ Hid ((ps.take i).all (fbit f) = true ∧ ∃ m, wr = w1.drewN m))
  case atStart => exact ⟨0, rfl, by omega, rfl, 0, rfl⟩
  case round =>
    obtain ⟨i, rfl, hi, HR⟩ := hrel
    have HT : Hid ((ps.take i).all (fbit f) = true) := HR.out.1
    obtain ⟨m, rfl⟩ := HR.out.2
    clear HR
    by_cases hin : i < pn
    · have id : (i : Int) < (pn : Int) := by omega
      obtain ⟨y, hy⟩ := get_some G.out.2.1 hin
      obtain ⟨k, x, rfl, hx, hq, hk⟩ := PL.out y (List.mem_of_getElem? hy)
      rw [H.out.2] at hq hk
      obtain ⟨b1, o1, rfl, hlt1⟩ := G.out.1.some_of hy
      have cy : (w1.drewN m).cell? ⟨b1, o1 + i, none⟩ = some (.int .i64 (k : Int)) := G.out.1.ints hy
      obtain ⟨b2, o2, _, rfl, _, _, _⟩ := G.out.2.2.2.first (by omega)
      have cx0 := G.out.2.2.2.byte hx
      obtain ⟨q, hqq⟩ : ∃ q, 1 + k / 8 = q := ⟨_, rfl⟩
      obtain ⟨bb, hbb⟩ : ∃ bb : Int, ((2 ^ (k % 8) : Nat) : Int) = bb := ⟨_, rfl⟩
      have hfb := fbit_at hx
      have hpl := place_any k (by omega) q hqq bb hbb
      rw [hqq] at cx0 hq
      rw [hbb] at hfb
      obtain ⟨xx, hxx⟩ : ∃ xx : Int, (x.toNat : Int) = xx := ⟨_, rfl⟩
      rw [hxx] at hfb cx0
      have cx : ∀ m', (w1.drewN (m + m')).cell? ⟨b2, o2 + q, none⟩ = some (.int .u8 xx) := fun _ => cx0
      have Y : Hid (ps[i]? = some (k : Int)) := hy
      obtain ⟨gb, hgb⟩ : ∃ gb, fbit f (k : Int) = gb := ⟨_, rfl⟩
      rw [hgb] at hfb
      have GB : Hid (fbit f (k : Int) = gb) := hgb
      clear hy hx hqq hbb hxx cx0 hgb
      go_wp2_with fail
      refine (hpl _).mono ?_
      rintro e w2 ⟨rfl, m2, rfl⟩
      have cx2 := cx m2
      clear hpl cx
      cases gb with
      | true =>
        rw [Bool.not_true] at hfb
        go_wp2
        go_roundg (gk - 1)
        case measure => omega
        case rel => exact ⟨i + 1, by go_num, by omega, all_take_step Y.out HT.out GB.out, m + m2, rfl⟩
      | false =>
        rw [Bool.not_false] at hfb
        go_wp2
        go_ret
        exact ⟨by rw [M.out, all_take_miss Y.out GB.out]; rfl, below_drewN G.out.2.2.1 _⟩
    · obtain rfl : i = pn := by omega
      have e := HT.out
      rw [List.take_of_length_le (by rw [G.out.2.1]; omega)] at e
      have E : Hid (ps.all (fbit f) = true) := e
      clear e
      go_wp2
      go_ret
      exact ⟨by rw [M.out, E.out]; rfl, below_drewN G.out.2.2.1 m⟩

end Go.Proofs.Ytkoelofjgceohaa
