/-
  The reference's Bits, Maybe, has and Set, each by a contract. No condition but that no text and no bytes are longer than any memory holds.
-/
import Derived.Test.YtkoelofjgceohaaXBits
namespace Go.Proofs.Ytkoelofjgceohaa
open Go.RowKit

theorem byte_get (s : ByteArray) {i : Nat} (h : i < s.size) : s.data.toList[i]? = some s[i] := by
  rw [List.getElem?_eq_getElem (by rw [← bsize]; exact h)]
  rfl

set_option maxHeartbeats 400000 in
theorem rbits_any (s : ByteArray) (hs : s.size ≤ 1000000000000000) (z : Int) (hz : fbits s.data.toList = z) (w : World) :
    Calls Try.prog 17 #[.string s] w fun e w' => e = .returned (.int .i64 z) ∧ w' = w := by
  subst hz
  have E : Hid (s.size = s.data.toList.length) := bsize s
  by_cases h : s.size < 2
  · have e0 : fbits s.data.toList = 0 := by
      have e := E.out
      rcases Nat.lt_or_ge s.size 1 with q | q
      · exact fbits_nil (by omega)
      · unfold fbits
        split
        · rfl
        · omega
    rw [e0]
    have h' : (s.size : Int) < 2 := by omega
    clear e0
    go_enter Try.func17, Try.ntmps17
    go_wp2
    go_ret
    exact ⟨rfl, rfl⟩
  · have h' : ¬ (s.size : Int) < 2 := by omega
    have hx := byte_get s (i := 0) (by omega)
    by_cases h1 : s[0] = 1
    · rw [h1] at hx
      rw [fbits_yes hx, ← E.out]
      clear hx
      go_enter Try.func17, Try.ntmps17
      go_wp2
      go_ret
      exact ⟨rfl, rfl⟩
    · rw [fbits_no hx h1]
      have h1' : ¬ ((s[0].toNat : Int) = 1) := by
        intro e
        exact h1 (UInt8.toNat_inj.1 (show s[0].toNat = 1 by omega))
      clear hx
      go_enter Try.func17, Try.ntmps17
      go_wp2
      go_ret
      exact ⟨rfl, rfl⟩

theorem xflat_snoc {α : Type} {l : List Bs} {i : Nat} (h : i < l.length) (f : Bs → List α) : (l.take (i + 1)).flatMap f = (l.take i).flatMap f ++ f (el l i) := by
  rw [List.take_succ_eq_append_getElem h, List.flatMap_append, ← el_get h]
  simp
theorem xflat_len {α : Type} (f : Bs → List α) (n : Nat) (h : ∀ p, (f p).length ≤ n) (l : List Bs) (i : Nat) : ((l.take i).flatMap f).length ≤ n * i := by
  have key : ∀ m : List Bs, (m.flatMap f).length ≤ n * m.length := by
    intro m
    induction m with
    | nil => simp
    | cons x t ih =>
      have := h x
      simp only [List.flatMap_cons, List.length_append, List.length_cons, Nat.mul_add, Nat.mul_one]
      omega
  have h1 := key (l.take i)
  have h2 : n * (l.take i).length ≤ n * i := Nat.mul_le_mul_left n (List.length_take_le i l)
  omega

set_option maxHeartbeats 800000 in
theorem has_any11 {ao : Option Addr} {c n : Nat} {zs : List Int} (z : Int) (w : World) (ha : RdG encI w ao zs) (hl : zs.length = n) (hn : n ≤ 1000000000) (f : Bool) (hf : zs.contains z = f) :
    Calls Try.prog 26 #[.slice ao n c, .int .i64 z] w fun e w' => e = .returned (.bool f) ∧ w' = w := by
  have H : Hid (RdG encI w ao zs ∧ zs.length = n ∧ zs.contains z = f) := ⟨ha, hl, hf⟩
  clear ha hl hf
  go_enter Try.func26, Try.ntmps26
  go_wp2_with fail
  go_loopg [5] n (fun k v wr => ∃ i : Nat, v = .int .i64 i ∧ i + k = n ∧ wr = w ∧ Hid ((zs.take i).contains z = false))
  case atStart => exact ⟨0, rfl, by omega, rfl, rfl⟩
  case round =>
    obtain ⟨i, rfl, hi, rfl, HT⟩ := hrel
    by_cases hin : i < n
    · have id : (i : Int) < (n : Int) := by omega
      obtain ⟨y, hy⟩ := get_some H.out.2.1 hin
      obtain ⟨b, off, rfl, hlt⟩ := H.out.1.some_of hy
      have cy := H.out.1.ints hy
      have Y : Hid (zs[i]? = some y) := hy
      clear hy
      by_cases hyz : y = z
      · subst hyz
        go_wp2
        go_ret
        have e : f = true := by
          rw [← H.out.2.2, List.contains_iff_mem]
          exact List.mem_of_getElem? Y.out
        exact ⟨by rw [e]; rfl, rfl⟩
      · have h1 : (y == z) = false := by simpa using hyz
        go_wp2
        go_roundg (gk - 1)
        case measure => omega
        case rel =>
          refine ⟨i + 1, by go_num, by omega, rfl, ?_⟩
          show _ = _
          rw [xtake_snoc Y.out, List.contains_eq_any_beq, List.any_append, ← List.contains_eq_any_beq, HT.out]
          simp [Ne.symm hyz]
    · obtain rfl : i = n := by omega
      have e := HT.out
      rw [List.take_of_length_le (by rw [H.out.2.1]; omega), H.out.2.2] at e
      subst e
      go_wp2
      go_ret
      exact ⟨rfl, rfl⟩

set_option maxHeartbeats 1600000 in
set_option maxRecDepth 100000 in
/-- The reference's Maybe. -/
theorem rmaybe_any (s : ByteArray) (hs : s.size ≤ 1000000000000000) (p : Bs) (hp : p.length ≤ 9223372036854775807) (g : Bool) (hg : fmaybe s.data.toList p = g) (w : World) :
    Calls Try.prog 18 #[.string s, tx p] w fun e w' => e = .returned (.bool g) ∧ Below w.heap.size w w' := by
  subst hg
  have SZ : Hid (s.size = s.data.toList.length) := bsize s
  obtain ⟨f, hf⟩ : ∃ f, s.data.toList = f := ⟨_, rfl⟩
  obtain ⟨z, hz⟩ : ∃ z, fbits f = z := ⟨_, rfl⟩
  have hbl := fbits_le f
  have hbi := rbits_any s hs z (by rw [hf, hz])
  rw [hf] at SZ ⊢
  rw [hz, ← SZ.out] at hbl
  have hpo := rpositions_any p z (by omega) hp w
  have hM : fmaybe f p = (poss p z).all (fbit f) := by rw [fmaybe, hz]
  obtain ⟨ps, hps⟩ : ∃ ps, poss p z = ps := ⟨_, rfl⟩
  have hps3 : ps.length ≤ 3 := by rw [← hps]; exact poss_le p z
  rw [hps] at hpo hM
  have PL : Hid (∀ y ∈ ps, ∃ (k : Nat) (x : UInt8), y = (k : Int) ∧ f[1 + k / 8]? = some x ∧ 1 + k / 8 < f.length ∧ k ≤ 8 * f.length) := fun y hy => maybe_place (p := p) (by rw [hz, hps]; exact hy)
  have M : Hid (fmaybe f p = ps.all (fbit f) ∧ s.data.toList = f) := ⟨hM, hf⟩
  clear hM hps hz hf
  go_enter Try.func18, Try.ntmps18
  go_wp2_with fail
  refine (hbi _).mono ?_
  rintro e w' ⟨rfl, rfl⟩
  go_wp2_with fail
  refine hpo.mono ?_
  rintro e w1 ⟨v1, rfl, O1, B1⟩
  obtain ⟨ao1, c1, rfl, _, _, R1, _⟩ := O1.form
  obtain ⟨pn, hpn⟩ : ∃ pn, ps.length = pn := ⟨_, rfl⟩
  rw [hpn] at hps3 ⊢
  have G : Hid (RdG encI w1 ao1 ps ∧ ps.length = pn ∧ Below w'.heap.size w' w1) := ⟨R1, hpn, B1⟩
  clear O1 B1 R1 hpn hpo hbi
  go_wp2_with fail
  go_loopg [6] pn (fun k v wr => ∃ i : Nat, v = .int .i64 i ∧ i + k = pn ∧ wr = w1 ∧ Hid ((ps.take i).all (fbit f) = true))
  case atStart => exact ⟨0, rfl, by omega, rfl, rfl⟩
  case round =>
    obtain ⟨i, rfl, hi, hw, HT⟩ := hrel
    have hw' := hw.symm
    subst hw'
    clear hw
    obtain ⟨go, hgo⟩ : ∃ go, go = gk := ⟨_, rfl⟩
    rw [← hgo] at hi
    have GO : Hid (go = gk) := hgo
    clear hgo
    by_cases hin : i < pn
    · have id : (i : Int) < (pn : Int) := by omega
      obtain ⟨y, hy⟩ := get_some G.out.2.1 hin
      obtain ⟨k, x, rfl, hx, hq, hk⟩ := PL.out y (List.mem_of_getElem? hy)
      rw [← SZ.out] at hq hk
      obtain ⟨b1, o1, rfl, hlt1⟩ := G.out.1.some_of hy
      have cy := G.out.1.ints hy
      have q1 : (1 + (k : Int) / 8) < (s.size : Int) := by omega
      have Y : Hid (ps[i]? = some (k : Int)) := hy
      have ex : s[1 + k / 8] = x := by
        have := byte_get s (i := 1 + k / 8) hq
        rw [M.out.2, hx] at this
        exact (Option.some.inj this).symm
      have X : Hid (f[1 + k / 8]? = some x) := hx
      have hx8 := x.toNat_lt
      obtain ⟨r, hr⟩ : ∃ r, k % 8 = r := ⟨_, rfl⟩
      have er : (k : Int) % 8 = (r : Int) := by omega
      have r8 : r < 8 := by omega
      have KR : Hid (k % 8 = r) := hr
      clear hy hx hr
      go_wp2_with fail
      go_loopg [7, 8] r (fun t bv v wr => ∃ j : Nat, v = .int .i64 j ∧ j + t = r ∧ bv = .int .u8 ((x.toNat / 2 ^ j : Nat) : Int) ∧ wr = w1)
      case atStart => exact ⟨0, rfl, by omega, by simp, rfl⟩
      case round =>
        obtain ⟨j, rfl, hj, rfl, hw⟩ := hrel
        have hw' := hw.symm
        subst hw'
        clear hw
        obtain ⟨y, hy⟩ : ∃ y : Nat, x.toNat / 2 ^ j = y := ⟨_, rfl⟩
        have hy8 : y < 256 := by rw [← hy]; exact Nat.lt_of_le_of_lt (Nat.div_le_self _ _) hx8
        have YY : Hid (x.toNat / 2 ^ j = y) := hy
        rw [hy]
        clear hy
        by_cases hjn : j < r
        · have jd : (j : Int) < (r : Int) := by omega
          go_wp2
          go_roundg (gk - 1)
          case measure => omega
          case rel => exact ⟨j + 1, by go_num, by omega, by rw [Nat.pow_succ, ← Nat.div_div_eq_div_mul, YY.out]; rfl, rfl⟩
        · obtain rfl : j = r := by omega
          have hfb : fbit f (k : Int) = (y % 2 == 1) := by
            rw [fbit, Int.toNat_natCast, List.getD_eq_getElem?_getD, X.out, KR.out]
            show (x.toNat / 2 ^ j % 2 == 1) = _
            rw [YY.out]
          by_cases hodd : y % 2 = 1
          · have o1 : ((y : Int) % 2 == 0) = false := by simp; omega
            have HF : Hid (fbit f (k : Int) = true) := by show _ = _; rw [hfb, hodd]; rfl
            clear hfb
            go_wp2
            go_roundg (go - 1)
            case measure => have := GO.out; omega
            case rel => exact ⟨i + 1, by go_num, by omega, rfl, all_take_step Y.out HT.out HF.out⟩
          · have o1 : ((y : Int) % 2 == 0) = true := by simp; omega
            have HF : Hid (fbit f (k : Int) = false) := by show _ = _; rw [hfb]; simpa using hodd
            clear hfb
            go_wp2
            go_ret
            exact ⟨by rw [M.out.1, all_take_miss Y.out HF.out]; rfl, G.out.2.2⟩
    · obtain rfl : i = pn := by omega
      have e := HT.out
      rw [List.take_of_length_le (by rw [G.out.2.1]; omega)] at e
      have E : Hid (ps.all (fbit f) = true) := e
      clear e
      go_wp2
      go_ret
      exact ⟨by rw [M.out.1, E.out]; rfl, G.out.2.2⟩

set_option maxHeartbeats 800000 in
set_option maxRecDepth 100000 in
/-- The reference's Set. -/
theorem rset_any {ao : Option Addr} {c n : Nat} {ps : List Bs} (m : Int) (hm : m ≤ 9223372036854775807) (w : World) (ha : Rd w ao ps) (hl : ps.length = n) (hn : n ≤ 4000000) (hx : ∀ x ∈ ps, x.length ≤ 9223372036854775807) :
    Calls Try.prog 20 #[.slice ao n c, .int .i64 m] w fun e w' => ∃ v', e = .returned v' ∧ OwnG encI 3 w' w.heap.size v' (ps.flatMap fun p => poss p m) ∧ Below w.heap.size w w' := by
  have H : Hid (Rd w ao ps ∧ ps.length = n ∧ ∀ x ∈ ps, x.length ≤ 9223372036854775807) := ⟨ha, hl, hx⟩
  clear ha hl hx
  go_enter Try.func20, Try.ntmps20
  go_wp2_with fail
  go_loopg [5, 6] n (fun k ov v wr => ∃ i : Nat, v = .int .i64 i ∧ i + k = n ∧ Hid (OwnG encI 3 wr w.heap.size ov ((ps.take i).flatMap fun p => poss p m) ∧ Below w.heap.size w wr))
  case atStart => exact ⟨0, rfl, by omega, OwnG.nil _ _ _ _, Below.refl _ _⟩
  case round =>
    obtain ⟨i, rfl, hi, HR⟩ := hrel
    by_cases hin : i < n
    · have id : (i : Int) < (n : Int) := by omega
      obtain ⟨b, off, rfl, hlt, hc⟩ := H.out.1 (by rw [H.out.2.1]; omega)
      obtain ⟨x, hx⟩ : ∃ x, el ps i = x := ⟨_, rfl⟩
      have c0 := hc i (by rw [H.out.2.1]; omega)
      rw [hx] at c0
      have hxl : x.length ≤ 9223372036854775807 := by rw [← hx]; exact H.out.2.2 _ (el_mem (by rw [H.out.2.1]; exact hin))
      have c1 : wr.cell? ⟨b, off + i, none⟩ = some (.string ⟨x.toArray⟩) := (HR.out.2.cell hlt).trans c0
      have hst := xflat_snoc (l := ps) (i := i) (by rw [H.out.2.1]; exact hin) (fun p => poss p m)
      rw [hx] at hst
      have ST : Hid _ := hst
      have hpo := rpositions_any x m hm hxl wr
      have FL : Hid (((ps.take i).flatMap fun p => poss p m).length ≤ 3 * i ∧ (poss x m).length ≤ 3) := ⟨xflat_len _ _ (fun p => poss_le p m) _ _, poss_le x m⟩
      obtain ⟨ds, hds⟩ : ∃ ds, ((ps.take i).flatMap fun p => poss p m) = ds := ⟨_, rfl⟩
      obtain ⟨zs, hzs⟩ : ∃ zs, poss x m = zs := ⟨_, rfl⟩
      rw [hds] at HR FL ST
      rw [hzs] at FL ST hpo
      clear hc c0 hx hst hds hzs
      go_wp2_with fail
      refine hpo.mono ?_
      rintro e w2 ⟨v2, rfl, O2, B2⟩
      obtain ⟨a2, c2, rfl, _, _, R2, _⟩ := O2.form
      have G2 : Hid (RdG encI w2 a2 zs ∧ OwnG encI 3 w2 w.heap.size _ ds ∧ Below w.heap.size w w2) := ⟨R2, HR.out.1.below B2, HR.out.2.trans (B2.mono HR.out.2.size)⟩
      clear O2 B2 R2 hpo
      go_wp2_with (at_builtin; refine appG_list encI 3 30 8 (.int .i64 0) rfl Try.info3 Try.underlying30 rfl (.tmp 13) (.tmp 19) rfl w.heap.size _ ds zs a2 _ c2 rfl G2.out.2.1 rfl G2.out.1 rfl (by have := FL.out; omega) (by have := FL.out; simp only [maxLen]; omega) G2.out.2.2.size ?_; intro v4 w4 hown4 hbel4 _ _)
      go_roundg (gk - 1)
      case measure => omega
      case rel => exact ⟨i + 1, by go_num, by omega, by rw [ST.out]; exact hown4, G2.out.2.2.trans hbel4⟩
    · obtain rfl : i = n := by omega
      have e : ps.take i = ps := List.take_of_length_le (by rw [H.out.2.1]; omega)
      rw [e] at HR
      go_wp2
      go_ret
      exact ⟨_, rfl, HR.out.1, HR.out.2⟩

end Go.Proofs.Ytkoelofjgceohaa
