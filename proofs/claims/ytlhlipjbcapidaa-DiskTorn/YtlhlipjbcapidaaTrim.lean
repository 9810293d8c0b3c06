/-
  Trim and Spoil of the program's disk, each by a contract over the document's disk. No condition but that what is handed in is no longer than any memory holds.
-/
import Derived.Test.YtlhlipjbcapidaaWays
namespace Go.Proofs.Ytlhlipjbcapidaa
open Go.RowKit

section
variable {S : Nat → Prop} {w : World} {b m : Nat} {f : Bs → Option Value} {a k : Int} {d : Dk}

set_option maxHeartbeats 800000 in
set_option maxRecDepth 100000 in
theorem trim_bad (b : Nat) (n : Bs) (z : Int) (hg : isName n = false) : Calls Try.prog 20 #[.pointer (some ⟨b, 0, none⟩), tx n, .int .i64 z] w fun e w' => e = .returned (.int .i64 2) ∧ w' = w := by
  have hc := find_bad (w := w) b n hg
  clear hg
  go_enter Try.func20, Try.ntmps20
  go_wp2_with fail
  refine hc.mono ?_
  rintro e w1 ⟨rfl, rfl⟩
  go_wp2
  go_ret
  exact ⟨rfl, rfl⟩

set_option maxHeartbeats 800000 in
set_option maxRecDepth 100000 in
theorem trim_none (h : DiskM w b m f a k d S) (n : Bs) (z : Int) (hg : isName n = true) (hn : n.length ≤ maxLen) (hf : f n = none) : Calls Try.prog 20 #[.pointer (some ⟨b, 0, none⟩), tx n, .int .i64 z] w fun e w' => e = .returned (.int .i64 5) ∧ w' = w := by
  have hc := find_none h n hg hn hf
  clear h hg hf
  go_enter Try.func20, Try.ntmps20
  go_wp2_with fail
  refine hc.mono ?_
  rintro e w1 ⟨rfl, rfl⟩
  go_wp2
  go_ret
  exact ⟨rfl, rfl⟩

set_option maxHeartbeats 800000 in
set_option maxRecDepth 100000 in
theorem trim_range (h : DiskM w b m f a k d S) (n : Bs) (z : Int) (hg : isName n = true) (hn : n.length ≤ maxLen) {v : Value} {bs : Bs} (hf : f n = some v) (hO : OwnB w v bs) (hz : z < 0 ∨ (bs.length : Int) < z) :
    Calls Try.prog 20 #[.pointer (some ⟨b, 0, none⟩), tx n, .int .i64 z] w fun e w' => e = .returned (.int .i64 3) ∧ w' = w := by
  have hc := find_ok h n hg hn hf
  obtain ⟨ao, cc, rfl, _⟩ := OwnG.form hO
  obtain ⟨L, hL⟩ : ∃ L, bs.length = L := ⟨_, rfl⟩
  rw [hL] at hz hc
  clear h hg hf hO hL
  by_cases h0 : z < 0
  · have p : decide (z < 0) = true := by simpa using h0
    go_enter Try.func20, Try.ntmps20
    go_wp2_with fail
    refine hc.mono ?_
    rintro e w1 ⟨rfl, rfl⟩
    go_wp2
    go_ret
    exact ⟨rfl, rfl⟩
  · have p : decide (z < 0) = false := by simpa using h0
    have p2 : decide ((L : Int) < z) = true := by rw [decide_eq_true_eq]; omega
    go_enter Try.func20, Try.ntmps20
    go_wp2_with fail
    refine hc.mono ?_
    rintro e w1 ⟨rfl, rfl⟩
    go_wp2
    go_ret
    exact ⟨rfl, rfl⟩

set_option maxHeartbeats 800000 in
set_option maxRecDepth 100000 in
theorem trim_off (h : DiskM w b m f a k d S) (n : Bs) (z : Int) (hg : isName n = true) (hn : n.length ≤ maxLen) {v : Value} {bs : Bs} (hf : f n = some v) (hO : OwnB w v bs) (h0 : 0 ≤ z) (h1 : z ≤ (bs.length : Int)) (hb : d.after < 9223372036854775808) (hw : d.writes < 4611686018427387904) (hdo : (dnext d).2.1 = false) :
    Calls Try.prog 20 #[.pointer (some ⟨b, 0, none⟩), tx n, .int .i64 z] w fun e w' => e = .returned (.int .i64 8) ∧ ∃ a', DiskM w' b m f a' k (dnext d).1 S ∧ Turned (fun i => i = b) w w' := by
  have hc := find_ok h n hg hn hf
  have hwr := write_any h hb hw
  obtain ⟨ao, cc, rfl, _⟩ := OwnG.form hO
  obtain ⟨L, hL⟩ : ∃ L, bs.length = L := ⟨_, rfl⟩
  rw [hL] at h1 hc
  clear h hg hf hO hL
  have p : decide (z < 0) = false := by simpa using h0
  have p2 : decide ((L : Int) < z) = false := by rw [decide_eq_false_iff_not]; omega
  go_enter Try.func20, Try.ntmps20
  go_wp2_with fail
  refine hc.mono ?_
  rintro e w1 ⟨rfl, hw1⟩
  rw [hw1]
  clear hw1 w1
  go_wp2_with fail
  refine hwr.mono ?_
  rintro e w2 ⟨r, a', rfl, hr, hD, ht2⟩
  have er : r = 8 := by rw [hr.out, if_neg (by rw [hdo]; simp)]
  subst er
  have W2 : Hid (DiskM w2 b m f a' k (dnext d).1 S ∧ Turned (fun i => i = b) w w2) := ⟨hD, ht2⟩
  clear hD ht2 hr
  go_wp2
  go_ret
  exact ⟨rfl, a', W2.out⟩

/-- A file in new blocks, put into a disk. -/
theorem fresh_mid {w1 w2 w3 : World} {v3 : Value} {cs : Bs} {a' : Int} {d' : Dk} (h : S b) (hS : ∀ i, S i → i < w.heap.size) (T1 : Turned (fun i => i = b) w w1) (hD : DiskM w1 b m f a' k d' S) (hw2 : w1 = w2) (B3 : Below w2.heap.size w2 w3) (hO : OwnG encB 5 w3 w2.heap.size v3 cs) :
    DiskM w3 b m f a' k d' (Since S w w3) ∧ OwnB w3 v3 cs ∧ (∀ y u g, f y = some u → u.ownBlock = some g → v3.ownBlock ≠ some g) ∧ (∀ g, v3.ownBlock = some g → Since S w w3 g) ∧ Turned S w w3 := by
  subst hw2
  have hsz := T1.size
  refine ⟨DiskX.mono (DiskX.below hD B3) (fun _ q => .inl q) (fun _ q => q) (fun i hi => ?_), OwnG.low hO (Nat.zero_le _), ?_, ?_, (turned_mine h T1).trans (Turned.ofBelow (S := S) B3) (fun _ _ q => q)⟩
  · rcases hi with q | q
    · exact Nat.lt_of_lt_of_le (hS i q) (Nat.le_trans hsz B3.size)
    · exact q.2
  · intro y u g hu hg q
    have h1 := (hO.lt g q).1
    have h2 := DiskM.row_lt hD hu hg
    omega
  · intro g hg
    have h1 := hO.lt g hg
    exact .inr ⟨by omega, h1.2⟩

set_option maxHeartbeats 1600000 in
set_option maxRecDepth 100000 in
theorem trim_ok (h : DiskM w b m f a k d S) (hrise : FRise d.files) (hfl : d.files.length ≤ 1000) (n : Bs) (z : Nat) (hg : isName n = true) (hn : n.length ≤ 140737488355328) {v : Value} {bs : Bs} (hf : f n = some v) (hO : OwnB w v bs) (hbl : bs.length ≤ 262144) (h1 : z ≤ bs.length) (hb : d.after < 9223372036854775808) (hw : d.writes < 4611686018427387904) (hdo : (dnext d).2.1 = true) :
    Calls Try.prog 20 #[.pointer (some ⟨b, 0, none⟩), tx n, .int .i64 (z : Int)] w fun e w' => e = .returned (.int .i64 0) ∧ DiskAt w' b { (dnext d).1 with files := fwith d.files n (bs.take z) } (Since S w w') ∧ Turned S w w' := by
  have hc := find_ok h n hg (by simp only [maxLen]; omega) hf
  have hwr := write_any h hb hw
  have H : Hid (DiskM w b m f a k d S ∧ FRise d.files ∧ d.files.length ≤ 1000 ∧ f n = some v ∧ OwnB w v bs) := ⟨h, hrise, hfl, hf, hO⟩
  obtain ⟨v', hsl, hsb⟩ := bslice_j (j := z) w (OwnB.at hO) h1
  have SB : Hid (∀ w, BAt w v bs → BAt w v' (bs.take z)) := hsb
  obtain ⟨ao, cc, rfl, _⟩ := OwnG.form hO
  obtain ⟨L, hL⟩ : ∃ L, bs.length = L := ⟨_, rfl⟩
  rw [hL] at h1 hc H SB hsl hbl
  have LL : Hid (bs.length = L) := hL
  clear h hg hf hO hL hsb
  have p : decide ((z : Int) < 0) = false := by rw [decide_eq_false_iff_not]; omega
  have p2 : decide ((L : Int) < (z : Int)) = false := by rw [decide_eq_false_iff_not]; omega
  go_enter Try.func20, Try.ntmps20
  go_wp2_with fail
  refine hc.mono ?_
  rintro e w1 ⟨rfl, hw1⟩
  rw [hw1]
  clear hw1 w1
  go_wp2_with fail
  refine hwr.mono ?_
  rintro e w2 ⟨r, a', rfl, hr, hD, ht2⟩
  have er : r = 0 := by rw [hr.out, if_pos hdo]
  subst er
  have ef : (dnext d).1.files = d.files := dnext_files d
  have W2 : Hid (DiskM w2 b m f a' k (dnext d).1 S ∧ Turned (fun i => i = b) w w2) := ⟨hD, ht2⟩
  have b2 : OwnB w2 (.slice ao L cc) bs := H.out.2.2.2.2.turned ht2 (fun g hg e => (DiskM.row_ne H.out.1 H.out.2.2.2.1 hg).1 e)
  have hcl := bclone_any w2 (SB.out w2 (OwnB.at b2)) (by rw [List.length_take, LL.out]; omega)
  clear hD ht2 hr hwr hc b2
  go_wp2_with fail
  refine hcl.mono ?_
  rintro e w3 ⟨v3, rfl, O3, B3⟩
  have F := fresh_mid H.out.1.mine.1 H.out.1.lt W2.out.2 W2.out.1 rfl B3 O3
  have hs := set_any F.1 (by rw [ef]; exact H.out.2.1) (by rw [ef]; exact H.out.2.2.1) hn (fun _ q => q.elim) F.2.1 (fun y u g _ hu hg => F.2.2.1 y u g hu hg) F.2.2.2.1
  have FT : Hid (Turned S w w3) := F.2.2.2.2
  clear F O3 B3 hcl
  go_wp2_with fail
  refine hs.mono ?_
  rintro e w4 ⟨rfl, D4, T4⟩
  have E := lay_end H.out.1.mine.2 FT.out D4 T4
  rw [ef] at E
  clear D4 T4 hs
  go_wp2
  go_ret
  exact ⟨rfl, E.1, E.2⟩

/-- disk.Trim. -/
theorem trim_at (h : DiskAt w b d S) (hk : d.ok) (hw : d.writes < 4611686018427387904) (n : Bs) (hn : n.length ≤ 140737488355328) (z : Int) :
    Calls Try.prog 20 #[.pointer (some ⟨b, 0, none⟩), tx n, .int .i64 z] w fun e w' => ∃ r, e = .returned (.int .i64 r) ∧ Hid (r = (dtrim d n z).2) ∧ DiskAt w' b (dtrim d n z).1 (Since S w w') ∧ Turned S w w' := by
  obtain ⟨m, f, a, k, h⟩ := h
  have hn' : n.length ≤ maxLen := by simp only [maxLen]; omega
  unfold dtrim
  by_cases hg : isName n = false
  · refine (trim_bad b n z hg).mono ?_
    rintro e w' ⟨rfl, rfl⟩
    rw [if_pos hg]
    exact ⟨2, rfl, rfl, DiskM.same h, Turned.refl _ _⟩
  · rw [if_neg hg]
    have hg' : isName n = true := by simpa using hg
    rcases h.file n with ⟨h1, h2⟩ | ⟨bs, v, h1, h2, ho⟩
    · refine (trim_none h n z hg' hn' h2).mono ?_
      rintro e w' ⟨rfl, rfl⟩
      rw [h1]
      exact ⟨5, rfl, rfl, DiskM.same h, Turned.refl _ _⟩
    · rw [h1]
      have ho : OwnB w v bs := ho.elim False.elim id
      by_cases hz : z < 0 ∨ (bs.length : Int) < z
      · refine (trim_range h n z hg' hn' h2 ho hz).mono ?_
        rintro e w' ⟨rfl, rfl⟩
        simp only [hz, if_true]
        exact ⟨3, rfl, rfl, DiskM.same h, Turned.refl _ _⟩
      · obtain ⟨q, rfl⟩ : ∃ q : Nat, z = (q : Int) := ⟨z.toNat, by omega⟩
        by_cases hdo : (dnext d).2.1 = true
        · refine (trim_ok h hk.rise (by have := hk.few; omega) n q hg' hn h2 ho (hk.get h1) (by omega) hk.after hw hdo).mono ?_
          rintro e w' ⟨rfl, h3, h4⟩
          simp only [hz, hdo, if_true, if_false, Int.toNat_natCast]
          exact ⟨0, rfl, rfl, h3, h4⟩
        · have hdo' : (dnext d).2.1 = false := by simpa using hdo
          refine (trim_off h n q hg' hn' h2 ho (by omega) (by omega) hk.after hw hdo').mono ?_
          rintro e w' ⟨rfl, a', h3, h4⟩
          simp only [hz, hdo', Bool.false_eq_true, if_false]
          exact ⟨8, rfl, rfl, DiskM.since h3 w, turned_mine h.mine.1 h4⟩

set_option maxHeartbeats 800000 in
set_option maxRecDepth 100000 in
theorem spoil_none (h : DiskM w b m f a k d S) (n : Bs) (z x : Int) (hn : n.length ≤ maxLen) (hf : f n = none) : Calls Try.prog 32 #[.pointer (some ⟨b, 0, none⟩), tx n, .int .i64 z, .int .u8 x] w fun e w' => e = .returned (.int .i64 5) ∧ w' = w := by
  have hr := h.look n hn _ hf
  have c0 := h.cell.1
  have H : Hid _ := h
  clear h hf
  go_enter Try.func32, Try.ntmps32
  go_wp2
  go_ret
  exact ⟨rfl, rfl⟩

set_option maxHeartbeats 800000 in
set_option maxRecDepth 100000 in
theorem spoil_range (h : DiskM w b m f a k d S) (n : Bs) (z x : Int) (hn : n.length ≤ maxLen) {v : Value} {bs : Bs} (hf : f n = some v) (hO : OwnB w v bs) (hz : z < 0 ∨ (bs.length : Int) ≤ z) :
    Calls Try.prog 32 #[.pointer (some ⟨b, 0, none⟩), tx n, .int .i64 z, .int .u8 x] w fun e w' => e = .returned (.int .i64 3) ∧ w' = w := by
  have hr := h.look n hn _ hf
  have c0 := h.cell.1
  have H : Hid _ := h
  obtain ⟨ao, cc, rfl, _⟩ := OwnG.form hO
  obtain ⟨L, hL⟩ : ∃ L, bs.length = L := ⟨_, rfl⟩
  rw [hL] at hz hr
  clear h hf hO hL
  by_cases h0 : z < 0
  · have p : decide (z < 0) = true := by simpa using h0
    go_enter Try.func32, Try.ntmps32
    go_wp2
    go_ret
    exact ⟨rfl, rfl⟩
  · have p : decide (z < 0) = false := by simpa using h0
    have p2 : decide ((L : Int) ≤ z) = true := by rw [decide_eq_true_eq]; omega
    go_enter Try.func32, Try.ntmps32
    go_wp2
    go_ret
    exact ⟨rfl, rfl⟩

/-- A byte of a file is stored anew. -/
theorem DiskM.stored (h : DiskM w b m f a k d S) (hr : FRise d.files) {n bs : Bs} {g cap : Nat} (hf : f n = some (.slice (some ⟨g, 0, none⟩) bs.length cap)) (hO : OwnB w (.slice (some ⟨g, 0, none⟩) bs.length cap) bs) (hb : fget d.files n = some bs) {i : Nat} (hi : i < bs.length) (y : UInt8) :
    DiskM (w.setCell ⟨g, i, none⟩ (.int .u8 (y.toNat : Int))) b m f a k { d with files := fwith d.files n (bs.set i y) } S ∧ Turned S w (w.setCell ⟨g, i, none⟩ (.int .u8 (y.toNat : Int))) := by
  have T : Turned (fun j => j = g) w (w.setCell ⟨g, i, none⟩ (.int .u8 (y.toNat : Int))) := turned_set i _
  obtain ⟨n1, n2⟩ := DiskM.row_ne h hf (g := g) rfl
  refine ⟨⟨?_, h.cut, ⟨?_, ?_, ?_, h.files.apart, h.files.own⟩, h.mine, fun j hj => Nat.lt_of_lt_of_le (h.lt j hj) T.size⟩, T.mono (T := S) (fun j _ e => by rw [e]; exact h.files.own n _ g hf rfl)⟩
  · rw [T.block b h.lt_b (fun e => n1 e.symm)]
    exact h.cells
  · show MapIs _ m f (fwith d.files n (bs.set i y)).length
    rw [with_len n _ hr, hb]
    exact h.files.map.turned T (fun e => n2 e.symm)
  · intro x hx
    have hx' : fget (fwith d.files n (bs.set i y)) x = none := hx
    rw [fget_with n _ x hr] at hx'
    by_cases e : n = x
    · rw [if_pos e] at hx'; cases hx'
    · rw [if_neg e] at hx'
      exact h.files.no x hx'
  · intro x cs hx
    have hx' : fget (fwith d.files n (bs.set i y)) x = some cs := hx
    rw [fget_with n _ x hr] at hx'
    by_cases e : n = x
    · rw [if_pos e] at hx'
      cases hx'
      subst e
      refine ⟨_, hf, .inr ?_⟩
      have := OwnG.put (E := encB) hO (i := i) (j := 0) (x := bs[i]) (List.getElem?_eq_getElem hi) (by decide) y (.int .u8 (y.toNat : Int)) rfl
      have e0 : i * encB.size + 0 = i := by show i * 1 + 0 = i; omega
      rw [e0] at this
      exact this
    · rw [if_neg e] at hx'
      obtain ⟨u, hu, ho⟩ := h.files.yes x cs hx'
      refine ⟨u, hu, .inr ((ho.elim False.elim id).turned T (fun g' hg' q => ?_))⟩
      exact h.files.apart x n u _ g' (fun q => e q.symm) hu hf hg' (by rw [q]; rfl)

theorem xor_byte (y x : UInt8) : bits BinOp.xor IntKind.u8 (y.toNat : Int) (x.toNat : Int) = ((y ^^^ x).toNat : Int) := by
  have y1 := y.toNat_lt
  have x1 := x.toNat_lt
  have hx : y.toNat ^^^ x.toNat < 2 ^ 8 := Nat.xor_lt_two_pow y1 x1
  have h1 : (BitVec.ofInt 8 (y.toNat : Int)).toNat = y.toNat := by
    rw [BitVec.ofInt_natCast, BitVec.toNat_ofNat]; exact Nat.mod_eq_of_lt (by omega)
  have h2 : (BitVec.ofInt 8 (x.toNat : Int)).toNat = x.toNat := by
    rw [BitVec.ofInt_natCast, BitVec.toNat_ofNat]; exact Nat.mod_eq_of_lt (by omega)
  have e : (y ^^^ x).toNat = y.toNat ^^^ x.toNat := UInt8.toNat_xor y x
  have wr : ∀ n : Int, IntKind.u8.wrap n = n % 256 := fun n => by simp [IntKind.wrap, IntKind.bits, IntKind.signed]
  show IntKind.u8.wrap ((BitVec.ofInt 8 (y.toNat : Int) ^^^ BitVec.ofInt 8 (x.toNat : Int)).toNat : Int) = _
  rw [BitVec.toNat_xor, h1, h2, wr, e]
  omega

set_option maxHeartbeats 1600000 in
set_option maxRecDepth 100000 in
theorem spoil_ok (h : DiskM w b m f a k d S) (hrise : FRise d.files) (n : Bs) (z : Nat) (x : UInt8) (hn : n.length ≤ maxLen) {v : Value} {bs : Bs} (hf : f n = some v) (hO : OwnB w v bs) (hb : fget d.files n = some bs) (hz : z < bs.length) :
    Calls Try.prog 32 #[.pointer (some ⟨b, 0, none⟩), tx n, .int .i64 (z : Int), .int .u8 (x.toNat : Int)] w fun e w' => e = .returned (.int .i64 0) ∧ DiskM w' b m f a k { d with files := fwith d.files n (bs.set z (bs.getD z 0 ^^^ x)) } S ∧ Turned S w w' := by
  have hr := h.look n hn _ hf
  have c0 := h.cell.1
  obtain ⟨ao, cc, rfl, h1, h2, h3, h4⟩ := OwnG.form hO
  obtain ⟨g, rfl⟩ := h4 (by omega)
  have cz : w.cell? ⟨g, z, none⟩ = some (.int .u8 ((bs.getD z 0).toNat : Int)) := by
    obtain ⟨b', off', e, hlt, hc⟩ := h3 (by omega)
    cases e
    have := hc z bs[z] (List.getElem?_eq_getElem hz) 0 _ rfl
    simpa [encB, List.getD, List.getElem?_eq_getElem hz] using this
  have fz : w.frozen? ⟨g, z, none⟩ = false := World.ownsRow.frozenAt hO _
  have H : Hid (DiskM w b m f a k d S ∧ FRise d.files ∧ f n = some (.slice (some ⟨g, 0, none⟩) bs.length cc) ∧ OwnB w (.slice (some ⟨g, 0, none⟩) bs.length cc) bs ∧ fget d.files n = some bs ∧ z < bs.length) := ⟨h, hrise, hf, hO, hb, hz⟩
  obtain ⟨L, hL⟩ : ∃ L, bs.length = L := ⟨_, rfl⟩
  obtain ⟨y, hy⟩ : ∃ y, bs.getD z 0 = y := ⟨_, rfl⟩
  rw [hL] at hr hz h1
  rw [hy] at cz
  clear h hf hO hb h3 h4 hrise
  have p : decide ((z : Int) < 0) = false := by rw [decide_eq_false_iff_not]; omega
  have p2 : decide ((L : Int) ≤ (z : Int)) = false := by rw [decide_eq_false_iff_not]; omega
  go_enter Try.func32, Try.ntmps32
  go_wp2
  go_ret
  have R := DiskM.stored H.out.1 H.out.2.1 H.out.2.2.1 H.out.2.2.2.1 H.out.2.2.2.2.1 H.out.2.2.2.2.2 (y ^^^ x)
  rw [xor_byte, hy]
  exact ⟨rfl, R.1, R.2⟩

/-- disk.Spoil. -/
theorem spoil_at (h : DiskAt w b d S) (hk : d.ok) (n : Bs) (hn : n.length ≤ 140737488355328) (z : Int) (x : UInt8) :
    Calls Try.prog 32 #[.pointer (some ⟨b, 0, none⟩), tx n, .int .i64 z, .int .u8 (x.toNat : Int)] w fun e w' => ∃ r, e = .returned (.int .i64 r) ∧ Hid (r = (dspoil d n z x).2) ∧ DiskAt w' b (dspoil d n z x).1 (Since S w w') ∧ Turned S w w' := by
  obtain ⟨m, f, a, k, h⟩ := h
  have hn' : n.length ≤ maxLen := by simp only [maxLen]; omega
  unfold dspoil
  rcases h.file n with ⟨h1, h2⟩ | ⟨bs, v, h1, h2, ho⟩
  · refine (spoil_none h n z _ hn' h2).mono ?_
    rintro e w' ⟨rfl, rfl⟩
    rw [h1]
    exact ⟨5, rfl, rfl, DiskM.same h, Turned.refl _ _⟩
  · rw [h1]
    have ho : OwnB w v bs := ho.elim False.elim id
    by_cases hz : z < 0 ∨ (bs.length : Int) ≤ z
    · refine (spoil_range h n z _ hn' h2 ho hz).mono ?_
      rintro e w' ⟨rfl, rfl⟩
      simp only [hz, if_true]
      exact ⟨3, rfl, rfl, DiskM.same h, Turned.refl _ _⟩
    · obtain ⟨q, rfl⟩ : ∃ q : Nat, z = (q : Int) := ⟨z.toNat, by omega⟩
      refine (spoil_ok h hk.rise n q x hn' h2 ho h1 (by omega)).mono ?_
      rintro e w' ⟨rfl, h3, h4⟩
      simp only [hz, if_false, Int.toNat_natCast]
      exact ⟨0, rfl, rfl, DiskM.since h3 w, h4⟩

end
end Go.Proofs.Ytlhlipjbcapidaa
