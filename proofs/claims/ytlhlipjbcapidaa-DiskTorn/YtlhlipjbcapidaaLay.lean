/-
  set and lay of the program's disk, Put and Append, each by a contract over the document's disk. No condition but that what is handed in is no longer than any memory holds.
-/
import Derived.Test.YtlhlipjbcapidaaFind
namespace Go.Proofs.Ytlhlipjbcapidaa
open Go.RowKit

section
variable {S : Nat → Prop} {X : Bs → Prop} {w : World} {b m : Nat} {f : Bs → Option Value} {a k : Int} {d : Dk}

theorem Turned.size_le {T : Nat → Prop} {w w' : World} (h : Turned T w w') : w.heap.size ≤ w'.heap.size := h.size

theorem below_drew {w w' : World} (h : Below w.drew.heap.size w.drew w') : Below w.heap.size w w' := ⟨h.os, h.tape, h.output, h.size, h.block⟩

theorem grown_turned {w w' : World} {m : Nat} (h : w.grownBy w' (some m)) : Turned (fun i => i = m) w w' := (Turned.refl _ w).grown h (fun i _ e => by cases e; rfl)
theorem grown_cell {w w' : World} {m : Nat} (h : w.grownBy w' (some m)) {p : Addr} (hp : p.block < w.heap.size) (hne : p.block ≠ m) : w'.cell? p = w.cell? p := (grown_turned h).cell hp hne

/-- A file is put into a disk's map. -/
theorem DiskX.putIn (h : DiskX w b m f a k d S X) (hr : FRise d.files) {n bs : Bs} (hX : ∀ x, X x → x = n) {v : Value} (hv : OwnB w v bs) (hap : ∀ y u g, y ≠ n → f y = some u → u.ownBlock = some g → v.ownBlock ≠ some g) (hvS : ∀ g, v.ownBlock = some g → S g)
    {w' : World} (hg : w.grownBy w' (some m)) (hm : MapIs w' m (fput f n v) (if (f n).isSome then d.files.length else d.files.length + 1)) :
    DiskM w' b m (fput f n v) a k { d with files := fwith d.files n bs } S := by
  have ht : Turned (fun i => i = m) w w' := (Turned.refl _ w).grown hg (fun i _ e => by cases e; rfl)
  have ne_m : ∀ {u : Value} {cs : Bs} {g : Nat}, OwnB w u cs → u.ownBlock = some g → g ≠ m := by
    intro u cs g ho hg e
    obtain ⟨cur, hc⟩ := ho.block hg
    obtain ⟨es, c, hmb⟩ := h.files.map.block
    rw [e, hmb] at hc
    cases hc
  refine ⟨?_, h.cut, ?_, h.mine, fun i hi => Nat.lt_of_lt_of_le (h.lt i hi) hg.size⟩
  · rw [ht.block b h.lt_b (fun e => h.m_ne e.symm)]
    exact h.cells
  · refine ⟨?_, ?_, ?_, ?_, ?_⟩
    · rw [with_len n bs hr, ← h.some_iff n]
      cases e : (f n).isSome
      · rw [e] at hm; exact hm
      · rw [e] at hm; exact hm
    · intro x hx
      rw [fget_with n bs x hr] at hx
      by_cases e : n = x
      · rw [if_pos e] at hx; cases hx
      · rw [if_neg e] at hx
        unfold fput
        rw [if_neg (fun q => e q.symm)]
        exact h.files.no x hx
    · intro x cs hx
      rw [fget_with n bs x hr] at hx
      unfold fput
      by_cases e : n = x
      · rw [if_pos e] at hx
        cases hx
        rw [if_pos e.symm]
        exact ⟨v, rfl, .inr (hv.turned ht (fun g hg => ne_m hv hg))⟩
      · rw [if_neg e] at hx
        rw [if_neg (fun q => e q.symm)]
        obtain ⟨u, hu, ho⟩ := h.files.yes x cs hx
        refine ⟨u, hu, .inr ?_⟩
        rcases ho with q | q
        · exact absurd (hX x q).symm e
        · exact q.turned ht (fun g hg => ne_m q hg)
    · intro x y u v' g hxy hx hy hu
      unfold fput at hx hy
      by_cases e1 : x = n
      · rw [if_pos e1] at hx
        cases hx
        rw [if_neg (fun q => hxy (by rw [e1, q]))] at hy
        intro q
        exact hap y v' g (fun q => hxy (by rw [e1, q])) hy q hu
      · rw [if_neg e1] at hx
        by_cases e2 : y = n
        · rw [if_pos e2] at hy
          cases hy
          exact hap x u g e1 hx hu
        · rw [if_neg e2] at hy
          exact h.files.apart x y u v' g hxy hx hy hu
    · intro x u g hx hu
      unfold fput at hx
      by_cases e : x = n
      · rw [if_pos e] at hx
        cases hx
        exact hvS g hu
      · rw [if_neg e] at hx
        exact h.files.own x u g hx hu

set_option maxHeartbeats 1600000 in
set_option maxRecDepth 100000 in
/-- set: a file is put into the map. -/
theorem set_any (h : DiskX w b m f a k d S X) (hr : FRise d.files) (hl : d.files.length ≤ 1000) {n bs : Bs} (hn : n.length ≤ 140737488355328) (hX : ∀ x, X x → x = n) {v : Value} (hv : OwnB w v bs) (hap : ∀ y u g, y ≠ n → f y = some u → u.ownBlock = some g → v.ownBlock ≠ some g) (hvS : ∀ g, v.ownBlock = some g → S g) :
    Calls Try.prog 39 #[.pointer (some ⟨b, 0, none⟩), tx n, v] w fun e w' => e = .returned (.tuple #[]) ∧ DiskM w' b m (fput f n v) a k { d with files := fwith d.files n bs } S ∧ Turned (fun i => i = m) w w' := by
  have c0 := h.cell.1
  have H : Hid (DiskX w b m f a k d S X ∧ FRise d.files ∧ d.files.length ≤ 1000 ∧ (∀ x, X x → x = n) ∧ OwnB w v bs ∧ (∀ y u g, y ≠ n → f y = some u → u.ownBlock = some g → v.ownBlock ≠ some g) ∧ ∀ g, v.ownBlock = some g → S g) := ⟨h, hr, hl, hX, hv, hap, hvS⟩
  clear h hr hl hX hv hap hvS
  go_enter Try.func39, Try.ntmps39
  go_wp2_with fail
  go_region_held3 (fun u => u.cell? ⟨b, 0, none⟩ = some (.map (some m))) (go_keep)
    (first | (go_at_call 52; refine (sclone_any ⟨n.toArray⟩ _ (by rw [str_size]; omega)).mono ?_; rintro e w1 ⟨rfl, B0⟩; have B1 := below_drew B0; obtain ⟨w2, hrun, hm2, hg2⟩ := (H.out.1.below B1).files.map.put ⟨n.toArray⟩ (by rw [str_size]; simp only [maxLen]; omega) (by have := H.out.2.2.1; simp only [maxLen]; omega) v; have k1 := (H.out.1.below B1).cell.1; have k2 := (grown_cell hg2 (p := ⟨b, 0, none⟩) (H.out.1.below B1).lt_b (fun e => H.out.1.m_ne e.symm)).trans k1; have M : Hid (Below w.heap.size w w1 ∧ w1.grownBy w2 (some m) ∧ MapIs w2 m (fput f n v) (if (f n).isSome then d.files.length else d.files.length + 1)) := ⟨B1, hg2, hm2⟩; clear B0 B1 hm2 hg2))
  go_end0
  have hw1 := M.out.1
  have hD := H.out.1.below hw1
  have ho := H.out.2.2.2.2.1.turned (Turned.ofBelow (S := fun _ => False) hw1) (fun _ _ q => q)
  exact ⟨rfl, DiskX.putIn hD H.out.2.1 H.out.2.2.2.1 ho H.out.2.2.2.2.2.1 H.out.2.2.2.2.2.2 M.out.2.1 M.out.2.2, (Turned.ofBelow hw1).trans (grown_turned M.out.2.1) (fun _ _ q => q)⟩

theorem DiskM.row_lt (h : DiskM w b m f a k d S) {x : Bs} {v : Value} {g : Nat} (hx : f x = some v) (hg : v.ownBlock = some g) : g < w.heap.size := h.lt g (h.files.own x v g hx hg)

/-- From a disk whose power was asked to the disk at whose file bytes were appended. -/
theorem lay_mid {w1 w2 w3 : World} {n cs : Bs} {va v3 : Value} {a' : Int} {d' : Dk} (h : DiskM w b m f a k d S) (hva : ∀ g, va.ownBlock = some g → f n = some va) (B1 : Below w.heap.size w w1) (hD : DiskM w2 b m f a' k d' S) (ht2 : Turned (fun i => i = b) w1 w2)
    (hO : OwnB w3 v3 cs) (hM : Moved w2 va v3) (ht3 : Turned (fun i => va.ownBlock = some i) w2 w3) :
    DiskX w3 b m f a' k d' (Since S w w3) (fun x => x = n) ∧ (∀ y u g, y ≠ n → f y = some u → u.ownBlock = some g → v3.ownBlock ≠ some g) ∧ (∀ g, v3.ownBlock = some g → Since S w w3 g) ∧ Turned S w w3 := by
  have hS : ∀ i, S i → i < w3.heap.size := fun i hi => Nat.lt_of_lt_of_le (hD.lt i hi) ht3.size
  have hbk : ∀ g, va.ownBlock = some g → g ≠ b ∧ g ≠ m ∧ S g := fun g hg => ⟨(DiskM.row_ne hD (hva g hg) hg).1, (DiskM.row_ne hD (hva g hg) hg).2, hD.files.own n va g (hva g hg) hg⟩
  have hw2 : w.heap.size ≤ w2.heap.size := Nat.le_trans B1.size ht2.size
  refine ⟨⟨?_, hD.cut, ?_, ⟨.inl hD.mine.1, .inl hD.mine.2⟩, ?_⟩, ?_, ?_, ?_⟩
  · rw [ht3.block b hD.lt_b (fun e => (hbk b e).1 rfl)]
    exact hD.cells
  · refine (FilesX.mono hD.files (S' := Since S w w3) (X' := fun x => x = n) (fun i hi => .inl hi) (fun _ q => q.elim)).turned ht3 (fun e => (hbk m e).2.1 rfl) ?_
    intro x u g hx hne hu hg
    exact hD.files.apart x n u va g hne hx (hva g hg) hu hg
  · intro i hi
    rcases hi with q | q
    · exact hS i q
    · exact q.2
  · intro y u g hy hu hg q
    rcases hM with e | e
    · have hg' : va.ownBlock = some g := by rw [← e]; exact q
      exact hD.files.apart y n u va g hy hu (hva g hg') hg hg'
    · have h1 := e g q
      have h2 := DiskM.row_lt hD hu hg
      omega
  · intro g hg
    rcases hM with e | e
    · exact .inl (hbk g (by rw [← e]; exact hg)).2.2
    · have h1 := e g hg
      exact .inr ⟨by omega, (hO.lt g hg).2⟩
  · refine ((Turned.ofBelow B1).trans (ht2.mono (T := S) (fun i _ e => by rw [e]; exact h.mine.1)) (fun _ _ q => q)).trans (ht3.mono (T := S) (fun i _ e => (hbk i e).2.2)) (fun _ _ q => q)

theorem lay_end {w3 w4 : World} {a' : Int} {d' : Dk} {f' : Bs → Option Value} (hm : S m) (hT : Turned S w w3) (hD : DiskM w4 b m f' a' k d' (Since S w w3)) (ht : Turned (fun i => i = m) w3 w4) : DiskAt w4 b d' (Since S w w4) ∧ Turned S w w4 := by
  refine ⟨⟨m, f', a', k, DiskX.mono hD (fun i hi => ?_) (fun _ q => q) (fun i hi => ?_)⟩, hT.trans (ht.mono (T := S) (fun i _ e => by rw [e]; exact hm)) (fun _ _ q => q)⟩
  · rcases hi with q | q
    · exact .inl q
    · exact .inr ⟨q.1, Nat.lt_of_lt_of_le q.2 ht.size⟩
  · rcases hi with q | q
    · exact hD.lt i (.inl q)
    · exact q.2

set_option maxRecDepth 100000 in
theorem bslice_j {v : Value} {xs : Bs} {j : Nat} (w0 : World) (h : BAt w0 v xs) (hj : j ≤ xs.length) :
    ∃ v', (∀ w, (Instr.slice 31 v none (some (.int .i64 (j : Int))) none).run Try.prog w = .ok v' w) ∧ ∀ w, BAt w v xs → BAt w v' (xs.take j) := by
  obtain ⟨i0, hi0, hz0, hz1, hz2⟩ := info_parts Try.info5
  obtain ⟨ao, c, rfl, h1, h2, h3⟩ := h
  refine ⟨.slice (if c = 0 then ao else ao.map (·.add 0)) j c, fun w => ?_, fun w hB => ?_⟩
  · rw [run_slice_h w 31 ao xs.length c Try.underlying31 .i64 (j : Int) (by omega) (by omega)]
    have : (sizeOf (Try.prog.elem 31)).run Try.prog w = .ok 1 w := by
      have he : Try.prog.elem 31 = 5 := by kernel_rfl
      rw [he]
      simp [sizeOf, typeInfo, hi0, hz1]
    rw [this]
    simp [Result.andThen, sliced]
  · obtain ⟨ao', c', e, _, _, h3⟩ := hB
    cases e
    have hlen : (xs.take j).length = j := by rw [List.length_take]; omega
    refine ⟨_, c, by rw [hlen], by omega, h2, ?_⟩
    have key : (if c = 0 then ao else ao.map (·.add 0)) = ao ∨ xs = [] := by
      by_cases hx : 0 < xs.length
      · obtain ⟨b, off, rfl, _⟩ := h3 hx
        left
        split
        · rfl
        · simp [addr_plus]
      · right
        exact List.eq_nil_of_length_eq_zero (by omega)
    rcases key with q | q
    · rw [q]
      exact h3.take j
    · rw [q, List.take_nil]
      exact RdG.nil _ _ _

set_option maxHeartbeats 400000 in
set_option maxRecDepth 100000 in
theorem lay_bad (b : Nat) (n : Bs) (hg : isName n = false) (va v : Value) : Calls Try.prog 36 #[.pointer (some ⟨b, 0, none⟩), tx n, va, v] w fun e w' => e = .returned (.int .i64 2) ∧ w' = w := by
  have hc := name_at n false hg w
  clear hg
  go_enter Try.func36, Try.ntmps36
  go_wp2_with fail
  refine hc.mono ?_
  rintro e w1 ⟨rfl, rfl⟩
  go_wp2
  go_ret
  exact ⟨rfl, rfl⟩

set_option maxHeartbeats 800000 in
set_option maxRecDepth 100000 in
theorem lay_full (h : DiskM w b m f a k d S) (n : Bs) (hg : isName n = true) (hn : n.length ≤ maxLen) {va v : Value} {own : Bs} {xss : List Bs} (hva : OwnB w va own) (hz : own.length ≤ 262144) (hp : PartsB w v xss) (hl : xss.length ≤ 1000000) (hx : ∀ x ∈ xss, x.length ≤ 140737488355328)
    (hf : (decide (own.length + xss.flatten.length ≤ 262144) && ((fget d.files n).isSome || decide (d.files.length < 32))) = false) :
    Calls Try.prog 36 #[.pointer (some ⟨b, 0, none⟩), tx n, va, v] w fun e w' => e = .returned (.int .i64 7) ∧ w' = w := by
  have hc := name_at n true hg w
  have hr := room_any h n hn own.length hz hp hl hx false hf
  obtain ⟨ao, cc, rfl, _⟩ := OwnG.form hva
  clear hg h hva hp hx hf
  go_enter Try.func36, Try.ntmps36
  go_wp2_with fail
  refine hc.mono ?_
  rintro e w1 ⟨rfl, rfl⟩
  go_wp2_with fail
  refine hr.mono ?_
  rintro e w1 ⟨rfl, rfl⟩
  go_wp2
  go_ret
  exact ⟨rfl, rfl⟩

set_option maxHeartbeats 800000 in
set_option maxRecDepth 100000 in
theorem lay_dead (h : DiskM w b m f a k d S) (hd : d.dead = true) (n : Bs) (hg : isName n = true) (hn : n.length ≤ maxLen) {va v : Value} {own : Bs} {xss : List Bs} (hva : OwnB w va own) (hz : own.length ≤ 262144) (hp : PartsB w v xss) (hl : xss.length ≤ 1000000) (hx : ∀ x ∈ xss, x.length ≤ 140737488355328)
    (hf : (decide (own.length + xss.flatten.length ≤ 262144) && ((fget d.files n).isSome || decide (d.files.length < 32))) = true) :
    Calls Try.prog 36 #[.pointer (some ⟨b, 0, none⟩), tx n, va, v] w fun e w' => e = .returned (.int .i64 8) ∧ w' = w := by
  have hc := name_at n true hg w
  have hr := room_any h n hn own.length hz hp hl hx true hf
  have c2 := h.cell.2.2.1
  rw [hd] at c2
  obtain ⟨ao, cc, rfl, _⟩ := OwnG.form hva
  clear hg h hva hp hx hf hd
  go_enter Try.func36, Try.ntmps36
  go_wp2_with fail
  refine hc.mono ?_
  rintro e w1 ⟨rfl, rfl⟩
  go_wp2_with fail
  refine hr.mono ?_
  rintro e w1 ⟨rfl, rfl⟩
  go_wp2
  go_ret
  exact ⟨rfl, rfl⟩

set_option maxHeartbeats 1600000 in
set_option maxRecDepth 100000 in
theorem lay_done (h : DiskM w b m f a k d S) (hr : FRise d.files) (hfl : d.files.length ≤ 1000) (hd : d.dead = false) (hdo : (dnext d).2.1 = true) (hb : d.after < 9223372036854775808) (hw : d.writes < 4611686018427387904) (n : Bs) (hg : isName n = true) (hn : n.length ≤ 140737488355328) {va v : Value} {own : Bs} {xss : List Bs}
    (hva : OwnB w va own) (hvf : ∀ g, va.ownBlock = some g → f n = some va) (hz : own.length ≤ 262144) (hp : PartsB w v xss) (hl : xss.length ≤ 1000000) (hx : ∀ x ∈ xss, x.length ≤ 140737488355328)
    (hf : (decide (own.length + xss.flatten.length ≤ 262144) && ((fget d.files n).isSome || decide (d.files.length < 32))) = true) :
    Calls Try.prog 36 #[.pointer (some ⟨b, 0, none⟩), tx n, va, v] w fun e w' => e = .returned (.int .i64 0) ∧ DiskAt w' b { (dnext d).1 with files := fwith d.files n (own ++ xss.flatten) } (Since S w w') ∧ Turned S w w' := by
  have hc := name_at n true hg w
  have hrm := room_any h n (by simp only [maxLen]; omega) own.length hz hp hl hx true hf
  have hsum : own.length + xss.flatten.length ≤ 262144 := by
    simp only [Bool.and_eq_true, decide_eq_true_eq] at hf
    exact hf.1
  have c2 := h.cell.2.2.1
  rw [hd] at c2
  have hcc := concat_any w hp hl (by omega)
  have hva' : OwnB w va own := hva
  obtain ⟨ao, cc, rfl, _⟩ := OwnG.form hva
  have H : Hid (DiskM w b m f a k d S ∧ FRise d.files ∧ d.files.length ≤ 1000 ∧ (dnext d).2.1 = true ∧ OwnB w (.slice ao own.length cc) own ∧ (∀ g, (Value.slice ao own.length cc).ownBlock = some g → f n = some (.slice ao own.length cc)) ∧ own.length + xss.flatten.length ≤ 262144) := ⟨h, hr, hfl, hdo, hva', hvf, hsum⟩
  clear hg h hva hp hx hf hd hr hfl hdo hva' hvf hsum
  go_enter Try.func36, Try.ntmps36
  go_wp2_with fail
  refine hc.mono ?_
  rintro e w1 ⟨rfl, hw1⟩
  rw [hw1]
  clear hw1 w1
  go_wp2_with fail
  refine hrm.mono ?_
  rintro e w1 ⟨rfl, hw1⟩
  rw [hw1]
  clear hw1 w1
  go_wp2_with fail
  refine hcc.mono ?_
  rintro e w1 ⟨vb, rfl, O1, B1⟩
  have hwr := write_any (H.out.1.below B1) hb hw
  have W1 : Hid (OwnG encB 5 w1 w.heap.size vb xss.flatten ∧ Below w.heap.size w w1) := ⟨O1, B1⟩
  clear O1 B1 hcc
  go_wp2_with fail
  refine hwr.mono ?_
  rintro e w2 ⟨r, a', rfl, hr, hD, ht2⟩
  have er : r = 0 := by rw [hr.out, if_pos H.out.2.2.2.1]
  subst er
  have W2 : Hid (DiskM w2 b m f a' k (dnext d).1 S ∧ Turned (fun i => i = b) w1 w2) := ⟨hD, ht2⟩
  have b2 : Hid (BAt w2 vb xss.flatten ∧ OwnB w2 (.slice ao own.length cc) own) := by
    refine ⟨?_, ?_⟩
    · refine OwnB.at (OwnB.turned (OwnG.low W1.out.1 (Nat.zero_le _)) ht2 (fun g hg e => ?_))
      have := (W1.out.1.lt g hg).1
      have := H.out.1.lt_b
      rw [e] at *
      omega
    · refine OwnB.turned (OwnG.below H.out.2.2.2.2.1 W1.out.2) ht2 (fun g hg e => ?_)
      exact (DiskM.row_ne H.out.1 (H.out.2.2.2.2.2.1 g hg) hg).1 e
  clear hwr hr hD ht2
  go_wp2_with (at_builtin; (refine appB rfl (.tmp 46) (.tmp 47) rfl 0 _ _ own xss.flatten rfl b2.out.2 rfl b2.out.1 (by have := H.out.2.2.2.2.2.2; omega) (Nat.zero_le _) ?_; intro v3 w3 O3 _ M3 T3))
  have L := lay_mid H.out.1 H.out.2.2.2.2.2.1 W1.out.2 W2.out.1 W2.out.2 O3 M3 T3
  have ef : (dnext d).1.files = d.files := dnext_files d
  have hs := set_any L.1 (by rw [ef]; exact H.out.2.1) (by rw [ef]; exact H.out.2.2.1) hn (fun x q => q) O3 L.2.1 L.2.2.1
  have LH : Hid (Turned S w w3) := L.2.2.2
  clear L O3 M3 T3
  go_wp2_with fail
  refine hs.mono ?_
  rintro e w4 ⟨rfl, D4, T4⟩
  have E := lay_end H.out.1.mine.2 LH.out D4 T4
  rw [ef] at E
  clear D4 T4 hs
  go_wp2
  go_ret
  exact ⟨rfl, E.1, E.2⟩

set_option maxHeartbeats 1600000 in
set_option maxRecDepth 100000 in
theorem lay_torn (h : DiskM w b m f a k d S) (hr : FRise d.files) (hfl : d.files.length ≤ 1000) (hd : d.dead = false) (ha : d.armed = true) (h0 : d.after = 0) (hb : d.after < 9223372036854775808) (hw : d.writes < 4611686018427387904) (n : Bs) (hg : isName n = true) (hn : n.length ≤ 140737488355328) {va v : Value} {own : Bs} {xss : List Bs}
    (hva : OwnB w va own) (hvf : ∀ g, va.ownBlock = some g → f n = some va) (hz : own.length ≤ 262144) (hp : PartsB w v xss) (hl : xss.length ≤ 1000000) (hx : ∀ x ∈ xss, x.length ≤ 140737488355328)
    (hf : (decide (own.length + xss.flatten.length ≤ 262144) && ((fget d.files n).isSome || decide (d.files.length < 32))) = true) :
    Calls Try.prog 36 #[.pointer (some ⟨b, 0, none⟩), tx n, va, v] w fun e w' => e = .returned (.int .i64 8) ∧ DiskAt w' b { (dnext d).1 with files := fwith d.files n (own ++ xss.flatten.take d.keep) } (Since S w w') ∧ Turned S w w' := by
  have hc := name_at n true hg w
  have hrm := room_any h n (by simp only [maxLen]; omega) own.length hz hp hl hx true hf
  have hsum : own.length + xss.flatten.length ≤ 262144 := by
    simp only [Bool.and_eq_true, decide_eq_true_eq] at hf
    exact hf.1
  have hdo : (dnext d).2.1 = false := by rw [dnext_torn hd ha h0]
  have ek : k = (d.keep : Int) := (h.cut ha).2
  subst ek
  have c2 := h.cell.2.2.1
  rw [hd] at c2
  have hcc := concat_any w hp hl (by omega)
  have hva' : OwnB w va own := hva
  obtain ⟨ao, cc, rfl, _⟩ := OwnG.form hva
  have H : Hid (DiskM w b m f a (d.keep : Int) d S ∧ FRise d.files ∧ d.files.length ≤ 1000 ∧ (dnext d).2.1 = false ∧ OwnB w (.slice ao own.length cc) own ∧ (∀ g, (Value.slice ao own.length cc).ownBlock = some g → f n = some (.slice ao own.length cc)) ∧ own.length + xss.flatten.length ≤ 262144) := ⟨h, hr, hfl, hdo, hva', hvf, hsum⟩
  clear hg h hva hp hx hf hd hr hfl hdo hva' hvf hsum
  go_enter Try.func36, Try.ntmps36
  go_wp2_with fail
  refine hc.mono ?_
  rintro e w1 ⟨rfl, hw1⟩
  rw [hw1]
  clear hw1 w1
  go_wp2_with fail
  refine hrm.mono ?_
  rintro e w1 ⟨rfl, hw1⟩
  rw [hw1]
  clear hw1 w1
  go_wp2_with fail
  refine hcc.mono ?_
  rintro e w1 ⟨vb, rfl, O1, B1⟩
  have hwr := write_any (H.out.1.below B1) hb hw
  have W1 : Hid (OwnG encB 5 w1 w.heap.size vb xss.flatten ∧ Below w.heap.size w w1) := ⟨O1, B1⟩
  clear O1 B1 hcc
  go_wp2_with fail
  refine hwr.mono ?_
  rintro e w2 ⟨r, a', rfl, hr, hD, ht2⟩
  have er : r = 8 := by rw [hr.out, if_neg (by rw [H.out.2.2.2.1]; simp)]
  subst er
  have W2 : Hid (DiskM w2 b m f a' (d.keep : Int) (dnext d).1 S ∧ Turned (fun i => i = b) w1 w2) := ⟨hD, ht2⟩
  have b2 : Hid (BAt w2 vb xss.flatten ∧ OwnB w2 (.slice ao own.length cc) own) := by
    refine ⟨?_, ?_⟩
    · refine OwnB.at (OwnB.turned (OwnG.low W1.out.1 (Nat.zero_le _)) ht2 (fun g hg e => ?_))
      have := (W1.out.1.lt g hg).1
      have := H.out.1.lt_b
      rw [e] at *
      omega
    · refine OwnB.turned (OwnG.below H.out.2.2.2.2.1 W1.out.2) ht2 (fun g hg e => ?_)
      exact (DiskM.row_ne H.out.1 (H.out.2.2.2.2.2.1 g hg) hg).1 e
  clear hwr hr hD ht2
  have c5 := W2.out.1.cell.2.2.2.2.2.1
  obtain ⟨K, eK⟩ : ∃ K, d.keep = K := ⟨_, rfl⟩
  rw [eK] at c5
  have b3 := b2.out.1
  obtain ⟨ab, cb, rfl, h31, h32, h33⟩ := b3
  obtain ⟨L, eL⟩ : ∃ L, xss.flatten.length = L := ⟨_, rfl⟩
  obtain ⟨J, eJ⟩ : ∃ J, min K L = J := ⟨_, rfl⟩
  have mj : min (K : Int) (L : Int) = (J : Int) := by omega
  have b4 : Hid (BAt w2 (.slice ab J cb) (xss.flatten.take K)) := by
    have e : (xss.flatten.take K).length = J := by rw [List.length_take, eL, eJ]
    exact ⟨ab, cb, by rw [e], by rw [e]; omega, h32, h33.take K⟩
  have hJ : J ≤ L := by omega
  have hJc : (J : Int) ≤ (cb : Int) := by omega
  rw [eL]
  have ef : (dnext d).1.files = d.files := dnext_files d
  have tl : (xss.flatten.take K).length ≤ xss.flatten.length := by rw [List.length_take]; omega
  have T : Hid (own.length + (xss.flatten.take K).length ≤ 262144) := by have := H.out.2.2.2.2.2.2; show _ ≤ _; omega
  clear h31 h32 h33 eJ tl
  cases ab
  all_goals go_wp2_with (at_builtin; (refine appB rfl (.tmp 46) (.tmp 47) rfl 0 _ _ own (xss.flatten.take K) rfl b2.out.2 rfl b4.out (by have := T.out; omega) (Nat.zero_le _) ?_; intro v3 w3 O3 _ M3 T3))
  all_goals have LL := lay_mid H.out.1 H.out.2.2.2.2.2.1 W1.out.2 W2.out.1 W2.out.2 O3 M3 T3
  all_goals have hs := set_any LL.1 (by rw [ef]; exact H.out.2.1) (by rw [ef]; exact H.out.2.2.1) hn (fun x q => q) O3 LL.2.1 LL.2.2.1
  all_goals have LH : Hid (Turned S w w3) := LL.2.2.2
  all_goals clear LL O3 M3 T3
  all_goals go_wp2_with fail
  all_goals refine hs.mono ?_
  all_goals rintro e w4 ⟨rfl, D4, T4⟩
  all_goals have E := lay_end H.out.1.mine.2 LH.out D4 T4
  all_goals rw [ef] at E
  all_goals clear D4 T4 hs
  all_goals go_wp2
  all_goals go_ret
  all_goals exact ⟨rfl, by rw [eK]; exact E.1, E.2⟩

/-- What holds of every disk that calls have made. -/
structure Dk.ok (d : Dk) : Prop where
  rise : FRise d.files
  few : d.files.length ≤ 32
  each : ∀ f ∈ d.files, isName f.1 = true ∧ f.2.length ≤ 262144
  after : d.after < 9223372036854775808

theorem Dk.ok.get (h : Dk.ok d) {n bs : Bs} (hg : fget d.files n = some bs) : bs.length ≤ 262144 := (h.each _ (fget_mem hg)).2

theorem since_same (S : Nat → Prop) (w : World) : ∀ i, Since S w w i → S i := by
  intro i h
  rcases h with q | q
  · exact q
  · omega

theorem DiskM.same (h : DiskM w b m f a k d S) : DiskAt w b d (Since S w w) := ⟨m, f, a, k, DiskX.mono h (fun _ q => .inl q) (fun _ q => q) (fun i hi => h.lt i (since_same S w i hi))⟩

theorem lay_any (h : DiskM w b m f a k d S) (hk : d.ok) (hw : d.writes < 4611686018427387904) (n : Bs) (hn : n.length ≤ 140737488355328) {va v : Value} {own : Bs} {xss : List Bs}
    (hva : OwnB w va own) (hvf : ∀ g, va.ownBlock = some g → f n = some va) (hz : own.length ≤ 262144) (hp : PartsB w v xss) (hl : xss.length ≤ 1000000) (hx : ∀ x ∈ xss, x.length ≤ 140737488355328) :
    Calls Try.prog 36 #[.pointer (some ⟨b, 0, none⟩), tx n, va, v] w fun e w' => ∃ r, e = .returned (.int .i64 r) ∧ Hid (r = (dlay d n own xss.flatten).2) ∧ DiskAt w' b (dlay d n own xss.flatten).1 (Since S w w') ∧ Turned S w w' := by
  have hn' : n.length ≤ maxLen := by simp only [maxLen]; omega
  unfold dlay
  by_cases hg : isName n = false
  · refine (lay_bad b n hg va v).mono ?_
    rintro e w' ⟨rfl, rfl⟩
    rw [if_pos hg]
    exact ⟨2, rfl, rfl, DiskM.same h, Turned.refl _ _⟩
  · rw [if_neg hg]
    have hg' : isName n = true := by simpa using hg
    by_cases hfull : 262144 < own.length + xss.flatten.length ∨ (fget d.files n = none ∧ 32 ≤ d.files.length)
    · have hf : (decide (own.length + xss.flatten.length ≤ 262144) && ((fget d.files n).isSome || decide (d.files.length < 32))) = false := by
        rcases hfull with q | ⟨q1, q2⟩
        · rw [decide_eq_false (by omega)]; rfl
        · rw [q1, decide_eq_false (p := d.files.length < 32) (by omega)]; simp
      refine (lay_full h n hg' hn' hva hz hp hl hx hf).mono ?_
      rintro e w' ⟨rfl, rfl⟩
      rw [if_pos hfull]
      exact ⟨7, rfl, rfl, DiskM.same h, Turned.refl _ _⟩
    · rw [if_neg hfull]
      have hf : (decide (own.length + xss.flatten.length ≤ 262144) && ((fget d.files n).isSome || decide (d.files.length < 32))) = true := by
        rw [decide_eq_true (by omega), Bool.true_and]
        cases q : fget d.files n with
        | none => rw [decide_eq_true (p := d.files.length < 32) (by have : ¬ (32 ≤ d.files.length) := fun q2 => hfull (.inr ⟨q, q2⟩); omega)]; rfl
        | some _ => rfl
      by_cases hd : d.dead = true
      · refine (lay_dead h hd n hg' hn' hva hz hp hl hx hf).mono ?_
        rintro e w' ⟨rfl, rfl⟩
        rw [dnext_dead hd]
        exact ⟨8, rfl, rfl, DiskM.same h, Turned.refl _ _⟩
      · have hd : d.dead = false := by simpa using hd
        by_cases hto : d.armed = true ∧ d.after = 0
        · refine (lay_torn h hk.rise (by have := hk.few; omega) hd hto.1 hto.2 hk.after hw n hg' hn hva hvf hz hp hl hx hf).mono ?_
          rintro e w' ⟨rfl, h1, h2⟩
          rw [dnext_torn hd hto.1 hto.2] at h1 ⊢
          exact ⟨8, rfl, rfl, h1, h2⟩
        · have hdo : (dnext d).2.1 = true := by
            by_cases ha : d.armed = true
            · rw [dnext_armed hd ha (fun q => hto ⟨ha, q⟩)]
            · rw [dnext_plain hd (by simpa using ha)]
          refine (lay_done h hk.rise (by have := hk.few; omega) hd hdo hk.after hw n hg' hn hva hvf hz hp hl hx hf).mono ?_
          rintro e w' ⟨rfl, h1, h2⟩
          rw [if_pos hdo]
          exact ⟨0, rfl, rfl, h1, h2⟩

set_option maxHeartbeats 400000 in
set_option maxRecDepth 100000 in
/-- disk.Put. -/
theorem put_at (h : DiskAt w b d S) (hk : d.ok) (hw : d.writes < 4611686018427387904) (n : Bs) (hn : n.length ≤ 140737488355328) {v : Value} {xss : List Bs} (hp : PartsB w v xss) (hl : xss.length ≤ 1000000) (hx : ∀ x ∈ xss, x.length ≤ 140737488355328) :
    Calls Try.prog 17 #[.pointer (some ⟨b, 0, none⟩), tx n, v] w fun e w' => ∃ r, e = .returned (.int .i64 r) ∧ Hid (r = (dput d n xss.flatten).2) ∧ DiskAt w' b (dput d n xss.flatten).1 (Since S w w') ∧ Turned S w w' := by
  obtain ⟨m, f, a, k, h⟩ := h
  have hc := lay_any h hk hw n hn (OwnG.nil encB 5 w 0) (fun g hg => by simp [Value.ownBlock] at hg) (by simp) hp hl hx
  clear h hp
  go_enter Try.func17, Try.ntmps17
  go_wp2_with fail
  refine hc.mono ?_
  rintro e w1 ⟨r, rfl, h1, h2, h3⟩
  have H : Hid _ := And.intro h2 h3
  clear h2 h3
  go_wp2
  go_ret
  exact ⟨r, rfl, h1, H.out.1, H.out.2⟩

set_option maxHeartbeats 400000 in
set_option maxRecDepth 100000 in
/-- disk.Append. -/
theorem append_at (h : DiskAt w b d S) (hk : d.ok) (hw : d.writes < 4611686018427387904) (n : Bs) (hn : n.length ≤ 140737488355328) {v : Value} {xss : List Bs} (hp : PartsB w v xss) (hl : xss.length ≤ 1000000) (hx : ∀ x ∈ xss, x.length ≤ 140737488355328) :
    Calls Try.prog 16 #[.pointer (some ⟨b, 0, none⟩), tx n, v] w fun e w' => ∃ r, e = .returned (.int .i64 r) ∧ Hid (r = (dapp d n xss.flatten).2) ∧ DiskAt w' b (dapp d n xss.flatten).1 (Since S w w') ∧ Turned S w w' := by
  obtain ⟨m, f, a, k, h⟩ := h
  have hlk := h.look1 n (by simp only [maxLen]; omega) _ rfl
  have c0 := h.cell.1
  have hc : Calls Try.prog 36 #[.pointer (some ⟨b, 0, none⟩), tx n, (f n).getD (.slice none 0 0), v] w fun e w' => ∃ r, e = .returned (.int .i64 r) ∧ Hid (r = (dapp d n xss.flatten).2) ∧ DiskAt w' b (dapp d n xss.flatten).1 (Since S w w') ∧ Turned S w w' := by
    unfold dapp
    rcases h.file n with ⟨h1, h2⟩ | ⟨bs, u, h1, h2, ho⟩
    · rw [h1, h2]
      exact lay_any h hk hw n hn (OwnG.nil encB 5 w 0) (fun g hg => by simp [Value.ownBlock] at hg) (by simp) hp hl hx
    · rw [h1, h2]
      exact lay_any h hk hw n hn (ho.elim False.elim id) (fun g hg => h2) (hk.get h1) hp hl hx
  obtain ⟨u, hu⟩ : ∃ u, (f n).getD (.slice none 0 0) = u := ⟨_, rfl⟩
  rw [hu] at hc hlk
  clear h hp hu
  go_enter Try.func16, Try.ntmps16
  go_wp2_with fail
  refine hc.mono ?_
  rintro e w1 ⟨r, rfl, h1, h2, h3⟩
  have H : Hid _ := And.intro h2 h3
  clear h2 h3
  go_wp2
  go_ret
  exact ⟨r, rfl, h1, H.out.1, H.out.2⟩

end
end Go.Proofs.Ytlhlipjbcapidaa
