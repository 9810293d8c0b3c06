/-
  Trim, Rename and Remove of the program's disk, each by a contract over the document's disk. No condition but that what is handed in is no longer than any memory holds.
-/
import Derived.Test.YtlhlipjbcapidaaLay
namespace Go.Proofs.Ytlhlipjbcapidaa
open Go.RowKit

theorem out_len {l : Fs} {n v : Bs} (h : FRise l) (hv : fget l n = some v) : (fout l n).length = l.length - 1 := by
  have e : fwith (fout l n) n v = l := by
    refine fs_ext (rise_with n v (rise_out n h)) h (fun m => ?_)
    rw [fget_with n v m (rise_out n h), fget_out]
    by_cases q : n = m
    · rw [if_pos q, ← q, hv]
    · rw [if_neg q, if_neg q]
  have hl := with_len n v (rise_out n h)
  rw [e, fget_out, if_pos rfl] at hl
  simp at hl
  omega

/-- delete(m, k), as one step. -/
theorem del_step {ops : Array Oper} {rest : List Oper} {o : Oper} {a : Act} {w : World} {Q : Exit → Act → World → Prop} (hgd : o.guard = none) (mo x : Operand)
    (hop : o.op = .call { callee := .builtin .delete, args := #[mo, x], argTypes := #[54, 9] }) (m c : Nat) (f : Bs → Option Value) (hm : a.eval mo = .map (some m)) (h : MapIs w m f c) (n : Bs) (hn : n.length ≤ maxLen) (hx : a.eval x = tx n) (hi : (f n).isSome = true)
    (hK : ∀ w', MapIs w' m (fdel f n) (c - 1) → w.grownBy w' (some m) → wpList Try.prog ops Q rest (a.put o.dst (.tuple #[])) w') : wpList Try.prog ops Q (o :: rest) a w := by
  refine wpList_plain hgd fun K' hK' => ?_
  obtain ⟨w', hrun, r1, r2⟩ := h.del ⟨n.toArray⟩ (by rw [str_size]; exact hn) hi o.type
  unfold Oper.wp
  simp [execOp, hop, resolve, invoke, builtin, hm, hx, hrun, Result.andThen]
  exact hK' _ _ (hK w' r1 r2)

section
variable {S : Nat → Prop} {X : Bs → Prop} {w : World} {b m : Nat} {f : Bs → Option Value} {a k : Int} {d : Dk}

theorem DiskM.outOf (h : DiskM w b m f a k d S) (hr : FRise d.files) {n bs : Bs} (hb : fget d.files n = some bs) {w' : World} (hg : w.grownBy w' (some m)) (hm : MapIs w' m (fdel f n) (d.files.length - 1)) : DiskM w' b m (fdel f n) a k { d with files := fout d.files n } S := by
  have ht : Turned (fun i => i = m) w w' := grown_turned hg
  refine ⟨?_, h.cut, ⟨?_, ?_, ?_, ?_, ?_⟩, h.mine, fun i hi => Nat.lt_of_lt_of_le (h.lt i hi) hg.size⟩
  · rw [ht.block b h.lt_b (fun e => h.m_ne e.symm)]
    exact h.cells
  · show MapIs w' m (fdel f n) (fout d.files n).length
    rw [out_len hr hb]
    exact hm
  · intro x hx
    unfold fdel
    split
    · rfl
    · rename_i e
      have hx' : fget (fout d.files n) x = none := hx
      rw [fget_out, if_neg (fun q => e q.symm)] at hx'
      exact h.files.no x hx'
  · intro x cs hx
    have hx' : fget (fout d.files n) x = some cs := hx
    rw [fget_out] at hx'
    by_cases e : n = x
    · rw [if_pos e] at hx'; cases hx'
    · rw [if_neg e] at hx'
      obtain ⟨u, hu, ho⟩ := h.files.yes x cs hx'
      refine ⟨u, ?_, .inr ((ho.elim False.elim id).turned ht (fun g hg' => (DiskM.row_ne h hu hg').2))⟩
      unfold fdel
      rw [if_neg (fun q => e q.symm)]
      exact hu
  · intro x y u v g hxy hx hy hu
    unfold fdel at hx hy
    split at hx
    · cases hx
    · split at hy
      · cases hy
      · exact h.files.apart x y u v g hxy hx hy hu
  · intro x u g hx hu
    unfold fdel at hx
    split at hx
    · cases hx
    · exact h.files.own x u g hx hu

set_option maxHeartbeats 800000 in
set_option maxRecDepth 100000 in
theorem remove_bad (b : Nat) (n : Bs) (hg : isName n = false) : Calls Try.prog 19 #[.pointer (some ⟨b, 0, none⟩), tx n] w fun e w' => e = .returned (.int .i64 2) ∧ w' = w := by
  have hc := find_bad (w := w) b n hg
  clear hg
  go_enter Try.func19, Try.ntmps19
  go_wp2_with fail
  refine hc.mono ?_
  rintro e w1 ⟨rfl, rfl⟩
  go_wp2
  go_ret
  exact ⟨rfl, rfl⟩

set_option maxHeartbeats 800000 in
set_option maxRecDepth 100000 in
theorem remove_none (h : DiskM w b m f a k d S) (n : Bs) (hg : isName n = true) (hn : n.length ≤ maxLen) (hf : f n = none) : Calls Try.prog 19 #[.pointer (some ⟨b, 0, none⟩), tx n] w fun e w' => e = .returned (.int .i64 5) ∧ w' = w := by
  have hc := find_none h n hg hn hf
  clear h hg hf
  go_enter Try.func19, Try.ntmps19
  go_wp2_with fail
  refine hc.mono ?_
  rintro e w1 ⟨rfl, rfl⟩
  go_wp2
  go_ret
  exact ⟨rfl, rfl⟩

set_option maxHeartbeats 800000 in
set_option maxRecDepth 100000 in
theorem remove_off (h : DiskM w b m f a k d S) (n : Bs) (hg : isName n = true) (hn : n.length ≤ maxLen) {v : Value} (hf : f n = some v) (hb : d.after < 9223372036854775808) (hw : d.writes < 4611686018427387904) (hdo : (dnext d).2.1 = false) :
    Calls Try.prog 19 #[.pointer (some ⟨b, 0, none⟩), tx n] w fun e w' => e = .returned (.int .i64 8) ∧ ∃ a', DiskM w' b m f a' k (dnext d).1 S ∧ Turned (fun i => i = b) w w' := by
  have hc := find_ok h n hg hn hf
  have hwr := write_any h hb hw
  clear h hg hf
  go_enter Try.func19, Try.ntmps19
  go_wp2_with fail
  refine hc.mono ?_
  rintro e w1 ⟨rfl, hw1⟩
  rw [hw1]
  clear hw1 w1
  go_wp2_with fail
  refine hwr.mono ?_
  rintro e w2 ⟨r, a', rfl, hr, hD, ht2⟩
  have er : r = 8 := by rw [hr.out, if_neg (by rw [hdo]; simp)]
  subst er
  have W2 : Hid (DiskM w2 b m f a' k (dnext d).1 S ∧ Turned (fun i => i = b) w w2) := ⟨hD, ht2⟩
  clear hD ht2 hr
  go_wp2
  go_ret
  exact ⟨rfl, a', W2.out⟩

set_option maxHeartbeats 800000 in
set_option maxRecDepth 100000 in
theorem remove_ok (h : DiskM w b m f a k d S) (hrise : FRise d.files) (n : Bs) (hg : isName n = true) (hn : n.length ≤ maxLen) {v : Value} {bs : Bs} (hf : f n = some v) (hbs : fget d.files n = some bs) (hb : d.after < 9223372036854775808) (hw : d.writes < 4611686018427387904) (hdo : (dnext d).2.1 = true) :
    Calls Try.prog 19 #[.pointer (some ⟨b, 0, none⟩), tx n] w fun e w' => e = .returned (.int .i64 0) ∧ ∃ a' f', DiskM w' b m f' a' k { (dnext d).1 with files := fout d.files n } S ∧ Turned S w w' := by
  have hc := find_ok h n hg hn hf
  have hwr := write_any h hb hw
  have H : Hid (DiskM w b m f a k d S ∧ FRise d.files ∧ f n = some v ∧ fget d.files n = some bs) := ⟨h, hrise, hf, hbs⟩
  clear h hg hf hrise hbs
  go_enter Try.func19, Try.ntmps19
  go_wp2_with fail
  refine hc.mono ?_
  rintro e w1 ⟨rfl, hw1⟩
  rw [hw1]
  clear hw1 w1
  go_wp2_with fail
  refine hwr.mono ?_
  rintro e w2 ⟨r, a', rfl, hr, hD, ht2⟩
  have er : r = 0 := by rw [hr.out, if_pos hdo]
  subst er
  have c0 := hD.cell.1
  have ef : (dnext d).1.files = d.files := dnext_files d
  have W2 : Hid (DiskM w2 b m f a' k (dnext d).1 S ∧ Turned (fun i => i = b) w w2) := ⟨hD, ht2⟩
  clear hD ht2 hr hwr hc
  go_wp2_with (at_delete; (refine del_step rfl (.tmp 25) (.tmp 26) rfl m (dnext d).1.files.length f rfl W2.out.1.files.map n hn rfl (by rw [H.out.2.2.1]; rfl) ?_; intro w3 hm3 hg3))
  go_wp2
  go_ret
  have D3 := DiskM.outOf W2.out.1 (by rw [ef]; exact H.out.2.1) (by rw [ef]; exact H.out.2.2.2) hg3 hm3
  rw [ef] at D3
  exact ⟨rfl, a', _, D3, (W2.out.2.mono (T := S) (fun i _ e => by rw [e]; exact H.out.1.mine.1)).trans ((grown_turned hg3).mono (T := S) (fun i _ e => by rw [e]; exact H.out.1.mine.2)) (fun _ _ q => q)⟩

theorem turned_mine {w' : World} (hb : S b) (h : Turned (fun i => i = b) w w') : Turned S w w' := h.mono (T := S) (fun i _ e => by rw [e]; exact hb)

theorem DiskM.since {w' : World} {d' : Dk} {f' : Bs → Option Value} {a' : Int} (hD : DiskM w' b m f' a' k d' S) (w : World) : DiskAt w' b d' (Since S w w') :=
  ⟨m, f', a', k, DiskX.mono hD (fun _ q => .inl q) (fun _ q => q) (fun i hi => by
    rcases hi with q | q
    · exact hD.lt i q
    · exact q.2)⟩

/-- disk.Remove. -/
theorem remove_at (h : DiskAt w b d S) (hk : d.ok) (hw : d.writes < 4611686018427387904) (n : Bs) (hn : n.length ≤ 140737488355328) :
    Calls Try.prog 19 #[.pointer (some ⟨b, 0, none⟩), tx n] w fun e w' => ∃ r, e = .returned (.int .i64 r) ∧ Hid (r = (drem d n).2) ∧ DiskAt w' b (drem d n).1 (Since S w w') ∧ Turned S w w' := by
  obtain ⟨m, f, a, k, h⟩ := h
  have hn' : n.length ≤ maxLen := by simp only [maxLen]; omega
  unfold drem
  by_cases hg : isName n = false
  · refine (remove_bad b n hg).mono ?_
    rintro e w' ⟨rfl, rfl⟩
    rw [if_pos hg]
    exact ⟨2, rfl, rfl, DiskM.same h, Turned.refl _ _⟩
  · rw [if_neg hg]
    have hg' : isName n = true := by simpa using hg
    rcases h.file n with ⟨h1, h2⟩ | ⟨bs, v, h1, h2, ho⟩
    · refine (remove_none h n hg' hn' h2).mono ?_
      rintro e w' ⟨rfl, rfl⟩
      rw [h1]
      exact ⟨5, rfl, rfl, DiskM.same h, Turned.refl _ _⟩
    · rw [h1]
      by_cases hdo : (dnext d).2.1 = true
      · refine (remove_ok h hk.rise n hg' hn' h2 h1 hk.after hw hdo).mono ?_
        rintro e w' ⟨rfl, a', f', h3, h4⟩
        simp only [hdo, if_true]
        exact ⟨0, rfl, rfl, DiskM.since h3 w, h4⟩
      · have hdo' : (dnext d).2.1 = false := by simpa using hdo
        refine (remove_off h n hg' hn' h2 hk.after hw hdo').mono ?_
        rintro e w' ⟨rfl, a', h3, h4⟩
        simp only [hdo', Bool.false_eq_true, if_false]
        exact ⟨8, rfl, rfl, DiskM.since h3 w, turned_mine h.mine.1 h4⟩

set_option maxHeartbeats 800000 in
set_option maxRecDepth 100000 in
theorem rename_bad2 (b : Nat) (n t : Bs) (hg : isName t = false) : Calls Try.prog 21 #[.pointer (some ⟨b, 0, none⟩), tx n, tx t] w fun e w' => e = .returned (.int .i64 2) ∧ w' = w := by
  have hc := name_at t false hg w
  clear hg
  go_enter Try.func21, Try.ntmps21
  go_wp2_with fail
  refine hc.mono ?_
  rintro e w1 ⟨rfl, rfl⟩
  go_wp2
  go_ret
  exact ⟨rfl, rfl⟩

set_option maxHeartbeats 800000 in
set_option maxRecDepth 100000 in
theorem rename_bad (b : Nat) (n t : Bs) (ht : isName t = true) (hg : isName n = false) : Calls Try.prog 21 #[.pointer (some ⟨b, 0, none⟩), tx n, tx t] w fun e w' => e = .returned (.int .i64 2) ∧ w' = w := by
  have hc := name_at t true ht w
  have hf := find_bad (w := w) b n hg
  clear hg ht
  go_enter Try.func21, Try.ntmps21
  go_wp2_with fail
  refine hc.mono ?_
  rintro e w1 ⟨rfl, rfl⟩
  go_wp2_with fail
  refine hf.mono ?_
  rintro e w1 ⟨rfl, rfl⟩
  go_wp2
  go_ret
  exact ⟨rfl, rfl⟩

set_option maxHeartbeats 800000 in
set_option maxRecDepth 100000 in
theorem rename_none (h : DiskM w b m f a k d S) (n t : Bs) (ht : isName t = true) (hg : isName n = true) (hn : n.length ≤ maxLen) (hf : f n = none) : Calls Try.prog 21 #[.pointer (some ⟨b, 0, none⟩), tx n, tx t] w fun e w' => e = .returned (.int .i64 5) ∧ w' = w := by
  have hc := name_at t true ht w
  have hf := find_none h n hg hn hf
  clear hg ht h
  go_enter Try.func21, Try.ntmps21
  go_wp2_with fail
  refine hc.mono ?_
  rintro e w1 ⟨rfl, rfl⟩
  go_wp2_with fail
  refine hf.mono ?_
  rintro e w1 ⟨rfl, rfl⟩
  go_wp2
  go_ret
  exact ⟨rfl, rfl⟩

set_option maxHeartbeats 800000 in
set_option maxRecDepth 100000 in
theorem rename_off (h : DiskM w b m f a k d S) (n t : Bs) (ht : isName t = true) (hg : isName n = true) (hn : n.length ≤ maxLen) {v : Value} (hf : f n = some v) (hb : d.after < 9223372036854775808) (hw : d.writes < 4611686018427387904) (hdo : (dnext d).2.1 = false) :
    Calls Try.prog 21 #[.pointer (some ⟨b, 0, none⟩), tx n, tx t] w fun e w' => e = .returned (.int .i64 8) ∧ ∃ a', DiskM w' b m f a' k (dnext d).1 S ∧ Turned (fun i => i = b) w w' := by
  have hc := name_at t true ht w
  have hf := find_ok h n hg hn hf
  have hwr := write_any h hb hw
  clear h hg ht
  go_enter Try.func21, Try.ntmps21
  go_wp2_with fail
  refine hc.mono ?_
  rintro e w1 ⟨rfl, hw1⟩
  rw [hw1]
  clear hw1 w1
  go_wp2_with fail
  refine hf.mono ?_
  rintro e w1 ⟨rfl, hw1⟩
  rw [hw1]
  clear hw1 w1
  go_wp2_with fail
  refine hwr.mono ?_
  rintro e w2 ⟨r, a', rfl, hr, hD, ht2⟩
  have er : r = 8 := by rw [hr.out, if_neg (by rw [hdo]; simp)]
  subst er
  have W2 : Hid (DiskM w2 b m f a' k (dnext d).1 S ∧ Turned (fun i => i = b) w w2) := ⟨hD, ht2⟩
  clear hD ht2 hr
  go_wp2
  go_ret
  exact ⟨rfl, a', W2.out⟩

set_option maxHeartbeats 1600000 in
set_option maxRecDepth 100000 in
theorem rename_ok (h : DiskM w b m f a k d S) (hrise : FRise d.files) (hfl : d.files.length ≤ 1000) (n t : Bs) (ht : isName t = true) (htl : t.length ≤ 140737488355328) (hg : isName n = true) (hn : n.length ≤ maxLen) {v : Value} {bs : Bs} (hf : f n = some v) (hbs : fget d.files n = some bs)
    (hb : d.after < 9223372036854775808) (hw : d.writes < 4611686018427387904) (hdo : (dnext d).2.1 = true) :
    Calls Try.prog 21 #[.pointer (some ⟨b, 0, none⟩), tx n, tx t] w fun e w' => e = .returned (.int .i64 0) ∧ ∃ a' f', DiskM w' b m f' a' k { (dnext d).1 with files := fwith (fout d.files n) t bs } S ∧ Turned S w w' := by
  have hc := name_at t true ht w
  have hfi := find_ok h n hg hn hf
  have hwr := write_any h hb hw
  have hO : OwnB w v bs := by
    rcases h.file n with ⟨_, h2⟩ | ⟨bs', u, h1, h2, ho⟩
    · rw [h2] at hf; cases hf
    · rw [h2] at hf; cases hf
      rw [h1] at hbs; cases hbs
      exact ho.elim False.elim id
  have H : Hid (DiskM w b m f a k d S ∧ FRise d.files ∧ d.files.length ≤ 1000 ∧ f n = some v ∧ fget d.files n = some bs ∧ OwnB w v bs) := ⟨h, hrise, hfl, hf, hbs, hO⟩
  clear h hg ht hrise hfl hf hbs hO
  go_enter Try.func21, Try.ntmps21
  go_wp2_with fail
  refine hc.mono ?_
  rintro e w1 ⟨rfl, hw1⟩
  rw [hw1]
  clear hw1 w1
  go_wp2_with fail
  refine hfi.mono ?_
  rintro e w1 ⟨rfl, hw1⟩
  rw [hw1]
  clear hw1 w1
  go_wp2_with fail
  refine hwr.mono ?_
  rintro e w2 ⟨r, a', rfl, hr, hD, ht2⟩
  have er : r = 0 := by rw [hr.out, if_pos hdo]
  subst er
  have c0 := hD.cell.1
  have ef : (dnext d).1.files = d.files := dnext_files d
  have W2 : Hid (DiskM w2 b m f a' k (dnext d).1 S ∧ Turned (fun i => i = b) w w2) := ⟨hD, ht2⟩
  clear hD ht2 hr hwr hc hfi
  go_wp2_with (at_delete; (refine del_step rfl (.tmp 33) (.tmp 34) rfl m (dnext d).1.files.length f rfl W2.out.1.files.map n hn rfl (by rw [H.out.2.2.2.1]; rfl) ?_; intro w3 hm3 hg3))
  have D3 := DiskM.outOf W2.out.1 (by rw [ef]; exact H.out.2.1) (by rw [ef]; exact H.out.2.2.2.2.1) hg3 hm3
  have T3 : Hid (Turned S w w3) := (turned_mine H.out.1.mine.1 W2.out.2).trans ((grown_turned hg3).mono (T := S) (fun i _ e => by rw [e]; exact H.out.1.mine.2)) (fun _ _ q => q)
  have O3 : OwnB w3 v bs := (H.out.2.2.2.2.2.turned W2.out.2 (fun g hg e => (DiskM.row_ne H.out.1 H.out.2.2.2.1 hg).1 e)).turned (grown_turned hg3) (fun g hg e => (DiskM.row_ne H.out.1 H.out.2.2.2.1 hg).2 e)
  have hs := set_any (n := t) (bs := bs) (v := v) D3 (by show FRise (fout _ _); rw [ef]; exact rise_out n H.out.2.1) (by show (fout _ _).length ≤ 1000; rw [ef]; exact Nat.le_trans (List.length_filter_le _ _) H.out.2.2.1) htl (fun _ q => q.elim) O3
    (fun y u g hy hu hg q => by
      unfold fdel at hu
      split at hu
      · cases hu
      · rename_i e
        exact H.out.1.files.apart y n u v g e hu H.out.2.2.2.1 hg q)
    (fun g hg => H.out.1.files.own n v g H.out.2.2.2.1 hg)
  clear D3 O3 hg3 hm3
  go_wp2_with fail
  refine hs.mono ?_
  rintro e w4 ⟨rfl, D4, T4⟩
  have DT : Hid (_ ∧ _) := ⟨D4, T4⟩
  clear D4 T4 hs
  go_wp2
  go_ret
  have D4 := DT.out.1
  rw [ef] at D4
  exact ⟨rfl, a', _, D4, T3.out.trans (DT.out.2.mono (T := S) (fun i _ e => by rw [e]; exact H.out.1.mine.2)) (fun _ _ q => q)⟩

/-- disk.Rename. -/
theorem rename_at (h : DiskAt w b d S) (hk : d.ok) (hw : d.writes < 4611686018427387904) (n t : Bs) (hn : n.length ≤ 140737488355328) (ht : t.length ≤ 140737488355328) :
    Calls Try.prog 21 #[.pointer (some ⟨b, 0, none⟩), tx n, tx t] w fun e w' => ∃ r, e = .returned (.int .i64 r) ∧ Hid (r = (dren d n t).2) ∧ DiskAt w' b (dren d n t).1 (Since S w w') ∧ Turned S w w' := by
  obtain ⟨m, f, a, k, h⟩ := h
  have hn' : n.length ≤ maxLen := by simp only [maxLen]; omega
  unfold dren
  by_cases hg : isName n = false ∨ isName t = false
  · rw [if_pos hg]
    by_cases hg2 : isName t = false
    · refine (rename_bad2 b n t hg2).mono ?_
      rintro e w' ⟨rfl, rfl⟩
      exact ⟨2, rfl, rfl, DiskM.same h, Turned.refl _ _⟩
    · refine (rename_bad b n t (by simpa using hg2) (by rcases hg with q | q; exact q; exact absurd q hg2)).mono ?_
      rintro e w' ⟨rfl, rfl⟩
      exact ⟨2, rfl, rfl, DiskM.same h, Turned.refl _ _⟩
  · rw [if_neg hg]
    have hg1 : isName n = true := by
      cases e : isName n
      · exact absurd (.inl e) hg
      · rfl
    have hg2 : isName t = true := by
      cases e : isName t
      · exact absurd (.inr e) hg
      · rfl
    rcases h.file n with ⟨h1, h2⟩ | ⟨bs, v, h1, h2, ho⟩
    · refine (rename_none h n t hg2 hg1 hn' h2).mono ?_
      rintro e w' ⟨rfl, rfl⟩
      rw [h1]
      exact ⟨5, rfl, rfl, DiskM.same h, Turned.refl _ _⟩
    · rw [h1]
      by_cases hdo : (dnext d).2.1 = true
      · refine (rename_ok h hk.rise (by have := hk.few; omega) n t hg2 ht hg1 hn' h2 h1 hk.after hw hdo).mono ?_
        rintro e w' ⟨rfl, a', f', h3, h4⟩
        simp only [hdo, if_true]
        exact ⟨0, rfl, rfl, DiskM.since h3 w, h4⟩
      · have hdo' : (dnext d).2.1 = false := by simpa using hdo
        refine (rename_off h n t hg2 hg1 hn' h2 hk.after hw hdo').mono ?_
        rintro e w' ⟨rfl, a', h3, h4⟩
        simp only [hdo', Bool.false_eq_true, if_false]
        exact ⟨8, rfl, rfl, DiskM.since h3 w, turned_mine h.mine.1 h4⟩

end
end Go.Proofs.Ytlhlipjbcapidaa
