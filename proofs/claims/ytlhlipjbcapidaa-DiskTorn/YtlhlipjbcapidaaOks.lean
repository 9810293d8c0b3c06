/-
  What holds of every disk that calls have made holds behind each call; each counts at most one raw write more. No program.
-/
import Derived.Test.YtlhlipjbcapidaaLay
namespace Go.Proofs.Ytlhlipjbcapidaa

variable {d : Dk}

theorem next_after (d : Dk) : (dnext d).1.after ≤ d.after := by
  unfold dnext
  split
  · exact Nat.le_refl _
  · split
    · exact Nat.le_refl _
    · show (if d.armed then d.after - 1 else d.after) ≤ d.after
      split <;> omega
theorem next_writes (d : Dk) : (dnext d).1.writes ≤ d.writes + 1 := by
  unfold dnext
  split
  · exact Nat.le_succ _
  · split
    · exact Nat.le_succ _
    · exact Nat.le_refl _

theorem Dk.ok.next (h : d.ok) : (dnext d).1.ok := by
  have e := dnext_files d
  exact ⟨by rw [e]; exact h.rise, by rw [e]; exact h.few, by rw [e]; exact h.each, Nat.lt_of_le_of_lt (next_after d) h.after⟩

theorem Dk.ok.with {d' : Dk} (h : d.ok) (h' : d'.ok) {n bs : Bs} (hn : isName n = true) (hb : bs.length ≤ 262144) (hf : fget d.files n ≠ none ∨ d.files.length < 32) : ({ d' with files := fwith d.files n bs } : Dk).ok := by
  refine ⟨rise_with n bs h.rise, ?_, ?_, h'.after⟩
  · show (fwith d.files n bs).length ≤ 32
    rw [with_len n bs h.rise]
    have := h.few
    cases e : fget d.files n with
    | none =>
      have : d.files.length < 32 := hf.elim (fun q => absurd e q) id
      simp
      omega
    | some _ => simpa using this
  · intro f hf
    rcases mem_fwith _ _ _ _ hf with rfl | q
    · exact ⟨hn, hb⟩
    · exact h.each f q

theorem ok_lay (h : d.ok) {n own more : Bs} : (dlay d n own more).1.ok := by
  unfold dlay
  split
  · exact h
  · rename_i hn
    have hn' : isName n = true := by simpa using hn
    split
    · exact h
    · rename_i hf
      have hlen : own.length + more.length ≤ 262144 := by omega
      have hroom : fget d.files n ≠ none ∨ d.files.length < 32 := by
        by_cases q : fget d.files n = none
        · exact .inr (by have : ¬ 32 ≤ d.files.length := fun r => hf (.inr ⟨q, r⟩); omega)
        · exact .inl q
      split
      · exact h.with h.next hn' (by simp; omega) hroom
      · split
        · exact h.with h.next hn' (by simp; omega) hroom
        · exact h.next

theorem ok_put (h : d.ok) (n v : Bs) : (dput d n v).1.ok := ok_lay h
theorem ok_app (h : d.ok) (n v : Bs) : (dapp d n v).1.ok := ok_lay h

theorem ok_trim (h : d.ok) (n : Bs) (z : Int) : (dtrim d n z).1.ok := by
  unfold dtrim
  split
  · exact h
  · rename_i hn
    have hn' : isName n = true := by simpa using hn
    split
    · exact h
    · rename_i s hs
      split
      · exact h
      · split
        · exact h.with h.next hn' (by have := h.get hs; rw [List.length_take]; omega) (.inl (by rw [hs]; simp))
        · exact h.next

theorem ok_out {d' : Dk} (h : d.ok) (h' : d'.ok) (n : Bs) : ({ d' with files := fout d.files n } : Dk).ok :=
  ⟨rise_out n h.rise, Nat.le_trans (List.length_filter_le _ _) h.few, fun f hf => h.each f ((List.mem_filter.1 hf).1), h'.after⟩

theorem ok_ren (h : d.ok) (n m : Bs) : (dren d n m).1.ok := by
  unfold dren
  split
  · exact h
  · rename_i hn
    have hm : isName m = true := by
      cases e : isName m with
      | true => rfl
      | false => exact absurd (.inr e) hn
    split
    · exact h
    · rename_i s hs
      split
      · have ho : ({ d with files := fout d.files n } : Dk).ok := ok_out h h n
        have hl := h.few
        have hpos : 0 < d.files.length := List.length_pos_of_mem (fget_mem hs)
        refine Dk.ok.with ho h.next hm (h.get hs) (.inr ?_)
        show (fout d.files n).length < 32
        have : (fout d.files n).length < d.files.length := by
          unfold fout
          have := List.length_filter_lt_length_iff_exists (p := fun f : Bs × Bs => !(f.1 == n)) (l := d.files) |>.2 ⟨(n, s), fget_mem hs, by simp⟩
          exact this
        omega
      · exact h.next

theorem ok_rem (h : d.ok) (n : Bs) : (drem d n).1.ok := by
  unfold drem
  split
  · exact h
  · split
    · exact h
    · split
      · exact ok_out h h.next n
      · exact h.next

theorem ok_cut (h : d.ok) (x y : Int) (hx : x ≤ 9223372036854775807) : (dcut d x y).1.ok := by
  unfold dcut
  split
  · exact h
  · split
    · exact h
    · exact ⟨h.rise, h.few, h.each, by show x.toNat < _; omega⟩

theorem ok_res (h : d.ok) : (dres d).ok := ⟨h.rise, h.few, h.each, h.after⟩

theorem ok_spoil (h : d.ok) (n : Bs) (z : Int) (m : UInt8) : (dspoil d n z m).1.ok := by
  unfold dspoil
  split
  · exact h
  · rename_i s hs
    split
    · exact h
    · exact h.with h ((h.each _ (fget_mem hs)).1) (by simpa using h.get hs) (.inl (by rw [hs]; simp))

theorem wr_lay (d : Dk) (n own more : Bs) : (dlay d n own more).1.writes ≤ d.writes + 1 := by
  unfold dlay
  repeat' split
  all_goals first | exact next_writes d | exact Nat.le_succ _
theorem wr_put (d : Dk) (n v : Bs) : (dput d n v).1.writes ≤ d.writes + 1 := wr_lay _ _ _ _
theorem wr_app (d : Dk) (n v : Bs) : (dapp d n v).1.writes ≤ d.writes + 1 := wr_lay _ _ _ _
theorem wr_trim (d : Dk) (n : Bs) (z : Int) : (dtrim d n z).1.writes ≤ d.writes + 1 := by
  unfold dtrim
  repeat' split
  all_goals first | exact next_writes d | exact Nat.le_succ _
theorem wr_ren (d : Dk) (n m : Bs) : (dren d n m).1.writes ≤ d.writes + 1 := by
  unfold dren
  repeat' split
  all_goals first | exact next_writes d | exact Nat.le_succ _
theorem wr_rem (d : Dk) (n : Bs) : (drem d n).1.writes ≤ d.writes + 1 := by
  unfold drem
  repeat' split
  all_goals first | exact next_writes d | exact Nat.le_succ _
theorem wr_cut (d : Dk) (x y : Int) : (dcut d x y).1.writes ≤ d.writes + 1 := by
  unfold dcut
  repeat' split
  all_goals exact Nat.le_succ _
theorem wr_spoil (d : Dk) (n : Bs) (z : Int) (m : UInt8) : (dspoil d n z m).1.writes ≤ d.writes + 1 := by
  unfold dspoil
  repeat' split
  all_goals exact Nat.le_succ _

end Go.Proofs.Ytlhlipjbcapidaa
