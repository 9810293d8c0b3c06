/-
  The reference's Is and Parts, each by a contract: whether a text is a path, and its parts. No condition but that a text is no longer than any text can be.
-/
import Derived.Test.YtofbphmdkhocdaaGreatPRNames

namespace Go.Proofs.YtofbphmdkhocdaaGreat
open Go.RowKit

theorem all_step {ss : List Bs} {p : Bs → Bool} {i : Nat} (h : i < ss.length) (ht : (ss.take i).all p = true) (hx : p (el ss i) = true) : (ss.take (i + 1)).all p = true := by
  rw [List.take_succ_eq_append_getElem h, List.all_append, ht, ← el_get h]
  simp [hx]
theorem all_miss {ss : List Bs} {p : Bs → Bool} {i : Nat} (h : i < ss.length) (hx : p (el ss i) = false) : ss.all p = false :=
  List.all_eq_false.2 ⟨_, el_mem h, by simp [hx]⟩

theorem rname_at (l : Bs) (hl : l.length ≤ 9223372036854775807) (f : Bool) (hf : isName l = f) (w : World) :
    Calls Tryz.prog 74 #[.string ⟨l.toArray⟩] w fun e w' => e = .returned (.bool f) ∧ w' = w := by
  subst hf
  exact rname_any ⟨l.toArray⟩ (by rw [bsize]; exact hl) w

set_option maxHeartbeats 1600000 in
set_option maxRecDepth 100000 in
theorem ris_any (s : ByteArray) (w : World) :
    Calls Tryz.prog 57 #[.string s] w fun e w' => e = .returned (.bool (isPath s.data.toList)) ∧ Below w.heap.size w w' := by
  have E : Hid (s.size = s.data.toList.length) := bsize s
  by_cases h : s.size ≤ 102
  · have h' : ¬ (102 : Int) < s.size := by omega
    have hn := rnames_any s h w
    obtain ⟨ns, hns⟩ : ∃ ns, names s.data.toList = ns := ⟨_, rfl⟩
    have hP : isPath s.data.toList = (ns.all isName && decide (ns.length ≤ 6)) := by rw [isPath, chk_names, hns]
    have hsh : ∀ x ∈ ns, x.length ≤ 102 := by
      intro x hx
      rw [← hns] at hx
      have := name_short hx
      rw [← E.out] at this
      omega
    have hnl := names_len s.data.toList
    rw [hns, ← E.out] at hnl
    rw [hns] at hn
    have P : Hid (isPath s.data.toList = (ns.all isName && decide (ns.length ≤ 6)) ∧ ∀ x ∈ ns, x.length ≤ 102) := ⟨hP, hsh⟩
    clear hP hsh hns
    go_enter Tryz.func57, Tryz.ntmps57
    go_wp2_with fail
    refine hn.mono ?_
    rintro e w1 ⟨v1, rfl, ho, hb⟩
    obtain ⟨ao, cap, rfl, _, _, R⟩ := ho.form
    obtain ⟨n, hnn⟩ : ∃ n, ns.length = n := ⟨_, rfl⟩
    have G : Hid (Rd w1 ao ns ∧ ns.length = n ∧ Below w.heap.size w w1) := ⟨R, hnn, hb⟩
    rw [hnn] at hnl ⊢
    clear ho hb R hn hnn
    go_wp2_with fail
    go_loopg [4] n (fun k v wr => ∃ (i : Nat), v = .int .i64 i ∧ i + k = n ∧ wr = w1 ∧ Hid ((ns.take i).all isName = true))
    case atStart => exact ⟨0, rfl, by omega, rfl, rfl⟩
    case round =>
      obtain ⟨i, rfl, hi, rfl, HT⟩ := hrel
      by_cases hin : i < n
      · have id : (i : Int) < (n : Int) := by omega
        obtain ⟨b1, o1, rfl, hlt1, hc1⟩ := G.out.1 (by rw [G.out.2.1]; omega)
        obtain ⟨y, hy⟩ : ∃ y, el ns i = y := ⟨_, rfl⟩
        have c1 := hc1 i (by rw [G.out.2.1]; omega)
        rw [hy] at c1
        have hyl : y.length ≤ 102 := by rw [← hy]; exact P.out.2 _ (el_mem (by rw [G.out.2.1]; exact hin))
        have X : Hid (el ns i = y) := hy
        clear hc1 hy
        cases hf : isName y with
        | true =>
          have hc := rname_at y (by omega) true hf
          go_wp2_with fail
          refine (hc _).mono ?_
          rintro e w' ⟨rfl, rfl⟩
          go_wp2
          go_roundg (gk - 1)
          case measure => omega
          case rel => exact ⟨i + 1, by go_num, by omega, rfl, all_step (by rw [G.out.2.1]; exact hin) HT.out (by rw [X.out]; exact hf)⟩
        | false =>
          have hc := rname_at y (by omega) false hf
          go_wp2_with fail
          refine (hc _).mono ?_
          rintro e w' ⟨rfl, rfl⟩
          go_wp2
          go_ret
          exact ⟨by rw [P.out.1, all_miss (p := isName) (i := i) (by rw [G.out.2.1]; exact hin) (by rw [X.out]; exact hf)]; rfl, G.out.2.2⟩
      · obtain rfl : i = n := by omega
        have ha := HT.out
        rw [List.take_of_length_le (by rw [G.out.2.1]; omega)] at ha
        have A : Hid (ns.all isName = true) := ha
        clear ha
        go_wp2
        go_ret
        refine ⟨congrArg (fun b => Ending.returned (Value.bool b)) ?_, G.out.2.2⟩
        rw [P.out.1, A.out, G.out.2.1, Bool.eq_iff_iff]
        simp
        try omega
  · have h' : (102 : Int) < s.size := by omega
    have hP : isPath s.data.toList = false := by
      rw [← refIs_eq, refIs, ← E.out]
      simp
      omega
    rw [hP]
    go_enter Tryz.func57, Tryz.ntmps57
    go_wp2
    go_ret
    exact ⟨rfl, Below.refl _ _⟩

theorem ris_at (l : Bs) (f : Bool) (hf : isPath l = f) (w : World) :
    Calls Tryz.prog 57 #[.string ⟨l.toArray⟩] w fun e w' => e = .returned (.bool f) ∧ Below w.heap.size w w' := by
  subst hf
  exact ris_any ⟨l.toArray⟩ w

end Go.Proofs.YtofbphmdkhocdaaGreat
