/-
  The reference's Is and Parts, each by a contract: whether a text is a path, and its parts. No condition but that a text is no longer than any text can be.
-/
import Derived.Test.YtofbphmdkhocdaaGreatPRNames
import Derived.Test.YtofbphmdkhocdaaGreatPSets
namespace Go.Proofs.YtofbphmdkhocdaaGreat
open Go.RowKit

theorem rname_at (l : Bs) (hl : l.length ≤ 9223372036854775807) (f : Bool) (hf : isName l = f) (w : World) :
    Calls Tryz.prog 74 #[.string ⟨l.toArray⟩] w fun e w' => e = .returned (.bool f) ∧ w' = w := by
  subst hf
  exact rname_any ⟨l.toArray⟩ (by rw [bsize]; exact hl) w

set_option maxHeartbeats 1600000 in
set_option maxRecDepth 100000 in
theorem ris_any (s : ByteArray) (w : World) :
    Calls Tryz.prog 57 #[.string s] w fun e w' => e = .returned (.bool (isPath s.data.toList)) ∧ Below w.heap.size w w' := by
  have E : Hid (s.size = s.data.toList.length) := bsize s
  by_cases h : s.size ≤ 102
  · have h' : ¬ (102 : Int) < s.size := by omega
    have hn := rnames_any s h w
    obtain ⟨ns, hns⟩ : ∃ ns, names s.data.toList = ns := ⟨_, rfl⟩
    have hP : isPath s.data.toList = (ns.all isName && decide (ns.length ≤ 6)) := by rw [isPath, chk_names, hns]
    have hsh : ∀ x ∈ ns, x.length ≤ 102 := by
      intro x hx
      rw [← hns] at hx
      have := name_short hx
      rw [← E.out] at this
      omega
    have hnl := names_len s.data.toList
    rw [hns, ← E.out] at hnl
    rw [hns] at hn
    have P : Hid (isPath s.data.toList = (ns.all isName && decide (ns.length ≤ 6)) ∧ ∀ x ∈ ns, x.length ≤ 102) := ⟨hP, hsh⟩
    clear hP hsh hns
    go_enter Tryz.func57, Tryz.ntmps57
    go_wp2_with fail
    refine hn.mono ?_
    rintro e w1 ⟨v1, rfl, ho, hb⟩
    obtain ⟨ao, cap, rfl, _, _, R⟩ := ho.form
    obtain ⟨n, hnn⟩ : ∃ n, ns.length = n := ⟨_, rfl⟩
    have G : Hid (Rd w1 ao ns ∧ ns.length = n ∧ Below w.heap.size w w1) := ⟨R, hnn, hb⟩
    rw [hnn] at hnl ⊢
    clear ho hb R hn hnn
    go_wp2_with fail
    go_loopg [4] n (fun k v wr => ∃ (i : Nat), v = .int .i64 i ∧ i + k = n ∧ wr = w1 ∧ Hid ((ns.take i).all isName = true))
    case atStart => exact ⟨0, rfl, by omega, rfl, rfl⟩
    case round =>
      obtain ⟨i, rfl, hi, rfl, HT⟩ := hrel
      by_cases hin : i < n
      · have id : (i : Int) < (n : Int) := by omega
        obtain ⟨b1, o1, rfl, hlt1, hc1⟩ := G.out.1 (by rw [G.out.2.1]; omega)
        obtain ⟨y, hy⟩ : ∃ y, el ns i = y := ⟨_, rfl⟩
        have c1 := hc1 i (by rw [G.out.2.1]; omega)
        rw [hy] at c1
        have hyl : y.length ≤ 102 := by rw [← hy]; exact P.out.2 _ (el_mem (by rw [G.out.2.1]; exact hin))
        have X : Hid (el ns i = y) := hy
        clear hc1 hy
        cases hf : isName y with
        | true =>
          have hc := rname_at y (by omega) true hf
          go_wp2_with fail
          refine (hc _).mono ?_
          rintro e w' ⟨rfl, rfl⟩
          go_wp2
          go_roundg (gk - 1)
          case measure => omega
          case rel => exact ⟨i + 1, by go_num, by omega, rfl, all_step (by rw [G.out.2.1]; exact hin) HT.out (by rw [X.out]; exact hf)⟩
        | false =>
          have hc := rname_at y (by omega) false hf
          go_wp2_with fail
          refine (hc _).mono ?_
          rintro e w' ⟨rfl, rfl⟩
          go_wp2
          go_ret
          exact ⟨by rw [P.out.1, all_miss (p := isName) (i := i) (by rw [G.out.2.1]; exact hin) (by rw [X.out]; exact hf)]; rfl, G.out.2.2⟩
      · obtain rfl : i = n := by omega
        have ha := HT.out
        rw [List.take_of_length_le (by rw [G.out.2.1]; omega)] at ha
        have A : Hid (ns.all isName = true) := ha
        clear ha
        go_wp2
        go_ret
        refine ⟨congrArg (fun b => Ending.returned (Value.bool b)) ?_, G.out.2.2⟩
        rw [P.out.1, A.out, G.out.2.1, Bool.eq_iff_iff]
        simp
        try omega
  · have h' : (102 : Int) < s.size := by omega
    have hP : isPath s.data.toList = false := by
      rw [← refIs_eq, refIs, ← E.out]
      simp
      omega
    rw [hP]
    go_enter Tryz.func57, Tryz.ntmps57
    go_wp2
    go_ret
    exact ⟨rfl, Below.refl _ _⟩

theorem ris_at (l : Bs) (f : Bool) (hf : isPath l = f) (w : World) :
    Calls Tryz.prog 57 #[.string ⟨l.toArray⟩] w fun e w' => e = .returned (.bool f) ∧ Below w.heap.size w w' := by
  subst hf
  exact ris_any ⟨l.toArray⟩ w

/-- The texts that the names make, each with a slash behind the one ahead. -/
def cums (s : Bs) : List Bs → List Bs
  | [] => []
  | n :: t => (s ++ n) :: cums (s ++ n ++ [47]) t
def prefs (q : Bs) : Bs → List Bs
  | [] => [q]
  | b :: t => if b = 47 then q :: prefs (q ++ [47]) t else prefs (q ++ [b]) t

theorem cums_names : ∀ (p q : Bs), cums q (names p) = prefs q p
  | [], q => by simp [names, cums, prefs]
  | b :: t, q => by
    by_cases h : b = 47
    · simp [names, cums, prefs, h, cums_names t]
    · have ih := cums_names t (q ++ [b])
      cases hn : names t with
      | nil => exact absurd hn (names_ne t)
      | cons x y =>
        rw [hn] at ih
        simp only [cums, List.append_assoc, List.cons_append, List.nil_append] at ih
        simp [names, cums, prefs, h, hn, ← ih]

theorem prefs_pre : ∀ (t a : Bs), pre (a ++ t) a.length ++ prefs a t = pre (a ++ t) (a ++ t).length ++ [a ++ t]
  | [], a => by simp [prefs]
  | b :: t, a => by
    have ih := prefs_pre t (a ++ [b])
    have e : a ++ [b] ++ t = a ++ b :: t := by simp
    rw [e] at ih
    rw [← ih, List.length_append, List.length_singleton]
    by_cases h : b = 47
    · subst h
      simp [prefs, pre]
    · simp [prefs, pre, h]

theorem parts_cums (p : Bs) : pre p p.length ++ [p] = cums [] (names p) := by
  have := prefs_pre p []
  rw [cums_names]
  simpa [pre] using this.symm

/-- Where the making of the parts stands when i names have been taken. -/
def Made (ns : List Bs) (i : Nat) (s : Bs) (out : List Bs) : Prop := out ++ cums (if i = 0 then [] else s ++ [47]) (ns.drop i) = cums [] ns ∧ (i = 0 → s = []) ∧ out.length = i

theorem Made.step {ns : List Bs} {i : Nat} {s : Bs} {out : List Bs} (h : Made ns i s out) (hi : i < ns.length) :
    Made ns (i + 1) ((if i = 0 then s else s ++ [47]) ++ el ns i) (out ++ [(if i = 0 then s else s ++ [47]) ++ el ns i]) := by
  obtain ⟨h1, h2, h3⟩ := h
  have e : (if i = 0 then ([] : Bs) else s ++ [47]) = (if i = 0 then s else s ++ [47]) := by
    by_cases h0 : i = 0
    · simp [h0, h2 h0]
    · simp [h0]
  refine ⟨?_, by omega, by simp [h3]⟩
  have hd : ns.drop i = el ns i :: ns.drop (i + 1) := by rw [List.drop_eq_getElem_cons hi, el_get hi]
  rw [hd, e] at h1
  rw [← h1]
  simp [cums]

theorem app_str (a b : ByteArray) : (a ++ b).data.toList = a.data.toList ++ b.data.toList := by
  rw [ByteArray.data_append]
  simp
theorem app_size (a b : ByteArray) : (a ++ b).size = a.size + b.size := by
  rw [bsize, app_str, List.length_append, bsize, bsize]

end Go.Proofs.YtofbphmdkhocdaaGreat
