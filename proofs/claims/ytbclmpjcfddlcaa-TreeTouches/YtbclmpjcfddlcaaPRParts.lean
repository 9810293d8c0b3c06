/-
  The reference's Is and Parts, each by a contract: whether a text is a path, and its parts. No condition but that a text is no longer than any text can be.
-/
import Derived.Test.YtbclmpjcfddlcaaPRNames
import Derived.Test.YtbclmpjcfddlcaaPSets
namespace Go.Proofs.Ytbclmpjcfddlcaa
open Go.RowKit

theorem rname_at (l : Bs) (hl : l.length ≤ 9223372036854775807) (f : Bool) (hf : isName l = f) (w : World) :
    Calls Try.prog 37 #[.string ⟨l.toArray⟩] w fun e w' => e = .returned (.bool f) ∧ w' = w := by
  subst hf
  exact rname_any ⟨l.toArray⟩ (by rw [bsize]; exact hl) w

set_option maxHeartbeats 1600000 in
set_option maxRecDepth 100000 in
theorem ris_any (s : ByteArray) (w : World) :
    Calls Try.prog 15 #[.string s] w fun e w' => e = .returned (.bool (isPath s.data.toList)) ∧ Below w.heap.size w w' := by
  have E : Hid (s.size = s.data.toList.length) := bsize s
  by_cases h : s.size ≤ 102
  · have h' : ¬ (102 : Int) < s.size := by omega
    have hn := rnames_any s h w
    obtain ⟨ns, hns⟩ : ∃ ns, names s.data.toList = ns := ⟨_, rfl⟩
    have hP : isPath s.data.toList = (ns.all isName && decide (ns.length ≤ 6)) := by rw [isPath, chk_names, hns]
    have hsh : ∀ x ∈ ns, x.length ≤ 102 := by
      intro x hx
      rw [← hns] at hx
      have := name_short hx
      rw [← E.out] at this
      omega
    have hnl := names_len s.data.toList
    rw [hns, ← E.out] at hnl
    rw [hns] at hn
    have P : Hid (isPath s.data.toList = (ns.all isName && decide (ns.length ≤ 6)) ∧ ∀ x ∈ ns, x.length ≤ 102) := ⟨hP, hsh⟩
    clear hP hsh hns
    go_enter Try.func15, Try.ntmps15
    go_wp2_with fail
    refine hn.mono ?_
    rintro e w1 ⟨v1, rfl, ho, hb⟩
    obtain ⟨ao, cap, rfl, _, _, R⟩ := ho.form
    obtain ⟨n, hnn⟩ : ∃ n, ns.length = n := ⟨_, rfl⟩
    have G : Hid (Rd w1 ao ns ∧ ns.length = n ∧ Below w.heap.size w w1) := ⟨R, hnn, hb⟩
    rw [hnn] at hnl ⊢
    clear ho hb R hn hnn
    go_wp2_with fail
    go_loopg [4] n (fun k v wr => ∃ (i : Nat), v = .int .i64 i ∧ i + k = n ∧ wr = w1 ∧ Hid ((ns.take i).all isName = true))
    case atStart => exact ⟨0, rfl, by omega, rfl, rfl⟩
    case round =>
      obtain ⟨i, rfl, hi, rfl, HT⟩ := hrel
      by_cases hin : i < n
      · have id : (i : Int) < (n : Int) := by omega
        obtain ⟨b1, o1, rfl, hlt1, hc1⟩ := G.out.1 (by rw [G.out.2.1]; omega)
        obtain ⟨y, hy⟩ : ∃ y, el ns i = y := ⟨_, rfl⟩
        have c1 := hc1 i (by rw [G.out.2.1]; omega)
        rw [hy] at c1
        have hyl : y.length ≤ 102 := by rw [← hy]; exact P.out.2 _ (el_mem (by rw [G.out.2.1]; exact hin))
        have X : Hid (el ns i = y) := hy
        clear hc1 hy
        cases hf : isName y with
        | true =>
          have hc := rname_at y (by omega) true hf
          go_wp2_with fail
          refine (hc _).mono ?_
          rintro e w' ⟨rfl, rfl⟩
          go_wp2
          go_roundg (gk - 1)
          case measure => omega
          case rel => exact ⟨i + 1, by go_num, by omega, rfl, all_step (by rw [G.out.2.1]; exact hin) HT.out (by rw [X.out]; exact hf)⟩
        | false =>
          have hc := rname_at y (by omega) false hf
          go_wp2_with fail
          refine (hc _).mono ?_
          rintro e w' ⟨rfl, rfl⟩
          go_wp2
          go_ret
          exact ⟨by rw [P.out.1, all_miss (p := isName) (i := i) (by rw [G.out.2.1]; exact hin) (by rw [X.out]; exact hf)]; rfl, G.out.2.2⟩
      · obtain rfl : i = n := by omega
        have ha := HT.out
        rw [List.take_of_length_le (by rw [G.out.2.1]; omega)] at ha
        have A : Hid (ns.all isName = true) := ha
        clear ha
        go_wp2
        go_ret
        refine ⟨congrArg (fun b => Ending.returned (Value.bool b)) ?_, G.out.2.2⟩
        rw [P.out.1, A.out, G.out.2.1, Bool.eq_iff_iff]
        simp
        try omega
  · have h' : (102 : Int) < s.size := by omega
    have hP : isPath s.data.toList = false := by
      rw [← refIs_eq, refIs, ← E.out]
      simp
      omega
    rw [hP]
    go_enter Try.func15, Try.ntmps15
    go_wp2
    go_ret
    exact ⟨rfl, Below.refl _ _⟩

theorem ris_at (l : Bs) (f : Bool) (hf : isPath l = f) (w : World) :
    Calls Try.prog 15 #[.string ⟨l.toArray⟩] w fun e w' => e = .returned (.bool f) ∧ Below w.heap.size w w' := by
  subst hf
  exact ris_any ⟨l.toArray⟩ w

/-- The texts that the names make, each with a slash behind the one ahead. -/
def cums (s : Bs) : List Bs → List Bs
  | [] => []
  | n :: t => (s ++ n) :: cums (s ++ n ++ [47]) t
def prefs (q : Bs) : Bs → List Bs
  | [] => [q]
  | b :: t => if b = 47 then q :: prefs (q ++ [47]) t else prefs (q ++ [b]) t

theorem cums_names : ∀ (p q : Bs), cums q (names p) = prefs q p
  | [], q => by simp [names, cums, prefs]
  | b :: t, q => by
    by_cases h : b = 47
    · simp [names, cums, prefs, h, cums_names t]
    · have ih := cums_names t (q ++ [b])
      cases hn : names t with
      | nil => exact absurd hn (names_ne t)
      | cons x y =>
        rw [hn] at ih
        simp only [cums, List.append_assoc, List.cons_append, List.nil_append] at ih
        simp [names, cums, prefs, h, hn, ← ih]

theorem prefs_pre : ∀ (t a : Bs), pre (a ++ t) a.length ++ prefs a t = pre (a ++ t) (a ++ t).length ++ [a ++ t]
  | [], a => by simp [prefs]
  | b :: t, a => by
    have ih := prefs_pre t (a ++ [b])
    have e : a ++ [b] ++ t = a ++ b :: t := by simp
    rw [e] at ih
    rw [← ih, List.length_append, List.length_singleton]
    by_cases h : b = 47
    · subst h
      simp [prefs, pre]
    · simp [prefs, pre, h]

theorem parts_cums (p : Bs) : pre p p.length ++ [p] = cums [] (names p) := by
  have := prefs_pre p []
  rw [cums_names]
  simpa [pre] using this.symm

/-- Where the making of the parts stands when i names have been taken. -/
def Made (ns : List Bs) (i : Nat) (s : Bs) (out : List Bs) : Prop := out ++ cums (if i = 0 then [] else s ++ [47]) (ns.drop i) = cums [] ns ∧ (i = 0 → s = []) ∧ out.length = i

theorem Made.step {ns : List Bs} {i : Nat} {s : Bs} {out : List Bs} (h : Made ns i s out) (hi : i < ns.length) :
    Made ns (i + 1) ((if i = 0 then s else s ++ [47]) ++ el ns i) (out ++ [(if i = 0 then s else s ++ [47]) ++ el ns i]) := by
  obtain ⟨h1, h2, h3⟩ := h
  have e : (if i = 0 then ([] : Bs) else s ++ [47]) = (if i = 0 then s else s ++ [47]) := by
    by_cases h0 : i = 0
    · simp [h0, h2 h0]
    · simp [h0]
  refine ⟨?_, by omega, by simp [h3]⟩
  have hd : ns.drop i = el ns i :: ns.drop (i + 1) := by rw [List.drop_eq_getElem_cons hi, el_get hi]
  rw [hd, e] at h1
  rw [← h1]
  simp [cums]

theorem app_str (a b : ByteArray) : (a ++ b).data.toList = a.data.toList ++ b.data.toList := by
  rw [ByteArray.data_append]
  simp
theorem app_size (a b : ByteArray) : (a ++ b).size = a.size + b.size := by
  rw [bsize, app_str, List.length_append, bsize, bsize]

set_option maxHeartbeats 1600000 in
set_option maxRecDepth 100000 in
theorem rparts_walk (s : ByteArray) (w : World) (hp : isPath s.data.toList = true) :
    Calls Try.prog 39 #[.string s] w fun e w' => ∃ v', e = .returned v' ∧ Own w' w.heap.size v' (parts s.data.toList) ∧ Below w.heap.size w w' := by
  have E : Hid (s.size = s.data.toList.length) := bsize s
  have h : s.size ≤ 102 := by rw [E.out]; exact path_len hp
  have hi0 := ris_any s w
  rw [hp] at hi0
  obtain ⟨ns, hns⟩ : ∃ ns, names s.data.toList = ns := ⟨_, rfl⟩
  have hn := fun w => rnames_any s h w
  have hpc : parts s.data.toList = cums [] ns := by rw [parts, hp, if_pos rfl, parts_cums, hns]
  have hsh : ∀ x ∈ ns, x.length ≤ 102 := by
    intro x hx
    rw [← hns] at hx
    have := name_short hx
    rw [← E.out] at this
    omega
  have hnl := names_len s.data.toList
  rw [hns, ← E.out] at hnl
  rw [hns] at hn
  have P : Hid (parts s.data.toList = cums [] ns ∧ ∀ x ∈ ns, x.length ≤ 102) := ⟨hpc, hsh⟩
  clear hpc hsh hns hp
  go_enter Try.func39, Try.ntmps39
  go_wp2_with fail
  refine hi0.mono ?_
  rintro e w0 ⟨rfl, hb0⟩
  have B0 : Hid (Below w.heap.size w w0) := hb0
  clear hb0
  go_wp2_with fail
  refine (hn _).mono ?_
  rintro e w1 ⟨v1, rfl, ho, hb⟩
  obtain ⟨ao, cap, rfl, _, _, R⟩ := ho.form
  obtain ⟨n, hnn⟩ : ∃ n, ns.length = n := ⟨_, rfl⟩
  have G : Hid (Rd w1 ao ns ∧ ns.length = n ∧ Below w.heap.size w w1) := ⟨R, hnn, B0.out.trans (hb.mono B0.out.size)⟩
  rw [hnn] at hnl ⊢
  clear ho hb R hn hnn hi0
  go_wp2_with fail
  go_loopg [3, 5, 6] n (fun k ov sv v wr => ∃ (i : Nat) (sb : ByteArray) (out : List Bs), v = .int .i64 i ∧ sv = .string sb ∧ i + k = n ∧ sb.size ≤ i * 103 ∧ Hid (Made ns i sb.data.toList out ∧ Own wr w1.heap.size ov out ∧ Below w1.heap.size w1 wr))
  case atStart => exact ⟨0, _, [], rfl, rfl, by omega, by decide, ⟨by simp, by simp, rfl⟩, Own.nil _ _, Below.refl _ _⟩
  case round =>
    obtain ⟨i, sb, out, rfl, rfl, hi, hsz, HM⟩ := hrel
    by_cases hin : i < n
    · have id : (i : Int) < (n : Int) := by omega
      have hol : out.length = i := HM.out.1.2.2
      obtain ⟨b1, o1, rfl, hlt1, hc1⟩ := (G.out.1.below HM.out.2.2) (by rw [G.out.2.1]; omega)
      obtain ⟨y, hy⟩ : ∃ y, el ns i = y := ⟨_, rfl⟩
      have c1 := hc1 i (by rw [G.out.2.1]; omega)
      rw [hy] at c1
      have hyl : y.length ≤ 102 := by rw [← hy]; exact P.out.2 _ (el_mem (by rw [G.out.2.1]; exact hin))
      obtain ⟨yb, hyb⟩ : ∃ yb : ByteArray, (⟨y.toArray⟩ : ByteArray) = yb := ⟨_, rfl⟩
      have hybs : yb.size ≤ 102 := by rw [← hyb, bsize]; exact hyl
      rw [hyb] at c1
      have hst := HM.out.1.step (by rw [G.out.2.1]; exact hin)
      rw [hy] at hst
      have X : Hid (yb.data.toList = y ∧ Made ns (i + 1) ((if i = 0 then sb.data.toList else sb.data.toList ++ [47]) ++ y) (out ++ [(if i = 0 then sb.data.toList else sb.data.toList ++ [47]) ++ y])) := ⟨by rw [← hyb], hst⟩
      clear hc1 hy hst hyb
      by_cases h0 : i = 0
      · subst h0
        have c0 : wr.cell? ⟨b1, o1, none⟩ = some (.string yb) := c1
        go_wp2_with (at_builtin; generalize hz : sb ++ yb = zb; refine app_one rfl (.tmp 29) (.tmp 31) rfl w1.heap.size _ out zb.data.toList _ rfl HM.out.2.1 rfl (by omega) HM.out.2.2.size ?_; intro v' w4 hown4 hbel4)
        go_roundg (gk - 1)
        case measure => omega
        case rel =>
          have M : Made ns 1 (sb.data.toList ++ y) (out ++ [sb.data.toList ++ y]) := X.out.2
          rw [← X.out.1, ← app_str, hz] at M
          exact ⟨1, zb, _, by go_num, rfl, by omega, by rw [← hz, app_size]; omega, M, hown4, HM.out.2.2.trans hbel4⟩
      · have h0' : (0 : Int) < i := by omega
        go_wp2_with (at_builtin; generalize hz : sb ++ ⟨#[47]⟩ ++ yb = zb; refine app_one rfl (.tmp 29) (.tmp 31) rfl w1.heap.size _ out zb.data.toList _ rfl HM.out.2.1 rfl (by omega) HM.out.2.2.size ?_; intro v' w4 hown4 hbel4)
        go_roundg (gk - 1)
        case measure => omega
        case rel =>
          have M := X.out.2
          rw [if_neg h0, ← X.out.1] at M
          have e : sb.data.toList ++ [47] ++ yb.data.toList = (sb ++ ⟨#[47]⟩ ++ yb).data.toList := by rw [app_str, app_str]
          rw [e, hz] at M
          exact ⟨i + 1, zb, _, by go_num, rfl, by omega, by rw [← hz, app_size, app_size]; show sb.size + 1 + yb.size ≤ _; omega, M, hown4, HM.out.2.2.trans hbel4⟩
    · obtain rfl : i = n := by omega
      have hfin : out = cums [] ns := by
        have := HM.out.1.1
        rw [List.drop_eq_nil_of_le (by rw [G.out.2.1]; omega), cums, List.append_nil] at this
        exact this
      have F : Hid (out = cums [] ns) := hfin
      clear hfin
      go_wp2
      go_ret
      refine ⟨_, rfl, ?_, G.out.2.2.trans (HM.out.2.2.mono G.out.2.2.size)⟩
      rw [P.out.1, ← F.out]
      exact own_low HM.out.2.1 G.out.2.2.size

set_option maxHeartbeats 800000 in
set_option maxRecDepth 100000 in
theorem rparts_any (s : ByteArray) (w : World) :
    Calls Try.prog 39 #[.string s] w fun e w' => ∃ v', e = .returned v' ∧ Own w' w.heap.size v' (parts s.data.toList) ∧ Below w.heap.size w w' := by
  cases hp : isPath s.data.toList with
  | true => exact rparts_walk s w hp
  | false =>
    have hi0 := ris_any s w
    rw [hp] at hi0
    have hq : parts s.data.toList = [] := by rw [parts, hp]; rfl
    rw [hq]
    clear hp hq
    go_enter Try.func39, Try.ntmps39
    go_wp2_with fail
    refine hi0.mono ?_
    rintro e w0 ⟨rfl, hb0⟩
    go_wp2
    go_ret
    exact ⟨_, rfl, Own.nil _ _, hb0⟩

end Go.Proofs.Ytbclmpjcfddlcaa
