/-
  Several texts, laid together.
-/
import Derived.Test.YtofbphmdkhocdaaGreatM02
import Derived.Test.YtofbphmdkhocdaaGreatM01
import Derived.Test.YtofbphmdkhocdaaGreatPRSmallMg
import Derived.Laws.IdiomStrings

/-
  The reference's Names by a contract: a text of at most 102 bytes.
-/
namespace Go.Proofs.YtofbphmdkhocdaaGreat
open Go.RowKit

/-- One byte more. -/
def addB (ns : List Bs) (b : UInt8) : List Bs := if b = 47 then ns ++ [[]] else ns.dropLast ++ [ns.getLastD [] ++ [b]]

theorem names_snoc : ∀ (l : Bs) (b : UInt8), names (l ++ [b]) = addB (names l) b
  | [], b => by
    by_cases h : b = 47 <;> simp [names, addB, h]
  | a :: t, b => by
    have ih := names_snoc t b
    have hne := names_ne t
    by_cases ha : a = 47
    · simp only [List.cons_append, names, ha, if_true, ih]
      by_cases hb : b = 47
      · simp [addB, hb]
      · cases hn : names t with
        | nil => exact absurd hn hne
        | cons x y => simp [addB, hb]
    · simp only [List.cons_append, names, ha, if_false, ih]
      by_cases hb : b = 47
      · cases hn : names t with
        | nil => exact absurd hn hne
        | cons x y => simp [addB, hb]
      · cases hn : names t with
        | nil => exact absurd hn hne
        | cons x y => cases y <;> simp [addB, hb]

theorem names_len (l : Bs) : (names l).length ≤ l.length + 1 := by
  have := names_size l
  omega

theorem take_snoc {l : Bs} {i : Nat} (h : i < l.length) : l.take (i + 1) = l.take i ++ [l[i]] := List.take_succ_eq_append_getElem h



theorem addB_set {ns : List Bs} {k : Nat} {b : UInt8} (hk : ns.length = k + 1) (hb : ¬ b = 47) : addB ns b = ns.set k (el ns k ++ [b]) := by
  rw [addB, if_neg hb]
  have hne : ns ≠ [] := by intro e; rw [e] at hk; simp at hk
  obtain ⟨a, y, rfl⟩ : ∃ a y, ns = a ++ [y] := ⟨ns.dropLast, ns.getLast hne, (List.dropLast_concat_getLast hne).symm⟩
  have hka : a.length = k := by simpa using hk
  have e1 : el (a ++ [y]) k = y := by rw [el_get (by omega)]; simp [← hka]
  rw [e1]
  simp [← hka]

theorem flat_mem : ∀ (ns : List Bs) (x : Bs), x ∈ ns → x.length ≤ ns.flatten.length
  | a :: t, x, h => by
    rcases List.mem_cons.1 h with e | e
    · subst e; simp
    · have := flat_mem t x e
      rw [List.flatten_cons, List.length_append]
      omega

theorem name_short {l x : Bs} (h : x ∈ names l) : x.length ≤ l.length := by
  have h1 := flat_mem _ _ h
  have h2 := names_size l
  have h3 : 0 < (names l).length := List.length_pos_of_mem h
  omega

theorem conv_one (ww : World) (b : UInt8) :
    (convert 94 9 (.slice (some ⟨ww.heap.size, 0, none⟩) 1 1)).run Tryz.prog (ww.alloc (.cells #[.int .u8 b.toNat] 5)).drew = .ok (.string ⟨#[b]⟩) (ww.alloc (.cells #[.int .u8 b.toNat] 5)).drew := by
  have h := run_convert_bytes_back (P := Tryz.prog) (ww.alloc (.cells #[.int .u8 b.toNat] 5)).drew 94 9 5 ⟨ww.heap.size, 0, none⟩ 1 [b] Tryz.underlying94 Tryz.underlying5 Tryz.underlying9 (by
    intro j hj
    have hj0 : j = 0 := by simpa using hj
    subst hj0
    show (ww.alloc (.cells #[.int .u8 b.toNat] 5)).cell? _ = _
    rw [addr_at, World.cell?_alloc_new]
    rfl)
  exact h

set_option maxHeartbeats 8000000 in
set_option maxRecDepth 100000 in
theorem rnames_any (s : ByteArray) (hs : s.size ≤ 102) (w : World) :
    Calls Tryz.prog 73 #[.string s] w fun e w' => ∃ v', e = .returned v' ∧ Own w' w.heap.size v' (names s.data.toList) ∧ Below w.heap.size w w' := by
  have E : Hid (s.size = s.data.toList.length) := bsize s
  go_enter Tryz.func73, Tryz.ntmps73
  go_wp2_with fail
  go_loopg [3, 4] s.size (fun k ov v wr => ∃ (i : Nat), v = .int .i64 i ∧ i + k = s.size ∧ Hid (Own wr w.heap.size ov (names (s.data.toList.take i)) ∧ Below w.heap.size w wr))
  case atStart => exact ⟨0, rfl, by omega, World.ownsRow_lit w _ 1 (Nat.le_refl _) (by decide) rfl, (Below.refl _ w).alloc (Nat.le_refl _) _⟩
  case round =>
    obtain ⟨i, rfl, hi, HR⟩ := hrel
    by_cases hin : i < s.size
    · have hst : names (s.data.toList.take (i + 1)) = addB (names (s.data.toList.take i)) s[i] := by
        rw [take_snoc (by rw [← E.out]; exact hin), names_snoc]
        rfl
      obtain ⟨b, hb⟩ : ∃ b, s[i] = b := ⟨_, rfl⟩
      rw [hb] at hst
      obtain ⟨ns, hns⟩ : ∃ ns, names (s.data.toList.take i) = ns := ⟨_, rfl⟩
      have hnl := names_len (s.data.toList.take i)
      have hne := names_ne (s.data.toList.take i)
      rw [hns] at hst hnl hne HR
      have ST : Hid _ := hst
      rw [List.length_take] at hnl
      have hnl2 : ns.length ≤ 103 := by omega
      clear hst hnl
      by_cases h47 : b = 47
      · subst h47
        have hbi : ((47 : UInt8).toNat : Int) = 47 := rfl
        go_wp2_with (at_builtin; refine app_one rfl (.tmp 16) (.tmp 17) rfl w.heap.size _ ns [] _ rfl HR.out.1 rfl (by omega) HR.out.2.size ?_; intro v' w4 hown4 hbel4)
        go_roundg (gk - 1)
        case measure => omega
        case rel => exact ⟨i + 1, by go_num, by omega, by rw [ST.out, addB, if_pos rfl]; exact hown4, HR.out.2.trans hbel4⟩
      · have hbi : ((b.toNat : Int) == 47) = false := by
          rw [beq_eq_false_iff_ne]
          intro e
          exact h47 (UInt8.toNat_inj.1 (show b.toNat = 47 by omega))
        obtain ⟨k, hk⟩ : ∃ k, ns.length = k + 1 := ⟨ns.length - 1, by cases ns with
          | nil => exact absurd rfl hne
          | cons x y => simp⟩
        obtain ⟨ao, cap, rfl, hcap, hcm, R⟩ := HR.out.1.form
        obtain ⟨g, hg⟩ : ∃ g, ao = some ⟨g, 0, none⟩ := (own_form HR.out.1).elim fun a h => h.elim fun c h => by
          have := h.2.2.2 (by omega)
          obtain ⟨g, hg⟩ := this
          exact ⟨g, by have := h.1; cases this; exact hg⟩
        subst hg
        rw [hk] at HR ⊢
        obtain ⟨x, hx⟩ : ∃ x, el ns k = x := ⟨_, rfl⟩
        have hcf := own_at HR.out.1 (i := k) (by omega)
        rw [hx] at hcf
        obtain ⟨hc, hf⟩ := hcf
        obtain ⟨xb, hxb⟩ : ∃ xb : ByteArray, (⟨x.toArray⟩ : ByteArray) = xb := ⟨_, rfl⟩
        rw [hxb] at hc
        have hxl : xb.size ≤ 102 := by
          have hmem : x ∈ names (s.data.toList.take i) := by rw [hns, ← hx]; exact el_mem (by omega)
          have h1 := name_short hmem
          rw [List.length_take] at h1
          rw [← hxb, bsize]
          show x.length ≤ 102
          omega
        have hgl : g < wr.heap.size := (HR.out.1.lt g rfl).2
        have hca : ∀ o, (wr.alloc o).cell? ⟨g, k, none⟩ = some (.string xb) := fun o => (((Below.refl _ wr).alloc (Nat.le_refl _) o).cell (p := ⟨g, k, none⟩) hgl).trans hc
        have hfa : ∀ o, (wr.alloc o).frozen? ⟨g, k, none⟩ = false := fun o => (((Below.refl _ wr).alloc (Nat.le_refl _) o).frozen (p := ⟨g, k, none⟩) hgl).trans hf
        have hcv := fun ww => conv_one ww b
        have XB : Hid (el ns k = x ∧ (⟨x.toArray⟩ : ByteArray) = xb) := ⟨hx, hxb⟩
        clear R hx hxb hns
        go_wp2_with fail
        go_region
        go_wp2
        go_roundg (gk - 1)
        case measure => omega
        case rel =>
          have eb : xb ++ ⟨#[b]⟩ = ⟨(x ++ [b]).toArray⟩ := by
            rw [← XB.out.2]
            apply ByteArray.ext
            rw [ByteArray.data_append]
            simp
          rw [eb]
          have hb1 : Below w.heap.size w (wr.setCell ⟨g, k, none⟩ (.string ⟨(x ++ [b]).toArray⟩)) :=
            HR.out.2.trans ((Turned.refl (fun k => k = g) wr).setCell (.inl rfl) _ |>.below HR.out.2.size (fun j hj q => by have := (HR.out.1.lt g rfl).1; omega))
          have hb2 : Below (wr.setCell ⟨g, k, none⟩ (.string ⟨(x ++ [b]).toArray⟩)).heap.size (wr.setCell ⟨g, k, none⟩ (.string ⟨(x ++ [b]).toArray⟩)) ((wr.setCell ⟨g, k, none⟩ (.string ⟨(x ++ [b]).toArray⟩)).alloc (.cells #[.int .u8 b.toNat] 5)).drew := ((Below.refl _ _).alloc (Nat.le_refl _) _).drew
          refine ⟨i + 1, by go_num, by omega, ?_, hb1.trans (hb2.mono hb1.size)⟩
          rw [ST.out, addB_set hk h47, XB.out.1]
          exact (own_put HR.out.1 k (x ++ [b])).below hb2
    · obtain rfl : i = s.size := by omega
      rw [E.out, List.take_length] at HR
      go_wp2
      go_ret
      exact ⟨_, rfl, HR.out.1, HR.out.2⟩

end Go.Proofs.YtofbphmdkhocdaaGreat

/-
  The reference's Is and Parts, each by a contract: whether a text is a path, and its parts. No condition but that a text is no longer than any text can be.
-/
namespace Go.Proofs.YtofbphmdkhocdaaGreat
open Go.RowKit

theorem all_step {ss : List Bs} {p : Bs → Bool} {i : Nat} (h : i < ss.length) (ht : (ss.take i).all p = true) (hx : p (el ss i) = true) : (ss.take (i + 1)).all p = true := by
  rw [List.take_succ_eq_append_getElem h, List.all_append, ht, ← el_get h]
  simp [hx]
theorem all_miss {ss : List Bs} {p : Bs → Bool} {i : Nat} (h : i < ss.length) (hx : p (el ss i) = false) : ss.all p = false :=
  List.all_eq_false.2 ⟨_, el_mem h, by simp [hx]⟩

theorem rname_at (l : Bs) (hl : l.length ≤ 9223372036854775807) (f : Bool) (hf : isName l = f) (w : World) :
    Calls Tryz.prog 74 #[.string ⟨l.toArray⟩] w fun e w' => e = .returned (.bool f) ∧ w' = w := by
  subst hf
  exact rname_any ⟨l.toArray⟩ (by rw [bsize]; exact hl) w

set_option maxHeartbeats 1600000 in
set_option maxRecDepth 100000 in
theorem ris_any (s : ByteArray) (w : World) :
    Calls Tryz.prog 57 #[.string s] w fun e w' => e = .returned (.bool (isPath s.data.toList)) ∧ Below w.heap.size w w' := by
  have E : Hid (s.size = s.data.toList.length) := bsize s
  by_cases h : s.size ≤ 102
  · have h' : ¬ (102 : Int) < s.size := by omega
    have hn := rnames_any s h w
    obtain ⟨ns, hns⟩ : ∃ ns, names s.data.toList = ns := ⟨_, rfl⟩
    have hP : isPath s.data.toList = (ns.all isName && decide (ns.length ≤ 6)) := by rw [isPath, chk_names, hns]
    have hsh : ∀ x ∈ ns, x.length ≤ 102 := by
      intro x hx
      rw [← hns] at hx
      have := name_short hx
      rw [← E.out] at this
      omega
    have hnl := names_len s.data.toList
    rw [hns, ← E.out] at hnl
    rw [hns] at hn
    have P : Hid (isPath s.data.toList = (ns.all isName && decide (ns.length ≤ 6)) ∧ ∀ x ∈ ns, x.length ≤ 102) := ⟨hP, hsh⟩
    clear hP hsh hns
    go_enter Tryz.func57, Tryz.ntmps57
    go_wp2_with fail
    refine hn.mono ?_
    rintro e w1 ⟨v1, rfl, ho, hb⟩
    obtain ⟨ao, cap, rfl, _, _, R⟩ := ho.form
    obtain ⟨n, hnn⟩ : ∃ n, ns.length = n := ⟨_, rfl⟩
    have G : Hid (Rd w1 ao ns ∧ ns.length = n ∧ Below w.heap.size w w1) := ⟨R, hnn, hb⟩
    rw [hnn] at hnl ⊢
    clear ho hb R hn hnn
    go_wp2_with fail
    go_loopg [4] n (fun k v wr => ∃ (i : Nat), v = .int .i64 i ∧ i + k = n ∧ wr = w1 ∧ Hid ((ns.take i).all isName = true))
    case atStart => exact ⟨0, rfl, by omega, rfl, rfl⟩
    case round =>
      obtain ⟨i, rfl, hi, rfl, HT⟩ := hrel
      by_cases hin : i < n
      · have id : (i : Int) < (n : Int) := by omega
        obtain ⟨b1, o1, rfl, hlt1, hc1⟩ := G.out.1 (by rw [G.out.2.1]; omega)
        obtain ⟨y, hy⟩ : ∃ y, el ns i = y := ⟨_, rfl⟩
        have c1 := hc1 i (by rw [G.out.2.1]; omega)
        rw [hy] at c1
        have hyl : y.length ≤ 102 := by rw [← hy]; exact P.out.2 _ (el_mem (by rw [G.out.2.1]; exact hin))
        have X : Hid (el ns i = y) := hy
        clear hc1 hy
        cases hf : isName y with
        | true =>
          have hc := rname_at y (by omega) true hf
          go_wp2_with fail
          refine (hc _).mono ?_
          rintro e w' ⟨rfl, rfl⟩
          go_wp2
          go_roundg (gk - 1)
          case measure => omega
          case rel => exact ⟨i + 1, by go_num, by omega, rfl, all_step (by rw [G.out.2.1]; exact hin) HT.out (by rw [X.out]; exact hf)⟩
        | false =>
          have hc := rname_at y (by omega) false hf
          go_wp2_with fail
          refine (hc _).mono ?_
          rintro e w' ⟨rfl, rfl⟩
          go_wp2
          go_ret
          exact ⟨by rw [P.out.1, all_miss (p := isName) (i := i) (by rw [G.out.2.1]; exact hin) (by rw [X.out]; exact hf)]; rfl, G.out.2.2⟩
      · obtain rfl : i = n := by omega
        have ha := HT.out
        rw [List.take_of_length_le (by rw [G.out.2.1]; omega)] at ha
        have A : Hid (ns.all isName = true) := ha
        clear ha
        go_wp2
        go_ret
        refine ⟨congrArg (fun b => Ending.returned (Value.bool b)) ?_, G.out.2.2⟩
        rw [P.out.1, A.out, G.out.2.1, Bool.eq_iff_iff]
        simp
        try omega
  · have h' : (102 : Int) < s.size := by omega
    have hP : isPath s.data.toList = false := by
      rw [← refIs_eq, refIs, ← E.out]
      simp
      omega
    rw [hP]
    go_enter Tryz.func57, Tryz.ntmps57
    go_wp2
    go_ret
    exact ⟨rfl, Below.refl _ _⟩

theorem ris_at (l : Bs) (f : Bool) (hf : isPath l = f) (w : World) :
    Calls Tryz.prog 57 #[.string ⟨l.toArray⟩] w fun e w' => e = .returned (.bool f) ∧ Below w.heap.size w w' := by
  subst hf
  exact ris_any ⟨l.toArray⟩ w

end Go.Proofs.YtofbphmdkhocdaaGreat
