/-
  Several texts, laid together.
-/
import Derived.Test.YtofbphmdkhocdaaGreatM08
import Derived.Test.YtofbphmdkhocdaaGreatM00
import Derived.Lib.SlicesCompact
import Derived.Sort.Walk0

/-
  object.checkTree, object.Tree and object.Find, each by a contract over lists of entries. No condition but that the lists and texts are no longer than any can be.
-/
namespace Go.Proofs.YtofbphmdkhocdaaGreat
open Go.RowKit

theorem tr_pre {es : List En} {i : Nat} (h : ¬ Tr (es.take i)) : ¬ Tr es := fun q => h (List.Pairwise.sublist (List.take_sublist i es) q)
theorem takeE_snoc {α : Type} {es : List α} {i : Nat} {e : α} (h : es[i]? = some e) : es.take (i + 1) = es.take i ++ [e] := by
  rw [List.take_add_one, h]
  rfl
theorem allE_step {es : List En} {i : Nat} {e : En} (h : es[i]? = some e) (ht : ((es.take i).all fun e => isPath e.1) = true) (hx : isPath e.1 = true) : ((es.take (i + 1)).all fun e => isPath e.1) = true := by
  rw [takeE_snoc h, List.all_append, ht]
  simp [hx]
theorem allE_miss {es : List En} {i : Nat} {e : En} (h : es[i]? = some e) (hx : isPath e.1 = false) : (es.all fun e => isPath e.1) = false :=
  List.all_eq_false.2 ⟨e, List.mem_of_getElem? h, by simp [hx]⟩

/-- Texts that can be there. -/
def Fine (es : List En) : Prop := ∀ e ∈ es, e.1.length ≤ 9223372036854775807

set_option maxHeartbeats 3200000 in
set_option maxRecDepth 100000 in
/-- object.checkTree. -/
theorem ctree_any {ao : Option Addr} {c n : Nat} {es : List En} (w : World) (hr : RdG encE w ao es) (hl : es.length = n) (hf : Fine es) (hc : n ≤ c) :
    Calls Tryz.prog 63 #[.slice ao n c] w fun e w' => e = .returned (.int .i64 (ctree es)) ∧ Below w.heap.size w w' := by
  by_cases h64 : 64 < n
  · have q : (64 : Int) < (n : Int) := by omega
    have e : ctree es = 4 := by unfold ctree; rw [if_pos (by omega)]
    rw [e]
    clear hr hl hf e hc
    go_enter Tryz.func63, Tryz.ntmps63
    go_wp2
    go_ret
    exact ⟨rfl, Below.refl _ _⟩
  have q : decide ((64 : Int) < (n : Int)) = false := by rw [decide_eq_false_iff_not]; omega
  have H : Hid (RdG encE w ao es ∧ es.length = n ∧ Fine es ∧ n ≤ c) := ⟨hr, hl, hf, hc⟩
  clear hr hl hf hc
  go_enter Tryz.func63, Tryz.ntmps63
  go_wp2_with fail
  go_loopg [13] n (fun m iv wr => ∃ i : Nat, iv = .int .i64 i ∧ i + m = n ∧ Hid (((es.take i).all fun e => isPath e.1) = true ∧ Below w.heap.size w wr))
  case atStart => exact ⟨0, rfl, by omega, rfl, Below.refl _ _⟩
  case round =>
    obtain ⟨i, rfl, hi, HR⟩ := hrel
    by_cases hin : i < n
    · have id : (i : Int) < (n : Int) := by omega
      obtain ⟨e, he⟩ := get_some H.out.2.1 hin
      obtain ⟨b, off, rfl, hlt⟩ := H.out.1.some_of he
      obtain ⟨_, c0, c1⟩ := (H.out.1.below HR.out.2).ents he
      have hfe := H.out.2.2.1 e (List.mem_of_getElem? he)
      obtain ⟨d, z⟩ := e
      obtain ⟨zi, hz⟩ : ∃ zi, (z.toNat : Int) = zi := ⟨_, rfl⟩
      simp only at c0 c1 hfe
      rw [hz] at c1
      have HE : Hid (es[i]? = some (d, z)) := he
      clear he hz
      have hsz : (⟨d.toArray⟩ : ByteArray).size ≤ 9223372036854775807 := by show d.toArray.size ≤ _; simpa using hfe
      cases hp : isPath d with
      | true =>
        have hck := pcheck_at ⟨d.toArray⟩ hsz true hp (wr.alloc (.cells #[tx d, .int .u64 zi] 52))
        rw [show err true = 0 from rfl] at hck
        clear hsz hfe
        go_wp2_with fail
        refine hck.mono ?_
        rintro e w2 ⟨rfl, m2, rfl⟩
        go_wp2
        go_roundg (gk - 1)
        case measure => omega
        case rel => exact ⟨i + 1, by go_num, by omega, allE_step HE.out HR.out.1 hp, HR.out.2.trans (((bz1 wr _).trans ((bdrewN _ _).mono (bz1 wr _).size)).mono HR.out.2.size)⟩
      | false =>
        have hck := pcheck_at ⟨d.toArray⟩ hsz false hp (wr.alloc (.cells #[tx d, .int .u64 zi] 52))
        rw [show err false = 2 from rfl] at hck
        have hct : ctree es = 2 := by
          unfold ctree
          rw [if_neg (by rw [H.out.2.1]; exact h64), if_pos (allE_miss HE.out hp)]
        clear hsz hfe
        go_wp2_with fail
        refine hck.mono ?_
        rintro e w2 ⟨rfl, m2, rfl⟩
        go_wp2
        go_ret
        exact ⟨by rw [hct]; rfl, HR.out.2.trans (((bz1 wr _).trans ((bdrewN _ _).mono (bz1 wr _).size)).mono HR.out.2.size)⟩
    · obtain rfl : i = n := by omega
      have hall := HR.out.1
      rw [List.take_of_length_le (by rw [H.out.2.1]; omega)] at hall
      have HA : Hid (((es.all fun e => isPath e.1) = true) ∧ Below w.heap.size w wr) := ⟨hall, HR.out.2⟩
      obtain ⟨w1, hw1⟩ : ∃ w1, w1 = wr := ⟨_, rfl⟩
      rw [← hw1] at HA ⊢
      clear hall hw1 HR wr hin hi
      go_wp2_with fail
      go_loopg [26] i (fun m iv wr => ∃ k : Nat, iv = .int .i64 k ∧ k + m = i ∧ Hid (Tr (es.take k) ∧ Below w.heap.size w wr))
      case atStart => exact ⟨0, rfl, by omega, List.Pairwise.nil, HA.out.2⟩
      case round =>
        obtain ⟨k, rfl, hi, HR⟩ := hrel
        by_cases hin : k < i
        · have id : (k : Int) < (i : Int) := by omega
          have hk0 : (0 : Int) ≤ (k : Int) := by omega
          obtain ⟨e, he⟩ := get_some H.out.2.1 hin
          obtain ⟨b, off, rfl, hlt⟩ := H.out.1.some_of he
          obtain ⟨_, c0, c1⟩ := (H.out.1.below HR.out.2).ents he
          obtain ⟨d, z⟩ := e
          obtain ⟨zi, hz⟩ : ∃ zi, (z.toNat : Int) = zi := ⟨_, rfl⟩
          simp only at c0 c1
          rw [hz] at c1
          have HE : Hid (es[k]? = some (d, z)) := he
          obtain ⟨a3, c3, s3, o3, _, r3⟩ := sliceG_h encE 52 22 24 _ Tryz.info52 Tryz.underlying22 (by kernel_rfl) (ao := some ⟨b, off, none⟩) (k := k) H.out.2.2.2 (by omega)
          obtain ⟨W2, hW2⟩ : ∃ W2, wr.alloc (.cells #[tx d, .int .u64 zi] 52) = W2 := ⟨_, rfl⟩
          have b2 : Below wr.heap.size wr W2 := by rw [← hW2]; exact bz1 _ _
          have bx : Box W2 wr.heap.size 52 (tx d) (.int .u64 zi) := by rw [← hW2]; exact Box.new _ _ _ _
          have NE : Nonempty (SW (Grew W2)) := ⟨⟨W2, Below.refl _ _⟩⟩
          have k0 : ∀ u : SW (Grew W2), u.w.cell? ⟨wr.heap.size, 0, none⟩ = some (tx d) := fun u => ((bx.below u.ok).cells).1
          obtain ⟨f, hff⟩ : ∃ f, fits d (es.take k) = f := ⟨_, rfl⟩
          have hfi : ∀ u : SW (Grew W2), Calls Tryz.prog 85 #[tx d, .slice a3 k c3] u.w fun e w' => e = .returned (.bool f) ∧ ∃ u' : SW (Grew W2), w' = u'.w := fun u => by
            refine (fits_any d u.w (r3 u.w es (((H.out.1.below HR.out.2).below b2).below u.ok)) (by rw [List.length_take, H.out.2.1]; omega) (by omega) f hff).mono ?_
            rintro e w' ⟨rfl, hb⟩
            exact ⟨rfl, ⟨w', u.ok.trans (hb.mono u.ok.size)⟩, rfl⟩
          have HF : Hid (fits d (es.take k) = f ∧ Below w.heap.size w W2) := ⟨hff, HR.out.2.trans (b2.mono HR.out.2.size)⟩
          clear he hz bx b2 r3 o3 hff
          go_wp2_with fail
          refine wp_region_class (S := Grew W2) (by kernel_rfl) (by kernel_rfl) (Below.refl _ W2).drew ?_
          repeat (go_big_quiet_step (with_reducible exact hfi _))
          refine wpQuiet_nil ?_
          intro _ hw'
          obtain ⟨u, hw''⟩ := hw'
          subst hw''
          have N4 : Hid (Below w.heap.size w u.w) := HF.out.2.trans (u.ok.mono HF.out.2.size)
          obtain ⟨w4, hw4⟩ : ∃ w4, w4 = u.w := ⟨_, rfl⟩
          rw [← hw4] at N4 ⊢
          clear hw4 k0 hfi NE u
          have fi := fits_iff (x := (d, z)) HR.out.1
          rw [← takeE_snoc HE.out] at fi
          simp only at fi
          rw [HF.out.1] at fi
          cases f with
          | true =>
            have T : Hid (Tr (es.take (k + 1))) := fi.1 rfl
            clear fi
            go_wp2
            go_roundg (gk - 1)
            case measure => omega
            case rel => exact ⟨k + 1, by go_num, by omega, T.out, N4.out⟩
          | false =>
            have hct : ctree es = 12 := by
              unfold ctree
              rw [if_neg (by rw [H.out.2.1]; exact h64), if_neg (by rw [HA.out.1]; decide), if_neg (tr_pre (i := k + 1) (fun q => by have := fi.2 q; cases this))]
            clear fi
            go_wp2
            go_ret
            exact ⟨by rw [hct]; rfl, N4.out⟩
        · obtain rfl : k = i := by omega
          have htr := HR.out.1
          rw [List.take_of_length_le (by rw [H.out.2.1]; omega)] at htr
          have hct : ctree es = 0 := ctree_mk (by rw [H.out.2.1]; omega) HA.out.1 htr
          clear htr
          go_wp2
          go_ret
          exact ⟨by rw [hct]; rfl, HR.out.2⟩

theorem treeB_take {es : List En} {i : Nat} {e : En} (h : es[i]? = some e) : treeB (es.take (i + 1)) = treeB (es.take i) ++ (UInt8.ofNat e.1.length :: e.1) ++ b8 e.2 := by
  rw [takeE_snoc h, treeB_snoc]
  simp [entB]

theorem treeB_len : ∀ {es : List En}, Sm es → (treeB es).length ≤ 264 * es.length
  | [], _ => by simp [treeB]
  | e :: t, h => by
    have := treeB_len (es := t) (fun x hx => h x (List.mem_cons_of_mem _ hx))
    have h1 := h e List.mem_cons_self
    simp only [treeB, List.flatMap_cons, List.length_append, entB_len, List.length_cons] at this ⊢
    omega

set_option maxHeartbeats 3200000 in
set_option maxRecDepth 100000 in
theorem tree_err {ao : Option Addr} {c n : Nat} {es : List En} (w : World) (hr : RdG encE w ao es) (hl : es.length = n) (hf : Fine es) (hc : n ≤ c) (ce : Int) (h : ctree es = ce) (h0 : ce ≠ 0) :
    Calls Tryz.prog 44 #[.slice ao n c] w fun e w' => e = .returned (.tuple #[.slice none 0 0, .int .i64 ce]) ∧ Below w.heap.size w w' := by
  have hct := ctree_any w hr hl hf hc
  rw [h] at hct
  have m0 : (ce == 0) = false := by simpa using h0
  have m1 : (ce != 0) = true := by simpa using h0
  clear hr hl hf hc h h0
  go_enter Tryz.func44, Tryz.ntmps44
  go_wp2_with fail
  refine hct.mono ?_
  rintro e w1 ⟨rfl, hb⟩
  go_wp2
  refine bodyPost_ret (results_tmp2 rfl _ _ _) rfl ?_
  exact ⟨rfl, hb⟩

set_option maxHeartbeats 3200000 in
set_option maxRecDepth 100000 in
theorem tree_ok {ao : Option Addr} {c n : Nat} {es : List En} (w : World) (hr : RdG encE w ao es) (hl : es.length = n) (hf : Fine es) (hc : n ≤ c) (h : ctree es = 0) :
    Calls Tryz.prog 44 #[.slice ao n c] w fun e w' => ∃ v, e = .returned (.tuple #[v, .int .i64 0]) ∧ Hid (OwnG encB 5 w' w.heap.size v (treeB es) ∧ Below w.heap.size w w') := by
  have hct := ctree_any w hr hl hf hc
  rw [h] at hct
  have hn : n ≤ 64 := by rw [← hl]; exact (ctree_ok h).1
  have H : Hid (RdG encE w ao es ∧ es.length = n ∧ Sm es) := ⟨hr, hl, ctree_sm h⟩
  clear hr hl hf hc h
  go_enter Tryz.func44, Tryz.ntmps44
  go_wp2_with fail
  refine hct.mono ?_
  rintro e w1 ⟨rfl, hb1⟩
  have HB : Hid (Below w.heap.size w w1) := hb1
  clear hb1 hct
  go_wp2_with fail
  go_loopg [5, 15] n (fun m rv iv wr => ∃ i : Nat, iv = .int .i64 i ∧ i + m = n ∧ Hid (OwnG encB 5 wr w.heap.size rv (treeB (es.take i)) ∧ Below w.heap.size w wr))
  case atStart => exact ⟨0, rfl, by omega, OwnG.nil _ _ _ _, HB.out⟩
  case round =>
    obtain ⟨i, rfl, hi, HR⟩ := hrel
    by_cases hin : i < n
    · have id : (i : Int) < (n : Int) := by omega
      obtain ⟨e, he⟩ := get_some H.out.2.1 hin
      obtain ⟨b, off, rfl, hlt⟩ := H.out.1.some_of he
      obtain ⟨_, c0, c1⟩ := (H.out.1.below HR.out.2).ents he
      have hsm := H.out.2.2 e (List.mem_of_getElem? he)
      have hlen : (treeB (es.take i)).length ≤ 264 * 64 := by
        have h1 := treeB_len (es := es.take i) (fun x hx => H.out.2.2 x (List.mem_of_mem_take hx))
        have h2 : (es.take i).length ≤ 64 := by rw [List.length_take, H.out.2.1]; omega
        omega
      obtain ⟨d, z⟩ := e
      have hst := treeB_take he
      simp only at c0 c1 hsm hst
      obtain ⟨W2, hW2⟩ : ∃ W2, wr.alloc (.cells #[tx d, .int .u64 (z.toNat : Int)] 52) = W2 := ⟨_, rfl⟩
      have b2 : Below wr.heap.size wr W2 := by rw [← hW2]; exact bz1 _ _
      have bx : Box W2 wr.heap.size 52 (tx d) (.int .u64 (z.toNat : Int)) := by rw [← hW2]; exact Box.new _ _ _ _
      have B2 := HR.out.2.trans (b2.mono HR.out.2.size)
      have hat := appText_any d hsm (HR.out.1.below b2) B2.size (by omega)
      have J2 : Hid (Box W2 wr.heap.size 52 (tx d) (.int .u64 (z.toNat : Int)) ∧ Below w.heap.size w W2 ∧ (∀ g, u5.ownBlock = some g → g < wr.heap.size) ∧ treeB (es.take (i + 1)) = treeB (es.take i) ++ (UInt8.ofNat d.length :: d) ++ b8 z ∧ (treeB (es.take i)).length ≤ 264 * 64 ∧ d.length ≤ 255) := ⟨bx, B2, fun g hg => (HR.out.1.lt g hg).2, hst, hlen, hsm⟩
      obtain ⟨y0, y1⟩ := bx.cells
      clear he bx b2 B2 hst hlen hsm
      go_wp2_with fail
      refine hat.mono ?_
      rintro e w3 ⟨v3, rfl, J3⟩
      clear y0 y1
      have bx3 := J2.out.1.turned J3.out.2.2 (fun q => by have := J2.out.2.2.1 _ q; omega)
      obtain ⟨x0, x1⟩ := bx3.cells
      have B3 := J2.out.2.1.trans J3.out.2.1
      have han := appNum_any z.toNat J3.out.1 B3.size (by rw [List.length_append]; have h1 := J2.out.2.2.2.2.1; have h2 := J2.out.2.2.2.2.2; simp; omega)
      have J4 : Hid (Below w.heap.size w w3) := B3
      clear hat B3 c0 c1 bx3
      go_wp2_with fail
      refine han.mono ?_
      rintro e w4 ⟨v4, rfl, J5⟩
      clear han x0 x1
      go_wp2
      go_roundg (gk - 1)
      case measure => omega
      case rel => exact ⟨i + 1, by go_num, by omega, by rw [J2.out.2.2.2.1]; exact J5.out.1, J4.out.trans J5.out.2.1⟩
    · obtain rfl : i = n := by omega
      have htk : es.take i = es := List.take_of_length_le (by rw [H.out.2.1]; omega)
      rw [htk] at HR
      go_wp2
      refine bodyPost_ret (results_tmp2 rfl _ _ _) rfl ?_
      exact ⟨_, rfl, HR.out.1, HR.out.2⟩

/-- object.Tree. -/
theorem tree_any {ao : Option Addr} {c n : Nat} {es : List En} (w : World) (hr : RdG encE w ao es) (hl : es.length = n) (hf : Fine es) (hc : n ≤ c) :
    Calls Tryz.prog 44 #[.slice ao n c] w fun e w' => ∃ v, e = .returned (.tuple #[v, .int .i64 (ftree es).2]) ∧ Hid (OwnG encB 5 w' w.heap.size v (ftree es).1 ∧ Below w.heap.size w w') := by
  unfold ftree
  by_cases h : ctree es = 0
  · rw [if_pos h]
    exact tree_ok w hr hl hf hc h
  · rw [if_neg h]
    refine (tree_err w hr hl hf hc _ rfl h).mono ?_
    rintro e w' ⟨rfl, hb⟩
    exact ⟨_, rfl, OwnG.nil _ _ _ _, hb⟩

/-- What Find finds. -/
def ffind (es : List En) (p : Bs) : Option UInt64 := (es.find? (fun e => e.1 == p)).map (·.2)

theorem find_no {es : List En} {p : Bs} (h : es.any (fun e => e.1 == p) = false) : ffind es p = none := by
  unfold ffind
  rw [List.any_eq_false] at h
  rw [List.find?_eq_none.2 (fun x hx => by simpa using h x hx)]
  rfl
theorem find_at {es : List En} {p : Bs} {i : Nat} {e : En} (h : (es.take i).any (fun e => e.1 == p) = false) (he : es[i]? = some e) (hp : e.1 = p) : ffind es p = some e.2 := by
  unfold ffind
  rw [List.any_eq_false] at h
  obtain ⟨hi, he'⟩ := List.getElem?_eq_some_iff.1 he
  have : es = es.take i ++ e :: es.drop (i + 1) := by rw [← he', List.getElem_cons_drop, List.take_append_drop]
  rw [this, List.find?_append, List.find?_eq_none.2 (fun x hx => by simpa using h x hx)]
  simp [hp]

set_option maxHeartbeats 3200000 in
set_option maxRecDepth 100000 in
/-- object.Find. -/
theorem find_any {ao : Option Addr} {c n : Nat} {es : List En} (p : Bs) (w : World) (hr : RdG encE w ao es) (hl : es.length = n) (hn : n ≤ 4000000000000000000) (o : Option UInt64) (ho : ffind es p = o) :
    Calls Tryz.prog 36 #[.slice ao n c, tx p] w fun e w' => e = .returned (.tuple #[.int .u64 ((o.getD 0).toNat : Int), .bool o.isSome]) ∧ Below w.heap.size w w' := by
  have H : Hid (RdG encE w ao es ∧ es.length = n ∧ ffind es p = o) := ⟨hr, hl, ho⟩
  clear hr hl ho
  go_enter Tryz.func36, Tryz.ntmps36
  go_wp2_with fail
  go_loopg [10] n (fun m iv wr => ∃ i : Nat, iv = .int .i64 i ∧ i + m = n ∧ Hid ((es.take i).any (fun e => e.1 == p) = false ∧ Below w.heap.size w wr))
  case atStart => exact ⟨0, rfl, by omega, rfl, Below.refl _ _⟩
  case round =>
    obtain ⟨i, rfl, hi, HR⟩ := hrel
    by_cases hin : i < n
    · have id : (i : Int) < (n : Int) := by omega
      obtain ⟨e, he⟩ := get_some H.out.2.1 hin
      obtain ⟨b, off, rfl, hlt⟩ := H.out.1.some_of he
      obtain ⟨_, c0, c1⟩ := (H.out.1.below HR.out.2).ents he
      obtain ⟨d, z⟩ := e
      simp only at c0 c1
      have HE : Hid (es[i]? = some (d, z)) := he
      clear he
      by_cases hdp : d = p
      · subst hdp
        have hfo := find_at HR.out.1 HE.out rfl
        rw [H.out.2.2] at hfo
        subst hfo
        go_wp2
        refine bodyPost_ret (results_tmp2 rfl _ _ _) rfl ?_
        exact ⟨rfl, HR.out.2.trans ((bz1 wr _).mono HR.out.2.size)⟩
      · have m0 : (d == p) = false := by simpa using hdp
        go_wp2
        go_roundg (gk - 1)
        case measure => omega
        case rel => exact ⟨i + 1, by go_num, by omega, anyE_step (p := fun e : En => e.1 == p) HE.out HR.out.1 m0, HR.out.2.trans ((bz1 wr _).mono HR.out.2.size)⟩
    · obtain rfl : i = n := by omega
      have htk : es.take i = es := List.take_of_length_le (by rw [H.out.2.1]; omega)
      rw [htk] at HR
      have hfo := find_no HR.out.1
      rw [H.out.2.2] at hfo
      subst hfo
      go_wp2
      refine bodyPost_ret (results_tmp2 rfl _ _ _) rfl ?_
      exact ⟨rfl, HR.out.2⟩

end Go.Proofs.YtofbphmdkhocdaaGreat

/-
  Texts in rising order, each once: the document's way, text by text, and the library's (sorted, then alike neighbours struck), are the same list. No program.
-/
namespace Go.Proofs.YtofbphmdkhocdaaGreat
open Go.RowKit

theorem bl_irrefl (a : Bs) : ¬ a < a := List.lt_irrefl a
theorem bl_trans {a b c : Bs} (h : a < b) (k : b < c) : a < c := List.lt_trans h k
theorem bl_asymm {a b : Bs} (h : a < b) : ¬ b < a := List.lt_asymm h
theorem bl_le {a b : Bs} : a ≤ b ↔ ¬ b < a := Iff.rfl
theorem bl_tri (a b : Bs) : a < b ∨ a = b ∨ b < a := by
  by_cases h : a < b
  · exact .inl h
  · by_cases k : b < a
    · exact .inr (.inr k)
    · exact .inr (.inl (List.le_antisymm k h))

/-- A rising list with one text more. -/
def insB (s : Bs) : List Bs → List Bs
  | [] => [s]
  | x :: t => if s < x then s :: x :: t else x :: insB s t
def withB (l : List Bs) (s : Bs) : List Bs := if l.any (· == s) then l else insB s l
/-- The texts of a list, rising, each once. -/
def srt (l : List Bs) : List Bs := l.foldl withB []

def Rising (l : List Bs) : Prop := l.Pairwise (· < ·)

theorem rising_ext : ∀ {a b : List Bs}, Rising a → Rising b → (∀ x, x ∈ a ↔ x ∈ b) → a = b
  | [], [], _, _, _ => rfl
  | [], y :: b, _, _, h => absurd ((h y).2 (List.mem_cons_self ..)) (by simp)
  | x :: a, [], _, _, h => absurd ((h x).1 (List.mem_cons_self ..)) (by simp)
  | x :: a, y :: b, ha, hb, h => by
    have ha' := List.pairwise_cons.1 ha
    have hb' := List.pairwise_cons.1 hb
    have hxy : x = y := by
      rcases List.mem_cons.1 ((h x).1 (List.mem_cons_self ..)) with e | e
      · exact e
      · rcases List.mem_cons.1 ((h y).2 (List.mem_cons_self ..)) with f | f
        · exact f.symm
        · exact absurd (hb'.1 x e) (bl_asymm (ha'.1 y f))
    subst hxy
    congr 1
    refine rising_ext ha'.2 hb'.2 ?_
    intro z
    have hz := h z
    simp only [List.mem_cons] at hz
    constructor
    · intro q
      rcases hz.1 (.inr q) with e | e
      · subst e; exact absurd (ha'.1 z q) (bl_irrefl z)
      · exact e
    · intro q
      rcases hz.2 (.inr q) with e | e
      · subst e; exact absurd (hb'.1 z q) (bl_irrefl z)
      · exact e

theorem mem_insB (s : Bs) : ∀ (l : List Bs) (x : Bs), x ∈ insB s l ↔ x = s ∨ x ∈ l
  | [], x => by simp [insB]
  | y :: t, x => by
    by_cases h : s < y
    · simp [insB, h]
    · have := mem_insB s t x
      simp only [insB, h, if_false, List.mem_cons, this]
      constructor
      · rintro (q | q | q) <;> simp [q]
      · rintro (q | q | q) <;> simp [q]

theorem rising_insB (s : Bs) : ∀ (l : List Bs), Rising l → s ∉ l → Rising (insB s l)
  | [], _, _ => by simp [insB, Rising]
  | y :: t, hr, hs => by
    have hr' := List.pairwise_cons.1 hr
    by_cases h : s < y
    · simp only [insB, h, if_true]
      refine List.pairwise_cons.2 ⟨?_, hr⟩
      intro z hz
      rcases List.mem_cons.1 hz with e | e
      · subst e; exact h
      · exact bl_trans h (hr'.1 z e)
    · simp only [insB, h, if_false]
      refine List.pairwise_cons.2 ⟨?_, rising_insB s t hr'.2 (fun q => hs (List.mem_cons_of_mem _ q))⟩
      intro z hz
      rcases (mem_insB s t z).1 hz with e | e
      · subst e
        rcases bl_tri y z with q | q | q
        · exact q
        · exact absurd (q ▸ List.mem_cons_self ..) hs
        · exact absurd q h
      · exact hr'.1 z e

theorem mem_withB (l : List Bs) (s x : Bs) : x ∈ withB l s ↔ x ∈ l ∨ x = s := by
  unfold withB
  split
  · rename_i h
    have hs : s ∈ l := by
      obtain ⟨y, hy, e⟩ := List.any_eq_true.1 h
      have : y = s := by simpa using e
      exact this ▸ hy
    constructor
    · exact .inl
    · rintro (q | q)
      · exact q
      · exact q ▸ hs
  · rw [mem_insB]
    exact Or.comm

theorem rising_withB (l : List Bs) (s : Bs) (h : Rising l) : Rising (withB l s) := by
  unfold withB
  split
  · exact h
  · rename_i q
    refine rising_insB s l h (fun m => q ?_)
    exact List.any_eq_true.2 ⟨s, m, by simp⟩

theorem srt_fold : ∀ (l a : List Bs), Rising a → Rising (l.foldl withB a) ∧ ∀ x, x ∈ l.foldl withB a ↔ x ∈ a ∨ x ∈ l
  | [], a, h => ⟨h, by simp⟩
  | s :: t, a, h => by
    obtain ⟨q1, q2⟩ := srt_fold t (withB a s) (rising_withB a s h)
    refine ⟨q1, fun x => ?_⟩
    rw [List.foldl_cons, q2 x, mem_withB]
    simp only [List.mem_cons]
    exact or_assoc
theorem srt_rising (l : List Bs) : Rising (srt l) := (srt_fold l [] List.Pairwise.nil).1
theorem mem_srt (l : List Bs) (x : Bs) : x ∈ srt l ↔ x ∈ l := by
  have := (srt_fold l [] List.Pairwise.nil).2 x
  simpa [srt] using this

open Go.Lib in
theorem compact_rising (d : Array Bs) (hd : ∀ i j, i < j → j < d.size → d[i]! ≤ d[j]!) : ∀ m, m ≤ d.size → Rising (compactUpTo d m) ∧ ∀ x, x ∈ compactUpTo d m ↔ ∃ j, j < m ∧ d[j]! = x
  | 0, _ => ⟨by simp [compactUpTo, Rising], by simp [compactUpTo]⟩
  | m + 1, hm => by
    obtain ⟨q1, q2⟩ := compact_rising d hd m (by omega)
    rw [compactUpTo_succ]
    by_cases hk : keeps d m = true
    · rw [if_pos hk]
      refine ⟨?_, ?_⟩
      · refine List.pairwise_append.2 ⟨q1, by simp, ?_⟩
        intro y hy z hz
        rw [List.mem_singleton] at hz
        subst hz
        obtain ⟨j, hj, rfl⟩ := (q2 y).1 hy
        have h1 := hd j m hj (by omega)
        rcases bl_tri d[j]! d[m]! with q | q | q
        · exact q
        · exfalso
          have hm0 : 0 < m := by omega
          have hne : d[m]! ≠ d[m - 1]! := by
            intro e
            rw [keeps_neg hm0 e] at hk
            cases hk
          rcases Nat.lt_or_ge j (m - 1) with hj1 | hj1
          · have h2 := hd j (m - 1) hj1 (by omega)
            have h3 := hd (m - 1) m (by omega) (by omega)
            rw [q] at h2
            exact hne (List.le_antisymm h2 h3)
          · have : j = m - 1 := by omega
            rw [← this] at hne
            exact hne q.symm
        · exact absurd q h1
      · intro x
        rw [List.mem_append, q2, List.mem_singleton]
        constructor
        · rintro (⟨j, hj, e⟩ | e)
          · exact ⟨j, by omega, e⟩
          · exact ⟨m, by omega, e.symm⟩
        · rintro ⟨j, hj, e⟩
          by_cases hjm : j = m
          · subst hjm; exact .inr e.symm
          · exact .inl ⟨j, by omega, e⟩
    · rw [if_neg hk, List.append_nil]
      refine ⟨q1, fun x => ?_⟩
      rw [q2]
      constructor
      · rintro ⟨j, hj, e⟩
        exact ⟨j, by omega, e⟩
      · rintro ⟨j, hj, e⟩
        by_cases hjm : j = m
        · subst hjm
          have hm0 : 0 < j := by
            rcases Nat.eq_zero_or_pos j with z | z
            · subst z; exact absurd (keeps_lt_one d 0 (by omega)) hk
            · exact z
          have he : d[j]! = d[j - 1]! := by
            by_cases c : d[j]! = d[j - 1]!
            · exact c
            · exact absurd (keeps_pos c) hk
          exact ⟨j - 1, by omega, by rw [← he, e]⟩
        · exact ⟨j, by omega, e⟩

theorem compact_sort (ss : List Bs) : Lib.compact (ss.mergeSort fun x y => decide (x ≤ y)) = srt ss := by
  have hp : (ss.mergeSort fun x y => decide (x ≤ y)).Pairwise (fun x y => decide (x ≤ y) = true) := by
    refine List.pairwise_mergeSort ?_ ?_ ss
    · intro a b c h1 h2
      simp only [decide_eq_true_eq] at h1 h2 ⊢
      exact List.le_trans h1 h2
    · intro a b
      rw [Bool.or_eq_true, decide_eq_true_eq, decide_eq_true_eq]
      rcases bl_tri a b with q | q | q
      · exact .inl (bl_asymm q)
      · subst q; exact .inl (bl_irrefl a)
      · exact .inr (bl_asymm q)
  have hperm := List.mergeSort_perm ss (fun x y => decide (x ≤ y))
  generalize (ss.mergeSort fun x y => decide (x ≤ y)) = zs at hp hperm
  have hq := compact_rising zs.toArray (fun i j hij hj => by
    have hj' : j < zs.length := by simpa using hj
    have := List.pairwise_iff_getElem.1 hp i j (by omega) hj' hij
    have e1 : zs.toArray[i]! = zs[i]'(by omega) := by simp [show i < zs.length by omega]
    have e2 : zs.toArray[j]! = zs[j] := by simp [hj']
    rw [e1, e2]
    simpa using this) zs.length (by simp)
  refine rising_ext hq.1 (srt_rising ss) (fun x => ?_)
  rw [show Lib.compact zs = Lib.compactUpTo zs.toArray zs.length from rfl, hq.2, mem_srt, ← hperm.mem_iff]
  constructor
  · rintro ⟨j, hj, e⟩
    have e1 : zs.toArray[j]! = zs[j] := by simp [hj]
    rw [← e, e1]
    exact List.getElem_mem hj
  · intro h
    obtain ⟨j, hj, e⟩ := List.getElem_of_mem h
    exact ⟨j, hj, by simp [hj, e]⟩

end Go.Proofs.YtofbphmdkhocdaaGreat
