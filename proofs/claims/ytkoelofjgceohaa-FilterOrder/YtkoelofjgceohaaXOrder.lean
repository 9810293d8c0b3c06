/-
  The law FilterOrder, walked: of whatever list and text it returns true, and what was there when it was called is as it was.
-/
import Derived.Test.YtkoelofjgceohaaXNever
import Derived.Test.YtkoelofjgceohaaPRParts
namespace Go.Proofs.Ytkoelofjgceohaa
open Go.RowKit

/-- Lists that have the same paths make the same filter. -/
theorem fmake_same {a b : List Bs} (h : ∀ x, isPath x = true → (x ∈ a ↔ x ∈ b)) : fmake a = fmake b := by
  have e1 : fcount a = fcount b := by
    unfold fcount
    rw [srt_same (a := a.filter isPath) (b := b.filter isPath)]
    intro x
    rw [List.mem_filter, List.mem_filter]
    constructor
    · rintro ⟨p, q⟩
      exact ⟨(h x q).1 p, q⟩
    · rintro ⟨p, q⟩
      exact ⟨(h x q).2 p, q⟩
  have e2 : fpaths a = fpaths b := by
    refine srt_same (fun x => ?_)
    rw [List.mem_flatMap, List.mem_flatMap]
    have key : ∀ (l m : List Bs), (∀ x, isPath x = true → (x ∈ l → x ∈ m)) → (∃ p, p ∈ l ∧ x ∈ parts p) → ∃ p, p ∈ m ∧ x ∈ parts p := by
      rintro l m hh ⟨p, h1, h2⟩
      refine ⟨p, hh p ?_ h1, h2⟩
      cases hp : isPath p with
      | true => rfl
      | false => rw [parts_no hp] at h2; cases h2
    exact ⟨key a b (fun x q => (h x q).1), key b a (fun x q => (h x q).2)⟩
  unfold fmake fones
  rw [e1, e2]

theorem drop_back {l : List Bs} {r : Nat} (h : r < l.length) : (l.drop r).reverse = (l.drop (r + 1)).reverse ++ [el l r] := by
  rw [List.drop_eq_getElem_cons h, List.reverse_cons, el_get h]

set_option maxHeartbeats 1600000 in
set_option maxRecDepth 100000 in
theorem order_walk (ao : Option Addr) (n c : Nat) (ch : List Bs) (more : Bs) (W : World) (hl : ch.length = n) (hcn : n ≤ 9223372036854775807) (hin : Rd W ao ch) (hpx : ∀ x ∈ ch, x.length ≤ 9223372036854775807) (hmo : more.length ≤ 9223372036854775807) :
    Calls Try.prog 7 #[.slice ao n c, tx more] W fun e w' => e = .returned (.bool true) ∧ Below W.heap.size W w' := by
  have H : Hid (ch.length = n ∧ Rd W ao ch ∧ ∀ x ∈ ch, x.length ≤ 9223372036854775807) := ⟨hl, hin, hpx⟩
  clear hl hin hpx
  by_cases hf : n ≤ 200
  · have hfw := few_any (ao := ao) (c := c) hcn true (by simpa using hf)
    go_enter Try.func7, Try.ntmps7
    go_wp2_with fail
    refine (awake_walk _).mono ?_
    rintro e w1 ⟨rfl, B1⟩
    have G1 : Hid (Below W.heap.size W w1) := B1
    clear B1
    go_wp2_with fail
    refine (hfw _).mono ?_
    rintro e w' ⟨rfl, hw'⟩
    have hw'' := hw'.symm
    subst hw''
    clear hw' hfw
    go_wp2_with fail
    go_loopg [5, 6] n (fun k bv v wr => v = .int .i64 ((k : Int) - 1) ∧ k ≤ n ∧ Hid (Own wr W.heap.size bv (ch.drop k).reverse ∧ Below W.heap.size W wr))
    case atStart => exact ⟨rfl, Nat.le_refl _, by rw [List.drop_eq_nil_of_le (by rw [H.out.1]; omega)]; exact Own.nil _ _, G1.out⟩
    case round =>
      obtain ⟨rfl, hk, HR⟩ := hrel
      cases gk with
      | succ r =>
        have er : ((r + 1 : Nat) : Int) - 1 = (r : Int) := by omega
        rw [er]
        obtain ⟨b, off, rfl, hlt, hc⟩ := H.out.2.1 (by rw [H.out.1]; omega)
        obtain ⟨x, hx⟩ : ∃ x, el ch r = x := ⟨_, rfl⟩
        have c0 := hc r (by rw [H.out.1]; omega)
        rw [hx] at c0
        have c1 : wr.cell? ⟨b, off + r, none⟩ = some (.string ⟨x.toArray⟩) := (HR.out.2.cell hlt).trans c0
        have hst := drop_back (l := ch) (r := r) (by rw [H.out.1]; omega)
        rw [hx] at hst
        have ST : Hid (_ ∧ ((ch.drop (r + 1)).reverse).length ≤ 200) := ⟨hst, by rw [List.length_reverse, List.length_drop, H.out.1]; omega⟩
        clear hc c0 hx hst er
        go_wp2_with (at_builtin; refine app_one rfl (.tmp 23) (.tmp 28) rfl W.heap.size _ ((ch.drop (r + 1)).reverse) x _ rfl HR.out.1 rfl (by have := ST.out.2; omega) HR.out.2.size ?_; intro v4 w4 hown4 hbel4)
        go_roundg r
        case measure => omega
        case rel => exact ⟨by go_num, by omega, by rw [ST.out.1]; exact hown4, HR.out.2.trans hbel4⟩
      | zero =>
        have e0 : (ch.drop 0).reverse = ch.reverse := by simp
        rw [e0] at HR
        clear e0
        have hmk := make_any (c := c) wr (H.out.2.1.below HR.out.2) H.out.1 (by omega) H.out.2.2
        go_wp2_with fail
        refine hmk.mono ?_
        rintro e w2 ⟨v2, rfl, O2, B2⟩
        have hcv := conv_str (OwnB.at (OwnG.low O2 (Nat.zero_le _)))
        obtain ⟨F, hF⟩ : ∃ F, fmake ch = F := ⟨_, rfl⟩
        rw [hF] at hcv
        have G2 : Hid (Own w2 W.heap.size _ ch.reverse ∧ Below W.heap.size W w2 ∧ fmake ch = F) := ⟨HR.out.1.below B2, HR.out.2.trans (B2.mono HR.out.2.size), hF⟩
        clear O2 B2 hmk hF HR
        go_upto_if 35 with fail
        go_cut [5] (fun bv u => ∃ bk : List Bs, Hid (Own u W.heap.size bv bk ∧ Below W.heap.size W u ∧ bk.length ≤ 201 ∧ ∀ x, x ∈ bk ↔ x ∈ ch))
        case first =>
          by_cases h0 : n = 0
          · subst h0
            go_wp2_with fail
            go_meet
            exact ⟨ch.reverse, G2.out.1, G2.out.2.1, by rw [List.length_reverse, H.out.1]; omega, fun x => List.mem_reverse⟩
          · have h0' : (0 : Int) < (n : Int) := by omega
            obtain ⟨b, off, rfl, hlt, hc⟩ := H.out.2.1 (by rw [H.out.1]; omega)
            obtain ⟨x, hx⟩ : ∃ x, el ch 0 = x := ⟨_, rfl⟩
            have c0 := hc 0 (by rw [H.out.1]; omega)
            rw [hx, Nat.add_zero] at c0
            have c1 : w2.cell? ⟨b, off, none⟩ = some (.string ⟨x.toArray⟩) := (G2.out.2.1.cell hlt).trans c0
            have hxm : x ∈ ch := by rw [← hx]; exact el_mem (by rw [H.out.1]; omega)
            have X : Hid (x ∈ ch ∧ ch.reverse.length ≤ 200) := ⟨hxm, by rw [List.length_reverse, H.out.1]; omega⟩
            clear hc c0 hx hxm
            go_wp2_with (at_builtin; refine app_one rfl (.tmp 36) (.tmp 40) rfl W.heap.size _ ch.reverse x _ rfl G2.out.1 rfl (by have := X.out.2; omega) G2.out.2.1.size ?_; intro v4 w4 hown4 hbel4)
            go_meet
            refine ⟨ch.reverse ++ [x], hown4, G2.out.2.1.trans hbel4, by rw [List.length_append]; have := X.out.2; simp at this ⊢; omega, fun y => ?_⟩
            rw [List.mem_append, List.mem_reverse, List.mem_singleton]
            exact ⟨fun q => q.elim (fun q => q) (fun e => by rw [e]; exact X.out.1), .inl⟩
        case rest =>
          obtain ⟨bk, G3⟩ := hcut
          obtain ⟨f, hff⟩ : ∃ f, isPath more = f := ⟨_, rfl⟩
          have hris := ris_at more f hff wc
          have FF : Hid (isPath more = f) := hff
          clear hff
          go_wp2_with fail
          refine hris.mono ?_
          rintro e w5 ⟨rfl, B5⟩
          have G5 : Hid (Own w5 W.heap.size _ bk ∧ Below W.heap.size W w5 ∧ bk.length ≤ 201 ∧ ∀ x, x ∈ bk ↔ x ∈ ch) := ⟨G3.out.1.below B5, G3.out.2.1.trans (B5.mono G3.out.2.1.size), G3.out.2.2⟩
          clear B5 hris G3
          go_upto_if 44 with fail
          go_cut [5] (fun bv u => ∃ bk : List Bs, Hid (Own u W.heap.size bv bk ∧ Below W.heap.size W u ∧ bk.length ≤ 202 ∧ (∀ x ∈ bk, x.length ≤ 9223372036854775807) ∧ ∀ x, isPath x = true → (x ∈ bk ↔ x ∈ ch)))
          case first =>
            cases f with
            | true =>
              go_wp2_with fail
              go_meet
              exact ⟨bk, G5.out.1, G5.out.2.1, by have := G5.out.2.2.1; omega, fun x h => H.out.2.2 x ((G5.out.2.2.2 x).1 h), fun x _ => G5.out.2.2.2 x⟩
            | false =>
              go_wp2_with (at_builtin; refine app_one rfl (.tmp 45) (.tmp 47) rfl W.heap.size _ bk more _ rfl G5.out.1 rfl (by have := G5.out.2.2.1; omega) G5.out.2.1.size ?_; intro v4 w4 hown4 hbel4)
              go_meet
              refine ⟨bk ++ [more], hown4, G5.out.2.1.trans hbel4, by rw [List.length_append]; have := G5.out.2.2.1; simp; omega, fun x h => ?_, fun x hx => ?_⟩
              · rcases List.mem_append.1 h with q | q
                · exact H.out.2.2 x ((G5.out.2.2.2 x).1 q)
                · rw [List.mem_singleton.1 q]
                  exact hmo
              · rw [List.mem_append, List.mem_singleton, G5.out.2.2.2 x]
                refine ⟨fun q => q.elim id (fun e => ?_), .inl⟩
                rw [e, FF.out] at hx
                cases hx
          case rest =>
            obtain ⟨bk2, G6⟩ := hcut
            obtain ⟨a6, c6, rfl, _, _, R6⟩ := G6.out.1.form
            obtain ⟨kn, hkn⟩ : ∃ kn, bk2.length = kn := ⟨_, rfl⟩
            have hl6 := G6.out.2.2.1
            rw [hkn] at hl6 ⊢
            have hmk := make_any (c := c6) wc R6 hkn (by omega) G6.out.2.2.2.1
            have es : fmake bk2 = F := by rw [← G2.out.2.2]; exact fmake_same G6.out.2.2.2.2
            rw [es] at hmk
            have G7 : Hid (Below W.heap.size W wc) := G6.out.2.1
            clear R6 hkn es
            go_wp2_with fail
            refine hmk.mono ?_
            rintro e w7 ⟨v7, rfl, O7, B7⟩
            have hcv := conv_str (OwnB.at (OwnG.low O7 (Nat.zero_le _)))
            have G8 : Hid (Below W.heap.size W w7) := G7.out.trans (B7.mono G7.out.size)
            clear O7 B7 hmk
            go_wp2
            go_ret
            exact ⟨by simp, G8.out⟩
  · have hfw := few_any (ao := ao) (c := c) hcn false (by simpa using hf)
    go_enter Try.func7, Try.ntmps7
    go_wp2_with fail
    refine (awake_walk _).mono ?_
    rintro e w1 ⟨rfl, B1⟩
    have G1 : Hid (Below W.heap.size W w1) := B1
    clear B1
    go_wp2_with fail
    refine (hfw _).mono ?_
    rintro e w' ⟨rfl, rfl⟩
    go_wp2_with fail
    refine (awake_walk _).mono ?_
    rintro e w2 ⟨rfl, B2⟩
    have G2 : Hid (Below W.heap.size W w2) := G1.out.trans (B2.mono G1.out.size)
    clear B2
    go_wp2
    go_ret
    exact ⟨rfl, G2.out⟩

end Go.Proofs.Ytkoelofjgceohaa
