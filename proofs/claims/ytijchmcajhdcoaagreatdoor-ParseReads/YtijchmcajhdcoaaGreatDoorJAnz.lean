import Derived.Test.YtijchmcajhdcoaaGreatDoorJPrs
import Derived.Test.YtijchmcajhdcoaaGreatDoorJNod
/-!
  What Parse answers, by the document's reader; the three texts of the statements' awake. No condition but that the program's variables hold what its text lays there.
-/
namespace Go.Proofs.YtijchmcajhdcoaaGreatDoor
open Go.RowKit

/-- The tree of no text. -/
abbrev nv0 : NV := ⟨0, [], 0, 0, none, 0, 0, 0⟩
/-- What Parse answers where the document's reader tells this of these tokens. -/
def Pa (E : Int) (ts : List Tk) (Q : Nat → Prop) (v : NV) (a c : Int) (w' : World) : Prop :=
  (∃ nd, Gm E (.row 1) ts (.ok nd []) ∧ rn E [] [] true ts = .ok nd ∧ nd.dep ≤ 24 ∧ a = 0 ∧ c = 0 ∧ NdIn Q w' v nd) ∨ (v = nv0 ∧ ((∃ nd, rn E [] [] true ts = .ok nd ∧ 24 < nd.dep ∧ a = 0 ∧ c = 32) ∨ (rn E [] [] true ts = .err a ∧ c = 31)))
theorem Pz.ans {E : Int} {ts : List Tk} {o : Out} {Q : Nat → Prop} {v : NV} {a c : Int} {w' : World} (h : Gm E (.row 1) ts o) (k : Pz o Q v a c w') : Pa E ts Q v a c w' := by
  have hw := h.whole
  rcases k with ⟨nd, rfl, k1, k2, k3, k4⟩ | ⟨k0, ⟨nd, rfl, k1, k2, k3⟩ | ⟨nd, t, r, rfl, rfl, k3⟩ | ⟨rfl, k3⟩⟩
  · exact .inl ⟨nd, h, hw, k1, k2, k3, k4⟩
  · exact .inr ⟨k0, .inl ⟨nd, hw, k1, k2, k3⟩⟩
  · exact .inr ⟨k0, .inr ⟨hw, k3⟩⟩
  · exact .inr ⟨k0, .inr ⟨hw, k3⟩⟩
section
variable {E : Int} {ts : List Tk} {Q : Nat → Prop} {v : NV} {a c : Int} {w' : World} {nd : Nd}
theorem Pa.okay (h : Pa E ts Q v a c w') (hr : rn E [] [] true ts = .ok nd) (hd : nd.dep ≤ 24) : a = 0 ∧ c = 0 ∧ NdIn Q w' v nd ∧ Gm E (.row 1) ts (.ok nd []) := by
  rcases h with ⟨x, g, e, _, k2, k3, k4⟩ | ⟨_, ⟨x, e, k, _⟩ | ⟨e, _⟩⟩
  · rw [hr] at e
    cases e
    exact ⟨k2, k3, k4, g⟩
  · rw [hr] at e
    cases e
    omega
  · rw [hr] at e
    cases e
theorem Pa.deep (h : Pa E ts Q v a c w') (hr : rn E [] [] true ts = .ok nd) (hd : 24 < nd.dep) : a = 0 ∧ c = 32 ∧ v = nv0 := by
  rcases h with ⟨x, g, e, k, _⟩ | ⟨k, ⟨x, e, _, k2, k3⟩ | ⟨e, _⟩⟩
  · rw [hr] at e
    cases e
    omega
  · exact ⟨k2, k3, k⟩
  · rw [hr] at e
    cases e
theorem Pa.fail {p : Int} (h : Pa E ts Q v a c w') (hr : rn E [] [] true ts = .err p) : a = p ∧ c = 31 ∧ v = nv0 := by
  rcases h with ⟨x, g, e, k, _⟩ | ⟨k, ⟨x, e, _⟩ | ⟨e, k3⟩⟩
  · rw [hr] at e
    cases e
  · rw [hr] at e
    cases e
  · rw [hr] at e
    cases e
    exact ⟨rfl, k3, k⟩
theorem Pa.tells (h : Pa E ts Q v a c w') : (∃ nd, a = 0 ∧ c = 0 ∧ NdIn Q w' v nd ∧ nd.dep ≤ 24 ∧ Gm E (.row 1) ts (.ok nd [])) ∨ (v = nv0 ∧ (c = 31 ∨ c = 32)) := by
  rcases h with ⟨x, g, _, k1, k2, k3, k4⟩ | ⟨k, ⟨x, _, _, _, k3⟩ | ⟨_, k3⟩⟩
  · exact .inl ⟨x, k2, k3, k4, k1, g⟩
  · exact .inr ⟨k, .inr k3⟩
  · exact .inr ⟨k, .inl k3⟩
/-- What the grammar tells, the document's reader tells. -/
theorem rn_of (h : Gm E (.row 1) ts (.ok nd [])) : rn E [] [] true ts = .ok nd := h.whole
end

theorem parse_ans (s : ByteArray) (hs : s.size ≤ 1024) {ts : List Tk} (h : Sc 0 s.data.toList ts none) (w : World) (hg : Gl w) (hi : Inf w) :
    Calls Tryz.prog 5 #[.string s] w fun e w' => ∃ (v : NV) (a c : Int), e = .returned (.tuple #[v.val, .int .i64 a, .int .i64 c]) ∧ Below w.heap.size w w' ∧ Pa s.size ts (Bt w.heap.size w'.heap.size) v a c w' := by
  refine (parse_known s hs h w hg hi).mono ?_
  rintro e w' ⟨v, a, c, o, rfl, hb, hm, hp⟩
  exact ⟨v, a, c, rfl, hb, hp.ans hm⟩

/-- Of a tree that can be read: it is whole, and not too great. -/
theorem read_wf {E : Int} {l : Bs} {ts : List Tk} {n : Nd} (h : Sc 0 l ts none) (hl : l.length ≤ 1024) (k : Gm E (.row 1) ts (.ok n [])) : WfT n ∧ n.wt ≤ 42000 ∧ n.sz ≤ 2000 := by
  have h1 := (k.wf h.good (.inl rfl) n [] rfl).1
  have h2 := k.weight n [] rfl
  have h3 := tw_short h
  have h4 := n.wt_sz
  simp only [xw] at h2
  exact ⟨h1, by omega, by omega⟩

def tsX : List Tk := [⟨1, [97], 0, 0, 0⟩, ⟨5, [124], 0, 0, 1⟩, ⟨1, [98], 0, 0, 2⟩, ⟨5, [38], 0, 0, 3⟩, ⟨5, [33], 0, 0, 4⟩, ⟨1, [99], 0, 0, 5⟩, ⟨5, [94], 0, 0, 6⟩, ⟨2, [], 2, 0, 7⟩]
def ndX : Nd := binN ⟨5, [124], 0, 0, 1⟩ (leafN ⟨1, [97], 0, 0, 0⟩) (binN ⟨5, [38], 0, 0, 3⟩ (leafN ⟨1, [98], 0, 0, 2⟩) (notN ⟨5, [33], 0, 0, 4⟩ (upN ⟨5, [94], 0, 0, 6⟩ 2 (leafN ⟨1, [99], 0, 0, 5⟩))))
theorem scX : Sc 0 [97, 124, 98, 38, 33, 99, 94, 50] tsX none :=
  .tok (n := 1) rfl rfl (by decide) (.tok (n := 1) rfl rfl (by decide) (.tok (n := 1) rfl rfl (by decide) (.tok (n := 1) rfl rfl (by decide) (.tok (n := 1) rfl rfl (by decide) (.tok (n := 1) rfl rfl (by decide) (.tok (n := 1) rfl rfl (by decide) (.tok (n := 1) rfl rfl (by decide) (.done 8))))))))
theorem rnX : rn 8 [] [] true tsX = .ok ndX := by kernel_rfl
theorem depX : ndX.dep = 5 := rfl
theorem txX : txt ndX.ps = [97, 32, 124, 32, 98, 32, 38, 32, 33, 99, 94, 50] := by
  have h : Lib.itoa 2 = [50] := by
    have := itoa_nat 2
    rw [Lib.decDigits, dif_pos (by decide)] at this
    exact this
  have e : ndX.ps = [some (nmT [97]), none, some (sgT [124]), none, some (nmT [98]), none, some (sgT [38]), none, some (sgT [33]), some (nmT [99]), some (sgT [94]), some (nuT 2)] := by kernel_rfl
  rw [e]
  simp [txt, st, nmT, sgT, nuT, h]
def tsY : List Tk := [⟨1, [97], 0, 0, 0⟩, ⟨5, [46, 46], 0, 0, 1⟩, ⟨1, [98], 0, 0, 3⟩, ⟨5, [46, 46], 0, 0, 4⟩, ⟨1, [99], 0, 0, 6⟩]
theorem scY : Sc 0 [97, 46, 46, 98, 46, 46, 99] tsY none :=
  .tok (n := 1) rfl rfl (by decide) (.tok (n := 2) rfl rfl (by decide) (.tok (n := 1) rfl rfl (by decide) (.tok (n := 2) rfl rfl (by decide) (.tok (n := 1) rfl rfl (by decide) (.done 7)))))
theorem rnY : rn 7 [] [] true tsY = .err 4 := by kernel_rfl
def tsZ : List Tk := [⟨1, [97], 0, 0, 0⟩, ⟨5, [94], 0, 0, 1⟩, ⟨2, [], 0, 0, 2⟩]
theorem scZ : Sc 0 [97, 94, 48] tsZ none :=
  .tok (n := 1) rfl rfl (by decide) (.tok (n := 1) rfl rfl (by decide) (.tok (n := 1) rfl rfl (by decide) (.done 3)))
theorem rnZ : rn 3 [] [] true tsZ = .err 2 := by kernel_rfl

end Go.Proofs.YtijchmcajhdcoaaGreatDoor

/-!
  The statements' awake by a contract. No condition but that the program's variables hold what its text lays there.
-/
namespace Go.Proofs.YtijchmcajhdcoaaGreatDoor
open Go.RowKit

set_option maxHeartbeats 3200000 in
set_option maxRecDepth 100000 in
theorem awake_any (w : World) (hg : Gl w) (hi : Inf w) :
    Calls Tryz.prog 4 #[] w fun e w' => e = .returned (.bool true) ∧ Below w.heap.size w w' := by
  have h1 := parse_ans ⟨#[97, 124, 98, 38, 33, 99, 94, 50]⟩ (by decide) scX w hg hi
  have h2 := fun u (b : Below w.heap.size w u) => parse_ans ⟨#[97, 46, 46, 98, 46, 46, 99]⟩ (by decide) scY u (hg.below b) (hi.below b)
  have h3 := fun u (b : Below w.heap.size w u) => parse_ans ⟨#[97, 94, 48]⟩ (by decide) scZ u (hg.below b) (hi.below b)
  have H : Hid (Gl w ∧ Inf w) := ⟨hg, hi⟩
  have H3 : Hid (∀ u, Below w.heap.size w u → Calls Tryz.prog 5 _ _ _) := h3
  have H2 : Hid (∀ u, Below w.heap.size w u → Calls Tryz.prog 5 _ _ _) := h2
  clear hg hi h2 h3
  go_enter Tryz.func4, Tryz.ntmps4
  go_wp2_with fail
  refine h1.mono ?_
  rintro e w1 ⟨⟨o, y, i, j, a, l, q, p⟩, at1, c1, rfl, b1, hp1⟩
  obtain ⟨rfl, rfl, hn1, hgm⟩ := hp1.okay rnX (by rw [depX]; omega)
  obtain rfl : o = 6 := hn1.op
  obtain rfl : p = 1 := hn1.pos
  obtain ⟨W1, m1, hW1, hm1, hx1, bW1, c1, hB1, hlt1⟩ := lay6 b1 b1.size 28 (.int .i64 6) (.string ⟨y.toArray⟩) (.int .i64 i) (.int .u64 j) (.slice a l q) (.int .i64 1)
  have HN : Hid (NdIn (Bt w.heap.size w1.heap.size) W1 ⟨6, y, i, j, a, l, q, 1⟩ ndX ∧ WfT ndX ∧ ndX.wt ≤ 90000) := ⟨hn1.below c1, (read_wf scX (by decide) hgm).1, by have := (read_wf scX (by decide) hgm).2.1; omega⟩
  have HX : Hid (Box6 W1 m1 28 (.int .i64 6) (.string ⟨y.toArray⟩) (.int .i64 i) (.int .u64 j) (.slice a l q) (.int .i64 1) ∧ Below w.heap.size w W1) := ⟨hx1, bW1⟩
  clear h1 hp1 hn1 hgm b1 c1 hx1 bW1
  go_upto_region 2 with fail
  clear hW1 hm1
  go_wp2_with fail
  refine (H2.out W1 HX.out.2).mono ?_
  rintro e w2 ⟨v2, at2, c2, rfl, b2, hp2⟩
  obtain ⟨rfl, rfl, rfl⟩ := hp2.fail rnY
  have B2 : Hid (Below W1.heap.size W1 w2) := b2
  clear b2 hp2
  go_upto_region 3 with fail
  obtain ⟨W2, m2, hW2, hm2, hx2, bW2, c2, hB2, hlt2⟩ := lay6 B2.out B2.out.size 28 (.int .i64 0) (.string ⟨#[]⟩) (.int .i64 0) (.int .u64 0) (.slice none 0 0) (.int .i64 0)
  have B3 : Hid (Below W1.heap.size W1 W2) := bW2
  clear hx2 bW2 c2
  rw [hW2, hm2]
  clear hW2 hm2
  go_wp2_with fail
  refine (H3.out W2 (HX.out.2.trans (B3.out.mono HX.out.2.size))).mono ?_
  rintro e w3 ⟨v3, at3, c3, rfl, b3, hp3⟩
  obtain ⟨rfl, rfl, rfl⟩ := hp3.fail rnZ
  have B4 : Hid (Below W1.heap.size W1 w3) := B3.out.trans (b3.mono B3.out.size)
  clear b3 hp3
  go_upto_region 4 with fail
  obtain ⟨W3, m3, hW3, hm3, hx3, bW3, c3, hB3, hlt3⟩ := lay6 B4.out B4.out.size 28 (.int .i64 0) (.string ⟨#[]⟩) (.int .i64 0) (.int .u64 0) (.slice none 0 0) (.int .i64 0)
  have B5 : Hid (Below w.heap.size w W3) := HX.out.2.trans (bW3.mono HX.out.2.size)
  obtain ⟨x0, x1, x2, x3, x4, x5⟩ := (HX.out.1.below bW3).cells
  have hsh := show_any ndX HN.out.2.1 HN.out.2.2 W3 _ (HN.out.1.below bW3) (H.out.1.below B5.out) (H.out.2.below B5.out)
  rw [txX] at hsh
  have HS : Hid (Calls Tryz.prog 9 _ _ _) := hsh
  clear hsh hx3 bW3 c3
  rw [hW3, hm3]
  clear hW3 hm3
  go_wp2_with (go_at_call 9; refine HS.out.mono ?_; rintro e w4 ⟨rfl, b4⟩)
  go_ret
  exact ⟨rfl, B5.out.trans (b4.mono B5.out.size)⟩

end Go.Proofs.YtijchmcajhdcoaaGreatDoor

/-!
  ParseBack by a contract. No condition but that the program's variables hold what its text lays there.
-/
namespace Go.Proofs.YtijchmcajhdcoaaGreatDoor
open Go.RowKit

/-- Every text has its tokens, or a place where none begins. -/
theorem sc_some : ∀ (n : Nat) (l : Bs) (p : Nat), l.length ≤ n → ∃ ts e, Sc p l ts e
  | _, [], p, _ => ⟨[], none, .done p⟩
  | 0, c :: r, p, h => by simp at h
  | n + 1, c :: r, p, h => by
    have hr : r.length ≤ n := by simpa using h
    cases hb : isBl c with
    | true =>
      obtain ⟨ts, e, k⟩ := sc_some n r (p + 1) hr
      exact ⟨ts, e, .skip hb k⟩
    | false =>
      rcases Nat.eq_zero_or_pos (tok1 (c :: r)).2 with h0 | h0
      · exact ⟨[], some p, .bad hb h0⟩
      · obtain ⟨ts, e, k⟩ := sc_some n ((c :: r).drop (tok1 (c :: r)).2) (p + (tok1 (c :: r)).2) (by rw [List.length_drop, List.length_cons]; omega)
        exact ⟨_, e, .tok hb rfl h0 k⟩

theorem fps_e : ∀ f : Fo, fps f.e = fps f
  | .nil => rfl
  | .cons op text num id kids pos next => by simp only [Fo.e, fps, fps_e kids, fps_e next]
theorem ps_same {n m : Nd} (h : n.e = m.e) : n.ps = m.ps := by
  have a : ∀ k : Nd, k.e.ps = k.ps := fun k => by
    show pcs k.op k.text k.num k.id (fps k.kids.e) = pcs k.op k.text k.num k.id (fps k.kids)
    rw [fps_e]
  rw [← a n, ← a m, h]

/-- What Parse answers of whatever text. -/
def Pw (l : Bs) (Q : Nat → Prop) (v : NV) (a c : Int) (w' : World) : Prop :=
  (∃ ts nd, l.length ≤ 1024 ∧ Sc 0 l ts none ∧ Gm l.length (.row 1) ts (.ok nd []) ∧ nd.dep ≤ 24 ∧ a = 0 ∧ c = 0 ∧ NdIn Q w' v nd) ∨ (v = nv0 ∧ (c = 4 ∨ c = 30 ∨ c = 31 ∨ c = 32))
theorem parse_any (s : ByteArray) (hm : s.size ≤ 9223372036854775807) (w : World) (hg : Gl w) (hi : Inf w) :
    Calls Tryz.prog 5 #[.string s] w fun e w' => ∃ (v : NV) (a c : Int), e = .returned (.tuple #[v.val, .int .i64 a, .int .i64 c]) ∧ Below w.heap.size w w' ∧ Pw s.data.toList (Bt w.heap.size w'.heap.size) v a c w' := by
  by_cases hs : s.size ≤ 1024
  · obtain ⟨ts, e, h⟩ := sc_some s.data.toList.length s.data.toList 0 (Nat.le_refl _)
    cases e with
    | none =>
      refine (parse_ans s hs h w hg hi).mono ?_
      rintro e w' ⟨v, a, c, rfl, hb, hp⟩
      refine ⟨v, a, c, rfl, hb, ?_⟩
      rcases hp.tells with ⟨nd, h1, h2, h3, h4, h5⟩ | ⟨h1, h2⟩
      · exact .inl ⟨ts, nd, by rw [← bsize]; exact hs, h, by rw [← bsize]; exact h5, h4, h1, h2, h3⟩
      · exact .inr ⟨h1, .inr (.inr h2)⟩
    | some p =>
      refine (parse_bad s hs h w hg).mono ?_
      rintro e w' ⟨rfl, hb⟩
      exact ⟨nv0, p, 30, rfl, hb, .inr ⟨rfl, .inr (.inl rfl)⟩⟩
  · refine (parse_long s hm (by omega) w).mono ?_
    rintro e w' ⟨rfl, hb⟩
    exact ⟨nv0, 0, 4, rfl, hb, .inr ⟨rfl, .inl rfl⟩⟩

abbrev nd0 : Nd := ⟨0, [], 0, 0, .nil, 0⟩
theorem ndin0 (Q : Nat → Prop) (w : World) : NdIn Q w nv0 nd0 := ⟨rfl, rfl, rfl, rfl, rfl, rfl, Nat.le_refl _, [], RdG.nil _ _ _, fun q => by simp at q, rfl⟩

end Go.Proofs.YtijchmcajhdcoaaGreatDoor
