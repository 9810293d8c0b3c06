import Derived.Test.YtijchmcajhdcoaaGreatDoorJRow
/-!
  The reader's postfix by a contract, over that of atom. No condition.
-/
namespace Go.Proofs.YtijchmcajhdcoaaGreatDoor
open Go.RowKit

/-- What stands at the head of a round of postfix: the tree so far, in a block of its own. -/
structure PsI (E : Int) (b : Nat) (ao : Option Addr) (n c : Nat) (ts : List Tk) (k m0 m4 : Nat) (w wr : World) (k2 : Nat) (f : Bool) (o : Int) (y : ByteArray) (i j : Int) (a : Option Addr) (l q : Nat) (p : Int) : Prop where
  box : Box6 wr m4 28 (.int .i64 o) (.string y) (.int .i64 i) (.int .u64 j) (.slice a l q) (.int .i64 p)
  res : Box6 wr m0 28 (.int .i64 0) (.string ⟨#[]⟩) (.int .i64 0) (.int .u64 0) (.slice none 0 0) (.int .i64 0)
  rst : Rst wr b ao n c ts k2
  tn : Tn b w wr
  le : k ≤ k2
  lt : m4 < wr.heap.size
  oc : (∃ nd, f = true ∧ (∀ o, Gm E (.ups nd) (ts.drop k2) o → Gm E .post (ts.drop k) o) ∧ NdIn (fun g => m0 < g ∧ g ≠ m4 ∧ g < wr.heap.size) wr ⟨o, y.data.toList, i, j, a, l, q, p⟩ nd) ∨ (Gm E .post (ts.drop k) (.err (nextP E (ts.drop k2))) ∧ (f = true → hd (kB 2) (ts.drop k2) = true))

/-- The end of postfix: what stands in the block is answered. -/
theorem PsI.told {E : Int} {b : Nat} {ao : Option Addr} {n c : Nat} {ts : List Tk} {k m0 m4 : Nat} {w wr w' : World} {k2 : Nat} {f : Bool} {o : Int} {y : ByteArray} {i j : Int} {a : Option Addr} {l q : Nat} {p : Int}
    (h : PsI E b ao n c ts k m0 m4 w wr k2 f o y i j a l q p) (hb : Below wr.heap.size wr w') (hz : w.heap.size = m0) (hb0 : b < m0) (hn : f = true → hd (sB [94]) (ts.drop k2) = false) :
    Rp E .post b ao n c ts k w (.returned (.tuple #[.agg #[.int .i64 o, .string y, .int .i64 i, .int .u64 j, .slice a l q, .int .i64 p], .bool f])) ((((((w'.setCell ⟨m0, 0, none⟩ (.int .i64 o)).setCell ⟨m0, 1, none⟩ (.string y)).setCell ⟨m0, 2, none⟩ (.int .i64 i)).setCell ⟨m0, 3, none⟩ (.int .u64 j)).setCell ⟨m0, 4, none⟩ (.slice a l q)).setCell ⟨m0, 5, none⟩ (.int .i64 p)) := by
  refine ⟨o, y, i, j, a, l, q, p, f, k2, rfl, h.le, (h.rst.below hb).six (by omega) _ _ _ _ _ _, (h.tn.trans (Tn.of hb)).six (by omega) _ _ _ _ _ _, ?_⟩
  rcases h.oc with ⟨nd, hf, h1, h2⟩ | h1
  · refine .inl ⟨nd, hf, h1 _ (.upped (hn hf)), ((h2.below hb).six (g := m0) (fun q => by have := q.1; omega) _ _ _ _ _ _).mono (fun g hg => ⟨by have := hg.1; omega, ?_⟩)⟩
    rw [six_size]
    have := hg.2.2; have := hb.size; omega
  · exact .inr h1

set_option maxHeartbeats 3200000 in
set_option maxRecDepth 100000 in
theorem ppost_any {E : Int} {b : Nat} {ao : Option Addr} {n c k : Nat} {ts : List Tk} (hU : Pt E .atom 84 b ao n c ts k) : Pt E .post 75 b ao n c ts k := by
  intro w h
  have HU : Hid (Pt E .atom 84 b ao n c ts k) := hU
  obtain ⟨W0, m0, hW0, hm0, hx0, bW0, _, hB0, hlt0⟩ := lay6 (Below.refl _ w) (Nat.le_refl _) 28 (.int .i64 0) (.string ⟨#[]⟩) (.int .i64 0) (.int .u64 0) (.slice none 0 0) (.int .i64 0)
  have hlb := h.box.lt
  have H : Hid (Rst W0 b ao n c ts k ∧ Below w.heap.size w W0) := ⟨h.below bW0, bW0⟩
  have HX : Hid (Box6 W0 m0 28 (.int .i64 0) (.string ⟨#[]⟩) (.int .i64 0) (.int .u64 0) (.slice none 0 0) (.int .i64 0)) := hx0
  have hm0b : ¬ m0 = b := by omega
  have hm00 : w.heap.size = m0 := hm0
  have HZ : Hid (w.heap.size = m0) := hm00
  have h0b : b < m0 := by omega
  have hfew : n ≤ 1024 := h.few
  clear h hU bW0 hx0 hm00
  go_enter Tryz.func75, Tryz.ntmps75
  go_upto_region 1 with fail
  clear hW0 hm0
  go_wp2_with fail
  refine (HU.out W0 H.out.1).mono ?_
  rintro e w2 ⟨o, y, i, j, a, l, q, p, f, k2, rfl, hk2, hR2, hT2, hO2⟩
  obtain ⟨W4, m4, hW4, hm4, hx4, bW4, b4, hB4, hlt4⟩ := lay6 (Below.refl _ w2) (Nat.le_refl _) 28 (.int .i64 o) (.string y) (.int .i64 i) (.int .u64 j) (.slice a l q) (.int .i64 p)
  have hs2 := hT2.size
  have hm4b : ¬ m4 = b := by omega
  have hm04 : ¬ m0 = m4 := by omega
  have hm40 : ¬ m4 = m0 := by omega
  have h04 : m0 < m4 := by omega
  have HI : Hid (PsI E b ao n c ts k m0 m4 w W4 k2 f o y i j a l q p) := by
    refine ⟨hx4, (HX.out.turned hT2 hm0b).below bW4, hR2.below bW4, ((Tn.of H.out.2).trans hT2).trans (Tn.of bW4), hk2, hlt4, ?_⟩
    rcases hO2 with ⟨nd, rfl, h1, h2⟩ | ⟨h1, h2⟩
    · exact .inl ⟨nd, rfl, fun o ho => .post h1 ho, (h2.below bW4).mono (fun g hg => by have := hg.1; have := hg.2; exact ⟨by omega, by omega, by omega⟩)⟩
    · exact .inr ⟨.postE h1, h2⟩
  clear hR2 hT2 hO2 hx4 b4 bW4
  go_upto_region 2 with fail
  clear hW4 hm4
  go_loopg [] (n - k2) (fun g wr => ∃ (k2 : Nat) (o : Int) (y : ByteArray) (i j : Int) (a : Option Addr) (l q : Nat) (p : Int), g = n - k2 ∧ Hid (PsI E b ao n c ts k m0 m4 w wr k2 f o y i j a l q p))
  case atStart => exact ⟨k2, o, y, i, j, a, l, q, p, rfl, HI.out⟩
  case round =>
    clear HI hk2 hs2
    obtain ⟨k2, o, y, i, j, a, l, q, p, hgk, HI⟩ := hrel
    cases f with
    | false =>
      obtain ⟨s0, s1, s2, s3, s4, s5⟩ := HI.out.box.cells
      obtain ⟨p0, p1, p2, p3, p4, p5⟩ := HI.out.res.cells
      obtain ⟨q0, q1, q2, q3, q4, q5⟩ := HI.out.res.thaw
      go_wp2_with fail
      refine bodyPost_ret (v := .tuple #[.agg #[.int .i64 o, .string y, .int .i64 i, .int .u64 j, .slice a l q, .int .i64 p], .bool false]) ?_ rfl (HI.out.told (Below.refl _ _) HZ.out h0b (fun q => by cases q))
      simp [results, Tryz.f75]
      go_simp
    | true =>
      by_cases h3 : hd (sB [94]) (ts.drop k2) = true
      · obtain ⟨nd, hch, hn1⟩ : ∃ nd, (∀ o, Gm E (.ups nd) (ts.drop k2) o → Gm E .post (ts.drop k) o) ∧ NdIn (fun g => m0 < g ∧ g ≠ m4 ∧ g < wr.heap.size) wr ⟨o, y.data.toList, i, j, a, l, q, p⟩ nd := by
          rcases HI.out.oc with ⟨nd, _, h1, h2⟩ | ⟨_, h2⟩
          · exact ⟨nd, h1, h2⟩
          · rw [num_sB (h2 rfl)] at h3
            cases h3
        have hmy := made_yes 12 [94] wr HI.out.rst h3
        have HG : Hid ((∀ o, Gm E (.ups nd) (ts.drop k2) o → Gm E .post (ts.drop k) o) ∧ NdIn (fun g => m0 < g ∧ g ≠ m4 ∧ g < wr.heap.size) wr ⟨o, y.data.toList, i, j, a, l, q, p⟩ nd ∧ hd (sB [94]) (ts.drop k2) = true) := ⟨hch, hn1, h3⟩
        have hkn : k2 < n := by have := (drop_pk h3).1; have := HI.out.rst.len; omega
        have hltw := HI.out.lt
        clear hch hn1 h3
        generalize hpp : (pk (ts.drop k2)).pos = pp at hmy
        have HP : Hid ((pk (ts.drop k2)).pos = pp) := hpp
        clear hpp
        go_wp2_with fail
        refine hmy.mono ?_
        rintro e w5 ⟨rfl, h5, t5⟩
        obtain ⟨W6, m6, hW6, hm6, hx6, bW6, b6, hB6, hlt6⟩ := lay6 (Below.refl _ w5) (Nat.le_refl _) 28 (.int .i64 12) (.string ⟨#[]⟩) (.int .i64 0) (.int .u64 0) (.slice none 0 0) (.int .i64 pp)
        have hs5 := t5.size
        have hm6b : ¬ m6 = b := by omega
        have hmb6 : ¬ b = m6 := by omega
        have HX6 : Hid (Box6 W6 m6 28 (.int .i64 12) (.string ⟨#[]⟩) (.int .i64 0) (.int .u64 0) (.slice none 0 0) (.int .i64 pp) ∧ Box6 W6 m4 28 (.int .i64 o) (.string y) (.int .i64 i) (.int .u64 j) (.slice a l q) (.int .i64 p) ∧ Box6 W6 m0 28 (.int .i64 0) (.string ⟨#[]⟩) (.int .i64 0) (.int .u64 0) (.slice none 0 0) (.int .i64 0)) :=
          ⟨hx6, (HI.out.box.turned t5 hm4b).below bW6, (HI.out.res.turned t5 hm0b).below bW6⟩
        have H6 : Hid (Rst W6 b ao n c ts (k2 + 1) ∧ Tn b w W6 ∧ NdIn (fun g => m0 < g ∧ g ≠ m4 ∧ g < wr.heap.size) W6 ⟨o, y.data.toList, i, j, a, l, q, p⟩ nd ∧ wr.heap.size ≤ m6 ∧ m6 < W6.heap.size) :=
          ⟨h5.below bW6, (HI.out.tn.trans t5).trans (Tn.of bW6), (HG.out.2.1.turned t5 (fun g hg e => by have := hg.1; omega)).below bW6, by omega, hlt6⟩
        clear h5 t5 hx6 b6 bW6 hmy
        have hz6 := H6.out.2.2.2
        have h64 : ¬ m6 = m4 := by omega
        have h46 : ¬ m4 = m6 := by omega
        have h06 : ¬ m0 = m6 := by omega
        have hpk := peek_any W6 H6.out.1
        generalize hpt : pk (ts.drop (k2 + 1)) = pt at hpk
        have HT : Hid (pk (ts.drop (k2 + 1)) = pt) := hpt
        clear hpt
        obtain ⟨tk, tx, tm, ti, tp⟩ := pt
        simp only at hpk
        go_upto_region 4 with fail
        clear hW6 hm6
        go_upto_region 5 with fail
        by_cases h2k : tk = 2
        · subst h2k
          have htm : 0 ≤ tm ∧ k2 + 1 < n := by
            rcases Nat.lt_or_ge (k2 + 1) n with hq | hq
            · obtain ⟨t, ht⟩ : ∃ t, ts[k2 + 1]? = some t := ⟨_, List.getElem?_eq_getElem (by rw [H6.out.1.len]; exact hq)⟩
              have e1 := HT.out
              rw [pk_at ht] at e1
              have := (H6.out.1.good t (List.mem_of_getElem? ht)).num.1
              rw [e1] at this
              exact ⟨this, hq⟩
            · have e1 := HT.out
              rw [pk_end (by rw [H6.out.1.len]; exact hq)] at e1
              have := congrArg Tk.kind e1
              simp [tk0] at this
          by_cases h0 : tm = 0
          · subst h0
            go_wp2_with fail
            refine hpk.mono ?_
            rintro e w7 ⟨rfl, b7⟩
            clear hpk
            obtain ⟨W8, m8, hW8, hm8, hx8, bW8, b8, hB8, hlt8⟩ := lay5 (Below.refl _ w7) (Nat.le_refl _) 51 (.int .i64 2) (.string ⟨tx.toArray⟩) (.int .i64 0) (.int .u64 ti) (.int .i64 tp)
            have b68 := b7.trans (bW8.mono b7.size)
            have hs8 := b68.size
            obtain ⟨d0, d1, d2, d3, d4⟩ := hx8.cells
            have HX8 : Hid (Box6 W8 m6 28 (.int .i64 12) (.string ⟨#[]⟩) (.int .i64 0) (.int .u64 0) (.slice none 0 0) (.int .i64 pp) ∧ Box6 W8 m4 28 (.int .i64 o) (.string y) (.int .i64 i) (.int .u64 j) (.slice a l q) (.int .i64 p) ∧ Box6 W8 m0 28 (.int .i64 0) (.string ⟨#[]⟩) (.int .i64 0) (.int .u64 0) (.slice none 0 0) (.int .i64 0)) := ⟨HX6.out.1.below b68, HX6.out.2.1.below b68, HX6.out.2.2.below b68⟩
            have H8 : Hid (Rst W8 b ao n c ts (k2 + 1) ∧ Tn b w W8 ∧ NdIn (fun g => m0 < g ∧ g ≠ m4 ∧ g < wr.heap.size) W8 ⟨o, y.data.toList, i, j, a, l, q, p⟩ nd ∧ m6 < W8.heap.size) := ⟨H6.out.1.below b68, H6.out.2.1.trans (Tn.of b68), H6.out.2.2.1.below b68, by omega⟩
            clear hx8 b8 bW8 b7 b68
            go_upto_region 6 with fail
            clear hW8 hm8
            go_upto_region 9 with fail
            clear d0 d1 d2 d3 d4
            have HX9 : Hid (_ ∧ _ ∧ _) := HX8.out
            have H9 : Hid (Rst W8 b ao n c ts (k2 + 1) ∧ Tn b w W8 ∧ NdIn (fun g => m0 < g ∧ g ≠ m4 ∧ g < wr.heap.size) W8 ⟨o, y.data.toList, i, j, a, l, q, p⟩ nd ∧ W8.heap.size = W8.heap.size) := ⟨H8.out.1, H8.out.2.1, H8.out.2.2.1, rfl⟩
            obtain ⟨s0, s1, s2, s3, s4, s5⟩ := HX9.out.2.1.cells
            obtain ⟨WA, mA, hWA, hmA, bWA, hsA⟩ := layR W8 28 #[.int .i64 o, .string y, .int .i64 i, .int .u64 j, .slice a l q, .int .i64 p]
            have hxA := HX9.out.1.below bWA
            have hyA := HX9.out.2.1.below bWA
            obtain ⟨g0, g1, g2, g3, g4, g5⟩ := hxA.cells
            obtain ⟨v0, v1, v2, v3, v4, v5⟩ := hxA.thaw
            obtain ⟨p0, p1, p2', p3, p4, p5⟩ := hyA.cells
            obtain ⟨r0, r1, r2, r3, r4, r5⟩ := hyA.thaw
            have hsz := H9.out.2.2.2
            have h8z := H8.out.2.2.2
            have KID : Hid (NdIn (fun g => m0 < g ∧ g ≠ m4 ∧ g ≠ m6 ∧ g < mA + 1) WA ⟨12, [], 0, 0, some ⟨mA, 0, none⟩, 1, 1, pp⟩ ⟨12, [], 0, 0, foOf [nd], pp⟩) := by
              show NdIn _ _ _ _
              rw [← hWA, ← hmA]
              exact H9.out.2.2.1.kid1 _ _ (by simp [encN]) ⟨by omega, by omega, by omega, by omega⟩ (fun g hg => by have := hg.1; have := hg.2.1; have := hg.2.2; exact ⟨by omega, by omega, by omega, by omega⟩)
            have HA : Hid (Rst WA b ao n c ts (k2 + 1) ∧ Tn b w WA ∧ Box6 WA m4 28 (.int .i64 o) (.string y) (.int .i64 i) (.int .u64 j) (.slice a l q) (.int .i64 p) ∧ Box6 WA m0 28 (.int .i64 0) (.string ⟨#[]⟩) (.int .i64 0) (.int .u64 0) (.slice none 0 0) (.int .i64 0) ∧ WA.heap.size = mA + 1 ∧ m4 < mA) := ⟨H9.out.1.below bWA, H9.out.2.1.trans (Tn.of bWA), hyA, HX9.out.2.2.below bWA, hsA, by omega⟩
            clear hxA hyA bWA hsA
            go_wp2_with fail
            clear hWA hmA
            go_roundg (n - (k2 + 1))
            case measure => omega
            case rel =>
              refine ⟨k2 + 1, 12, ByteArray.empty, 0, 0, some ⟨mA, 0, none⟩, 1, 1, pp, rfl, ?_⟩
              refine ⟨(HA.out.2.2.1.one h46 4 _).sixed _ _ _ _ _ _, (HA.out.2.2.2.1.one h06 4 _).six hm04 _ _ _ _ _ _, (HA.out.1.one (by omega) 4 _).six (by omega) _ _ _ _ _ _, (HA.out.2.1.one (by have := HZ.out; omega) 4 _).six (by have := HZ.out; omega) _ _ _ _ _ _, by have := HI.out.le; omega, ?_, ?_⟩
              · rw [six_size]
                have := HA.out.2.2.2.2
                simp [World.size_setCell]
                omega
              · have hsb := hd_of_pk (by simp [sB, tk0]) HG.out.2.2
                have hdr := drop_hd HG.out.2.2
                have hk2' : hd (kB 2) (ts.drop (k2 + 1)) = true := by rw [hd_pk (by simp [kB, tk0]), HT.out]; simp [kB]
                have hdr2 := drop_hd hk2'
                have hek : (pk (ts.drop (k2 + 1))).kind = 2 := by rw [HT.out]
                have hem : (pk (ts.drop (k2 + 1))).num = 0 := by rw [HT.out]
                have hnp : nextP E (ts.drop (k2 + 1)) = (pk (ts.drop (k2 + 1))).pos := by rw [hdr2]; rfl
                exact .inr ⟨HG.out.1 _ (by rw [hnp, hdr]; conv => { arg 3; rw [hdr2] }; exact .upE hsb hek hem), fun _ => hk2'⟩
          · have hpos : (0 : Int) < tm := by omega
            have hk2i : (k2 : Int) + 1 < 2000 := by have := htm.2; omega
            go_wp2_with fail
            refine hpk.mono ?_
            rintro e w7 ⟨rfl, b7⟩
            clear hpk
            obtain ⟨W8, m8, hW8, hm8, hx8, bW8, b8, hB8, hlt8⟩ := lay5 (Below.refl _ w7) (Nat.le_refl _) 51 (.int .i64 2) (.string ⟨tx.toArray⟩) (.int .i64 tm) (.int .u64 ti) (.int .i64 tp)
            have b68 := b7.trans (bW8.mono b7.size)
            have hs8 := b68.size
            obtain ⟨d0, d1, d2, d3, d4⟩ := hx8.cells
            have HX8 : Hid (Box6 W8 m6 28 (.int .i64 12) (.string ⟨#[]⟩) (.int .i64 0) (.int .u64 0) (.slice none 0 0) (.int .i64 pp) ∧ Box6 W8 m4 28 (.int .i64 o) (.string y) (.int .i64 i) (.int .u64 j) (.slice a l q) (.int .i64 p) ∧ Box6 W8 m0 28 (.int .i64 0) (.string ⟨#[]⟩) (.int .i64 0) (.int .u64 0) (.slice none 0 0) (.int .i64 0)) := ⟨HX6.out.1.below b68, HX6.out.2.1.below b68, HX6.out.2.2.below b68⟩
            have H8 : Hid (Rst W8 b ao n c ts (k2 + 1) ∧ Tn b w W8 ∧ NdIn (fun g => m0 < g ∧ g ≠ m4 ∧ g < wr.heap.size) W8 ⟨o, y.data.toList, i, j, a, l, q, p⟩ nd ∧ m6 < W8.heap.size) := ⟨H6.out.1.below b68, H6.out.2.1.trans (Tn.of b68), H6.out.2.2.1.below b68, by omega⟩
            obtain ⟨g0, g1, g2, g3, g4, g5⟩ := HX8.out.1.cells
            obtain ⟨v0, v1, v2, v3, v4, v5⟩ := HX8.out.1.thaw
            obtain ⟨z0, z1, zf⟩ := H8.out.1.cells
            have h68 : ¬ m6 = m8 := by have := b7.size; omega
            have hb8 : ¬ b = m8 := by have := b7.size; omega
            clear hx8 b8 bW8 b7 b68
            go_upto_region 6 with fail
            clear hW8 hm8
            have c1 : ((((k2 + 1 : Nat) : Int)) : Int) = (k2 : Int) + 1 := by omega
            go_upto_region 9 with fail
            have hr9 := (H8.out.1.one (g := m6) (by omega) 2 (.int .i64 tm)).next htm.2
            have hc9 : ((k2 + 1 + 1 : Nat) : Int) = (k2 : Int) + 1 + 1 := by omega
            have hx9 := And.intro ((HX8.out.1.put2 (.int .i64 tm)).one hm6b 1 (.int .i64 ((k2 + 1 + 1 : Nat) : Int))) (And.intro ((HX8.out.2.1.one h46 2 (.int .i64 tm)).one hm4b 1 (.int .i64 ((k2 + 1 + 1 : Nat) : Int))) ((HX8.out.2.2.one h06 2 (.int .i64 tm)).one hm0b 1 (.int .i64 ((k2 + 1 + 1 : Nat) : Int))))
            have ht9 := (H8.out.2.1.one (g := m6) (by have := HZ.out; omega) 2 (.int .i64 tm)).setCell (p := ⟨b, 1, none⟩) (.inl rfl) (.int .i64 ((k2 + 1 + 1 : Nat) : Int))
            have hn9 := (H8.out.2.2.1.one (g := m6) (fun q => by have := q.2.2; omega) 2 (.int .i64 tm)).one (g := b) (fun q => by have := q.1; omega) 1 (.int .i64 ((k2 + 1 + 1 : Nat) : Int))
            have hz9 : ((W8.setCell ⟨m6, 2, none⟩ (.int .i64 tm)).setCell ⟨b, 1, none⟩ (.int .i64 ((k2 + 1 + 1 : Nat) : Int))).heap.size = W8.heap.size := by simp [World.size_setCell]
            rw [hc9] at hr9 hx9 ht9 hn9 hz9
            obtain ⟨W9, hW9⟩ : ∃ W9, (W8.setCell ⟨m6, 2, none⟩ (.int .i64 tm)).setCell ⟨b, 1, none⟩ (.int .i64 ((k2 : Int) + 1 + 1)) = W9 := ⟨_, rfl⟩
            rw [hW9] at hr9 hx9 ht9 hn9 hz9
            rw [hW9]
            clear hW9 g0 g1 g2 g3 g4 g5 v0 v1 v2 v3 v4 v5 z0 z1 zf d0 d1 d2 d3 d4
            have HX9 : Hid (_ ∧ _ ∧ _) := hx9
            have H9 : Hid (Rst W9 b ao n c ts (k2 + 1 + 1) ∧ Tn b w W9 ∧ NdIn (fun g => m0 < g ∧ g ≠ m4 ∧ g < wr.heap.size) W9 ⟨o, y.data.toList, i, j, a, l, q, p⟩ nd ∧ W9.heap.size = W8.heap.size) := ⟨hr9, ht9, hn9, hz9⟩
            clear hr9 hx9 ht9 hn9 hz9 hc9 c1
            obtain ⟨s0, s1, s2, s3, s4, s5⟩ := HX9.out.2.1.cells
            obtain ⟨WA, mA, hWA, hmA, bWA, hsA⟩ := layR W9 28 #[.int .i64 o, .string y, .int .i64 i, .int .u64 j, .slice a l q, .int .i64 p]
            have hxA := HX9.out.1.below bWA
            have hyA := HX9.out.2.1.below bWA
            obtain ⟨g0, g1, g2, g3, g4, g5⟩ := hxA.cells
            obtain ⟨v0, v1, v2, v3, v4, v5⟩ := hxA.thaw
            obtain ⟨p0, p1, p2', p3, p4, p5⟩ := hyA.cells
            obtain ⟨r0, r1, r2, r3, r4, r5⟩ := hyA.thaw
            have hsz := H9.out.2.2.2
            have h8z := H8.out.2.2.2
            have KID : Hid (NdIn (fun g => m0 < g ∧ g ≠ m4 ∧ g ≠ m6 ∧ g < mA + 1) WA ⟨12, [], tm, 0, some ⟨mA, 0, none⟩, 1, 1, pp⟩ ⟨12, [], tm, 0, foOf [nd], pp⟩) := by
              show NdIn _ _ _ _
              rw [← hWA, ← hmA]
              exact H9.out.2.2.1.kid1 _ _ (by simp [encN]) ⟨by omega, by omega, by omega, by omega⟩ (fun g hg => by have := hg.1; have := hg.2.1; have := hg.2.2; exact ⟨by omega, by omega, by omega, by omega⟩)
            have HA : Hid (Rst WA b ao n c ts (k2 + 1 + 1) ∧ Tn b w WA ∧ Box6 WA m4 28 (.int .i64 o) (.string y) (.int .i64 i) (.int .u64 j) (.slice a l q) (.int .i64 p) ∧ Box6 WA m0 28 (.int .i64 0) (.string ⟨#[]⟩) (.int .i64 0) (.int .u64 0) (.slice none 0 0) (.int .i64 0) ∧ WA.heap.size = mA + 1 ∧ m4 < mA) := ⟨H9.out.1.below bWA, H9.out.2.1.trans (Tn.of bWA), hyA, HX9.out.2.2.below bWA, hsA, by omega⟩
            clear hxA hyA bWA hsA
            go_wp2_with fail
            clear hWA hmA
            go_roundg (n - (k2 + 1 + 1))
            case measure => omega
            case rel =>
              refine ⟨k2 + 1 + 1, 12, ByteArray.empty, tm, 0, some ⟨mA, 0, none⟩, 1, 1, pp, rfl, ?_⟩
              refine ⟨(HA.out.2.2.1.one h46 4 _).sixed _ _ _ _ _ _, (HA.out.2.2.2.1.one h06 4 _).six hm04 _ _ _ _ _ _, (HA.out.1.one (by omega) 4 _).six (by omega) _ _ _ _ _ _, (HA.out.2.1.one (by have := HZ.out; omega) 4 _).six (by have := HZ.out; omega) _ _ _ _ _ _, by have := HI.out.le; omega, ?_, ?_⟩
              · rw [six_size]
                have := HA.out.2.2.2.2
                simp [World.size_setCell]
                omega
              · have hsb := hd_of_pk (by simp [sB, tk0]) HG.out.2.2
                have hdr := drop_hd HG.out.2.2
                have hk2' : hd (kB 2) (ts.drop (k2 + 1)) = true := by rw [hd_pk (by simp [kB, tk0]), HT.out]; simp [kB]
                have hdr2 := drop_hd hk2'
                have hek : (pk (ts.drop (k2 + 1))).kind = 2 := by rw [HT.out]
                have hem : (pk (ts.drop (k2 + 1))).num = tm := by rw [HT.out]
                refine .inl ⟨upN (pk (ts.drop k2)) tm nd, rfl, fun o ho => HG.out.1 _ (by rw [hdr, hdr2]; exact .upK hsb hek (by rw [hem]; exact h0) (by rw [hem]; exact ho)), ?_⟩
                have hk := ((KID.out).one (g := m6) (fun q => q.2.2.1 rfl) 4 (.slice (some ⟨mA, 0, none⟩) 1 1)).six (g := m4) (fun q => q.2.1 rfl) (.int .i64 12) (.string ⟨#[]⟩) (.int .i64 tm) (.int .u64 0) (.slice (some ⟨mA, 0, none⟩) 1 1) (.int .i64 pp)
                unfold upN
                rw [HP.out]
                refine hk.mono (fun g hg => ⟨hg.1, hg.2.1, ?_⟩)
                have := HA.out.2.2.2.2
                rw [six_size]
                have := hg.2.2.2
                simp [World.size_setCell]
                omega
        · have e2 : (tk == 2) = false := by rw [beq_eq_false_iff_ne]; exact h2k
          go_wp2_with fail
          refine hpk.mono ?_
          rintro e w7 ⟨rfl, b7⟩
          clear hpk
          obtain ⟨W8, m8, hW8, hm8, hx8, bW8, b8, hB8, hlt8⟩ := lay5 (Below.refl _ w7) (Nat.le_refl _) 51 (.int .i64 tk) (.string ⟨tx.toArray⟩) (.int .i64 tm) (.int .u64 ti) (.int .i64 tp)
          have b68 := b7.trans (bW8.mono b7.size)
          have hs8 := b68.size
          obtain ⟨d0, d1, d2, d3, d4⟩ := hx8.cells
          have HX8 : Hid (Box6 W8 m6 28 (.int .i64 12) (.string ⟨#[]⟩) (.int .i64 0) (.int .u64 0) (.slice none 0 0) (.int .i64 pp) ∧ Box6 W8 m4 28 (.int .i64 o) (.string y) (.int .i64 i) (.int .u64 j) (.slice a l q) (.int .i64 p) ∧ Box6 W8 m0 28 (.int .i64 0) (.string ⟨#[]⟩) (.int .i64 0) (.int .u64 0) (.slice none 0 0) (.int .i64 0)) := ⟨HX6.out.1.below b68, HX6.out.2.1.below b68, HX6.out.2.2.below b68⟩
          have H8 : Hid (Rst W8 b ao n c ts (k2 + 1) ∧ Tn b w W8 ∧ NdIn (fun g => m0 < g ∧ g ≠ m4 ∧ g < wr.heap.size) W8 ⟨o, y.data.toList, i, j, a, l, q, p⟩ nd ∧ m6 < W8.heap.size) := ⟨H6.out.1.below b68, H6.out.2.1.trans (Tn.of b68), H6.out.2.2.1.below b68, by omega⟩
          clear hx8 b8 bW8 b7 b68
          go_upto_region 6 with fail
          clear hW8 hm8
          go_upto_region 9 with fail
          clear d0 d1 d2 d3 d4
          have HX9 : Hid (_ ∧ _ ∧ _) := HX8.out
          have H9 : Hid (Rst W8 b ao n c ts (k2 + 1) ∧ Tn b w W8 ∧ NdIn (fun g => m0 < g ∧ g ≠ m4 ∧ g < wr.heap.size) W8 ⟨o, y.data.toList, i, j, a, l, q, p⟩ nd ∧ W8.heap.size = W8.heap.size) := ⟨H8.out.1, H8.out.2.1, H8.out.2.2.1, rfl⟩
          obtain ⟨s0, s1, s2, s3, s4, s5⟩ := HX9.out.2.1.cells
          obtain ⟨WA, mA, hWA, hmA, bWA, hsA⟩ := layR W8 28 #[.int .i64 o, .string y, .int .i64 i, .int .u64 j, .slice a l q, .int .i64 p]
          have hxA := HX9.out.1.below bWA
          have hyA := HX9.out.2.1.below bWA
          obtain ⟨g0, g1, g2, g3, g4, g5⟩ := hxA.cells
          obtain ⟨v0, v1, v2, v3, v4, v5⟩ := hxA.thaw
          obtain ⟨p0, p1, p2', p3, p4, p5⟩ := hyA.cells
          obtain ⟨r0, r1, r2, r3, r4, r5⟩ := hyA.thaw
          have hsz := H9.out.2.2.2
          have h8z := H8.out.2.2.2
          have KID : Hid (NdIn (fun g => m0 < g ∧ g ≠ m4 ∧ g ≠ m6 ∧ g < mA + 1) WA ⟨12, [], 0, 0, some ⟨mA, 0, none⟩, 1, 1, pp⟩ ⟨12, [], 0, 0, foOf [nd], pp⟩) := by
            show NdIn _ _ _ _
            rw [← hWA, ← hmA]
            exact H9.out.2.2.1.kid1 _ _ (by simp [encN]) ⟨by omega, by omega, by omega, by omega⟩ (fun g hg => by have := hg.1; have := hg.2.1; have := hg.2.2; exact ⟨by omega, by omega, by omega, by omega⟩)
          have HA : Hid (Rst WA b ao n c ts (k2 + 1) ∧ Tn b w WA ∧ Box6 WA m4 28 (.int .i64 o) (.string y) (.int .i64 i) (.int .u64 j) (.slice a l q) (.int .i64 p) ∧ Box6 WA m0 28 (.int .i64 0) (.string ⟨#[]⟩) (.int .i64 0) (.int .u64 0) (.slice none 0 0) (.int .i64 0) ∧ WA.heap.size = mA + 1 ∧ m4 < mA) := ⟨H9.out.1.below bWA, H9.out.2.1.trans (Tn.of bWA), hyA, HX9.out.2.2.below bWA, hsA, by omega⟩
          clear hxA hyA bWA hsA
          go_wp2_with fail
          clear hWA hmA
          go_roundg (n - (k2 + 1))
          case measure => omega
          case rel =>
            refine ⟨k2 + 1, 12, ByteArray.empty, 0, 0, some ⟨mA, 0, none⟩, 1, 1, pp, rfl, ?_⟩
            refine ⟨(HA.out.2.2.1.one h46 4 _).sixed _ _ _ _ _ _, (HA.out.2.2.2.1.one h06 4 _).six hm04 _ _ _ _ _ _, (HA.out.1.one (by omega) 4 _).six (by omega) _ _ _ _ _ _, (HA.out.2.1.one (by have := HZ.out; omega) 4 _).six (by have := HZ.out; omega) _ _ _ _ _ _, by have := HI.out.le; omega, ?_, ?_⟩
            · rw [six_size]
              have := HA.out.2.2.2.2
              simp [World.size_setCell]
              omega
            · have hsb := hd_of_pk (by simp [sB, tk0]) HG.out.2.2
              have hdr := drop_hd HG.out.2.2
              have hk2' : hd (kB 2) (ts.drop (k2 + 1)) = false := by rw [hd_pk (by simp [kB, tk0]), HT.out]; simp [kB, h2k]
              refine .inl ⟨upN (pk (ts.drop k2)) 0 nd, rfl, fun o ho => HG.out.1 _ (by rw [hdr]; exact .up hsb hk2' ho), ?_⟩
              have hk := ((KID.out).one (g := m6) (fun q => q.2.2.1 rfl) 4 (.slice (some ⟨mA, 0, none⟩) 1 1)).six (g := m4) (fun q => q.2.1 rfl) (.int .i64 12) (.string ⟨#[]⟩) (.int .i64 0) (.int .u64 0) (.slice (some ⟨mA, 0, none⟩) 1 1) (.int .i64 pp)
              unfold upN
              rw [HP.out]
              refine hk.mono (fun g hg => ⟨hg.1, hg.2.1, ?_⟩)
              have := HA.out.2.2.2.2
              rw [six_size]
              have := hg.2.2.2
              simp [World.size_setCell]
              omega
      · have h3' : hd (sB [94]) (ts.drop k2) = false := by simpa using h3
        have hmn := made_no 12 [94] wr HI.out.rst h3'
        have H3 : Hid (hd (sB [94]) (ts.drop k2) = false) := h3'
        clear h3 h3'
        generalize hpp : (pk (ts.drop k2)).pos = pp at hmn
        clear hpp
        go_wp2_with fail
        refine hmn.mono ?_
        rintro e w5 ⟨rfl, b5⟩
        clear hmn
        obtain ⟨W6, m6, hW6, hm6, hx6, bW6, b6, hB6, hlt6⟩ := lay6 (Below.refl _ w5) (Nat.le_refl _) 28 (.int .i64 12) (.string ⟨#[]⟩) (.int .i64 0) (.int .u64 0) (.slice none 0 0) (.int .i64 pp)
        have b7 := b5.trans (bW6.mono b5.size)
        have hx4' := HI.out.box.below b7
        have hy4' := HI.out.res.below b7
        obtain ⟨s0, s1, s2, s3, s4, s5⟩ := hx4'.cells
        obtain ⟨p0, p1, p2', p3, p4, p5⟩ := hy4'.cells
        obtain ⟨r0, r1, r2, r3, r4, r5⟩ := hy4'.thaw
        have HB : Hid (Below wr.heap.size wr W6) := b7
        clear hx4' hy4' hx6 bW6 b6 b5 b7
        go_upto_region 4 with fail
        clear hW6 hm6
        go_wp2_with fail
        refine bodyPost_ret (v := .tuple #[.agg #[.int .i64 o, .string y, .int .i64 i, .int .u64 j, .slice a l q, .int .i64 p], .bool true]) ?_ rfl (HI.out.told HB.out HZ.out h0b (fun _ => H3.out))
        simp [results, Tryz.f75]
        go_simp

end Go.Proofs.YtijchmcajhdcoaaGreatDoor

/-!
  The reader's unary by a contract, over that of postfix and its own further on. No condition.
-/
namespace Go.Proofs.YtijchmcajhdcoaaGreatDoor
open Go.RowKit

set_option maxHeartbeats 1600000 in
set_option maxRecDepth 100000 in
theorem punary_any {E : Int} {b : Nat} {ao : Option Addr} {n c k : Nat} {ts : List Tk} (hP : hd (sB [33]) (ts.drop k) = false → Pt E .post 75 b ao n c ts k) (hN : k < n → Pt E .unary 62 b ao n c ts (k + 1)) : Pt E .unary 62 b ao n c ts k := by
  intro w h
  obtain ⟨W0, m0, hW0, hm0, hx0, bW0, _, hB0, hlt0⟩ := lay6 (Below.refl _ w) (Nat.le_refl _) 28 (.int .i64 0) (.string ⟨#[]⟩) (.int .i64 0) (.int .u64 0) (.slice none 0 0) (.int .i64 0)
  have hlb := h.box.lt
  have H : Hid (Rst W0 b ao n c ts k ∧ Below w.heap.size w W0 ∧ w.heap.size = m0) := ⟨h.below bW0, bW0, hm0⟩
  have HX : Hid (Box6 W0 m0 28 (.int .i64 0) (.string ⟨#[]⟩) (.int .i64 0) (.int .u64 0) (.slice none 0 0) (.int .i64 0)) := hx0
  have hm0b : ¬ m0 = b := by omega
  have h0b : b < m0 := by omega
  clear h bW0 hx0
  by_cases h3 : hd (sB [33]) (ts.drop k) = true
  · have hkn : k < n := by have := (drop_pk h3).1; have := H.out.1.len; omega
    have hmy := made_yes 11 [33] W0 H.out.1 h3
    have HN : Hid (Pt E .unary 62 b ao n c ts (k + 1)) := hN hkn
    have H3 : Hid (hd (sB [33]) (ts.drop k) = true) := h3
    clear hP hN h3
    generalize hpp : (pk (ts.drop k)).pos = pp at hmy
    have HP : Hid ((pk (ts.drop k)).pos = pp) := hpp
    clear hpp
    go_enter Tryz.func62, Tryz.ntmps62
    go_upto_region 1 with fail
    clear hW0 hm0
    go_wp2_with fail
    refine hmy.mono ?_
    rintro e w2 ⟨rfl, hR2, hT2⟩
    obtain ⟨W4, m4, hW4, hm4, hx4, bW4, b4, hB4, hlt4⟩ := lay6 (Below.refl _ w2) (Nat.le_refl _) 28 (.int .i64 11) (.string ⟨#[]⟩) (.int .i64 0) (.int .u64 0) (.slice none 0 0) (.int .i64 pp)
    have hs2 := hT2.size
    have hm4b : ¬ m4 = b := by omega
    have h04 : m0 < m4 := by omega
    have HX4 : Hid (Box6 W4 m4 28 (.int .i64 11) (.string ⟨#[]⟩) (.int .i64 0) (.int .u64 0) (.slice none 0 0) (.int .i64 pp) ∧ Box6 W4 m0 28 (.int .i64 0) (.string ⟨#[]⟩) (.int .i64 0) (.int .u64 0) (.slice none 0 0) (.int .i64 0)) := ⟨hx4, (HX.out.turned hT2 hm0b).below bW4⟩
    have H4 : Hid (Rst W4 b ao n c ts (k + 1) ∧ Tn b w W4 ∧ m4 < W4.heap.size) := ⟨hR2.below bW4, ((Tn.of H.out.2.1).trans hT2).trans (Tn.of bW4), hlt4⟩
    clear hR2 hT2 hx4 b4 bW4 hmy
    go_upto_region 2 with fail
    clear hW4 hm4
    go_wp2_with fail
    refine (HN.out W4 H4.out.1).mono ?_
    rintro e w5 ⟨o, y, i, j, a, l, q, p, f, k2, rfl, hk2, hR5, hT5, hO5⟩
    have hs5 := hT5.size
    obtain ⟨W6, m6, hW6, hm6, hx6, bW6, b6, hB6, hlt6⟩ := lay6 (Below.refl _ w5) (Nat.le_refl _) 28 (.int .i64 o) (.string y) (.int .i64 i) (.int .u64 j) (.slice a l q) (.int .i64 p)
    have h46 : m4 < m6 := by omega
    obtain ⟨W7, m7, hW7, hm7, bW7, hs7⟩ := layR W6 28 #[.int .i64 o, .string y, .int .i64 i, .int .u64 j, .slice a l q, .int .i64 p]
    have hx7 := ((HX4.out.1.turned hT5 hm4b).below bW6).below bW7
    have hy7 := ((HX4.out.2.turned hT5 hm0b).below bW6).below bW7
    obtain ⟨d0, d1, d2, d3, d4, d5⟩ := hx6.cells
    obtain ⟨g0, g1, g2, g3, g4, g5⟩ := hx7.cells
    obtain ⟨v0, v1, v2, v3, v4, v5⟩ := hx7.thaw
    obtain ⟨p0, p1, p2, p3, p4, p5⟩ := hy7.cells
    obtain ⟨r0, r1, r2, r3, r4, r5⟩ := hy7.thaw
    have hm40 : ¬ m4 = m0 := by omega
    have hm04 : ¬ m0 = m4 := by omega
    have KID : Hid (∀ x2, NdIn (Bt W4.heap.size w5.heap.size) w5 ⟨o, y.data.toList, i, j, a, l, q, p⟩ x2 → NdIn (fun g => m0 < g ∧ g ≠ m4 ∧ g < m7 + 1) W7 ⟨11, [], 0, 0, some ⟨m7, 0, none⟩, 1, 1, pp⟩ ⟨11, [], 0, 0, foOf [x2], pp⟩) := by
      intro x2 hx2
      rw [← hW7, ← hm7]
      have e4 := H4.out.2.2
      exact (hx2.below bW6).kid1 _ _ (by simp [encN]) ⟨by omega, by omega, by omega⟩ (fun g hg => by have := hg.1; have := hg.2; exact ⟨by omega, by omega, by omega⟩)
    have H7 : Hid (Rst W7 b ao n c ts k2 ∧ Tn b w W7 ∧ W7.heap.size = m7 + 1 ∧ Oc E .unary ts (k + 1) (Bt W4.heap.size w5.heap.size) ⟨o, y.data.toList, i, j, a, l, q, p⟩ f k2 w5) := ⟨(hR5.below bW6).below bW7, ((H4.out.2.1.trans hT5).trans (Tn.of bW6)).trans (Tn.of bW7), hs7, hO5⟩
    clear hx6 hx7 hy7 hR5 hT5 hO5 b6 bW6 bW7 hs7
    go_upto_region 5 with fail
    clear hW6 hm6
    go_wp2_with fail
    clear hW7 hm7
    refine bodyPost_ret (v := .tuple #[.agg #[.int .i64 11, .string ⟨#[]⟩, .int .i64 0, .int .u64 0, .slice (some ⟨m7, 0, none⟩) 1 1, .int .i64 pp], .bool f]) ?_ rfl ⟨11, ByteArray.empty, 0, 0, some ⟨m7, 0, none⟩, 1, 1, pp, f, k2, rfl, by omega, ?_, ?_, ?_⟩
    · simp [results, Tryz.f62]
      go_simp
    · exact (H7.out.1.one (by omega) _ _).six (by omega) _ _ _ _ _ _
    · exact (H7.out.2.1.one (by have := H.out.2.2; omega) _ _).six (by have := H.out.2.2; omega) _ _ _ _ _ _
    · have hdr := drop_hd H3.out
      have hsb := hd_of_pk (by simp [sB, tk0]) H3.out
      rcases H7.out.2.2.2 with ⟨x2, rfl, g2, n2⟩ | ⟨g2, n2⟩
      · refine .inl ⟨notN (pk (ts.drop k)) x2, rfl, by rw [hdr]; exact .nots hsb g2, ?_⟩
        have hk := ((KID.out x2 n2).one (g := m4) (fun q => q.2.1 rfl) 4 (.slice (some ⟨m7, 0, none⟩) 1 1)).six (g := m0) (fun q => by have := q.1; omega) (.int .i64 11) (.string ⟨#[]⟩) (.int .i64 0) (.int .u64 0) (.slice (some ⟨m7, 0, none⟩) 1 1) (.int .i64 pp)
        unfold notN
        rw [HP.out]
        refine hk.mono (fun g hg => ⟨?_, ?_⟩)
        · have := H.out.2.2; have := hg.1; omega
        · have := H7.out.2.2.1
          have := hg.2.2
          rw [six_size]
          simp [World.size_setCell]
          omega
      · exact .inr ⟨by rw [hdr]; exact .notsE hsb g2, n2⟩
  · have h3' : hd (sB [33]) (ts.drop k) = false := by simpa using h3
    have hmn := made_no 11 [33] W0 H.out.1 h3'
    have HN : Hid (Pt E .post 75 b ao n c ts k) := hP h3'
    have H3 : Hid (hd (sB [33]) (ts.drop k) = false) := h3'
    clear hP hN h3 h3'
    generalize hpp : (pk (ts.drop k)).pos = pp at hmn
    clear hpp
    go_enter Tryz.func62, Tryz.ntmps62
    go_upto_region 1 with fail
    clear hW0 hm0
    go_wp2_with fail
    refine hmn.mono ?_
    rintro e w2 ⟨rfl, b2⟩
    obtain ⟨W4, m4, hW4, hm4, hx4, bW4, b4, hB4, hlt4⟩ := lay6 (Below.refl _ w2) (Nat.le_refl _) 28 (.int .i64 11) (.string ⟨#[]⟩) (.int .i64 0) (.int .u64 0) (.slice none 0 0) (.int .i64 pp)
    have b7 := b2.trans (bW4.mono b2.size)
    have hs7 := b7.size
    have HX4 : Hid (Box6 W4 m0 28 (.int .i64 0) (.string ⟨#[]⟩) (.int .i64 0) (.int .u64 0) (.slice none 0 0) (.int .i64 0)) := HX.out.below b7
    have H4 : Hid (Rst W4 b ao n c ts k ∧ Tn b w W4 ∧ m0 < W4.heap.size) := ⟨H.out.1.below b7, (Tn.of H.out.2.1).trans (Tn.of b7), by omega⟩
    clear hx4 b4 bW4 b2 b7 hmn
    go_upto_region 2 with fail
    clear hW4 hm4
    go_wp2_with fail
    refine (HN.out W4 H4.out.1).mono ?_
    rintro e w5 ⟨o, y, i, j, a, l, q, p, f, k2, rfl, hk2, hR5, hT5, hO5⟩
    have hs5 := hT5.size
    have x5 := HX4.out.turned hT5 hm0b
    obtain ⟨p0, p1, p2, p3, p4, p5⟩ := x5.cells
    obtain ⟨r0, r1, r2, r3, r4, r5⟩ := x5.thaw
    have H7 : Hid (Rst w5 b ao n c ts k2 ∧ Tn b w w5 ∧ Oc E .post ts k (Bt W4.heap.size w5.heap.size) ⟨o, y.data.toList, i, j, a, l, q, p⟩ f k2 w5) := ⟨hR5, H4.out.2.1.trans hT5, hO5⟩
    clear x5 hR5 hT5 hO5
    go_wp2_with fail
    refine bodyPost_ret (v := .tuple #[.agg #[.int .i64 o, .string y, .int .i64 i, .int .u64 j, .slice a l q, .int .i64 p], .bool f]) ?_ rfl ⟨o, y, i, j, a, l, q, p, f, k2, rfl, hk2, ?_, ?_, ?_⟩
    · simp [results, Tryz.f62]
      go_simp
    · exact H7.out.1.six (by omega) _ _ _ _ _ _
    · exact H7.out.2.1.six (by have := H.out.2.2; omega) _ _ _ _ _ _
    · rcases H7.out.2.2 with ⟨nd, h1, h2, h3⟩ | h1
      · refine .inl ⟨nd, h1, .unary H3.out h2, (h3.six (g := m0) (fun q => by have := q.1; have := H4.out.2.2; omega) _ _ _ _ _ _).mono (fun g hg => ⟨by have := hg.1; have := H.out.2.2; have := H4.out.2.2; omega, by rw [six_size]; exact hg.2⟩)⟩
      · exact .inr ⟨.unary H3.out h1.1, h1.2⟩

end Go.Proofs.YtijchmcajhdcoaaGreatDoor
