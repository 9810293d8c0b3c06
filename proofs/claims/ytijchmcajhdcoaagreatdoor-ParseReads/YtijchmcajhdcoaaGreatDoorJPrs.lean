import Derived.Test.YtijchmcajhdcoaaGreatDoorJBra
import Derived.Test.YtijchmcajhdcoaaGreatDoorJUna
import Derived.Test.YtijchmcajhdcoaaGreatDoorJExp
import Derived.Test.YtijchmcajhdcoaaGreatDoorJDep
/-!
  The reader's expr, wherever it stands: it answers what the grammar tells. No condition.
-/
namespace Go.Proofs.YtijchmcajhdcoaaGreatDoor
open Go.RowKit

theorem reads_all {E : Int} {b : Nat} {ao : Option Addr} {n c : Nat} {ts : List Tk} : ∀ f k, n + 1 ≤ k + f → Pt E (.row 1) 12 b ao n c ts k ∧ Pt E .unary 62 b ao n c ts k
  | 0, k, h => ⟨fun u hu => absurd hu.le (by omega), fun u hu => absurd hu.le (by omega)⟩
  | f + 1, k, h => by
    have ih := fun k' (hk : k < k') => reads_all (E := E) (b := b) (ao := ao) (n := n) (c := c) (ts := ts) f k' (by omega)
    have hun : Pt E .unary 62 b ao n c ts k := punary_any (fun h33 => ppost_any (patom_any (fun k' hk => (ih k' hk).1) h33)) (fun _ => (ih (k + 1) (by omega)).2)
    have hua : ∀ k', k ≤ k' → Pt E .unary 62 b ao n c ts k' := by
      intro k' hk
      rcases Nat.lt_or_ge k k' with q | q
      · exact (ih k' q).2
      · obtain rfl : k' = k := by omega
        exact hun
    have hsp : ∀ k', k ≤ k' → Pt E .range 49 b ao n c ts k' := fun k' hk => pspan_any (fun k2 h2 => hua k2 (by omega))
    have hin : ∀ k', k ≤ k' → Pt E (.row 2) 32 b ao n c ts k' := fun k' hk => pinter_any (fun k2 h2 => hsp k2 (by omega))
    exact ⟨pexpr_any hin, hun⟩

theorem reads {E : Int} {b : Nat} {ao : Option Addr} {n c k : Nat} {ts : List Tk} : Pt E (.row 1) 12 b ao n c ts k := (reads_all (n + 1) k (by omega)).1

end Go.Proofs.YtijchmcajhdcoaaGreatDoor

/-!
  parse.Parse by contracts: what the grammar tells of a text's tokens. No condition but that the program's variables hold what its text lays there.
-/
namespace Go.Proofs.YtijchmcajhdcoaaGreatDoor
open Go.RowKit

/-- What Parse answers where the grammar tells this. -/
def Pz (o : Out) (Q : Nat → Prop) (v : NV) (a c : Int) (w' : World) : Prop :=
  (∃ nd, o = .ok nd [] ∧ nd.dep ≤ 24 ∧ a = 0 ∧ c = 0 ∧ NdIn Q w' v nd) ∨ (v = ⟨0, [], 0, 0, none, 0, 0, 0⟩ ∧
    ((∃ nd, o = .ok nd [] ∧ 24 < nd.dep ∧ a = 0 ∧ c = 32) ∨ (∃ nd t r, o = .ok nd (t :: r) ∧ a = t.pos ∧ c = 31) ∨ (o = .err a ∧ c = 31)))

theorem tw_short {p : Nat} {l : Bs} {ts : List Tk} {e : Option Nat} (h : Sc p l ts e) : tw ts ≤ 41 * l.length := by
  have h1 := h.long
  have h2 := h.few
  have hg := h.good
  have h3 : tw ts ≤ ((ts.map st).map List.length).sum + 40 * ts.length := by
    clear h1 h2
    induction ts with
    | nil => simp [tw]
    | cons t r ih =>
      have a := (hg t List.mem_cons_self).txt
      have b : tw r ≤ ((r.map st).map List.length).sum + 40 * r.length := by
        clear ih a h
        induction r with
        | nil => simp [tw]
        | cons u r ih =>
          have a := (hg u (List.mem_cons_of_mem _ List.mem_cons_self)).txt
          have b := ih (fun x hx => hg x (by rcases List.mem_cons.1 hx with rfl | hx
                                             · exact List.mem_cons_self
                                             · exact List.mem_cons_of_mem _ (List.mem_cons_of_mem _ hx)))
          rw [tw_cons]
          simp only [List.map_cons, List.sum_cons, List.length_cons]
          omega
      rw [tw_cons]
      simp only [List.map_cons, List.sum_cons, List.length_cons]
      omega
  omega

set_option maxHeartbeats 3200000 in
set_option maxRecDepth 100000 in
theorem parse_known (s : ByteArray) (hs : s.size ≤ 1024) {ts : List Tk} (h : Sc 0 s.data.toList ts none) (w : World) (hg : Gl w) (hi : Inf w) :
    Calls Tryz.prog 5 #[.string s] w fun e w' => ∃ (v : NV) (a c : Int) (o : Out), e = .returned (.tuple #[v.val, .int .i64 a, .int .i64 c]) ∧ Below w.heap.size w w' ∧ Gm s.size (.row 1) ts o ∧ Pz o (Bt w.heap.size w'.heap.size) v a c w' := by
  obtain ⟨W0, m0, hW0, hm0, hx0, bW0, _, hB0, hlt0⟩ := lay6 (Below.refl _ w) (Nat.le_refl _) 28 (.int .i64 0) (.string ⟨#[]⟩) (.int .i64 0) (.int .u64 0) (.slice none 0 0) (.int .i64 0)
  have hsc := scan_known s hs h W0 (hg.below bW0)
  have H : Hid (Below w.heap.size w W0 ∧ w.heap.size = m0 ∧ Inf W0 ∧ m0 < W0.heap.size) := ⟨bW0, hm0, hi.below bW0, hlt0⟩
  have HX : Hid (Box6 W0 m0 28 (.int .i64 0) (.string ⟨#[]⟩) (.int .i64 0) (.int .u64 0) (.slice none 0 0) (.int .i64 0)) := hx0
  have hfew := h.few
  rw [← bsize] at hfew
  have HS : Hid (Sc 0 s.data.toList ts none ∧ tw ts ≤ 41984) := ⟨h, by have := tw_short h; rw [← bsize] at this; omega⟩
  simp only [plT, cdT, outT_none] at hsc
  clear h hg hi bW0 hx0
  go_enter Tryz.func5, Tryz.ntmps5
  go_upto_region 1 with fail
  clear hW0 hm0
  go_wp2_with fail
  refine hsc.mono ?_
  rintro e w1 ⟨ao, cp, rfl, hl, b1⟩
  obtain ⟨n, hn⟩ : ∃ n, ts.length = n := ⟨_, rfl⟩
  rw [hn] at hl hfew ⊢
  have HL : Hid (RdG encT w1 ao ts ∧ ts.length = n ∧ n ≤ cp ∧ Below W0.heap.size W0 w1 ∧ ∀ ad, ao = some ad → W0.heap.size ≤ ad.block) := ⟨hl.rd, hn, hl.cap, b1, fun ad ha => (World.ownsRow.lt hl.own ad.block (by rw [ha]; exact own_at_head (by have h9 := hl.own; rw [ha] at h9; exact h9) rfl)).1⟩
  clear hsc hl b1 hn
  go_upto_region 5 with fail
  obtain ⟨W2, b, hW2, hb, bW2, hs2⟩ := layR w1 46 #[.slice ao n cp, .int .i64 0]
  have HR : Hid (Rst W2 b ao n cp ts 0 ∧ Below W0.heap.size W0 W2 ∧ m0 < b ∧ Box6 W2 m0 28 (.int .i64 0) (.string ⟨#[]⟩) (.int .i64 0) (.int .u64 0) (.slice none 0 0) (.int .i64 0)) := by
    have hbx := Box2.new w1 46 (.slice ao n cp) (.int .i64 0)
    rw [hW2, hb] at hbx
    have h02 : Below W0.heap.size W0 W2 := HL.out.2.2.2.1.trans (bW2.mono HL.out.2.2.2.1.size)
    refine ⟨⟨hbx, HL.out.1.below bW2, HL.out.2.1, Nat.zero_le _, HL.out.2.2.1, by omega, ?_, H.out.2.2.1.below h02, ?_, HS.out.1.good⟩, h02, ?_, HX.out.below h02⟩
    · intro h0 a ha
      obtain ⟨tb, off, e, hlt, _⟩ := HL.out.1 (by rw [HL.out.2.1]; exact h0)
      rw [e] at ha
      cases ha
      show tb < b
      omega
    · have := H.out.2.2.1.lt
      have := HL.out.2.2.2.1.size
      omega
    · have := HL.out.2.2.2.1.size
      have := H.out.2.2.2
      omega
  clear bW2 hs2
  rw [hW2, hb]
  clear hW2 hb
  go_wp2_with fail
  refine (reads (E := s.size) W2 HR.out.1).mono ?_
  rintro e w3 ⟨o, y, i, j, a, l, q, p, f, k, rfl, _, hR3, hT3, hO3⟩
  obtain ⟨W4, m4, hW4, hm4, hx4, bW4, b4, hB4, hlt4⟩ := lay6 (Below.refl _ w3) (Nat.le_refl _) 28 (.int .i64 o) (.string y) (.int .i64 i) (.int .u64 j) (.slice a l q) (.int .i64 p)
  have hs3 := hT3.size
  have hm0b : ¬ m0 = b := by have := HR.out.2.2.1; omega
  have hm04 : ¬ m0 = m4 := by have := HR.out.2.2.1; have := HR.out.1.box.lt; omega
  have hm40 : ¬ m4 = m0 := by omega
  have hbm0 : ¬ b = m0 := by omega
  have r4 := hR3.below bW4
  have y4 := (HR.out.2.2.2.turned hT3 hm0b).below bW4
  obtain ⟨c0, c1, _⟩ := r4.cells
  obtain ⟨d0, d1, d2, d3, d4, d5⟩ := hx4.cells
  obtain ⟨p0, p1, p2, p3, p4, p5⟩ := y4.cells
  obtain ⟨q0, q1, q2, q3, q4, q5⟩ := y4.thaw
  have hkn := r4.le
  have hBW : Below w.heap.size w W4 := by
    have h1 : Below w.heap.size w W2 := H.out.1.trans (HR.out.2.1.mono H.out.1.size)
    have h2 : Tn b W2 W4 := Tn.trans hT3 (Tn.of bW4)
    exact h1.trans (Turned.below h2 (B := w.heap.size) h1.size (fun g hg e => by have := HR.out.2.2.1; have := H.out.2.1; omega))
  have H4 : Hid (Rst W4 b ao n cp ts k ∧ Below w.heap.size w W4 ∧ Oc s.size (.row 1) ts 0 (Bt W2.heap.size w3.heap.size) ⟨o, y.data.toList, i, j, a, l, q, p⟩ f k w3 ∧ Below w3.heap.size w3 W4) := ⟨r4, hBW, hO3, bW4⟩
  have HX4 : Hid (Box6 W4 m4 28 (.int .i64 o) (.string y) (.int .i64 i) (.int .u64 j) (.slice a l q) (.int .i64 p) ∧ Box6 W4 m0 28 (.int .i64 0) (.string ⟨#[]⟩) (.int .i64 0) (.int .u64 0) (.slice none 0 0) (.int .i64 0)) := ⟨hx4, y4⟩
  clear r4 y4 hBW hR3 hT3 hO3 hx4 b4 bW4
  go_upto_region 6 with fail
  clear hW4 hm4
  by_cases hlt : k < n
  · have hki : (k : Int) < (n : Int) := by omega
    have hk0 : (0 : Int) ≤ (k : Int) := by omega
    obtain ⟨t, ht⟩ : ∃ t, ts[k]? = some t := ⟨_, List.getElem?_eq_getElem (by rw [H4.out.1.len]; exact hlt)⟩
    obtain ⟨tb, off, rfl, htb⟩ := H4.out.1.rd.some_of ht
    obtain ⟨_, k0, k1, k2, k3, k4⟩ := H4.out.1.rd.tok ht
    have hmt : ¬ m0 = tb := by
      have h9 : W0.heap.size ≤ tb := HL.out.2.2.2.2 _ rfl
      have := H.out.2.2.2
      omega
    have htm : ¬ tb = m0 := fun e => hmt e.symm
    have HT : Hid (ts[k]? = some t) := ht
    clear ht
    go_upto_region 7 with fail
    go_region
    go_wp2_with fail
    have hdr : ts.drop k = t :: ts.drop (k + 1) := by
      obtain ⟨hq, e⟩ := List.getElem?_eq_some_iff.1 HT.out
      rw [List.drop_eq_getElem_cons hq, e]
    have hbel := (belowS6 H4.out.2.1 (g := m0) (by have := H.out.2.1; omega) (.int .i64 0) (.string ⟨#[]⟩) (.int .i64 0) (.int .u64 0) (.slice none 0 0) (.int .i64 0)).drew
    rcases H4.out.2.2.1 with ⟨nd, _, h1, _⟩ | ⟨h1, _⟩
    · refine bodyPost_ret (v := .tuple #[.agg #[.int .i64 0, .string ⟨#[]⟩, .int .i64 0, .int .u64 0, .slice none 0 0, .int .i64 0], .int .i64 t.pos, .int .i64 31]) ?_ rfl ⟨⟨0, [], 0, 0, none, 0, 0, 0⟩, t.pos, 31, _, rfl, hbel, h1, .inr ⟨rfl, .inr (.inl ⟨nd, t, _, by rw [hdr], rfl, rfl⟩)⟩⟩
      simp [results, Tryz.f5]
      go_simp
    · refine bodyPost_ret (v := .tuple #[.agg #[.int .i64 0, .string ⟨#[]⟩, .int .i64 0, .int .u64 0, .slice none 0 0, .int .i64 0], .int .i64 t.pos, .int .i64 31]) ?_ rfl ⟨⟨0, [], 0, 0, none, 0, 0, 0⟩, t.pos, 31, _, rfl, hbel, h1, .inr ⟨rfl, .inr (.inr ⟨by rw [hdr]; rfl, rfl⟩)⟩⟩
      simp [results, Tryz.f5]
      go_simp
  · obtain rfl : k = n := by omega
    have hnil : ts.drop k = [] := List.drop_eq_nil_of_le (by rw [H4.out.1.len]; exact Nat.le_refl _)
    cases f with
    | false =>
      have HG : Hid (Gm s.size (.row 1) ts (.err s.size)) := by
        show Gm s.size (.row 1) ts (.err s.size)
        rcases H4.out.2.2.1 with ⟨nd, q, _⟩ | ⟨h1, _⟩
        · cases q
        · rw [hnil] at h1
          exact h1
      clear hnil
      go_wp2_with fail
      have hbel := belowS6 H4.out.2.1 (g := m0) (by have := H.out.2.1; omega) (.int .i64 0) (.string ⟨#[]⟩) (.int .i64 0) (.int .u64 0) (.slice none 0 0) (.int .i64 0)
      refine bodyPost_ret (v := .tuple #[.agg #[.int .i64 0, .string ⟨#[]⟩, .int .i64 0, .int .u64 0, .slice none 0 0, .int .i64 0], .int .i64 s.size, .int .i64 31]) ?_ rfl ⟨⟨0, [], 0, 0, none, 0, 0, 0⟩, s.size, 31, _, rfl, hbel, HG.out, .inr ⟨rfl, .inr (.inr ⟨rfl, rfl⟩)⟩⟩
      simp [results, Tryz.f5]
      go_simp
    | true =>
      obtain ⟨nd, hgm, hnd⟩ : ∃ nd, Gm s.size (.row 1) ts (.ok nd []) ∧ NdIn (Bt W2.heap.size w3.heap.size) w3 ⟨o, y.data.toList, i, j, a, l, q, p⟩ nd := by
        rcases H4.out.2.2.1 with ⟨nd, _, h1, h2⟩ | ⟨_, h2⟩
        · rw [hnil] at h1
          exact ⟨nd, h1, h2⟩
        · rw [hnil] at h2
          cases h2 rfl
      have hwt := hgm.weight nd [] rfl
      have hsz := nd.wt_sz
      have hn4 := hnd.below H4.out.2.2.2
      have hdp := depth_any nd (by have := HS.out.2; simp only [xw] at hwt; omega) _ W4 _ hn4
      simp only [NV.val, ba_toList] at hdp
      have HG : Hid (Gm s.size (.row 1) ts (.ok nd []) ∧ NdIn (Bt W2.heap.size w3.heap.size) W4 ⟨o, y.data.toList, i, j, a, l, q, p⟩ nd) := ⟨hgm, hn4⟩
      have hdl : nd.dep ≤ 100000 := by
        have := dep_sz nd.kids
        have := HS.out.2
        simp only [xw] at hwt
        simp only [Nd.dep, Nd.sz] at hsz ⊢
        omega
      clear hnil hgm hnd hwt hsz hn4
      go_wp2_with fail
      refine hdp.mono ?_
      rintro e w5 ⟨rfl, b5⟩
      have x5 := And.intro ((show Box6 W4 m4 _ _ _ _ _ _ _ from HX4.out.1).below b5) ((show Box6 W4 m0 _ _ _ _ _ _ _ from HX4.out.2).below b5)
      obtain ⟨d0, d1, d2, d3, d4, d5⟩ := x5.1.cells
      obtain ⟨p0, p1, p2, p3, p4, p5⟩ := x5.2.cells
      obtain ⟨q0, q1, q2, q3, q4, q5⟩ := x5.2.thaw
      have HB5 : Hid (Below W4.heap.size W4 w5 ∧ Below w.heap.size w w5) := ⟨b5, H4.out.2.1.trans (b5.mono H4.out.2.1.size)⟩
      clear x5 b5 hdp
      by_cases h24 : 24 < nd.dep
      · have h24i : (24 : Int) < (nd.dep : Nat) := by omega
        go_wp2_with fail
        have hbel := belowS6 HB5.out.2 (g := m0) (by have := H.out.2.1; omega) (.int .i64 0) (.string ⟨#[]⟩) (.int .i64 0) (.int .u64 0) (.slice none 0 0) (.int .i64 0)
        refine bodyPost_ret (v := .tuple #[.agg #[.int .i64 0, .string ⟨#[]⟩, .int .i64 0, .int .u64 0, .slice none 0 0, .int .i64 0], .int .i64 0, .int .i64 32]) ?_ rfl ⟨⟨0, [], 0, 0, none, 0, 0, 0⟩, 0, 32, _, rfl, hbel, HG.out.1, .inr ⟨rfl, .inl ⟨nd, rfl, h24, rfl, rfl⟩⟩⟩
        simp [results, Tryz.f5]
        go_simp
      · have h24i : ¬ (24 : Int) < (nd.dep : Nat) := by omega
        go_wp2_with fail
        have hbel := belowS6 HB5.out.2 (g := m0) (by have := H.out.2.1; omega) (.int .i64 o) (.string y) (.int .i64 i) (.int .u64 j) (.slice a l q) (.int .i64 p)
        refine bodyPost_ret (v := .tuple #[.agg #[.int .i64 o, .string y, .int .i64 i, .int .u64 j, .slice a l q, .int .i64 p], .int .i64 0, .int .i64 0]) ?_ rfl ⟨⟨o, y.data.toList, i, j, a, l, q, p⟩, 0, 0, _, by simp only [NV.val, ba_toList], hbel, HG.out.1, .inl ⟨nd, rfl, by omega, rfl, rfl, ?_⟩⟩
        · simp [results, Tryz.f5]
          go_simp
        · refine ((HG.out.2.below HB5.out.1).six (g := m0) (fun q => by have := q.1; have := HR.out.2.1.size; have := H.out.2.2.2; omega) _ _ _ _ _ _).mono (fun g hg => ⟨?_, ?_⟩)
          · have := hg.1; have := HR.out.2.1.size; have := H.out.1.size; omega
          · rw [six_size]
            have := hg.2; have := HB5.out.1.size; have := H4.out.2.2.2.size; omega

set_option maxHeartbeats 800000 in
set_option maxRecDepth 100000 in
/-- A text that is too long. -/
theorem parse_long (s : ByteArray) (hm : s.size ≤ 9223372036854775807) (h : 1024 < s.size) (w : World) :
    Calls Tryz.prog 5 #[.string s] w fun e w' => e = .returned (.tuple #[(⟨0, [], 0, 0, none, 0, 0, 0⟩ : NV).val, .int .i64 0, .int .i64 4]) ∧ Below w.heap.size w w' := by
  obtain ⟨W0, m0, hW0, hm0, hx0, bW0, _, hB0, hlt0⟩ := lay6 (Below.refl _ w) (Nat.le_refl _) 28 (.int .i64 0) (.string ⟨#[]⟩) (.int .i64 0) (.int .u64 0) (.slice none 0 0) (.int .i64 0)
  have hsc := scan_long s hm h W0
  obtain ⟨p0, p1, p2, p3, p4, p5⟩ := hx0.cells
  obtain ⟨q0, q1, q2, q3, q4, q5⟩ := hx0.thaw
  have H : Hid (Below w.heap.size w W0 ∧ w.heap.size = m0) := ⟨bW0, hm0⟩
  clear bW0 hx0
  go_enter Tryz.func5, Tryz.ntmps5
  go_upto_region 1 with fail
  clear hW0 hm0
  go_wp2_with fail
  refine hsc.mono ?_
  rintro e w1 ⟨rfl, hw1⟩
  rw [hw1]
  clear hsc hw1
  go_wp2_with fail
  have hbel := belowS6 H.out.1 (g := m0) (by have := H.out.2; omega) (.int .i64 0) (.string ⟨#[]⟩) (.int .i64 0) (.int .u64 0) (.slice none 0 0) (.int .i64 0)
  refine bodyPost_ret (v := .tuple #[.agg #[.int .i64 0, .string ⟨#[]⟩, .int .i64 0, .int .u64 0, .slice none 0 0, .int .i64 0], .int .i64 0, .int .i64 4]) ?_ rfl ⟨rfl, hbel⟩
  simp [results, Tryz.f5]
  go_simp

set_option maxHeartbeats 800000 in
set_option maxRecDepth 100000 in
/-- A text with something that is no token. -/
theorem parse_bad (s : ByteArray) (hs : s.size ≤ 1024) {ts : List Tk} {p : Nat} (h : Sc 0 s.data.toList ts (some p)) (w : World) (hg : Gl w) :
    Calls Tryz.prog 5 #[.string s] w fun e w' => e = .returned (.tuple #[(⟨0, [], 0, 0, none, 0, 0, 0⟩ : NV).val, .int .i64 p, .int .i64 30]) ∧ Below w.heap.size w w' := by
  obtain ⟨W0, m0, hW0, hm0, hx0, bW0, _, hB0, hlt0⟩ := lay6 (Below.refl _ w) (Nat.le_refl _) 28 (.int .i64 0) (.string ⟨#[]⟩) (.int .i64 0) (.int .u64 0) (.slice none 0 0) (.int .i64 0)
  have hsc := scan_known s hs h W0 (hg.below bW0)
  simp only [plT, cdT, outT_some, List.length_nil] at hsc
  have H : Hid (Below w.heap.size w W0 ∧ w.heap.size = m0) := ⟨bW0, hm0⟩
  have HX : Hid (Box6 W0 m0 28 (.int .i64 0) (.string ⟨#[]⟩) (.int .i64 0) (.int .u64 0) (.slice none 0 0) (.int .i64 0)) := hx0
  clear bW0 hx0 hg h
  go_enter Tryz.func5, Tryz.ntmps5
  go_upto_region 1 with fail
  clear hW0 hm0
  go_wp2_with fail
  refine hsc.mono ?_
  rintro e w1 ⟨ao, cp, rfl, _, b1⟩
  have x1 := HX.out.below b1
  obtain ⟨p0, p1, p2, p3, p4, p5⟩ := x1.cells
  obtain ⟨q0, q1, q2, q3, q4, q5⟩ := x1.thaw
  have HB : Hid (Below w.heap.size w w1) := H.out.1.trans (b1.mono H.out.1.size)
  clear hsc b1 x1
  go_wp2_with fail
  have hbel := belowS6 HB.out (g := m0) (by have := H.out.2; omega) (.int .i64 0) (.string ⟨#[]⟩) (.int .i64 0) (.int .u64 0) (.slice none 0 0) (.int .i64 0)
  refine bodyPost_ret (v := .tuple #[.agg #[.int .i64 0, .string ⟨#[]⟩, .int .i64 0, .int .u64 0, .slice none 0 0, .int .i64 0], .int .i64 p, .int .i64 30]) ?_ rfl ⟨rfl, hbel⟩
  simp [results, Tryz.f5]
  go_simp

end Go.Proofs.YtijchmcajhdcoaaGreatDoor
