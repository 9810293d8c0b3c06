import Derived.Test.YtdgdckmhmmigkaaGreatDoorBAnz
import Derived.Test.YtdgdckmhmmigkaaGreatDoorCChk
/-!
  ParseBack by a contract. No condition but that the program's variables hold what its text lays there.
-/
namespace Go.Proofs.YtdgdckmhmmigkaaGreatDoor
open Go.RowKit

/-- Every text has its tokens, or a place where none begins. -/
theorem sc_some : ∀ (n : Nat) (l : Bs) (p : Nat), l.length ≤ n → ∃ ts e, Sc p l ts e
  | _, [], p, _ => ⟨[], none, .done p⟩
  | 0, c :: r, p, h => by simp at h
  | n + 1, c :: r, p, h => by
    have hr : r.length ≤ n := by simpa using h
    cases hb : isBl c with
    | true =>
      obtain ⟨ts, e, k⟩ := sc_some n r (p + 1) hr
      exact ⟨ts, e, .skip hb k⟩
    | false =>
      rcases Nat.eq_zero_or_pos (tok1 (c :: r)).2 with h0 | h0
      · exact ⟨[], some p, .bad hb h0⟩
      · obtain ⟨ts, e, k⟩ := sc_some n ((c :: r).drop (tok1 (c :: r)).2) (p + (tok1 (c :: r)).2) (by rw [List.length_drop, List.length_cons]; omega)
        exact ⟨_, e, .tok hb rfl h0 k⟩

theorem fps_e : ∀ f : Fo, fps f.e = fps f
  | .nil => rfl
  | .cons op text num id kids pos next => by simp only [Fo.e, fps, fps_e kids, fps_e next]
theorem ps_same {n m : Nd} (h : n.e = m.e) : n.ps = m.ps := by
  have a : ∀ k : Nd, k.e.ps = k.ps := fun k => by
    show pcs k.op k.text k.num k.id (fps k.kids.e) = pcs k.op k.text k.num k.id (fps k.kids)
    rw [fps_e]
  rw [← a n, ← a m, h]

/-- What Parse answers of whatever text. -/
def Pw (l : Bs) (Q : Nat → Prop) (v : NV) (a c : Int) (w' : World) : Prop :=
  (∃ ts nd, l.length ≤ 1024 ∧ Sc 0 l ts none ∧ Gm l.length (.row 1) ts (.ok nd []) ∧ nd.dep ≤ 24 ∧ a = 0 ∧ c = 0 ∧ NdIn Q w' v nd) ∨ (v = nv0 ∧ (c = 4 ∨ c = 30 ∨ c = 31 ∨ c = 32))
theorem parse_any (s : ByteArray) (hm : s.size ≤ 9223372036854775807) (w : World) (hg : Gl w) (hi : Inf w) :
    Calls Tryz.prog 16 #[.string s] w fun e w' => ∃ (v : NV) (a c : Int), e = .returned (.tuple #[v.val, .int .i64 a, .int .i64 c]) ∧ Below w.heap.size w w' ∧ Pw s.data.toList (Bt w.heap.size w'.heap.size) v a c w' := by
  by_cases hs : s.size ≤ 1024
  · obtain ⟨ts, e, h⟩ := sc_some s.data.toList.length s.data.toList 0 (Nat.le_refl _)
    cases e with
    | none =>
      refine (parse_ans s hs h w hg hi).mono ?_
      rintro e w' ⟨v, a, c, rfl, hb, hp⟩
      refine ⟨v, a, c, rfl, hb, ?_⟩
      rcases hp.tells with ⟨nd, h1, h2, h3, h4, h5⟩ | ⟨h1, h2⟩
      · exact .inl ⟨ts, nd, by rw [← bsize]; exact hs, h, by rw [← bsize]; exact h5, h4, h1, h2, h3⟩
      · exact .inr ⟨h1, .inr (.inr h2)⟩
    | some p =>
      refine (parse_bad s hs h w hg).mono ?_
      rintro e w' ⟨rfl, hb⟩
      exact ⟨nv0, p, 30, rfl, hb, .inr ⟨rfl, .inr (.inl rfl)⟩⟩
  · refine (parse_long s hm (by omega) w).mono ?_
    rintro e w' ⟨rfl, hb⟩
    exact ⟨nv0, 0, 4, rfl, hb, .inr ⟨rfl, .inl rfl⟩⟩

abbrev nd0 : Nd := ⟨0, [], 0, 0, .nil, 0⟩
theorem ndin0 (Q : Nat → Prop) (w : World) : NdIn Q w nv0 nd0 := ⟨rfl, rfl, rfl, rfl, rfl, rfl, Nat.le_refl _, [], RdG.nil _ _ _, fun q => by simp at q, rfl⟩

end Go.Proofs.YtdgdckmhmmigkaaGreatDoor

/-!
  The statements' awake by a contract: what the document's examples come to. No condition but that the program's variables hold what its text lays there.
-/
namespace Go.Proofs.YtdgdckmhmmigkaaGreatDoor
open Go.RowKit

set_option maxHeartbeats 1600000 in
set_option maxRecDepth 100000 in
/-- of, of a text that can be read. -/
theorem of_ok (s : ByteArray) (hs : s.size ≤ 1024) {ts : List Tk} (h : Sc 0 s.data.toList ts none) {nd : Nd} (hr : rn s.size [] [] true ts = .ok nd) (hd : nd.dep ≤ 24) {r : Int × Int × Int} (hc : nd.ck = r) (w : World) (hg : Gl w) (hi : Inf w) (hf : Fns w) :
    Calls Tryz.prog 10 #[.string s] w fun e w' => e = .returned (ckV r) ∧ Below w.heap.size w w' := by
  have hp := parse_ans s hs h w hg hi
  have H : Hid (rn s.size [] [] true ts = .ok nd ∧ nd.dep ≤ 24 ∧ nd.ck = r ∧ Fns w ∧ Sc 0 s.data.toList ts none ∧ s.size ≤ 1024) := ⟨hr, hd, hc, hf, h, hs⟩
  clear hr hd hc hg hi hf h
  go_enter Tryz.func10, Tryz.ntmps10
  go_wp2_with fail
  refine hp.mono ?_
  rintro e w1 ⟨⟨o, y, i, j, a, l, q, p⟩, at1, c1, rfl, b1, hp1⟩
  obtain ⟨rfl, rfl, hn1, hgm⟩ := hp1.okay H.out.1 H.out.2.1
  obtain ⟨_, _, hsz⟩ := read_wf H.out.2.2.2.2.1 (by rw [← bsize]; exact H.out.2.2.2.2.2) hgm
  obtain ⟨W1, m1, hW1, hm1, hx1, bW1, c1, hB1, hlt1⟩ := lay6 b1 b1.size 50 (.int .i64 o) (.string ⟨y.toArray⟩) (.int .i64 i) (.int .u64 j) (.slice a l q) (.int .i64 p)
  obtain ⟨x0, x1, x2, x3, x4, x5⟩ := hx1.cells
  have hck := tcheck_any nd (by omega) _ W1 _ (H.out.2.2.2.1.below bW1) (hn1.below c1)
  rw [H.out.2.2.1] at hck
  have HC : Hid (Calls Tryz.prog 17 #[.agg #[.int .i64 o, .string ⟨y.toArray⟩, .int .i64 i, .int .u64 j, .slice a l q, .int .i64 p]] W1 fun e w' => e = .returned (ckV r) ∧ Below W1.heap.size W1 w') := hck
  have HB : Hid (Below w.heap.size w W1) := bW1
  clear hp hp1 hn1 hgm b1 c1 hx1 bW1 hck hsz
  go_upto_region 2 with fail
  clear hW1 hm1
  go_wp2_with (go_at_call 17; refine HC.out.mono ?_; rintro e w4 ⟨rfl, b4⟩; simp only [ckV])
  refine bodyPost_ret (results_tmp3 rfl _ _ _) rfl ?_
  exact ⟨rfl, HB.out.trans (b4.mono HB.out.size)⟩

def tsH : List Tk := [⟨1, [104, 101, 97, 100, 115], 0, 0, 0⟩, ⟨5, [40], 0, 0, 5⟩, ⟨1, [109, 97, 105, 110], 0, 0, 6⟩, ⟨5, [124], 0, 0, 11⟩, ⟨2, [], 3, 0, 13⟩, ⟨5, [41], 0, 0, 14⟩]
def ndH : Nd := callN ⟨1, [104, 101, 97, 100, 115], 0, 0, 0⟩ [binN ⟨5, [124], 0, 0, 11⟩ (leafN ⟨1, [109, 97, 105, 110], 0, 0, 6⟩) (leafN ⟨2, [], 3, 0, 13⟩)]
theorem scH : Sc 0 [104, 101, 97, 100, 115, 40, 109, 97, 105, 110, 32, 124, 32, 51, 41] tsH none :=
  .tok (n := 5) rfl rfl (by decide) (.tok (n := 1) rfl rfl (by decide) (.tok (n := 4) rfl rfl (by decide) (.skip rfl (.tok (n := 1) rfl rfl (by decide) (.skip rfl (.tok (n := 1) rfl rfl (by decide) (.tok (n := 1) rfl rfl (by decide) (.done 15))))))))
theorem rnH : rn 15 [] [] true tsH = .ok ndH := by kernel_rfl
theorem depH : ndH.dep ≤ 24 := by decide
theorem ckH : ndH.ck = (0, 13, 35) := by kernel_rfl
def tsF : List Tk := [⟨1, [102], 0, 0, 0⟩, ⟨5, [40], 0, 0, 1⟩, ⟨2, [], 3, 0, 2⟩, ⟨5, [124], 0, 0, 3⟩, ⟨1, [97], 0, 0, 4⟩, ⟨5, [41], 0, 0, 5⟩]
def ndF : Nd := callN ⟨1, [102], 0, 0, 0⟩ [binN ⟨5, [124], 0, 0, 3⟩ (leafN ⟨2, [], 3, 0, 2⟩) (leafN ⟨1, [97], 0, 0, 4⟩)]
theorem scF : Sc 0 [102, 40, 51, 124, 97, 41] tsF none :=
  .tok (n := 1) rfl rfl (by decide) (.tok (n := 1) rfl rfl (by decide) (.tok (n := 1) rfl rfl (by decide) (.tok (n := 1) rfl rfl (by decide) (.tok (n := 1) rfl rfl (by decide) (.tok (n := 1) rfl rfl (by decide) (.done 6))))))
theorem rnF : rn 6 [] [] true tsF = .ok ndF := by kernel_rfl
theorem depF : ndF.dep ≤ 24 := by decide
theorem ckF : ndF.ck = (0, 0, 33) := by kernel_rfl
def tsA : List Tk := [⟨1, [97, 110, 99, 101, 115, 116, 111, 114, 115], 0, 0, 0⟩, ⟨5, [40], 0, 0, 9⟩, ⟨1, [97], 0, 0, 10⟩, ⟨5, [44], 0, 0, 11⟩, ⟨1, [99, 111, 117, 110, 116], 0, 0, 13⟩, ⟨5, [40], 0, 0, 18⟩, ⟨1, [98], 0, 0, 19⟩, ⟨5, [41], 0, 0, 20⟩, ⟨5, [41], 0, 0, 21⟩]
def ndA : Nd := callN ⟨1, [97, 110, 99, 101, 115, 116, 111, 114, 115], 0, 0, 0⟩ [leafN ⟨1, [97], 0, 0, 10⟩, callN ⟨1, [99, 111, 117, 110, 116], 0, 0, 13⟩ [leafN ⟨1, [98], 0, 0, 19⟩]]
theorem scA : Sc 0 [97, 110, 99, 101, 115, 116, 111, 114, 115, 40, 97, 44, 32, 99, 111, 117, 110, 116, 40, 98, 41, 41] tsA none :=
  .tok (n := 9) rfl rfl (by decide) (.tok (n := 1) rfl rfl (by decide) (.tok (n := 1) rfl rfl (by decide) (.tok (n := 1) rfl rfl (by decide) (.skip rfl (.tok (n := 5) rfl rfl (by decide) (.tok (n := 1) rfl rfl (by decide) (.tok (n := 1) rfl rfl (by decide) (.tok (n := 1) rfl rfl (by decide) (.tok (n := 1) rfl rfl (by decide) (.done 22))))))))))
theorem rnA : rn 22 [] [] true tsA = .ok ndA := by kernel_rfl
theorem depA : ndA.dep ≤ 24 := by decide
theorem ckA : ndA.ck = (1, 0, 0) := by kernel_rfl
def tsC : List Tk := [⟨1, [99, 111, 117, 110, 116], 0, 0, 0⟩, ⟨5, [40], 0, 0, 5⟩, ⟨1, [97], 0, 0, 6⟩, ⟨5, [41], 0, 0, 7⟩]
def ndC : Nd := callN ⟨1, [99, 111, 117, 110, 116], 0, 0, 0⟩ [leafN ⟨1, [97], 0, 0, 6⟩]
theorem scC : Sc 0 [99, 111, 117, 110, 116, 40, 97, 41] tsC none :=
  .tok (n := 5) rfl rfl (by decide) (.tok (n := 1) rfl rfl (by decide) (.tok (n := 1) rfl rfl (by decide) (.tok (n := 1) rfl rfl (by decide) (.done 8))))
theorem rnC : rn 8 [] [] true tsC = .ok ndC := by kernel_rfl
theorem depC : ndC.dep ≤ 24 := by decide
theorem ckC : ndC.ck = (2, 0, 0) := by kernel_rfl

set_option maxHeartbeats 3200000 in
set_option maxRecDepth 100000 in
theorem awake24 (w : World) (hg : Gl w) (hi : Inf w) (hf : Fns w) : Calls Tryz.prog 4 #[] w fun e w' => e = .returned (.bool true) ∧ Below w.heap.size w w' := by
  have h0 : Hid (∀ u, Below w.heap.size w u → Calls Tryz.prog 10 #[.string ⟨#[104, 101, 97, 100, 115, 40, 109, 97, 105, 110, 32, 124, 32, 51, 41]⟩] u fun e w' => e = .returned (ckV (0, 13, 35)) ∧ Below u.heap.size u w') := fun u b => of_ok ⟨#[104, 101, 97, 100, 115, 40, 109, 97, 105, 110, 32, 124, 32, 51, 41]⟩ (by decide) scH rnH depH ckH u (hg.below b) (hi.below b) (hf.below b)
  have h1 : Hid (∀ u, Below w.heap.size w u → Calls Tryz.prog 10 #[.string ⟨#[102, 40, 51, 124, 97, 41]⟩] u fun e w' => e = .returned (ckV (0, 0, 33)) ∧ Below u.heap.size u w') := fun u b => of_ok ⟨#[102, 40, 51, 124, 97, 41]⟩ (by decide) scF rnF depF ckF u (hg.below b) (hi.below b) (hf.below b)
  have h2 : Hid (∀ u, Below w.heap.size w u → Calls Tryz.prog 10 #[.string ⟨#[97, 110, 99, 101, 115, 116, 111, 114, 115, 40, 97, 44, 32, 99, 111, 117, 110, 116, 40, 98, 41, 41]⟩] u fun e w' => e = .returned (ckV (1, 0, 0)) ∧ Below u.heap.size u w') := fun u b => of_ok ⟨#[97, 110, 99, 101, 115, 116, 111, 114, 115, 40, 97, 44, 32, 99, 111, 117, 110, 116, 40, 98, 41, 41]⟩ (by decide) scA rnA depA ckA u (hg.below b) (hi.below b) (hf.below b)
  have h3 : Hid (∀ u, Below w.heap.size w u → Calls Tryz.prog 10 #[.string ⟨#[99, 111, 117, 110, 116, 40, 97, 41]⟩] u fun e w' => e = .returned (ckV (2, 0, 0)) ∧ Below u.heap.size u w') := fun u b => of_ok ⟨#[99, 111, 117, 110, 116, 40, 97, 41]⟩ (by decide) scC rnC depC ckC u (hg.below b) (hi.below b) (hf.below b)
  clear hg hi hf
  go_enter Tryz.func4, Tryz.ntmps4
  go_wp2_with fail
  refine (h0.out w (Below.refl _ _)).mono ?_
  rintro e w1 ⟨rfl, b1⟩
  have B1 : Hid (Below w.heap.size w w1) := b1
  clear b1
  simp only [ckV]
  go_wp2_with fail
  refine (h1.out w1 B1.out).mono ?_
  rintro e w2 ⟨rfl, b2⟩
  have B2 : Hid (Below w.heap.size w w2) := B1.out.trans (b2.mono B1.out.size)
  clear b2
  simp only [ckV]
  go_wp2_with fail
  refine (h2.out w2 B2.out).mono ?_
  rintro e w3 ⟨rfl, b3⟩
  have B3 : Hid (Below w.heap.size w w3) := B2.out.trans (b3.mono B2.out.size)
  clear b3
  simp only [ckV]
  go_wp2_with fail
  refine (h3.out w3 B3.out).mono ?_
  rintro e w4 ⟨rfl, b4⟩
  simp only [ckV]
  go_wp2_with fail
  go_ret
  exact ⟨rfl, B3.out.trans (b4.mono B3.out.size)⟩

end Go.Proofs.YtdgdckmhmmigkaaGreatDoor
