import Derived.Test.YtdgdckmhmmigkaaGreatDoorJTab
import Derived.Test.YtdgdckmhmmigkaaGreatDoorBGo
/-!
  The document's table of functions by contracts (among, Names, takes), and that it is the program's. No condition.
-/
namespace Go.Proofs.YtdgdckmhmmigkaaGreatDoor
open Go.RowKit

/-- The names of all functions, rising. -/
def rnames : List Bs := [[97, 108, 108], [97, 110, 99, 101, 115, 116, 111, 114, 115], [98, 97, 115, 101, 115], [98, 101, 102, 111, 114, 101], [99, 104, 105, 108, 100, 114, 101, 110], [99, 111, 109, 109, 111, 110], [99, 111, 117, 110, 116], [100, 101, 115, 99, 101, 110, 100, 97, 110, 116, 115], [104, 101, 97, 100, 115], [108, 97, 116, 101, 115, 116], [109, 101, 114, 103, 101, 115], [110, 111, 110, 101], [112, 97, 114, 101, 110, 116, 115], [114, 101, 102], [114, 101, 102, 115], [114, 111, 111, 116, 115], [115, 105, 110, 99, 101], [116, 97, 103], [116, 97, 103, 115], [116, 111, 117, 99, 104, 105, 110, 103], [117, 110, 105, 111, 110]]
def nAll : List Bs := [[97, 108, 108], [110, 111, 110, 101], [114, 101, 102, 115], [116, 97, 103, 115]]
def nLat : List Bs := [[108, 97, 116, 101, 115, 116], [98, 101, 102, 111, 114, 101], [115, 105, 110, 99, 101]]
/-- What a function takes. -/
def rtk (name : Bs) (n : Nat) : List Int × Bool :=
  if name ∈ nAll then ([], n == 0) else if name = [114, 101, 102] ∨ name = [116, 97, 103] then ([3], n == 1) else
  if name = [97, 110, 99, 101, 115, 116, 111, 114, 115] then ([1, 2], n == 1 || n == 2) else if name = [116, 111, 117, 99, 104, 105, 110, 103] then ([1, 3], n == 2) else
  if name ∈ nLat then ([1, 2], n == 2) else if name = [117, 110, 105, 111, 110] ∨ name = [99, 111, 109, 109, 111, 110] then (List.replicate n 1, decide (1 ≤ n)) else ([1], n == 1)

theorem fgo_no (name : Bs) (n : Int) (h : name ∉ rnames) : fgo name n ftab = (fr0, 33) := by
  simp only [rnames, List.mem_cons, List.not_mem_nil, or_false, not_or] at h
  simp [fgo, ftab, fT0, fT1, fT2, fT3, fT4, fT5, fT6, fT7, h]
section
variable {name : Bs} {n : Nat}
/-- What is to be shown of a name. -/
def TabOk (name : Bs) (n : Nat) : Prop := ((rtk name n).2 = false → (fgo name n ftab).2 = 34) ∧
    ((rtk name n).2 = true → (fgo name n ftab).2 = 0 ∧ (fgo name n ftab).1.comes = (if name = [99, 111, 117, 110, 116] then 2 else 1) ∧ ∀ i, i < n → (rtk name n).1[i]? = some ((fgo name n ftab).1.at i))
theorem tab_case (f : FR) (l : List Int) (b : Bool) (h1 : fgo name n ftab = if (n : Int) < f.least ∨ f.most < (n : Int) then (fr0, 34) else (f, 0)) (h2 : rtk name n = (l, b)) (h3 : b = true ↔ ¬ ((n : Int) < f.least ∨ f.most < (n : Int)))
    (h4 : f.comes = if name = [99, 111, 117, 110, 116] then 2 else 1) (h5 : b = true → ∀ i, i < n → l[i]? = some (f.at i)) : TabOk name n := by
  unfold TabOk
  rw [h1, h2]
  cases b with
  | false =>
    have h : ¬ ¬ ((n : Int) < f.least ∨ f.most < (n : Int)) := fun q => by cases h3.2 q
    refine ⟨fun _ => ?_, fun q => (by cases q)⟩
    by_cases q : (n : Int) < f.least ∨ f.most < (n : Int)
    · rw [if_pos q]
    · exact absurd q h
  | true =>
    rw [if_neg (h3.1 rfl)]
    exact ⟨fun q => (by cases q), fun _ => ⟨rfl, h4, h5 rfl⟩⟩
theorem at_one {f : FR} {x : Int} (h : f.takes = [x]) (i : Nat) : f.at i = x := by
  unfold FR.at
  rw [h]
  show (([x] : List Int)[min i 0]?).getD 0 = x
  rw [Nat.min_zero]
  rfl
theorem at_two {f : FR} {x y : Int} (h : f.takes = [x, y]) {i : Nat} (hi : i < 2) : ([x, y] : List Int)[i]? = some (f.at i) := by
  unfold FR.at
  rw [h]
  obtain rfl | rfl : i = 0 ∨ i = 1 := by omega
  · rfl
  · rfl
theorem tab_0 (_ : True = True) (h1 : fgo name n ftab = if (n : Int) < fT0.least ∨ fT0.most < (n : Int) then (fr0, 34) else (fT0, 0)) (h2 : rtk name n = ([], n == 0)) (h4 : fT0.comes = if name = [99, 111, 117, 110, 116] then 2 else 1) : TabOk name n :=
  tab_case fT0 _ _ h1 h2 (by simp only [fT0]; simp <;> omega) h4 (by intro hb i hi; simp at hb; omega)
theorem tab_1 (_ : True = True) (h1 : fgo name n ftab = if (n : Int) < fT1.least ∨ fT1.most < (n : Int) then (fr0, 34) else (fT1, 0)) (h2 : rtk name n = ([3], n == 1)) (h4 : fT1.comes = if name = [99, 111, 117, 110, 116] then 2 else 1) : TabOk name n :=
  tab_case fT1 _ _ h1 h2 (by simp only [fT1]; simp <;> omega) h4 (by intro hb i hi; simp at hb; obtain rfl : i = 0 := (by omega); exact congrArg some (at_one (f := fT1) rfl 0).symm)
theorem tab_2 (_ : True = True) (h1 : fgo name n ftab = if (n : Int) < fT2.least ∨ fT2.most < (n : Int) then (fr0, 34) else (fT2, 0)) (h2 : rtk name n = ([1, 2], n == 1 || n == 2)) (h4 : fT2.comes = if name = [99, 111, 117, 110, 116] then 2 else 1) : TabOk name n :=
  tab_case fT2 _ _ h1 h2 (by simp only [fT2]; simp <;> omega) h4 (by intro hb i hi; simp at hb; exact at_two (f := fT2) rfl (by omega))
theorem tab_3 (_ : True = True) (h1 : fgo name n ftab = if (n : Int) < fT3.least ∨ fT3.most < (n : Int) then (fr0, 34) else (fT3, 0)) (h2 : rtk name n = ([1], n == 1)) (h4 : fT3.comes = if name = [99, 111, 117, 110, 116] then 2 else 1) : TabOk name n :=
  tab_case fT3 _ _ h1 h2 (by simp only [fT3]; simp <;> omega) h4 (by intro hb i hi; simp at hb; obtain rfl : i = 0 := (by omega); exact congrArg some (at_one (f := fT3) rfl 0).symm)
theorem tab_4 (_ : True = True) (h1 : fgo name n ftab = if (n : Int) < fT4.least ∨ fT4.most < (n : Int) then (fr0, 34) else (fT4, 0)) (h2 : rtk name n = ([1, 3], n == 2)) (h4 : fT4.comes = if name = [99, 111, 117, 110, 116] then 2 else 1) : TabOk name n :=
  tab_case fT4 _ _ h1 h2 (by simp only [fT4]; simp <;> omega) h4 (by intro hb i hi; simp at hb; exact at_two (f := fT4) rfl (by omega))
theorem tab_5 (_ : True = True) (h1 : fgo name n ftab = if (n : Int) < fT5.least ∨ fT5.most < (n : Int) then (fr0, 34) else (fT5, 0)) (h2 : rtk name n = ([1, 2], n == 2)) (h4 : fT5.comes = if name = [99, 111, 117, 110, 116] then 2 else 1) : TabOk name n :=
  tab_case fT5 _ _ h1 h2 (by simp only [fT5]; simp <;> omega) h4 (by intro hb i hi; simp at hb; exact at_two (f := fT5) rfl (by omega))
theorem tab_6 (_ : True = True) (hn : n ≤ 9223372036854775807) (h1 : fgo name n ftab = if (n : Int) < fT6.least ∨ fT6.most < (n : Int) then (fr0, 34) else (fT6, 0)) (h2 : rtk name n = (List.replicate n 1, decide (1 ≤ n))) (h4 : fT6.comes = if name = [99, 111, 117, 110, 116] then 2 else 1) : TabOk name n :=
  tab_case fT6 _ _ h1 h2 (by simp only [fT6]; simp <;> omega) h4 (by intro hb i hi; simp at hb; rw [at_one (f := fT6) rfl i]; simp [hi])
theorem tab_7 (_ : True = True) (h1 : fgo name n ftab = if (n : Int) < fT7.least ∨ fT7.most < (n : Int) then (fr0, 34) else (fT7, 0)) (h2 : rtk name n = ([1], n == 1)) (h4 : fT7.comes = if name = [99, 111, 117, 110, 116] then 2 else 1) : TabOk name n :=
  tab_case fT7 _ _ h1 h2 (by simp only [fT7]; simp <;> omega) h4 (by intro hb i hi; simp at hb; obtain rfl : i = 0 := (by omega); exact congrArg some (at_one (f := fT7) rfl 0).symm)
end
/-- The document's table is the program's. -/
theorem fgo_rtk (name : Bs) (n : Nat) (hn : n ≤ 9223372036854775807) (h : name ∈ rnames) : TabOk name n := by
  simp only [rnames, List.mem_cons, List.not_mem_nil, or_false] at h
  rcases h with rfl | rfl | rfl | rfl | rfl | rfl | rfl | rfl | rfl | rfl | rfl | rfl | rfl | rfl | rfl | rfl | rfl | rfl | rfl | rfl | rfl
  · exact tab_0 rfl (by kernel_rfl) (by kernel_rfl) (by decide)
  · exact tab_2 rfl (by kernel_rfl) (by kernel_rfl) (by decide)
  · exact tab_3 rfl (by kernel_rfl) (by kernel_rfl) (by decide)
  · exact tab_5 rfl (by kernel_rfl) (by kernel_rfl) (by decide)
  · exact tab_3 rfl (by kernel_rfl) (by kernel_rfl) (by decide)
  · exact tab_6 rfl hn (by kernel_rfl) (by kernel_rfl) (by decide)
  · exact tab_7 rfl (by kernel_rfl) (by kernel_rfl) (by decide)
  · exact tab_3 rfl (by kernel_rfl) (by kernel_rfl) (by decide)
  · exact tab_3 rfl (by kernel_rfl) (by kernel_rfl) (by decide)
  · exact tab_5 rfl (by kernel_rfl) (by kernel_rfl) (by decide)
  · exact tab_3 rfl (by kernel_rfl) (by kernel_rfl) (by decide)
  · exact tab_0 rfl (by kernel_rfl) (by kernel_rfl) (by decide)
  · exact tab_3 rfl (by kernel_rfl) (by kernel_rfl) (by decide)
  · exact tab_1 rfl (by kernel_rfl) (by kernel_rfl) (by decide)
  · exact tab_0 rfl (by kernel_rfl) (by kernel_rfl) (by decide)
  · exact tab_3 rfl (by kernel_rfl) (by kernel_rfl) (by decide)
  · exact tab_5 rfl (by kernel_rfl) (by kernel_rfl) (by decide)
  · exact tab_1 rfl (by kernel_rfl) (by kernel_rfl) (by decide)
  · exact tab_0 rfl (by kernel_rfl) (by kernel_rfl) (by decide)
  · exact tab_4 rfl (by kernel_rfl) (by kernel_rfl) (by decide)
  · exact tab_6 rfl hn (by kernel_rfl) (by kernel_rfl) (by decide)

end Go.Proofs.YtdgdckmhmmigkaaGreatDoor

/-!
  The document's table by contracts: among, Names, takes. No condition.
-/
namespace Go.Proofs.YtdgdckmhmmigkaaGreatDoor
open Go.RowKit

set_option maxHeartbeats 800000 in
set_option maxRecDepth 100000 in
theorem among_any (x : Bs) (ss : List Bs) (ao : Option Addr) (n c : Nat) (hl : ss.length = n) (hn : n ≤ 1000) (w : World) (h : Rd w ao ss) :
    Calls Tryz.prog 14 #[.string ⟨x.toArray⟩, .slice ao n c] w fun e w' => e = .returned (.bool (decide (x ∈ ss))) ∧ w' = w := by
  have H : Hid (Rd w ao ss ∧ ss.length = n) := ⟨h, hl⟩
  obtain ⟨R, hR⟩ : ∃ R, decide (x ∈ ss) = R := ⟨_, rfl⟩
  rw [hR]
  have HR : Hid (decide (x ∈ ss) = R) := hR
  clear h hl hR
  go_enter Tryz.func14, Tryz.ntmps14
  go_wp2_with fail
  go_loopg [5] n (fun g v wr => ∃ (i : Nat), v = .int .i64 i ∧ i + g = n ∧ wr = w ∧ Hid (¬ x ∈ ss.take i))
  case atStart =>
    have h1 : ¬ x ∈ ss.take 0 := by simp
    exact ⟨0, rfl, by omega, rfl, h1⟩
  case round =>
    obtain ⟨i, rfl, hi, rfl, HN⟩ := hrel
    by_cases hin : i < n
    · have hii : (i : Int) < (n : Int) := by omega
      have hil : i < ss.length := by have := H.out.2; omega
      obtain ⟨y, hye⟩ : ∃ y, el ss i = y := ⟨_, rfl⟩
      have hy : ss[i]? = some y := by rw [← hye, el_get hil, List.getElem?_eq_getElem hil]
      obtain ⟨b, off, rfl, hlt, hc⟩ := H.out.1 (by omega)
      have hcell := hc i hil
      rw [hye] at hcell
      have HT : Hid (ss.take (i + 1) = ss.take i ++ [y]) := by
        show _ = _
        rw [List.take_add_one, hy]
        rfl
      have HY : Hid (y ∈ ss) := List.mem_of_getElem? hy
      clear hy hc hil hye
      by_cases hxy : y = x
      · subst hxy
        have hxx : (y == y) = true := by simp
        go_wp2_with fail
        go_ret
        exact ⟨by rw [← HR.out, decide_eq_true HY.out]; rfl, rfl⟩
      · have hne : (y == x) = false := by rw [beq_eq_false_iff_ne]; exact hxy
        go_wp2_with fail
        go_roundg (gk - 1)
        case measure => omega
        case rel =>
          have h0 := HN.out
          have h1 : ¬ x ∈ ss.take (i + 1) := by
            rw [HT.out, List.mem_append, List.mem_singleton]
            exact fun q => q.elim h0 (fun e => hxy e.symm)
          exact ⟨i + 1, by go_num, by omega, rfl, h1⟩
    · obtain rfl : i = n := by omega
      clear hi hin
      go_wp2_with fail
      go_ret
      have h0 := HN.out
      rw [List.take_of_length_le (by have := H.out.2; omega)] at h0
      exact ⟨by rw [← HR.out, decide_eq_false h0]; rfl, rfl⟩

set_option maxHeartbeats 800000 in
set_option maxRecDepth 100000 in
theorem rnames_any (w : World) : Calls Tryz.prog 7 #[] w fun e w' => e = .returned (.slice (some ⟨w.heap.size, 0, none⟩) 21 21) ∧ Rd w' (some ⟨w.heap.size, 0, none⟩) rnames ∧ Below w.heap.size w w' := by
  go_enter Tryz.func7, Tryz.ntmps7
  go_wp2_with fail
  go_ret
  exact ⟨rfl, rd_lit w rnames 9 _ rfl, bz1 w _⟩

theorem encI_all : ∀ xs : List Int, encI.all xs = xs.map fun z => Value.int .i64 z
  | [] => rfl
  | z :: l => by
    show encI.cells z ++ encI.all l = _
    rw [encI_all l]
    rfl
/-- Numbers that are written down lie in a new row. -/
theorem ints_lie (w : World) (xs : List Int) (t : TypeId) (cs : Array Value) (hc : cs = (xs.map fun z => Value.int .i64 z).toArray) : RdG encI (w.alloc (.cells cs t)) (some ⟨w.heap.size, 0, none⟩) xs :=
  rdG_new encI w xs t cs (by rw [hc, encI_all])
theorem infoInt : (Tryz.prog.info? 3).map (fun i => (i.zero, i.size, i.bytes)) = some (some (.int .i64 0), 1, 8) := by kernel_rfl
/-- What takes answers. -/
abbrev TkO (name : Bs) (n : Nat) (w : World) (e : Ending) (w' : World) : Prop := ∃ (ao : Option Addr) (k c : Nat), e = .returned (.tuple #[.slice ao k c, .bool (rtk name n).2]) ∧ RdG encI w' ao (rtk name n).1 ∧ (rtk name n).1.length = k ∧ k ≤ c ∧ Below w.heap.size w w'

set_option maxHeartbeats 3200000 in
set_option maxRecDepth 100000 in
theorem takes_any (name : Bs) (n : Nat) (hn : n ≤ 17592186044416) (w : World) : Calls Tryz.prog 15 #[.string ⟨name.toArray⟩, .int .i64 n] w (TkO name n w) := by
  have z0 : ((n : Int) == 0) = (n == 0) := by rw [Bool.eq_iff_iff]; simp
  have z1 : ((n : Int) == 1) = (n == 1) := by rw [Bool.eq_iff_iff]; simp; omega
  have z2 : ((n : Int) == 2) = (n == 2) := by rw [Bool.eq_iff_iff]; simp; omega
  obtain ⟨W1, m1, hW1, hm1, b1, hs1⟩ := layR w 9 #[.string ⟨#[97, 108, 108]⟩, .string ⟨#[110, 111, 110, 101]⟩, .string ⟨#[114, 101, 102, 115]⟩, .string ⟨#[116, 97, 103, 115]⟩]
  have hr1 : Rd W1 (some ⟨m1, 0, none⟩) nAll := by
    rw [← hW1, ← hm1]
    exact rd_lit w nAll 9 _ rfl
  have hc1 := among_any name nAll (some ⟨m1, 0, none⟩) 4 4 rfl (by omega) W1 hr1
  have HB : Hid (Below w.heap.size w W1 ∧ w.heap.size ≤ W1.heap.size) := ⟨b1, b1.size⟩
  clear hr1 b1 hs1
  by_cases c1 : name ∈ nAll
  · rw [decide_eq_true c1] at hc1
    have HE : Hid (rtk name n = ([], n == 0)) := by show rtk _ _ = _; rw [rtk, if_pos c1]
    clear c1 z1 z2
    obtain ⟨b, hb⟩ : ∃ b, (n == 0) = b := ⟨_, rfl⟩
    rw [hb] at z0 HE
    go_enter Tryz.func15, Tryz.ntmps15
    go_wp2_with (go_at_call 14; refine hc1.mono ?_; rintro e w2 ⟨rfl, rfl⟩)
    refine bodyPost_ret (results_tmp2 rfl _ _ _) rfl ?_
    unfold TkO
    rw [HE.out]
    exact ⟨none, 0, 0, rfl, RdG.nil _ _ _, rfl, Nat.le_refl _, HB.out.1⟩
  rw [decide_eq_false c1] at hc1
  by_cases c2 : name = [114, 101, 102]
  · have e2 : (name == [114, 101, 102]) = true := by rw [c2]; rfl
    have HE : Hid (rtk name n = ([3], n == 1)) := by show rtk _ _ = _; rw [rtk, if_neg c1, if_pos (.inl c2)]
    clear c1 c2
    obtain ⟨b, hb⟩ : ∃ b, (n == 1) = b := ⟨_, rfl⟩
    rw [hb] at z1 HE
    clear z0 z2
    obtain ⟨W2, m2, hW2, hm2, b2, hs2⟩ := layR W1 3 #[.int .i64 3]
    have hr2 : RdG encI W2 (some ⟨m2, 0, none⟩) [3] := by rw [← hW2, ← hm2]; exact ints_lie W1 [3] 3 _ rfl
    have H2 : Hid (RdG encI W2 (some ⟨m2, 0, none⟩) [3] ∧ Below w.heap.size w W2) := ⟨hr2, HB.out.1.trans (b2.mono (HB.out.2))⟩
    clear hr2 b2 hs2
    go_enter Tryz.func15, Tryz.ntmps15
    go_wp2_with (go_at_call 14; refine hc1.mono ?_; rintro e w2 ⟨rfl, rfl⟩)
    refine bodyPost_ret (results_tmp2 rfl _ _ _) rfl ?_
    unfold TkO
    rw [HE.out]
    exact ⟨some ⟨m2, 0, none⟩, 1, 1, rfl, H2.out.1, rfl, Nat.le_refl _, H2.out.2⟩
  have e2 : (name == [114, 101, 102]) = false := by rw [beq_eq_false_iff_ne]; exact c2
  by_cases c3 : name = [116, 97, 103]
  · have e3 : (name == [116, 97, 103]) = true := by rw [c3]; rfl
    have HE : Hid (rtk name n = ([3], n == 1)) := by show rtk _ _ = _; rw [rtk, if_neg c1, if_pos (.inr c3)]
    clear c1 c2 c3
    obtain ⟨b, hb⟩ : ∃ b, (n == 1) = b := ⟨_, rfl⟩
    rw [hb] at z1 HE
    clear z0 z2
    obtain ⟨W2, m2, hW2, hm2, b2, hs2⟩ := layR W1 3 #[.int .i64 3]
    have hr2 : RdG encI W2 (some ⟨m2, 0, none⟩) [3] := by rw [← hW2, ← hm2]; exact ints_lie W1 [3] 3 _ rfl
    have H2 : Hid (RdG encI W2 (some ⟨m2, 0, none⟩) [3] ∧ Below w.heap.size w W2) := ⟨hr2, HB.out.1.trans (b2.mono (HB.out.2))⟩
    clear hr2 b2 hs2
    go_enter Tryz.func15, Tryz.ntmps15
    go_wp2_with (go_at_call 14; refine hc1.mono ?_; rintro e w2 ⟨rfl, rfl⟩)
    refine bodyPost_ret (results_tmp2 rfl _ _ _) rfl ?_
    unfold TkO
    rw [HE.out]
    exact ⟨some ⟨m2, 0, none⟩, 1, 1, rfl, H2.out.1, rfl, Nat.le_refl _, H2.out.2⟩
  have e3 : (name == [116, 97, 103]) = false := by rw [beq_eq_false_iff_ne]; exact c3
  have c23 : ¬ (name = [114, 101, 102] ∨ name = [116, 97, 103]) := fun q => q.elim c2 c3
  clear c2 c3
  by_cases c4 : name = [97, 110, 99, 101, 115, 116, 111, 114, 115]
  · have e4 : (name == [97, 110, 99, 101, 115, 116, 111, 114, 115]) = true := by rw [c4]; rfl
    have HE : Hid (rtk name n = ([1, 2], n == 1 || n == 2)) := by show rtk _ _ = _; rw [rtk, if_neg c1, if_neg c23, if_pos c4]
    clear c1 c23 c4
    obtain ⟨b1, hb1⟩ : ∃ b, (n == 1) = b := ⟨_, rfl⟩
    obtain ⟨b2, hb2⟩ : ∃ b, (n == 2) = b := ⟨_, rfl⟩
    rw [hb1] at z1 HE
    rw [hb2] at z2 HE
    clear z0
    obtain ⟨W2, m2, hW2, hm2, b2, hs2⟩ := layR W1 3 #[.int .i64 1, .int .i64 2]
    have hr2 : RdG encI W2 (some ⟨m2, 0, none⟩) [1, 2] := by rw [← hW2, ← hm2]; exact ints_lie W1 [1, 2] 3 _ rfl
    have H2 : Hid (RdG encI W2 (some ⟨m2, 0, none⟩) [1, 2] ∧ Below w.heap.size w W2) := ⟨hr2, HB.out.1.trans (b2.mono (HB.out.2))⟩
    clear hr2 b2 hs2
    cases b1 with
    | true =>
      go_enter Tryz.func15, Tryz.ntmps15
      go_wp2_with (go_at_call 14; refine hc1.mono ?_; rintro e w2 ⟨rfl, rfl⟩)
      refine bodyPost_ret (results_tmp2 rfl _ _ _) rfl ?_
      unfold TkO
      rw [HE.out]
      exact ⟨some ⟨m2, 0, none⟩, 2, 2, rfl, H2.out.1, rfl, Nat.le_refl _, H2.out.2⟩
    | false =>
      go_enter Tryz.func15, Tryz.ntmps15
      go_wp2_with (go_at_call 14; refine hc1.mono ?_; rintro e w2 ⟨rfl, rfl⟩)
      refine bodyPost_ret (results_tmp2 rfl _ _ _) rfl ?_
      unfold TkO
      rw [HE.out]
      exact ⟨some ⟨m2, 0, none⟩, 2, 2, rfl, H2.out.1, rfl, Nat.le_refl _, H2.out.2⟩
  have e4 : (name == [97, 110, 99, 101, 115, 116, 111, 114, 115]) = false := by rw [beq_eq_false_iff_ne]; exact c4
  by_cases c5 : name = [116, 111, 117, 99, 104, 105, 110, 103]
  · have e5 : (name == [116, 111, 117, 99, 104, 105, 110, 103]) = true := by rw [c5]; rfl
    have HE : Hid (rtk name n = ([1, 3], n == 2)) := by show rtk _ _ = _; rw [rtk, if_neg c1, if_neg c23, if_neg c4, if_pos c5]
    clear c1 c23 c4 c5
    obtain ⟨b, hb⟩ : ∃ b, (n == 2) = b := ⟨_, rfl⟩
    rw [hb] at z2 HE
    clear z0 z1
    obtain ⟨W2, m2, hW2, hm2, b2, hs2⟩ := layR W1 3 #[.int .i64 1, .int .i64 3]
    have hr2 : RdG encI W2 (some ⟨m2, 0, none⟩) [1, 3] := by rw [← hW2, ← hm2]; exact ints_lie W1 [1, 3] 3 _ rfl
    have H2 : Hid (RdG encI W2 (some ⟨m2, 0, none⟩) [1, 3] ∧ Below w.heap.size w W2) := ⟨hr2, HB.out.1.trans (b2.mono (HB.out.2))⟩
    clear hr2 b2 hs2
    go_enter Tryz.func15, Tryz.ntmps15
    go_wp2_with (go_at_call 14; refine hc1.mono ?_; rintro e w2 ⟨rfl, rfl⟩)
    refine bodyPost_ret (results_tmp2 rfl _ _ _) rfl ?_
    unfold TkO
    rw [HE.out]
    exact ⟨some ⟨m2, 0, none⟩, 2, 2, rfl, H2.out.1, rfl, Nat.le_refl _, H2.out.2⟩
  have e5 : (name == [116, 111, 117, 99, 104, 105, 110, 103]) = false := by rw [beq_eq_false_iff_ne]; exact c5
  obtain ⟨W3, m3, hW3, hm3, b3, hs3⟩ := layR W1 9 #[.string ⟨#[108, 97, 116, 101, 115, 116]⟩, .string ⟨#[98, 101, 102, 111, 114, 101]⟩, .string ⟨#[115, 105, 110, 99, 101]⟩]
  have hr3 : Rd W3 (some ⟨m3, 0, none⟩) nLat := by
    rw [← hW3, ← hm3]
    exact rd_lit W1 nLat 9 _ rfl
  have hc3 := among_any name nLat (some ⟨m3, 0, none⟩) 3 3 rfl (by omega) W3 hr3
  have HB3 : Hid (Below w.heap.size w W3 ∧ w.heap.size ≤ W3.heap.size) := ⟨HB.out.1.trans (b3.mono HB.out.2), Nat.le_trans HB.out.2 b3.size⟩
  clear hr3 b3 hs3
  by_cases c6 : name ∈ nLat
  · rw [decide_eq_true c6] at hc3
    have HE : Hid (rtk name n = ([1, 2], n == 2)) := by show rtk _ _ = _; rw [rtk, if_neg c1, if_neg c23, if_neg c4, if_neg c5, if_pos c6]
    clear c1 c23 c4 c5 c6
    obtain ⟨b, hb⟩ : ∃ b, (n == 2) = b := ⟨_, rfl⟩
    rw [hb] at z2 HE
    clear z0 z1
    obtain ⟨W2, m2, hW2, hm2, b2, hs2⟩ := layR W3 3 #[.int .i64 1, .int .i64 2]
    have hr2 : RdG encI W2 (some ⟨m2, 0, none⟩) [1, 2] := by rw [← hW2, ← hm2]; exact ints_lie W3 [1, 2] 3 _ rfl
    have H2 : Hid (RdG encI W2 (some ⟨m2, 0, none⟩) [1, 2] ∧ Below w.heap.size w W2) := ⟨hr2, HB3.out.1.trans (b2.mono (HB3.out.2))⟩
    clear hr2 b2 hs2
    go_enter Tryz.func15, Tryz.ntmps15
    go_wp2_with (first
      | (go_at_call 14; refine hc1.mono ?_; rintro e w2 ⟨rfl, rfl⟩; clear hc1)
      | (go_at_call 14; refine hc3.mono ?_; rintro e w2 ⟨rfl, rfl⟩))
    refine bodyPost_ret (results_tmp2 rfl _ _ _) rfl ?_
    unfold TkO
    rw [HE.out]
    exact ⟨some ⟨m2, 0, none⟩, 2, 2, rfl, H2.out.1, rfl, Nat.le_refl _, H2.out.2⟩
  rw [decide_eq_false c6] at hc3
  by_cases c7 : name = [117, 110, 105, 111, 110] ∨ name = [99, 111, 109, 109, 111, 110]
  · have HB4 : Hid (Below w.heap.size w W3) := HB3.out.1
    have HC3 : Hid (Calls Tryz.prog 14 #[.string ⟨name.toArray⟩, .slice (some ⟨m3, 0, none⟩) 3 3] W3 fun e w' => e = .returned (.bool false) ∧ w' = W3) := hc3
    have HE : Hid (rtk name n = (List.replicate n 1, decide (1 ≤ n))) := by show rtk _ _ = _; rw [rtk, if_neg c1, if_neg c23, if_neg c4, if_neg c5, if_neg c6, if_pos c7]
    clear c1 c23 c4 c5 c6 z0 z1 z2 hc3
    cases h7 : name == [117, 110, 105, 111, 110] with
    | true =>
      clear c7
      go_enter Tryz.func15, Tryz.ntmps15
      go_wp2_with (first
        | (go_at_call 14; refine hc1.mono ?_; rintro e w2 ⟨rfl, rfl⟩; clear hc1)
        | (go_at_call 14; refine HC3.out.mono ?_; rintro e w2 ⟨rfl, rfl⟩))
      go_loopg [6, 7] n (fun g sv iv wr => ∃ (i : Nat) (ao : Option Addr) (c : Nat), sv = .slice ao i c ∧ iv = .int .i64 i ∧ i + g = n ∧ Hid (OwnG encI 3 wr w.heap.size (.slice ao i c) (List.replicate i 1) ∧ Below w.heap.size w wr))
      case atStart => exact ⟨0, none, 0, rfl, rfl, by omega, OwnG.nil _ _ _ _, HB3.out.1⟩
      case round =>
        obtain ⟨i, ao, c, rfl, rfl, hi, HI⟩ := hrel
        by_cases hin : i < n
        · have hii : (i : Int) < (n : Int) := by omega
          go_wp2_with (at_builtin; refine appG_one encI 3 22 8 (.int .i64 0) rfl infoInt Tryz.underlying22 rfl (.tmp 59) (.tmp 60) rfl w.heap.size _ (List.replicate i 1) 1 _ rfl HI.out.1 rfl (by rw [List.length_replicate]; omega) (by rw [List.length_replicate]; simp only [maxLen]; omega) HI.out.2.size _ rfl ?_; intro v4 w4 ho4 hb4 hm4 ht4)
          rw [show List.replicate i (1 : Int) ++ [1] = List.replicate (i + 1) 1 by rw [List.replicate_succ']] at ho4
          obtain ⟨a4, c4, e4, q4, _, r4, _⟩ := OwnG.form ho4
          rw [List.length_replicate] at e4
          subst e4
          go_roundg (gk - 1)
          case measure => omega
          case rel => exact ⟨i + 1, a4, c4, rfl, by go_num, by omega, ho4, HI.out.2.trans (hb4.mono (Nat.le_refl _))⟩
        · obtain rfl : i = n := by omega
          clear hi hin
          obtain ⟨a4, c4, e4, q4, _, r4, _⟩ := OwnG.form HI.out.1
          rw [List.length_replicate] at e4 q4
          obtain ⟨rfl, _, rfl⟩ : ao = a4 ∧ i = i ∧ c = c4 := by simpa using e4
          have hd : decide (1 ≤ (i : Int)) = decide (1 ≤ i) := by rw [decide_eq_decide]; omega
          go_wp2_with fail
          refine bodyPost_ret (results_tmp2 rfl _ _ _) rfl ?_
          unfold TkO
          rw [HE.out]
          exact ⟨ao, i, c, (by show Ending.returned (.tuple #[_, .bool _]) = _; rw [← hd]; rfl), r4, List.length_replicate, q4, HI.out.2⟩
    | false =>
      have h8 : (name == [99, 111, 109, 109, 111, 110]) = true := by
        rcases c7 with q | q
        · rw [q] at h7; cases h7
        · rw [q]; rfl
      clear c7
      go_enter Tryz.func15, Tryz.ntmps15
      go_wp2_with (first
        | (go_at_call 14; refine hc1.mono ?_; rintro e w2 ⟨rfl, rfl⟩; clear hc1)
        | (go_at_call 14; refine HC3.out.mono ?_; rintro e w2 ⟨rfl, rfl⟩))
      go_loopg [6, 7] n (fun g sv iv wr => ∃ (i : Nat) (ao : Option Addr) (c : Nat), sv = .slice ao i c ∧ iv = .int .i64 i ∧ i + g = n ∧ Hid (OwnG encI 3 wr w.heap.size (.slice ao i c) (List.replicate i 1) ∧ Below w.heap.size w wr))
      case atStart => exact ⟨0, none, 0, rfl, rfl, by omega, OwnG.nil _ _ _ _, HB3.out.1⟩
      case round =>
        obtain ⟨i, ao, c, rfl, rfl, hi, HI⟩ := hrel
        by_cases hin : i < n
        · have hii : (i : Int) < (n : Int) := by omega
          go_wp2_with (at_builtin; refine appG_one encI 3 22 8 (.int .i64 0) rfl infoInt Tryz.underlying22 rfl (.tmp 59) (.tmp 60) rfl w.heap.size _ (List.replicate i 1) 1 _ rfl HI.out.1 rfl (by rw [List.length_replicate]; omega) (by rw [List.length_replicate]; simp only [maxLen]; omega) HI.out.2.size _ rfl ?_; intro v4 w4 ho4 hb4 hm4 ht4)
          rw [show List.replicate i (1 : Int) ++ [1] = List.replicate (i + 1) 1 by rw [List.replicate_succ']] at ho4
          obtain ⟨a4, c4, e4, q4, _, r4, _⟩ := OwnG.form ho4
          rw [List.length_replicate] at e4
          subst e4
          go_roundg (gk - 1)
          case measure => omega
          case rel => exact ⟨i + 1, a4, c4, rfl, by go_num, by omega, ho4, HI.out.2.trans (hb4.mono (Nat.le_refl _))⟩
        · obtain rfl : i = n := by omega
          clear hi hin
          obtain ⟨a4, c4, e4, q4, _, r4, _⟩ := OwnG.form HI.out.1
          rw [List.length_replicate] at e4 q4
          obtain ⟨rfl, _, rfl⟩ : ao = a4 ∧ i = i ∧ c = c4 := by simpa using e4
          have hd : decide (1 ≤ (i : Int)) = decide (1 ≤ i) := by rw [decide_eq_decide]; omega
          go_wp2_with fail
          refine bodyPost_ret (results_tmp2 rfl _ _ _) rfl ?_
          unfold TkO
          rw [HE.out]
          exact ⟨ao, i, c, (by show Ending.returned (.tuple #[_, .bool _]) = _; rw [← hd]; rfl), r4, List.length_replicate, q4, HI.out.2⟩
  have e7 : (name == [117, 110, 105, 111, 110]) = false := by rw [beq_eq_false_iff_ne]; exact fun q => c7 (.inl q)
  have e8 : (name == [99, 111, 109, 109, 111, 110]) = false := by rw [beq_eq_false_iff_ne]; exact fun q => c7 (.inr q)
  have HE : Hid (rtk name n = ([1], n == 1)) := by show rtk _ _ = _; rw [rtk, if_neg c1, if_neg c23, if_neg c4, if_neg c5, if_neg c6, if_neg c7]
  clear c1 c23 c4 c5 c6 c7
  obtain ⟨b, hb⟩ : ∃ b, (n == 1) = b := ⟨_, rfl⟩
  rw [hb] at z1 HE
  clear z0 z2
  obtain ⟨W2, m2, hW2, hm2, b2, hs2⟩ := layR W3 3 #[.int .i64 1]
  have hr2 : RdG encI W2 (some ⟨m2, 0, none⟩) [1] := by rw [← hW2, ← hm2]; exact ints_lie W3 [1] 3 _ rfl
  have H2 : Hid (RdG encI W2 (some ⟨m2, 0, none⟩) [1] ∧ Below w.heap.size w W2) := ⟨hr2, HB3.out.1.trans (b2.mono (HB3.out.2))⟩
  clear hr2 b2 hs2
  go_enter Tryz.func15, Tryz.ntmps15
  go_wp2_with (first
    | (go_at_call 14; refine hc1.mono ?_; rintro e w2 ⟨rfl, rfl⟩; clear hc1)
    | (go_at_call 14; refine hc3.mono ?_; rintro e w2 ⟨rfl, rfl⟩))
  refine bodyPost_ret (results_tmp2 rfl _ _ _) rfl ?_
  unfold TkO
  rw [HE.out]
  exact ⟨some ⟨m2, 0, none⟩, 1, 1, rfl, H2.out.1, rfl, Nat.le_refl _, H2.out.2⟩

end Go.Proofs.YtdgdckmhmmigkaaGreatDoor
