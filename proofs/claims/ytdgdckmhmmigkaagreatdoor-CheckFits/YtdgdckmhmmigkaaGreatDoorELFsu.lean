/-
  The token with which a text begins: hashes, signs, and all kinds together, each by a contract. No condition but that a text is no longer than 1024 bytes, and that the list of signs holds what the program's text lays there.
-/
import Derived.Test.YtdgdckmhmmigkaaGreatDoorELFst
namespace Go.Proofs.YtdgdckmhmmigkaaGreatDoor
open Go.RowKit

/-- What the program's variables hold. -/
structure Gl (w : World) : Prop where
  sg : w.var? Tryz.prog "forebear/lex.signs" = some (sgs.map (fun x => Value.string ⟨x.toArray⟩)).toArray
  pw : Lib.TabIs Tryz.prog w "internal/strconv.uint64pow10" .u64 Lib.pow10Tab
theorem g_sg : Tryz.prog.globalNamed "forebear/lex.signs" = some 1 := by kernel_rfl
theorem g_pw : Tryz.prog.globalNamed "internal/strconv.uint64pow10" = some (layItoa_ren.g 17) := by kernel_rfl
theorem var_on {w w' : World} {g : Nat} {n : String} {cs : Array Value} (h : Below w.heap.size w w') (hg : Tryz.prog.globalNamed n = some g) (hv : w.var? Tryz.prog n = some cs) : w'.var? Tryz.prog n = some cs := by
  unfold World.var? at hv ⊢
  rw [hg] at hv ⊢
  simp only [Option.bind_some] at hv ⊢
  have hlt : g < w.heap.size := by
    rcases Nat.lt_or_ge g w.heap.size with q | q
    · exact q
    · rw [Array.getElem?_eq_none q] at hv; cases hv
  rw [h.block g hlt]
  exact hv
theorem Gl.below {w w' : World} (h : Gl w) (hb : Below w.heap.size w w') : Gl w' := ⟨var_on hb g_sg h.sg, var_on hb g_pw h.pw⟩
theorem Gl.cells {w : World} (h : Gl w) : 1 < w.heap.size ∧ w.cell? ⟨1, 0, none⟩ = some (.string ⟨#[40]⟩) ∧ w.cell? ⟨1, 1, none⟩ = some (.string ⟨#[41]⟩) ∧ w.cell? ⟨1, 2, none⟩ = some (.string ⟨#[44]⟩) ∧ w.cell? ⟨1, 3, none⟩ = some (.string ⟨#[124]⟩) ∧ w.cell? ⟨1, 4, none⟩ = some (.string ⟨#[38]⟩) ∧ w.cell? ⟨1, 5, none⟩ = some (.string ⟨#[45]⟩) ∧ w.cell? ⟨1, 6, none⟩ = some (.string ⟨#[33]⟩) ∧ w.cell? ⟨1, 7, none⟩ = some (.string ⟨#[94]⟩) ∧ w.cell? ⟨1, 8, none⟩ = some (.string ⟨#[46, 46]⟩) ∧ w.cell? ⟨1, 9, none⟩ = some (.string ⟨#[58, 58]⟩) := by
  have c := fun o => World.var?_cell (P := Tryz.prog) g_sg h.sg o
  exact ⟨World.block_lt_of_cell? w ⟨1, 0, none⟩ (c 0), c 0, c 1, c 2, c 3, c 4, c 5, c 6, c 7, c 8, c 9⟩

set_option maxHeartbeats 1600000 in
set_option maxRecDepth 100000 in
theorem hash_any (s : ByteArray) (hs : s.size ≤ 1024) (w : World) :
    Calls Tryz.prog 52 #[.string s] w fun e w' => e = .returned (tkR (hashT s.data.toList)) ∧ Below w.heap.size w w' := by
  by_cases h17 : s.size < 17
  · have HT : Hid (hashT s.data.toList = (tk0, 0)) := by show hashT _ = _; rw [hashT, if_pos (by rw [← bsize]; exact h17)]
    go_enter Tryz.func52, Tryz.ntmps52
    go_wp2
    refine bodyPost_ret (v := .tuple #[.agg #[.int .i64 0, .string ⟨#[]⟩, .int .i64 0, .int .u64 0, .int .i64 0], .int .i64 0]) ?_ rfl ⟨by rw [HT.out]; rfl, (Below.refl _ w).alloc (Nat.le_refl _) _⟩
    simp [results, Tryz.f52]
    go_simp
  · have hx : s.extract 1 17 = ⟨((s.data.toList.drop 1).take 16).toArray⟩ := by
      have := ByteArray.extract_mk s.data.toList 1 17
      simpa using this
    have hp := fun w => par_any (s.extract 1 17) w
    have e : parOf (s.extract 1 17) = hash16 s.data.toList := by rw [hx]; rfl
    rw [e] at hp
    obtain ⟨⟨i, c⟩, hic⟩ : ∃ ic, hash16 s.data.toList = ic := ⟨_, rfl⟩
    rw [hic] at hp
    have hlen : ¬ s.data.toList.length < 17 := by rw [← bsize]; exact h17
    by_cases hc : c = 0
    · subst hc
      have HT : Hid (hashT s.data.toList = (⟨4, [], 0, i, 0⟩, 17)) := by show hashT _ = _; rw [hashT, if_neg hlen, hic, if_pos rfl]
      clear hx e hic hlen
      go_enter Tryz.func52, Tryz.ntmps52
      go_wp2_with (go_at_call 63; refine (hp _).mono ?_; rintro e w' ⟨rfl, rfl⟩)
      refine bodyPost_ret (v := .tuple #[.agg #[.int .i64 4, .string ⟨#[]⟩, .int .i64 0, .int .u64 i, .int .i64 0], .int .i64 17]) ?_ rfl ⟨by rw [HT.out]; rfl, ?_⟩
      · simp [results, Tryz.f52]
        go_simp
      · exact (Below.refl _ w).alloc (Nat.le_refl _) _
    · have HT : Hid (hashT s.data.toList = (tk0, 0)) := by show hashT _ = _; rw [hashT, if_neg hlen, hic, if_neg hc]
      have m0 : (c == 0) = false := by simpa using hc
      have m1 : (c != 0) = true := by simpa using hc
      clear hx e hic hlen
      go_enter Tryz.func52, Tryz.ntmps52
      go_wp2_with (go_at_call 63; refine (hp _).mono ?_; rintro e w' ⟨rfl, rfl⟩)
      refine bodyPost_ret (v := .tuple #[.agg #[.int .i64 0, .string ⟨#[]⟩, .int .i64 0, .int .u64 0, .int .i64 0], .int .i64 0]) ?_ rfl ⟨by rw [HT.out]; rfl, (Below.refl _ w).alloc (Nat.le_refl _) _⟩
      simp [results, Tryz.f52]
      go_simp

/-- The sign at a place. -/
def sgAt (k : Nat) : Bs := sgs.getD k []
def sgV : Array Value := #[.string ⟨#[40]⟩, .string ⟨#[41]⟩, .string ⟨#[44]⟩, .string ⟨#[124]⟩, .string ⟨#[38]⟩, .string ⟨#[45]⟩, .string ⟨#[33]⟩, .string ⟨#[94]⟩, .string ⟨#[46, 46]⟩, .string ⟨#[58, 58]⟩]
set_option maxRecDepth 100000 in
theorem sg_idx (k : Nat) (hk : k < 10) (w : World) : (Instr.index 109 (.agg sgV) (.int .i64 (k : Int))).run Tryz.prog w = .ok (.string ⟨(sgAt k).toArray⟩) w := by
  have h : k = 0 ∨ k = 1 ∨ k = 2 ∨ k = 3 ∨ k = 4 ∨ k = 5 ∨ k = 6 ∨ k = 7 ∨ k = 8 ∨ k = 9 := by omega
  rcases h with rfl | rfl | rfl | rfl | rfl | rfl | rfl | rfl | rfl | rfl <;> rfl

theorem sg_len (k : Nat) (hk : k < 10) : 0 < (sgAt k).length ∧ (sgAt k).length ≤ 2 := by
  have h : k = 0 ∨ k = 1 ∨ k = 2 ∨ k = 3 ∨ k = 4 ∨ k = 5 ∨ k = 6 ∨ k = 7 ∨ k = 8 ∨ k = 9 := by omega
  rcases h with rfl | rfl | rfl | rfl | rfl | rfl | rfl | rfl | rfl | rfl <;> decide

theorem find_at {α : Type} (p : α → Bool) : ∀ (l : List α) (k : Nat) (x : α), l[k]? = some x → p x = true → (∀ j y, j < k → l[j]? = some y → p y = false) → l.find? p = some x
  | [], k, x, h, _, _ => by simp at h
  | a :: t, 0, x, h, hx, _ => by
    simp at h
    subst h
    simp [hx]
  | a :: t, k + 1, x, h, hx, hj => by
    have ha := hj 0 a (by omega) rfl
    rw [List.find?_cons, ha]
    exact find_at p t k x (by simpa using h) hx (fun j y q r => hj (j + 1) y (by omega) (by simpa using r))

theorem sg_get (j : Nat) (y : Bs) (h : sgs[j]? = some y) : y = sgAt j ∧ j < 10 := by
  have := (List.getElem?_eq_some_iff.1 h).1
  refine ⟨by simp [sgAt, List.getD, h], ?_⟩
  simpa [sgs] using this
theorem sg_get2 (j : Nat) (h : j < 10) : sgs[j]? = some (sgAt j) := by
  have : j < sgs.length := h
  simp [sgAt, List.getD, List.getElem?_eq_getElem this]

theorem sign_hit (l : Bs) (k : Nat) (hk : k < 10) (hx : (sgAt k).isPrefixOf l = true) (hj : ∀ j, j < k → (sgAt j).isPrefixOf l = false) : signT l = (⟨5, sgAt k, 0, 0, 0⟩, (sgAt k).length) := by
  have := find_at (fun g : Bs => g.isPrefixOf l) sgs k (sgAt k) (sg_get2 k hk) hx (fun j y q r => by rw [(sg_get j y r).1]; exact hj j q)
  unfold signT signG
  rw [this]
theorem sign_miss (l : Bs) (hj : ∀ j, j < 10 → (sgAt j).isPrefixOf l = false) : signT l = (tk0, 0) := by
  have : sgs.find? (fun g : Bs => g.isPrefixOf l) = none := by
    rw [List.find?_eq_none]
    intro x hx
    obtain ⟨j, hj2, rfl⟩ := List.getElem_of_mem hx
    have hg := List.getElem?_eq_getElem hj2
    rw [(sg_get j _ hg).1, hj j (sg_get j _ hg).2]
    simp
  unfold signT signG
  rw [this]

set_option maxHeartbeats 1600000 in
set_option maxRecDepth 100000 in
theorem sign_any (s : ByteArray) (w : World) (hg : Gl w) :
    Calls Tryz.prog 53 #[.string s] w fun e w' => e = .returned (tkR (signT s.data.toList)) ∧ Below w.heap.size w w' := by
  obtain ⟨z0, g0, g1, g2, g3, g4, g5, g6, g7, g8, g9⟩ := hg.cells
  go_enter Tryz.func53, Tryz.ntmps53
  go_wp2
  rw [show (#[Value.string ⟨#[40]⟩, .string ⟨#[41]⟩, .string ⟨#[44]⟩, .string ⟨#[124]⟩, .string ⟨#[38]⟩, .string ⟨#[45]⟩, .string ⟨#[33]⟩, .string ⟨#[94]⟩, .string ⟨#[46, 46]⟩, .string ⟨#[58, 58]⟩] : Array Value) = sgV from rfl]
  clear g0 g1 g2 g3 g4 g5 g6 g7 g8 g9
  go_loop [7] (fun i => ∃ k : Nat, k ≤ 10 ∧ i = .int .i64 k ∧ Hid (∀ j, j < k → (sgAt j).isPrefixOf s.data.toList = false)) (fun i => 10 - (intOf i).toNat)
  case atStart => exact ⟨0, Nat.zero_le _, rfl, fun j hj => by omega⟩
  case round =>
    obtain ⟨k, hk, rfl, HK⟩ := hrel
    by_cases hlt : k < 10
    · have hidx := fun w => sg_idx k hlt w
      have hlen := sg_len k hlt
      obtain ⟨x, hx⟩ : ∃ x : ByteArray, x = ⟨(sgAt k).toArray⟩ := ⟨_, rfl⟩
      have hxs : x.size = (sgAt k).length := by rw [hx]; rfl
      have hxd : x.data.toList = sgAt k := by rw [hx]
      rw [← hx] at hidx
      have HX : Hid (x = _) := hx
      have HS : Hid (x.size = _) := hxs
      have hpre := fun w => Any.strings_HasPrefix layHasPrefix s x w
      rw [show Lib.hasPrefix s.data.toList x.data.toList = (sgAt k).isPrefixOf s.data.toList by rw [hxd]; rfl] at hpre
      have hx2 : x.size ≤ 2 := by omega
      clear hx hxs hxd hlen
      cases hp : (sgAt k).isPrefixOf s.data.toList with
      | true =>
        rw [hp] at hpre
        have HT : Hid (signT s.data.toList = _) := sign_hit _ k hlt hp HK.out
        clear hp
        go_wp2_with (go_at_call 64; refine (hpre _).mono ?_; rintro e w' ⟨rfl, rfl⟩)
        refine bodyPost_ret (v := .tuple #[.agg #[.int .i64 5, .string x, .int .i64 0, .int .u64 0, .int .i64 0], .int .i64 x.size]) ?_ rfl ⟨by rw [HT.out, HS.out, HX.out]; rfl, ?_⟩
        · simp [results, Tryz.f53]
          go_simp
        · exact (Below.refl _ w).alloc (Nat.le_refl _) _
      | false =>
        rw [hp] at hpre
        have HT : Hid (∀ j, j < k + 1 → (sgAt j).isPrefixOf s.data.toList = false) := by
          intro j hj
          by_cases q : j = k
          · rw [q]; exact hp
          · exact HK.out j (by omega)
        clear hp
        go_wp2_with (go_at_call 64; refine (hpre _).mono ?_; rintro e w' ⟨rfl, rfl⟩)
        go_round
        case rel => exact ⟨k + 1, by omega, by go_num, HT⟩
        case measure => simp [intOf]; omega
    · obtain rfl : k = 10 := by omega
      have HT : Hid (signT s.data.toList = _) := sign_miss _ HK.out
      go_wp2_with fail
      refine bodyPost_ret (v := .tuple #[.agg #[.int .i64 0, .string ⟨#[]⟩, .int .i64 0, .int .u64 0, .int .i64 0], .int .i64 0]) ?_ rfl ⟨by rw [HT.out]; rfl, (Below.refl _ w).alloc (Nat.le_refl _) _⟩
      simp [results, Tryz.f53]
      go_simp

theorem byte39 (h : 0 < ({ data := #[39] } : ByteArray).size) : (({ data := #[39] } : ByteArray)[0]'h).toNat = 39 := rfl
theorem byte35 (h : 0 < ({ data := #[35] } : ByteArray).size) : (({ data := #[35] } : ByteArray)[0]'h).toNat = 35 := rfl

/-- A call of one of the functions for the kinds, its answer by letters. -/
theorem by_letters {f : Nat} {s : ByteArray} {r : Tk × Nat} {k m i p : Int} {x : ByteArray} {n : Nat} (hr : r = (⟨k, x.data.toList, m, i, p⟩, n)) {w : World}
    (h : Calls Tryz.prog f #[.string s] w fun e w' => e = .returned (tkR r) ∧ Below w.heap.size w w') :
    Calls Tryz.prog f #[.string s] w fun e w' => e = .returned (.tuple #[.agg #[.int .i64 k, .string x, .int .i64 m, .int .u64 i, .int .i64 p], .int .i64 (n : Int)]) ∧ Below w.heap.size w w' := by
  subst hr
  exact h

set_option maxHeartbeats 1600000 in
set_option maxRecDepth 100000 in
theorem first_any (s : ByteArray) (hs : s.size ≤ 1024) (h0 : 0 < s.size) (w : World) (hg : Gl w) :
    Calls Tryz.prog 38 #[.string s] w fun e w' => e = .returned (tkR (tok1 s.data.toList)) ∧ Below w.heap.size w w' := by
  obtain ⟨c, r, hcr⟩ : ∃ c r, s.data.toList = c :: r := by
    cases hd : s.data.toList with
    | nil => rw [bsize, hd] at h0; simp at h0
    | cons c r => exact ⟨c, r, rfl⟩
  have hc0 : s[0] = c := by
    have := get_byte s 0 h0
    rw [hcr] at this
    simpa using this.symm
  have ht : tok1 s.data.toList = if isLo c then nameT s.data.toList else if isDi c then numT s.data.toList else if c.toNat = 39 then textT s.data.toList else if c.toNat = 35 then hashT s.data.toList else signT s.data.toList := by
    rw [hcr]; rfl
  obtain ⟨⟨⟨k, xl, m, i, p⟩, n⟩, hr⟩ : ∃ r, tok1 s.data.toList = r := ⟨_, rfl⟩
  obtain ⟨x, hx⟩ : ∃ x : ByteArray, x.data.toList = xl := ⟨⟨xl.toArray⟩, rfl⟩
  have hlo := fun w => lo_any s[0] w
  have hdi := fun w => di_any s[0] w
  subst hx
  rw [hr]
  have hz : Gl (w.alloc (.cells #[.int .i64 0, .string ⟨#[]⟩, .int .i64 0, .int .u64 0, .int .i64 0] 67)) := hg.below ((Below.refl _ w).alloc (Nat.le_refl _) _)
  have H0 : Hid (0 < s.size ∧ s.size ≤ 1024) := ⟨h0, hs⟩
  have hs1 : (1 : Int) ≤ (s.size : Int) := by omega
  have q39 := byte39 (by decide)
  have q35 := byte35 (by decide)
  by_cases h1 : isLo c = true
  · rw [if_pos h1] at ht
    rw [hc0, h1] at hlo
    have hc := fun w => by_letters (ht.symm.trans hr) (name_any s hs w)
    clear hr ht hdi hz hg
    go_enter Tryz.func38, Tryz.ntmps38
    go_wp2_with (first
      | (go_at_call 47; refine (hlo _).mono ?_; rintro e w' ⟨rfl, rfl⟩)
      | (go_at_call 48; refine (hc _).mono ?_; rintro e w2 ⟨rfl, hb⟩; obtain ⟨⟨c0, c1, c2, c3, c4⟩, ⟨f0, f1, f2, f3, f4⟩, HB⟩ := ten5 (hb); clear hb))
    refine bodyPost_ret (v := .tuple #[.agg #[.int .i64 k, .string x, .int .i64 m, .int .u64 i, .int .i64 p], .int .i64 n]) ?_ rfl ⟨rfl, set5 HB.out _ (Nat.le_refl _) _ _ _ _ _⟩
    simp [results, Tryz.f38]
    go_simp
  have h1' : isLo c = false := by simpa using h1
  rw [if_neg h1] at ht
  rw [hc0, h1'] at hlo
  by_cases h2 : isDi c = true
  · rw [if_pos h2] at ht
    have hc := fun w => by_letters (ht.symm.trans hr) (num_any s hs h0 (by rw [hc0]; exact h2) w)
    rw [hc0, h2] at hdi
    clear hr ht hz hg
    go_enter Tryz.func38, Tryz.ntmps38
    go_wp2_with (first
      | (go_at_call 47; refine (hlo _).mono ?_; rintro e w' ⟨rfl, rfl⟩)
      | (go_at_call 49; refine (hdi _).mono ?_; rintro e w' ⟨rfl, rfl⟩)
      | (go_at_call 50; refine (hc _).mono ?_; rintro e w2 ⟨rfl, hb⟩; obtain ⟨⟨c0, c1, c2, c3, c4⟩, ⟨f0, f1, f2, f3, f4⟩, HB⟩ := ten5 (hb); clear hb))
    refine bodyPost_ret (v := .tuple #[.agg #[.int .i64 k, .string x, .int .i64 m, .int .u64 i, .int .i64 p], .int .i64 n]) ?_ rfl ⟨rfl, set5 HB.out _ (Nat.le_refl _) _ _ _ _ _⟩
    simp [results, Tryz.f38]
    go_simp
  have h2' : isDi c = false := by simpa using h2
  rw [if_neg h2] at ht
  rw [hc0, h2'] at hdi
  by_cases h3 : c.toNat = 39
  · rw [if_pos h3] at ht
    have hc := fun w => by_letters (ht.symm.trans hr) (text_any s hs h0 w)
    have e3 : ((c.toNat : Int) == 39) = true := by rw [h3]; rfl
    have e3' : (c.toNat == 39) = true := by rw [h3]; rfl
    clear hr ht hz hg h3 h1 h2 hcr
    go_enter Tryz.func38, Tryz.ntmps38
    go_wp2_with (first
      | (go_at_call 47; refine (hlo _).mono ?_; rintro e w' ⟨rfl, rfl⟩)
      | (go_at_call 49; refine (hdi _).mono ?_; rintro e w' ⟨rfl, rfl⟩))
    go_quiet (fail)
    go_wp2_with (go_at_call 51; refine (hc _).mono ?_; rintro e w2 ⟨rfl, hb⟩; obtain ⟨⟨c0, c1, c2, c3, c4⟩, ⟨f0, f1, f2, f3, f4⟩, HB⟩ := ten5 ((belowD _ _).trans hb); clear hb)
    refine bodyPost_ret (v := .tuple #[.agg #[.int .i64 k, .string x, .int .i64 m, .int .u64 i, .int .i64 p], .int .i64 n]) ?_ rfl ⟨rfl, set5 HB.out _ (Nat.le_refl _) _ _ _ _ _⟩
    simp [results, Tryz.f38]
    go_simp
  rw [if_neg h3] at ht
  have e3 : ((c.toNat : Int) == 39) = false := by rw [beq_eq_false_iff_ne]; omega
  have e3' : (c.toNat == 39) = false := by rw [beq_eq_false_iff_ne]; exact h3
  by_cases h4 : c.toNat = 35
  · rw [if_pos h4] at ht
    have hc := fun w => by_letters (ht.symm.trans hr) (hash_any s hs w)
    have e4 : ((c.toNat : Int) == 35) = true := by rw [h4]; rfl
    have e4' : (c.toNat == 35) = true := by rw [h4]; rfl
    clear hr ht hz hg h3 h4 h1 h2 hcr
    go_enter Tryz.func38, Tryz.ntmps38
    go_wp2_with (first
      | (go_at_call 47; refine (hlo _).mono ?_; rintro e w' ⟨rfl, rfl⟩)
      | (go_at_call 49; refine (hdi _).mono ?_; rintro e w' ⟨rfl, rfl⟩))
    go_quiet (fail)
    go_wp2
    go_quiet (fail)
    go_wp2_with (go_at_call 52; refine (hc _).mono ?_; rintro e w2 ⟨rfl, hb⟩; obtain ⟨⟨c0, c1, c2, c3, c4⟩, ⟨f0, f1, f2, f3, f4⟩, HB⟩ := ten5 ((belowD _ _).trans hb); clear hb)
    refine bodyPost_ret (v := .tuple #[.agg #[.int .i64 k, .string x, .int .i64 m, .int .u64 i, .int .i64 p], .int .i64 n]) ?_ rfl ⟨rfl, set5 HB.out _ (Nat.le_refl _) _ _ _ _ _⟩
    simp [results, Tryz.f38]
    go_simp
  · rw [if_neg h4] at ht
    have e4 : ((c.toNat : Int) == 35) = false := by rw [beq_eq_false_iff_ne]; omega
    have e4' : (c.toNat == 35) = false := by rw [beq_eq_false_iff_ne]; exact h4
    have hc := fun m => by_letters (ht.symm.trans hr) (sign_any s _ (hz.below (belowD _ m)))
    clear hr ht hz hg
    go_enter Tryz.func38, Tryz.ntmps38
    go_wp2_with (first
      | (go_at_call 47; refine (hlo _).mono ?_; rintro e w' ⟨rfl, rfl⟩)
      | (go_at_call 49; refine (hdi _).mono ?_; rintro e w' ⟨rfl, rfl⟩))
    go_quiet (fail)
    go_wp2
    go_quiet (fail)
    go_wp2_with (go_at_call 53; refine (hc _).mono ?_; rintro e w2 ⟨rfl, hb⟩; obtain ⟨⟨c0, c1, c2, c3, c4⟩, ⟨f0, f1, f2, f3, f4⟩, HB⟩ := ten5 ((belowD _ _).trans hb); clear hb)
    refine bodyPost_ret (v := .tuple #[.agg #[.int .i64 k, .string x, .int .i64 m, .int .u64 i, .int .i64 p], .int .i64 n]) ?_ rfl ⟨rfl, set5 HB.out _ (Nat.le_refl _) _ _ _ _ _⟩
    simp [results, Tryz.f38]
    go_simp

end Go.Proofs.YtdgdckmhmmigkaaGreatDoor
