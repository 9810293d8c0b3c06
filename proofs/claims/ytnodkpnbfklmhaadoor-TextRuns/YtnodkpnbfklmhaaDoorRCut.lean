/-
  The reference's Lines by a contract. A text is of at most 2,000,000 bytes.
-/
import Derived.Test.YtnodkpnbfklmhaaDoorCut
namespace Go.Proofs.YtnodkpnbfklmhaaDoor
open Go.RowKit

/-- How far the reference is: lines told up to a place, and no byte 10 from there to where it looks. -/
structure At (l : Bs) (p i : Nat) (out : List Bs) : Prop where
  le : p ≤ i
  top : i ≤ l.length
  no : noTen ((l.drop p).take (i - p))
  eq : lines l = out ++ lines (l.drop p)
  len : out.length ≤ p
  fin : i = l.length → p = i

theorem At.start (l : Bs) : At l 0 0 [] := ⟨Nat.le_refl _, Nat.zero_le _, by simp [noTen], by simp, Nat.le_refl _, fun _ => rfl⟩

theorem At.part {l : Bs} {p i : Nat} {b : UInt8} (hp : p ≤ i) (hb : l[i]? = some b) : (l.drop p).take (i + 1 - p) = (l.drop p).take (i - p) ++ [b] := by
  rw [show i + 1 - p = (i - p) + 1 by omega, List.take_add_one, List.getElem?_drop, show p + (i - p) = i by omega, hb]
  rfl

theorem At.rest {l : Bs} {p i : Nat} {b : UInt8} (hp : p ≤ i) (hb : l[i]? = some b) : l.drop p = (l.drop p).take (i - p) ++ b :: l.drop (i + 1) := by
  have hi : i < l.length := by
    rcases Nat.lt_or_ge i l.length with q | q
    · exact q
    · rw [List.getElem?_eq_none q] at hb; cases hb
  have e : (l.drop p).drop (i - p) = b :: l.drop (i + 1) := by
    rw [List.drop_drop, show p + (i - p) = i by omega, List.drop_eq_getElem_cons hi]
    rw [List.getElem?_eq_getElem hi] at hb
    rw [Option.some.inj hb]
  rw [← e, List.take_append_drop]

theorem At.stay {l : Bs} {p i : Nat} {out : List Bs} (h : At l p i out) {b : UInt8} (hb : l[i]? = some b) (h1 : b ≠ 10) (h2 : i + 1 ≠ l.length) : At l p (i + 1) out := by
  have hi : i < l.length := by
    rcases Nat.lt_or_ge i l.length with q | q
    · exact q
    · rw [List.getElem?_eq_none q] at hb; cases hb
  refine ⟨by have := h.le; omega, by omega, ?_, h.eq, h.len, fun e => absurd e h2⟩
  rw [At.part h.le hb]
  intro x hx
  rcases List.mem_append.1 hx with q | q
  · exact h.no x q
  · simp at q; subst q; exact h1

theorem At.cut {l : Bs} {p i : Nat} {out : List Bs} (h : At l p i out) {b : UInt8} (hb : l[i]? = some b) (hc : b = 10 ∨ i + 1 = l.length) : At l (i + 1) (i + 1) (out ++ [(l.drop p).take (i + 1 - p)]) := by
  have hi : i < l.length := by
    rcases Nat.lt_or_ge i l.length with q | q
    · exact q
    · rw [List.getElem?_eq_none q] at hb; cases hb
  refine ⟨Nat.le_refl _, by omega, by simp [noTen], ?_, by have := h.len; have := h.le; simp; omega, fun _ => rfl⟩
  have e := At.rest h.le hb
  have hno := h.no
  rw [At.part h.le hb, h.eq, List.append_assoc]
  congr 1
  obtain ⟨c, hcc⟩ : ∃ c, (l.drop p).take (i - p) = c := ⟨_, rfl⟩
  rw [hcc] at e hno ⊢
  rw [e]
  by_cases h10 : b = 10
  · subst h10
    rw [lines_cut _ hno]
    rfl
  · have hend : i + 1 = l.length := by
      rcases hc with q | q
      · exact absurd q h10
      · exact q
    have hn : noTen (c ++ [b]) := by
      intro x hx
      rcases List.mem_append.1 hx with q | q
      · exact hno x q
      · simp at q; subst q; exact h10
    rw [hend, List.drop_length, lines_nil, lines_last hn (by simp)]
    rfl

theorem At.done {l : Bs} {p i : Nat} {out : List Bs} (h : At l p i out) (hi : i = l.length) : out = lines l := by
  rw [h.eq, h.fin hi, hi, List.drop_length, lines_nil, List.append_nil]

theorem ext_part (s : ByteArray) (a b : Nat) : s.extract a b = ⟨((s.data.toList.drop a).take (b - a)).toArray⟩ := by
  have := ByteArray.extract_mk s.data.toList a b
  simpa using this

set_option maxHeartbeats 1600000 in
set_option maxRecDepth 100000 in
theorem rlines_any (s : ByteArray) (hs : s.size ≤ 2000000) (w : World) :
    Calls Tryd.prog 11 #[.string s] w fun e w' => ∃ v', e = .returned v' ∧ Own w' w.heap.size v' (lines s.data.toList) ∧ Below w.heap.size w w' := by
  have E : Hid (s.size = s.data.toList.length) := Lib.size_eq s
  go_enter Tryd.func11, Tryd.ntmps11
  go_wp2_with fail
  go_loopg [3, 4, 5] s.size (fun k ov pv iv wr => ∃ (i p : Nat) (out : List Bs), iv = .int .i64 i ∧ pv = .int .i64 p ∧ i + k = s.size ∧ p ≤ i ∧ out.length ≤ i ∧ Hid (At s.data.toList p i out ∧ Own wr w.heap.size ov out ∧ Below w.heap.size w wr))
  case atStart => exact ⟨0, 0, [], rfl, rfl, by omega, Nat.le_refl _, by simp, At.start _, Own.nil _ _, Below.refl _ _⟩
  case round =>
    obtain ⟨i, p, out, rfl, rfl, hi, hp, hol, HR⟩ := hrel
    by_cases hin : i < s.size
    · have id : (i : Int) < (s.size : Int) := by omega
      have hb : s.data.toList[i]? = some s[i] := by
        rw [List.getElem?_eq_getElem (by rw [← E.out]; exact hin)]
        rfl
      have HB : Hid (s.data.toList[i]? = some s[i]) := hb
      clear hb
      by_cases hten : s[i] = 10
      · have h1 : ((s[i].toNat : Int) == 10) = true := by rw [hten]; rfl
        go_wp2_with (at_builtin; rw [ext_part]; refine app_one rfl (.tmp 23) (.tmp 29) rfl w.heap.size _ out ((s.data.toList.drop p).take (i + 1 - p)) _ rfl HR.out.2.1 rfl (by omega) HR.out.2.2.size ?_; intro v' w4 hown4 hbel4)
        go_roundg (gk - 1)
        case measure => omega
        case rel => exact ⟨i + 1, i + 1, _, by go_num, by go_num, by omega, Nat.le_refl _, by simp; omega, HR.out.1.cut HB.out (.inl hten), hown4, HR.out.2.2.trans hbel4⟩
      · have h1 : ((s[i].toNat : Int) == 10) = false := by
          rw [beq_eq_false_iff_ne]
          intro e
          apply hten
          have : s[i].toNat = 10 := by omega
          exact UInt8.toNat_inj.1 this
        have h1' : ¬ (s[i].toNat : Int) = 10 := by simpa using h1
        by_cases hend : i + 1 = s.size
        · have h2 : (s.size : Int) - 1 = i := by omega
          have HE : Hid (i + 1 = s.size) := hend
          clear hend
          go_wp2_with (at_builtin; rw [ext_part]; refine app_one rfl (.tmp 23) (.tmp 29) rfl w.heap.size _ out ((s.data.toList.drop p).take (i + 1 - p)) _ rfl HR.out.2.1 rfl (by omega) HR.out.2.2.size ?_; intro v' w4 hown4 hbel4)
          have hown5 : Own w4 w.heap.size v' (out ++ [(s.data.toList.drop p).take (i + 1 - p)]) := hown4
          go_roundg (gk - 1)
          case measure => omega
          case rel => exact ⟨i + 1, i + 1, _, by go_num, by go_num, by omega, Nat.le_refl _, by simp; omega, HR.out.1.cut HB.out (.inr (by rw [← E.out]; exact HE.out)), hown5, HR.out.2.2.trans hbel4⟩
        · have h2 : ¬ (i : Int) = (s.size : Int) - 1 := by omega
          go_wp2
          go_roundg (gk - 1)
          case measure => omega
          case rel => exact ⟨i + 1, p, out, by go_num, rfl, by omega, by omega, by omega, HR.out.1.stay HB.out hten (by rw [← E.out]; exact hend), HR.out.2.1, HR.out.2.2⟩
    · obtain rfl : i = s.size := by omega
      go_wp2
      go_ret
      exact ⟨_, rfl, by rw [← HR.out.1.done E.out]; exact HR.out.2.1, HR.out.2.2⟩

end Go.Proofs.YtnodkpnbfklmhaaDoor
