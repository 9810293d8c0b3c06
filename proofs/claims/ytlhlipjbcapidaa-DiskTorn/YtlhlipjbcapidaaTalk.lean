/-
  Bytes as texts, parts as they are written down, and the statements' awake, which returns true and turns nothing that was there. No condition.
-/
import Derived.Test.YtlhlipjbcapidaaTwin
import Derived.Lib.SlBytesConst
namespace Go.Proofs.Ytlhlipjbcapidaa
open Go.RowKit

set_option maxRecDepth 100000 in
/-- string(b). -/
theorem conv_str {w : World} {v : Value} {bs : Bs} (h : BAt w v bs) : (convert 31 9 v).run Try.prog w = .ok (tx bs) w := by
  obtain ⟨ao, c, rfl, h1, h2, h3⟩ := h
  by_cases h0 : 0 < bs.length
  · obtain ⟨b, off, rfl, hlt, hc⟩ := h3 h0
    refine run_convert_bytes_back (P := Try.prog) w 31 9 5 ⟨b, off, none⟩ c bs Try.underlying31 Try.underlying5 Try.underlying9 (fun j hj => ?_)
    have := hc j bs[j] (List.getElem?_eq_getElem hj) 0 _ rfl
    rw [addr_plus]
    have e : off + (j * encB.size + 0) = off + j := by show off + (j * 1 + 0) = off + j; omega
    rw [e] at this
    exact this
  · obtain rfl : bs = [] := List.eq_nil_of_length_eq_zero (by omega)
    have e0 : ([] : Bs).length = 0 := rfl
    rw [e0, run_convert_bytes_string (P := Try.prog) w 31 9 5 ao 0 c Try.underlying31 Try.underlying5 Try.underlying9]
    cases ao <;> simp [Conv.bytesToString, loadCells]
    all_goals rfl

theorem bat_lit (w : World) (bs : Bs) (t : TypeId) (fr : Nat × Nat) (c : Array Value) (hc : c = (bs.map (fun x => Value.int .u8 (x.toNat : Int))).toArray) (n : Nat) (hn : n = bs.length) (hb : bs.length ≤ 1000000) : BAt (w.alloc (.cells c t fr)) (.slice (some ⟨w.heap.size, 0, none⟩) n n) bs := by
  subst hc
  subst hn
  refine ⟨_, _, rfl, Nat.le_refl _, by omega, fun _ => ⟨w.heap.size, 0, rfl, by simp, fun i x hx j u hu => ?_⟩⟩
  have hj : j = 0 := by
    rcases Nat.eq_zero_or_pos j with q | q
    · exact q
    · rw [List.getElem?_eq_none (by show ([_] : List Value).length ≤ j; simp; omega)] at hu; cases hu
  subst hj
  have hi : i < bs.length := by
    rcases Nat.lt_or_ge i bs.length with q | q
    · exact q
    · rw [List.getElem?_eq_none q] at hx; cases hx
  have e : 0 + (i * encB.size + 0) = i := by show 0 + (i * 1 + 0) = i; omega
  rw [e, World.cell?_alloc_mark]
  rw [List.getElem?_eq_getElem hi] at hx
  cases hx
  simp [hi]
  simpa [encB] using hu

/-- One part. -/
theorem parts_one {w : World} {u : Value} {x : Bs} (h : BAt w u x) (t : TypeId) : PartsB (w.alloc (.cells #[u] t)) (.slice (some ⟨w.heap.size, 0, none⟩) 1 1) [x] := by
  refine ⟨_, 1, rfl, fun _ => ⟨w.heap.size, 0, rfl, by simp⟩, fun j y b off hy hb => ?_⟩
  cases hb
  have hj : j = 0 := by
    rcases Nat.eq_zero_or_pos j with q | q
    · exact q
    · rw [List.getElem?_eq_none (by simp; omega)] at hy; cases hy
  subst hj
  cases hy
  exact ⟨u, by simp, h.below (bz1 w _)⟩

/-- Two parts. -/
theorem parts_two {w : World} {u v : Value} {x y : Bs} (h : BAt w u x) (k : BAt w v y) (t : TypeId) : PartsB (w.alloc (.cells #[u, v] t)) (.slice (some ⟨w.heap.size, 0, none⟩) 2 2) [x, y] := by
  refine ⟨_, 2, rfl, fun _ => ⟨w.heap.size, 0, rfl, by simp⟩, fun j z b off hz hb => ?_⟩
  cases hb
  match j, hz with
  | 0, hz =>
    cases hz
    exact ⟨u, by simp, h.below (bz1 w _)⟩
  | 1, hz =>
    cases hz
    exact ⟨v, by simp, k.below (bz1 w _)⟩
  | j + 2, hz => simp at hz

/-- A part that is nil. -/
theorem parts_nil (w : World) (t : TypeId) : PartsB (w.alloc (.cells #[.slice none 0 0] t)) (.slice (some ⟨w.heap.size, 0, none⟩) 1 1) [[]] := parts_one ⟨none, 0, rfl, Nat.le_refl _, by omega, RdG.nil _ _ _⟩ t

theorem part_lit (w : World) (bs : Bs) (t t' : TypeId) (fr : Nat × Nat) (c : Array Value) (hc : c = (bs.map (fun x => Value.int .u8 (x.toNat : Int))).toArray) (n : Nat) (hn : n = bs.length) (hb : bs.length ≤ 1000000) :
    PartsB ((w.alloc (.cells c t fr)).alloc (.cells #[.slice (some ⟨w.heap.size, 0, none⟩) n n] t')) (.slice (some ⟨w.heap.size + 1, 0, none⟩) 1 1) [bs] := by
  have := parts_one (bat_lit w bs t fr c hc n hn hb) t'
  rw [show (w.alloc (.cells c t fr)).heap.size = w.heap.size + 1 by simp] at this
  exact this

theorem Dk.ok0 : dk0.ok := ⟨List.Pairwise.nil, (by decide), (by intro f h; cases h), (by decide)⟩

end Go.Proofs.Ytlhlipjbcapidaa
