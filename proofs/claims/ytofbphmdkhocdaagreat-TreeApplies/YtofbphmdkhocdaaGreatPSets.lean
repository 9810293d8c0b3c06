/-
  The methods of a path set, and Parts, each by a contract: Paths, Has, Any, Parts. No condition but that no text is longer than any text can be.
-/
import Derived.Test.YtofbphmdkhocdaaGreatPLimit
namespace Go.Proofs.YtofbphmdkhocdaaGreat
open Go.RowKit

set_option maxHeartbeats 800000 in
set_option maxRecDepth 100000 in
theorem paths_any {ao : Option Addr} {c n : Nat} {ss : List Bs} (w : World) (ha : Rd w ao ss) (hl : ss.length = n) (hn : n ≤ 8796093022208) :
    Calls Tryz.prog 11 #[.agg #[.slice ao n c]] w fun e w' => ∃ v', e = .returned v' ∧ Own w' w.heap.size v' ss ∧ Below w.heap.size w w' := by
  have hb0 : Below w.heap.size w (w.alloc (.cells #[.slice ao n c] 26)) := (Below.refl _ w).alloc (Nat.le_refl _) _
  have h := pclone_any (c := c) (w.alloc (.cells #[.slice ao n c] 26)) (ha.below hb0) hl hn
  have B0 : Hid (Below w.heap.size w (w.alloc (.cells #[.slice ao n c] 26))) := hb0
  clear ha hl hb0
  go_enter Tryz.func11, Tryz.ntmps11
  go_wp2_with fail
  refine h.mono ?_
  rintro e w' ⟨v', rfl, ho, hb⟩
  have O : Hid (Own w' (w.alloc (.cells #[.slice ao n c] 26)).heap.size v' ss ∧ Below (w.alloc (.cells #[.slice ao n c] 26)).heap.size (w.alloc (.cells #[.slice ao n c] 26)) w') := ⟨ho, hb⟩
  clear ho hb
  go_wp2
  go_ret
  exact ⟨_, rfl, own_low O.out.1 (by simp), B0.out.trans (O.out.2.mono (by simp))⟩

/-- Has a set of these paths a text? -/
def hasS (ss : List Bs) (x : Bs) : Bool := isPath x && (ss.isEmpty || ss.any (under x))

set_option maxHeartbeats 1600000 in
set_option maxRecDepth 100000 in
theorem has_any {ao : Option Addr} {c n : Nat} {ss : List Bs} (x : Bs) (w : World) (ha : Rd w ao ss) (hl : ss.length = n) (hn : n ≤ 4000000000000000000) (hx : x.length ≤ 9223372036854775807) (f : Bool) (hf : hasS ss x = f) :
    Calls Tryz.prog 33 #[.agg #[.slice ao n c], .string ⟨x.toArray⟩] w fun e w' => e = .returned (.bool f) ∧ Below w.heap.size w w' := by
  subst hf
  have hb0 : Below w.heap.size w (w.alloc (.cells #[.slice ao n c] 26)) := (Below.refl _ w).alloc (Nat.le_refl _) _
  obtain ⟨g, hg⟩ : ∃ g, isPath x = g := ⟨_, rfl⟩
  have hck := pcheck_at ⟨x.toArray⟩ (by rw [bsize]; exact hx) g hg
  rw [hasS, hg]
  cases g with
  | false =>
    rw [show err false = 2 from rfl] at hck
    rw [Bool.false_and]
    have B0 : Hid (Below w.heap.size w (w.alloc (.cells #[.slice ao n c] 26))) := hb0
    clear ha hl hb0 hg
    go_enter Tryz.func33, Tryz.ntmps33
    go_wp2_with fail
    refine (hck _).mono ?_
    rintro e w' ⟨rfl, m, rfl⟩
    go_wp2
    go_ret
    exact ⟨rfl, below_drewN B0.out m⟩
  | true =>
    rw [show err true = 0 from rfl] at hck
    rw [Bool.true_and]
    by_cases h0 : n = 0
    · obtain rfl : ss = [] := List.eq_nil_of_length_eq_zero (by omega)
      subst h0
      have B0 : Hid (Below w.heap.size w (w.alloc (.cells #[.slice ao 0 c] 26))) := hb0
      clear ha hl hb0 hg
      go_enter Tryz.func33, Tryz.ntmps33
      go_wp2_with fail
      refine (hck _).mono ?_
      rintro e w' ⟨rfl, m, rfl⟩
      go_wp2
      go_ret
      exact ⟨rfl, below_drewN B0.out m⟩
    · have h0' : ¬ (n : Int) = 0 := by omega
      have he : ss.isEmpty = false := by cases ss with
        | nil => simp at hl; omega
        | cons => rfl
      rw [he, Bool.false_or]
      obtain ⟨f, hf⟩ : ∃ f, ss.any (under x) = f := ⟨_, rfl⟩
      rw [hf]
      have hun := fun m => underOne_any (c := c) x ((w.alloc (.cells #[.slice ao n c] 26)).drewN m) ((ha.below hb0).below (below_drewN (Below.refl _ _) m)) hl hn f hf
      have B0 : Hid (Below w.heap.size w (w.alloc (.cells #[.slice ao n c] 26))) := hb0
      clear ha hl hb0 hg he hf h0
      go_enter Tryz.func33, Tryz.ntmps33
      go_wp2_with fail
      refine (hck _).mono ?_
      rintro e w' ⟨rfl, m, rfl⟩
      go_wp2_with fail
      refine (hun m).mono ?_
      rintro e w' ⟨rfl, hb⟩
      go_wp2
      go_ret
      refine ⟨?_, (below_drewN B0.out m).trans (hb.mono (by simp))⟩
      show Ending.returned (Value.bool ((n : Int) == 0 || f)) = _
      rw [show ((n : Int) == 0) = false by simpa using h0', Bool.false_or]

theorem enters24 : ∀ args w, (callFunc 33 args).run Tryz.prog w = .ok (.enter 33 args) w := enters_of Tryz.func33 (by kernel_rfl) rfl

/-- The parts of a text that end ahead of its first i bytes' slashes. -/
def pre (p : Bs) : Nat → List Bs
  | 0 => []
  | i + 1 => if p[i]? = some 47 then pre p i ++ [p.take i] else pre p i
def parts (p : Bs) : List Bs := if isPath p then pre p p.length ++ [p] else []

theorem pre_len (p : Bs) : ∀ i, (pre p i).length ≤ i
  | 0 => by simp [pre]
  | i + 1 => by
    have := pre_len p i
    unfold pre
    split
    · simp; omega
    · omega

theorem path_len {p : Bs} (h : isPath p = true) : p.length ≤ 102 := by
  rw [← refIs_eq, refIs, Bool.and_eq_true] at h
  simpa using h.1

set_option maxHeartbeats 1600000 in
set_option maxRecDepth 100000 in
theorem parts_any (p : ByteArray) (hm : p.size ≤ 9223372036854775807) (w : World) :
    Calls Tryz.prog 47 #[.string p] w fun e w' => ∃ v', e = .returned v' ∧ Own w' w.heap.size v' (parts p.data.toList) ∧ Below w.heap.size w w' := by
  obtain ⟨g, hg⟩ : ∃ g, isPath p.data.toList = g := ⟨_, rfl⟩
  have hck := pcheck_at p hm g hg
  have E : Hid (p.size = p.data.toList.length) := bsize p
  rw [parts, hg]
  cases g with
  | false =>
    rw [show err false = 2 from rfl] at hck
    clear hg
    go_enter Tryz.func47, Tryz.ntmps47
    go_wp2_with fail
    refine (hck _).mono ?_
    rintro e w' ⟨rfl, m, rfl⟩
    go_wp2
    go_ret
    exact ⟨_, rfl, Own.nil _ _, below_drewN (Below.refl _ _) m⟩
  | true =>
    rw [show err true = 0 from rfl] at hck
    have hp : p.size ≤ 102 := by rw [E.out]; exact path_len hg
    clear hg
    rw [if_pos rfl]
    go_enter Tryz.func47, Tryz.ntmps47
    go_wp2_with fail
    refine (hck _).mono ?_
    rintro e w' ⟨rfl, m, rfl⟩
    go_wp2_with fail
    go_loopg [3, 10] p.size (fun k kv v wr => ∃ (i : Nat), v = .int .i64 i ∧ i + k = p.size ∧ Hid (Own wr w.heap.size kv (pre p.data.toList i) ∧ Below w.heap.size w wr))
    case atStart => exact ⟨0, rfl, by omega, Own.nil _ _, below_drewN (Below.refl _ _) m⟩
    case round =>
      obtain ⟨i, rfl, hi, HK⟩ := hrel
      have hlen := pre_len p.data.toList i
      by_cases hin : i < p.size
      · have hget : p.data.toList[i]? = some p[i] := by rw [List.getElem?_eq_getElem (by rw [← E.out]; exact hin)]; rfl
        obtain ⟨c, hc⟩ : ∃ c : Int, (p[i].toNat : Int) = c := ⟨_, rfl⟩
        by_cases h47 : c = 47
        · have hpre : pre p.data.toList (i + 1) = pre p.data.toList i ++ [p.data.toList.take i] := by
            have : p[i] = 47 := UInt8.toNat_inj.1 (show p[i].toNat = 47 by omega)
            rw [pre, hget, this, if_pos rfl]
          have PR : Hid _ := hpre
          subst h47
          clear hpre hget
          go_wp2_with fail
          go_quiet (fail)
          go_wp2_with (at_builtin; rw [ext_take]; refine app_one rfl (.tmp 18) (.tmp 22) rfl w.heap.size _ (pre p.data.toList i) (p.data.toList.take i) _ rfl (HK.out.1.below (below_drewN (Below.refl _ _) nq)) rfl (by omega) HK.out.2.size ?_; intro v' w4 hown4 hbel4)
          go_roundg (gk - 1)
          case measure => omega
          case rel => exact ⟨i + 1, by go_num, by omega, by rw [PR.out]; exact hown4, (below_drewN HK.out.2 _).trans hbel4⟩
        · have hpre : pre p.data.toList (i + 1) = pre p.data.toList i := by
            rw [pre, hget, if_neg]
            intro e
            have : p[i] = 47 := by simpa using e
            rw [this] at hc
            exact h47 hc.symm
          have PR : Hid _ := hpre
          clear hpre hget
          go_wp2_with fail
          go_quiet (fail)
          have hne : (c == ((({ data := #[47] } : ByteArray)[0]'(by decide)).toNat : Int)) = false := by
            rw [beq_eq_false_iff_ne]
            exact h47
          go_wp2
          go_roundg (gk - 1)
          case measure => omega
          case rel => exact ⟨i + 1, by go_num, by omega, by rw [PR.out]; exact HK.out.1.below (below_drewN (Below.refl _ _) _), below_drewN HK.out.2 _⟩
      · obtain rfl : i = p.size := by omega
        rw [E.out] at HK hlen
        have hl2 : p.data.toList.length ≤ 102 := by rw [← E.out]; exact hp
        clear hin
        go_wp2_with (at_builtin; refine app_one rfl (.tmp 25) (.tmp 27) rfl w.heap.size _ (pre p.data.toList p.data.toList.length) p.data.toList _ rfl HK.out.1 rfl (by omega) HK.out.2.size ?_; intro v' w4 hown4 hbel4)
        go_ret
        exact ⟨_, rfl, hown4, HK.out.2.trans hbel4⟩

end Go.Proofs.YtofbphmdkhocdaaGreat
