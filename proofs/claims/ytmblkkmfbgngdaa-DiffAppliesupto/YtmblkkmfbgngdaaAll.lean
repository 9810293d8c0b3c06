/-
  Match and Hunks, the program's and the reference's, of whatever lists: the document's answer and its error. No condition.
-/
import Derived.Test.YtmblkkmfbgngdaaHunks
import Derived.Test.YtmblkkmfbgngdaaRHunks
namespace Go.Proofs.Ytmblkkmfbgngdaa
open Go.RowKit

/-- What the document asks of Match and of Hunks: the pairs, the hunks, the error. -/
def mAns (xs ys : List Bs) : List (Int × Int) := if 256 < xs.length ∨ 256 < ys.length then [] else matchL xs ys
def hAns (xs ys : List Bs) : List Hk := if 256 < xs.length ∨ 256 < ys.length then [] else hunksL xs ys
def eAns (xs ys : List Bs) : Int := if 256 < xs.length ∨ 256 < ys.length then 4 else 0

theorem match_all {ao bo : Option Addr} {c d n m : Nat} {xs ys : List Bs} (w : World) (ha : Rd w ao xs) (hb : Rd w bo ys) (hl : xs.length = n) (hk : ys.length = m) (P : List (Int × Int)) (hP : mAns xs ys = P) (ee : Int) (he : eAns xs ys = ee) :
    Calls Try.prog 9 #[.slice ao n c, .slice bo m d] w fun e w' => ∃ v', e = .returned (.tuple #[v', .int .i64 ee]) ∧ OwnG encP 39 w' w.heap.size v' P ∧ Below w.heap.size w w' := by
  unfold mAns at hP
  unfold eAns at he
  by_cases h : 256 < xs.length ∨ 256 < ys.length
  · rw [if_pos h] at hP he
    subst hP he
    refine (match_long (ao := ao) (bo := bo) (c := c) (d := d) w (by omega)).mono ?_
    rintro e w' ⟨rfl, rfl⟩
    exact ⟨_, rfl, OwnG.nil _ _ _ _, Below.refl _ _⟩
  · rw [if_neg h] at hP he
    subst hP he
    exact match_any w ha hb hl hk (by omega) (by omega)

theorem rmatch_all {ao bo : Option Addr} {c d n m : Nat} {xs ys : List Bs} (w : World) (ha : Rd w ao xs) (hb : Rd w bo ys) (hl : xs.length = n) (hk : ys.length = m) (P : List (Int × Int)) (hP : mAns xs ys = P) (ee : Int) (he : eAns xs ys = ee) :
    Calls Try.prog 10 #[.slice ao n c, .slice bo m d] w fun e w' => ∃ v', e = .returned (.tuple #[v', .int .i64 ee]) ∧ OwnG encP 40 w' w.heap.size v' P ∧ Below w.heap.size w w' := by
  unfold mAns at hP
  unfold eAns at he
  by_cases h : 256 < xs.length ∨ 256 < ys.length
  · rw [if_pos h] at hP he
    subst hP he
    refine (rmatch_long (ao := ao) (bo := bo) (c := c) (d := d) w (by omega)).mono ?_
    rintro e w' ⟨rfl, rfl⟩
    exact ⟨_, rfl, OwnG.nil _ _ _ _, Below.refl _ _⟩
  · rw [if_neg h] at hP he
    subst hP he
    exact rmatch_any w ha hb hl hk (by omega) (by omega)

theorem hunks_all {ao bo : Option Addr} {c d n m : Nat} {xs ys : List Bs} (w : World) (ha : Rd w ao xs) (hb : Rd w bo ys) (hl : xs.length = n) (hk : ys.length = m) (hc : n ≤ c) (hd : m ≤ d) (Hs : List Hk) (hP : hAns xs ys = Hs) (ee : Int) (he : eAns xs ys = ee) :
    Calls Try.prog 11 #[.slice ao n c, .slice bo m d] w fun e w' => ∃ v' vs, e = .returned (.tuple #[v', .int .i64 ee]) ∧ OwnG encH 46 w' w.heap.size v' vs ∧ Hks w' vs Hs ∧ Below w.heap.size w w' := by
  unfold hAns at hP
  unfold eAns at he
  by_cases h : 256 < xs.length ∨ 256 < ys.length
  · rw [if_pos h] at hP he
    subst hP he
    refine (hunks_long (ao := ao) (bo := bo) (c := c) (d := d) w (by omega)).mono ?_
    rintro e w' ⟨rfl, rfl⟩
    exact ⟨_, _, rfl, OwnG.nil _ _ _ _, Hks.nil _, Below.refl _ _⟩
  · rw [if_neg h] at hP he
    subst hP he
    exact hunks_any w ha hb hl hk (by omega) (by omega) hc hd

theorem rhunks_all {ao bo : Option Addr} {c d n m : Nat} {xs ys : List Bs} (w : World) (ha : Rd w ao xs) (hb : Rd w bo ys) (hl : xs.length = n) (hk : ys.length = m) (hc : n ≤ c) (hd : m ≤ d) (Hs : List Hk) (hP : hAns xs ys = Hs) (ee : Int) (he : eAns xs ys = ee) :
    Calls Try.prog 12 #[.slice ao n c, .slice bo m d] w fun e w' => ∃ v' vs, e = .returned (.tuple #[v', .int .i64 ee]) ∧ OwnG encH 47 w' w.heap.size v' vs ∧ Hks w' vs Hs ∧ Below w.heap.size w w' := by
  unfold hAns at hP
  unfold eAns at he
  by_cases h : 256 < xs.length ∨ 256 < ys.length
  · rw [if_pos h] at hP he
    subst hP he
    refine (rhunks_long (ao := ao) (bo := bo) (c := c) (d := d) w (by omega)).mono ?_
    rintro e w' ⟨rfl, rfl⟩
    exact ⟨_, _, rfl, OwnG.nil _ _ _ _, Hks.nil _, Below.refl _ _⟩
  · rw [if_neg h] at hP he
    subst hP he
    exact rhunks_any w ha hb hl hk (by omega) (by omega) hc hd

theorem mAns_len (xs ys : List Bs) : (mAns xs ys).length ≤ 256 := by
  unfold mAns
  split
  · simp
  · have := match_len 0 0 xs ys
    have := (lcs_len xs ys).1
    unfold matchL
    omega

theorem hAns_len (xs ys : List Bs) : (hAns xs ys).length ≤ 257 := by
  have h1 := mAns_len xs ys
  unfold mAns at h1
  unfold hAns
  split
  · simp
  · rename_i h
    rw [if_neg h] at h1
    have h2 := hunks_len (xs := xs) (ys := ys) (endsN xs ys) 0 0
    rw [ends_len] at h2
    unfold hunksL
    omega

theorem hAns_low (xs ys : List Bs) : ∀ h ∈ hAns xs ys, h.gone.length ≤ 256 ∧ h.new.length ≤ 256 := by
  intro h hm
  unfold hAns at hm
  split at hm
  · simp at hm
  · have := hunks_low _ _ _ (fit_ends xs ys) h hm
    omega

end Go.Proofs.Ytmblkkmfbgngdaa
