import Derived.Test.YtijchmcajhdcoaaGreatDoorEGram
import Derived.Test.YtijchmcajhdcoaaGreatDoorETokW
/-!
  The text of a tree, as tokens and blanks, and that the grammar reads the tree again of them, but for the places. No program, no condition.
-/
namespace Go.Proofs.YtijchmcajhdcoaaGreatDoor
open Go.RowKit

def Fo.e : Fo → Fo
  | .nil => .nil
  | .cons op text num id kids _ next => .cons op text num id kids.e 0 next.e
/-- A tree without its places. -/
def Nd.e (n : Nd) : Nd := ⟨n.op, n.text, n.num, n.id, n.kids.e, 0⟩

def sgT (s : Bs) : Tk := ⟨5, s, 0, 0, 0⟩
def nmT (x : Bs) : Tk := ⟨1, x, 0, 0, 0⟩
def nuT (k : Int) : Tk := ⟨2, [], k, 0, 0⟩
def txT (x : Bs) : Tk := ⟨3, x, 0, 0, 0⟩
def haT (i : Int) : Tk := ⟨4, [], 0, i, 0⟩

/-- A token, or a blank. -/
abbrev Pc := Option Tk
/-- A kid's text, in brackets if its level is too low. -/
def inB (want : Int) (k : Int × List Pc) : List Pc := if lvl k.1 < want then some (sgT [40]) :: (k.2 ++ [some (sgT [41])]) else k.2
/-- The texts of a call's kids. -/
def argB : List (Int × List Pc) → List Pc
  | [] => []
  | [k] => k.2
  | k :: m :: r => k.2 ++ some (sgT [44]) :: none :: argB (m :: r)
def opT (op : Int) : Bs := if op = 6 then [124] else if op = 7 then [45] else if op = 8 then [38] else if op = 9 then [46, 46] else [58, 58]
def pcs (op : Int) (text : Bs) (num id : Int) : List (Int × List Pc) → List Pc
  | ks => if op = 2 then [some (haT id)] else if op = 3 then [some (nuT num)] else if op = 4 then [some (txT text)]
    else if op = 5 then some (nmT text) :: some (sgT [40]) :: (argB ks ++ [some (sgT [41])])
    else if op = 6 ∨ op = 7 then (match ks with | [a, b] => inB 1 a ++ none :: some (sgT (opT op)) :: none :: inB 2 b | _ => [])
    else if op = 8 then (match ks with | [a, b] => inB 2 a ++ none :: some (sgT (opT op)) :: none :: inB 3 b | _ => [])
    else if op = 9 ∨ op = 10 then (match ks with | [a, b] => inB 4 a ++ some (sgT (opT op)) :: inB 4 b | _ => [])
    else if op = 11 then (match ks with | [a] => some (sgT [33]) :: inB 4 a | _ => [])
    else if op = 12 then (match ks with | [a] => inB 5 a ++ some (sgT [94]) :: (if num = 0 then [] else [some (nuT num)]) | _ => [])
    else [some (nmT text)]
/-- The texts of a row of trees, each with its op. -/
def fps : Fo → List (Int × List Pc)
  | .nil => []
  | .cons op text num id kids _ next => (op, pcs op text num id (fps kids)) :: fps next
def Nd.ps (n : Nd) : List Pc := pcs n.op n.text n.num n.id (fps n.kids)
def toks (l : List Pc) : List Tk := l.filterMap id
theorem toks_app (a b : List Pc) : toks (a ++ b) = toks a ++ toks b := by simp [toks]
theorem toks_some (t : Tk) (l : List Pc) : toks (some t :: l) = t :: toks l := by simp [toks]
theorem toks_none (l : List Pc) : toks (none :: l) = toks l := by simp [toks]

def len : Fo → Nat
  | .nil => 0
  | .cons _ _ _ _ _ _ next => len next + 1
/-- A tree's own fields are such as can be read. -/
def WfN (op : Int) (text : Bs) (num id : Int) (k : Nat) : Prop :=
  (op = 1 ∧ Gd (nmT text) ∧ num = 0 ∧ id = 0 ∧ k = 0) ∨ (op = 2 ∧ text = [] ∧ num = 0 ∧ Gd (haT id) ∧ k = 0) ∨ (op = 3 ∧ text = [] ∧ Gd (nuT num) ∧ id = 0 ∧ k = 0) ∨ (op = 4 ∧ Gd (txT text) ∧ num = 0 ∧ id = 0 ∧ k = 0) ∨
  (op = 5 ∧ Gd (nmT text) ∧ text ≠ [] ∧ num = 0 ∧ id = 0) ∨ ((op = 6 ∨ op = 7 ∨ op = 8 ∨ op = 9 ∨ op = 10) ∧ text = [] ∧ num = 0 ∧ id = 0 ∧ k = 2) ∨ (op = 11 ∧ text = [] ∧ num = 0 ∧ id = 0 ∧ k = 1) ∨
  (op = 12 ∧ text = [] ∧ (num = 0 ∨ num ≠ 0 ∧ Gd (nuT num)) ∧ id = 0 ∧ k = 1)
def Wf : Fo → Prop
  | .nil => True
  | .cons op text num id kids _ next => WfN op text num id (len kids) ∧ Wf kids ∧ Wf next

/-! ### The grammar reads it again -/

/-- What may follow a tree. -/
structure Fw (r : List Tk) : Prop where
  up : hd (sB [94]) r = false
  op : hd (sB [40]) r = false
  nu : hd (kB 2) r = false

/-- Tokens but for their places. -/
def Az (A B : List Tk) : Prop := A.map Tk.z = B
theorem Az.app {A B C : List Tk} (h : Az A (B ++ C)) : ∃ X Y, A = X ++ Y ∧ Az X B ∧ Az Y C := by
  obtain ⟨X, Y, e, h1, h2⟩ := List.map_eq_append_iff.1 h
  exact ⟨X, Y, e, h1, h2⟩
theorem Az.cons {A B : List Tk} {t : Tk} (h : Az A (t :: B)) : ∃ u Y, A = u :: Y ∧ u.z = t ∧ Az Y B := by
  obtain ⟨u, Y, e, h1, h2⟩ := List.map_eq_cons_iff.1 h
  exact ⟨u, Y, e, h1, h2⟩
theorem Az.nil {A : List Tk} (h : Az A []) : A = [] := by simpa [Az] using h

theorem z_sB {u : Tk} {s : Bs} (h : u.z = sgT s) : sB s u = true := by
  have h1 : u.kind = 5 := congrArg Tk.kind h
  have h2 : u.text = s := congrArg Tk.text h
  simp [sB, h1, h2]
theorem z_sgl {u : Tk} {s : Bs} (h : u.z = sgT s) : sgl u = if opOf s ≠ 0 then lvl (opOf s) else 0 := by
  have h1 : u.kind = 5 := congrArg Tk.kind h
  have h2 : u.text = s := congrArg Tk.text h
  unfold sgl
  rw [h2]
  by_cases q : opOf s = 0 <;> simp [h1, q]

/-- What the grammar makes of a tree's tokens, by the tree's level. -/
structure Cl (E : Int) (op : Int) (B : List Tk) (n : Nd) : Prop where
  c1 : ∀ A, Az A B → ∃ m, m.e = n.e ∧ ∀ r o, Fw r → hd (lB 3) r = false → hd (lB 2) r = false → Gm E (.rows 1 m) r o → Gm E (.row 1) (A ++ r) o
  c2 : 2 ≤ lvl op → ∀ A, Az A B → ∃ m, m.e = n.e ∧ ∀ r o, Fw r → hd (lB 3) r = false → Gm E (.rows 2 m) r o → Gm E (.row 2) (A ++ r) o
  c3 : 3 ≤ lvl op → ∀ A, Az A B → ∃ m, m.e = n.e ∧ ∀ r, Fw r → hd (lB 3) r = false → Gm E .range (A ++ r) (.ok m r)
  c4 : 4 ≤ lvl op → ∀ A, Az A B → ∃ m, m.e = n.e ∧ ∀ r, Fw r → Gm E .unary (A ++ r) (.ok m r)
  c5 : 5 ≤ lvl op → ∀ A, Az A B → ∃ m, m.e = n.e ∧ ∀ r o, hd (sB [40]) r = false → hd (kB 2) r = false → Gm E (.ups m) r o → Gm E .post (A ++ r) o
  c6 : 6 ≤ lvl op → ∀ A, Az A B → ∃ m, m.e = n.e ∧ ∀ r, hd (sB [40]) r = false → Gm E .atom (A ++ r) (.ok m r)

theorem atom_head {E : Int} {l r : List Tk} {n : Nd} (h : Gm E .atom l (.ok n r)) : hd (sB [33]) l = false := by
  cases h with
  | leaf h5 _ => simp [hd, sB, h5]
  | brac ht _ _ =>
    obtain ⟨a, b⟩ : _ ∧ _ := by simpa [sB] using ht
    simp [hd, sB, b]
  | call0 hk _ _ _ => simp [hd, sB, hk]
  | call hk _ _ _ _ _ => simp [hd, sB, hk]
theorem post_head {E : Int} {l r : List Tk} {n : Nd} (h : Gm E .post l (.ok n r)) : hd (sB [33]) l = false := by
  cases h with
  | post ha _ => exact atom_head ha

theorem low5 (E : Int) {A : List Tk} {m : Nd} (h : ∀ r, hd (sB [40]) r = false → Gm E .atom (A ++ r) (.ok m r)) : ∀ r o, hd (sB [40]) r = false → hd (kB 2) r = false → Gm E (.ups m) r o → Gm E .post (A ++ r) o :=
  fun r _ h1 _ h3 => .post (h r h1) h3
theorem low4 (E : Int) {A : List Tk} {m : Nd} (h : ∀ r o, hd (sB [40]) r = false → hd (kB 2) r = false → Gm E (.ups m) r o → Gm E .post (A ++ r) o) : ∀ r, Fw r → Gm E .unary (A ++ r) (.ok m r) := by
  intro r hf
  have := h r (.ok m r) hf.op hf.nu (.upped hf.up)
  exact .unary (post_head this) this
theorem low3 (E : Int) {A : List Tk} {m : Nd} (h : ∀ r, Fw r → Gm E .unary (A ++ r) (.ok m r)) : ∀ r, Fw r → hd (lB 3) r = false → Gm E .range (A ++ r) (.ok m r) :=
  fun r hf h3 => .range1 (h r hf) h3
theorem low2 (E : Int) {A : List Tk} {m : Nd} (h : ∀ r, Fw r → hd (lB 3) r = false → Gm E .range (A ++ r) (.ok m r)) : ∀ r o, Fw r → hd (lB 3) r = false → Gm E (.rows 2 m) r o → Gm E (.row 2) (A ++ r) o :=
  fun r _ hf h3 h4 => .row (.inr rfl) (h r hf h3) h4
theorem low1 (E : Int) {A : List Tk} {m : Nd} (h : ∀ r o, Fw r → hd (lB 3) r = false → Gm E (.rows 2 m) r o → Gm E (.row 2) (A ++ r) o) : ∀ r o, Fw r → hd (lB 3) r = false → hd (lB 2) r = false → Gm E (.rows 1 m) r o → Gm E (.row 1) (A ++ r) o :=
  fun r _ hf h3 h2 h4 => .row (.inl rfl) (h r (.ok m r) hf h3 (.done h2)) h4

section
variable {E : Int} {op : Int} {B : List Tk} {n : Nd}
theorem Cl.of6 (h : ∀ A, Az A B → ∃ m, m.e = n.e ∧ ∀ r, hd (sB [40]) r = false → Gm E .atom (A ++ r) (.ok m r)) : Cl E op B n := by
  refine ⟨fun A hA => ?_, fun _ A hA => ?_, fun _ A hA => ?_, fun _ A hA => ?_, fun _ A hA => ?_, fun _ => h⟩ <;> obtain ⟨m, e, k⟩ := h A hA
  · exact ⟨m, e, low1 E (low2 E (low3 E (low4 E (low5 E k))))⟩
  · exact ⟨m, e, low2 E (low3 E (low4 E (low5 E k)))⟩
  · exact ⟨m, e, low3 E (low4 E (low5 E k))⟩
  · exact ⟨m, e, low4 E (low5 E k)⟩
  · exact ⟨m, e, low5 E k⟩
theorem Cl.of5 (hop : lvl op = 5) (h : ∀ A, Az A B → ∃ m, m.e = n.e ∧ ∀ r o, hd (sB [40]) r = false → hd (kB 2) r = false → Gm E (.ups m) r o → Gm E .post (A ++ r) o) : Cl E op B n := by
  refine ⟨fun A hA => ?_, fun _ A hA => ?_, fun _ A hA => ?_, fun _ A hA => ?_, fun _ => h, fun q => by omega⟩ <;> obtain ⟨m, e, k⟩ := h A hA
  · exact ⟨m, e, low1 E (low2 E (low3 E (low4 E k)))⟩
  · exact ⟨m, e, low2 E (low3 E (low4 E k))⟩
  · exact ⟨m, e, low3 E (low4 E k)⟩
  · exact ⟨m, e, low4 E k⟩
theorem Cl.of4 (hop : lvl op = 4) (h : ∀ A, Az A B → ∃ m, m.e = n.e ∧ ∀ r, Fw r → Gm E .unary (A ++ r) (.ok m r)) : Cl E op B n := by
  refine ⟨fun A hA => ?_, fun _ A hA => ?_, fun _ A hA => ?_, fun _ => h, fun q => by omega, fun q => by omega⟩ <;> obtain ⟨m, e, k⟩ := h A hA
  · exact ⟨m, e, low1 E (low2 E (low3 E k))⟩
  · exact ⟨m, e, low2 E (low3 E k)⟩
  · exact ⟨m, e, low3 E k⟩
theorem Cl.of3 (hop : lvl op = 3) (h : ∀ A, Az A B → ∃ m, m.e = n.e ∧ ∀ r, Fw r → hd (lB 3) r = false → Gm E .range (A ++ r) (.ok m r)) : Cl E op B n := by
  refine ⟨fun A hA => ?_, fun _ A hA => ?_, fun _ => h, fun q => by omega, fun q => by omega, fun q => by omega⟩ <;> obtain ⟨m, e, k⟩ := h A hA
  · exact ⟨m, e, low1 E (low2 E k)⟩
  · exact ⟨m, e, low2 E k⟩
theorem Cl.of2 (hop : lvl op = 2) (h : ∀ A, Az A B → ∃ m, m.e = n.e ∧ ∀ r o, Fw r → hd (lB 3) r = false → Gm E (.rows 2 m) r o → Gm E (.row 2) (A ++ r) o) : Cl E op B n := by
  refine ⟨fun A hA => ?_, fun _ => h, fun q => by omega, fun q => by omega, fun q => by omega, fun q => by omega⟩
  obtain ⟨m, e, k⟩ := h A hA
  exact ⟨m, e, low1 E k⟩
theorem Cl.of1 (hop : lvl op = 1) (h : ∀ A, Az A B → ∃ m, m.e = n.e ∧ ∀ r o, Fw r → hd (lB 3) r = false → hd (lB 2) r = false → Gm E (.rows 1 m) r o → Gm E (.row 1) (A ++ r) o) : Cl E op B n :=
  ⟨h, fun q => by omega, fun q => by omega, fun q => by omega, fun q => by omega, fun q => by omega⟩
end

theorem fw_of {u : Tk} {r : List Tk} {s : Bs} (h : u.z = sgT s) (h94 : s ≠ [94]) (h40 : s ≠ [40]) : Fw (u :: r) := by
  have h1 : u.kind = 5 := congrArg Tk.kind h
  have h2 : u.text = s := congrArg Tk.text h
  exact ⟨by simp [hd, sB, h2, h94], by simp [hd, sB, h2, h40], by simp [hd, kB, h1]⟩
theorem hd_lB {u : Tk} {r : List Tk} {s : Bs} (h : u.z = sgT s) (L : Int) (hL : (if opOf s ≠ 0 then lvl (opOf s) else 0) ≠ L) : hd (lB L) (u :: r) = false := by
  rw [← z_sgl h] at hL
  simp [hd, lB, hL]

/-- In brackets a tree is an atom. -/
theorem Cl.brac {E : Int} {op : Int} {B : List Tk} {n : Nd} (h : Cl E op B n) : ∀ A, Az A (sgT [40] :: (B ++ [sgT [41]])) → ∃ m, m.e = n.e ∧ ∀ r, hd (sB [40]) r = false → Gm E .atom (A ++ r) (.ok m r) := by
  intro A hA
  obtain ⟨u, Y, rfl, hu, hY⟩ := hA.cons
  obtain ⟨X, Z, rfl, hX, hZ⟩ := hY.app
  obtain ⟨v, W, rfl, hv, hW⟩ := hZ.cons
  obtain rfl := hW.nil
  obtain ⟨m, e, k⟩ := h.c1 X hX
  refine ⟨m, e, fun r _ => ?_⟩
  have h1 := k (v :: r) (.ok m (v :: r)) (fw_of hv (by decide) (by decide)) (hd_lB hv 3 (by decide)) (hd_lB hv 2 (by decide)) (.done (hd_lB hv 1 (by decide)))
  have := Gm.brac (z_sB hu) h1 (z_sB hv)
  simpa using this

theorem toks_in (want : Int) (k : Int × List Pc) : toks (inB want k) = if lvl k.1 < want then sgT [40] :: (toks k.2 ++ [sgT [41]]) else toks k.2 := by
  unfold inB
  split
  · rw [toks_some, toks_app, toks_some]; rfl
  · rfl

section
variable {E : Int} {op : Int} {B : List Pc} {n : Nd}
theorem Cl.w5 (h : Cl E op (toks B) n) : ∀ A, Az A (toks (inB 5 (op, B))) → ∃ m, m.e = n.e ∧ ∀ r o, hd (sB [40]) r = false → hd (kB 2) r = false → Gm E (.ups m) r o → Gm E .post (A ++ r) o := by
  intro A hA
  rw [toks_in] at hA
  split at hA
  · obtain ⟨m, e, k⟩ := h.brac A hA
    exact ⟨m, e, low5 E k⟩
  · rename_i q
    exact h.c5 (by simp only at q; omega) A hA
theorem Cl.w4 (h : Cl E op (toks B) n) : ∀ A, Az A (toks (inB 4 (op, B))) → ∃ m, m.e = n.e ∧ ∀ r, Fw r → Gm E .unary (A ++ r) (.ok m r) := by
  intro A hA
  rw [toks_in] at hA
  split at hA
  · obtain ⟨m, e, k⟩ := h.brac A hA
    exact ⟨m, e, low4 E (low5 E k)⟩
  · rename_i q
    exact h.c4 (by simp only at q; omega) A hA
theorem Cl.w3 (h : Cl E op (toks B) n) : ∀ A, Az A (toks (inB 3 (op, B))) → ∃ m, m.e = n.e ∧ ∀ r, Fw r → hd (lB 3) r = false → Gm E .range (A ++ r) (.ok m r) := by
  intro A hA
  rw [toks_in] at hA
  split at hA
  · obtain ⟨m, e, k⟩ := h.brac A hA
    exact ⟨m, e, low3 E (low4 E (low5 E k))⟩
  · rename_i q
    exact h.c3 (by simp only at q; omega) A hA
theorem Cl.w2 (h : Cl E op (toks B) n) : ∀ A, Az A (toks (inB 2 (op, B))) → ∃ m, m.e = n.e ∧ ∀ r o, Fw r → hd (lB 3) r = false → Gm E (.rows 2 m) r o → Gm E (.row 2) (A ++ r) o := by
  intro A hA
  rw [toks_in] at hA
  split at hA
  · obtain ⟨m, e, k⟩ := h.brac A hA
    exact ⟨m, e, low2 E (low3 E (low4 E (low5 E k)))⟩
  · rename_i q
    exact h.c2 (by simp only at q; omega) A hA
theorem lvl_one (op : Int) : 1 ≤ lvl op := by unfold lvl; repeat' split
                                              all_goals omega
theorem Cl.w1 (h : Cl E op (toks B) n) : ∀ A, Az A (toks (inB 1 (op, B))) → ∃ m, m.e = n.e ∧ ∀ r o, Fw r → hd (lB 3) r = false → hd (lB 2) r = false → Gm E (.rows 1 m) r o → Gm E (.row 1) (A ++ r) o := by
  intro A hA
  rw [toks_in, if_neg (by have := lvl_one op; simp only; omega)] at hA
  exact h.c1 A hA
end

/-- Each tree of a row is read again. -/
def AllCl (E : Int) : Fo → Prop
  | .nil => True
  | .cons op text num id kids pos next => Cl E op (toks (pcs op text num id (fps kids))) ⟨op, text, num, id, kids, pos⟩ ∧ AllCl E next

theorem e_leaf {u : Tk} {op : Int} {text : Bs} {num id pos : Int} {kids : Fo} (hk : kids = .nil) (h1 : leafOp u.kind = op) (h2 : u.text = text) (h3 : u.num = num) (h4 : u.id = id) : (leafN u).e = (⟨op, text, num, id, kids, pos⟩ : Nd).e := by
  subst hk; subst h1; subst h2; subst h3; subst h4
  rfl

theorem cl_leaf (E : Int) {T : Tk} {op : Int} {text : Bs} {num id pos : Int} {kids : Fo} (hk : kids = .nil) (hT : T.kind ≠ 5) (h1 : leafOp T.kind = op) (h2 : T.text = text) (h3 : T.num = num) (h4 : T.id = id) : Cl E op [T] ⟨op, text, num, id, kids, pos⟩ := by
  refine Cl.of6 (fun A hA => ?_)
  obtain ⟨u, Y, rfl, hu, hY⟩ := hA.cons
  obtain rfl := hY.nil
  have k1 : u.kind = T.kind := by rw [← hu]; rfl
  have k2 : u.text = T.text := by rw [← hu]; rfl
  have k3 : u.num = T.num := by rw [← hu]; rfl
  have k4 : u.id = T.id := by rw [← hu]; rfl
  exact ⟨leafN u, e_leaf hk (by rw [k1, h1]) (by rw [k2, h2]) (by rw [k3, h3]) (by rw [k4, h4]), fun r hr => .leaf (by rw [k1]; exact hT) (fun _ => hr)⟩

theorem len_zero {f : Fo} (h : len f = 0) : f = .nil := by
  cases f with
  | nil => rfl
  | cons => simp [len] at h
theorem len_one {f : Fo} (h : len f = 1) : ∃ op text num id kids pos, f = .cons op text num id kids pos .nil := by
  cases f with
  | nil => simp [len] at h
  | cons op text num id kids pos next =>
    obtain rfl := len_zero (f := next) (by simp [len] at h; exact h)
    exact ⟨op, text, num, id, kids, pos, rfl⟩
theorem len_two {f : Fo} (h : len f = 2) : ∃ op text num id kids pos op2 text2 num2 id2 kids2 pos2, f = .cons op text num id kids pos (.cons op2 text2 num2 id2 kids2 pos2 .nil) := by
  cases f with
  | nil => simp [len] at h
  | cons op text num id kids pos next =>
    obtain ⟨a, b, c, d, e, g, rfl⟩ := len_one (f := next) (by simp [len] at h; exact h)
    exact ⟨op, text, num, id, kids, pos, a, b, c, d, e, g, rfl⟩

theorem opOf_opT (op : Int) (h : op = 6 ∨ op = 7 ∨ op = 8 ∨ op = 9 ∨ op = 10) : opOf (opT op) = op := by
  rcases h with rfl | rfl | rfl | rfl | rfl <;> decide
theorem e_two {x y : Nd} {o1 o2 n1 n2 i1 i2 p1 p2 : Int} {t1 t2 : Bs} {k1 k2 : Fo} (hx : x.e = (⟨o1, t1, n1, i1, k1, p1⟩ : Nd).e) (hy : y.e = (⟨o2, t2, n2, i2, k2, p2⟩ : Nd).e) : (foOf [x, y]).e = (Fo.cons o1 t1 n1 i1 k1 p1 (.cons o2 t2 n2 i2 k2 p2 .nil)).e := by
  simp only [Nd.e, Nd.mk.injEq] at hx hy
  obtain ⟨a1, a2, a3, a4, a5, _⟩ := hx
  obtain ⟨b1, b2, b3, b4, b5, _⟩ := hy
  simp [foOf, Nd.onto, Fo.e, a1, a2, a3, a4, a5, b1, b2, b3, b4, b5]
theorem e_one {x : Nd} {o1 n1 i1 p1 : Int} {t1 : Bs} {k1 : Fo} (hx : x.e = (⟨o1, t1, n1, i1, k1, p1⟩ : Nd).e) : (foOf [x]).e = (Fo.cons o1 t1 n1 i1 k1 p1 .nil).e := by
  simp only [Nd.e, Nd.mk.injEq] at hx
  obtain ⟨a1, a2, a3, a4, a5, _⟩ := hx
  simp [foOf, Nd.onto, Fo.e, a1, a2, a3, a4, a5]
theorem e_bin {u : Tk} {x y : Nd} {op o1 o2 n1 n2 i1 i2 p1 p2 pos : Int} {t1 t2 : Bs} {k1 k2 : Fo} (hop : op = 6 ∨ op = 7 ∨ op = 8 ∨ op = 9 ∨ op = 10) (hu : u.z = sgT (opT op)) (hx : x.e = (⟨o1, t1, n1, i1, k1, p1⟩ : Nd).e) (hy : y.e = (⟨o2, t2, n2, i2, k2, p2⟩ : Nd).e) :
    (binN u x y).e = (⟨op, [], 0, 0, Fo.cons o1 t1 n1 i1 k1 p1 (.cons o2 t2 n2 i2 k2 p2 .nil), pos⟩ : Nd).e := by
  have h2 : u.text = opT op := congrArg Tk.text hu
  have h3 := e_two hx hy
  simp only [binN, Nd.e, h2, opOf_opT op hop, h3]

section
variable {E : Int} {o1 o2 : Int} {B1 B2 : List Pc} {t1 t2 : Bs} {n1 n2 i1 i2 p1 p2 pos : Int} {k1 k2 : Fo}
/-- A row of the level 1. -/
theorem cl_row1 {op : Int} (hop : op = 6 ∨ op = 7) (h1 : Cl E o1 (toks B1) ⟨o1, t1, n1, i1, k1, p1⟩) (h2 : Cl E o2 (toks B2) ⟨o2, t2, n2, i2, k2, p2⟩) :
    Cl E op (toks (inB 1 (o1, B1) ++ none :: some (sgT (opT op)) :: none :: inB 2 (o2, B2))) ⟨op, [], 0, 0, Fo.cons o1 t1 n1 i1 k1 p1 (.cons o2 t2 n2 i2 k2 p2 .nil), pos⟩ := by
  have hl : lvl op = 1 := by unfold lvl; rw [if_pos hop]
  have hop' : op = 6 ∨ op = 7 ∨ op = 8 ∨ op = 9 ∨ op = 10 := by omega
  refine Cl.of1 hl (fun A hA => ?_)
  rw [toks_app, toks_none, toks_some, toks_none] at hA
  obtain ⟨X, Y, rfl, hX, hY⟩ := hA.app
  obtain ⟨u, Z, rfl, hu, hZ⟩ := hY.cons
  obtain ⟨a, ea, ka⟩ := h1.w1 X hX
  obtain ⟨b, eb, kb⟩ := h2.w2 Z hZ
  have hs : sgl u = 1 := by rw [z_sgl hu, opOf_opT op hop', if_pos (by omega), hl]
  refine ⟨binN u a b, e_bin hop' hu ea eb, fun r o hf h3 hr2 hr => ?_⟩
  have h2' : Gm E (.row 2) (Z ++ r) (.ok b r) := kb r (.ok b r) hf h3 (.done hr2)
  have := ka (u :: (Z ++ r)) o (fw_of hu (by rcases hop with rfl | rfl <;> decide) (by rcases hop with rfl | rfl <;> decide)) (by simp [hd, lB, hs]) (by simp [hd, lB, hs]) (.more hs h2' hr)
  simpa using this
/-- A row of the level 2. -/
theorem cl_row2 (h1 : Cl E o1 (toks B1) ⟨o1, t1, n1, i1, k1, p1⟩) (h2 : Cl E o2 (toks B2) ⟨o2, t2, n2, i2, k2, p2⟩) :
    Cl E 8 (toks (inB 2 (o1, B1) ++ none :: some (sgT (opT 8)) :: none :: inB 3 (o2, B2))) ⟨8, [], 0, 0, Fo.cons o1 t1 n1 i1 k1 p1 (.cons o2 t2 n2 i2 k2 p2 .nil), pos⟩ := by
  have hl : lvl 8 = 2 := by decide
  have hop' : (8 : Int) = 6 ∨ (8 : Int) = 7 ∨ (8 : Int) = 8 ∨ (8 : Int) = 9 ∨ (8 : Int) = 10 := by omega
  refine Cl.of2 hl (fun A hA => ?_)
  rw [toks_app, toks_none, toks_some, toks_none] at hA
  obtain ⟨X, Y, rfl, hX, hY⟩ := hA.app
  obtain ⟨u, Z, rfl, hu, hZ⟩ := hY.cons
  obtain ⟨a, ea, ka⟩ := h1.w2 X hX
  obtain ⟨b, eb, kb⟩ := h2.w3 Z hZ
  have hs : sgl u = 2 := by rw [z_sgl hu]; decide
  refine ⟨binN u a b, e_bin hop' hu ea eb, fun r o hf h3 hr => ?_⟩
  have h2' : Gm E .range (Z ++ r) (.ok b r) := kb r hf h3
  have := ka (u :: (Z ++ r)) o (fw_of hu (by decide) (by decide)) (by simp [hd, lB, hs]) (.more hs h2' hr)
  simpa using this
/-- A range. -/
theorem cl_range {op : Int} (hop : op = 9 ∨ op = 10) (h1 : Cl E o1 (toks B1) ⟨o1, t1, n1, i1, k1, p1⟩) (h2 : Cl E o2 (toks B2) ⟨o2, t2, n2, i2, k2, p2⟩) :
    Cl E op (toks (inB 4 (o1, B1) ++ some (sgT (opT op)) :: inB 4 (o2, B2))) ⟨op, [], 0, 0, Fo.cons o1 t1 n1 i1 k1 p1 (.cons o2 t2 n2 i2 k2 p2 .nil), pos⟩ := by
  have hl : lvl op = 3 := by rcases hop with rfl | rfl <;> decide
  have hop' : op = 6 ∨ op = 7 ∨ op = 8 ∨ op = 9 ∨ op = 10 := by omega
  refine Cl.of3 hl (fun A hA => ?_)
  rw [toks_app, toks_some] at hA
  obtain ⟨X, Y, rfl, hX, hY⟩ := hA.app
  obtain ⟨u, Z, rfl, hu, hZ⟩ := hY.cons
  obtain ⟨a, ea, ka⟩ := h1.w4 X hX
  obtain ⟨b, eb, kb⟩ := h2.w4 Z hZ
  have hs : sgl u = 3 := by rw [z_sgl hu, opOf_opT op hop', if_pos (by omega), hl]
  refine ⟨binN u a b, e_bin hop' hu ea eb, fun r hf h3 => ?_⟩
  have := Gm.range (ka (u :: (Z ++ r)) (fw_of hu (by rcases hop with rfl | rfl <;> decide) (by rcases hop with rfl | rfl <;> decide))) hs (kb r hf)
  simpa using this
/-- Not. -/
theorem cl_not (h1 : Cl E o1 (toks B1) ⟨o1, t1, n1, i1, k1, p1⟩) : Cl E 11 (toks (some (sgT [33]) :: inB 4 (o1, B1))) ⟨11, [], 0, 0, Fo.cons o1 t1 n1 i1 k1 p1 .nil, pos⟩ := by
  refine Cl.of4 (by decide) (fun A hA => ?_)
  rw [toks_some] at hA
  obtain ⟨u, Z, rfl, hu, hZ⟩ := hA.cons
  obtain ⟨a, ea, ka⟩ := h1.w4 Z hZ
  refine ⟨notN u a, by simp only [notN, Nd.e, e_one ea], fun r hf => ?_⟩
  exact .nots (z_sB hu) (ka r hf)
/-- A parent. -/
theorem cl_up {num : Int} (h1 : Cl E o1 (toks B1) ⟨o1, t1, n1, i1, k1, p1⟩) : Cl E 12 (toks (inB 5 (o1, B1) ++ some (sgT [94]) :: (if num = 0 then [] else [some (nuT num)]))) ⟨12, [], num, 0, Fo.cons o1 t1 n1 i1 k1 p1 .nil, pos⟩ := by
  refine Cl.of5 (by decide) (fun A hA => ?_)
  rw [toks_app, toks_some] at hA
  obtain ⟨X, Y, rfl, hX, hY⟩ := hA.app
  obtain ⟨u, Z, rfl, hu, hZ⟩ := hY.cons
  obtain ⟨a, ea, ka⟩ := h1.w5 X hX
  have g1 : u.kind = 5 := congrArg Tk.kind hu
  have g2 : u.text = [94] := congrArg Tk.text hu
  refine ⟨upN u num a, by simp only [upN, Nd.e, e_one ea], fun r o h40 hk hr => ?_⟩
  by_cases q : num = 0
  · rw [if_pos q] at hZ
    obtain rfl := Az.nil hZ
    subst q
    have := ka (u :: r) o (by simp [hd, sB, g2]) (by simp [hd, kB, g1]) (.up (z_sB hu) hk hr)
    simpa using this
  · rw [if_neg q] at hZ
    obtain ⟨v, W, rfl, hv, hW⟩ := Az.cons hZ
    obtain rfl := hW.nil
    have v1 : v.kind = 2 := congrArg Tk.kind hv
    have v2 : v.num = num := congrArg Tk.num hv
    have := ka (u :: v :: r) o (by simp [hd, sB, g2]) (by simp [hd, kB, g1]) (.upK (z_sB hu) v1 (by rw [v2]; exact q) (by rw [v2]; exact hr))
    simpa using this
end

/-! ### Calls -/

theorem no41_atom {E : Int} {l r : List Tk} {n : Nd} (h : Gm E .atom l (.ok n r)) : hd (sB [41]) l = false := by
  cases h with
  | leaf h5 _ => simp [hd, sB, h5]
  | brac ht _ _ =>
    obtain ⟨a, b⟩ : _ ∧ _ := by simpa [sB] using ht
    simp [hd, sB, b]
  | call0 hk _ _ _ => simp [hd, sB, hk]
  | call hk _ _ _ _ _ => simp [hd, sB, hk]
theorem no41_unary {E : Int} {l r : List Tk} {n : Nd} (h : Gm E .unary l (.ok n r)) : hd (sB [41]) l = false := by
  cases h with
  | nots ht _ =>
    obtain ⟨a, b⟩ : _ ∧ _ := by simpa [sB] using ht
    simp [hd, sB, b]
  | unary _ hp =>
    cases hp with
    | post ha _ => exact no41_atom ha
theorem no41_range {E : Int} {l r : List Tk} {n : Nd} (h : Gm E .range l (.ok n r)) : hd (sB [41]) l = false := by
  cases h with
  | range h1 _ _ => exact no41_unary h1
  | range1 h1 _ => exact no41_unary h1
theorem no41_row2 {E : Int} {l r : List Tk} {n : Nd} (h : Gm E (.row 2) l (.ok n r)) : hd (sB [41]) l = false := by
  cases h with
  | row _ h1 _ => exact no41_range h1
theorem no41 {E : Int} {l r : List Tk} {n : Nd} (h : Gm E (.row 1) l (.ok n r)) : hd (sB [41]) l = false := by
  cases h with
  | row _ h1 _ => exact no41_row2 h1

theorem Cl.whole {E : Int} {op : Int} {B : List Tk} {n : Nd} (h : Cl E op B n) {A : List Tk} (hA : Az A B) : ∃ m, m.e = n.e ∧ ∀ u r, u.z = sgT [41] ∨ u.z = sgT [44] → Gm E (.row 1) (A ++ u :: r) (.ok m (u :: r)) := by
  obtain ⟨m, e, k⟩ := h.c1 A hA
  refine ⟨m, e, fun u r hu => ?_⟩
  rcases hu with hu | hu
  · exact k (u :: r) _ (fw_of hu (by decide) (by decide)) (hd_lB hu 3 (by decide)) (hd_lB hu 2 (by decide)) (.done (hd_lB hu 1 (by decide)))
  · exact k (u :: r) _ (fw_of hu (by decide) (by decide)) (hd_lB hu 3 (by decide)) (hd_lB hu 2 (by decide)) (.done (hd_lB hu 1 (by decide)))

theorem e_onto {m : Nd} {ms : List Nd} {op num id pos : Int} {text : Bs} {kids next : Fo} (h1 : m.e = (⟨op, text, num, id, kids, pos⟩ : Nd).e) (h2 : (foOf ms).e = next.e) : (foOf (m :: ms)).e = (Fo.cons op text num id kids pos next).e := by
  simp only [Nd.e, Nd.mk.injEq] at h1
  obtain ⟨a1, a2, a3, a4, a5, _⟩ := h1
  have : foOf (m :: ms) = .cons m.op m.text m.num m.id m.kids m.pos (foOf ms) := rfl
  rw [this]
  simp only [Fo.e, a1, a2, a3, a4, a5, h2]

theorem args_rd (E : Int) (next : Fo) : ∀ (op : Int) (text : Bs) (num id : Int) (kids : Fo) (pos : Int), AllCl E (.cons op text num id kids pos next) → ∀ A, Az A (toks (argB (fps (.cons op text num id kids pos next)))) → ∃ m ms, (foOf (m :: ms)).e = (Fo.cons op text num id kids pos next).e ∧
    ∀ v r, v.z = sgT [41] → ∃ r', Gm E (.row 1) (A ++ v :: r) (.ok m r') ∧ ∀ t ks, Gm E (.args t (ks ++ [m])) r' (.ok (callN t (ks ++ m :: ms)) r) := by
  induction next with
  | nil =>
    intro op text num id kids pos h A hA
    obtain ⟨m, e, k⟩ := h.1.whole hA
    refine ⟨m, [], e_onto e rfl, fun v r hv => ⟨v :: r, k v r (.inl hv), fun t ks => ?_⟩⟩
    exact .close (z_sB hv)
  | cons op2 text2 num2 id2 kids2 pos2 next2 _ ih =>
    intro op text num id kids pos h A hA
    have hA' : Az A (toks (pcs op text num id (fps kids)) ++ sgT [44] :: toks (argB (fps (.cons op2 text2 num2 id2 kids2 pos2 next2)))) := by
      have : argB (fps (.cons op text num id kids pos (.cons op2 text2 num2 id2 kids2 pos2 next2))) = pcs op text num id (fps kids) ++ some (sgT [44]) :: none :: argB (fps (.cons op2 text2 num2 id2 kids2 pos2 next2)) := rfl
      rw [this, toks_app, toks_some, toks_none] at hA
      exact hA
    obtain ⟨X, Y, rfl, hX, hY⟩ := hA'.app
    obtain ⟨u, Z, rfl, hu, hZ⟩ := hY.cons
    obtain ⟨m, e, k⟩ := h.1.whole hX
    obtain ⟨m2, ms, e2, k2⟩ := ih op2 text2 num2 id2 kids2 pos2 h.2 Z hZ
    refine ⟨m, m2 :: ms, e_onto e e2, fun v r hv => ?_⟩
    obtain ⟨r', g1, g2⟩ := k2 v r hv
    refine ⟨u :: (Z ++ v :: r), by simpa using k u (Z ++ v :: r) (.inr hu), fun t ks => ?_⟩
    have := g2 t (ks ++ [m])
    rw [List.append_assoc] at this
    exact .arg (z_sB hu) g1 (by simpa using this)

theorem cl_call (E : Int) {text : Bs} {pos : Int} {kids : Fo} (ht : text ≠ []) (h : AllCl E kids) : Cl E 5 (toks (some (nmT text) :: some (sgT [40]) :: (argB (fps kids) ++ [some (sgT [41])]))) ⟨5, text, 0, 0, kids, pos⟩ := by
  refine Cl.of6 (fun A hA => ?_)
  rw [toks_some, toks_some, toks_app, toks_some] at hA
  obtain ⟨t, Y, rfl, ht1, hY⟩ := hA.cons
  obtain ⟨u, Z, rfl, hu, hZ⟩ := hY.cons
  obtain ⟨X, W, rfl, hX, hW⟩ := hZ.app
  obtain ⟨v, V, rfl, hv, hV⟩ := hW.cons
  obtain rfl := Az.nil hV
  have t1 : t.kind = 1 := congrArg Tk.kind ht1
  have t2 : t.text = text := congrArg Tk.text ht1
  cases kids with
  | nil =>
    obtain rfl := Az.nil hX
    refine ⟨callN t [], by simp only [callN, Nd.e, t2]; rfl, fun r _ => ?_⟩
    exact .call0 t1 (by rw [t2]; exact ht) (z_sB hu) (z_sB hv)
  | cons op2 text2 num2 id2 kids2 pos2 next2 =>
    obtain ⟨m, ms, e, k⟩ := args_rd E next2 op2 text2 num2 id2 kids2 pos2 h X hX
    refine ⟨callN t (m :: ms), by simp only [callN, Nd.e, t2, e], fun r _ => ?_⟩
    obtain ⟨r', g1, g2⟩ := k v r hv
    have := Gm.call t1 (by rw [t2]; exact ht) (z_sB hu) (no41 g1) g1 (g2 t [])
    simpa using this

/-- Each well-formed tree is read again. -/
theorem allCl (E : Int) : ∀ f, Wf f → AllCl E f
  | .nil, _ => trivial
  | .cons op text num id kids pos next, h => by
    obtain ⟨hn, hk, hx⟩ := h
    refine ⟨?_, allCl E next hx⟩
    have ihk := allCl E kids hk
    rcases hn with ⟨rfl, hg, rfl, rfl, h0⟩ | ⟨rfl, rfl, rfl, hg, h0⟩ | ⟨rfl, rfl, hg, rfl, h0⟩ | ⟨rfl, hg, rfl, rfl, h0⟩ | ⟨rfl, hg, ht, rfl, rfl⟩ | ⟨hop, rfl, rfl, rfl, h2⟩ | ⟨rfl, rfl, rfl, rfl, h1⟩ | ⟨rfl, rfl, hg, rfl, h1⟩
    · exact cl_leaf E (T := nmT text) (len_zero h0) (by simp [nmT]) rfl rfl rfl rfl
    · exact cl_leaf E (T := haT id) (len_zero h0) (by simp [haT]) rfl rfl rfl rfl
    · exact cl_leaf E (T := nuT num) (len_zero h0) (by simp [nuT]) rfl rfl rfl rfl
    · exact cl_leaf E (T := txT text) (len_zero h0) (by simp [txT]) rfl rfl rfl rfl
    · exact cl_call E ht ihk
    · obtain ⟨a1, a2, a3, a4, a5, a6, b1, b2, b3, b4, b5, b6, rfl⟩ := len_two h2
      obtain ⟨c1, c2, _⟩ := ihk
      rcases hop with rfl | rfl | rfl | rfl | rfl
      · exact cl_row1 (.inl rfl) c1 c2
      · exact cl_row1 (.inr rfl) c1 c2
      · exact cl_row2 c1 c2
      · exact cl_range (.inl rfl) c1 c2
      · exact cl_range (.inr rfl) c1 c2
    · obtain ⟨a1, a2, a3, a4, a5, a6, rfl⟩ := len_one h1
      exact cl_not ihk.1
    · obtain ⟨a1, a2, a3, a4, a5, a6, rfl⟩ := len_one h1
      exact cl_up ihk.1

/-- The grammar reads of a tree's tokens, wherever they lie, the tree, but for the places. -/
theorem shown_read (E : Int) {op : Int} {text : Bs} {num id : Int} {kids : Fo} {pos : Int} (h : Wf (.cons op text num id kids pos .nil)) {A : List Tk} (hA : Az A (toks (pcs op text num id (fps kids)))) :
    ∃ m, m.e = (⟨op, text, num, id, kids, pos⟩ : Nd).e ∧ Gm E (.row 1) A (.ok m []) := by
  obtain ⟨m, e, k⟩ := (allCl E _ h).1.c1 A hA
  refine ⟨m, e, ?_⟩
  have := k [] (.ok m []) ⟨rfl, rfl, rfl⟩ rfl rfl (.done rfl)
  simpa using this

end Go.Proofs.YtijchmcajhdcoaaGreatDoor

/-!
  A tree's shown text, byte by byte: it is scanned as the tree's tokens; and what the grammar reads of good tokens is a tree that can be shown so. No program, no condition.
-/
namespace Go.Proofs.YtijchmcajhdcoaaGreatDoor
open Go.RowKit

/-- A text that goes on with no letter, digit or underline. -/
def Sp (s : Bs) : Prop := ∀ c, s.head? = some c → isNm c = false
theorem Sp.nil : Sp [] := by intro c h; simp at h
theorem Sp.cons {c : UInt8} {s : Bs} (h : isNm c = false) : Sp (c :: s) := by intro d hd; simp at hd; subst hd; exact h
theorem nm_di {c : UInt8} (h : isNm c = false) : isDi c = false := by simp [isNm] at h; exact h.1.2

theorem spn_sp (p : UInt8 → Bool) (hp : ∀ c, isNm c = false → p c = false) {s : Bs} (hs : Sp s) (l : Bs) : spn p (l ++ s) = spn p l := by
  cases s with
  | nil => rw [List.append_nil]
  | cons c m => exact spn_app p c (hp c (hs c rfl)) m l

/-- A whole token, with what may follow it. -/
theorem tok1_ext (l s : Bs) (h : 0 < (tok1 l).2) (hl : (tok1 l).2 = l.length) (hs : Sp s) : tok1 (l ++ s) = tok1 l := by
  cases l with
  | nil => simp [tok1] at h
  | cons c r =>
    by_cases h1 : isLo c = true
    · rw [List.cons_append, tok1_lo c _ h1, tok1_lo c r h1]
      unfold nameT
      have e := spn_sp isNm (fun _ q => q) hs (c :: r)
      have hle := spn_le isNm (c :: r)
      rw [← List.cons_append, e, List.take_append_of_le_length hle]
    have h1' : isLo c = false := by simpa using h1
    by_cases h2 : isDi c = true
    · rw [List.cons_append, tok1_di c _ h1' h2, tok1_di c r h1' h2]
      unfold numT
      have e := spn_sp isDi (fun _ q => nm_di q) hs (c :: r)
      have hle := spn_le isDi (c :: r)
      rw [← List.cons_append, e, List.take_append_of_le_length hle]
      simp
    have h2' : isDi c = false := by simpa using h2
    by_cases h3 : c.toNat = 39
    · obtain rfl : c = 39 := UInt8.toNat_inj.1 h3
      rw [List.cons_append, tok1_q, tok1_q]
      rw [tok1_q] at h
      unfold textT at h ⊢
      simp only [List.drop_succ_cons, List.drop_zero] at h ⊢
      split at h
      · rename_i hq
        have hlt := (List.getElem?_eq_some_iff.1 hq).1
        have e := spn_short isTx s r hlt
        rw [e, List.getElem?_append_left hlt, List.take_append_of_le_length (by omega)]
      · simp at h
    by_cases h4 : c.toNat = 35
    · obtain rfl : c = 35 := UInt8.toNat_inj.1 h4
      rw [List.cons_append, tok1_h, tok1_h]
      rw [tok1_h] at h
      unfold hashT at h ⊢
      split at h
      · simp at h
      · rename_i hlen
        have hlen' : ¬ (35 :: (r ++ s)).length < 17 := by simp at hlen ⊢; omega
        have e : hash16 (35 :: (r ++ s)) = hash16 (35 :: r) := by
          unfold hash16
          simp only [List.drop_succ_cons, List.drop_zero]
          rw [List.take_append_of_le_length (by simp at hlen; omega)]
        rw [if_neg hlen', e, if_neg hlen]
    have e : tok1 (c :: r) = signT (c :: r) := by simp [tok1, h1', h2', h3, h4]
    rw [e] at h hl ⊢
    unfold signT signG at h hl ⊢
    split at h
    · rename_i g hg
      rw [hg] at hl
      have hm := List.mem_of_find?_eq_some hg
      have hp0 := List.find?_some hg
      have hp := List.isPrefixOf_iff_prefix.1 hp0
      have eg : g = c :: r := List.IsPrefix.eq_of_length hp (by simpa using hl)
      rw [← eg]
      have := sign_one g s hm
      rw [this, eg]
    · simp at h

theorem Gd.ext {t : Tk} (h : Gd t) {s : Bs} (hs : Sp s) : tok1 (st t ++ s) = (t.at 0, (st t).length) := by
  have h0 := h.ok [] (.inl rfl)
  rw [List.append_nil] at h0
  rw [tok1_ext (st t) s (by rw [h0]; exact h.pos) (by rw [h0]) hs, h0]

/-- What stands where a token or a blank is told. -/
def txt : List Pc → Bs
  | [] => []
  | some t :: l => st t ++ txt l
  | none :: l => 32 :: txt l
theorem txt_glue : ∀ a b : List Pc, txt (a ++ b) = txt a ++ txt b
  | [], b => rfl
  | some t :: a, b => by rw [List.cons_append]; simp only [txt]; rw [txt_glue a b, List.append_assoc]
  | none :: a, b => by rw [List.cons_append]; simp only [txt]; rw [txt_glue a b, List.cons_append]

/-- Pieces that can be told apart, s standing behind them. -/
def Sq : List Pc → Bs → Prop
  | [], _ => True
  | none :: l, s => Sq l s
  | some t :: l, s => Gd t ∧ t.z = t ∧ ((t.kind = 5 ∧ t.text ∈ sgs) ∨ Sp (txt l ++ s)) ∧ Sq l s
theorem Sq.app : ∀ {a b : List Pc} {s : Bs}, Sq a (txt b ++ s) → Sq b s → Sq (a ++ b) s
  | [], _, _, _, h => h
  | none :: a, b, s, h, k => by rw [List.cons_append]; exact Sq.app (a := a) h k
  | some t :: a, b, s, h, k => by
    obtain ⟨h1, h2, h3, h4⟩ := h
    rw [List.cons_append]
    refine ⟨h1, h2, ?_, Sq.app h4 k⟩
    rw [txt_glue, List.append_assoc]
    exact h3

/-- Such pieces are scanned. -/
theorem sq_scan : ∀ (l : List Pc), Sq l [] → ∀ p, ∃ us, Sc p (txt l) us none ∧ Az us (toks l)
  | [], _, p => ⟨[], .done p, rfl⟩
  | none :: l, h, p => by
    obtain ⟨us, h1, h2⟩ := sq_scan l h (p + 1)
    exact ⟨us, .skip (by decide) h1, by rw [toks_none]; exact h2⟩
  | some t :: l, h, p => by
    obtain ⟨g, hz, hk, hl⟩ := h
    obtain ⟨us, h1, h2⟩ := sq_scan l hl (p + (st t).length)
    rw [List.append_nil] at hk
    obtain ⟨c, x, hx⟩ : ∃ c x, st t = c :: x := by
      have := g.pos
      cases hst : st t with
      | nil => rw [hst] at this; simp at this
      | cons c x => exact ⟨c, x, rfl⟩
    have hnb := g.nb c (by rw [hx]; rfl)
    have ho : tok1 (st t ++ txt l) = (t.at 0, (st t).length) := by
      rcases hk with ⟨k5, km⟩ | hk
      · have e : st t = t.text := by simp [st, k5]
        have h0 := g.ok [] (.inl rfl)
        rw [e, sign_one _ _ km] at h0
        rw [e, sign_one _ _ km]
        exact h0
      · exact g.ext hk
    refine ⟨t.at p :: us, ?_, ?_⟩
    · show Sc p (st t ++ txt l) _ _
      have e1 : t.at p = (tok1 (st t ++ txt l)).1.at p := by rw [ho]; rfl
      rw [hx, List.cons_append] at e1 ho ⊢
      rw [e1]
      refine .tok hnb (by rw [ho]) (by simp) ?_
      rw [← List.cons_append, List.drop_left, ← hx]
      exact h1
    · rw [toks_some]
      unfold Az
      rw [List.map_cons, show us.map Tk.z = toks l from h2]
      have : (t.at p).z = t := hz
      rw [this]

/-! ### A tree's pieces -/

theorem sgs_pos : ∀ g ∈ sgs, 0 < g.length := by decide
theorem gd_sign {g : Bs} (h : g ∈ sgs) : Gd (sgT g) := by
  have h1 := sign_one g [] h
  have hp : 0 < g.length := sgs_pos g h
  have := (tok1_ok (g ++ []) (by rw [h1]; exact hp)).2
  rw [h1] at this
  exact this
theorem sq_sign {g : Bs} (h : g ∈ sgs) {l : List Pc} {s : Bs} (k : Sq l s) : Sq (some (sgT g) :: l) s := ⟨gd_sign h, rfl, .inl ⟨rfl, h⟩, k⟩

/-- Each tree of a row shows apart. -/
def AllSq : List (Int × List Pc) → Prop
  | [] => True
  | k :: r => (∀ s, Sp s → Sq k.2 s) ∧ AllSq r

theorem sq_in {op : Int} {B : List Pc} (h : ∀ s, Sp s → Sq B s) (want : Int) : ∀ s, Sp s → Sq (inB want (op, B)) s := by
  intro s hs
  unfold inB
  split
  · refine sq_sign (by decide) (Sq.app (h _ ?_) (sq_sign (by decide) trivial))
    exact Sp.cons (by decide)
  · exact h s hs

theorem sq_args : ∀ (ks : List (Int × List Pc)), AllSq ks → ∀ s, Sp s → Sq (argB ks) s
  | [], _, _, _ => trivial
  | [k], h, s, hs => h.1 s hs
  | k :: m :: r, h, s, hs => by
    show Sq (k.2 ++ some (sgT [44]) :: none :: argB (m :: r)) s
    refine Sq.app (h.1 _ ?_) (sq_sign (by decide) (sq_args (m :: r) h.2 s hs))
    exact Sp.cons (by decide)

theorem opT_mem (op : Int) : opT op ∈ sgs := by
  unfold opT
  repeat' split
  all_goals decide
theorem opT_sp (op : Int) (s : Bs) : Sp (st (sgT (opT op)) ++ s) := by
  unfold opT
  repeat' split
  all_goals exact Sp.cons (by decide)

theorem allSq : ∀ f, Wf f → AllSq (fps f)
  | .nil, _ => trivial
  | .cons op text num id kids pos next, h => by
    obtain ⟨hn, hk, hx⟩ := h
    refine ⟨fun s hs => ?_, allSq next hx⟩
    have ihk := allSq kids hk
    show Sq (pcs op text num id (fps kids)) s
    rcases hn with ⟨rfl, hg, rfl, rfl, h0⟩ | ⟨rfl, rfl, rfl, hg, h0⟩ | ⟨rfl, rfl, hg, rfl, h0⟩ | ⟨rfl, hg, rfl, rfl, h0⟩ | ⟨rfl, hg, ht, rfl, rfl⟩ | ⟨hop, rfl, rfl, rfl, h2⟩ | ⟨rfl, rfl, rfl, rfl, h1⟩ | ⟨rfl, rfl, hg, rfl, h1⟩
    · exact ⟨hg, rfl, .inr hs, trivial⟩
    · exact ⟨hg, rfl, .inr hs, trivial⟩
    · exact ⟨hg, rfl, .inr hs, trivial⟩
    · exact ⟨hg, rfl, .inr hs, trivial⟩
    · refine ⟨hg, rfl, .inr (Sp.cons (by decide)), sq_sign (by decide) (Sq.app (sq_args _ ihk _ (Sp.cons (by decide))) (sq_sign (by decide) trivial))⟩
    · obtain ⟨a1, a2, a3, a4, a5, a6, b1, b2, b3, b4, b5, b6, rfl⟩ := len_two h2
      obtain ⟨c1, c2, _⟩ := ihk
      have row : ∀ (w1 w2 : Int), Sq (inB w1 (a1, pcs a1 a2 a3 a4 (fps a5)) ++ none :: some (sgT (opT op)) :: none :: inB w2 (b1, pcs b1 b2 b3 b4 (fps b5))) s := fun w1 w2 =>
        Sq.app (sq_in c1 w1 _ (Sp.cons (by decide))) (sq_sign (opT_mem op) (sq_in c2 w2 s hs))
      have range : ∀ (w1 w2 : Int), Sq (inB w1 (a1, pcs a1 a2 a3 a4 (fps a5)) ++ some (sgT (opT op)) :: inB w2 (b1, pcs b1 b2 b3 b4 (fps b5))) s := fun w1 w2 =>
        Sq.app (sq_in c1 w1 _ (by simp only [txt]; rw [List.append_assoc]; exact opT_sp op _)) (sq_sign (opT_mem op) (sq_in c2 w2 s hs))
      rcases hop with rfl | rfl | rfl | rfl | rfl
      · exact row 1 2
      · exact row 1 2
      · exact row 2 3
      · exact range 4 4
      · exact range 4 4
    · obtain ⟨a1, a2, a3, a4, a5, a6, rfl⟩ := len_one h1
      exact sq_sign (by decide) (sq_in ihk.1 4 s hs)
    · obtain ⟨a1, a2, a3, a4, a5, a6, rfl⟩ := len_one h1
      refine Sq.app (sq_in ihk.1 5 _ (Sp.cons (by decide))) (sq_sign (by decide) ?_)
      split
      · exact trivial
      · rename_i q
        rcases hg with hg | hg
        · exact absurd hg q
        · exact ⟨hg.2, rfl, .inr hs, trivial⟩

/-- A tree's shown text is scanned, and read as the tree but for the places. -/
theorem shown_back (E : Int) {op : Int} {text : Bs} {num id : Int} {kids : Fo} {pos : Int} (h : Wf (.cons op text num id kids pos .nil)) :
    ∃ us m, Sc 0 (txt (pcs op text num id (fps kids))) us none ∧ m.e = (⟨op, text, num, id, kids, pos⟩ : Nd).e ∧ Gm E (.row 1) us (.ok m []) := by
  obtain ⟨us, h1, h2⟩ := sq_scan _ ((allSq _ h).1 [] Sp.nil) 0
  obtain ⟨m, e, k⟩ := shown_read E h h2
  exact ⟨us, m, h1, e, k⟩

/-! ### What is read of good tokens can be shown -/

/-- What a token's fields are, by its kind. -/
def Shp (t : Tk) : Prop := (t.z = nmT t.text ∧ t.text ≠ []) ∨ t.z = nuT t.num ∨ t.z = txT t.text ∨ t.z = haT t.id ∨ (t.z = sgT t.text ∧ t.text ∈ sgs)
theorem tok1_shape (l : Bs) (h : 0 < (tok1 l).2) : Shp (tok1 l).1 := by
  cases l with
  | nil => simp [tok1] at h
  | cons c r =>
    by_cases h1 : isLo c = true
    · rw [tok1_lo c r h1] at h ⊢
      unfold nameT at h ⊢
      split at h
      · simp at h
      · rename_i q
        rw [if_neg q]
        refine .inl ⟨rfl, fun e => ?_⟩
        obtain ⟨x, hx⟩ := take_cons_pos (c := c) (r := r) h
        simp only at e
        rw [hx] at e
        cases e
    have h1' : isLo c = false := by simpa using h1
    by_cases h2 : isDi c = true
    · rw [tok1_di c r h1' h2] at h ⊢
      unfold numT at h ⊢
      split at h
      · simp at h
      · rename_i q
        rw [if_neg q]
        exact .inr (.inl rfl)
    have h2' : isDi c = false := by simpa using h2
    by_cases h3 : c.toNat = 39
    · obtain rfl : c = 39 := UInt8.toNat_inj.1 h3
      rw [tok1_q] at h ⊢
      unfold textT at h ⊢
      split at h
      · rename_i q
        rw [if_pos q]
        exact .inr (.inr (.inl rfl))
      · simp at h
    by_cases h4 : c.toNat = 35
    · obtain rfl : c = 35 := UInt8.toNat_inj.1 h4
      rw [tok1_h] at h ⊢
      unfold hashT at h ⊢
      split at h
      · simp at h
      · rename_i q
        rw [if_neg q]
        split at h
        · rename_i q2
          rw [if_pos q2]
          exact .inr (.inr (.inr (.inl rfl)))
        · simp at h
    have e : tok1 (c :: r) = signT (c :: r) := by simp [tok1, h1', h2', h3, h4]
    rw [e] at h ⊢
    unfold signT signG at h ⊢
    split at h
    · rename_i g hg
      exact .inr (.inr (.inr (.inr ⟨rfl, List.mem_of_find?_eq_some hg⟩)))
    · simp at h
theorem Gd.shape {t : Tk} (h : Gd t) : Shp t := by
  have h0 := h.ok [] (.inl rfl)
  rw [List.append_nil] at h0
  have := tok1_shape (st t) (by rw [h0]; exact h.pos)
  rw [h0] at this
  exact this
theorem Gd.z {t : Tk} (h : Gd t) : Gd t.z := h.at 0

/-- A tree that can be shown and read again. -/
def WfT (n : Nd) : Prop := WfN n.op n.text n.num n.id (len n.kids) ∧ Wf n.kids
theorem WfT.onto {n : Nd} (h : WfT n) {f : Fo} (hf : Wf f) : Wf (n.onto f) := ⟨h.1, h.2, hf⟩
theorem wf_fo : ∀ l : List Nd, (∀ k ∈ l, WfT k) → Wf (foOf l)
  | [], _ => trivial
  | n :: l, h => (h n List.mem_cons_self).onto (wf_fo l (fun k hk => h k (List.mem_cons_of_mem _ hk)))
theorem len_fo : ∀ l : List Nd, len (foOf l) = l.length
  | [] => rfl
  | n :: l => by
    have : foOf (n :: l) = n.onto (foOf l) := rfl
    rw [this]
    simp only [Nd.onto, len, len_fo l, List.length_cons]

theorem wf_leaf {t : Tk} (h : Gd t) (h5 : t.kind ≠ 5) : WfT (leafN t) := by
  have hz := h.z
  have key : ∀ {u : Tk}, t.z = u → t.kind = u.kind ∧ t.text = u.text ∧ t.num = u.num ∧ t.id = u.id := by
    intro u e
    subst e
    exact ⟨rfl, rfl, rfl, rfl⟩
  refine ⟨?_, trivial⟩
  rcases h.shape with ⟨e, _⟩ | e | e | e | ⟨e, _⟩
  · obtain ⟨a, b, c, d⟩ := key e
    rw [e] at hz
    exact .inl ⟨by simp [leafN, leafOp, a, nmT], hz, c, d, rfl⟩
  · obtain ⟨a, b, c, d⟩ := key e
    rw [e] at hz
    exact .inr (.inr (.inl ⟨by simp [leafN, leafOp, a, nuT], b, hz, d, rfl⟩))
  · obtain ⟨a, b, c, d⟩ := key e
    rw [e] at hz
    exact .inr (.inr (.inr (.inl ⟨by simp [leafN, leafOp, a, txT], hz, c, d, rfl⟩)))
  · obtain ⟨a, b, c, d⟩ := key e
    rw [e] at hz
    exact .inr (.inl ⟨by simp [leafN, leafOp, a, haT], b, c, hz, rfl⟩)
  · obtain ⟨a, b, c, d⟩ := key e
    exact absurd a h5
theorem wf_num {t : Tk} (h : Gd t) (h2 : t.kind = 2) : Gd (nuT t.num) := by
  have hz := h.z
  rcases h.shape with ⟨e, _⟩ | e | e | e | ⟨e, _⟩
  · have := congrArg Tk.kind e; rw [show t.z.kind = t.kind from rfl, h2] at this; cases this
  · rw [e] at hz; exact hz
  · have := congrArg Tk.kind e; rw [show t.z.kind = t.kind from rfl, h2] at this; cases this
  · have := congrArg Tk.kind e; rw [show t.z.kind = t.kind from rfl, h2] at this; cases this
  · have := congrArg Tk.kind e; rw [show t.z.kind = t.kind from rfl, h2] at this; cases this
theorem wf_name {t : Tk} (h : Gd t) (h1 : t.kind = 1) : Gd (nmT t.text) := by
  have hz := h.z
  rcases h.shape with ⟨e, _⟩ | e | e | e | ⟨e, _⟩
  · rw [e] at hz; exact hz
  · have := congrArg Tk.kind e; rw [show t.z.kind = t.kind from rfl, h1] at this; cases this
  · have := congrArg Tk.kind e; rw [show t.z.kind = t.kind from rfl, h1] at this; cases this
  · have := congrArg Tk.kind e; rw [show t.z.kind = t.kind from rfl, h1] at this; cases this
  · have := congrArg Tk.kind e; rw [show t.z.kind = t.kind from rfl, h1] at this; cases this

theorem wf_bin {t : Tk} {x y : Nd} (h : 0 < sgl t) (hx : WfT x) (hy : WfT y) : WfT (binN t x y) := by
  have ho : opOf t.text ≠ 0 := by
    unfold sgl at h
    split at h
    · rename_i q; exact q.2
    · omega
  have hr : opOf t.text = 0 ∨ opOf t.text = 6 ∨ opOf t.text = 7 ∨ opOf t.text = 8 ∨ opOf t.text = 9 ∨ opOf t.text = 10 := by
    unfold opOf
    repeat (split; simp)
    simp
  refine ⟨.inr (.inr (.inr (.inr (.inr (.inl ⟨?_, rfl, rfl, rfl, rfl⟩))))), wf_fo _ (by simp only [List.mem_cons, List.not_mem_nil, or_false]; rintro k (rfl | rfl) <;> assumption)⟩
  exact hr.resolve_left ho

/-- What is wanted of what is being read. -/
def WfM : Mo → Prop
  | .row L => L = 1 ∨ L = 2
  | .rows L n => (L = 1 ∨ L = 2) ∧ WfT n
  | .ups n => WfT n
  | .args t ks => Gd t ∧ t.kind = 1 ∧ t.text ≠ [] ∧ ∀ k ∈ ks, WfT k
  | _ => True
theorem wfM_low {L : Int} (h : L = 1 ∨ L = 2) : WfM (lowM L) := by
  rcases h with rfl | rfl
  · exact .inr rfl
  · exact trivial

theorem Gm.wf {E : Int} {m : Mo} {l : List Tk} {o : Out} (h : Gm E m l o) : (∀ t ∈ l, Gd t) → WfM m → ∀ n r, o = .ok n r → WfT n ∧ ∀ t ∈ r, Gd t := by
  induction h with
  | row hL _ _ ih1 ih2 =>
    intro hg _ n r e
    obtain ⟨a, b⟩ := ih1 hg (wfM_low hL) _ _ rfl
    exact ih2 b ⟨hL, a⟩ n r e
  | more ht _ _ ih1 ih2 =>
    intro hg hm n r e
    obtain ⟨a, b⟩ := ih1 (fun t q => hg t (List.mem_cons_of_mem _ q)) (wfM_low hm.1) _ _ rfl
    exact ih2 b ⟨hm.1, wf_bin (by rcases hm.1 with q | q <;> omega) hm.2 a⟩ n r e
  | done _ =>
    intro hg hm n r e
    cases e
    exact ⟨hm.2, hg⟩
  | range _ ht _ ih1 ih2 =>
    intro hg _ n r e
    cases e
    obtain ⟨a, b⟩ := ih1 hg trivial _ _ rfl
    obtain ⟨c, d⟩ := ih2 (fun t q => b t (List.mem_cons_of_mem _ q)) trivial _ _ rfl
    exact ⟨wf_bin (by omega) a c, d⟩
  | range1 _ _ ih =>
    intro hg _ n r e
    exact ih hg trivial n r e
  | nots _ _ ih =>
    intro hg _ n r e
    cases e
    obtain ⟨a, b⟩ := ih (fun t q => hg t (List.mem_cons_of_mem _ q)) trivial _ _ rfl
    exact ⟨⟨.inr (.inr (.inr (.inr (.inr (.inr (.inl ⟨rfl, rfl, rfl, rfl, rfl⟩)))))), wf_fo _ (by simp only [List.mem_cons, List.not_mem_nil, or_false]; rintro k rfl; exact a)⟩, b⟩
  | unary _ _ ih => exact fun hg _ n r e => ih hg trivial n r e
  | post _ _ ih1 ih2 =>
    intro hg _ n r e
    obtain ⟨a, b⟩ := ih1 hg trivial _ _ rfl
    exact ih2 b a n r e
  | up _ _ _ ih =>
    intro hg hm n r e
    exact ih (fun t q => hg t (List.mem_cons_of_mem _ q)) ⟨.inr (.inr (.inr (.inr (.inr (.inr (.inr ⟨rfl, rfl, .inl rfl, rfl, rfl⟩)))))), wf_fo _ (by simp only [List.mem_cons, List.not_mem_nil, or_false]; rintro k rfl; exact hm)⟩ n r e
  | upK _ hk h0 _ ih =>
    intro hg hm n r e
    have hu := hg _ (List.mem_cons_of_mem _ List.mem_cons_self)
    exact ih (fun t q => hg t (List.mem_cons_of_mem _ (List.mem_cons_of_mem _ q))) ⟨.inr (.inr (.inr (.inr (.inr (.inr (.inr ⟨rfl, rfl, .inr ⟨h0, wf_num hu hk⟩, rfl, rfl⟩)))))), wf_fo _ (by simp only [List.mem_cons, List.not_mem_nil, or_false]; rintro k rfl; exact hm)⟩ n r e
  | upped _ =>
    intro hg hm n r e
    cases e
    exact ⟨hm, hg⟩
  | leaf h5 _ =>
    intro hg _ n r e
    cases e
    exact ⟨wf_leaf (hg _ List.mem_cons_self) h5, fun t q => hg t (List.mem_cons_of_mem _ q)⟩
  | brac _ _ _ ih =>
    intro hg _ n r e
    cases e
    obtain ⟨a, b⟩ := ih (fun t q => hg t (List.mem_cons_of_mem _ q)) (.inl rfl) _ _ rfl
    exact ⟨a, fun t q => b t (List.mem_cons_of_mem _ q)⟩
  | call0 hk ht _ _ =>
    intro hg _ n r e
    cases e
    have hu := hg _ List.mem_cons_self
    exact ⟨⟨.inr (.inr (.inr (.inr (.inl ⟨rfl, wf_name hu hk, ht, rfl, rfl⟩)))), trivial⟩, fun t q => hg t (List.mem_cons_of_mem _ (List.mem_cons_of_mem _ (List.mem_cons_of_mem _ q)))⟩
  | call hk ht _ _ _ _ ih1 ih2 =>
    intro hg _ n r e
    have hu := hg _ List.mem_cons_self
    obtain ⟨a, b⟩ := ih1 (fun t q => hg t (List.mem_cons_of_mem _ (List.mem_cons_of_mem _ q))) (.inl rfl) _ _ rfl
    exact ih2 b ⟨hu, hk, ht, by simp only [List.mem_cons, List.not_mem_nil, or_false]; rintro k rfl; exact a⟩ n r e
  | arg _ _ _ ih1 ih2 =>
    intro hg hm n r e
    obtain ⟨a, b⟩ := ih1 (fun t q => hg t (List.mem_cons_of_mem _ q)) (.inl rfl) _ _ rfl
    exact ih2 b ⟨hm.1, hm.2.1, hm.2.2.1, by simp only [List.mem_append, List.mem_cons, List.not_mem_nil, or_false]; exact fun k q => q.elim (fun q => hm.2.2.2 k q) (fun q => q ▸ a)⟩ n r e
  | close _ =>
    intro hg hm n r e
    cases e
    exact ⟨⟨.inr (.inr (.inr (.inr (.inl ⟨rfl, wf_name hm.1 hm.2.1, hm.2.2.1, rfl, rfl⟩)))), wf_fo _ hm.2.2.2⟩, fun t q => hg t (List.mem_cons_of_mem _ q)⟩
  | rowE _ _ _ | moreE _ _ _ | rangeE _ _ _ _ _ | rangeF _ _ | notsE _ _ _ | postE _ _ | upE _ _ _ | none | bracE _ _ _ _ | bracF _ _ _ | sign _ _ _ | callE _ _ _ _ _ _ | argE _ _ _ | closeE _ _ => intro _ _ n r e; cases e

/-- A text that is read shows a text that is read as the same tree, but for the places. -/
theorem read_back {E E' : Int} {s : Bs} {ts : List Tk} {n : Nd} (hs : Sc 0 s ts none) (h : Gm E (.row 1) ts (.ok n [])) : ∃ us m, Sc 0 (txt n.ps) us none ∧ m.e = n.e ∧ Gm E' (.row 1) us (.ok m []) := by
  obtain ⟨a, _⟩ := h.wf hs.good (.inl rfl) _ _ rfl
  exact shown_back E' (pos := n.pos) (a.onto (f := .nil) trivial)

end Go.Proofs.YtijchmcajhdcoaaGreatDoor
