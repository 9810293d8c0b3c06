/-
  Tokens of a text as functions on lists of bytes: the token with which a text begins, a text cut into tokens, tokens written down; that what is written is read again, and that a text of two parted by a blank has the tokens of both. No program, no condition.
-/
import Derived.Test.YtijchmcajhdcoaaGreatDoorJHex
import Derived.Test.YtijchmcajhdcoaaGreatDoorPWords
import Derived.Lib.Atoi
import Derived.Lib.ItoaNum
namespace Go.Proofs.YtijchmcajhdcoaaGreatDoor
open Go.RowKit

def isBl (c : UInt8) : Bool := decide (c.toNat = 32) || decide (c.toNat = 9)
def isLo (c : UInt8) : Bool := decide (97 ≤ c.toNat) && decide (c.toNat ≤ 122)
def isDi (c : UInt8) : Bool := decide (48 ≤ c.toNat) && decide (c.toNat ≤ 57)
def isNm (c : UInt8) : Bool := isLo c || isDi c || decide (c.toNat = 95)
def isTx (c : UInt8) : Bool := !decide (c.toNat = 39) && !decide (c.toNat = 10)

/-- How many bytes at the beginning are of a kind. -/
def spn (p : UInt8 → Bool) (l : Bs) : Nat := (l.takeWhile p).length

theorem spn_le (p : UInt8 → Bool) (l : Bs) : spn p l ≤ l.length := by
  unfold spn
  induction l with
  | nil => simp
  | cons c t ih =>
    rw [List.takeWhile_cons]
    split <;> simp_all
theorem spn_cons (p : UInt8 → Bool) (c : UInt8) (t : Bs) : spn p (c :: t) = if p c then spn p t + 1 else 0 := by
  unfold spn
  rw [List.takeWhile_cons]
  split <;> simp_all
theorem spn_step (p : UInt8 → Bool) : ∀ (l : Bs) (n : Nat), n ≤ spn p l → ∀ c, l[n]? = some c → (p c = true → n + 1 ≤ spn p l) ∧ (p c = false → spn p l = n)
  | [], n, _, c, h => by simp at h
  | b :: t, 0, _, c, h => by
    simp at h
    subst h
    rw [spn_cons]
    constructor <;> intro h <;> simp [h]
  | b :: t, n + 1, hn, c, h => by
    rw [spn_cons] at hn ⊢
    split at hn
    · rename_i hb
      have := spn_step p t n (by omega) c (by simpa using h)
      rw [if_pos hb]
      exact ⟨fun q => by have := this.1 q; omega, fun q => by have := this.2 q; omega⟩
    · omega
theorem spn_end (p : UInt8 → Bool) (l : Bs) (n : Nat) (h : n ≤ spn p l) (hl : l.length ≤ n) : spn p l = n := by
  have := spn_le p l
  omega
theorem spn_app (p : UInt8 → Bool) (c : UInt8) (hc : p c = false) (m : Bs) : ∀ l : Bs, spn p (l ++ c :: m) = spn p l
  | [] => by simp [spn, hc]
  | b :: t => by
    rw [List.cons_append, spn_cons, spn_cons, spn_app p c hc m t]
theorem spn_all (p : UInt8 → Bool) : ∀ l : Bs, l.all p = true → spn p l = l.length
  | [], _ => by simp [spn]
  | b :: t, h => by
    simp only [List.all_cons, Bool.and_eq_true] at h
    rw [spn_cons, if_pos h.1, spn_all p t h.2, List.length_cons]
theorem spn_take_all (p : UInt8 → Bool) (l : Bs) : (l.take (spn p l)).all p = true := by
  induction l with
  | nil => simp
  | cons b t ih =>
    rw [spn_cons]
    split
    · rename_i h
      simp only [List.take_succ_cons, List.all_cons, h, Bool.true_and]
      exact ih
    · simp

structure Tk where
  kind : Int
  text : Bs
  num : Int
  id : Int
  pos : Int

theorem Tk.ext {a b : Tk} (h1 : a.kind = b.kind) (h2 : a.text = b.text) (h3 : a.num = b.num) (h4 : a.id = b.id) (h5 : a.pos = b.pos) : a = b := by
  cases a; cases b; simp_all

def tk0 : Tk := ⟨0, [], 0, 0, 0⟩

/-- The number of decimal digits. -/
def decV (l : Bs) : Nat := l.foldl (fun n c => n * 10 + (c.toNat - 48)) 0

def nameT (l : Bs) : Tk × Nat := if 16 < spn isNm l then (tk0, 0) else (⟨1, l.take (spn isNm l), 0, 0, 0⟩, spn isNm l)
def numT (l : Bs) : Tk × Nat := if 9 < spn isDi l ∨ (1 < spn isDi l ∧ l.head? = some 48) then (tk0, 0) else (⟨2, [], decV (l.take (spn isDi l)), 0, 0⟩, spn isDi l)
def textT (l : Bs) : Tk × Nat := if (l.drop 1)[spn isTx (l.drop 1)]? = some 39 then (⟨3, (l.drop 1).take (spn isTx (l.drop 1)), 0, 0, 0⟩, spn isTx (l.drop 1) + 2) else (tk0, 0)
def hash16 (l : Bs) : Int × Int := parOf ⟨((l.drop 1).take 16).toArray⟩
def hashT (l : Bs) : Tk × Nat := if l.length < 17 then (tk0, 0) else if (hash16 l).2 = 0 then (⟨4, [], 0, (hash16 l).1, 0⟩, 17) else (tk0, 0)

def sgs : List Bs := [[40], [41], [44], [124], [38], [45], [33], [94], [46, 46], [58, 58]]
def signG (gs : List Bs) (l : Bs) : Tk × Nat := match gs.find? (fun g => g.isPrefixOf l) with
  | some g => (⟨5, g, 0, 0, 0⟩, g.length)
  | none => (tk0, 0)
def signT (l : Bs) : Tk × Nat := signG sgs l

/-- The token with which a text begins, and how many bytes it has there: 0, if it begins with none. -/
def tok1 : Bs → Tk × Nat
  | [] => (tk0, 0)
  | c :: r => if isLo c then nameT (c :: r) else if isDi c then numT (c :: r) else if c.toNat = 39 then textT (c :: r) else if c.toNat = 35 then hashT (c :: r) else signT (c :: r)

def Tk.at (t : Tk) (p : Nat) : Tk := { t with pos := (p : Int) }

/-- A text from a place on, its tokens, and the place of what is none. -/
inductive Sc : Nat → Bs → List Tk → Option Nat → Prop
  | done (p : Nat) : Sc p [] [] none
  | skip {p : Nat} {c : UInt8} {r : Bs} {ts : List Tk} {e : Option Nat} : isBl c = true → Sc (p + 1) r ts e → Sc p (c :: r) ts e
  | bad {p : Nat} {c : UInt8} {r : Bs} : isBl c = false → (tok1 (c :: r)).2 = 0 → Sc p (c :: r) [] (some p)
  | tok {p n : Nat} {c : UInt8} {r : Bs} {ts : List Tk} {e : Option Nat} : isBl c = false → (tok1 (c :: r)).2 = n → 0 < n → Sc (p + n) ((c :: r).drop n) ts e → Sc p (c :: r) ((tok1 (c :: r)).1.at p :: ts) e

theorem Sc.uniq {p : Nat} {l : Bs} {ts us : List Tk} {e f : Option Nat} (h : Sc p l ts e) (k : Sc p l us f) : ts = us ∧ e = f := by
  induction h generalizing us f with
  | done p => cases k; exact ⟨rfl, rfl⟩
  | skip hb _ ih =>
    cases k with
    | skip _ k => exact ih k
    | bad h2 _ => rw [hb] at h2; cases h2
    | tok h2 _ _ _ => rw [hb] at h2; cases h2
  | bad hb hz =>
    cases k with
    | skip h2 _ => rw [hb] at h2; cases h2
    | bad _ _ => exact ⟨rfl, rfl⟩
    | tok _ h2 h3 _ => omega
  | tok hb hn h0 _ ih =>
    cases k with
    | skip h2 _ => rw [hb] at h2; cases h2
    | bad _ h2 => omega
    | tok _ h2 h3 k =>
      subst hn
      subst h2
      obtain ⟨e1, e2⟩ := ih k
      rw [e1, e2]
      exact ⟨rfl, rfl⟩

theorem tok1_le (l : Bs) : (tok1 l).2 ≤ l.length := by
  cases l with
  | nil => simp [tok1]
  | cons c r =>
    have h1 := spn_le isNm (c :: r)
    have h2 := spn_le isDi (c :: r)
    simp only [tok1]
    split
    · unfold nameT; split <;> simp_all
    split
    · unfold numT; split <;> simp_all
    split
    · unfold textT
      split
      · rename_i h
        have := (List.getElem?_eq_some_iff.1 h).1
        simp at this ⊢
        omega
      · simp
    split
    · unfold hashT
      split
      · simp
      split <;> simp_all
    · unfold signT signG
      split
      · rename_i g h
        have := List.find?_some h
        have := List.IsPrefix.length_le (List.isPrefixOf_iff_prefix.1 this)
        simpa using this
      · simp

/-- What stands in a text behind its tokens' places. -/
theorem Sc.places {p : Nat} {l : Bs} {ts : List Tk} {e : Option Nat} (h : Sc p l ts e) : (∀ t ∈ ts, (p : Int) ≤ t.pos ∧ t.pos < (p : Int) + l.length) ∧ ts.Pairwise (fun a b => a.pos < b.pos) := by
  induction h with
  | done p => simp
  | skip _ _ ih =>
    refine ⟨fun t ht => ?_, ih.2⟩
    have := ih.1 t ht
    simp only [List.length_cons]
    omega
  | bad _ _ => simp
  | @tok p n c r ts e _ hn h0 _ ih =>
    have hle := tok1_le (c :: r)
    rw [hn] at hle
    constructor
    · intro t ht
      rcases List.mem_cons.1 ht with rfl | ht
      · simp [Tk.at]; omega
      · have := ih.1 t ht
        rw [List.length_drop] at this
        omega
    · refine List.pairwise_cons.2 ⟨fun t ht => ?_, ih.2⟩
      have := (ih.1 t ht).1
      simp only [Tk.at]
      omega

theorem Sc.few {p : Nat} {l : Bs} {ts : List Tk} {e : Option Nat} (h : Sc p l ts e) : ts.length ≤ l.length := by
  induction h with
  | done p => simp
  | skip _ _ ih => simp only [List.length_cons]; omega
  | bad _ _ => simp
  | @tok p n c r ts e _ hn h0 _ ih =>
    have hle := tok1_le (c :: r)
    rw [hn] at hle
    rw [List.length_drop] at ih
    simp only [List.length_cons] at *
    omega

/-! Two texts that are parted by a blank. -/

theorem signG_none {gs : List Bs} {l : Bs} (h : (signG gs l).2 = 0) (h0 : ∀ g ∈ gs, 0 < g.length) : gs.find? (fun g => g.isPrefixOf l) = none := by
  unfold signG at h
  split at h
  · rename_i g hg
    have := h0 g (List.mem_of_find?_eq_some hg)
    simp at h
    subst h
    simp at this
  · assumption

theorem pre_of_blank {g l m : Bs} (hg : (32 : UInt8) ∉ g) (h : g <+: l ++ 32 :: m) : g <+: l := by
  induction g generalizing l with
  | nil => exact List.nil_prefix
  | cons a g ih =>
    cases l with
    | nil =>
      simp only [List.nil_append, List.cons_prefix_cons] at h
      exact absurd (by rw [h.1]; exact List.mem_cons_self) hg
    | cons b l =>
      simp only [List.cons_append, List.cons_prefix_cons] at h ⊢
      exact ⟨h.1, ih (fun q => hg (List.mem_cons_of_mem _ q)) h.2⟩

theorem signG_app (gs : List Bs) (h : ∀ g ∈ gs, (32 : UInt8) ∉ g) (l m : Bs) : signG gs (l ++ 32 :: m) = signG gs l := by
  have e : gs.find? (fun g => g.isPrefixOf (l ++ 32 :: m)) = gs.find? (fun g => g.isPrefixOf l) := by
    induction gs with
    | nil => rfl
    | cons g gs ih =>
      have hg : g.isPrefixOf (l ++ 32 :: m) = g.isPrefixOf l := by
        rw [Bool.eq_iff_iff, List.isPrefixOf_iff_prefix, List.isPrefixOf_iff_prefix]
        exact ⟨pre_of_blank (h g List.mem_cons_self), fun q => List.IsPrefix.trans q (List.prefix_append _ _)⟩
      rw [List.find?_cons, List.find?_cons, hg, ih (fun g q => h g (List.mem_cons_of_mem _ q))]
  unfold signG
  rw [e]

theorem isTx_blank (c : UInt8) (h : c = 32) : isTx c = true := by subst h; decide

theorem spn_short (p : UInt8 → Bool) (m : Bs) : ∀ l : Bs, spn p l < l.length → spn p (l ++ m) = spn p l
  | [], h => by simp at h
  | b :: t, h => by
    rw [List.cons_append, spn_cons, spn_cons] at *
    split
    · rename_i hb
      rw [if_pos hb, List.length_cons] at h
      rw [spn_short p m t (by omega)]
    · rfl

theorem tok1_app (l m : Bs) (h : 0 < (tok1 l).2) : tok1 (l ++ 32 :: m) = tok1 l := by
  cases l with
  | nil => simp [tok1] at h
  | cons c r =>
    simp only [List.cons_append, tok1] at h ⊢
    split
    · rename_i hc
      rw [if_pos hc] at h
      have e : spn isNm (c :: (r ++ 32 :: m)) = spn isNm (c :: r) := spn_app isNm 32 (by decide) m (c :: r)
      have hle := spn_le isNm (c :: r)
      unfold nameT
      rw [e, ← List.cons_append, List.take_append_of_le_length hle]
    split
    · have e : spn isDi (c :: (r ++ 32 :: m)) = spn isDi (c :: r) := spn_app isDi 32 (by decide) m (c :: r)
      have hle := spn_le isDi (c :: r)
      unfold numT
      rw [e, ← List.cons_append, List.take_append_of_le_length hle]
      simp
    split
    · rename_i h1 h2 h3
      rw [if_neg h1, if_neg h2, if_pos h3] at h
      unfold textT at h ⊢
      simp only [List.drop_succ_cons, List.drop_zero] at h ⊢
      split at h
      · rename_i hq
        have hlt := (List.getElem?_eq_some_iff.1 hq).1
        have e := spn_short isTx (32 :: m) r hlt
        rw [e, List.getElem?_append_left hlt, List.take_append_of_le_length (by omega)]
      · simp at h
    split
    · rename_i h1 h2 h3 h4
      rw [if_neg h1, if_neg h2, if_neg h3, if_pos h4] at h
      unfold hashT at h ⊢
      split at h
      · simp at h
      · rename_i hlen
        have hlen' : ¬ (c :: (r ++ 32 :: m)).length < 17 := by simp at hlen ⊢; omega
        have e : hash16 (c :: (r ++ 32 :: m)) = hash16 (c :: r) := by
          unfold hash16
          simp only [List.drop_succ_cons, List.drop_zero]
          rw [List.take_append_of_le_length (by simp at hlen; omega)]
        rw [if_neg hlen', e, if_neg hlen]
    · rw [← List.cons_append]
      exact signG_app sgs (by decide) (c :: r) m

theorem Sc.join {p : Nat} {l : Bs} {ts : List Tk} {e0 : Option Nat} (h : Sc p l ts e0) (h0 : e0 = none) {m : Bs} {us : List Tk} {e : Option Nat} (k : Sc (p + l.length + 1) m us e) : Sc p (l ++ 32 :: m) (ts ++ us) e := by
  induction h with
  | done p => exact .skip (by decide) (by simpa using k)
  | @skip p c r ts e hb _ ih =>
    refine .skip hb (ih h0 ?_)
    have : p + (c :: r).length + 1 = p + 1 + r.length + 1 := by simp; omega
    rw [this] at k
    exact k
  | bad _ _ => cases h0
  | @tok p n c r ts e hb hn hp _ ih =>
    have hle := tok1_le (c :: r)
    rw [hn] at hle
    have ht := tok1_app (c :: r) m (by omega)
    rw [List.cons_append] at ht
    rw [List.cons_append, List.cons_append, ← ht]
    refine .tok hb (by rw [ht]; exact hn) hp ?_
    rw [← List.cons_append, List.drop_append_of_le_length hle]
    refine ih h0 ?_
    have : p + (c :: r).length + 1 = p + n + ((c :: r).drop n).length + 1 := by rw [List.length_drop]; omega
    rw [this] at k
    exact k

def Tk.up (d : Nat) (t : Tk) : Tk := { t with pos := t.pos + d }
theorem Sc.shift {p : Nat} {l : Bs} {ts : List Tk} {e : Option Nat} (h : Sc p l ts e) (d : Nat) : Sc (p + d) l (ts.map (Tk.up d)) (e.map (· + d)) := by
  induction h with
  | done p => exact .done _
  | @skip p c r ts e hb _ ih =>
    refine .skip hb ?_
    rw [show p + d + 1 = p + 1 + d by omega]
    exact ih
  | bad hb hz => exact .bad hb hz
  | @tok p n c r ts e hb hn hp _ ih =>
    have e1 : Tk.up d ((tok1 (c :: r)).1.at p) = (tok1 (c :: r)).1.at (p + d) := by
      simp [Tk.up, Tk.at]
    rw [List.map_cons, e1]
    refine .tok hb hn hp ?_
    rw [show p + d + n = p + n + d by omega]
    exact ih

end Go.Proofs.YtijchmcajhdcoaaGreatDoor
