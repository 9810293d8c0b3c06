/-
  Revision sets as trees, without a program: the grammar as a relation of tokens and trees, the document's stack of what waits as a function, and that both tell the same. No condition.
-/
import Derived.Test.YtijchmcajhdcoaaGreatDoorEToks
namespace Go.Proofs.YtijchmcajhdcoaaGreatDoor
open Go.RowKit

/-- A row of trees: each its fields, its kids and those behind it. -/
inductive Fo where
  | nil : Fo
  | cons (op : Int) (text : Bs) (num id : Int) (kids : Fo) (pos : Int) (next : Fo) : Fo
/-- A tree. -/
structure Nd where
  op : Int
  text : Bs
  num : Int
  id : Int
  kids : Fo
  pos : Int
def Nd.onto (n : Nd) (f : Fo) : Fo := .cons n.op n.text n.num n.id n.kids n.pos f
def foOf (l : List Nd) : Fo := l.foldr Nd.onto .nil

/-- What is told: a tree and what is left, or a place. -/
inductive Out where
  | ok (n : Nd) (r : List Tk) : Out
  | err (p : Int) : Out

/-- Is it this sign? -/
def sB (s : Bs) (t : Tk) : Bool := decide (t.kind = 5) && decide (t.text = s)
/-- Is the next one so? -/
def hd (q : Tk → Bool) : List Tk → Bool
  | [] => false
  | t :: _ => q t
/-- The op of a sign between two. -/
def opOf (s : Bs) : Int := if s = [124] then 6 else if s = [45] then 7 else if s = [38] then 8 else if s = [46, 46] then 9 else if s = [58, 58] then 10 else 0
def lvl (op : Int) : Int := if op = 6 ∨ op = 7 then 1 else if op = 8 then 2 else if op = 9 ∨ op = 10 then 3 else if op = 11 then 4 else if op = 12 then 5 else 6
/-- The level of a sign that stands between two; 0: it doesn't. -/
def sgl (t : Tk) : Int := if t.kind = 5 ∧ opOf t.text ≠ 0 then lvl (opOf t.text) else 0
/-- Does a sign of this level stand here? -/
def lB (L : Int) (t : Tk) : Bool := decide (sgl t = L)
def kB (k : Int) (t : Tk) : Bool := decide (t.kind = k)
/-- The place of what is next. -/
def nextP (E : Int) : List Tk → Int
  | [] => E
  | t :: _ => t.pos
def leafOp (k : Int) : Int := if k = 4 then 2 else if k = 2 then 3 else if k = 3 then 4 else 1
def leafN (t : Tk) : Nd := ⟨leafOp t.kind, t.text, t.num, t.id, .nil, t.pos⟩
def binN (t : Tk) (x y : Nd) : Nd := ⟨opOf t.text, [], 0, 0, foOf [x, y], t.pos⟩
def notN (t : Tk) (x : Nd) : Nd := ⟨11, [], 0, 0, foOf [x], t.pos⟩
def upN (t : Tk) (k : Int) (x : Nd) : Nd := ⟨12, [], k, 0, foOf [x], t.pos⟩
def callN (t : Tk) (ks : List Nd) : Nd := ⟨5, t.text, 0, 0, foOf ks, t.pos⟩

/-- What is being read: rows of a level (1 expr, 2 inter), the rest of such a row behind a tree, a range, a unary, a postfix, the rest of one, an atom, the rest of a call's exprs. -/
inductive Mo where
  | row (L : Int) : Mo
  | rows (L : Int) (n : Nd) : Mo
  | range : Mo
  | unary : Mo
  | post : Mo
  | ups (n : Nd) : Mo
  | atom : Mo
  | args (t : Tk) (ks : List Nd) : Mo

/-- What a row of a level is made of. -/
def lowM (L : Int) : Mo := if L = 1 then .row 2 else .range

/-- The grammar. E: the place behind the last token. -/
inductive Gm (E : Int) : Mo → List Tk → Out → Prop
  | row {L : Int} {l r : List Tk} {n : Nd} {o : Out} : (L = 1 ∨ L = 2) → Gm E (lowM L) l (.ok n r) → Gm E (.rows L n) r o → Gm E (.row L) l o
  | rowE {L : Int} {l : List Tk} {p : Int} : (L = 1 ∨ L = 2) → Gm E (lowM L) l (.err p) → Gm E (.row L) l (.err p)
  | more {L : Int} {t : Tk} {l r : List Tk} {n m : Nd} {o : Out} : sgl t = L → Gm E (lowM L) l (.ok m r) → Gm E (.rows L (binN t n m)) r o → Gm E (.rows L n) (t :: l) o
  | moreE {L : Int} {t : Tk} {l : List Tk} {n : Nd} {p : Int} : sgl t = L → Gm E (lowM L) l (.err p) → Gm E (.rows L n) (t :: l) (.err p)
  | done {L : Int} {l : List Tk} {n : Nd} : hd (lB L) l = false → Gm E (.rows L n) l (.ok n l)
  | range {t : Tk} {l r r2 : List Tk} {n m : Nd} : Gm E .unary l (.ok n (t :: r)) → sgl t = 3 → Gm E .unary r (.ok m r2) → Gm E .range l (.ok (binN t n m) r2)
  | range1 {l r : List Tk} {n : Nd} : Gm E .unary l (.ok n r) → hd (lB 3) r = false → Gm E .range l (.ok n r)
  | rangeE {t : Tk} {l r : List Tk} {n : Nd} {p : Int} : Gm E .unary l (.ok n (t :: r)) → sgl t = 3 → Gm E .unary r (.err p) → Gm E .range l (.err p)
  | rangeF {l : List Tk} {p : Int} : Gm E .unary l (.err p) → Gm E .range l (.err p)
  | nots {t : Tk} {l r : List Tk} {n : Nd} : sB [33] t = true → Gm E .unary l (.ok n r) → Gm E .unary (t :: l) (.ok (notN t n) r)
  | notsE {t : Tk} {l : List Tk} {p : Int} : sB [33] t = true → Gm E .unary l (.err p) → Gm E .unary (t :: l) (.err p)
  | unary {l : List Tk} {o : Out} : hd (sB [33]) l = false → Gm E .post l o → Gm E .unary l o
  | post {l r : List Tk} {n : Nd} {o : Out} : Gm E .atom l (.ok n r) → Gm E (.ups n) r o → Gm E .post l o
  | postE {l : List Tk} {p : Int} : Gm E .atom l (.err p) → Gm E .post l (.err p)
  | up {t : Tk} {l : List Tk} {n : Nd} {o : Out} : sB [94] t = true → hd (kB 2) l = false → Gm E (.ups (upN t 0 n)) l o → Gm E (.ups n) (t :: l) o
  | upK {t u : Tk} {l : List Tk} {n : Nd} {o : Out} : sB [94] t = true → u.kind = 2 → u.num ≠ 0 → Gm E (.ups (upN t u.num n)) l o → Gm E (.ups n) (t :: u :: l) o
  | upE {t u : Tk} {l : List Tk} {n : Nd} : sB [94] t = true → u.kind = 2 → u.num = 0 → Gm E (.ups n) (t :: u :: l) (.err u.pos)
  | upped {l : List Tk} {n : Nd} : hd (sB [94]) l = false → Gm E (.ups n) l (.ok n l)
  | none : Gm E .atom [] (.err E)
  | leaf {t : Tk} {l : List Tk} : t.kind ≠ 5 → (t.kind = 1 → hd (sB [40]) l = false) → Gm E .atom (t :: l) (.ok (leafN t) l)
  | brac {t u : Tk} {l r : List Tk} {n : Nd} : sB [40] t = true → Gm E (.row 1) l (.ok n (u :: r)) → sB [41] u = true → Gm E .atom (t :: l) (.ok n r)
  | bracE {t : Tk} {l r : List Tk} {n : Nd} : sB [40] t = true → Gm E (.row 1) l (.ok n r) → hd (sB [41]) r = false → Gm E .atom (t :: l) (.err (nextP E r))
  | bracF {t : Tk} {l : List Tk} {p : Int} : sB [40] t = true → Gm E (.row 1) l (.err p) → Gm E .atom (t :: l) (.err p)
  | sign {t : Tk} {l : List Tk} : t.kind = 5 → t.text ≠ [40] → t.text ≠ [33] → Gm E .atom (t :: l) (.err t.pos)
  | call0 {t u v : Tk} {l : List Tk} : t.kind = 1 → t.text ≠ [] → sB [40] u = true → sB [41] v = true → Gm E .atom (t :: u :: v :: l) (.ok (callN t []) l)
  | call {t u : Tk} {l r : List Tk} {n : Nd} {o : Out} : t.kind = 1 → t.text ≠ [] → sB [40] u = true → hd (sB [41]) l = false → Gm E (.row 1) l (.ok n r) → Gm E (.args t [n]) r o → Gm E .atom (t :: u :: l) o
  | callE {t u : Tk} {l : List Tk} {p : Int} : t.kind = 1 → t.text ≠ [] → sB [40] u = true → hd (sB [41]) l = false → Gm E (.row 1) l (.err p) → Gm E .atom (t :: u :: l) (.err p)
  | arg {t u : Tk} {ks : List Nd} {l r : List Tk} {n : Nd} {o : Out} : sB [44] u = true → Gm E (.row 1) l (.ok n r) → Gm E (.args t (ks ++ [n])) r o → Gm E (.args t ks) (u :: l) o
  | argE {t u : Tk} {ks : List Nd} {l : List Tk} {p : Int} : sB [44] u = true → Gm E (.row 1) l (.err p) → Gm E (.args t ks) (u :: l) (.err p)
  | close {t u : Tk} {ks : List Nd} {l : List Tk} : sB [41] u = true → Gm E (.args t ks) (u :: l) (.ok (callN t ks) l)
  | closeE {t : Tk} {ks : List Nd} {l : List Tk} : hd (sB [44]) l = false → hd (sB [41]) l = false → Gm E (.args t ks) l (.err (nextP E l))

/-! ### The document's stack -/

/-- What waits: a sign, a bracket or a call. -/
structure Wt where
  op : Int
  pos : Int
  text : Bs
  opn : Bool
  nodes : Nat

/-- Signs that hold at least so tightly are done (the last ones are the lists' heads). -/
def red (L : Int) : List Nd → List Wt → List Nd × List Wt
  | ns, [] => (ns, [])
  | ns, w :: ws => if w.opn = true ∨ lvl w.op < L then (ns, w :: ws) else if w.op = 11 then (match ns with
      | x :: r => red L (⟨11, [], 0, 0, foOf [x], w.pos⟩ :: r) ws
      | [] => ([], w :: ws)) else (match ns with
      | y :: x :: r => red L (⟨w.op, [], 0, 0, foOf [x, y], w.pos⟩ :: r) ws
      | r => (r, w :: ws))
def ranged : List Wt → Bool
  | [] => false
  | w :: ws => if w.opn = true ∨ lvl w.op < 3 then false else if lvl w.op = 3 then true else ranged ws
def inCall : List Wt → Bool
  | [] => false
  | w :: ws => if w.opn then decide (w.text ≠ []) else inCall ws
/-- The innermost bracket, or call, behind all that is done. -/
def shutB (ns : List Nd) : List Wt → Option (List Nd × List Wt)
  | [] => none
  | w :: ws => some (if w.text ≠ [] then ⟨5, w.text, 0, 0, foOf (ns.take (ns.length - w.nodes)).reverse, w.pos⟩ :: ns.drop (ns.length - w.nodes) else ns, ws)

/-- What the document answers: a tree, or a place. -/
inductive Ans where
  | ok (n : Nd) : Ans
  | err (p : Int) : Ans

/-- The document's reader: so many steps at most, what has been read, whether an operand is wanted. -/
def run (E : Int) : Nat → List Nd → List Wt → Bool → List Tk → Ans
  | 0, _, _, _, _ => .err E
  | _ + 1, _, _, true, [] => .err E
  | _ + 1, ns, ws, false, [] => match red 1 ns ws with
      | (n :: _, []) => .ok n
      | _ => .err E
  | f + 1, ns, ws, true, t :: l =>
      if t.kind = 1 ∧ hd (sB [40]) l = true then
        (if hd (sB [41]) (l.drop 1) = true then run E f (callN t [] :: ns) ws false (l.drop 2) else run E f ns (⟨0, t.pos, t.text, true, ns.length⟩ :: ws) true (l.drop 1))
      else if t.kind ≠ 5 then run E f (leafN t :: ns) ws false l
      else if t.text = [40] then run E f ns (⟨0, 0, [], true, ns.length⟩ :: ws) true l
      else if t.text = [33] then run E f ns (⟨11, t.pos, [], false, 0⟩ :: ws) true l
      else .err t.pos
  | f + 1, ns, ws, false, t :: l =>
      if t.kind ≠ 5 then .err t.pos
      else if t.text = [94] then
        (match ns with
        | [] => .err E
        | x :: r => if hd (kB 2) l = true then (if hd (fun u => decide (u.num = 0)) l = true then .err (nextP E l) else run E f (upN t (match l with | u :: _ => u.num | [] => 0) x :: r) ws false (l.drop 1)) else run E f (upN t 0 x :: r) ws false l)
      else if opOf t.text ≠ 0 ∧ (lvl (opOf t.text) ≠ 3 ∨ ranged ws = false) then
        run E f (red (lvl (opOf t.text)) ns ws).1 (⟨opOf t.text, t.pos, [], false, 0⟩ :: (red (lvl (opOf t.text)) ns ws).2) true l
      else if t.text = [41] then
        (match shutB (red 1 ns ws).1 (red 1 ns ws).2 with
        | some p => run E f p.1 p.2 false l
        | none => .err t.pos)
      else if t.text = [44] ∧ inCall ws = true then run E f (red 1 ns ws).1 (red 1 ns ws).2 true l
      else .err t.pos

theorem run_fuel (E : Int) : ∀ (f g : Nat) (ns : List Nd) (ws : List Wt) (b : Bool) (l : List Tk), l.length < f → l.length < g → run E f ns ws b l = run E g ns ws b l
  | 0, g, ns, ws, b, l, hf, _ => by omega
  | f + 1, 0, ns, ws, b, l, _, hg => by omega
  | f + 1, g + 1, ns, ws, b, [], _, _ => by cases b <;> rfl
  | f + 1, g + 1, ns, ws, true, t :: l, hf, hg => by
    simp only [List.length_cons] at hf hg
    have h0 := fun ns ws b => run_fuel E f g ns ws b l (by omega) (by omega)
    have h1 := fun ns ws b => run_fuel E f g ns ws b (l.drop 1) (by rw [List.length_drop]; omega) (by rw [List.length_drop]; omega)
    have h2 := fun ns ws b => run_fuel E f g ns ws b (l.drop 2) (by rw [List.length_drop]; omega) (by rw [List.length_drop]; omega)
    simp only [run, h0, h1, h2]
  | f + 1, g + 1, ns, ws, false, t :: l, hf, hg => by
    simp only [List.length_cons] at hf hg
    have h0 := fun ns ws b => run_fuel E f g ns ws b l (by omega) (by omega)
    have h1 := fun ns ws b => run_fuel E f g ns ws b (l.drop 1) (by rw [List.length_drop]; omega) (by rw [List.length_drop]; omega)
    simp only [run, h0, h1]

/-- The document's reader, with as many steps as it wants. -/
def rn (E : Int) (ns : List Nd) (ws : List Wt) (b : Bool) (l : List Tk) : Ans := run E (l.length + 1) ns ws b l

theorem rn_run (E : Int) (f : Nat) (ns : List Nd) (ws : List Wt) (b : Bool) (l : List Tk) (h : l.length < f) : run E f ns ws b l = rn E ns ws b l := run_fuel E f _ ns ws b l h (by omega)

end Go.Proofs.YtijchmcajhdcoaaGreatDoor
