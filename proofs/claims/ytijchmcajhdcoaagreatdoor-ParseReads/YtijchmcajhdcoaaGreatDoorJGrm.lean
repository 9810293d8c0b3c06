import Derived.Test.YtijchmcajhdcoaaGreatDoorEGram
/-!
  The grammar and the document's stack tell the same. No program, no condition.
-/
namespace Go.Proofs.YtijchmcajhdcoaaGreatDoor
open Go.RowKit

theorem rn_want (E : Int) (ns : List Nd) (ws : List Wt) (t : Tk) (l : List Tk) : rn E ns ws true (t :: l) =
    if t.kind = 1 ∧ hd (sB [40]) l = true then
      (if hd (sB [41]) (l.drop 1) = true then rn E (callN t [] :: ns) ws false (l.drop 2) else rn E ns (⟨0, t.pos, t.text, true, ns.length⟩ :: ws) true (l.drop 1))
    else if t.kind ≠ 5 then rn E (leafN t :: ns) ws false l
    else if t.text = [40] then rn E ns (⟨0, 0, [], true, ns.length⟩ :: ws) true l
    else if t.text = [33] then rn E ns (⟨11, t.pos, [], false, 0⟩ :: ws) true l
    else .err t.pos := by
  have h0 : ∀ ns ws b, run E (l.length + 1) ns ws b l = rn E ns ws b l := fun _ _ _ => rfl
  have h1 := fun ns ws b => rn_run E (l.length + 1) ns ws b (l.drop 1) (by rw [List.length_drop]; omega)
  have h2 := fun ns ws b => rn_run E (l.length + 1) ns ws b (l.drop 2) (by rw [List.length_drop]; omega)
  show run E (l.length + 1 + 1) ns ws true (t :: l) = _
  simp only [run, h0, h1, h2]

theorem rn_have (E : Int) (ns : List Nd) (ws : List Wt) (t : Tk) (l : List Tk) : rn E ns ws false (t :: l) =
    if t.kind ≠ 5 then .err t.pos
    else if t.text = [94] then
      (match ns with
      | [] => .err E
      | x :: r => if hd (kB 2) l = true then (if hd (fun u => decide (u.num = 0)) l = true then .err (nextP E l) else rn E (upN t (match l with | u :: _ => u.num | [] => 0) x :: r) ws false (l.drop 1)) else rn E (upN t 0 x :: r) ws false l)
    else if opOf t.text ≠ 0 ∧ (lvl (opOf t.text) ≠ 3 ∨ ranged ws = false) then
      rn E (red (lvl (opOf t.text)) ns ws).1 (⟨opOf t.text, t.pos, [], false, 0⟩ :: (red (lvl (opOf t.text)) ns ws).2) true l
    else if t.text = [41] then
      (match shutB (red 1 ns ws).1 (red 1 ns ws).2 with
      | some p => rn E p.1 p.2 false l
      | none => .err t.pos)
    else if t.text = [44] ∧ inCall ws = true then rn E (red 1 ns ws).1 (red 1 ns ws).2 true l
    else .err t.pos := by
  have h0 : ∀ ns ws b, run E (l.length + 1) ns ws b l = rn E ns ws b l := fun _ _ _ => rfl
  have h1 := fun ns ws b => rn_run E (l.length + 1) ns ws b (l.drop 1) (by rw [List.length_drop]; omega)
  show run E (l.length + 1 + 1) ns ws false (t :: l) = _
  simp only [run, h0, h1]
  rfl

theorem rn_end (E : Int) (ns : List Nd) (ws : List Wt) : rn E ns ws false [] = match red 1 ns ws with
    | (n :: _, []) => .ok n
    | _ => .err E := rfl

/-- The innermost sign holds less tightly, or a bracket is. -/
def Cx (L : Int) : List Wt → Prop
  | [] => True
  | w :: _ => w.opn = true ∨ lvl w.op < L
theorem red_cx {L : Int} {ws : List Wt} (h : Cx L ws) (ns : List Nd) : red L ns ws = (ns, ws) := by
  cases ws with
  | nil => rfl
  | cons w ws => simp only [red]; rw [if_pos (show w.opn = true ∨ lvl w.op < L from h)]
theorem ranged_cx {ws : List Wt} (h : Cx 3 ws) : ranged ws = false := by
  cases ws with
  | nil => rfl
  | cons w ws => simp only [ranged]; rw [if_pos (show w.opn = true ∨ lvl w.op < 3 from h)]
theorem Cx.up {L M : Int} {ws : List Wt} (h : Cx L ws) (hm : L ≤ M) : Cx M ws := by
  cases ws with
  | nil => trivial
  | cons w ws => rcases h with h | h
                 · exact .inl h
                 · exact .inr (by omega)

theorem opOf_range (s : Bs) : opOf s = 0 ∨ opOf s = 6 ∨ opOf s = 7 ∨ opOf s = 8 ∨ opOf s = 9 ∨ opOf s = 10 := by
  unfold opOf
  repeat (split; simp)
  simp
theorem lvl_op {s : Bs} (h : opOf s ≠ 0) : 1 ≤ lvl (opOf s) ∧ lvl (opOf s) ≤ 3 := by
  rcases opOf_range s with e | e | e | e | e | e <;> rw [e] at h ⊢ <;> simp [lvl] at *
theorem sgl_sign {t : Tk} (h : t.kind = 5) (ho : opOf t.text ≠ 0) : sgl t = lvl (opOf t.text) := by unfold sgl; rw [if_pos ⟨h, ho⟩]
theorem sgl_pos {t : Tk} (h : 0 < sgl t) : t.kind = 5 ∧ opOf t.text ≠ 0 ∧ lvl (opOf t.text) = sgl t := by
  unfold sgl at h ⊢
  split at h
  · rename_i q
    rw [if_pos q]
    exact ⟨q.1, q.2, rfl⟩
  · omega
theorem op_text {s : Bs} (h : opOf s ≠ 0) : s ≠ [94] ∧ s ≠ [40] ∧ s ≠ [41] ∧ s ≠ [44] ∧ s ≠ [33] := by
  refine ⟨?_, ?_, ?_, ?_, ?_⟩ <;> (intro e; subst e; simp [opOf] at h)

/-- Two states that are alike once the signs that hold tightly are done. -/
theorem rn_pend (E : Int) {ns1 ns2 : List Nd} {ws1 ws2 : List Wt} {r : List Tk} (K : Int) (hK : 1 ≤ K) (hred : ∀ L, 1 ≤ L → L ≤ K → red L ns1 ws1 = red L ns2 ws2) (hin : inCall ws1 = inCall ws2) (hup : hd (sB [94]) r = false)
    (hlv : ∀ t r', r = t :: r' → sgl t ≤ K ∧ (sgl t = 3 → ranged ws1 = ranged ws2)) : rn E ns1 ws1 false r = rn E ns2 ws2 false r := by
  cases r with
  | nil => rw [rn_end, rn_end, hred 1 (by omega) hK]
  | cons t l =>
    rw [rn_have, rn_have]
    by_cases h5 : t.kind ≠ 5
    · rw [if_pos h5, if_pos h5]
    have h5' : t.kind = 5 := by omega
    rw [if_neg h5, if_neg h5]
    have h94 : ¬ t.text = [94] := by
      intro q
      simp [hd, sB, h5', q] at hup
    rw [if_neg h94, if_neg h94]
    have e1 := hred 1 (by omega) hK
    by_cases ho : opOf t.text ≠ 0
    · have hs := sgl_sign h5' ho
      obtain ⟨l1, l2⟩ := lvl_op ho
      obtain ⟨k1, k2⟩ := hlv t l rfl
      have e2 := hred (lvl (opOf t.text)) l1 (by omega)
      have e3 : (opOf t.text ≠ 0 ∧ (lvl (opOf t.text) ≠ 3 ∨ ranged ws1 = false)) ↔ (opOf t.text ≠ 0 ∧ (lvl (opOf t.text) ≠ 3 ∨ ranged ws2 = false)) := by
        by_cases q : lvl (opOf t.text) = 3
        · rw [k2 (by omega)]
        · simp [q]
      simp only [e3, e2, e1, hin]
    · have ho' : ¬ (opOf t.text ≠ 0 ∧ (lvl (opOf t.text) ≠ 3 ∨ ranged ws1 = false)) := fun q => ho q.1
      have ho2 : ¬ (opOf t.text ≠ 0 ∧ (lvl (opOf t.text) ≠ 3 ∨ ranged ws2 = false)) := fun q => ho q.1
      rw [if_neg ho', if_neg ho2, e1, hin]

theorem red_not (L : Int) (h : L ≤ 4) (x : Nd) (ns : List Nd) (p : Int) (ws : List Wt) : red L (x :: ns) (⟨11, p, [], false, 0⟩ :: ws) = red L (⟨11, [], 0, 0, foOf [x], p⟩ :: ns) ws := by
  simp only [red]
  rw [if_neg (by simp [lvl]; omega), if_pos trivial]
theorem red_bin (L K : Int) (hL : L ≤ K) (k : Int) (hk : lvl k = K) (h11 : k ≠ 11) (x y : Nd) (ns : List Nd) (p : Int) (ws : List Wt) : red L (y :: x :: ns) (⟨k, p, [], false, 0⟩ :: ws) = red L (⟨k, [], 0, 0, foOf [x, y], p⟩ :: ns) ws := by
  simp only [red]
  rw [if_neg (by simp [hk]; omega), if_neg h11]

/-- A tree is read from where an operand is wanted on. -/
def Sm (E : Int) (ns : List Nd) (ws : List Wt) (l : List Tk) (n : Nd) (r : List Tk) : Prop :=
  hd (sB [94]) r = false ∧ (hd (lB 3) r = true → rn E ns ws true l = .err (nextP E r)) ∧ (hd (lB 3) r = false → rn E ns ws true l = rn E (n :: ns) ws false r)
def callW (t : Tk) (k : Nat) : Wt := ⟨0, t.pos, t.text, true, k⟩

/-- What each part of the grammar means for the document's reader. -/
def Claim (E : Int) (m : Mo) (l : List Tk) (o : Out) : Prop := match m, o with
  | .row L, .ok n r => ∀ ns ws, Cx L ws → Sm E ns ws l n r ∧ hd (lB 2) r = false ∧ (L = 1 → hd (lB 1) r = false)
  | .row L, .err p => ∀ ns ws, Cx L ws → rn E ns ws true l = .err p
  | .rows L n, .ok n' r => (L = 1 ∨ L = 2) → (hd (lB 3) l = true → n' = n ∧ r = l) ∧ (hd (sB [94]) l = false → (L = 1 → hd (lB 2) l = false) → hd (sB [94]) r = false ∧ hd (lB 2) r = false ∧ (L = 1 → hd (lB 1) r = false) ∧
      (hd (lB 3) l = false → ∀ ns ws, Cx L ws → (hd (lB 3) r = true → rn E (n :: ns) ws false l = .err (nextP E r)) ∧ (hd (lB 3) r = false → rn E (n :: ns) ws false l = rn E (n' :: ns) ws false r)))
  | .rows L n, .err p => (L = 1 ∨ L = 2) → hd (lB 3) l = false ∧ (hd (sB [94]) l = false → (L = 1 → hd (lB 2) l = false) → ∀ ns ws, Cx L ws → rn E (n :: ns) ws false l = .err p)
  | .range, .ok n r => ∀ ns ws, Cx 3 ws → Sm E ns ws l n r
  | .range, .err p => ∀ ns ws, Cx 3 ws → rn E ns ws true l = .err p
  | .unary, .ok n r => hd (sB [94]) r = false ∧ ∀ ns ws, rn E ns ws true l = rn E (n :: ns) ws false r
  | .unary, .err p => ∀ ns ws, rn E ns ws true l = .err p
  | .post, .ok n r => hd (sB [94]) r = false ∧ ∀ ns ws, rn E ns ws true l = rn E (n :: ns) ws false r
  | .post, .err p => ∀ ns ws, rn E ns ws true l = .err p
  | .ups n, .ok n' r => hd (sB [94]) r = false ∧ ∀ ns ws, rn E (n :: ns) ws false l = rn E (n' :: ns) ws false r
  | .ups n, .err p => ∀ ns ws, rn E (n :: ns) ws false l = .err p
  | .atom, .ok n r => ∀ ns ws, rn E ns ws true l = rn E (n :: ns) ws false r
  | .atom, .err p => ∀ ns ws, rn E ns ws true l = .err p
  | .args t ks, .ok n r => t.text ≠ [] → hd (sB [94]) l = false → hd (lB 1) l = false → hd (lB 2) l = false → hd (lB 3) l = false ∧ ∀ ns ws, rn E (ks.reverse ++ ns) (callW t ns.length :: ws) false l = rn E (n :: ns) ws false r
  | .args t ks, .err p => t.text ≠ [] → hd (sB [94]) l = false → hd (lB 1) l = false → hd (lB 2) l = false → (hd (lB 3) l = true → p = nextP E l) ∧ (hd (lB 3) l = false → ∀ ns ws, rn E (ks.reverse ++ ns) (callW t ns.length :: ws) false l = .err p)

theorem hd_sgl {L : Int} {l : List Tk} (h : hd (lB L) l = false) : ∀ t r, l = t :: r → sgl t ≠ L := by
  intro t r e q
  subst e
  simp [hd, lB, q] at h

/-- The signs' levels that are left. -/
theorem sgl_le {l : List Tk} (K : Int) (h3 : K < 3 → hd (lB 3) l = false) (h2 : K < 2 → hd (lB 2) l = false) (hK : 1 ≤ K) : ∀ t r, l = t :: r → sgl t ≤ K := by
  intro t r e
  by_cases h0 : 0 < sgl t
  · obtain ⟨a, b, c⟩ := sgl_pos h0
    obtain ⟨d, f⟩ := lvl_op b
    by_cases q3 : K < 3
    · have := hd_sgl (h3 q3) t r e
      by_cases q2 : K < 2
      · have := hd_sgl (h2 q2) t r e
        omega
      · omega
    · omega
  · omega

theorem sB_iff (s : Bs) (t : Tk) : sB s t = true ↔ t.kind = 5 ∧ t.text = s := by simp [sB]

theorem claim_unary_not (E : Int) (t : Tk) (l r : List Tk) (n : Nd) (ht : sB [33] t = true) (h : Claim E .unary l (.ok n r)) : Claim E .unary (t :: l) (.ok (notN t n) r) := by
  obtain ⟨h1, h2⟩ := h
  obtain ⟨k5, k6⟩ := (sB_iff _ _).1 ht
  refine ⟨h1, fun ns ws => ?_⟩
  rw [rn_want, if_neg (by rw [k5]; simp), if_neg (by rw [k5]; simp), if_neg (by rw [k6]; decide), if_pos k6, h2]
  refine rn_pend E 4 (by decide) (fun L _ hL => red_not L hL _ _ _ _) (by simp [inCall]) h1 ?_
  intro u r' e
  refine ⟨sgl_le 4 (by omega) (by omega) (by omega) u r' e, fun _ => ?_⟩
  simp [ranged, lvl]

/-- A sign between two where it may stand. -/
theorem rn_op (E : Int) (ns : List Nd) (ws : List Wt) (t : Tk) (l : List Tk) (h : 0 < sgl t) (hc : Cx (sgl t) ws) (hr : sgl t = 3 → ranged ws = false) : rn E ns ws false (t :: l) = rn E ns (⟨opOf t.text, t.pos, [], false, 0⟩ :: ws) true l := by
  obtain ⟨a, b, c⟩ := sgl_pos h
  have hq : lvl (opOf t.text) ≠ 3 ∨ ranged ws = false := by
    by_cases q : sgl t = 3
    · exact .inr (hr q)
    · exact .inl (by omega)
  rw [rn_have, if_neg (by simp [a]), if_neg (op_text b).1, if_pos ⟨b, hq⟩, c, red_cx hc]

theorem claim_below (E : Int) {L : Int} (hL : L = 1 ∨ L = 2) {l r : List Tk} {m : Nd} (h : Claim E (lowM L) l (.ok m r)) : ∀ ns ws, Cx (L + 1) ws → Sm E ns ws l m r ∧ (L = 1 → hd (lB 2) r = false) := by
  rcases hL with rfl | rfl
  · intro ns ws hc
    have h' : Claim E (.row 2) l (.ok m r) := h
    exact ⟨(h' ns ws hc).1, fun _ => (h' ns ws hc).2.1⟩
  · intro ns ws hc
    have h' : Claim E .range l (.ok m r) := h
    exact ⟨h' ns ws hc, fun q => by omega⟩
theorem claim_belowE (E : Int) {L : Int} (hL : L = 1 ∨ L = 2) {l : List Tk} {p : Int} (h : Claim E (lowM L) l (.err p)) : ∀ ns ws, Cx (L + 1) ws → rn E ns ws true l = .err p := by
  rcases hL with rfl | rfl
  · exact h
  · exact h

theorem claim_range (E : Int) {t : Tk} {l r r2 : List Tk} {n m : Nd} (h1 : Claim E .unary l (.ok n (t :: r))) (ht : sgl t = 3) (h2 : Claim E .unary r (.ok m r2)) : Claim E .range l (.ok (binN t n m) r2) := by
  intro ns ws hc
  obtain ⟨a, b, c⟩ := sgl_pos (t := t) (by omega)
  have e1 : rn E ns ws true l = rn E (m :: n :: ns) (⟨opOf t.text, t.pos, [], false, 0⟩ :: ws) false r2 := by
    rw [h1.2, rn_op E _ _ _ _ (by omega) (by rw [ht]; exact hc) (fun _ => ranged_cx hc), h2.2]
  refine ⟨h2.1, fun hb => ?_, fun hg => ?_⟩
  · rw [e1]
    cases r2 with
    | nil => simp [hd] at hb
    | cons u r3 =>
      have hu : sgl u = 3 := by simpa [hd, lB] using hb
      obtain ⟨a2, b2, c2⟩ := sgl_pos (t := u) (by omega)
      obtain ⟨x1, x2, x3, x4, x5⟩ := op_text b2
      have hrg : ranged (⟨opOf t.text, t.pos, [], false, 0⟩ :: ws) = true := by
        simp only [ranged]
        rw [if_neg (by simp [c, ht]), if_pos (by rw [c, ht])]
      rw [rn_have, if_neg (by simp [a2]), if_neg x1, if_neg (by rw [hrg, c2, hu]; simp), if_neg x3, if_neg (fun q => x4 q.1)]
      rfl
  · rw [e1]
    refine rn_pend E 3 (by decide) (fun L _ hL => red_bin L 3 hL _ (by rw [c, ht]) ?_ _ _ _ _ _) (by simp [inCall]) h2.1 ?_
    · rcases opOf_range t.text with q | q | q | q | q | q <;> rw [q] <;> decide
    · intro u r' e
      exact ⟨sgl_le 3 (by omega) (by omega) (by omega) u r' e, fun q => absurd q (hd_sgl hg u r' e)⟩

theorem claim_more (E : Int) {L : Int} {t : Tk} {l r : List Tk} {n m : Nd} {o : Out} (ht : sgl t = L) (h1 : Claim E (lowM L) l (.ok m r)) (h2 : Claim E (.rows L (binN t n m)) r o) : Claim E (.rows L n) (t :: l) o := by
  have key : (L = 1 ∨ L = 2) → ∀ ns ws, Cx L ws → hd (sB [94]) r = false ∧ (L = 1 → hd (lB 2) r = false) ∧ (hd (lB 3) r = true → rn E (n :: ns) ws false (t :: l) = .err (nextP E r)) ∧ (hd (lB 3) r = false → rn E (n :: ns) ws false (t :: l) = rn E (binN t n m :: ns) ws false r) := by
    intro hL ns ws hc
    have hpos : 0 < sgl t := by omega
    obtain ⟨a, b, c⟩ := sgl_pos hpos
    have hcw : Cx (L + 1) (⟨opOf t.text, t.pos, [], false, 0⟩ :: ws) := .inr (by show lvl (opOf t.text) < _; omega)
    obtain ⟨⟨k1, k2, k3⟩, k4⟩ := claim_below E hL h1 (n :: ns) _ hcw
    have e1 := rn_op E (n :: ns) ws t l hpos (by rw [ht]; exact hc) (fun q => by omega)
    refine ⟨k1, k4, fun hb => by rw [e1, k2 hb], fun hg => ?_⟩
    rw [e1, k3 hg]
    refine rn_pend E L (by omega) (fun M _ hM => red_bin M L hM _ (by omega) ?_ _ _ _ _ _) (by simp [inCall]) k1 ?_
    · rcases opOf_range t.text with q | q | q | q | q | q <;> rw [q] <;> decide
    · intro u r' e
      have := sgl_le L (fun _ => hg) (fun q => k4 (by omega)) (by omega) u r' e
      exact ⟨this, fun q => absurd q (hd_sgl hg u r' e)⟩
  have hl3 : (L = 1 ∨ L = 2) → hd (lB 3) (t :: l) = false := by
    intro hL
    simp only [hd, lB, ht]
    rcases hL with rfl | rfl <;> decide
  cases o with
  | ok n' r' =>
    intro hL
    refine ⟨fun q => (by rw [hl3 hL] at q; cases q), fun _ _ => ?_⟩
    have h2' := h2 hL
    obtain ⟨z1, z2, z3, z4⟩ := key hL [] [] trivial
    obtain ⟨y1, y2, y3, y4⟩ := h2'.2 z1 z2
    refine ⟨y1, y2, y3, fun _ ns ws hc => ?_⟩
    obtain ⟨_, _, x3, x4⟩ := key hL ns ws hc
    cases hg : hd (lB 3) r with
    | true =>
      obtain ⟨rfl, rfl⟩ := h2'.1 hg
      exact ⟨fun _ => x3 hg, fun q => by rw [hg] at q; cases q⟩
    | false =>
      rw [x4 hg]
      exact y4 hg ns ws hc
  | err p =>
    intro hL
    refine ⟨hl3 hL, fun _ _ ns ws hc => ?_⟩
    have h2' := h2 hL
    obtain ⟨x1, x2, x3, x4⟩ := key hL ns ws hc
    rw [x4 h2'.1]
    exact h2'.2 x1 x2 ns ws hc

theorem claim_moreE (E : Int) {L : Int} {t : Tk} {l : List Tk} {n : Nd} {p : Int} (ht : sgl t = L) (h1 : Claim E (lowM L) l (.err p)) : Claim E (.rows L n) (t :: l) (.err p) := by
  intro hL
  refine ⟨by simp only [hd, lB, ht]; rcases hL with rfl | rfl <;> decide, fun _ _ ns ws hc => ?_⟩
  have hpos : 0 < sgl t := by omega
  obtain ⟨a, b, c⟩ := sgl_pos hpos
  rw [rn_op E (n :: ns) ws t l hpos (by rw [ht]; exact hc) (fun q => by omega)]
  exact claim_belowE E hL h1 _ _ (.inr (by show lvl (opOf t.text) < _; omega))

theorem claim_done (E : Int) {L : Int} {l : List Tk} {n : Nd} (h : hd (lB L) l = false) : Claim E (.rows L n) l (.ok n l) := by
  intro hL
  refine ⟨fun _ => ⟨rfl, rfl⟩, fun a b => ⟨a, ?_, fun q => by rw [q] at h; exact h, fun g ns ws _ => ⟨fun q => (by rw [g] at q; cases q), fun _ => rfl⟩⟩⟩
  rcases hL with rfl | rfl
  · exact b rfl
  · exact h

theorem claim_row (E : Int) {L : Int} {l r : List Tk} {n : Nd} {o : Out} (hL : L = 1 ∨ L = 2) (h1 : Claim E (lowM L) l (.ok n r)) (h2 : Claim E (.rows L n) r o) : Claim E (.row L) l o := by
  have h2' : Claim E (.rows L n) r o := h2
  cases o with
  | ok n' r' =>
    intro ns ws hc
    obtain ⟨⟨k1, k2, k3⟩, k4⟩ := claim_below E hL h1 ns ws (hc.up (by omega))
    have h3 := h2 hL
    obtain ⟨y1, y2, y3, y4⟩ := h3.2 k1 k4
    refine ⟨⟨y1, ?_, ?_⟩, y2, y3⟩
    · intro hb
      cases hg : hd (lB 3) r with
      | true =>
        obtain ⟨rfl, rfl⟩ := h3.1 hg
        exact k2 hg
      | false => rw [k3 hg]; exact (y4 hg ns ws hc).1 hb
    · intro hb
      cases hg : hd (lB 3) r with
      | true =>
        obtain ⟨rfl, rfl⟩ := h3.1 hg
        rw [hg] at hb
        cases hb
      | false => rw [k3 hg]; exact (y4 hg ns ws hc).2 hb
  | err p =>
    intro ns ws hc
    obtain ⟨⟨k1, k2, k3⟩, k4⟩ := claim_below E hL h1 ns ws (hc.up (by omega))
    have h3 := h2 hL
    rw [k3 h3.1]
    exact h3.2 k1 k4 ns ws hc

end Go.Proofs.YtijchmcajhdcoaaGreatDoor

/-!
  The grammar and the document's stack tell the same (the rest): brackets, calls, and a text as a whole. No program, no condition.
-/
namespace Go.Proofs.YtijchmcajhdcoaaGreatDoor
open Go.RowKit

theorem sgl_none {t : Tk} {r : List Tk} (h1 : hd (lB 1) (t :: r) = false) (h2 : hd (lB 2) (t :: r) = false) (h3 : hd (lB 3) (t :: r) = false) (h5 : t.kind = 5) : opOf t.text = 0 := by
  by_cases ho : opOf t.text = 0
  · exact ho
  · have := sgl_sign h5 ho
    obtain ⟨a, b⟩ := lvl_op ho
    have k1 := hd_sgl h1 t r rfl
    have k2 := hd_sgl h2 t r rfl
    have k3 := hd_sgl h3 t r rfl
    omega

/-- What can't follow. -/
theorem rn_stop (E : Int) (n : Nd) (ns : List Nd) (w : Wt) (ws : List Wt) (hw : w.opn = true) {r : List Tk} (h94 : hd (sB [94]) r = false) (h1 : hd (lB 1) r = false) (h2 : hd (lB 2) r = false) (h3 : hd (lB 3) r = false) (h41 : hd (sB [41]) r = false) (h44 : hd (sB [44]) r = false ∨ inCall (w :: ws) = false) :
    rn E (n :: ns) (w :: ws) false r = .err (nextP E r) := by
  have hc : Cx 1 (w :: ws) := .inl hw
  cases r with
  | nil => rw [rn_end, red_cx hc]; rfl
  | cons t l =>
    rw [rn_have]
    by_cases h5 : t.kind = 5
    · have e0 := sgl_none h1 h2 h3 h5
      have n94 : ¬ t.text = [94] := fun q => by simp [hd, sB, h5, q] at h94
      have n41 : ¬ t.text = [41] := fun q => by simp [hd, sB, h5, q] at h41
      have n44 : ¬ (t.text = [44] ∧ inCall (w :: ws) = true) := by
        rintro ⟨q1, q2⟩
        rcases h44 with q | q
        · simp [hd, sB, h5, q1] at q
        · rw [q] at q2; cases q2
      rw [if_neg (by simp [h5]), if_neg n94, if_neg (fun q => q.1 e0), if_neg n41, if_neg n44]
      rfl
    · rw [if_pos h5]
      rfl

theorem op41 : opOf [41] = 0 := by decide
theorem op44 : opOf [44] = 0 := by decide
theorem sgl_of {t : Tk} {s : Bs} (h : sB s t = true) (h0 : opOf s = 0) : sgl t = 0 := by
  obtain ⟨a, b⟩ := (sB_iff _ _).1 h
  unfold sgl
  rw [if_neg]
  rintro ⟨_, q⟩
  rw [b] at q
  exact q h0
theorem hd_of {t : Tk} {r : List Tk} {s : Bs} (h : sB s t = true) (h0 : opOf s = 0) (L : Int) (hL : 0 < L) : hd (lB L) (t :: r) = false := by
  have := sgl_of h h0
  simp only [hd, lB, this]
  simp
  omega

theorem claim_brac (E : Int) {t u : Tk} {l r : List Tk} {n : Nd} (ht : sB [40] t = true) (h : Claim E (.row 1) l (.ok n (u :: r))) (hu : sB [41] u = true) : Claim E .atom (t :: l) (.ok n r) := by
  intro ns ws
  obtain ⟨k5, k6⟩ := (sB_iff _ _).1 ht
  obtain ⟨u5, u6⟩ := (sB_iff _ _).1 hu
  have hc : Cx 1 (⟨0, 0, [], true, ns.length⟩ :: ws) := .inl rfl
  obtain ⟨⟨a1, a2, a3⟩, b, c⟩ := h ns _ hc
  rw [rn_want, if_neg (by rw [k5]; simp), if_neg (by rw [k5]; simp), if_pos k6, a3 (hd_of hu op41 3 (by decide)), rn_have, if_neg (by simp [u5]), if_neg (by rw [u6]; decide), if_neg (by rw [u6, op41]; simp), if_pos u6, red_cx hc]
  rfl
theorem claim_bracE (E : Int) {t : Tk} {l r : List Tk} {n : Nd} (ht : sB [40] t = true) (h : Claim E (.row 1) l (.ok n r)) (hu : hd (sB [41]) r = false) : Claim E .atom (t :: l) (.err (nextP E r)) := by
  intro ns ws
  obtain ⟨k5, k6⟩ := (sB_iff _ _).1 ht
  have hc : Cx 1 (⟨0, 0, [], true, ns.length⟩ :: ws) := .inl rfl
  obtain ⟨⟨a1, a2, a3⟩, b, c⟩ := h ns _ hc
  rw [rn_want, if_neg (by rw [k5]; simp), if_neg (by rw [k5]; simp), if_pos k6]
  cases hg : hd (lB 3) r with
  | true => exact a2 hg
  | false =>
    rw [a3 hg]
    exact rn_stop E n ns _ ws rfl a1 (c rfl) b hg hu (.inr (by simp [inCall]))
theorem claim_bracF (E : Int) {t : Tk} {l : List Tk} {p : Int} (ht : sB [40] t = true) (h : Claim E (.row 1) l (.err p)) : Claim E .atom (t :: l) (.err p) := by
  intro ns ws
  obtain ⟨k5, k6⟩ := (sB_iff _ _).1 ht
  rw [rn_want, if_neg (by rw [k5]; simp), if_neg (by rw [k5]; simp), if_pos k6]
  exact h ns _ (.inl rfl)

theorem call_in (t : Tk) (h : t.text ≠ []) (k : Nat) (ws : List Wt) : inCall (callW t k :: ws) = true := by simp [inCall, callW, h]

theorem claim_close (E : Int) {t u : Tk} {ks : List Nd} {l : List Tk} (hu : sB [41] u = true) : Claim E (.args t ks) (u :: l) (.ok (callN t ks) l) := by
  intro ht _ _ _
  obtain ⟨u5, u6⟩ := (sB_iff _ _).1 hu
  refine ⟨hd_of hu op41 3 (by decide), fun ns ws => ?_⟩
  have hc : Cx 1 (callW t ns.length :: ws) := .inl rfl
  rw [rn_have, if_neg (by simp [u5]), if_neg (by rw [u6]; decide), if_neg (by rw [u6, op41]; simp), if_pos u6, red_cx hc]
  have e1 : (ks.reverse ++ ns).length - ns.length = ks.reverse.length := by rw [List.length_append]; omega
  simp only [shutB, callW, e1]
  rw [if_pos ht, List.take_left, List.drop_left, List.reverse_reverse]
  rfl
theorem claim_closeE (E : Int) {t : Tk} {ks : List Nd} {l : List Tk} (h0 : 0 < ks.length) (h44 : hd (sB [44]) l = false) (h41 : hd (sB [41]) l = false) : Claim E (.args t ks) l (.err (nextP E l)) := by
  intro ht h94 h1 h2
  refine ⟨fun _ => rfl, fun h3 ns ws => ?_⟩
  obtain ⟨x, xs, hx⟩ : ∃ x xs, ks.reverse = x :: xs := by
    cases hr : ks.reverse with
    | nil => simp at hr; subst hr; simp at h0
    | cons x xs => exact ⟨x, xs, rfl⟩
  rw [hx]
  exact rn_stop E x (xs ++ ns) _ ws rfl h94 h1 h2 h3 h41 (.inl h44)

theorem claim_arg (E : Int) {t u : Tk} {ks : List Nd} {l r : List Tk} {n : Nd} {o : Out} (hu : sB [44] u = true) (h1 : Claim E (.row 1) l (.ok n r)) (h2 : Claim E (.args t (ks ++ [n])) r o) : Claim E (.args t ks) (u :: l) o := by
  obtain ⟨u5, u6⟩ := (sB_iff _ _).1 hu
  have key : t.text ≠ [] → ∀ ns ws, hd (sB [94]) r = false ∧ hd (lB 1) r = false ∧ hd (lB 2) r = false ∧ (hd (lB 3) r = true → rn E (ks.reverse ++ ns) (callW t ns.length :: ws) false (u :: l) = .err (nextP E r)) ∧ (hd (lB 3) r = false → rn E (ks.reverse ++ ns) (callW t ns.length :: ws) false (u :: l) = rn E ((ks ++ [n]).reverse ++ ns) (callW t ns.length :: ws) false r) := by
    intro ht ns ws
    have hc : Cx 1 (callW t ns.length :: ws) := .inl rfl
    obtain ⟨⟨a1, a2, a3⟩, b, c⟩ := h1 (ks.reverse ++ ns) _ hc
    have e1 : rn E (ks.reverse ++ ns) (callW t ns.length :: ws) false (u :: l) = rn E (ks.reverse ++ ns) (callW t ns.length :: ws) true l := by
      rw [rn_have, if_neg (by simp [u5]), if_neg (by rw [u6]; decide), if_neg (by rw [u6, op44]; simp), if_neg (by rw [u6]; decide), if_pos ⟨u6, call_in t ht _ _⟩, red_cx hc]
    refine ⟨a1, c rfl, b, fun q => by rw [e1, a2 q], fun q => ?_⟩
    rw [e1, a3 q]
    simp
  cases o with
  | ok m r' =>
    intro ht _ _ _
    refine ⟨hd_of hu op44 3 (by decide), fun ns ws => ?_⟩
    obtain ⟨x1, x2, x3, x4, x5⟩ := key ht ns ws
    obtain ⟨y1, y2⟩ := h2 ht x1 x2 x3
    rw [x5 y1]
    exact y2 ns ws
  | err p =>
    intro ht _ _ _
    refine ⟨fun q => (by rw [hd_of hu op44 3 (by decide)] at q; cases q), fun _ ns ws => ?_⟩
    obtain ⟨x1, x2, x3, x4, x5⟩ := key ht ns ws
    obtain ⟨y1, y2⟩ := h2 ht x1 x2 x3
    cases hg : hd (lB 3) r with
    | true => rw [x4 hg, y1 hg]
    | false => rw [x5 hg]; exact y2 hg ns ws
theorem claim_argE (E : Int) {t u : Tk} {ks : List Nd} {l : List Tk} {p : Int} (hu : sB [44] u = true) (h1 : Claim E (.row 1) l (.err p)) : Claim E (.args t ks) (u :: l) (.err p) := by
  obtain ⟨u5, u6⟩ := (sB_iff _ _).1 hu
  intro ht _ _ _
  refine ⟨fun q => (by rw [hd_of hu op44 3 (by decide)] at q; cases q), fun _ ns ws => ?_⟩
  have hc : Cx 1 (callW t ns.length :: ws) := .inl rfl
  rw [rn_have, if_neg (by simp [u5]), if_neg (by rw [u6]; decide), if_neg (by rw [u6, op44]; simp), if_neg (by rw [u6]; decide), if_pos ⟨u6, call_in t ht _ _⟩, red_cx hc]
  exact h1 _ _ hc

theorem rn_call (E : Int) {t u : Tk} {l : List Tk} (ht : t.kind = 1) (hu : sB [40] u = true) (hl : hd (sB [41]) l = false) (ns : List Nd) (ws : List Wt) : rn E ns ws true (t :: u :: l) = rn E ns (callW t ns.length :: ws) true l := by
  rw [rn_want, if_pos ⟨ht, hu⟩, if_neg (by simp [hl])]
  rfl

theorem claim_call (E : Int) {t u : Tk} {l r : List Tk} {n : Nd} {o : Out} (hk : t.kind = 1) (ht : t.text ≠ []) (hu : sB [40] u = true) (hl : hd (sB [41]) l = false) (h1 : Claim E (.row 1) l (.ok n r)) (h2 : Claim E (.args t [n]) r o) : Claim E .atom (t :: u :: l) o := by
  have key : ∀ ns ws, hd (sB [94]) r = false ∧ hd (lB 1) r = false ∧ hd (lB 2) r = false ∧ (hd (lB 3) r = true → rn E ns ws true (t :: u :: l) = .err (nextP E r)) ∧ (hd (lB 3) r = false → rn E ns ws true (t :: u :: l) = rn E ([n].reverse ++ ns) (callW t ns.length :: ws) false r) := by
    intro ns ws
    obtain ⟨⟨a1, a2, a3⟩, b, c⟩ := h1 ns (callW t ns.length :: ws) (.inl rfl)
    rw [rn_call E hk hu hl]
    exact ⟨a1, c rfl, b, a2, a3⟩
  cases o with
  | ok m r' =>
    intro ns ws
    obtain ⟨x1, x2, x3, x4, x5⟩ := key ns ws
    obtain ⟨y1, y2⟩ := h2 ht x1 x2 x3
    rw [x5 y1]
    exact y2 ns ws
  | err p =>
    intro ns ws
    obtain ⟨x1, x2, x3, x4, x5⟩ := key ns ws
    obtain ⟨y1, y2⟩ := h2 ht x1 x2 x3
    cases hg : hd (lB 3) r with
    | true => rw [x4 hg, y1 hg]
    | false => rw [x5 hg]; exact y2 hg ns ws

/-- A call's exprs are some: what is read behind the first of them. -/
theorem Gm.claim {E : Int} {m : Mo} {l : List Tk} {o : Out} (h : Gm E m l o) : (∀ t ks, m = .args t ks → 0 < ks.length) → Claim E m l o := by
  induction h with
  | row hL _ _ ih1 ih2 => exact fun _ => claim_row E hL (ih1 (fun _ _ q => by rcases hL with rfl | rfl <;> cases q)) (ih2 (fun _ _ q => by cases q))
  | rowE hL _ ih => exact fun _ => fun ns ws hc => claim_belowE E hL (ih (fun _ _ q => by rcases hL with rfl | rfl <;> cases q)) ns ws (hc.up (by omega))
  | @more L t l r n m o ht _ _ ih1 ih2 =>
    exact fun _ => claim_more E ht (ih1 (fun _ _ q => by unfold lowM at q; split at q <;> cases q)) (ih2 (fun _ _ q => by cases q))
  | @moreE L t l n p ht _ ih =>
    exact fun _ => claim_moreE E ht (ih (fun _ _ q => by unfold lowM at q; split at q <;> cases q))
  | done h => exact fun _ => claim_done E h
  | range _ ht _ ih1 ih2 => exact fun _ => claim_range E (ih1 (fun _ _ q => by cases q)) ht (ih2 (fun _ _ q => by cases q))
  | range1 _ hr ih =>
    intro _ ns ws _
    have h1 := ih (fun _ _ q => by cases q)
    exact ⟨h1.1, fun q => (by rw [hr] at q; cases q), fun _ => h1.2 ns ws⟩
  | @rangeE t l r n p _ ht _ ih1 ih2 =>
    intro _ ns ws hc
    have h1 := ih1 (fun _ _ q => by cases q)
    have h2 := ih2 (fun _ _ q => by cases q)
    rw [h1.2, rn_op E _ _ _ _ (by omega) (by rw [ht]; exact hc) (fun _ => ranged_cx hc)]
    exact h2 _ _
  | rangeF _ ih => exact fun _ => fun ns ws _ => ih (fun _ _ q => by cases q) ns ws
  | nots ht _ ih => exact fun _ => claim_unary_not E _ _ _ _ ht (ih (fun _ _ q => by cases q))
  | @notsE t l p ht _ ih =>
    intro _ ns ws
    obtain ⟨k5, k6⟩ := (sB_iff _ _).1 ht
    rw [rn_want, if_neg (by rw [k5]; simp), if_neg (by rw [k5]; simp), if_neg (by rw [k6]; decide), if_pos k6]
    exact ih (fun _ _ q => by cases q) _ _
  | @unary l o _ _ ih =>
    intro _
    have h := ih (fun _ _ q => by cases q)
    cases o with
    | ok n r => exact h
    | err p => exact h
  | @post l r n o _ _ ih1 ih2 =>
    intro _
    have h1 := ih1 (fun _ _ q => by cases q)
    have h2 := ih2 (fun _ _ q => by cases q)
    cases o with
    | ok n' r' => exact ⟨h2.1, fun ns ws => by rw [h1 ns ws]; exact h2.2 ns ws⟩
    | err p => exact fun ns ws => by rw [h1 ns ws]; exact h2 ns ws
  | postE _ ih => exact fun _ => ih (fun _ _ q => by cases q)
  | @up t l n o ht hl _ ih =>
    intro _
    have h := ih (fun _ _ q => by cases q)
    obtain ⟨k5, k6⟩ := (sB_iff _ _).1 ht
    have e1 : ∀ ns ws, rn E (n :: ns) ws false (t :: l) = rn E (upN t 0 n :: ns) ws false l := by
      intro ns ws
      rw [rn_have, if_neg (by simp [k5]), if_pos k6]
      simp only
      rw [if_neg (by simp [hl])]
    cases o with
    | ok n' r' => exact ⟨h.1, fun ns ws => by rw [e1]; exact h.2 ns ws⟩
    | err p => exact fun ns ws => by rw [e1]; exact h ns ws
  | @upK t u l n o ht hu h0 _ ih =>
    intro _
    have h := ih (fun _ _ q => by cases q)
    obtain ⟨k5, k6⟩ := (sB_iff _ _).1 ht
    have e1 : ∀ ns ws, rn E (n :: ns) ws false (t :: u :: l) = rn E (upN t u.num n :: ns) ws false l := by
      intro ns ws
      rw [rn_have, if_neg (by simp [k5]), if_pos k6]
      simp only
      rw [if_pos (by simp [hd, kB, hu]), if_neg (by simp [hd, h0])]
      rfl
    cases o with
    | ok n' r' => exact ⟨h.1, fun ns ws => by rw [e1]; exact h.2 ns ws⟩
    | err p => exact fun ns ws => by rw [e1]; exact h ns ws
  | @upE t u l n ht hu h0 =>
    intro _ ns ws
    obtain ⟨k5, k6⟩ := (sB_iff _ _).1 ht
    rw [rn_have, if_neg (by simp [k5]), if_pos k6]
    simp only
    rw [if_pos (by simp [hd, kB, hu]), if_pos (by simp [hd, h0])]
    rfl
  | upped h => exact fun _ => ⟨h, fun _ _ => rfl⟩
  | none => exact fun _ _ _ => rfl
  | @leaf t l h5 h1 =>
    intro _ ns ws
    rw [rn_want, if_neg (fun q => by have := h1 q.1; rw [q.2] at this; cases this), if_pos h5]
  | brac ht _ hu ih => exact fun _ => claim_brac E ht (ih (fun _ _ q => by cases q)) hu
  | bracE ht _ hu ih => exact fun _ => claim_bracE E ht (ih (fun _ _ q => by cases q)) hu
  | bracF ht _ ih => exact fun _ => claim_bracF E ht (ih (fun _ _ q => by cases q))
  | @sign t l h5 h40 h33 =>
    intro _ ns ws
    rw [rn_want, if_neg (by rw [h5]; simp), if_neg (by rw [h5]; simp), if_neg h40, if_neg h33]
  | @call0 t u v l hk ht hu hv =>
    intro _ ns ws
    rw [rn_want, if_pos ⟨hk, hu⟩, if_pos (by simpa [hd] using hv)]
    rfl
  | call hk ht hu hl _ _ ih1 ih2 => exact fun _ => claim_call E hk ht hu hl (ih1 (fun _ _ q => by cases q)) (ih2 (fun _ _ q => by cases q; simp))
  | @callE t u l p hk ht hu hl _ ih =>
    intro _ ns ws
    rw [rn_call E hk hu hl]
    exact ih (fun _ _ q => by cases q) ns _ (.inl rfl)
  | arg hu _ _ ih1 ih2 => exact fun _ => claim_arg E hu (ih1 (fun _ _ q => by cases q)) (ih2 (fun _ _ q => by cases q; simp))
  | argE hu _ ih => exact fun _ => claim_argE E hu (ih (fun _ _ q => by cases q))
  | close hu => exact fun _ => claim_close E hu
  | closeE h44 h41 => exact fun h0 => claim_closeE E (h0 _ _ rfl) h44 h41

/-- A text as a whole: what the grammar tells, the document's reader tells. -/
theorem Gm.whole {E : Int} {l : List Tk} {o : Out} (h : Gm E (.row 1) l o) : rn E [] [] true l = match o with
    | .ok n [] => .ok n
    | .ok _ (t :: _) => .err t.pos
    | .err p => .err p := by
  have hc := h.claim (fun _ _ q => by cases q)
  cases o with
  | err p => exact hc [] [] trivial
  | ok n r =>
    obtain ⟨⟨a1, a2, a3⟩, b, c⟩ := hc [] [] trivial
    cases r with
    | nil =>
      rw [a3 rfl, rn_end]
      rfl
    | cons t r =>
      cases hg : hd (lB 3) (t :: r) with
      | true => rw [a2 hg]; rfl
      | false =>
        rw [a3 hg, rn_have]
        by_cases h5 : t.kind = 5
        · have e0 := sgl_none (c rfl) b hg h5
          have n94 : ¬ t.text = [94] := fun q => by simp [hd, sB, h5, q] at a1
          rw [if_neg (by simp [h5]), if_neg n94, if_neg (fun q => q.1 e0)]
          by_cases q : t.text = [41]
          · rw [if_pos q]
            rfl
          · rw [if_neg q, if_neg (by simp [inCall])]
        · rw [if_pos h5]

end Go.Proofs.YtijchmcajhdcoaaGreatDoor
