/-
  What Parse answers, by the document's reader; the three texts of the statements' awake. No condition but that the program's variables hold what its text lays there.
-/
import Derived.Test.YtdgdckmhmmigkaaGreatDoorBPrs
namespace Go.Proofs.YtdgdckmhmmigkaaGreatDoor
open Go.RowKit

/-- The tree of no text. -/
abbrev nv0 : NV := ⟨0, [], 0, 0, none, 0, 0, 0⟩
/-- What Parse answers where the document's reader tells this of these tokens. -/
def Pa (E : Int) (ts : List Tk) (Q : Nat → Prop) (v : NV) (a c : Int) (w' : World) : Prop :=
  (∃ nd, Gm E (.row 1) ts (.ok nd []) ∧ rn E [] [] true ts = .ok nd ∧ nd.dep ≤ 24 ∧ a = 0 ∧ c = 0 ∧ NdIn Q w' v nd) ∨ (v = nv0 ∧ ((∃ nd, rn E [] [] true ts = .ok nd ∧ 24 < nd.dep ∧ a = 0 ∧ c = 32) ∨ (rn E [] [] true ts = .err a ∧ c = 31)))
theorem Pz.ans {E : Int} {ts : List Tk} {o : Out} {Q : Nat → Prop} {v : NV} {a c : Int} {w' : World} (h : Gm E (.row 1) ts o) (k : Pz o Q v a c w') : Pa E ts Q v a c w' := by
  have hw := h.whole
  rcases k with ⟨nd, rfl, k1, k2, k3, k4⟩ | ⟨k0, ⟨nd, rfl, k1, k2, k3⟩ | ⟨nd, t, r, rfl, rfl, k3⟩ | ⟨rfl, k3⟩⟩
  · exact .inl ⟨nd, h, hw, k1, k2, k3, k4⟩
  · exact .inr ⟨k0, .inl ⟨nd, hw, k1, k2, k3⟩⟩
  · exact .inr ⟨k0, .inr ⟨hw, k3⟩⟩
  · exact .inr ⟨k0, .inr ⟨hw, k3⟩⟩
section
variable {E : Int} {ts : List Tk} {Q : Nat → Prop} {v : NV} {a c : Int} {w' : World} {nd : Nd}
theorem Pa.okay (h : Pa E ts Q v a c w') (hr : rn E [] [] true ts = .ok nd) (hd : nd.dep ≤ 24) : a = 0 ∧ c = 0 ∧ NdIn Q w' v nd ∧ Gm E (.row 1) ts (.ok nd []) := by
  rcases h with ⟨x, g, e, _, k2, k3, k4⟩ | ⟨_, ⟨x, e, k, _⟩ | ⟨e, _⟩⟩
  · rw [hr] at e
    cases e
    exact ⟨k2, k3, k4, g⟩
  · rw [hr] at e
    cases e
    omega
  · rw [hr] at e
    cases e
theorem Pa.deep (h : Pa E ts Q v a c w') (hr : rn E [] [] true ts = .ok nd) (hd : 24 < nd.dep) : a = 0 ∧ c = 32 ∧ v = nv0 := by
  rcases h with ⟨x, g, e, k, _⟩ | ⟨k, ⟨x, e, _, k2, k3⟩ | ⟨e, _⟩⟩
  · rw [hr] at e
    cases e
    omega
  · exact ⟨k2, k3, k⟩
  · rw [hr] at e
    cases e
theorem Pa.fail {p : Int} (h : Pa E ts Q v a c w') (hr : rn E [] [] true ts = .err p) : a = p ∧ c = 31 ∧ v = nv0 := by
  rcases h with ⟨x, g, e, k, _⟩ | ⟨k, ⟨x, e, _⟩ | ⟨e, k3⟩⟩
  · rw [hr] at e
    cases e
  · rw [hr] at e
    cases e
  · rw [hr] at e
    cases e
    exact ⟨rfl, k3, k⟩
theorem Pa.tells (h : Pa E ts Q v a c w') : (∃ nd, a = 0 ∧ c = 0 ∧ NdIn Q w' v nd ∧ nd.dep ≤ 24 ∧ Gm E (.row 1) ts (.ok nd [])) ∨ (v = nv0 ∧ (c = 31 ∨ c = 32)) := by
  rcases h with ⟨x, g, _, k1, k2, k3, k4⟩ | ⟨k, ⟨x, _, _, _, k3⟩ | ⟨_, k3⟩⟩
  · exact .inl ⟨x, k2, k3, k4, k1, g⟩
  · exact .inr ⟨k, .inr k3⟩
  · exact .inr ⟨k, .inl k3⟩
/-- What the grammar tells, the document's reader tells. -/
theorem rn_of (h : Gm E (.row 1) ts (.ok nd [])) : rn E [] [] true ts = .ok nd := h.whole
end

theorem parse_ans (s : ByteArray) (hs : s.size ≤ 1024) {ts : List Tk} (h : Sc 0 s.data.toList ts none) (w : World) (hg : Gl w) (hi : Inf w) :
    Calls Tryz.prog 16 #[.string s] w fun e w' => ∃ (v : NV) (a c : Int), e = .returned (.tuple #[v.val, .int .i64 a, .int .i64 c]) ∧ Below w.heap.size w w' ∧ Pa s.size ts (Bt w.heap.size w'.heap.size) v a c w' := by
  refine (parse_known s hs h w hg hi).mono ?_
  rintro e w' ⟨v, a, c, o, rfl, hb, hm, hp⟩
  exact ⟨v, a, c, rfl, hb, hp.ans hm⟩

/-- Of a tree that can be read: it is whole, and not too great. -/
theorem read_wf {E : Int} {l : Bs} {ts : List Tk} {n : Nd} (h : Sc 0 l ts none) (hl : l.length ≤ 1024) (k : Gm E (.row 1) ts (.ok n [])) : WfT n ∧ n.wt ≤ 42000 ∧ n.sz ≤ 2000 := by
  have h1 := (k.wf h.good (.inl rfl) n [] rfl).1
  have h2 := k.weight n [] rfl
  have h3 := tw_short h
  have h4 := n.wt_sz
  simp only [xw] at h2
  exact ⟨h1, by omega, by omega⟩

def tsX : List Tk := [⟨1, [97], 0, 0, 0⟩, ⟨5, [124], 0, 0, 1⟩, ⟨1, [98], 0, 0, 2⟩, ⟨5, [38], 0, 0, 3⟩, ⟨5, [33], 0, 0, 4⟩, ⟨1, [99], 0, 0, 5⟩, ⟨5, [94], 0, 0, 6⟩, ⟨2, [], 2, 0, 7⟩]
def ndX : Nd := binN ⟨5, [124], 0, 0, 1⟩ (leafN ⟨1, [97], 0, 0, 0⟩) (binN ⟨5, [38], 0, 0, 3⟩ (leafN ⟨1, [98], 0, 0, 2⟩) (notN ⟨5, [33], 0, 0, 4⟩ (upN ⟨5, [94], 0, 0, 6⟩ 2 (leafN ⟨1, [99], 0, 0, 5⟩))))
theorem scX : Sc 0 [97, 124, 98, 38, 33, 99, 94, 50] tsX none :=
  .tok (n := 1) rfl rfl (by decide) (.tok (n := 1) rfl rfl (by decide) (.tok (n := 1) rfl rfl (by decide) (.tok (n := 1) rfl rfl (by decide) (.tok (n := 1) rfl rfl (by decide) (.tok (n := 1) rfl rfl (by decide) (.tok (n := 1) rfl rfl (by decide) (.tok (n := 1) rfl rfl (by decide) (.done 8))))))))
theorem rnX : rn 8 [] [] true tsX = .ok ndX := by kernel_rfl
theorem depX : ndX.dep = 5 := rfl
theorem txX : txt ndX.ps = [97, 32, 124, 32, 98, 32, 38, 32, 33, 99, 94, 50] := by
  have h : Lib.itoa 2 = [50] := by
    have := itoa_nat 2
    rw [Lib.decDigits, dif_pos (by decide)] at this
    exact this
  have e : ndX.ps = [some (nmT [97]), none, some (sgT [124]), none, some (nmT [98]), none, some (sgT [38]), none, some (sgT [33]), some (nmT [99]), some (sgT [94]), some (nuT 2)] := by kernel_rfl
  rw [e]
  simp [txt, st, nmT, sgT, nuT, h]
def tsY : List Tk := [⟨1, [97], 0, 0, 0⟩, ⟨5, [46, 46], 0, 0, 1⟩, ⟨1, [98], 0, 0, 3⟩, ⟨5, [46, 46], 0, 0, 4⟩, ⟨1, [99], 0, 0, 6⟩]
theorem scY : Sc 0 [97, 46, 46, 98, 46, 46, 99] tsY none :=
  .tok (n := 1) rfl rfl (by decide) (.tok (n := 2) rfl rfl (by decide) (.tok (n := 1) rfl rfl (by decide) (.tok (n := 2) rfl rfl (by decide) (.tok (n := 1) rfl rfl (by decide) (.done 7)))))
theorem rnY : rn 7 [] [] true tsY = .err 4 := by kernel_rfl
def tsZ : List Tk := [⟨1, [97], 0, 0, 0⟩, ⟨5, [94], 0, 0, 1⟩, ⟨2, [], 0, 0, 2⟩]
theorem scZ : Sc 0 [97, 94, 48] tsZ none :=
  .tok (n := 1) rfl rfl (by decide) (.tok (n := 1) rfl rfl (by decide) (.tok (n := 1) rfl rfl (by decide) (.done 3)))
theorem rnZ : rn 3 [] [] true tsZ = .err 2 := by kernel_rfl

end Go.Proofs.YtdgdckmhmmigkaaGreatDoor
