/-
  A script of calls: the statements' play of whatever call; what stands behind each call; how calls lie in memory. No condition but that what is handed in is no longer than any memory holds.
-/
import Derived.Test.YtlhlipjbcapidaaPlayC
namespace Go.Proofs.Ytlhlipjbcapidaa
open Go.RowKit

/-- A call, as it lies in memory. -/
structure AV where
  kind : Int
  nm : Bs
  tt : Bs
  da : Option Addr
  n : Nat
  dc : Nat
  N : Int
  keep : Int
  mask : UInt8

def encA : Enc AV := ⟨fun a => [.int .i64 a.kind, tx a.nm, tx a.tt, .slice a.da a.n a.dc, .int .i64 a.N, .int .i64 a.keep, .int .u8 (a.mask.toNat : Int)], 7, fun _ => rfl, by decide, by intro x u h; simp at h; rcases h with rfl | rfl | rfl | rfl | rfl | rfl | rfl <;> rfl⟩

/-- A call that came in. -/
def ActIn (w : World) (a : AV) : Prop := ∃ data, ActAt (fun _ => False) w a.nm a.tt a.da a.n a.dc a.N a.keep data

theorem ActIn.at {w wr : World} {a : AV} (h : ActIn w a) (hb : Below w.heap.size w wr) {S : Nat → Prop} (hS : ∀ k, S k → w.heap.size ≤ k) : ∃ data, ActAt S wr a.nm a.tt a.da a.n a.dc a.N a.keep data := by
  obtain ⟨data, h⟩ := h
  refine ⟨data, h.rd.below hb, h.len, h.cap, h.cap63, h.n47, h.nm47, h.tt47, fun h0 p hp q => ?_, h.nr, h.kr⟩
  obtain ⟨b, off, e, hlt, _⟩ := h.rd h0
  rw [e] at hp
  cases hp
  have : w.heap.size ≤ b := hS _ q
  omega

theorem RdG.acts {w : World} {b off : Nat} {xs : List AV} (h : RdG encA w (some ⟨b, off, none⟩) xs) {i : Nat} {a : AV} (hx : xs[i]? = some a) :
    b < w.heap.size ∧ w.cell? ⟨b, off + i * 7, none⟩ = some (.int .i64 a.kind) ∧ w.cell? ⟨b, off + i * 7 + 1, none⟩ = some (tx a.nm) ∧ w.cell? ⟨b, off + i * 7 + 2, none⟩ = some (tx a.tt) ∧ w.cell? ⟨b, off + i * 7 + 3, none⟩ = some (.slice a.da a.n a.dc) ∧
    w.cell? ⟨b, off + i * 7 + 4, none⟩ = some (.int .i64 a.N) ∧ w.cell? ⟨b, off + i * 7 + 5, none⟩ = some (.int .i64 a.keep) ∧ w.cell? ⟨b, off + i * 7 + 6, none⟩ = some (.int .u8 (a.mask.toNat : Int)) := by
  obtain ⟨b', off', e, hlt, hc⟩ := h (by rcases Nat.lt_or_ge i xs.length with q | q
                                         · omega
                                         · rw [List.getElem?_eq_none q] at hx; cases hx)
  obtain ⟨rfl, rfl⟩ : b = b' ∧ off = off' := by simpa using e
  have h0 := hc i a hx 0 _ rfl
  have h1 := hc i a hx 1 _ rfl
  have h2 := hc i a hx 2 _ rfl
  have h3 := hc i a hx 3 _ rfl
  have h4 := hc i a hx 4 _ rfl
  have h5 := hc i a hx 5 _ rfl
  have h6 := hc i a hx 6 _ rfl
  exact ⟨hlt, by simpa [encA] using h0, by simpa [encA, Nat.add_assoc] using h1, by simpa [encA, Nat.add_assoc] using h2, by simpa [encA, Nat.add_assoc] using h3, by simpa [encA, Nat.add_assoc] using h4, by simpa [encA, Nat.add_assoc] using h5, by simpa [encA, Nat.add_assoc] using h6⟩

section
variable {S Z : Nat → Prop} {w : World} {b : Nat} {d : Dk}

theorem play_any (hS : ∀ i, S i → i < w.heap.size) (h : DiskAt w b d S) (hk : d.ok) (hw : d.writes ≤ 1000000) {ao : Option Addr} {L c : Nat} (hSZ : ∀ i, S i → Z i) (hZ : ∀ i, Z i → i < w.heap.size) (hv : RVS Z w (rv ao L c d) d) (kind : Int) {nm tt data : Bs} {da : Option Addr} {n dc : Nat} {N keep : Int} (mask : UInt8) (ha : ActAt S w nm tt da n dc N keep data) :
    Calls Try.prog 9 #[.pointer (some ⟨b, 0, none⟩), rv ao L c d, actV kind nm tt da n dc N keep (mask.toNat : Int)] w fun e w' => ∃ b' v', e = .returned (.tuple #[.pointer (some ⟨b', 0, none⟩), v', .bool true]) ∧ Left S Z w w' d b' v' := by
  by_cases h0 : kind = 0
  · subst h0; exact play_put hS h hk hw hSZ hZ hv mask ha
  by_cases h1 : kind = 1
  · subst h1; exact play_app hS h hk hw hSZ hZ hv mask ha
  by_cases h2 : kind = 2
  · subst h2; exact play_trim hS h hk hw hSZ hZ hv mask ha
  by_cases h3 : kind = 3
  · subst h3; exact play_ren hS h hk hw hSZ hZ hv mask ha
  by_cases h4 : kind = 4
  · subst h4; exact play_rem hS h hk hw hSZ hZ hv mask ha
  by_cases h5 : kind = 5
  · subst h5; exact play_cut hS h hk hw hSZ hZ hv mask ha
  by_cases h6 : kind = 6
  · subst h6; exact play_res hS h hk hw hSZ hZ hv mask ha
  by_cases h7 : kind = 7
  · subst h7; exact play_spoil hS h hk hw hSZ hZ hv mask ha
  by_cases h8 : kind = 8
  · subst h8; exact play_clone hS h hk hw hSZ hZ hv mask ha
  by_cases h9 : kind = 9
  · subst h9; exact play_other hS h hk hw hSZ hZ hv mask ha
  exact play_none hS h hk hw hSZ hZ hv mask ha h0 h1 h2 h3 h4 h5 h6 h7 h8 h9
end

/-- Both disks behind i calls: the document's lies in block mb. -/
structure PI (W : World) (mb : Nat) (wr : World) (b : Nat) (ao : Option Addr) (L c : Nat) (D : Dk) (i : Nat) (S : Nat → Prop) : Prop where
  disk : DiskAt wr b D S
  ref : RVS (fun k => S k ∨ k = mb) wr (rv ao L c D) D
  box : Six wr mb (.slice ao L c) (.int .i64 (D.writes : Int)) (.bool D.armed) (.bool D.dead) (.int .i64 (D.after : Int)) (.int .i64 (D.keep : Int))
  ok : D.ok
  wrt : D.writes ≤ i
  low : ∀ k, S k → W.heap.size ≤ k
  off : ¬ S mb
  mbl : W.heap.size ≤ mb
  bel : Below W.heap.size W wr

theorem PI.below {W : World} {mb : Nat} {wr w' : World} {b : Nat} {ao : Option Addr} {L c : Nat} {D : Dk} {i : Nat} {S : Nat → Prop} (h : PI W mb wr b ao L c D i S) (hb : Below wr.heap.size wr w') : PI W mb w' b ao L c D i S :=
  ⟨h.disk.below hb, h.ref.below hb, h.box.below hb, h.ok, h.wrt, h.low, h.off, h.mbl, h.bel.trans (hb.mono h.bel.size)⟩

/-- What a call leaves, laid into block mb. -/
theorem PI.step {W : World} {mb : Nat} {wr w' : World} {b b' : Nat} {ao : Option Addr} {L c : Nat} {D : Dk} {i : Nat} {S : Nat → Prop} {v' : Value} (h : PI W mb wr b ao L c D i S) (hl : Left S (fun k => S k ∨ k = mb) wr w' D b' v') :
    ∃ a3 M c3 D', v' = rv a3 M c3 D' ∧ Six w' mb (.slice ao L c) (.int .i64 (D.writes : Int)) (.bool D.armed) (.bool D.dead) (.int .i64 (D.after : Int)) (.int .i64 (D.keep : Int)) ∧
      ∀ w'', (((((w'.setCell ⟨mb, 0, none⟩ (.slice a3 M c3)).setCell ⟨mb, 1, none⟩ (.int .i64 (D'.writes : Int))).setCell ⟨mb, 2, none⟩ (.bool D'.armed)).setCell ⟨mb, 3, none⟩ (.bool D'.dead)).setCell ⟨mb, 4, none⟩ (.int .i64 (D'.after : Int))).setCell ⟨mb, 5, none⟩ (.int .i64 (D'.keep : Int)) = w'' →
        ∃ S', PI W mb w'' b' a3 M c3 D' (i + 1) S' := by
  obtain ⟨D', S', h1, h2, h3, h4, h5, h6⟩ := hl
  have hbox := h.box.turned h6 h.off
  have hmb : mb < wr.heap.size := h.box.lt
  obtain ⟨a3, M, c3, rfl, hM, hc, hR, hF⟩ := h2
  refine ⟨a3, M, c3, D', rfl, hbox, fun w'' e => ⟨S', ?_⟩⟩
  have t : Turned (fun k => k = mb) w' w'' := by rw [← e]; exact laid_one (T := fun k => k = mb) rfl _ _ _ _ _ _
  have s : Six w'' mb (.slice a3 M c3) (.int .i64 (D'.writes : Int)) (.bool D'.armed) (.bool D'.dead) (.int .i64 (D'.after : Int)) (.int .i64 (D'.keep : Int)) := by rw [← e]; exact hbox.put6 _ _ _ _ _ _
  have off : ¬ S' mb := fun q => by
    rcases h5 mb q with q | q
    · exact h.off q
    · omega
  have rv' : RVS (fun i => S' i ∨ S i ∨ i = mb) w' (rv a3 M c3 D') D' := ⟨a3, M, c3, rfl, hM, hc, hR, hF⟩
  refine ⟨h1.stays t (fun k hk q => off (by rw [← (show k = mb from q)]; exact hk)), (rv'.turned t (fun k q => .inr (.inr q))).mono (fun k q => q.elim .inl (fun q => .inr (.inr q))), s, h3, by have := h.wrt; omega, fun k q => ?_, off, h.mbl, ?_⟩
  · rcases h5 k q with q | q
    · exact h.low k q
    · have := h.bel.size; omega
  · have b1 : Below W.heap.size wr w' := h6.below h.bel.size (fun k hk q => by have := h.low k q; omega)
    have b2 := h.bel.trans b1
    exact b2.trans (t.below b2.size (fun k hk q => by have := h.mbl; have q' : k = mb := q; omega))

end Go.Proofs.Ytlhlipjbcapidaa
