/-
  A disk of the call's own beside bytes that it does not touch; each call of it by a contract over the document's disk. No condition but that what is handed in is no longer than any memory holds.
-/
import Derived.Test.YtlhlipjbcapidaaData
import Derived.Test.YtlhlipjbcapidaaPlays
namespace Go.Proofs.Ytlhlipjbcapidaa
open Go.RowKit

/-- Bytes that can be read, apart from blocks of S. -/
def Apart (S : Nat → Prop) (u : World) (v : Value) (bs : Bs) : Prop :=
  ∃ ao c, v = .slice ao bs.length c ∧ bs.length ≤ c ∧ c ≤ 9223372036854775807 ∧ RdG encB u ao bs ∧ (0 < bs.length → ∀ p, ao = some p → ¬ S p.block)

theorem Apart.at {S : Nat → Prop} {u : World} {v : Value} {bs : Bs} (h : Apart S u v bs) : BAt u v bs := by
  obtain ⟨ao, c, e, h1, h2, h3, _⟩ := h
  exact ⟨ao, c, e, h1, h2, h3⟩

theorem Apart.below {S : Nat → Prop} {u u' : World} {v : Value} {bs : Bs} (h : Apart S u v bs) (hb : Below u.heap.size u u') : Apart S u' v bs := by
  obtain ⟨ao, c, e, h1, h2, h3, h4⟩ := h
  exact ⟨ao, c, e, h1, h2, h3.below hb, h4⟩

theorem Apart.step {S : Nat → Prop} {u u' : World} {v : Value} {bs : Bs} (h : Apart S u v bs) (ht : Turned S u u') : Apart (Since S u u') u' v bs := by
  obtain ⟨ao, c, e, h1, h2, h3, h4⟩ := h
  refine ⟨ao, c, e, h1, h2, h3.turned ht h4, fun h0 p hp q => ?_⟩
  obtain ⟨b, off, e', hlt, _⟩ := h3 h0
  have hp' := hp
  rw [e'] at hp'
  cases hp'
  rcases q with q | q
  · exact h4 h0 _ hp q
  · have : u.heap.size ≤ b := q.1
    omega

theorem Apart.step0 {S : Nat → Prop} {u u' : World} {v : Value} {bs : Bs} {b : Nat} (h : Apart S u v bs) (hb : S b) (ht : Turned (fun i => i = b) u u') : Apart S u' v bs := by
  obtain ⟨ao, c, e, h1, h2, h3, h4⟩ := h
  exact ⟨ao, c, e, h1, h2, h3.turned ht (fun h0 p hp q => h4 h0 p hp (by rw [show p.block = b from q]; exact hb)), h4⟩

/-- A disk, and bytes beside it. -/
def Held (B : Nat) (W u : World) (b : Nat) (D : Dk) (vs : List (Value × Bs)) : Prop := ∃ S, Mine B W u b D S ∧ ∀ x ∈ vs, Apart S u x.1 x.2

section
variable {B : Nat} {W u : World} {b : Nat} {D : Dk} {vs : List (Value × Bs)}

theorem Held.bel (h : Held B W u b D vs) : Below B W u := by obtain ⟨S, h, _⟩ := h; exact h.bel
theorem Held.below (h : Held B W u b D vs) (hB : B ≤ W.heap.size) {u' : World} (hb : Below u.heap.size u u') : Held B W u' b D vs := by
  obtain ⟨S, h, k⟩ := h
  exact ⟨S, h.below (h.size hB) hb, fun x hx => (k x hx).below hb⟩
theorem Held.of (h : MineE B W u b D) : Held B W u b D [] := by
  obtain ⟨S, h⟩ := h
  exact ⟨S, h, fun _ q => by cases q⟩
theorem Held.mem (h : Held B W u b D vs) {v : Value} {bs : Bs} (hx : (v, bs) ∈ vs) : BAt u v bs := by
  obtain ⟨S, h, k⟩ := h
  exact (k _ hx).at
/-- Bytes that were there at first. -/
theorem Held.arg (h : Held B W u b D vs) (hB : W.heap.size ≤ B) {ao : Option Addr} {n c : Nat} {bs : Bs} (hl : bs.length = n) (h1 : n ≤ c) (h2 : c ≤ 9223372036854775807) (hr : RdG encB W ao bs) : Held B W u b D ((.slice ao n c, bs) :: vs) := by
  obtain ⟨S, h, k⟩ := h
  subst hl
  refine ⟨S, h, fun x hx => ?_⟩
  rcases List.mem_cons.1 hx with rfl | q
  · refine ⟨ao, c, rfl, h1, h2, hr.below (h.bel.mono hB), fun h0 p hp q => ?_⟩
    obtain ⟨b', off, e, hlt, _⟩ := hr h0
    rw [e] at hp
    cases hp
    have : B ≤ b' := h.low _ q
    omega
  · exact k x q
/-- Bytes that a call has made. -/
theorem Held.new (h : Held B W u b D vs) (hB : B ≤ W.heap.size) {u' : World} (hb : Below u.heap.size u u') {v : Value} {bs : Bs} (ho : OwnG encB 5 u' u.heap.size v bs) : Held B W u' b D ((v, bs) :: vs) := by
  obtain ⟨S, h, k⟩ := h
  refine ⟨S, h.below (h.size hB) hb, fun x hx => ?_⟩
  rcases List.mem_cons.1 hx with rfl | q
  · obtain ⟨ao, c, e, h1, h2, h3, h4⟩ := OwnG.form ho
    refine ⟨ao, c, e, h1, h2, h3, fun h0 p hp q => ?_⟩
    obtain ⟨g, eg⟩ := h4 h0
    rw [hp] at eg
    cases eg
    have h5 : u.heap.size ≤ g := (ho.lt g (by rw [e, hp]; rfl)).1
    have h6 : g < u.heap.size := h.disk.lt g q
    omega
  · exact (k x q).below hb
theorem Held.drop {x : Value × Bs} (h : Held B W u b D (x :: vs)) : Held B W u b D vs := by
  obtain ⟨S, h, k⟩ := h
  exact ⟨S, h, fun y hy => k y (List.mem_cons_of_mem _ hy)⟩

theorem Held.step {S : Nat → Prop} {u' : World} {D' : Dk} (h : Mine B W u b D S) (k : ∀ x ∈ vs, Apart S u x.1 x.2) (hB : B ≤ W.heap.size) (hd : DiskAt u' b D' (Since S u u')) (ht : Turned S u u') : Held B W u' b D' vs :=
  ⟨_, h.step (h.size hB) hd ht, fun x hx => (k x hx).step ht⟩
theorem Held.step0 {S : Nat → Prop} {u' : World} {D' : Dk} (h : Mine B W u b D S) (k : ∀ x ∈ vs, Apart S u x.1 x.2) (hB : B ≤ W.heap.size) (hd : DiskAt u' b D' S) (ht : Turned (fun i => i = b) u u') : Held B W u' b D' vs :=
  ⟨S, h.step0 (h.size hB) hd ht, fun x hx => (k x hx).step0 h.disk.mine ht⟩

theorem hput (h : Held B W u b D vs) (hB : B ≤ W.heap.size) (hk : D.ok) (hw : D.writes ≤ 1000000) (n : Bs) (hn : n.length ≤ 140737488355328) {v : Value} {xss : List Bs} (hp : PartsB u v xss) (hl : xss.length ≤ 2) (hx : ∀ x ∈ xss, x.length ≤ 140737488355328) (p : Dk × Int) (hpp : dput D n xss.flatten = p) :
    Calls Try.prog 17 #[.pointer (some ⟨b, 0, none⟩), tx n, v] u fun e w' => e = .returned (.int .i64 p.2) ∧ Hid (Held B W w' b p.1 vs) := by
  obtain ⟨S, h, k⟩ := h
  refine (put_at h.disk hk (by omega) n hn hp (by omega) hx).mono ?_
  rintro e w' ⟨r, rfl, q1, q2, q3⟩
  rw [hpp] at q2
  exact ⟨by rw [q1.out, hpp], Held.step h k hB q2 q3⟩
theorem happ (h : Held B W u b D vs) (hB : B ≤ W.heap.size) (hk : D.ok) (hw : D.writes ≤ 1000000) (n : Bs) (hn : n.length ≤ 140737488355328) {v : Value} {xss : List Bs} (hp : PartsB u v xss) (hl : xss.length ≤ 2) (hx : ∀ x ∈ xss, x.length ≤ 140737488355328) (p : Dk × Int) (hpp : dapp D n xss.flatten = p) :
    Calls Try.prog 16 #[.pointer (some ⟨b, 0, none⟩), tx n, v] u fun e w' => e = .returned (.int .i64 p.2) ∧ Hid (Held B W w' b p.1 vs) := by
  obtain ⟨S, h, k⟩ := h
  refine (append_at h.disk hk (by omega) n hn hp (by omega) hx).mono ?_
  rintro e w' ⟨r, rfl, q1, q2, q3⟩
  rw [hpp] at q2
  exact ⟨by rw [q1.out, hpp], Held.step h k hB q2 q3⟩
theorem htrim (h : Held B W u b D vs) (hB : B ≤ W.heap.size) (hk : D.ok) (hw : D.writes ≤ 1000000) (n : Bs) (hn : n.length ≤ 140737488355328) (z : Int) (p : Dk × Int) (hpp : dtrim D n z = p) :
    Calls Try.prog 20 #[.pointer (some ⟨b, 0, none⟩), tx n, .int .i64 z] u fun e w' => e = .returned (.int .i64 p.2) ∧ Hid (Held B W w' b p.1 vs) := by
  obtain ⟨S, h, k⟩ := h
  refine (trim_at h.disk hk (by omega) n hn z).mono ?_
  rintro e w' ⟨r, rfl, q1, q2, q3⟩
  rw [hpp] at q2
  exact ⟨by rw [q1.out, hpp], Held.step h k hB q2 q3⟩
theorem hren (h : Held B W u b D vs) (hB : B ≤ W.heap.size) (hk : D.ok) (hw : D.writes ≤ 1000000) (n t : Bs) (hn : n.length ≤ 140737488355328) (ht : t.length ≤ 140737488355328) (p : Dk × Int) (hpp : dren D n t = p) :
    Calls Try.prog 21 #[.pointer (some ⟨b, 0, none⟩), tx n, tx t] u fun e w' => e = .returned (.int .i64 p.2) ∧ Hid (Held B W w' b p.1 vs) := by
  obtain ⟨S, h, k⟩ := h
  refine (rename_at h.disk hk (by omega) n t hn ht).mono ?_
  rintro e w' ⟨r, rfl, q1, q2, q3⟩
  rw [hpp] at q2
  exact ⟨by rw [q1.out, hpp], Held.step h k hB q2 q3⟩
theorem hrem (h : Held B W u b D vs) (hB : B ≤ W.heap.size) (hk : D.ok) (hw : D.writes ≤ 1000000) (n : Bs) (hn : n.length ≤ 140737488355328) (p : Dk × Int) (hpp : drem D n = p) :
    Calls Try.prog 19 #[.pointer (some ⟨b, 0, none⟩), tx n] u fun e w' => e = .returned (.int .i64 p.2) ∧ Hid (Held B W w' b p.1 vs) := by
  obtain ⟨S, h, k⟩ := h
  refine (remove_at h.disk hk (by omega) n hn).mono ?_
  rintro e w' ⟨r, rfl, q1, q2, q3⟩
  rw [hpp] at q2
  exact ⟨by rw [q1.out, hpp], Held.step h k hB q2 q3⟩
theorem hcut (h : Held B W u b D vs) (hB : B ≤ W.heap.size) {x y : Int} (hx : -9223372036854775808 ≤ x ∧ x ≤ 9223372036854775807) (hy : -9223372036854775808 ≤ y ∧ y ≤ 9223372036854775807) (p : Dk × Int) (hpp : dcut D x y = p) :
    Calls Try.prog 13 #[.pointer (some ⟨b, 0, none⟩), .int .i64 x, .int .i64 y] u fun e w' => e = .returned (.int .i64 p.2) ∧ Hid (Held B W w' b p.1 vs) := by
  obtain ⟨S, h, k⟩ := h
  refine (cut_at h.disk hx hy).mono ?_
  rintro e w' ⟨r, rfl, q1, q2, q3⟩
  rw [hpp] at q2
  exact ⟨by rw [q1.out, hpp], Held.step0 h k hB q2 q3⟩
theorem hres (h : Held B W u b D vs) (hB : B ≤ W.heap.size) :
    Calls Try.prog 12 #[.pointer (some ⟨b, 0, none⟩)] u fun e w' => e = .returned (.tuple #[]) ∧ Hid (Held B W w' b (dres D) vs) := by
  obtain ⟨S, h, k⟩ := h
  refine (restart_at h.disk).mono ?_
  rintro e w' ⟨rfl, q2, q3⟩
  exact ⟨rfl, Held.step0 h k hB q2 q3⟩
theorem hread (h : Held B W u b D vs) (hB : B ≤ W.heap.size) (hk : D.ok) (n : Bs) (hn : n.length ≤ 140737488355328) :
    Calls Try.prog 14 #[.pointer (some ⟨b, 0, none⟩), tx n] u fun e w' => ∃ v, e = .returned (.tuple #[v, .bool (fget D.files n).isSome]) ∧ Hid (Held B W w' b D ((v, (fget D.files n).getD []) :: vs)) := by
  have h' := h
  obtain ⟨S, h, k⟩ := h
  refine (read_at h.disk n (by simp only [maxLen]; omega) (fun bs hb => hk.get hb)).mono ?_
  rintro e w' ⟨v, rfl, h1, h2⟩
  exact ⟨v, rfl, h'.new hB h2 h1⟩
theorem hdead (h : Held B W u b D vs) : Calls Try.prog 18 #[.pointer (some ⟨b, 0, none⟩)] u fun e w' => e = .returned (.bool D.dead) ∧ w' = u := by
  obtain ⟨S, h, k⟩ := h
  exact dead_at h.disk
theorem hdata (h : Held B W u b D vs) (hB : B ≤ W.heap.size) (hk : D.ok) :
    Calls Try.prog 15 #[.pointer (some ⟨b, 0, none⟩)] u fun e w' => e = .returned (tx (dataOf D.files)) ∧ Hid (Held B W w' b D vs) := by
  have h' := h
  obtain ⟨S, h, k⟩ := h
  refine (data_walk h.disk hk).mono ?_
  rintro e w' ⟨rfl, hb⟩
  exact ⟨rfl, h'.below hB hb⟩
end

/-- The cut that the statements lay. -/
def dcut0 (D : Dk) (k : Nat) : Dk := { dres D with armed := true, after := 0, keep := k }
theorem dcut0_eq (D : Dk) (k : Nat) : dcut (dres D) 0 (k : Int) = (dcut0 D k, 0) := by
  unfold dcut
  rw [if_neg (by omega)]
  rfl
theorem dcut0_ok {D : Dk} (h : D.ok) (k : Nat) : (dcut0 D k).ok := ⟨h.rise, h.few, h.each, by show (0 : Nat) < _; decide⟩

/-- The power goes off. -/
def doff (D : Dk) (k : Nat) : Dk := { dcut0 D k with dead := true, armed := false }
theorem dnext_off (D : Dk) (k : Nat) : dnext (dcut0 D k) = (doff D k, false, true) := by
  unfold dnext
  rw [if_neg (by simp [dcut0, dres]), if_pos (by simp [dcut0, dres])]
  rfl

end Go.Proofs.Ytlhlipjbcapidaa
