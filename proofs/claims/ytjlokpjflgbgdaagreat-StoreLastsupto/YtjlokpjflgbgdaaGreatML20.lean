/-
  Several texts, laid together.
-/
import Derived.Test.YtjlokpjflgbgdaaGreatML19
import Derived.Test.YtjlokpjflgbgdaaGreatML11
set_option maxHeartbeats 6400000
set_option maxRecDepth 100000
namespace Go.Proofs.YtjlokpjflgbgdaaGreat
open Go.RowKit
section
variable {S : Nat -> Prop} {ao : Option Addr} {L c : Nat} {d : Dk} {w : World}
end
end Go.Proofs.YtjlokpjflgbgdaaGreat

namespace Go.Proofs.YtjlokpjflgbgdaaGreat
open Go.RowKit
section
variable {S : Nat -> Prop} {d : Dk} {w : World}
end
end Go.Proofs.YtjlokpjflgbgdaaGreat

namespace Go.Proofs.YtjlokpjflgbgdaaGreat
open Go.RowKit
def encO : Enc Ob := ⟨λ o => [.int .i64 o.kind, .int .u64 (o.id.toNat : Int), tx o.body], 3, λ _ => rfl, by decide, by intro x u h; simp at h; rcases h with rfl | rfl | rfl <;> rfl⟩
def encN : Enc (Nm UInt64) := ⟨λ f => [tx f.1, .int .u64 (f.2.toNat : Int)], 2, λ _ => rfl, by decide, by intro x u h; simp at h; rcases h with rfl | rfl <;> rfl⟩
theorem RdG.obs {w : World} {b off : Nat} {os : List Ob} (h : RdG encO w (some ⟨b, off, none⟩) os) {i : Nat} {o : Ob} (hx : os[i]? = some o) : b < w.heap.size /\ w.cell? ⟨b, off + i * 3, none⟩ = some (.int .i64 o.kind) /\ w.cell? ⟨b, off + i * 3 + 1, none⟩ = some (.int .u64 (o.id.toNat : Int)) /\ w.cell? ⟨b, off + i * 3 + 2, none⟩ = some (tx o.body) := by
 obtain ⟨b', off', e, hlt, hc⟩ := h (by rcases Nat.lt_or_ge i os.length with q | q
                                        · omega
                                        · rw [List.getElem?_eq_none q] at hx; cases hx)
 obtain ⟨rfl, rfl⟩ : b = b' /\ off = off' := by simpa using e
 have h0 := hc i o hx 0 _ rfl
 have h1 := hc i o hx 1 _ rfl
 have h2 := hc i o hx 2 _ rfl
 exact ⟨hlt, by simpa [encO] using h0, by simpa [encO, Nat.add_assoc] using h1, by simpa [encO, Nat.add_assoc] using h2⟩
theorem RdG.named {w : World} {b off : Nat} {ns : List (Nm UInt64)} (h : RdG encN w (some ⟨b, off, none⟩) ns) {i : Nat} {n : Bs} {x : UInt64} (hx : ns[i]? = some (n, x)) : b < w.heap.size /\ w.cell? ⟨b, off + i * 2, none⟩ = some (tx n) /\ w.cell? ⟨b, off + i * 2 + 1, none⟩ = some (.int .u64 (x.toNat : Int)) := by
 obtain ⟨b', off', e, hlt, hc⟩ := h (by rcases Nat.lt_or_ge i ns.length with q | q
                                        · omega
                                        · rw [List.getElem?_eq_none q] at hx; cases hx)
 obtain ⟨rfl, rfl⟩ : b = b' /\ off = off' := by simpa using e
 have h0 := hc i (n, x) hx 0 _ rfl
 have h1 := hc i (n, x) hx 1 _ rfl
 exact ⟨hlt, by simpa [encN] using h0, by simpa [encN, Nat.add_assoc] using h1⟩
structure LG {α : Type} (E : Enc α) (Z : Nat -> Prop) (w : World) (a : Option Addr) (n c : Nat) (xs : List α) : Prop where
 len : xs.length = n
 cap : n <= c
 rd : RdG E w a xs
 far : 0 < n -> ∀ p, a = some p -> ¬ Z p.block
section
variable {α : Type} {E : Enc α} {Z Z' T : Nat -> Prop} {w w' : World} {a : Option Addr} {n c : Nat} {xs : List α}
theorem LG.below (h : LG E Z w a n c xs) (hb : Below w.heap.size w w') : LG E Z w' a n c xs := ⟨h.len, h.cap, h.rd.below hb, h.far⟩
theorem LG.mono (h : LG E Z w a n c xs) (hz : ∀ i, Z' i -> Z i) : LG E Z' w a n c xs := ⟨h.len, h.cap, h.rd, λ h0 p hp q => h.far h0 p hp (hz _ q)⟩
theorem LG.turned (h : LG E Z w a n c xs) (ht : Turned T w w') (hT : ∀ i, T i -> Z i) : LG E Z w' a n c xs := ⟨h.len, h.cap, h.rd.turned ht (λ h0 p hp q => h.far (by rw [<- h.len]; exact h0) p hp (hT _ q)), h.far⟩
theorem LG.into (h : LG E Z w a n c xs) (hz : ∀ i, i < w.heap.size -> Z' i -> Z i) : LG E Z' w a n c xs := ⟨h.len, h.cap, h.rd, λ h0 p hp q => by
 obtain ⟨b, off, e, hlt, _⟩ := h.rd (by rw [h.len]; exact h0)
 rw [e] at hp
 cases hp
 exact h.far h0 _ e (hz _ hlt q)⟩
theorem LG.ofOwn {e : TypeId} {B : Nat} {v : Value} (h : OwnG E e w B v xs) (hZ : ∀ i, Z i -> i < B) : ∃ a c, v = .slice a xs.length c /\ LG E Z w a xs.length c xs := by
 obtain ⟨a, c, rfl, h1, h2, h3, h4⟩ := OwnG.form h
 refine ⟨a, c, rfl, rfl, h1, h3, λ h0 p hp q => ?_⟩
 obtain ⟨g, eg⟩ := h4 h0
 rw [hp] at eg
 cases eg
 have := (h.lt g (by rw [hp]; rfl)).1
 have := hZ _ q
 have e : ((⟨g, 0, none⟩ : Addr)).block = g := rfl
 omega
end
def Nine (w : World) (B : Nat) (a0 a1 a2 a3 a4 a5 a6 a7 a8 : Value) : Prop := w.heap[B]? = some (.cells #[a0, a1, a2, a3, a4, a5, a6, a7, a8] 32 (0, 0))
section
variable {w w' : World} {B : Nat} {a0 a1 a2 a3 a4 a5 a6 a7 a8 : Value}
theorem Nine.lt (h : Nine w B a0 a1 a2 a3 a4 a5 a6 a7 a8) : B < w.heap.size := (Array.getElem?_eq_some_iff.1 h).1
theorem Nine.below {K : Nat} (h : Nine w B a0 a1 a2 a3 a4 a5 a6 a7 a8) (hb : Below K w w') (hK : B < K) : Nine w' B a0 a1 a2 a3 a4 a5 a6 a7 a8 := (hb.block B hK).trans h
theorem Nine.turned {S : Nat -> Prop} (h : Nine w B a0 a1 a2 a3 a4 a5 a6 a7 a8) (ht : Turned S w w') (hS : ¬ S B) : Nine w' B a0 a1 a2 a3 a4 a5 a6 a7 a8 := (ht.block B h.lt hS).trans h
theorem Nine.cells (h : Nine w B a0 a1 a2 a3 a4 a5 a6 a7 a8) : w.cell? ⟨B, 0, none⟩ = some a0 /\ w.cell? ⟨B, 1, none⟩ = some a1 /\ w.cell? ⟨B, 2, none⟩ = some a2 /\ w.cell? ⟨B, 3, none⟩ = some a3 /\ w.cell? ⟨B, 4, none⟩ = some a4 /\ w.cell? ⟨B, 5, none⟩ = some a5 /\ w.cell? ⟨B, 6, none⟩ = some a6 /\ w.cell? ⟨B, 7, none⟩ = some a7 /\ w.cell? ⟨B, 8, none⟩ = some a8 := by
 unfold Nine at h
 simp [World.cell?, h]
theorem Nine.thaw (h : Nine w B a0 a1 a2 a3 a4 a5 a6 a7 a8) : ∀ j, w.frozen? ⟨B, j, none⟩ = false := by
 unfold Nine at h
 simp [World.frozen?, h]
theorem Nine.new (w : World) (a0 a1 a2 a3 a4 a5 a6 a7 a8 : Value) : Nine (w.alloc (.cells #[a0, a1, a2, a3, a4, a5, a6, a7, a8] 32)) w.heap.size a0 a1 a2 a3 a4 a5 a6 a7 a8 := heap_alloc_new w _
end
abbrev rm (d : Dk) (vf vo vr vt : Value) : Value := .agg #[vf, .int .i64 (d.writes : Int), .bool d.armed, .bool d.dead, .int .i64 (d.after : Int), .int .i64 (d.keep : Int), vo, vr, vt]
abbrev NineM (w : World) (B : Nat) (d : Dk) (vf vo vr vt : Value) : Prop := Nine w B vf (.int .i64 (d.writes : Int)) (.bool d.armed) (.bool d.dead) (.int .i64 (d.after : Int)) (.int .i64 (d.keep : Int)) vo vr vt
abbrev nineC (d : Dk) (vf vo vr vt : Value) : Obj := .cells #[vf, .int .i64 (d.writes : Int), .bool d.armed, .bool d.dead, .int .i64 (d.after : Int), .int .i64 (d.keep : Int), vo, vr, vt] 32
theorem oget_skip {l : List Ob} {k : Int} {x : UInt64} : ∀ {i : Nat}, (∀ j, j < i -> ∀ o, l[j]? = some o -> ¬ (o.kind = k /\ o.id = x)) -> oget l k x = oget (l.drop i) k x := by
 induction l with
 | nil => intro i _; simp
 | cons f t ih =>
  intro i h
  cases i with
  | zero => rfl
  | succ i =>
   have h0 : ¬ (f.kind = k /\ f.id = x) := h 0 (by omega) f rfl
   simp only [oget, if_neg h0, List.drop_succ_cons]
   exact ih (i := i) (λ j hj o ho => h (j + 1) (by omega) o ho)
theorem oget_first {l : List Ob} {k : Int} {x : UInt64} {b : Bs} {i : Nat} (h : ∀ j, j < i -> ∀ o, l[j]? = some o -> ¬ (o.kind = k /\ o.id = x)) (hi : l[i]? = some ⟨k, x, b⟩) : oget l k x = some b := by
 obtain ⟨hlt, e⟩ := List.getElem?_eq_some_iff.1 hi
 rw [oget_skip h, List.drop_eq_getElem_cons hlt, e]
 simp [oget]
section
variable {w : World} {d : Dk} {st : St} {oa : Option Addr} {on oc : Nat} {vf vr vt : Value}
theorem at_obj (h : RdG encO w oa st.objs) (hl : st.objs.length = on) (hn : on <= 1000000) (k : Int) (x : UInt64) :
  Calls Tryz.prog 138 #[rm d vf (.slice oa on oc) vr vt, .int .i64 k, .int .u64 (x.toNat : Int)] w λ e w' => ∃ r, e = .returned (.int .i64 r) /\ Hid ((oget st.objs k x = none /\ r = -1) ∨ ∃ i : Nat, r = (i : Int) /\ ∃ bs : Bs, st.objs[i]? = some ⟨k, x, bs⟩ /\ oget st.objs k x = some bs) /\ Below w.heap.size w w' := by
 have H : Hid (RdG encO w oa st.objs /\ st.objs.length = on) := ⟨h, hl⟩
 obtain ⟨W, hW⟩ : ∃ W, w.alloc (nineC d vf (.slice oa on oc) vr vt) = W := ⟨_, rfl⟩
 have k6 : W.cell? ⟨w.heap.size, 6, none⟩ = some (.slice oa on oc) := by rw [<- hW]; exact (Nine.new w _ _ _ _ _ _ _ _ _).cells.2.2.2.2.2.2.1
 have HW : Hid (Below w.heap.size w W) := by rw [<- hW]; exact bz1 _ _
 obtain ⟨xi, hxi⟩ : ∃ xi : Int, (x.toNat : Int) = xi := ⟨_, rfl⟩
 rw [hxi]
 have HX : Hid ((x.toNat : Int) = xi) := hxi
 clear h hl hxi
 go_enter Tryz.func138, Tryz.ntmps138
 go_wp2_with fail
 go_loopg [7] on (λ m iv wr => wr = W /\ ∃ i : Nat, iv = .int .i64 i /\ i + m = on /\ Hid (∀ j, j < i -> ∀ o, st.objs[j]? = some o -> ¬ (o.kind = k /\ o.id = x)))
 case atStart => exact ⟨rfl, 0, rfl, by omega, λ j hj => by omega⟩
 case round =>
  obtain ⟨hwr, i, rfl, hi, HT⟩ := hrel
  subst hwr
  by_cases hin : i < on
  ·have id : (i : Int) < (on : Int) := by omega
   obtain ⟨o, ho⟩ := get_some H.out.2 hin
   have R := H.out.1.below HW.out
   obtain ⟨b1, o1, rfl, hlt⟩ := R.some_of ho
   obtain ⟨_, cc0, cc1, cc2⟩ := R.obs ho
   obtain ⟨ok, oi, ob⟩ := o
   simp only at cc0 cc1 cc2
   have X : Hid (st.objs[i]? = some ⟨ok, oi, ob⟩) := ho
   obtain ⟨oii, hoi⟩ : ∃ oii : Int, (oi.toNat : Int) = oii := ⟨_, rfl⟩
   rw [hoi] at cc1
   have HO : Hid ((oi.toNat : Int) = oii) := hoi
   clear R ho hoi
   have stop : ¬ (ok = k /\ oi = x) -> Hid (∀ j, j < i + 1 -> ∀ o, st.objs[j]? = some o -> ¬ (o.kind = k /\ o.id = x)) := by
    intro hne j hj o hoj
    rcases Nat.lt_or_ge j i with q | q
    ·exact HT.out j q o hoj
    ·obtain rfl : j = i := by omega
     rw [X.out] at hoj
     cases hoj
     exact hne
   have inj : oii = xi -> oi = x := λ q => UInt64.toNat_inj.1 (by have := HO.out; have := HX.out; omega)
   have inj2 : oi = x -> oii = xi := λ q => by rw [<- HO.out, <- HX.out, q]
   by_cases hk : ok = k
   ·by_cases hx : oii = xi
    ·subst hk hx
     have ex := inj rfl
     go_wp2
     go_ret
     refine ⟨_, rfl, .inr ⟨i, rfl, ob, by rw [<- ex]; exact X.out, ?_⟩, HW.out⟩
     exact oget_first HT.out (by rw [<- ex]; exact X.out)
    ·have ST : Hid _ := stop (λ q => hx (inj2 q.2))
     subst hk
     have m1 : (oii == xi) = false := by simpa using hx
     clear stop inj inj2
     go_wp2
     go_roundg (gk - 1)
     case measure => omega
     case rel => exact ⟨rfl, i + 1, by go_num, by omega, ST⟩
   ·have ST : Hid _ := stop (λ q => hk q.1)
    have m1 : (ok == k) = false := by simpa using hk
    clear stop inj inj2
    go_wp2
    go_roundg (gk - 1)
    case measure => omega
    case rel => exact ⟨rfl, i + 1, by go_num, by omega, ST⟩
  ·obtain rfl : i = on := by omega
   go_wp2
   go_ret
   refine ⟨_, rfl, .inl ⟨?_, rfl⟩, HW.out⟩
   rw [oget_skip HT.out, List.drop_of_length_le (by rw [H.out.2]; exact Nat.le_refl _)]
   rfl
theorem shas_any (h : RdG encO w oa st.objs) (hl : st.objs.length = on) (hn : on <= 1000000) (k : Int) (x : UInt64) (g : Bool) (hg : st.has k x = g) :
  Calls Tryz.prog 70 #[rm d vf (.slice oa on oc) vr vt, .int .i64 k, .int .u64 (x.toNat : Int)] w λ e w' => e = .returned (.bool g) /\ Below w.heap.size w w' := by
 obtain ⟨W, hW⟩ : ∃ W, w.alloc (nineC d vf (.slice oa on oc) vr vt) = W := ⟨_, rfl⟩
 have bW : Below w.heap.size w W := by rw [<- hW]; exact bz1 _ _
 have n9 : NineM W w.heap.size d vf (.slice oa on oc) vr vt := by rw [<- hW]; exact Nine.new w _ _ _ _ _ _ _ _ _
 obtain ⟨k0, k1, k2, k3, k4, k5, k6, k7, k8⟩ := n9.cells
 have hat := at_obj (d := d) (oc := oc) (vf := vf) (vr := vr) (vt := vt) (h.below bW) hl hn k x
 have HW : Hid (Below w.heap.size w W /\ st.has k x = g) := ⟨bW, hg⟩
 obtain ⟨xi, hxi⟩ : ∃ xi : Int, (x.toNat : Int) = xi := ⟨_, rfl⟩
 rw [hxi] at hat ⊢
 clear h hl hg hxi bW n9
 go_enter Tryz.func70, Tryz.ntmps70
 go_wp2_with fail
 refine hat.mono ?_
 rintro e w1 ⟨r, rfl, R1, B1⟩
 have HB : Hid (Below w.heap.size w w1) := HW.out.1.trans (B1.mono HW.out.1.size)
 clear B1 hat
 rcases R1.out with ⟨q1, q2⟩ | ⟨i, q2, bs, _, q1⟩
 ·have eg : g = false := by rw [<- HW.out.2]; unfold St.has; rw [q1]; rfl
  subst q2 eg
  clear q1
  go_wp2
  go_ret
  exact ⟨rfl, HB.out⟩
 ·have eg : g = true := by rw [<- HW.out.2]; unfold St.has; rw [q1]; rfl
  subst q2 eg
  have i0 : (0 : Int) <= (i : Int) := by omega
  clear q1
  go_wp2
  go_ret
  exact ⟨by simp, HB.out⟩
end
end Go.Proofs.YtjlokpjflgbgdaaGreat

namespace Go.Proofs.YtjlokpjflgbgdaaGreat
open Go.RowKit
section
variable {w : World} {d : Dk} {st : St} {oa : Option Addr} {on oc : Nat} {vf vr vt : Value}
theorem rhas_cls {wr : World} (h : RdG encO wr oa st.objs) (hl : st.objs.length = on) (hn : on <= 1000000) (k : Int) (x : UInt64) (g : Bool) (hg : st.has k x = g) (u : SW (Grew wr)) :
  Calls Tryz.prog 70 #[rm d vf (.slice oa on oc) vr vt, .int .i64 k, .int .u64 (x.toNat : Int)] u.w λ e w' => e = .returned (.bool g) /\ ∃ u' : SW (Grew wr), w' = u'.w := by
 refine (shas_any (h.below u.ok) hl hn k x g hg).mono ?_
 rintro e w' ⟨rfl, hb⟩
 exact ⟨rfl, ⟨w', Below.trans u.ok (hb.mono u.ok.size)⟩, rfl⟩
theorem rblobs_any (h : RdG encO w oa st.objs) (hl : st.objs.length = on) (hn : on <= 1000000) {ea : Option Addr} {en ec : Nat} {es : List En} (hr : RdG encE w ea es) (hel : es.length = en) (hen : en <= 4000000000000000000) (g : Bool) (hg : st.blobs es = g) :
  Calls Tryz.prog 123 #[rm d vf (.slice oa on oc) vr vt, .slice ea en ec] w λ e w' => e = .returned (.bool g) /\ Below w.heap.size w w' := by
 obtain ⟨W, hW⟩ : ∃ W, w.alloc (nineC d vf (.slice oa on oc) vr vt) = W := ⟨_, rfl⟩
 have bW : Below w.heap.size w W := by rw [<- hW]; exact bz1 _ _
 have n9 : NineM W w.heap.size d vf (.slice oa on oc) vr vt := by rw [<- hW]; exact Nine.new w _ _ _ _ _ _ _ _ _
 have H : Hid (RdG encO W oa st.objs /\ st.objs.length = on /\ RdG encE W ea es /\ es.length = en /\ st.blobs es = g /\ Below w.heap.size w W /\ NineM W w.heap.size d vf (.slice oa on oc) vr vt) := ⟨h.below bW, hl, hr.below bW, hel, hg, bW, n9⟩
 clear h hl hr hel hg bW n9
 go_enter Tryz.func123, Tryz.ntmps123
 go_wp2_with fail
 go_loopg [5] en (λ m iv wr => ∃ i : Nat, iv = .int .i64 i /\ i + m = en /\ Hid ((es.take i).all (λ e => st.has 1 e.2) = true /\ Below W.heap.size W wr))
 case atStart => exact ⟨0, rfl, by omega, rfl, Below.refl _ _⟩
 case round =>
  obtain ⟨i, rfl, hi, HR⟩ := hrel
  by_cases hin : i < en
  ·have id : (i : Int) < (en : Int) := by omega
   obtain ⟨e, he⟩ := get_some H.out.2.2.2.1 hin
   obtain ⟨b1, off, rfl, hlt⟩ := H.out.2.2.1.some_of he
   obtain ⟨dp, z⟩ := e
   have bu : ∀ u : SW (Grew wr), Below W.heap.size W u.w := λ u => HR.out.2.trans (Below.mono u.ok HR.out.2.size)
   have NE : Nonempty (SW (Grew wr)) := ⟨⟨wr, Below.refl _ _⟩⟩
   have k1 : ∀ u : SW (Grew wr), u.w.cell? ⟨b1, off + i * 2 + 1, none⟩ = some (.int .u64 (z.toNat : Int)) := λ u => ((H.out.2.2.1.below (bu u)).ents he).2.2
   have n9 := λ u : SW (Grew wr) => (H.out.2.2.2.2.2.2.below (bu u) H.out.2.2.2.2.2.2.lt).cells
   have c0 := λ u => (n9 u).1
   have c1 := λ u => (n9 u).2.1
   have c2 := λ u => (n9 u).2.2.1
   have c3 := λ u => (n9 u).2.2.2.1
   have c4 := λ u => (n9 u).2.2.2.2.1
   have c5 := λ u => (n9 u).2.2.2.2.2.1
   have c6 := λ u => (n9 u).2.2.2.2.2.2.1
   have c7 := λ u => (n9 u).2.2.2.2.2.2.2.1
   have c8 := λ u => (n9 u).2.2.2.2.2.2.2.2
   have hb := λ q hq => rhas_cls (d := d) (oc := oc) (vf := vf) (vr := vr) (vt := vt) (wr := wr) (H.out.1.below HR.out.2) H.out.2.1 hn 1 z q hq
   obtain ⟨zi, hz⟩ : ∃ zi : Int, (z.toNat : Int) = zi := ⟨_, rfl⟩
   rw [hz] at k1 hb
   have HE : Hid (es[i]? = some (dp, z)) := he
   clear he n9 hz bu
   cases hp : st.has 1 z with
   | true =>
    have hb := hb true hp
    go_wp2_with fail
    refine wp_region_class (S := Grew wr) (by kernel_rfl) (by kernel_rfl) (Below.refl _ wr).drew ?_
    repeat (go_big_quiet_step (with_reducible exact hb _))
    refine wpQuiet_nil ?_
    intro _ hw'
    obtain ⟨u, hw''⟩ := hw'
    subst hw''
    have N4 : Hid (Below W.heap.size W u.w) := HR.out.2.trans (Below.mono u.ok HR.out.2.size)
    obtain ⟨w4, hw4⟩ : ∃ w4, w4 = u.w := ⟨_, rfl⟩
    rw [<- hw4] at N4 ⊢
    clear hw4 k1 hb c0 c1 c2 c3 c4 c5 c6 c7 c8 NE u
    go_wp2
    go_roundg (gk - 1)
    case measure => omega
    case rel => exact ⟨i + 1, by go_num, by omega, allT_step HE.out HR.out.1 hp, N4.out⟩
   | false =>
    have hb := hb false hp
    have eg : g = false := by rw [<- H.out.2.2.2.2.1]; exact allT_miss HE.out hp
    subst eg
    go_wp2_with fail
    refine wp_region_class (S := Grew wr) (by kernel_rfl) (by kernel_rfl) (Below.refl _ wr).drew ?_
    repeat (go_big_quiet_step (with_reducible exact hb _))
    refine wpQuiet_nil ?_
    intro _ hw'
    obtain ⟨u, hw''⟩ := hw'
    subst hw''
    have N4 : Hid (Below W.heap.size W u.w) := HR.out.2.trans (Below.mono u.ok HR.out.2.size)
    obtain ⟨w4, hw4⟩ : ∃ w4, w4 = u.w := ⟨_, rfl⟩
    rw [<- hw4] at N4 ⊢
    clear hw4 k1 hb c0 c1 c2 c3 c4 c5 c6 c7 c8 NE u
    go_wp2
    go_ret
    exact ⟨rfl, H.out.2.2.2.2.2.1.trans (N4.out.mono H.out.2.2.2.2.2.1.size)⟩
  ·obtain rfl : i = en := by omega
   have hall := HR.out.1
   rw [List.take_of_length_le (by rw [H.out.2.2.2.1]; omega)] at hall
   have eg : g = true := by rw [<- H.out.2.2.2.2.1]; exact hall
   subst eg
   clear hall
   go_wp2
   go_ret
   exact ⟨rfl, H.out.2.2.2.2.2.1.trans (HR.out.2.mono H.out.2.2.2.2.2.1.size)⟩
theorem rabove_any (h : RdG encO w oa st.objs) (hl : st.objs.length = on) (hn : on <= 1000000) {pa : Option Addr} {pn pc : Nat} {cm : Cm} (hr : RdG encU w pa cm.ps) (hel : cm.ps.length = pn) (hen : pn <= 4000000000000000000) (dt : Int) (nt : ByteArray) (g : Bool) (hg : st.above cm = g) :
  Calls Tryz.prog 125 #[rm d vf (.slice oa on oc) vr vt, .agg #[.int .u64 (cm.tree.toNat : Int), .slice pa pn pc, .int .i64 dt, .string nt]] w λ e w' => e = .returned (.bool g) /\ Below w.heap.size w w' := by
 have htr0 := λ (wr : World) (bw : Below w.heap.size w wr) (q : Bool) (hq : st.has 2 cm.tree = q) => shas_any (d := d) (oc := oc) (vf := vf) (vr := vr) (vt := vt) (h.below bw) hl hn 2 cm.tree q hq
 obtain ⟨tr, htr⟩ : ∃ tr : Int, (cm.tree.toNat : Int) = tr := ⟨_, rfl⟩
 rw [htr] at htr0 ⊢
 obtain ⟨W, hW⟩ : ∃ W, (w.alloc (nineC d vf (.slice oa on oc) vr vt)).alloc (.cells #[.int .u64 tr, .slice pa pn pc, .int .i64 dt, .string nt] 122) = W := ⟨_, rfl⟩
 have bW : Below w.heap.size w W := by rw [<- hW]; exact bz2 _ _ _
 have s1 : (w.alloc (nineC d vf (.slice oa on oc) vr vt)).heap.size = w.heap.size + 1 := by simp
 have n9 : NineM W w.heap.size d vf (.slice oa on oc) vr vt := by rw [<- hW]; exact (Nine.new w _ _ _ _ _ _ _ _ _).below (bz1 _ _) (by rw [s1]; omega)
 have bx : Box4 W (w.heap.size + 1) 122 (.int .u64 tr) (.slice pa pn pc) (.int .i64 dt) (.string nt) := by
  have := Box4.new (w.alloc (nineC d vf (.slice oa on oc) vr vt)) 122 (.int .u64 tr) (.slice pa pn pc) (.int .i64 dt) (.string nt)
  rw [s1, hW] at this
  exact this
 have H : Hid (RdG encO W oa st.objs /\ st.objs.length = on /\ RdG encU W pa cm.ps /\ cm.ps.length = pn /\ st.above cm = g /\ Below w.heap.size w W /\ NineM W w.heap.size d vf (.slice oa on oc) vr vt /\ Box4 W (w.heap.size + 1) 122 (.int .u64 tr) (.slice pa pn pc) (.int .i64 dt) (.string nt)) := ⟨h.below bW, hl, hr.below bW, hel, hg, bW, n9, bx⟩
 have TR : Hid (∀ (wr : World), Below w.heap.size w wr -> ∀ (q : Bool), st.has 2 cm.tree = q -> Calls Tryz.prog 70 #[rm d vf (.slice oa on oc) vr vt, .int .i64 2, .int .u64 tr] wr λ e w' => e = .returned (.bool q) /\ Below wr.heap.size wr w') := htr0
 clear h hl hr hel hg bW n9 bx htr0 htr s1
 go_enter Tryz.func125, Tryz.ntmps125
 go_wp2_with fail
 go_loopg [5] pn (λ m iv wr => ∃ i : Nat, iv = .int .i64 i /\ i + m = pn /\ Hid ((cm.ps.take i).all (λ p => st.has 3 p) = true /\ Below W.heap.size W wr))
 case atStart => exact ⟨0, rfl, by omega, rfl, Below.refl _ _⟩
 case round =>
  obtain ⟨i, rfl, hi, HR⟩ := hrel
  obtain ⟨p0, p1, p2, p3⟩ := (H.out.2.2.2.2.2.2.2.below HR.out.2 H.out.2.2.2.2.2.2.2.lt).cells
  by_cases hin : i < pn
  ·have id : (i : Int) < (pn : Int) := by omega
   obtain ⟨z, he⟩ := get_some H.out.2.2.2.1 hin
   obtain ⟨b1, off, rfl, hlt⟩ := H.out.2.2.1.some_of he
   have bu : ∀ u : SW (Grew wr), Below W.heap.size W u.w := λ u => HR.out.2.trans (Below.mono u.ok HR.out.2.size)
   have NE : Nonempty (SW (Grew wr)) := ⟨⟨wr, Below.refl _ _⟩⟩
   have k1 : ∀ u : SW (Grew wr), u.w.cell? ⟨b1, off + i, none⟩ = some (.int .u64 (z.toNat : Int)) := λ u => ((H.out.2.2.1.below (bu u)).nums he).2
   have n9 := λ u : SW (Grew wr) => (H.out.2.2.2.2.2.2.1.below (bu u) H.out.2.2.2.2.2.2.1.lt).cells
   have c0 := λ u => (n9 u).1
   have c1 := λ u => (n9 u).2.1
   have c2 := λ u => (n9 u).2.2.1
   have c3 := λ u => (n9 u).2.2.2.1
   have c4 := λ u => (n9 u).2.2.2.2.1
   have c5 := λ u => (n9 u).2.2.2.2.2.1
   have c6 := λ u => (n9 u).2.2.2.2.2.2.1
   have c7 := λ u => (n9 u).2.2.2.2.2.2.2.1
   have c8 := λ u => (n9 u).2.2.2.2.2.2.2.2
   have q1 := λ u : SW (Grew wr) => (H.out.2.2.2.2.2.2.2.below (bu u) H.out.2.2.2.2.2.2.2.lt).cells.2.1
   have hb := λ q hq => rhas_cls (d := d) (oc := oc) (vf := vf) (vr := vr) (vt := vt) (wr := wr) (H.out.1.below HR.out.2) H.out.2.1 hn 3 z q hq
   obtain ⟨zi, hz⟩ : ∃ zi : Int, (z.toNat : Int) = zi := ⟨_, rfl⟩
   rw [hz] at k1 hb
   have HE : Hid (cm.ps[i]? = some z) := he
   clear he n9 hz bu
   cases hp : st.has 3 z with
   | true =>
    have hb := hb true hp
    go_wp2_with fail
    refine wp_region_class (S := Grew wr) (by kernel_rfl) (by kernel_rfl) (Below.refl _ wr).drew ?_
    repeat (go_big_quiet_step (with_reducible exact hb _))
    refine wpQuiet_nil ?_
    intro _ hw'
    obtain ⟨u, hw''⟩ := hw'
    subst hw''
    have N4 : Hid (Below W.heap.size W u.w) := HR.out.2.trans (Below.mono u.ok HR.out.2.size)
    obtain ⟨w4, hw4⟩ : ∃ w4, w4 = u.w := ⟨_, rfl⟩
    rw [<- hw4] at N4 ⊢
    clear hw4 k1 hb c0 c1 c2 c3 c4 c5 c6 c7 c8 q1 NE u p0 p1 p2 p3
    go_wp2
    go_roundg (gk - 1)
    case measure => omega
    case rel => exact ⟨i + 1, by go_num, by omega, allT_step HE.out HR.out.1 hp, N4.out⟩
   | false =>
    have hb := hb false hp
    have eg : g = false := by rw [<- H.out.2.2.2.2.1]; unfold St.above; rw [allT_miss HE.out hp]; rfl
    subst eg
    go_wp2_with fail
    refine wp_region_class (S := Grew wr) (by kernel_rfl) (by kernel_rfl) (Below.refl _ wr).drew ?_
    repeat (go_big_quiet_step (with_reducible exact hb _))
    refine wpQuiet_nil ?_
    intro _ hw'
    obtain ⟨u, hw''⟩ := hw'
    subst hw''
    have N4 : Hid (Below W.heap.size W u.w) := HR.out.2.trans (Below.mono u.ok HR.out.2.size)
    obtain ⟨w4, hw4⟩ : ∃ w4, w4 = u.w := ⟨_, rfl⟩
    rw [<- hw4] at N4 ⊢
    clear hw4 k1 hb c0 c1 c2 c3 c4 c5 c6 c7 c8 q1 NE u p0 p1 p2 p3
    go_wp2
    go_ret
    exact ⟨rfl, H.out.2.2.2.2.2.1.trans (N4.out.mono H.out.2.2.2.2.2.1.size)⟩
  ·obtain rfl : i = pn := by omega
   have hall := HR.out.1
   rw [List.take_of_length_le (by rw [H.out.2.2.2.1]; omega)] at hall
   have eg : st.has 2 cm.tree = g := by rw [<- H.out.2.2.2.2.1]; unfold St.above; rw [hall]; rfl
   have bw := H.out.2.2.2.2.2.1.trans (HR.out.2.mono H.out.2.2.2.2.2.1.size)
   have ht := TR.out wr bw g eg
   obtain ⟨c0, c1, c2, c3, c4, c5, c6, c7, c8⟩ := (H.out.2.2.2.2.2.2.1.below HR.out.2 H.out.2.2.2.2.2.2.1.lt).cells
   have HBW : Hid (Below w.heap.size w wr) := bw
   clear hall eg bw
   go_wp2_with fail
   refine ht.mono ?_
   rintro e w2 ⟨rfl, B2⟩
   have HB2 : Hid (Below w.heap.size w w2) := HBW.out.trans (B2.mono HBW.out.size)
   clear B2 ht
   go_wp2
   go_ret
   exact ⟨rfl, HB2.out⟩
end
end Go.Proofs.YtjlokpjflgbgdaaGreat
