/-
  tree.Diff and what it calls, each by a contract: of two lists whose paths rise, none longer than any text can be, and of at most 100000 entries. 
-/
import Derived.Test.YtofbphmdkhocdaaGreatYFormsMg
namespace Go.Proofs.YtofbphmdkhocdaaGreat
open Go.RowKit

/-- Changes in memory. -/
def encC : Enc Chg := ⟨fun c => [tx c.1, .int .u64 (c.2.1.toNat : Int), .int .u64 (c.2.2.toNat : Int)], 3, fun _ => rfl, by decide, by intro x u h; simp at h; rcases h with rfl | rfl | rfl <;> rfl⟩

theorem Tryz.info58 : (Tryz.prog.info? 58).map (fun i => (i.zero, i.size, i.bytes)) = some (some (.agg #[.string ⟨#[]⟩, .int .u64 0, .int .u64 0]), 3, 32) := by kernel_rfl

/-- s[k:]. -/
theorem sliceG_l {α : Type} (E : Enc α) (e t bytes : Nat) (z : Value) (hinfo : (Tryz.prog.info? e).map (fun i => (i.zero, i.size, i.bytes)) = some (some z, E.size, bytes)) (hu : Tryz.prog.underlying t = some (.slice e)) (he : Tryz.prog.elem t = e)
    {ao : Option Addr} {n c k : Nat} (hc : n ≤ c) (hk : k ≤ n) :
    ∃ a' c', (∀ w, (Instr.slice t (.slice ao n c) (some (.int .i64 (k : Int))) none none).run Tryz.prog w = .ok (.slice a' (n - k) c') w) ∧ n - k ≤ c' ∧ c' ≤ c ∧ ∀ w (xs : List α), xs.length = n → RdG E w ao xs → RdG E w a' (xs.drop k) := by
  obtain ⟨i0, hi0, hz0, hz1, hz2⟩ := info_parts hinfo
  refine ⟨if c = k then ao else ao.map (·.add (k * E.size)), c - k, fun w => ?_, by omega, by omega, ?_⟩
  · rw [run_slice_l w t ao n c (by rw [he]; exact hu) .i64 (k : Int) (by omega) (by omega)]
    have : (sizeOf (Tryz.prog.elem t)).run Tryz.prog w = .ok E.size w := by
      rw [he]
      simp [sizeOf, typeInfo, hi0, hz1]
    rw [this]
    simp only [Result.andThen, sliced, Int.toNat_natCast]
  · intro w xs hl h
    split
    · intro h0
      simp at h0
      omega
    · intro h0
      obtain ⟨b, off, rfl, hlt, hcc⟩ := h (by simp at h0; omega)
      simp only [Option.map_some, addr_plus]
      exact RdG.drop (E := E) (b := b) (off := off) (xs := xs) (fun _ => ⟨b, off, rfl, hlt, hcc⟩) k h0

/-- Three cells in a block of their own. -/
def Box3 (w : World) (B : Nat) (t : TypeId) (x y z : Value) : Prop := w.heap[B]? = some (.cells #[x, y, z] t (0, 0))
section
variable {w w' : World} {B : Nat} {t : TypeId} {x y z : Value}
theorem Box3.lt (h : Box3 w B t x y z) : B < w.heap.size := (Array.getElem?_eq_some_iff.1 h).1
theorem Box3.below (h : Box3 w B t x y z) (hb : Below w.heap.size w w') : Box3 w' B t x y z := (hb.block B h.lt).trans h
theorem Box3.turned {S : Nat → Prop} (h : Box3 w B t x y z) (ht : Turned S w w') (hS : ¬ S B) : Box3 w' B t x y z := (ht.block B h.lt hS).trans h
theorem Box3.cells (h : Box3 w B t x y z) : w.cell? ⟨B, 0, none⟩ = some x ∧ w.cell? ⟨B, 1, none⟩ = some y ∧ w.cell? ⟨B, 2, none⟩ = some z := by
  unfold Box3 at h
  simp [World.cell?, h]
theorem Box3.thaw (h : Box3 w B t x y z) : w.frozen? ⟨B, 0, none⟩ = false ∧ w.frozen? ⟨B, 1, none⟩ = false ∧ w.frozen? ⟨B, 2, none⟩ = false := by
  unfold Box3 at h
  simp [World.frozen?, h]
theorem Box3.new (w : World) (t : TypeId) (x y z : Value) : Box3 (w.alloc (.cells #[x, y, z] t)) w.heap.size t x y z := by
  unfold Box3 World.alloc
  simp
theorem Box3.put1 (h : Box3 w B t x y z) (y' : Value) : Box3 (w.setCell ⟨B, 1, none⟩ y') B t x y' z := by
  unfold Box3 at h ⊢
  simp [World.setCell, Array.getElem?_modify, h]
theorem Box3.put2 (h : Box3 w B t x y z) (z' : Value) : Box3 (w.setCell ⟨B, 2, none⟩ z') B t x y z' := by
  unfold Box3 at h ⊢
  simp [World.setCell, Array.getElem?_modify, h]
end

theorem els22 : Tryz.prog.elem 22 = 52 := by kernel_rfl

theorem ent_first {w : World} {ao : Option Addr} {e : En} {t : List En} (h : RdG encE w ao (e :: t)) : ∃ b off, ao = some ⟨b, off, none⟩ ∧ b < w.heap.size ∧ w.cell? ⟨b, off, none⟩ = some (tx e.1) ∧ w.cell? ⟨b, off + 1, none⟩ = some (.int .u64 (e.2.toNat : Int)) := by
  obtain ⟨b, off, rfl, hlt⟩ := h.some_of (i := 0) (x := e) rfl
  obtain ⟨_, h1, h2⟩ := h.ents (i := 0) (e := e) rfl
  refine ⟨b, off, rfl, hlt, ?_, ?_⟩
  · simpa using h1
  · simpa using h2

set_option maxHeartbeats 800000 in
set_option maxRecDepth 100000 in
theorem least_any {ao bo : Option Addr} {n c m d : Nat} {a b : List En} (w : World) (ha : RdG encE w ao a) (hb : RdG encE w bo b) (hl : a.length = n) (hk : b.length = m) (hn : n ≤ 4000000000000000000) (hm : m ≤ 4000000000000000000) (h : a ≠ [] ∨ b ≠ []) (p : Bs) (hp : leastP a b = p) :
    Calls Tryz.prog 31 #[.slice ao n c, .slice bo m d] w fun e w' => e = .returned (tx p) ∧ ∃ q, w' = w.drewN q := by
  cases b with
  | nil =>
    cases a with
    | nil => simp at h
    | cons x s =>
      obtain rfl : x.1 = p := hp
      obtain ⟨b1, o1, rfl, _, c1, _⟩ := ent_first ha
      obtain rfl : m = 0 := hk.symm
      have hn0 : ¬ (n : Int) = 0 := by simp at hl; omega
      clear ha hb hl hk h
      go_enter Tryz.func31, Tryz.ntmps31
      go_wp2_with fail
      go_quiet (fail)
      go_wp2
      go_ret
      exact ⟨rfl, _, rfl⟩
  | cons y t =>
    obtain ⟨b2, o2, rfl, _, c2, _⟩ := ent_first hb
    have hm0 : ¬ (m : Int) = 0 := by simp at hk; omega
    have hm1 : (0 : Int) < (m : Int) := by simp at hk; omega
    have hm2 : ((m : Int) == 0) = false := by simpa using hm0
    cases a with
    | nil =>
      obtain rfl : y.1 = p := hp
      obtain rfl : n = 0 := hl.symm
      clear ha hb hl hk h
      go_enter Tryz.func31, Tryz.ntmps31
      go_wp2_with fail
      go_quiet (fail)
      go_wp2
      go_ret
      exact ⟨rfl, _, rfl⟩
    | cons x s =>
      obtain ⟨b1, o1, rfl, _, c1, _⟩ := ent_first ha
      have hn0 : ¬ (n : Int) = 0 := by simp at hl; omega
      have hn1 : (0 : Int) < (n : Int) := by simp at hl; omega
      have hn2 : 0 < n := by omega
      have hn3 : decide (0 < n) = true := by simpa using hn2
      by_cases k : x.1 < y.1
      · obtain rfl : x.1 = p := by rw [← hp]; simp [leastP, k]
        have hlt : Op.bytesLess x.1 y.1 = true := by rw [less_eq]; simpa using k
        clear ha hb hl hk h hp
        go_enter Tryz.func31, Tryz.ntmps31
        go_wp2_with fail
        go_quiet (fail)
        go_wp2
        go_ret
        exact ⟨rfl, _, rfl⟩
      · obtain rfl : y.1 = p := by rw [← hp]; simp [leastP, k]
        have hlt : Op.bytesLess x.1 y.1 = false := by rw [less_eq]; simpa using k
        clear ha hb hl hk h hp
        go_enter Tryz.func31, Tryz.ntmps31
        go_wp2_with fail
        go_quiet (fail)
        go_wp2
        go_ret
        exact ⟨rfl, _, rfl⟩

set_option maxHeartbeats 800000 in
set_option maxRecDepth 100000 in
theorem take_any10 {ao : Option Addr} {n c : Nat} {a : List En} (p : Bs) (w : World) (ha : RdG encE w ao a) (hl : a.length = n) (hc : n ≤ c) (o : UInt64) (t : List En) (ho : takeP a p = (o, t)) :
    Calls Tryz.prog 32 #[.slice ao n c, tx p] w fun e w' => ∃ a' n' c', e = .returned (.tuple #[.int .u64 (o.toNat : Int), .slice a' n' c']) ∧ t.length = n' ∧ n' ≤ c' ∧ c' ≤ c ∧ (∀ u, RdG encE u ao a → RdG encE u a' t) ∧ ∃ q, w' = w.drewN q := by
  cases a with
  | nil =>
    obtain ⟨rfl, rfl⟩ : o = 0 ∧ t = [] := by simpa [takeP] using ho.symm
    obtain rfl : n = 0 := hl.symm
    clear ho
    go_enter Tryz.func32, Tryz.ntmps32
    go_wp2
    refine bodyPost_ret (results_tmp2 rfl _ _ _) rfl ?_
    exact ⟨ao, 0, c, rfl, rfl, hc, Nat.le_refl _, fun u h => h, 0, rfl⟩
  | cons e s =>
    obtain ⟨b1, o1, rfl, _, c1, c2⟩ := ent_first ha
    have hn0 : ¬ (n : Int) = 0 := by simp at hl; omega
    have hn1 : (0 : Int) < (n : Int) := by simp at hl; omega
    have H : Hid (RdG encE w (some ⟨b1, o1, none⟩) (e :: s) ∧ (e :: s).length = n) := ⟨ha, hl⟩
    by_cases k : e.1 = p
    · obtain ⟨rfl, rfl⟩ : e.2 = o ∧ s = t := by
        rw [takeP, if_pos k] at ho
        exact ⟨congrArg Prod.fst ho, congrArg Prod.snd ho⟩
      obtain ⟨a', c', h1, h2, h3, h4⟩ := sliceG_l encE 52 22 24 _ Tryz.info52 Tryz.underlying22 els22 (ao := some ⟨b1, o1, none⟩) (k := 1) hc (by simp at hl; omega)
      subst k
      have L : Hid (n - 1 ≤ c' ∧ c' ≤ c ∧ ∀ w (xs : List En), xs.length = n → RdG encE w (some ⟨b1, o1, none⟩) xs → RdG encE w a' (xs.drop 1)) := ⟨h2, h3, h4⟩
      have h1' : ∀ w, (Instr.slice 22 (.slice (some ⟨b1, o1, none⟩) n c) (some (.int .i64 1)) none none).run Tryz.prog w = .ok (.slice a' (n - 1) c') w := h1
      clear ho ha hl h1 h2 h3 h4
      go_enter Tryz.func32, Tryz.ntmps32
      go_wp2_with fail
      go_quiet (fail)
      go_wp2
      refine bodyPost_ret (results_tmp2 rfl _ _ _) rfl ?_
      exact ⟨a', n - 1, c', rfl, by have := H.out.2; simp at this; omega, L.out.1, L.out.2.1, fun u h => L.out.2.2 u _ H.out.2 h, _, rfl⟩
    · obtain ⟨rfl, rfl⟩ : (0 : UInt64) = o ∧ e :: s = t := by
        rw [takeP, if_neg k] at ho
        exact ⟨congrArg Prod.fst ho, congrArg Prod.snd ho⟩
      have hne : (e.1 == p) = false := by simpa using k
      clear ho ha hl
      go_enter Tryz.func32, Tryz.ntmps32
      go_wp2
      refine bodyPost_ret (results_tmp2 rfl _ _ _) rfl ?_
      exact ⟨_, n, c, rfl, H.out.2, hc, Nat.le_refl _, fun u h => h, 0, rfl⟩

set_option maxHeartbeats 1600000 in
set_option maxRecDepth 100000 in
/-- tree.Diff. -/
theorem diff_any {ao bo lo : Option Addr} {n c m d ln lc : Nat} {A B : List En} {ls : List Bs} (w : World) (ha : RdG encE w ao A) (hb : RdG encE w bo B) (hl : A.length = n) (hk : B.length = m) (hnc : n ≤ c) (hmd : m ≤ d) (hc : c ≤ 4000000000000000000) (hd : d ≤ 4000000000000000000) (hn : n ≤ 100000) (hm : m ≤ 100000)
    (rA : Rise A) (rB : Rise B) (fA : Fine A) (fB : Fine B) (hL : Rd w lo ls) (hll : ls.length = ln) (hln : ln ≤ 100000) :
    Calls Tryz.prog 13 #[.slice ao n c, .slice bo m d, .agg #[.slice lo ln lc]] w fun e w' => ∃ v', e = .returned v' ∧ OwnG encC 58 w' w.heap.size v' (fdiff (hasS ls) A B) ∧ Below w.heap.size w w' := by
  have LL : Hid (Rd w lo ls ∧ ls.length = ln) := ⟨hL, hll⟩
  have H : Hid (RdG encE w ao A ∧ RdG encE w bo B ∧ A.length = n ∧ B.length = m ∧ Rise A ∧ Rise B ∧ Fine A ∧ Fine B) := ⟨ha, hb, hl, hk, rA, rB, fA, fB⟩
  have W0 : Hid (Below w.heap.size w (w.alloc (.cells #[.slice lo ln lc] 26)) ∧ (w.alloc (.cells #[.slice lo ln lc] 26)).cell? ⟨w.heap.size, 0, none⟩ = some (.slice lo ln lc)) := ⟨bz1 _ _, by simp⟩
  clear hL hll ha hb hl hk rA rB fA fB
  go_enter Tryz.func13, Tryz.ntmps13
  go_wp2_with fail
  go_loopg [0, 1, 7] (n + m) (fun k av bv ov wr => ∃ (a' b' : Option Addr) (n' c' m' d' : Nat), av = .slice a' n' c' ∧ bv = .slice b' m' d' ∧ n' + m' = k ∧ n' ≤ c' ∧ m' ≤ d' ∧ c' ≤ 4000000000000000000 ∧ d' ≤ 4000000000000000000 ∧ n' ≤ 100000 ∧ m' ≤ 100000 ∧
    Hid (∃ (al bl : List En) (out : List Chg), al.length = n' ∧ bl.length = m' ∧ RdG encE w a' al ∧ RdG encE w b' bl ∧ Rise al ∧ Rise bl ∧ Fine al ∧ Fine bl ∧ out ++ fdiff (hasS ls) al bl = fdiff (hasS ls) A B ∧ out.length + n' + m' ≤ n + m ∧ OwnG encC 58 wr (w.heap.size + 1) ov out ∧ Below w.heap.size w wr ∧ Below (w.heap.size + 1) (w.alloc (.cells #[.slice lo ln lc] 26)) wr))
  case atStart => exact ⟨ao, bo, n, c, m, d, rfl, rfl, rfl, hnc, hmd, hc, hd, hn, hm, A, B, [], H.out.2.2.1, H.out.2.2.2.1, H.out.1, H.out.2.1, H.out.2.2.2.2.1, H.out.2.2.2.2.2.1, H.out.2.2.2.2.2.2.1, H.out.2.2.2.2.2.2.2, rfl, by simp, OwnG.nil _ _ _ _, W0.out.1, Below.refl _ _⟩
  case round =>
    obtain ⟨a', b', n', c', m', d', rfl, rfl, hgk, h1, h2, h3, h4, h5, h6, HR⟩ := hrel
    obtain ⟨al, bl, out, l1, l2, R1, R2, q1, q2, f1, f2, hfd, hol, OW, BW, BX⟩ := HR.out
    have cl : wr.cell? ⟨w.heap.size, 0, none⟩ = some (.slice lo ln lc) := (BX.cell (p := ⟨w.heap.size, 0, none⟩) (by simp)).trans W0.out.2
    by_cases h0 : n' = 0 ∧ m' = 0
    · obtain ⟨rfl, rfl⟩ := h0
      have e1 : al = [] := List.eq_nil_of_length_eq_zero l1
      have e2 : bl = [] := List.eq_nil_of_length_eq_zero l2
      subst e1 e2
      have e3 : fdiff (hasS ls) [] [] = [] := rfl
      rw [e3, List.append_nil] at hfd
      have G : Hid (out = fdiff (hasS ls) A B ∧ OwnG encC 58 wr (w.heap.size + 1) _ out ∧ Below w.heap.size w wr) := ⟨hfd, OW, BW⟩
      clear hfd OW BW R1 R2 q1 q2 f1 f2 HR l1 l2 BX cl
      go_wp2
      go_ret
      exact ⟨_, rfl, by rw [← G.out.1]; exact OwnG.low G.out.2.1 (by omega), G.out.2.2⟩
    · have hne : al ≠ [] ∨ bl ≠ [] := by
        rcases Nat.eq_zero_or_pos n' with z | z
        · right; intro e; rw [e] at l2; exact h0 ⟨z, l2.symm⟩
        · left; intro e; rw [e] at l1; simp at l1; omega
      have hst := fdiff_step (hasS ls) q1 q2 hne
      have hsl := least_len hne
      obtain ⟨p, hp⟩ : ∃ p, leastP al bl = p := ⟨_, rfl⟩
      have hpl : p.length ≤ 9223372036854775807 := by
        rw [← hp]
        rcases least_mem hne with q | q
        · obtain ⟨e, he, ee⟩ := List.mem_map.1 q; rw [← ee]; exact f1 e he
        · obtain ⟨e, he, ee⟩ := List.mem_map.1 q; rw [← ee]; exact f2 e he
      have hle := fun u r1 r2 => least_any (c := c') (d := d') (ao := a') (bo := b') u r1 r2 l1 l2 (by omega) (by omega) hne p hp
      rw [hp] at hst hsl
      obtain ⟨o, t, ho⟩ : ∃ o t, takeP al p = (o, t) := ⟨_, _, rfl⟩
      obtain ⟨o2, t2, ho2⟩ : ∃ o2 t2, takeP bl p = (o2, t2) := ⟨_, _, rfl⟩
      have ht1 := fun u r => take_any10 (c := c') (ao := a') p u r l1 h1 o t ho
      have ht2 := fun u r => take_any10 (c := d') (ao := b') p u r l2 h2 o2 t2 ho2
      have k1 := takeP_rise q1 p
      have k2 := takeP_rise q2 p
      rw [ho, ho2] at hst hsl
      rw [ho] at k1
      rw [ho2] at k2
      have hsl' : t.length + t2.length < n' + m' := by simpa [l1, l2] using hsl
      have TL : Hid (t.length ≤ 100000 ∧ t2.length ≤ 100000) := by
        have e1 := takeP_len al p
        have e2 := takeP_len bl p
        rw [ho] at e1
        rw [ho2] at e2
        simp only at e1 e2
        exact ⟨by omega, by omega⟩
      have ft : Fine t ∧ Fine t2 := by
        refine ⟨fun e he => f1 e ?_, fun e he => f2 e ?_⟩
        · have := takeP_sub al p e
          rw [ho] at this
          exact this he
        · have := takeP_sub bl p e
          rw [ho2] at this
          exact this he
      have ST : Hid (out ++ fdiff (hasS ls) al bl = fdiff (hasS ls) A B ∧ fdiff (hasS ls) al bl = (if (o != o2) && hasS ls p then [(p, o, o2)] else []) ++ fdiff (hasS ls) t t2 ∧ t.length + t2.length < n' + m' ∧ Rise t ∧ Rise t2 ∧ Fine t ∧ Fine t2 ∧ out.length + n' + m' ≤ n + m) := ⟨hfd, hst, hsl', k1, k2, ft.1, ft.2, hol⟩
      have SW : Hid (OwnG encC 58 wr (w.heap.size + 1) _ out ∧ Below w.heap.size w wr ∧ Below (w.heap.size + 1) (w.alloc (.cells #[.slice lo ln lc] 26)) wr ∧ RdG encE w a' al ∧ RdG encE w b' bl) := ⟨OW, BW, BX, R1, R2⟩
      have hle1 := hle wr (R1.below BW) (R2.below BW)
      clear hst hsl hsl' k1 k2 hfd OW BW BX hne ho ho2 hp q1 q2 HR hle l1 l2 R1 R2 f1 f2 ft hol h0
      rcases Nat.eq_zero_or_pos n' with z | z
      · have z2 : (0 : Int) < (m' : Int) := by have := ST.out.2.2.1; omega
        subst z
        go_wp2_with fail
        refine hle1.mono ?_
        rintro e w1 ⟨rfl, k1, hw1⟩
        have BB : Hid (Below wr.heap.size wr w1 ∧ w1.heap.size = wr.heap.size) := by rw [hw1]; exact ⟨below_drewN (Below.refl _ _) k1, rfl⟩
        clear hw1 hle1
        go_upto_region 4 with fail
        obtain ⟨w2, hw2⟩ : ∃ w2, w2 = w1.alloc (.cells #[.string ⟨p.toArray⟩, .int .u64 0, .int .u64 0] 58) := ⟨_, rfl⟩
        obtain ⟨R, hR⟩ : ∃ R, w1.heap.size = R := ⟨_, rfl⟩
        have X2 : Hid (Box3 w2 R 58 (tx p) (.int .u64 0) (.int .u64 0) ∧ Below wr.heap.size wr w2 ∧ wr.heap.size ≤ R) := by
          rw [hw2, ← hR]
          exact ⟨Box3.new w1 58 _ _ _, BB.out.1.trans ((bz1 w1 _).mono BB.out.1.size), BB.out.1.size⟩
        rw [← hw2, hR]
        clear hw2 hR BB
        obtain ⟨j0, j1, j2⟩ := X2.out.1.cells
        have ht1' := ht1 w2 ((SW.out.2.2.2.1.below SW.out.2.1).below X2.out.2.1)
        go_wp2_with fail
        refine ht1'.mono ?_
        rintro e w3 ⟨a3, n3, c3, rfl, L3, k3, k4, P3, q3, hw3⟩
        have X3 : Hid (Box3 w3 R 58 (tx p) (.int .u64 0) (.int .u64 0) ∧ Below wr.heap.size wr w3 ∧ wr.heap.size ≤ R) := by
          rw [hw3]
          exact ⟨X2.out.1.below (below_drewN (Below.refl _ _) q3), below_drewN X2.out.2.1 q3, X2.out.2.2⟩
        clear hw3 ht1' ht1 X2 j0 j1 j2
        obtain ⟨j0, j1, j2⟩ := X3.out.1.cells
        obtain ⟨t0, t1, t2'⟩ := X3.out.1.thaw
        have L3' : Hid (t.length = n3 ∧ ∀ u, RdG encE u a' al → RdG encE u a3 t) := ⟨L3, P3⟩
        clear L3 P3
        go_upto_region 5 with fail
        obtain ⟨w4, hw4⟩ : ∃ w4, w4 = w3.setCell ⟨R, 1, none⟩ (.int .u64 (o.toNat : Int)) := ⟨_, rfl⟩
        have X4 : Hid (Box3 w4 R 58 (tx p) (.int .u64 (o.toNat : Int)) (.int .u64 0) ∧ Below wr.heap.size wr w4 ∧ wr.heap.size ≤ R) := by
          rw [hw4]
          exact ⟨X3.out.1.put1 _, X3.out.2.1.trans ((turned_set 1 _).below X3.out.2.1.size (fun k hk e => by have := X3.out.2.2; omega)), X3.out.2.2⟩
        rw [← hw4]
        clear hw4 X3 j0 j1 j2 t0 t1 t2'
        obtain ⟨j0, j1, j2⟩ := X4.out.1.cells
        have ht2' := ht2 w4 ((SW.out.2.2.2.2.below SW.out.2.1).below X4.out.2.1)
        go_wp2_with fail
        refine ht2'.mono ?_
        rintro e w5 ⟨a5, n5, c5, rfl, L5, k5, k6, P5, q5, hw5⟩
        have X5 : Hid (Box3 w5 R 58 (tx p) (.int .u64 (o.toNat : Int)) (.int .u64 0) ∧ Below wr.heap.size wr w5 ∧ wr.heap.size ≤ R) := by
          rw [hw5]
          exact ⟨X4.out.1.below (below_drewN (Below.refl _ _) q5), below_drewN X4.out.2.1 q5, X4.out.2.2⟩
        clear hw5 ht2' ht2 X4 j0 j1 j2
        obtain ⟨j0, j1, j2⟩ := X5.out.1.cells
        obtain ⟨t0, t1, t2'⟩ := X5.out.1.thaw
        have L5' : Hid (t2.length = n5 ∧ ∀ u, RdG encE u b' bl → RdG encE u a5 t2) := ⟨L5, P5⟩
        clear L5 P5
        go_upto_region 6 with fail
        obtain ⟨w6, hw6⟩ : ∃ w6, w6 = w5.setCell ⟨R, 2, none⟩ (.int .u64 (o2.toNat : Int)) := ⟨_, rfl⟩
        have X6 : Hid (Box3 w6 R 58 (tx p) (.int .u64 (o.toNat : Int)) (.int .u64 (o2.toNat : Int)) ∧ Below wr.heap.size wr w6 ∧ wr.heap.size ≤ R) := by
          rw [hw6]
          exact ⟨X5.out.1.put2 _, X5.out.2.1.trans ((turned_set 2 _).below X5.out.2.1.size (fun k hk e => by have := X5.out.2.2; omega)), X5.out.2.2⟩
        rw [← hw6]
        clear hw6 X5 j0 j1 j2 t0 t1 t2'
        obtain ⟨j0, j1, j2⟩ := X6.out.1.cells
        have cl6 : w6.cell? ⟨w.heap.size, 0, none⟩ = some (.slice lo ln lc) := (X6.out.2.1.cell (p := ⟨w.heap.size, 0, none⟩) (by have := SW.out.2.2.1.size; simp at this; show w.heap.size < _; omega)).trans cl
        have hb3 : n3 ≤ 100000 ∧ n5 ≤ 100000 := ⟨by rw [← L3'.out.1]; exact TL.out.1, by rw [← L5'.out.1]; exact TL.out.2⟩
        have hln2 : n3 + n5 < gk := by have h1 := ST.out.2.2.1; have h2 := L3'.out.1; have h3 := L5'.out.1; omega
        clear cl
        by_cases ho : o = o2
        · subst ho
          go_wp2
          go_roundg (n3 + n5)
          case measure => omega
          case rel =>
            refine ⟨a3, a5, n3, c3, n5, c5, rfl, rfl, rfl, k3, k5, by omega, by omega, by omega, by omega, t, t2, out, L3'.out.1, L5'.out.1, L3'.out.2 _ SW.out.2.2.2.1, L5'.out.2 _ SW.out.2.2.2.2, ST.out.2.2.2.1, ST.out.2.2.2.2.1, ST.out.2.2.2.2.2.1, ST.out.2.2.2.2.2.2.1, ?_, ?_, SW.out.1.below X6.out.2.1, SW.out.2.1.trans (X6.out.2.1.mono SW.out.2.1.size), SW.out.2.2.1.trans (X6.out.2.1.mono (by have := SW.out.2.2.1.size; simp at this; exact this))⟩
            · have e1 := ST.out.1
              rw [ST.out.2.1] at e1
              simpa using e1
            · have := ST.out.2.2.2.2.2.2.2; omega
        · have ho1 : ((o.toNat : Int) != (o2.toNat : Int)) = true := by
            simp only [bne_iff_ne, ne_eq]
            intro e
            exact ho (UInt64.toNat_inj.1 (by omega))
          have ho2 : ((o.toNat : Int) == (o2.toNat : Int)) = false := by simpa using ho1
          obtain ⟨g, hg⟩ : ∃ g, hasS ls p = g := ⟨_, rfl⟩
          have hha := has_any (c := lc) p w6 ((LL.out.1.below SW.out.2.1).below X6.out.2.1) LL.out.2 (by omega) hpl g hg
          have EG : Hid (hasS ls p = g ∧ (o != o2) = true) := ⟨hg, by simpa using ho⟩
          clear hg
          go_wp2_with fail
          refine hha.mono ?_
          rintro e w7 ⟨rfl, B7⟩
          have X7 : Hid (Box3 w7 R 58 (tx p) (.int .u64 (o.toNat : Int)) (.int .u64 (o2.toNat : Int)) ∧ Below wr.heap.size wr w7 ∧ OwnG encC 58 w7 (w.heap.size + 1) _ out) := ⟨X6.out.1.below B7, X6.out.2.1.trans (B7.mono X6.out.2.1.size), (SW.out.1.below X6.out.2.1).below B7⟩
          clear B7 hha X6 j0 j1 j2 cl6
          obtain ⟨j0, j1, j2⟩ := X7.out.1.cells
          cases g with
          | false =>
            go_wp2
            go_roundg (n3 + n5)
            case measure => omega
            case rel =>
              refine ⟨a3, a5, n3, c3, n5, c5, rfl, rfl, rfl, k3, k5, by omega, by omega, by omega, by omega, t, t2, out, L3'.out.1, L5'.out.1, L3'.out.2 _ SW.out.2.2.2.1, L5'.out.2 _ SW.out.2.2.2.2, ST.out.2.2.2.1, ST.out.2.2.2.2.1, ST.out.2.2.2.2.2.1, ST.out.2.2.2.2.2.2.1, ?_, ?_, X7.out.2.2, SW.out.2.1.trans (X7.out.2.1.mono SW.out.2.1.size), SW.out.2.2.1.trans (X7.out.2.1.mono (by have := SW.out.2.2.1.size; simp at this; exact this))⟩
              · have e1 := ST.out.1
                rw [ST.out.2.1, EG.out.1] at e1
                simpa using e1
              · have := ST.out.2.2.2.2.2.2.2; omega
          | true =>
            have hob : out.length ≤ 200000 := by have := ST.out.2.2.2.2.2.2.2; omega
            have hb7 : w.heap.size + 1 ≤ w7.heap.size := by have h1 := SW.out.2.2.1.size; have h2 := X7.out.2.1.size; simp at h1; omega
            go_wp2_with (at_builtin; refine appG_one encC 58 37 32 (.agg #[.string ⟨#[]⟩, .int .u64 0, .int .u64 0]) rfl Tryz.info58 Tryz.underlying37 rfl (.tmp 48) (.tmp 50) rfl (w.heap.size + 1) _ out (p, o, o2) _ rfl X7.out.2.2 rfl (by omega) (by simp only [maxLen]; omega) hb7 _ rfl ?_; intro v8 w8 hown8 hbel8 _ _)
            go_roundg (n3 + n5)
            case measure => omega
            case rel =>
              have hs1 := SW.out.2.1.size
              refine ⟨a3, a5, n3, c3, n5, c5, rfl, rfl, rfl, k3, k5, by omega, by omega, by omega, by omega, t, t2, out ++ [(p, o, o2)], L3'.out.1, L5'.out.1, L3'.out.2 _ SW.out.2.2.2.1, L5'.out.2 _ SW.out.2.2.2.2, ST.out.2.2.2.1, ST.out.2.2.2.2.1, ST.out.2.2.2.2.2.1, ST.out.2.2.2.2.2.2.1, ?_, ?_, hown8, (SW.out.2.1.trans (X7.out.2.1.mono hs1)).trans (hbel8.mono (by omega)), (SW.out.2.2.1.trans (X7.out.2.1.mono (by have := SW.out.2.2.1.size; simp at this; exact this))).trans hbel8⟩
              · have e1 := ST.out.1
                rw [ST.out.2.1, EG.out.1, EG.out.2] at e1
                simpa using e1
              · have := ST.out.2.2.2.2.2.2.2
                rw [List.length_append, List.length_singleton]
                omega
      · have z1 : (0 : Int) < (n' : Int) := by omega
        go_wp2_with fail
        refine hle1.mono ?_
        rintro e w1 ⟨rfl, k1, hw1⟩
        have BB : Hid (Below wr.heap.size wr w1 ∧ w1.heap.size = wr.heap.size) := by rw [hw1]; exact ⟨below_drewN (Below.refl _ _) k1, rfl⟩
        clear hw1 hle1
        go_upto_region 4 with fail
        obtain ⟨w2, hw2⟩ : ∃ w2, w2 = w1.alloc (.cells #[.string ⟨p.toArray⟩, .int .u64 0, .int .u64 0] 58) := ⟨_, rfl⟩
        obtain ⟨R, hR⟩ : ∃ R, w1.heap.size = R := ⟨_, rfl⟩
        have X2 : Hid (Box3 w2 R 58 (tx p) (.int .u64 0) (.int .u64 0) ∧ Below wr.heap.size wr w2 ∧ wr.heap.size ≤ R) := by
          rw [hw2, ← hR]
          exact ⟨Box3.new w1 58 _ _ _, BB.out.1.trans ((bz1 w1 _).mono BB.out.1.size), BB.out.1.size⟩
        rw [← hw2, hR]
        clear hw2 hR BB
        obtain ⟨j0, j1, j2⟩ := X2.out.1.cells
        have ht1' := ht1 w2 ((SW.out.2.2.2.1.below SW.out.2.1).below X2.out.2.1)
        go_wp2_with fail
        refine ht1'.mono ?_
        rintro e w3 ⟨a3, n3, c3, rfl, L3, k3, k4, P3, q3, hw3⟩
        have X3 : Hid (Box3 w3 R 58 (tx p) (.int .u64 0) (.int .u64 0) ∧ Below wr.heap.size wr w3 ∧ wr.heap.size ≤ R) := by
          rw [hw3]
          exact ⟨X2.out.1.below (below_drewN (Below.refl _ _) q3), below_drewN X2.out.2.1 q3, X2.out.2.2⟩
        clear hw3 ht1' ht1 X2 j0 j1 j2
        obtain ⟨j0, j1, j2⟩ := X3.out.1.cells
        obtain ⟨t0, t1, t2'⟩ := X3.out.1.thaw
        have L3' : Hid (t.length = n3 ∧ ∀ u, RdG encE u a' al → RdG encE u a3 t) := ⟨L3, P3⟩
        clear L3 P3
        go_upto_region 5 with fail
        obtain ⟨w4, hw4⟩ : ∃ w4, w4 = w3.setCell ⟨R, 1, none⟩ (.int .u64 (o.toNat : Int)) := ⟨_, rfl⟩
        have X4 : Hid (Box3 w4 R 58 (tx p) (.int .u64 (o.toNat : Int)) (.int .u64 0) ∧ Below wr.heap.size wr w4 ∧ wr.heap.size ≤ R) := by
          rw [hw4]
          exact ⟨X3.out.1.put1 _, X3.out.2.1.trans ((turned_set 1 _).below X3.out.2.1.size (fun k hk e => by have := X3.out.2.2; omega)), X3.out.2.2⟩
        rw [← hw4]
        clear hw4 X3 j0 j1 j2 t0 t1 t2'
        obtain ⟨j0, j1, j2⟩ := X4.out.1.cells
        have ht2' := ht2 w4 ((SW.out.2.2.2.2.below SW.out.2.1).below X4.out.2.1)
        go_wp2_with fail
        refine ht2'.mono ?_
        rintro e w5 ⟨a5, n5, c5, rfl, L5, k5, k6, P5, q5, hw5⟩
        have X5 : Hid (Box3 w5 R 58 (tx p) (.int .u64 (o.toNat : Int)) (.int .u64 0) ∧ Below wr.heap.size wr w5 ∧ wr.heap.size ≤ R) := by
          rw [hw5]
          exact ⟨X4.out.1.below (below_drewN (Below.refl _ _) q5), below_drewN X4.out.2.1 q5, X4.out.2.2⟩
        clear hw5 ht2' ht2 X4 j0 j1 j2
        obtain ⟨j0, j1, j2⟩ := X5.out.1.cells
        obtain ⟨t0, t1, t2'⟩ := X5.out.1.thaw
        have L5' : Hid (t2.length = n5 ∧ ∀ u, RdG encE u b' bl → RdG encE u a5 t2) := ⟨L5, P5⟩
        clear L5 P5
        go_upto_region 6 with fail
        obtain ⟨w6, hw6⟩ : ∃ w6, w6 = w5.setCell ⟨R, 2, none⟩ (.int .u64 (o2.toNat : Int)) := ⟨_, rfl⟩
        have X6 : Hid (Box3 w6 R 58 (tx p) (.int .u64 (o.toNat : Int)) (.int .u64 (o2.toNat : Int)) ∧ Below wr.heap.size wr w6 ∧ wr.heap.size ≤ R) := by
          rw [hw6]
          exact ⟨X5.out.1.put2 _, X5.out.2.1.trans ((turned_set 2 _).below X5.out.2.1.size (fun k hk e => by have := X5.out.2.2; omega)), X5.out.2.2⟩
        rw [← hw6]
        clear hw6 X5 j0 j1 j2 t0 t1 t2'
        obtain ⟨j0, j1, j2⟩ := X6.out.1.cells
        have cl6 : w6.cell? ⟨w.heap.size, 0, none⟩ = some (.slice lo ln lc) := (X6.out.2.1.cell (p := ⟨w.heap.size, 0, none⟩) (by have := SW.out.2.2.1.size; simp at this; show w.heap.size < _; omega)).trans cl
        have hb3 : n3 ≤ 100000 ∧ n5 ≤ 100000 := ⟨by rw [← L3'.out.1]; exact TL.out.1, by rw [← L5'.out.1]; exact TL.out.2⟩
        have hln2 : n3 + n5 < gk := by have h1 := ST.out.2.2.1; have h2 := L3'.out.1; have h3 := L5'.out.1; omega
        clear cl
        by_cases ho : o = o2
        · subst ho
          go_wp2
          go_roundg (n3 + n5)
          case measure => omega
          case rel =>
            refine ⟨a3, a5, n3, c3, n5, c5, rfl, rfl, rfl, k3, k5, by omega, by omega, by omega, by omega, t, t2, out, L3'.out.1, L5'.out.1, L3'.out.2 _ SW.out.2.2.2.1, L5'.out.2 _ SW.out.2.2.2.2, ST.out.2.2.2.1, ST.out.2.2.2.2.1, ST.out.2.2.2.2.2.1, ST.out.2.2.2.2.2.2.1, ?_, ?_, SW.out.1.below X6.out.2.1, SW.out.2.1.trans (X6.out.2.1.mono SW.out.2.1.size), SW.out.2.2.1.trans (X6.out.2.1.mono (by have := SW.out.2.2.1.size; simp at this; exact this))⟩
            · have e1 := ST.out.1
              rw [ST.out.2.1] at e1
              simpa using e1
            · have := ST.out.2.2.2.2.2.2.2; omega
        · have ho1 : ((o.toNat : Int) != (o2.toNat : Int)) = true := by
            simp only [bne_iff_ne, ne_eq]
            intro e
            exact ho (UInt64.toNat_inj.1 (by omega))
          have ho2 : ((o.toNat : Int) == (o2.toNat : Int)) = false := by simpa using ho1
          obtain ⟨g, hg⟩ : ∃ g, hasS ls p = g := ⟨_, rfl⟩
          have hha := has_any (c := lc) p w6 ((LL.out.1.below SW.out.2.1).below X6.out.2.1) LL.out.2 (by omega) hpl g hg
          have EG : Hid (hasS ls p = g ∧ (o != o2) = true) := ⟨hg, by simpa using ho⟩
          clear hg
          go_wp2_with fail
          refine hha.mono ?_
          rintro e w7 ⟨rfl, B7⟩
          have X7 : Hid (Box3 w7 R 58 (tx p) (.int .u64 (o.toNat : Int)) (.int .u64 (o2.toNat : Int)) ∧ Below wr.heap.size wr w7 ∧ OwnG encC 58 w7 (w.heap.size + 1) _ out) := ⟨X6.out.1.below B7, X6.out.2.1.trans (B7.mono X6.out.2.1.size), (SW.out.1.below X6.out.2.1).below B7⟩
          clear B7 hha X6 j0 j1 j2 cl6
          obtain ⟨j0, j1, j2⟩ := X7.out.1.cells
          cases g with
          | false =>
            go_wp2
            go_roundg (n3 + n5)
            case measure => omega
            case rel =>
              refine ⟨a3, a5, n3, c3, n5, c5, rfl, rfl, rfl, k3, k5, by omega, by omega, by omega, by omega, t, t2, out, L3'.out.1, L5'.out.1, L3'.out.2 _ SW.out.2.2.2.1, L5'.out.2 _ SW.out.2.2.2.2, ST.out.2.2.2.1, ST.out.2.2.2.2.1, ST.out.2.2.2.2.2.1, ST.out.2.2.2.2.2.2.1, ?_, ?_, X7.out.2.2, SW.out.2.1.trans (X7.out.2.1.mono SW.out.2.1.size), SW.out.2.2.1.trans (X7.out.2.1.mono (by have := SW.out.2.2.1.size; simp at this; exact this))⟩
              · have e1 := ST.out.1
                rw [ST.out.2.1, EG.out.1] at e1
                simpa using e1
              · have := ST.out.2.2.2.2.2.2.2; omega
          | true =>
            have hob : out.length ≤ 200000 := by have := ST.out.2.2.2.2.2.2.2; omega
            have hb7 : w.heap.size + 1 ≤ w7.heap.size := by have h1 := SW.out.2.2.1.size; have h2 := X7.out.2.1.size; simp at h1; omega
            go_wp2_with (at_builtin; refine appG_one encC 58 37 32 (.agg #[.string ⟨#[]⟩, .int .u64 0, .int .u64 0]) rfl Tryz.info58 Tryz.underlying37 rfl (.tmp 48) (.tmp 50) rfl (w.heap.size + 1) _ out (p, o, o2) _ rfl X7.out.2.2 rfl (by omega) (by simp only [maxLen]; omega) hb7 _ rfl ?_; intro v8 w8 hown8 hbel8 _ _)
            go_roundg (n3 + n5)
            case measure => omega
            case rel =>
              have hs1 := SW.out.2.1.size
              refine ⟨a3, a5, n3, c3, n5, c5, rfl, rfl, rfl, k3, k5, by omega, by omega, by omega, by omega, t, t2, out ++ [(p, o, o2)], L3'.out.1, L5'.out.1, L3'.out.2 _ SW.out.2.2.2.1, L5'.out.2 _ SW.out.2.2.2.2, ST.out.2.2.2.1, ST.out.2.2.2.2.1, ST.out.2.2.2.2.2.1, ST.out.2.2.2.2.2.2.1, ?_, ?_, hown8, (SW.out.2.1.trans (X7.out.2.1.mono hs1)).trans (hbel8.mono (by omega)), (SW.out.2.2.1.trans (X7.out.2.1.mono (by have := SW.out.2.2.1.size; simp at this; exact this))).trans hbel8⟩
              · have e1 := ST.out.1
                rw [ST.out.2.1, EG.out.1, EG.out.2] at e1
                simpa using e1
              · have := ST.out.2.2.2.2.2.2.2
                rw [List.length_append, List.length_singleton]
                omega

set_option maxHeartbeats 400000 in
set_option maxRecDepth 100000 in
/-- tree.Same. -/
theorem tsame_any {ao bo lo : Option Addr} {n c m d ln lc : Nat} {A B : List En} {ls : List Bs} (w : World) (ha : RdG encE w ao A) (hb : RdG encE w bo B) (hl : A.length = n) (hk : B.length = m) (hnc : n ≤ c) (hmd : m ≤ d) (hc : c ≤ 4000000000000000000) (hd : d ≤ 4000000000000000000) (hn : n ≤ 100000) (hm : m ≤ 100000)
    (rA : Rise A) (rB : Rise B) (fA : Fine A) (fB : Fine B) (hL : Rd w lo ls) (hll : ls.length = ln) (hln : ln ≤ 100000) (f : Bool) (hf : (fdiff (hasS ls) A B).isEmpty = f) :
    Calls Tryz.prog 14 #[.slice ao n c, .slice bo m d, .agg #[.slice lo ln lc]] w fun e w' => e = .returned (.bool f) ∧ Below w.heap.size w w' := by
  have hb0 : Below w.heap.size w (w.alloc (.cells #[.slice lo ln lc] 26)) := bz1 _ _
  have hdi := diff_any (lc := lc) (w.alloc (.cells #[.slice lo ln lc] 26)) (ha.below hb0) (hb.below hb0) hl hk hnc hmd hc hd hn hm rA rB fA fB (hL.below hb0) hll hln
  obtain ⟨cs, hcs⟩ : ∃ cs, fdiff (hasS ls) A B = cs := ⟨_, rfl⟩
  rw [hcs] at hdi hf
  have G0 : Hid (Below w.heap.size w (w.alloc (.cells #[.slice lo ln lc] 26)) ∧ cs.isEmpty = f) := ⟨hb0, hf⟩
  clear hb0 hcs hf ha hb hl hk rA rB fA fB hL hll
  go_enter Tryz.func14, Tryz.ntmps14
  go_wp2_with fail
  refine hdi.mono ?_
  rintro e w1 ⟨v1, rfl, O1, B1⟩
  obtain ⟨a1, c1, rfl, _, _, _, _⟩ := O1.form
  have G1 : Hid (Below w.heap.size w w1) := G0.out.1.trans (B1.mono (by simp))
  obtain ⟨kn, hkn⟩ : ∃ kn, cs.length = kn := ⟨_, rfl⟩
  have E : Hid (f = decide (kn = 0)) := by
    show f = _
    rw [← G0.out.2, ← hkn]
    cases cs <;> simp
  rw [hkn]
  clear hkn O1 B1 hdi
  go_wp2
  go_ret
  refine ⟨?_, G1.out⟩
  rw [E.out]
  refine congrArg (fun b => Ending.returned (Value.bool b)) ?_
  rw [Bool.eq_iff_iff]
  simp
  try omega

end Go.Proofs.YtofbphmdkhocdaaGreat
