/-
  Pieces of a list of bytes; append of a list within a region whose order is drawn; the statements' parts: bytes in two parts, each in a row of its own. No condition but that what is handed in is no longer than any memory holds.
-/
import Derived.Test.YtlhlipjbcapidaaRSpoil
import Derived.Test.YtlhlipjbcapidaaAwake
import Derived.Deep.RegionHeld3
namespace Go.Proofs.Ytlhlipjbcapidaa
open Go.RowKit

set_option maxRecDepth 100000 in
/-- s[:k]. -/
theorem sliceB_h {ao : Option Addr} {n c k : Nat} (hc : n ≤ c) (hk : k ≤ n) :
    ∃ a' c', (∀ w, (Instr.slice 31 (.slice ao n c) none (some (.int .i64 (k : Int))) none).run Try.prog w = .ok (.slice a' k c') w) ∧ k ≤ c' ∧ c' ≤ c ∧ ∀ w (xs : Bs), RdG encB w ao xs → RdG encB w a' (xs.take k) := by
  obtain ⟨i0, hi0, hz0, hz1, hz2⟩ := info_parts Try.info5
  refine ⟨if c = 0 then ao else ao.map (·.add 0), c, fun w => ?_, by omega, Nat.le_refl _, ?_⟩
  · rw [run_slice_h w 31 ao n c Try.underlying31 .i64 (k : Int) (by omega) (by omega)]
    have : (sizeOf (Try.prog.elem 31)).run Try.prog w = .ok 1 w := by
      have he : Try.prog.elem 31 = 5 := by kernel_rfl
      rw [he]
      simp [sizeOf, typeInfo, hi0, hz1]
    rw [this]
    simp only [Result.andThen, sliced, Int.toNat_natCast, Nat.mul_one, Nat.sub_zero]
  · intro w xs h
    split
    · exact h.take k
    · intro h0
      obtain ⟨b, off, rfl, hlt, hcc⟩ := h (by simp at h0; omega)
      simp only [Option.map_some, addr_plus, Nat.add_zero]
      exact RdG.take (fun _ => ⟨b, off, rfl, hlt, hcc⟩) k h0

set_option maxRecDepth 100000 in
/-- s[k:]. -/
theorem sliceB_l {ao : Option Addr} {n c k : Nat} (hc : n ≤ c) (hk : k ≤ n) :
    ∃ a' c', (∀ w, (Instr.slice 31 (.slice ao n c) (some (.int .i64 (k : Int))) none none).run Try.prog w = .ok (.slice a' (n - k) c') w) ∧ n - k ≤ c' ∧ c' ≤ c ∧ ∀ w (xs : Bs), xs.length = n → RdG encB w ao xs → RdG encB w a' (xs.drop k) := by
  obtain ⟨i0, hi0, hz0, hz1, hz2⟩ := info_parts Try.info5
  refine ⟨if c = k then ao else ao.map (·.add k), c - k, fun w => ?_, by omega, by omega, ?_⟩
  · rw [run_slice_l w 31 ao n c Try.underlying31 .i64 (k : Int) (by omega) (by omega)]
    have : (sizeOf (Try.prog.elem 31)).run Try.prog w = .ok 1 w := by
      have he : Try.prog.elem 31 = 5 := by kernel_rfl
      rw [he]
      simp [sizeOf, typeInfo, hi0, hz1]
    rw [this]
    simp only [Result.andThen, sliced, Int.toNat_natCast, Nat.mul_one]
  · intro w xs hl h
    split
    · intro h0
      simp at h0
      omega
    · intro h0
      obtain ⟨b, off, rfl, hlt, hcc⟩ := h (by simp at h0; omega)
      simp only [Option.map_some, addr_plus]
      have := RdG.drop (E := encB) (b := b) (off := off) (xs := xs) (fun _ => ⟨b, off, rfl, hlt, hcc⟩) k h0
      rw [show k * encB.size = k from Nat.mul_one k] at this
      exact this

/-- A whole list more behind a row of the call's own, within a region whose order is drawn. -/
theorem stepGL_at {α : Type} {ops : Array Oper} {o : Oper} {a : Act} {w : World} {K : Act → World → Prop} {Q : Exit → Act → World → Prop} {X : Prop} (E : Enc α) (e t : TypeId) (bytes : Nat) (z : Value) (hz : z.cells.size = E.size)
    (hinfo : (Try.prog.info? e).map (fun i => (i.zero, i.size, i.bytes)) = some (some z, E.size, bytes)) (hu : Try.prog.underlying t = some (.slice e)) (hgd : o.guard = none) (s x : Operand)
    (hop : o.op = .call { callee := .builtin .append, args := #[s, x], argTypes := #[t, t] }) (base : Nat) (v : Value) (ss xs : List α) (ao : Option Addr) (n c : Nat) (hs : a.eval s = v) (hown : OwnG E e w base v ss)
    (hx : a.eval x = .slice ao n c) (hr : RdG E w ao xs) (hl : xs.length = n) (hlen : (ss.length + n) * bytes ≤ 140737488355328) (hmax : ss.length + n ≤ maxLen) (hb : base ≤ w.heap.size)
    (h : ∀ v' w', OwnG E e w' base v' (ss ++ xs) → Below base w w' → Moved w v v' → Turned (fun k => v.ownBlock = some k) w w' → K (a.put o.dst v') w') :
    if Region.wanted o (yielded ops a.tmps) = true then Oper.wp Try.prog o a w K Q else X := by
  obtain ⟨i0, hi0, hz0, hz1, hz2⟩ := info_parts hinfo
  by_cases h0 : 0 < xs.length
  · obtain ⟨b, off, rfl, hlt, hc⟩ := hr h0
    refine step_append_moved hgd s x t hop base e i0 _ E.size bytes hu hi0 hz0 hz1 hz2 hz E.pos v ss.length (E.all ss) hs hown ⟨b, off, none⟩ n c (E.all xs) hx (by rw [E.all_length, hl]) (by
      intro k u hk
      obtain ⟨i, j, y, rfl, hj, hy, hu⟩ := E.all_split xs k u hk
      rw [addr_plus]
      exact hc i y hy j u hu) (E.all_one xs) hmax hlen hb ?_
    intro v' w' h1 h2 h3
    have ht : Turned (fun k => v.ownBlock = some k) w w' := (Turned.refl _ _).grown h2 (fun k _ e => e)
    refine h v' w' ?_ (OwnG.turn hown hb ht) h3 ht
    unfold OwnG
    rw [List.length_append, E.all_append, hl]
    exact h1
  · obtain rfl : xs = [] := List.eq_nil_of_length_eq_zero (by omega)
    obtain rfl : n = 0 := hl.symm
    obtain ⟨ao2, cap, rfl, hle, _, _⟩ := hown.form
    have hw : Region.wanted o (yielded ops a.tmps) = true := by simp [Region.wanted, hgd]
    rw [if_pos hw]
    have hrun := run_append_none t o.type e i0 hu hi0 ao2 ss.length cap hle ao c w
    unfold Oper.wp
    simp [execOp, hop, resolve, invoke, builtin, hs, hx, hrun, Result.andThen]
    exact h _ w (by rw [List.append_nil]; exact hown) (Below.refl _ _) (.inl rfl) (Turned.refl _ _)

theorem drew_size (w : World) : w.drew.heap.size = w.heap.size := rfl
theorem oz (w : World) (base : Nat) (hb : base ≤ w.heap.size) : OwnG encB 5 (w.alloc (.cells #[] 5)) base (.slice (some ⟨w.heap.size, 0, none⟩) 0 0) [] :=
  own_base (World.ownsRow_made w #[] 0 (Nat.le_refl _) (Nat.zero_le _) rfl) hb
theorem ob1 (u : World) : OwnG encB 5 (u.alloc (.cells #[] 5)) u.heap.size (.slice (some ⟨u.heap.size, 0, none⟩) 0 0) [] := oz u _ (Nat.le_refl _)
theorem ob2 (u : World) (o : Obj) : OwnG encB 5 ((u.alloc (.cells #[] 5)).alloc o) u.heap.size (.slice (some ⟨u.heap.size, 0, none⟩) 0 0) [] := (ob1 u).below (bz1 _ _)
theorem ob3 (u : World) (o : Obj) : OwnG encB 5 ((u.alloc o).alloc (.cells #[] 5)) u.heap.size (.slice (some ⟨u.heap.size + 1, 0, none⟩) 0 0) [] := by
  have := oz (u.alloc o) u.heap.size (by simp)
  have e : (u.alloc o).heap.size = u.heap.size + 1 := by simp
  rw [e] at this
  exact this
theorem OwnG.stays {α : Type} {E : Enc α} {S : Nat → Prop} {e : TypeId} {w w' : World} {base : Nat} {v : Value} {ss : List α} (h : OwnG E e w base v ss) (ht : Turned S w w') (hS : ∀ g, v.ownBlock = some g → ¬ S g) : OwnG E e w' base v ss := ownsRow_turned h ht hS

/-- A second row, which grew beside the first. -/
theorem two_rows {B : Nat} {W w5 w7 : World} {v5 v18 v7 : Value} {xs ys : Bs} (h5 : OwnG encB 5 w5 B v5 xs) (hb5 : Below B W w5) (T : ∀ k, v18.ownBlock = some k → ¬ v5.ownBlock = some k) (ho7 : OwnG encB 5 w7 B v7 ys) (hb7 : Below B w5 w7) (hm7 : Moved w5 v18 v7) (ht7 : Turned (fun k => v18.ownBlock = some k) w5 w7) :
    OwnG encB 5 w7 B v5 xs ∧ OwnG encB 5 w7 B v7 ys ∧ (∀ g, v5.ownBlock = some g → v7.ownBlock ≠ some g) ∧ Below B W w7 := by
  refine ⟨h5.stays ht7 (fun g hg q => T g q hg), ho7, fun g hg q => ?_, hb5.trans hb7⟩
  rcases hm7 with e | e
  · exact T g (e.symm.trans q) hg
  · have := e g q
    have := (h5.lt g hg).2
    omega

/-- A call as the statements have it. -/
abbrev actV (kind : Int) (nm tt : Bs) (ao : Option Addr) (n c : Nat) (N keep mask : Int) : Value := .agg #[.int .i64 kind, tx nm, tx tt, .slice ao n c, .int .i64 N, .int .i64 keep, .int .u8 mask]

/-- Seven cells in a block of their own. -/
def Seven (w : World) (B : Nat) (kind : Int) (nm tt : Bs) (ao : Option Addr) (n c : Nat) (N keep mask : Int) : Prop := w.heap[B]? = some (.cells #[.int .i64 kind, tx nm, tx tt, .slice ao n c, .int .i64 N, .int .i64 keep, .int .u8 mask] 33 (0, 0))
section
variable {w w' : World} {B : Nat} {kind : Int} {nm tt : Bs} {ao : Option Addr} {n c : Nat} {N keep mask : Int}
theorem Seven.lt (h : Seven w B kind nm tt ao n c N keep mask) : B < w.heap.size := (Array.getElem?_eq_some_iff.1 h).1
theorem Seven.below (h : Seven w B kind nm tt ao n c N keep mask) (hb : Below w.heap.size w w') : Seven w' B kind nm tt ao n c N keep mask := (hb.block B h.lt).trans h
theorem Seven.turned {S : Nat → Prop} (h : Seven w B kind nm tt ao n c N keep mask) (ht : Turned S w w') (hS : ¬ S B) : Seven w' B kind nm tt ao n c N keep mask := (ht.block B h.lt hS).trans h
theorem Seven.cells (h : Seven w B kind nm tt ao n c N keep mask) : w.cell? ⟨B, 0, none⟩ = some (.int .i64 kind) ∧ w.cell? ⟨B, 1, none⟩ = some (tx nm) ∧ w.cell? ⟨B, 2, none⟩ = some (tx tt) ∧ w.cell? ⟨B, 3, none⟩ = some (.slice ao n c) ∧ w.cell? ⟨B, 4, none⟩ = some (.int .i64 N) ∧ w.cell? ⟨B, 5, none⟩ = some (.int .i64 keep) ∧ w.cell? ⟨B, 6, none⟩ = some (.int .u8 mask) := by
  unfold Seven at h
  simp [World.cell?, h]
theorem Seven.new (w : World) (kind : Int) (nm tt : Bs) (ao : Option Addr) (n c : Nat) (N keep mask : Int) : Seven (w.alloc (.cells #[.int .i64 kind, tx nm, tx tt, .slice ao n c, .int .i64 N, .int .i64 keep, .int .u8 mask] 33)) w.heap.size kind nm tt ao n c N keep mask := heap_alloc_new w _
end

set_option maxHeartbeats 3200000 in
set_option maxRecDepth 100000 in
theorem parts_any {kind : Int} {nm tt : Bs} {ao : Option Addr} {n c : Nat} {N keep mask : Int} {data : Bs} {w : World} (hr : RdG encB w ao data) (hl : data.length = n) (hc : n ≤ c) (hn : n ≤ 140737488355328) (k : Nat) (hk : min (max N 0) (n : Int) = (k : Int)) :
    Calls Try.prog 24 #[actV kind nm tt ao n c N keep mask] w fun e w' => ∃ v1 v2, e = .returned (.tuple #[v1, v2]) ∧ Hid (OwnG encB 5 w' w.heap.size v1 (data.take k) ∧ OwnG encB 5 w' w.heap.size v2 (data.drop k) ∧ ∀ g, v1.ownBlock = some g → v2.ownBlock ≠ some g) ∧ Below w.heap.size w w' := by
  obtain ⟨W, hW⟩ : ∃ W, w.alloc (.cells #[.int .i64 kind, tx nm, tx tt, .slice ao n c, .int .i64 N, .int .i64 keep, .int .u8 mask] 33) = W := ⟨_, rfl⟩
  have B0 : Below w.heap.size w W := by rw [← hW]; exact bz1 _ _
  have T : Seven W w.heap.size kind nm tt ao n c N keep mask := by rw [← hW]; exact Seven.new w _ _ _ _ _ _ _ _ _
  have hkn : k ≤ n := by omega
  obtain ⟨a1, c1, hs1, o1, o2, hr1⟩ := sliceB_h (ao := ao) hc hkn
  obtain ⟨a2, c2, hs2, o3, o4, hr2⟩ := sliceB_l (ao := ao) hc hkn
  have sW : W.heap.size = w.heap.size + 1 := by rw [← hW]; simp
  have H : Hid (Below w.heap.size w W ∧ RdG encB W a1 (data.take k) ∧ RdG encB W a2 (data.drop k) ∧ (data.take k).length = k ∧ (data.drop k).length = n - k) := ⟨B0, hr1 _ _ (hr.below B0), hr2 _ _ hl (hr.below B0), by rw [List.length_take]; omega, by rw [List.length_drop]; omega⟩
  obtain ⟨x0, x1, x2, x3, x4, x5, x6⟩ := T.cells
  have HT : Hid (Seven W w.heap.size kind nm tt ao n c N keep mask) := T
  clear hr B0 T hr1 hr2 hl o1 o2 o3 o4
  go_enter Try.func24, Try.ntmps24
  go_upto_region 2 with fail
  have HK : Hid (k ≤ n ∧ n ≤ c ∧ n ≤ 140737488355328 ∧ W.heap.size = w.heap.size + 1) := ⟨hkn, hc, hn, sW⟩
  clear hk hkn hc hn sW hW
  go_region_held3 (fun u => u.cell? ⟨w.heap.size, 3, none⟩ = some (.slice ao n c)) (go_keep)
    (first
      | (refine stepGL_at encB 5 31 1 _ rfl Try.info5 Try.underlying31 rfl (.tmp 18) (.tmp 22) rfl W.heap.size _ [] (data.drop k) a2 (n - k) c2 rfl T51.out.1 rfl (H.out.2.2.1.below (below_drew J5.out.2)) H.out.2.2.2.2 (by have := HK.out; simp; omega) (by have := HK.out; simp only [maxLen, List.length_nil]; omega) J5.out.2.size ?_; intro v7 w7 ho7 hb7 hm7 ht7; rw [List.nil_append] at ho7; have J7 : Hid (OwnG encB 5 w7 W.heap.size (.slice a5 k c5) (data.take k) ∧ OwnG encB 5 w7 W.heap.size v7 (data.drop k) ∧ (∀ g, (Value.slice a5 k c5).ownBlock = some g → v7.ownBlock ≠ some g) ∧ Below W.heap.size W.drew w7) := two_rows J5.out.1 J5.out.2 T51.out.2 ho7 hb7 hm7 ht7; clear ho7 hb7 hm7 ht7; have k7 := (HT.out.below (below_drew J7.out.2.2.2)).cells; have l7 := (HT.out.below (below_drew J7.out.2.2.2)).lt)
      | (refine stepGL_at encB 5 31 1 _ rfl Try.info5 Try.underlying31 rfl (.tmp 18) (.tmp 22) rfl W.heap.size _ [] (data.drop k) a2 (n - k) c2 rfl (oz w5 W.heap.size J5.out.2.size) rfl ((H.out.2.2.1.below (below_drew J5.out.2)).below (bz1 w5 _)) H.out.2.2.2.2 (by have := HK.out; simp; omega) (by have := HK.out; simp only [maxLen, List.length_nil]; omega) (Nat.le_trans J5.out.2.size (by simp)) ?_; intro v7 w7 ho7 hb7 hm7 ht7; rw [List.nil_append] at ho7; have J7 : Hid (OwnG encB 5 w7 W.heap.size (.slice a5 k c5) (data.take k) ∧ OwnG encB 5 w7 W.heap.size v7 (data.drop k) ∧ (∀ g, (Value.slice a5 k c5).ownBlock = some g → v7.ownBlock ≠ some g) ∧ Below W.heap.size W.drew w7) := two_rows (J5.out.1.below (bz1 w5 _)) (J5.out.2.trans ((bz1 w5 _).mono J5.out.2.size)) (fun g q hg => by have h1 := (J5.out.1.lt g hg).2; have h2 : some w5.heap.size = some g := q; cases h2; omega) ho7 hb7 hm7 ht7; clear ho7 hb7 hm7 ht7; have k7 := (HT.out.below (below_drew J7.out.2.2.2)).cells; have l7 := (HT.out.below (below_drew J7.out.2.2.2)).lt)
      | (refine stepGL_at encB 5 31 1 _ rfl Try.info5 Try.underlying31 rfl (.tmp 12) (.tmp 16) rfl W.heap.size _ [] (data.take k) a1 k c1 rfl (ob1 W.drew) rfl (H.out.2.1.below (below_drew (bz1 W.drew _))) H.out.2.2.2.1 (by have := HK.out; simp; omega) (by have := HK.out; simp only [maxLen, List.length_nil]; omega) (by simp; try omega) ?_; intro v5 w5 ho5 hb5 hm5 ht5; rw [List.nil_append] at ho5; obtain ⟨a5, c5, e5, _, _, _, _⟩ := ho5.form; rw [H.out.2.2.2.1] at e5; subst e5; have J5 : Hid (OwnG encB 5 w5 W.heap.size (.slice a5 k c5) (data.take k) ∧ Below W.heap.size W.drew w5) := ⟨ho5, (bz1 W.drew _).trans hb5⟩; clear ho5 hb5 hm5 ht5; have k5 := (HT.out.below (below_drew J5.out.2)).cells; have l5 := (HT.out.below (below_drew J5.out.2)).lt)
      | (refine stepGL_at encB 5 31 1 _ rfl Try.info5 Try.underlying31 rfl (.tmp 12) (.tmp 16) rfl W.heap.size _ [] (data.take k) a1 k c1 rfl (ob2 W.drew (.cells #[] 5)) rfl (H.out.2.1.below (below_drew (bz2 W.drew _ _))) H.out.2.2.2.1 (by have := HK.out; simp; omega) (by have := HK.out; simp only [maxLen, List.length_nil]; omega) (by simp; try omega) ?_; intro v5 w5 ho5 hb5 hm5 ht5; rw [List.nil_append] at ho5; obtain ⟨a5, c5, e5, _, _, _, _⟩ := ho5.form; rw [H.out.2.2.2.1] at e5; subst e5; have J5 : Hid (OwnG encB 5 w5 W.heap.size (.slice a5 k c5) (data.take k) ∧ Below W.heap.size W.drew w5) := ⟨ho5, (bz2 W.drew _ _).trans hb5⟩; have T51 : Hid (OwnG encB 5 w5 W.heap.size (.slice (some ⟨W.heap.size + 1, 0, none⟩) 0 0) [] ∧ ∀ k', (Value.slice (some ⟨W.heap.size + 1, 0, none⟩) 0 0).ownBlock = some k' → ¬ (Value.slice a5 k c5).ownBlock = some k') := ⟨(ob3 W.drew (.cells #[] 5)).stays ht5 (fun g hg q => by have h1 : some (W.heap.size + 1) = some g := hg; have h2 : some W.heap.size = some g := q; cases h1; simp at h2), fun k' hk' q => by have h1 : some (W.heap.size + 1) = some k' := hk'; cases h1; rcases hm5 with e | e; exact (by rw [e] at q; have h2 : some W.heap.size = some (W.heap.size + 1) := q; simp at h2); exact (by have := e _ q; simp at this; have h9 : W.drew.heap.size = W.heap.size := rfl; omega)⟩; clear ho5 hb5 hm5 ht5; have k5 := (HT.out.below (below_drew J5.out.2)).cells; have l5 := (HT.out.below (below_drew J5.out.2)).lt)
      | (refine stepGL_at encB 5 31 1 _ rfl Try.info5 Try.underlying31 rfl (.tmp 12) (.tmp 16) rfl W.heap.size _ [] (data.take k) a1 k c1 rfl (ob3 W.drew (.cells #[] 5)) rfl (H.out.2.1.below (below_drew (bz2 W.drew _ _))) H.out.2.2.2.1 (by have := HK.out; simp; omega) (by have := HK.out; simp only [maxLen, List.length_nil]; omega) (by simp; try omega) ?_; intro v5 w5 ho5 hb5 hm5 ht5; rw [List.nil_append] at ho5; obtain ⟨a5, c5, e5, _, _, _, _⟩ := ho5.form; rw [H.out.2.2.2.1] at e5; subst e5; have J5 : Hid (OwnG encB 5 w5 W.heap.size (.slice a5 k c5) (data.take k) ∧ Below W.heap.size W.drew w5) := ⟨ho5, (bz2 W.drew _ _).trans hb5⟩; have T51 : Hid (OwnG encB 5 w5 W.heap.size (.slice (some ⟨W.heap.size, 0, none⟩) 0 0) [] ∧ ∀ k', (Value.slice (some ⟨W.heap.size, 0, none⟩) 0 0).ownBlock = some k' → ¬ (Value.slice a5 k c5).ownBlock = some k') := ⟨(ob2 W.drew (.cells #[] 5)).stays ht5 (fun g hg q => by have h1 : some W.heap.size = some g := hg; have h2 : some (W.heap.size + 1) = some g := q; cases h1; simp at h2), fun k' hk' q => by have h1 : some W.heap.size = some k' := hk'; cases h1; rcases hm5 with e | e; exact (by rw [e] at q; have h2 : some (W.heap.size + 1) = some W.heap.size := q; simp at h2); exact (by have := e _ q; simp at this; have h9 : W.drew.heap.size = W.heap.size := rfl; omega)⟩; clear ho5 hb5 hm5 ht5; have k5 := (HT.out.below (below_drew J5.out.2)).cells; have l5 := (HT.out.below (below_drew J5.out.2)).lt))
  all_goals
    go_wp2
    refine bodyPost_ret (results_tmp2 rfl _ _ _) rfl ?_
    have b7 := below_drew J7.out.2.2.2
    have sW := HK.out.2.2.2
    exact ⟨_, _, rfl, ⟨J7.out.1.low (by omega), J7.out.2.1.low (by omega), J7.out.2.2.1⟩, H.out.1.trans (b7.mono H.out.1.size)⟩

end Go.Proofs.Ytlhlipjbcapidaa
