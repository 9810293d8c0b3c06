/-
  The store's Blob, Tree and Commit, each by a contract over the document's store and disk. No condition but the lengths that any memory holds.
-/
import Derived.Test.YtjlokpjflgbgdaaGreatML11
set_option maxHeartbeats 6400000
set_option maxRecDepth 100000
namespace Go.Proofs.YtjlokpjflgbgdaaGreat
open Go.RowKit
section
variable {w : World} {s b : Nat} {st : St} {d : Dk} {U : Nat -> Prop}
theorem put_new {W0 W : World} {k : Nat} {v : Value} {body : Bs} (hD : Duo W0 s b st d U) (hb : Below W0.heap.size W0 W) (ho : OwnG encB 5 W W0.heap.size v body) (hn : body.length <= 8192) (hk1 : 1 <= k) (hk : k < 4) (kI : Int) (hkI : (k : Int) = kI) (hok : d.ok) (hw : d.writes <= 1000000) (hob : st.objs.length <= 1000000) :
  Calls Tryz.prog 113 #[.pointer (some ⟨s, 0, none⟩), .int .i64 kI, v] W λ e w' => ∃ i r, e = .returned (.tuple #[.int .u64 i, .int .i64 r]) /\ Hid (i = ((sput st d kI body).2.1.toNat : Int) /\ r = (sput st d kI body).2.2 /\ Duo w' s b (sput st d kI body).1.1 (sput st d kI body).1.2 (Since U W0 w') /\ Turned U W0 w') := by
 have hlow := hD.lt
 have hnew : ∀ p n c, v = .slice (some p) n c -> 0 < n -> W0.heap.size <= p.block := by
  intro p n c e h0
  exact (ho.lt p.block (by
   obtain ⟨ao, c', e', h1, h2, h3, h4⟩ := OwnG.form ho
   rw [e'] at e
   cases e
   obtain ⟨g, eg⟩ := h4 h0
   cases eg
   rw [e']
   rfl)).1
 obtain ⟨ao, c, rfl, h1, h2, h3, h4⟩ := OwnG.form ho
 have hv : BAt W (.slice ao body.length c) body := ⟨ao, c, rfl, h1, h2, h3⟩
 have hfar : ∀ i, Blk ao body.length i -> ¬ U i := by
  rintro i ⟨h0, p, rfl, rfl⟩ q
  have := hnew p _ c rfl h0
  have := hlow _ q
  omega
 refine (put_k (hD.below hb) hv hfar rfl hn k hk1 hk kI hkI hok hw hob).mono ?_
 rintro e w' ⟨i, r, rfl, R⟩
 refine ⟨i, r, rfl, R.out.1, R.out.2.1, R.out.2.2.1.mono ?_ ?_, (Turned.ofBelow (S := U) hb).trans R.out.2.2.2 (λ _ _ q => q)⟩
 ·intro i hi
  have sz := R.out.2.2.2.size
  rcases hi with (q | q) | q
  ·exact .inl q
  ·exact .inr ⟨by have := hb.size; omega, q.2⟩
  ·obtain ⟨h0, p, rfl, rfl⟩ := q
   exact .inr ⟨hnew p _ c rfl h0, Nat.lt_of_lt_of_le (hv.blk _ ⟨h0, p, rfl, rfl⟩) sz⟩
 ·intro i hi
  rcases hi with q | q
  ·exact Nat.lt_of_lt_of_le (hlow i q) (Nat.le_trans hb.size R.out.2.2.2.size)
  ·exact q.2
theorem Duo.since {W0 W : World} (hD : Duo W0 s b st d U) (hb : Below W0.heap.size W0 W) : Duo W s b st d (Since U W0 W) :=
 (hD.below hb).mono (λ _ q => .inl q) (λ i q => q.elim (λ q => Nat.lt_of_lt_of_le (hD.lt i q) hb.size) (λ q => q.2))
theorem blob_any (hD : Duo w s b st d U) {v : Value} {xss : List Bs} (hp : PartsB w v xss) (hl : xss.length <= 1000000) (hx : ∀ x ∈ xss, x.length <= 140737488355328) (hok : d.ok) (hw : d.writes <= 1000000) (hob : st.objs.length <= 1000000) :
  Calls Tryz.prog 44 #[.pointer (some ⟨s, 0, none⟩), v] w λ e w' => ∃ i r, e = .returned (.tuple #[.int .u64 i, .int .i64 r]) /\ Hid (i = ((sblob st d xss.flatten).2.1.toNat : Int) /\ r = (sblob st d xss.flatten).2.2 /\ Duo w' s b (sblob st d xss.flatten).1.1 (sblob st d xss.flatten).1.2 (Since U w w') /\ Turned U w w') := by
 have P : Hid (PartsB w v xss) := hp
 obtain ⟨ao, c, rfl, h1, h2⟩ := hp
 obtain ⟨N, eN⟩ : ∃ N, xss.length = N := ⟨_, rfl⟩
 rw [eN] at hl h1 P ⊢
 obtain ⟨Z, hZ⟩ : ∃ Z, sblob st d xss.flatten = Z := ⟨_, rfl⟩
 rw [hZ]
 have A : Hid (0 < N -> ∃ b off, ao = some ⟨b, off, none⟩ /\ b < w.heap.size) := h1
 have B : Hid (∀ j x b off, xss[j]? = some x -> ao = some ⟨b, off, none⟩ -> ∃ u, w.cell? ⟨b, off + j, none⟩ = some u /\ BAt w u x) := h2
 have H : Hid (sblob st d xss.flatten = Z /\ xss.length = N /\ (∀ x ∈ xss, x.length <= 140737488355328) /\ Duo w s b st d U /\ d.ok /\ d.writes <= 1000000 /\ st.objs.length <= 1000000) := ⟨hZ, eN, hx, hD, hok, hw, hob⟩
 clear h1 h2 eN hx hD hok hw hob hZ
 go_enter Tryz.func44, Tryz.ntmps44
 go_wp2_with fail
 go_loopg [6, 11] N (λ k sv iv wr => wr = w /\ ∃ i s : Nat, iv = .int .i64 i /\ i + k = N /\ sv = .int .i64 (s : Int) /\ s <= 4096 /\ Hid (s + (xss.take i).flatten.length = 4096))
 case atStart => exact ⟨rfl, 0, 4096, rfl, by omega, rfl, by omega, rfl⟩
 case round =>
  obtain ⟨hw, i, s1, rfl, hi, rfl, hs, HS⟩ := hrel
  have hw' := hw.symm
  subst hw'
  clear hw
  by_cases hin : i < N
  ·have id : (i : Int) < (N : Int) := by omega
   obtain ⟨x, hx⟩ := get_some H.out.2.1 hin
   obtain ⟨b1, o1, rfl, hlt⟩ := A.out (by omega)
   obtain ⟨u, hu, a2, c2, rfl, _, _, _⟩ := B.out i x b1 o1 hx rfl
   have e2 := parts_le xss (i + 1)
   rw [flat_take hx, List.length_append] at e2
   have hxl := H.out.2.2.1 x (List.mem_of_getElem? hx)
   obtain ⟨xl, exl⟩ : ∃ xl, x.length = xl := ⟨_, rfl⟩
   rw [exl] at hxl hu e2
   have E : Hid ((xss.take i).flatten.length + xl <= xss.flatten.length /\ (xss.take (i + 1)).flatten.length = (xss.take i).flatten.length + xl) := ⟨e2, by rw [flat_take hx, List.length_append, exl]⟩
   clear e2 hx exl
   by_cases hbig : s1 < xl
   ·have t : (s1 : Int) < (xl : Int) := by omega
    have ez : Z = ((st, d), 0, 4) := by
     rw [<- H.out.1]
     unfold sblob
     rw [if_pos (by have := E.out.1; have := HS.out; omega)]
    subst ez
    go_wp2
    refine bodyPost_ret (results_tmp2 rfl _ _ _) rfl ?_
    exact ⟨_, _, rfl, rfl, rfl, H.out.2.2.2.1.since (Below.refl _ _), Turned.refl _ _⟩
   ·have t : decide ((s1 : Int) < (xl : Int)) = false := by rw [decide_eq_false_iff_not]; omega
    go_wp2
    go_roundg (gk - 1)
    case measure => omega
    case rel => exact ⟨rfl, i + 1, s1 - xl, by go_num, by omega, by go_num, by omega, by have := E.out.2; have := HS.out; show s1 - xl + _ = _; omega⟩
  ·obtain rfl : i = N := by omega
   have hfl : s1 + xss.flatten.length = 4096 := by
    have := HS.out
    rw [List.take_of_length_le (by rw [H.out.2.1]; omega)] at this
    exact this
   have ez : Z = sput st d 1 xss.flatten := by
    rw [<- H.out.1]
    unfold sblob
    rw [if_neg (by omega)]
   have hco := concat_any w P.out (by rw [H.out.2.1]; exact hl) (by omega)
   have HF : Hid (xss.flatten.length <= 8192) := by show _ <= _; omega
   have EZ : Hid (Z = sput st d 1 xss.flatten) := ez
   clear hfl ez
   go_wp2_with fail
   refine hco.mono ?_
   rintro e w1 ⟨v1, rfl, O1, B1⟩
   have hpu := put_new H.out.2.2.2.1 B1 O1 HF.out (k := 1) (by omega) (by omega) 1 rfl H.out.2.2.2.2.1 H.out.2.2.2.2.2.1 H.out.2.2.2.2.2.2
   rw [<- EZ.out] at hpu
   clear hco O1 B1
   go_wp2_with fail
   refine hpu.mono ?_
   rintro e w2 ⟨i2, r2, rfl, R2⟩
   go_wp2
   refine bodyPost_ret (results_tmp2 rfl _ _ _) rfl ?_
   exact ⟨_, _, rfl, R2.out⟩
theorem tree_put {ao : Option Addr} {n c : Nat} {es : List En} (hD : Duo w s b st d U) (hr : RdG encE w ao es) (hl : es.length = n) (hn : n <= 4000000000000000000) (hf : Fine es) (hc : n <= c) (hok : d.ok) (hw : d.writes <= 1000000) (hob : st.objs.length <= 1000000) :
  Calls Tryz.prog 45 #[.pointer (some ⟨s, 0, none⟩), .slice ao n c] w λ e w' => ∃ i r, e = .returned (.tuple #[.int .u64 i, .int .i64 r]) /\ Hid (i = ((stree st d es).2.1.toNat : Int) /\ r = (stree st d es).2.2 /\ Duo w' s b (stree st d es).1.1 (stree st d es).1.2 (Since U w w') /\ Turned U w w') := by
 obtain ⟨Z, hZ⟩ : ∃ Z, stree st d es = Z := ⟨_, rfl⟩
 rw [hZ]
 obtain ⟨fe, hfe⟩ : ∃ fe, (ftree es).2 = fe := ⟨_, rfl⟩
 obtain ⟨fb, hfb⟩ : ∃ fb, (ftree es).1 = fb := ⟨_, rfl⟩
 have htr := tree_any w hr hl hf hc
 rw [hfe, hfb] at htr
 by_cases h0 : fe = 0
 ·subst h0
  have hct : ctree es = 0 := by
   unfold ftree at hfe
   split at hfe
   ·assumption
   ·exact hfe
  have hlen : fb.length <= 8192 := by
   rw [<- hfb]
   unfold ftree
   rw [if_pos hct]
   show (treeB es).length <= _
   have h64 := (ctree_ok hct).1
   have : ∀ l : List En, (∀ e ∈ l, e.1.length <= 102) -> (treeB l).length <= 111 * l.length := by
    intro l
    induction l with
    | nil => intro _; simp [treeB]
    | cons x t ih =>
     intro hx
     have := ih (λ e he => hx e (List.mem_cons_of_mem _ he))
     have e1 := hx x List.mem_cons_self
     have e2 : (treeB (x :: t)).length = (entB x).length + (treeB t).length := by simp [treeB]
     rw [e2, entB_len, List.length_cons]
     omega
   have h2 := this es (λ e he => path_short (List.all_eq_true.1 (ctree_ok hct).2.1 e he))
   omega
  obtain ⟨g, hg⟩ : ∃ g, st.blobs es = g := ⟨_, rfl⟩
  obtain ⟨S, T, hS, hT, hap, hU, hUl⟩ := hD
  have hD : Duo w s b st d U := ⟨S, T, hS, hT, hap, hU, hUl⟩
  have H : Hid (StoreAt w s b st S /\ RdG encE w ao es /\ es.length = n /\ Duo w s b st d U /\ d.ok /\ d.writes <= 1000000 /\ st.objs.length <= 1000000 /\ fb.length <= 8192 /\ st.blobs es = g /\ stree st d es = Z /\ (ftree es).2 = 0 /\ (ftree es).1 = fb) := ⟨hS, hr, hl, hD, hok, hw, hob, hlen, hg, hZ, hfe, hfb⟩
  clear hr hl hf hc hok hw hob hlen hg hZ hfe hfb hS hT hap hU hUl hD hct
  go_enter Tryz.func45, Tryz.ntmps45
  go_wp2_with fail
  refine htr.mono ?_
  rintro e w1 ⟨v1, rfl, O1⟩
  have hb := hasBlobs_any (c := c) (H.out.1.below O1.out.2) (H.out.2.1.below O1.out.2) H.out.2.2.1 hn g H.out.2.2.2.2.2.2.2.2.1
  clear htr
  go_wp2_with fail
  refine hb.mono ?_
  rintro e w2 ⟨rfl, B2⟩
  have B12 : Hid (Below w.heap.size w w2) := O1.out.2.trans (B2.mono O1.out.2.size)
  have O2 : Hid (OwnG encB 5 w2 w.heap.size v1 fb) := O1.out.1.below B2
  clear hb B2 O1
  cases g with
  | false =>
   have ez : Z = ((st, d), 0, 5) := by
    rw [<- H.out.2.2.2.2.2.2.2.2.2.1]
    unfold stree
    rw [if_neg (by rw [H.out.2.2.2.2.2.2.2.2.2.2.1]; simp), if_pos H.out.2.2.2.2.2.2.2.2.1]
   subst ez
   go_wp2
   refine bodyPost_ret (results_tmp2 rfl _ _ _) rfl ?_
   exact ⟨_, _, rfl, rfl, rfl, H.out.2.2.2.1.since B12.out, Turned.ofBelow B12.out⟩
  | true =>
   have ez : Z = sput st d 2 fb := by
    rw [<- H.out.2.2.2.2.2.2.2.2.2.1]
    unfold stree
    rw [if_neg (by rw [H.out.2.2.2.2.2.2.2.2.2.2.1]; simp), if_neg (by rw [H.out.2.2.2.2.2.2.2.2.1]; simp), H.out.2.2.2.2.2.2.2.2.2.2.2]
   have hpu := put_new H.out.2.2.2.1 B12.out O2.out H.out.2.2.2.2.2.2.2.1 (k := 2) (by omega) (by omega) 2 rfl H.out.2.2.2.2.1 H.out.2.2.2.2.2.1 H.out.2.2.2.2.2.2.1
   rw [<- ez] at hpu
   clear ez
   go_wp2_with fail
   refine hpu.mono ?_
   rintro e w3 ⟨i2, r2, rfl, R2⟩
   go_wp2
   refine bodyPost_ret (results_tmp2 rfl _ _ _) rfl ?_
   exact ⟨_, _, rfl, R2.out⟩
 ·have ez : Z = ((st, d), 0, fe) := by
   rw [<- hZ]
   unfold stree
   rw [if_pos (by rw [hfe]; exact h0), hfe]
  have m0 : (fe != 0) = true := by simpa using h0
  have H : Hid (Duo w s b st d U) := hD
  subst ez
  clear hr hl hf hc hok hw hob hZ hfe hfb hD
  go_enter Tryz.func45, Tryz.ntmps45
  go_wp2_with fail
  refine htr.mono ?_
  rintro e w1 ⟨v1, rfl, O1⟩
  clear htr
  go_wp2
  refine bodyPost_ret (results_tmp2 rfl _ _ _) rfl ?_
  exact ⟨_, _, rfl, rfl, rfl, H.out.since O1.out.2, Turned.ofBelow O1.out.2⟩
theorem com_put {pa : Option Addr} {pn pc : Nat} {cm : Cm} (hD : Duo w s b st d U) (hr : RdG encU w pa cm.ps) (hl : cm.ps.length = pn) (hn : pn <= 4000000000000000000) (hpc : pn <= pc) (nt : ByteArray) (hnt : nt = ⟨cm.note.toArray⟩) (dt : Int) (hdt : cm.date = dt) (hok : d.ok) (hw : d.writes <= 1000000) (hob : st.objs.length <= 1000000) :
  Calls Tryz.prog 55 #[.pointer (some ⟨s, 0, none⟩), .agg #[.int .u64 (cm.tree.toNat : Int), .slice pa pn pc, .int .i64 dt, .string nt]] w λ e w' => ∃ i r, e = .returned (.tuple #[.int .u64 i, .int .i64 r]) /\ Hid (i = ((scom st d cm).2.1.toNat : Int) /\ r = (scom st d cm).2.2 /\ Duo w' s b (scom st d cm).1.1 (scom st d cm).1.2 (Since U w w') /\ Turned U w w') := by
 obtain ⟨Z, hZ⟩ : ∃ Z, scom st d cm = Z := ⟨_, rfl⟩
 rw [hZ]
 obtain ⟨fe, hfe⟩ : ∃ fe, (fcom cm).2 = fe := ⟨_, rfl⟩
 obtain ⟨fb, hfb⟩ : ∃ fb, (fcom cm).1 = fb := ⟨_, rfl⟩
 have hct0 := λ (W : World) (bW : Below w.heap.size w W) => com_any (c := cm) (hr.below bW) hl hpc nt hnt dt hdt
 have hba0 := λ (W : World) (S : Nat -> Prop) (hS : StoreAt W s b st S) (bW : Below w.heap.size w W) (g : Bool) (hg : st.above cm = g) => hasBase_any (pc := pc) (cm := cm) hS (hr.below bW) hl hn dt nt g hg
 obtain ⟨tr, htr⟩ : ∃ tr, (cm.tree.toNat : Int) = tr := ⟨_, rfl⟩
 rw [htr] at hct0 hba0 ⊢
 obtain ⟨W, hW⟩ : ∃ W, w.alloc (.cells #[.int .u64 tr, .slice pa pn pc, .int .i64 dt, .string nt] 61) = W := ⟨_, rfl⟩
 have bW : Below w.heap.size w W := by rw [<- hW]; exact bz1 _ _
 have bx : Box4 W w.heap.size 61 (.int .u64 tr) (.slice pa pn pc) (.int .i64 dt) (.string nt) := by rw [<- hW]; exact Box4.new _ _ _ _ _ _
 obtain ⟨x0, x1, x2, x3⟩ := bx.cells
 have hco := hct0 W bW
 rw [hfe, hfb] at hco
 by_cases h0 : fe = 0
 ·subst h0
  have hct : ccom cm = 0 := by
   unfold fcom at hfe
   split at hfe
   ·assumption
   ·exact hfe
  have hlen : fb.length <= 8192 := by
   rw [<- hfb]
   unfold fcom
   rw [if_pos hct]
   show (comB cm).length <= _
   have h1 := (com_read hct).2.1
   have h2 := ccom_ok hct
   omega
  obtain ⟨g, hg⟩ : ∃ g, st.above cm = g := ⟨_, rfl⟩
  obtain ⟨S, T, hS, hT, hap, hU, hUl⟩ := hD
  have hD : Duo w s b st d U := ⟨S, T, hS, hT, hap, hU, hUl⟩
  have hba := λ W2 (b2 : Below W.heap.size W W2) => hba0 W2 S (hS.below (bW.trans (b2.mono bW.size))) (bW.trans (b2.mono bW.size)) g hg
  have HB : Hid (∀ W2, Below W.heap.size W W2 -> Calls Tryz.prog 127 #[.pointer (some ⟨s, 0, none⟩), .agg #[.int .u64 tr, .slice pa pn pc, .int .i64 dt, .string nt]] W2 λ e w' => e = .returned (.bool g) /\ Below W2.heap.size W2 w') := hba
  have H : Hid (Below w.heap.size w W /\ Box4 W w.heap.size 61 (.int .u64 tr) (.slice pa pn pc) (.int .i64 dt) (.string nt) /\ Duo w s b st d U /\ d.ok /\ d.writes <= 1000000 /\ st.objs.length <= 1000000 /\ fb.length <= 8192 /\ st.above cm = g /\ scom st d cm = Z /\ (fcom cm).2 = 0 /\ (fcom cm).1 = fb) := ⟨bW, bx, hD, hok, hw, hob, hlen, hg, hZ, hfe, hfb⟩
  clear hr hl hpc hnt hdt hok hw hob hlen hg hZ hfe hfb hS hT hap hU hUl hD hct hba hba0 hct0 htr bW bx
  go_enter Tryz.func55, Tryz.ntmps55
  go_wp2_with fail
  refine hco.mono ?_
  rintro e w1 ⟨v1, rfl, O1⟩
  have hb := HB.out w1 O1.out.2
  obtain ⟨y0, y1, y2, y3⟩ := (H.out.2.1.below O1.out.2 H.out.2.1.lt).cells
  clear hco
  go_wp2_with fail
  refine hb.mono ?_
  rintro e w2 ⟨rfl, B2⟩
  have B12 : Hid (Below w.heap.size w w2) := H.out.1.trans ((O1.out.2.trans (B2.mono O1.out.2.size)).mono H.out.1.size)
  have O2 : Hid (OwnG encB 5 w2 w.heap.size v1 fb) := (O1.out.1.low H.out.1.size).below B2
  clear hb B2 O1 y0 y1 y2 y3
  cases g with
  | false =>
   have ez : Z = ((st, d), 0, 5) := by
    rw [<- H.out.2.2.2.2.2.2.2.2.1]
    unfold scom
    rw [if_neg (by rw [H.out.2.2.2.2.2.2.2.2.2.1]; simp), if_pos H.out.2.2.2.2.2.2.2.1]
   subst ez
   go_wp2
   refine bodyPost_ret (results_tmp2 rfl _ _ _) rfl ?_
   exact ⟨_, _, rfl, rfl, rfl, H.out.2.2.1.since B12.out, Turned.ofBelow B12.out⟩
  | true =>
   have ez : Z = sput st d 3 fb := by
    rw [<- H.out.2.2.2.2.2.2.2.2.1]
    unfold scom
    rw [if_neg (by rw [H.out.2.2.2.2.2.2.2.2.2.1]; simp), if_neg (by rw [H.out.2.2.2.2.2.2.2.1]; simp), H.out.2.2.2.2.2.2.2.2.2.2]
   have hpu := put_new H.out.2.2.1 B12.out O2.out H.out.2.2.2.2.2.2.1 (k := 3) (by omega) (by omega) 3 rfl H.out.2.2.2.1 H.out.2.2.2.2.1 H.out.2.2.2.2.2.1
   rw [<- ez] at hpu
   clear ez
   go_wp2_with fail
   refine hpu.mono ?_
   rintro e w3 ⟨i2, r2, rfl, R2⟩
   go_wp2
   refine bodyPost_ret (results_tmp2 rfl _ _ _) rfl ?_
   exact ⟨_, _, rfl, R2.out⟩
 ·have ez : Z = ((st, d), 0, fe) := by
   rw [<- hZ]
   unfold scom
   rw [if_pos (by rw [hfe]; exact h0), hfe]
  have m0 : (fe != 0) = true := by simpa using h0
  have H : Hid (Duo w s b st d U /\ Below w.heap.size w W) := ⟨hD, bW⟩
  subst ez
  clear hr hl hpc hok hw hob hZ hfe hfb hD hba0 hct0 htr bW bx hnt hdt
  go_enter Tryz.func55, Tryz.ntmps55
  go_wp2_with fail
  refine hco.mono ?_
  rintro e w1 ⟨v1, rfl, O1⟩
  clear hco
  go_wp2
  refine bodyPost_ret (results_tmp2 rfl _ _ _) rfl ?_
  have B1 := H.out.2.trans (O1.out.2.mono H.out.2.size)
  exact ⟨_, _, rfl, rfl, rfl, H.out.1.since B1, Turned.ofBelow B1⟩
end
end Go.Proofs.YtjlokpjflgbgdaaGreat
