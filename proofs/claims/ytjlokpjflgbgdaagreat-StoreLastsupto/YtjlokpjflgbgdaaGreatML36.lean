/-
  The statements' Play of a blob.
-/
import Derived.Test.YtjlokpjflgbgdaaGreatML35
set_option maxHeartbeats 6400000
set_option maxRecDepth 100000
namespace Go.Proofs.YtjlokpjflgbgdaaGreat
open Go.RowKit
theorem two_rows {B : Nat} {W w5 w7 : World} {v5 v18 v7 : Value} {xs ys : Bs} (h5 : OwnG encB 5 w5 B v5 xs) (hb5 : Below B W w5) (T : ∀ k, v18.ownBlock = some k -> ¬ v5.ownBlock = some k) (ho7 : OwnG encB 5 w7 B v7 ys) (hb7 : Below B w5 w7) (_hm7 : Moved w5 v18 v7) (ht7 : Turned (λ k => v18.ownBlock = some k) w5 w7) :
  OwnG encB 5 w7 B v5 xs /\ OwnG encB 5 w7 B v7 ys /\ Below B W w7 :=
 ⟨h5.stays ht7 (λ g hg q => T g q hg), ho7, hb5.trans hb7⟩
theorem OwnB.of {w : World} {B : Nat} {v : Value} {bs : Bs} (h : OwnG encB 5 w B v bs) : BAt w v bs := OwnB.at (OwnG.low h (Nat.zero_le _))
theorem play_blob {B : Nat} {E : Nat -> Prop} {w0 w : World} {s b : Nat} {fa oa ra ta xa ya za da : Option Addr} {fl fc on oc rn rc tn tc xn xc yn yc zn zc dn dc : Nat} {U : Nat -> Prop} {st : St} {d : Dk} {bl tl cl : List UInt64} {data : Bs}
  (hI : WI B E w s b (.slice fa fl fc) (.slice oa on oc) (.slice ra rn rc) (.slice ta tn tc) (.slice xa xn xc) (.slice ya yn yc) (.slice za zn zc) U st d bl tl cl) (h0 : Below B w0 w) (hB0 : w0.heap.size = B) (hB : B <= w.heap.size) (hd : BAt w0 (.slice da dn dc) data) (hdn : data.length = dn) (hdm : dn <= 140737488355328) (hok : d.ok) (hw : d.writes <= 1000000) (hsz : st.size <= 1000000) (pv qv : Value) (nm : ByteArray) (dt kp : Int) (Q) (hQ : sblob st d data = Q) (bl' : List UInt64) (hbl' : bl' = if Q.2.2 = 0 then bl ++ [Q.2.1] else bl) (hbn : bl.length <= 1000000) :
  Calls Tryz.prog 13 #[.agg (wdV s b d (.slice fa fl fc) (.slice oa on oc) (.slice ra rn rc) (.slice ta tn tc) (.slice xa xn xc) (.slice ya yn yc) (.slice za zn zc)), actV 0 (.slice da dn dc) pv qv nm dt kp] w λ e w' => ∃ vf vo vr vt xb, e = .returned (.tuple #[.agg (wdV s b Q.1.2 vf vo vr vt xb (.slice ya yn yc) (.slice za zn zc)), .bool true]) /\ Hid (∃ U', WI B E w' s b vf vo vr vt xb (.slice ya yn yc) (.slice za zn zc) U' Q.1.1 Q.1.2 bl' tl cl /\ Below B w0 w' /\ (∀ i, E i -> w'.heap[i]? = w.heap[i]?) /\ OwnG encU 56 w' B (.slice xa xn xc) bl) := by
 obtain ⟨W, hW⟩ : ∃ W, ((w.alloc (.cells (wdV s b d (.slice fa fl fc) (.slice oa on oc) (.slice ra rn rc) (.slice ta tn tc) (.slice xa xn xc) (.slice ya yn yc) (.slice za zn zc)) 35)).alloc (.cells (actC 0 (.slice da dn dc) pv qv nm dt kp) 43)).alloc (.cells zeroW 35) = W := ⟨_, rfl⟩
 have bW : Below w.heap.size w W := by rw [<- hW]; exact bz3 _ _ _ _
 have hBX : Bx w.heap.size W (wdV s b d (.slice fa fl fc) (.slice oa on oc) (.slice ra rn rc) (.slice ta tn tc) (.slice xa xn xc) (.slice ya yn yc) (.slice za zn zc)) (actC 0 (.slice da dn dc) pv qv nm dt kp) := by rw [<- hW]; exact Bx.new _ _ _
 have MD : Hid (Md B w.heap.size E (λ i => Fb w.heap.size i ∨ E i) w0 w W s b (.slice fa fl fc) (.slice oa on oc) (.slice ra rn rc) (.slice ta tn tc) (.slice xa xn xc) (.slice ya yn yc) (.slice za zn zc) U st d bl tl cl (wdV s b d (.slice fa fl fc) (.slice oa on oc) (.slice ra rn rc) (.slice ta tn tc) (.slice xa xn xc) (.slice ya yn yc) (.slice za zn zc)) (actC 0 (.slice da dn dc) pv qv nm dt kp)) := Md.start hI h0 hB hBX bW
 obtain ⟨k, hk⟩ : ∃ k, dn / 2 = k := ⟨_, rfl⟩
 obtain ⟨m, hm⟩ : ∃ m, dn - k = m := ⟨_, rfl⟩
 have hkn : k <= dn := by omega
 have hdW : BAt W (.slice da dn dc) data := (hd.below (by rw [hB0]; exact MD.out.bel))
 have hdc : dn <= dc := by
  obtain ⟨ao, c, e, h1, _⟩ := hdW
  cases e
  omega
 have hdr : RdG encB W da data := by
  obtain ⟨ao, c, e, h1, h2, h3⟩ := hdW
  cases e
  exact h3
 obtain ⟨a1, c1, hs1, o1, o2, hr1⟩ := sliceB_h (ao := da) hdc hkn
 obtain ⟨a2, c2, hs2, o3, o4, hr2⟩ := sliceB_l (ao := da) hdc hkn
 rw [hm] at hs2 o3
 have H : Hid (RdG encB W a1 (data.take k) /\ RdG encB W a2 (data.drop k) /\ (data.take k).length = k /\ (data.drop k).length = m) := ⟨hr1 _ _ hdr, hr2 _ _ hdn hdr, by rw [List.length_take]; omega, by rw [List.length_drop]; omega⟩
 have HK : Hid (k <= dn /\ dn - k = m /\ dn <= 140737488355328) := ⟨hkn, hm, hdm⟩
 have KS : Hid (∀ u, Below W.heap.size W u -> u.cell? ⟨w.heap.size, 1, none⟩ = some (.pointer (some ⟨s, 0, none⟩)) /\ u.cell? ⟨w.heap.size + 1, 1, none⟩ = some (.slice da dn dc)) := by
  intro u bu
  exact ⟨(hBX.box.below bu hBX.box.lt).cell (j := 1) rfl, (hBX.act.below bu hBX.act.lt).cell (j := 1) rfl⟩
 have BL : Hid (∀ u, Below W.heap.size W u -> ∀ v1 v2, OwnG encB 5 u W.heap.size v1 (data.take k) -> OwnG encB 5 u W.heap.size v2 (data.drop k) -> Calls Tryz.prog 44 #[.pointer (some ⟨s, 0, none⟩), .slice (some ⟨u.heap.size, 0, none⟩) 2 2] (u.alloc (.cells #[v1, v2] 39)) λ e w' => ∃ i r, e = .returned (.tuple #[.int .u64 i, .int .i64 r]) /\ Hid (i = (Q.2.1.toNat : Int) /\ r = Q.2.2 /\ Duo w' s b Q.1.1 Q.1.2 (Since U (u.alloc (.cells #[v1, v2] 39)) w') /\ Turned U (u.alloc (.cells #[v1, v2] 39)) w')) := by
  intro u bu v1 v2 q1 q2
  have h := blob_any (U := U) ((MD.out.inv.duo.below bu).below (bz1 u (.cells #[v1, v2] 39))) (parts_two (OwnB.of q1) (OwnB.of q2) 39) (by simp) (by
   intro x hx
   simp at hx
   rcases hx with rfl | rfl
   ·rw [List.length_take]; omega
   ·rw [List.length_drop]; omega) hok hw (by unfold St.size at hsz; omega)
  have e : [data.take k, data.drop k].flatten = data := by simp
  rw [e, hQ] at h
  exact h
 have KT : Hid (∀ (u : World) (v1 v2 : Value) (w8 : World), Below W.heap.size W u -> Turned U (u.alloc (.cells #[v1, v2] 39)) w8 -> w8.cell? ⟨w.heap.size, 1, none⟩ = some (.pointer (some ⟨s, 0, none⟩)) /\ w8.cell? ⟨w.heap.size + 1, 1, none⟩ = some (.slice da dn dc)) := by
  intro u v1 v2 w8 bu ht
  have bu' := bu.trans ((bz1 u (.cells #[v1, v2] 39)).mono bu.size)
  have hx := (hBX.below bu').turned ht (λ i q r => MD.out.far i (.inl q) (.inl r))
  exact ⟨hx.box.cell (j := 1) rfl, hx.act.cell (j := 1) rfl⟩
 have hq2 : ((dn : Int)).tdiv 2 = (k : Int) := by rw [<- hk]; rfl
 have w1 : IntKind.i64.wrap (k : Int) = (k : Int) := by rw [IntKind.wrap_i64]; omega
 have y1 := hBX.act.cell (j := 0) rfl
 have y2 := hBX.act.cell (j := 1) rfl
 have y3 := hBX.box.cell (j := 1) rfl
 have HH : Hid (data.length = dn /\ (∀ u, Below B w0 u -> BAt u (.slice da dn dc) data) /\ d.ok /\ d.writes <= 1000000 /\ st.size <= 1000000 /\ sblob st d data = Q /\ (bl' = if Q.2.2 = 0 then bl ++ [Q.2.1] else bl) /\ bl.length <= 1000000) := ⟨hdn, λ u bu => hd.below (by rw [hB0]; exact bu), hok, hw, hsz, hQ, hbl', hbn⟩
 have BXH : Hid (Bx w.heap.size W (wdV s b d (.slice fa fl fc) (.slice oa on oc) (.slice ra rn rc) (.slice ta tn tc) (.slice xa xn xc) (.slice ya yn yc) (.slice za zn zc)) (actC 0 (.slice da dn dc) pv qv nm dt kp)) := hBX
 clear hI h0 hB0 hB hd hdn hdW hdr hr1 hr2 hok hw hsz hQ hbl' hbn hBX bW hdc o1 o2 o3 o4 hk hkn hm hdm
 go_enter Tryz.func13, Tryz.ntmps13
 go_upto_region 8 with fail
 clear hW
 go_cut [8, 6] (λ iv ev u => ∃ v i8 r8, v = u /\ iv = .int .u64 i8 /\ ev = .int .i64 r8 /\ Hid (i8 = (Q.2.1.toNat : Int) /\ r8 = Q.2.2 /\ ∃ U', Aft W u s b Q.1.1 Q.1.2 U U'))
 case first =>
  have k0 := KS.out W.drew (Below.refl _ _).drew
  have k1 := KS.out (W.alloc (.cells #[] 5)).drew (bz1 W _).drew
  have k2 := KS.out ((W.alloc (.cells #[] 5)).alloc (.cells #[] 5)).drew (bz2 W _ _).drew
  go_region_held3 (λ u => u.cell? ⟨w.heap.size, 1, none⟩ = some (.pointer (some ⟨s, 0, none⟩)) /\ u.cell? ⟨w.heap.size + 1, 1, none⟩ = some (.slice da dn dc)) (first | with_reducible exact k9 | with_reducible exact k8 | with_reducible exact k7 | with_reducible exact k6 | with_reducible exact k5 | with_reducible exact k2 | with_reducible exact k1 | with_reducible exact k0)
   (first
    | (go_at_call 44; (with_reducible refine HB.mono ?_); rintro e w8 ⟨i8, r8, rfl, H8⟩; have k9 := KT.out w7 (.slice a5 k c5) (.slice a7 m c7) w8 (below_drew J7.out.2.2) H8.out.2.2.2)
    | (refine stepGL_at encB 5 39 1 _ rfl Tryz.info5 Tryz.underlying39 rfl (.tmp 33) (.tmp 37) rfl W.heap.size (.slice (some ⟨W.heap.size + 1, 0, none⟩) 0 0) [] (data.drop k) a2 m c2 ?_ T51.out.1 ?_ (H.out.2.1.below (below_drew J5.out.2)) H.out.2.2.2 (by have := HK.out; simp; omega) (by have := HK.out; simp only [maxLen, List.length_nil]; omega) J5.out.2.size ?_; (· simp [Act.eval]); (· simp [Act.eval]); intro v7 w7 ho7 hb7 hm7 ht7; rw [List.nil_append] at ho7; obtain ⟨a7, c7, e7, _, _, _, _⟩ := ho7.form; rw [H.out.2.2.2] at e7; subst e7; have J7 : Hid (OwnG encB 5 w7 W.heap.size (.slice a5 k c5) (data.take k) /\ OwnG encB 5 w7 W.heap.size (.slice a7 m c7) (data.drop k) /\ Below W.heap.size W.drew w7) := two_rows J5.out.1 J5.out.2 T51.out.2 ho7 hb7 hm7 ht7; clear ho7 hb7 hm7 ht7; have k7 := KS.out w7 (below_drew J7.out.2.2); have k8 := KS.out _ (below_drew (J7.out.2.2.trans ((bz1 w7 (.cells #[.slice a5 k c5, .slice a7 m c7] 39)).mono J7.out.2.2.size))); have HB := BL.out w7 (below_drew J7.out.2.2) (.slice a5 k c5) (.slice a7 m c7) J7.out.1 J7.out.2.1)
    | (refine stepGL_at encB 5 39 1 _ rfl Tryz.info5 Tryz.underlying39 rfl (.tmp 33) (.tmp 37) rfl W.heap.size (.slice (some ⟨W.heap.size, 0, none⟩) 0 0) [] (data.drop k) a2 m c2 ?_ T51.out.1 ?_ (H.out.2.1.below (below_drew J5.out.2)) H.out.2.2.2 (by have := HK.out; simp; omega) (by have := HK.out; simp only [maxLen, List.length_nil]; omega) J5.out.2.size ?_; (· simp [Act.eval]); (· simp [Act.eval]); intro v7 w7 ho7 hb7 hm7 ht7; rw [List.nil_append] at ho7; obtain ⟨a7, c7, e7, _, _, _, _⟩ := ho7.form; rw [H.out.2.2.2] at e7; subst e7; have J7 : Hid (OwnG encB 5 w7 W.heap.size (.slice a5 k c5) (data.take k) /\ OwnG encB 5 w7 W.heap.size (.slice a7 m c7) (data.drop k) /\ Below W.heap.size W.drew w7) := two_rows J5.out.1 J5.out.2 T51.out.2 ho7 hb7 hm7 ht7; clear ho7 hb7 hm7 ht7; have k7 := KS.out w7 (below_drew J7.out.2.2); have k8 := KS.out _ (below_drew (J7.out.2.2.trans ((bz1 w7 (.cells #[.slice a5 k c5, .slice a7 m c7] 39)).mono J7.out.2.2.size))); have HB := BL.out w7 (below_drew J7.out.2.2) (.slice a5 k c5) (.slice a7 m c7) J7.out.1 J7.out.2.1)
    | (refine stepGL_at encB 5 39 1 _ rfl Tryz.info5 Tryz.underlying39 rfl (.tmp 33) (.tmp 37) rfl W.heap.size (.slice (some ⟨w5.heap.size, 0, none⟩) 0 0) [] (data.drop k) a2 m c2 ?_ (oz w5 W.heap.size J5.out.2.size) ?_ ((H.out.2.1.below (below_drew J5.out.2)).below (bz1 w5 _)) H.out.2.2.2 (by have := HK.out; simp; omega) (by have := HK.out; simp only [maxLen, List.length_nil]; omega) (Nat.le_trans J5.out.2.size (by simp)) ?_; (· simp [Act.eval]); (· simp [Act.eval]); intro v7 w7 ho7 hb7 hm7 ht7; rw [List.nil_append] at ho7; obtain ⟨a7, c7, e7, _, _, _, _⟩ := ho7.form; rw [H.out.2.2.2] at e7; subst e7; have J7 : Hid (OwnG encB 5 w7 W.heap.size (.slice a5 k c5) (data.take k) /\ OwnG encB 5 w7 W.heap.size (.slice a7 m c7) (data.drop k) /\ Below W.heap.size W.drew w7) := two_rows (J5.out.1.below (bz1 w5 _)) (J5.out.2.trans ((bz1 w5 _).mono J5.out.2.size)) (λ g q hg => by have h1 := (J5.out.1.lt g hg).2; have h2 : some w5.heap.size = some g := q; cases h2; omega) ho7 hb7 hm7 ht7; clear ho7 hb7 hm7 ht7; have k7 := KS.out w7 (below_drew J7.out.2.2); have k8 := KS.out _ (below_drew (J7.out.2.2.trans ((bz1 w7 (.cells #[.slice a5 k c5, .slice a7 m c7] 39)).mono J7.out.2.2.size))); have HB := BL.out w7 (below_drew J7.out.2.2) (.slice a5 k c5) (.slice a7 m c7) J7.out.1 J7.out.2.1)
    | (refine stepGL_at encB 5 39 1 _ rfl Tryz.info5 Tryz.underlying39 rfl (.tmp 27) (.tmp 31) rfl W.heap.size (.slice (some ⟨W.heap.size, 0, none⟩) 0 0) [] (data.take k) a1 k c1 ?_ (ob1 W.drew) ?_ (H.out.1.below (below_drew (bz1 W.drew _))) H.out.2.2.1 (by have := HK.out; simp; omega) (by have := HK.out; simp only [maxLen, List.length_nil]; omega) (by simp; try omega) ?_; (· simp [Act.eval]); (· simp [Act.eval]); intro v5 w5 ho5 hb5 hm5 ht5; rw [List.nil_append] at ho5; obtain ⟨a5, c5, e5, _, _, _, _⟩ := ho5.form; rw [H.out.2.2.1] at e5; subst e5; have J5 : Hid (OwnG encB 5 w5 W.heap.size (.slice a5 k c5) (data.take k) /\ Below W.heap.size W.drew w5) := ⟨ho5, (bz1 W.drew _).trans hb5⟩; clear ho5 hb5 hm5 ht5; have k5 := KS.out w5 (below_drew J5.out.2); have k6 := KS.out _ (below_drew (J5.out.2.trans ((bz1 w5 (.cells #[] 5)).mono J5.out.2.size))))
    | (refine stepGL_at encB 5 39 1 _ rfl Tryz.info5 Tryz.underlying39 rfl (.tmp 27) (.tmp 31) rfl W.heap.size (.slice (some ⟨W.heap.size, 0, none⟩) 0 0) [] (data.take k) a1 k c1 ?_ (ob2 W.drew (.cells #[] 5)) ?_ (H.out.1.below (below_drew (bz2 W.drew _ _))) H.out.2.2.1 (by have := HK.out; simp; omega) (by have := HK.out; simp only [maxLen, List.length_nil]; omega) (by simp; try omega) ?_; (· simp [Act.eval]); (· simp [Act.eval]); intro v5 w5 ho5 hb5 hm5 ht5; rw [List.nil_append] at ho5; obtain ⟨a5, c5, e5, _, _, _, _⟩ := ho5.form; rw [H.out.2.2.1] at e5; subst e5; have J5 : Hid (OwnG encB 5 w5 W.heap.size (.slice a5 k c5) (data.take k) /\ Below W.heap.size W.drew w5) := ⟨ho5, (bz2 W.drew _ _).trans hb5⟩; have T51 : Hid (OwnG encB 5 w5 W.heap.size (.slice (some ⟨W.heap.size + 1, 0, none⟩) 0 0) [] /\ ∀ k', (Value.slice (some ⟨W.heap.size + 1, 0, none⟩) 0 0).ownBlock = some k' -> ¬ (Value.slice a5 k c5).ownBlock = some k') := ⟨(ob3 W.drew (.cells #[] 5)).stays ht5 (λ g hg q => by have h1 : some (W.heap.size + 1) = some g := hg; have h2 : some W.heap.size = some g := q; cases h1; simp at h2), λ k' hk' q => by have h1 : some (W.heap.size + 1) = some k' := hk'; cases h1; rcases hm5 with e | e; exact (by rw [e] at q; have h2 : some W.heap.size = some (W.heap.size + 1) := q; simp at h2); exact (by have := e _ q; simp at this; have h9 : W.drew.heap.size = W.heap.size := rfl; omega)⟩; clear ho5 hb5 hm5 ht5; have k5 := KS.out w5 (below_drew J5.out.2))
    | (refine stepGL_at encB 5 39 1 _ rfl Tryz.info5 Tryz.underlying39 rfl (.tmp 27) (.tmp 31) rfl W.heap.size (.slice (some ⟨W.heap.size + 1, 0, none⟩) 0 0) [] (data.take k) a1 k c1 ?_ (ob3 W.drew (.cells #[] 5)) ?_ (H.out.1.below (below_drew (bz2 W.drew _ _))) H.out.2.2.1 (by have := HK.out; simp; omega) (by have := HK.out; simp only [maxLen, List.length_nil]; omega) (by simp; try omega) ?_; (· simp [Act.eval]); (· simp [Act.eval]); intro v5 w5 ho5 hb5 hm5 ht5; rw [List.nil_append] at ho5; obtain ⟨a5, c5, e5, _, _, _, _⟩ := ho5.form; rw [H.out.2.2.1] at e5; subst e5; have J5 : Hid (OwnG encB 5 w5 W.heap.size (.slice a5 k c5) (data.take k) /\ Below W.heap.size W.drew w5) := ⟨ho5, (bz2 W.drew _ _).trans hb5⟩; have T51 : Hid (OwnG encB 5 w5 W.heap.size (.slice (some ⟨W.heap.size, 0, none⟩) 0 0) [] /\ ∀ k', (Value.slice (some ⟨W.heap.size, 0, none⟩) 0 0).ownBlock = some k' -> ¬ (Value.slice a5 k c5).ownBlock = some k') := ⟨(ob2 W.drew (.cells #[] 5)).stays ht5 (λ g hg q => by have h1 : some W.heap.size = some g := hg; have h2 : some (W.heap.size + 1) = some g := q; cases h1; simp at h2), λ k' hk' q => by have h1 : some W.heap.size = some k' := hk'; cases h1; rcases hm5 with e | e; exact (by rw [e] at q; have h2 : some (W.heap.size + 1) = some W.heap.size := q; simp at h2); exact (by have := e _ q; simp at this; have h9 : W.drew.heap.size = W.heap.size := rfl; omega)⟩; clear ho5 hb5 hm5 ht5; have k5 := KS.out w5 (below_drew J5.out.2)))
  all_goals
   go_wp2_with fail
   go_meet
   exact ⟨_, i8, r8, rfl, rfl, rfl, H8.out.1, H8.out.2.1, _, Aft.of (below_drew (J7.out.2.2.trans ((bz1 w7 _).mono J7.out.2.2.size))) H8.out.2.2.1 H8.out.2.2.2⟩
 case rest =>
  obtain ⟨u1, i8, r8, rfl, rfl, rfl, ei, er, U1, HA⟩ := hcut
  obtain ⟨c1, c2, c3, c4, _⟩ := MD.out.call (u2 := u1) HA
  obtain ⟨bb, hbb⟩ : ∃ bb : ByteArray, bb = ⟨data.toArray⟩ := ⟨_, rfl⟩
  have cv := conv_str (HH.out.2.1 u1 c4)
  have hr := rputBlob_any c2 c1 HH.out.2.2.2.2.1 HH.out.2.2.1 HH.out.2.2.2.1 data (by have := HH.out.1; have := HK.out; omega) Q HH.out.2.2.2.2.2.1
  rw [show tx data = .string bb by rw [hbb]] at cv hr
  have HE : Hid (i8 = (Q.2.1.toNat : Int) /\ r8 = Q.2.2 /\ Aft W u1 s b Q.1.1 Q.1.2 U U1) := ⟨ei, er, HA⟩
  have g2 := c3.box.cell (j := 2) rfl
  have g3 := c3.box.cell (j := 3) rfl
  have g4 := c3.box.cell (j := 4) rfl
  have g5 := c3.box.cell (j := 5) rfl
  have g6 := c3.box.cell (j := 6) rfl
  have g7 := c3.box.cell (j := 7) rfl
  have g8 := c3.box.cell (j := 8) rfl
  have g9 := c3.box.cell (j := 9) rfl
  have g10 := c3.box.cell (j := 10) rfl
  have ga := c3.act.cell (j := 1) rfl
  clear ei er HA c1 c2 c4 y1 y2 y3 hq2 w1 hs1 hs2 hbb
  go_wp2_with fail
  clear c3
  refine hr.mono ?_
  rintro e u2 ⟨m', i9, r9, rfl, H9⟩
  obtain ⟨q1, q2, q3, q4⟩ := H9.out
  obtain ⟨fa', fl', fc', oa', on', oc', ra', rn', rc', ta', tn', tc', rfl, l1, l2, l3, l4⟩ := q3
  have eI : i8 = i9 := by rw [q1, HE.out.1]
  have eR : r8 = r9 := by rw [q2, HE.out.2.1]
  have M2 : Hid (Md B w.heap.size E (λ i => Fb w.heap.size i ∨ E i) w0 w u2 s b (.slice fa' fl' fc') (.slice oa' on' oc') (.slice ra' rn' rc') (.slice ta' tn' tc') (.slice xa xn xc) (.slice ya yn yc) (.slice za zn zc) U1 Q.1.1 Q.1.2 bl tl cl (wdV s b d (.slice fa fl fc) (.slice oa on oc) (.slice ra rn rc) (.slice ta tn tc) (.slice xa xn xc) (.slice ya yn yc) (.slice za zn zc)) (actC 0 (.slice da dn dc) pv qv nm dt kp)) := (MD.out.call HE.out.2.2).2.2.2.2 _ _ _ _ q4 ⟨fa', fl', fc', oa', on', oc', ra', rn', rc', ta', tn', tc', rfl, l1, l2, l3, l4⟩
  clear q1 q2 q4 l1 l2 l3 l4 H9 hr cv
  subst eI eR
  obtain ⟨X, hX⟩ : ∃ X, layL u2 w.heap.size [.slice fa' fl' fc', .int .i64 (Q.1.2.writes : Int), .bool Q.1.2.armed, .bool Q.1.2.dead, .int .i64 (Q.1.2.after : Int), .int .i64 (Q.1.2.keep : Int), .slice oa' on' oc', .slice ra' rn' rc', .slice ta' tn' tc'] 2 = X := ⟨_, rfl⟩
  have M3 : Hid (Md B w.heap.size E (λ i => Fb w.heap.size i ∨ E i) w0 w X s b (.slice fa' fl' fc') (.slice oa' on' oc') (.slice ra' rn' rc') (.slice ta' tn' tc') (.slice xa xn xc) (.slice ya yn yc) (.slice za zn zc) U1 Q.1.1 Q.1.2 bl tl cl (wdV s b Q.1.2 (.slice fa' fl' fc') (.slice oa' on' oc') (.slice ra' rn' rc') (.slice ta' tn' tc') (.slice xa xn xc) (.slice ya yn yc) (.slice za zn zc)) (actC 0 (.slice da dn dc) pv qv nm dt kp)) := by
   have h1 := M2.out.bx.box.lays [.slice fa' fl' fc', .int .i64 (Q.1.2.writes : Int), .bool Q.1.2.armed, .bool Q.1.2.dead, .int .i64 (Q.1.2.after : Int), .int .i64 (Q.1.2.keep : Int), .slice oa' on' oc', .slice ra' rn' rc', .slice ta' tn' tc'] 2
   rw [hX, set9] at h1
   exact M2.out.lay (by rw [<- hX]; exact lay_all _ _ _) h1
  have c3 := M2.out.bx
  have p2 := c3.box.cell (j := 2) rfl
  have f2 := c3.box.thaw 2
  have p3 := c3.box.cell (j := 3) rfl
  have f3 := c3.box.thaw 3
  have p4 := c3.box.cell (j := 4) rfl
  have f4 := c3.box.thaw 4
  have p5 := c3.box.cell (j := 5) rfl
  have f5 := c3.box.thaw 5
  have p6 := c3.box.cell (j := 6) rfl
  have f6 := c3.box.thaw 6
  have p7 := c3.box.cell (j := 7) rfl
  have f7 := c3.box.thaw 7
  have p8 := c3.box.cell (j := 8) rfl
  have f8 := c3.box.thaw 8
  have p9 := c3.box.cell (j := 9) rfl
  have f9 := c3.box.thaw 9
  have p10 := c3.box.cell (j := 10) rfl
  have f10 := c3.box.thaw 10
  clear c3
  have HXX : Hid (layL u2 w.heap.size [.slice fa' fl' fc', .int .i64 (Q.1.2.writes : Int), .bool Q.1.2.armed, .bool Q.1.2.dead, .int .i64 (Q.1.2.after : Int), .int .i64 (Q.1.2.keep : Int), .slice oa' on' oc', .slice ra' rn' rc', .slice ta' tn' tc'] 2 = X) := hX
  clear hX
  go_upto_region 10 with fail
  have hX := HXX.out
  simp only [layL, Nat.reduceAdd] at hX
  rw [hX]
  clear hX p2 f2 p3 f3 p4 f4 p5 f5 p6 f6 p7 f7 p8 f8 p9 f9 p10 f10
  by_cases hr0 : r8 = 0
  ·subst hr0
   have hbn := HH.out.2.2.2.2.2.2.2
   have hBX : B <= X.heap.size := Nat.le_trans M3.out.hH (by have := M3.out.bx.lt; omega)
   have p11 := M3.out.bx.box.cell (j := 11) rfl
   have f11 := M3.out.bx.box.thaw 11
   have hlt := M3.out.bx.box.lt
   go_upto_region 54 with (at_builtin; refine appK_one encU 56 33 8 _ rfl Tryz.info56 Tryz.underlying33 rfl (.tmp 57) (.tmp 59) rfl B (.slice xa xn xc) bl Q.2.1 _ (by simp [Act.eval]) M3.out.inv.ob (by simp [Act.eval]) (by omega) (by simp only [maxLen]; omega) hBX _ (by show _ = #[Value.int .u64 (Q.2.1.toNat : Int)]; rw [HE.out.1]) ?_; intro v4 w4 ho4 hk4 hm4 ht4; obtain ⟨a4, c4, e4, _, _⟩ := ho4.whole (n := bl.length + 1) (by simp); subst e4; have M4 := hid (And.intro (M3.out.rowB ho4 hm4 ht4) hk4); clear ho4 hk4 hm4 ht4; have p11 := M4.out.1.bx.box.cell (j := 11) rfl; have f11 := M4.out.1.bx.box.thaw 11)
   obtain ⟨Y, hY⟩ : ∃ Y, w4.setCell ⟨w.heap.size, 11, none⟩ (.slice a4 (bl.length + 1) c4) = Y := ⟨_, rfl⟩
   have M5 : Hid (Md B w.heap.size E (λ i => Fb w.heap.size i ∨ E i) w0 w Y s b (.slice fa' fl' fc') (.slice oa' on' oc') (.slice ra' rn' rc') (.slice ta' tn' tc') (.slice a4 (bl.length + 1) c4) (.slice ya yn yc) (.slice za zn zc) U1 Q.1.1 Q.1.2 (bl ++ [Q.2.1]) tl cl (wdV s b Q.1.2 (.slice fa' fl' fc') (.slice oa' on' oc') (.slice ra' rn' rc') (.slice ta' tn' tc') (.slice a4 (bl.length + 1) c4) (.slice ya yn yc) (.slice za zn zc)) (actC 0 (.slice da dn dc) pv qv nm dt kp)) := by
    have h1 := M4.out.1.bx.box.lays [.slice a4 (bl.length + 1) c4] 11
    rw [set11] at h1
    rw [<- hY]
    exact M4.out.1.lay (turned_set 11 _) h1
   have O5 : Hid (OwnG encU 56 Y B (.slice xa xn xc) bl) := by
    rw [<- hY]
    exact M4.out.2.stays (turned_set (b := w.heap.size) 11 _) (λ g q r => by have r' : g = w.heap.size := r; exact M3.out.far g (.inr (.inl q)) (.inl ⟨by omega, by omega⟩))
   rw [hY]
   clear hY p11 f11
   have p0 := M5.out.bx.box.cell (j := 0) rfl
   have s0 := M5.out.bx.res.cell (j := 0) rfl
   have f0 := M5.out.bx.res.thaw 0
   have p1 := M5.out.bx.box.cell (j := 1) rfl
   have s1 := M5.out.bx.res.cell (j := 1) rfl
   have f1 := M5.out.bx.res.thaw 1
   have p2 := M5.out.bx.box.cell (j := 2) rfl
   have s2 := M5.out.bx.res.cell (j := 2) rfl
   have f2 := M5.out.bx.res.thaw 2
   have p3 := M5.out.bx.box.cell (j := 3) rfl
   have s3 := M5.out.bx.res.cell (j := 3) rfl
   have f3 := M5.out.bx.res.thaw 3
   have p4 := M5.out.bx.box.cell (j := 4) rfl
   have s4 := M5.out.bx.res.cell (j := 4) rfl
   have f4 := M5.out.bx.res.thaw 4
   have p5 := M5.out.bx.box.cell (j := 5) rfl
   have s5 := M5.out.bx.res.cell (j := 5) rfl
   have f5 := M5.out.bx.res.thaw 5
   have p6 := M5.out.bx.box.cell (j := 6) rfl
   have s6 := M5.out.bx.res.cell (j := 6) rfl
   have f6 := M5.out.bx.res.thaw 6
   have p7 := M5.out.bx.box.cell (j := 7) rfl
   have s7 := M5.out.bx.res.cell (j := 7) rfl
   have f7 := M5.out.bx.res.thaw 7
   have p8 := M5.out.bx.box.cell (j := 8) rfl
   have s8 := M5.out.bx.res.cell (j := 8) rfl
   have f8 := M5.out.bx.res.thaw 8
   have p9 := M5.out.bx.box.cell (j := 9) rfl
   have s9 := M5.out.bx.res.cell (j := 9) rfl
   have f9 := M5.out.bx.res.thaw 9
   have p10 := M5.out.bx.box.cell (j := 10) rfl
   have s10 := M5.out.bx.res.cell (j := 10) rfl
   have f10 := M5.out.bx.res.thaw 10
   have p11 := M5.out.bx.box.cell (j := 11) rfl
   have s11 := M5.out.bx.res.cell (j := 11) rfl
   have f11 := M5.out.bx.res.thaw 11
   have p12 := M5.out.bx.box.cell (j := 12) rfl
   have s12 := M5.out.bx.res.cell (j := 12) rfl
   have f12 := M5.out.bx.res.thaw 12
   have p13 := M5.out.bx.box.cell (j := 13) rfl
   have s13 := M5.out.bx.res.cell (j := 13) rfl
   have f13 := M5.out.bx.res.thaw 13
   go_wp2
   refine bodyPost_ret (v := .tuple #[.agg (wdV s b Q.1.2 (.slice fa' fl' fc') (.slice oa' on' oc') (.slice ra' rn' rc') (.slice ta' tn' tc') (.slice a4 (bl.length + 1) c4) (.slice ya yn yc) (.slice za zn zc)), .bool true]) ?_ rfl ⟨_, _, _, _, _, rfl, ?_⟩
   ·simp [results, Tryz.f13]
    go_simp
   ·have ht := lay_all (W := Y) (w.heap.size + 2) [.pointer (some ⟨b, 0, none⟩), .pointer (some ⟨s, 0, none⟩), .slice fa' fl' fc', .int .i64 (Q.1.2.writes : Int), .bool Q.1.2.armed, .bool Q.1.2.dead, .int .i64 (Q.1.2.after : Int), .int .i64 (Q.1.2.keep : Int), .slice oa' on' oc', .slice ra' rn' rc', .slice ta' tn' tc', .slice a4 (bl.length + 1) c4, .slice ya yn yc, .slice za zn zc] 0
    simp only [layL, Nat.reduceAdd] at ht
    have hh := M5.out.done ht
    have ho := O5.out.stays ht (λ g q r => by have r' : g = w.heap.size + 2 := r; exact M3.out.far g (.inr (.inl q)) (.inl ⟨by omega, by omega⟩))
    have hbl := HH.out.2.2.2.2.2.2.1
    rw [if_pos (HE.out.2.1.symm)] at hbl
    rw [hbl]
    exact ⟨_, hh.1, hh.2.1, hh.2.2, ho⟩
  ·have hz : Hid (¬ r8 = 0) := hr0
   go_upto_region 54 with fail
   have p0 := M3.out.bx.box.cell (j := 0) rfl
   have s0 := M3.out.bx.res.cell (j := 0) rfl
   have f0 := M3.out.bx.res.thaw 0
   have p1 := M3.out.bx.box.cell (j := 1) rfl
   have s1 := M3.out.bx.res.cell (j := 1) rfl
   have f1 := M3.out.bx.res.thaw 1
   have p2 := M3.out.bx.box.cell (j := 2) rfl
   have s2 := M3.out.bx.res.cell (j := 2) rfl
   have f2 := M3.out.bx.res.thaw 2
   have p3 := M3.out.bx.box.cell (j := 3) rfl
   have s3 := M3.out.bx.res.cell (j := 3) rfl
   have f3 := M3.out.bx.res.thaw 3
   have p4 := M3.out.bx.box.cell (j := 4) rfl
   have s4 := M3.out.bx.res.cell (j := 4) rfl
   have f4 := M3.out.bx.res.thaw 4
   have p5 := M3.out.bx.box.cell (j := 5) rfl
   have s5 := M3.out.bx.res.cell (j := 5) rfl
   have f5 := M3.out.bx.res.thaw 5
   have p6 := M3.out.bx.box.cell (j := 6) rfl
   have s6 := M3.out.bx.res.cell (j := 6) rfl
   have f6 := M3.out.bx.res.thaw 6
   have p7 := M3.out.bx.box.cell (j := 7) rfl
   have s7 := M3.out.bx.res.cell (j := 7) rfl
   have f7 := M3.out.bx.res.thaw 7
   have p8 := M3.out.bx.box.cell (j := 8) rfl
   have s8 := M3.out.bx.res.cell (j := 8) rfl
   have f8 := M3.out.bx.res.thaw 8
   have p9 := M3.out.bx.box.cell (j := 9) rfl
   have s9 := M3.out.bx.res.cell (j := 9) rfl
   have f9 := M3.out.bx.res.thaw 9
   have p10 := M3.out.bx.box.cell (j := 10) rfl
   have s10 := M3.out.bx.res.cell (j := 10) rfl
   have f10 := M3.out.bx.res.thaw 10
   have p11 := M3.out.bx.box.cell (j := 11) rfl
   have s11 := M3.out.bx.res.cell (j := 11) rfl
   have f11 := M3.out.bx.res.thaw 11
   have p12 := M3.out.bx.box.cell (j := 12) rfl
   have s12 := M3.out.bx.res.cell (j := 12) rfl
   have f12 := M3.out.bx.res.thaw 12
   have p13 := M3.out.bx.box.cell (j := 13) rfl
   have s13 := M3.out.bx.res.cell (j := 13) rfl
   have f13 := M3.out.bx.res.thaw 13
   go_wp2
   refine bodyPost_ret (v := .tuple #[.agg (wdV s b Q.1.2 (.slice fa' fl' fc') (.slice oa' on' oc') (.slice ra' rn' rc') (.slice ta' tn' tc') (.slice xa xn xc) (.slice ya yn yc) (.slice za zn zc)), .bool true]) ?_ rfl ⟨_, _, _, _, _, rfl, ?_⟩
   ·simp [results, Tryz.f13]
    go_simp
   ·have ht := lay_all (W := X) (w.heap.size + 2) [.pointer (some ⟨b, 0, none⟩), .pointer (some ⟨s, 0, none⟩), .slice fa' fl' fc', .int .i64 (Q.1.2.writes : Int), .bool Q.1.2.armed, .bool Q.1.2.dead, .int .i64 (Q.1.2.after : Int), .int .i64 (Q.1.2.keep : Int), .slice oa' on' oc', .slice ra' rn' rc', .slice ta' tn' tc', .slice xa xn xc, .slice ya yn yc, .slice za zn zc] 0
    simp only [layL, Nat.reduceAdd] at ht
    have hh := M3.out.done ht
    have ho := M3.out.inv.ob.stays ht (λ g q r => by have r' : g = w.heap.size + 2 := r; exact M3.out.far g (.inr (.inl q)) (.inl ⟨by omega, by omega⟩))
    have hbl := HH.out.2.2.2.2.2.2.1
    rw [if_neg (by rw [<- HE.out.2.1]; exact hz.out)] at hbl
    rw [hbl]
    exact ⟨_, hh.1, hh.2.1, hh.2.2, ho⟩
end Go.Proofs.YtjlokpjflgbgdaaGreat
