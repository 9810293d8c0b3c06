/-
  StoreOnce: a round that puts a blob.
-/
import Derived.Test.YtikgbjjgpgjmfaaGreatVOnceAMg
namespace Go.Proofs.YtikgbjjgpgjmfaaGreat
open Go.RowKit

set_option maxHeartbeats 6400000 in
set_option maxRecDepth 1000000 in
theorem once_blob_ok {w : World} {R O i n c gk g off : Nat} {at_ : Int} {mask : UInt8} {l : List AV} {data : Bs} {ps : List Bs} {qs : List Int} {s b : Nat} {fa oa ra ta xa ya za : Option Addr} {fl fc on oc rn rc tn tc xn xc yn yc zn zc : Nat} {st : St} {d : Dk} {bl tl cl : List UInt64} {k : Int} {da pa qa : Option Addr} {dn dc pn pc qn qc : Nat} {nm : ByteArray} {dt kp : Int} {X : World} {fa' oa' ra' ta' xa' ya' za' : Option Addr} {fl' fc' on' oc' rn' rc' tn' tc' xn' xc' yn' yc' zn' zc' : Nat} {U' : Nat → Prop} {st' : St} {d' : Dk} {bl' tl' cl' : List UInt64} {u3 u4 u5 u6 u8 u11 u12 u13 u14 u15 u16 u17 u18 u19 u20 u21 u22 u23 u24 u25 u26 u27 u28 u29 u30 u31 u32 u33 u34 u35 u36 u37 u38 u39 u40 u41 u42 u43 u44 u45 u46 u47 u48 u49 u50 u51 u52 u53 u54 u55 u56 u57 u58 u59 u60 u61 u62 u63 u64 u65 u66 u67 u68 u69 u70 u71 u72 u73 u74 u75 u76 u77 u78 u79 u80 u81 u82 u83 u84 u85 u86 u87 u88 u89 u90 u91 u92 u93 u94 u95 u96 u97 u98 u99 u100 u101 u102 u103 u104 u105 u106 u107 u108 u109 u110 u111 u112 u113 u114 u115 u116 u117 u118 u119 u120 u121 u122 u123 u124 u125 u126 u127 u128 u129 u130 u131 u132 u133 u134 u135 u136 u137 u138 u139 u140 u141 u142 u143 u144 u145 u146 u147 u148 u149 u150 u151 u152 u153 u154 u155 u156 u157 u158 u159 u160 u161 u162 u163 u164 u165 u166 u167 u168 u169 u170 u171 u172 u173 u174 u175 u176 u177 u178 u179 u180 u181 u182 u183 u184 u185 u186 u187 u188 u189 u190 u191 u192 u193 u194 u195 u196 u197 u198 u199 u200 u201 u202 u203 u204 u205 u206 u207 u208 u209 u210 u211 u212 u213 u214 u215 u216 u217 u218 u219 u220 u221 u222 u223 u224 u225 u226 u227 u228 u229 u230 u231 u232 u233 u234 u235 u236 u237 u238 u239 u240 u241 u242 u243 u244 u245 u246 u247 u248 u249 u250 u251 u252 u253 u254 : Value}
    (HA : Hid (Acts w (some ⟨g, off, none⟩) n l)) (hi : i + gk = min n 40) (hin : i < min n 40) (id : (i : Int) < (n : Int)) (id0 : (0 : Int) ≤ (i : Int)) (HHA : Hid (l[i]? = some (⟨k, da, dn, dc, pa, pn, pc, qa, qn, qc, nm, dt, kp⟩ : AV))) (HAT : Hid (ActAt w (⟨k, da, dn, dc, pa, pn, pc, qa, qn, qc, nm, dt, kp⟩ : AV) data ps qs)) (HSZ : Hid (R < O)) (HRB : Hid (w.heap.size ≤ R)) (HS : Hid (d.ok ∧ Calm d ∧ d.writes ≤ 2 * i ∧ st.size ≤ 2 * i ∧ bl.length ≤ i ∧ tl.length ≤ i ∧ cl.length ≤ i ∧ w.heap.size ≤ R))
    (HX : Hid (WI w.heap.size (fun j => j = R ∨ j = O) X s b (.slice fa' fl' fc') (.slice oa' on' oc') (.slice ra' rn' rc') (.slice ta' tn' tc') (.slice xa' xn' xc') (.slice ya' yn' yc') (.slice za' zn' zc') U' st' d' bl' tl' cl' ∧ BoxA X R 35 (wdV s b d' (.slice fa' fl' fc') (.slice oa' on' oc') (.slice ra' rn' rc') (.slice ta' tn' tc') (.slice xa' xn' xc') (.slice ya' yn' yc') (.slice za' zn' zc')) ∧ BoxA X O 35 (wdV s b d (.slice fa fl fc) (.slice oa on oc) (.slice ra rn rc) (.slice ta tn tc) (.slice xa xn xc) (.slice ya yn yc) (.slice za zn zc)) ∧ Below w.heap.size w X ∧ OwnG encU 56 X w.heap.size (.slice xa xn xc) bl ∧ OwnG encU 56 X w.heap.size (.slice ya yn yc) tl ∧ OwnG encU 56 X w.heap.size (.slice za zn zc) cl ∧ Rel k data ps qs dt st d bl tl cl st' d' bl' tl' cl')) (hk : k = 0) {Q : (St × Dk) × UInt64 × Int} (hQ : sblob st d data = Q) (e1 : st' = Q.1.1) (e2 : d' = Q.1.2) (e3 : bl' = if Q.2.2 = 0 then bl ++ [Q.2.1] else bl) (hz : Q.2.2 = 0)
    {J : Nat → Act → World → Prop} {K1 K2 K3 : Act → World → Prop} {P0 : Ending → World → Prop} (hJ : OnceJ w R n c g off at_ mask u3 u4 u5 u15 u16 u17 u18 u19 u20 u254 J) (hK2 : ∀ (a' : Act) (w' : World), Handed J gk a' w' → K2 a' w') :
    let Q' : Exit → Act → World → Prop := bodyPost Tryz.prog Tryz.f6 P0
    (∀ (a : Act) (w : World), Code.wp Tryz.prog once6 (Exit.then K2 (Exit.inBlock 0 (Exit.then K3 Q'))) a w → K1 a w) → u8 = .bool true →
    Code.wp Tryz.prog onceRest (Exit.inBlock 1 (Exit.then K1 (Exit.then K2 (Exit.inBlock 0 (Exit.then K3 Q'))))) ⟨#[.slice (some ⟨g, off, none⟩) n c, .int .i64 at_, .int .u8 (mask.toNat : Int), u3, u4, u5, u6, .pointer (some ⟨R, 0, none⟩), u8, .int .i64 (i : Int), .pointer (some ⟨O, 0, none⟩), u11, u12, u13, u14, u15, u16, u17, u18, u19, u20, u21, u22, u23, u24, u25, u26, u27, u28, u29, u30, u31, u32, u33, u34, u35, u36, u37, u38, u39, u40, u41, u42, u43, u44, u45, u46, u47, u48, u49, u50, u51, u52, u53, u54, u55, u56, u57, u58, u59, u60, u61, u62, u63, u64, u65, u66, u67, u68, u69, u70, u71, u72, u73, u74, u75, u76, u77, u78, u79, u80, u81, u82, u83, u84, u85, u86, u87, u88, u89, u90, u91, u92, u93, u94, u95, u96, u97, u98, u99, u100, u101, u102, u103, u104, u105, u106, u107, u108, u109, u110, u111, u112, u113, u114, u115, u116, u117, u118, u119, u120, u121, u122, u123, u124, u125, u126, u127, u128, u129, u130, u131, u132, u133, u134, u135, u136, u137, u138, u139, u140, u141, u142, u143, u144, u145, u146, u147, u148, u149, u150, u151, u152, u153, u154, u155, u156, u157, u158, u159, u160, u161, u162, u163, u164, u165, u166, u167, u168, u169, u170, u171, u172, u173, u174, u175, u176, u177, u178, u179, u180, u181, u182, u183, u184, u185, u186, u187, u188, u189, u190, u191, u192, u193, u194, u195, u196, u197, u198, u199, u200, u201, u202, u203, u204, u205, u206, u207, u208, u209, u210, u211, u212, u213, u214, u215, u216, u217, u218, u219, u220, u221, u222, u223, u224, u225, u226, u227, u228, u229, u230, u231, u232, u233, u234, u235, u236, u237, u238, u239, u240, u241, u242, u243, u244, u245, u246, u247, u248, u249, u250, u251, u252, u253, u254], []⟩ X := by
  intro Q' hK1 h8
  subst h8
  conv => arg 2; whnf
  conv at hK1 => enter [a, w, 1, 2]; whnf
  obtain ⟨x1, x2, x3, x4, x5, x6, x7, x8⟩ := HX.out
  have MR := hid (x8.more HS.out.2.1)
  have hD := writes_duo x1.duo
  have l1 := x1.ob.size
  have l2 := x1.ot.size
  have l3 := x1.oc.size
  have l1' := x5.size
  have l2' := x6.size
  have l3' := x7.size
  have M0 : Hid (Mi (wdV s b d (.slice fa fl fc) (.slice oa on oc) (.slice ra rn rc) (.slice ta tn tc) (.slice xa xn xc) (.slice ya yn yc) (.slice za zn zc)) w.heap.size R O w X s b (.slice fa' fl' fc') (.slice oa' on' oc') (.slice ra' rn' rc') (.slice ta' tn' tc') (.slice xa' xn' xc') (.slice ya' yn' yc') (.slice za' zn' zc') U' st' d' bl' tl' cl') := ⟨x1, x2, x4, HRB.out, x3⟩
  have BD : Hid (d'.writes ≤ 2 * i + 1 ∧ st'.size ≤ 2 * i + 1 ∧ bl'.length ≤ i + 1 ∧ tl'.length ≤ i + 1 ∧ cl'.length ≤ i + 1) := by
    have q1 := MR.out.1.writes
    have q2 := MR.out.1.size
    have q3 := MR.out.2.2
    have q4 := HS.out.2.2
    refine ⟨?_, ?_, ?_, ?_, ?_⟩ <;> omega
  have OK := hid (And.intro (MR.out.1.ok HS.out.1) MR.out.2.1)
  have DONE : Hid (∀ u U1, Mi (wdV s b d (.slice fa fl fc) (.slice oa on oc) (.slice ra rn rc) (.slice ta tn tc) (.slice xa xn xc) (.slice ya yn yc) (.slice za zn zc)) w.heap.size R O w u s b (.slice fa' fl' fc') (.slice oa' on' oc') (.slice ra' rn' rc') (.slice ta' tn' tc') (.slice xa' xn' xc') (.slice ya' yn' yc') (.slice za' zn' zc') U1 st' d' bl' tl' cl' → LI w.heap.size R (i + 1) w u) := by
    intro u U1 h
    have q := BD.out
    exact LI.mi h OK.out.1 OK.out.2 (by omega)
  have FIN := hid (DONE.out X _ M0.out)
  have p0 := x2.cell (j := 0) rfl
  have p1 := x2.cell (j := 1) rfl
  have p11 := x2.cell (j := 11) rfl
  have p12 := x2.cell (j := 12) rfl
  have p13 := x2.cell (j := 13) rfl
  have o11 := x3.cell (j := 11) rfl
  have o12 := x3.cell (j := 12) rfl
  have o13 := x3.cell (j := 13) rfl
  obtain ⟨hbX, c0, c1, c2, c3, c4, c5, c6⟩ := (HA.out.rd.below x4).acts HHA.out
  simp only at c0 c1 c2 c3 c4 c5 c6
  clear x2 x3 x4 x5 x6 x7
  have ne : O ≠ R := by have := HSZ.out; omega
  subst hk
  rw [if_pos hz] at e3
  obtain ⟨gx, ox, ea, hgx, cx, hxn⟩ := (show OwnG encU 56 X w.heap.size (.slice xa' xn' xc') (bl ++ [Q.2.1]) by rw [← e3]; exact x1.ob).last
  subst ea
  obtain ⟨m, hm⟩ : ∃ m, bl.length = m := ⟨_, rfl⟩
  have hnm : xn = m := by rw [← hm, l1']
  rw [hm] at hxn
  have hlt0 : (xn : Int) < (xn' : Int) := by omega
  have HQ := hid (And.intro hQ (And.intro hz (And.intro e1 e2)))
  have HE3 := hid e3
  have HHM := hid hm
  obtain ⟨qi, hqi⟩ : ∃ qi : Int, (Q.2.1.toNat : Int) = qi := ⟨_, rfl⟩
  have HQI := hid hqi
  have hm0 : (0 : Int) ≤ (m : Int) := by omega
  have hm1 : (m : Int) < (xn' : Int) := by omega
  have hmw : IntKind.i64.wrap ((xn' : Int) - 1) = (m : Int) := by rw [IntKind.wrap_i64]; have := BD.out; have := HS.out.2.2; omega
  have HDL := hid (And.intro HAT.out.dl HAT.out.dm)
  simp only at HDL
  have BO1 := again_blob M0.out.drew hQ hz e1 e2 (HAT.out.hd.below M0.out.drew.bel) (by have := HDL.out; omega) OK.out.1 (by have := BD.out; omega) (by have := BD.out; omega) qi hqi
  have BO : Hid (Calls Tryz.prog 25 #[.pointer (some ⟨s, 0, none⟩), .slice (some ⟨X.heap.size, 0, none⟩) 1 1] (X.alloc (.cells #[.slice da dn dc] 39)).drew fun e w' => ∃ i8 r8, e = .returned (.tuple #[.int .u64 i8, .int .i64 r8]) ∧ Hid (i8 = qi ∧ r8 = 0 ∧ ∃ U1, Mi (wdV s b d (.slice fa fl fc) (.slice oa on oc) (.slice ra rn rc) (.slice ta tn tc) (.slice xa xn xc) (.slice ya yn yc) (.slice za zn zc)) w.heap.size R O w w' s b (.slice fa' fl' fc') (.slice oa' on' oc') (.slice ra' rn' rc') (.slice ta' tn' tc') (.slice (some ⟨gx, ox, none⟩) xn' xc') (.slice ya' yn' yc') (.slice za' zn' zc') U1 st' d' bl' tl' cl')) := BO1
  have KB : Hid (∀ u U1, Mi (wdV s b d (.slice fa fl fc) (.slice oa on oc) (.slice ra rn rc) (.slice ta tn tc) (.slice xa xn xc) (.slice ya yn yc) (.slice za zn zc)) w.heap.size R O w u s b (.slice fa' fl' fc') (.slice oa' on' oc') (.slice ra' rn' rc') (.slice ta' tn' tc') (.slice (some ⟨gx, ox, none⟩) xn' xc') (.slice ya' yn' yc') (.slice za' zn' zc') U1 st' d' bl' tl' cl' → u.cell? ⟨R, 1, none⟩ = some (.pointer (some ⟨s, 0, none⟩)) ∧ u.cell? ⟨g, off + i * 7 + 1, none⟩ = some (.slice da dn dc)) := by
    intro u U1 h
    exact ⟨h.box.cell (j := 1) rfl, ((HA.out.rd.below h.bel).acts HHA.out).2.2.1⟩
  clear BO1
  clear x1 l1 l2 l3 l1' l2' l3' e1 e2 e3 hQ hz hqi hm hnm hxn cx
  go_wp2_with fail
  refine hD.mono ?_
  rintro e ww ⟨rfl, hww⟩
  rw [hww]
  clear hww
  go_upto_region 16 with fail
  go_cut [12, 13] from 21 to 253 (fun iv ev u => ∃ v, v = u ∧ iv = .int .u64 qi ∧ ev = .int .i64 0 ∧ Hid (∃ U1, Mi (wdV s b d (.slice fa fl fc) (.slice oa on oc) (.slice ra rn rc) (.slice ta tn tc) (.slice xa xn xc) (.slice ya yn yc) (.slice za zn zc)) w.heap.size R O w v s b (.slice fa' fl' fc') (.slice oa' on' oc') (.slice ra' rn' rc') (.slice ta' tn' tc') (.slice (some ⟨gx, ox, none⟩) xn' xc') (.slice ya' yn' yc') (.slice za' zn' zc') U1 st' d' bl' tl' cl'))
  case first =>
    have BO' := BO.out
    have k0 := KB.out X.drew _ M0.out.drew
    have k1 := KB.out (X.alloc (.cells #[.slice da dn dc] 39)).drew _ (M0.out.below (bz1 X _).drew)
    as_aux_lemma =>
      go_region_held3 (fun u => u.cell? ⟨R, 1, none⟩ = some (.pointer (some ⟨s, 0, none⟩)) ∧ u.cell? ⟨g, off + i * 7 + 1, none⟩ = some (.slice da dn dc)) (first | with_reducible exact k9 | with_reducible exact k1 | with_reducible exact k0)
        (first
          | (go_at_call 25; (with_reducible refine BO'.mono ?_); rintro e w8 ⟨i8, r8, rfl, H8⟩; obtain ⟨h8i, h8r, U8, h8⟩ := H8.out; subst h8i h8r; have k9 := KB.out w8 _ h8; have H9 := hid h8; clear h8))
      all_goals
        go_wp2_with fail
        go_meet
        exact ⟨_, rfl, rfl, rfl, _, H9.out⟩
  case rest =>
    obtain ⟨X1, rfl, rfl, rfl, H1⟩ := hcut
    obtain ⟨U1, M1⟩ := H1.out
    have hD1 := writes_duo M1.inv.duo
    obtain ⟨g1, o1, e0, h01, cx1, h02⟩ := (show OwnG encU 56 X1 w.heap.size (.slice (some ⟨gx, ox, none⟩) xn' xc') (bl ++ [Q.2.1]) by rw [← HE3.out]; exact M1.inv.ob).last
    cases e0
    rw [HQI.out, HHM.out] at cx1
    clear h01 h02
    clear p0 p1 p11 p12 p13 o11 o12 o13 c0 c1 c2 c3 c4 c5 c6 hbX hD
    have p0 := M1.box.cell (j := 0) rfl
    have p1 := M1.box.cell (j := 1) rfl
    have p2 := M1.box.cell (j := 2) rfl
    have p3 := M1.box.cell (j := 3) rfl
    have p4 := M1.box.cell (j := 4) rfl
    have p5 := M1.box.cell (j := 5) rfl
    have p6 := M1.box.cell (j := 6) rfl
    have p7 := M1.box.cell (j := 7) rfl
    have p8 := M1.box.cell (j := 8) rfl
    have p9 := M1.box.cell (j := 9) rfl
    have p10 := M1.box.cell (j := 10) rfl
    have p11 := M1.box.cell (j := 11) rfl
    have p12 := M1.box.cell (j := 12) rfl
    have p13 := M1.box.cell (j := 13) rfl
    obtain ⟨hbX1, c0, c1, c2, c3, c4, c5, c6⟩ := (HA.out.rd.below M1.bel).acts HHA.out
    simp only at c0 c1 c2 c3 c4 c5 c6
    have FIN1 := hid (DONE.out X1 _ M1)
    have HM1 := hid M1
    clear M1 H1
    have hz19 := hid (And.intro ((HAT.out.hd.below HM1.out.bel).below (bz1 X1 (.cells #[] 5))) HDL.out)
    go_upto_region 20 with (at_builtin; refine appB rfl (.tmp 94) (.tmp 99) rfl X1.heap.size (.slice (some ⟨X1.heap.size, 0, none⟩) 0 0) (.slice da dn dc) [] data (by simp [Act.eval]) (ownB_zero X1) (by simp [Act.eval]) hz19.out.1 (by have := hz19.out.2; simp; omega) (by simp) ?_; intro v4 w4 ho4 hb4 hm4 ht4; rw [List.nil_append] at ho4; have K4 := hid (And.intro ho4 ((bz1 X1 (.cells #[] 5)).trans hb4)); clear ho4 hb4 hm4 ht4; obtain ⟨ba, bc, e4, _, _⟩ := K4.out.1.whole HDL.out.1; subst e4)
    have M4 := hid (HM1.out.below K4.out.2)
    have hD4 := writes_duo M4.out.inv.duo
    clear hD1 cx1 p0 p1 p2 p3 p4 p5 p6 p7 p8 p9 p10 p11 p12 p13 c0 c1 c2 c3 c4 c5 c6 hbX1 hz19
    have p0 := M4.out.box.cell (j := 0) rfl
    have mk0 : ∀ m : UInt8, m ≠ 0 → ((m.toNat : Int) == 0) = false := by
      intro m h
      have : m.toNat ≠ 0 := fun q => h (UInt8.toNat_inj.1 (by simpa using q))
      simp only [beq_eq_false_iff_ne]
      omega
    go_cut [119] from 21 to 253 (fun cv u => ∃ v t, v = u ∧ cv = .bool t ∧ Hid (Mi (wdV s b d (.slice fa fl fc) (.slice oa on oc) (.slice ra rn rc) (.slice ta tn tc) (.slice xa xn xc) (.slice ya yn yc) (.slice za zn zc)) w.heap.size R O w v s b (.slice fa' fl' fc') (.slice oa' on' oc') (.slice ra' rn' rc') (.slice ta' tn' tc') (.slice (some ⟨gx, ox, none⟩) xn' xc') (.slice ya' yn' yc') (.slice za' zn' zc') U1 st' d' bl' tl' cl' ∧ OwnG encB 5 v X1.heap.size (.slice ba dn bc) data ∧ Below X1.heap.size X1 v ∧ (t = true → 0 ≤ at_ ∧ at_ < (dn : Int) ∧ mask ≠ 0)))
    case first =>
      as_aux_lemma =>
        have MT := hid (And.intro M4.out K4.out)
        by_cases a1 : 0 ≤ at_
        · by_cases a2 : at_ < (dn : Int)
          · by_cases a3 : mask = 0
            · subst a3
              go_wp2_with fail
              go_meet
              exact ⟨_, false, rfl, rfl, MT.out.1, MT.out.2.1, MT.out.2.2, fun q => by cases q⟩
            · have m0 := mk0 mask a3
              have m1 : ((mask.toNat : Int) != 0) = true := by rw [bne, m0]; rfl
              have m2 : ¬ ((mask.toNat : Int) = 0) := by simpa using m0
              clear mk0
              go_wp2_with fail
              refine hD4.mono ?_
              rintro e ww ⟨rfl, hww⟩
              rw [hww]
              clear hww
              go_wp2_with fail
              go_meet
              exact ⟨_, true, rfl, rfl, MT.out.1, MT.out.2.1, MT.out.2.2, fun _ => ⟨a1, a2, a3⟩⟩
          · have a2' : decide (at_ < (dn : Int)) = false := by rw [decide_eq_false_iff_not]; exact a2
            go_wp2_with fail
            go_meet
            exact ⟨_, false, rfl, rfl, MT.out.1, MT.out.2.1, MT.out.2.2, fun q => by cases q⟩
        · have a1' : decide (0 ≤ at_) = false := by rw [decide_eq_false_iff_not]; exact a1
          go_wp2_with fail
          go_meet
          exact ⟨_, false, rfl, rfl, MT.out.1, MT.out.2.1, MT.out.2.2, fun q => by cases q⟩
    case rest =>
      obtain ⟨Y, t, rfl, rfl, HY⟩ := hcut
      clear M4 K4 hD4 p0 mk0
      cases t
      · as_aux_lemma =>
          have hD5 := writes_duo HY.out.1.inv.duo
          have p0 := HY.out.1.box.cell (j := 0) rfl
          have FIN5 := hid (DONE.out Y _ HY.out.1)
          go_wp2_with fail
          refine hD5.mono ?_
          rintro e ww ⟨rfl, hww⟩
          rw [hww]
          clear hww
          go_wp2
          unfold OnceJ at hJ
          go_roundg (gk - 1)
          case measure => omega
          case rel => exact ⟨rfl, i + 1, by go_num, by omega, FIN5.out⟩
      · obtain ⟨a1, a2, a3⟩ := HY.out.2.2.2 rfl
        obtain ⟨j, rfl⟩ := Int.eq_ofNat_of_zero_le a1
        have hjl : j < data.length := by have := HDL.out.1; omega
        obtain ⟨gb, rfl⟩ := HY.out.2.1.head (by omega)
        obtain ⟨y, hy, ky, fy⟩ := byte_at HY.out.2.1 (i := j) hjl
        have hx : bits BinOp.xor IntKind.u8 (y.toNat : Int) (mask.toNat : Int) = ((y ^^^ mask).toNat : Int) := by
          rw [u8_xor_nat _ _ y.toNat_lt mask.toNat_lt, UInt8.toNat_xor]
        have hzm : y ^^^ mask ≠ y := xor_moves a3
        obtain ⟨z, hz⟩ : ∃ z, y ^^^ mask = z := ⟨_, rfl⟩
        rw [hz] at hx hzm
        obtain ⟨w5, hw5⟩ : ∃ w5, Y.setCell ⟨gb, j, none⟩ (.int .u8 (z.toNat : Int)) = w5 := ⟨_, rfl⟩
        have hgb := HY.out.2.1.lt gb rfl
        have M5 : Hid (Mi (wdV s b d (.slice fa fl fc) (.slice oa on oc) (.slice ra rn rc) (.slice ta tn tc) (.slice xa xn xc) (.slice ya yn yc) (.slice za zn zc)) w.heap.size R O w w5 s b (.slice fa' fl' fc') (.slice oa' on' oc') (.slice ra' rn' rc') (.slice ta' tn' tc') (.slice (some ⟨gx, ox, none⟩) xn' xc') (.slice ya' yn' yc') (.slice za' zn' zc') U1 st' d' bl' tl' cl') := by rw [← hw5]; exact HM1.out.turn HY.out.2.2.1 hgb (turned_set j _)
        have o5 : OwnG encB 5 w5 X1.heap.size (.slice (some ⟨gb, 0, none⟩) dn bc) (data.set j z) := by rw [← hw5]; exact byte_put HY.out.2.1 hjl z
        have B5 : Hid (BAt w5 (.slice (some ⟨gb, 0, none⟩) dn bc) (data.set j z) ∧ X1.heap.size ≤ gb ∧ data.set j z ≠ data ∧ (data.set j z).length ≤ 140737488355328) := ⟨OwnB.of o5, hgb.1, set_moves hy hzm, by rw [List.length_set]; have := HDL.out; omega⟩
        obtain ⟨x', hx'⟩ : ∃ x', data.set j z = x' := ⟨_, rfl⟩
        rw [hx'] at B5
        obtain ⟨Q2, hQ2⟩ : ∃ Q2, sblob st' d' x' = Q2 := ⟨_, rfl⟩
        have BO5 := blob_one M5.out.inv.duo B5.out.1 B5.out.2.2.2 OK.out.1 (by have := BD.out; omega) (by have := BD.out; omega)
        rw [hQ2] at BO5
        have HQ2 := hid hQ2
        have hj0 : (0 : Int) ≤ (j : Int) := by omega
        have p1 := M5.out.box.cell (j := 1) rfl
        have hne0 : O ≠ R := ne
        clear o5 hgb hjl hz hzm hy hx' hQ2 a1 a3
        go_wp2_with fail
        refine BO5.mono ?_
        rintro e w6 ⟨i9, r9, rfl, H6⟩
        clear BO5 hw5 ky fy hx p1
        obtain ⟨h6i, h6r, U6, A6⟩ := H6.out
        have HA6 := hid A6
        have H6r := hid h6r
        have bx6 := M5.out.aft A6
        by_cases hr : r9 = 0
        · subst hr
          have hno : Q2.2.1 ≠ Q.2.1 := by
            have e1 := HQ.out.2.2.1
            have e2 := HQ.out.2.2.2
            have q1 := sblob_other (st := st) (d := d) B5.out.2.2.1 (by rw [HQ.out.1]; exact HQ.out.2.1) (by rw [HQ.out.1, ← e1, ← e2, HQ2.out]; exact h6r.symm)
            rw [HQ.out.1, ← e1, ← e2, HQ2.out] at q1
            exact q1
          have hi9 : (i9 == qi) = false := by
            simp only [beq_eq_false_iff_ne]
            intro q
            rw [h6i, ← HQI.out] at q
            exact hno (UInt64.toNat_inj.1 (by omega))
          obtain ⟨g1, o1, e0, h01, cx6, h02⟩ := (show OwnG encU 56 w6 w.heap.size (.slice (some ⟨gx, ox, none⟩) xn' xc') (bl ++ [Q.2.1]) by rw [← HE3.out]; exact M5.out.inv.ob.stays A6.2.2.2 M5.out.inv.fb).last
          cases e0
          rw [HQI.out, HHM.out] at cx6
          have MC := M5.out.inv.call M5.out.size A6
          have PB := rputBlob_any MC.2.1 MC.1 (by have := BD.out; omega) OK.out.1 (by have := BD.out; omega) x' B5.out.2.2.2 Q2 HQ2.out
          have cv := conv_str (B5.out.1.turned A6.2.2.2 (fun _ p hp q => by cases hp; have q1 := HM1.out.inv.duo.lt _ q; have q2 := B5.out.2.1; simp only at q1; omega))
          obtain ⟨bb, hbb⟩ : ∃ bb : ByteArray, bb = ⟨x'.toArray⟩ := ⟨_, rfl⟩
          rw [show tx x' = .string bb by rw [hbb]] at cv PB
          clear h01 h02 h6i h6r hbb MC
          have p0 := bx6.1.cell (j := 0) rfl
          have p1 := bx6.1.cell (j := 1) rfl
          have p2 := bx6.1.cell (j := 2) rfl
          have p3 := bx6.1.cell (j := 3) rfl
          have p4 := bx6.1.cell (j := 4) rfl
          have p5 := bx6.1.cell (j := 5) rfl
          have p6 := bx6.1.cell (j := 6) rfl
          have p7 := bx6.1.cell (j := 7) rfl
          have p8 := bx6.1.cell (j := 8) rfl
          have p9 := bx6.1.cell (j := 9) rfl
          have p10 := bx6.1.cell (j := 10) rfl
          have p11 := bx6.1.cell (j := 11) rfl
          have p12 := bx6.1.cell (j := 12) rfl
          have p13 := bx6.1.cell (j := 13) rfl
          have BX6 := hid bx6
          clear bx6 A6 hno
          go_wp2_with fail
          refine PB.mono ?_
          rintro e w7 ⟨m', i7, r7, rfl, H7⟩
          obtain ⟨q1, q2, q3, q4⟩ := H7.out
          obtain ⟨fa2, fl2, fc2, oa2, on2, oc2, ra2, rn2, rc2, ta2, tn2, tc2, rfl, l1, l2, l3, l4⟩ := q3
          have MT8 := hid (M5.out.took HA6.out q4 ⟨fa2, fl2, fc2, oa2, on2, oc2, ra2, rn2, rc2, ta2, tn2, tc2, rfl, l1, l2, l3, l4⟩ hne0)
          have bx7 := BX6.out.1.below q4 BX6.out.1.lt
          clear PB cv cx6 q1 q2 q4 l1 l2 l3 l4 H7 p0 p1 p2 p3 p4 p5 p6 p7 p8 p9 p10 p11 p12 p13
          have TH7 := hid (bx7.there (o := 2) (n := 9) (by simp [wdV]))
          clear bx7
          obtain ⟨w8, hw8⟩ : ∃ w8, layL w7 R [.slice fa2 fl2 fc2, .int .i64 (Q2.1.2.writes : Int), .bool Q2.1.2.armed, .bool Q2.1.2.dead, .int .i64 (Q2.1.2.after : Int), .int .i64 (Q2.1.2.keep : Int), .slice oa2 on2 oc2, .slice ra2 rn2 rc2, .slice ta2 tn2 tc2] 2 = w8 := ⟨_, rfl⟩
          rw [hw8] at MT8
          have HW8 := hid hw8
          clear hw8
          go_upto_region 27 with (refine wpList_store_to rfl 32 (.tmp 160) (.tmp 157) rfl R 2 #[.slice fa2 fl2 fc2, .int .i64 (Q2.1.2.writes : Int), .bool Q2.1.2.armed, .bool Q2.1.2.dead, .int .i64 (Q2.1.2.after : Int), .int .i64 (Q2.1.2.keep : Int), .slice oa2 on2 oc2, .slice ra2 rn2 rc2, .slice ta2 tn2 tc2] rfl rfl TH7.out (by kernel_rfl) (by simp [Value.oneCell']) ?_; intro w9 hw9; obtain rfl : w8 = w9 := (hw9.trans HW8.out).symm; clear hw9)
          clear HW8 TH7
          as_aux_lemma =>
            have FIN8 : Hid (LI w.heap.size R (i + 1) w w8) := by
              have q1 := sblob_more st' d' x'
              have q2 := sblob_calm OK.out.2 st' x'
              rw [HQ2.out] at q1 q2
              have q3 := BD.out
              have q4 := q1.writes
              have q5 := q1.size
              exact LI.mi MT8.out (q1.ok OK.out.1) q2.1 (by omega)
            have hD8 := writes_duo MT8.out.inv.duo
            have p0 := MT8.out.box.cell (j := 0) rfl
            go_wp2_with fail
            refine hD8.mono ?_
            rintro e ww ⟨rfl, hww⟩
            rw [hww]
            clear hww
            go_wp2_with fail
            refine hD8.mono ?_
            rintro e ww ⟨rfl, hww⟩
            rw [hww]
            clear hww
            go_wp2
            unfold OnceJ at hJ
            go_roundg (gk - 1)
            case measure => omega
            case rel => exact ⟨rfl, i + 1, by go_num, by omega, FIN8.out⟩
        · as_aux_lemma =>
            have hsame := (sblob_calm OK.out.2 st' x').2 (by rw [HQ2.out, ← h6r]; exact hr)
            rw [HQ2.out] at hsame
            have M6 : Hid (Mi (wdV s b d (.slice fa fl fc) (.slice oa on oc) (.slice ra rn rc) (.slice ta tn tc) (.slice xa xn xc) (.slice ya yn yc) (.slice za zn zc)) w.heap.size R O w w6 s b (.slice fa' fl' fc') (.slice oa' on' oc') (.slice ra' rn' rc') (.slice ta' tn' tc') (.slice (some ⟨gx, ox, none⟩) xn' xc') (.slice ya' yn' yc') (.slice za' zn' zc') U6 st' d' bl' tl' cl') := by
              refine M5.out.again ?_
              rw [show st' = Q2.1.1 by rw [hsame], show d' = Q2.1.2 by rw [hsame]]
              exact A6
            have r0 : (r9 == 0) = false := by simpa using hr
            have hD6 := writes_duo M6.out.inv.duo
            have p0 := M6.out.box.cell (j := 0) rfl
            have FIN6 := hid (DONE.out w6 _ M6.out)
            clear bx6 A6 h6i h6r hsame hr
            go_wp2_with fail
            refine hD6.mono ?_
            rintro e ww ⟨rfl, hww⟩
            rw [hww]
            clear hww
            go_wp2
            unfold OnceJ at hJ
            go_roundg (gk - 1)
            case measure => omega
            case rel => exact ⟨rfl, i + 1, by go_num, by omega, FIN6.out⟩

end Go.Proofs.YtikgbjjgpgjmfaaGreat
