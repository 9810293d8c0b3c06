/-
  StoreOnce: a round that puts a tree.
-/
import Derived.Test.YtikgbjjgpgjmfaaGreatVOnceAMg
namespace Go.Proofs.YtikgbjjgpgjmfaaGreat
open Go.RowKit

set_option maxHeartbeats 6400000 in
set_option maxRecDepth 1000000 in
theorem once_tree_ok {w : World} {R O i n c gk g off : Nat} {at_ : Int} {mask : UInt8} {l : List AV} {data : Bs} {ps : List Bs} {qs : List Int} {s b : Nat} {fa oa ra ta xa ya za : Option Addr} {fl fc on oc rn rc tn tc xn xc yn yc zn zc : Nat} {st : St} {d : Dk} {bl tl cl : List UInt64} {k : Int} {da pa qa : Option Addr} {dn dc pn pc qn qc : Nat} {nm : ByteArray} {dt kp : Int} {X : World} {fa' oa' ra' ta' xa' ya' za' : Option Addr} {fl' fc' on' oc' rn' rc' tn' tc' xn' xc' yn' yc' zn' zc' : Nat} {U' : Nat → Prop} {st' : St} {d' : Dk} {bl' tl' cl' : List UInt64} {u3 u4 u5 u6 u8 u11 u12 u13 u14 u15 u16 u17 u18 u19 u20 u21 u22 u23 u24 u25 u26 u27 u28 u29 u30 u31 u32 u33 u34 u35 u36 u37 u38 u39 u40 u41 u42 u43 u44 u45 u46 u47 u48 u49 u50 u51 u52 u53 u54 u55 u56 u57 u58 u59 u60 u61 u62 u63 u64 u65 u66 u67 u68 u69 u70 u71 u72 u73 u74 u75 u76 u77 u78 u79 u80 u81 u82 u83 u84 u85 u86 u87 u88 u89 u90 u91 u92 u93 u94 u95 u96 u97 u98 u99 u100 u101 u102 u103 u104 u105 u106 u107 u108 u109 u110 u111 u112 u113 u114 u115 u116 u117 u118 u119 u120 u121 u122 u123 u124 u125 u126 u127 u128 u129 u130 u131 u132 u133 u134 u135 u136 u137 u138 u139 u140 u141 u142 u143 u144 u145 u146 u147 u148 u149 u150 u151 u152 u153 u154 u155 u156 u157 u158 u159 u160 u161 u162 u163 u164 u165 u166 u167 u168 u169 u170 u171 u172 u173 u174 u175 u176 u177 u178 u179 u180 u181 u182 u183 u184 u185 u186 u187 u188 u189 u190 u191 u192 u193 u194 u195 u196 u197 u198 u199 u200 u201 u202 u203 u204 u205 u206 u207 u208 u209 u210 u211 u212 u213 u214 u215 u216 u217 u218 u219 u220 u221 u222 u223 u224 u225 u226 u227 u228 u229 u230 u231 u232 u233 u234 u235 u236 u237 u238 u239 u240 u241 u242 u243 u244 u245 u246 u247 u248 u249 u250 u251 u252 u253 u254 : Value}
    (HA : Hid (Acts w (some ⟨g, off, none⟩) n l)) (hi : i + gk = min n 40) (hin : i < min n 40) (id : (i : Int) < (n : Int)) (id0 : (0 : Int) ≤ (i : Int)) (HHA : Hid (l[i]? = some (⟨k, da, dn, dc, pa, pn, pc, qa, qn, qc, nm, dt, kp⟩ : AV))) (HAT : Hid (ActAt w (⟨k, da, dn, dc, pa, pn, pc, qa, qn, qc, nm, dt, kp⟩ : AV) data ps qs)) (_HSZ : Hid (R < O)) (HRB : Hid (w.heap.size ≤ R)) (HS : Hid (d.ok ∧ Calm d ∧ d.writes ≤ 2 * i ∧ st.size ≤ 2 * i ∧ bl.length ≤ i ∧ tl.length ≤ i ∧ cl.length ≤ i ∧ w.heap.size ≤ R))
    (HX : Hid (WI w.heap.size (fun j => j = R ∨ j = O) X s b (.slice fa' fl' fc') (.slice oa' on' oc') (.slice ra' rn' rc') (.slice ta' tn' tc') (.slice xa' xn' xc') (.slice ya' yn' yc') (.slice za' zn' zc') U' st' d' bl' tl' cl' ∧ BoxA X R 35 (wdV s b d' (.slice fa' fl' fc') (.slice oa' on' oc') (.slice ra' rn' rc') (.slice ta' tn' tc') (.slice xa' xn' xc') (.slice ya' yn' yc') (.slice za' zn' zc')) ∧ BoxA X O 35 (wdV s b d (.slice fa fl fc) (.slice oa on oc) (.slice ra rn rc) (.slice ta tn tc) (.slice xa xn xc) (.slice ya yn yc) (.slice za zn zc)) ∧ Below w.heap.size w X ∧ OwnG encU 56 X w.heap.size (.slice xa xn xc) bl ∧ OwnG encU 56 X w.heap.size (.slice ya yn yc) tl ∧ OwnG encU 56 X w.heap.size (.slice za zn zc) cl ∧ Rel k data ps qs dt st d bl tl cl st' d' bl' tl' cl')) (hk : k = 1) {Q : (St × Dk) × UInt64 × Int} (hQ : stree st d (aents ps qs bl) = Q) (e1 : st' = Q.1.1) (e2 : d' = Q.1.2) (e3 : tl' = if Q.2.2 = 0 then tl ++ [Q.2.1] else tl) (hz : Q.2.2 = 0)
    {J : Nat → Act → World → Prop} {K1 K2 K3 : Act → World → Prop} {P0 : Ending → World → Prop} (hJ : OnceJ w R n c g off at_ mask u3 u4 u5 u15 u16 u17 u18 u19 u20 u254 J) (hK2 : ∀ (a' : Act) (w' : World), Handed J gk a' w' → K2 a' w') :
    let Q' : Exit → Act → World → Prop := bodyPost Tryz.prog Tryz.f6 P0
    (∀ (a : Act) (w : World), Code.wp Tryz.prog once6 (Exit.then K2 (Exit.inBlock 0 (Exit.then K3 Q'))) a w → K1 a w) → u8 = .bool true →
    Code.wp Tryz.prog onceRest (Exit.inBlock 1 (Exit.then K1 (Exit.then K2 (Exit.inBlock 0 (Exit.then K3 Q'))))) ⟨#[.slice (some ⟨g, off, none⟩) n c, .int .i64 at_, .int .u8 (mask.toNat : Int), u3, u4, u5, u6, .pointer (some ⟨R, 0, none⟩), u8, .int .i64 (i : Int), .pointer (some ⟨O, 0, none⟩), u11, u12, u13, u14, u15, u16, u17, u18, u19, u20, u21, u22, u23, u24, u25, u26, u27, u28, u29, u30, u31, u32, u33, u34, u35, u36, u37, u38, u39, u40, u41, u42, u43, u44, u45, u46, u47, u48, u49, u50, u51, u52, u53, u54, u55, u56, u57, u58, u59, u60, u61, u62, u63, u64, u65, u66, u67, u68, u69, u70, u71, u72, u73, u74, u75, u76, u77, u78, u79, u80, u81, u82, u83, u84, u85, u86, u87, u88, u89, u90, u91, u92, u93, u94, u95, u96, u97, u98, u99, u100, u101, u102, u103, u104, u105, u106, u107, u108, u109, u110, u111, u112, u113, u114, u115, u116, u117, u118, u119, u120, u121, u122, u123, u124, u125, u126, u127, u128, u129, u130, u131, u132, u133, u134, u135, u136, u137, u138, u139, u140, u141, u142, u143, u144, u145, u146, u147, u148, u149, u150, u151, u152, u153, u154, u155, u156, u157, u158, u159, u160, u161, u162, u163, u164, u165, u166, u167, u168, u169, u170, u171, u172, u173, u174, u175, u176, u177, u178, u179, u180, u181, u182, u183, u184, u185, u186, u187, u188, u189, u190, u191, u192, u193, u194, u195, u196, u197, u198, u199, u200, u201, u202, u203, u204, u205, u206, u207, u208, u209, u210, u211, u212, u213, u214, u215, u216, u217, u218, u219, u220, u221, u222, u223, u224, u225, u226, u227, u228, u229, u230, u231, u232, u233, u234, u235, u236, u237, u238, u239, u240, u241, u242, u243, u244, u245, u246, u247, u248, u249, u250, u251, u252, u253, u254], []⟩ X := by
  intro Q' hK1 h8
  subst h8
  conv => arg 2; whnf
  conv at hK1 => enter [a, w, 1, 2]; whnf
  obtain ⟨x1, x2, x3, x4, x5, x6, x7, x8⟩ := HX.out
  have MR := hid (x8.more HS.out.2.1)
  have hD := writes_duo x1.duo
  have l1 := x1.ob.size
  have l2 := x1.ot.size
  have l3 := x1.oc.size
  have l1' := x5.size
  have l2' := x6.size
  have l3' := x7.size
  have M0 : Hid (Mi (wdV s b d (.slice fa fl fc) (.slice oa on oc) (.slice ra rn rc) (.slice ta tn tc) (.slice xa xn xc) (.slice ya yn yc) (.slice za zn zc)) w.heap.size R O w X s b (.slice fa' fl' fc') (.slice oa' on' oc') (.slice ra' rn' rc') (.slice ta' tn' tc') (.slice xa' xn' xc') (.slice ya' yn' yc') (.slice za' zn' zc') U' st' d' bl' tl' cl') := ⟨x1, x2, x4, HRB.out, x3⟩
  have BD : Hid (d'.writes ≤ 2 * i + 1 ∧ st'.size ≤ 2 * i + 1 ∧ bl'.length ≤ i + 1 ∧ tl'.length ≤ i + 1 ∧ cl'.length ≤ i + 1) := by
    have q1 := MR.out.1.writes
    have q2 := MR.out.1.size
    have q3 := MR.out.2.2
    have q4 := HS.out.2.2
    refine ⟨?_, ?_, ?_, ?_, ?_⟩ <;> omega
  have OK := hid (And.intro (MR.out.1.ok HS.out.1) MR.out.2.1)
  have DONE : Hid (∀ u U1, Mi (wdV s b d (.slice fa fl fc) (.slice oa on oc) (.slice ra rn rc) (.slice ta tn tc) (.slice xa xn xc) (.slice ya yn yc) (.slice za zn zc)) w.heap.size R O w u s b (.slice fa' fl' fc') (.slice oa' on' oc') (.slice ra' rn' rc') (.slice ta' tn' tc') (.slice xa' xn' xc') (.slice ya' yn' yc') (.slice za' zn' zc') U1 st' d' bl' tl' cl' → LI w.heap.size R (i + 1) w u) := by
    intro u U1 h
    have q := BD.out
    exact LI.mi h OK.out.1 OK.out.2 (by omega)
  have FIN := hid (DONE.out X _ M0.out)
  have p0 := x2.cell (j := 0) rfl
  have p1 := x2.cell (j := 1) rfl
  have p11 := x2.cell (j := 11) rfl
  have p12 := x2.cell (j := 12) rfl
  have p13 := x2.cell (j := 13) rfl
  have o11 := x3.cell (j := 11) rfl
  have o12 := x3.cell (j := 12) rfl
  have o13 := x3.cell (j := 13) rfl
  obtain ⟨hbX, c0, c1, c2, c3, c4, c5, c6⟩ := (HA.out.rd.below x4).acts HHA.out
  simp only at c0 c1 c2 c3 c4 c5 c6
  clear x2 x3 x4 x5 x6 x7
  subst hk
  rw [if_pos hz] at e3
  obtain ⟨gx, ox, ea, hgx, cx, hxn⟩ := (show OwnG encU 56 X w.heap.size (.slice ya' yn' yc') (tl ++ [Q.2.1]) by rw [← e3]; exact x1.ot).last
  subst ea
  obtain ⟨m, hm⟩ : ∃ m, tl.length = m := ⟨_, rfl⟩
  have hnm : yn = m := by rw [← hm, l2']
  rw [hm] at hxn
  have hlt0 : (yn : Int) < (yn' : Int) := by omega
  have HQ := hid (And.intro hQ (And.intro hz (And.intro e1 e2)))
  have HE3 := hid e3
  have HHM := hid hm
  obtain ⟨qi, hqi⟩ : ∃ qi : Int, (Q.2.1.toNat : Int) = qi := ⟨_, rfl⟩
  have HQI := hid hqi
  have hm0 : (0 : Int) ≤ (m : Int) := by omega
  have hm1 : (m : Int) < (yn' : Int) := by omega
  have hmw : IntKind.i64.wrap ((yn' : Int) - 1) = (m : Int) := by rw [IntKind.wrap_i64]; have := BD.out; have := HS.out.2.2; omega
  obtain ⟨es, hes⟩ : ∃ es, aents ps qs bl = es := ⟨_, rfl⟩
  have hel : es.length = pn := by rw [← hes]; unfold aents; simp [HAT.out.pl]
  have hFn : Fine es := by
    intro e he
    rw [← hes] at he
    unfold aents at he
    rw [List.mem_map] at he
    obtain ⟨i, hi, rfl⟩ := he
    rw [List.mem_range] at hi
    unfold aent
    rw [List.getD_eq_getElem?_getD, List.getElem?_eq_getElem hi]
    exact HAT.out.pf _ (List.getElem_mem hi)
  have HDL := hid (And.intro HAT.out.pm HAT.out.qm)
  simp only at HDL
  rw [hes] at hQ
  have EN := hid (aents_any (w := X.drew) (pc := pc) (qc := qc) (bc := xc) (dv := .slice da dn dc) 1 nm dt kp (HAT.out.hp.below M0.out.drew.bel) HAT.out.pl HAT.out.pm (HAT.out.hq.below M0.out.drew.bel) HAT.out.ql (by have := HDL.out; simp only; omega) (HX.out.2.2.2.2.1.rdc.1.below (Below.refl _ _).drew) l1' (by have := HS.out.2.2; omega))
  rw [hes] at EN
  have TP := hid (again_tree M0.out.drew hQ hz e1 e2 hel (by have := HDL.out; omega) hFn OK.out.1 (by have := BD.out; omega) (by have := BD.out; omega) qi hqi)
  have HEL := hid hel
  have KB : Hid (∀ u U1, Mi (wdV s b d (.slice fa fl fc) (.slice oa on oc) (.slice ra rn rc) (.slice ta tn tc) (.slice xa xn xc) (.slice ya yn yc) (.slice za zn zc)) w.heap.size R O w u s b (.slice fa' fl' fc') (.slice oa' on' oc') (.slice ra' rn' rc') (.slice ta' tn' tc') (.slice xa' xn' xc') (.slice (some ⟨gx, ox, none⟩) yn' yc') (.slice za' zn' zc') U1 st' d' bl' tl' cl' → u.cell? ⟨R, 1, none⟩ = some (.pointer (some ⟨s, 0, none⟩)) ∧ u.cell? ⟨g, off + i * 7, none⟩ = some (.int .i64 1) ∧ u.cell? ⟨g, off + i * 7 + 1, none⟩ = some (.slice da dn dc) ∧ u.cell? ⟨g, off + i * 7 + 2, none⟩ = some (.slice pa pn pc) ∧ u.cell? ⟨g, off + i * 7 + 3, none⟩ = some (.slice qa qn qc) ∧ u.cell? ⟨g, off + i * 7 + 4, none⟩ = some (.string nm) ∧ u.cell? ⟨g, off + i * 7 + 5, none⟩ = some (.int .i64 dt) ∧ u.cell? ⟨g, off + i * 7 + 6, none⟩ = some (.int .i64 kp) ∧ u.cell? ⟨O, 11, none⟩ = some (.slice xa xn xc)) := by
    intro u U1 h
    obtain ⟨_, c0, c1, c2, c3, c4, c5, c6⟩ := (HA.out.rd.below h.bel).acts HHA.out
    exact ⟨h.box.cell (j := 1) rfl, c0, c1, c2, c3, c4, c5, c6, h.old.cell (j := 11) rfl⟩
  clear hes hel hFn
  clear x1 l1 l2 l3 l1' l2' l3' e1 e2 e3 hQ hz hqi hm hnm hxn cx
  go_wp2_with fail
  refine hD.mono ?_
  rintro e ww ⟨rfl, hww⟩
  rw [hww]
  clear hww
  go_upto_region 29 with fail
  go_cut [12, 13] from 21 to 253 (fun iv ev u => ∃ v, v = u ∧ iv = .int .u64 qi ∧ ev = .int .i64 0 ∧ Hid (∃ U1, Mi (wdV s b d (.slice fa fl fc) (.slice oa on oc) (.slice ra rn rc) (.slice ta tn tc) (.slice xa xn xc) (.slice ya yn yc) (.slice za zn zc)) w.heap.size R O w v s b (.slice fa' fl' fc') (.slice oa' on' oc') (.slice ra' rn' rc') (.slice ta' tn' tc') (.slice xa' xn' xc') (.slice (some ⟨gx, ox, none⟩) yn' yc') (.slice za' zn' zc') U1 st' d' bl' tl' cl'))
  case first =>
    as_aux_lemma =>
      have k0 := KB.out X.drew _ M0.out.drew
      go_region_held3 (fun u => u.cell? ⟨R, 1, none⟩ = some (.pointer (some ⟨s, 0, none⟩)) ∧ u.cell? ⟨g, off + i * 7, none⟩ = some (.int .i64 1) ∧ u.cell? ⟨g, off + i * 7 + 1, none⟩ = some (.slice da dn dc) ∧ u.cell? ⟨g, off + i * 7 + 2, none⟩ = some (.slice pa pn pc) ∧ u.cell? ⟨g, off + i * 7 + 3, none⟩ = some (.slice qa qn qc) ∧ u.cell? ⟨g, off + i * 7 + 4, none⟩ = some (.string nm) ∧ u.cell? ⟨g, off + i * 7 + 5, none⟩ = some (.int .i64 dt) ∧ u.cell? ⟨g, off + i * 7 + 6, none⟩ = some (.int .i64 kp) ∧ u.cell? ⟨O, 11, none⟩ = some (.slice xa xn xc)) (first | with_reducible exact k9 | with_reducible exact k3 | with_reducible exact k0)
        (first
          | (go_at_call 27; (with_reducible refine P2.out.mono ?_); rintro e w4 ⟨v4, rfl, H4⟩; obtain ⟨e4, U4, h4⟩ := H4.out; subst e4; have k9 := KB.out w4 _ h4; have H9 := hid h4; clear h4)
          | (go_at_call 28; (with_reducible refine EN.out.mono ?_); rintro e w3 ⟨v2, rfl, H2⟩; obtain ⟨a3, c3', e3', _, _⟩ := H2.out.1.whole HEL.out; subst e3'; have P2 := hid (TP.out w3 H2.out.2 a3 c3' H2.out.1); have k3 := KB.out w3 _ (M0.out.drew.below H2.out.2)))
      all_goals
        go_wp2_with fail
        go_meet
        exact ⟨_, rfl, rfl, rfl, _, H9.out⟩
  case rest =>
    as_aux_lemma =>
      obtain ⟨X1, rfl, rfl, rfl, H1⟩ := hcut
      obtain ⟨U1, M1⟩ := H1.out
      have hD1 := writes_duo M1.inv.duo
      obtain ⟨g1, o1, e0, h01, cx1, h02⟩ := (show OwnG encU 56 X1 w.heap.size (.slice (some ⟨gx, ox, none⟩) yn' yc') (tl ++ [Q.2.1]) by rw [← HE3.out]; exact M1.inv.ot).last
      cases e0
      rw [HQI.out, HHM.out] at cx1
      clear h01 h02
      clear p0 p1 p11 p12 p13 o11 o12 o13 c0 c1 c2 c3 c4 c5 c6 hbX hD
      have p0 := M1.box.cell (j := 0) rfl
      have p1 := M1.box.cell (j := 1) rfl
      have p11 := M1.box.cell (j := 11) rfl
      have p12 := M1.box.cell (j := 12) rfl
      have p13 := M1.box.cell (j := 13) rfl
      obtain ⟨hbX1, c0, c1, c2, c3, c4, c5, c6⟩ := (HA.out.rd.below M1.bel).acts HHA.out
      simp only at c0 c1 c2 c3 c4 c5 c6
      have FIN1 := hid (DONE.out X1 _ M1)
      have HM1 := hid M1
      clear M1 H1
      go_wp2_with fail
      refine hD1.mono ?_
      rintro e ww ⟨rfl, hww⟩
      rw [hww]
      clear hww
      go_wp2
      unfold OnceJ at hJ
      go_roundg (gk - 1)
      case measure => omega
      case rel => exact ⟨rfl, i + 1, by go_num, by omega, FIN1.out⟩

set_option maxHeartbeats 6400000 in
set_option maxRecDepth 1000000 in
theorem once_tree_no {w : World} {R O i n c gk g off : Nat} {at_ : Int} {mask : UInt8} {l : List AV} {data : Bs} {ps : List Bs} {qs : List Int} {s b : Nat} {fa oa ra ta xa ya za : Option Addr} {fl fc on oc rn rc tn tc xn xc yn yc zn zc : Nat} {st : St} {d : Dk} {bl tl cl : List UInt64} {k : Int} {da pa qa : Option Addr} {dn dc pn pc qn qc : Nat} {nm : ByteArray} {dt kp : Int} {X : World} {fa' oa' ra' ta' xa' ya' za' : Option Addr} {fl' fc' on' oc' rn' rc' tn' tc' xn' xc' yn' yc' zn' zc' : Nat} {U' : Nat → Prop} {st' : St} {d' : Dk} {bl' tl' cl' : List UInt64} {u3 u4 u5 u6 u8 u11 u12 u13 u14 u15 u16 u17 u18 u19 u20 u21 u22 u23 u24 u25 u26 u27 u28 u29 u30 u31 u32 u33 u34 u35 u36 u37 u38 u39 u40 u41 u42 u43 u44 u45 u46 u47 u48 u49 u50 u51 u52 u53 u54 u55 u56 u57 u58 u59 u60 u61 u62 u63 u64 u65 u66 u67 u68 u69 u70 u71 u72 u73 u74 u75 u76 u77 u78 u79 u80 u81 u82 u83 u84 u85 u86 u87 u88 u89 u90 u91 u92 u93 u94 u95 u96 u97 u98 u99 u100 u101 u102 u103 u104 u105 u106 u107 u108 u109 u110 u111 u112 u113 u114 u115 u116 u117 u118 u119 u120 u121 u122 u123 u124 u125 u126 u127 u128 u129 u130 u131 u132 u133 u134 u135 u136 u137 u138 u139 u140 u141 u142 u143 u144 u145 u146 u147 u148 u149 u150 u151 u152 u153 u154 u155 u156 u157 u158 u159 u160 u161 u162 u163 u164 u165 u166 u167 u168 u169 u170 u171 u172 u173 u174 u175 u176 u177 u178 u179 u180 u181 u182 u183 u184 u185 u186 u187 u188 u189 u190 u191 u192 u193 u194 u195 u196 u197 u198 u199 u200 u201 u202 u203 u204 u205 u206 u207 u208 u209 u210 u211 u212 u213 u214 u215 u216 u217 u218 u219 u220 u221 u222 u223 u224 u225 u226 u227 u228 u229 u230 u231 u232 u233 u234 u235 u236 u237 u238 u239 u240 u241 u242 u243 u244 u245 u246 u247 u248 u249 u250 u251 u252 u253 u254 : Value}
    (HA : Hid (Acts w (some ⟨g, off, none⟩) n l)) (hi : i + gk = min n 40) (hin : i < min n 40) (id : (i : Int) < (n : Int)) (id0 : (0 : Int) ≤ (i : Int)) (HHA : Hid (l[i]? = some (⟨k, da, dn, dc, pa, pn, pc, qa, qn, qc, nm, dt, kp⟩ : AV))) (HAT : Hid (ActAt w (⟨k, da, dn, dc, pa, pn, pc, qa, qn, qc, nm, dt, kp⟩ : AV) data ps qs)) (_HSZ : Hid (R < O)) (HRB : Hid (w.heap.size ≤ R)) (HS : Hid (d.ok ∧ Calm d ∧ d.writes ≤ 2 * i ∧ st.size ≤ 2 * i ∧ bl.length ≤ i ∧ tl.length ≤ i ∧ cl.length ≤ i ∧ w.heap.size ≤ R))
    (HX : Hid (WI w.heap.size (fun j => j = R ∨ j = O) X s b (.slice fa' fl' fc') (.slice oa' on' oc') (.slice ra' rn' rc') (.slice ta' tn' tc') (.slice xa' xn' xc') (.slice ya' yn' yc') (.slice za' zn' zc') U' st' d' bl' tl' cl' ∧ BoxA X R 35 (wdV s b d' (.slice fa' fl' fc') (.slice oa' on' oc') (.slice ra' rn' rc') (.slice ta' tn' tc') (.slice xa' xn' xc') (.slice ya' yn' yc') (.slice za' zn' zc')) ∧ BoxA X O 35 (wdV s b d (.slice fa fl fc) (.slice oa on oc) (.slice ra rn rc) (.slice ta tn tc) (.slice xa xn xc) (.slice ya yn yc) (.slice za zn zc)) ∧ Below w.heap.size w X ∧ OwnG encU 56 X w.heap.size (.slice xa xn xc) bl ∧ OwnG encU 56 X w.heap.size (.slice ya yn yc) tl ∧ OwnG encU 56 X w.heap.size (.slice za zn zc) cl ∧ Rel k data ps qs dt st d bl tl cl st' d' bl' tl' cl')) (hk : k = 1) {Q : (St × Dk) × UInt64 × Int} (_hQ : stree st d (aents ps qs bl) = Q) (_e1 : st' = Q.1.1) (_e2 : d' = Q.1.2) (e3 : tl' = if Q.2.2 = 0 then tl ++ [Q.2.1] else tl) (hz : ¬ Q.2.2 = 0)
    {J : Nat → Act → World → Prop} {K1 K2 K3 : Act → World → Prop} {P0 : Ending → World → Prop} (hJ : OnceJ w R n c g off at_ mask u3 u4 u5 u15 u16 u17 u18 u19 u20 u254 J) (hK2 : ∀ (a' : Act) (w' : World), Handed J gk a' w' → K2 a' w') :
    let Q' : Exit → Act → World → Prop := bodyPost Tryz.prog Tryz.f6 P0
    (∀ (a : Act) (w : World), Code.wp Tryz.prog once6 (Exit.then K2 (Exit.inBlock 0 (Exit.then K3 Q'))) a w → K1 a w) → u8 = .bool true →
    Code.wp Tryz.prog onceRest (Exit.inBlock 1 (Exit.then K1 (Exit.then K2 (Exit.inBlock 0 (Exit.then K3 Q'))))) ⟨#[.slice (some ⟨g, off, none⟩) n c, .int .i64 at_, .int .u8 (mask.toNat : Int), u3, u4, u5, u6, .pointer (some ⟨R, 0, none⟩), u8, .int .i64 (i : Int), .pointer (some ⟨O, 0, none⟩), u11, u12, u13, u14, u15, u16, u17, u18, u19, u20, u21, u22, u23, u24, u25, u26, u27, u28, u29, u30, u31, u32, u33, u34, u35, u36, u37, u38, u39, u40, u41, u42, u43, u44, u45, u46, u47, u48, u49, u50, u51, u52, u53, u54, u55, u56, u57, u58, u59, u60, u61, u62, u63, u64, u65, u66, u67, u68, u69, u70, u71, u72, u73, u74, u75, u76, u77, u78, u79, u80, u81, u82, u83, u84, u85, u86, u87, u88, u89, u90, u91, u92, u93, u94, u95, u96, u97, u98, u99, u100, u101, u102, u103, u104, u105, u106, u107, u108, u109, u110, u111, u112, u113, u114, u115, u116, u117, u118, u119, u120, u121, u122, u123, u124, u125, u126, u127, u128, u129, u130, u131, u132, u133, u134, u135, u136, u137, u138, u139, u140, u141, u142, u143, u144, u145, u146, u147, u148, u149, u150, u151, u152, u153, u154, u155, u156, u157, u158, u159, u160, u161, u162, u163, u164, u165, u166, u167, u168, u169, u170, u171, u172, u173, u174, u175, u176, u177, u178, u179, u180, u181, u182, u183, u184, u185, u186, u187, u188, u189, u190, u191, u192, u193, u194, u195, u196, u197, u198, u199, u200, u201, u202, u203, u204, u205, u206, u207, u208, u209, u210, u211, u212, u213, u214, u215, u216, u217, u218, u219, u220, u221, u222, u223, u224, u225, u226, u227, u228, u229, u230, u231, u232, u233, u234, u235, u236, u237, u238, u239, u240, u241, u242, u243, u244, u245, u246, u247, u248, u249, u250, u251, u252, u253, u254], []⟩ X := by
  intro Q' hK1 h8
  subst h8
  conv => arg 2; whnf
  conv at hK1 => enter [a, w, 1, 2]; whnf
  obtain ⟨x1, x2, x3, x4, x5, x6, x7, x8⟩ := HX.out
  have MR := hid (x8.more HS.out.2.1)
  have hD := writes_duo x1.duo
  have l1 := x1.ob.size
  have l2 := x1.ot.size
  have l3 := x1.oc.size
  have l1' := x5.size
  have l2' := x6.size
  have l3' := x7.size
  have M0 : Hid (Mi (wdV s b d (.slice fa fl fc) (.slice oa on oc) (.slice ra rn rc) (.slice ta tn tc) (.slice xa xn xc) (.slice ya yn yc) (.slice za zn zc)) w.heap.size R O w X s b (.slice fa' fl' fc') (.slice oa' on' oc') (.slice ra' rn' rc') (.slice ta' tn' tc') (.slice xa' xn' xc') (.slice ya' yn' yc') (.slice za' zn' zc') U' st' d' bl' tl' cl') := ⟨x1, x2, x4, HRB.out, x3⟩
  have BD : Hid (d'.writes ≤ 2 * i + 1 ∧ st'.size ≤ 2 * i + 1 ∧ bl'.length ≤ i + 1 ∧ tl'.length ≤ i + 1 ∧ cl'.length ≤ i + 1) := by
    have q1 := MR.out.1.writes
    have q2 := MR.out.1.size
    have q3 := MR.out.2.2
    have q4 := HS.out.2.2
    refine ⟨?_, ?_, ?_, ?_, ?_⟩ <;> omega
  have OK := hid (And.intro (MR.out.1.ok HS.out.1) MR.out.2.1)
  have DONE : Hid (∀ u U1, Mi (wdV s b d (.slice fa fl fc) (.slice oa on oc) (.slice ra rn rc) (.slice ta tn tc) (.slice xa xn xc) (.slice ya yn yc) (.slice za zn zc)) w.heap.size R O w u s b (.slice fa' fl' fc') (.slice oa' on' oc') (.slice ra' rn' rc') (.slice ta' tn' tc') (.slice xa' xn' xc') (.slice ya' yn' yc') (.slice za' zn' zc') U1 st' d' bl' tl' cl' → LI w.heap.size R (i + 1) w u) := by
    intro u U1 h
    have q := BD.out
    exact LI.mi h OK.out.1 OK.out.2 (by omega)
  have FIN := hid (DONE.out X _ M0.out)
  have p0 := x2.cell (j := 0) rfl
  have p1 := x2.cell (j := 1) rfl
  have p11 := x2.cell (j := 11) rfl
  have p12 := x2.cell (j := 12) rfl
  have p13 := x2.cell (j := 13) rfl
  have o11 := x3.cell (j := 11) rfl
  have o12 := x3.cell (j := 12) rfl
  have o13 := x3.cell (j := 13) rfl
  obtain ⟨hbX, c0, c1, c2, c3, c4, c5, c6⟩ := (HA.out.rd.below x4).acts HHA.out
  simp only at c0 c1 c2 c3 c4 c5 c6
  clear x2 x3 x4 x5 x6 x7
  subst hk
  rw [if_neg hz] at e3
  have ex : yn' = yn := by rw [← l2, ← l2', e3]
  subst ex
  clear x1 l1 l2 l3 l1' l2' l3' _e1 _e2 e3 _hQ
  as_aux_lemma =>
    go_wp2_with fail
    refine hD.mono ?_
    rintro e ww ⟨rfl, hww⟩
    rw [hww]
    clear hww
    go_wp2_with fail
    refine hD.mono ?_
    rintro e ww ⟨rfl, hww⟩
    rw [hww]
    clear hww
    go_wp2
    unfold OnceJ at hJ
    go_roundg (gk - 1)
    case measure => omega
    case rel => exact ⟨rfl, i + 1, by go_num, by omega, FIN.out⟩

end Go.Proofs.YtikgbjjgpgjmfaaGreat
