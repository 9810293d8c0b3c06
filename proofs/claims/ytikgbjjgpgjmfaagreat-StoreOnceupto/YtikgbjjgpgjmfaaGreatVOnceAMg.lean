/-
  StoreOnce: what holds between two rounds, and the call of Play within one.
-/
import Derived.Test.YtikgbjjgpgjmfaaGreatVTwiceMg
import Derived.Test.YtikgbjjgpgjmfaaGreatVStoreMg
namespace Go.Proofs.YtikgbjjgpgjmfaaGreat
open Go.RowKit

/-- Between two rounds: i acts were played. -/
def LI (B R i : Nat) (w0 u : World) : Prop := ∃ s b fa fl fc oa on oc ra rn rc ta tn tc xa xn xc ya yn yc za zn zc U st d bl tl cl,
  WI B (fun j => j = R) u s b (.slice fa fl fc) (.slice oa on oc) (.slice ra rn rc) (.slice ta tn tc) (.slice xa xn xc) (.slice ya yn yc) (.slice za zn zc) U st d bl tl cl ∧ BoxA u R 35 (wdV s b d (.slice fa fl fc) (.slice oa on oc) (.slice ra rn rc) (.slice ta tn tc) (.slice xa xn xc) (.slice ya yn yc) (.slice za zn zc)) ∧ Below B w0 u ∧ d.ok ∧ Calm d ∧ d.writes ≤ 2 * i ∧ st.size ≤ 2 * i ∧ bl.length ≤ i ∧ tl.length ≤ i ∧ cl.length ≤ i ∧ B ≤ R

theorem LI.below {B R i : Nat} {w0 u u' : World} (h : LI B R i w0 u) (hb : Below u.heap.size u u') : LI B R i w0 u' := by
  obtain ⟨s, b, fa, fl, fc, oa, on, oc, ra, rn, rc, ta, tn, tc, xa, xn, xc, ya, yn, yc, za, zn, zc, U, st, d, bl, tl, cl, h1, h2, h3, h4⟩ := h
  exact ⟨s, b, fa, fl, fc, oa, on, oc, ra, rn, rc, ta, tn, tc, xa, xn, xc, ya, yn, yc, za, zn, zc, U, st, d, bl, tl, cl, h1.below hb, h2.below hb h2.lt, h3.trans (hb.mono (Nat.le_trans h4.2.2.2.2.2.2.2 (Nat.le_of_lt h2.lt))), h4⟩
theorem LI.next {B R i : Nat} {w0 u : World} (h : LI B R i w0 u) : LI B R (i + 1) w0 u := by
  obtain ⟨s, b, fa, fl, fc, oa, on, oc, ra, rn, rc, ta, tn, tc, xa, xn, xc, ya, yn, yc, za, zn, zc, U, st, d, bl, tl, cl, h1, h2, h3, h4, h4', h5, h6, h7, h8, h9, h10⟩ := h
  exact ⟨s, b, fa, fl, fc, oa, on, oc, ra, rn, rc, ta, tn, tc, xa, xn, xc, ya, yn, yc, za, zn, zc, U, st, d, bl, tl, cl, h1, h2, h3, h4, h4', by omega, by omega, by omega, by omega, by omega, h10⟩
theorem LI.world {B R i : Nat} {w0 u : World} (h : LI B R i w0 u) : Below B w0 u := by
  obtain ⟨_, _, _, _, _, _, _, _, _, _, _, _, _, _, _, _, _, _, _, _, _, _, _, _, _, _, _, _, _, _, _, h3, _⟩ := h
  exact h3
theorem LI.of {B R O i : Nat} {w0 u : World} {s b : Nat} {fa oa ra ta xa ya za : Option Addr} {fl fc on oc rn rc tn tc xn xc yn yc zn zc : Nat} {U : Nat → Prop} {st : St} {d : Dk} {bl tl cl : List UInt64} (h1 : WI B (fun j => j = R ∨ j = O) u s b (.slice fa fl fc) (.slice oa on oc) (.slice ra rn rc) (.slice ta tn tc) (.slice xa xn xc) (.slice ya yn yc) (.slice za zn zc) U st d bl tl cl) (h2 : BoxA u R 35 (wdV s b d (.slice fa fl fc) (.slice oa on oc) (.slice ra rn rc) (.slice ta tn tc) (.slice xa xn xc) (.slice ya yn yc) (.slice za zn zc))) (h3 : Below B w0 u) (h4 : d.ok) (h5 : Calm d) (h6 : d.writes ≤ 2 * i) (h7 : st.size ≤ 2 * i) (h8 : bl.length ≤ i) (h9 : tl.length ≤ i) (h10 : cl.length ≤ i) (h11 : B ≤ R) : LI B R i w0 u :=
  ⟨s, b, fa, fl, fc, oa, on, oc, ra, rn, rc, ta, tn, tc, xa, xn, xc, ya, yn, yc, za, zn, zc, U, st, d, bl, tl, cl, h1.less (fun _ q => .inl q), h2, h3, h4, h5, h6, h7, h8, h9, h10, h11⟩

theorem LI.mi {B R O i : Nat} {w0 u : World} {s b : Nat} {fa oa ra ta xa ya za : Option Addr} {fl fc on oc rn rc tn tc xn xc yn yc zn zc : Nat} {U : Nat → Prop} {st : St} {d : Dk} {bl tl cl : List UInt64} {co : Array Value} (h : Mi co B R O w0 u s b (.slice fa fl fc) (.slice oa on oc) (.slice ra rn rc) (.slice ta tn tc) (.slice xa xn xc) (.slice ya yn yc) (.slice za zn zc) U st d bl tl cl) (h4 : d.ok) (h5 : Calm d) (h6 : d.writes ≤ 2 * i ∧ st.size ≤ 2 * i ∧ bl.length ≤ i ∧ tl.length ≤ i ∧ cl.length ≤ i) : LI B R i w0 u :=
  LI.of h.inv h.box h.bel h4 h5 h6.1 h6.2.1 h6.2.2.1 h6.2.2.2.1 h6.2.2.2.2 h.hR

/-- The start. -/
theorem LI.start {w w1 w2 : World} {s b : Nat} (h1 : Below w.heap.size w w1) (hd : Duo w2 s b st0 dk0 (fun i => w1.heap.size ≤ i ∧ i < w2.heap.size)) (h2 : Below w1.heap.size w1 w2) : LI w.heap.size w2.heap.size 0 w (w2.alloc (.cells (wdV s b dk0 nilV nilV nilV nilV nilV nilV nilV) 35)) := by
  have b2 : Below w.heap.size w w2 := h1.trans (h2.mono h1.size)
  have b3 := bz1 w2 (.cells (wdV s b dk0 nilV nilV nilV nilV nilV nilV nilV) 35)
  refine ⟨s, b, none, 0, 0, none, 0, 0, none, 0, 0, none, 0, 0, none, 0, 0, none, 0, 0, none, 0, 0, _, st0, dk0, [], [], [], ⟨hd.below b3, fun i q => ?_, rms0 _ _, fun i q r => ?_, fun i q => ?_, OwnG.nil _ _ _ _, OwnG.nil _ _ _ _, OwnG.nil _ _ _ _, fun g q => (by cases q), fun g q => (by cases q), fun g q => (by cases q), fun g q => (by cases q), fun g q => (by cases q), fun g q => (by cases q)⟩, BoxA.new _ _ _, b2.trans (b3.mono b2.size), Dk.ok0, ⟨rfl, rfl⟩, by decide, by decide, by decide, by decide, by decide, b2.size⟩
  · have := q.1
    have := h1.size
    omega
  · have r' : i = w2.heap.size := r
    rcases q with q | q | q | q
    · have := q.2
      omega
    · cases q
    · cases q
    · cases q
  · have q' : i = w2.heap.size := q
    rw [q']
    simp

theorem set14 (a0 a1 a2 a3 a4 a5 a6 a7 a8 a9 a10 a11 a12 a13 n0 n1 n2 n3 n4 n5 n6 n7 n8 n9 n10 n11 n12 n13 : Value) : setL #[a0, a1, a2, a3, a4, a5, a6, a7, a8, a9, a10, a11, a12, a13] [n0, n1, n2, n3, n4, n5, n6, n7, n8, n9, n10, n11, n12, n13] 0 = #[n0, n1, n2, n3, n4, n5, n6, n7, n8, n9, n10, n11, n12, n13] := by simp [setL]


/-- The code of a region; what stands behind one. -/
def regionOf (n : Nat) : Code → Option Code
  | .region i ops dr => if i = n then some (.region i ops dr) else none
  | .seq a b => match regionOf n a with
    | some c => some c
    | none => regionOf n b
  | .cond _ a b => match regionOf n a with
    | some c => some c
    | none => regionOf n b
  | .block _ c => regionOf n c
  | .loop c => regionOf n c
  | _ => none
def behindOf (n : Nat) : Code → Option Code
  | .seq a b => match a with
    | .region i _ _ => if i = n then some b else behindOf n b
    | a => match behindOf n a with
      | some c => some c
      | none => behindOf n b
  | .cond _ a b => match behindOf n a with
    | some c => some c
    | none => behindOf n b
  | .block _ c => behindOf n c
  | .loop c => behindOf n c
  | _ => none
/-- Another spelling of the code. -/
theorem wp_code {c c' : Code} {Q : Exit → Act → World → Prop} {a : Act} {w : World} (h : c = c') (k : Code.wp Tryz.prog c' Q a w) : Code.wp Tryz.prog c Q a w := h ▸ k
noncomputable def once11 : Code := ((Tryz.f6.body.bind (regionOf 11)).getD .skip)
noncomputable def once6 : Code := ((Tryz.f6.body.bind (regionOf 6)).getD .skip)
noncomputable def onceRest : Code := ((Tryz.f6.body.bind (behindOf 11)).getD .skip)

set_option maxRecDepth 1000000 in
/-- What the loop's relation gives, behind a name: the walk would go through all of it at each step. -/
def OnceJ (w : World) (R n c g off : Nat) (at_ : Int) (mask : UInt8) (u3 u4 u5 u15 u16 u17 u18 u19 u20 u254 : Value) (J : Nat → Act → World → Prop) : Prop :=
  ∀ (k : Nat) (a' : Act) (w' : World), (∃ u6 u8 u9 u10 u11 u12 u13 u14 u21 u22 u23 u24 u25 u26 u27 u28 u29 u30 u31 u32 u33 u34 u35 u36 u37 u38 u39 u40 u41 u42 u43 u44 u45 u46 u47 u48 u49 u50 u51 u52 u53 u54 u55 u56 u57 u58 u59 u60 u61 u62 u63 u64 u65 u66 u67 u68 u69 u70 u71 u72 u73 u74 u75 u76 u77 u78 u79 u80 u81 u82 u83 u84 u85 u86 u87 u88 u89 u90 u91 u92 u93 u94 u95 u96 u97 u98 u99 u100 u101 u102 u103 u104 u105 u106 u107 u108 u109 u110 u111 u112 u113 u114 u115 u116 u117 u118 u119 u120 u121 u122 u123 u124 u125 u126 u127 u128 u129 u130 u131 u132 u133 u134 u135 u136 u137 u138 u139 u140 u141 u142 u143 u144 u145 u146 u147 u148 u149 u150 u151 u152 u153 u154 u155 u156 u157 u158 u159 u160 u161 u162 u163 u164 u165 u166 u167 u168 u169 u170 u171 u172 u173 u174 u175 u176 u177 u178 u179 u180 u181 u182 u183 u184 u185 u186 u187 u188 u189 u190 u191 u192 u193 u194 u195 u196 u197 u198 u199 u200 u201 u202 u203 u204 u205 u206 u207 u208 u209 u210 u211 u212 u213 u214 u215 u216 u217 u218 u219 u220 u221 u222 u223 u224 u225 u226 u227 u228 u229 u230 u231 u232 u233 u234 u235 u236 u237 u238 u239 u240 u241 u242 u243 u244 u245 u246 u247 u248 u249 u250 u251 u252 u253 : Value, (u8 = .bool true ∧ ∃ i : Nat, u9 = .int .i64 (i : Int) ∧ i + k = min n 40 ∧ Hid (LI w.heap.size R i w w')) ∧ a' = ⟨#[.slice (some ⟨g, off, none⟩) n c, .int .i64 at_, .int .u8 (mask.toNat : Int), u3, u4, u5, u6, .pointer (some ⟨R, 0, none⟩), u8, u9, u10, u11, u12, u13, u14, u15, u16, u17, u18, u19, u20, u21, u22, u23, u24, u25, u26, u27, u28, u29, u30, u31, u32, u33, u34, u35, u36, u37, u38, u39, u40, u41, u42, u43, u44, u45, u46, u47, u48, u49, u50, u51, u52, u53, u54, u55, u56, u57, u58, u59, u60, u61, u62, u63, u64, u65, u66, u67, u68, u69, u70, u71, u72, u73, u74, u75, u76, u77, u78, u79, u80, u81, u82, u83, u84, u85, u86, u87, u88, u89, u90, u91, u92, u93, u94, u95, u96, u97, u98, u99, u100, u101, u102, u103, u104, u105, u106, u107, u108, u109, u110, u111, u112, u113, u114, u115, u116, u117, u118, u119, u120, u121, u122, u123, u124, u125, u126, u127, u128, u129, u130, u131, u132, u133, u134, u135, u136, u137, u138, u139, u140, u141, u142, u143, u144, u145, u146, u147, u148, u149, u150, u151, u152, u153, u154, u155, u156, u157, u158, u159, u160, u161, u162, u163, u164, u165, u166, u167, u168, u169, u170, u171, u172, u173, u174, u175, u176, u177, u178, u179, u180, u181, u182, u183, u184, u185, u186, u187, u188, u189, u190, u191, u192, u193, u194, u195, u196, u197, u198, u199, u200, u201, u202, u203, u204, u205, u206, u207, u208, u209, u210, u211, u212, u213, u214, u215, u216, u217, u218, u219, u220, u221, u222, u223, u224, u225, u226, u227, u228, u229, u230, u231, u232, u233, u234, u235, u236, u237, u238, u239, u240, u241, u242, u243, u244, u245, u246, u247, u248, u249, u250, u251, u252, u253, u254], []⟩) → J k a' w'

set_option maxHeartbeats 6400000 in
set_option maxRecDepth 1000000 in
/-- The call of Play, and what it answers laid into the world's block. -/
theorem once_first {w : World} {R O i n c g off : Nat} {at_ : Int} {mask : UInt8} {data : Bs} {ps : List Bs} {qs : List Int} {s b : Nat} {fa oa ra ta xa ya za : Option Addr} {fl fc on oc rn rc tn tc xn xc yn yc zn zc : Nat} {U : Nat → Prop} {st : St} {d : Dk} {bl tl cl : List UInt64} {k : Int} {da pa qa : Option Addr} {dn dc pn pc qn qc : Nat} {nm : ByteArray} {dt kp : Int} {W : World} {u3 u4 u5 u6 u8 u11 u12 u13 u14 u15 u16 u17 u18 u19 u20 u21 u22 u23 u24 u25 u26 u27 u28 u29 u30 u31 u32 u33 u34 u35 u36 u37 u38 u39 u40 u41 u42 u43 u44 u45 u46 u47 u48 u49 u50 u51 u52 u53 u54 u55 u56 u57 u58 u59 u60 u61 u62 u63 u64 u65 u66 u67 u68 u69 u70 u71 u72 u73 u74 u75 u76 u77 u78 u79 u80 u81 u82 u83 u84 u85 u86 u87 u88 u89 u90 u91 u92 u93 u94 u95 u96 u97 u98 u99 u100 u101 u102 u103 u104 u105 u106 u107 u108 u109 u110 u111 u112 u113 u114 u115 u116 u117 u118 u119 u120 u121 u122 u123 u124 u125 u126 u127 u128 u129 u130 u131 u132 u133 u134 u135 u136 u137 u138 u139 u140 u141 u142 u143 u144 u145 u146 u147 u148 u149 u150 u151 u152 u153 u154 u155 u156 u157 u158 u159 u160 u161 u162 u163 u164 u165 u166 u167 u168 u169 u170 u171 u172 u173 u174 u175 u176 u177 u178 u179 u180 u181 u182 u183 u184 u185 u186 u187 u188 u189 u190 u191 u192 u193 u194 u195 u196 u197 u198 u199 u200 u201 u202 u203 u204 u205 u206 u207 u208 u209 u210 u211 u212 u213 u214 u215 u216 u217 u218 u219 u220 u221 u222 u223 u224 u225 u226 u227 u228 u229 u230 u231 u232 u233 u234 u235 u236 u237 u238 u239 u240 u241 u242 u243 u244 u245 u246 u247 u248 u249 u250 u251 u252 u253 u254 : Value}
    (id : (i : Int) < (n : Int)) (id0 : (0 : Int) ≤ (i : Int)) (HRB : Hid (w.heap.size ≤ R)) (ne : O ≠ R) (HACT : Hid (g < W.heap.size ∧ W.cell? ⟨g, off + i * 7, none⟩ = some (.int .i64 k) ∧ W.cell? ⟨g, off + i * 7 + 1, none⟩ = some (.slice da dn dc) ∧ W.cell? ⟨g, off + i * 7 + 2, none⟩ = some (.slice pa pn pc) ∧ W.cell? ⟨g, off + i * 7 + 3, none⟩ = some (.slice qa qn qc) ∧ W.cell? ⟨g, off + i * 7 + 4, none⟩ = some (.string nm) ∧ W.cell? ⟨g, off + i * 7 + 5, none⟩ = some (.int .i64 dt) ∧ W.cell? ⟨g, off + i * 7 + 6, none⟩ = some (.int .i64 kp)))
    (HB : Hid (BoxA W R 35 (wdV s b d (.slice fa fl fc) (.slice oa on oc) (.slice ra rn rc) (.slice ta tn tc) (.slice xa xn xc) (.slice ya yn yc) (.slice za zn zc)) ∧ BoxA W O 35 (wdV s b d (.slice fa fl fc) (.slice oa on oc) (.slice ra rn rc) (.slice ta tn tc) (.slice xa xn xc) (.slice ya yn yc) (.slice za zn zc)) ∧ Below w.heap.size w W)) (HW1 : Hid (WI w.heap.size (fun j => j = R ∨ j = O) W s b (.slice fa fl fc) (.slice oa on oc) (.slice ra rn rc) (.slice ta tn tc) (.slice xa xn xc) (.slice ya yn yc) (.slice za zn zc) U st d bl tl cl))
    (PA : Hid (Calls Tryz.prog 9 #[.agg (wdV s b d (.slice fa fl fc) (.slice oa on oc) (.slice ra rn rc) (.slice ta tn tc) (.slice xa xn xc) (.slice ya yn yc) (.slice za zn zc)), AV.val (⟨k, da, dn, dc, pa, pn, pc, qa, qn, qc, nm, dt, kp⟩ : AV)] W.drew fun e w' => ∃ v, e = .returned v ∧ Hid (∃ fa' fl' fc' oa' on' oc' ra' rn' rc' ta' tn' tc' xa' xn' xc' ya' yn' yc' za' zn' zc' U' st' d' bl' tl' cl', v = .tuple #[.agg (wdV s b d' (.slice fa' fl' fc') (.slice oa' on' oc') (.slice ra' rn' rc') (.slice ta' tn' tc') (.slice xa' xn' xc') (.slice ya' yn' yc') (.slice za' zn' zc')), .bool true] ∧ WI w.heap.size (fun j => j = R ∨ j = O) w' s b (.slice fa' fl' fc') (.slice oa' on' oc') (.slice ra' rn' rc') (.slice ta' tn' tc') (.slice xa' xn' xc') (.slice ya' yn' yc') (.slice za' zn' zc') U' st' d' bl' tl' cl' ∧ Below w.heap.size w w' ∧ (∀ i, (i = R ∨ i = O) → w'.heap[i]? = W.drew.heap[i]?) ∧ OwnG encU 56 w' w.heap.size (.slice xa xn xc) bl ∧ OwnG encU 56 w' w.heap.size (.slice ya yn yc) tl ∧ OwnG encU 56 w' w.heap.size (.slice za zn zc) cl ∧ Rel k data ps qs dt st d bl tl cl st' d' bl' tl' cl')))
    {J : Act → World → Prop} {K0 K1 K2 K3 : Act → World → Prop} {P0 : Ending → World → Prop} (hJ : ∀ (a' : Act) (w' : World), (∃ u8 u21 u22 u23 u24 u25 u26 u27 u28 u29 u30 u31 u32 u33 u34 u35 u36 u37 u38 u39 u40 u41 u42 u43 u44 u45 u46 u47 u48 u49 u50 u51 u52 u53 u54 u55 u56 u57 u58 u59 u60 u61 u62 u63 u64 u65 u66 u67 u68 u69 u70 u71 u72 u73 u74 u75 u76 u77 u78 u79 u80 u81 u82 u83 u84 u85 u86 u87 u88 u89 u90 u91 u92 u93 u94 u95 u96 u97 u98 u99 u100 u101 u102 u103 u104 u105 u106 u107 u108 u109 u110 u111 u112 u113 u114 u115 u116 u117 u118 u119 u120 u121 u122 u123 u124 u125 u126 u127 u128 u129 u130 u131 u132 u133 u134 u135 u136 u137 u138 u139 u140 u141 u142 u143 u144 u145 u146 u147 u148 u149 u150 u151 u152 u153 u154 u155 u156 u157 u158 u159 u160 u161 u162 u163 u164 u165 u166 u167 u168 u169 u170 u171 u172 u173 u174 u175 u176 u177 u178 u179 u180 u181 u182 u183 u184 u185 u186 u187 u188 u189 u190 u191 u192 u193 u194 u195 u196 u197 u198 u199 u200 u201 u202 u203 u204 u205 u206 u207 u208 u209 u210 u211 u212 u213 u214 u215 u216 u217 u218 u219 u220 u221 u222 u223 u224 u225 u226 u227 u228 u229 u230 u231 u232 u233 u234 u235 u236 u237 u238 u239 u240 u241 u242 u243 u244 u245 u246 u247 u248 u249 u250 u251 u252 u253 : Value, (∃ v fa' fl' fc' oa' on' oc' ra' rn' rc' ta' tn' tc' xa' xn' xc' ya' yn' yc' za' zn' zc' U' st' d' bl' tl' cl', v = w' ∧ u8 = .bool true ∧ Hid (WI w.heap.size (fun j => j = R ∨ j = O) v s b (.slice fa' fl' fc') (.slice oa' on' oc') (.slice ra' rn' rc') (.slice ta' tn' tc') (.slice xa' xn' xc') (.slice ya' yn' yc') (.slice za' zn' zc') U' st' d' bl' tl' cl' ∧ BoxA v R 35 (wdV s b d' (.slice fa' fl' fc') (.slice oa' on' oc') (.slice ra' rn' rc') (.slice ta' tn' tc') (.slice xa' xn' xc') (.slice ya' yn' yc') (.slice za' zn' zc')) ∧ BoxA v O 35 (wdV s b d (.slice fa fl fc) (.slice oa on oc) (.slice ra rn rc) (.slice ta tn tc) (.slice xa xn xc) (.slice ya yn yc) (.slice za zn zc)) ∧ Below w.heap.size w v ∧ OwnG encU 56 v w.heap.size (.slice xa xn xc) bl ∧ OwnG encU 56 v w.heap.size (.slice ya yn yc) tl ∧ OwnG encU 56 v w.heap.size (.slice za zn zc) cl ∧ Rel k data ps qs dt st d bl tl cl st' d' bl' tl' cl')) ∧ a' = ⟨#[.slice (some ⟨g, off, none⟩) n c, .int .i64 at_, .int .u8 (mask.toNat : Int), u3, u4, u5, u6, .pointer (some ⟨R, 0, none⟩), u8, .int .i64 (i : Int), .pointer (some ⟨O, 0, none⟩), u11, u12, u13, u14, u15, u16, u17, u18, u19, u20, u21, u22, u23, u24, u25, u26, u27, u28, u29, u30, u31, u32, u33, u34, u35, u36, u37, u38, u39, u40, u41, u42, u43, u44, u45, u46, u47, u48, u49, u50, u51, u52, u53, u54, u55, u56, u57, u58, u59, u60, u61, u62, u63, u64, u65, u66, u67, u68, u69, u70, u71, u72, u73, u74, u75, u76, u77, u78, u79, u80, u81, u82, u83, u84, u85, u86, u87, u88, u89, u90, u91, u92, u93, u94, u95, u96, u97, u98, u99, u100, u101, u102, u103, u104, u105, u106, u107, u108, u109, u110, u111, u112, u113, u114, u115, u116, u117, u118, u119, u120, u121, u122, u123, u124, u125, u126, u127, u128, u129, u130, u131, u132, u133, u134, u135, u136, u137, u138, u139, u140, u141, u142, u143, u144, u145, u146, u147, u148, u149, u150, u151, u152, u153, u154, u155, u156, u157, u158, u159, u160, u161, u162, u163, u164, u165, u166, u167, u168, u169, u170, u171, u172, u173, u174, u175, u176, u177, u178, u179, u180, u181, u182, u183, u184, u185, u186, u187, u188, u189, u190, u191, u192, u193, u194, u195, u196, u197, u198, u199, u200, u201, u202, u203, u204, u205, u206, u207, u208, u209, u210, u211, u212, u213, u214, u215, u216, u217, u218, u219, u220, u221, u222, u223, u224, u225, u226, u227, u228, u229, u230, u231, u232, u233, u234, u235, u236, u237, u238, u239, u240, u241, u242, u243, u244, u245, u246, u247, u248, u249, u250, u251, u252, u253, u254], []⟩) → J a' w') (hK : ∀ (a' : Act) (w' : World), Met J a' w' → K0 a' w') :
    let Q' : Exit → Act → World → Prop := bodyPost Tryz.prog Tryz.f6 P0
    Code.wp Tryz.prog once11 (Exit.then K0 (Exit.inBlock 1 (Exit.then K1 (Exit.then K2 (Exit.inBlock 0 (Exit.then K3 Q')))))) ⟨#[.slice (some ⟨g, off, none⟩) n c, .int .i64 at_, .int .u8 (mask.toNat : Int), u3, u4, u5, u6, .pointer (some ⟨R, 0, none⟩), u8, .int .i64 (i : Int), .pointer (some ⟨O, 0, none⟩), u11, u12, u13, u14, u15, u16, u17, u18, u19, u20, u21, u22, u23, u24, u25, u26, u27, u28, u29, u30, u31, u32, u33, u34, u35, u36, u37, u38, u39, u40, u41, u42, u43, u44, u45, u46, u47, u48, u49, u50, u51, u52, u53, u54, u55, u56, u57, u58, u59, u60, u61, u62, u63, u64, u65, u66, u67, u68, u69, u70, u71, u72, u73, u74, u75, u76, u77, u78, u79, u80, u81, u82, u83, u84, u85, u86, u87, u88, u89, u90, u91, u92, u93, u94, u95, u96, u97, u98, u99, u100, u101, u102, u103, u104, u105, u106, u107, u108, u109, u110, u111, u112, u113, u114, u115, u116, u117, u118, u119, u120, u121, u122, u123, u124, u125, u126, u127, u128, u129, u130, u131, u132, u133, u134, u135, u136, u137, u138, u139, u140, u141, u142, u143, u144, u145, u146, u147, u148, u149, u150, u151, u152, u153, u154, u155, u156, u157, u158, u159, u160, u161, u162, u163, u164, u165, u166, u167, u168, u169, u170, u171, u172, u173, u174, u175, u176, u177, u178, u179, u180, u181, u182, u183, u184, u185, u186, u187, u188, u189, u190, u191, u192, u193, u194, u195, u196, u197, u198, u199, u200, u201, u202, u203, u204, u205, u206, u207, u208, u209, u210, u211, u212, u213, u214, u215, u216, u217, u218, u219, u220, u221, u222, u223, u224, u225, u226, u227, u228, u229, u230, u231, u232, u233, u234, u235, u236, u237, u238, u239, u240, u241, u242, u243, u244, u245, u246, u247, u248, u249, u250, u251, u252, u253, u254], []⟩ W := by
  intro Q'
  conv => arg 2; whnf
  have p0 := HB.out.1.cell (j := 0) rfl
  have p1 := HB.out.1.cell (j := 1) rfl
  have p2 := HB.out.1.cell (j := 2) rfl
  have p3 := HB.out.1.cell (j := 3) rfl
  have p4 := HB.out.1.cell (j := 4) rfl
  have p5 := HB.out.1.cell (j := 5) rfl
  have p6 := HB.out.1.cell (j := 6) rfl
  have p7 := HB.out.1.cell (j := 7) rfl
  have p8 := HB.out.1.cell (j := 8) rfl
  have p9 := HB.out.1.cell (j := 9) rfl
  have p10 := HB.out.1.cell (j := 10) rfl
  have p11 := HB.out.1.cell (j := 11) rfl
  have p12 := HB.out.1.cell (j := 12) rfl
  have p13 := HB.out.1.cell (j := 13) rfl
  obtain ⟨hbW, c0, c1, c2, c3, c4, c5, c6⟩ := HACT.out
  go_region_law
    (first
      | (refine step_call2 rfl (.tmp 41) (.tmp 45) 9 #[35, 43] rfl enters_Play (.agg (wdV s b d (.slice fa fl fc) (.slice oa on oc) (.slice ra rn rc) (.slice ta tn tc) (.slice xa xn xc) (.slice ya yn yc) (.slice za zn zc))) (actV k (.slice da dn dc) (.slice pa pn pc) (.slice qa qn qc) nm dt kp) (by simp [Act.eval]) (by simp [Act.eval]) _ PA.out ?_; intro v3 w3 h3; obtain ⟨fa', fl', fc', oa', on', oc', ra', rn', rc', ta', tn', tc', xa', xn', xc', ya', yn', yc', za', zn', zc', U', st', d', bl', tl', cl', e3, q1, q2, q3, q4, q5, q6, q7⟩ := h3.out; subst e3; have kR : BoxA w3 R 35 (wdV s b d (.slice fa fl fc) (.slice oa on oc) (.slice ra rn rc) (.slice ta tn tc) (.slice xa xn xc) (.slice ya yn yc) (.slice za zn zc)) := (q3 R (.inl rfl)).trans HB.out.1; have kO : BoxA w3 O 35 (wdV s b d (.slice fa fl fc) (.slice oa on oc) (.slice ra rn rc) (.slice ta tn tc) (.slice xa xn xc) (.slice ya yn yc) (.slice za zn zc)) := (q3 O (.inr rfl)).trans HB.out.2.1; have H9 := hid (And.intro q1 (And.intro q2 (And.intro q4 (And.intro q5 (And.intro q6 (And.intro q7 (And.intro kR kO))))))); have k0 := kR.cell (j := 0) rfl; have f0 := kR.thaw 0; have k1 := kR.cell (j := 1) rfl; have f1 := kR.thaw 1; have k2 := kR.cell (j := 2) rfl; have f2 := kR.thaw 2; have k3 := kR.cell (j := 3) rfl; have f3 := kR.thaw 3; have k4 := kR.cell (j := 4) rfl; have f4 := kR.thaw 4; have k5 := kR.cell (j := 5) rfl; have f5 := kR.thaw 5; have k6 := kR.cell (j := 6) rfl; have f6 := kR.thaw 6; have k7 := kR.cell (j := 7) rfl; have f7 := kR.thaw 7; have k8 := kR.cell (j := 8) rfl; have f8 := kR.thaw 8; have k9 := kR.cell (j := 9) rfl; have f9 := kR.thaw 9; have k10 := kR.cell (j := 10) rfl; have f10 := kR.thaw 10; have k11 := kR.cell (j := 11) rfl; have f11 := kR.thaw 11; have k12 := kR.cell (j := 12) rfl; have f12 := kR.thaw 12; have k13 := kR.cell (j := 13) rfl; have f13 := kR.thaw 13; clear h3 q1 q2 q3 q4 q5 q6 q7 kR kO)
      | fail)
  all_goals
    have hT := lay_all (W := w3) R [.pointer (some ⟨b, 0, none⟩), .pointer (some ⟨s, 0, none⟩), .slice fa' fl' fc', .int .i64 (d'.writes : Int), .bool d'.armed, .bool d'.dead, .int .i64 (d'.after : Int), .int .i64 (d'.keep : Int), .slice oa' on' oc', .slice ra' rn' rc', .slice ta' tn' tc', .slice xa' xn' xc', .slice ya' yn' yc', .slice za' zn' zc'] 0
    have hM := H9.out.2.2.2.2.2.2.1.lays [.pointer (some ⟨b, 0, none⟩), .pointer (some ⟨s, 0, none⟩), .slice fa' fl' fc', .int .i64 (d'.writes : Int), .bool d'.armed, .bool d'.dead, .int .i64 (d'.after : Int), .int .i64 (d'.keep : Int), .slice oa' on' oc', .slice ra' rn' rc', .slice ta' tn' tc', .slice xa' xn' xc', .slice ya' yn' yc', .slice za' zn' zc'] 0
    rw [set14] at hM
    have FIN := hid (And.intro (H9.out.1.turn hT (fun i q => .inl q)) (And.intro hM (And.intro (H9.out.2.2.2.2.2.2.2.turned hT (fun q => ne q)) (And.intro (H9.out.2.1.trans (hT.below (Nat.le_trans (Nat.le_of_lt (Nat.lt_of_le_of_lt HRB.out H9.out.2.2.2.2.2.2.1.lt)) (Nat.le_refl _)) (fun i hi q => by have q' : i = R := q; have := HRB.out; omega))) (And.intro (H9.out.2.2.1.stays hT (fun g q r => HW1.out.fe g (.inr (.inl q)) (.inl r))) (And.intro (H9.out.2.2.2.1.stays hT (fun g q r => HW1.out.fe g (.inr (.inr (.inl q))) (.inl r))) (And.intro (H9.out.2.2.2.2.1.stays hT (fun g q r => HW1.out.fe g (.inr (.inr (.inr q))) (.inl r))) H9.out.2.2.2.2.2.1)))))))
    clear hT hM
    simp only [layL, Nat.reduceAdd] at FIN
    go_wp2_with fail
    go_meet
    exact ⟨_, fa', fl', fc', oa', on', oc', ra', rn', rc', ta', tn', tc', xa', xn', xc', ya', yn', yc', za', zn', zc', U', st', d', bl', tl', cl', rfl, rfl, FIN⟩

end Go.Proofs.YtikgbjjgpgjmfaaGreat
