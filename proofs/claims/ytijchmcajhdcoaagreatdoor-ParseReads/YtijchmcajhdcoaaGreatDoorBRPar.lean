/-
  The reference's Parse by a contract. No condition but that the tokens are a text's.
-/
import Derived.Test.YtijchmcajhdcoaaGreatDoorBRPiv
import Derived.Test.YtijchmcajhdcoaaGreatDoorERScn
import Derived.Test.YtijchmcajhdcoaaGreatDoorJUp
import Derived.Test.YtijchmcajhdcoaaGreatDoorJSig
import Derived.Test.YtijchmcajhdcoaaGreatDoorBRPrA
import Derived.Test.YtijchmcajhdcoaaGreatDoorBRPrB
import Derived.Test.YtijchmcajhdcoaaGreatDoorBRPrC
import Derived.Test.YtijchmcajhdcoaaGreatDoorBRPrD
import Derived.Test.YtijchmcajhdcoaaGreatDoorBRPrE
import Derived.Test.YtijchmcajhdcoaaGreatDoorBRPrF
namespace Go.Proofs.YtijchmcajhdcoaaGreatDoor
open Go.RowKit

set_option maxHeartbeats 400000000 in
set_option maxRecDepth 100000 in
theorem rparse_known (s : ByteArray) (hs : s.size ≤ 1024) {ts : List Tk} (h : Sc 0 s.data.toList ts none) (hnm : ∀ t ∈ ts, t.kind = 1 → t.text ≠ []) (hsz : ∀ nd, rn (s.size : Int) [] [] true ts = .ok nd → nd.sz ≤ 100000) (w : World) :
    Calls Tryz.prog 6 #[.string s] w fun e w' => ∃ (v : NV) (a c : Int), e = .returned (.tuple #[v.val, .int .i64 a, .int .i64 c]) ∧ Below w.heap.size w w' ∧ Rz (s.size : Int) ts (Bt w.heap.size w'.heap.size) v a c w' := by
  obtain ⟨W1, m2, hW1, hm2, bW1, hs1⟩ := layR w 34 #[.int .i64 0, .string ⟨#[]⟩, .int .i64 0, .int .u64 0, .slice none 0 0, .int .i64 0]
  have hbx : Box6 W1 m2 34 (.int .i64 0) (.string ⟨#[]⟩) (.int .i64 0) (.int .u64 0) (.slice none 0 0) (.int .i64 0) := by rw [← hW1, ← hm2]; exact Box6.new _ _ _ _ _ _ _ _
  have HC : Hid (Calls Tryz.prog 14 _ _ _) := rscan_short s hs W1
  have H : Hid (Sc 0 s.data.toList ts none ∧ (∀ t ∈ ts, t.kind = 1 → t.text ≠ []) ∧ (∀ nd, rn (s.size : Int) [] [] true ts = .ok nd → nd.sz ≤ 100000) ∧ Box6 W1 m2 34 (.int .i64 0) (.string ⟨#[]⟩) (.int .i64 0) (.int .u64 0) (.slice none 0 0) (.int .i64 0) ∧ Below w.heap.size w W1 ∧ m2 = w.heap.size) := ⟨h, hnm, hsz, hbx, bW1, hm2.symm⟩
  clear h hnm hsz hbx bW1 hs1
  go_enter Tryz.func6, Tryz.ntmps6
  go_upto_region 1 with fail
  clear hW1 hm2
  go_upto_region 2 with (go_at_call 14; refine HC.out.mono ?_; rintro e w1 ⟨lv, a, c, us, er, rfl, t1, t2, t3⟩; obtain ⟨rfl, rfl⟩ := t1.uniq H.out.1; obtain ⟨rfl, rfl, t3⟩ := t3; obtain ⟨la, lc, e, L3⟩ := Lt.of t3; subst e; have HT : Hid (Lt 60 W1.heap.size w1 la us.length lc us ∧ Below W1.heap.size W1 w1 ∧ us.length ≤ s.size) := ⟨L3, t2, by have := H.out.1.few; rw [bsize]; exact this⟩; clear t1 t2 t3 L3)
  obtain ⟨n, hn⟩ : ∃ n, us.length = n := ⟨_, rfl⟩
  rw [hn] at HT ⊢
  go_upto_region 5 with fail
  obtain ⟨W2, mS, hW2, hmS, bW2, hs2⟩ := layR w1 58 #[.slice none 0 0, .slice none 0 0]
  have hsb : Box2 W2 mS 58 (.slice none 0 0) (.slice none 0 0) := by rw [← hW2, ← hmS]; exact Box2.new _ _ _ _
  have HN : Hid (us.length = n ∧ n ≤ 1024 ∧ mS = w1.heap.size ∧ RdG encT w1 la us ∧ Below w1.heap.size w1 W2 ∧ n ≤ lc) := ⟨hn, by have := HT.out.2.2; omega, hmS.symm, HT.out.1.rd, bW2, HT.out.1.cap⟩
  have HP0 : Hid (PI (s.size : Int) us mS m2 w W2 0 true [] [] none 0 0 none 0 0) := by
    have hb := H.out.2.2.2.1.below HT.out.2.1
    have hl := hb.lt
    have hl2 := H.out.2.2.2.2.2
    have hb1 := H.out.2.2.2.2.1
    refine ⟨⟨hsb, hb.below bW2, ⟨OwnG.nil _ _ _ _, rfl, [], RdG.nil _ _ _, rfl, Nat.le_refl _, fun q => by simp at q, .nil⟩, (hb1.trans (HT.out.2.1.mono hb1.size)).trans (bW2.mono (by have := HT.out.2.1.size; have := hb1.size; omega)), by omega, by omega⟩, rfl, ?_, by omega, by omega⟩
    show Vk (0 + 1) []
    rfl
  have hn1 : n ≤ 1024 := HN.out.2.1
  rw [hW2, hmS]
  clear hsb bW2 hs2 hn HC hW2 hmS
  go_wp2_with fail
  go_loopg [9, 10] n (fun g bv iv wr => ∃ (i : Nat) (b : Bool) (ns : List Nd) (ws : List Wt) (na : Option Addr) (nl nc : Nat) (wa : Option Addr) (wl wk : Nat), iv = .int .i64 (i : Int) ∧ bv = .bool b ∧ i + g = n ∧ Hid (PI (s.size : Int) us mS m2 w wr i b ns ws na nl nc wa wl wk ∧ Below w1.heap.size w1 wr))
  case atStart => exact ⟨0, true, [], [], none, 0, 0, none, 0, 0, rfl, rfl, by omega, HP0.out, HN.out.2.2.2.2.1⟩
  case round =>
    obtain ⟨i, b, ns, ws, na, nl, nc, wa, wl, wk, rfl, rfl, hig, HR⟩ := hrel
    by_cases hin : i < n
    · have hii : (i : Int) < (n : Int) := by omega
      have hi0 : (0 : Int) ≤ (i : Int) := by omega
      obtain ⟨t, ht⟩ : ∃ t, us[i]? = some t := ⟨_, List.getElem?_eq_getElem (by rw [HN.out.1]; exact hin)⟩
      have hrd := HN.out.2.2.2.1.below HR.out.2
      obtain ⟨tb, tof, e1, htb⟩ := hrd.some_of ht
      subst e1
      obtain ⟨_, t0, t1, t2, t3, t4⟩ := hrd.tok ht
      obtain ⟨tk, tx, tn, ti, tp⟩ := t
      simp only at t0 t1 t2 t3 t4
      obtain ⟨W3, m11, hW3, hm11, hx11, bW3, c3, hB3, hlt3⟩ := lay5 HR.out.1.sp.bel HR.out.1.sp.bel.size 60 (.int .i64 tk) (.string ⟨tx.toArray⟩) (.int .i64 tn) (.int .u64 ti) (.int .i64 tp)
      go_upto_region 10 with fail
      clear hW3
      go_upto_region 11 with fail
      obtain ⟨W4, m12, hW4, hm12, hx12, bW4, c4, hB4, hlt4⟩ := lay5 bW3 bW3.size 60 (.int .i64 0) (.string ⟨#[]⟩) (.int .i64 0) (.int .u64 0) (.int .i64 0)
      have HD : Hid (us.drop i = ⟨tk, tx, tn, ti, tp⟩ :: us.drop (i + 1) ∧ (tk = 1 → tx ≠ []) ∧ wr.heap.size = m11 ∧ W3.heap.size = m12) := by
        refine ⟨?_, fun q => H.out.2.1 _ (List.mem_of_getElem? ht) q, hm11, hm12⟩
        obtain ⟨hlt, hg⟩ := List.getElem?_eq_some_iff.1 ht
        rw [List.drop_eq_getElem_cons hlt, hg]
      obtain ⟨d0, d1, d2, d3, d4⟩ := (hx11.below c4).cells
      obtain ⟨x0, x1, x2, x3, x4⟩ := hx12.cells
      obtain ⟨y0, y1, y2, y3, y4⟩ := hx12.thaw
      have H4 : Hid (PI (s.size : Int) us mS m2 w W4 i b ns ws na nl nc wa wl wk ∧ Below w1.heap.size w1 W4 ∧ Box5 W4 m11 60 (.int .i64 tk) (.string ⟨tx.toArray⟩) (.int .i64 tn) (.int .u64 ti) (.int .i64 tp) ∧ Box5 W4 m12 60 (.int .i64 0) (.string ⟨#[]⟩) (.int .i64 0) (.int .u64 0) (.int .i64 0) ∧ m11 < m12 ∧ mS < m11 ∧ Below wr.heap.size wr W4) := by
        refine ⟨⟨(HR.out.1.sp.below c3).below c4, HR.out.1.eq, HR.out.1.vk, HR.out.1.len⟩, (HR.out.2.trans (c3.mono HR.out.2.size)).trans (c4.mono (by have := HR.out.2.size; have := c3.size; omega)), hx11.below c4, hx12, by omega, ?_, c3.trans (c4.mono c3.size)⟩
        have := HR.out.1.sp.lt
        omega
      clear hrd hx11 hx12 bW3 c3 bW4 c4 ht
      rw [hW4, hm12]
      clear hW4 hm11 hm12
      obtain ⟨j, hj⟩ : ∃ j, j = i + 1 := ⟨_, rfl⟩
      have ej : (i : Int) + 1 = (j : Int) := by omega
      obtain ⟨⟨uk, ux, un, ui, up⟩, hu⟩ : ∃ u, pk (us.drop j) = u := ⟨_, rfl⟩
      have HJ : Hid (j = i + 1 ∧ pk (us.drop j) = ⟨uk, ux, un, ui, up⟩) := ⟨hj, hu⟩
      clear hj hu t0 t1 t2 t3 t4
      go_upto_if 44 with fail
      go_cut [] (fun u => Hid (Box5 u m12 60 (.int .i64 uk) (.string ⟨ux.toArray⟩) (.int .i64 un) (.int .u64 ui) (.int .i64 up) ∧ Box5 u m11 60 (.int .i64 tk) (.string ⟨tx.toArray⟩) (.int .i64 tn) (.int .u64 ti) (.int .i64 tp) ∧ Below wr.heap.size wr u))
      case first =>
        by_cases hjn : j < n
        · as_aux_lemma =>
            have hjj : (j : Int) < (n : Int) := by omega
            have hj0 : (0 : Int) ≤ (j : Int) := by omega
            obtain ⟨u, hu⟩ : ∃ u, us[j]? = some u := ⟨_, List.getElem?_eq_getElem (by rw [HN.out.1]; exact hjn)⟩
            obtain ⟨_, q0, q1, q2, q3, q4⟩ := (HN.out.2.2.2.1.below H4.out.2.1).tok hu
            have he := (pk_at hu).symm.trans HJ.out.2
            subst he
            simp only at q0 q1 q2 q3 q4
            go_wp2_with fail
            go_meet
            exact ⟨((((H4.out.2.2.2.1.put0 _).put1 _).put2 _).put3 _).put4 _, H4.out.2.2.1.turned (fiveT W4 m12 _ _ _ _ _) (by have := H4.out.2.2.2.2.1; omega), H4.out.2.2.2.2.2.2.trans ((fiveT W4 m12 _ _ _ _ _).below H4.out.2.2.2.2.2.2.size (fun g hg e => by have := HD.out.2.2.1; have := H4.out.2.2.2.2.1; omega))⟩
        · as_aux_lemma =>
            have hjj : ¬ (j : Int) < (n : Int) := by omega
            have he := (pk_end (ts := us) (k := j) (by rw [HN.out.1]; omega)).symm.trans HJ.out.2
            go_wp2_with fail
            go_meet
            injection he with e1 e2 e3 e4 e5
            subst e1 e2 e3 e4 e5
            exact ⟨H4.out.2.2.2.1, H4.out.2.2.1, H4.out.2.2.2.2.2.2⟩
      case rest =>
        obtain ⟨W5, hW5⟩ : ∃ W5, wc = W5 := ⟨_, rfl⟩
        rw [hW5] at hcut ⊢
        have H5 : Hid (PI (s.size : Int) us mS m2 w W5 i b ns ws na nl nc wa wl wk ∧ Below w1.heap.size w1 W5 ∧ Box5 W5 m11 60 (.int .i64 tk) (.string ⟨tx.toArray⟩) (.int .i64 tn) (.int .u64 ti) (.int .i64 tp) ∧ Box5 W5 m12 60 (.int .i64 uk) (.string ⟨ux.toArray⟩) (.int .i64 un) (.int .u64 ui) (.int .i64 up)) := ⟨⟨HR.out.1.sp.below hcut.out.2.2, HR.out.1.eq, HR.out.1.vk, HR.out.1.len⟩, HR.out.2.trans (hcut.out.2.2.mono HR.out.2.size), hcut.out.2.1, hcut.out.1⟩
        have HO : Hid (ns.length = nl ∧ ws.length = wl) := ⟨HR.out.1.sp.st.len, HR.out.1.sp.st.wl⟩
        have hwl5 : wl ≤ 2000 := by have := HR.out.1.len; omega
        have hnl5 : nl ≤ 2000 := by have := HR.out.1.len; omega
        have HE1 : Hid (m11 ≠ mS ∧ m12 ≠ mS ∧ m2 ≠ mS ∧ m11 ≠ m2 ∧ m12 ≠ m2 ∧ m11 ≠ m12) := by
          have h1 := H4.out.2.2.2.2
          have h2 := HR.out.1.sp.ord
          show _ ∧ _
          omega
        clear hW5 hcut H4 HR d0 d1 d2 d3 d4 x0 x1 x2 x3 x4 y0 y1 y2 y3 y4 hlt3 hlt4 hB3 hB4 htb
        obtain ⟨d0, d1, d2, d3, d4⟩ := H5.out.2.2.1.cells
        obtain ⟨x0, x1, x2, x3, x4⟩ := H5.out.2.2.2.cells
        obtain ⟨c0, c1⟩ := H5.out.1.sp.box.cells
        obtain ⟨f0, f1⟩ := H5.out.1.sp.box.thaw
        have lS : mS < W5.heap.size := H5.out.1.sp.box.lt
        have l11 : m11 < W5.heap.size := H5.out.2.2.1.lt
        have l12 : m12 < W5.heap.size := H5.out.2.2.2.lt
        cases b with
        | true =>
          go_upto_region 15 with fail
          obtain ⟨cB, hcB⟩ : ∃ cB : Bool, cB = (decide (tk = 1) && decide (uk = 5) && decide (ux = [40])) := ⟨_, rfl⟩
          have HCB : Hid (cB = (decide (tk = 1) && decide (uk = 5) && decide (ux = [40]))) := hcB
          clear hcB
          go_cut [54] (fun v q => v = .bool cB ∧ q = W5)
          case first =>
            by_cases h1 : tk = 1
            · subst h1
              by_cases h2 : uk = 5
              · subst h2
                by_cases h3 : ux = [40]
                · exact rparse_kA._proof_25 s w m2 w1 us _ lc n mS _ u3 u4 u13 u14 u15 u16 u54 u113 u126 u139 u160 u202 u228 u237 _ i ns ws na nl nc wa wl wk tb tof tx tn ti tp m11 _ m12 j ux un ui up u29 u30 u31 u32 u33 u34 u35 u36 u37 u38 u39 u40 u41 u42 u43 u44 u45 u46 u47 u48 u49 u51 u52 u53 u55 u56 u57 u58 u59 u60 u61 u62 u63 u64 u65 u66 u67 u68 u69 u70 u71 u72 u73 u74 u75 u76 u77 u78 u79 u80 u81 u82 u83 u84 u85 u86 u87 u88 u89 u90 u91 u92 u93 u94 u95 u96 u97 u98 u99 u100 u101 u102 u103 u104 u105 u106 u107 u108 u109 u110 u111 u112 u114 u115 u116 u117 u118 u119 u120 u121 u122 u123 u124 u125 u127 u128 u129 u130 u131 u132 u133 u134 u135 u136 u137 u138 u140 u141 u142 u143 u144 u145 u146 u147 u148 u149 u150 u151 u152 u153 u154 u155 u156 u157 u158 u159 u161 u162 u163 u164 u165 u166 u167 u168 u169 u170 u171 u172 u173 u174 u175 u176 u177 u178 u179 u180 u181 u182 u183 u184 u185 u186 u187 u188 u189 u190 u191 u192 u193 u194 u195 u196 u197 u198 u199 u200 u201 u203 u204 u205 u206 u207 u208 u209 u210 u211 u212 u213 u214 u215 u216 u217 u218 u219 u220 u221 u222 u223 u224 u225 u226 u227 u229 u230 u231 u232 u233 u234 u235 u236 u238 u239 u240 u241 u242 u243 u244 u245 u246 u247 u248 u249 u250 u251 W5 x1 _ _ cB _ _ (by assumption) (by assumption) d0 HJ x0 H5 HCB h3
                · exact rparse_kA._proof_26 s m2 _ lc n mS _ u3 u4 u13 u14 u15 u16 u54 u113 u126 u139 u160 u202 u228 u237 _ i tb tof m11 _ m12 ux u29 u30 u31 u32 u33 u34 u35 u36 u37 u38 u39 u40 u41 u42 u43 u44 u45 u46 u47 u48 u49 u51 u52 u53 u55 u56 u57 u58 u59 u60 u61 u62 u63 u64 u65 u66 u67 u68 u69 u70 u71 u72 u73 u74 u75 u76 u77 u78 u79 u80 u81 u82 u83 u84 u85 u86 u87 u88 u89 u90 u91 u92 u93 u94 u95 u96 u97 u98 u99 u100 u101 u102 u103 u104 u105 u106 u107 u108 u109 u110 u111 u112 u114 u115 u116 u117 u118 u119 u120 u121 u122 u123 u124 u125 u127 u128 u129 u130 u131 u132 u133 u134 u135 u136 u137 u138 u140 u141 u142 u143 u144 u145 u146 u147 u148 u149 u150 u151 u152 u153 u154 u155 u156 u157 u158 u159 u161 u162 u163 u164 u165 u166 u167 u168 u169 u170 u171 u172 u173 u174 u175 u176 u177 u178 u179 u180 u181 u182 u183 u184 u185 u186 u187 u188 u189 u190 u191 u192 u193 u194 u195 u196 u197 u198 u199 u200 u201 u203 u204 u205 u206 u207 u208 u209 u210 u211 u212 u213 u214 u215 u216 u217 u218 u219 u220 u221 u222 u223 u224 u225 u226 u227 u229 u230 u231 u232 u233 u234 u235 u236 u238 u239 u240 u241 u242 u243 u244 u245 u246 u247 u248 u249 u250 u251 W5 x1 _ _ cB _ _ (by assumption) (by assumption) d0 x0 HCB h3
              · exact rparse_kA._proof_27 s m2 _ lc n mS _ u3 u4 u13 u14 u15 u16 u54 u113 u126 u139 u160 u202 u228 u237 _ i tb tof m11 _ m12 uk ux u29 u30 u31 u32 u33 u34 u35 u36 u37 u38 u39 u40 u41 u42 u43 u44 u45 u46 u47 u48 u49 u51 u52 u53 u55 u56 u57 u58 u59 u60 u61 u62 u63 u64 u65 u66 u67 u68 u69 u70 u71 u72 u73 u74 u75 u76 u77 u78 u79 u80 u81 u82 u83 u84 u85 u86 u87 u88 u89 u90 u91 u92 u93 u94 u95 u96 u97 u98 u99 u100 u101 u102 u103 u104 u105 u106 u107 u108 u109 u110 u111 u112 u114 u115 u116 u117 u118 u119 u120 u121 u122 u123 u124 u125 u127 u128 u129 u130 u131 u132 u133 u134 u135 u136 u137 u138 u140 u141 u142 u143 u144 u145 u146 u147 u148 u149 u150 u151 u152 u153 u154 u155 u156 u157 u158 u159 u161 u162 u163 u164 u165 u166 u167 u168 u169 u170 u171 u172 u173 u174 u175 u176 u177 u178 u179 u180 u181 u182 u183 u184 u185 u186 u187 u188 u189 u190 u191 u192 u193 u194 u195 u196 u197 u198 u199 u200 u201 u203 u204 u205 u206 u207 u208 u209 u210 u211 u212 u213 u214 u215 u216 u217 u218 u219 u220 u221 u222 u223 u224 u225 u226 u227 u229 u230 u231 u232 u233 u234 u235 u236 u238 u239 u240 u241 u242 u243 u244 u245 u246 u247 u248 u249 u250 u251 W5 x0 _ _ cB _ _ (by assumption) (by assumption) d0 HCB h2
            · exact rparse_kA._proof_28 s m2 _ lc n mS _ u3 u4 u13 u14 u15 u16 u54 u113 u126 u139 u160 u202 u228 u237 _ i tb tof tk m11 _ m12 uk ux u29 u30 u31 u32 u33 u34 u35 u36 u37 u38 u39 u40 u41 u42 u43 u44 u45 u46 u47 u48 u49 u51 u52 u53 u55 u56 u57 u58 u59 u60 u61 u62 u63 u64 u65 u66 u67 u68 u69 u70 u71 u72 u73 u74 u75 u76 u77 u78 u79 u80 u81 u82 u83 u84 u85 u86 u87 u88 u89 u90 u91 u92 u93 u94 u95 u96 u97 u98 u99 u100 u101 u102 u103 u104 u105 u106 u107 u108 u109 u110 u111 u112 u114 u115 u116 u117 u118 u119 u120 u121 u122 u123 u124 u125 u127 u128 u129 u130 u131 u132 u133 u134 u135 u136 u137 u138 u140 u141 u142 u143 u144 u145 u146 u147 u148 u149 u150 u151 u152 u153 u154 u155 u156 u157 u158 u159 u161 u162 u163 u164 u165 u166 u167 u168 u169 u170 u171 u172 u173 u174 u175 u176 u177 u178 u179 u180 u181 u182 u183 u184 u185 u186 u187 u188 u189 u190 u191 u192 u193 u194 u195 u196 u197 u198 u199 u200 u201 u203 u204 u205 u206 u207 u208 u209 u210 u211 u212 u213 u214 u215 u216 u217 u218 u219 u220 u221 u222 u223 u224 u225 u226 u227 u229 u230 u231 u232 u233 u234 u235 u236 u238 u239 u240 u241 u242 u243 u244 u245 u246 u247 u248 u249 u250 u251 W5 d0 _ _ cB HCB _ _ (by assumption) (by assumption) h1
          case rest =>
            obtain ⟨hv54, hw5⟩ := hcut
            subst hv54
            rw [hw5]
            clear hw5
            cases cB with
            | true =>
              obtain ⟨rfl, rfl, rfl⟩ : tk = 1 ∧ uk = 5 ∧ ux = [40] := by
                have := HCB.out.symm
                simp only [Bool.and_eq_true, decide_eq_true_eq] at this
                exact ⟨this.1.1, this.1.2, this.2⟩
              clear HCB
              obtain ⟨k, hk⟩ : ∃ k, k = j + 1 := ⟨_, rfl⟩
              have ek : (j : Int) + 1 = (k : Int) := by omega
              have HK : Hid (k = j + 1) := hk
              clear hk
              go_upto_region 17 with (at_builtin; refine appG_one encW 62 56 48 _ rfl infoW Tryz.underlying56 rfl (.tmp 69) (.tmp 78) rfl (mS + 1) _ ws.reverse ⟨0, tp, tx, true, nl⟩ _ rfl H5.out.1.sp.st.wts rfl (by have := HO.out.2; rw [List.length_reverse]; omega) (by have := HO.out.2; rw [List.length_reverse]; simp only [maxLen]; omega) (by omega) _ rfl ?_; intro v6 w6 ho6 hb6 hm6 ht6; obtain ⟨wa6, wk6, e6, q6, _, r6, _⟩ := OwnG.form ho6; rw [List.length_append, List.length_reverse, HO.out.2] at e6; simp only [List.length_cons, List.length_nil, Nat.zero_add] at e6; subst e6; have J6 : Hid (OwnG encW 62 w6 (mS + 1) (.slice wa6 (wl + 1) wk6) (ws.reverse ++ [⟨0, tp, tx, true, nl⟩]) ∧ Moved W5 (.slice wa wl wk) (.slice wa6 (wl + 1) wk6) ∧ Turned (fun k => (Value.slice wa wl wk).ownBlock = some k) W5 w6) := ⟨ho6, hm6, ht6⟩; clear ho6 hb6 hm6 ht6 q6 r6; obtain ⟨g0, g1⟩ := (H5.out.1.sp.box.turned J6.out.2.2 (H5.out.1.sp.apart)).cells; obtain ⟨g2, g3⟩ := (H5.out.1.sp.box.turned J6.out.2.2 (H5.out.1.sp.apart)).thaw)
              obtain ⟨W6, hW6⟩ : ∃ W6, w6.setCell ⟨mS, 1, none⟩ (.slice wa6 (wl + 1) wk6) = W6 := ⟨_, rfl⟩
              have HP6 : Hid (SP mS m2 w W6 ns (⟨0, tp, tx, true, nl⟩ :: ws) na nl nc wa6 (wl + 1) wk6 ∧ Below mS W5 W6 ∧ Below w1.heap.size w1 W6) := by
                have h1 := H5.out.1.sp.wait J6.out.1 J6.out.2.1 J6.out.2.2
                have h2 : Below mS W5 (w6.setCell ⟨mS, 1, none⟩ (.slice wa6 (wl + 1) wk6)) := (J6.out.2.2.below (Nat.le_of_lt lS) (fun k hk e => by have := (H5.out.1.sp.st.wts.lt k e).1; omega)).setCell (p := ⟨mS, 1, none⟩) (Nat.le_refl _) _
                rw [hW6] at h1 h2
                exact ⟨h1, h2, H5.out.2.1.trans (by rw [← HN.out.2.2.1]; exact h2)⟩
              rw [hW6]
              clear hW6 J6 g0 g1 g2 g3
              clear c0 c1 f0 f1 d0 d1 d2 d3 d4 x0 x1 x2 x3 x4
              go_upto_region 18 with fail
              obtain ⟨dB, hdB⟩ : ∃ dB, hd (sB [41]) (us.drop k) = dB := ⟨_, rfl⟩
              have HDB : Hid (hd (sB [41]) (us.drop k) = dB) := hdB
              clear hdB
              go_cut [105] (fun v q => v = .bool dB ∧ q = W6)
              case first =>
                by_cases hkn : k < n
                · have hkk : (k : Int) < (n : Int) := by omega
                  have hk0 : (0 : Int) ≤ (k : Int) := by omega
                  obtain ⟨⟨zk, zx, zn, zi, zp⟩, hz⟩ : ∃ z, us[k]? = some z := ⟨_, List.getElem?_eq_getElem (by rw [HN.out.1]; exact hkn)⟩
                  obtain ⟨_, q0, q1, q2, q3, q4⟩ := (HN.out.2.2.2.1.below HP6.out.2.2).tok hz
                  have hpk := pk_at hz
                  have hdd : dB = (decide (zk = 5) && decide (zx = [41])) := by rw [← HDB.out, hd_pk (by rfl), hpk]; rfl
                  have HDD : Hid (dB = (decide (zk = 5) && decide (zx = [41]))) := hdd
                  clear hdd hpk hz
                  simp only at q0 q1
                  by_cases h1 : zk = 5
                  · subst h1
                    by_cases h2 : zx = [41]
                    · exact rparse_kA._proof_40 s m2 _ lc n mS hn1 _ gk wr u3 u4 u13 u14 u15 u16 u113 u126 u139 u160 u202 u228 u237 _ i na nl nc wa wl wk hig tb tof tx tp m11 _ m12 j ej W5 _ _ u29 u30 u31 u32 u33 u34 u35 u36 u37 u38 u39 u40 u41 u42 u43 u44 u45 u46 u47 u48 u49 u50 u51 u52 u53 u55 u56 u57 u58 u59 u60 u61 u62 u63 u64 u65 u66 u67 u83 u84 u85 u86 u87 u88 u89 u90 u91 u92 u93 u94 u95 u96 u97 u98 u99 u100 u101 u102 u103 u104 u105 u106 u107 u108 u109 u110 u111 u112 u114 u115 u116 u117 u118 u119 u120 u121 u122 u123 u124 u125 u127 u128 u129 u130 u131 u132 u133 u134 u135 u136 u137 u138 u140 u141 u142 u143 u144 u145 u146 u147 u148 u149 u150 u151 u152 u153 u154 u155 u156 u157 u158 u159 u161 u162 u163 u164 u165 u166 u167 u168 u169 u170 u171 u172 u173 u174 u175 u176 u177 u178 u179 u180 u181 u182 u183 u184 u185 u186 u187 u188 u189 u190 u191 u192 u193 u194 u195 u196 u197 u198 u199 u200 u201 u203 u204 u205 u206 u207 u208 u209 u210 u211 u212 u213 u214 u215 u216 u217 u218 u219 u220 u221 u222 u223 u224 u225 u226 u227 u229 u230 u231 u232 u233 u234 u235 u236 u238 u239 u240 u241 u242 u243 u244 u245 u246 u247 u248 u249 u250 u251 k ek wa6 wk6 W6 dB _ _ (by assumption) (by assumption) hkn hkk hk0 zx zn zi zp q1 q0 q2 q3 q4 HDD h2
                    · exact rparse_kA._proof_41 s m2 _ lc n mS hn1 _ gk wr u3 u4 u13 u14 u15 u16 u113 u126 u139 u160 u202 u228 u237 _ i na nl nc wa wl wk hig tb tof tx tp m11 _ m12 j ej W5 _ _ u29 u30 u31 u32 u33 u34 u35 u36 u37 u38 u39 u40 u41 u42 u43 u44 u45 u46 u47 u48 u49 u50 u51 u52 u53 u55 u56 u57 u58 u59 u60 u61 u62 u63 u64 u65 u66 u67 u83 u84 u85 u86 u87 u88 u89 u90 u91 u92 u93 u94 u95 u96 u97 u98 u99 u100 u101 u102 u103 u104 u105 u106 u107 u108 u109 u110 u111 u112 u114 u115 u116 u117 u118 u119 u120 u121 u122 u123 u124 u125 u127 u128 u129 u130 u131 u132 u133 u134 u135 u136 u137 u138 u140 u141 u142 u143 u144 u145 u146 u147 u148 u149 u150 u151 u152 u153 u154 u155 u156 u157 u158 u159 u161 u162 u163 u164 u165 u166 u167 u168 u169 u170 u171 u172 u173 u174 u175 u176 u177 u178 u179 u180 u181 u182 u183 u184 u185 u186 u187 u188 u189 u190 u191 u192 u193 u194 u195 u196 u197 u198 u199 u200 u201 u203 u204 u205 u206 u207 u208 u209 u210 u211 u212 u213 u214 u215 u216 u217 u218 u219 u220 u221 u222 u223 u224 u225 u226 u227 u229 u230 u231 u232 u233 u234 u235 u236 u238 u239 u240 u241 u242 u243 u244 u245 u246 u247 u248 u249 u250 u251 k ek wa6 wk6 W6 dB _ _ (by assumption) (by assumption) hkn hkk hk0 zx q1 q0 HDD h2
                  · exact rparse_kA._proof_42 s m2 _ lc n mS hn1 _ gk wr u3 u4 u13 u14 u15 u16 u113 u126 u139 u160 u202 u228 u237 _ i na nl nc wa wl wk hig tb tof tx tp m11 _ m12 j ej W5 _ _ u29 u30 u31 u32 u33 u34 u35 u36 u37 u38 u39 u40 u41 u42 u43 u44 u45 u46 u47 u48 u49 u50 u51 u52 u53 u55 u56 u57 u58 u59 u60 u61 u62 u63 u64 u65 u66 u67 u83 u84 u85 u86 u87 u88 u89 u90 u91 u92 u93 u94 u95 u96 u97 u98 u99 u100 u101 u102 u103 u104 u105 u106 u107 u108 u109 u110 u111 u112 u114 u115 u116 u117 u118 u119 u120 u121 u122 u123 u124 u125 u127 u128 u129 u130 u131 u132 u133 u134 u135 u136 u137 u138 u140 u141 u142 u143 u144 u145 u146 u147 u148 u149 u150 u151 u152 u153 u154 u155 u156 u157 u158 u159 u161 u162 u163 u164 u165 u166 u167 u168 u169 u170 u171 u172 u173 u174 u175 u176 u177 u178 u179 u180 u181 u182 u183 u184 u185 u186 u187 u188 u189 u190 u191 u192 u193 u194 u195 u196 u197 u198 u199 u200 u201 u203 u204 u205 u206 u207 u208 u209 u210 u211 u212 u213 u214 u215 u216 u217 u218 u219 u220 u221 u222 u223 u224 u225 u226 u227 u229 u230 u231 u232 u233 u234 u235 u236 u238 u239 u240 u241 u242 u243 u244 u245 u246 u247 u248 u249 u250 u251 k ek wa6 wk6 W6 dB _ _ (by assumption) (by assumption) hkn hkk hk0 zk zx q0 HDD h1
                · exact rparse_kA._proof_46 s m2 w1 us _ lc n W2 mS hn1 _ gk wr u3 u4 u13 u14 u15 u16 u113 u126 u139 u160 u202 u228 u237 _ i na nl nc wa wl wk hig hin tb tof HN tx tp m11 _ m12 j ej W5 _ _ u29 u30 u31 u32 u33 u34 u35 u36 u37 u38 u39 u40 u41 u42 u43 u44 u45 u46 u47 u48 u49 u50 u51 u52 u53 u55 u56 u57 u58 u59 u60 u61 u62 u63 u64 u65 u66 u67 u83 u84 u85 u86 u87 u88 u89 u90 u91 u92 u93 u94 u95 u96 u97 u98 u99 u100 u101 u102 u103 u104 u105 u106 u107 u108 u109 u110 u111 u112 u114 u115 u116 u117 u118 u119 u120 u121 u122 u123 u124 u125 u127 u128 u129 u130 u131 u132 u133 u134 u135 u136 u137 u138 u140 u141 u142 u143 u144 u145 u146 u147 u148 u149 u150 u151 u152 u153 u154 u155 u156 u157 u158 u159 u161 u162 u163 u164 u165 u166 u167 u168 u169 u170 u171 u172 u173 u174 u175 u176 u177 u178 u179 u180 u181 u182 u183 u184 u185 u186 u187 u188 u189 u190 u191 u192 u193 u194 u195 u196 u197 u198 u199 u200 u201 u203 u204 u205 u206 u207 u208 u209 u210 u211 u212 u213 u214 u215 u216 u217 u218 u219 u220 u221 u222 u223 u224 u225 u226 u227 u229 u230 u231 u232 u233 u234 u235 u236 u238 u239 u240 u241 u242 u243 u244 u245 u246 u247 u248 u249 u250 u251 k ek wa6 wk6 W6 dB HDB _ _ (by assumption) (by assumption) hkn
              case rest =>
                obtain ⟨hv, hw⟩ := hcut
                subst hv
                rw [hw]
                clear hw
                cases dB with
                | true =>
                  have hcl := close_any W6 HP6.out.1.st (fun g q => q.2.1) (by unfold Rk; rw [if_pos rfl]; trivial) (by omega) (by omega) (by
                    rw [red_stop (.inl rfl)]
                    rintro v r e
                    injection e with e1 e2
                    subst e1
                    have := HO.out.1
                    simp only
                    omega)
                  rw [red_stop (.inl rfl)] at hcl
                  have HCL : Hid (Calls Tryz.prog 15 _ _ _) := hcl
                  clear hcl
                  obtain ⟨c0, c1⟩ := HP6.out.1.box.cells
                  go_upto_region 21 with (go_at_call 15; refine HCL.out.mono ?_; rintro e w8 ⟨na8, nl8, nc8, wl8, f8, rfl, b8, h8⟩; have H8 : Hid (Below W6.heap.size W6 w8 ∧ _) := ⟨b8, h8⟩; clear b8 h8; obtain ⟨g0, g1⟩ := (HP6.out.1.box.below H8.out.1).cells; obtain ⟨g2, g3⟩ := (HP6.out.1.box.below H8.out.1).thaw)
                  obtain ⟨ns9, ws9, hsh, hst⟩ : ∃ ns' ws', shutB ns (⟨0, tp, tx, true, nl⟩ :: ws) = some (ns', ws') ∧ St (fun g => Qs mS W6 wa6 g ∨ Bt W6.heap.size w8.heap.size g) (mS + 1) w8 na8 nl8 nc8 wa6 wl8 wk6 ns' ws' := by
                    rcases H8.out.2 with ⟨_, q⟩ | ⟨_, q⟩
                    · simp [shutB] at q
                    · exact q
                  have hP9 := HP6.out.1.put H8.out.1 hst (fun g q => by
                    rcases q with q | q
                    · exact ⟨q.1, Nat.lt_of_lt_of_le q.2.1 H8.out.1.size, q.2.2⟩
                    · refine ⟨by have := HP6.out.1.lt; have := q.1; omega, q.2, fun a e e2 => ?_⟩
                      have := (HP6.out.1.st.owner a e).2
                      have := q.1
                      omega)
                  obtain ⟨W9, hW9⟩ : ∃ W9, (w8.setCell ⟨mS, 0, none⟩ (.slice na8 nl8 nc8)).setCell ⟨mS, 1, none⟩ (.slice wa6 wl8 wk6) = W9 := ⟨_, rfl⟩
                  have hb9 : Below w1.heap.size w1 W9 := by
                    rw [← hW9, ← HN.out.2.2.1]
                    have h1 : Below mS w1 w8 := by
                      have h2 := HP6.out.2.2
                      rw [← HN.out.2.2.1] at h2
                      exact h2.trans (H8.out.1.mono (by have := HP6.out.1.lt; omega))
                    exact (h1.setCell (p := ⟨mS, 0, none⟩) (Nat.le_refl _) _).setCell (p := ⟨mS, 1, none⟩) (Nat.le_refl _) _
                  rw [hW9] at hP9 ⊢
                  have HP9 : Hid (SP mS m2 w W9 ns9 ws9 na8 nl8 nc8 wa6 wl8 wk6 ∧ Below w1.heap.size w1 W9 ∧ shutB ns (⟨0, tp, tx, true, nl⟩ :: ws) = some (ns9, ws9)) := ⟨hP9, hb9, hsh⟩
                  clear hP9 hb9 hsh hst hW9 H8 g0 g1 g2 g3
                  go_wp2_with fail
                  go_roundg (gk - 3)
                  case measure => have := HK.out; have := HJ.out.1; have := hd_lt HDB.out; have := HN.out.1; omega
                  case rel =>
                    have hq := shut_call (HD.out.2.1 (by trivial)) HO.out.1 HP9.out.2.2
                    exact ⟨k + 1, false, ns9, ws9, na8, nl8, nc8, wa6, wl8, wk6, by go_num, rfl, by have := HK.out; have := HJ.out.1; have := hd_lt HDB.out; have := HN.out.1; omega, ⟨HP9.out.1, want_call1 H5.out.1.eq HD.out.1 HJ.out HK.out HDB.out hq, by rw [hq.1, hq.2]; exact H5.out.1.vk, by have h1 := HP9.out.1.st.len; have h2 := HP9.out.1.st.wl; rw [hq.1] at h1; rw [hq.2] at h2; have := H5.out.1.len; have := HO.out; have := HK.out; have := HJ.out.1; simp at h1; omega⟩, HP9.out.2.1⟩
                | false =>
                  exact rparse_kA._proof_63 s w m2 w1 us _ lc n W2 mS hn1 _ gk wr u3 u4 u13 u14 u15 u16 u113 u126 u139 u160 u202 u228 u237 _ _ (by assumption) i ns ws na nl nc wa wl wk hig hin tb tof HN (by assumption) tx tn ti tp W3 m11 _ (by assumption) m12 j ej un ui up W5 HO _ _ (by assumption) HD HJ H5 k ek HK wa6 wk6 W6 HP6 _ (by assumption) u29 u30 u31 u32 u33 u34 u35 u36 u37 u38 u39 u40 u41 u42 u43 u44 u45 u46 u47 u48 u49 u50 u51 u52 u53 u55 u56 u57 u58 u59 u60 u61 u62 u63 u64 u65 u66 u67 u68 u69 u70 u71 u72 u73 u74 u75 u76 u77 u78 u79 u80 u81 u82 u83 u84 u85 u86 u87 u88 u89 u90 u91 u92 u93 u94 u95 u96 u97 u98 u99 u100 u101 u102 u103 u104 u106 u107 u108 u109 u110 u111 u112 u114 u115 u116 u117 u118 u119 u120 u121 u122 u123 u124 u125 u127 u128 u129 u130 u131 u132 u133 u134 u135 u136 u137 u138 u140 u141 u142 u143 u144 u145 u146 u147 u148 u149 u150 u151 u152 u153 u154 u155 u156 u157 u158 u159 u161 u162 u163 u164 u165 u166 u167 u168 u169 u170 u171 u172 u173 u174 u175 u176 u177 u178 u179 u180 u181 u182 u183 u184 u185 u186 u187 u188 u189 u190 u191 u192 u193 u194 u195 u196 u197 u198 u199 u200 u201 u203 u204 u205 u206 u207 u208 u209 u210 u211 u212 u213 u214 u215 u216 u217 u218 u219 u220 u221 u222 u223 u224 u225 u226 u227 u229 u230 u231 u232 u233 u234 u235 u236 u238 u239 u240 u241 u242 u243 u244 u245 u246 u247 u248 u249 u250 u251 HDB
            | false =>
              have HNO : Hid (¬ (tk = 1 ∧ hd (sB [40]) (us.drop j) = true)) := by
                rintro ⟨h1, h2⟩
                rw [hd_pk (by rfl), HJ.out.2] at h2
                have h3 := HCB.out
                simp only [sB, Bool.and_eq_true, decide_eq_true_eq] at h2
                rw [h1, h2.1, h2.2] at h3
                cases h3
              clear HCB
              by_cases h5 : tk = 5
              · subst h5
                by_cases hx : tx = [40]
                · exact rparse_kF._proof_29 s w m2 w1 us _ lc n W2 mS hn1 _ gk wr u3 u4 u13 u14 u15 u16 u113 u126 u139 u160 u202 u228 u237 _ _ (by assumption) i ns ws na nl nc wa wl wk hig hin tb tof HN (by assumption) tx tn ti tp W3 m11 _ (by assumption) m12 j ej uk ux un ui up HJ W5 HO hwl5 d1 _ _ (by assumption) _ (by assumption) u29 u30 u31 u32 u33 u34 u35 u36 u37 u38 u39 u40 u41 u42 u43 u44 u45 u46 u47 u48 u49 u50 u51 u52 u53 u55 u56 u57 u58 u59 u60 u61 u62 u63 u64 u65 u66 u67 u68 u69 u70 u71 u72 u73 u74 u75 u76 u77 u78 u79 u80 u81 u82 u83 u84 u85 u86 u87 u88 u89 u90 u91 u92 u93 u94 u95 u96 u97 u98 u99 u100 u101 u102 u103 u104 u105 u106 u107 u108 u109 u110 u111 u112 u114 u115 u116 u117 u118 u119 u120 u121 u122 u123 u124 u125 u127 u128 u129 u130 u131 u132 u133 u134 u135 u136 u137 u138 u140 u141 u142 u143 u144 u145 u146 u147 u148 u149 u150 u151 u152 u153 u154 u155 u156 u157 u158 u159 u161 u162 u163 u164 u165 u166 u167 u168 u169 u170 u171 u172 u173 u174 u175 u176 u177 u178 u179 u180 u181 u182 u183 u184 u185 u186 u187 u188 u189 u190 u191 u192 u193 u194 u195 u196 u197 u198 u199 u200 u201 u203 u204 u205 u206 u207 u208 u209 u210 u211 u212 u213 u214 u215 u216 u217 u218 u219 u220 u221 u222 u223 u224 u225 u226 u227 u229 u230 u231 u232 u233 u234 u235 u236 u238 u239 u240 u241 u242 u243 u244 u245 u246 u247 u248 u249 u250 u251 HD d0 H5 hx
                · have hx' : (tx == [40]) = false := by rw [beq_eq_false_iff_ne]; exact hx
                  have HX : Hid (¬ tx = [40]) := hx
                  clear hx
                  by_cases hy : tx = [33]
                  · exact rparse_kF._proof_30 s w m2 w1 us _ lc n W2 mS hn1 _ gk wr u3 u4 u13 u14 u15 u16 u113 u126 u139 u160 u202 u228 u237 _ _ (by assumption) i ns ws na nl nc wa wl wk hig hin tb tof HN (by assumption) tx tn ti tp W3 m11 _ (by assumption) m12 j ej uk ux un ui up HJ W5 hwl5 d1 _ _ (by assumption) _ (by assumption) u29 u30 u31 u32 u33 u34 u35 u36 u37 u38 u39 u40 u41 u42 u43 u44 u45 u46 u47 u48 u49 u50 u51 u52 u53 u55 u56 u57 u58 u59 u60 u61 u62 u63 u64 u65 u66 u67 u68 u69 u70 u71 u72 u73 u74 u75 u76 u77 u78 u79 u80 u81 u82 u83 u84 u85 u86 u87 u88 u89 u90 u91 u92 u93 u94 u95 u96 u97 u98 u99 u100 u101 u102 u103 u104 u105 u106 u107 u108 u109 u110 u111 u112 u114 u115 u116 u117 u118 u119 u120 u121 u122 u123 u124 u125 u127 u128 u129 u130 u131 u132 u133 u134 u135 u136 u137 u138 u140 u141 u142 u143 u144 u145 u146 u147 u148 u149 u150 u151 u152 u153 u154 u155 u156 u157 u158 u159 u161 u162 u163 u164 u165 u166 u167 u168 u169 u170 u171 u172 u173 u174 u175 u176 u177 u178 u179 u180 u181 u182 u183 u184 u185 u186 u187 u188 u189 u190 u191 u192 u193 u194 u195 u196 u197 u198 u199 u200 u201 u203 u204 u205 u206 u207 u208 u209 u210 u211 u212 u213 u214 u215 u216 u217 u218 u219 u220 u221 u222 u223 u224 u225 u226 u227 u229 u230 u231 u232 u233 u234 u235 u236 u238 u239 u240 u241 u242 u243 u244 u245 u246 u247 u248 u249 u250 u251 HD d0 H5 hx' HX hy
                  · have hy' : (tx == [33]) = false := by rw [beq_eq_false_iff_ne]; exact hy
                    have HY : Hid (¬ tx = [33]) := hy
                    clear hy
                    obtain ⟨r0, r1, r2, r3, r4, r5⟩ := H5.out.1.sp.res.cells
                    obtain ⟨q0, q1, q2, q3, q4, q5⟩ := H5.out.1.sp.res.thaw
                    have HZ : Hid (rn (s.size : Int) [] [] true us = .err (tp)) := by
                      rw [← H5.out.1.eq]
                      exact want_err HD.out.1 HX.out HY.out
                    have e3 := HE1.out.2.2.1
                    have e4 := HE1.out.2.2.2.1
                    have e5 := HE1.out.2.2.2.2.1
                    have e4' : ¬ m2 = m11 := fun q => e4 q.symm
                    have e5' : ¬ m2 = m12 := fun q => e5 q.symm
                    go_upto_region 14 with fail
                    go_region_held3 (fun u => u.cell? ⟨m11, 4, none⟩ = some (.int .i64 tp)) (go_keep) (fail)
                    go_wp2_with fail
                    refine bodyPost_ret (results_cell3 (by rfl) _ ⟨m2, 0, none⟩ (by rfl) (load6 ((H5.out.1.sp.res.sixed _ _ _ _ _ _).below (Below.refl _ _).drew))) (by rfl) ⟨nv0, tp, 31, (by rfl), (belowS6 H5.out.1.sp.bel H5.out.1.sp.ord.2 _ _ _ _ _ _).drew, .inl ⟨_, HZ.out, rfl, rfl, rfl⟩⟩
              · exact rparse_kA._proof_68 s w m2 w1 us _ lc n W2 mS hn1 _ gk wr u3 u4 u13 u14 u15 u16 u113 u126 u139 u160 u202 u228 u237 _ _ (by assumption) i ns ws na nl nc wa wl wk hig hin tb tof HN (by assumption) tk tx tn ti tp W3 m11 _ (by assumption) m12 HD j ej uk ux un ui up HJ W5 hnl5 d0 H5 _ _ (by assumption) _ (by assumption) u29 u30 u31 u32 u33 u34 u35 u36 u37 u38 u39 u40 u41 u42 u43 u44 u45 u46 u47 u48 u49 u50 u51 u52 u53 u55 u56 u57 u58 u59 u60 u61 u62 u63 u64 u65 u66 u67 u68 u69 u70 u71 u72 u73 u74 u75 u76 u77 u78 u79 u80 u81 u82 u83 u84 u85 u86 u87 u88 u89 u90 u91 u92 u93 u94 u95 u96 u97 u98 u99 u100 u101 u102 u103 u104 u105 u106 u107 u108 u109 u110 u111 u112 u114 u115 u116 u117 u118 u119 u120 u121 u122 u123 u124 u125 u127 u128 u129 u130 u131 u132 u133 u134 u135 u136 u137 u138 u140 u141 u142 u143 u144 u145 u146 u147 u148 u149 u150 u151 u152 u153 u154 u155 u156 u157 u158 u159 u161 u162 u163 u164 u165 u166 u167 u168 u169 u170 u171 u172 u173 u174 u175 u176 u177 u178 u179 u180 u181 u182 u183 u184 u185 u186 u187 u188 u189 u190 u191 u192 u193 u194 u195 u196 u197 u198 u199 u200 u201 u203 u204 u205 u206 u207 u208 u209 u210 u211 u212 u213 u214 u215 u216 u217 u218 u219 u220 u221 u222 u223 u224 u225 u226 u227 u229 u230 u231 u232 u233 u234 u235 u236 u238 u239 u240 u241 u242 u243 u244 u245 u246 u247 u248 u249 u250 u251 HNO h5
        | false =>
          by_cases h5 : tk = 5
          · subst h5
            obtain ⟨KO, hKO⟩ : ∃ KO, opOf tx = KO := ⟨_, rfl⟩
            have hop := rop_any tx W5
            rw [hKO] at hop
            have HKO : Hid (opOf tx = KO) := hKO
            clear hKO
            by_cases hup : tx = [94]
            · subst hup
              go_upto_region 36 with (go_at_call 17; refine hop.mono ?_; rintro e w6 ⟨rfl, hw6⟩; rw [hw6]; clear hw6)
              clear hop
              obtain ⟨x, t, rfl⟩ : ∃ x t, ns = x :: t := by
                cases ns with
                | nil => exact absurd (Vk.pos H5.out.1.vk) (by simp)
                | cons x t => exact ⟨x, t, rfl⟩
              obtain ⟨q, hq⟩ : ∃ q, nl = q + 1 := ⟨nl - 1, by have := HO.out.1; rw [List.length_cons] at this; omega⟩
              obtain ⟨us5, hu1, hu2, hu3, hu4, hu5⟩ := H5.out.1.sp.st.nds
              obtain ⟨kv, hkv, hkn⟩ := hu5.get (last_rev (HO.out.1.trans hq))
              obtain ⟨nb, no, e9, hnb⟩ := hu1.some_of hkv
              subst e9
              obtain ⟨ko, kt, kn, ki, ka, kl, kc, kp⟩ := kv
              refine wp_code (c' := prg 36) (by kernel_rfl) ?_
              refine wp_name (fun A hA => ?_)
              refine Code.wp_mono ?_ (up36 H5.out.1.sp.box H5.out.2.2.1 hu1 hkv hq (by omega) hu3 A (by rw [hA]; rfl) (by rw [hA]; rfl) (by rw [hA]; rfl) (by rw [hA]; rfl))
              rintro e b W6 ⟨rfl, gx, gy, hg, hb, hm⟩
              have HV : Hid (∀ (V : World) (num : Int), Mu W5 V gx gy num tp ⟨ko, kt, kn, ki, ka, kl, kc, kp⟩ → (PI (s.size : Int) us mS m2 w V i false (x :: t) ws (some ⟨nb, no, none⟩) nl nc wa wl wk ∧ Below w1.heap.size w1 V ∧ Box5 V m11 60 (.int .i64 5) (.string ⟨#[94]⟩) (.int .i64 tn) (.int .u64 ti) (.int .i64 tp) ∧ Box5 V m12 60 (.int .i64 uk) (.string ⟨ux.toArray⟩) (.int .i64 un) (.int .u64 ui) (.int .i64 up)) ∧ NdIn (Qs mS V wa) V ⟨ko, kt, kn, ki, ka, kl, kc, kp⟩ x ∧ Qs mS V wa gy) := by
                intro V num h
                have hmm : ∀ g, Qs mS W5 wa g → Qs mS V wa g := fun _ q => ⟨q.1, Nat.lt_of_lt_of_le q.2.1 h.bel.size, q.2.2⟩
                refine ⟨⟨⟨H5.out.1.sp.below h.bel, H5.out.1.eq, H5.out.1.vk, H5.out.1.len⟩, H5.out.2.1.trans (h.bel.mono H5.out.2.1.size), H5.out.2.2.1.below h.bel, H5.out.2.2.2.below h.bel⟩, (hkn.below h.bel).mono hmm, ⟨by have := h.ly.1; omega, h.ly.2, fun a e e2 => ?_⟩⟩
                have := (H5.out.1.sp.st.owner a e).2
                have := h.ly.1
                omega
              have HM : Hid (Mu W5 W6 gx gy 0 tp ⟨ko, kt, kn, ki, ka, kl, kc, kp⟩) := hm
              have HQN : Hid (nl = q + 1) := hq
              clear hm hkv hkn hnb hu1 hu2 hu3 hu4 hu5 hq
              subst hA
              obtain ⟨u167, hb⟩ := hb.one
              obtain ⟨u168, hb⟩ := hb.one
              obtain ⟨u169, hb⟩ := hb.one
              obtain ⟨u170, hb⟩ := hb.one
              obtain ⟨u171, hb⟩ := hb.one
              obtain ⟨u172, hb⟩ := hb.one
              obtain ⟨u173, hb⟩ := hb.one
              obtain ⟨u174, hb⟩ := hb.one
              obtain ⟨u175, hb⟩ := hb.one
              obtain ⟨u176, hb⟩ := hb.one
              have eb := hb.last hg
              subst eb
              clear hb hg
              simp only [Act.put, List.setIfInBounds_toArray, List.set_cons_zero, List.set_cons_succ]
              have H5 : Hid (PI (s.size : Int) us mS m2 w W6 i false (x :: t) ws (some ⟨nb, no, none⟩) nl nc wa wl wk ∧ Below w1.heap.size w1 W6 ∧ Box5 W6 m11 60 (.int .i64 5) (.string ⟨#[94]⟩) (.int .i64 tn) (.int .u64 ti) (.int .i64 tp) ∧ Box5 W6 m12 60 (.int .i64 uk) (.string ⟨ux.toArray⟩) (.int .i64 un) (.int .u64 ui) (.int .i64 up)) := (HV.out W6 0 HM.out).1
              clear c0 c1 f0 f1 d0 d1 d2 d3 d4 x0 x1 x2 x3 x4
              obtain ⟨x0, x1, x2, x3, x4⟩ := H5.out.2.2.2.cells
              by_cases h2 : uk = 2
              · subst h2
                by_cases h0 : un = 0
                · subst h0
                  obtain ⟨r0, r1, r2, r3, r4, r5⟩ := H5.out.1.sp.res.cells
                  obtain ⟨q0, q1, q2, q3, q4, q5⟩ := H5.out.1.sp.res.thaw
                  have HZ : Hid (rn (s.size : Int) [] [] true us = .err (up)) := by
                    rw [← H5.out.1.eq]
                    exact have_upE HD.out.1 HJ.out
                  have e3 := HE1.out.2.2.1
                  have e4 := HE1.out.2.2.2.1
                  have e5 := HE1.out.2.2.2.2.1
                  have e4' : ¬ m2 = m11 := fun q => e4 q.symm
                  have e5' : ¬ m2 = m12 := fun q => e5 q.symm
                  go_upto_region 39 with fail
                  go_region_held3 (fun u => u.cell? ⟨m12, 4, none⟩ = some (.int .i64 up)) (go_keep) (fail)
                  go_wp2_with fail
                  refine bodyPost_ret (results_cell3 (by rfl) _ ⟨m2, 0, none⟩ (by rfl) (load6 ((H5.out.1.sp.res.sixed _ _ _ _ _ _).below (Below.refl _ _).drew))) (by rfl) ⟨nv0, up, 31, (by rfl), (belowS6 H5.out.1.sp.bel H5.out.1.sp.ord.2 _ _ _ _ _ _).drew, .inl ⟨_, HZ.out, rfl, rfl, rfl⟩⟩
                · exact rparse_kB._proof_35 s w m2 w1 us _ lc n W2 mS hn1 _ gk wr u3 u4 u54 u113 u126 u139 u202 u228 u237 _ _ (by assumption) i ws nl nc wa wl wk hig hin tb tof HN (by assumption) tn ti tp W3 m11 _ (by assumption) m12 j ej ux un ui up u29 u30 u31 u32 u33 u34 u35 u36 u37 u38 u39 u40 u41 u42 u43 u44 u45 u46 u47 u48 u49 u51 u52 u53 u55 u56 u57 u58 u59 u60 u61 u62 u63 u64 u65 u66 u67 u68 u69 u70 u71 u72 u73 u74 u75 u76 u77 u78 u79 u80 u81 u82 u83 u84 u85 u86 u87 u88 u89 u90 u91 u92 u93 u94 u95 u96 u97 u98 u99 u100 u101 u102 u103 u104 u105 u106 u107 u108 u109 u110 u111 u112 u114 u115 u116 u117 u118 u119 u120 u121 u122 u123 u124 u125 u127 u128 u129 u130 u131 u132 u133 u134 u135 u136 u137 u138 u140 u141 u142 u143 u144 u145 u146 u147 u148 u149 u150 u154 u155 u156 u177 u178 u179 u180 u181 u182 u183 u184 u185 u186 u187 u188 u189 u190 u191 u192 u193 u194 u195 u196 u197 u198 u199 u200 u201 u203 u204 u205 u206 u207 u208 u209 u210 u211 u212 u213 u214 u215 u216 u217 u218 u219 u220 u221 u222 u223 u224 u225 u226 u227 u229 u230 u231 u232 u233 u234 u235 u236 u238 u239 u240 u241 u242 u243 u244 u245 u246 u247 u248 u249 u250 u251 W5 hnl5 KO HD _ (by assumption) _ (by assumption) x t q nb no ko kt kn ki ka kl kc kp W6 gx gy HM HQN u167 u168 u169 u170 u171 u172 u173 u174 u175 u176 x2 HJ HV H5 x0 h0
              · exact rparse_kB._proof_39 s w m2 w1 us _ lc n W2 mS hn1 _ gk wr u3 u4 u54 u113 u126 u139 u202 u228 u237 _ _ (by assumption) i ws nl nc wa wl wk hig hin tb tof HN (by assumption) tn ti tp W3 m11 _ (by assumption) m12 j ej uk ux un ui up HJ u29 u30 u31 u32 u33 u34 u35 u36 u37 u38 u39 u40 u41 u42 u43 u44 u45 u46 u47 u48 u49 u51 u52 u53 u55 u56 u57 u58 u59 u60 u61 u62 u63 u64 u65 u66 u67 u68 u69 u70 u71 u72 u73 u74 u75 u76 u77 u78 u79 u80 u81 u82 u83 u84 u85 u86 u87 u88 u89 u90 u91 u92 u93 u94 u95 u96 u97 u98 u99 u100 u101 u102 u103 u104 u105 u106 u107 u108 u109 u110 u111 u112 u114 u115 u116 u117 u118 u119 u120 u121 u122 u123 u124 u125 u127 u128 u129 u130 u131 u132 u133 u134 u135 u136 u137 u138 u140 u141 u142 u143 u144 u145 u146 u147 u148 u149 u150 u154 u155 u156 u177 u178 u179 u180 u181 u182 u183 u184 u185 u186 u187 u188 u189 u190 u191 u192 u193 u194 u195 u196 u197 u198 u199 u200 u201 u203 u204 u205 u206 u207 u208 u209 u210 u211 u212 u213 u214 u215 u216 u217 u218 u219 u220 u221 u222 u223 u224 u225 u226 u227 u229 u230 u231 u232 u233 u234 u235 u236 u238 u239 u240 u241 u242 u243 u244 u245 u246 u247 u248 u249 u250 u251 W5 hnl5 KO HD _ (by assumption) _ (by assumption) x t q nb no ko kt kn ki ka kl kc kp W6 gx gy HV HM HQN u167 u168 u169 u170 u171 u172 u173 u174 u175 u176 H5 x0 h2
            · have hup' : (tx == [94]) = false := by rw [beq_eq_false_iff_ne]; exact hup
              have HUP : Hid (¬ tx = [94]) := hup
              clear hup
              go_upto_region 43 with (go_at_call 17; refine hop.mono ?_; rintro e w6 ⟨rfl, hw6⟩; rw [hw6]; clear hw6)
              clear hop
              obtain ⟨VL, hVL⟩ : ∃ V, lvl KO = V := ⟨_, rfl⟩
              have HLV : Hid (∀ u, Calls Tryz.prog 18 #[.int .i64 KO] u fun e w' => e = .returned (.int .i64 VL) ∧ w' = u) := fun u => hVL ▸ rlevel_any KO u
              obtain ⟨RG, hRG⟩ : ∃ b, ranged ws = b := ⟨_, rfl⟩
              have HRG : Hid (∀ u, Below W5.heap.size W5 u → Calls Tryz.prog 19 #[.agg #[.slice na nl nc, .slice wa wl wk]] u fun e w' => e = .returned (.bool RG) ∧ Below u.heap.size u w') := fun u hu => hRG ▸ ranged_any u (H5.out.1.sp.st.below hu) (by omega)
              obtain ⟨eB, heB⟩ : ∃ eB : Bool, eB = (decide (KO ≠ 0) && (decide (VL ≠ 3) || !RG)) := ⟨_, rfl⟩
              have HEB : Hid (eB = (decide (KO ≠ 0) && (decide (VL ≠ 3) || !RG)) ∧ lvl KO = VL ∧ ranged ws = RG) := ⟨heB, hVL, hRG⟩
              clear heB hVL hRG
              go_cut [13, 202] (fun k v u => k = .int .i64 KO ∧ v = .bool eB ∧ Hid (Below W5.heap.size W5 u))
              case first =>
                by_cases hk : KO = 0
                · exact rparse_kC._proof_27 s m2 _ lc n mS _ u3 u4 u15 u16 u54 u113 u126 u139 u202 u228 u237 _ i ws tb tof tx m11 _ m12 u29 u30 u31 u32 u33 u34 u35 u36 u37 u38 u39 u40 u41 u42 u43 u44 u45 u46 u47 u48 u49 u51 u52 u53 u55 u56 u57 u58 u59 u60 u61 u62 u63 u64 u65 u66 u67 u68 u69 u70 u71 u72 u73 u74 u75 u76 u77 u78 u79 u80 u81 u82 u83 u84 u85 u86 u87 u88 u89 u90 u91 u92 u93 u94 u95 u96 u97 u98 u99 u100 u101 u102 u103 u104 u105 u106 u107 u108 u109 u110 u111 u112 u114 u115 u116 u117 u118 u119 u120 u121 u122 u123 u124 u125 u127 u128 u129 u130 u131 u132 u133 u134 u135 u136 u137 u138 u140 u141 u142 u143 u144 u145 u146 u147 u148 u149 u150 u154 u155 u156 u164 u165 u166 u167 u168 u169 u170 u171 u172 u173 u174 u175 u176 u177 u178 u179 u180 u181 u182 u183 u184 u185 u186 u187 u188 u189 u190 u191 u192 u193 u194 u195 u196 u197 u198 u199 u200 u201 u203 u204 u205 u206 u207 u208 u209 u210 u211 u212 u213 u214 u215 u216 u217 u218 u219 u220 u221 u222 u223 u224 u225 u226 u227 u229 u230 u231 u232 u233 u234 u235 u236 u238 u239 u240 u241 u242 u243 u244 u245 u246 u247 u248 u249 u250 u251 W5 KO _ VL RG eB HEB _ _ (by assumption) (by assumption) hk
                · have hk' : (KO == 0) = false := by rw [beq_eq_false_iff_ne]; exact hk
                  have hk'' : (KO != 0) = true := by simp [bne, hk']
                  by_cases h3 : VL = 3
                  · cases RG with
                    | true =>
                      exact rparse_kC._proof_28 s w m2 us lc n mS _ u3 u4 u15 u16 u54 u113 u126 u139 u202 u228 u237 _ i ws na nl nc wa wl wk tb tof tx m11 _ m12 u29 u30 u31 u32 u33 u34 u35 u36 u37 u38 u39 u40 u41 u42 u43 u44 u45 u46 u47 u48 u49 u51 u52 u53 u55 u56 u57 u58 u59 u60 u61 u62 u63 u64 u65 u66 u67 u68 u69 u70 u71 u72 u73 u74 u75 u76 u77 u78 u79 u80 u81 u82 u83 u84 u85 u86 u87 u88 u89 u90 u91 u92 u93 u94 u95 u96 u97 u98 u99 u100 u101 u102 u103 u104 u105 u106 u107 u108 u109 u110 u111 u112 u114 u115 u116 u117 u118 u119 u120 u121 u122 u123 u124 u125 u127 u128 u129 u130 u131 u132 u133 u134 u135 u136 u137 u138 u140 u141 u142 u143 u144 u145 u146 u147 u148 u149 u150 u154 u155 u156 u164 u165 u166 u167 u168 u169 u170 u171 u172 u173 u174 u175 u176 u177 u178 u179 u180 u181 u182 u183 u184 u185 u186 u187 u188 u189 u190 u191 u192 u193 u194 u195 u196 u197 u198 u199 u200 u201 u203 u204 u205 u206 u207 u208 u209 u210 u211 u212 u213 u214 u215 u216 u217 u218 u219 u220 u221 u222 u223 u224 u225 u226 u227 u229 u230 u231 u232 u233 u234 u235 u236 u238 u239 u240 u241 u242 u243 u244 u245 u246 u247 u248 u249 u250 u251 W5 c0 c1 KO _ VL HLV eB _ _ (by assumption) (by assumption) hk'' h3 HRG HEB
                    | false =>
                      exact rparse_kC._proof_29 s w m2 us lc n mS _ u3 u4 u15 u16 u54 u113 u126 u139 u202 u228 u237 _ i ws na nl nc wa wl wk tb tof tx m11 _ m12 u29 u30 u31 u32 u33 u34 u35 u36 u37 u38 u39 u40 u41 u42 u43 u44 u45 u46 u47 u48 u49 u51 u52 u53 u55 u56 u57 u58 u59 u60 u61 u62 u63 u64 u65 u66 u67 u68 u69 u70 u71 u72 u73 u74 u75 u76 u77 u78 u79 u80 u81 u82 u83 u84 u85 u86 u87 u88 u89 u90 u91 u92 u93 u94 u95 u96 u97 u98 u99 u100 u101 u102 u103 u104 u105 u106 u107 u108 u109 u110 u111 u112 u114 u115 u116 u117 u118 u119 u120 u121 u122 u123 u124 u125 u127 u128 u129 u130 u131 u132 u133 u134 u135 u136 u137 u138 u140 u141 u142 u143 u144 u145 u146 u147 u148 u149 u150 u154 u155 u156 u164 u165 u166 u167 u168 u169 u170 u171 u172 u173 u174 u175 u176 u177 u178 u179 u180 u181 u182 u183 u184 u185 u186 u187 u188 u189 u190 u191 u192 u193 u194 u195 u196 u197 u198 u199 u200 u201 u203 u204 u205 u206 u207 u208 u209 u210 u211 u212 u213 u214 u215 u216 u217 u218 u219 u220 u221 u222 u223 u224 u225 u226 u227 u229 u230 u231 u232 u233 u234 u235 u236 u238 u239 u240 u241 u242 u243 u244 u245 u246 u247 u248 u249 u250 u251 W5 c0 c1 KO _ VL HLV eB _ _ (by assumption) (by assumption) hk hk'' h3 HRG HEB
                  · exact rparse_kC._proof_30 s w m2 us lc n mS _ u3 u4 u15 u16 u54 u113 u126 u139 u202 u228 u237 _ i ws tb tof tx m11 _ m12 u29 u30 u31 u32 u33 u34 u35 u36 u37 u38 u39 u40 u41 u42 u43 u44 u45 u46 u47 u48 u49 u51 u52 u53 u55 u56 u57 u58 u59 u60 u61 u62 u63 u64 u65 u66 u67 u68 u69 u70 u71 u72 u73 u74 u75 u76 u77 u78 u79 u80 u81 u82 u83 u84 u85 u86 u87 u88 u89 u90 u91 u92 u93 u94 u95 u96 u97 u98 u99 u100 u101 u102 u103 u104 u105 u106 u107 u108 u109 u110 u111 u112 u114 u115 u116 u117 u118 u119 u120 u121 u122 u123 u124 u125 u127 u128 u129 u130 u131 u132 u133 u134 u135 u136 u137 u138 u140 u141 u142 u143 u144 u145 u146 u147 u148 u149 u150 u154 u155 u156 u164 u165 u166 u167 u168 u169 u170 u171 u172 u173 u174 u175 u176 u177 u178 u179 u180 u181 u182 u183 u184 u185 u186 u187 u188 u189 u190 u191 u192 u193 u194 u195 u196 u197 u198 u199 u200 u201 u203 u204 u205 u206 u207 u208 u209 u210 u211 u212 u213 u214 u215 u216 u217 u218 u219 u220 u221 u222 u223 u224 u225 u226 u227 u229 u230 u231 u232 u233 u234 u235 u236 u238 u239 u240 u241 u242 u243 u244 u245 u246 u247 u248 u249 u250 u251 W5 KO _ VL HLV RG eB HEB _ _ (by assumption) (by assumption) hk hk'' h3
              case rest =>
                obtain ⟨hk13, hv, hw⟩ := hcut
                subst hk13
                subst hv
                clear HLV HRG
                obtain ⟨W6, hW6⟩ : ∃ W6, wc = W6 := ⟨_, rfl⟩
                rw [hW6] at hw ⊢
                have H5 : Hid (PI (s.size : Int) us mS m2 w W6 i false ns ws na nl nc wa wl wk ∧ Below w1.heap.size w1 W6 ∧ Box5 W6 m11 60 (.int .i64 5) (.string ⟨tx.toArray⟩) (.int .i64 tn) (.int .u64 ti) (.int .i64 tp) ∧ Box5 W6 m12 60 (.int .i64 uk) (.string ⟨ux.toArray⟩) (.int .i64 un) (.int .u64 ui) (.int .i64 up)) := ⟨⟨H5.out.1.sp.below hw.out, H5.out.1.eq, H5.out.1.vk, H5.out.1.len⟩, H5.out.2.1.trans (hw.out.mono H5.out.2.1.size), H5.out.2.2.1.below hw.out, H5.out.2.2.2.below hw.out⟩
                clear hW6 hw c0 c1 f0 f1 d0 d1 d2 d3 d4 x0 x1 x2 x3 x4 lS l11 l12
                obtain ⟨d0, d1, d2, d3, d4⟩ := H5.out.2.2.1.cells
                obtain ⟨x0, x1, x2, x3, x4⟩ := H5.out.2.2.2.cells
                obtain ⟨c0, c1⟩ := H5.out.1.sp.box.cells
                obtain ⟨f0, f1⟩ := H5.out.1.sp.box.thaw
                have lS : mS < W6.heap.size := H5.out.1.sp.box.lt
                have l11 : m11 < W6.heap.size := H5.out.2.2.1.lt
                have l12 : m12 < W6.heap.size := H5.out.2.2.2.lt
                cases eB with
                | true =>
                  exact rparse_kC._proof_46 s w m2 w1 us _ lc n W2 mS hn1 _ gk wr u3 u4 u15 u16 u54 u113 u126 u139 u228 u237 _ _ (by assumption) i ns ws na nl nc wa wl wk hig hin tb tof HN (by assumption) tx tn ti tp W3 m11 _ (by assumption) m12 j ej uk ux un ui up HJ HO hwl5 hnl5 HE1 HD KO HKO HUP _ (by assumption) _ (by assumption) VL RG u29 u30 u31 u32 u33 u34 u35 u36 u37 u38 u39 u40 u41 u42 u43 u44 u45 u46 u47 u48 u49 u50 u51 u52 u53 u55 u56 u57 u58 u59 u60 u61 u62 u63 u64 u65 u66 u67 u68 u69 u70 u71 u72 u73 u74 u75 u76 u77 u78 u79 u80 u81 u82 u83 u84 u85 u86 u87 u88 u89 u90 u91 u92 u93 u94 u95 u96 u97 u98 u99 u100 u101 u102 u103 u104 u105 u106 u107 u108 u109 u110 u111 u112 u114 u115 u116 u117 u118 u119 u120 u121 u122 u123 u124 u125 u127 u128 u129 u130 u131 u132 u133 u134 u135 u136 u137 u138 u140 u141 u142 u143 u144 u145 u146 u147 u148 u149 u150 u151 u152 u153 u154 u155 u156 u157 u158 u159 u161 u162 u163 u164 u165 u166 u167 u168 u169 u170 u171 u172 u173 u174 u175 u176 u177 u178 u179 u180 u181 u182 u183 u184 u185 u186 u187 u188 u189 u190 u191 u192 u193 u194 u195 u196 u197 u198 u199 u200 u201 u203 u204 u205 u206 u207 u208 u209 u210 u211 u212 u213 u214 u215 u216 u217 u218 u219 u220 u221 u222 u223 u224 u225 u226 u227 u229 u230 u231 u232 u233 u234 u235 u236 u238 u239 u240 u241 u242 u243 u244 u245 u246 u247 u248 u249 u250 u251 W6 H5 HEB
                | false =>
                  have HNE : Hid (¬ (KO ≠ 0 ∧ (lvl KO ≠ 3 ∨ ranged ws = false))) := by
                    have h := HEB.out.1.symm
                    rw [← HEB.out.2.1, ← HEB.out.2.2] at h
                    rintro ⟨q1, q2⟩
                    have : (decide (KO ≠ 0) && (decide (lvl KO ≠ 3) || !ranged ws)) = true := by
                      rw [Bool.and_eq_true, decide_eq_true_eq, Bool.or_eq_true, decide_eq_true_eq, Bool.not_eq_true']
                      exact ⟨q1, q2⟩
                    rw [this] at h
                    cases h
                  clear HEB
                  by_cases h41 : tx = [41]
                  · subst h41
                    have hcl := close_any W6 H5.out.1.sp.st (fun g q => q.2.1) (Vk.rk H5.out.1.vk) (by omega) (by omega) (vk_nodes H5.out.1.vk)
                    have HCL : Hid (Calls Tryz.prog 15 _ _ _) := hcl
                    clear hcl
                    go_upto_region 52 with (go_at_call 15; refine HCL.out.mono ?_; rintro e w8 ⟨na8, nl8, nc8, wl8, f8, rfl, b8, h8⟩; have H8 : Hid (Below W6.heap.size W6 w8 ∧ _) := ⟨b8, h8⟩; clear b8 h8; obtain ⟨g0, g1⟩ := (H5.out.1.sp.box.below H8.out.1).cells; obtain ⟨g2, g3⟩ := (H5.out.1.sp.box.below H8.out.1).thaw)
                    obtain ⟨W9, hW9⟩ : ∃ W9, (w8.setCell ⟨mS, 0, none⟩ (.slice na8 nl8 nc8)).setCell ⟨mS, 1, none⟩ (.slice wa wl8 wk) = W9 := ⟨_, rfl⟩
                    have hT : Turned (fun g => g = mS) W6 W9 := by
                      rw [← hW9]
                      exact ((Turned.ofBelow (S := fun g => g = mS) H8.out.1).setCell (p := ⟨mS, 0, none⟩) (.inl rfl) _).setCell (p := ⟨mS, 1, none⟩) (.inl rfl) _
                    have HE9 : Hid (PE m2 w W9 ∧ Box5 W9 m11 60 (.int .i64 5) (.string ⟨#[41]⟩) (.int .i64 tn) (.int .u64 ti) (.int .i64 tp)) := ⟨H5.out.1.sp.pe hT, H5.out.2.2.1.turned hT HE1.out.1⟩
                    clear hT g0 g1 g2 g3 c0 c1 f0 f1 d0 d1 d2 d3 d4 x0 x1 x2 x3 x4
                    have H9 := H8
                    rcases H9.out.2 with ⟨hf, hsh⟩ | ⟨hf, ns9, ws9, hsh, hst⟩
                    · subst hf
                      have HSH : Hid (shutB (red 1 ns ws).1 (red 1 ns ws).2 = none) := hsh
                      clear hsh H9
                      rw [hW9]
                      clear hW9
                      obtain ⟨d0, d1, d2, d3, d4⟩ := HE9.out.2.cells
                      have l11 : m11 < W9.heap.size := HE9.out.2.lt
                      obtain ⟨r0, r1, r2, r3, r4, r5⟩ := HE9.out.1.res.cells
                      obtain ⟨q0, q1, q2, q3, q4, q5⟩ := HE9.out.1.res.thaw
                      have HZ : Hid (rn (s.size : Int) [] [] true us = .err (tp)) := by
                        rw [← H5.out.1.eq]
                        exact have_closeE HD.out.1 HSH.out
                      have e3 := HE1.out.2.2.1
                      have e4 := HE1.out.2.2.2.1
                      have e5 := HE1.out.2.2.2.2.1
                      have e4' : ¬ m2 = m11 := fun q => e4 q.symm
                      have e5' : ¬ m2 = m12 := fun q => e5 q.symm
                      go_upto_region 53 with fail
                      go_region_held3 (fun u => u.cell? ⟨m11, 4, none⟩ = some (.int .i64 tp)) (go_keep) (fail)
                      go_wp2_with fail
                      refine bodyPost_ret (results_cell3 (by rfl) _ ⟨m2, 0, none⟩ (by rfl) (load6 ((HE9.out.1.res.sixed _ _ _ _ _ _).below (Below.refl _ _).drew))) (by rfl) ⟨nv0, tp, 31, (by rfl), (belowS6 HE9.out.1.bel HE9.out.1.two _ _ _ _ _ _).drew, .inl ⟨_, HZ.out, rfl, rfl, rfl⟩⟩
                    · exact rparse_kD._proof_35 s w m2 w1 us _ lc n W2 mS hn1 _ gk wr u3 u4 u15 u16 u54 u113 u126 u139 u237 _ _ (by assumption) i ns ws na nl nc wa wl wk hig hin tb tof HN (by assumption) tn ti tp W3 m11 _ (by assumption) m12 j ej uk ux un ui up HJ HO KO u29 u30 u31 u32 u33 u34 u35 u36 u37 u38 u39 u40 u41 u42 u43 u44 u45 u46 u47 u48 u49 u50 u51 u52 u53 u55 u56 u57 u58 u59 u60 u61 u62 u63 u64 u65 u66 u67 u68 u69 u70 u71 u72 u73 u74 u75 u76 u77 u78 u79 u80 u81 u82 u83 u84 u85 u86 u87 u88 u89 u90 u91 u92 u93 u94 u95 u96 u97 u98 u99 u100 u101 u102 u103 u104 u105 u106 u107 u108 u109 u110 u111 u112 u114 u115 u116 u117 u118 u119 u120 u121 u122 u123 u124 u125 u127 u128 u129 u130 u131 u132 u133 u134 u135 u136 u137 u138 u140 u141 u142 u143 u144 u145 u146 u147 u148 u149 u150 u151 u152 u153 u154 u155 u156 u157 u158 u159 u161 u162 u163 u164 u165 u166 u167 u168 u169 u170 u171 u172 u173 u174 u175 u176 u177 u178 u179 u180 u181 u182 u183 u184 u185 u186 u187 u188 u189 u190 u191 u192 u193 u194 u195 u196 u197 u198 u199 u200 u201 u203 u204 u205 u206 u207 u208 u209 u210 u211 u212 u213 u214 u215 u216 u217 u218 u219 u220 u221 u222 u223 u224 u225 u226 u227 u238 u239 u240 u241 u242 u243 u244 u245 u246 u247 u248 u249 u250 u251 W6 HD H5 w8 na8 nl8 nc8 wl8 f8 H8 _ (by assumption) W9 hW9 H9 hf ns9 ws9 hsh hst
                  · have h41' : (tx == [41]) = false := by rw [beq_eq_false_iff_ne]; exact h41
                    have H41 : Hid (¬ tx = [41]) := h41
                    clear h41
                    obtain ⟨IC, hIC⟩ : ∃ b, inCall ws = b := ⟨_, rfl⟩
                    have HIC : Hid (∀ u, Below W6.heap.size W6 u → Calls Tryz.prog 21 #[.agg #[.slice na nl nc, .slice wa wl wk]] u fun e w' => e = .returned (.bool IC) ∧ Below u.heap.size u w') := fun u hu => hIC ▸ inCall_any u (H5.out.1.sp.st.below hu) (by omega)
                    obtain ⟨fB, hfB⟩ : ∃ fB : Bool, fB = (decide (tx = [44]) && IC) := ⟨_, rfl⟩
                    have HFB : Hid (fB = (decide (tx = [44]) && IC) ∧ inCall ws = IC) := ⟨hfB, hIC⟩
                    clear hfB hIC
                    go_upto_region 49 with fail
                    go_cut [237] (fun v u => v = .bool fB ∧ Hid (Below W6.heap.size W6 u))
                    case first =>
                      by_cases h44 : tx = [44]
                      · exact rparse_kD._proof_36 s w m2 us lc n mS _ u3 u4 u15 u16 u54 u113 u126 u139 u237 _ i ws na nl nc wa wl wk tb tof tx m11 _ m12 KO _ u29 u30 u31 u32 u33 u34 u35 u36 u37 u38 u39 u40 u41 u42 u43 u44 u45 u46 u47 u48 u49 u50 u51 u52 u53 u55 u56 u57 u58 u59 u60 u61 u62 u63 u64 u65 u66 u67 u68 u69 u70 u71 u72 u73 u74 u75 u76 u77 u78 u79 u80 u81 u82 u83 u84 u85 u86 u87 u88 u89 u90 u91 u92 u93 u94 u95 u96 u97 u98 u99 u100 u101 u102 u103 u104 u105 u106 u107 u108 u109 u110 u111 u112 u114 u115 u116 u117 u118 u119 u120 u121 u122 u123 u124 u125 u127 u128 u129 u130 u131 u132 u133 u134 u135 u136 u137 u138 u140 u141 u142 u143 u144 u145 u146 u147 u148 u149 u150 u151 u152 u153 u154 u155 u156 u157 u158 u159 u161 u162 u163 u164 u165 u166 u167 u168 u169 u170 u171 u172 u173 u174 u175 u176 u177 u178 u179 u180 u181 u182 u183 u184 u185 u186 u187 u188 u189 u190 u191 u192 u193 u194 u195 u196 u197 u198 u199 u200 u201 u203 u204 u205 u206 u207 u208 u209 u210 u211 u212 u213 u214 u215 u216 u217 u218 u219 u220 u221 u222 u223 u224 u225 u226 u227 u232 u233 u234 u235 u236 u238 u239 u240 u241 u242 u243 u244 u245 u246 u247 u248 u249 u250 u251 W6 d1 c0 c1 IC HIC fB HFB _ _ (by assumption) (by assumption) h44
                      · exact rparse_kD._proof_37 s m2 _ lc n mS _ u3 u4 u15 u16 u54 u113 u126 u139 u237 _ i ws tb tof tx m11 _ m12 KO _ u29 u30 u31 u32 u33 u34 u35 u36 u37 u38 u39 u40 u41 u42 u43 u44 u45 u46 u47 u48 u49 u50 u51 u52 u53 u55 u56 u57 u58 u59 u60 u61 u62 u63 u64 u65 u66 u67 u68 u69 u70 u71 u72 u73 u74 u75 u76 u77 u78 u79 u80 u81 u82 u83 u84 u85 u86 u87 u88 u89 u90 u91 u92 u93 u94 u95 u96 u97 u98 u99 u100 u101 u102 u103 u104 u105 u106 u107 u108 u109 u110 u111 u112 u114 u115 u116 u117 u118 u119 u120 u121 u122 u123 u124 u125 u127 u128 u129 u130 u131 u132 u133 u134 u135 u136 u137 u138 u140 u141 u142 u143 u144 u145 u146 u147 u148 u149 u150 u151 u152 u153 u154 u155 u156 u157 u158 u159 u161 u162 u163 u164 u165 u166 u167 u168 u169 u170 u171 u172 u173 u174 u175 u176 u177 u178 u179 u180 u181 u182 u183 u184 u185 u186 u187 u188 u189 u190 u191 u192 u193 u194 u195 u196 u197 u198 u199 u200 u201 u203 u204 u205 u206 u207 u208 u209 u210 u211 u212 u213 u214 u215 u216 u217 u218 u219 u220 u221 u222 u223 u224 u225 u226 u227 u232 u233 u234 u235 u236 u238 u239 u240 u241 u242 u243 u244 u245 u246 u247 u248 u249 u250 u251 W6 d1 IC fB HFB _ _ (by assumption) (by assumption) h44
                    case rest =>
                      obtain ⟨hv, hw⟩ := hcut
                      subst hv
                      clear HIC
                      obtain ⟨W8, hW6⟩ : ∃ W6, wc = W6 := ⟨_, rfl⟩
                      rw [hW6] at hw ⊢
                      have H5 : Hid (PI (s.size : Int) us mS m2 w W8 i false ns ws na nl nc wa wl wk ∧ Below w1.heap.size w1 W8 ∧ Box5 W8 m11 60 (.int .i64 5) (.string ⟨tx.toArray⟩) (.int .i64 tn) (.int .u64 ti) (.int .i64 tp) ∧ Box5 W8 m12 60 (.int .i64 uk) (.string ⟨ux.toArray⟩) (.int .i64 un) (.int .u64 ui) (.int .i64 up)) := ⟨⟨H5.out.1.sp.below hw.out, H5.out.1.eq, H5.out.1.vk, H5.out.1.len⟩, H5.out.2.1.trans (hw.out.mono H5.out.2.1.size), H5.out.2.2.1.below hw.out, H5.out.2.2.2.below hw.out⟩
                      clear hW6 hw c0 c1 f0 f1 d0 d1 d2 d3 d4 x0 x1 x2 x3 x4 lS l11 l12
                      obtain ⟨d0, d1, d2, d3, d4⟩ := H5.out.2.2.1.cells
                      obtain ⟨x0, x1, x2, x3, x4⟩ := H5.out.2.2.2.cells
                      obtain ⟨c0, c1⟩ := H5.out.1.sp.box.cells
                      obtain ⟨f0, f1⟩ := H5.out.1.sp.box.thaw
                      have lS : mS < W8.heap.size := H5.out.1.sp.box.lt
                      have l11 : m11 < W8.heap.size := H5.out.2.2.1.lt
                      have l12 : m12 < W8.heap.size := H5.out.2.2.2.lt
                      cases fB with
                      | true =>
                        exact rparse_kD._proof_40 s w m2 w1 us lc n W2 mS hn1 _ gk wr u3 u4 u15 u16 u54 u113 u126 u139 _ _ (by assumption) i ns ws na nl nc wa wl wk hig hin tb tof HN (by assumption) tx tn ti tp W3 m11 _ (by assumption) m12 j ej uk ux un ui up HJ W5 HO hwl5 hnl5 HD (by assumption) KO HKO hup' HUP _ (by assumption) W6 (by assumption) h41' H41 IC _ (by assumption) u29 u30 u31 u32 u33 u34 u35 u36 u37 u38 u39 u40 u41 u42 u43 u44 u45 u46 u47 u48 u49 u50 u51 u52 u53 u55 u56 u57 u58 u59 u60 u61 u62 u63 u64 u65 u66 u67 u68 u69 u70 u71 u72 u73 u74 u75 u76 u77 u78 u79 u80 u81 u82 u83 u84 u85 u86 u87 u88 u89 u90 u91 u92 u93 u94 u95 u96 u97 u98 u99 u100 u101 u102 u103 u104 u105 u106 u107 u108 u109 u110 u111 u112 u114 u115 u116 u117 u118 u119 u120 u121 u122 u123 u124 u125 u127 u128 u129 u130 u131 u132 u133 u134 u135 u136 u137 u138 u140 u141 u142 u143 u144 u145 u146 u147 u148 u149 u150 u151 u152 u153 u154 u155 u156 u157 u158 u159 u161 u162 u163 u164 u165 u166 u167 u168 u169 u170 u171 u172 u173 u174 u175 u176 u177 u178 u179 u180 u181 u182 u183 u184 u185 u186 u187 u188 u189 u190 u191 u192 u193 u194 u195 u196 u197 u198 u199 u200 u201 u203 u204 u205 u206 u207 u208 u209 u210 u211 u212 u213 u214 u215 u216 u217 u218 u219 u220 u221 u222 u223 u224 u225 u226 u227 u229 u230 u231 u232 u233 u234 u235 u236 u238 u239 u240 u241 u242 u243 u244 u245 u246 u247 u248 u249 u250 u251 W8 H5 d1 c0 c1 HFB
                      | false =>
                        have H44 : Hid (¬ (tx = [44] ∧ inCall ws = true)) := by
                          have h := HFB.out.1.symm
                          rw [← HFB.out.2] at h
                          rintro ⟨q1, q2⟩
                          rw [q1, q2] at h
                          cases h
                        clear HFB
                        obtain ⟨r0, r1, r2, r3, r4, r5⟩ := H5.out.1.sp.res.cells
                        obtain ⟨q0, q1, q2, q3, q4, q5⟩ := H5.out.1.sp.res.thaw
                        have HZ : Hid (rn (s.size : Int) [] [] true us = .err (tp)) := by
                          rw [← H5.out.1.eq]
                          exact have_else HD.out.1 HUP.out HKO.out HNE.out H41.out H44.out
                        have e3 := HE1.out.2.2.1
                        have e4 := HE1.out.2.2.2.1
                        have e5 := HE1.out.2.2.2.2.1
                        have e4' : ¬ m2 = m11 := fun q => e4 q.symm
                        have e5' : ¬ m2 = m12 := fun q => e5 q.symm
                        go_upto_region 53 with fail
                        go_region_held3 (fun u => u.cell? ⟨m11, 4, none⟩ = some (.int .i64 tp)) (go_keep) (fail)
                        go_wp2_with fail
                        refine bodyPost_ret (results_cell3 (by rfl) _ ⟨m2, 0, none⟩ (by rfl) (load6 ((H5.out.1.sp.res.sixed _ _ _ _ _ _).below (Below.refl _ _).drew))) (by rfl) ⟨nv0, tp, 31, (by rfl), (belowS6 H5.out.1.sp.bel H5.out.1.sp.ord.2 _ _ _ _ _ _).drew, .inl ⟨_, HZ.out, rfl, rfl, rfl⟩⟩
          · have h5' : (tk == 5) = false := by rw [beq_eq_false_iff_ne]; exact h5
            have h5n : (tk != 5) = true := by simp [bne, h5']
            have HK5 : Hid (¬ tk = 5) := h5
            clear h5
            obtain ⟨r0, r1, r2, r3, r4, r5⟩ := H5.out.1.sp.res.cells
            obtain ⟨q0, q1, q2, q3, q4, q5⟩ := H5.out.1.sp.res.thaw
            have HZ : Hid (rn (s.size : Int) [] [] true us = .err (tp)) := by
              rw [← H5.out.1.eq]
              exact have_err HD.out.1 HK5.out
            have e3 := HE1.out.2.2.1
            have e4 := HE1.out.2.2.2.1
            have e5 := HE1.out.2.2.2.2.1
            have e4' : ¬ m2 = m11 := fun q => e4 q.symm
            have e5' : ¬ m2 = m12 := fun q => e5 q.symm
            go_upto_region 30 with fail
            go_region_held3 (fun u => u.cell? ⟨m11, 4, none⟩ = some (.int .i64 tp)) (go_keep) (fail)
            go_wp2_with fail
            refine bodyPost_ret (results_cell3 (by rfl) _ ⟨m2, 0, none⟩ (by rfl) (load6 ((H5.out.1.sp.res.sixed _ _ _ _ _ _).below (Below.refl _ _).drew))) (by rfl) ⟨nv0, tp, 31, (by rfl), (belowS6 H5.out.1.sp.bel H5.out.1.sp.ord.2 _ _ _ _ _ _).drew, .inl ⟨_, HZ.out, rfl, rfl, rfl⟩⟩
    ·
      obtain rfl : i = n := by omega
      have HDR : Hid (us.drop i = []) := List.drop_eq_nil_of_le (by rw [HN.out.1]; exact Nat.le_refl _)
      clear hig hin
      obtain ⟨W5, hW5⟩ : ∃ W5, wr = W5 := ⟨_, rfl⟩
      rw [hW5] at HR ⊢
      clear hW5
      have HE1 : Hid (m2 ≠ mS ∧ mS < W5.heap.size) := ⟨by have := HR.out.1.sp.ord.1; omega, HR.out.1.sp.lt⟩
      have HO : Hid (ns.length = nl ∧ ws.length = wl ∧ nl ≤ 2000 ∧ wl ≤ 2000) := ⟨HR.out.1.sp.st.len, HR.out.1.sp.st.wl, by have := HR.out.1.len; omega, by have := HR.out.1.len; omega⟩
      have hwl5 : wl ≤ 2000 := HO.out.2.2.2
      have hnl5 : nl ≤ 2000 := HO.out.2.2.1
      have lS : mS < W5.heap.size := HE1.out.2
      have hne2 : ¬ m2 = mS := HE1.out.1
      cases b with
      | true =>
        exact rparse_kE._proof_43 s w m2 w1 us la lc mS _ (by assumption) u3 u4 u11 u12 u13 u14 u15 u16 u29 u30 u31 u32 u33 u34 u35 u36 u37 u38 u39 u40 u41 u42 u43 u44 u45 u46 u47 u48 u49 u50 u51 u52 u53 u54 u55 u56 u57 u58 u59 u60 u61 u62 u63 u64 u65 u66 u67 u68 u69 u70 u71 u72 u73 u74 u75 u76 u77 u78 u79 u80 u81 u82 u83 u84 u85 u86 u87 u88 u89 u90 u91 u92 u93 u94 u95 u96 u97 u98 u99 u100 u101 u102 u103 u104 u105 u106 u107 u108 u109 u110 u111 u112 u113 u114 u115 u116 u117 u118 u119 u120 u121 u122 u123 u124 u125 u126 u127 u128 u129 u130 u131 u132 u133 u134 u135 u136 u137 u138 u139 u140 u141 u142 u143 u144 u145 u146 u147 u148 u149 u150 u151 u152 u153 u154 u155 u156 u157 u158 u159 u160 u161 u162 u163 u164 u165 u166 u167 u168 u169 u170 u171 u172 u173 u174 u175 u176 u177 u178 u179 u180 u181 u182 u183 u184 u185 u186 u187 u188 u189 u190 u191 u192 u193 u194 u195 u196 u197 u198 u199 u200 u201 u202 u203 u204 u205 u206 u207 u208 u209 u210 u211 u212 u213 u214 u215 u216 u217 u218 u219 u220 u221 u222 u223 u224 u225 u226 u227 u228 u229 u230 u231 u232 u233 u234 u235 u236 u237 u238 u239 u240 u241 u242 u243 u244 u245 u246 u247 u248 u249 u250 u251 _ i ns ws na nl nc wa wl wk HDR W5 HR
      | false =>
        have hrd := reduce_any W5 1 HR.out.1.sp.st (fun g q => q.2.1) (Vk.rk HR.out.1.vk) (by omega) (by omega)
        have HRD : Hid (Calls Tryz.prog 20 _ _ _) := hrd
        clear hrd
        obtain ⟨c0, c1⟩ := HR.out.1.sp.box.cells
        obtain ⟨f0, f1⟩ := HR.out.1.sp.box.thaw
        go_upto_region 57 with (go_at_call 20; refine HRD.out.mono ?_; rintro e w8 ⟨na8, nl8, nc8, wl8, rfl, h8, b8⟩; have H8 : Hid (Below W5.heap.size W5 w8 ∧ _) := ⟨b8, h8⟩; clear b8 h8; obtain ⟨g0, g1⟩ := (HR.out.1.sp.box.below H8.out.1).cells; obtain ⟨g2, g3⟩ := (HR.out.1.sp.box.below H8.out.1).thaw)
        obtain ⟨W9, hW9⟩ : ∃ W9, (w8.setCell ⟨mS, 0, none⟩ (.slice na8 nl8 nc8)).setCell ⟨mS, 1, none⟩ (.slice wa wl8 wk) = W9 := ⟨_, rfl⟩
        have hP9 := HR.out.1.sp.laid H8.out.1 H8.out.2
        rw [hW9] at hP9
        obtain ⟨⟨ns9, ws9⟩, hr9⟩ : ∃ z, red 1 ns ws = z := ⟨_, rfl⟩
        rw [hr9] at hP9
        have HRE : Hid (red 1 ns ws = (ns9, ws9)) := hr9
        have HP9 : Hid (SP mS m2 w W9 ns9 ws9 na8 nl8 nc8 wa wl8 wk) := hP9.1
        clear hP9 hr9 g0 g1 g2 g3 c0 c1 f0 f1 lS
        rw [hW9]
        clear hW9
        obtain ⟨c0, c1⟩ := HP9.out.box.cells
        obtain ⟨r0, r1, r2, r3, r4, r5⟩ := HP9.out.res.cells
        obtain ⟨q0, q1, q2, q3, q4, q5⟩ := HP9.out.res.thaw
        have HEQ : Hid (rn (s.size : Int) ns ws false [] = rn (s.size : Int) [] [] true us) := by
          have h := HR.out.1.eq
          rw [HDR.out] at h
          exact h
        cases ws9 with
        | cons v r =>
          obtain ⟨wq, hwq⟩ : ∃ q, wl8 = q + 1 := ⟨wl8 - 1, by have := HP9.out.st.wl; rw [List.length_cons] at this; omega⟩
          have hpos : 0 < wl8 := by omega
          have hpos2 : (0 : Int) < (wl8 : Int) := by omega
          have HZ : Hid (rn (s.size : Int) [] [] true us = .err (s.size : Int)) := end_err HEQ.out HRE.out
          clear hwq
          go_wp2_with fail
          refine bodyPost_ret (results_cell3 (by rfl) _ ⟨m2, 0, none⟩ (by rfl) (load6 (HP9.out.res.sixed _ _ _ _ _ _))) (by rfl) ⟨nv0, (s.size : Int), 31, (by rfl), belowS6 HP9.out.bel HP9.out.ord.2 _ _ _ _ _ _, .inl ⟨_, HZ.out, rfl, rfl, rfl⟩⟩
        | nil =>
          obtain ⟨x, rfl⟩ := end_one HR.out.1.vk HRE.out
          obtain rfl : wl8 = 0 := HP9.out.st.wl.symm
          obtain rfl : nl8 = 1 := HP9.out.st.len.symm
          have HZ : Hid (rn (s.size : Int) [] [] true us = .ok x) := end_ok HEQ.out HRE.out
          have hxs : x.sz ≤ 100000 := H.out.2.2.1 x HZ.out
          obtain ⟨us5, hu1, hu2, hu3, hu4, hu5⟩ := HP9.out.st.nds
          obtain ⟨kv, hkv, hkn⟩ := hu5.get (i := 0) (n := x) rfl
          obtain ⟨nb, no, e9, hnb⟩ := hu1.some_of hkv
          subst e9
          have hcl := hu1.node hkv
          obtain ⟨ko, kt, kn, ki, ka, kl, kc, kp⟩ := kv
          simp only [Nat.zero_mul, Nat.add_zero] at hcl
          obtain ⟨k0, k1, k2, k3, k4, k5⟩ := hcl
          have hdp := rdepth_any x hxs _ W9 _ hkn
          obtain ⟨D, hD⟩ : ∃ D, x.dep = D := ⟨_, rfl⟩
          rw [hD] at hdp
          have HDP : Hid (Calls Tryz.prog 22 #[.agg #[.int .i64 ko, .string ⟨kt.toArray⟩, .int .i64 kn, .int .u64 ki, .slice ka kl kc, .int .i64 kp]] W9 fun e w' => e = .returned (.int .i64 (D : Nat)) ∧ Below W9.heap.size W9 w') := hdp
          have HK : Hid (x.dep = D ∧ RdG encN W9 (some ⟨nb, no, none⟩) us5 ∧ us5[0]? = some ⟨ko, kt, kn, ki, ka, kl, kc, kp⟩ ∧ NdIn (Qs mS W9 wa) W9 ⟨ko, kt, kn, ki, ka, kl, kc, kp⟩ x) := ⟨hD, hu1, hkv, hkn⟩
          clear hdp hD hu1 hu2 hu4 hu5 hkv hkn hnb hxs
          by_cases hdd : 24 < D
          · exact rparse_kE._proof_82 s w m2 us la lc mS u3 u4 u11 u12 u13 u14 u15 u16 u33 u34 u35 u36 u37 u38 u39 u40 u41 u42 u43 u44 u45 u46 u47 u48 u49 u50 u51 u52 u53 u54 u55 u56 u57 u58 u59 u60 u61 u62 u63 u64 u65 u66 u67 u68 u69 u70 u71 u72 u73 u74 u75 u76 u77 u78 u79 u80 u81 u82 u83 u84 u85 u86 u87 u88 u89 u90 u91 u92 u93 u94 u95 u96 u97 u98 u99 u100 u101 u102 u103 u104 u105 u106 u107 u108 u109 u110 u111 u112 u113 u114 u115 u116 u117 u118 u119 u120 u121 u122 u123 u124 u125 u126 u127 u128 u129 u130 u131 u132 u133 u134 u135 u136 u137 u138 u139 u140 u141 u142 u143 u144 u145 u146 u147 u148 u149 u150 u151 u152 u153 u154 u155 u156 u157 u158 u159 u160 u161 u162 u163 u164 u165 u166 u167 u168 u169 u170 u171 u172 u173 u174 u175 u176 u177 u178 u179 u180 u181 u182 u183 u184 u185 u186 u187 u188 u189 u190 u191 u192 u193 u194 u195 u196 u197 u198 u199 u200 u201 u202 u203 u204 u205 u206 u207 u208 u209 u210 u211 u212 u213 u214 u215 u216 u217 u218 u219 u220 u221 u222 u223 u224 u225 u226 u227 u228 u229 u230 u231 u232 u233 u234 u235 u236 u237 u238 u239 u240 u241 u242 u243 u244 u245 u246 u247 u248 u249 u250 u251 i na nl nc wa wl wk nc8 _ (by assumption) _ (by assumption) W9 x c1 HZ us5 nb no c0 HP9 ko kt kn ki ka kl kc kp k0 k1 k2 k3 k4 k5 D HDP HK hdd
          · exact rparse_kE._proof_86 s w m2 us la lc mS u3 u4 u11 u12 u13 u14 u15 u16 u33 u34 u35 u36 u37 u38 u39 u40 u41 u42 u43 u44 u45 u46 u47 u48 u49 u50 u51 u52 u53 u54 u55 u56 u57 u58 u59 u60 u61 u62 u63 u64 u65 u66 u67 u68 u69 u70 u71 u72 u73 u74 u75 u76 u77 u78 u79 u80 u81 u82 u83 u84 u85 u86 u87 u88 u89 u90 u91 u92 u93 u94 u95 u96 u97 u98 u99 u100 u101 u102 u103 u104 u105 u106 u107 u108 u109 u110 u111 u112 u113 u114 u115 u116 u117 u118 u119 u120 u121 u122 u123 u124 u125 u126 u127 u128 u129 u130 u131 u132 u133 u134 u135 u136 u137 u138 u139 u140 u141 u142 u143 u144 u145 u146 u147 u148 u149 u150 u151 u152 u153 u154 u155 u156 u157 u158 u159 u160 u161 u162 u163 u164 u165 u166 u167 u168 u169 u170 u171 u172 u173 u174 u175 u176 u177 u178 u179 u180 u181 u182 u183 u184 u185 u186 u187 u188 u189 u190 u191 u192 u193 u194 u195 u196 u197 u198 u199 u200 u201 u202 u203 u204 u205 u206 u207 u208 u209 u210 u211 u212 u213 u214 u215 u216 u217 u218 u219 u220 u221 u222 u223 u224 u225 u226 u227 u228 u229 u230 u231 u232 u233 u234 u235 u236 u237 u238 u239 u240 u241 u242 u243 u244 u245 u246 u247 u248 u249 u250 u251 i na nl nc wa wl wk nc8 _ (by assumption) _ (by assumption) W9 x c1 HZ us5 nb no c0 HP9 ko kt kn ki ka kl kc kp k0 k1 k2 k3 k4 k5 D HDP HK hdd
end Go.Proofs.YtijchmcajhdcoaaGreatDoor
