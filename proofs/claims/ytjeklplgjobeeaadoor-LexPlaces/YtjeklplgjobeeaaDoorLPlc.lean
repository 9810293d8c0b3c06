/-
  The law LexPlaces by a walk: it returns true for every two texts. No condition but that a text is no longer than any text can be, and that the program's variables hold what its text lays there.
-/
import Derived.Test.YtjeklplgjobeeaaDoorLAwk
namespace Go.Proofs.YtjeklplgjobeeaaDoor
open Go.RowKit

/-- lex.Scan of whatever text. -/
theorem scan_gen (s : ByteArray) (hm : s.size ≤ 9223372036854775807) (w : World) (hg : Gl w) :
    Calls Tryd.prog 7 #[.string s] w fun e w' => ∃ ao n c a cd, e = .returned (.tuple #[.slice ao n c, .int .i64 a, .int .i64 cd]) ∧ Below w.heap.size w w' ∧ Hid (cd = 0 → s.size ≤ 1024 ∧ ∃ ts, Sc 0 s.data.toList ts none ∧ Lt 39 w.heap.size w' ao n c ts) := by
  by_cases h : 1024 < s.size
  · refine (scan_long s hm h w).mono ?_
    rintro e w' ⟨rfl, rfl⟩
    exact ⟨none, 0, 0, 0, 4, rfl, Below.refl _ _, fun q => by omega⟩
  · refine (scan_short s (by omega) w hg).mono ?_
    rintro e w' ⟨v, a, c, ts, er, rfl, ht⟩
    obtain ⟨k1, k2, rfl, rfl, k5⟩ := ht.form
    obtain ⟨ao, cp, rfl, hl⟩ := Lt.of k5
    refine ⟨ao, _, cp, _, _, rfl, k2, fun q => ?_⟩
    cases er with
    | some p => simp [cdT] at q
    | none => exact ⟨by omega, ts, k1, hl⟩

theorem Lt.mk' {t : TypeId} {B n c : Nat} {w : World} {ao : Option Addr} {ts : List Tk} (h : OwnG encT t w B (.slice ao n c) ts) : Lt t B w ao n c ts := by
  have hn : ts.length = n := own_len h
  obtain ⟨a, c', e, h1, _, h3, _⟩ := h.form
  rw [hn] at e h1
  cases e
  exact ⟨h, hn, h1, h3⟩

/-- The blocks of a list lie from lo on, ahead of hi. -/
def Within (ao : Option Addr) (n c lo hi : Nat) : Prop := ∀ k, (Value.slice ao n c).ownBlock = some k → lo ≤ k ∧ k < hi

theorem Lt.within {t : TypeId} {B n c : Nat} {w : World} {ao : Option Addr} {ts : List Tk} (h : Lt t B w ao n c ts) : Within ao n c B w.heap.size := fun k hk => h.own.lt k hk

theorem Lt.turned {t : TypeId} {B n c g o : Nat} {w : World} {ao : Option Addr} {ts : List Tk} {v : Value} (h : Lt t B w ao n c ts) (hg : ∀ k, (Value.slice ao n c).ownBlock = some k → k ≠ g) : Lt t B (w.setCell ⟨g, o, none⟩ v) ao n c ts :=
  Lt.mk' (ownsRow_turned (S := fun i => i = g) h.own ((Turned.refl (fun i => i = g) w).setCell (p := ⟨g, o, none⟩) (.inl (show g = g from rfl)) v) (fun k hk q => hg k hk q))

theorem Lt.turn {t : TypeId} {B n c : Nat} {w w' : World} {ao : Option Addr} {ts : List Tk} {S : Nat → Prop} (h : Lt t B w ao n c ts) (ht : Turned S w w') (hS : ∀ k, (Value.slice ao n c).ownBlock = some k → ¬ S k) : Lt t B w' ao n c ts :=
  Lt.mk' (ownsRow_turned h.own ht hS)

theorem Lt.thaw {t : TypeId} {B n c g : Nat} {w : World} {ts : List Tk} (h : Lt t B w (some ⟨g, 0, none⟩) n c ts) (o : Nat) : w.frozen? ⟨g, o, none⟩ = false := by
  have h' := h.own
  unfold OwnG at h'
  rw [h.len] at h'
  exact h'.frozenAt o

/-- The places of the first i raised. -/
def mid (us : List Tk) (d i : Nat) : List Tk := (us.take i).map (Tk.up d) ++ us.drop i
theorem mid_zero (us : List Tk) (d : Nat) : mid us d 0 = us := by simp [mid]
theorem mid_all (us : List Tk) (d n : Nat) (h : us.length = n) : mid us d n = us.map (Tk.up d) := by
  subst h
  simp [mid]
theorem mid_get (us : List Tk) (d i : Nat) (t : Tk) (h : us[i]? = some t) : (mid us d i)[i]? = some t := by
  have hl := (List.getElem?_eq_some_iff.1 h).1
  unfold mid
  rw [List.getElem?_append_right (by rw [List.length_map, List.length_take]; omega), List.length_map, List.length_take, show i - min i us.length = 0 by omega, List.getElem?_drop]
  exact h
theorem mid_set (us : List Tk) (d i : Nat) (t : Tk) (h : us[i]? = some t) : (mid us d i).set i (t.up d) = mid us d (i + 1) := by
  obtain ⟨hl, rfl⟩ := List.getElem?_eq_some_iff.1 h
  unfold mid
  rw [List.set_append_right _ _ (by rw [List.length_map, List.length_take]; omega), List.length_map, List.length_take, show i - min i us.length = 0 by omega, List.drop_eq_getElem_cons hl, List.set_cons_zero, List.take_succ_eq_append_getElem hl, List.map_append]
  simp
theorem mid_len (us : List Tk) (d i n : Nat) (h : us.length = n) (hi : i ≤ n) : (mid us d i).length = n := by
  unfold mid
  rw [List.length_append, List.length_map, List.length_take, List.length_drop]
  omega

/-- One place raised, in memory. -/
theorem Lt.raise {B n c g i d : Nat} {w : World} {us : List Tk} {t : Tk} (h : Lt 39 B w (some ⟨g, 0, none⟩) n c (mid us d i)) (ht : us[i]? = some t) : Lt 39 B (w.setCell ⟨g, i * 5 + 4, none⟩ (.int .i64 (t.pos + d))) (some ⟨g, 0, none⟩) n c (mid us d (i + 1)) := by
  have := h.own.put (i := i) (j := 4) (x := t) (mid_get us d i t ht) (by decide) (t.up d) (.int .i64 (t.pos + d)) rfl
  rw [mid_set us d i t ht] at this
  exact Lt.mk' this

/-- A whole list more behind a row of the call's own, at a place that a guard lets by. -/
theorem appW_list {ops : Array Oper} {rest : List Oper} {o : Oper} {a : Act} {w : World} {Q : Exit → Act → World → Prop} (E : Enc Tk) (e t : TypeId) (bytes : Nat) (z : Value) (hz : z.cells.size = E.size)
    (hinfo : (Tryd.prog.info? e).map (fun i => (i.zero, i.size, i.bytes)) = some (some z, E.size, bytes)) (hu : Tryd.prog.underlying t = some (.slice e)) (hw : Region.wanted o (yielded ops a.tmps) = true) (s x : Operand)
    (hop : o.op = .call { callee := .builtin .append, args := #[s, x], argTypes := #[t, t] }) (base : Nat) (v : Value) (ss xs : List Tk) (ao : Option Addr) (n c : Nat) (hs : a.eval s = v) (hown : OwnG E e w base v ss)
    (hx : a.eval x = .slice ao n c) (hr : RdG E w ao xs) (hl : xs.length = n) (hlen : (ss.length + n) * bytes ≤ 140737488355328) (hmax : ss.length + n ≤ maxLen) (hb : base ≤ w.heap.size)
    (h : ∀ v' w', OwnG E e w' base v' (ss ++ xs) → Below base w w' → Turned (fun k => v.ownBlock = some k) w w' → wpList Tryd.prog ops Q rest (a.put o.dst v') w') :
    wpList Tryd.prog ops Q (o :: rest) a w := by
  obtain ⟨i0, hi0, hz0, hz1, hz2⟩ := info_parts hinfo
  refine wpList_step fun K hK => ?_
  rw [if_pos hw]
  by_cases h0 : 0 < xs.length
  · obtain ⟨b, off, rfl, hlt, hc⟩ := hr h0
    obtain ⟨v', w', hrun, r1, r2, r3⟩ := run_append_moved (P := Tryd.prog) w base t o.type e i0 _ E.size bytes hu hi0 hz0 hz1 hz2 hz E.pos v ss.length (E.all ss) hown ⟨b, off, none⟩ n c (E.all xs) (by rw [E.all_length, hl]) (by
      intro k u hk
      obtain ⟨i, j, y, rfl, hj, hy, hu⟩ := E.all_split xs k u hk
      rw [addr_plus]
      exact hc i y hy j u hu) (E.all_one xs) hmax hlen hb
    have ht : Turned (fun k => v.ownBlock = some k) w w' := (Turned.refl _ _).grown r2 (fun k _ e => e)
    unfold Oper.wp
    simp [execOp, hop, resolve, invoke, builtin, hs, hx, hrun, Result.andThen]
    refine hK _ _ (h v' w' ?_ (OwnG.turn hown hb ht) ht)
    unfold OwnG
    rw [List.length_append, E.all_append, hl]
    exact r1
  · obtain rfl : xs = [] := List.eq_nil_of_length_eq_zero (by omega)
    obtain rfl : n = 0 := hl.symm
    obtain ⟨ao2, cap, rfl, hle, _, _⟩ := hown.form
    have hrun := run_append_none t o.type e i0 hu hi0 ao2 ss.length cap hle ao c w
    unfold Oper.wp
    simp [execOp, hop, resolve, invoke, builtin, hs, hx, hrun, Result.andThen]
    exact hK _ _ (h _ w (by rw [List.append_nil]; exact hown) (Below.refl _ _) (Turned.refl _ _))

theorem join_txt (a b : ByteArray) : ((a ++ ⟨#[32]⟩) ++ b).data.toList = a.data.toList ++ 32 :: b.data.toList := by
  rw [ByteArray.data_append, ByteArray.data_append]
  simp

set_option maxHeartbeats 1600000 in
set_option maxRecDepth 100000 in
theorem places_walk (a b : ByteArray) (ha : a.size ≤ 9223372036854775807) (hb : b.size ≤ 9223372036854775807) (w : World) (hg : Gl w) :
    Calls Tryd.prog 5 #[.string a, .string b] w fun e w' => e = .returned (.bool true) ∧ Below w.heap.size w w' := by
  have HG : Hid (Gl w) := hg
  clear hg
  go_enter Tryd.func5, Tryd.ntmps5
  go_wp2_with fail
  refine (awake_any w HG.out).mono ?_
  rintro e w1 ⟨rfl, hb1⟩
  have HB1 : Hid (Below w.heap.size w w1) := hb1
  clear hb1
  go_wp2_with fail
  refine (scan_gen a ha w1 (HG.out.below HB1.out)).mono ?_
  rintro e w2 ⟨ao1, n1, c1, p1, d1, rfl, hb2, HS1⟩
  have HB2 : Hid (Below w.heap.size w w2) := HB1.out.trans (hb2.mono HB1.out.size)
  go_wp2_with fail
  refine (scan_gen b hb w2 (HG.out.below HB2.out)).mono ?_
  rintro e w3 ⟨ao2, n2, c2, p2, d2, rfl, hb3, HS2⟩
  have HB3 : Hid (Below w.heap.size w w3) := HB2.out.trans (hb3.mono HB2.out.size)
  by_cases e1 : d1 = 0
  case neg =>
    have m0 : (d1 == 0) = false := by simpa using e1
    have m1 : (d1 != 0) = true := by simpa using e1
    clear hb2 hb3
    go_wp2_with fail
    go_ret
    exact ⟨rfl, HB3.out⟩
  by_cases e2 : d2 = 0
  case neg =>
    subst e1
    have m0 : (d2 == 0) = false := by simpa using e2
    have m1 : (d2 != 0) = true := by simpa using e2
    clear hb2 hb3
    go_wp2_with fail
    go_ret
    exact ⟨rfl, HB3.out⟩
  subst e1
  subst e2
  obtain ⟨hsa, ts, ht1, hl1⟩ := HS1.out rfl
  obtain ⟨hsb, us, ht2, hl2⟩ := HS2.out rfl
  by_cases hlen : 1024 ≤ a.size + b.size
  · have hli : (1024 : Int) ≤ (a.size : Int) + (b.size : Int) := by omega
    clear hb2 hb3 HS1 HS2
    go_wp2_with fail
    go_ret
    exact ⟨rfl, HB3.out⟩
  have hli : ¬ (1024 : Int) ≤ (a.size : Int) + (b.size : Int) := by omega
  obtain ⟨Y, hY⟩ : ∃ Y, (a ++ ⟨#[32]⟩) ++ b = Y := ⟨_, rfl⟩
  have HY : Hid (Y.data.toList = a.data.toList ++ 32 :: b.data.toList) := by show _ = _; rw [← hY]; exact join_txt a b
  have hYs : Y.size = a.size + 1 + b.size := by rw [← hY, ByteArray.size_append, ByteArray.size_append]; rfl
  have hsc : Sc 0 Y.data.toList (ts ++ us.map (Tk.up (a.size + 1))) none := by
    rw [HY.out]
    refine ht1.join rfl ?_
    have := ht2.shift (a.size + 1)
    rw [← bsize, show 0 + a.size + 1 = 0 + (a.size + 1) by omega]
    exact this
  have HPL := ht2.places
  have HP2 : Hid (∀ t ∈ us, 0 ≤ t.pos ∧ t.pos < 1024) := by
    intro t ht
    have := HPL.1 t ht
    rw [← bsize] at this
    omega
  have q1 := ht1.few
  have q2 := ht2.few
  rw [← bsize] at q1 q2
  have hn1 : n1 ≤ 1024 := by rw [← hl1.len]; omega
  have hn2 : n2 ≤ 1024 := by rw [← hl2.len]; omega
  have HSC : Hid (Sc 0 Y.data.toList (ts ++ us.map (Tk.up (a.size + 1))) none) := hsc
  have HW1 : Hid (Within ao1 n1 c1 w1.heap.size w2.heap.size) := hl1.within
  have HW2 : Hid (Within ao2 n2 c2 w2.heap.size w3.heap.size) := hl2.within
  have HL1 : Hid (Lt 39 w1.heap.size w3 ao1 n1 c1 ts) := hl1.below hb3
  have HL2 : Hid (Lt 39 w2.heap.size w3 ao2 n2 c2 us) := hl2
  have HLN2 : Hid (us.length = n2) := hl2.len
  have HZ : Hid (w.heap.size ≤ w1.heap.size ∧ w1.heap.size ≤ w2.heap.size ∧ w2.heap.size ≤ w3.heap.size) := ⟨HB1.out.size, hb2.size, hb3.size⟩
  clear hb2 hb3 HS1 HS2 ht1 ht2 hl1 hl2 hsc HPL q1 q2
  go_wp2_with fail
  clear hY
  refine (scan_known Y (by omega) HSC.out w3 (HG.out.below HB3.out)).mono ?_
  rintro e w4 ⟨ao3, c3, rfl, hl3, hb4⟩
  simp only [plT, cdT, outT_none] at hl3 ⊢
  obtain ⟨n3, hn3⟩ : ∃ n3, (ts ++ us.map (Tk.up (a.size + 1))).length = n3 := ⟨_, rfl⟩
  rw [hn3] at hl3 ⊢
  have hn3' : n3 = n1 + n2 := by
    rw [← hn3, List.length_append, List.length_map, HL1.out.len, HL2.out.len]
  have HNN3 : Hid (n3 = n1 + n2) := hn3'
  have hn3b : n3 ≤ 2048 := by omega
  clear hn3'
  have HB4 : Hid (Below w.heap.size w w4) := HB3.out.trans (hb4.mono HB3.out.size)
  have HL1' : Hid (Lt 39 w1.heap.size w4 ao1 n1 c1 ts) := HL1.out.below hb4
  have HL2' : Hid (Lt 39 w2.heap.size w4 ao2 n2 c2 us) := HL2.out.below hb4
  have HW3 : Hid (Within ao3 n3 c3 w3.heap.size w4.heap.size) := hl3.within
  have HL3 : Hid (Lt 39 w3.heap.size w4 ao3 n3 c3 (ts ++ us.map (Tk.up (a.size + 1)))) := hl3
  have HN3 : Hid (_ = _) := hn3
  have HZ4 : Hid (w3.heap.size ≤ w4.heap.size) := hb4.size
  clear hb4 hl3 hn3 HL1 HL2
  go_wp2_with fail
  go_loopg [14] n2 (fun g iv u => ∃ i : Nat, iv = .int .i64 (i : Int) ∧ i + g = n2 ∧ Hid (Lt 39 w1.heap.size u ao1 n1 c1 ts) ∧ Hid (Lt 39 w2.heap.size u ao2 n2 c2 (mid us (a.size + 1) i)) ∧ Hid (Lt 39 w3.heap.size u ao3 n3 c3 (ts ++ us.map (Tk.up (a.size + 1)))) ∧ Hid (Below w.heap.size w u) ∧ Hid (w3.heap.size ≤ u.heap.size))
  case atStart => exact ⟨0, rfl, by omega, HL1', by rw [mid_zero]; exact HL2', HL3, HB4, HZ4⟩
  case round =>
    obtain ⟨i, rfl, hi, K1, K2, K3, KB, KZ⟩ := hrel
    clear HL1' HL2' HL3 HB4
    by_cases hin : i < n2
    · have hini : (i : Int) < (n2 : Int) := by omega
      obtain ⟨t, ht⟩ : ∃ t, us[i]? = some t := ⟨_, List.getElem?_eq_getElem (by have := HLN2.out; omega)⟩
      obtain ⟨g, hg2⟩ : ∃ g, ao2 = some ⟨g, 0, none⟩ := by
        obtain ⟨ao, cp, e, _, _, _, h4⟩ := K2.out.own.form
        obtain ⟨g, eg⟩ := h4 (by rw [K2.out.len]; omega)
        simp only [Value.slice.injEq] at e
        exact ⟨g, e.1.trans eg⟩
      subst hg2
      have hmg := mid_get us (a.size + 1) i t ht
      obtain ⟨hlt, k0, k1, k2, k3, k4⟩ := K2.out.rd.tok hmg
      rw [Nat.zero_add] at k4
      have hfz : wr.frozen? ⟨g, i * 5 + 4, none⟩ = false := K2.out.thaw _
      obtain ⟨p0, p1'⟩ := HP2.out t (List.mem_of_getElem? ht)
      have HT : Hid (us[i]? = some t) := ht
      have hc2 : n2 ≤ c2 := K2.out.cap
      obtain ⟨tp, htp⟩ : ∃ tp, t.pos = tp := ⟨_, rfl⟩
      rw [htp] at k4 p0 p1'
      have HTP : Hid (t.pos = tp) := htp
      clear hmg k0 k1 k2 k3 ht htp
      go_wp2_with fail
      go_roundg (gk - 1)
      case measure => omega
      case rel =>
        have hgw := HW2.out g rfl
        refine ⟨i + 1, by go_num, by omega, K1.out.turned (fun k hk q => ?_), ?_, K3.out.turned (fun k hk q => ?_), KB.out.setCell (p := ⟨g, i * 5 + 4, none⟩) ?_ _, by have := KZ.out; show _ ≤ _; simp [World.setCell]; exact this⟩
        · have := HW1.out k hk
          omega
        · have := K2.out.raise HT.out
          rw [HTP.out] at this
          have e1 : tp + (a.size : Int) + 1 = tp + ((a.size + 1 : Nat) : Int) := by omega
          rw [e1]
          exact this
        · have := HW3.out k hk
          omega
        · have := HZ.out
          show w.heap.size ≤ g
          omega
    · obtain rfl : i = n2 := by omega
      rw [mid_all us (a.size + 1) i HLN2.out] at K2
      have hc1 : n1 ≤ c1 := K1.out.cap
      have hc3 : n3 ≤ c3 := K3.out.cap
      go_wp2_with fail
      refine (tokens_any wr K3.out.rd K3.out.len K3.out.cap (by omega)).mono ?_
      rintro e w5 ⟨v5, rfl, ho5, hb5⟩
      obtain ⟨ao5, c5, rfl, hl5⟩ := Lt.of ho5
      rw [HN3.out] at hl5 ⊢
      have HB5 : Hid (Below w.heap.size w w5) := KB.out.trans (hb5.mono KB.out.size)
      have L1 : Hid (Lt 39 w1.heap.size w5 ao1 n1 c1 ts) := K1.out.below hb5
      have L2 : Hid (Lt 39 w2.heap.size w5 ao2 i c2 (us.map (Tk.up (a.size + 1)))) := K2.out.below hb5
      have L3 : Hid (Lt 39 w3.heap.size w5 ao3 n3 c3 (ts ++ us.map (Tk.up (a.size + 1)))) := K3.out.below hb5
      have L5 : Hid (Lt 45 wr.heap.size w5 ao5 n3 c5 (ts ++ us.map (Tk.up (a.size + 1)))) := hl5
      have KZ5 : Hid (w3.heap.size ≤ w5.heap.size) := Nat.le_trans KZ.out hb5.size
      clear hb5 ho5 hl5
      go_wp2_with (at_builtin; refine appW_list encT 39 23 48 _ rfl info39 Tryd.underlying23 (by rfl) (.tmp 81) (.tmp 82) rfl w1.heap.size (.slice ao1 n1 c1) ts (us.map (Tk.up (a.size + 1))) ao2 i c2 (by rfl) L1.out.own (by rfl) L2.out.rd L2.out.len (by rw [L1.out.len]; omega) (by rw [L1.out.len]; simp only [maxLen]; omega) (by have := HZ.out; have := KZ5.out; omega) ?_; intro v6 w6 ho6 hb6 ht6)
      obtain ⟨ao6, c6, rfl, hl6⟩ := Lt.of ho6
      rw [HN3.out] at hl6 ⊢
      have HB6 : Hid (Below w.heap.size w w6) := HB5.out.trans (hb6.mono (by have := HZ.out; omega))
      have M3 : Hid (Lt 39 w3.heap.size w6 ao3 n3 c3 (ts ++ us.map (Tk.up (a.size + 1)))) := L3.out.turn ht6 (fun k hk q => by
        have h1 := HW3.out k hk
        have h2 := HW1.out k q
        have := HZ.out
        omega)
      have M5 : Hid (Lt 45 wr.heap.size w6 ao5 n3 c5 (ts ++ us.map (Tk.up (a.size + 1)))) := L5.out.turn ht6 (fun k hk q => by
        have h1 := L5.out.within k hk
        have h2 := HW1.out k q
        have := HZ.out
        have := KZ.out
        omega)
      have M6 : Hid (Lt 39 w1.heap.size w6 ao6 n3 c6 (ts ++ us.map (Tk.up (a.size + 1)))) := hl6
      clear ho6 hl6 hb6 ht6 L1 L2 L3 L5 K1 K2 K3
      refine (tokens_any w6 M6.out.rd M6.out.len M6.out.cap (by omega)).mono ?_
      rintro e w7 ⟨v7, rfl, ho7, hb7⟩
      obtain ⟨ao7, c7, rfl, hl7⟩ := Lt.of ho7
      rw [HN3.out] at hl7 ⊢
      have HB7 : Hid (Below w.heap.size w w7) := HB6.out.trans (hb7.mono HB6.out.size)
      have N3 : Hid (Lt 39 w3.heap.size w7 ao3 n3 c3 (ts ++ us.map (Tk.up (a.size + 1)))) := M3.out.below hb7
      have N5 : Hid (Lt 45 wr.heap.size w7 ao5 n3 c5 (ts ++ us.map (Tk.up (a.size + 1)))) := M5.out.below hb7
      have N7 : Hid (Lt 45 w6.heap.size w7 ao7 n3 c7 (ts ++ us.map (Tk.up (a.size + 1)))) := hl7
      clear ho7 hl7 hb7 M3 M5 M6
      go_wp2_with fail
      refine (same_yes true w7 N5.out.rd N7.out.rd N5.out.len N7.out.len N5.out.cap N7.out.cap (by omega) rfl (fun _ => rfl)).mono ?_
      rintro e w8 ⟨rfl, hb8⟩
      have HB8 : Hid (Below w.heap.size w w8) := HB7.out.trans (hb8.mono HB7.out.size)
      have O3 : Hid (Lt 39 w3.heap.size w8 ao3 n3 c3 (ts ++ us.map (Tk.up (a.size + 1)))) := N3.out.below hb8
      clear hb8 N3 N5 N7
      obtain ⟨vs, hvs⟩ : ∃ vs, ts ++ us.map (Tk.up (a.size + 1)) = vs := ⟨_, rfl⟩
      rw [hvs] at O3 HSC HN3
      obtain ⟨z1, z2⟩ := HSC.out.places
      have Z : Hid ((∀ t ∈ vs, t.pos < (a.size : Int) + 1 + (b.size : Int)) ∧ vs.Pairwise (fun x y => x.pos < y.pos) ∧ ∀ t ∈ vs, 0 ≤ t.pos) := by
        refine ⟨fun t ht => ?_, z2, fun t ht => by have := (z1 t ht).1; omega⟩
        have := (z1 t ht).2
        rw [← bsize, hYs] at this
        omega
      clear z1 z2 hvs
      go_wp2_with fail
      go_loopg [15] n3 (fun g iv u => ∃ j : Nat, iv = .int .i64 ((j : Int) + 1) ∧ j + g = n3 ∧ Hid (Lt 39 w3.heap.size u ao3 n3 c3 vs) ∧ Hid (Below w.heap.size w u))
      case atStart => exact ⟨0, rfl, by omega, O3, HB8⟩
      case round =>
        obtain ⟨j, rfl, hj, P3, PB⟩ := hrel
        by_cases hjn : j + 1 < n3
        · have hjni : (j : Int) + 1 < (n3 : Int) := by omega
          obtain ⟨t, ht⟩ : ∃ t, vs[j]? = some t := ⟨_, List.getElem?_eq_getElem (by have := HN3.out; omega)⟩
          obtain ⟨u, hu⟩ : ∃ u, vs[j + 1]? = some u := ⟨_, List.getElem?_eq_getElem (by have := HN3.out; omega)⟩
          obtain ⟨tb, off, rfl, _⟩ := P3.out.rd.some_of ht
          obtain ⟨_, _, _, _, _, k4⟩ := P3.out.rd.tok ht
          obtain ⟨_, _, _, _, _, l4⟩ := P3.out.rd.tok hu
          have hr1 : t.pos < u.pos := by
            obtain ⟨q1, rfl⟩ := List.getElem?_eq_some_iff.1 ht
            obtain ⟨q2, rfl⟩ := List.getElem?_eq_some_iff.1 hu
            exact List.pairwise_iff_getElem.1 Z.out.2.1 j (j + 1) q1 q2 (by omega)
          have hr2 := Z.out.1 u (List.mem_of_getElem? hu)
          have hr0 := Z.out.2.2 t (List.mem_of_getElem? ht)
          obtain ⟨x0, hx0⟩ : ∃ x, t.pos = x := ⟨_, rfl⟩
          obtain ⟨x1, hx1⟩ : ∃ x, u.pos = x := ⟨_, rfl⟩
          rw [hx0] at k4 hr1 hr0
          rw [hx1] at l4 hr1 hr2
          have f1 : decide (x1 ≤ x0) = false := decide_eq_false (by omega)
          have f2 : decide ((a.size : Int) + 1 + (b.size : Int) ≤ x1) = false := decide_eq_false (by omega)
          have hji : (0 : Int) ≤ (j : Int) := by omega
          have hjn2 : (j : Int) < (n3 : Int) := by omega
          clear ht hu hx0 hx1
          go_wp2_with fail
          go_quiet (fail)
          go_wp2
          go_roundg (gk - 1)
          case measure => omega
          case rel => exact ⟨j + 1, by go_num, by omega, P3.out.below (belowD _ _), PB.out.trans ((belowD _ _).mono PB.out.size)⟩
        · have hjni : ¬ (j : Int) + 1 < (n3 : Int) := by omega
          go_wp2_with fail
          go_ret
          exact ⟨rfl, PB.out⟩

end Go.Proofs.YtjeklplgjobeeaaDoor
