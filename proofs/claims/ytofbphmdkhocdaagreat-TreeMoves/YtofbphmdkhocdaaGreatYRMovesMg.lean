/-
  The reference's Moves and Origin, each by a contract: of lists of at most 100000 entries.
-/
import Derived.Test.YtofbphmdkhocdaaGreatM24
import Derived.Test.YtofbphmdkhocdaaGreatYRClassMg
namespace Go.Proofs.YtofbphmdkhocdaaGreat
open Go.RowKit

def encTx : Enc Bs := ⟨fun s => [tx s], 1, fun _ => rfl, by decide, by intro x u h; simp at h; subst h; rfl⟩
theorem RdG.rdT {w : World} {a : Option Addr} {ss : List Bs} (h : RdG encTx w a ss) : Rd w a ss := by
  intro h0
  obtain ⟨b, off, e, hlt, hc⟩ := h h0
  refine ⟨b, off, e, hlt, fun i hi => ?_⟩
  have h1 := hc i (el ss i) (by rw [List.getElem?_eq_getElem hi, el_get hi]) 0 _ rfl
  simpa [encTx, tx] using h1

theorem Tryz.info48 : (Tryz.prog.info? 48).map (fun i => (i.zero, i.size, i.bytes)) = some (some (.agg #[.string ⟨#[]⟩, .string ⟨#[]⟩]), 2, 32) := by kernel_rfl

def tk (out : List Mv) : List Bs := out.map (·.1)
theorem tk_any (out : List Mv) (p : Bs) : (tk out).any (· == p) = out.any (fun m => m.1 == p) := by
  unfold tk
  rw [List.any_map]
  rfl
theorem tk_len (out : List Mv) : (tk out).length = out.length := by unfold tk; simp

theorem findM_at {α : Type} {xs : List α} {t : α → Bool} {i : Nat} {x : α} (h : (xs.take i).any t = false) (hx : xs[i]? = some x) (ht : t x = true) : xs.find? t = some x := by
  have hi : i < xs.length := (List.getElem?_eq_some_iff.1 hx).1
  have e : xs = xs.take i ++ x :: xs.drop (i + 1) := by
    conv => lhs; rw [← List.take_append_drop i xs]
    congr 1
    rw [List.drop_eq_getElem_cons hi]
    congr 1
    rw [List.getElem?_eq_getElem hi] at hx
    exact Option.some.inj hx
  rw [e, List.find?_append]
  have h1 : (xs.take i).find? t = none := by
    rw [List.find?_eq_none]
    intro y hy q
    rw [List.any_eq_false] at h
    exact h y hy q
  rw [h1]
  simp [ht]
theorem findM_no {α : Type} {xs : List α} {t : α → Bool} (h : xs.any t = false) : xs.find? t = none := by
  rw [List.find?_eq_none]
  intro y hy q
  rw [List.any_eq_false] at h
  exact h y hy q

def rgo (A B : List En) (i : Nat) : List Mv := (B.take i).foldl (rstep A B) []
theorem rgo_step (A : List En) {B : List En} {i : Nat} {e : En} (h : B[i]? = some e) : rgo A B (i + 1) = rstep A B (rgo A B i) e := by
  unfold rgo
  rw [takeE_snoc h, List.foldl_append]
  rfl
theorem rgo_len (A B : List En) (i : Nat) : (rgo A B i).length ≤ i := by
  unfold rgo
  have h := rmoves_len A B (B.take i) []
  have h2 := List.length_take_le i B
  simp only [List.length_nil] at h
  omega

/-- Two rows of the call's own, the moves and what is taken. -/
structure TwoM (B : Nat) (u : World) (ov tv : Value) (out : List Mv) : Prop where
  o : OwnG encM 48 u B ov out
  t : OwnG encTx 9 u B tv (tk out)
  ap : ∀ g, ov.ownBlock = some g → tv.ownBlock ≠ some g
theorem TwoM.below {B : Nat} {u u' : World} {ov tv : Value} {out : List Mv} (h : TwoM B u ov tv out) (hb : Below u.heap.size u u') : TwoM B u' ov tv out := ⟨h.o.below hb, h.t.below hb, h.ap⟩
theorem TwoM.nil (B : Nat) (u : World) : TwoM B u (.slice none 0 0) (.slice none 0 0) [] := ⟨OwnG.nil _ _ _ _, OwnG.nil _ _ _ _, fun _ h => nomatch h⟩

theorem apart_moved {u : World} {x x' y : Value} (hm : Moved u x x') (hy : ∀ g, y.ownBlock = some g → g < u.heap.size) (h : ∀ g, x.ownBlock = some g → y.ownBlock ≠ some g) : ∀ g, x'.ownBlock = some g → y.ownBlock ≠ some g := by
  intro g hg q
  rcases hm with e | e
  · rw [e] at hg
    exact h g hg q
  · have h1 := e g hg
    have h2 := hy g q
    omega

/-- One more behind the first row. -/
def MidM (B : Nat) (u : World) (ov tv : Value) (out : List Mv) (x : Mv) : Prop := OwnG encM 48 u B ov (out ++ [x]) ∧ OwnG encTx 9 u B tv (tk out) ∧ ∀ g, ov.ownBlock = some g → tv.ownBlock ≠ some g
theorem TwoM.one {B : Nat} {u u' : World} {ov tv v' : Value} {out : List Mv} {x : Mv} (h : TwoM B u ov tv out) (ho : OwnG encM 48 u' B v' (out ++ [x])) (hm : Moved u ov v') (ht : Turned (fun k => ov.ownBlock = some k) u u') : MidM B u' v' tv out x :=
  ⟨ho, h.t.stays ht (fun g q r => h.ap g r q), apart_moved hm (fun g q => (h.t.lt g q).2) h.ap⟩
theorem MidM.two {B : Nat} {u u' : World} {ov tv v' : Value} {out : List Mv} {x : Mv} (h : MidM B u ov tv out x) (ho : OwnG encTx 9 u' B v' (tk out ++ [x.1])) (hm : Moved u tv v') (ht : Turned (fun k => tv.ownBlock = some k) u u') : TwoM B u' ov v' (out ++ [x]) := by
  refine ⟨h.1.stays ht (fun g q r => h.2.2 g q r), ?_, fun g q r => apart_moved hm (fun g q => (h.1.lt g q).2) (fun g q r => h.2.2 g r q) g r q⟩
  have : tk (out ++ [x]) = tk out ++ [x.1] := by unfold tk; simp
  rw [this]
  exact ho

set_option maxHeartbeats 6400000 in
set_option maxRecDepth 100000 in
/-- The reference's Moves. -/
theorem rmoves_any {ao bo : Option Addr} {n c m d : Nat} {A B : List En} (w : World) (ha : RdG encE w ao A) (hb : RdG encE w bo B) (hl : A.length = n) (hk : B.length = m) (hn : n ≤ 100000) (hm : m ≤ 100000) :
    Calls Tryz.prog 17 #[.slice ao n c, .slice bo m d] w fun e w' => ∃ v', e = .returned v' ∧ OwnG encM 48 w' w.heap.size v' (rmoves A B) ∧ Below w.heap.size w w' := by
  have H : Hid (RdG encE w ao A ∧ RdG encE w bo B ∧ A.length = n ∧ B.length = m) := ⟨ha, hb, hl, hk⟩
  clear ha hb hl hk
  go_enter Tryz.func17, Tryz.ntmps17
  go_wp2_with fail
  go_loopg [5, 6, 7] m (fun k ov tv v wr => ∃ i : Nat, v = .int .i64 i ∧ i + k = m ∧ Hid (TwoM w.heap.size wr ov tv (rgo A B i) ∧ Below w.heap.size w wr))
  case atStart => exact ⟨0, rfl, by omega, by have : rgo A B 0 = [] := (by simp [rgo]); rw [this]; exact TwoM.nil _ _, Below.refl _ _⟩
  case round =>
    obtain ⟨i, rfl, hi, HR⟩ := hrel
    obtain ⟨go, hgo⟩ : ∃ go, go = gk := ⟨_, rfl⟩
    have GO : Hid (i + go = m ∧ go = gk) := ⟨by rw [hgo]; exact hi, hgo⟩
    clear hgo
    by_cases hin : i < m
    · have id : (i : Int) < (m : Int) := by omega
      have id0 : (0 : Int) ≤ (i : Int) := by omega
      obtain ⟨e, he⟩ := get_some H.out.2.2.2 hin
      obtain ⟨b, off, rfl, hlt⟩ := H.out.2.1.some_of he
      obtain ⟨_, c0, c1⟩ := (H.out.2.1.below HR.out.2).ents he
      have hst := rgo_step A he
      have hol := rgo_len A B i
      obtain ⟨p, x⟩ := e
      simp only at c0 c1
      have BE : Hid (B[i]? = some (p, x) ∧ rgo A B (i + 1) = rstep A B (rgo A B i) (p, x)) := ⟨he, hst⟩
      obtain ⟨y, hy⟩ : ∃ y, blobOf A p = y := ⟨_, rfl⟩
      have hbl := rblob_any (c := c) p wr (H.out.1.below HR.out.2) H.out.2.2.1 (by omega) y hy
      obtain ⟨out, hout⟩ : ∃ out, rgo A B i = out := ⟨_, rfl⟩
      rw [hout] at HR BE hol
      clear he hst hlt hout
      go_wp2_with fail
      refine hbl.mono ?_
      rintro e w1 ⟨rfl, B1⟩
      have G1 : Hid (TwoM w.heap.size w1 u5 u6 out ∧ Below w.heap.size w w1) := ⟨HR.out.1.below B1, HR.out.2.trans (B1.mono HR.out.2.size)⟩
      clear B1 hbl c0 c1
      by_cases hy0 : y = 0
      · have ST : Hid (rgo A B (i + 1) = rs A B out (p, x)) := by
          show _ = _
          rw [BE.out.2]
          unfold rstep
          rw [if_pos (show blobOf A p = 0 by rw [hy, hy0])]
        subst hy0
        clear hy
        have BE1 : Hid (B[i]? = some (p, x)) := BE.out.1
        clear BE
        go_wp2_with fail
        go_loopg [5, 6, 8] n (fun k ov tv v wr => ∃ j : Nat, v = .int .i64 j ∧ ov = u5 ∧ tv = u6 ∧ j + k = n ∧ Hid ((A.take j).any (mtest B out x) = false ∧ Below w1.heap.size w1 wr))
        case atStart => exact ⟨0, rfl, rfl, rfl, by omega, by simp, Below.refl _ _⟩
        case round =>
          obtain ⟨j, rfl, rfl, rfl, hj, HJ⟩ := hrel
          by_cases hjn : j < n
          · have jd : (j : Int) < (n : Int) := by omega
            have jd0 : (0 : Int) ≤ (j : Int) := by omega
            obtain ⟨e, he⟩ := get_some H.out.2.2.1 hjn
            obtain ⟨b2, off2, rfl, hlt2⟩ := H.out.1.some_of he
            have WW : Hid (Below w.heap.size w wr) := G1.out.2.trans (HJ.out.2.mono G1.out.2.size)
            obtain ⟨q, z⟩ := e
            have AE : Hid (A[j]? = some (q, z)) := he
            have q0 : ∀ u : SW (Grew wr), u.w.cell? ⟨b2, off2 + j * 2, none⟩ = some (.string ⟨q.toArray⟩) := fun u => (((H.out.1.below WW.out).below u.ok).ents AE.out).2.1
            have q1 : ∀ u : SW (Grew wr), u.w.cell? ⟨b2, off2 + j * 2 + 1, none⟩ = some (.int .u64 (z.toNat : Int)) := fun u => (((H.out.1.below WW.out).below u.ok).ents AE.out).2.2
            have q2 : ∀ u : SW (Grew wr), u.w.cell? ⟨b, off + i * 2, none⟩ = some (.string ⟨p.toArray⟩) := fun u => (((H.out.2.1.below WW.out).below u.ok).ents BE1.out).2.1
            have q3 : ∀ u : SW (Grew wr), u.w.cell? ⟨b, off + i * 2 + 1, none⟩ = some (.int .u64 (x.toNat : Int)) := fun u => (((H.out.2.1.below WW.out).below u.ok).ents BE1.out).2.2
            obtain ⟨y2, hy2⟩ : ∃ y2, blobOf B q = y2 := ⟨_, rfl⟩
            obtain ⟨f, hf⟩ : ∃ f, (tk out).any (· == q) = f := ⟨_, rfl⟩
            have hmt : mtest B out x (q, z) = ((z == x) && ((y2 == 0) && !f)) := by
              unfold mtest isFree
              rw [← tk_any, hf]
              simp only
              rw [hy2]
            have TW : Hid (TwoM w.heap.size wr u5 u6 out) := G1.out.1.below HJ.out.2
            obtain ⟨at6, ct6, e6, _, _, R6, _⟩ := TW.out.t.form
            obtain ⟨kt, hkt⟩ : ∃ kt, (tk out).length = kt := ⟨_, rfl⟩
            rw [hkt] at e6
            have hkl : kt ≤ 100000 := by rw [← hkt, tk_len]; omega
            have hB := fun u => rblob_class (c := d) q (H.out.2.1.below WW.out) H.out.2.2.2 (by omega) y2 hy2 u
            have hH := fun u => rhas_class (c := ct6) q R6.rdT hkt (by omega) f hf u
            have NE : Nonempty (SW (Grew wr)) := ⟨⟨wr, Below.refl _ wr⟩⟩
            have MT : Hid (mtest B out x (q, z) = ((z == x) && ((y2 == 0) && !f)) ∧ u6 = .slice at6 kt ct6) := ⟨hmt, e6⟩
            have NO : Hid (mtest B out x (q, z) = false → (A.take (j + 1)).any (mtest B out x) = false) := fun hh => anyE_step AE.out HJ.out.1 hh
            subst e6
            clear he hlt2 hmt hf hy2 hkt R6
            by_cases hzx : z = x
            · subst hzx
              by_cases hy0 : y2 = 0
              · subst hy0
                cases f with
                | true =>
                  go_upto_region 10 with fail
                  refine wp_region_class (S := Grew wr) (by kernel_rfl) (by kernel_rfl) (Below.refl _ wr).drew ?_
                  repeat (go_big_quiet_step (first | with_reducible exact hB _ | with_reducible exact hH _))
                  refine wpQuiet_nil ?_
                  intro _ hw'
                  obtain ⟨u, hw''⟩ := hw'
                  subst hw''
                  have BU : Hid (Below w1.heap.size w1 u.w) := HJ.out.2.trans (Below.mono u.ok HJ.out.2.size)
                  clear hB hH q0 q1 q2 q3 NE
                  go_wp2
                  go_roundg (gk - 1)
                  case measure => omega
                  case rel => exact ⟨j + 1, by go_num, rfl, rfl, by omega, NO.out (by rw [MT.out.1]; simp), BU.out⟩
                | false =>
                  go_upto_region 10 with fail
                  refine wp_region_class (S := Grew wr) (by kernel_rfl) (by kernel_rfl) (Below.refl _ wr).drew ?_
                  repeat (go_big_quiet_step (first | with_reducible exact hB _ | with_reducible exact hH _))
                  refine wpQuiet_nil ?_
                  intro _ hw'
                  obtain ⟨u, hw''⟩ := hw'
                  subst hw''
                  obtain ⟨w4, hw4⟩ : ∃ w4, w4 = u.w := ⟨_, rfl⟩
                  have k0 := q0 u
                  have k2 := q2 u
                  have BU : Hid (TwoM w.heap.size w4 u5 (.slice at6 kt ct6) out ∧ Below w.heap.size w w4) := by
                    rw [hw4]
                    exact ⟨TW.out.below u.ok, WW.out.trans (Below.mono u.ok WW.out.size)⟩
                  rw [← hw4] at k0 k2 ⊢
                  have CC : Hid (∀ u', Below w.heap.size w u' → u'.cell? ⟨b2, off2 + j * 2, none⟩ = some (.string ⟨q.toArray⟩)) := fun u' hb' => ((H.out.1.below hb').ents AE.out).2.1
                  have RS : Hid (rgo A B (i + 1) = out ++ [(q, p)]) := by
                    show _ = _
                    rw [ST.out, rs_find, findM_at HJ.out.1 AE.out (by rw [MT.out.1]; simp)]
                  have OL : Hid (out.length ≤ 100000 ∧ (tk out).length ≤ 100000) := ⟨by omega, by rw [tk_len]; omega⟩
                  clear hB hH q0 q1 q2 q3 NE hw4 u
                  go_upto_region 11 with fail
                  go_cut [5] (fun ov u => Hid (MidM w.heap.size u ov (.slice at6 kt ct6) out (q, p) ∧ Below w.heap.size w u))
                  case first =>
                    go_region_law (refine stepG_at encM 48 44 32 (.agg #[.string ⟨#[]⟩, .string ⟨#[]⟩]) rfl Tryz.info48 Tryz.underlying44 rfl (.tmp 60) (.tmp 72) rfl w.heap.size _ out (q, p) rfl (BU.out.1.o.below ((Below.refl _ w4).drew.trans (bz1 w4.drew _))) w4.heap.size rfl (cells_new encM w4.drew (q, p) 48) (by have := OL.out.1; omega) (by have := OL.out.1; simp only [maxLen]; omega) (by have := BU.out.2.size; simp; omega) ?_; intro v9 w9 ho9 hb9 hm9 ht9; have FIN : Hid (MidM w.heap.size w9 v9 (.slice at6 kt ct6) out (q, p) ∧ Below w.heap.size w w9) := ⟨(BU.out.1.below ((Below.refl _ w4).drew.trans (bz1 w4.drew _))).one ho9 hm9 ht9, BU.out.2.trans ((((bz1 w4 _).drew).mono BU.out.2.size).trans hb9)⟩; clear ho9 hb9 hm9 ht9)
                    all_goals
                      go_wp2_with fail
                      go_meet
                      exact FIN
                  case rest =>
                    have G9 : Hid (MidM w.heap.size wc u5 (.slice at6 kt ct6) out (q, p) ∧ Below w.heap.size w wc) := hcut
                    have c9 := CC.out wc G9.out.2
                    clear hcut k0 k2
                    go_wp2_with (at_builtin; refine appG_one encTx 9 23 16 (.string ⟨#[]⟩) rfl Tryz.info9 Tryz.underlying23 rfl (.tmp 74) (.tmp 80) rfl w.heap.size _ (tk out) q _ rfl G9.out.1.2.1 rfl (by have := OL.out.2; omega) (by have := OL.out.2; simp only [maxLen]; omega) G9.out.2.size _ rfl ?_; intro v8 w8 hown8 hbel8 hm8 ht8)
                    go_roundg (go - 1)
                    case measure => have := GO.out; omega
                    case rel => exact ⟨i + 1, by go_num, by have := GO.out; omega, by rw [RS.out]; exact G9.out.1.two hown8 hm8 ht8, G9.out.2.trans hbel8⟩
              · have h0' : ((y2.toNat : Int) == 0) = false := by
                  simp only [beq_eq_false_iff_ne, ne_eq]
                  intro e
                  exact hy0 (UInt64.toNat_inj.1 (show y2.toNat = 0 by omega))
                have h0'' : ¬ (y2.toNat : Int) = 0 := by simpa using h0'
                go_upto_region 10 with fail
                refine wp_region_class (S := Grew wr) (by kernel_rfl) (by kernel_rfl) (Below.refl _ wr).drew ?_
                repeat (go_big_quiet_step (first | with_reducible exact hB _ | with_reducible exact hH _))
                refine wpQuiet_nil ?_
                intro _ hw'
                obtain ⟨u, hw''⟩ := hw'
                subst hw''
                have BU : Hid (Below w1.heap.size w1 u.w) := HJ.out.2.trans (Below.mono u.ok HJ.out.2.size)
                clear hB hH q0 q1 q2 q3 NE
                go_wp2
                go_roundg (gk - 1)
                case measure => omega
                case rel => exact ⟨j + 1, by go_num, rfl, rfl, by omega, NO.out (by rw [MT.out.1]; simp [hy0]), BU.out⟩
            · have h0' : ((z.toNat : Int) == (x.toNat : Int)) = false := by
                simp only [beq_eq_false_iff_ne, ne_eq]
                intro e
                exact hzx (UInt64.toNat_inj.1 (by omega))
              have h0'' : ¬ (z.toNat : Int) = (x.toNat : Int) := by simpa using h0'
              go_upto_region 10 with fail
              refine wp_region_class (S := Grew wr) (by kernel_rfl) (by kernel_rfl) (Below.refl _ wr).drew ?_
              repeat (go_big_quiet_step (first | with_reducible exact hB _ | with_reducible exact hH _))
              refine wpQuiet_nil ?_
              intro _ hw'
              obtain ⟨u, hw''⟩ := hw'
              subst hw''
              have BU : Hid (Below w1.heap.size w1 u.w) := HJ.out.2.trans (Below.mono u.ok HJ.out.2.size)
              clear hB hH q0 q1 q2 q3 NE
              go_wp2
              go_roundg (gk - 1)
              case measure => omega
              case rel => exact ⟨j + 1, by go_num, rfl, rfl, by omega, NO.out (by rw [MT.out.1]; simp [hzx]), BU.out⟩
          · obtain rfl : j = n := by omega
            have e := HJ.out.1
            rw [List.take_of_length_le (by rw [H.out.2.2.1]; omega)] at e
            have RS : Hid (rgo A B (i + 1) = out) := by
              show _ = _
              rw [ST.out, rs_find, findM_no e]
            have FIN : Hid (TwoM w.heap.size wr u5 u6 out ∧ Below w.heap.size w wr) := ⟨G1.out.1.below HJ.out.2, G1.out.2.trans (HJ.out.2.mono G1.out.2.size)⟩
            clear e
            go_wp2
            go_roundg (go - 1)
            case measure => have := GO.out; omega
            case rel => exact ⟨i + 1, by go_num, by have := GO.out; omega, by rw [RS.out]; exact FIN.out.1, FIN.out.2⟩
      · have ST : Hid (rgo A B (i + 1) = out) := by
          show _ = _
          rw [BE.out.2]
          unfold rstep
          rw [if_neg (show ¬ blobOf A p = 0 by rw [hy]; exact hy0)]
        have h0' : ((y.toNat : Int) != 0) = true := by
          simp only [bne_iff_ne, ne_eq]
          intro e
          exact hy0 (UInt64.toNat_inj.1 (show y.toNat = 0 by omega))
        have h0'' : ((y.toNat : Int) == 0) = false := by simpa using h0'
        clear hy BE
        go_wp2
        go_roundg (gk - 1)
        case measure => omega
        case rel => exact ⟨i + 1, by go_num, by omega, by rw [ST.out]; exact G1.out.1, G1.out.2⟩
    · obtain rfl : i = m := by omega
      have e : rgo A B i = rmoves A B := by
        unfold rgo rmoves
        rw [List.take_of_length_le (by rw [H.out.2.2.2]; omega)]
      rw [e] at HR
      clear e
      go_wp2
      go_ret
      exact ⟨_, rfl, HR.out.1.o, HR.out.2⟩

theorem blob_some {B : List En} (z : NZ B) {p : Bs} : blobOf B p = 0 ↔ ffind B p = none := by
  unfold blobOf
  cases h : ffind B p with
  | none => simp
  | some y =>
    have := z _ (ffind_mem h)
    simpa using this

set_option maxHeartbeats 3200000 in
set_option maxRecDepth 100000 in
/-- The reference's Origin. -/
theorem rorigin_any {ao bo : Option Addr} {n c m d : Nat} {A B : List En} (p : Bs) (w : World) (ha : RdG encE w ao A) (hb : RdG encE w bo B) (hl : A.length = n) (hk : B.length = m) (hn : n ≤ 100000) (hm : m ≤ 100000) (zA : NZ A) (zB : NZ B) (r : Option Bs) (hr : forigin A B (rmoves A B) p = r) :
    Calls Tryz.prog 19 #[.slice ao n c, .slice bo m d, tx p] w fun e w' => e = .returned (orV r) ∧ Below w.heap.size w w' := by
  obtain ⟨yb, hyb⟩ : ∃ yb, blobOf B p = yb := ⟨_, rfl⟩
  obtain ⟨ya, hya⟩ : ∃ ya, blobOf A p = ya := ⟨_, rfl⟩
  have hfb := rblob_any (c := d) p w hb hk (by omega) yb hyb
  have hfa := fun u h => rblob_any (c := c) (ao := ao) p u h hl (by omega) ya hya
  have hmv := fun u h1 h2 => rmoves_any (ao := ao) (bo := bo) (c := c) (d := d) (A := A) (B := B) u h1 h2 hl hk hn hm
  have hpl : (rmoves A B).length ≤ 100000 := by
    have h1 := rmoves_len A B B []
    simp only [List.length_nil] at h1
    unfold rmoves
    omega
  obtain ⟨ms, hms⟩ : ∃ ms, rmoves A B = ms := ⟨_, rfl⟩
  rw [hms] at hr hmv hpl
  have H : Hid (RdG encE w ao A ∧ RdG encE w bo B) := ⟨ha, hb⟩
  have FB : Hid (yb = 0 ↔ ffind B p = none) := by rw [← hyb]; exact blob_some zB
  have FA : Hid (ya = 0 ↔ ffind A p = none) := by rw [← hya]; exact blob_some zA
  clear ha hb hl hk hyb hya hms zA zB
  by_cases hb0 : yb = 0
  · obtain rfl : none = r := by
      rw [← hr, forigin, FB.out.1 hb0]
      rfl
    subst hb0
    go_enter Tryz.func19, Tryz.ntmps19
    go_wp2_with fail
    refine hfb.mono ?_
    rintro e w1 ⟨rfl, B1⟩
    have G1 : Hid (Below w.heap.size w w1) := B1
    clear B1
    go_wp2
    refine bodyPost_ret (results_tmp2 rfl _ _ _) rfl ?_
    exact ⟨rfl, G1.out⟩
  · have sb : (ffind B p).isSome = true := by
      cases h : ffind B p with
      | none => exact absurd (FB.out.2 h) hb0
      | some _ => rfl
    have h0 : ((yb.toNat : Int) == 0) = false := by
      simp only [beq_eq_false_iff_ne, ne_eq]
      intro e
      exact hb0 (UInt64.toNat_inj.1 (show yb.toNat = 0 by omega))
    have h0' : ¬ (yb.toNat : Int) = 0 := by simpa using h0
    by_cases ha0 : ya = 0
    · have HR : Hid (movedFrom ms p = r) := by
        show _ = _
        rw [← hr, forigin, sb, FA.out.1 ha0]
        rfl
      subst ha0
      clear hr sb
      go_enter Tryz.func19, Tryz.ntmps19
      go_wp2_with fail
      refine hfb.mono ?_
      rintro e w1 ⟨rfl, B1⟩
      have G1 : Hid (Below w.heap.size w w1) := B1
      clear B1
      have hfa1 := hfa w1 (H.out.1.below G1.out)
      go_wp2_with fail
      refine hfa1.mono ?_
      rintro e w2 ⟨rfl, B2⟩
      have G2 : Hid (Below w.heap.size w w2) := G1.out.trans (B2.mono G1.out.size)
      clear B2 hfa1 hfa hfb
      have hmv2 := hmv w2 (H.out.1.below G2.out) (H.out.2.below G2.out)
      clear hmv
      go_wp2_with fail
      refine hmv2.mono ?_
      rintro e w3 ⟨v3, rfl, O3, B3⟩
      obtain ⟨a3, c3, rfl, _, _, R3, _⟩ := O3.form
      obtain ⟨k, hk⟩ : ∃ k, ms.length = k := ⟨_, rfl⟩
      rw [hk] at hpl ⊢
      have G3 : Hid (RdG encM w3 a3 ms ∧ ms.length = k ∧ Below w.heap.size w w3) := ⟨R3, hk, G2.out.trans (B3.mono G2.out.size)⟩
      clear O3 B3 R3 hk hmv2
      go_wp2_with fail
      go_loopg [9] k (fun t v wr => ∃ i : Nat, v = .int .i64 i ∧ i + t = k ∧ Hid ((ms.take i).any (fun x => x.2 == p) = false ∧ Below w3.heap.size w3 wr))
      case atStart => exact ⟨0, rfl, by omega, rfl, Below.refl _ _⟩
      case round =>
        obtain ⟨i, rfl, hi, HT⟩ := hrel
        by_cases hin : i < k
        · have id : (i : Int) < (k : Int) := by omega
          obtain ⟨x, hx⟩ := get_some G3.out.2.1 hin
          obtain ⟨b, off, rfl, _⟩ := G3.out.1.some_of hx
          obtain ⟨c0, c1⟩ := (G3.out.1.below HT.out.2).mvs hx
          obtain ⟨x1, x2⟩ := x
          simp only at c0 c1
          have X : Hid (ms[i]? = some (x1, x2)) := hx
          clear hx
          by_cases hp : x2 = p
          · subst hp
            go_wp2
            refine bodyPost_ret (results_tmp2 rfl _ _ _) rfl ?_
            refine ⟨?_, G3.out.2.2.trans (HT.out.2.mono G3.out.2.2.size)⟩
            rw [← HR.out, moved_at HT.out.1 X.out rfl]
            rfl
          · have hne : (x2 == p) = false := by simpa using hp
            go_wp2
            go_roundg (gk - 1)
            case measure => omega
            case rel => exact ⟨i + 1, by go_num, by omega, anyE_step (p := fun x : Mv => x.2 == p) X.out HT.out.1 hne, HT.out.2⟩
        · obtain rfl : i = k := by omega
          have e := HT.out.1
          rw [List.take_of_length_le (by rw [G3.out.2.1]; omega)] at e
          have E : Hid (r = none) := by show _ = _; rw [← HR.out]; exact moved_no e
          clear e
          go_wp2
          refine bodyPost_ret (results_tmp2 rfl _ _ _) rfl ?_
          refine ⟨?_, G3.out.2.2.trans (HT.out.2.mono G3.out.2.2.size)⟩
          rw [E.out]
          rfl
    · obtain rfl : some p = r := by
        have sa : (ffind A p).isSome = true := by
          cases h : ffind A p with
          | none => exact absurd (FA.out.2 h) ha0
          | some _ => rfl
        rw [← hr, forigin, sb, sa]
        rfl
      have h1 : ((ya.toNat : Int) != 0) = true := by
        simp only [bne_iff_ne, ne_eq]
        intro e
        exact ha0 (UInt64.toNat_inj.1 (show ya.toNat = 0 by omega))
      have h1' : ((ya.toNat : Int) == 0) = false := by simpa using h1
      go_enter Tryz.func19, Tryz.ntmps19
      go_wp2_with fail
      refine hfb.mono ?_
      rintro e w1 ⟨rfl, B1⟩
      have G1 : Hid (Below w.heap.size w w1) := B1
      clear B1
      have hfa1 := hfa w1 (H.out.1.below G1.out)
      go_wp2_with fail
      refine hfa1.mono ?_
      rintro e w2 ⟨rfl, B2⟩
      have G2 : Hid (Below w.heap.size w w2) := G1.out.trans (B2.mono G1.out.size)
      clear B2
      go_wp2
      refine bodyPost_ret (results_tmp2 rfl _ _ _) rfl ?_
      exact ⟨rfl, G2.out⟩

end Go.Proofs.YtofbphmdkhocdaaGreat
