/-
  The reader's kids by a contract, over that of expr. No condition.
-/
import Derived.Test.YtijchmcajhdcoaaGreatDoorJRow
namespace Go.Proofs.YtijchmcajhdcoaaGreatDoor
open Go.RowKit

/-- What a call's brackets hold, behind the opening one. -/
def Kd (E : Int) (t : Tk) (l : List Tk) (o : Out) : Prop :=
  (hd (sB [41]) l = true ∧ o = .ok (callN t []) (l.drop 1)) ∨ (hd (sB [41]) l = false ∧ ∃ n r, Gm E (.row 1) l (.ok n r) ∧ Gm E (.args t [n]) r o) ∨ (hd (sB [41]) l = false ∧ ∃ p, Gm E (.row 1) l (.err p) ∧ o = .err p)
theorem Kd.atom {E : Int} {t u : Tk} {l : List Tk} {o : Out} (h : Kd E t l o) (hk : t.kind = 1) (ht : t.text ≠ []) (hu : sB [40] u = true) : Gm E .atom (t :: u :: l) o := by
  rcases h with ⟨h1, rfl⟩ | ⟨h1, n, r, h2, h3⟩ | ⟨h1, p, h2, rfl⟩
  · cases l with
    | nil => cases h1
    | cons v r => exact .call0 hk ht hu h1
  · exact .call hk ht hu h1 h2 h3
  · exact .callE hk ht hu h1 h2

theorem infoN : (Tryz.prog.info? 28).map (fun i => (i.zero, i.size, i.bytes)) = some (some (.agg #[.int .i64 0, .string ⟨#[]⟩, .int .i64 0, .int .u64 0, .slice none 0 0, .int .i64 0]), 6, 72) := by kernel_rfl

theorem Tn.belowB {b B : Nat} {a u v : World} (h : Tn b a u) (k : Below B u v) (hB : a.heap.size ≤ B) : Tn b a v := Turned.trans h (turnB k) (fun i hi q => by omega)

/-- A row that a step did not turn. -/
theorem OwnG.stay {α : Type} {E : Enc α} {S : Nat → Prop} {e : TypeId} {w w' : World} {B : Nat} {v : Value} {xs : List α} (h : OwnG E e w B v xs) (ht : Turned S w w') (hS : ∀ g, v.ownBlock = some g → ¬ S g) : OwnG E e w' B v xs := ownsRow_turned h ht hS

/-- What stands at the head of a round of kids: the trees so far, in a row of the call's own. -/
structure KdI (E : Int) (t : Tk) (b : Nat) (ao : Option Addr) (n c : Nat) (ts : List Tk) (k : Nat) (w wr : World) (k2 : Nat) (v : Value) (us : List NV) (ks : List Nd) : Prop where
  own : OwnG encN 28 wr w.heap.size v us
  nds : NdsIn (fun g => w.heap.size ≤ g ∧ g < wr.heap.size ∧ v.ownBlock ≠ some g) wr us ks
  rst : Rst wr b ao n c ts k2
  tn : Tn b w wr
  le : k ≤ k2
  few : us.length ≤ k2
  go : ∀ x r o, Gm E (.row 1) (ts.drop k2) (.ok x r) → Gm E (.args t (ks ++ [x])) r o → Kd E t (ts.drop k) o
  no : ∀ p, Gm E (.row 1) (ts.drop k2) (.err p) → Kd E t (ts.drop k) (.err p)

/-- What kids answers. -/
def Kp (E : Int) (t : Tk) (b : Nat) (ao : Option Addr) (n c : Nat) (ts : List Tk) (k : Nat) (w : World) (e : Ending) (w' : World) : Prop :=
  ∃ (a : Option Addr) (l q : Nat) (f : Bool) (k' : Nat), e = .returned (.tuple #[.slice a l q, .bool f]) ∧ k ≤ k' ∧ Rst w' b ao n c ts k' ∧ Tn b w w' ∧
    ((∃ ks us, f = true ∧ Kd E t (ts.drop k) (.ok (callN t ks) (ts.drop k')) ∧ RdG encN w' a us ∧ NdsIn (Bt w.heap.size w'.heap.size) w' us ks ∧ us.length = l ∧ l ≤ q ∧ (0 < us.length → ∀ ad, a = some ad → Bt w.heap.size w'.heap.size ad.block)) ∨
      (f = false ∧ Kd E t (ts.drop k) (.err (nextP E (ts.drop k')))))

set_option maxHeartbeats 3200000 in
set_option maxRecDepth 100000 in
theorem pkids_any {E : Int} {b : Nat} {ao : Option Addr} {n c k : Nat} {ts : List Tk} (t : Tk) (hU : ∀ k', k ≤ k' → Pt E (.row 1) 12 b ao n c ts k') (w : World) (h : Rst w b ao n c ts k) :
    Calls Tryz.prog 101 #[.pointer (some ⟨b, 0, none⟩)] w (Kp E t b ao n c ts k w) := by
  have HU : Hid (∀ k', k ≤ k' → Pt E (.row 1) 12 b ao n c ts k') := hU
  have hlb := h.box.lt
  have hfew : n ≤ 1024 := h.few
  have H : Hid (Rst w b ao n c ts k) := h
  clear h hU
  by_cases h1 : hd (sB [41]) (ts.drop k) = true
  · have hpy := pass_yes [41] w H.out h1
    have H1 : Hid (hd (sB [41]) (ts.drop k) = true) := h1
    clear h1
    go_enter Tryz.func101, Tryz.ntmps101
    go_wp2_with fail
    refine hpy.mono ?_
    rintro e w2 ⟨rfl, hR, hT⟩
    have H2 : Hid (Rst w2 b ao n c ts (k + 1) ∧ Tn b w w2) := ⟨hR, hT⟩
    clear hR hT hpy
    go_wp2_with fail
    go_ret2
    refine ⟨none, 0, 0, true, k + 1, rfl, by omega, H2.out.1, H2.out.2, .inl ⟨[], [], rfl, .inl ⟨H1.out, ?_⟩, RdG.nil _ _ _, .nil, rfl, Nat.le_refl _, fun q => by simp at q⟩⟩
    rw [List.drop_drop]
  · have h1' : hd (sB [41]) (ts.drop k) = false := by simpa using h1
    have hpn := pass_no [41] w H.out h1'
    have H1 : Hid (hd (sB [41]) (ts.drop k) = false) := h1'
    clear h1 h1'
    go_enter Tryz.func101, Tryz.ntmps101
    go_wp2_with fail
    refine hpn.mono ?_
    rintro e w2 ⟨rfl, b2⟩
    have HI : Hid (KdI E t b ao n c ts k w w2 k (.slice none 0 0) [] []) := ⟨(OwnG.nil _ _ _ _), .nil, H.out.below b2, Tn.of b2, Nat.le_refl _, Nat.zero_le _, fun x r o h2 h3 => .inr (.inl ⟨H1.out, x, r, h2, h3⟩), fun p h2 => .inr (.inr ⟨H1.out, p, h2, rfl⟩)⟩
    clear b2 hpn
    go_wp2_with fail
    go_loopg [4] (n + 1 - k) (fun g v wr => ∃ (k2 : Nat) (us : List NV) (ks : List Nd), g = n + 1 - k2 ∧ Hid (KdI E t b ao n c ts k w wr k2 v us ks))
    case atStart => exact ⟨k, [], [], rfl, HI.out⟩
    case round =>
      clear HI
      obtain ⟨k2, us, ks, hgk, HI⟩ := hrel
      go_wp2_with fail
      refine (HU.out k2 HI.out.le wr HI.out.rst).mono ?_
      rintro e w3 ⟨o, y, i, j, a, l, q, p, f, k3, rfl, hk3, hR3, hT3, hO3⟩
      have hs3 := hT3.size
      have hs0 := HI.out.tn.size
      cases f with
      | false =>
        have H3 : Hid (Rst w3 b ao n c ts k3 ∧ Tn b w w3 ∧ Gm E (.row 1) (ts.drop k2) (.err (nextP E (ts.drop k3)))) := by
          refine ⟨hR3, HI.out.tn.trans hT3, ?_⟩
          rcases hO3 with ⟨nd, q, _⟩ | ⟨h1, _⟩
          · cases q
          · exact h1
        clear hR3 hT3 hO3
        go_wp2_with fail
        go_ret2
        exact ⟨none, 0, 0, false, k3, rfl, by have := HI.out.le; omega, H3.out.1.below (bz1 _ _), H3.out.2.1.trans (Tn.of (bz1 _ _)), .inr ⟨rfl, HI.out.no _ H3.out.2.2⟩⟩
      | true =>
        obtain ⟨W5, m5, hW5, hm5, hx5, bW5, b5, hB5, hlt5⟩ := lay6 (Below.refl _ w3) (Nat.le_refl _) 28 (.int .i64 o) (.string y) (.int .i64 i) (.int .u64 j) (.slice a l q) (.int .i64 p)
        obtain ⟨d0, d1, d2, d3, d4, d5⟩ := hx5.cells
        have ho5 : OwnG encN 28 W5 w.heap.size u4 us := (HI.out.own.stay hT3 (fun g hg e => by have := (World.ownsRow.lt HI.out.own g hg).1; omega)).below bW5
        have H5 : Hid (Rst W5 b ao n c ts k3 ∧ Tn b w W5 ∧ NdsIn (fun g => w.heap.size ≤ g ∧ g < wr.heap.size ∧ u4.ownBlock ≠ some g) W5 us ks ∧ Oc E (.row 1) ts k2 (Bt wr.heap.size w3.heap.size) ⟨o, y.data.toList, i, j, a, l, q, p⟩ true k3 w3 ∧ Below w3.heap.size w3 W5 ∧ k2 ≤ k3 ∧ wr.heap.size ≤ w3.heap.size ∧ w.heap.size ≤ wr.heap.size) :=
          ⟨hR3.below bW5, (HI.out.tn.trans hT3).trans (Tn.of bW5), (HI.out.nds.turned hT3 (fun g hg e => by have := hg.1; omega)).stays bW5, hO3, bW5, hk3, hs3, hs0⟩
        have hus : us.length ≤ 2000 := by have := HI.out.few; have := HI.out.rst.le; omega
        have hb5 : w.heap.size ≤ W5.heap.size := by have := bW5.size; omega
        clear hx5 b5 bW5 hR3 hT3 hO3
        go_upto_region 7 with fail
        clear hW5 hm5
        have HCC : Hid (#[Value.int .i64 o, .string y, .int .i64 i, .int .u64 j, .slice a l q, .int .i64 p] = (encN.cells ⟨o, y.data.toList, i, j, a, l, q, p⟩).toArray) := by show _ = _; simp [encN]
        go_wp2_with (at_builtin; refine appG_one encN 28 26 72 (.agg #[.int .i64 0, .string ⟨#[]⟩, .int .i64 0, .int .u64 0, .slice none 0 0, .int .i64 0]) rfl infoN Tryz.underlying26 rfl (.tmp 16) (.tmp 18) rfl w.heap.size _ us ⟨o, y.data.toList, i, j, a, l, q, p⟩ _ rfl ho5 rfl (by omega) (by simp only [maxLen]; omega) hb5 _ HCC.out ?_; intro v4 w4 ho4 hb4 hm4 ht4)
        have hlo : ∀ g, u4.ownBlock = some g → g < wr.heap.size := fun g hg => (World.ownsRow.lt HI.out.own g hg).2
        have hq4 : ∀ g, g < wr.heap.size → u4.ownBlock ≠ some g → v4.ownBlock ≠ some g := by
          intro g hg hne e
          rcases hm4 with q | q
          · exact hne (q ▸ e)
          · have := q g e
            have := H5.out.2.2.2.2.1.size
            have := H5.out.2.2.2.2.2.2.1
            omega
        have hq5 : ∀ g, wr.heap.size ≤ g → g < w3.heap.size → v4.ownBlock ≠ some g := by
          intro g hg hg3 e
          have := H5.out.2.2.2.2.1.size
          rcases hm4 with q | q
          · have := hlo g (q ▸ e)
            omega
          · have := q g e
            omega
        have hs4 := ht4.size
        have H6 : Hid (Rst w4 b ao n c ts k3 ∧ Tn b w w4 ∧ OwnG encN 28 w4 w.heap.size v4 (us ++ [(⟨o, y.data.toList, i, j, a, l, q, p⟩ : NV)]) ∧ NdsIn (fun g => w.heap.size ≤ g ∧ g < w4.heap.size ∧ v4.ownBlock ≠ some g) w4 us ks ∧
            (∀ x, NdIn (Bt wr.heap.size w3.heap.size) w3 ⟨o, y.data.toList, i, j, a, l, q, p⟩ x → NdIn (fun g => w.heap.size ≤ g ∧ g < w4.heap.size ∧ v4.ownBlock ≠ some g) w4 ⟨o, y.data.toList, i, j, a, l, q, p⟩ x)) := by
          have z5 := H5.out.2.2.2.2.1.size
          have z3 := H5.out.2.2.2.2.2.2.1
          have z0 := H5.out.2.2.2.2.2.2.2
          refine ⟨H5.out.1.above (turnB hb4) (fun g hg => by omega), H5.out.2.1.belowB hb4 (Nat.le_refl _), ho4, ?_, ?_⟩
          · exact (H5.out.2.2.1.turned ht4 (fun g hg e => hg.2.2 e)).mono (fun g hg => ⟨hg.1, by have := hg.2.1; omega, hq4 g hg.2.1 hg.2.2⟩)
          · intro x hx
            exact ((hx.below H5.out.2.2.2.2.1).turned ht4 (fun g hg e => by have := hlo g e; have := hg.1; omega)).mono (fun g hg => ⟨by have := hg.1; omega, by have := hg.2; omega, hq5 g hg.1 hg.2⟩)
        clear ho4 hb4 hm4 ht4 hlo hq4 hq5 hs4 ho5 hb5 HCC d0 d1 d2 d3 d4 d5
        have hk23 := H5.out.2.2.2.2.2.1
        by_cases h44 : hd (sB [44]) (ts.drop k3) = true
        · have hpy := pass_yes [44] w4 H6.out.1 h44
          have H44 : Hid (hd (sB [44]) (ts.drop k3) = true) := h44
          clear h44
          refine hpy.mono ?_
          rintro e w7 ⟨rfl, hR7, hT7⟩
          have H7 : Hid (Rst w7 b ao n c ts (k3 + 1) ∧ Tn b w4 w7) := ⟨hR7, hT7⟩
          clear hR7 hT7 hpy
          go_wp2_with fail
          go_roundg (n + 1 - (k3 + 1))
          case measure => have := H6.out.1.le; omega
          case rel =>
            obtain ⟨nd, hg, hn⟩ : ∃ nd, Gm E (.row 1) (ts.drop k2) (.ok nd (ts.drop k3)) ∧ NdIn (Bt wr.heap.size w3.heap.size) w3 ⟨o, y.data.toList, i, j, a, l, q, p⟩ nd := by
              rcases H5.out.2.2.2.1 with ⟨nd, _, h1, h2⟩ | ⟨_, h2⟩
              · exact ⟨nd, h1, h2⟩
              · have := H44.out
                rw [num_sB (h2 rfl)] at this
                cases this
            have hdr := drop_hd H44.out
            have hsb := hd_of_pk (by simp [sB, tk0]) H44.out
            refine ⟨k3 + 1, us ++ [(⟨o, y.data.toList, i, j, a, l, q, p⟩ : NV)], ks ++ [nd], rfl, ?_, ?_, H7.out.1, H6.out.2.1.trans H7.out.2, by have := HI.out.le; omega, ?_, ?_, ?_⟩
            · exact H6.out.2.2.1.stay H7.out.2 (fun g hg e => by have := (World.ownsRow.lt H6.out.2.2.1 g hg).1; omega)
            · have hm := (H6.out.2.2.2.1.snoc (H6.out.2.2.2.2 nd hn)).turned H7.out.2 (fun g hg e => by have := hg.1; omega)
              exact hm.mono (fun g hg => ⟨hg.1, by have := hg.2.1; have := H7.out.2.size; omega, hg.2.2⟩)
            · have := HI.out.few
              rw [List.length_append, List.length_singleton]
              omega
            · intro x r o2 h2 h3
              exact HI.out.go nd _ o2 hg (by rw [hdr]; exact .arg hsb h2 h3)
            · intro p2 h2
              exact HI.out.go nd _ _ hg (by rw [hdr]; exact .argE hsb h2)
        · have h44' : hd (sB [44]) (ts.drop k3) = false := by simpa using h44
          have hpn := pass_no [44] w4 H6.out.1 h44'
          have H44 : Hid (hd (sB [44]) (ts.drop k3) = false) := h44'
          clear h44 h44'
          refine hpn.mono ?_
          rintro e w7 ⟨rfl, b7⟩
          have H7 : Hid (Rst w7 b ao n c ts k3 ∧ Tn b w w7 ∧ Below w4.heap.size w4 w7) := ⟨H6.out.1.below b7, H6.out.2.1.trans (Tn.of b7), b7⟩
          clear b7 hpn
          obtain ⟨oa, oq, hv4, hle4, _, hrd4, hnn4⟩ := H6.out.2.2.1.form
          by_cases h41 : hd (sB [41]) (ts.drop k3) = true
          · have hpy := pass_yes [41] w7 H7.out.1 h41
            have H41 : Hid (hd (sB [41]) (ts.drop k3) = true) := h41
            clear h41
            have HV : Hid (v4 = .slice oa (us ++ [(⟨o, y.data.toList, i, j, a, l, q, p⟩ : NV)]).length oq ∧ (us ++ [(⟨o, y.data.toList, i, j, a, l, q, p⟩ : NV)]).length ≤ oq ∧ RdG encN w4 oa (us ++ [(⟨o, y.data.toList, i, j, a, l, q, p⟩ : NV)]) ∧ (0 < (us ++ [(⟨o, y.data.toList, i, j, a, l, q, p⟩ : NV)]).length → ∃ g, oa = some ⟨g, 0, none⟩)) := ⟨hv4, hle4, hrd4, hnn4⟩
            clear hv4 hle4 hrd4 hnn4
            go_wp2_with fail
            refine hpy.mono ?_
            rintro e w8 ⟨rfl, hR8, hT8⟩
            have H8 : Hid (Rst w8 b ao n c ts (k3 + 1) ∧ Tn b w7 w8) := ⟨hR8, hT8⟩
            clear hR8 hT8 hpy
            go_wp2_with fail
            go_ret2
            obtain ⟨nd, hg, hn⟩ : ∃ nd, Gm E (.row 1) (ts.drop k2) (.ok nd (ts.drop k3)) ∧ NdIn (Bt wr.heap.size w3.heap.size) w3 ⟨o, y.data.toList, i, j, a, l, q, p⟩ nd := by
              rcases H5.out.2.2.2.1 with ⟨nd, _, h1, h2⟩ | ⟨_, h2⟩
              · exact ⟨nd, h1, h2⟩
              · have := H41.out
                rw [num_sB (h2 rfl)] at this
                cases this
            have hdr := drop_hd H41.out
            have hsb := hd_of_pk (by simp [sB, tk0]) H41.out
            have hlt4 : ∀ ad, oa = some ad → w.heap.size ≤ ad.block ∧ ad.block < w4.heap.size := by
              intro ad ha
              have := World.ownsRow.lt H6.out.2.2.1 ad.block (by have h9 : OwnG encN _ w4 _ v4 _ := H6.out.2.2.1; rw [HV.out.1] at h9 ⊢; rw [ha] at h9 ⊢; exact own_at_head h9 rfl)
              exact this
            refine ⟨oa, (us ++ [(⟨o, y.data.toList, i, j, a, l, q, p⟩ : NV)]).length, oq, true, k3 + 1, by rw [HV.out.1]; rfl, by have := HI.out.le; omega, H8.out.1, H7.out.2.1.trans H8.out.2, .inl ⟨ks ++ [nd], _, rfl, HI.out.go nd _ _ hg (by rw [hdr]; exact .close hsb), ?_, ?_, rfl, HV.out.2.1, ?_⟩⟩
            · exact (HV.out.2.2.1.below H7.out.2.2).turnN H8.out.2 (fun _ ad ha => by have := (hlt4 ad ha).1; omega)
            · have hm := ((H6.out.2.2.2.1.snoc (H6.out.2.2.2.2 nd hn)).stays H7.out.2.2).turned H8.out.2 (fun g hg e => by have := hg.1; omega)
              exact hm.mono (fun g hg => ⟨hg.1, by have := hg.2.1; have := H7.out.2.2.size; have := H8.out.2.size; omega⟩)
            · intro _ ad ha
              have := hlt4 ad ha
              have := H7.out.2.2.size
              have := H8.out.2.size
              exact ⟨by omega, by omega⟩
          · have h41' : hd (sB [41]) (ts.drop k3) = false := by simpa using h41
            have hpn := pass_no [41] w7 H7.out.1 h41'
            have H41 : Hid (hd (sB [41]) (ts.drop k3) = false) := h41'
            clear h41 h41'
            have HV : Hid (v4 = .slice oa (us ++ [(⟨o, y.data.toList, i, j, a, l, q, p⟩ : NV)]).length oq) := hv4
            clear hv4 hle4 hrd4 hnn4
            go_wp2_with fail
            refine hpn.mono ?_
            rintro e w8 ⟨rfl, b8⟩
            have H8 : Hid (Rst w8 b ao n c ts k3 ∧ Tn b w w8) := ⟨H7.out.1.below b8, H7.out.2.1.trans (Tn.of b8)⟩
            clear b8 hpn
            go_wp2_with fail
            go_ret2
            refine ⟨oa, (us ++ [(⟨o, y.data.toList, i, j, a, l, q, p⟩ : NV)]).length, oq, false, k3, by rw [HV.out]; rfl, by have := HI.out.le; omega, H8.out.1, H8.out.2, .inr ⟨rfl, ?_⟩⟩
            rcases H5.out.2.2.2.1 with ⟨nd, _, h1, h2⟩ | ⟨h1, _⟩
            · exact HI.out.go nd _ _ h1 (.closeE H44.out H41.out)
            · exact HI.out.no _ h1

end Go.Proofs.YtijchmcajhdcoaaGreatDoor
