/-
  The law DiffApplies, walked: of a list of lines and a list of hunks it returns true, and what was there when it was called is as it was. At most 3,000,000 lines, gone lines and new lines.
-/
import Derived.Test.YtmblkkmfbgngdaaTwo
namespace Go.Proofs.Ytmblkkmfbgngdaa
open Go.RowKit

theorem ans_len {xs l : List Bs} {hs : List Hk} {ee : Int} (h : ans xs hs = (l, ee)) : l.length ≤ 256 := by
  unfold ans at h
  split at h
  · cases h; simp
  · split at h
    · cases h; simp
    · split at h
      · cases h; simp
      · cases h; omega

/-- The round's end: both lists have one hunk more. -/
theorem two_end {w1 w3 w7 w8 : World} {us ws : List HV} {Hl Hi : List Hk} {lv iv iv' : Value} {za zb : Int} {a5 a7 : Option Addr} {gl c5 nl c7 : Nat} {gone new : List Bs} {o : Obj} (h : AJ w1 w3.drew us ws Hl Hi lv iv) (h1 : Own w7 w3.heap.size (.slice a5 gl c5) gone) (h2 : Own w7 w3.heap.size (.slice a7 nl c7) new) (h3 : Below w3.heap.size w3.drew w7) (hg : gone.length = gl) (hn : new.length = nl)
    (ho : OwnG encH 46 w8 w1.heap.size iv' (ws ++ [⟨za, zb, a5, gl, c5, a7, nl, c7⟩])) (hm : Moved (w7.alloc o) iv iv') (ht : Turned (fun k => iv.ownBlock = some k) (w7.alloc o) w8) : AJ w1 w8 us (ws ++ [⟨za, zb, a5, gl, c5, a7, nl, c7⟩]) Hl (Hi ++ [⟨za, zb, gone, new⟩]) lv iv' := by
  have rd : ∀ {a : Option Addr} {n c : Nat} {l : List Bs}, Own w7 w3.heap.size (.slice a n c) l → Rd w7 a l := by
    intro a n c l hO
    obtain ⟨a', c', e, _, _, R⟩ := hO.form
    cases e
    exact R
  have far : ∀ {a : Option Addr} {n c : Nat} {l : List Bs}, Own w7 w3.heap.size (.slice a n c) l → ∀ x, a = some x → ¬ (lv.ownBlock = some x.block ∨ iv.ownBlock = some x.block) := by
    intro a n c l hO x hx q
    have hb : w3.heap.size ≤ x.block := (hO.lt x.block (by rw [hx]; exact own_at_head hO (by rw [hx]))).1
    rcases q with q | q
    · have : x.block < w3.heap.size := (h.ol.lt _ q).2
      omega
    · have : x.block < w3.heap.size := (h.oi.lt _ q).2
      omega
  exact ((h.below h3).below (bz1 w7 o)).addi ⟨rfl, rfl, hg, hn, (rd h1).below (bz1 w7 o), (rd h2).below (bz1 w7 o)⟩ (fun _ => far h1) (fun _ => far h2) ho hm ht

set_option maxHeartbeats 6400000 in
set_option maxRecDepth 100000 in
theorem applies_walk (ao ho : Option Addr) (n c K d : Nat) (xs : List Bs) (vs : List HV) (hs : List Hk) (W : World) (hl : xs.length = n) (hc : n ≤ c) (ha : Rd W ao xs) (hv : RdG encH W ho vs) (hh : Hks W vs hs) (hK : hs.length = K) (hK1 : K ≤ 4000000000000000000) (hT : n + tot hs ≤ 3000000) (hG : ∀ h ∈ hs, h.gone.length ≤ 3000000 ∧ h.new.length ≤ 3000000) :
    Calls Try.prog 6 #[.slice ao n c, .slice ho K d] W fun e w' => e = .returned (.bool true) ∧ Below W.heap.size W w' := by
  obtain ⟨l, ee, hz⟩ : ∃ l ee, ans xs hs = (l, ee) := ⟨_, _, rfl⟩
  have H : Hid (Rd W ao xs ∧ xs.length = n ∧ n ≤ c ∧ RdG encH W ho vs ∧ Hks W vs hs ∧ hs.length = K ∧ ans xs hs = (l, ee) ∧ n + tot hs ≤ 3000000 ∧ ∀ h ∈ hs, h.gone.length ≤ 3000000 ∧ h.new.length ≤ 3000000) := ⟨ha, hl, hc, hv, hh, hK, hz, hT, hG⟩
  have hn : n ≤ 3000000 := by omega
  clear ha hl hc hv hh hK hz hT hG
  go_enter Try.func6, Try.ntmps6
  go_wp2_with fail
  refine (awake_any _).mono ?_
  rintro e w1 ⟨rfl, hb1⟩
  have B1 : Hid (Below W.heap.size W w1) := hb1
  clear hb1
  by_cases hbig : 300 < K
  · have hb2 : (300 : Int) < (K : Int) := by omega
    go_wp2
    go_ret
    exact ⟨rfl, B1.out⟩
  · have hb2 : decide ((300 : Int) < (K : Int)) = false := decide_eq_false (by omega)
    go_wp2_with fail
    go_loopg [5, 6, 7, 8] K (fun k lv iv jv _ wr => ∃ (i : Nat) (us ws : List HV), jv = .int .i64 i ∧ i + k = K ∧ Hid (us.length = i ∧ ws.length = i ∧ AJ w1 wr us ws (hs.take i) (hs.take i) lv iv))
    case atStart => exact ⟨0, [], [], rfl, by omega, rfl, rfl, AJ.start w1⟩
    case round =>
      obtain ⟨i, us, ws, rfl, hi, HR⟩ := hrel
      by_cases hin : i < K
      · have id : (i : Int) < (K : Int) := by omega
        obtain ⟨v, h, e1, e2, hk⟩ := H.out.2.2.2.2.1.get (i := i) (by rw [H.out.2.2.2.2.2.1]; exact hin)
        obtain ⟨b, off, rfl, hlt⟩ := H.out.2.2.2.1.some_of e1
        obtain ⟨c1, c2, c3, c4⟩ := H.out.2.2.2.1.hunk e1
        have bw : Below W.heap.size W wr := B1.out.trans (HR.out.2.2.bel.mono B1.out.size)
        have k1 := (bw.cell (p := ⟨b, off + i * 4, none⟩) hlt).trans c1
        have k2 := (bw.cell (p := ⟨b, off + i * 4 + 1, none⟩) hlt).trans c2
        have k3 := (bw.cell (p := ⟨b, off + i * 4 + 2, none⟩) hlt).trans c3
        have k4 := (bw.cell (p := ⟨b, off + i * 4 + 3, none⟩) hlt).trans c4
        obtain ⟨za, zb, ga, gl, gc, na, nl, nc⟩ := v
        obtain ⟨ya, yb, gone, new⟩ := h
        have q1 := hk.a
        have q2 := hk.b
        simp only at q1 q2 k1 k2 k3 k4
        subst q1 q2
        have hlo := H.out.2.2.2.2.2.2.2.2 _ (List.mem_of_getElem? e2)
        simp only at hlo
        have TK : Hid (hs.take (i + 1) = hs.take i ++ [⟨za, zb, gone, new⟩] ∧ gone.length = gl ∧ new.length = nl ∧ Rd W ga gone ∧ Rd W na new) := by
          refine ⟨?_, hk.gl, hk.nl, hk.rg, hk.rn⟩
          rw [List.take_add_one, e2]
          rfl
        have hgl : gl ≤ 3000000 := by rw [← TK.out.2.1]; exact hlo.1
        have hnl : nl ≤ 3000000 := by rw [← TK.out.2.2.1]; exact hlo.2
        clear e1 e2 hk c1 c2 c3 c4 bw hlo
        go_upto_region 11 with fail
        obtain ⟨wE, hwE⟩ : ∃ wE, wE = wr.alloc (.cells #[.int .i64 za, .int .i64 zb, .slice ga gl gc, .slice na nl nc] 46) := ⟨_, rfl⟩
        obtain ⟨Bh, hBh⟩ : ∃ Bh, wr.heap.size = Bh := ⟨_, rfl⟩
        have bE : Below wr.heap.size wr wE := by rw [hwE]; exact (Below.refl _ wr).alloc (Nat.le_refl _) _
        have J : Hid (AJ w1 wE us ws (hs.take i) (hs.take i) u5 u6 ∧ HunkAt wE Bh 46 za zb (.slice ga gl gc) (.slice na nl nc) ∧ (∀ k, u5.ownBlock = some k → k ≠ Bh) ∧ (∀ k, u6.ownBlock = some k → k ≠ Bh) ∧ w1.heap.size ≤ Bh) := by
          refine ⟨HR.out.2.2.below bE, by rw [hwE, ← hBh]; exact HunkAt.new wr 46 za zb _ _, fun k hk => ?_, fun k hk => ?_, by rw [← hBh]; exact HR.out.2.2.bel.size⟩
          · have := (HR.out.2.2.ol.lt k hk).2
            omega
          · have := (HR.out.2.2.oi.lt k hk).2
            omega
        rw [← hwE, hBh]
        clear hwE hBh bE k1 k2 k3 k4
        obtain ⟨k1, k2, k3, k4⟩ := J.out.2.1.cells
        go_wp2_with (at_builtin; refine appG_one encH 47 34 64 _ rfl info47 Try.underlying34 rfl (.tmp 30) (.tmp 40) rfl w1.heap.size _ us ⟨za, zb, ga, gl, gc, na, nl, nc⟩ _ rfl J.out.1.ol rfl (by have := HR.out.1; omega) (by have := HR.out.1; simp only [maxLen]; omega) J.out.1.bel.size _ rfl ?_; intro v3 w3 ho3 hb3 hm3 ht3)
        have oldB : ∀ u : World, Below w1.heap.size w1 u → Below W.heap.size W u := fun u hu => B1.out.trans (hu.mono B1.out.size)
        have A3 : AJ w1 w3 (us ++ [⟨za, zb, ga, gl, gc, na, nl, nc⟩]) ws (hs.take (i + 1)) (hs.take i) v3 u6 := by
          rw [TK.out.1]
          refine J.out.1.addl ⟨rfl, rfl, TK.out.2.1, TK.out.2.2.1, TK.out.2.2.2.1.below (oldB _ J.out.1.bel), TK.out.2.2.2.2.below (oldB _ J.out.1.bel)⟩ (fun h0 a ha q => ?_) (fun h0 a ha q => ?_) ho3 hm3 ht3
          · obtain ⟨b', o', e, hlt', _⟩ := TK.out.2.2.2.1 h0
            simp only at ha
            rw [ha] at e
            cases e
            have q' : w1.heap.size ≤ b' := q
            have := B1.out.size
            omega
          · obtain ⟨b', o', e, hlt', _⟩ := TK.out.2.2.2.2 h0
            simp only at ha
            rw [ha] at e
            cases e
            have q' : w1.heap.size ≤ b' := q
            have := B1.out.size
            omega
        have J3 : Hid (AJ w1 w3.drew (us ++ [⟨za, zb, ga, gl, gc, na, nl, nc⟩]) ws (hs.take (i + 1)) (hs.take i) v3 u6 ∧ HunkAt w3.drew Bh 46 za zb (.slice ga gl gc) (.slice na nl nc) ∧ Rd w3.drew ga gone ∧ Rd w3.drew na new ∧ (∀ k, u6.ownBlock = some k → k ≠ Bh)) := by
          have bd : Below w3.heap.size w3 w3.drew := (Below.refl _ w3).drew
          have h3 : HunkAt w3 Bh 46 za zb (.slice ga gl gc) (.slice na nl nc) := J.out.2.1.turned ht3 (fun q => J.out.2.2.1 _ q rfl)
          exact ⟨A3.below bd, h3.below bd, TK.out.2.2.2.1.below (oldB _ (A3.below bd).bel), TK.out.2.2.2.2.below (oldB _ (A3.below bd).bel), J.out.2.2.2.1⟩
        clear ho3 hb3 hm3 ht3 A3 k1 k2 k3 k4 oldB
        obtain ⟨k1, k2, k3, k4⟩ := J3.out.2.1.cells
        have hlt3 : Bh < w3.heap.size := J3.out.2.1.lt
        have k1' : w3.cell? ⟨Bh, 0, none⟩ = some (.int .i64 za) := k1
        have k2' : w3.cell? ⟨Bh, 1, none⟩ = some (.int .i64 zb) := k2
        have k3' : w3.cell? ⟨Bh, 2, none⟩ = some (.slice ga gl gc) := k3
        have k4' : w3.cell? ⟨Bh, 3, none⟩ = some (.slice na nl nc) := k4
        clear k1 k2 k3 k4
        go_wp2_with fail
        go_region_held3 (fun u => u.cell? ⟨Bh, 0, none⟩ = some (.int .i64 za) ∧ u.cell? ⟨Bh, 1, none⟩ = some (.int .i64 zb) ∧ u.cell? ⟨Bh, 2, none⟩ = some (.slice ga gl gc) ∧ u.cell? ⟨Bh, 3, none⟩ = some (.slice na nl nc)) (go_keep)
          (first
            | (refine stepG_at encH 46 31 64 _ rfl info46 Try.underlying31 rfl (.tmp 42) (.tmp 56) rfl w1.heap.size _ ws ⟨za, zb, a5, gl, c5, a7, nl, c7⟩ rfl ((J3.out.1.below J7.out.2.2).oi.below (bz1 w7 _)) w7.heap.size rfl (cells_new encH w7 ⟨za, zb, a5, gl, c5, a7, nl, c7⟩ 46) (by have := HR.out.2.1; omega) (by have := HR.out.2.1; simp only [maxLen]; omega) (Nat.le_trans (J3.out.1.below J7.out.2.2).bel.size (by simp)) ?_; intro v8 w8 ho8 hb8 hm8 ht8; have J8 : Hid _ := And.intro ho8 (And.intro hm8 ht8); have P8 : Hid (HunkAt w8 Bh 46 za zb (.slice ga gl gc) (.slice na nl nc)) := ((J3.out.2.1.below J7.out.2.2).below (bz1 w7 _)).turned ht8 (fun q => J3.out.2.2.2.2 _ q rfl); clear ho8 hb8 hm8 ht8; have k8 := P8.out.cells)
            | (refine stepL_at rfl (.tmp 51) (.tmp 53) rfl w3.heap.size _ [] new na nl nc rfl T51.out.1 rfl (J3.out.2.2.2.1.below J5.out.2) TK.out.2.2.1 (by simp; omega) J5.out.2.size ?_; intro v7 w7 ho7 hb7 hm7 ht7; rw [List.nil_append] at ho7; obtain ⟨a7, c7, e7, _, _, _⟩ := ho7.form; rw [TK.out.2.2.1] at e7; subst e7; have J7 : Hid (Own w7 w3.heap.size (.slice a5 gl c5) gone ∧ Own w7 w3.heap.size (.slice a7 nl c7) new ∧ Below w3.heap.size w3.drew w7) := ⟨J5.out.1.stays ht7 (fun g hg q => T51.out.2 g q hg), ho7, J5.out.2.trans hb7⟩; clear ho7 hb7 hm7 ht7; have k7 := (J3.out.2.1.below J7.out.2.2).cells; have l7 := (J3.out.2.1.below J7.out.2.2).lt)
            | (refine stepL_at rfl (.tmp 51) (.tmp 53) rfl w3.heap.size _ [] new na nl nc rfl (own_base (oz1 w5) J5.out.2.size) rfl ((J3.out.2.2.2.1.below J5.out.2).below (bz1 w5 _)) TK.out.2.2.1 (by simp; omega) (Nat.le_trans J5.out.2.size (by simp)) ?_; intro v7 w7 ho7 hb7 hm7 ht7; rw [List.nil_append] at ho7; obtain ⟨a7, c7, e7, _, _, _⟩ := ho7.form; rw [TK.out.2.2.1] at e7; subst e7; have J7 : Hid (Own w7 w3.heap.size (.slice a5 gl c5) gone ∧ Own w7 w3.heap.size (.slice a7 nl c7) new ∧ Below w3.heap.size w3.drew w7) := ⟨(J5.out.1.below (bz1 w5 _)).stays ht7 (fun g hg q => by have h1 := (J5.out.1.lt g hg).2; have h2 : some w5.heap.size = some g := q; cases h2; omega), ho7, (J5.out.2.trans ((bz1 w5 _).mono J5.out.2.size)).trans hb7⟩; clear ho7 hb7 hm7 ht7; have k7 := (J3.out.2.1.below J7.out.2.2).cells; have l7 := (J3.out.2.1.below J7.out.2.2).lt)
            | (refine stepL_at rfl (.tmp 47) (.tmp 49) rfl w3.heap.size _ [] gone ga gl gc rfl (oz1 w3.drew) rfl (J3.out.2.2.1.below (bz1 w3.drew _)) TK.out.2.1 (by simp; omega) (by simp) ?_; intro v5 w5 ho5 hb5 hm5 ht5; rw [List.nil_append] at ho5; obtain ⟨a5, c5, e5, _, _, _⟩ := ho5.form; rw [TK.out.2.1] at e5; subst e5; have J5 : Hid (Own w5 w3.heap.size (.slice a5 gl c5) gone ∧ Below w3.heap.size w3.drew w5) := ⟨ho5, (bz1 w3.drew _).trans hb5⟩; clear ho5 hb5 hm5 ht5; have k5 := (J3.out.2.1.below J5.out.2).cells; have l5 := (J3.out.2.1.below J5.out.2).lt)
            | (refine stepL_at rfl (.tmp 47) (.tmp 49) rfl w3.heap.size _ [] gone ga gl gc rfl (oz2 w3.drew (.cells #[] 9)) rfl (J3.out.2.2.1.below (bz2 w3.drew _ _)) TK.out.2.1 (by simp; omega) (by simp; omega) ?_; intro v5 w5 ho5 hb5 hm5 ht5; rw [List.nil_append] at ho5; obtain ⟨a5, c5, e5, _, _, _⟩ := ho5.form; rw [TK.out.2.1] at e5; subst e5; have J5 : Hid (Own w5 w3.heap.size (.slice a5 gl c5) gone ∧ Below w3.heap.size w3.drew w5) := ⟨ho5, (bz2 w3.drew _ _).trans hb5⟩; have T51 : Hid (Own w5 w3.heap.size (.slice (some ⟨w3.heap.size + 1, 0, none⟩) 0 0) [] ∧ ∀ k, (Value.slice (some ⟨w3.heap.size + 1, 0, none⟩) 0 0).ownBlock = some k → ¬ (Value.slice a5 gl c5).ownBlock = some k) := ⟨(oz3 w3.drew (.cells #[] 9)).stays ht5 (fun g hg q => by have h1 : some (w3.heap.size + 1) = some g := hg; have h2 : some w3.heap.size = some g := q; cases h1; simp at h2), fun k hk q => by have h1 : some (w3.heap.size + 1) = some k := hk; cases h1; rcases hm5 with e | e; exact (by rw [e] at q; have h2 : some w3.heap.size = some (w3.heap.size + 1) := q; simp at h2); exact (by have := e _ q; simp at this; have h9 : w3.drew.heap.size = w3.heap.size := rfl; omega)⟩; clear ho5 hb5 hm5 ht5; have k5 := (J3.out.2.1.below J5.out.2).cells; have l5 := (J3.out.2.1.below J5.out.2).lt)
            | (refine stepL_at rfl (.tmp 47) (.tmp 49) rfl w3.heap.size _ [] gone ga gl gc rfl (oz3 w3.drew (.cells #[] 9)) rfl (J3.out.2.2.1.below (bz2 w3.drew _ _)) TK.out.2.1 (by simp; omega) (by simp; omega) ?_; intro v5 w5 ho5 hb5 hm5 ht5; rw [List.nil_append] at ho5; obtain ⟨a5, c5, e5, _, _, _⟩ := ho5.form; rw [TK.out.2.1] at e5; subst e5; have J5 : Hid (Own w5 w3.heap.size (.slice a5 gl c5) gone ∧ Below w3.heap.size w3.drew w5) := ⟨ho5, (bz2 w3.drew _ _).trans hb5⟩; have T51 : Hid (Own w5 w3.heap.size (.slice (some ⟨w3.heap.size, 0, none⟩) 0 0) [] ∧ ∀ k, (Value.slice (some ⟨w3.heap.size, 0, none⟩) 0 0).ownBlock = some k → ¬ (Value.slice a5 gl c5).ownBlock = some k) := ⟨(oz2 w3.drew (.cells #[] 9)).stays ht5 (fun g hg q => by have h1 : some w3.heap.size = some g := hg; have h2 : some (w3.heap.size + 1) = some g := q; cases h1; simp at h2), fun k hk q => by have h1 : some w3.heap.size = some k := hk; cases h1; rcases hm5 with e | e; exact (by rw [e] at q; have h2 : some (w3.heap.size + 1) = some w3.heap.size := q; simp at h2); exact (by have := e _ q; simp at this; have h9 : w3.drew.heap.size = w3.heap.size := rfl; omega)⟩; clear ho5 hb5 hm5 ht5; have k5 := (J3.out.2.1.below J5.out.2).cells; have l5 := (J3.out.2.1.below J5.out.2).lt))
        all_goals
          go_wp2
          go_roundg (gk - 1)
          case measure => omega
          case rel =>
            refine ⟨i + 1, us ++ [⟨za, zb, ga, gl, gc, na, nl, nc⟩], ws ++ [⟨za, zb, a5, gl, c5, a7, nl, c7⟩], by go_num, by omega, by have := HR.out.1; simp; omega, by have := HR.out.2.1; simp; omega, ?_⟩
            have A8 := two_end J3.out.1 J7.out.1 J7.out.2.1 J7.out.2.2 TK.out.2.1 TK.out.2.2.1 J8.out.1 J8.out.2.1 J8.out.2.2
            rw [← TK.out.1] at A8
            exact A8
      · obtain rfl : i = K := by omega
        have htk : hs.take i = hs := List.take_of_length_le (by rw [H.out.2.2.2.2.2.1]; omega)
        rw [htk] at HR
        obtain ⟨a5, c5, rfl, _, _, R5, _⟩ := HR.out.2.2.ol.form
        obtain ⟨a6, c6, rfl, _, _, R6, _⟩ := HR.out.2.2.oi.form
        have G : Hid (us.length = i ∧ ws.length = i ∧ Below W.heap.size W wr ∧ RdG encH wr a5 us ∧ Hks wr us hs ∧ RdG encH wr a6 ws ∧ Hks wr ws hs) := ⟨HR.out.1, HR.out.2.1, B1.out.trans (HR.out.2.2.bel.mono B1.out.size), R5, HR.out.2.2.kl, R6, HR.out.2.2.ki⟩
        rw [G.out.1, G.out.2.1]
        clear HR htk R5 R6
        go_wp2_with (at_builtin; refine app_list rfl (.tmp 58) (.tmp 59) rfl wr.heap.size _ [] xs ao n c rfl (oz1 wr) rfl ((H.out.1.below G.out.2.2.1).below (bz1 wr _)) H.out.2.1 (by simp; omega) (by simp) ?_; intro v9 w9 hown9 hbel9; rw [List.nil_append] at hown9; obtain ⟨a9, c9, e9, hc9, _, R9⟩ := hown9.form; rw [H.out.2.1] at e9 hc9; subst e9)
        have G9 : Hid (Below W.heap.size W w9 ∧ RdG encH w9 a5 us ∧ Hks w9 us hs ∧ RdG encH w9 a6 ws ∧ Hks w9 ws hs ∧ Rd w9 a9 xs ∧ n ≤ c9) := by
          have b := (bz1 wr (.cells #[] 9)).trans hbel9
          exact ⟨G.out.2.2.1.trans (b.mono G.out.2.2.1.size), G.out.2.2.2.1.below b, G.out.2.2.2.2.1.below b, G.out.2.2.2.2.2.1.below b, G.out.2.2.2.2.2.2.below b, R9, hc9⟩
        clear hown9 hbel9 R9 hc9
        refine (apply_any (c := c9) (d := c6) w9 G9.out.2.2.2.2.2.1 H.out.2.1 G9.out.2.2.2.2.2.2 G9.out.2.2.2.1 G9.out.2.2.2.2.1 H.out.2.2.2.2.2.1 (by omega) (by have := H.out.2.2.2.2.2.2.2.1; omega) _ _ H.out.2.2.2.2.2.2.1).mono ?_
        rintro e w10 ⟨v10, rfl, ho10, hb10⟩
        obtain ⟨a10, c10, rfl, _, _, R10⟩ := ho10.form
        obtain ⟨L, hL⟩ : ∃ L, l.length = L := ⟨_, rfl⟩
        have hL2 : L ≤ 256 := by rw [← hL]; exact ans_len H.out.2.2.2.2.2.2.1
        rw [hL] at ho10 ⊢
        have G10 : Hid (Below w9.heap.size w9 w10 ∧ Own w10 w9.heap.size (.slice a10 L c10) l ∧ Rd w10 a10 l ∧ l.length = L) := ⟨hb10, ho10, R10, hL⟩
        clear ho10 hb10 R10 hL
        go_wp2_with fail
        refine (rapply_any (c := c) (d := c5) w10 (H.out.1.below (G9.out.1.trans (G10.out.1.mono G9.out.1.size))) H.out.2.1 (G9.out.2.1.below G10.out.1) (G9.out.2.2.1.below G10.out.1) H.out.2.2.2.2.2.1 (by omega) H.out.2.2.2.2.2.2.2.1 _ _ H.out.2.2.2.2.2.2.1).mono ?_
        rintro e w11 ⟨v11, rfl, ho11, hb11⟩
        obtain ⟨a11, c11, rfl, _, _, R11⟩ := ho11.form
        rw [G10.out.2.2.2]
        have G11 : Hid (Below w9.heap.size w9 w11 ∧ Own w11 w9.heap.size (.slice a10 L c10) l ∧ Rd w11 a10 l ∧ Rd w11 a11 l) := ⟨G10.out.1.trans (hb11.mono G10.out.1.size), G10.out.2.1.below hb11, G10.out.2.2.1.below hb11, R11⟩
        have hLL : Hid (l.length = L) := G10.out.2.2.2
        clear ho11 hb11 R11 G10
        go_wp2_with fail
        refine (same_any (c := c10) (d := c11) w11 G11.out.2.2.1 G11.out.2.2.2 hLL.out hLL.out (by omega) true (by simp)).mono ?_
        rintro e w12 ⟨rfl, q12, rfl⟩
        have hlo : Hid (∀ h ∈ hs, h.gone.length ≤ 4000000000000000000 ∧ h.new.length ≤ 4000000000000000000) := by
          intro h hm
          have := H.out.2.2.2.2.2.2.2.2 h hm
          omega
        have b12 := below_drewN G11.out.1 q12
        go_wp2_with fail
        refine (hsame_any (c := c6) (d := c5) (w11.drewN q12) (G9.out.2.2.2.1.below b12) (G9.out.2.1.below b12) (G9.out.2.2.2.2.1.below b12) (G9.out.2.2.1.below b12) H.out.2.2.2.2.2.1 (by omega) hlo.out).mono ?_
        rintro e w13 ⟨rfl, q13, rfl⟩
        obtain ⟨w14, hw14⟩ : ∃ w14, w14 = (w11.drewN q12).drewN q13 := ⟨_, rfl⟩
        have G14 : Hid (Below w9.heap.size w9 w14 ∧ Own w14 w9.heap.size (.slice a10 L c10) l) := by
          rw [hw14]
          exact ⟨below_drewN b12 q13, (G11.out.2.1.below (below_drewN (Below.refl _ _) q12)).below (below_drewN (Below.refl _ _) q13)⟩
        rw [← hw14]
        clear hw14 b12 G11
        go_wp2_with fail
        go_loopg [14] L (fun k jv wq => ∃ (j : Nat) (ls : List Bs), jv = .int .i64 j ∧ j + k = L ∧ Hid (ls.length = L ∧ Own wq w9.heap.size (.slice a10 L c10) ls ∧ Below w9.heap.size w9 wq))
        case atStart => exact ⟨0, l, rfl, by omega, hLL.out, G14.out.2, G14.out.1⟩
        case round =>
          obtain ⟨j, ls, rfl, hj, HL⟩ := hrel
          by_cases hjn : j < L
          · have jd : (j : Int) < (L : Int) := by omega
            obtain ⟨g, rfl⟩ : ∃ g, a10 = some ⟨g, 0, none⟩ := by
              obtain ⟨a, c, e, _, _, h⟩ := own_form HL.out.2.1
              cases e
              exact h (by rw [HL.out.1]; omega)
            obtain ⟨hcc, hff⟩ := own_at HL.out.2.1 (i := j) (by rw [HL.out.1]; exact hjn)
            go_wp2
            go_roundg (gk - 1)
            case measure => omega
            case rel =>
              refine ⟨j + 1, ls.set j [109, 97, 114, 107, 101, 100], by go_num, by omega, by rw [List.length_set]; exact HL.out.1, own_put HL.out.2.1 j [109, 97, 114, 107, 101, 100], ?_⟩
              exact HL.out.2.2.trans ((Turned.refl (fun k => k = g) wr).setCell (p := ⟨g, j, none⟩) (.inl rfl) _ |>.below HL.out.2.2.size (fun k hk q => by have := (HL.out.2.1.lt g rfl).1; omega))
          · obtain rfl : j = L := by omega
            have bq : Hid (Below w9.heap.size w9 wr) := HL.out.2.2
            clear HL
            go_wp2_with fail
            refine (same_any (c := c9) (d := c) wr (G9.out.2.2.2.2.2.1.below bq.out) (H.out.1.below (G9.out.1.trans (bq.out.mono G9.out.1.size))) H.out.2.1 H.out.2.1 (by omega) true (by simp)).mono ?_
            rintro e w15 ⟨rfl, q15, rfl⟩
            have b15 := below_drewN bq.out q15
            go_wp2_with fail
            refine (hsame_any (c := c6) (d := c5) (wr.drewN q15) (G9.out.2.2.2.1.below b15) (G9.out.2.1.below b15) (G9.out.2.2.2.2.1.below b15) (G9.out.2.2.1.below b15) H.out.2.2.2.2.2.1 (by omega) hlo.out).mono ?_
            rintro e w16 ⟨rfl, q16, rfl⟩
            go_wp2
            go_ret
            exact ⟨rfl, below_drewN (G9.out.1.trans (bq.out.mono G9.out.1.size)) _⟩

end Go.Proofs.Ytmblkkmfbgngdaa
