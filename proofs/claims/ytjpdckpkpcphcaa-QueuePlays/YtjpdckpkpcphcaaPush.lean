/-
  Push and New, each by a contract: a queue that is a heap, and items in a row of the call's own that is not the queue's, at most 1,000,000 together.
-/
import Derived.Test.YtjpdckpkpcphcaaOnto
import Derived.Test.YtjpdckpkpcphcaaRise
namespace Go.Proofs.Ytjpdckpkpcphcaa
open Go.RowKit

theorem Try.info31 : (Try.prog.info? 31).map (fun i => (i.zero, i.size, i.bytes)) = some (some (.agg #[.int .i64 0, .int .u64 0]), 2, 16) := by kernel_rfl

/-- rise of whatever queue whose last item alone is out of order. -/
theorem rise_any {base b : Nat} {v : Value} {xs : List It} (w : World) (hq : QAt w base b v xs) (h0 : 0 < xs.length) (hm : xs.length ≤ 1000000) (hup : PileUp xs (xs.length - 1)) :
    Calls Try.prog 15 #[.pointer (some ⟨b, 0, none⟩)] w fun e w' => e = .returned (.tuple #[]) ∧
      ∃ ys, QAt w' base b v ys ∧ ys.Perm xs ∧ Pile ys ∧ Turned (QSet b v) w w' := by
  obtain ⟨ao, cap, rfl, h1, h2, h3⟩ := own_form hq.own
  obtain ⟨g, rfl⟩ := h3 h0
  refine (rise_row w hq rfl h0 hm hup).mono ?_
  rintro e w' ⟨rfl, zs, z1, z2, z3, z4⟩
  exact ⟨rfl, zs, z1, z2, z3, z4.mono (fun i _ e => .inr (by rw [e]; rfl))⟩

theorem own_some {w : World} {base : Nat} {e : TypeId} {size : Nat} {v : Value} {n : Nat} {xs : List Value} (h : w.ownsRow base e size v (n + 1) xs) : ∃ g cap, v = .slice (some ⟨g, 0, none⟩) (n + 1) cap := by
  obtain ⟨ao, cap, rfl, _, _, h3⟩ := own_form h
  obtain ⟨g, rfl⟩ := h3 (by omega)
  exact ⟨g, cap, rfl⟩

/-- The queue behind an append onto its row, and behind the store of the slice. -/
theorem QAt.grown {wq wa w' : World} {base b : Nat} {u v' : Value} {zs : List It} {x : It} (h : QAt wq base b u zs) (ha : Turned (fun _ => False) wq wa) (hown : w'.ownsRow base 31 2 v' (zs.length + 1) (flat zs ++ flat [x]))
    (hgrow : wa.grownBy w' u.ownBlock) (hmov : Moved wa u v') :
    w'.cell? ⟨b, 0, none⟩ = some u ∧ w'.frozen? ⟨b, 0, none⟩ = false ∧ QAt (w'.setCell ⟨b, 0, none⟩ v') base b v' (zs ++ [x]) ∧ Turned (QSet b u) wq (w'.setCell ⟨b, 0, none⟩ v') ∧ Moved wq u v' := by
  have hbw : w'.heap[b]? = some (.cells #[u] 46 (0, 0)) := by
    rw [hgrow.block b (Nat.lt_of_lt_of_le h.lt ha.size) (fun e => h.apart e.symm), ha.block b h.lt (fun q => q)]
    exact h.struct
  refine ⟨cell_of_one hbw, free_of_one hbw, ⟨one_setCell hbw, ?_⟩, ?_, ?_⟩
  · have e : (zs ++ [x]).length = zs.length + 1 := by simp
    rw [e, flat_append]
    refine ownsRow_turned (S := fun k => k = b) hown ((Turned.refl (fun k => k = b) w').setCell (p := ⟨b, 0, none⟩) (.inl rfl) v') ?_
    rintro g hg rfl
    rcases hown.2 with ⟨rfl, _⟩ | ⟨g', cap, cur, rfl, _, hgg, _⟩
    · simp [Value.ownBlock] at hg
    · simp only [Value.ownBlock, Option.some.injEq] at hg
      subst hg
      rw [hbw] at hgg
      simp at hgg
  · have T : Turned (QSet b u) wq w' := (ha.mono (fun _ _ q => q.elim)).grown hgrow (fun k _ e => .inr e)
    exact T.setCell (p := ⟨b, 0, none⟩) (.inl (.inl rfl)) v'
  · rcases hmov with hm | hm
    · exact .inl hm
    · exact .inr (fun g hg => Nat.le_trans ha.size (hm g hg))

theorem Moved.trans {w w' : World} {a b c : Value} (h : Moved w a b) (k : Moved w' b c) (hs : w.heap.size ≤ w'.heap.size) : Moved w a c := by
  rcases k with k | k
  · rcases h with h | h
    · exact .inl (k.trans h)
    · exact .inr (fun g hg => h g (by rw [← k]; exact hg))
  · exact .inr (fun g hg => Nat.le_trans hs (k g hg))

theorem Moved.set {w : World} {u v : Value} (h : Moved w v u) {b k : Nat} (hk : k < w.heap.size) (hq : QSet b u k) : QSet b v k := by
  rcases hq with hq | hq
  · exact .inl hq
  · rcases h with h | h
    · exact .inr (by rw [← h]; exact hq)
    · have := h k hq; omega

theorem Moved.ne {w : World} {u v : Value} (h : Moved w v u) {k : Nat} (hk : k < w.heap.size) (hv : v.ownBlock ≠ some k) : u.ownBlock ≠ some k := by
  rcases h with h | h
  · rw [h]; exact hv
  · intro e; have := h k e; omega

theorem row_ne {w : World} {base b : Nat} {v : Value} {xs : List It} (h : QAt w base b v xs) {base' n gi ci : Nat} {ys : List Value} (hi : w.ownsRow base' 31 2 (.slice (some ⟨gi, 0, none⟩) n ci) n ys) : gi ≠ b := by
  rintro rfl
  rcases hi.2 with ⟨e, _⟩ | ⟨g', cap, cur, e, _, hgg, _⟩
  · cases e
  · cases e
    rw [h.struct] at hgg
    simp at hgg

/-- What a round of Push does to the queue. -/
theorem push_step {base b gi ci m i : Nat} {v u v2 : Value} {xs ys zs zs2 : List It} {x : It} {w wr wq wn w2 : World} (hne : v.ownBlock ≠ some gi)
    (hi0 : w.ownsRow base 31 2 (.slice (some ⟨gi, 0, none⟩) m ci) m (flat ys))
    (r1 : QAt wr base b u zs) (r2 : zs.Perm (xs ++ ys.take i)) (r4 : wr.ownsRow base 31 2 (.slice (some ⟨gi, 0, none⟩) m ci) m (flat ys)) (r5 : Turned (QSet b v) w wr) (r6 : Moved w v u)
    (hb : Below wr.heap.size wr wq) (n2 : Turned (QSet b u) wq wn) (n3 : Moved wq u v2)
    (s1 : QAt w2 base b v2 zs2) (s2 : zs2.Perm (zs ++ [x])) (s3 : Pile zs2) (s4 : Turned (QSet b v2) wn w2) (hx : el ys i = x) (hi : i < ys.length) :
    QAt w2 base b v2 zs2 ∧ zs2.Perm (xs ++ ys.take (i + 1)) ∧ Pile zs2 ∧ w2.ownsRow base 31 2 (.slice (some ⟨gi, 0, none⟩) m ci) m (flat ys) ∧ Turned (QSet b v) w w2 ∧ Moved w v v2 := by
  have hgw : gi < w.heap.size := own_lt hi0
  have hgr : gi < wr.heap.size := own_lt r4
  have hgb : gi ≠ b := row_ne r1 r4
  have hmw : w.heap.size ≤ wq.heap.size := Nat.le_trans r5.size hb.size
  have hm2 : Moved w v v2 := r6.trans n3 hmw
  have hu : u.ownBlock ≠ some gi := r6.ne hgw hne
  have hv2 : v2.ownBlock ≠ some gi := hm2.ne hgw hne
  refine ⟨s1, ?_, s3, ?_, ?_, hm2⟩
  · rw [List.take_add_one, el_some hi, hx, Option.toList_some, ← List.append_assoc]
    exact s2.trans (r2.append_right _)
  · have t1 := ownsRow_turned (S := fun _ => False) r4 (Turned.ofBelow hb) (fun _ _ q => q)
    have t2 := ownsRow_turned t1 n2 (fun g hg q => by
      simp only [Value.ownBlock, Option.some.injEq] at hg
      subst hg
      rcases q with q | q
      · exact hgb q
      · exact hu q)
    exact ownsRow_turned t2 s4 (fun g hg q => by
      simp only [Value.ownBlock, Option.some.injEq] at hg
      subst hg
      rcases q with q | q
      · exact hgb q
      · exact hv2 q)
  · exact ((r5.trans (Turned.ofBelow (S := fun _ => False) hb) (fun _ _ q => q.elim)).trans n2 (fun k hk q => r6.set hk q)).trans s4 (fun k hk q => hm2.set hk q)

set_option maxHeartbeats 4000000 in
set_option maxRecDepth 1000000 in
theorem push_row {base b gi ci m : Nat} {v : Value} {xs ys : List It} (w : World) (hq : QAt w base b v xs) (hp : Pile xs) (hi : w.ownsRow base 31 2 (.slice (some ⟨gi, 0, none⟩) m ci) m (flat ys)) (hne : v.ownBlock ≠ some gi) (hm : xs.length + m ≤ 1000000) (hbase : base ≤ w.heap.size) :
    Calls Try.prog 9 #[.pointer (some ⟨b, 0, none⟩), .slice (some ⟨gi, 0, none⟩) m ci] w fun e w' => e = .returned (.tuple #[]) ∧
      ∃ v' zs, QAt w' base b v' zs ∧ zs.Perm (xs ++ ys) ∧ Pile zs ∧ Turned (QSet b v) w w' ∧ Moved w v v' := by
  have H : Hid (QAt w base b v xs ∧ Pile xs ∧ w.ownsRow base 31 2 (.slice (some ⟨gi, 0, none⟩) m ci) m (flat ys) ∧ v.ownBlock ≠ some gi) := ⟨hq, hp, hi, hne⟩
  have hyl : ys.length = m := by have := hi.1; rw [flat_length] at this; omega
  obtain ⟨i0, hi0, hz0, hz1, hz2⟩ := info_parts Try.info31
  clear hq hp hi hne
  go_enter Try.func9, Try.ntmps9
  go_wp2
  go_loopg [8] m (fun k s wr => ∃ (i : Nat) (u : Value) (zs : List It), s = .int .i64 i ∧ i ≤ m ∧ m - i ≤ k ∧ zs.length = xs.length + i ∧
    Hid (QAt wr base b u zs ∧ zs.Perm (xs ++ ys.take i) ∧ Pile zs ∧ wr.ownsRow base 31 2 (.slice (some ⟨gi, 0, none⟩) m ci) m (flat ys) ∧ Turned (QSet b v) w wr ∧ Moved w v u))
  case atStart =>
    obtain ⟨h1, h2, h3, h4⟩ := H.out
    exact ⟨0, v, xs, by go_num, by omega, by omega, rfl, ⟨h1, by simp, h2, h3, Turned.refl _ _, .inl rfl⟩⟩
  case round =>
    obtain ⟨i, u, zs, rfl, him, hik, hzl, HR⟩ := hrel
    by_cases hlt : i < m
    · obtain ⟨x, hx⟩ : ∃ x, el ys i = x := ⟨_, rfl⟩
      obtain ⟨x0, x1, _, _⟩ := own_cells (i := i) HR.out.2.2.2.1 (by omega)
      rw [hx] at x0 x1
      have hgi : gi < wr.heap.size := own_lt HR.out.2.2.2.1
      have ii : (i : Int) < (m : Int) := by omega
      go_wp2_with fail
      obtain ⟨wq, hwq⟩ : ∃ wq, wq = (wr.alloc (Obj.cells #[Value.int IntKind.i64 x.fst, Value.int IntKind.u64 x.snd] 31)) := ⟨_, rfl⟩
      rw [← hwq]
      have hbq : Below wr.heap.size wr wq := by rw [hwq]; exact (Below.refl _ wr).alloc (Nat.le_refl _) _
      have HQ : Hid (QAt wq base b u zs ∧ base ≤ wq.heap.size ∧ Below wr.heap.size wr wq) := ⟨HR.out.1.below hbq, by have := hbq.size; have := HR.out.2.2.2.2.1.size; omega, hbq⟩
      have w0 : wq.cell? ⟨wr.heap.size, 0, none⟩ = some (.int .i64 x.1) := by rw [hwq]; simp
      have w1 : wq.cell? ⟨wr.heap.size, 1, none⟩ = some (.int .u64 x.2) := by rw [hwq]; simp
      have hcq := HQ.out.1.cell
      have hbl : b < wq.heap.size := HQ.out.1.lt
      have X : Hid (el ys i = x) := hx
      clear hbq hwq x0 x1 hgi hx
      have Z : Hid (zs.length = xs.length + i) := hzl
      have hzb : zs.length ≤ 999999 := by omega
      clear hzl
      go_region_law (refine step_append_moved rfl (.tmp 16) (.tmp 18) 25 rfl base 31 i0 _ 2 16 Try.underlying25 hi0 hz0 hz1 hz2 rfl (by decide) u zs.length (flat zs) (by simp [Act.eval]) (HQ.out.1.own.alloc _) ⟨wq.heap.size, 0, none⟩ 1 1 (flat [x]) (by simp [Act.eval]) rfl (cell_two_new wq _ _ 31) (flat_one _) (by simp only [maxLen]; omega) (by omega) (by have := HQ.out.2.1; simp; omega) ?_; intro v' w' hown' hgrow hmov; obtain ⟨hcb, hfb, n1, n2, n3⟩ := HQ.out.1.grown (by first | exact ((Turned.refl _ wq).alloc _).drew | exact (Turned.refl _ wq).drew.alloc _) hown' hgrow hmov; obtain ⟨g', cap', rfl⟩ := own_some hown'; have N : Hid (_ ∧ _ ∧ _) := ⟨n1, n2, n3⟩; clear hown' hgrow hmov n1 n2 n3)
      all_goals go_wp2_with fail
      all_goals refine (rise_any _ N.out.1 (by simp) (by simp; omega) (by have := up_start HR.out.2.2.1 x; simpa using this)).mono ?_
      all_goals rintro e w2 ⟨rfl, zs2, s1, s2, s3, s4⟩
      all_goals have P := push_step H.out.2.2.2 H.out.2.2.1 HR.out.1 HR.out.2.1 HR.out.2.2.2.1 HR.out.2.2.2.2.1 HR.out.2.2.2.2.2 HQ.out.2.2 N.out.2.1 N.out.2.2 s1 s2 s3 s4 X.out (by omega)
      all_goals have L : Hid (zs2.length = xs.length + (i + 1)) := by have h1 := s2.length_eq; have h2 := Z.out; simp only [List.length_append, List.length_cons, List.length_nil] at h1; show _ = _; omega
      all_goals have PH : Hid _ := P
      all_goals clear P s1 s2 s3 s4
      all_goals go_wp2
      all_goals go_roundg (m - (i + 1))
      all_goals first
        | omega
        | exact ⟨i + 1, _, zs2, by go_num, by omega, by omega, L.out, PH⟩
    · have hge : i = m := by omega
      obtain ⟨r1, r2, r3, r4, r5, r6⟩ := HR.out
      have R : Hid (∃ v' zs, QAt wr base b v' zs ∧ zs.Perm (xs ++ ys) ∧ Pile zs ∧ Turned (QSet b v) w wr ∧ Moved w v v') := by
        refine ⟨u, zs, r1, ?_, r3, r5, r6⟩
        rw [hge, List.take_of_length_le (by omega)] at r2
        exact r2
      clear r1 r2 r3 r4 r5 r6 HR
      subst hge
      go_wp2
      go_end0
      exact ⟨rfl, R.out⟩

theorem push_empty {b c : Nat} {ao : Option Addr} (w : World) :
    Calls Try.prog 9 #[.pointer (some ⟨b, 0, none⟩), .slice ao 0 c] w fun e w' => e = .returned (.tuple #[]) ∧ w' = w := by
  go_enter Try.func9, Try.ntmps9
  go_wp2
  refine wp_loop_rounds 1 ?_
  rw [rounds_succ]
  go_wp2
  go_end0
  exact ⟨rfl, rfl⟩

/-- Push onto whatever queue. -/
theorem push_any {base b : Nat} {v iv : Value} {xs ys : List It} (w : World) (hq : QAt w base b v xs) (hp : Pile xs) (hi : w.ownsRow base 31 2 iv ys.length (flat ys)) (hne : ∀ g, iv.ownBlock = some g → v.ownBlock ≠ some g)
    (hm : xs.length + ys.length ≤ 1000000) (hbase : base ≤ w.heap.size) :
    Calls Try.prog 9 #[.pointer (some ⟨b, 0, none⟩), iv] w fun e w' => e = .returned (.tuple #[]) ∧
      ∃ v' zs, QAt w' base b v' zs ∧ zs.Perm (xs ++ ys) ∧ Pile zs ∧ Turned (QSet b v) w w' ∧ Moved w v v' := by
  obtain ⟨ao, cap, rfl, h1, h2, h3⟩ := own_form hi
  cases ys with
  | nil =>
    refine (push_empty w).mono ?_
    rintro e w' ⟨rfl, rfl⟩
    exact ⟨rfl, v, xs, hq, by simp, hp, Turned.refl _ _, .inl rfl⟩
  | cons y t =>
    obtain ⟨g, rfl⟩ := h3 (by simp)
    exact push_row w hq hp hi (hne g rfl) hm hbase

theorem new_start (w : World) (base : Nat) : QAt (w.alloc (.cells #[.slice none 0 0] 46)) base w.heap.size (.slice none 0 0) [] :=
  ⟨heap_alloc_new w _, World.ownsRow_nil _ _ _ _⟩

set_option maxHeartbeats 1000000 in
theorem new_any {base : Nat} {iv : Value} {ys : List It} (w : World) (hi : w.ownsRow base 31 2 iv ys.length (flat ys)) (hm : ys.length ≤ 1000000) (hbase : base ≤ w.heap.size) :
    Calls Try.prog 8 #[iv] w fun e w' => e = .returned (.pointer (some ⟨w.heap.size, 0, none⟩)) ∧
      ∃ v' zs, QAt w' base w.heap.size v' zs ∧ zs.Perm ys ∧ Pile zs ∧ Below w.heap.size w w' ∧ ∀ g, v'.ownBlock = some g → w.heap.size < g := by
  have H : Hid (w.ownsRow base 31 2 iv ys.length (flat ys)) := hi
  clear hi
  go_enter Try.func8, Try.ntmps8
  go_wp2_with fail
  refine (push_any (xs := []) (ys := ys) _ (new_start w base) pile_nil (H.out.alloc _) (fun _ _ => by simp [Value.ownBlock]) (by simpa using hm) (by simp; omega)).mono ?_
  rintro e w1 ⟨rfl, v', zs, q1, q2, q3, q4, q5⟩
  have R : Hid (∃ v' zs, QAt w1 base w.heap.size v' zs ∧ zs.Perm ys ∧ Pile zs ∧ Below w.heap.size w w1 ∧ ∀ g, v'.ownBlock = some g → w.heap.size < g) := by
    refine ⟨v', zs, q1, by simpa using q2, q3, ((Below.refl _ w).alloc (Nat.le_refl _) _).trans (q4.below (by simp) ?_), ?_⟩
    · rintro k hk (q | q)
      · omega
      · simp [Value.ownBlock] at q
    · intro g hg
      rcases q5 with q5 | q5
      · rw [q5] at hg; simp [Value.ownBlock] at hg
      · have := q5 g hg; simp at this; omega
  clear q1 q2 q3 q4 q5
  go_wp2
  go_ret
  exact ⟨rfl, R.out⟩

end Go.Proofs.Ytjpdckpkpcphcaa
