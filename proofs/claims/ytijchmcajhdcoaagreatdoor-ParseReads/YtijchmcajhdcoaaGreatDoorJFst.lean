import Derived.Test.YtijchmcajhdcoaaGreatDoorELSm
import Derived.Test.YtijchmcajhdcoaaGreatDoorPRoom
import Derived.Lib.AtoiErrMem
import Derived.Lib.LaidTab
/-!
  The token with which a text begins, kind by kind, each by a contract. No condition but that a text is no longer than 1024 bytes.
-/
namespace Go.Proofs.YtijchmcajhdcoaaGreatDoor
open Go.RowKit

/-- A token as a value. -/
def tkV (t : Tk) : Value := .agg #[.int .i64 t.kind, .string ⟨t.text.toArray⟩, .int .i64 t.num, .int .u64 t.id, .int .i64 t.pos]
/-- What the functions for the kinds tell. -/
def tkR (r : Tk × Nat) : Value := .tuple #[tkV r.1, .int .i64 (r.2 : Int)]

theorem set5 {w w' : World} (hb : Below w.heap.size w w') (B : Nat) (hB : w.heap.size ≤ B) (a b c d e : Value) :
    Below w.heap.size w (((((w'.setCell ⟨B, 0, none⟩ a).setCell ⟨B, 1, none⟩ b).setCell ⟨B, 2, none⟩ c).setCell ⟨B, 3, none⟩ d).setCell ⟨B, 4, none⟩ e) :=
  ((((hb.setCell (p := ⟨B, 0, none⟩) hB _).setCell (p := ⟨B, 1, none⟩) hB _).setCell (p := ⟨B, 2, none⟩) hB _).setCell (p := ⟨B, 3, none⟩) hB _).setCell (p := ⟨B, 4, none⟩) hB _

/-- Five cells in a block of their own. -/
def Box5 (w : World) (B : Nat) (t : TypeId) (a b c d e : Value) : Prop := w.heap[B]? = some (.cells #[a, b, c, d, e] t (0, 0))
section
variable {w w' : World} {B : Nat} {t : TypeId} {a b c d e : Value}
theorem Box5.lt (h : Box5 w B t a b c d e) : B < w.heap.size := (Array.getElem?_eq_some_iff.1 h).1
theorem Box5.below (h : Box5 w B t a b c d e) (hb : Below w.heap.size w w') : Box5 w' B t a b c d e := (hb.block B h.lt).trans h
theorem Box5.turned {S : Nat → Prop} (h : Box5 w B t a b c d e) (ht : Turned S w w') (hS : ¬ S B) : Box5 w' B t a b c d e := (ht.block B h.lt hS).trans h
theorem Box5.cells (h : Box5 w B t a b c d e) : w.cell? ⟨B, 0, none⟩ = some a ∧ w.cell? ⟨B, 1, none⟩ = some b ∧ w.cell? ⟨B, 2, none⟩ = some c ∧ w.cell? ⟨B, 3, none⟩ = some d ∧ w.cell? ⟨B, 4, none⟩ = some e := by
  unfold Box5 at h
  simp [World.cell?, h]
theorem Box5.thaw (h : Box5 w B t a b c d e) : w.frozen? ⟨B, 0, none⟩ = false ∧ w.frozen? ⟨B, 1, none⟩ = false ∧ w.frozen? ⟨B, 2, none⟩ = false ∧ w.frozen? ⟨B, 3, none⟩ = false ∧ w.frozen? ⟨B, 4, none⟩ = false := by
  unfold Box5 at h
  simp [World.frozen?, h]
theorem Box5.new (w : World) (t : TypeId) (a b c d e : Value) : Box5 (w.alloc (.cells #[a, b, c, d, e] t)) w.heap.size t a b c d e := by
  unfold Box5 World.alloc
  simp
theorem Box5.put0 (h : Box5 w B t a b c d e) (x : Value) : Box5 (w.setCell ⟨B, 0, none⟩ x) B t x b c d e := by
  unfold Box5 at h ⊢
  simp [World.setCell, Array.getElem?_modify, h]
theorem Box5.put1 (h : Box5 w B t a b c d e) (x : Value) : Box5 (w.setCell ⟨B, 1, none⟩ x) B t a x c d e := by
  unfold Box5 at h ⊢
  simp [World.setCell, Array.getElem?_modify, h]
theorem Box5.put2 (h : Box5 w B t a b c d e) (x : Value) : Box5 (w.setCell ⟨B, 2, none⟩ x) B t a b x d e := by
  unfold Box5 at h ⊢
  simp [World.setCell, Array.getElem?_modify, h]
theorem Box5.put3 (h : Box5 w B t a b c d e) (x : Value) : Box5 (w.setCell ⟨B, 3, none⟩ x) B t a b c x e := by
  unfold Box5 at h ⊢
  simp [World.setCell, Array.getElem?_modify, h]
theorem Box5.put4 (h : Box5 w B t a b c d e) (x : Value) : Box5 (w.setCell ⟨B, 4, none⟩ x) B t a b c d x := by
  unfold Box5 at h ⊢
  simp [World.setCell, Array.getElem?_modify, h]
end
theorem belowD (w : World) (m : Nat) : Below w.heap.size w (w.drewN m) := ⟨rfl, rfl, rfl, Nat.le_refl _, fun _ _ => rfl⟩
theorem ten5 {w w2 : World} {a b c d e : Value} {t : TypeId} (hb : Below (w.alloc (.cells #[a, b, c, d, e] t)).heap.size (w.alloc (.cells #[a, b, c, d, e] t)) w2) :
    (w2.cell? ⟨w.heap.size, 0, none⟩ = some a ∧ w2.cell? ⟨w.heap.size, 1, none⟩ = some b ∧ w2.cell? ⟨w.heap.size, 2, none⟩ = some c ∧ w2.cell? ⟨w.heap.size, 3, none⟩ = some d ∧ w2.cell? ⟨w.heap.size, 4, none⟩ = some e) ∧
    (w2.frozen? ⟨w.heap.size, 0, none⟩ = false ∧ w2.frozen? ⟨w.heap.size, 1, none⟩ = false ∧ w2.frozen? ⟨w.heap.size, 2, none⟩ = false ∧ w2.frozen? ⟨w.heap.size, 3, none⟩ = false ∧ w2.frozen? ⟨w.heap.size, 4, none⟩ = false) ∧ Hid (Below w.heap.size w w2) := by
  have h := (Box5.new w t a b c d e).below hb
  have hn : Below w.heap.size w (w.alloc (.cells #[a, b, c, d, e] t)) := (Below.refl _ w).alloc (Nat.le_refl _) _
  exact ⟨h.cells, h.thaw, hn.trans (hb.mono hn.size)⟩

theorem en36 : ∀ args w, (callFunc 54 args).run Tryz.prog w = .ok (.enter 54 args) w := enters_of Tryz.func54 (by kernel_rfl) rfl
theorem en26 : ∀ args w, (callFunc 43 args).run Tryz.prog w = .ok (.enter 43 args) w := enters_of Tryz.func43 (by kernel_rfl) rfl

set_option maxHeartbeats 800000 in
set_option maxRecDepth 100000 in
theorem name_any (s : ByteArray) (hs : s.size ≤ 1024) (w : World) :
    Calls Tryz.prog 42 #[.string s] w fun e w' => e = .returned (tkR (nameT s.data.toList)) ∧ Below w.heap.size w w' := by
  obtain ⟨n, hn⟩ : ∃ n, spn isNm s.data.toList = n := ⟨_, rfl⟩
  have hle := spn_le isNm s.data.toList
  have hsp := fun w => span_any 54 isNm nm_any en36 s (by omega) w
  rw [hn] at hsp hle
  rw [← bsize] at hle
  have HN : Hid (_ = _) := hn
  clear hn
  by_cases h16 : 16 < n
  · go_enter Tryz.func42, Tryz.ntmps42
    go_wp2_with (go_at_call 53; refine (hsp _).mono ?_; rintro e w' ⟨rfl, rfl⟩)
    refine bodyPost_ret (v := .tuple #[.agg #[.int .i64 0, .string ⟨#[]⟩, .int .i64 0, .int .u64 0, .int .i64 0], .int .i64 0]) ?_ rfl ⟨by rw [nameT, HN.out, if_pos h16]; rfl, (Below.refl _ w).alloc (Nat.le_refl _) _⟩
    simp [results, Tryz.f42]
    go_simp
  · have hxs : (s.extract 0 n).size ≤ 281474976710656 := by simp [ByteArray.size_extract]; omega
    go_enter Tryz.func42, Tryz.ntmps42
    go_wp2_with (first
      | (go_at_call 53; refine (hsp _).mono ?_; rintro e w' ⟨rfl, rfl⟩)
      | (go_at_call 55; refine (clone_any _ hxs _).mono ?_; rintro e w2 ⟨rfl, hb⟩; obtain ⟨⟨c0, c1, c2, c3, c4⟩, ⟨f0, f1, f2, f3, f4⟩, HB⟩ := ten5 hb; clear hb))
    refine bodyPost_ret (v := .tuple #[.agg #[.int .i64 1, .string (s.extract 0 n), .int .i64 0, .int .u64 0, .int .i64 0], .int .i64 n]) ?_ rfl ⟨by rw [nameT, HN.out, if_neg h16, ext_take]; rfl, set5 HB.out _ (Nat.le_refl _) _ _ _ _ _⟩
    simp [results, Tryz.f42]
    go_simp

theorem decFrom_all : ∀ (l : Bs) (a : Nat), l.all isDi = true → Lib.decFrom a l = some (l.foldl (fun n c => n * 10 + (c.toNat - 48)) a)
  | [], a, _ => rfl
  | c :: t, a, h => by
    simp only [List.all_cons, Bool.and_eq_true] at h
    have hc := (isDi_iff c).1 h.1
    simp only [Lib.decFrom, Lib.digitVal, if_pos hc, List.foldl_cons]
    exact decFrom_all t _ h.2

theorem atoi_all (c : UInt8) (t : Bs) (h : (c :: t).all isDi = true) : Lib.atoi (c :: t) = some (decV (c :: t) : Int) := by
  have hc := (isDi_iff c).1 (by simp only [List.all_cons, Bool.and_eq_true] at h; exact h.1)
  have h1 : (c == 45) = false := by
    rw [beq_eq_false_iff_ne]; intro q; subst q; simp at hc
  have h2 : (c == 43) = false := by
    rw [beq_eq_false_iff_ne]; intro q; subst q; simp at hc
  have h3 : Lib.decNat (c :: t) = some (decV (c :: t)) := by
    simp only [Lib.decNat, List.isEmpty_cons, Bool.false_eq_true, if_false]
    exact decFrom_all (c :: t) 0 h
  simp [Lib.atoi, h1, h2, h3]

theorem head_byte (s : ByteArray) (h : 0 < s.size) : s.data.toList.head? = some s[0] := by
  have := get_byte s 0 h
  rw [List.head?_eq_getElem?]
  exact this

set_option maxHeartbeats 1600000 in
set_option maxRecDepth 100000 in
theorem num_any (s : ByteArray) (hs : s.size ≤ 1024) (h0 : 0 < s.size) (hd : isDi s[0] = true) (w : World) :
    Calls Tryz.prog 44 #[.string s] w fun e w' => e = .returned (tkR (numT s.data.toList)) ∧ Below w.heap.size w w' := by
  obtain ⟨n, hn⟩ : ∃ n, spn isDi s.data.toList = n := ⟨_, rfl⟩
  have hle := spn_le isDi s.data.toList
  have hh := head_byte s h0
  have hn1 : 1 ≤ n := by
    have := (spn_step isDi s.data.toList 0 (Nat.zero_le _) s[0] (get_byte s 0 h0)).1 hd
    omega
  have hsp := fun w => span_any 43 isDi di_any en26 s (by omega) w
  have hall := spn_take_all isDi s.data.toList
  rw [hn] at hsp hle hall
  rw [← bsize] at hle
  have HN : Hid (_ = _) := hn
  clear hn
  by_cases h9 : 9 < n
  · have HT : Hid (numT s.data.toList = (tk0, 0)) := by show numT _ = _; rw [numT, HN.out, if_pos (.inl h9)]
    clear hh hall
    go_enter Tryz.func44, Tryz.ntmps44
    go_wp2_with (go_at_call 53; refine (hsp _).mono ?_; rintro e w' ⟨rfl, rfl⟩)
    refine bodyPost_ret (v := .tuple #[.agg #[.int .i64 0, .string ⟨#[]⟩, .int .i64 0, .int .u64 0, .int .i64 0], .int .i64 0]) ?_ rfl ⟨by rw [HT.out]; rfl, (Below.refl _ w).alloc (Nat.le_refl _) _⟩
    simp [results, Tryz.f44]
    go_simp
  by_cases h1 : 1 < n ∧ s[0].toNat = 48
  · have HT : Hid (numT s.data.toList = (tk0, 0)) := by
      show numT _ = _
      rw [numT, HN.out, if_pos (.inr ⟨h1.1, by rw [hh, UInt8.toNat_inj.1 (show s[0].toNat = (48 : UInt8).toNat from h1.2)]⟩)]
    obtain ⟨h1a, h1b⟩ := h1
    have h1c : ((s[0].toNat : Int) == 48) = true := by rw [h1b]; rfl
    have h1d : (s[0].toNat : Int) = 48 := by omega
    clear hh hall
    go_enter Tryz.func44, Tryz.ntmps44
    go_wp2_with (go_at_call 53; refine (hsp _).mono ?_; rintro e w' ⟨rfl, rfl⟩)
    refine bodyPost_ret (v := .tuple #[.agg #[.int .i64 0, .string ⟨#[]⟩, .int .i64 0, .int .u64 0, .int .i64 0], .int .i64 0]) ?_ rfl ⟨by rw [HT.out]; rfl, (Below.refl _ w).alloc (Nat.le_refl _) _⟩
    simp [results, Tryz.f44]
    go_simp
  · have HT : Hid (numT s.data.toList = (⟨2, [], decV (s.data.toList.take n), 0, 0⟩, n)) := by
      show numT _ = _
      rw [numT, HN.out, if_neg]
      rintro (q | ⟨q, r⟩)
      · exact h9 q
      · rw [hh] at r
        exact h1 ⟨q, by rw [Option.some.inj r]; rfl⟩
    have hx : (s.extract 0 n).data.toList = s.data.toList.take n := by rw [ext_take]
    have hat : Lib.atoi (s.extract 0 n).data.toList = some (decV (s.data.toList.take n) : Int) := by
      rw [hx]
      cases ht : s.data.toList.take n with
      | nil =>
        have := congrArg List.length ht
        rw [List.length_take, ← bsize, List.length_nil] at this
        omega
      | cons c t =>
        rw [ht] at hall
        exact atoi_all c t hall
    have hxs : (s.extract 0 n).size ≤ 18 := by simp [ByteArray.size_extract]; omega
    have HA := fun w => Any.strconv_Atoi layAtoi (s.extract 0 n) _ hxs hat w
    obtain ⟨v, hv⟩ : ∃ v : Nat, decV (s.data.toList.take n) = v := ⟨_, rfl⟩
    rw [hv] at HA HT
    have HAH : Hid (∀ w, _) := HA
    have h1' : ¬ (1 < n ∧ (s[0].toNat : Int) = 48) := fun q => h1 ⟨q.1, by omega⟩
    clear hh hall hat hx hxs hv HA h1
    by_cases hone : 1 < n
    · have hne : ((s[0].toNat : Int) == 48) = false := by
        rw [beq_eq_false_iff_ne]; exact fun q => h1' ⟨hone, q⟩
      clear h1'
      go_enter Tryz.func44, Tryz.ntmps44
      go_wp2_with (first
        | (go_at_call 53; refine (hsp _).mono ?_; rintro e w' ⟨rfl, rfl⟩)
        | (go_at_call 56; refine (HAH.out _).mono ?_; rintro e w2 ⟨rfl, t, hw⟩; have hb := Lib.bytesWorld_below (w.alloc (.cells #[.int .i64 0, .string ⟨#[]⟩, .int .i64 0, .int .u64 0, .int .i64 0] 51)) (layAtoi_ren.t 5) t; rw [← hw] at hb; clear hw; obtain ⟨⟨c0, c1, c2, c3, c4⟩, ⟨f0, f1, f2, f3, f4⟩, HB⟩ := ten5 hb; clear hb))
      refine bodyPost_ret (v := .tuple #[.agg #[.int .i64 2, .string ⟨#[]⟩, .int .i64 v, .int .u64 0, .int .i64 0], .int .i64 n]) ?_ rfl ⟨by rw [HT.out]; rfl, set5 HB.out _ (Nat.le_refl _) _ _ _ _ _⟩
      simp [results, Tryz.f44]
      go_simp
    · clear h1'
      go_enter Tryz.func44, Tryz.ntmps44
      go_wp2_with (first
        | (go_at_call 53; refine (hsp _).mono ?_; rintro e w' ⟨rfl, rfl⟩)
        | (go_at_call 56; refine (HAH.out _).mono ?_; rintro e w2 ⟨rfl, t, hw⟩; have hb := Lib.bytesWorld_below (w.alloc (.cells #[.int .i64 0, .string ⟨#[]⟩, .int .i64 0, .int .u64 0, .int .i64 0] 51)) (layAtoi_ren.t 5) t; rw [← hw] at hb; clear hw; obtain ⟨⟨c0, c1, c2, c3, c4⟩, ⟨f0, f1, f2, f3, f4⟩, HB⟩ := ten5 hb; clear hb))
      refine bodyPost_ret (v := .tuple #[.agg #[.int .i64 2, .string ⟨#[]⟩, .int .i64 v, .int .u64 0, .int .i64 0], .int .i64 n]) ?_ rfl ⟨by rw [HT.out]; rfl, set5 HB.out _ (Nat.le_refl _) _ _ _ _ _⟩
      simp [results, Tryz.f44]
      go_simp

theorem ix_none : ∀ (l : Bs) (c : UInt8), Lib.indexByte l c = -1 → ∀ i : Nat, l[i]? ≠ some c
  | [], _, _, i => by simp
  | b :: t, c, h, i => by
    unfold Lib.indexByte at h
    have hge := Lib.indexByte_ge t c
    by_cases hb : (b == c) = true
    · rw [if_pos hb] at h; omega
    · rw [if_neg hb] at h
      have ht : Lib.indexByte t c = -1 := by
        by_cases q : Lib.indexByte t c = -1
        · exact q
        · have : (Lib.indexByte t c == -1) = false := by simpa using q
          simp only [this] at h
          simp at h
          omega
      cases i with
      | zero => simpa using hb
      | succ i => simpa using ix_none t c ht i

theorem ix_some : ∀ (l : Bs) (c : UInt8) (k : Nat), Lib.indexByte l c = k → l[k]? = some c ∧ ∀ i, i < k → l[i]? ≠ some c
  | [], c, k, h => by simp [Lib.indexByte] at h
  | b :: t, c, k, h => by
    unfold Lib.indexByte at h
    have hge := Lib.indexByte_ge t c
    by_cases hb : (b == c) = true
    · rw [if_pos hb] at h
      obtain rfl : k = 0 := by omega
      exact ⟨by simpa using hb, fun i hi => by omega⟩
    · rw [if_neg hb] at h
      by_cases q : Lib.indexByte t c = -1
      · simp [q] at h
      · have q' : (Lib.indexByte t c == -1) = false := by simpa using q
        simp only [q'] at h
        simp at h
        obtain ⟨j, rfl⟩ : ∃ j, k = j + 1 := ⟨k - 1, by omega⟩
        obtain ⟨e1, e2⟩ := ix_some t c j (by omega)
        refine ⟨by simpa using e1, fun i hi => ?_⟩
        cases i with
        | zero => simpa using hb
        | succ i => simpa using e2 i (by omega)

theorem isTx_iff (c : UInt8) : isTx c = true ↔ c ≠ 39 ∧ c ≠ 10 := by
  have h1 : c.toNat = 39 ↔ c = 39 := ⟨fun q => UInt8.toNat_inj.1 q, fun q => by rw [q]; rfl⟩
  have h2 : c.toNat = 10 ↔ c = 10 := ⟨fun q => UInt8.toNat_inj.1 q, fun q => by rw [q]; rfl⟩
  simp [isTx, h1, h2]

/-- The bytes up to a place are of a kind, the one there isn't. -/
theorem spn_at (p : UInt8 → Bool) (l : Bs) : ∀ k, (∀ i, i < k → ∀ c, l[i]? = some c → p c = true) → k ≤ l.length → (∀ c, l[k]? = some c → p c = false) → spn p l = k := by
  intro k
  have up : ∀ j, j ≤ k → (∀ i, i < k → ∀ c, l[i]? = some c → p c = true) → k ≤ l.length → j ≤ spn p l := by
    intro j
    induction j with
    | zero => intros; exact Nat.zero_le _
    | succ j ih =>
      intro hj h hk
      have hlt : j < l.length := by omega
      have hg : l[j]? = some l[j] := List.getElem?_eq_getElem hlt
      exact (spn_step p l j (ih (by omega) h hk) _ hg).1 (h j (by omega) _ hg)
  intro h hk he
  have h1 := up k (Nat.le_refl _) h hk
  rcases Nat.lt_or_ge k l.length with q | q
  · exact (spn_step p l k h1 _ (List.getElem?_eq_getElem q)).2 (he _ (List.getElem?_eq_getElem q))
  · exact spn_end p l k h1 q

theorem text_none (c : UInt8) (r : Bs) (h : Lib.indexByte r 39 = -1) : textT (c :: r) = (tk0, 0) := by
  unfold textT
  simp only [List.drop_succ_cons, List.drop_zero]
  rw [if_neg (ix_none r 39 h _)]

theorem text_line (c : UInt8) (r : Bs) (k : Nat) (h : Lib.indexByte r 39 = k) (h2 : 0 ≤ Lib.indexByte (r.take k) 10) : textT (c :: r) = (tk0, 0) := by
  obtain ⟨j, hj⟩ : ∃ j : Nat, Lib.indexByte (r.take k) 10 = j := ⟨(Lib.indexByte (r.take k) 10).toNat, by omega⟩
  obtain ⟨a1, a2⟩ := ix_some r 39 k h
  obtain ⟨b1, b2⟩ := ix_some (r.take k) 10 j hj
  have hjk : j < k := by
    have := (List.getElem?_eq_some_iff.1 b1).1
    simp at this
    omega
  rw [List.getElem?_take_of_lt hjk] at b1
  have hl := (List.getElem?_eq_some_iff.1 b1).1
  have e : spn isTx r = j := by
    refine spn_at isTx r j ?_ (by omega) ?_
    · intro i hi c hc
      rw [isTx_iff]
      refine ⟨fun q => a2 i (by omega) (by rw [hc, q]), fun q => b2 i hi ?_⟩
      rw [List.getElem?_take_of_lt (by omega), hc, q]
    · intro c hc
      rw [b1] at hc
      cases hc
      decide
  unfold textT
  simp only [List.drop_succ_cons, List.drop_zero]
  rw [e, if_neg (by rw [b1]; decide)]

theorem text_ok (c : UInt8) (r : Bs) (k : Nat) (h : Lib.indexByte r 39 = k) (h2 : ¬ 0 ≤ Lib.indexByte (r.take k) 10) : textT (c :: r) = (⟨3, r.take k, 0, 0, 0⟩, k + 2) := by
  have hm : Lib.indexByte (r.take k) 10 = -1 := by have := Lib.indexByte_ge (r.take k) 10; omega
  obtain ⟨a1, a2⟩ := ix_some r 39 k h
  have hl := (List.getElem?_eq_some_iff.1 a1).1
  have hn := ix_none (r.take k) 10 hm
  have e : spn isTx r = k := by
    refine spn_at isTx r k ?_ (by omega) ?_
    · intro i hi c hc
      rw [isTx_iff]
      refine ⟨fun q => a2 i hi (by rw [hc, q]), fun q => hn i ?_⟩
      rw [List.getElem?_take_of_lt hi, hc, q]
    · intro c hc
      rw [a1] at hc
      cases hc
      decide
  unfold textT
  simp only [List.drop_succ_cons, List.drop_zero]
  rw [e, if_pos a1]

set_option maxHeartbeats 1600000 in
set_option maxRecDepth 100000 in
theorem text_any (s : ByteArray) (hs : s.size ≤ 1024) (h0 : 0 < s.size) (w : World) :
    Calls Tryz.prog 45 #[.string s] w fun e w' => e = .returned (tkR (textT s.data.toList)) ∧ Below w.heap.size w w' := by
  obtain ⟨x, hx⟩ : ∃ x, s.extract 1 s.size = x := ⟨_, rfl⟩
  have hxd : x.data.toList = s.data.toList.drop 1 := by rw [← hx, ext_drop]
  have hxs : x.size ≤ 1024 := by rw [bsize, hxd, List.length_drop, ← bsize]; omega
  obtain ⟨c, r, hcr⟩ : ∃ c r, s.data.toList = c :: r := by
    cases hd : s.data.toList with
    | nil => rw [bsize, hd] at h0; simp at h0
    | cons c r => exact ⟨c, r, rfl⟩
  have hr : x.data.toList = r := by rw [hxd, hcr]; rfl
  have hge := Lib.indexByte_ge r 39
  have HX : Hid (_ = _) := hx
  have h1i : (1 : Int) ≤ (s.size : Int) := by omega
  by_cases hq : Lib.indexByte r 39 = -1
  · have HT : Hid (textT s.data.toList = (tk0, 0)) := by show textT _ = _; rw [hcr]; exact text_none c r hq
    have hc := fun w => cut_no x (by rw [hr]; exact hq) w
    clear hxd hcr hr hge hq
    go_enter Tryz.func45, Tryz.ntmps45
    go_wp2_with (go_at_call 57; refine (hc _).mono ?_; rintro e w2 ⟨rfl, m, hw⟩; have hb := belowD (w.alloc (.cells #[.int .i64 0, .string ⟨#[]⟩, .int .i64 0, .int .u64 0, .int .i64 0] 51)) m; rw [← hw] at hb; clear hw; obtain ⟨⟨c0, c1, c2, c3, c4⟩, ⟨f0, f1, f2, f3, f4⟩, HB⟩ := ten5 hb; have HB0 : Hid (_) := hb; clear hb)
    refine bodyPost_ret (v := .tuple #[.agg #[.int .i64 0, .string ⟨#[]⟩, .int .i64 0, .int .u64 0, .int .i64 0], .int .i64 0]) ?_ rfl ⟨by rw [HT.out]; rfl, set5 HB.out _ (Nat.le_refl _) _ _ _ _ _⟩
    simp [results, Tryz.f45]
    go_simp
  · obtain ⟨k, hk⟩ : ∃ k : Nat, Lib.indexByte r 39 = k := ⟨(Lib.indexByte r 39).toNat, by omega⟩
    have hkl : k < x.size := by
      have := (List.getElem?_eq_some_iff.1 (ix_some r 39 k hk).1).1
      rw [bsize, hr]; exact this
    have hc := fun w => cut_yes x (by omega) k (by rw [hr]; exact hk) hkl w
    obtain ⟨y, hy⟩ : ∃ y, x.extract 0 k = y := ⟨_, rfl⟩
    obtain ⟨z, hz⟩ : ∃ z, x.extract (k + 1) x.size = z := ⟨_, rfl⟩
    rw [hy, hz] at hc
    have hyd : y.data.toList = r.take k := by rw [← hy, ext_take, hr]
    have hys : y.size = k := by rw [bsize, hyd, List.length_take, ← hr, ← bsize]; omega
    have hys2 : y.size ≤ 281474976710656 := by omega
    have hyt : y = ⟨(r.take k).toArray⟩ := by rw [← hy, ext_take, hr]
    have hct := fun w => contains_10 y w
    by_cases hn : 0 ≤ Lib.indexByte (r.take k) 10
    · have HT : Hid (textT s.data.toList = (tk0, 0)) := by show textT _ = _; rw [hcr]; exact text_line c r k hk hn
      rw [hyd, decide_eq_true hn] at hct
      clear hxd hcr hr hge hq hk hy hz hyd hys hyt hn
      go_enter Tryz.func45, Tryz.ntmps45
      go_wp2_with (first
        | (go_at_call 57; refine (hc _).mono ?_; rintro e w2 ⟨rfl, m, hw⟩; have hb := belowD (w.alloc (.cells #[.int .i64 0, .string ⟨#[]⟩, .int .i64 0, .int .u64 0, .int .i64 0] 51)) m; rw [← hw] at hb; clear hw; obtain ⟨⟨c0, c1, c2, c3, c4⟩, ⟨f0, f1, f2, f3, f4⟩, HB⟩ := ten5 hb; have HB0 : Hid (_) := hb; clear hb)
        | (go_at_call 58; refine (hct _).mono ?_; rintro e w' ⟨rfl, rfl⟩))
      refine bodyPost_ret (v := .tuple #[.agg #[.int .i64 0, .string ⟨#[]⟩, .int .i64 0, .int .u64 0, .int .i64 0], .int .i64 0]) ?_ rfl ⟨by rw [HT.out]; rfl, set5 HB.out _ (Nat.le_refl _) _ _ _ _ _⟩
      simp [results, Tryz.f45]
      go_simp
    · have HT : Hid (textT s.data.toList = (⟨3, r.take k, 0, 0, 0⟩, k + 2)) := by show textT _ = _; rw [hcr]; exact text_ok c r k hk hn
      rw [hyd, decide_eq_false hn] at hct
      have HY : Hid (y = _) := hyt
      have HK : Hid (y.size = k) := hys
      have hys3 : y.size ≤ 1024 := by omega
      clear hxd hcr hr hge hq hk hy hz hyd hys hyt hn
      go_enter Tryz.func45, Tryz.ntmps45
      go_wp2_with (first
        | (go_at_call 57; refine (hc _).mono ?_; rintro e w2 ⟨rfl, m, hw⟩; have hb := belowD (w.alloc (.cells #[.int .i64 0, .string ⟨#[]⟩, .int .i64 0, .int .u64 0, .int .i64 0] 51)) m; rw [← hw] at hb; clear hw; obtain ⟨⟨c0, c1, c2, c3, c4⟩, ⟨f0, f1, f2, f3, f4⟩, HB⟩ := ten5 hb; have HB0 : Hid (_) := hb; clear hb)
        | (go_at_call 58; refine (hct _).mono ?_; rintro e w' ⟨rfl, rfl⟩)
        | (go_at_call 55; refine (clone_any _ hys2 _).mono ?_; rintro e w3 ⟨rfl, hb3⟩; clear c0 c1 c2 c3 c4 f0 f1 f2 f3 f4 HB; obtain ⟨⟨c0, c1, c2, c3, c4⟩, ⟨f0, f1, f2, f3, f4⟩, HB⟩ := ten5 (HB0.out.trans (hb3.mono HB0.out.size)); clear hb3))
      refine bodyPost_ret (v := .tuple #[.agg #[.int .i64 3, .string y, .int .i64 0, .int .u64 0, .int .i64 0], .int .i64 (y.size + 2)]) ?_ rfl ⟨by rw [HT.out, HK.out, HY.out]; rfl, set5 HB.out _ (Nat.le_refl _) _ _ _ _ _⟩
      simp [results, Tryz.f45]
      go_simp

end Go.Proofs.YtijchmcajhdcoaaGreatDoor

/-!
  The token with which a text begins: hashes, signs, and all kinds together, each by a contract. No condition but that a text is no longer than 1024 bytes, and that the list of signs holds what the program's text lays there.
-/
namespace Go.Proofs.YtijchmcajhdcoaaGreatDoor
open Go.RowKit

/-- What the program's variables hold. -/
structure Gl (w : World) : Prop where
  sg : w.var? Tryz.prog "forebear/lex.signs" = some (sgs.map (fun x => Value.string ⟨x.toArray⟩)).toArray
  pw : Lib.TabIs Tryz.prog w "internal/strconv.uint64pow10" .u64 Lib.pow10Tab
theorem g_sg : Tryz.prog.globalNamed "forebear/lex.signs" = some 1 := by kernel_rfl
theorem g_pw : Tryz.prog.globalNamed "internal/strconv.uint64pow10" = some (layItoa_ren.g 17) := by kernel_rfl
theorem var_on {w w' : World} {g : Nat} {n : String} {cs : Array Value} (h : Below w.heap.size w w') (hg : Tryz.prog.globalNamed n = some g) (hv : w.var? Tryz.prog n = some cs) : w'.var? Tryz.prog n = some cs := by
  unfold World.var? at hv ⊢
  rw [hg] at hv ⊢
  simp only [Option.bind_some] at hv ⊢
  have hlt : g < w.heap.size := by
    rcases Nat.lt_or_ge g w.heap.size with q | q
    · exact q
    · rw [Array.getElem?_eq_none q] at hv; cases hv
  rw [h.block g hlt]
  exact hv
theorem Gl.below {w w' : World} (h : Gl w) (hb : Below w.heap.size w w') : Gl w' := ⟨var_on hb g_sg h.sg, var_on hb g_pw h.pw⟩
theorem Gl.cells {w : World} (h : Gl w) : 1 < w.heap.size ∧ w.cell? ⟨1, 0, none⟩ = some (.string ⟨#[40]⟩) ∧ w.cell? ⟨1, 1, none⟩ = some (.string ⟨#[41]⟩) ∧ w.cell? ⟨1, 2, none⟩ = some (.string ⟨#[44]⟩) ∧ w.cell? ⟨1, 3, none⟩ = some (.string ⟨#[124]⟩) ∧ w.cell? ⟨1, 4, none⟩ = some (.string ⟨#[38]⟩) ∧ w.cell? ⟨1, 5, none⟩ = some (.string ⟨#[45]⟩) ∧ w.cell? ⟨1, 6, none⟩ = some (.string ⟨#[33]⟩) ∧ w.cell? ⟨1, 7, none⟩ = some (.string ⟨#[94]⟩) ∧ w.cell? ⟨1, 8, none⟩ = some (.string ⟨#[46, 46]⟩) ∧ w.cell? ⟨1, 9, none⟩ = some (.string ⟨#[58, 58]⟩) := by
  have c := fun o => World.var?_cell (P := Tryz.prog) g_sg h.sg o
  exact ⟨World.block_lt_of_cell? w ⟨1, 0, none⟩ (c 0), c 0, c 1, c 2, c 3, c 4, c 5, c 6, c 7, c 8, c 9⟩

set_option maxHeartbeats 1600000 in
set_option maxRecDepth 100000 in
theorem hash_any (s : ByteArray) (hs : s.size ≤ 1024) (w : World) :
    Calls Tryz.prog 46 #[.string s] w fun e w' => e = .returned (tkR (hashT s.data.toList)) ∧ Below w.heap.size w w' := by
  by_cases h17 : s.size < 17
  · have HT : Hid (hashT s.data.toList = (tk0, 0)) := by show hashT _ = _; rw [hashT, if_pos (by rw [← bsize]; exact h17)]
    go_enter Tryz.func46, Tryz.ntmps46
    go_wp2
    refine bodyPost_ret (v := .tuple #[.agg #[.int .i64 0, .string ⟨#[]⟩, .int .i64 0, .int .u64 0, .int .i64 0], .int .i64 0]) ?_ rfl ⟨by rw [HT.out]; rfl, (Below.refl _ w).alloc (Nat.le_refl _) _⟩
    simp [results, Tryz.f46]
    go_simp
  · have hx : s.extract 1 17 = ⟨((s.data.toList.drop 1).take 16).toArray⟩ := by
      have := ByteArray.extract_mk s.data.toList 1 17
      simpa using this
    have hp := fun w => par_any (s.extract 1 17) w
    have e : parOf (s.extract 1 17) = hash16 s.data.toList := by rw [hx]; rfl
    rw [e] at hp
    obtain ⟨⟨i, c⟩, hic⟩ : ∃ ic, hash16 s.data.toList = ic := ⟨_, rfl⟩
    rw [hic] at hp
    have hlen : ¬ s.data.toList.length < 17 := by rw [← bsize]; exact h17
    by_cases hc : c = 0
    · subst hc
      have HT : Hid (hashT s.data.toList = (⟨4, [], 0, i, 0⟩, 17)) := by show hashT _ = _; rw [hashT, if_neg hlen, hic, if_pos rfl]
      clear hx e hic hlen
      go_enter Tryz.func46, Tryz.ntmps46
      go_wp2_with (go_at_call 59; refine (hp _).mono ?_; rintro e w' ⟨rfl, rfl⟩)
      refine bodyPost_ret (v := .tuple #[.agg #[.int .i64 4, .string ⟨#[]⟩, .int .i64 0, .int .u64 i, .int .i64 0], .int .i64 17]) ?_ rfl ⟨by rw [HT.out]; rfl, ?_⟩
      · simp [results, Tryz.f46]
        go_simp
      · exact (Below.refl _ w).alloc (Nat.le_refl _) _
    · have HT : Hid (hashT s.data.toList = (tk0, 0)) := by show hashT _ = _; rw [hashT, if_neg hlen, hic, if_neg hc]
      have m0 : (c == 0) = false := by simpa using hc
      have m1 : (c != 0) = true := by simpa using hc
      clear hx e hic hlen
      go_enter Tryz.func46, Tryz.ntmps46
      go_wp2_with (go_at_call 59; refine (hp _).mono ?_; rintro e w' ⟨rfl, rfl⟩)
      refine bodyPost_ret (v := .tuple #[.agg #[.int .i64 0, .string ⟨#[]⟩, .int .i64 0, .int .u64 0, .int .i64 0], .int .i64 0]) ?_ rfl ⟨by rw [HT.out]; rfl, (Below.refl _ w).alloc (Nat.le_refl _) _⟩
      simp [results, Tryz.f46]
      go_simp

/-- The sign at a place. -/
def sgAt (k : Nat) : Bs := sgs.getD k []
def sgV : Array Value := #[.string ⟨#[40]⟩, .string ⟨#[41]⟩, .string ⟨#[44]⟩, .string ⟨#[124]⟩, .string ⟨#[38]⟩, .string ⟨#[45]⟩, .string ⟨#[33]⟩, .string ⟨#[94]⟩, .string ⟨#[46, 46]⟩, .string ⟨#[58, 58]⟩]
set_option maxRecDepth 100000 in
theorem sg_idx (k : Nat) (hk : k < 10) (w : World) : (Instr.index 110 (.agg sgV) (.int .i64 (k : Int))).run Tryz.prog w = .ok (.string ⟨(sgAt k).toArray⟩) w := by
  have h : k = 0 ∨ k = 1 ∨ k = 2 ∨ k = 3 ∨ k = 4 ∨ k = 5 ∨ k = 6 ∨ k = 7 ∨ k = 8 ∨ k = 9 := by omega
  rcases h with rfl | rfl | rfl | rfl | rfl | rfl | rfl | rfl | rfl | rfl <;> rfl

theorem sg_len (k : Nat) (hk : k < 10) : 0 < (sgAt k).length ∧ (sgAt k).length ≤ 2 := by
  have h : k = 0 ∨ k = 1 ∨ k = 2 ∨ k = 3 ∨ k = 4 ∨ k = 5 ∨ k = 6 ∨ k = 7 ∨ k = 8 ∨ k = 9 := by omega
  rcases h with rfl | rfl | rfl | rfl | rfl | rfl | rfl | rfl | rfl | rfl <;> decide

theorem find_at {α : Type} (p : α → Bool) : ∀ (l : List α) (k : Nat) (x : α), l[k]? = some x → p x = true → (∀ j y, j < k → l[j]? = some y → p y = false) → l.find? p = some x
  | [], k, x, h, _, _ => by simp at h
  | a :: t, 0, x, h, hx, _ => by
    simp at h
    subst h
    simp [hx]
  | a :: t, k + 1, x, h, hx, hj => by
    have ha := hj 0 a (by omega) rfl
    rw [List.find?_cons, ha]
    exact find_at p t k x (by simpa using h) hx (fun j y q r => hj (j + 1) y (by omega) (by simpa using r))

theorem sg_get (j : Nat) (y : Bs) (h : sgs[j]? = some y) : y = sgAt j ∧ j < 10 := by
  have := (List.getElem?_eq_some_iff.1 h).1
  refine ⟨by simp [sgAt, List.getD, h], ?_⟩
  simpa [sgs] using this
theorem sg_get2 (j : Nat) (h : j < 10) : sgs[j]? = some (sgAt j) := by
  have : j < sgs.length := h
  simp [sgAt, List.getD, List.getElem?_eq_getElem this]

theorem sign_hit (l : Bs) (k : Nat) (hk : k < 10) (hx : (sgAt k).isPrefixOf l = true) (hj : ∀ j, j < k → (sgAt j).isPrefixOf l = false) : signT l = (⟨5, sgAt k, 0, 0, 0⟩, (sgAt k).length) := by
  have := find_at (fun g : Bs => g.isPrefixOf l) sgs k (sgAt k) (sg_get2 k hk) hx (fun j y q r => by rw [(sg_get j y r).1]; exact hj j q)
  unfold signT signG
  rw [this]
theorem sign_miss (l : Bs) (hj : ∀ j, j < 10 → (sgAt j).isPrefixOf l = false) : signT l = (tk0, 0) := by
  have : sgs.find? (fun g : Bs => g.isPrefixOf l) = none := by
    rw [List.find?_eq_none]
    intro x hx
    obtain ⟨j, hj2, rfl⟩ := List.getElem_of_mem hx
    have hg := List.getElem?_eq_getElem hj2
    rw [(sg_get j _ hg).1, hj j (sg_get j _ hg).2]
    simp
  unfold signT signG
  rw [this]

set_option maxHeartbeats 1600000 in
set_option maxRecDepth 100000 in
theorem sign_any (s : ByteArray) (w : World) (hg : Gl w) :
    Calls Tryz.prog 47 #[.string s] w fun e w' => e = .returned (tkR (signT s.data.toList)) ∧ Below w.heap.size w w' := by
  obtain ⟨z0, g0, g1, g2, g3, g4, g5, g6, g7, g8, g9⟩ := hg.cells
  go_enter Tryz.func47, Tryz.ntmps47
  go_wp2
  rw [show (#[Value.string ⟨#[40]⟩, .string ⟨#[41]⟩, .string ⟨#[44]⟩, .string ⟨#[124]⟩, .string ⟨#[38]⟩, .string ⟨#[45]⟩, .string ⟨#[33]⟩, .string ⟨#[94]⟩, .string ⟨#[46, 46]⟩, .string ⟨#[58, 58]⟩] : Array Value) = sgV from rfl]
  clear g0 g1 g2 g3 g4 g5 g6 g7 g8 g9
  go_loop [7] (fun i => ∃ k : Nat, k ≤ 10 ∧ i = .int .i64 k ∧ Hid (∀ j, j < k → (sgAt j).isPrefixOf s.data.toList = false)) (fun i => 10 - (intOf i).toNat)
  case atStart => exact ⟨0, Nat.zero_le _, rfl, fun j hj => by omega⟩
  case round =>
    obtain ⟨k, hk, rfl, HK⟩ := hrel
    by_cases hlt : k < 10
    · have hidx := fun w => sg_idx k hlt w
      have hlen := sg_len k hlt
      obtain ⟨x, hx⟩ : ∃ x : ByteArray, x = ⟨(sgAt k).toArray⟩ := ⟨_, rfl⟩
      have hxs : x.size = (sgAt k).length := by rw [hx]; rfl
      have hxd : x.data.toList = sgAt k := by rw [hx]
      rw [← hx] at hidx
      have HX : Hid (x = _) := hx
      have HS : Hid (x.size = _) := hxs
      have hpre := fun w => Any.strings_HasPrefix layHasPrefix s x w
      rw [show Lib.hasPrefix s.data.toList x.data.toList = (sgAt k).isPrefixOf s.data.toList by rw [hxd]; rfl] at hpre
      have hx2 : x.size ≤ 2 := by omega
      clear hx hxs hxd hlen
      cases hp : (sgAt k).isPrefixOf s.data.toList with
      | true =>
        rw [hp] at hpre
        have HT : Hid (signT s.data.toList = _) := sign_hit _ k hlt hp HK.out
        clear hp
        go_wp2_with (go_at_call 60; refine (hpre _).mono ?_; rintro e w' ⟨rfl, rfl⟩)
        refine bodyPost_ret (v := .tuple #[.agg #[.int .i64 5, .string x, .int .i64 0, .int .u64 0, .int .i64 0], .int .i64 x.size]) ?_ rfl ⟨by rw [HT.out, HS.out, HX.out]; rfl, ?_⟩
        · simp [results, Tryz.f47]
          go_simp
        · exact (Below.refl _ w).alloc (Nat.le_refl _) _
      | false =>
        rw [hp] at hpre
        have HT : Hid (∀ j, j < k + 1 → (sgAt j).isPrefixOf s.data.toList = false) := by
          intro j hj
          by_cases q : j = k
          · rw [q]; exact hp
          · exact HK.out j (by omega)
        clear hp
        go_wp2_with (go_at_call 60; refine (hpre _).mono ?_; rintro e w' ⟨rfl, rfl⟩)
        go_round
        case rel => exact ⟨k + 1, by omega, by go_num, HT⟩
        case measure => simp [intOf]; omega
    · obtain rfl : k = 10 := by omega
      have HT : Hid (signT s.data.toList = _) := sign_miss _ HK.out
      go_wp2_with fail
      refine bodyPost_ret (v := .tuple #[.agg #[.int .i64 0, .string ⟨#[]⟩, .int .i64 0, .int .u64 0, .int .i64 0], .int .i64 0]) ?_ rfl ⟨by rw [HT.out]; rfl, (Below.refl _ w).alloc (Nat.le_refl _) _⟩
      simp [results, Tryz.f47]
      go_simp

theorem byte39 (h : 0 < ({ data := #[39] } : ByteArray).size) : (({ data := #[39] } : ByteArray)[0]'h).toNat = 39 := rfl
theorem byte35 (h : 0 < ({ data := #[35] } : ByteArray).size) : (({ data := #[35] } : ByteArray)[0]'h).toNat = 35 := rfl

/-- A call of one of the functions for the kinds, its answer by letters. -/
theorem by_letters {f : Nat} {s : ByteArray} {r : Tk × Nat} {k m i p : Int} {x : ByteArray} {n : Nat} (hr : r = (⟨k, x.data.toList, m, i, p⟩, n)) {w : World}
    (h : Calls Tryz.prog f #[.string s] w fun e w' => e = .returned (tkR r) ∧ Below w.heap.size w w') :
    Calls Tryz.prog f #[.string s] w fun e w' => e = .returned (.tuple #[.agg #[.int .i64 k, .string x, .int .i64 m, .int .u64 i, .int .i64 p], .int .i64 (n : Int)]) ∧ Below w.heap.size w w' := by
  subst hr
  exact h

set_option maxHeartbeats 1600000 in
set_option maxRecDepth 100000 in
theorem first_any (s : ByteArray) (hs : s.size ≤ 1024) (h0 : 0 < s.size) (w : World) (hg : Gl w) :
    Calls Tryz.prog 30 #[.string s] w fun e w' => e = .returned (tkR (tok1 s.data.toList)) ∧ Below w.heap.size w w' := by
  obtain ⟨c, r, hcr⟩ : ∃ c r, s.data.toList = c :: r := by
    cases hd : s.data.toList with
    | nil => rw [bsize, hd] at h0; simp at h0
    | cons c r => exact ⟨c, r, rfl⟩
  have hc0 : s[0] = c := by
    have := get_byte s 0 h0
    rw [hcr] at this
    simpa using this.symm
  have ht : tok1 s.data.toList = if isLo c then nameT s.data.toList else if isDi c then numT s.data.toList else if c.toNat = 39 then textT s.data.toList else if c.toNat = 35 then hashT s.data.toList else signT s.data.toList := by
    rw [hcr]; rfl
  obtain ⟨⟨⟨k, xl, m, i, p⟩, n⟩, hr⟩ : ∃ r, tok1 s.data.toList = r := ⟨_, rfl⟩
  obtain ⟨x, hx⟩ : ∃ x : ByteArray, x.data.toList = xl := ⟨⟨xl.toArray⟩, rfl⟩
  have hlo := fun w => lo_any s[0] w
  have hdi := fun w => di_any s[0] w
  subst hx
  rw [hr]
  have hz : Gl (w.alloc (.cells #[.int .i64 0, .string ⟨#[]⟩, .int .i64 0, .int .u64 0, .int .i64 0] 51)) := hg.below ((Below.refl _ w).alloc (Nat.le_refl _) _)
  have H0 : Hid (0 < s.size ∧ s.size ≤ 1024) := ⟨h0, hs⟩
  have hs1 : (1 : Int) ≤ (s.size : Int) := by omega
  have q39 := byte39 (by decide)
  have q35 := byte35 (by decide)
  by_cases h1 : isLo c = true
  · rw [if_pos h1] at ht
    rw [hc0, h1] at hlo
    have hc := fun w => by_letters (ht.symm.trans hr) (name_any s hs w)
    clear hr ht hdi hz hg
    go_enter Tryz.func30, Tryz.ntmps30
    go_wp2_with (first
      | (go_at_call 41; refine (hlo _).mono ?_; rintro e w' ⟨rfl, rfl⟩)
      | (go_at_call 42; refine (hc _).mono ?_; rintro e w2 ⟨rfl, hb⟩; obtain ⟨⟨c0, c1, c2, c3, c4⟩, ⟨f0, f1, f2, f3, f4⟩, HB⟩ := ten5 (hb); clear hb))
    refine bodyPost_ret (v := .tuple #[.agg #[.int .i64 k, .string x, .int .i64 m, .int .u64 i, .int .i64 p], .int .i64 n]) ?_ rfl ⟨rfl, set5 HB.out _ (Nat.le_refl _) _ _ _ _ _⟩
    simp [results, Tryz.f30]
    go_simp
  have h1' : isLo c = false := by simpa using h1
  rw [if_neg h1] at ht
  rw [hc0, h1'] at hlo
  by_cases h2 : isDi c = true
  · rw [if_pos h2] at ht
    have hc := fun w => by_letters (ht.symm.trans hr) (num_any s hs h0 (by rw [hc0]; exact h2) w)
    rw [hc0, h2] at hdi
    clear hr ht hz hg
    go_enter Tryz.func30, Tryz.ntmps30
    go_wp2_with (first
      | (go_at_call 41; refine (hlo _).mono ?_; rintro e w' ⟨rfl, rfl⟩)
      | (go_at_call 43; refine (hdi _).mono ?_; rintro e w' ⟨rfl, rfl⟩)
      | (go_at_call 44; refine (hc _).mono ?_; rintro e w2 ⟨rfl, hb⟩; obtain ⟨⟨c0, c1, c2, c3, c4⟩, ⟨f0, f1, f2, f3, f4⟩, HB⟩ := ten5 (hb); clear hb))
    refine bodyPost_ret (v := .tuple #[.agg #[.int .i64 k, .string x, .int .i64 m, .int .u64 i, .int .i64 p], .int .i64 n]) ?_ rfl ⟨rfl, set5 HB.out _ (Nat.le_refl _) _ _ _ _ _⟩
    simp [results, Tryz.f30]
    go_simp
  have h2' : isDi c = false := by simpa using h2
  rw [if_neg h2] at ht
  rw [hc0, h2'] at hdi
  by_cases h3 : c.toNat = 39
  · rw [if_pos h3] at ht
    have hc := fun w => by_letters (ht.symm.trans hr) (text_any s hs h0 w)
    have e3 : ((c.toNat : Int) == 39) = true := by rw [h3]; rfl
    have e3' : (c.toNat == 39) = true := by rw [h3]; rfl
    clear hr ht hz hg h3 h1 h2 hcr
    go_enter Tryz.func30, Tryz.ntmps30
    go_wp2_with (first
      | (go_at_call 41; refine (hlo _).mono ?_; rintro e w' ⟨rfl, rfl⟩)
      | (go_at_call 43; refine (hdi _).mono ?_; rintro e w' ⟨rfl, rfl⟩))
    go_quiet (fail)
    go_wp2_with (go_at_call 45; refine (hc _).mono ?_; rintro e w2 ⟨rfl, hb⟩; obtain ⟨⟨c0, c1, c2, c3, c4⟩, ⟨f0, f1, f2, f3, f4⟩, HB⟩ := ten5 ((belowD _ _).trans hb); clear hb)
    refine bodyPost_ret (v := .tuple #[.agg #[.int .i64 k, .string x, .int .i64 m, .int .u64 i, .int .i64 p], .int .i64 n]) ?_ rfl ⟨rfl, set5 HB.out _ (Nat.le_refl _) _ _ _ _ _⟩
    simp [results, Tryz.f30]
    go_simp
  rw [if_neg h3] at ht
  have e3 : ((c.toNat : Int) == 39) = false := by rw [beq_eq_false_iff_ne]; omega
  have e3' : (c.toNat == 39) = false := by rw [beq_eq_false_iff_ne]; exact h3
  by_cases h4 : c.toNat = 35
  · rw [if_pos h4] at ht
    have hc := fun w => by_letters (ht.symm.trans hr) (hash_any s hs w)
    have e4 : ((c.toNat : Int) == 35) = true := by rw [h4]; rfl
    have e4' : (c.toNat == 35) = true := by rw [h4]; rfl
    clear hr ht hz hg h3 h4 h1 h2 hcr
    go_enter Tryz.func30, Tryz.ntmps30
    go_wp2_with (first
      | (go_at_call 41; refine (hlo _).mono ?_; rintro e w' ⟨rfl, rfl⟩)
      | (go_at_call 43; refine (hdi _).mono ?_; rintro e w' ⟨rfl, rfl⟩))
    go_quiet (fail)
    go_wp2
    go_quiet (fail)
    go_wp2_with (go_at_call 46; refine (hc _).mono ?_; rintro e w2 ⟨rfl, hb⟩; obtain ⟨⟨c0, c1, c2, c3, c4⟩, ⟨f0, f1, f2, f3, f4⟩, HB⟩ := ten5 ((belowD _ _).trans hb); clear hb)
    refine bodyPost_ret (v := .tuple #[.agg #[.int .i64 k, .string x, .int .i64 m, .int .u64 i, .int .i64 p], .int .i64 n]) ?_ rfl ⟨rfl, set5 HB.out _ (Nat.le_refl _) _ _ _ _ _⟩
    simp [results, Tryz.f30]
    go_simp
  · rw [if_neg h4] at ht
    have e4 : ((c.toNat : Int) == 35) = false := by rw [beq_eq_false_iff_ne]; omega
    have e4' : (c.toNat == 35) = false := by rw [beq_eq_false_iff_ne]; exact h4
    have hc := fun m => by_letters (ht.symm.trans hr) (sign_any s _ (hz.below (belowD _ m)))
    clear hr ht hz hg
    go_enter Tryz.func30, Tryz.ntmps30
    go_wp2_with (first
      | (go_at_call 41; refine (hlo _).mono ?_; rintro e w' ⟨rfl, rfl⟩)
      | (go_at_call 43; refine (hdi _).mono ?_; rintro e w' ⟨rfl, rfl⟩))
    go_quiet (fail)
    go_wp2
    go_quiet (fail)
    go_wp2_with (go_at_call 47; refine (hc _).mono ?_; rintro e w2 ⟨rfl, hb⟩; obtain ⟨⟨c0, c1, c2, c3, c4⟩, ⟨f0, f1, f2, f3, f4⟩, HB⟩ := ten5 ((belowD _ _).trans hb); clear hb)
    refine bodyPost_ret (v := .tuple #[.agg #[.int .i64 k, .string x, .int .i64 m, .int .u64 i, .int .i64 p], .int .i64 n]) ?_ rfl ⟨rfl, set5 HB.out _ (Nat.le_refl _) _ _ _ _ _⟩
    simp [results, Tryz.f30]
    go_simp

end Go.Proofs.YtijchmcajhdcoaaGreatDoor
