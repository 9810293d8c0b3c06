/-
  lex.Scan by a contract: the tokens of a text, or the place of what is none. No condition but that the list of signs holds what the program's text lays there.
-/
import Derived.Test.YtijchmcajhdcoaaGreatDoorJFst
import Derived.Test.YtijchmcajhdcoaaGreatDoorJApp
namespace Go.Proofs.YtijchmcajhdcoaaGreatDoor
open Go.RowKit

/-- Tokens in memory: the program's and the document's lie alike. -/
def encT : Enc Tk := ⟨fun t => [.int .i64 t.kind, .string ⟨t.text.toArray⟩, .int .i64 t.num, .int .u64 t.id, .int .i64 t.pos], 5, fun _ => rfl, by decide, by intro x u h; simp at h; rcases h with rfl | rfl | rfl | rfl | rfl <;> rfl⟩

theorem info39 : (Tryz.prog.info? 51).map (fun i => (i.zero, i.size, i.bytes)) = some (some (.agg #[.int .i64 0, .string ⟨#[]⟩, .int .i64 0, .int .u64 0, .int .i64 0]), 5, 48) := by kernel_rfl

theorem info45 : (Tryz.prog.info? 60).map (fun i => (i.zero, i.size, i.bytes)) = some (some (.agg #[.int .i64 0, .string ⟨#[]⟩, .int .i64 0, .int .u64 0, .int .i64 0]), 5, 48) := by kernel_rfl

/-- What is so far: the tokens up to a place. -/
structure Up (l : Bs) (w : World) (t : TypeId) (wr : World) (v : Value) (ts : List Tk) (p : Nat) : Prop where
  own : OwnG encT t wr w.heap.size v ts
  bel : Below w.heap.size w wr
  few : ts.length ≤ p
  goes : ∀ us e, Sc p (l.drop p) us e → Sc 0 l (ts ++ us) e

theorem Up.start (l : Bs) (w : World) (t : TypeId) : Up l w t w (.slice none 0 0) [] 0 := ⟨OwnG.nil _ _ _ _, Below.refl _ _, Nat.le_refl _, fun us e h => by simpa using h⟩

theorem drop_at {l : Bs} {p : Nat} {c : UInt8} (h : l[p]? = some c) : l.drop p = c :: l.drop (p + 1) := by
  obtain ⟨hlt, rfl⟩ := List.getElem?_eq_some_iff.1 h
  exact List.drop_eq_getElem_cons hlt

theorem Up.skip {l : Bs} {w wr : World} {t : TypeId} {v : Value} {ts : List Tk} {p : Nat} {c : UInt8} (h : Up l w t wr v ts p) (hc : l[p]? = some c) (hb : isBl c = true) : Up l w t wr v ts (p + 1) :=
  ⟨h.own, h.bel, by have := h.few; omega, fun us e k => h.goes us e (by rw [drop_at hc]; exact .skip hb k)⟩

theorem Up.bad {l : Bs} {w wr : World} {t : TypeId} {v : Value} {ts : List Tk} {p : Nat} {c : UInt8} (h : Up l w t wr v ts p) (hc : l[p]? = some c) (hb : isBl c = false) (hz : (tok1 (l.drop p)).2 = 0) : Sc 0 l ts (some p) := by
  have := h.goes [] (some p) (by rw [drop_at hc] at hz ⊢; exact .bad hb hz)
  simpa using this

theorem Up.done {l : Bs} {w wr : World} {t : TypeId} {v : Value} {ts : List Tk} {p : Nat} (h : Up l w t wr v ts p) (hp : l.length ≤ p) : Sc 0 l ts none := by
  have := h.goes [] none (by rw [List.drop_eq_nil_of_le hp]; exact .done p)
  simpa using this

/-- One token more. -/
theorem Up.tok {l : Bs} {w wr : World} {t : TypeId} {v : Value} {ts : List Tk} {p : Nat} {c : UInt8} (h : Up l w t wr v ts p) (hc : l[p]? = some c) (hb : isBl c = false) {T : Tk} {n : Nat} (hz : tok1 (l.drop p) = (T, n)) (h0 : 0 < n)
    {v' : Value} {w' : World} (ho : OwnG encT t w' w.heap.size v' (ts ++ [T.at p])) (hw : Below w.heap.size w w') : Up l w t w' v' (ts ++ [T.at p]) (p + n) := by
  refine ⟨ho, hw, by have := h.few; simp; omega, fun us e k => ?_⟩
  have := h.goes (T.at p :: us) e (by
    have hz2 := hz
    rw [drop_at hc] at hz2 ⊢
    have e1 : T.at p = (tok1 (c :: l.drop (p + 1))).1.at p := by rw [hz2]
    rw [e1]
    refine .tok hb (by rw [hz2]) h0 ?_
    rw [← drop_at hc, List.drop_drop]
    exact k)
  simpa using this

set_option maxHeartbeats 400000 in
set_option maxRecDepth 100000 in
theorem scan_long (s : ByteArray) (hm : s.size ≤ 9223372036854775807) (h : 1024 < s.size) (w : World) :
    Calls Tryz.prog 11 #[.string s] w fun e w' => e = .returned (.tuple #[.slice none 0 0, .int .i64 0, .int .i64 4]) ∧ w' = w := by
  go_enter Tryz.func11, Tryz.ntmps11
  go_wp2
  refine bodyPost_ret (v := .tuple #[.slice none 0 0, .int .i64 0, .int .i64 4]) ?_ rfl ⟨rfl, rfl⟩
  simp [results, Tryz.f11]

/-- What Scan tells. -/
def Told (l : Bs) (w : World) (t : TypeId) (w' : World) (v : Value) (at' code : Int) (ts : List Tk) (e : Option Nat) : Prop :=
  Sc 0 l ts e ∧ Below w.heap.size w w' ∧ match e with
    | none => at' = 0 ∧ code = 0 ∧ OwnG encT t w' w.heap.size v ts
    | some p => at' = p ∧ code = 30 ∧ v = .slice none 0 0

set_option maxHeartbeats 1600000 in
set_option maxRecDepth 100000 in
theorem scan_short (s : ByteArray) (hs : s.size ≤ 1024) (w : World) (hg : Gl w) :
    Calls Tryz.prog 11 #[.string s] w fun e w' => ∃ v a c ts er, e = .returned (.tuple #[v, .int .i64 a, .int .i64 c]) ∧ Told s.data.toList w 51 w' v a c ts er := by
  have HG : Hid (Gl w) := hg
  clear hg
  go_enter Tryz.func11, Tryz.ntmps11
  go_wp2
  go_loopg [5, 6] s.size (fun g v i wr => ∃ (p : Nat) (ts : List Tk), i = .int .i64 p ∧ p + g = s.size ∧ Hid (Up s.data.toList w 51 wr v ts p))
  case atStart => exact ⟨0, [], rfl, by omega, Up.start _ _ _⟩
  case round =>
    obtain ⟨p, ts, rfl, hp, HU⟩ := hrel
    by_cases hlt : p < s.size
    · have hget := get_byte s p hlt
      have HC : Hid (_ = _) := hget
      clear hget
      obtain ⟨c, hc⟩ : ∃ c, s[p] = c := ⟨_, rfl⟩
      rw [hc] at HC
      have hbl := fun w => bl_any c w
      have hpi : (p : Int) < (s.size : Int) := by omega
      cases hb : isBl c with
      | true =>
        rw [hb] at hbl
        go_wp2_with (go_at_call 29; refine (hbl _).mono ?_; rintro e w' ⟨rfl, rfl⟩)
        go_roundg (gk - 1)
        case measure => omega
        case rel => exact ⟨p + 1, ts, by go_num, by omega, HU.out.skip HC.out hb⟩
      | false =>
        rw [hb] at hbl
        have hx := ext_drop s p
        obtain ⟨x, hxe⟩ : ∃ x, s.extract p s.size = x := ⟨_, rfl⟩
        rw [hxe] at hx
        have hxd : x.data.toList = s.data.toList.drop p := by rw [hx]
        have hxs : x.size = s.size - p := by rw [bsize, hxd, List.length_drop, ← bsize]
        have hle := tok1_le (s.data.toList.drop p)
        rw [List.length_drop, ← bsize] at hle
        obtain ⟨⟨⟨k, yl, m, i, q⟩, n⟩, hr⟩ : ∃ r, tok1 (s.data.toList.drop p) = r := ⟨_, rfl⟩
        obtain ⟨y, hy⟩ : ∃ y : ByteArray, y.data.toList = yl := ⟨⟨yl.toArray⟩, rfl⟩
        subst hy
        have hgr := HG.out.below HU.out.bel
        have hr' : tok1 x.data.toList = (⟨k, y.data.toList, m, i, q⟩, n) := by rw [hxd]; exact hr
        have hfs := by_letters hr' (first_any x (by omega) (by omega) wr hgr)
        rw [hr] at hle
        simp only at hle
        have HR : Hid (_ = _) := hr
        clear hx hxd hxs hr hgr hr'
        by_cases hn : n = 0
        · subst hn
          go_wp2_with (first
            | (go_at_call 29; refine (hbl _).mono ?_; rintro e w' ⟨rfl, rfl⟩)
            | (go_at_call 30; refine hfs.mono ?_; rintro e w2 ⟨rfl, hb2⟩))
          refine bodyPost_ret (v := .tuple #[.slice none 0 0, .int .i64 p, .int .i64 30]) ?_ rfl ⟨_, _, _, ts, some p, rfl, HU.out.bad HC.out hb (by rw [HR.out]), ?_, rfl, rfl, rfl⟩
          · simp [results, Tryz.f11]
          · exact (HU.out.bel.trans (hb2.mono HU.out.bel.size)).alloc (by have := HU.out.bel.size; have := hb2.size; omega) _
        · have m0 : ((n : Int) == 0) = false := by rw [beq_eq_false_iff_ne]; omega
          have m1 : ¬ (n : Int) = 0 := by omega
          go_wp2_with (first
            | (go_at_call 29; refine (hbl _).mono ?_; rintro e w' ⟨rfl, rfl⟩)
            | (go_at_call 30; refine hfs.mono ?_; rintro e w2 ⟨rfl, hb2⟩)
            | (at_builtin; refine appG_one encT 51 42 48 _ rfl info39 Tryz.underlying42 rfl (.tmp 34) (.tmp 36) rfl w.heap.size _ ts (Tk.at ⟨k, y.data.toList, m, i, q⟩ p) 51 rfl ((HU.out.own.below hb2).below (bz1 _ _)) (by rw [World.size_alloc]; rfl) (by have := HU.out.few; omega) (by have := HU.out.few; simp only [maxLen]; omega) (by have := HU.out.bel.size; have := hb2.size; simp; omega) _ rfl ?_; intro v3 w3 ho3 hb3 _ _))
          go_roundg (gk - n)
          case measure => omega
          case rel =>
            have b1 := HU.out.bel.trans (hb2.mono HU.out.bel.size)
            exact ⟨p + n, _, by go_num, by omega, HU.out.tok HC.out hb HR.out (by omega) ho3 ((b1.trans ((bz1 w2 _).mono b1.size)).trans hb3)⟩
    · obtain rfl : p = s.size := by omega
      obtain ⟨ao, cap, hv, _, _, _, _⟩ := HU.out.own.form
      subst hv
      go_wp2
      refine bodyPost_ret (v := .tuple #[.slice ao ts.length cap, .int .i64 0, .int .i64 0]) ?_ rfl ⟨_, _, _, ts, none, rfl, HU.out.done (by rw [← bsize]; exact Nat.le_refl _), HU.out.bel, rfl, rfl, HU.out.own⟩
      simp [results, Tryz.f11]

end Go.Proofs.YtijchmcajhdcoaaGreatDoor
