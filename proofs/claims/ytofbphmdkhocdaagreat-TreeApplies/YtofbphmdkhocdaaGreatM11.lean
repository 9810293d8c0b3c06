/-
  Several texts, laid together.
-/
import Derived.Test.YtofbphmdkhocdaaGreatM10
import Derived.Test.YtofbphmdkhocdaaGreatM01

/-
  path.Limit by a contract: the paths of the set and the error, of at most 16 texts or of more. No condition but that no text is longer than any text can be.
-/
namespace Go.Proofs.YtofbphmdkhocdaaGreat
open Go.RowKit

/-- One text more, if it is under none of those that are there. -/
def keep (kept : List Bs) (p : Bs) : List Bs := if kept.any (under p) then kept else kept ++ [p]
def red (l : List Bs) : List Bs := l.foldl keep []
def limS (ps : List Bs) : List Bs := if ps.length > 16 then [] else if ps.all isPath then red (srt ps) else []
def limE (ps : List Bs) : Int := if ps.length > 16 then 4 else if ps.all isPath then 0 else 2

theorem fold_step {ss : List Bs} {i : Nat} (h : i < ss.length) : red (ss.take (i + 1)) = keep (red (ss.take i)) (el ss i) := by
  rw [List.take_succ_eq_append_getElem h, red, List.foldl_append, ← el_get h]
  rfl

theorem keep_len : ∀ (l a : List Bs), (l.foldl keep a).length ≤ a.length + l.length
  | [], a => by simp
  | p :: t, a => by
    have := keep_len t (keep a p)
    have h : (keep a p).length ≤ a.length + 1 := by unfold keep; split <;> simp
    simp only [List.foldl_cons, List.length_cons]
    omega
theorem red_len (l : List Bs) : (red l).length ≤ l.length := by have := keep_len l []; simpa [red] using this

theorem with_len (l : List Bs) (s : Bs) : (withB l s).length ≤ l.length + 1 := by
  unfold withB
  split
  · omega
  · have : ∀ l : List Bs, (insB s l).length = l.length + 1 := by
      intro l
      induction l with
      | nil => rfl
      | cons x t ih => by_cases h : s < x <;> simp [insB, h, ih]
    rw [this]
    omega
theorem srt_len (l : List Bs) : (srt l).length ≤ l.length := by
  have : ∀ (l a : List Bs), (l.foldl withB a).length ≤ a.length + l.length := by
    intro l
    induction l with
    | nil => simp
    | cons x t ih =>
      intro a
      have h1 := ih (withB a x)
      have h2 := with_len a x
      simp only [List.foldl_cons, List.length_cons]
      omega
  have := this l []
  simpa [srt] using this

theorem below_set {W w : World} {B b : Nat} (h : Below B W w) (hB : B ≤ b) (hW : B ≤ W.heap.size) (u : Value) : Below B W (w.setCell ⟨b, 0, none⟩ u) :=
  h.trans ((Turned.refl (fun k => k = b) w).setCell (.inl rfl) u |>.below (Nat.le_trans hW h.size) (fun k hk q => by omega))

theorem own_set {w : World} {B b : Nat} {v : Value} {ss : List Bs} (h : Own w B v ss) (hb : b < B) (u : Value) : Own (w.setCell ⟨b, 0, none⟩ u) B v ss :=
  ownsRow_turned (S := fun k => k = b) h ((Turned.refl (fun k => k = b) w).setCell (.inl rfl) u) (fun g hg q => by have := (h.lt g hg).1; omega)

theorem own_low {w : World} {B B' : Nat} {v : Value} {ss : List Bs} (h : Own w B v ss) (hb : B' ≤ B) : Own w B' v ss := own_base h hb

theorem all_step {ss : List Bs} {p : Bs → Bool} {i : Nat} (h : i < ss.length) (ht : (ss.take i).all p = true) (hx : p (el ss i) = true) : (ss.take (i + 1)).all p = true := by
  rw [List.take_succ_eq_append_getElem h, List.all_append, ht, ← el_get h]
  simp [hx]
theorem all_miss {ss : List Bs} {p : Bs → Bool} {i : Nat} (h : i < ss.length) (hx : p (el ss i) = false) : ss.all p = false :=
  List.all_eq_false.2 ⟨_, el_mem h, by simp [hx]⟩

set_option maxHeartbeats 800000 in
set_option maxRecDepth 100000 in
theorem limit_long {ao : Option Addr} {c n : Nat} (w : World) (hn : 16 < n) :
    Calls Tryz.prog 7 #[.slice ao n c] w fun e w' => e = .returned (.tuple #[.agg #[.slice none 0 0], .int .i64 4]) ∧ Below w.heap.size w w' := by
  have h : (16 : Int) < n := by omega
  go_enter Tryz.func7, Tryz.ntmps7
  go_wp2
  refine bodyPost_ret (v := .tuple #[.agg #[.slice none 0 0], .int .i64 4]) ?_ rfl ⟨rfl, ?_⟩
  · simp [results, Tryz.f7]
    go_simp
  · exact (Below.refl _ w).alloc (Nat.le_refl _) _

set_option maxHeartbeats 1600000 in
set_option maxRecDepth 100000 in
theorem limit_walk {ao : Option Addr} {c n : Nat} {ps : List Bs} (w : World) (ha : Rd w ao ps) (hl : ps.length = n) (hn : n ≤ 16) (hm : ∀ x ∈ ps, x.length ≤ 9223372036854775807) :
    Calls Tryz.prog 7 #[.slice ao n c] w fun e w' => ∃ v', e = .returned (.tuple #[.agg #[v'], .int .i64 (limE ps)]) ∧ Own w' w.heap.size v' (limS ps) ∧ Below w.heap.size w w' := by
  have H : Hid (Rd w ao ps ∧ ps.length = n ∧ ∀ x ∈ ps, x.length ≤ 9223372036854775807) := ⟨ha, hl, hm⟩
  clear ha hl hm
  have hn' : ¬ (16 : Int) < n := by omega
  go_enter Tryz.func7, Tryz.ntmps7
  go_wp2_with fail
  go_loopg [16] n (fun k v wr => ∃ (i : Nat), v = .int .i64 i ∧ i + k = n ∧ Hid ((ps.take i).all isPath = true ∧ Below w.heap.size w wr ∧ w.heap.size < wr.heap.size ∧ wr.cell? ⟨w.heap.size, 0, none⟩ = some (.slice none 0 0) ∧ wr.frozen? ⟨w.heap.size, 0, none⟩ = false))
  case atStart => exact ⟨0, rfl, by omega, by simp, (Below.refl _ w).alloc (Nat.le_refl _) _, by simp, by simp, by simp⟩
  case round =>
    obtain ⟨i, rfl, hi, HT⟩ := hrel
    by_cases hin : i < n
    · have id : (i : Int) < (n : Int) := by omega
      obtain ⟨y, hy⟩ : ∃ y, el ps i = y := ⟨_, rfl⟩
      have R := H.out.1.below HT.out.2.1
      obtain ⟨b1, o1, rfl, hlt1, hc1⟩ := R (by rw [H.out.2.1]; omega)
      have c1 := hc1 i (by rw [H.out.2.1]; omega)
      rw [hy] at c1
      have hyl : y.length ≤ 9223372036854775807 := by rw [← hy]; exact H.out.2.2 _ (el_mem (by rw [H.out.2.1]; omega))
      have X : Hid (el ps i = y) := hy
      obtain ⟨_, _, hsz, hcell, hfz⟩ := HT.out
      clear R hc1 hy
      obtain ⟨f, hf⟩ : ∃ f, isPath y = f := ⟨_, rfl⟩
      have hck := pcheck_at ⟨y.toArray⟩ (by rw [bsize]; exact hyl) f hf
      have F : Hid (isPath y = f) := hf
      clear hf
      cases f with
      | false =>
        rw [show err false = 2 from rfl] at hck
        go_wp2_with fail
        refine (hck _).mono ?_
        rintro e w' ⟨rfl, m, rfl⟩
        go_wp2
        refine bodyPost_ret (v := .tuple #[.agg #[.slice none 0 0], .int .i64 2]) ?_ rfl ?_
        · simp [results, Tryz.f7]
          go_simp
        · have hno : ps.all isPath = false := all_miss (i := i) (by rw [H.out.2.1]; exact hin) (by rw [X.out]; exact F.out)
          have h16 : ¬ ps.length > 16 := by rw [H.out.2.1]; omega
          have e1 : limE ps = 2 := by rw [limE, if_neg h16, hno]; rfl
          have e2 : limS ps = [] := by rw [limS, if_neg h16, hno]; rfl
          rw [e1, e2]
          exact ⟨_, rfl, Own.nil _ _, below_set (below_drewN HT.out.2.1 m) (Nat.le_refl _) (Nat.le_refl _) _⟩
      | true =>
        rw [show err true = 0 from rfl] at hck
        go_wp2_with fail
        refine (hck _).mono ?_
        rintro e w' ⟨rfl, m, rfl⟩
        go_wp2
        go_roundg (gk - 1)
        case measure => omega
        case rel => exact ⟨i + 1, by go_num, by omega, all_step (by rw [H.out.2.1]; exact hin) HT.out.1 (by rw [X.out]; exact F.out), below_drewN HT.out.2.1 m, hsz, hcell, hfz⟩
    · obtain rfl : i = n := by omega
      have HA : ps.all isPath = true := by have := HT.out.1; rw [List.take_of_length_le (by rw [H.out.2.1]; omega)] at this; exact this
      have h16 : ¬ ps.length > 16 := by rw [H.out.2.1]; omega
      have E : Hid (limE ps = 0 ∧ limS ps = red (srt ps)) := ⟨by rw [limE, if_neg h16, HA]; rfl, by rw [limS, if_neg h16, HA]; rfl⟩
      have hsl := srt_len ps
      have hsort := sort_any (c := c) wr (H.out.1.below HT.out.2.1) H.out.2.1 (by omega)
      obtain ⟨T, hT⟩ : ∃ T, srt ps = T := ⟨_, rfl⟩
      rw [hT] at hsort hsl
      have ET : Hid (srt ps = T) := hT
      have hTl : T.length ≤ 16 := by omega
      clear HA h16 hsl hT
      go_wp2_with fail
      refine hsort.mono ?_
      rintro e w1 ⟨v1, rfl, ho1, hb1⟩
      obtain ⟨ao1, cap1, rfl, _, _, R1⟩ := ho1.form
      obtain ⟨tn, htn⟩ : ∃ tn, T.length = tn := ⟨_, rfl⟩
      have htn16 : tn ≤ 16 := by omega
      have hcw : w1.cell? ⟨w.heap.size, 0, none⟩ = some (.slice none 0 0) := (hb1.cell (p := ⟨w.heap.size, 0, none⟩) HT.out.2.2.1).trans HT.out.2.2.2.1
      have hfw : w1.frozen? ⟨w.heap.size, 0, none⟩ = false := (hb1.frozen (p := ⟨w.heap.size, 0, none⟩) HT.out.2.2.1).trans HT.out.2.2.2.2
      have hlt : w.heap.size < w1.heap.size := Nat.lt_of_lt_of_le HT.out.2.2.1 hb1.size
      have hbw : Below w.heap.size w w1 := HT.out.2.1.trans (hb1.mono HT.out.2.1.size)
      have G : Hid (T.length = tn ∧ Rd w1 ao1 T ∧ Below w.heap.size w w1 ∧ w1.cell? ⟨w.heap.size, 0, none⟩ = some (.slice none 0 0) ∧ w1.frozen? ⟨w.heap.size, 0, none⟩ = false ∧ w.heap.size < w1.heap.size) := ⟨htn, R1, hbw, hcw, hfw, hlt⟩
      rw [htn]
      clear hcw hfw hlt hbw R1 ho1 hb1 hsort htn hTl
      go_wp2_with fail
      go_loopg [7, 30] tn (fun k kv v wr2 => ∃ (i : Nat), v = .int .i64 i ∧ i + k = tn ∧ Hid (Own wr2 w1.heap.size kv (red (T.take i)) ∧ Below w1.heap.size w1 wr2))
      case atStart => exact ⟨0, rfl, by omega, Own.nil _ _, Below.refl _ _⟩
      case round =>
        obtain ⟨i, rfl, hi, HK⟩ := hrel
        obtain ⟨K, hK⟩ : ∃ K, red (T.take i) = K := ⟨_, rfl⟩
        have HK2 := HK.out
        rw [hK] at HK2
        obtain ⟨hok, hbk⟩ := HK2
        obtain ⟨ak, ck, rfl, _, _, Rk⟩ := hok.form
        have hKl : K.length ≤ 16 := by rw [← hK]; have := red_len (T.take i); simp at this; omega
        obtain ⟨nk, hnk⟩ : ∃ nk, K.length = nk := ⟨_, rfl⟩
        have hnk16 : nk ≤ 16 := by omega
        rw [hnk] at hok
        have OK : Hid (Own wr w1.heap.size (.slice ak nk ck) K ∧ K.length = nk ∧ red (T.take i) = K ∧ Below w1.heap.size w1 wr) := ⟨hok, hnk, hK, hbk⟩
        rw [hnk]
        by_cases hin : i < tn
        · have id : (i : Int) < (tn : Int) := by omega
          obtain ⟨y, hy⟩ : ∃ y, el T i = y := ⟨_, rfl⟩
          obtain ⟨bt, ot, rfl, hltt, hct⟩ := (G.out.2.1.below hbk) (by rw [G.out.1]; omega)
          have ct := hct i (by rw [G.out.1]; omega)
          rw [hy] at ct
          have X : Hid (el T i = y) := hy
          have hstep : red (T.take (i + 1)) = keep K y := by rw [fold_step (by rw [G.out.1]; exact hin), hK, hy]
          have hyu : Hid (T.length = tn) := G.out.1
          obtain ⟨f, hf⟩ : ∃ f, K.any (under y) = f := ⟨_, rfl⟩
          have hun := underOne_any (c := ck) y wr Rk hnk (by omega) f hf
          rw [keep, hf] at hstep
          have ST : Hid _ := hstep
          clear hct hy hstep hf Rk hok hbk HK hK hnk
          cases f with
          | true =>
            go_wp2_with fail
            refine hun.mono ?_
            rintro e w' ⟨rfl, hb'⟩
            go_wp2
            go_roundg (gk - 1)
            case measure => omega
            case rel => exact ⟨i + 1, by go_num, by omega, by rw [ST.out]; exact OK.out.1.below hb', OK.out.2.2.2.trans (hb'.mono OK.out.2.2.2.size)⟩
          | false =>
            go_wp2_with fail
            refine hun.mono ?_
            rintro e w' ⟨rfl, hb'⟩
            have O2 : Hid (Own w' w1.heap.size (.slice ak nk ck) K ∧ Below w1.heap.size w1 w') := ⟨OK.out.1.below hb', OK.out.2.2.2.trans (hb'.mono OK.out.2.2.2.size)⟩
            clear hb'
            go_wp2_with (at_builtin; refine app_one rfl (.tmp 38) (.tmp 40) rfl w1.heap.size (.slice ak nk ck) K y _ rfl O2.out.1 rfl (by omega) O2.out.2.size ?_; intro v' w4 hown4 hbel4)
            go_roundg (gk - 1)
            case measure => omega
            case rel => exact ⟨i + 1, by go_num, by omega, by rw [ST.out]; exact hown4, O2.out.2.trans hbel4⟩
        · obtain rfl : i = tn := by omega
          have hcw : wr.cell? ⟨w.heap.size, 0, none⟩ = some (.slice none 0 0) := (hbk.cell (p := ⟨w.heap.size, 0, none⟩) G.out.2.2.2.2.2).trans G.out.2.2.2.1
          have hfw : wr.frozen? ⟨w.heap.size, 0, none⟩ = false := (hbk.frozen (p := ⟨w.heap.size, 0, none⟩) G.out.2.2.2.2.2).trans G.out.2.2.2.2.1
          have hK2 : limS ps = K := by rw [E.out.2, ET.out, ← hK, List.take_of_length_le (by rw [G.out.1]; omega)]
          have KE : Hid (limS ps = K) := hK2
          clear Rk hok hbk HK hK hnk hK2
          go_wp2
          refine bodyPost_ret (v := .tuple #[.agg #[.slice ak nk ck], .int .i64 0]) ?_ rfl ?_
          · simp [results, Tryz.f7]
            go_simp
          · rw [E.out.1, KE.out]
            refine ⟨_, rfl, own_low (own_set OK.out.1 G.out.2.2.2.2.2 _) (Nat.le_of_lt G.out.2.2.2.2.2), below_set (G.out.2.2.1.trans (OK.out.2.2.2.mono (Nat.le_of_lt G.out.2.2.2.2.2))) (Nat.le_refl _) (Nat.le_refl _) _⟩

/-- Limit of whatever texts. -/
theorem limit_any {ao : Option Addr} {c n : Nat} {ps : List Bs} (w : World) (ha : Rd w ao ps) (hl : ps.length = n) (hm : ∀ x ∈ ps, x.length ≤ 9223372036854775807) :
    Calls Tryz.prog 7 #[.slice ao n c] w fun e w' => ∃ v', e = .returned (.tuple #[.agg #[v'], .int .i64 (limE ps)]) ∧ Own w' w.heap.size v' (limS ps) ∧ Below w.heap.size w w' := by
  by_cases h : 16 < n
  · have h16 : ps.length > 16 := by omega
    have e1 : limE ps = 4 := by rw [limE, if_pos h16]
    have e2 : limS ps = [] := by rw [limS, if_pos h16]
    rw [e1, e2]
    refine (limit_long w h).mono ?_
    rintro e w' ⟨rfl, hb⟩
    exact ⟨_, rfl, Own.nil _ _, hb⟩
  · exact limit_walk w ha hl (by omega) hm

end Go.Proofs.YtofbphmdkhocdaaGreat

/-
  The methods of a path set, and Parts, each by a contract: Paths, Has, Any, Parts. No condition but that no text is longer than any text can be.
-/
namespace Go.Proofs.YtofbphmdkhocdaaGreat
open Go.RowKit

set_option maxHeartbeats 800000 in
set_option maxRecDepth 100000 in
theorem paths_any {ao : Option Addr} {c n : Nat} {ss : List Bs} (w : World) (ha : Rd w ao ss) (hl : ss.length = n) (hn : n ≤ 8796093022208) :
    Calls Tryz.prog 11 #[.agg #[.slice ao n c]] w fun e w' => ∃ v', e = .returned v' ∧ Own w' w.heap.size v' ss ∧ Below w.heap.size w w' := by
  have hb0 : Below w.heap.size w (w.alloc (.cells #[.slice ao n c] 26)) := (Below.refl _ w).alloc (Nat.le_refl _) _
  have h := pclone_any (c := c) (w.alloc (.cells #[.slice ao n c] 26)) (ha.below hb0) hl hn
  have B0 : Hid (Below w.heap.size w (w.alloc (.cells #[.slice ao n c] 26))) := hb0
  clear ha hl hb0
  go_enter Tryz.func11, Tryz.ntmps11
  go_wp2_with fail
  refine h.mono ?_
  rintro e w' ⟨v', rfl, ho, hb⟩
  have O : Hid (Own w' (w.alloc (.cells #[.slice ao n c] 26)).heap.size v' ss ∧ Below (w.alloc (.cells #[.slice ao n c] 26)).heap.size (w.alloc (.cells #[.slice ao n c] 26)) w') := ⟨ho, hb⟩
  clear ho hb
  go_wp2
  go_ret
  exact ⟨_, rfl, own_low O.out.1 (by simp), B0.out.trans (O.out.2.mono (by simp))⟩

/-- Has a set of these paths a text? -/
def hasS (ss : List Bs) (x : Bs) : Bool := isPath x && (ss.isEmpty || ss.any (under x))

set_option maxHeartbeats 1600000 in
set_option maxRecDepth 100000 in
theorem has_any {ao : Option Addr} {c n : Nat} {ss : List Bs} (x : Bs) (w : World) (ha : Rd w ao ss) (hl : ss.length = n) (hn : n ≤ 4000000000000000000) (hx : x.length ≤ 9223372036854775807) (f : Bool) (hf : hasS ss x = f) :
    Calls Tryz.prog 33 #[.agg #[.slice ao n c], .string ⟨x.toArray⟩] w fun e w' => e = .returned (.bool f) ∧ Below w.heap.size w w' := by
  subst hf
  have hb0 : Below w.heap.size w (w.alloc (.cells #[.slice ao n c] 26)) := (Below.refl _ w).alloc (Nat.le_refl _) _
  obtain ⟨g, hg⟩ : ∃ g, isPath x = g := ⟨_, rfl⟩
  have hck := pcheck_at ⟨x.toArray⟩ (by rw [bsize]; exact hx) g hg
  rw [hasS, hg]
  cases g with
  | false =>
    rw [show err false = 2 from rfl] at hck
    rw [Bool.false_and]
    have B0 : Hid (Below w.heap.size w (w.alloc (.cells #[.slice ao n c] 26))) := hb0
    clear ha hl hb0 hg
    go_enter Tryz.func33, Tryz.ntmps33
    go_wp2_with fail
    refine (hck _).mono ?_
    rintro e w' ⟨rfl, m, rfl⟩
    go_wp2
    go_ret
    exact ⟨rfl, below_drewN B0.out m⟩
  | true =>
    rw [show err true = 0 from rfl] at hck
    rw [Bool.true_and]
    by_cases h0 : n = 0
    · obtain rfl : ss = [] := List.eq_nil_of_length_eq_zero (by omega)
      subst h0
      have B0 : Hid (Below w.heap.size w (w.alloc (.cells #[.slice ao 0 c] 26))) := hb0
      clear ha hl hb0 hg
      go_enter Tryz.func33, Tryz.ntmps33
      go_wp2_with fail
      refine (hck _).mono ?_
      rintro e w' ⟨rfl, m, rfl⟩
      go_wp2
      go_ret
      exact ⟨rfl, below_drewN B0.out m⟩
    · have h0' : ¬ (n : Int) = 0 := by omega
      have he : ss.isEmpty = false := by cases ss with
        | nil => simp at hl; omega
        | cons => rfl
      rw [he, Bool.false_or]
      obtain ⟨f, hf⟩ : ∃ f, ss.any (under x) = f := ⟨_, rfl⟩
      rw [hf]
      have hun := fun m => underOne_any (c := c) x ((w.alloc (.cells #[.slice ao n c] 26)).drewN m) ((ha.below hb0).below (below_drewN (Below.refl _ _) m)) hl hn f hf
      have B0 : Hid (Below w.heap.size w (w.alloc (.cells #[.slice ao n c] 26))) := hb0
      clear ha hl hb0 hg he hf h0
      go_enter Tryz.func33, Tryz.ntmps33
      go_wp2_with fail
      refine (hck _).mono ?_
      rintro e w' ⟨rfl, m, rfl⟩
      go_wp2_with fail
      refine (hun m).mono ?_
      rintro e w' ⟨rfl, hb⟩
      go_wp2
      go_ret
      refine ⟨?_, (below_drewN B0.out m).trans (hb.mono (by simp))⟩
      show Ending.returned (Value.bool ((n : Int) == 0 || f)) = _
      rw [show ((n : Int) == 0) = false by simpa using h0', Bool.false_or]

theorem enters24 : ∀ args w, (callFunc 33 args).run Tryz.prog w = .ok (.enter 33 args) w := enters_of Tryz.func33 (by kernel_rfl) rfl

/-- The parts of a text that end ahead of its first i bytes' slashes. -/
def pre (p : Bs) : Nat → List Bs
  | 0 => []
  | i + 1 => if p[i]? = some 47 then pre p i ++ [p.take i] else pre p i
def parts (p : Bs) : List Bs := if isPath p then pre p p.length ++ [p] else []

theorem pre_len (p : Bs) : ∀ i, (pre p i).length ≤ i
  | 0 => by simp [pre]
  | i + 1 => by
    have := pre_len p i
    unfold pre
    split
    · simp; omega
    · omega

theorem path_len {p : Bs} (h : isPath p = true) : p.length ≤ 102 := by
  rw [← refIs_eq, refIs, Bool.and_eq_true] at h
  simpa using h.1

set_option maxHeartbeats 1600000 in
set_option maxRecDepth 100000 in
theorem parts_any (p : ByteArray) (hm : p.size ≤ 9223372036854775807) (w : World) :
    Calls Tryz.prog 47 #[.string p] w fun e w' => ∃ v', e = .returned v' ∧ Own w' w.heap.size v' (parts p.data.toList) ∧ Below w.heap.size w w' := by
  obtain ⟨g, hg⟩ : ∃ g, isPath p.data.toList = g := ⟨_, rfl⟩
  have hck := pcheck_at p hm g hg
  have E : Hid (p.size = p.data.toList.length) := bsize p
  rw [parts, hg]
  cases g with
  | false =>
    rw [show err false = 2 from rfl] at hck
    clear hg
    go_enter Tryz.func47, Tryz.ntmps47
    go_wp2_with fail
    refine (hck _).mono ?_
    rintro e w' ⟨rfl, m, rfl⟩
    go_wp2
    go_ret
    exact ⟨_, rfl, Own.nil _ _, below_drewN (Below.refl _ _) m⟩
  | true =>
    rw [show err true = 0 from rfl] at hck
    have hp : p.size ≤ 102 := by rw [E.out]; exact path_len hg
    clear hg
    rw [if_pos rfl]
    go_enter Tryz.func47, Tryz.ntmps47
    go_wp2_with fail
    refine (hck _).mono ?_
    rintro e w' ⟨rfl, m, rfl⟩
    go_wp2_with fail
    go_loopg [3, 10] p.size (fun k kv v wr => ∃ (i : Nat), v = .int .i64 i ∧ i + k = p.size ∧ Hid (Own wr w.heap.size kv (pre p.data.toList i) ∧ Below w.heap.size w wr))
    case atStart => exact ⟨0, rfl, by omega, Own.nil _ _, below_drewN (Below.refl _ _) m⟩
    case round =>
      obtain ⟨i, rfl, hi, HK⟩ := hrel
      have hlen := pre_len p.data.toList i
      by_cases hin : i < p.size
      · have hget : p.data.toList[i]? = some p[i] := by rw [List.getElem?_eq_getElem (by rw [← E.out]; exact hin)]; rfl
        obtain ⟨c, hc⟩ : ∃ c : Int, (p[i].toNat : Int) = c := ⟨_, rfl⟩
        by_cases h47 : c = 47
        · have hpre : pre p.data.toList (i + 1) = pre p.data.toList i ++ [p.data.toList.take i] := by
            have : p[i] = 47 := UInt8.toNat_inj.1 (show p[i].toNat = 47 by omega)
            rw [pre, hget, this, if_pos rfl]
          have PR : Hid _ := hpre
          subst h47
          clear hpre hget
          go_wp2_with fail
          go_quiet (fail)
          go_wp2_with (at_builtin; rw [ext_take]; refine app_one rfl (.tmp 18) (.tmp 22) rfl w.heap.size _ (pre p.data.toList i) (p.data.toList.take i) _ rfl (HK.out.1.below (below_drewN (Below.refl _ _) nq)) rfl (by omega) HK.out.2.size ?_; intro v' w4 hown4 hbel4)
          go_roundg (gk - 1)
          case measure => omega
          case rel => exact ⟨i + 1, by go_num, by omega, by rw [PR.out]; exact hown4, (below_drewN HK.out.2 _).trans hbel4⟩
        · have hpre : pre p.data.toList (i + 1) = pre p.data.toList i := by
            rw [pre, hget, if_neg]
            intro e
            have : p[i] = 47 := by simpa using e
            rw [this] at hc
            exact h47 hc.symm
          have PR : Hid _ := hpre
          clear hpre hget
          go_wp2_with fail
          go_quiet (fail)
          have hne : (c == ((({ data := #[47] } : ByteArray)[0]'(by decide)).toNat : Int)) = false := by
            rw [beq_eq_false_iff_ne]
            exact h47
          go_wp2
          go_roundg (gk - 1)
          case measure => omega
          case rel => exact ⟨i + 1, by go_num, by omega, by rw [PR.out]; exact HK.out.1.below (below_drewN (Below.refl _ _) _), below_drewN HK.out.2 _⟩
      · obtain rfl : i = p.size := by omega
        rw [E.out] at HK hlen
        have hl2 : p.data.toList.length ≤ 102 := by rw [← E.out]; exact hp
        clear hin
        go_wp2_with (at_builtin; refine app_one rfl (.tmp 25) (.tmp 27) rfl w.heap.size _ (pre p.data.toList p.data.toList.length) p.data.toList _ rfl HK.out.1 rfl (by omega) HK.out.2.size ?_; intro v' w4 hown4 hbel4)
        go_ret
        exact ⟨_, rfl, hown4, HK.out.2.trans hbel4⟩

end Go.Proofs.YtofbphmdkhocdaaGreat
