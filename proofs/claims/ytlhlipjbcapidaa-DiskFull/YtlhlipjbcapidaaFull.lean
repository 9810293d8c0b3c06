/-
  DiskFull's walk: whatever the number, it returns true and turns nothing that was there. No condition.
-/
import Derived.Test.YtlhlipjbcapidaaAwake
import Derived.Laws.OwnMore
namespace Go.Proofs.Ytlhlipjbcapidaa
open Go.RowKit

theorem lay_ok {d : Dk} {n own more : Bs} (hn : isName n = true) (hs : own.length + more.length ≤ 262144) (hr : fget d.files n ≠ none ∨ d.files.length < 32) (hd : d.dead = false) (ha : d.armed = false) :
    dlay d n own more = ({ d with writes := d.writes + 1, files := fwith d.files n (own ++ more) }, 0) := by
  unfold dlay
  rw [if_neg (by rw [hn]; simp), if_neg (by
    rintro (q | ⟨q1, q2⟩)
    · omega
    · rcases hr with r | r
      · exact r q1
      · omega), dnext_plain hd ha]
  rfl

theorem lay_over {d : Dk} {n own more : Bs} (hn : isName n = true) (hs : 262144 < own.length + more.length) : dlay d n own more = (d, 7) := by
  unfold dlay
  rw [if_neg (by rw [hn]; simp), if_pos (.inl hs)]

theorem lay_many {d : Dk} {n own more : Bs} (hn : isName n = true) (h1 : fget d.files n = none) (h2 : 32 ≤ d.files.length) : dlay d n own more = (d, 7) := by
  unfold dlay
  rw [if_neg (by rw [hn]; simp), if_pos (.inr ⟨h1, h2⟩)]

/-- The name of the i-th file. -/
def nm (i : Nat) : Bs := [102, UInt8.ofNat (97 + i % 26), UInt8.ofNat (48 + i / 26)]
def fullD : Nat → Dk
  | 0 => dk0
  | i + 1 => (dapp (fullD i) (nm i) [[]].flatten).1
def oneMore : Bs := [111, 110, 101, 46, 109, 111, 114, 101]

theorem full_codes : ∀ i, i < 32 → (dapp (fullD i) (nm i) [[]].flatten).2 = 0 := by decide +kernel
theorem full_ok : ∀ i, (fullD i).ok
  | 0 => Dk.ok0
  | i + 1 => ok_app (full_ok i) _ _
theorem full_writes : ∀ i, (fullD i).writes ≤ i
  | 0 => Nat.le_refl _
  | i + 1 => Nat.le_trans (wr_app _ _ _) (by have := full_writes i; omega)
theorem full_end : (fullD 32).files.length = 32 ∧ (fullD 32).dead = false ∧ (fullD 32).armed = false ∧ fget (fullD 32).files oneMore = none ∧ isName oneMore = true ∧ (fullD 32).writes = 32 := by
  refine ⟨?_, ?_, ?_, ?_, ?_, ?_⟩ <;> decide +kernel
theorem full_files : ∀ f ∈ (fullD 32).files, f.2 = [] := by decide +kernel

theorem nm_cells (i : Nat) (h : i < 32) : #[Value.int .u8 102, .int .u8 (97 + (i : Int) % 26), .int .u8 (48 + (i : Int) / 26)] = ((nm i).map (fun x => Value.int .u8 (x.toNat : Int))).toArray := by
  have h1 : (97 + i % 26) % 256 = 97 + i % 26 := by omega
  have h2 : (48 + i / 26) % 256 = 48 + i / 26 := by omega
  simp [nm, h1, h2]

/-- What the calls behind the names answer. -/
theorem full_steps {D : Dk} (hk : D.ok) (hl : D.files.length = 32) (hd : D.dead = false) (ha : D.armed = false) (hw : D.writes = 32) (h1 : fget D.files oneMore = none) (h2 : isName oneMore = true) {x zs : Bs} (hx : fget D.files x = some []) (hz : zs.length = 262144) :
    dput D oneMore [[]].flatten = (D, 7) ∧ dapp D oneMore [[]].flatten = (D, 7) ∧ dput D x [zs, [1]].flatten = (D, 7) ∧
    ∃ D2 D4 D5 D6 D8 D9, dput D x [zs].flatten = (D2, 0) ∧ dapp D2 x [[1]].flatten = (D2, 7) ∧ dapp D2 x [[]].flatten = (D4, 0) ∧ dtrim D4 x 262143 = (D5, 0) ∧ dapp D5 x [[7]].flatten = (D6, 0) ∧ drem D6 oneMore = (D6, 5) ∧ drem D6 x = (D8, 0) ∧ dput D8 oneMore [[]].flatten = (D9, 0) ∧
      fget D6.files x = some (zs.take 262143 ++ [7]) ∧ (D2.ok ∧ D4.ok ∧ D5.ok ∧ D6.ok ∧ D8.ok) ∧ (D2.writes ≤ 1000 ∧ D4.writes ≤ 1000 ∧ D5.writes ≤ 1000 ∧ D6.writes ≤ 1000 ∧ D8.writes ≤ 1000) := by
  have hn : isName x = true := (hk.each _ (fget_mem hx)).1
  have hne : oneMore ≠ x := fun e => by rw [e, hx] at h1; cases h1
  have z1 : [zs, [1]].flatten.length = 262145 := by simp [hz]
  have z2 : [zs].flatten = zs := by simp
  have z3 : ([[]] : List Bs).flatten = [] := rfl
  refine ⟨lay_many h2 h1 (by omega), lay_many h2 h1 (by omega), lay_over hn (by rw [z1]; simp), ?_⟩
  rw [z2, z3]
  have k2 := lay_ok (d := D) (own := []) (more := zs) hn (by simp [hz]) (.inl (by rw [hx]; simp)) hd ha
  rw [List.nil_append] at k2
  obtain ⟨D2, e2⟩ : ∃ D2 : Dk, ({ D with writes := D.writes + 1, files := fwith D.files x zs } : Dk) = D2 := ⟨_, rfl⟩
  rw [e2] at k2
  have o2 : D2.ok := by have := ok_put hk x zs; unfold dput at this; rw [k2] at this; exact this
  have f2 : fget D2.files x = some zs := by rw [← e2]; show fget (fwith D.files x zs) x = _; rw [fget_with x zs x hk.rise, if_pos rfl]
  have g2 : fget D2.files oneMore = none := by rw [← e2]; show fget (fwith D.files x zs) _ = _; rw [fget_with x zs _ hk.rise, if_neg (fun e => hne e.symm)]; exact h1
  have d2 : D2.dead = false ∧ D2.armed = false ∧ D2.writes = 33 := by rw [← e2]; exact ⟨hd, ha, by show D.writes + 1 = 33; omega⟩
  have k3 : dapp D2 x [[1]].flatten = (D2, 7) := by unfold dapp; rw [f2]; exact lay_over hn (by simp [hz])
  have k4 : dapp D2 x [] = ({ D2 with writes := D2.writes + 1, files := fwith D2.files x (zs ++ []) }, 0) := by unfold dapp; rw [f2]; exact lay_ok hn (by simp [hz]) (.inl (by rw [f2]; simp)) d2.1 d2.2.1
  rw [List.append_nil] at k4
  obtain ⟨D4, e4⟩ : ∃ D4 : Dk, ({ D2 with writes := D2.writes + 1, files := fwith D2.files x zs } : Dk) = D4 := ⟨_, rfl⟩
  rw [e4] at k4
  have o4 : D4.ok := by have := ok_app o2 x []; rw [k4] at this; exact this
  have f4 : fget D4.files x = some zs := by rw [← e4]; show fget (fwith D2.files x zs) x = _; rw [fget_with x zs x o2.rise, if_pos rfl]
  have g4 : fget D4.files oneMore = none := by rw [← e4]; show fget (fwith D2.files x zs) _ = _; rw [fget_with x zs _ o2.rise, if_neg (fun e => hne e.symm)]; exact g2
  have d4 : D4.dead = false ∧ D4.armed = false ∧ D4.writes = 34 := by rw [← e4]; exact ⟨d2.1, d2.2.1, by show D2.writes + 1 = 34; omega⟩
  have k5 : dtrim D4 x 262143 = ({ D4 with writes := D4.writes + 1, files := fwith D4.files x (zs.take 262143) }, 0) := by
    unfold dtrim
    rw [if_neg (by rw [hn]; simp), f4]
    show (if (262143 : Int) < 0 ∨ (zs.length : Int) < 262143 then _ else _) = _
    rw [if_neg (by rw [hz]; omega), dnext_plain d4.1 d4.2.1]
    rfl
  obtain ⟨D5, e5⟩ : ∃ D5 : Dk, ({ D4 with writes := D4.writes + 1, files := fwith D4.files x (zs.take 262143) } : Dk) = D5 := ⟨_, rfl⟩
  rw [e5] at k5
  have o5 : D5.ok := by have := ok_trim o4 x 262143; rw [k5] at this; exact this
  have f5 : fget D5.files x = some (zs.take 262143) := by rw [← e5]; show fget (fwith D4.files x _) x = _; rw [fget_with x _ x o4.rise, if_pos rfl]
  have g5 : fget D5.files oneMore = none := by rw [← e5]; show fget (fwith D4.files x _) _ = _; rw [fget_with x _ _ o4.rise, if_neg (fun e => hne e.symm)]; exact g4
  have d5 : D5.dead = false ∧ D5.armed = false ∧ D5.writes = 35 := by rw [← e5]; exact ⟨d4.1, d4.2.1, by show D4.writes + 1 = 35; omega⟩
  have k6 : dapp D5 x [[7]].flatten = ({ D5 with writes := D5.writes + 1, files := fwith D5.files x (zs.take 262143 ++ [7]) }, 0) := by
    unfold dapp; rw [f5]; exact lay_ok hn (by show (zs.take 262143).length + 1 ≤ _; rw [List.length_take]; omega) (.inl (by rw [f5]; simp)) d5.1 d5.2.1
  obtain ⟨D6, e6⟩ : ∃ D6 : Dk, ({ D5 with writes := D5.writes + 1, files := fwith D5.files x (zs.take 262143 ++ [7]) } : Dk) = D6 := ⟨_, rfl⟩
  rw [e6] at k6
  have o6 : D6.ok := by have := ok_app o5 x [[7]].flatten; rw [k6] at this; exact this
  have f6 : fget D6.files x = some (zs.take 262143 ++ [7]) := by rw [← e6]; show fget (fwith D5.files x _) x = _; rw [fget_with x _ x o5.rise, if_pos rfl]
  have g6 : fget D6.files oneMore = none := by rw [← e6]; show fget (fwith D5.files x _) _ = _; rw [fget_with x _ _ o5.rise, if_neg (fun e => hne e.symm)]; exact g5
  have d6 : D6.dead = false ∧ D6.armed = false ∧ D6.writes = 36 := by rw [← e6]; exact ⟨d5.1, d5.2.1, by show D5.writes + 1 = 36; omega⟩
  have k7 : drem D6 oneMore = (D6, 5) := by unfold drem; rw [if_neg (by rw [h2]; simp), g6]
  have k8 : drem D6 x = ({ D6 with writes := D6.writes + 1, files := fout D6.files x }, 0) := by
    unfold drem
    rw [if_neg (by rw [hn]; simp), f6]
    show (if (dnext D6).2.1 = true then _ else _) = _
    rw [dnext_plain d6.1 d6.2.1]
    rfl
  obtain ⟨D8, e8⟩ : ∃ D8 : Dk, ({ D6 with writes := D6.writes + 1, files := fout D6.files x } : Dk) = D8 := ⟨_, rfl⟩
  rw [e8] at k8
  have o8 : D8.ok := by have := ok_rem o6 x; rw [k8] at this; exact this
  have d8 : D8.dead = false ∧ D8.armed = false ∧ D8.writes = 37 := by rw [← e8]; exact ⟨d6.1, d6.2.1, by show D6.writes + 1 = 37; omega⟩
  have l8 : D8.files.length < 32 := by
    have hf := o6.few
    rw [← e8]
    show (fout D6.files x).length < 32
    have : (fout D6.files x).length < D6.files.length := List.length_filter_lt_length_iff_exists (p := fun f : Bs × Bs => !(f.1 == x)) (l := D6.files) |>.2 ⟨_, fget_mem f6, by simp⟩
    omega
  exact ⟨D2, D4, D5, D6, D8, _, k2, k3, k4, k5, k6, k7, k8, lay_ok h2 (by simp) (.inr l8) d8.1 d8.2.1, f6, ⟨o2, o4, o5, o6, o8⟩, ⟨by omega, by omega, by omega, by omega, by omega⟩⟩

/-- A disk beside a block that is not its own. -/
def MineG (B : Nat) (w W : World) (b : Nat) (d : Dk) (g : Nat) : Prop := ∃ S, Mine B w W b d S ∧ ¬ S g ∧ g < W.heap.size

/-- Block g is as it was. -/
def Same (g : Nat) (w w' : World) : Prop := w'.heap[g]? = w.heap[g]? ∧ w.heap.size ≤ w'.heap.size

theorem Same.cell {g : Nat} {w w' : World} (h : Same g w w') (off : Nat) : w'.cell? ⟨g, off, none⟩ = w.cell? ⟨g, off, none⟩ := World.cell?_of_block (w := w) h.1
theorem Same.trans {g : Nat} {a b c : World} (h : Same g a b) (k : Same g b c) : Same g a c := ⟨k.1.trans h.1, Nat.le_trans h.2 k.2⟩
theorem Same.below {g : Nat} {w w' : World} (hg : g < w.heap.size) (hb : Below w.heap.size w w') : Same g w w' := ⟨hb.block g hg, hb.size⟩

theorem BAt.same {w w' : World} {g off n c : Nat} {bs : Bs} (h : BAt w (.slice (some ⟨g, off, none⟩) n c) bs) (hs : Same g w w') : BAt w' (.slice (some ⟨g, off, none⟩) n c) bs := by
  obtain ⟨ao, c', e, h1, h2, h3⟩ := h
  refine ⟨ao, c', e, h1, h2, fun h0 => ?_⟩
  obtain ⟨b, o, rfl, hlt, hc⟩ := h3 h0
  cases e
  exact ⟨g, off, rfl, Nat.lt_of_lt_of_le hlt hs.2, fun i x hx j u hu => (hs.cell _).trans (hc i x hx j u hu)⟩

section
variable {B : Nat} {w W : World} {b : Nat} {d : Dk} {g : Nat}

theorem MineG.mk (h : MineE B w W b d) (hB : B ≤ w.heap.size) {W' : World} (hb : Below W.heap.size W W') (hg : W.heap.size ≤ g ∧ g < W'.heap.size) : MineG B w W' b d g := by
  obtain ⟨S, h⟩ := h
  exact ⟨S, h.below (h.size hB) hb, fun q => by have := h.disk.lt g q; omega, hg.2⟩
theorem MineG.below (h : MineG B w W b d g) (hB : B ≤ w.heap.size) {W' : World} (hb : Below W.heap.size W W') : MineG B w W' b d g := by
  obtain ⟨S, h, h1, h2⟩ := h
  exact ⟨S, h.below (h.size hB) hb, h1, Nat.lt_of_lt_of_le h2 hb.size⟩
theorem MineG.e (h : MineG B w W b d g) : MineE B w W b d := by obtain ⟨S, h, h1, h2⟩ := h; exact ⟨S, h⟩
theorem MineG.lt (h : MineG B w W b d g) : g < W.heap.size := by obtain ⟨S, h, h1, h2⟩ := h; exact h2

theorem MineG.step {S : Nat → Prop} {W' : World} {d' : Dk} (h : Mine B w W b d S) (h1 : ¬ S g) (h2 : g < W.heap.size) (hB : B ≤ w.heap.size) (hd : DiskAt W' b d' (Since S W W')) (ht : Turned S W W') : MineG B w W' b d' g ∧ Same g W W' :=
  ⟨⟨_, h.step (h.size hB) hd ht, fun q => by
    rcases q with q | q
    · exact h1 q
    · omega, Nat.lt_of_lt_of_le h2 ht.size⟩, ht.block g h2 h1, ht.size⟩

theorem uput (h : MineG B w W b d g) (hB : B ≤ w.heap.size) (hk : d.ok) (hw : d.writes ≤ 1000000) (n : Bs) (hn : n.length ≤ 1000000) {v : Value} {xss : List Bs} (hp : PartsB W v xss) (hl : xss.length ≤ 2) (hx : ∀ x ∈ xss, x.length ≤ 140737488355328) (p : Dk × Int) (hpp : dput d n xss.flatten = p) :
    Calls Try.prog 17 #[.pointer (some ⟨b, 0, none⟩), tx n, v] W fun e w' => e = .returned (.int .i64 p.2) ∧ Hid (MineG B w w' b p.1 g ∧ Same g W w') := by
  obtain ⟨S, h, h1, h2⟩ := h
  refine (put_at h.disk hk (by omega) n (by omega) hp (by omega) hx).mono ?_
  rintro e w' ⟨r, rfl, q1, q2, q3⟩
  rw [hpp] at q2
  exact ⟨by rw [q1.out, hpp], MineG.step h h1 h2 hB q2 q3⟩

theorem uapp (h : MineG B w W b d g) (hB : B ≤ w.heap.size) (hk : d.ok) (hw : d.writes ≤ 1000000) (n : Bs) (hn : n.length ≤ 1000000) {v : Value} {xss : List Bs} (hp : PartsB W v xss) (hl : xss.length ≤ 2) (hx : ∀ x ∈ xss, x.length ≤ 140737488355328) (p : Dk × Int) (hpp : dapp d n xss.flatten = p) :
    Calls Try.prog 16 #[.pointer (some ⟨b, 0, none⟩), tx n, v] W fun e w' => e = .returned (.int .i64 p.2) ∧ Hid (MineG B w w' b p.1 g ∧ Same g W w') := by
  obtain ⟨S, h, h1, h2⟩ := h
  refine (append_at h.disk hk (by omega) n (by omega) hp (by omega) hx).mono ?_
  rintro e w' ⟨r, rfl, q1, q2, q3⟩
  rw [hpp] at q2
  exact ⟨by rw [q1.out, hpp], MineG.step h h1 h2 hB q2 q3⟩

theorem mtrim (h : MineE B w W b d) (hB : B ≤ w.heap.size) (hk : d.ok) (hw : d.writes ≤ 1000000) (n : Bs) (hn : n.length ≤ 1000000) (z : Int) (p : Dk × Int) (hpp : dtrim d n z = p) :
    Calls Try.prog 20 #[.pointer (some ⟨b, 0, none⟩), tx n, .int .i64 z] W fun e w' => e = .returned (.int .i64 p.2) ∧ Hid (MineE B w w' b p.1) := by
  obtain ⟨S, h⟩ := h
  refine (trim_at h.disk hk (by omega) n (by omega) z).mono ?_
  rintro e w' ⟨r, rfl, q1, q2, q3⟩
  rw [hpp] at q2
  exact ⟨by rw [q1.out, hpp], _, h.step (h.size hB) q2 q3⟩

theorem mrem (h : MineE B w W b d) (hB : B ≤ w.heap.size) (hk : d.ok) (hw : d.writes ≤ 1000000) (n : Bs) (hn : n.length ≤ 1000000) (p : Dk × Int) (hpp : drem d n = p) :
    Calls Try.prog 19 #[.pointer (some ⟨b, 0, none⟩), tx n] W fun e w' => e = .returned (.int .i64 p.2) ∧ Hid (MineE B w w' b p.1) := by
  obtain ⟨S, h⟩ := h
  refine (remove_at h.disk hk (by omega) n (by omega)).mono ?_
  rintro e w' ⟨r, rfl, q1, q2, q3⟩
  rw [hpp] at q2
  exact ⟨by rw [q1.out, hpp], _, h.step (h.size hB) q2 q3⟩

theorem mput2 (h : MineE B w W b d) (hB : B ≤ w.heap.size) (hk : d.ok) (hw : d.writes ≤ 1000000) (n : Bs) (hn : n.length ≤ 1000000) {v : Value} {xss : List Bs} (hp : PartsB W v xss) (hl : xss.length ≤ 2) (hx : ∀ x ∈ xss, x.length ≤ 140737488355328) (p : Dk × Int) (hpp : dput d n xss.flatten = p) :
    Calls Try.prog 17 #[.pointer (some ⟨b, 0, none⟩), tx n, v] W fun e w' => e = .returned (.int .i64 p.2) ∧ Hid (MineE B w w' b p.1) := by
  refine (mput h hB hk hw n hn hp hl hx).mono ?_
  rintro e w' ⟨r, rfl, q1, q2⟩
  rw [hpp] at q2
  exact ⟨by rw [q1.out, hpp], q2⟩
theorem mapp2 (h : MineE B w W b d) (hB : B ≤ w.heap.size) (hk : d.ok) (hw : d.writes ≤ 1000000) (n : Bs) (hn : n.length ≤ 1000000) {v : Value} {xss : List Bs} (hp : PartsB W v xss) (hl : xss.length ≤ 2) (hx : ∀ x ∈ xss, x.length ≤ 140737488355328) (p : Dk × Int) (hpp : dapp d n xss.flatten = p) :
    Calls Try.prog 16 #[.pointer (some ⟨b, 0, none⟩), tx n, v] W fun e w' => e = .returned (.int .i64 p.2) ∧ Hid (MineE B w w' b p.1) := by
  refine (mapp h hB hk hw n hn hp hl hx).mono ?_
  rintro e w' ⟨r, rfl, q1, q2⟩
  rw [hpp] at q2
  exact ⟨by rw [q1.out, hpp], q2⟩
theorem mnames (h : MineE B w W b d) (hB : B ≤ w.heap.size) (hk : d.ok) :
    Calls Try.prog 22 #[.pointer (some ⟨b, 0, none⟩)] W fun e w' => ∃ v, e = .returned v ∧ Hid (Own w' W.heap.size v (d.files.map (·.1)) ∧ MineE B w w' b d ∧ ∀ g, v.ownBlock = some g → MineG B w w' b d g) := by
  obtain ⟨S, h⟩ := h
  refine (names_at h.disk hk.rise hk.few).mono ?_
  rintro e w' ⟨v, rfl, h1, h2⟩
  exact ⟨v, rfl, h1, ⟨S, h.below (h.size hB) h2⟩, fun g hg => ⟨S, h.below (h.size hB) h2, fun q => by have := h.disk.lt g q; have := (h1.lt g hg).1; omega, (h1.lt g hg).2⟩⟩
end

/-- make([]byte, n): nothing but noughts. -/
theorem make_n (w : World) (n : Nat) (hn : n ≤ 1000000) : ∃ M : Array Value, (Instr.makeSlice 31 (.int .i64 (n : Int)) (.int .i64 (n : Int))).run Try.prog w = .ok (.slice (some ⟨w.heap.size, 0, none⟩) n n) (w.alloc (.cells M 5)) ∧ BAt (w.alloc (.cells M 5)) (.slice (some ⟨w.heap.size, 0, none⟩) n n) (List.replicate n 0) := by
  obtain ⟨i0, hi0, hz0, hz1, hz2⟩ := info_parts Try.info5
  have hr := run_make (P := Try.prog) w 31 5 i0 (.int .u8 0) Try.underlying31 hi0 hz0 .i64 .i64 (n : Int) (n : Int) (by omega) (by omega) (by rw [hz2]; omega) (by omega)
  rw [hz1] at hr
  simp only [Int.toNat_natCast] at hr
  refine ⟨_, hr, some ⟨w.heap.size, 0, none⟩, n, by rw [List.length_replicate], by rw [List.length_replicate]; exact Nat.le_refl _, by omega, fun _ => ⟨w.heap.size, 0, rfl, by simp, fun i x hx j u hu => ?_⟩⟩
  have hj : j = 0 := by
    rcases Nat.eq_zero_or_pos j with q | q
    · exact q
    · rw [List.getElem?_eq_none (by show ([_] : List Value).length ≤ j; simp; omega)] at hu; cases hu
  subst hj
  have hi : i < n := by
    rcases Nat.lt_or_ge i n with q | q
    · exact q
    · rw [List.getElem?_eq_none (by rw [List.length_replicate]; exact q)] at hx; cases hx
  have e : 0 + (i * encB.size + 0) = i := by show 0 + (i * 1 + 0) = i; omega
  rw [e, World.cell?_alloc_new]
  rw [List.getElem?_replicate, if_pos hi] at hx
  cases hx
  have hu' : u = .int .u8 0 := by have : some u = some (Value.int .u8 0) := hu.symm.trans rfl; exact Option.some.inj this
  rw [hu', ← Array.getElem?_toList]
  show (madeCells #[Value.int .u8 0] (n * 1)).toList[i]? = _
  rw [toList_madeCells_one, List.getElem?_replicate, if_pos (by omega)]

theorem make_most (w : World) : ∃ M : Array Value, (Instr.makeSlice 31 (.int .i64 262144) (.int .i64 262144)).run Try.prog w = .ok (.slice (some ⟨w.heap.size, 0, none⟩) 262144 262144) (w.alloc (.cells M 5)) ∧ BAt (w.alloc (.cells M 5)) (.slice (some ⟨w.heap.size, 0, none⟩) 262144 262144) (List.replicate 262144 0) := make_n w 262144 (by omega)

set_option maxHeartbeats 6400000 in
set_option maxRecDepth 100000 in
theorem full_walk (z : Int) (w : World) : Calls Try.prog 6 #[.int .i64 z] w fun e w' => e = .returned (.bool true) ∧ Below w.heap.size w w' := by
  go_enter Try.func6, Try.ntmps6
  go_wp2_with fail
  refine (awake_walk w).mono ?_
  rintro e w0 ⟨rfl, B0⟩
  have BB : Hid (Below w.heap.size w w0) := B0
  clear B0
  go_wp2_with fail
  refine (new_any w0).mono ?_
  rintro e w1 ⟨b, rfl, D1, B1⟩
  have M1 : Hid (MineE w0.heap.size w0 w1 b dk0) := ⟨_, D1, fun _ q => q.1, B1⟩
  clear D1 B1
  go_wp2_with fail
  go_loopg [4] 32 (fun k iv wr => ∃ i : Nat, iv = .int .i64 i ∧ i + k = 32 ∧ Hid (MineE w0.heap.size w0 wr b (fullD i)))
  case atStart => exact ⟨0, rfl, by omega, M1⟩
  case round =>
    obtain ⟨i, rfl, hi, HR⟩ := hrel
    by_cases hin : i < 32
    · have id : (i : Int) < 32 := by omega
      have hcv := conv_str (bat_lit wr (nm i) 5 (0, 0) _ (nm_cells i hin) 3 rfl (by simp [nm]))
      have hc : dapp (fullD i) (nm i) [[]].flatten = (fullD (i + 1), 0) := Prod.ext rfl (full_codes i hin)
      have hap := mapp2 (HR.out.below (Nat.le_refl _) (bz2 wr (.cells #[.int .u8 102, .int .u8 (97 + (i : Int) % 26), .int .u8 (48 + (i : Int) / 26)] 5) (.cells #[.slice none 0 0] 31))) (Nat.le_refl _) (full_ok i) (by have := full_writes i; omega) (nm i) (by simp [nm]) (parts_nil (wr.alloc (.cells #[.int .u8 102, .int .u8 (97 + (i : Int) % 26), .int .u8 (48 + (i : Int) / 26)] 5)) 31) (by decide) (by simp) _ hc
      rw [show (wr.alloc (.cells #[.int .u8 102, .int .u8 (97 + (i : Int) % 26), .int .u8 (48 + (i : Int) / 26)] 5)).heap.size = wr.heap.size + 1 by simp] at hap
      clear hc
      go_wp2_with fail
      refine hap.mono ?_
      rintro e w2 ⟨rfl, M2⟩
      clear hap hcv
      go_wp2
      go_roundg (gk - 1)
      all_goals first
        | omega
        | exact ⟨i + 1, by go_num, by omega, M2⟩
    · obtain rfl : i = 32 := by omega
      have hnm := mnames HR.out (Nat.le_refl _) (full_ok 32)
      obtain ⟨e1, e2, e3, e4, e5, e6⟩ := full_end
      clear HR
      go_wp2_with fail
      refine hnm.mono ?_
      rintro e w2 ⟨v, rfl, M2⟩
      obtain ⟨ao, cl, rfl, h1, h2, R2⟩ := M2.out.1.form
      have hel : ((fullD 32).files.map (·.1)).length = 32 := by rw [List.length_map]; exact e1
      rw [hel] at h1 M2 ⊢
      obtain ⟨D, hD⟩ : ∃ D, fullD 32 = D := ⟨_, rfl⟩
      have ok := full_ok 32
      have ff := full_files
      rw [hD] at e1 e2 e3 e4 e6 hel M2 R2 ok ff
      obtain ⟨q, hq, hq32⟩ : ∃ q : Nat, z % 18446744073709551616 % 32 = (q : Int) ∧ q < 32 := ⟨(z % 18446744073709551616 % 32).toNat, by omega, by omega⟩
      obtain ⟨gb, off, rfl, hlt, hcell⟩ := R2 (by rw [hel]; omega)
      have hGb := own_at_head M2.out.1 rfl
      have MG : Hid (MineG w0.heap.size w0 w2 b D gb) := M2.out.2.2 gb hGb
      have hc := hcell q (by rw [hel]; exact hq32)
      obtain ⟨x, hx⟩ : ∃ x, el (D.files.map (·.1)) q = x := ⟨_, rfl⟩
      rw [hx] at hc
      have hxm : x ∈ D.files.map (·.1) := by rw [← hx]; exact el_mem (by rw [hel]; exact hq32)
      have hxf : fget D.files x = some [] := by
        obtain ⟨f, hf, rfl⟩ := List.mem_map.1 hxm
        cases e : fget D.files f.1 with
        | none => exact absurd rfl (fget_none.1 e f hf)
        | some v => exact congrArg some (ff _ (fget_mem e))
      have hxl : x.length ≤ 1000000 := by
        have := (ok.each _ (fget_mem hxf)).1
        simp only [isName, Bool.and_eq_true, decide_eq_true_eq] at this
        have := this.1.2
        omega
      obtain ⟨zs, hzs⟩ : ∃ zs : Bs, List.replicate 262144 (0 : UInt8) = zs := ⟨_, rfl⟩
      have hzl : zs.length = 262144 := by rw [← hzs, List.length_replicate]
      have ST := full_steps ok e1 e2 e3 e6 e4 e5 hxf hzl
      obtain ⟨s1, s2, s3, D2, D4, D5, D6, D8, D9, s4⟩ := ST
      have HS : Hid _ := And.intro s1 (And.intro s2 (And.intro s3 s4))
      have OK : Hid (D.ok ∧ D.writes ≤ 1000000 ∧ zs.length = 262144 ∧ List.replicate 262144 (0 : UInt8) = zs) := ⟨ok, by omega, hzl, hzs⟩
      have p1 := uput (MG.out.below (Nat.le_refl _) (bz1 w2 (.cells #[.slice none 0 0] 31))) (Nat.le_refl _) ok (by omega) oneMore (by decide) (parts_nil w2 31) (by decide) (by simp) _ s1
      clear s1 s2 s3 s4 ok ff hxf hxm hcell R2 e1 e2 e3 e4 e5 e6 hx hzl hnm M1 hel hzs
      go_wp2_with fail
      refine p1.mono ?_
      rintro e w3 ⟨rfl, M3⟩
      have p2 := uapp (M3.out.1.below (Nat.le_refl _) (bz1 w3 (.cells #[.slice none 0 0] 31))) (Nat.le_refl _) OK.out.1 OK.out.2.1 oneMore (by decide) (parts_nil w3 31) (by decide) (by simp) _ HS.out.2.1
      have hc3 : w3.cell? ⟨gb, off + q, none⟩ = some (.string ⟨x.toArray⟩) := ((Same.below hlt (bz1 w2 _)).trans M3.out.2).cell _ |>.trans hc
      clear p1 hc
      go_wp2_with fail
      refine p2.mono ?_
      rintro e w4 ⟨rfl, M4⟩
      have hc4 : w4.cell? ⟨gb, off + q, none⟩ = some (.string ⟨x.toArray⟩) := ((Same.below M3.out.1.lt (bz1 w3 _)).trans M4.out.2).cell _ |>.trans hc3
      have M4e : Hid (MineE w0.heap.size w0 w4 b D) := M4.out.1.e
      clear p2 hc3 M4 M3 M2 MG
      obtain ⟨y, hy⟩ : ∃ y : Nat, IntKind.u64.wrap z = (y : Int) := ⟨(z % 18446744073709551616).toNat, by simp [IntKind.wrap, IntKind.bits, IntKind.signed]; omega⟩
      have hyq : (y : Int) % 32 = (q : Int) := by
        have e : IntKind.u64.wrap z = z % 18446744073709551616 := by simp [IntKind.wrap, IntKind.bits, IntKind.signed]
        rw [← hy, e]; exact hq
      have hyt : (y : Int).tmod 32 = (q : Int) := by rw [Int.tmod_eq_emod_of_nonneg (by omega)]; exact hyq
      have hqi : (q : Int) < 32 := by omega
      obtain ⟨M, hmk, hmb⟩ := make_most w4
      rw [OK.out.2.2.2] at hmb
      obtain ⟨w5, hw5⟩ : ∃ w5, w4.alloc (.cells M 5) = w5 := ⟨_, rfl⟩
      rw [hw5] at hmk hmb
      have M5 : Hid (MineG w0.heap.size w0 w5 b D w4.heap.size ∧ BAt w5 (.slice (some ⟨w4.heap.size, 0, none⟩) 262144 262144) zs) := ⟨MineG.mk M4e.out (Nat.le_refl _) (by rw [← hw5]; exact bz1 _ _) ⟨Nat.le_refl _, by rw [← hw5]; simp⟩, hmb⟩
      clear M4e hmb hw5
      obtain ⟨g, hg⟩ : ∃ g, w4.heap.size = g := ⟨_, rfl⟩
      rw [hg] at hmk M5
      clear hg
      have q1 := uput (M5.out.1.below (Nat.le_refl _) (bz2 w5 (.cells #[.int .u8 1] 5) (.cells #[.slice (some ⟨g, 0, none⟩) 262144 262144, .slice (some ⟨w5.heap.size, 0, none⟩) 1 1] 31))) (Nat.le_refl _) OK.out.1 OK.out.2.1 x hxl (parts_two (M5.out.2.below (bz1 w5 _)) (bat_lit w5 [1] 5 (0, 0) #[.int .u8 1] rfl 1 rfl (by decide)) 31) (by simp) (by have := OK.out.2.2.1; intro y hy; simp at hy; rcases hy with rfl | rfl <;> first | omega | simp) _ HS.out.2.2.1
      rw [show (w5.alloc (.cells #[.int .u8 1] 5)).heap.size = w5.heap.size + 1 by simp] at q1
      go_wp2_with fail
      refine q1.mono ?_
      rintro e w6 ⟨rfl, M6⟩
      have Z6 : Hid (BAt w6 (.slice (some ⟨g, 0, none⟩) 262144 262144) zs) := M5.out.2.same ((Same.below M5.out.1.lt (bz2 w5 _ _)).trans M6.out.2)
      have q2 := uput (M6.out.1.below (Nat.le_refl _) (bz1 w6 (.cells #[.slice (some ⟨g, 0, none⟩) 262144 262144] 31))) (Nat.le_refl _) OK.out.1 OK.out.2.1 x hxl (parts_one Z6.out 31) (by simp) (by have := OK.out.2.2.1; intro y hy; simp at hy; rcases hy with rfl; omega) _ HS.out.2.2.2.1
      clear q1 M5
      go_wp2_with fail
      refine q2.mono ?_
      rintro e w7 ⟨rfl, M7⟩
      have E7 : Hid (MineE w0.heap.size w0 w7 b D2) := M7.out.1.e
      have q3 := mapp2 (E7.out.below (Nat.le_refl _) (bz2 w7 (.cells #[.int .u8 1] 5) (.cells #[.slice (some ⟨w7.heap.size, 0, none⟩) 1 1] 31))) (Nat.le_refl _) HS.out.2.2.2.2.2.2.2.2.2.2.2.2.1.1 (by have := HS.out.2.2.2.2.2.2.2.2.2.2.2.2.2.1; omega) x hxl (part_lit w7 [1] 5 31 (0, 0) _ rfl 1 rfl (by decide)) (by decide) (by simp) _ HS.out.2.2.2.2.1
      clear q2 M6 M7 Z6
      go_wp2_with fail
      refine q3.mono ?_
      rintro e w8 ⟨rfl, M8⟩
      have q4 := mapp2 (M8.out.below (Nat.le_refl _) (bz1 w8 (.cells #[.slice none 0 0] 31))) (Nat.le_refl _) HS.out.2.2.2.2.2.2.2.2.2.2.2.2.1.1 (by have := HS.out.2.2.2.2.2.2.2.2.2.2.2.2.2.1; omega) x hxl (parts_nil w8 31) (by decide) (by simp) _ HS.out.2.2.2.2.2.1
      clear q3 E7
      go_wp2_with fail
      refine q4.mono ?_
      rintro e w9 ⟨rfl, M9⟩
      have q5 := mtrim M9.out (Nat.le_refl _) HS.out.2.2.2.2.2.2.2.2.2.2.2.2.1.2.1 (by have := HS.out.2.2.2.2.2.2.2.2.2.2.2.2.2.2.1; omega) x hxl 262143 _ HS.out.2.2.2.2.2.2.1
      clear q4 M8
      go_wp2_with fail
      refine q5.mono ?_
      rintro e w10 ⟨rfl, M10⟩
      have q6 := mapp2 (M10.out.below (Nat.le_refl _) (bz2 w10 (.cells #[.int .u8 7] 5) (.cells #[.slice (some ⟨w10.heap.size, 0, none⟩) 1 1] 31))) (Nat.le_refl _) HS.out.2.2.2.2.2.2.2.2.2.2.2.2.1.2.2.1 (by have := HS.out.2.2.2.2.2.2.2.2.2.2.2.2.2.2.2.1; omega) x hxl (part_lit w10 [7] 5 31 (0, 0) _ rfl 1 rfl (by decide)) (by decide) (by simp) _ HS.out.2.2.2.2.2.2.2.1
      clear q5 M9
      go_wp2_with fail
      refine q6.mono ?_
      rintro e w11 ⟨rfl, M11⟩
      have q7 := mread M11.out (Nat.le_refl _) HS.out.2.2.2.2.2.2.2.2.2.2.2.2.1.2.2.2.1 x hxl
      rw [HS.out.2.2.2.2.2.2.2.2.2.2.2.1] at q7
      clear q6 M10
      go_wp2_with fail
      refine q7.mono ?_
      rintro e w12 ⟨v, rfl, M12⟩
      have hol : (zs.take 262143 ++ [7]).length = 262144 := by rw [List.length_append, List.length_take, OK.out.2.2.1]; rfl
      obtain ⟨av, cv, rfl, r1, r2, r3, r4⟩ := OwnG.form M12.out.1
      rw [show (some (zs.take 262143 ++ [7]) : Option Bs).getD [] = zs.take 262143 ++ [7] from rfl] at r1 r3 r4 M12 ⊢
      rw [hol] at r1 r4 M12 ⊢
      obtain ⟨gv, rfl⟩ := r4 (by omega)
      have hlast : w12.cell? ⟨gv, 262143, none⟩ = some (.int .u8 7) := by
        obtain ⟨b', o', e, hl', hc'⟩ := r3 (by rw [hol]; omega)
        cases e
        have h7 : (zs.take 262143 ++ [7])[262143]? = some 7 := by
          rw [List.getElem?_append_right (by rw [List.length_take, OK.out.2.2.1]; omega), List.length_take, OK.out.2.2.1]
          rfl
        exact hc' 262143 7 h7 0 _ rfl
      have q8 := mrem M12.out.2 (Nat.le_refl _) HS.out.2.2.2.2.2.2.2.2.2.2.2.2.1.2.2.2.1 (by have := HS.out.2.2.2.2.2.2.2.2.2.2.2.2.2.2.2.2.1; omega) oneMore (by decide) _ HS.out.2.2.2.2.2.2.2.2.1
      clear q7 M11 r3
      go_wp2_with fail
      refine q8.mono ?_
      rintro e w13 ⟨rfl, M13⟩
      have q9 := mrem M13.out (Nat.le_refl _) HS.out.2.2.2.2.2.2.2.2.2.2.2.2.1.2.2.2.1 (by have := HS.out.2.2.2.2.2.2.2.2.2.2.2.2.2.2.2.2.1; omega) x hxl _ HS.out.2.2.2.2.2.2.2.2.2.1
      clear q8 M12 hlast
      go_wp2_with fail
      refine q9.mono ?_
      rintro e w14 ⟨rfl, M14⟩
      have q10 := mput2 (M14.out.below (Nat.le_refl _) (bz1 w14 (.cells #[.slice none 0 0] 31))) (Nat.le_refl _) HS.out.2.2.2.2.2.2.2.2.2.2.2.2.1.2.2.2.2 (by have := HS.out.2.2.2.2.2.2.2.2.2.2.2.2.2.2.2.2.2; omega) oneMore (by decide) (parts_nil w14 31) (by decide) (by simp) _ HS.out.2.2.2.2.2.2.2.2.2.2.1
      clear q9 M13
      go_wp2_with fail
      refine q10.mono ?_
      rintro e w15 ⟨rfl, M15⟩
      go_wp2
      go_ret
      exact ⟨rfl, BB.out.trans (M15.out.bel.mono BB.out.size)⟩

end Go.Proofs.Ytlhlipjbcapidaa
