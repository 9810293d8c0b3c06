/-
  Several texts, laid together.
-/
import Derived.Test.YtjlokpjflgbgdaaGreatML05
import Derived.Shelf.LaysM
import Derived.Shelf.Strconv.Clone
import Derived.Shelf.Sort.Plain
import Derived.Shelf.Slices.In.SortNone
import Derived.Shelf.SlIter.Sorted
set_option maxHeartbeats 6400000
set_option maxRecDepth 100000
namespace Go.Proofs.YtjlokpjflgbgdaaGreat
open Go.RowKit
structure FilesX (w : World) (m : Nat) (S : Nat -> Prop) (F : Fs) (f : Bs -> Option Value) (X : Bs -> Prop) : Prop where
 map : MapIs w m f F.length
 no : ∀ x, fget F x = none -> f x = none
 yes : ∀ x bs, fget F x = some bs -> ∃ v, f x = some v /\ (X x ∨ OwnB w v bs)
 apart : ∀ x y u v g, x ≠ y -> f x = some u -> f y = some v -> u.ownBlock = some g -> v.ownBlock ≠ some g
 own : ∀ x v g, f x = some v -> v.ownBlock = some g -> S g
structure DiskX (w : World) (b m : Nat) (f : Bs -> Option Value) (a k : Int) (d : Dk) (S : Nat -> Prop) (X : Bs -> Prop) : Prop where
 cells : w.heap[b]? = some (.cells #[.map (some m), .int .i64 (d.writes : Int), .bool d.dead, .bool d.armed, .int .i64 a, .int .i64 k] 155 (0, 0))
 cut : d.armed = true -> a = (d.after : Int) /\ k = (d.keep : Int)
 files : FilesX w m S d.files f X
 mine : S b /\ S m
 lt : ∀ i, S i -> i < w.heap.size
abbrev DiskM (w : World) (b m : Nat) (f : Bs -> Option Value) (a k : Int) (d : Dk) (S : Nat -> Prop) : Prop := DiskX w b m f a k d S (λ _ => False)
def DiskAt (w : World) (b : Nat) (d : Dk) (S : Nat -> Prop) : Prop := ∃ m f a k, DiskM w b m f a k d S
theorem OwnB.block {w : World} {v : Value} {bs : Bs} (h : OwnB w v bs) {g : Nat} (hg : v.ownBlock = some g) : ∃ cur, w.heap[g]? = some (.cells cur 5 (0, 0)) := by
 rcases h.2 with ⟨rfl, _⟩ | ⟨g', cap, cur, rfl, _, hb, _⟩
 ·simp [Value.ownBlock] at hg
 ·have : g' = g := by simpa [Value.ownBlock] using hg
  subst this
  exact ⟨cur, hb⟩
theorem OwnB.turned {S : Nat -> Prop} {w w' : World} {v : Value} {bs : Bs} (h : OwnB w v bs) (ht : Turned S w w') (hS : ∀ g, v.ownBlock = some g -> ¬ S g) : OwnB w' v bs := ownsRow_turned h ht hS
theorem FilesX.turned {T S : Nat -> Prop} {X : Bs -> Prop} {w w' : World} {m : Nat} {F : Fs} {f : Bs -> Option Value} (h : FilesX w m S F f X) (ht : Turned T w w') (hm : ¬ T m) (hf : ∀ x v g, f x = some v -> ¬ X x -> v.ownBlock = some g -> ¬ T g) : FilesX w' m S F f X where
 map := h.map.turned ht hm
 no := h.no
 yes := λ x bs hx => by
  obtain ⟨v, hv, ho⟩ := h.yes x bs hx
  refine ⟨v, hv, ?_⟩
  rcases ho with q | q
  ·exact .inl q
  ·by_cases hX : X x
   ·exact .inl hX
   ·exact .inr (q.turned ht (λ g hg => hf x v g hv hX hg))
 apart := h.apart
 own := h.own
theorem FilesX.mono {S S' : Nat -> Prop} {X X' : Bs -> Prop} {w : World} {m : Nat} {F : Fs} {f : Bs -> Option Value} (h : FilesX w m S F f X) (hS : ∀ i, S i -> S' i) (hX : ∀ x, X x -> X' x) : FilesX w m S' F f X' where
 map := h.map
 no := h.no
 yes := λ x bs hx => by
  obtain ⟨v, hv, ho⟩ := h.yes x bs hx
  exact ⟨v, hv, ho.imp (hX x) id⟩
 apart := h.apart
 own := λ x v g h1 h2 => hS g (h.own x v g h1 h2)
theorem DiskX.mono {S S' : Nat -> Prop} {X X' : Bs -> Prop} {w : World} {b m : Nat} {f : Bs -> Option Value} {a k : Int} {d : Dk} (h : DiskX w b m f a k d S X) (hS : ∀ i, S i -> S' i) (hX : ∀ x, X x -> X' x) (hl : ∀ i, S' i -> i < w.heap.size) : DiskX w b m f a k d S' X' :=
 ⟨h.cells, h.cut, h.files.mono hS hX, ⟨hS _ h.mine.1, hS _ h.mine.2⟩, hl⟩
section
variable {S : Nat -> Prop} {X : Bs -> Prop} {w w' : World} {b m : Nat} {f : Bs -> Option Value} {a k : Int} {d : Dk}
theorem DiskX.lt_b (h : DiskX w b m f a k d S X) : b < w.heap.size := (Array.getElem?_eq_some_iff.1 h.cells).1
theorem DiskX.m_ne (h : DiskX w b m f a k d S X) : m ≠ b := by
 obtain ⟨es, c, hm⟩ := h.files.map.block
 intro e
 rw [e, h.cells] at hm
 cases hm
theorem DiskX.file (h : DiskX w b m f a k d S X) (x : Bs) : (fget d.files x = none /\ f x = none) ∨ ∃ bs v, fget d.files x = some bs /\ f x = some v /\ (X x ∨ OwnB w v bs) := by
 cases e : fget d.files x with
 | none => exact .inl ⟨rfl, h.files.no x e⟩
 | some bs =>
  obtain ⟨v, h1, h2⟩ := h.files.yes x bs e
  exact .inr ⟨bs, v, rfl, h1, h2⟩
theorem DiskX.some_iff (h : DiskX w b m f a k d S X) (x : Bs) : (f x).isSome = (fget d.files x).isSome := by
 rcases h.file x with ⟨h1, h2⟩ | ⟨bs, v, h1, h2, _⟩ <;> rw [h1, h2] <;> rfl
theorem DiskM.row_ne (h : DiskM w b m f a k d S) {x : Bs} {v : Value} {g : Nat} (hx : f x = some v) (hg : v.ownBlock = some g) : g ≠ b /\ g ≠ m := by
 rcases h.file x with ⟨_, h2⟩ | ⟨bs, u, _, h2, ho⟩
 ·rw [h2] at hx; cases hx
 ·rw [h2] at hx
  cases hx
  have ho : OwnB w v bs := ho.elim False.elim id
  obtain ⟨cur, hc⟩ := ho.block hg
  refine ⟨λ e => ?_, λ e => ?_⟩
  ·rw [e, h.cells] at hc; cases hc
  ·obtain ⟨es, c, hm⟩ := h.files.map.block
   rw [e, hm] at hc
   cases hc
theorem DiskX.cell (h : DiskX w b m f a k d S X) :
  w.cell? ⟨b, 0, none⟩ = some (.map (some m)) /\ w.cell? ⟨b, 1, none⟩ = some (.int .i64 (d.writes : Int)) /\ w.cell? ⟨b, 2, none⟩ = some (.bool d.dead) /\ w.cell? ⟨b, 3, none⟩ = some (.bool d.armed) /\
  w.cell? ⟨b, 4, none⟩ = some (.int .i64 a) /\ w.cell? ⟨b, 5, none⟩ = some (.int .i64 k) /\ ∀ i, w.frozen? ⟨b, i, none⟩ = false := by
 simp [World.cell?, World.frozen?, h.cells]
theorem DiskM.wrote (h : DiskM w b m f a k d S) (ht : Turned (λ i => i = b) w w') {d' : Dk} {a' k' : Int} (hf : d'.files = d.files)
  (hc : w'.heap[b]? = some (.cells #[.map (some m), .int .i64 (d'.writes : Int), .bool d'.dead, .bool d'.armed, .int .i64 a', .int .i64 k'] 155 (0, 0))) (hcut : d'.armed = true -> a' = (d'.after : Int) /\ k' = (d'.keep : Int)) : DiskM w' b m f a' k' d' S :=
 ⟨hc, hcut, by rw [hf]; exact h.files.turned ht h.m_ne (λ x v g h1 _ h2 => (h.row_ne h1 h2).1), h.mine, λ i hi => Nat.lt_of_lt_of_le (h.lt i hi) ht.size⟩
theorem DiskX.stays (h : DiskX w b m f a k d S X) {T : Nat -> Prop} (ht : Turned T w w') (hT : ∀ i, S i -> ¬ T i) : DiskX w' b m f a k d S X :=
 ⟨(ht.block b h.lt_b (hT b h.mine.1)).trans h.cells, h.cut, h.files.turned ht (hT m h.mine.2) (λ x v g h1 _ h2 => hT g (h.files.own x v g h1 h2)), h.mine, λ i hi => Nat.lt_of_lt_of_le (h.lt i hi) ht.size⟩
theorem DiskX.below (h : DiskX w b m f a k d S X) (hb : Below w.heap.size w w') : DiskX w' b m f a k d S X := h.stays (T := λ _ => False) (Turned.ofBelow hb) (λ _ _ q => q)
theorem DiskAt.stays (h : DiskAt w b d S) {T : Nat -> Prop} (ht : Turned T w w') (hT : ∀ i, S i -> ¬ T i) : DiskAt w' b d S := by
 obtain ⟨m, f, a, k, h⟩ := h
 exact ⟨m, f, a, k, DiskX.stays h ht hT⟩
theorem DiskAt.below (h : DiskAt w b d S) (hb : Below w.heap.size w w') : DiskAt w' b d S := h.stays (T := λ _ => False) (Turned.ofBelow hb) (λ _ _ q => q)
theorem DiskAt.lt (h : DiskAt w b d S) : ∀ i, S i -> i < w.heap.size := by
 obtain ⟨m, f, a, k, h⟩ := h
 exact DiskX.lt h
theorem DiskAt.mine (h : DiskAt w b d S) : S b := by
 obtain ⟨m, f, a, k, h⟩ := h
 exact h.mine.1
end
def Since (S : Nat -> Prop) (w w' : World) : Nat -> Prop := λ i => S i ∨ (w.heap.size <= i /\ i < w'.heap.size)
end Go.Proofs.YtjlokpjflgbgdaaGreat

namespace Go.Proofs.YtjlokpjflgbgdaaGreat
open Go.Shelf
def laySClone_ren : Go.Shelf.Ren := ⟨λ | 316 => 235 | n => n, λ | 9 => 9 | 3 => 3 | 4 => 4 | 37 => 39 | 0 => 0 | 127 => 374 | 5 => 5 | n => n, λ | n => n⟩
theorem laySClone : Go.Proofs.LaysM.n316 Tryz.prog laySClone_ren := {
 mixed := by kernel_rfl
 f316 := Tryz.func235.trans (congrArg some (by kernel_rfl))
 t0 := Tryz.underlying0
 a0 := Tryz.isAgg0
 z0 := Tryz.sizeOf0
 v0 := Tryz.zeroValue0
 t3 := Tryz.underlying3
 a3 := Tryz.isAgg3
 z3 := Tryz.sizeOf3
 v3 := Tryz.zeroValue3
 t4 := Tryz.underlying4
 a4 := Tryz.isAgg4
 z4 := Tryz.sizeOf4
 v4 := Tryz.zeroValue4
 t9 := Tryz.underlying9
 a9 := Tryz.isAgg9
 z9 := Tryz.sizeOf9
 v9 := Tryz.zeroValue9
 t37 := Tryz.underlying39
 a37 := Tryz.isAgg39
 z37 := Tryz.sizeOf39
 v37 := Tryz.zeroValue39
 t127 := Tryz.underlying374
 a127 := Tryz.isAgg374
 z127 := Tryz.sizeOf374
 v127 := Tryz.zeroValue374
 t5 := Tryz.underlying5
 a5 := Tryz.isAgg5
 z5 := Tryz.sizeOf5
 v5 := Tryz.zeroValue5
 i0 := by kernel_rfl
 i3 := by kernel_rfl
 i4 := by kernel_rfl
 i5 := by kernel_rfl
 i9 := by kernel_rfl
 i37 := by kernel_rfl
 i127 := by kernel_rfl }
def klaySort_ren : Go.Shelf.Ren := ⟨λ | 190 => 189 | 125 => 159 | 258 => 234 | 128 => 213 | 129 => 214 | 302 => 262 | 303 => 263 | 304 => 264 | 305 => 265 | 306 => 266 | 307 => 267 | 308 => 268 | 309 => 269 | 310 => 270 | 333 => 283 | 329 => 250 | 330 => 251 | 334 => 284 | 335 => 285 | 336 => 203 | 344 => 291 | n => n, λ | 31 => 40 | 9 => 9 | 3 => 3 | 46 => 100 | 0 => 0 | 51 => 198 | 53 => 55 | 4 => 4 | 183 => 323 | 182 => 322 | 131 => 272 | 5 => 5 | 218 => 358 | 222 => 361 | 228 => 380 | 229 => 381 | n => n, λ | n => n⟩
theorem klaySort : Go.Proofs.Lays.n190 Tryz.prog klaySort_ren := {
 mixed := by kernel_rfl
 f125 := Tryz.func159.trans (congrArg some (by kernel_rfl))
 f128 := Tryz.func213.trans (congrArg some (by kernel_rfl))
 f129 := Tryz.func214.trans (congrArg some (by kernel_rfl))
 f190 := Tryz.func189.trans (congrArg some (by kernel_rfl))
 f258 := Tryz.func234.trans (congrArg some (by kernel_rfl))
 f302 := Tryz.func262.trans (congrArg some (by kernel_rfl))
 f303 := Tryz.func263.trans (congrArg some (by kernel_rfl))
 f304 := Tryz.func264.trans (congrArg some (by kernel_rfl))
 f305 := Tryz.func265.trans (congrArg some (by kernel_rfl))
 f306 := Tryz.func266.trans (congrArg some (by kernel_rfl))
 f307 := Tryz.func267.trans (congrArg some (by kernel_rfl))
 f308 := Tryz.func268.trans (congrArg some (by kernel_rfl))
 f309 := Tryz.func269.trans (congrArg some (by kernel_rfl))
 f310 := Tryz.func270.trans (congrArg some (by kernel_rfl))
 f329 := Tryz.func250.trans (congrArg some (by kernel_rfl))
 f330 := Tryz.func251.trans (congrArg some (by kernel_rfl))
 f333 := Tryz.func283.trans (congrArg some (by kernel_rfl))
 f334 := Tryz.func284.trans (congrArg some (by kernel_rfl))
 f335 := Tryz.func285.trans (congrArg some (by kernel_rfl))
 f336 := Tryz.func203.trans (congrArg some (by kernel_rfl))
 f344 := Tryz.func291.trans (congrArg some (by kernel_rfl))
 t0 := Tryz.underlying0
 a0 := Tryz.isAgg0
 z0 := Tryz.sizeOf0
 v0 := Tryz.zeroValue0
 t3 := Tryz.underlying3
 a3 := Tryz.isAgg3
 z3 := Tryz.sizeOf3
 v3 := Tryz.zeroValue3
 t4 := Tryz.underlying4
 a4 := Tryz.isAgg4
 z4 := Tryz.sizeOf4
 v4 := Tryz.zeroValue4
 t5 := Tryz.underlying5
 a5 := Tryz.isAgg5
 z5 := Tryz.sizeOf5
 v5 := Tryz.zeroValue5
 t9 := Tryz.underlying9
 a9 := Tryz.isAgg9
 z9 := Tryz.sizeOf9
 v9 := Tryz.zeroValue9
 t31 := Tryz.underlying40
 a31 := Tryz.isAgg40
 z31 := Tryz.sizeOf40
 v31 := Tryz.zeroValue40
 t46 := Tryz.underlying100
 a46 := Tryz.isAgg100
 z46 := Tryz.sizeOf100
 v46 := Tryz.zeroValue100
 t51 := Tryz.underlying198
 a51 := Tryz.isAgg198
 z51 := Tryz.sizeOf198
 v51 := Tryz.zeroValue198
 t53 := Tryz.underlying55
 a53 := Tryz.isAgg55
 z53 := Tryz.sizeOf55
 v53 := Tryz.zeroValue55
 t131 := Tryz.underlying272
 a131 := Tryz.isAgg272
 z131 := Tryz.sizeOf272
 v131 := Tryz.zeroValue272
 t182 := Tryz.underlying322
 a182 := Tryz.isAgg322
 z182 := Tryz.sizeOf322
 v182 := Tryz.zeroValue322
 t183 := Tryz.underlying323
 a183 := Tryz.isAgg323
 z183 := Tryz.sizeOf323
 v183 := Tryz.zeroValue323
 t218 := Tryz.underlying358
 a218 := Tryz.isAgg358
 z218 := Tryz.sizeOf358
 v218 := Tryz.zeroValue358
 t222 := Tryz.underlying361
 a222 := Tryz.isAgg361
 z222 := Tryz.sizeOf361
 v222 := Tryz.zeroValue361
 t228 := Tryz.underlying380
 a228 := Tryz.isAgg380
 z228 := Tryz.sizeOf380
 v228 := Tryz.zeroValue380
 t229 := Tryz.underlying381
 a229 := Tryz.isAgg381
 z229 := Tryz.sizeOf381
 v229 := Tryz.zeroValue381 }
end Go.Proofs.YtjlokpjflgbgdaaGreat

namespace Go.Proofs.YtjlokpjflgbgdaaGreat
open Go.RowKit
theorem bsize (s : ByteArray) : s.size = s.data.toList.length := Lib.size_eq s
theorem may_any (c : Int) (w : World) :
  Calls Tryz.prog 187 #[.int .u8 c] w λ e w' => e = .returned (.bool (okI c)) /\ w' = w := by
 go_enter Tryz.func187, Tryz.ntmps187
 go_wp2
 all_goals go_ret
 all_goals refine ⟨congrArg (λ b => Ending.returned (Value.bool b)) ?_, rfl⟩
 all_goals (rw [Bool.eq_iff_iff]; simp [okI]; try omega)
theorem pindexByte_any (s : ByteArray) (c : Int) (w : World) :
  Calls Tryz.prog 292 #[.string s, .int .u8 c] w λ e w' => e = .returned (.int .i64 (Lib.indexByte s.data.toList c.toNat.toUInt8)) /\ w' = w := by
 go_enter Tryz.func292, Tryz.ntmps292
 go_wp2
 rw [run_callFunc_extern Tryz.func296 (by kernel_rfl) (by kernel_rfl) (by kernel_rfl) (e := Extern.BytealgIndexByte.indexByte) (by kernel_rfl), Lib.run_indexByteString]
 simp only [Result.andThen]
 rw [Oper.upon_value]
 go_wp2
 go_ret
 exact ⟨rfl, rfl⟩
theorem index_self {s : ByteArray} (h : ([47] == s.toList) = true) : Lib.indexByte s.data.toList 47 = 0 := by
 have e : [47] = s.toList := by simpa using h
 rw [<- ByteArray.toList_eq, <- e]
 rfl
theorem index_slash (s : ByteArray) (w : World) :
  Calls Tryz.prog 286 #[.string s, .string ⟨#[47]⟩] w λ e w' => e = .returned (.int .i64 (Lib.indexByte s.data.toList 47)) /\ w' = w := by
 go_enter Tryz.func286, Tryz.ntmps286
 go_wp2_with fail
 ·have h : ([47] == s.toList) = true := by assumption
  go_ret
  exact ⟨by rw [index_self h]; rfl, rfl⟩
 ·refine (pindexByte_any s 47 _).mono ?_
  rintro e w' ⟨rfl, rfl⟩
  go_wp2
  go_ret
  exact ⟨rfl, rfl⟩
theorem ext_take (s : ByteArray) (o : Nat) : s.extract 0 o = ⟨(s.data.toList.take o).toArray⟩ := by
 have := ByteArray.extract_mk s.data.toList 0 o
 simpa using this
theorem ext_drop (s : ByteArray) (o : Nat) : s.extract o s.size = ⟨(s.data.toList.drop o).toArray⟩ := by
 have := ByteArray.extract_mk s.data.toList o s.size
 rw [List.take_of_length_le (by rw [List.length_drop, bsize]; omega)] at this
 simpa using this
theorem cut_le : ∀ l : Bs, (cutB l).2.1.length <= l.length
 | [] => by simp [cutB]
 | b :: t => by
  have := cut_le t
  by_cases h : b = 47
  ·simp [cutB, h]
  ·simp only [cutB, h, if_false, List.length_cons]; omega
theorem cut_lite (s : ByteArray) (hm : s.size <= 9223372036854775807) (w : World) :
  Calls Tryz.prog 271 #[.string s, .string ⟨#[47]⟩] w λ e w' => e = .returned (.tuple #[.string ⟨(cutB s.data.toList).1.toArray⟩, .string ⟨(cutB s.data.toList).2.1.toArray⟩, .bool (cutB s.data.toList).2.2]) /\ ∃ m, w' = w.drewN m := by
 have hge := Lib.indexByte_ge s.data.toList 47
 obtain ⟨o, ho⟩ : ∃ o, Lib.indexByte s.data.toList 47 = o := ⟨_, rfl⟩
 have hc := index_slash s
 rw [ho] at hc hge
 by_cases h0 : o = -1
 ·have q := cut_none _ (ho.trans h0)
  rw [q]
  subst h0
  go_enter Tryz.func271, Tryz.ntmps271
  go_wp2_with fail
  refine (hc _).mono ?_
  rintro e w' ⟨rfl, rfl⟩
  go_wp2
  refine bodyPost_ret (v := .tuple #[.string s, .string ⟨#[]⟩, .bool false]) ?_ rfl ⟨rfl, 0, rfl⟩
  simp [results, Tryz.f271]
 ·obtain ⟨k, rfl⟩ : ∃ k : Nat, o = k := ⟨o.toNat, by omega⟩
  obtain ⟨hk, q⟩ := cut_some _ k ho
  rw [q, <- ext_take, <- ext_drop]
  rw [<- bsize] at hk
  have Q : Hid (cutB s.data.toList = _) := q
  clear hge h0 q ho
  go_enter Tryz.func271, Tryz.ntmps271
  go_wp2_with fail
  refine (hc _).mono ?_
  rintro e w' ⟨rfl, rfl⟩
  go_wp2_with fail
  go_quiet (fail)
  go_wp2
  refine bodyPost_ret (v := .tuple #[.string (s.extract 0 k), .string (s.extract (k + 1) s.size), .bool true]) ?_ rfl ⟨rfl, _, rfl⟩
  simp [results, Tryz.f271]
theorem cut_slash (s : ByteArray) (hm : s.size <= 9223372036854775807) (w : World) :
  Calls Tryz.prog 236 #[.string s, .string ⟨#[47]⟩] w λ e w' => e = .returned (.tuple #[.string ⟨(cutB s.data.toList).1.toArray⟩, .string ⟨(cutB s.data.toList).2.1.toArray⟩, .bool (cutB s.data.toList).2.2]) /\ ∃ m, w' = w.drewN m := by
 obtain ⟨a, ha⟩ : ∃ a, (cutB s.data.toList).1 = a := ⟨_, rfl⟩
 obtain ⟨b, hb⟩ : ∃ b, (cutB s.data.toList).2.1 = b := ⟨_, rfl⟩
 obtain ⟨f, hf⟩ : ∃ f, (cutB s.data.toList).2.2 = f := ⟨_, rfl⟩
 have hc := cut_lite s hm w
 rw [ha, hb, hf] at hc ⊢
 go_enter Tryz.func236, Tryz.ntmps236
 go_wp2_with fail
 refine hc.mono ?_
 rintro e w' ⟨rfl, m, rfl⟩
 go_wp2
 refine bodyPost_ret (v := .tuple #[.string ⟨a.toArray⟩, .string ⟨b.toArray⟩, .bool f]) ?_ rfl ⟨rfl, m, rfl⟩
 simp [results, Tryz.f236]
theorem name_bad {s : ByteArray} {i : Nat} (h : i < s.data.toList.length) (hf : okI ((s.data.toList[i]).toNat : Int) = false) : isName s.data.toList = false := by
 have : s.data.toList.all okB = false := by
  rw [List.all_eq_false]
  exact ⟨_, List.getElem_mem h, by simpa [okB] using hf⟩
 simp [isName, this]
theorem name_step {l : Bs} {i : Nat} (h : i < l.length) (ha : (l.take i).all okB = true) (hf : okI ((l[i]).toNat : Int) = true) : Hid ((l.take (i + 1)).all okB = true) := by
 show _ = _
 rw [List.take_succ_eq_append_getElem h, List.all_append, ha]
 simpa [okB] using hf
theorem name_good {l : Bs} (h1 : 1 <= l.length) (h2 : l.length <= 16) (ha : (l.take l.length).all okB = true) : isName l = true := by
 rw [List.take_length] at ha
 simp [isName, ha, h1, h2]
theorem name_any (s : ByteArray) (w : World) :
  Calls Tryz.prog 134 #[.string s] w λ e w' => e = .returned (.int .i64 (err (isName s.data.toList))) /\ w' = w := by
 have hl := bsize s
 by_cases h1 : 1 <= s.size
 ·by_cases h2 : s.size <= 16
  ·have E : Hid (s.size = s.data.toList.length) := hl
   clear hl
   go_enter Tryz.func134, Tryz.ntmps134
   go_wp2_with fail
   go_loopg [14] s.size (λ k v wr => ∃ i : Nat, v = .int .i64 i /\ i + k = s.size /\ wr = w /\ Hid ((s.data.toList.take i).all okB = true))
   case atStart => exact ⟨0, rfl, by omega, rfl, by simp [Hid]⟩
   case round =>
    obtain ⟨i, rfl, hi, rfl, HA⟩ := hrel
    by_cases hin : i < s.size
    ·go_wp2_with fail
     refine (may_any _ _).mono ?_
     rintro e w' ⟨rfl, rfl⟩
     obtain ⟨f, hf⟩ : ∃ f, okI (s[i].toNat : Int) = f := ⟨_, rfl⟩
     have F : Hid (okI (s[i].toNat : Int) = f) := hf
     rw [hf]
     clear hf
     cases f
     ·go_wp2
      go_ret
      exact ⟨by rw [name_bad (E.out ▸ hin) F.out]; rfl, rfl⟩
     ·go_wp2
      go_roundg (gk - 1)
      case measure => omega
      case rel => exact ⟨i + 1, by go_num, by omega, rfl, name_step (E.out ▸ hin) HA.out F.out⟩
    ·obtain rfl : i = s.size := by omega
     go_wp2
     go_ret
     exact ⟨by rw [name_good (by rw [<- E.out]; exact h1) (by rw [<- E.out]; exact h2) (by rw [E.out] at HA; exact HA.out)]; rfl, rfl⟩
  ·have : isName s.data.toList = false := by simp [isName]; omega
   rw [this]
   clear this hl
   go_enter Tryz.func134, Tryz.ntmps134
   go_wp2
   go_ret
   exact ⟨rfl, rfl⟩
 ·have : isName s.data.toList = false := by simp [isName]; omega
  rw [this]
  clear this hl
  go_enter Tryz.func134, Tryz.ntmps134
  go_wp2
  go_ret
  exact ⟨rfl, rfl⟩
theorem name_at (l : Bs) (g : Bool) (hg : isName l = g) (w : World) :
  Calls Tryz.prog 134 #[.string ⟨l.toArray⟩] w λ e w' => e = .returned (.int .i64 (err g)) /\ w' = w := by
 subst hg
 exact name_any ⟨l.toArray⟩ w
theorem pcheck_any (s : ByteArray) (hm : s.size <= 9223372036854775807) (w : World) :
  Calls Tryz.prog 198 #[.string s] w λ e w' => e = .returned (.int .i64 (err (isPath s.data.toList))) /\ ∃ m, w' = w.drewN m := by
 go_enter Tryz.func198, Tryz.ntmps198
 go_wp2_with fail
 go_loopg [0, 7] 6 (λ k p c wr => ∃ (i : Nat) (u : ByteArray) (m : Nat), p = .string u /\ c = .int .i64 i /\ i + k = 6 /\ u.size <= 9223372036854775807 /\ wr = w.drewN m /\ Hid (chk k u.data.toList = isPath s.data.toList))
 case atStart => exact ⟨0, s, 0, rfl, rfl, by omega, hm, rfl, rfl⟩
 case round =>
  obtain ⟨i, u, m, rfl, rfl, hi, hu, rfl, HC⟩ := hrel
  by_cases hin : i < 6
  ·obtain ⟨k, rfl⟩ : ∃ k, gk = k + 1 := ⟨gk - 1, by omega⟩
   obtain ⟨a, ha⟩ : ∃ a, (cutB u.data.toList).1 = a := ⟨_, rfl⟩
   obtain ⟨b, hb⟩ : ∃ b, (cutB u.data.toList).2.1 = b := ⟨_, rfl⟩
   obtain ⟨f, hf⟩ : ∃ f, (cutB u.data.toList).2.2 = f := ⟨_, rfl⟩
   have HC2 := HC.out
   rw [chk, ha, hb, hf] at HC2
   have HD : Hid _ := HC2
   have hbl : b.length <= 9223372036854775807 := by rw [<- hb]; have := cut_le u.data.toList; rw [<- bsize] at this; omega
   have hc := cut_slash u hu
   rw [ha, hb, hf] at hc
   clear ha hb hf HC2 HC
   go_wp2_with fail
   refine (hc _).mono ?_
   rintro e w' ⟨rfl, m1, rfl⟩
   go_wp2_with fail
   obtain ⟨g, hg⟩ : ∃ g, isName a = g := ⟨_, rfl⟩
   have HG : Hid (isName a = g) := hg
   refine (name_at a g hg _).mono ?_
   rintro e w' ⟨rfl, rfl⟩
   clear hg
   cases g
   ·rw [show err false = 2 from rfl]
    go_wp2
    go_ret
    exact ⟨by rw [<- HD.out, HG.out]; rfl, _, rfl⟩
   ·rw [show err true = 0 from rfl]
    cases f
    ·go_wp2
     go_ret
     exact ⟨by rw [<- HD.out, HG.out]; rfl, _, rfl⟩
    ·go_wp2
     go_roundg k
     case measure => omega
     case rel => exact ⟨i + 1, ⟨b.toArray⟩, _, rfl, by go_num, by omega, by rw [bsize]; exact hbl, rfl, by have := HD.out; rw [HG.out] at this; exact this⟩
  ·obtain rfl : i = 6 := by omega
   obtain rfl : gk = 0 := by omega
   go_wp2
   go_ret
   exact ⟨by rw [<- HC.out]; rfl, m, rfl⟩
theorem pcheck_at (s : ByteArray) (hm : s.size <= 9223372036854775807) (g : Bool) (hg : isPath s.data.toList = g) (w : World) :
  Calls Tryz.prog 198 #[.string s] w λ e w' => e = .returned (.int .i64 (err g)) /\ ∃ m, w' = w.drewN m := by
 subst hg
 exact pcheck_any s hm w
end Go.Proofs.YtjlokpjflgbgdaaGreat

namespace Go.Proofs.YtjlokpjflgbgdaaGreat
open Go.RowKit
end Go.Proofs.YtjlokpjflgbgdaaGreat
