/-
  Several texts, laid together.
-/
import Derived.Shelf.LaysM
import Derived.Shelf.Strconv.Clone
import Derived.Shelf.Sort.Plain
import Derived.Shelf.Slices.In.SortNone
import Derived.Shelf.SlIter.Sorted
import Derived.Test.YtikgbjjgpgjmfaaGreatM06
import Derived.Test.YtikgbjjgpgjmfaaGreatM07
import Derived.Lib.AppendZeros

/-
  The library's functions that the program calls, laid at this program. No condition.
-/
namespace Go.Proofs.YtikgbjjgpgjmfaaGreat
open Go.Shelf

def laySClone_ren : Go.Shelf.Ren := ⟨fun | 316 => 162 | n => n, fun | 9 => 9 | 3 => 3 | 4 => 4 | 37 => 39 | 0 => 0 | 127 => 277 | 5 => 5 | n => n, fun | n => n⟩
theorem laySClone : Go.Proofs.LaysM.n316 Tryz.prog laySClone_ren := {
  mixed := by kernel_rfl
  f316 := Tryz.func162.trans (congrArg some (by kernel_rfl))
  t0 := Tryz.underlying0
  a0 := Tryz.isAgg0
  z0 := Tryz.sizeOf0
  v0 := Tryz.zeroValue0
  t3 := Tryz.underlying3
  a3 := Tryz.isAgg3
  z3 := Tryz.sizeOf3
  v3 := Tryz.zeroValue3
  t4 := Tryz.underlying4
  a4 := Tryz.isAgg4
  z4 := Tryz.sizeOf4
  v4 := Tryz.zeroValue4
  t9 := Tryz.underlying9
  a9 := Tryz.isAgg9
  z9 := Tryz.sizeOf9
  v9 := Tryz.zeroValue9
  t37 := Tryz.underlying39
  a37 := Tryz.isAgg39
  z37 := Tryz.sizeOf39
  v37 := Tryz.zeroValue39
  t127 := Tryz.underlying277
  a127 := Tryz.isAgg277
  z127 := Tryz.sizeOf277
  v127 := Tryz.zeroValue277
  t5 := Tryz.underlying5
  a5 := Tryz.isAgg5
  z5 := Tryz.sizeOf5
  v5 := Tryz.zeroValue5
  i0 := by kernel_rfl
  i3 := by kernel_rfl
  i4 := by kernel_rfl
  i5 := by kernel_rfl
  i9 := by kernel_rfl
  i37 := by kernel_rfl
  i127 := by kernel_rfl }

def klaySort_ren : Go.Shelf.Ren := ⟨fun | 190 => 137 | 125 => 152 | 258 => 160 | 128 => 177 | 129 => 178 | 302 => 187 | 303 => 188 | 304 => 189 | 305 => 190 | 306 => 191 | 307 => 192 | 308 => 193 | 309 => 194 | 310 => 195 | 333 => 209 | 329 => 201 | 330 => 202 | 334 => 210 | 335 => 211 | 336 => 154 | 344 => 217 | n => n, fun | 31 => 40 | 9 => 9 | 3 => 3 | 46 => 243 | 0 => 0 | 51 => 229 | 53 => 55 | 4 => 4 | 183 => 258 | 182 => 257 | 131 => 263 | 5 => 5 | 218 => 281 | 222 => 284 | 228 => 290 | 229 => 291 | n => n, fun | n => n⟩
theorem klaySort : Go.Proofs.Lays.n190 Tryz.prog klaySort_ren := {
  mixed := by kernel_rfl
  f125 := Tryz.func152.trans (congrArg some (by kernel_rfl))
  f128 := Tryz.func177.trans (congrArg some (by kernel_rfl))
  f129 := Tryz.func178.trans (congrArg some (by kernel_rfl))
  f190 := Tryz.func137.trans (congrArg some (by kernel_rfl))
  f258 := Tryz.func160.trans (congrArg some (by kernel_rfl))
  f302 := Tryz.func187.trans (congrArg some (by kernel_rfl))
  f303 := Tryz.func188.trans (congrArg some (by kernel_rfl))
  f304 := Tryz.func189.trans (congrArg some (by kernel_rfl))
  f305 := Tryz.func190.trans (congrArg some (by kernel_rfl))
  f306 := Tryz.func191.trans (congrArg some (by kernel_rfl))
  f307 := Tryz.func192.trans (congrArg some (by kernel_rfl))
  f308 := Tryz.func193.trans (congrArg some (by kernel_rfl))
  f309 := Tryz.func194.trans (congrArg some (by kernel_rfl))
  f310 := Tryz.func195.trans (congrArg some (by kernel_rfl))
  f329 := Tryz.func201.trans (congrArg some (by kernel_rfl))
  f330 := Tryz.func202.trans (congrArg some (by kernel_rfl))
  f333 := Tryz.func209.trans (congrArg some (by kernel_rfl))
  f334 := Tryz.func210.trans (congrArg some (by kernel_rfl))
  f335 := Tryz.func211.trans (congrArg some (by kernel_rfl))
  f336 := Tryz.func154.trans (congrArg some (by kernel_rfl))
  f344 := Tryz.func217.trans (congrArg some (by kernel_rfl))
  t0 := Tryz.underlying0
  a0 := Tryz.isAgg0
  z0 := Tryz.sizeOf0
  v0 := Tryz.zeroValue0
  t3 := Tryz.underlying3
  a3 := Tryz.isAgg3
  z3 := Tryz.sizeOf3
  v3 := Tryz.zeroValue3
  t4 := Tryz.underlying4
  a4 := Tryz.isAgg4
  z4 := Tryz.sizeOf4
  v4 := Tryz.zeroValue4
  t5 := Tryz.underlying5
  a5 := Tryz.isAgg5
  z5 := Tryz.sizeOf5
  v5 := Tryz.zeroValue5
  t9 := Tryz.underlying9
  a9 := Tryz.isAgg9
  z9 := Tryz.sizeOf9
  v9 := Tryz.zeroValue9
  t31 := Tryz.underlying40
  a31 := Tryz.isAgg40
  z31 := Tryz.sizeOf40
  v31 := Tryz.zeroValue40
  t46 := Tryz.underlying243
  a46 := Tryz.isAgg243
  z46 := Tryz.sizeOf243
  v46 := Tryz.zeroValue243
  t51 := Tryz.underlying229
  a51 := Tryz.isAgg229
  z51 := Tryz.sizeOf229
  v51 := Tryz.zeroValue229
  t53 := Tryz.underlying55
  a53 := Tryz.isAgg55
  z53 := Tryz.sizeOf55
  v53 := Tryz.zeroValue55
  t131 := Tryz.underlying263
  a131 := Tryz.isAgg263
  z131 := Tryz.sizeOf263
  v131 := Tryz.zeroValue263
  t182 := Tryz.underlying257
  a182 := Tryz.isAgg257
  z182 := Tryz.sizeOf257
  v182 := Tryz.zeroValue257
  t183 := Tryz.underlying258
  a183 := Tryz.isAgg258
  z183 := Tryz.sizeOf258
  v183 := Tryz.zeroValue258
  t218 := Tryz.underlying281
  a218 := Tryz.isAgg281
  z218 := Tryz.sizeOf281
  v218 := Tryz.zeroValue281
  t222 := Tryz.underlying284
  a222 := Tryz.isAgg284
  z222 := Tryz.sizeOf284
  v222 := Tryz.zeroValue284
  t228 := Tryz.underlying290
  a228 := Tryz.isAgg290
  z228 := Tryz.sizeOf290
  v228 := Tryz.zeroValue290
  t229 := Tryz.underlying291
  a229 := Tryz.isAgg291
  z229 := Tryz.sizeOf291
  v229 := Tryz.zeroValue291 }

def layKeys_ren : Go.Shelf.Ren := ⟨fun | 7 => 94 | 10 => 138 | n => n, fun | 23 => 122 | 26 => 9 | 3 => 39 | 28 => 181 | 0 => 0 | 27 => 180 | 33 => 174 | 4 => 4 | n => n, fun | n => n⟩
theorem layKeys : Go.Proofs.SlLaysZ.n7 Tryz.prog layKeys_ren := {
  mixed := by kernel_rfl
  f7 := ⟨Tryz.f94.name, by decide, Tryz.func94.trans (congrArg some (by kernel_rfl))⟩
  f10 := ⟨Tryz.f138.name, by decide, Tryz.func138.trans (congrArg some (by kernel_rfl))⟩
  t0 := Tryz.underlying0
  a0 := Tryz.isAgg0
  z0 := Tryz.sizeOf0
  v0 := Tryz.zeroValue0
  t4 := Tryz.underlying4
  a4 := Tryz.isAgg4
  z4 := Tryz.sizeOf4
  v4 := Tryz.zeroValue4
  t23 := Tryz.underlying122
  a23 := Tryz.isAgg122
  z23 := Tryz.sizeOf122
  v23 := Tryz.zeroValue122
  t26 := Tryz.underlying9
  a26 := Tryz.isAgg9
  z26 := Tryz.sizeOf9
  v26 := Tryz.zeroValue9
  t27 := Tryz.underlying180
  a27 := Tryz.isAgg180
  z27 := Tryz.sizeOf180
  v27 := Tryz.zeroValue180
  t28 := Tryz.underlying181
  a28 := Tryz.isAgg181
  z28 := Tryz.sizeOf181
  v28 := Tryz.zeroValue181
  t33 := Tryz.underlying174
  a33 := Tryz.isAgg174
  z33 := Tryz.sizeOf174
  v33 := Tryz.zeroValue174 }

def klaySorted_ren : Go.Shelf.Ren := ⟨fun | 6 => 93 | 8 => 136 | 9 => 137 | 11 => 159 | 13 => 152 | 12 => 160 | 23 => 177 | 24 => 178 | 14 => 187 | 15 => 188 | 16 => 189 | 17 => 190 | 18 => 191 | 19 => 192 | 20 => 193 | 21 => 194 | 22 => 195 | 25 => 209 | 26 => 201 | 27 => 202 | 28 => 210 | 29 => 211 | 30 => 154 | 31 => 217 | n => n, fun | 26 => 9 | 28 => 181 | 24 => 40 | 0 => 0 | 3 => 3 | 37 => 243 | 48 => 229 | 50 => 55 | 4 => 4 | 40 => 258 | 39 => 257 | 45 => 263 | 5 => 5 | 9 => 9 | 51 => 281 | 55 => 284 | 57 => 290 | 58 => 291 | 33 => 174 | n => n, fun | n => n⟩
theorem klaySorted : Go.Proofs.SlLaysZ.n6 Tryz.prog klaySorted_ren := {
  mixed := by kernel_rfl
  f6 := ⟨Tryz.f93.name, by decide, Tryz.func93.trans (congrArg some (by kernel_rfl))⟩
  f8 := ⟨Tryz.f136.name, by decide, Tryz.func136.trans (congrArg some (by kernel_rfl))⟩
  f11 := ⟨Tryz.f159.name, by decide, Tryz.func159.trans (congrArg some (by kernel_rfl))⟩
  t0 := Tryz.underlying0
  a0 := Tryz.isAgg0
  z0 := Tryz.sizeOf0
  v0 := Tryz.zeroValue0
  t24 := Tryz.underlying40
  a24 := Tryz.isAgg40
  z24 := Tryz.sizeOf40
  v24 := Tryz.zeroValue40
  t26 := Tryz.underlying9
  a26 := Tryz.isAgg9
  z26 := Tryz.sizeOf9
  v26 := Tryz.zeroValue9
  t28 := Tryz.underlying181
  a28 := Tryz.isAgg181
  z28 := Tryz.sizeOf181
  v28 := Tryz.zeroValue181
  i26 := by kernel_rfl }

end Go.Proofs.YtikgbjjgpgjmfaaGreat

/-
  slices.Clone and slices.Concat of bytes, strings.Clone, path.Name, each by a contract. No condition but that what is made fits any memory.
-/
namespace Go.Proofs.YtikgbjjgpgjmfaaGreat
open Go.RowKit



end Go.Proofs.YtikgbjjgpgjmfaaGreat

/-
  strings.Clone and disk.Names, each by a contract: the same text; all names, rising, in a new row. No condition but that a text is no longer than any text can be.
-/
namespace Go.Proofs.YtikgbjjgpgjmfaaGreat
open Go.RowKit Go.Maps Go.Sort Go.Shelf

set_option maxHeartbeats 400000 in
set_option maxRecDepth 100000 in
/-- strings.Clone. -/
theorem sclone_any (s : ByteArray) (w : World) (hlim : s.size ≤ 281474976710656) :
    Calls Tryz.prog 144 #[.string s] w fun e w' => e = .returned (.string s) ∧ Below w.heap.size w w' := by
  have hc : Calls Tryz.prog 162 #[.string s] w fun e w' => e = .returned (.string s) ∧ Below w.heap.size w w' := Any.stringslite_Clone laySClone s w hlim
  go_enter Tryz.func144, Tryz.ntmps144
  go_wp2_with fail
  refine hc.mono ?_
  rintro e w1 ⟨rfl, B1⟩
  go_wp2
  go_ret
  exact ⟨rfl, B1⟩

theorem sorts_in (m : Nat) : AnyZ.SortsIn Tryz.prog klaySorted_ren Fence.wide m :=
  ⟨fun blk off cap ss W hH hblk hsz => callsIn_wide.2 (Any.slices_Sort_string klaySort blk off cap ss W hH hblk hsz),
   fun p cap W => callsIn_wide.2 (Any.slices_Sort_string_none klaySort p cap W)⟩

set_option maxHeartbeats 1000000 in
set_option maxRecDepth 100000 in
theorem keys_sorted (b m nn : Nat) (D0 : DataW Value) (w : World) (c0 : w.cell? ⟨b, 0, none⟩ = some (.map (some m))) (hown : w.ownsMap Tryz.prog 9 heldR m nn D0) (hmax : Maps.size D0 ≤ 1000000) :
    Calls Tryz.prog 48 #[.pointer (some ⟨b, 0, none⟩)] w fun e w' => ∃ (v : Value) (ss : List (List UInt8)), e = .returned v ∧ ss.Perm (strKeys D0) ∧
      w'.ownsRow w.heap.size 9 1 v ss.length ((ss.mergeSort (fun x y => decide (x ≤ y))).map encStr) ∧ Below w.heap.size w w' := by
  refine (callsIn_wide (n := 6)).1 ?_
  have hbl := hown.lt
  have hseq : SeqGives Fence.wide 2 Tryz.prog 138 #[.pointer (some ⟨w.heap.size, 0, none⟩)] encStr (fun ss => ss.Perm (strKeys D0)) (Maps.size D0) (w.alloc (.cells #[.map (some m)] 122)) :=
    AnyZ.keys_gives (ρ := layKeys_ren) { layKeys with } Fence.wide _ trivial rfl (by omega) w.heap.size m nn D0 _ (by simp) (by simp) (by
      obtain ⟨es, clock, hb, Ft, hs, hD⟩ := hown
      exact ⟨es, clock, (Below.heap_alloc _ _ m hbl).trans hb, Ft, hs, hD⟩)
  have cK : ∀ mb W, CallsIn Fence.wide 5 Tryz.prog 94 #[.map mb] W fun e w' => e = .returned (.func (.func 138) #[] #[.pointer (some ⟨W.heap.size, 0, none⟩)]) ∧ w' = W.alloc (.cells #[.map mb] 122) := fun mb W => AnyZ.keys_in layKeys Fence.wide 5 trivial rfl mb W
  have cS := AnyZ.sorted_in klaySorted Fence.wide 5 trivial trivial trivial trivial rfl (by omega) (sorts_in _) (enters_of Tryz.func137 (by kernel_rfl) rfl) 138 #[.pointer (some ⟨w.heap.size, 0, none⟩)] trivial (enters_of Tryz.func138 (by kernel_rfl) rfl) _ _ (by simp only [maxLen]; omega) (by omega) _ hseq
  change CallsIn _ _ Tryz.prog 93 _ _ _ at cS
  have hfK : Fence.wide.fn 94 := trivial
  have hfS : Fence.wide.fn 93 := trivial
  refine callsIn_of_wp Tryz.func48 rfl trivial ?_ rfl
  simp only [Tryz.ntmps48, List.size_toArray, List.length_cons, List.length_nil, Nat.reduceAdd, Nat.reduceSub, Array.replicate_succ, Array.replicate_zero, List.push_toArray, List.append_toArray, List.nil_append, List.cons_append]
  gi_wp2_with (first
    | (gi_at_call 94; refine (cK _ _).mono ?_; rintro e w' ⟨rfl, rfl⟩)
    | (gi_at_call 93; refine cS.mono ?_; rintro e w' ⟨v, ss, rfl, hS, hrow, hnil, hb⟩))
  go_ret
  exact ⟨v, ss, rfl, hS, own_base hrow (by simp), ((Below.refl _ w).alloc (Nat.le_refl _) _).trans (hb.mono (by simp))⟩

/-- Names in rising order. -/
theorem names_sorted {F : Fs} (h : FRise F) {ss : List Bs} (hp : ss.Perm (F.map (·.1))) : ss.mergeSort (fun x y => decide (x ≤ y)) = F.map (·.1) := by
  have e1 := mergeSort_of_perm hp
  rw [e1]
  refine List.mergeSort_of_pairwise ?_
  refine List.pairwise_map.2 (h.imp (fun {a b} hab => ?_))
  simpa using List.le_of_lt hab

theorem names_nodup {F : Fs} (h : FRise F) : (F.map (·.1)).Nodup := by
  refine List.pairwise_map.2 (h.imp (fun {a b} hab e => ?_))
  rw [e] at hab
  exact fs_irrefl _ hab

theorem names_mem {F : Fs} {x : Bs} : x ∈ F.map (·.1) ↔ (fget F x).isSome = true := by
  cases e : fget F x with
  | none =>
    have := fget_none.1 e
    constructor
    · intro h
      obtain ⟨f, hf, rfl⟩ := List.mem_map.1 h
      exact absurd rfl (this f hf)
    · intro h; cases h
  | some v => exact ⟨fun _ => rfl, fun _ => List.mem_map.2 ⟨(x, v), fget_mem e, rfl⟩⟩

/-- disk.Names. -/
theorem names_at {S : Nat → Prop} {w : World} {b : Nat} {d : Dk} (h : DiskAt w b d S) (hr : FRise d.files) (hl : d.files.length ≤ 32) :
    Calls Tryz.prog 48 #[.pointer (some ⟨b, 0, none⟩)] w fun e w' => ∃ v, e = .returned v ∧ Own w' w.heap.size v (d.files.map (·.1)) ∧ Below w.heap.size w w' := by
  obtain ⟨m, f, a, k, h⟩ := h
  obtain ⟨D, ho, hsz, hh, ha⟩ := h.files.map
  refine (keys_sorted b m _ D w h.cell.1 ho (by omega)).mono ?_
  rintro e w' ⟨v, ss, rfl, hp, hrow, hb⟩
  refine ⟨v, rfl, ?_, hb⟩
  have hnd : (strKeys D).Perm (d.files.map (·.1)) := by
    obtain ⟨es, hD, hpw, _⟩ := ho.entries keyedS
    obtain ⟨es', hD', hko⟩ := ho.keysOf
    obtain rfl : es = es' := by rw [hD] at hD'; simpa using hD'
    subst hD
    refine (perm_strKeys hpw (fun p hp => by obtain ⟨v, hv⟩ := hko p hp; obtain ⟨x, _, hx, _⟩ := Maps.keyOf_str Tryz.underlying9 hv; exact ⟨x, hx⟩) (names_nodup hr) (fun x => ?_)).symm
    rw [hh x, h.some_iff x, names_mem]
  rw [names_sorted hr (hp.trans hnd)] at hrow
  have : ss.length = (d.files.map (·.1)).length := (hp.trans hnd).length_eq
  unfold Own
  rw [← this]
  exact hrow

end Go.Proofs.YtikgbjjgpgjmfaaGreat

/-
  disk.New, write, Writes, Dead, Cut and Restart, each by a contract over the document's disk. No condition but that fewer raw writes were done than any int can count.
-/
namespace Go.Proofs.YtikgbjjgpgjmfaaGreat
open Go.RowKit

theorem dnext_dead {d : Dk} (h : d.dead = true) : dnext d = (d, false, false) := by simp [dnext, h]
theorem dnext_torn {d : Dk} (h : d.dead = false) (ha : d.armed = true) (h0 : d.after = 0) : dnext d = ({ d with dead := true, armed := false }, false, true) := by simp [dnext, h, ha, h0]
theorem dnext_armed {d : Dk} (h : d.dead = false) (ha : d.armed = true) (h0 : d.after ≠ 0) : dnext d = ({ d with after := d.after - 1, writes := d.writes + 1 }, true, false) := by simp [dnext, h, ha, h0]
theorem dnext_plain {d : Dk} (h : d.dead = false) (ha : d.armed = false) : dnext d = ({ d with writes := d.writes + 1 }, true, false) := by simp [dnext, h, ha]

section
variable {S : Nat → Prop} {w : World} {b m : Nat} {f : Bs → Option Value} {a k : Int} {d : Dk}

set_option maxHeartbeats 800000 in
set_option maxRecDepth 100000 in
theorem write_dead (h : DiskM w b m f a k d S) (hd : d.dead = true) :
    Calls Tryz.prog 103 #[.pointer (some ⟨b, 0, none⟩)] w fun e w' => e = .returned (.int .i64 8) ∧ w' = w := by
  obtain ⟨c0, c1, c2, c3, c4, c5, cf⟩ := h.cell
  rw [hd] at c2
  have H : Hid _ := h
  clear h hd
  go_enter Tryz.func103, Tryz.ntmps103
  go_wp2
  go_ret
  exact ⟨rfl, rfl⟩

set_option maxHeartbeats 800000 in
set_option maxRecDepth 100000 in
theorem write_torn (h : DiskM w b m f a k d S) (hd : d.dead = false) (ha : d.armed = true) (h0 : d.after = 0) :
    Calls Tryz.prog 103 #[.pointer (some ⟨b, 0, none⟩)] w fun e w' => e = .returned (.int .i64 8) ∧ DiskM w' b m f a k { d with dead := true, armed := false } S ∧ Turned (fun i => i = b) w w' := by
  obtain ⟨c0, c1, c2, c3, c4, c5, cf⟩ := h.cell
  have f2 := cf 2
  have f3 := cf 3
  have ea := (h.cut ha).1
  rw [h0] at ea
  subst ea
  rw [hd] at c2
  rw [ha] at c3
  have H : Hid _ := h
  clear h cf
  have HD : Hid _ := And.intro hd ha
  clear hd ha
  go_enter Tryz.func103, Tryz.ntmps103
  go_wp2
  go_ret
  have h1 := set_block (set_block H.out.cells 3 (.bool false)) 2 (.bool true)
  have t1 : Turned (fun i => i = b) w ((w.setCell ⟨b, 3, none⟩ (.bool false)).setCell ⟨b, 2, none⟩ (.bool true)) := (turned_set 3 _).trans (turned_set 2 _) (fun _ _ q => q)
  refine ⟨rfl, DiskM.wrote H.out t1 (d' := { d with dead := true, armed := false }) rfl (by rw [h1]; simp [HD.out]) (by simp), t1⟩

set_option maxHeartbeats 800000 in
set_option maxRecDepth 100000 in
theorem write_armed (h : DiskM w b m f a k d S) (hd : d.dead = false) (ha : d.armed = true) (h0 : d.after ≠ 0) (hb : d.after < 9223372036854775808) (hw : d.writes < 4611686018427387904) :
    Calls Tryz.prog 103 #[.pointer (some ⟨b, 0, none⟩)] w fun e w' => ∃ a', e = .returned (.int .i64 0) ∧ DiskM w' b m f a' k { d with after := d.after - 1, writes := d.writes + 1 } S ∧ Turned (fun i => i = b) w w' := by
  obtain ⟨c0, c1, c2, c3, c4, c5, cf⟩ := h.cell
  have f1 := cf 1
  have f4 := cf 4
  obtain ⟨ea, ek⟩ := h.cut ha
  rw [hd] at c2
  rw [ha] at c3
  have H : Hid _ := h
  clear h cf
  have HD : Hid _ := And.intro hd (And.intro ha ek)
  clear hd ha ek
  obtain ⟨n, hn⟩ : ∃ n, d.after = n + 1 := ⟨d.after - 1, by omega⟩
  have N : Hid (d.after = n + 1) := hn
  have hn1 : n < 9223372036854775807 := by omega
  have ea' : a = ((n + 1 : Nat) : Int) := by rw [ea, hn]
  clear hn ea h0 hb
  subst ea'
  have z : (((n + 1 : Nat) : Int) == 0) = false := by simp; omega
  obtain ⟨q, hq⟩ : ∃ q, d.writes = q := ⟨_, rfl⟩
  rw [hq] at c1 hw
  go_enter Tryz.func103, Tryz.ntmps103
  go_wp2
  go_ret
  have h1 := set_block (set_block H.out.cells 4 (.int .i64 (n : Int))) 1 (.int .i64 ((q : Int) + 1))
  have t1 : Turned (fun i => i = b) w ((w.setCell ⟨b, 4, none⟩ (.int .i64 (n : Int))).setCell ⟨b, 1, none⟩ (.int .i64 ((q : Int) + 1))) := (turned_set 4 _).trans (turned_set 1 _) (fun _ _ q => q)
  refine ⟨n, rfl, DiskM.wrote H.out t1 (d' := { d with after := d.after - 1, writes := d.writes + 1 }) rfl (by rw [h1]; simp [HD.out, hq]) (fun _ => ⟨by rw [N.out]; rfl, HD.out.2.2⟩), t1⟩

set_option maxHeartbeats 800000 in
set_option maxRecDepth 100000 in
theorem write_plain (h : DiskM w b m f a k d S) (hd : d.dead = false) (ha : d.armed = false) (hw : d.writes < 4611686018427387904) :
    Calls Tryz.prog 103 #[.pointer (some ⟨b, 0, none⟩)] w fun e w' => e = .returned (.int .i64 0) ∧ DiskM w' b m f a k { d with writes := d.writes + 1 } S ∧ Turned (fun i => i = b) w w' := by
  obtain ⟨c0, c1, c2, c3, c4, c5, cf⟩ := h.cell
  have f1 := cf 1
  rw [hd] at c2
  rw [ha] at c3
  have H : Hid _ := h
  clear h cf
  have HD : Hid _ := And.intro hd ha
  clear hd ha
  obtain ⟨q, hq⟩ : ∃ q, d.writes = q := ⟨_, rfl⟩
  rw [hq] at c1 hw
  go_enter Tryz.func103, Tryz.ntmps103
  go_wp2
  go_ret
  have h1 := set_block H.out.cells 1 (.int .i64 ((q : Int) + 1))
  have t1 : Turned (fun i => i = b) w (w.setCell ⟨b, 1, none⟩ (.int .i64 ((q : Int) + 1))) := turned_set 1 _
  refine ⟨rfl, DiskM.wrote H.out t1 (d' := { d with writes := d.writes + 1 }) rfl (by rw [h1]; simp [HD.out, hq]) (fun e => by rw [show ({ d with writes := d.writes + 1 } : Dk).armed = d.armed from rfl, HD.out.2] at e; cases e), t1⟩

/-- A raw write that isn't refused: counted, or the power goes off in it, or it is off. -/
theorem write_any (h : DiskM w b m f a k d S) (hb : d.after < 9223372036854775808) (hw : d.writes < 4611686018427387904) :
    Calls Tryz.prog 103 #[.pointer (some ⟨b, 0, none⟩)] w fun e w' => ∃ r a', e = .returned (.int .i64 r) ∧ Hid (r = if (dnext d).2.1 then 0 else 8) ∧ DiskM w' b m f a' k (dnext d).1 S ∧ Turned (fun i => i = b) w w' := by
  by_cases hd : d.dead = true
  · refine (write_dead h hd).mono ?_
    rintro e w' ⟨rfl, rfl⟩
    rw [dnext_dead hd]
    exact ⟨8, a, rfl, rfl, h, Turned.refl _ _⟩
  · have hd : d.dead = false := by simpa using hd
    by_cases ha : d.armed = true
    · by_cases h0 : d.after = 0
      · refine (write_torn h hd ha h0).mono ?_
        rintro e w' ⟨rfl, h1, h2⟩
        rw [dnext_torn hd ha h0]
        exact ⟨8, a, rfl, rfl, h1, h2⟩
      · refine (write_armed h hd ha h0 hb hw).mono ?_
        rintro e w' ⟨a', rfl, h1, h2⟩
        rw [dnext_armed hd ha h0]
        exact ⟨0, a', rfl, rfl, h1, h2⟩
    · have ha : d.armed = false := by simpa using ha
      refine (write_plain h hd ha hw).mono ?_
      rintro e w' ⟨rfl, h1, h2⟩
      rw [dnext_plain hd ha]
      exact ⟨0, a, rfl, rfl, h1, h2⟩

set_option maxHeartbeats 400000 in
set_option maxRecDepth 100000 in
theorem writes_at (h : DiskAt w b d S) : Calls Tryz.prog 22 #[.pointer (some ⟨b, 0, none⟩)] w fun e w' => e = .returned (.int .i64 (d.writes : Int)) ∧ w' = w := by
  obtain ⟨m, f, a, k, h⟩ := h
  obtain ⟨c0, c1, c2, c3, c4, c5, cf⟩ := h.cell
  have H : Hid _ := h
  clear h
  go_enter Tryz.func22, Tryz.ntmps22
  go_wp2
  go_ret
  exact ⟨rfl, rfl⟩

set_option maxHeartbeats 400000 in
set_option maxRecDepth 100000 in
theorem dead_at (h : DiskAt w b d S) : Calls Tryz.prog 14 #[.pointer (some ⟨b, 0, none⟩)] w fun e w' => e = .returned (.bool d.dead) ∧ w' = w := by
  obtain ⟨m, f, a, k, h⟩ := h
  obtain ⟨c0, c1, c2, c3, c4, c5, cf⟩ := h.cell
  have H : Hid _ := h
  clear h
  go_enter Tryz.func14, Tryz.ntmps14
  go_wp2
  go_ret
  exact ⟨rfl, rfl⟩

set_option maxHeartbeats 800000 in
set_option maxRecDepth 100000 in
theorem restart_at (h : DiskAt w b d S) : Calls Tryz.prog 15 #[.pointer (some ⟨b, 0, none⟩)] w fun e w' => e = .returned (.tuple #[]) ∧ DiskAt w' b (dres d) S ∧ Turned (fun i => i = b) w w' := by
  obtain ⟨m, f, a, k, h⟩ := h
  obtain ⟨c0, c1, c2, c3, c4, c5, cf⟩ := h.cell
  have f2 := cf 2
  have f3 := cf 3
  have f4 := cf 4
  have f5 := cf 5
  have H : Hid _ := h
  clear h cf
  go_enter Tryz.func15, Tryz.ntmps15
  go_wp2
  go_end0
  have h1 := set_block (set_block (set_block (set_block H.out.cells 2 (.bool false)) 3 (.bool false)) 4 (.int .i64 0)) 5 (.int .i64 0)
  have t1 : Turned (fun i => i = b) w ((((w.setCell ⟨b, 2, none⟩ (.bool false)).setCell ⟨b, 3, none⟩ (.bool false)).setCell ⟨b, 4, none⟩ (.int .i64 0)).setCell ⟨b, 5, none⟩ (.int .i64 0)) :=
    (((turned_set 2 _).trans (turned_set 3 _) (fun _ _ q => q)).trans (turned_set 4 _) (fun _ _ q => q)).trans (turned_set 5 _) (fun _ _ q => q)
  refine ⟨rfl, ⟨m, f, 0, 0, DiskM.wrote H.out t1 (d' := dres d) rfl (by rw [h1]; simp [dres]) (by simp [dres])⟩, t1⟩

set_option maxHeartbeats 800000 in
set_option maxRecDepth 100000 in
theorem cut_bad (b : Nat) {x y : Int} (hx : -9223372036854775808 ≤ x ∧ x ≤ 9223372036854775807) (hy : -9223372036854775808 ≤ y ∧ y ≤ 9223372036854775807) (hn : x < 0 ∨ y < 0) :
    Calls Tryz.prog 12 #[.pointer (some ⟨b, 0, none⟩), .int .i64 x, .int .i64 y] w fun e w' => e = .returned (.int .i64 3) ∧ w' = w := by
  by_cases h1 : x < 0
  · have p : decide (x < 0) = true := by simpa using h1
    go_enter Tryz.func12, Tryz.ntmps12
    go_wp2
    go_ret
    exact ⟨rfl, rfl⟩
  · have p : decide (x < 0) = false := by simpa using h1
    have h2 : y < 0 := by omega
    have p2 : decide (y < 0) = true := by simpa using h2
    go_enter Tryz.func12, Tryz.ntmps12
    go_wp2
    go_ret
    exact ⟨rfl, rfl⟩

set_option maxHeartbeats 800000 in
set_option maxRecDepth 100000 in
theorem cut_dead (h : DiskM w b m f a k d S) (hd : d.dead = true) {x y : Int} (h1 : 0 ≤ x) (h2 : 0 ≤ y) :
    Calls Tryz.prog 12 #[.pointer (some ⟨b, 0, none⟩), .int .i64 x, .int .i64 y] w fun e w' => e = .returned (.int .i64 8) ∧ w' = w := by
  obtain ⟨c0, c1, c2, c3, c4, c5, cf⟩ := h.cell
  rw [hd] at c2
  have H : Hid _ := h
  clear h
  have p : decide (x < 0) = false := by simpa using h1
  have p2 : decide (y < 0) = false := by simpa using h2
  go_enter Tryz.func12, Tryz.ntmps12
  go_wp2
  go_ret
  exact ⟨rfl, rfl⟩

set_option maxHeartbeats 800000 in
set_option maxRecDepth 100000 in
theorem cut_ok (h : DiskM w b m f a k d S) (hd : d.dead = false) {x y : Int} (h1 : 0 ≤ x) (h2 : 0 ≤ y) :
    Calls Tryz.prog 12 #[.pointer (some ⟨b, 0, none⟩), .int .i64 x, .int .i64 y] w fun e w' => e = .returned (.int .i64 0) ∧ DiskM w' b m f x y { d with armed := true, after := x.toNat, keep := y.toNat } S ∧ Turned (fun i => i = b) w w' := by
  obtain ⟨c0, c1, c2, c3, c4, c5, cf⟩ := h.cell
  rw [hd] at c2
  have f3 := cf 3
  have f4 := cf 4
  have f5 := cf 5
  have H : Hid _ := h
  have HD : Hid _ := hd
  clear h cf hd
  have p : decide (x < 0) = false := by simpa using h1
  have p2 : decide (y < 0) = false := by simpa using h2
  go_enter Tryz.func12, Tryz.ntmps12
  go_wp2
  go_ret
  have e1 := set_block (set_block (set_block H.out.cells 3 (.bool true)) 4 (.int .i64 x)) 5 (.int .i64 y)
  have t1 : Turned (fun i => i = b) w (((w.setCell ⟨b, 3, none⟩ (.bool true)).setCell ⟨b, 4, none⟩ (.int .i64 x)).setCell ⟨b, 5, none⟩ (.int .i64 y)) :=
    ((turned_set 3 _).trans (turned_set 4 _) (fun _ _ q => q)).trans (turned_set 5 _) (fun _ _ q => q)
  refine ⟨rfl, DiskM.wrote H.out t1 (d' := { d with armed := true, after := x.toNat, keep := y.toNat }) rfl (by rw [e1]; simp [HD.out]) (fun _ => ⟨(Int.toNat_of_nonneg h1).symm, (Int.toNat_of_nonneg h2).symm⟩), t1⟩

/-- disk.Cut. -/
theorem cut_at (h : DiskAt w b d S) {x y : Int} (hx : -9223372036854775808 ≤ x ∧ x ≤ 9223372036854775807) (hy : -9223372036854775808 ≤ y ∧ y ≤ 9223372036854775807) :
    Calls Tryz.prog 12 #[.pointer (some ⟨b, 0, none⟩), .int .i64 x, .int .i64 y] w fun e w' => ∃ r, e = .returned (.int .i64 r) ∧ Hid (r = (dcut d x y).2) ∧ DiskAt w' b (dcut d x y).1 S ∧ Turned (fun i => i = b) w w' := by
  unfold dcut
  by_cases hn : x < 0 ∨ y < 0
  · refine (cut_bad b hx hy hn).mono ?_
    rintro e w' ⟨rfl, rfl⟩
    rw [if_pos hn]
    exact ⟨3, rfl, rfl, h, Turned.refl _ _⟩
  · obtain ⟨m, f, a, k, h⟩ := h
    rw [if_neg hn]
    by_cases hd : d.dead = true
    · refine (cut_dead h hd (by omega) (by omega)).mono ?_
      rintro e w' ⟨rfl, rfl⟩
      rw [if_pos hd]
      exact ⟨8, rfl, rfl, ⟨m, f, a, k, h⟩, Turned.refl _ _⟩
    · have hd' : d.dead = false := by simpa using hd
      refine (cut_ok h hd' (by omega) (by omega)).mono ?_
      rintro e w' ⟨rfl, h1, h2⟩
      rw [if_neg hd]
      exact ⟨0, rfl, rfl, ⟨m, f, _, _, h1⟩, h2⟩

end

theorem files_none (w : World) (m : Nat) (S : Nat → Prop) (hm : w.heap[m]? = some (.map #[] 0)) : FilesX w m S [] (fun _ => none) (fun _ => False) where
  map := ⟨.map [], ⟨#[], 0, hm, ⟨by simp, MapKept.stamped_empty 0, by simp⟩, Nat.le_refl _, rfl⟩, rfl, fun _ => rfl, fun _ _ h => by cases h⟩
  no := fun _ _ => rfl
  yes := fun x bs h => by simp [fget] at h
  apart := fun x y u v g _ h => by cases h
  own := fun x v g h => by cases h

set_option maxHeartbeats 800000 in
set_option maxRecDepth 100000 in
/-- disk.New: a disk without files, in new blocks. -/
theorem new_any (w : World) : Calls Tryz.prog 31 #[] w fun e w' => ∃ b, e = .returned (.pointer (some ⟨b, 0, none⟩)) ∧ DiskAt w' b dk0 (fun i => w.heap.size ≤ i ∧ i < w'.heap.size) ∧ Below w.heap.size w w' := by
  have hmk := run_makeMap (P := Tryz.prog) 122 w
  go_enter Tryz.func31, Tryz.ntmps31
  go_wp2
  go_ret
  have e : (w.alloc (.map #[] 0)).heap.size = w.heap.size + 1 := by simp
  have e2 : ∀ o, ((w.alloc (.map #[] 0)).alloc o).heap.size = w.heap.size + 2 := by intro o; simp
  refine ⟨w.heap.size + 1, rfl, ⟨w.heap.size, fun _ => none, 0, 0, ⟨?_, by simp [dk0], files_none _ _ _ ?_, ⟨⟨by omega, by rw [e2]; omega⟩, ⟨Nat.le_refl _, by rw [e2]; omega⟩⟩, fun i hi => hi.2⟩⟩, bz2 _ _ _⟩
  · have := heap_alloc_new (w.alloc (.map #[] 0)) (.cells #[.map (some w.heap.size), .int .i64 0, .bool false, .bool false, .int .i64 0, .int .i64 0] 126)
    rw [e] at this
    exact this
  · exact (Below.heap_alloc _ _ w.heap.size (by simp)).trans (heap_alloc_new w _)

end Go.Proofs.YtikgbjjgpgjmfaaGreat
