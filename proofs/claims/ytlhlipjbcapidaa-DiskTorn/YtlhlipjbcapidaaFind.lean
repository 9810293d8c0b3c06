/-
  find, hasRoom, set and Read of the program's disk, each by a contract. No condition but that what is handed in is no longer than any memory holds.
-/
import Derived.Test.YtlhlipjbcapidaaNames
import Derived.Test.YtlhlipjbcapidaaPower
import Derived.Deep.RegionHeld3
namespace Go.Proofs.Ytlhlipjbcapidaa
open Go.RowKit

/-- A text. -/
abbrev tx (n : Bs) : Value := .string ⟨n.toArray⟩
theorem str_size (n : Bs) : (⟨n.toArray⟩ : ByteArray).size = n.length := by simp [ByteArray.size]

section
variable {S : Nat → Prop} {X : Bs → Prop} {w : World} {b m : Nat} {f : Bs → Option Value} {a k : Int} {d : Dk}

theorem DiskX.look (h : DiskX w b m f a k d S X) (n : Bs) (hn : n.length ≤ maxLen) (o : Option Value) (ho : f n = o) :
    (Instr.lookup 54 (.map (some m)) (tx n) true).run Try.prog w = .ok (.tuple #[o.getD (.slice none 0 0), .bool o.isSome]) w := by
  subst ho
  exact h.files.map.look ⟨n.toArray⟩ (by rw [str_size]; exact hn)

theorem DiskX.look1 (h : DiskX w b m f a k d S X) (n : Bs) (hn : n.length ≤ maxLen) (o : Option Value) (ho : f n = o) :
    (Instr.lookup 54 (.map (some m)) (tx n) false).run Try.prog w = .ok (o.getD (.slice none 0 0)) w := by
  subst ho
  exact h.files.map.look1 ⟨n.toArray⟩ (by rw [str_size]; exact hn)

set_option maxHeartbeats 400000 in
set_option maxRecDepth 100000 in
theorem find_bad (b : Nat) (n : Bs) (hg : isName n = false) : Calls Try.prog 37 #[.pointer (some ⟨b, 0, none⟩), tx n] w fun e w' => e = .returned (.tuple #[.slice none 0 0, .int .i64 2]) ∧ w' = w := by
  have hc := name_at n false hg w
  clear hg
  go_enter Try.func37, Try.ntmps37
  go_wp2_with fail
  refine hc.mono ?_
  rintro e w1 ⟨rfl, rfl⟩
  go_wp2
  refine bodyPost_ret (results_tmp2 rfl _ _ _) rfl ?_
  exact ⟨rfl, rfl⟩

set_option maxHeartbeats 400000 in
set_option maxRecDepth 100000 in
theorem find_none (h : DiskM w b m f a k d S) (n : Bs) (hg : isName n = true) (hn : n.length ≤ maxLen) (hf : f n = none) :
    Calls Try.prog 37 #[.pointer (some ⟨b, 0, none⟩), tx n] w fun e w' => e = .returned (.tuple #[.slice none 0 0, .int .i64 5]) ∧ w' = w := by
  have hc := name_at n true hg w
  have hr := h.look n hn _ hf
  have c0 := h.cell.1
  have H : Hid _ := h
  clear hg hf h
  go_enter Try.func37, Try.ntmps37
  go_wp2_with fail
  refine hc.mono ?_
  rintro e w1 ⟨rfl, rfl⟩
  go_wp2
  refine bodyPost_ret (results_tmp2 rfl _ _ _) rfl ?_
  exact ⟨rfl, rfl⟩

set_option maxHeartbeats 400000 in
set_option maxRecDepth 100000 in
theorem find_ok (h : DiskM w b m f a k d S) (n : Bs) (hg : isName n = true) (hn : n.length ≤ maxLen) {v : Value} (hf : f n = some v) :
    Calls Try.prog 37 #[.pointer (some ⟨b, 0, none⟩), tx n] w fun e w' => e = .returned (.tuple #[v, .int .i64 0]) ∧ w' = w := by
  have hc := name_at n true hg w
  have hr := h.look n hn _ hf
  have c0 := h.cell.1
  have H : Hid _ := h
  clear hg hf h
  go_enter Try.func37, Try.ntmps37
  go_wp2_with fail
  refine hc.mono ?_
  rintro e w1 ⟨rfl, rfl⟩
  go_wp2
  refine bodyPost_ret (results_tmp2 rfl _ _ _) rfl ?_
  exact ⟨rfl, rfl⟩

set_option maxHeartbeats 400000 in
set_option maxRecDepth 100000 in
theorem read_m (h : DiskM w b m f a k d S) (n : Bs) (hn : n.length ≤ maxLen) (o : Option Value) (ho : f n = o) (bs : Bs) (hB : BAt w (o.getD (.slice none 0 0)) bs) (hl : bs.length ≤ 262144) :
    Calls Try.prog 14 #[.pointer (some ⟨b, 0, none⟩), tx n] w fun e w' => ∃ v, e = .returned (.tuple #[v, .bool o.isSome]) ∧ OwnG encB 5 w' w.heap.size v bs ∧ Below w.heap.size w w' := by
  have hc := bclone_any w hB (by omega)
  have hr := h.look n hn o ho
  have c0 := h.cell.1
  have H : Hid _ := h
  clear ho h hB
  obtain ⟨u, hu⟩ : ∃ u, o.getD (.slice none 0 0) = u := ⟨_, rfl⟩
  obtain ⟨g, hg⟩ : ∃ g, o.isSome = g := ⟨_, rfl⟩
  rw [hu, hg] at hr
  rw [hu] at hc
  rw [hg]
  go_enter Try.func14, Try.ntmps14
  go_wp2_with fail
  refine hc.mono ?_
  rintro e w1 ⟨v, rfl, hO, hB⟩
  go_wp2
  refine bodyPost_ret (results_tmp2 rfl _ _ _) rfl ?_
  exact ⟨v, rfl, hO, hB⟩

/-- disk.Read. -/
theorem read_at (h : DiskAt w b d S) (n : Bs) (hn : n.length ≤ maxLen) (hl : ∀ bs, fget d.files n = some bs → bs.length ≤ 262144) :
    Calls Try.prog 14 #[.pointer (some ⟨b, 0, none⟩), tx n] w fun e w' => ∃ v, e = .returned (.tuple #[v, .bool (fget d.files n).isSome]) ∧ OwnG encB 5 w' w.heap.size v ((fget d.files n).getD []) ∧ Below w.heap.size w w' := by
  obtain ⟨m, f, a, k, h⟩ := h
  rcases h.file n with ⟨h1, h2⟩ | ⟨bs, v, h1, h2, ho⟩
  · rw [h1]
    exact read_m h n hn none h2 [] (OwnB.at (OwnG.nil _ _ _ _)) (by simp)
  · rw [h1]
    exact read_m h n hn (some v) h2 bs (OwnB.at (ho.elim False.elim id)) (hl bs h1)

set_option maxHeartbeats 1600000 in
set_option maxRecDepth 100000 in
/-- hasRoom. -/
theorem room_any (h : DiskM w b m f a k d S) (n : Bs) (hn : n.length ≤ maxLen) (z : Nat) (hz : z ≤ 262144) {v : Value} {xss : List Bs} (hp : PartsB w v xss) (hl : xss.length ≤ 1000000) (hx : ∀ x ∈ xss, x.length ≤ 140737488355328)
    (g : Bool) (hg : (decide (z + xss.flatten.length ≤ 262144) && ((fget d.files n).isSome || decide (d.files.length < 32))) = g) :
    Calls Try.prog 50 #[.pointer (some ⟨b, 0, none⟩), tx n, .int .i64 (z : Int), v] w fun e w' => e = .returned (.bool g) ∧ w' = w := by
  obtain ⟨ao, c, rfl, h1, h2⟩ := hp
  obtain ⟨N, eN⟩ : ∃ N, xss.length = N := ⟨_, rfl⟩
  rw [eN] at hl h1 ⊢
  have hr := h.look n hn _ rfl
  rw [h.some_iff n] at hr
  obtain ⟨u, hu⟩ : ∃ u, (f n).getD (.slice none 0 0) = u := ⟨_, rfl⟩
  obtain ⟨q, hq⟩ : ∃ q, (fget d.files n).isSome = q := ⟨_, rfl⟩
  obtain ⟨L, hL⟩ : ∃ L, d.files.length = L := ⟨_, rfl⟩
  rw [hu, hq] at hr
  rw [hq, hL] at hg
  have hlen := h.files.map.len
  rw [hL] at hlen
  have c0 := h.cell.1
  have A : Hid (0 < N → ∃ b off, ao = some ⟨b, off, none⟩ ∧ b < w.heap.size) := h1
  have B : Hid (∀ j x b off, xss[j]? = some x → ao = some ⟨b, off, none⟩ → ∃ u, w.cell? ⟨b, off + j, none⟩ = some u ∧ BAt w u x) := h2
  have H : Hid ((decide (z + xss.flatten.length ≤ 262144) && (q || decide (L < 32))) = g ∧ xss.length = N ∧ ∀ x ∈ xss, x.length ≤ 140737488355328) := ⟨hg, eN, hx⟩
  clear h1 h2 hg eN hx hu hq h
  go_enter Try.func50, Try.ntmps50
  go_wp2
  go_loopg [2, 15] N (fun k sv iv wr => wr = w ∧ ∃ i s : Nat, iv = .int .i64 i ∧ i + k = N ∧ sv = .int .i64 (s : Int) ∧ s ≤ 262144 ∧ Hid (s = z + (xss.take i).flatten.length))
  case atStart => exact ⟨rfl, 0, z, rfl, by omega, rfl, hz, rfl⟩
  case round =>
    obtain ⟨hw, i, s, rfl, hi, rfl, hs, HS⟩ := hrel
    have hw' := hw.symm
    subst hw'
    clear hw
    by_cases hin : i < N
    · have id : (i : Int) < (N : Int) := by omega
      obtain ⟨x, hx⟩ := get_some H.out.2.1 hin
      obtain ⟨b1, o1, rfl, hlt⟩ := A.out (by omega)
      obtain ⟨u, hu, a2, c2, rfl, _, _, _⟩ := B.out i x b1 o1 hx rfl
      have e2 := parts_le xss (i + 1)
      rw [flat_take hx, List.length_append] at e2
      have hxl := H.out.2.2 x (List.mem_of_getElem? hx)
      obtain ⟨xl, exl⟩ : ∃ xl, x.length = xl := ⟨_, rfl⟩
      rw [exl] at hxl hu e2
      have E : Hid ((xss.take i).flatten.length + xl ≤ xss.flatten.length ∧ s + xl = z + (xss.take (i + 1)).flatten.length) := ⟨e2, by rw [flat_take hx, List.length_append, exl, HS.out]; omega⟩
      clear e2 hx exl
      by_cases hbig : 262144 < s + xl
      · have t : decide ((262144 : Int) < (s : Int) + (xl : Int)) = true := by simp; omega
        have gf : g = false := by
          rw [← H.out.1]
          have : decide (z + xss.flatten.length ≤ 262144) = false := by
            have e3 := E.out.1
            have e4 := HS.out
            rw [decide_eq_false_iff_not]
            omega
          rw [this]
          rfl
        subst gf
        go_wp2
        go_ret
        exact ⟨rfl, rfl⟩
      · have t : decide ((262144 : Int) < (s : Int) + (xl : Int)) = false := by simp; omega
        go_wp2
        go_roundg (gk - 1)
        all_goals first
          | omega
          | exact ⟨rfl, i + 1, s + xl, by go_num, by omega, by go_num, by omega, E.out.2⟩
    · obtain rfl : i = N := by omega
      have e0 : s = z + xss.flatten.length := by rw [HS.out, List.take_of_length_le (by rw [H.out.2.1]; exact Nat.le_refl _)]
      have hg : (q || decide (L < 32)) = g := by
        rw [← H.out.1]
        have : decide (z + xss.flatten.length ≤ 262144) = true := by rw [decide_eq_true_eq]; omega
        rw [this]
        rfl
      clear e0
      cases q
      · have hg' : decide ((L : Int) < 32) = g := by rw [← hg, Bool.false_or]; exact decide_eq_decide.2 (by omega)
        clear hg
        go_wp2
        go_ret
        exact ⟨rfl, rfl⟩
      · subst hg
        go_wp2
        go_ret
        exact ⟨rfl, rfl⟩

end
end Go.Proofs.Ytlhlipjbcapidaa
