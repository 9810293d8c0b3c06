/-
  The parts of a path, one behind the other: how many slashes each has, that each is a path, and below the one ahead. No program.
-/
import Derived.Test.YtcecgcgnpildpaaTops
import Derived.Test.YtcecgcgnpildpaaRParts
namespace Go.Proofs.Ytcecgcgnpildpaa
open Go.RowKit

theorem names_app : ∀ (a b : Bs), names (a ++ 47 :: b) = names a ++ names b
  | [], b => by simp [names]
  | c :: t, b => by
    have ih := names_app t b
    by_cases h : c = 47
    · simp [names, h, ih]
    · cases hn : names t with
      | nil => exact absurd hn (names_ne t)
      | cons x y =>
        rw [hn] at ih
        simp [names, h, ih, hn]

theorem names_one : ∀ (n : Bs), 47 ∉ n → names n = [n]
  | [], _ => rfl
  | c :: t, h => by
    have h1 : ¬ c = 47 := fun e => h (by simp [e])
    have h2 : 47 ∉ t := fun e => h (List.mem_cons_of_mem _ e)
    simp [names, h1, names_one t h2]

theorem names_count : ∀ l : Bs, (names l).length = l.count 47 + 1
  | [] => rfl
  | c :: t => by
    have ih := names_count t
    by_cases h : c = 47
    · simp [names, h, ih]
    · cases hn : names t with
      | nil => exact absurd hn (names_ne t)
      | cons x y =>
        rw [hn] at ih
        rw [List.count_cons]
        simp [names, h, hn] at ih ⊢
        exact ih

theorem name_no {n : Bs} (h : isName n = true) : 47 ∉ n := by
  intro hm
  simp only [isName, Bool.and_eq_true, List.all_eq_true] at h
  have := h.2 47 hm
  revert this
  decide

theorem names_back : ∀ (l : Bs) (n : Bs), n ∈ names l → 47 ∉ n
  | [], n, h => by simp [names] at h; simp [h]
  | c :: t, n, h => by
    by_cases hc : c = 47
    · simp only [names, hc, if_true, List.mem_cons] at h
      rcases h with rfl | h
      · simp
      · exact names_back t n h
    · cases hn : names t with
      | nil => exact absurd hn (names_ne t)
      | cons x y =>
        simp only [names, hc, if_false, hn, List.headD_cons, List.tail_cons, List.mem_cons] at h
        rcases h with rfl | h
        · have := names_back t x (by rw [hn]; exact List.mem_cons_self ..)
          intro e
          rcases List.mem_cons.1 e with q | q
          · exact hc q.symm
          · exact this q
        · exact names_back t n (by rw [hn]; exact List.mem_cons_of_mem _ h)

theorem cums_len : ∀ (ns : List Bs) (s : Bs), (cums s ns).length = ns.length
  | [], _ => rfl
  | n :: t, s => by simp [cums, cums_len t]

theorem el_cons (x : Bs) (t : List Bs) (i : Nat) : el (x :: t) (i + 1) = el t i := by simp [el]
theorem el_zero (x : Bs) (t : List Bs) : el (x :: t) 0 = x := rfl

theorem cums_next : ∀ (ns : List Bs) (s : Bs) (i : Nat), i + 1 < ns.length → el (cums s ns) (i + 1) = el (cums s ns) i ++ 47 :: el ns (i + 1)
  | [], _, _, h => by simp at h
  | [n], _, i, h => by simp at h
  | n :: m :: t, s, 0, _ => by simp [cums, el_cons, el_zero]
  | n :: m :: t, s, i + 1, h => by
    have ih := cums_next (m :: t) (s ++ n ++ [47]) i (by simpa using h)
    rw [cums, el_cons, el_cons, el_cons]
    exact ih

theorem cums_names_at : ∀ (ns : List Bs) (s : Bs) (A : List Bs), (∀ n, 47 ∉ n → names (s ++ n) = A ++ [n]) → (∀ n ∈ ns, 47 ∉ n) → ∀ i, i < ns.length → names (el (cums s ns) i) = A ++ ns.take (i + 1)
  | [], _, _, _, _, i, h => by simp at h
  | n :: t, s, A, hA, hn, 0, _ => by
    rw [cums, el_zero, hA n (hn n (List.mem_cons_self ..))]
    simp
  | n :: t, s, A, hA, hn, i + 1, h => by
    have ih := cums_names_at t (s ++ n ++ [47]) (A ++ [n]) (fun m hm => by
      have e : s ++ n ++ [47] ++ m = (s ++ n) ++ 47 :: m := by simp
      rw [e, names_app, hA n (hn n (List.mem_cons_self ..)), names_one m hm]) (fun m hm => hn m (List.mem_cons_of_mem _ hm)) i (by simpa using h)
    rw [cums, el_cons, ih]
    simp

/-- The parts of a path. -/
structure Chain (p : Bs) (T : List Bs) : Prop where
  pos : 0 < T.length
  six : T.length ≤ 6
  last : el T (T.length - 1) = p
  path : ∀ i, i < T.length → isPath (el T i) = true
  count : ∀ i, i < T.length → (el T i).count 47 = i
  undr : ∀ i, i < T.length → under p (el T i) = true
  next : ∀ i, i + 1 < T.length → under (el T (i + 1)) (el T i) = true
  back : ∀ i, i + 1 < T.length → under (el T i) (el T (i + 1)) = false

theorem chain_of {p : Bs} (h : isPath p = true) : Chain p (parts p) := by
  have hT : parts p = cums [] (names p) := by rw [parts, h, if_pos rfl, parts_cums]
  have hlast : parts p = pre p p.length ++ [p] := by rw [parts, h, if_pos rfl]
  have hc := h
  rw [isPath, chk_names, Bool.and_eq_true, decide_eq_true_eq] at hc
  obtain ⟨hall, h6⟩ := hc
  have hlen : (parts p).length = (names p).length := by rw [hT, cums_len]
  have hpos : 0 < (names p).length := List.length_pos_iff.2 (names_ne p)
  have hnames : ∀ i, i < (parts p).length → names (el (parts p) i) = (names p).take (i + 1) := by
    intro i hi
    rw [hT]
    have := cums_names_at (names p) [] [] (fun n hn => by simpa using names_one n hn) (fun n hn => names_back p n hn) i (by rw [← hlen]; exact hi)
    simpa using this
  have hnext : ∀ i, i + 1 < (parts p).length → el (parts p) (i + 1) = el (parts p) i ++ 47 :: el (names p) (i + 1) := by
    intro i hi
    rw [hT]
    exact cums_next (names p) [] i (by rw [← hlen]; exact hi)
  have hun : ∀ i, i + 1 < (parts p).length → under (el (parts p) (i + 1)) (el (parts p) i) = true := by
    intro i hi
    rw [hnext i hi, under_iff]
    exact .inr ⟨_, rfl⟩
  have hl : el (parts p) ((parts p).length - 1) = p := by
    rw [hlast]
    simp [el]
  have hchain : ∀ d i, i + d + 1 = (parts p).length → under p (el (parts p) i) = true := by
    intro d
    induction d with
    | zero =>
      intro i hi
      have : i = (parts p).length - 1 := by omega
      rw [this, hl]
      exact under_refl p
    | succ d ih =>
      intro i hi
      exact under_trans (ih (i + 1) (by omega)) (hun i (by omega))
  refine ⟨by omega, by omega, hl, ?_, ?_, ?_, hun, ?_⟩
  · intro i hi
    rw [isPath, chk_names, hnames i hi, Bool.and_eq_true, decide_eq_true_eq, List.length_take]
    refine ⟨?_, by omega⟩
    rw [List.all_eq_true] at hall ⊢
    exact fun x hx => hall x (List.mem_of_mem_take hx)
  · intro i hi
    have h1 := names_count (el (parts p) i)
    rw [hnames i hi, List.length_take] at h1
    omega
  · intro i hi
    exact hchain ((parts p).length - 1 - i) i (by omega)
  · intro i hi
    rw [Bool.eq_false_iff]
    intro q
    have h1 := under_len q
    rw [hnext i hi] at h1
    simp at h1
    omega

end Go.Proofs.Ytcecgcgnpildpaa
