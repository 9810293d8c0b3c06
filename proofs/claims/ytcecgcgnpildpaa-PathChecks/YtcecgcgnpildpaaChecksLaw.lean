/-
  The law PathChecks, walked: of whatever two texts it returns true.
-/
import Derived.Test.YtcecgcgnpildpaaRParts
import Derived.Test.YtcecgcgnpildpaaAwake
namespace Go.Proofs.Ytcecgcgnpildpaa
open Go.RowKit

theorem ris_of (s : ByteArray) (f : Bool) (hf : isPath s.data.toList = f) (w : World) :
    Calls Try.prog 9 #[.string s] w fun e w' => e = .returned (.bool f) ∧ Below w.heap.size w w' := by
  subst hf
  exact ris_any s w
theorem rname_of (s : ByteArray) (hm : s.size ≤ 9223372036854775807) (f : Bool) (hf : isName s.data.toList = f) (w : World) :
    Calls Try.prog 10 #[.string s] w fun e w' => e = .returned (.bool f) ∧ w' = w := by
  subst hf
  exact rname_any s hm w
theorem name_of (s : ByteArray) (f : Bool) (hf : isName s.data.toList = f) (w : World) :
    Calls Try.prog 12 #[.string s] w fun e w' => e = .returned (.int .i64 (err f)) ∧ w' = w := by
  subst hf
  exact name_any s w
theorem under_of (p d : ByteArray) (f : Bool) (hf : under p.data.toList d.data.toList = f) (w : World) :
    Calls Try.prog 16 #[.string p, .string d] w fun e w' => e = .returned (.bool f) ∧ w' = w := by
  subst hf
  exact under_any p d w
theorem runder_of (p d : ByteArray) (f : Bool) (hf : under p.data.toList d.data.toList = f) (w : World) :
    Calls Try.prog 17 #[.string p, .string d] w fun e w' => e = .returned (.bool f) ∧ w' = w := by
  subst hf
  exact runder_any p d w

set_option maxHeartbeats 1600000 in
set_option maxRecDepth 100000 in
theorem checks_walk (p d : ByteArray) (hp : p.size ≤ 9223372036854775807) (hd : d.size ≤ 9223372036854775807) (W : World) :
    Calls Try.prog 3 #[.string p, .string d] W fun e w' => e = .returned (.bool true) ∧ Below W.heap.size W w' := by
  obtain ⟨f, hf⟩ : ∃ f, isPath p.data.toList = f := ⟨_, rfl⟩
  obtain ⟨g, hg⟩ : ∃ g, isName d.data.toList = g := ⟨_, rfl⟩
  obtain ⟨u, hu⟩ : ∃ u, under p.data.toList d.data.toList = u := ⟨_, rfl⟩
  have c1 := ris_of p f hf
  have c2 := rname_of d hd g hg
  have c3 := check_at p hp f hf
  have c4 := name_of d g hg
  have c5 := under_of p d u hu
  have c6 := runder_of p d u hu
  obtain ⟨T, hT⟩ : ∃ T, parts p.data.toList = T := ⟨_, rfl⟩
  have c7 := parts_any p hp
  have c8 := rparts_any p
  rw [hT] at c7 c8
  have hTl : T.length ≤ 4000000000000000000 := by
    rw [← hT, parts]
    split
    · rename_i hh
      have h1 := pre_len p.data.toList p.data.toList.length
      have h2 := path_len hh
      rw [List.length_append, List.length_singleton]
      omega
    · simp
  clear hf hg hu hT
  go_enter Try.func3, Try.ntmps3
  go_wp2_with fail
  refine (awake_any _).mono ?_
  rintro e w1 ⟨rfl, hb1⟩
  have B1 : Hid (Below W.heap.size W w1) := hb1
  clear hb1
  cases f <;> cases g
  all_goals (first | rw [show err false = 2 from rfl] at c3 | rw [show err true = 0 from rfl] at c3)
  all_goals (first | rw [show err false = 2 from rfl] at c4 | rw [show err true = 0 from rfl] at c4)
  all_goals
    go_wp2_with fail
    refine (c1 _).mono ?_
    rintro e w2 ⟨rfl, hb2⟩
    have B2 : Hid (Below W.heap.size W w2) := B1.out.trans (hb2.mono B1.out.size)
    clear hb2
    go_wp2_with fail
    refine (c2 _).mono ?_
    rintro e w3 ⟨rfl, rfl⟩
    go_wp2_with fail
    refine (c3 _).mono ?_
    rintro e w4 ⟨rfl, m4, rfl⟩
    go_wp2_with fail
    refine (c4 _).mono ?_
    rintro e w5 ⟨rfl, rfl⟩
    go_wp2_with fail
    refine (c7 _).mono ?_
    rintro e w6 ⟨v6, rfl, ho6, hb6⟩
    obtain ⟨ao6, cap6, rfl, _, _, R6⟩ := ho6.form
    have B6 : Hid (Below W.heap.size W w6 ∧ Rd w6 ao6 T) := ⟨(below_drewN B2.out m4).trans (hb6.mono B2.out.size), R6⟩
    clear ho6 hb6 R6
    go_wp2_with fail
    refine (c8 _).mono ?_
    rintro e w7 ⟨v7, rfl, ho7, hb7⟩
    obtain ⟨ao7, cap7, rfl, _, _, R7⟩ := ho7.form
    have B7 : Hid (Below W.heap.size W w7 ∧ Rd w7 ao6 T ∧ Rd w7 ao7 T) := ⟨B6.out.1.trans (hb7.mono B6.out.1.size), B6.out.2.below hb7, R7⟩
    clear ho7 hb7 R7
    go_wp2_with fail
    refine (same_any _ B7.out.2.1 B7.out.2.2 rfl rfl hTl true (by simp)).mono ?_
    rintro e w8 ⟨rfl, m8, rfl⟩
    go_wp2_with fail
    refine (c5 _).mono ?_
    rintro e w9 ⟨rfl, rfl⟩
    go_wp2_with fail
    refine (c6 _).mono ?_
    rintro e w9 ⟨rfl, rfl⟩
    go_wp2
    go_ret
    exact ⟨rfl, below_drewN B7.out.1 m8⟩

end Go.Proofs.Ytcecgcgnpildpaa
