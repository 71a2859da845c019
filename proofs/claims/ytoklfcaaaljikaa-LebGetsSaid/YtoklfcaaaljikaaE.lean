/- The law LebApart: of two unlike numbers' bytes neither begins the other's. -/
import Derived.Test.YtoklfcaaaljikaaD
namespace Go.Proofs.Ytoklfcaaaljikaa
open Go.RowKit Go.Lib

theorem putnil_any (u : Int) (w : World) (h0 : 0 ≤ u) (h1 : u ≤ 18446744073709551615) :
    Calls Try.prog 10 #[.slice none 0 0, .int .u64 u] w fun e w' => ∃ A c, e = .returned (.slice A (lebB 9 u).length c) ∧ (lebB 9 u).length ≤ c ∧ c ≤ maxLen ∧ Reads w' w'.heap.size 1 A (lebB 9 u).length ((lebB 9 u).map (Value.int .u8)) ∧ Below w.heap.size w w' := by
  refine (put_any none 0 0 [] u w Reads.none_ (by omega) h0 h1).mono ?_
  rintro e w2 ⟨v2, rfl, hown2, hb2⟩
  simp only [Nat.zero_add, List.nil_append] at hown2
  obtain ⟨A2, c2, rfl, hc2, hm2, hr2⟩ := own_reads hown2
  exact ⟨A2, c2, rfl, hc2, hm2, hr2, hb2⟩

theorem apart_facts (u v : Int) (h0 : 0 ≤ u) (h1 : u ≤ 18446744073709551615) (h2 : 0 ≤ v) (h3 : v ≤ 18446744073709551615) (h : u < v) :
    (strOfNums (lebB 9 u)).size ≤ (strOfNums (lebB 9 v)).size ∧ ((((strOfNums (lebB 9 v)).extract 0 (strOfNums (lebB 9 u)).size).toList == (strOfNums (lebB 9 u)).toList) = false) ∧
    ((((strOfNums (lebB 9 u)).extract 0 (strOfNums (lebB 9 v)).size).toList == (strOfNums (lebB 9 v)).toList) = false) := by
  have ru := lebB_rng 9 u h0 (by omega)
  have rv := lebB_rng 9 v h2 (by omega)
  have hm := lebB_mono 9 u v (by omega)
  refine ⟨by rw [strOfNums_size, strOfNums_size]; exact hm, str_ne ?_, str_ne ?_⟩
  · intro he
    rw [strOfNums_size, strOfNums_take] at he
    have := strOfNums_inj (fun x hx => rv x (List.mem_of_mem_take hx)) ru he
    have := lebB_free 9 u v h0 h2 this
    omega
  · intro he
    rw [strOfNums_size, strOfNums_take] at he
    have := strOfNums_inj (fun x hx => ru x (List.mem_of_mem_take hx)) rv he
    have := lebB_free 9 v u h2 h0 this
    omega

set_option maxHeartbeats 1600000 in
theorem apart_law (u v : Int) (w : World) (h0 : 0 ≤ u) (h1 : u ≤ 18446744073709551615) (h2 : 0 ≤ v) (h3 : v ≤ 18446744073709551615) :
    Calls Try.prog 6 #[.int .u64 u, .int .u64 v] w fun e w' => e = .returned (.bool true) ∧ Below w.heap.size w w' := by
  go_enter Try.func6, Try.ntmps6
  go_wp2_with fail
  refine (awake2 w).mono ?_
  rintro e w1 ⟨rfl, hb⟩
  go_wp2_with fail
  go_region_with (first
    | (go_at_call_of 10 u; refine (putnil_any u _ h0 h1).mono ?_; rintro e w2 ⟨A2, c2, rfl, hc2, hm2, hr2, hb2⟩; have q2 := conv_reads (P := Try.prog) 22 5 9 Try.underlying22 Try.underlying5 Try.underlying9 hr2 c2)
    | (go_at_call_of 10 v; refine (putnil_any v _ h2 h3).mono ?_; rintro e w3 ⟨A3, c3, rfl, hc3, hm3, hr3, hb3⟩; have q3 := conv_reads (P := Try.prog) 22 5 9 Try.underlying22 Try.underlying5 Try.underlying9 hr3 c3; have q4 := conv_reads (P := Try.prog) 22 5 9 Try.underlying22 Try.underlying5 Try.underlying9 (hr2.below hb3) c2))
  all_goals (
    have hB : Below w.heap.size w w3 := bchain (bchain hb.drew hb2) hb3
    clear q2 q3 q4 hr2 hr3 hc2 hm2 hc3 hm3 hb2 hb3 hb
    rcases Int.lt_trichotomy u v with hlt | heq | hgt
    · obtain ⟨k1, k2, k3⟩ := apart_facts u v h0 h1 h2 h3 hlt
      generalize strOfNums (lebB 9 u) = s at *
      generalize strOfNums (lebB 9 v) = t at *
      have hne : (u == v) = false := by simp; omega
      by_cases hl : s.size < t.size
      · go_wp2
        go_ret
        exact ⟨rfl, hB⟩
      · go_wp2
        go_ret
        exact ⟨rfl, hB⟩
    · subst heq
      go_wp2
      go_ret
      exact ⟨rfl, hB⟩
    · obtain ⟨k1, k2, k3⟩ := apart_facts v u h2 h3 h0 h1 hgt
      generalize strOfNums (lebB 9 u) = s at *
      generalize strOfNums (lebB 9 v) = t at *
      have hne : (u == v) = false := by simp; omega
      by_cases hl : t.size < s.size
      · go_wp2
        go_ret
        exact ⟨rfl, hB⟩
      · go_wp2
        go_ret
        exact ⟨rfl, hB⟩)

end Go.Proofs.Ytoklfcaaaljikaa
