/- The laws WireGets and WirePuts. -/
import Derived.Test.YtoklfcaaaljikaaK
namespace Go.Proofs.Ytoklfcaaaljikaa
open Go.RowKit Go.Lib

theorem wB258 : wB 3 258 = [2, 1, 0] := by decide

theorem awake12 (w : World) : Calls Try.prog 19 #[] w fun e w' => e = .returned (.bool true) ∧ Below w.heap.size w w' := by
  go_enter Try.func19, Try.ntmps19
  go_wp2_with fail
  refine (wput_ok none 0 0 [] 3 258 w Reads.none_ (by omega) (by omega) (by omega) (by omega) (by omega) (by decide)).mono ?_
  rintro e w1 ⟨v, rfl, hown, hb⟩
  rw [wB258] at hown
  simp only [Nat.zero_add, List.nil_append] at hown
  obtain ⟨A, c, rfl, hc, hm, hR⟩ := own_reads hown
  have q := conv_reads (P := Try.prog) 22 5 9 Try.underlying22 Try.underlying5 Try.underlying9 hR c
  rw [show strOfNums [2, 1, 0] = ⟨#[2, 1, 0]⟩ by rfl] at q
  clear hown hR
  go_wp2
  go_ret
  exact ⟨rfl, hb⟩


theorem wireGet_back (xs : List Int) (a n r e : Int) (hx : ∀ x ∈ xs, 0 ≤ x ∧ x ≤ 255) (h : wireGet xs a n = (r, e, 0)) :
    ∃ k N : Nat, a = k ∧ n = N ∧ e = ((k + N : Nat) : Int) ∧ k + N ≤ xs.length ∧ 1 ≤ N ∧ N ≤ 8 ∧ 0 ≤ r ∧ r ≤ 18446744073709551615 ∧ r / 256 ^ N = 0 ∧ wB N r = (xs.drop k).take N := by
  unfold wireGet at h
  split at h
  · simp at h
  · split at h
    · simp at h
    · obtain ⟨k, rfl⟩ : ∃ k : Nat, a = k := ⟨a.toNat, by omega⟩
      obtain ⟨N, rfl⟩ : ∃ N : Nat, n = N := ⟨n.toNat, by omega⟩
      simp only [Int.toNat_natCast, Prod.mk.injEq] at h
      have hl : ((xs.drop k).take N).length = N := by rw [List.length_take, List.length_drop]; omega
      have hx' : ∀ x ∈ (xs.drop k).take N, 0 ≤ x ∧ x ≤ 255 := fun x h => hx x (List.mem_of_mem_drop (List.mem_of_mem_take h))
      have h1 := wV_rng _ hx'
      have h2 := wB_wV _ hx'
      rw [hl] at h1 h2
      rw [h.1] at h1 h2
      have hp : (256 : Int) ^ N ≤ 18446744073709551616 := by
        rcases (by omega : N = 1 ∨ N = 2 ∨ N = 3 ∨ N = 4 ∨ N = 5 ∨ N = 6 ∨ N = 7 ∨ N = 8) with rfl | rfl | rfl | rfl | rfl | rfl | rfl | rfl <;> decide
      exact ⟨k, N, rfl, rfl, by rw [← h.2.1]; simp, by omega, by omega, by omega, h1.1, by omega, Int.ediv_eq_zero_of_lt h1.1 h1.2, h2⟩

set_option maxHeartbeats 1600000 in
theorem wgets_law (A : Option Addr) (m c : Nat) (xs : List Int) (a n : Int) (w : World) (hr : Reads w w.heap.size 1 A m (xs.map (Value.int .u8))) (hx : ∀ x ∈ xs, 0 ≤ x ∧ x ≤ 255) (hmc : m ≤ c) (hcm : c ≤ maxLen)
    (ha0 : -9223372036854775808 ≤ a) (ha1 : a ≤ 9223372036854775807) :
    Calls Try.prog 8 #[.slice A m c, .int .i64 a, .int .i64 n] w fun e w' => e = .returned (.bool true) ∧ Below w.heap.size w w' := by
  have hcm' : c ≤ 9223372036854775807 := by unfold maxLen at hcm; omega
  have hlen : xs.length = m := by simpa using hr.1
  by_cases hbig : m > 200
  · go_enter Try.func8, Try.ntmps8
    go_wp2_with fail
    refine (awake12 w).mono ?_
    rintro e w1 ⟨rfl, hb⟩
    go_wp2
    go_ret
    exact ⟨rfl, hb⟩
  · go_enter Try.func8, Try.ntmps8
    go_wp2_with fail
    refine (awake12 w).mono ?_
    rintro e w1 ⟨rfl, hb⟩
    have hr1 := (hr.below hb).more hb.size
    go_wp2_with fail
    refine (wget_any A m c xs a n w1 hr1 hx (by omega) hmc hcm ha0 ha1).mono ?_
    rintro e w1 ⟨rfl, rfl⟩
    unfold wtup3
    go_wp2_with fail
    refine (rwget_any A m c xs a n w1 hr1 hx (by omega) hmc hcm ha0 ha1).mono ?_
    rintro e w1 ⟨rfl, rfl⟩
    unfold wtup3
    obtain ⟨⟨r, e, q⟩, hres⟩ : ∃ r, r = wireGet xs a n := ⟨_, rfl⟩
    rw [← hres]
    by_cases hq : q = 0
    · subst hq
      obtain ⟨k, N, rfl, rfl, rfl, hkm, hN1, hN8, h0, h1, hfit, hlb⟩ := wireGet_back xs a n r e hx hres.symm
      clear hres
      obtain ⟨b, off, rfl, hbl, _⟩ := hr1.cells_ (by omega)
      have hrc := hr1.sub (show k + N ≤ m by omega)
      rw [← hlb] at hrc
      have hck : ¬ c = k := by omega
      have hkn : k + N ≤ m := by omega
      go_wp2_with fail
      refine (wput_ok none 0 0 [] N r w1 Reads.none_ (by omega) hN1 hN8 h0 h1 hfit).mono ?_
      rintro e w2 ⟨v2, rfl, hown2, hb2⟩
      simp only [Nat.zero_add, List.nil_append] at hown2
      obtain ⟨A2, c2, rfl, hc2, hm2, hr2⟩ := own_reads hown2
      have q2 := fun nq => conv_reads (P := Try.prog) 22 5 9 Try.underlying22 Try.underlying5 Try.underlying9 (hr2.drewN nq) c2
      have q3 := fun nq => conv_reads (P := Try.prog) 22 5 9 Try.underlying22 Try.underlying5 Try.underlying9 ((hrc.below hb2).drewN nq) (c - k)
      have HB := bchain hb hb2
      clear hown2 hr2 hrc hr1 hr hlb hx hlen hfit hb2 hb
      go_wp2_with fail
      go_quiet (fail)
      go_wp2
      go_ret
      exact ⟨rfl, below_drewN HB _⟩
    · clear hres
      have hq1 : (q == 0) = false := by simpa using hq
      have hq2 : (q != 0) = true := by simpa using hq
      go_wp2
      go_ret
      exact ⟨rfl, hb⟩


theorem wireGet_there (xs ys : List Int) (N : Nat) (u : Int) (h1 : 1 ≤ N) (h8 : N ≤ 8) (hfit : u / 256 ^ N = 0) : wireGet (xs ++ wB N u ++ ys) xs.length N = (u, ((xs.length + N : Nat) : Int), 0) := by
  have hl := wB_length N u
  unfold wireGet
  rw [if_neg (by simp; omega), if_neg (by simp [hl]; omega), List.append_assoc]
  simp only [Int.toNat_natCast, List.drop_left]
  rw [show (wB N u ++ ys).take N = wB N u by have h := List.take_left (l₁ := wB N u) (l₂ := ys); rwa [hl] at h, wV_wB N u hfit]
  simp

set_option maxHeartbeats 1600000 in
theorem wputs_law (A0 A2 : Option Addr) (n0 c0 n2 c2 : Nat) (xs ys : List Int) (n u : Int) (w : World) (hr0 : Reads w w.heap.size 1 A0 n0 (xs.map (Value.int .u8))) (hr2 : Reads w w.heap.size 1 A2 n2 (ys.map (Value.int .u8)))
    (hx : ∀ x ∈ xs, 0 ≤ x ∧ x ≤ 255) (hy : ∀ x ∈ ys, 0 ≤ x ∧ x ≤ 255) (h0 : 0 ≤ u) (h1 : u ≤ 18446744073709551615) (hn0 : n0 ≤ maxLen) (hn2 : n2 ≤ maxLen) :
    Calls Try.prog 7 #[.slice A0 n0 c0, .int .i64 n, .int .u64 u, .slice A2 n2 c2] w fun e w' => e = .returned (.bool true) ∧ Below w.heap.size w w' := by
  unfold maxLen at hn0 hn2
  by_cases hbig : n0 > 100 ∨ n2 > 100
  · go_enter Try.func7, Try.ntmps7
    go_wp2_with fail
    refine (awake12 w).mono ?_
    rintro e w1 ⟨rfl, hb⟩
    by_cases h100 : n0 > 100
    · go_wp2
      go_ret
      exact ⟨rfl, hb⟩
    · have h200 : n2 > 100 := by omega
      go_wp2
      go_ret
      exact ⟨rfl, hb⟩
  · have hk0 : n0 ≤ 100 := by omega
    have hk2 : n2 ≤ 100 := by omega
    have hlx : xs.length = n0 := by simpa using hr0.1
    have hnil := fun (W : World) => run_convert_bytes_nil (P := Try.prog) W 22 5 Try.underlying22 Try.underlying5 0 0 9 Try.underlying9
    by_cases hbad : n < 1 ∨ n > 8
    · go_enter Try.func7, Try.ntmps7
      go_wp2_with fail
      refine (awake12 w).mono ?_
      rintro e w1 ⟨rfl, hb⟩
      go_wp2_with fail
      refine (wput_arg A0 n0 c0 n u w1 hbad).mono ?_
      rintro e w1 ⟨rfl, rfl⟩
      go_wp2_with fail
      refine (rwput_arg A0 n0 c0 n u w1 hbad).mono ?_
      rintro e w1 ⟨rfl, rfl⟩
      go_wp2
      go_ret
      exact ⟨rfl, hb⟩
    · obtain ⟨N, rfl⟩ : ∃ N : Nat, n = N := ⟨n.toNat, by omega⟩
      have hN1 : 1 ≤ N := by omega
      have hN8 : N ≤ 8 := by omega
      by_cases hfit : u / 256 ^ N = 0
      · obtain ⟨i0, hi, hz0, hz1, hz2⟩ := info_parts Try.infou8
        have hone : ∀ zs : List Int, ∀ u ∈ zs.map (Value.int .u8), u.oneCell' = true := by
          intro zs u hu
          obtain ⟨x, _, rfl⟩ := List.mem_map.1 hu
          rfl
        have hg := wireGet_there xs ys N u hN1 hN8 hfit
        rw [hlx] at hg
        have HG := hide hg
        clear hg
        have hin : ∀ x ∈ xs ++ wB N u ++ ys, 0 ≤ x ∧ x ≤ 255 := by
          intro x hx'
          simp only [List.mem_append] at hx'
          rcases hx' with (h | h) | h
          · exact hx x h
          · exact wB_rng N u x h
          · exact hy x h
        clear hx hy hlx
        go_enter Try.func7, Try.ntmps7
        go_wp2_with fail
        refine (awake12 w).mono ?_
        rintro e w1 ⟨rfl, hb⟩
        have ha1 := (hr0.below hb).more hb.size
        go_wp2_with fail
        refine (wput_ok A0 n0 c0 xs N u w1 ha1 (by omega) hN1 hN8 h0 h1 hfit).mono ?_
        rintro e w2 ⟨v2, rfl, hown2, hb2⟩
        obtain ⟨B2, d2, rfl, hd2, hm2, hR2⟩ := own_reads hown2
        have hB2 := bchain hb hb2
        have ha2 := (hr0.below hB2).more hB2.size
        go_wp2_with fail
        refine (rwput_ok A0 n0 c0 xs N u w2 ha2 (by omega) hN1 hN8 h0 h1 hfit).mono ?_
        rintro e w3 ⟨v3, rfl, hown3, hb3⟩
        obtain ⟨B3, d3, rfl, hd3, hm3, hR3⟩ := own_reads hown3
        have hB3 := bchain hB2 hb3
        have q1 := conv_reads (P := Try.prog) 22 5 9 Try.underlying22 Try.underlying5 Try.underlying9 (hR2.below hb3) d2
        have q3 := conv_reads (P := Try.prog) 22 5 9 Try.underlying22 Try.underlying5 Try.underlying9 hR3 d3
        have hown0 : (w3.alloc (Obj.cells #[] 5)).ownsRow w3.heap.size 5 1 (.slice (some ⟨w3.heap.size, 0, none⟩) 0 0) 0 [] := World.ownsRow_made w3 #[] 0 (Nat.le_refl _) (Nat.zero_le _) rfl
        have hb0 : Below w3.heap.size w3 (w3.alloc (Obj.cells #[] 5)) := (Below.refl _ _).alloc (Nat.le_refl _) _
        have ra := (hR2.below hb3).below (hb0.mono hb3.size)
        clear hown2 hown3 ha1 ha2 hnil hfit
        go_wp2_with (first
          | (at_builtin; (refine wpList_append_any _ rfl (.tmp 53) (.tmp 54) _ rfl w3.heap.size 5 i0 _ 1 1 Try.underlying22 hi hz0 hz1 hz2 rfl (by omega) _ 0 [] rfl hown0 w2.heap.size B2 _ d2 _ rfl ra (hone _) (by simp only [maxLen]; omega) (by omega) hb0.size ?_); intro v4 w4 hown4 hg4 hat4; have hb4 := hb0.grown hg4 hb0.size (fun k hk => (hown0.lt k hk).1))
          | (at_builtin; (refine wpList_append_any _ rfl (.tmp 55) (.tmp 56) _ rfl w3.heap.size 5 i0 _ 1 1 Try.underlying22 hi hz0 hz1 hz2 rfl (by omega) v4 _ _ rfl hown4 w.heap.size A2 n2 c2 _ rfl (hr2.below (hB3.trans (hb4.mono hB3.size))) (hone _) (by simp only [maxLen]; omega) (by omega) hb4.size ?_); intro v5 w5 hown5 hg5 hat5; have hb5 := hb4.grown hg5 hb4.size (fun k hk => (hown4.lt k hk).1)))
        simp only [Nat.zero_add, List.nil_append, ← List.map_append] at hown5
        obtain ⟨B5, d5, rfl, hd5, hm5, hR5⟩ := own_reads hown5
        refine (wget_any B5 _ d5 (xs ++ wB N u ++ ys) n0 N w5 hR5 hin (by omega) hd5 hm5 (by omega) (by omega)).mono ?_
        rintro e w5 ⟨rfl, rfl⟩
        rw [HG.out]
        unfold wtup3
        clear q1 q3
        go_wp2
        go_ret
        exact ⟨rfl, hB3.trans (hb5.mono hB3.size)⟩
      · have hN : N < 8 := by
          by_cases h : N = 8
          · subst h
            exact absurd (Int.ediv_eq_zero_of_lt h0 (by omega)) hfit
          · omega
        go_enter Try.func7, Try.ntmps7
        go_wp2_with fail
        refine (awake12 w).mono ?_
        rintro e w1 ⟨rfl, hb⟩
        go_wp2_with fail
        refine (wput_val A0 n0 c0 N u w1 hN1 hN h0 h1 hfit).mono ?_
        rintro e w1 ⟨rfl, rfl⟩
        go_wp2_with fail
        refine (rwput_val A0 n0 c0 N u w1 hN1 hN8 h0 h1 hfit).mono ?_
        rintro e w2 ⟨rfl, hb2⟩
        clear hfit
        go_wp2
        go_ret
        exact ⟨rfl, bchain hb hb2⟩

end Go.Proofs.Ytoklfcaaaljikaa
