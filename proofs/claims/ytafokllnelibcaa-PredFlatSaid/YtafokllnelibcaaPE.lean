/- The law PredGuesses. -/
import Derived.Test.YtafokllnelibcaaPD
namespace Go.Proofs.Ytafokllnelibcaa
open Go.RowKit Go.Lib

instance (k W n : Int) : Decidable (rightP k W n) := by unfold rightP; infer_instance
def rightB (k W n : Int) : Bool := decide (rightP k W n)
theorem pright_b (k W n : Int) (w : World) : Calls Try.prog 18 #[.int .i64 k, .int .i64 W, .int .i64 n] w fun e w' => e = .returned (.bool (rightB k W n)) ∧ w = w' := by
  by_cases h : rightP k W n
  · rw [show rightB k W n = true from decide_eq_true h]; exact pright_yes k W n w h
  · rw [show rightB k W n = false from decide_eq_false h]; exact pright_no k W n w h
theorem rright_b (k W n : Int) (w : World) : Calls Try.prog 15 #[.int .i64 k, .int .i64 W, .int .i64 n] w fun e w' => e = .returned (.bool (rightB k W n)) ∧ w = w' := by
  by_cases h : rightP k W n
  · rw [show rightB k W n = true from decide_eq_true h]; exact rright_yes k W n w h
  · rw [show rightB k W n = false from decide_eq_false h]; exact rright_no k W n w h

/-- How many cells stand ahead of the first one that can't be. -/
theorem first_bad (f : Nat → Int) (i : Nat) : ∃ m, m ≤ i ∧ (∀ j, j < m → mayP (f j)) ∧ (m < i → ¬ mayP (f m)) := by
  induction i with
  | zero => exact ⟨0, Nat.le_refl _, fun j h => absurd h (by omega), fun h => absurd h (by omega)⟩
  | succ i ih =>
    obtain ⟨m, h1, h2, h3⟩ := ih
    by_cases hm : m < i
    · exact ⟨m, by omega, h2, fun _ => h3 hm⟩
    · obtain rfl : m = i := by omega
      by_cases hb : mayP (f m)
      · refine ⟨m + 1, Nat.le_refl _, fun j hj => ?_, fun h => absurd h (by omega)⟩
        by_cases hj2 : j < m
        · exact h2 j hj2
        · obtain rfl : j = m := by omega
          exact hb
      · exact ⟨m, by omega, h2, fun _ => hb⟩

set_option maxRecDepth 100000 in
set_option maxHeartbeats 3200000 in
theorem guesses_law (A : Option Addr) (n c : Nat) (xs : List Int) (k W i : Int) (w : World) (hr : Reads w w.heap.size 1 A n (xs.map (Value.int .i64))) (hnc : n ≤ c) (hcm : c ≤ maxLen)
    (hW1 : W ≤ 9223372036854775807) (hi0 : -9223372036854775808 ≤ i) :
    Calls Try.prog 3 #[.int .i64 k, .int .i64 W, .int .i64 i, .slice A n c] w fun e w' => e = .returned (.bool true) ∧ Below w.heap.size w w' := by
  have hcm' : c ≤ 9223372036854775807 := by unfold maxLen at hcm; omega
  have hlen : xs.length = n := by simpa using hr.1
  by_cases hbig : n > 600
  · go_enter Try.func3, Try.ntmps3
    go_wp2_with fail
    refine (awake04 w).mono ?_
    rintro e w1 ⟨rfl, hb⟩
    go_wp2
    go_ret
    exact ⟨rfl, hb⟩
  · by_cases hR : rightP k W n
    · by_cases hi : i < 0 ∨ i ≥ n
      · go_enter Try.func3, Try.ntmps3
        go_wp2_with fail
        refine (awake04 w).mono ?_
        rintro e w1 ⟨rfl, hb⟩
        clear hr
        go_wp2_with fail
        refine (guessF_place A n c k W i w1 hR hi).mono ?_
        rintro e w1 ⟨rfl, rfl⟩
        go_wp2_with fail
        refine (rright_yes k W n w1 hR).mono ?_
        rintro e w1 ⟨rfl, rfl⟩
        clear hR
        by_cases h0 : i < 0
        · go_wp2_with fail
          refine wp_loop_rounds 1 ?_
          rw [rounds_succ]
          go_wp2_with (first
            | (go_at_call 18; refine (pright_b _ _ _ _).mono ?_; rintro e w1 ⟨rfl, rfl⟩)
            | (go_at_call 15; refine (rright_b _ _ _ _).mono ?_; rintro e w1 ⟨rfl, rfl⟩))
          go_ret
          exact ⟨rfl, hb⟩
        · have h1 : i ≥ n := by omega
          go_wp2_with fail
          refine wp_loop_rounds 1 ?_
          rw [rounds_succ]
          go_wp2_with (first
            | (go_at_call 18; refine (pright_b _ _ _ _).mono ?_; rintro e w1 ⟨rfl, rfl⟩)
            | (go_at_call 15; refine (rright_b _ _ _ _).mono ?_; rintro e w1 ⟨rfl, rfl⟩))
          go_ret
          exact ⟨rfl, hb⟩
      · obtain ⟨K, rfl⟩ : ∃ K : Nat, k = K := ⟨k.toNat, by have := hR.1; omega⟩
        obtain ⟨V, rfl⟩ : ∃ V : Nat, W = V := ⟨W.toNat, by have := hR.2.2.1; omega⟩
        obtain ⟨I, rfl⟩ : ∃ I : Nat, i = I := ⟨i.toNat, by omega⟩
        have hIn : I < n := by omega
        obtain ⟨m, hm, hok, hno⟩ := first_bad (fun j => xs.getD j 0) I
        have hK2 : K ≤ 2 := by have := hR.2.1; omega
        have hV1 : 1 ≤ V := by have := hR.2.2.1; omega
        have HO := hide hok
        have HN := hide hno
        clear hok hno
        go_enter Try.func3, Try.ntmps3
        go_wp2_with fail
        refine (awake04 w).mono ?_
        rintro e w1 ⟨rfl, hb⟩
        have hr1 := (hr.below hb).more hb.size
        go_wp2_with fail
        refine (guessF_any A n c K V m I xs w1 hr1 hR hnc hcm (by omega) (by omega) hIn hm HO.out HN.out).mono ?_
        rintro e w2 ⟨hb2, rfl⟩
        have hB := bchain hb hb2
        obtain ⟨b, off, rfl, hbl, hcell⟩ := hr.cells_ (by omega)
        have hall : ∀ j, j < n → w2.cell? ⟨b, off + j, none⟩ = some (.int .i64 (xs.getD j 0)) := by
          intro j hj
          rw [hB.cell (p := ⟨b, off + j, none⟩) hbl]
          exact hcell j _ (by simp [List.getD, List.getElem?_eq_getElem (show j < xs.length by omega)])
        have HA := hide hall
        obtain ⟨G, HG⟩ : ∃ G, Hid (G = gS K V I (fun j => xs.getD j 0)) := ⟨_, rfl⟩
        rw [← HG.out]
        have hge : m = I → Calls Try.prog 17 #[.int .i64 K, .slice (some ⟨b, off, none⟩) n c, .int .i64 V, .int .i64 I] w2 fun e w' => e = .returned (.int .i64 G) ∧ ∃ m, w' = w2.drewN m := by
          intro h
          subst h
          rw [HG.out]
          exact rguess_any K V m n c b off (fun j => xs.getD j 0) w2 hK2 hV1 (by omega) (by omega) (by omega) hnc hcm' (fun j hj => HA.out j (by omega)) HO.out
        have HGE := hide hge
        clear hge hr hr1 hcell hall hb hb2
        have t1 : decide ((I : Int) < 0) = false := by simp
        have t2 : decide (n ≤ I) = false := by simp; omega
        obtain ⟨g1, hg1⟩ : ∃ g1 : Int, g1 = if m = I then G else 0 := ⟨_, rfl⟩
        obtain ⟨q1, hq1⟩ : ∃ q1 : Int, q1 = if m = I then 0 else 7 := ⟨_, rfl⟩
        rw [← hg1, ← hq1]
        have HG1 := hide hg1
        have HQ1 := hide hq1
        clear hg1 hq1
        go_wp2_with fail
        refine (rright_yes K V n w2 hR).mono ?_
        rintro e w2 ⟨rfl, rfl⟩
        clear hR
        go_wp2_with fail
        go_loop [12, 13] (fun cd i' => ∃ k : Nat, i' = .int .i64 k ∧ ((cd = .int .i64 0 ∧ k ≤ m) ∨ (cd = .int .i64 7 ∧ m < I ∧ k = m + 1))) (fun _ i' => I - (intOf i').toNat)
        case atStart => exact ⟨0, rfl, .inl ⟨rfl, by omega⟩⟩
        case round =>
          obtain ⟨k, rfl, h⟩ := hrel
          rcases h with ⟨rfl, hk⟩ | ⟨rfl, hmI, hk⟩
          · by_cases hlt : k < I
            · have hc := HA.out k (by omega)
              by_cases hkm : k < m
              · have hmay := HO.out k hkm
                generalize xs.getD k 0 = x at *
                go_wp2_with fail
                refine (rmay_yes x w2 hmay).mono ?_
                rintro e w2 ⟨rfl, rfl⟩
                go_wp2
                go_round
                case rel => exact ⟨k + 1, by go_num, .inl ⟨rfl, by omega⟩⟩
                case measure => simp [intOf]; omega
              · obtain rfl : k = m := by omega
                have hmay := HN.out hlt
                generalize xs.getD k 0 = x at *
                go_wp2_with fail
                refine (rmay_no x w2 hmay).mono ?_
                rintro e w2 ⟨rfl, rfl⟩
                go_wp2
                go_round
                case rel => exact ⟨k + 1, by go_num, .inr ⟨rfl, hlt, rfl⟩⟩
                case measure => simp [intOf]; omega
            · obtain rfl : k = m := by omega
              obtain rfl : k = I := by omega
              have e1 : g1 = G := by rw [HG1.out, if_pos rfl]
              have e2 : q1 = 0 := by rw [HQ1.out, if_pos rfl]
              subst e1 e2
              go_wp2_with fail
              refine (HGE.out (by simp)).mono ?_
              rintro e w3 ⟨rfl, mm, rfl⟩
              go_wp2_with (first
                | (go_at_call 18; refine (pright_b _ _ _ _).mono ?_; rintro e w1 ⟨rfl, rfl⟩)
                | (go_at_call 15; refine (rright_b _ _ _ _).mono ?_; rintro e w1 ⟨rfl, rfl⟩))
              go_ret
              exact ⟨rfl, below_drewN hB mm⟩
          · have e1 : g1 = 0 := by rw [HG1.out, if_neg (by omega)]
            have e2 : q1 = 7 := by rw [HQ1.out, if_neg (by omega)]
            subst e1 e2
            go_wp2_with (first
              | (go_at_call 18; refine (pright_b _ _ _ _).mono ?_; rintro e w1 ⟨rfl, rfl⟩)
              | (go_at_call 15; refine (rright_b _ _ _ _).mono ?_; rintro e w1 ⟨rfl, rfl⟩))
            go_ret
            exact ⟨rfl, hB⟩
    · go_enter Try.func3, Try.ntmps3
      go_wp2_with fail
      refine (awake04 w).mono ?_
      rintro e w1 ⟨rfl, hb⟩
      clear hr
      go_wp2_with fail
      refine (guessF_arg A n c k W i w1 hR).mono ?_
      rintro e w1 ⟨rfl, rfl⟩
      go_wp2_with fail
      refine (rright_no k W n w1 hR).mono ?_
      rintro e w1 ⟨rfl, rfl⟩
      clear hR
      go_wp2_with fail
      refine wp_loop_rounds 1 ?_
      rw [rounds_succ]
      go_wp2_with (first
        | (go_at_call 18; refine (pright_b _ _ _ _).mono ?_; rintro e w1 ⟨rfl, rfl⟩)
        | (go_at_call 15; refine (rright_b _ _ _ _).mono ?_; rintro e w1 ⟨rfl, rfl⟩))
      go_ret
      exact ⟨rfl, hb⟩

end Go.Proofs.Ytafokllnelibcaa
