/- The laws PredRests and PredCells. -/
import Derived.Test.YtafokllnelibcaaPG
namespace Go.Proofs.Ytafokllnelibcaa
open Go.RowKit Go.Lib

theorem map_getD (f : Nat → Int) (n j : Nat) (h : j < n) : ((List.range n).map f).getD j 0 = f j := by simp [List.getD, h]
theorem list_range (xs : List Int) : (List.range xs.length).map (fun j => xs.getD j 0) = xs := by
  apply List.ext_getElem?
  intro j
  by_cases hj : j < xs.length
  · simp [hj, List.getD]
  · rw [List.getElem?_eq_none (by simp; omega), List.getElem?_eq_none (by omega)]
/-- The cells of the rests are the cells. -/
theorem cells_rests (K W n : Nat) (f : Nat → Int) (hW : 1 ≤ W) : ∀ i, i < n → cF K W (fun j => ((List.range n).map (restS K W f)).getD j 0) i = f i := by
  intro i hi
  refine (cF_unique K W _ f hW n (fun i hi => ?_) i hi).symm
  rw [map_getD _ _ _ hi]
  unfold restS
  omega
/-- The rests of the cells are the rests. -/
theorem rests_cells (K W n : Nat) (r : Nat → Int) (hW : 1 ≤ W) : ∀ i, i < n → restS K W (fun j => ((List.range n).map (cF K W r)).getD j 0) i = r i := by
  intro i hi
  show ((List.range n).map (cF K W r)).getD i 0 - gS K W i (fun j => ((List.range n).map (cF K W r)).getD j 0) = r i
  rw [map_getD _ _ _ hi, gS_congr K W i _ (cF K W r) hW (fun j hj => map_getD _ _ _ (by omega)), cF_eq K W r i hW]
  omega
theorem map_range_congr (f g : Nat → Int) (n : Nat) (h : ∀ i, i < n → f i = g i) : (List.range n).map f = (List.range n).map g :=
  List.map_congr_left fun i hi => h i (List.mem_range.1 hi)

set_option maxRecDepth 100000 in
set_option maxHeartbeats 3200000 in
theorem cells_law (A : Option Addr) (n c : Nat) (xs : List Int) (k W : Int) (w : World) (hr : Reads w w.heap.size 1 A n (xs.map (Value.int .i64))) (hnc : n ≤ c) (hcm : c ≤ maxLen)
    (hx : ∀ x ∈ xs, -9223372036854775808 ≤ x ∧ x ≤ 9223372036854775807) (hW1 : W ≤ 9223372036854775807) :
    Calls Try.prog 5 #[.int .i64 k, .int .i64 W, .slice A n c] w fun e w' => e = .returned (.bool true) ∧ Below w.heap.size w w' := by
  have hcm' : c ≤ 9223372036854775807 := by unfold maxLen at hcm; omega
  have hlen : xs.length = n := by simpa using hr.1
  by_cases hbig : n > 600
  · go_enter Try.func5, Try.ntmps5
    go_wp2_with fail
    refine (awake04 w).mono ?_
    rintro e w1 ⟨rfl, hb⟩
    go_wp2
    go_ret
    exact ⟨rfl, hb⟩
  · by_cases hR : rightP k W n
    · obtain ⟨K, rfl⟩ : ∃ K : Nat, k = K := ⟨k.toNat, by have := hR.1; omega⟩
      obtain ⟨V, rfl⟩ : ∃ V : Nat, W = V := ⟨W.toNat, by have := hR.2.2.1; omega⟩
      have hV1 : 1 ≤ V := by have := hR.2.2.1; omega
      obtain ⟨m, hm, hok, hno⟩ := first_bad (cF K V (fun j => xs.getD j 0)) n
      have HO := hide hok
      have HN := hide hno
      have HX := hide hx
      clear hok hno hx
      go_enter Try.func5, Try.ntmps5
      go_wp2_with fail
      refine (awake04 w).mono ?_
      rintro e w1 ⟨rfl, hb⟩
      have hr1 := (hr.below hb).more hb.size
      go_wp2_with fail
      refine (cells_any A n c K V m xs w1 hr1 hR hnc hcm (by omega) (by omega) HX.out hm HO.out HN.out).mono ?_
      rintro e w2 ⟨hb2, he2⟩
      have hB2 := bchain hb hb2
      have hr2 := (hr.below hB2).more hB2.size
      by_cases hmn : m = n
      · rw [if_pos hmn] at he2
        obtain ⟨v2, rfl, hown2⟩ := he2
        obtain ⟨A2, c2, rfl, hc2, hm2, hR2⟩ := own_reads hown2
        clear hown2
        go_wp2_with fail
        refine (rcells_any A n c K V m xs w2 hr2 hR hnc hcm (by omega) (by omega) HX.out hm HO.out HN.out).mono ?_
        rintro e w3 ⟨hb3, he3⟩
        rw [if_pos hmn] at he3
        obtain ⟨v3, rfl, hown3⟩ := he3
        obtain ⟨A3, c3, rfl, hc3, hm3, hR3⟩ := own_reads hown3
        clear hown3
        have hB3 := bchain hB2 hb3
        have hR2' := (hR2.below hb3).more hb3.size
        go_wp2_with fail
        refine (same_any A2 A3 n c2 c3 _ w3 hR2' hR3 (by omega)).mono ?_
        rintro e w4 ⟨rfl, mm, rfl⟩
        go_wp2_with fail
        obtain ⟨W4, hW4⟩ : ∃ W4, W4 = w3.drewN mm := ⟨_, rfl⟩
        have hR4 : Reads W4 W4.heap.size 1 A2 n (((List.range n).map (cF K V (fun j => xs.getD j 0))).map (Value.int .i64)) := by rw [hW4]; exact hR2'
        have hB4 : Below w.heap.size w W4 := by rw [hW4]; exact below_drewN hB3 mm
        rw [← hW4]
        clear hW4 hR2' hR3
        have hdone := rests_any A2 n c2 K V n ((List.range n).map (cF K V (fun j => xs.getD j 0))) W4 hR4 hR hc2 hm2 (by omega) (by omega) (Nat.le_refl _)
          (fun j hj => by rw [map_getD _ _ _ hj]; exact HO.out j (by omega)) (fun h => absurd h (by omega))
        rw [map_range_congr _ (fun j => xs.getD j 0) n (rests_cells K V n _ hV1), ← hlen, list_range, hlen] at hdone
        refine hdone.mono ?_
        rintro e w5 ⟨hb5, he5⟩
        rw [if_pos rfl] at he5
        obtain ⟨v5, rfl, hown5⟩ := he5
        obtain ⟨A5, c5, rfl, hc5, hm5, hR5⟩ := own_reads hown5
        have hB5 := bchain hB4 hb5
        have hr5 := (hr.below hB5).more hB5.size
        clear hown5 hdone
        go_wp2_with fail
        refine (same_any A5 A n c5 c _ w5 hR5 hr5 (by omega)).mono ?_
        rintro e w6 ⟨rfl, m6, rfl⟩
        go_wp2
        go_ret
        exact ⟨rfl, below_drewN hB5 m6⟩
      · rw [if_neg hmn] at he2
        subst he2
        go_wp2_with fail
        refine (rcells_any A n c K V m xs w2 hr2 hR hnc hcm (by omega) (by omega) HX.out hm HO.out HN.out).mono ?_
        rintro e w3 ⟨hb3, he3⟩
        rw [if_neg hmn] at he3
        subst he3
        have hB3 := bchain hB2 hb3
        go_wp2_with fail
        refine (same_any none none 0 0 0 [] w3 Reads.none_ Reads.none_ (by omega)).mono ?_
        rintro e w4 ⟨rfl, mm, rfl⟩
        go_wp2
        go_ret
        exact ⟨rfl, below_drewN hB3 mm⟩
    · go_enter Try.func5, Try.ntmps5
      go_wp2_with fail
      refine (awake04 w).mono ?_
      rintro e w1 ⟨rfl, hb⟩
      go_wp2_with fail
      refine (cells_arg A n c k W w1 hR).mono ?_
      rintro e w1 ⟨rfl, rfl⟩
      go_wp2_with fail
      refine (rcells_arg A n c k W w1 hR).mono ?_
      rintro e w1 ⟨rfl, rfl⟩
      go_wp2_with fail
      refine (same_any none none 0 0 0 [] w1 Reads.none_ Reads.none_ (by omega)).mono ?_
      rintro e w4 ⟨rfl, mm, rfl⟩
      go_wp2
      go_ret
      exact ⟨rfl, below_drewN hb mm⟩

theorem rest_rng (K W : Nat) (f : Nat → Int) (hW : 1 ≤ W) (i : Nat) (h : ∀ j, j ≤ i → mayP (f j)) : -4294967295 ≤ restS K W f i ∧ restS K W f i ≤ 4294967295 := by
  obtain ⟨g0, g1⟩ := gS_may K W i f hW (fun j hj => h j (by omega))
  obtain ⟨f0, f1⟩ := h i (Nat.le_refl _)
  unfold restS
  omega

set_option maxRecDepth 100000 in
set_option maxHeartbeats 3200000 in
theorem rests_law (A : Option Addr) (n c : Nat) (xs : List Int) (k W : Int) (w : World) (hr : Reads w w.heap.size 1 A n (xs.map (Value.int .i64))) (hnc : n ≤ c) (hcm : c ≤ maxLen)
    (hW1 : W ≤ 9223372036854775807) :
    Calls Try.prog 4 #[.int .i64 k, .int .i64 W, .slice A n c] w fun e w' => e = .returned (.bool true) ∧ Below w.heap.size w w' := by
  have hcm' : c ≤ 9223372036854775807 := by unfold maxLen at hcm; omega
  have hlen : xs.length = n := by simpa using hr.1
  by_cases hbig : n > 600
  · go_enter Try.func4, Try.ntmps4
    go_wp2_with fail
    refine (awake04 w).mono ?_
    rintro e w1 ⟨rfl, hb⟩
    go_wp2
    go_ret
    exact ⟨rfl, hb⟩
  · by_cases hR : rightP k W n
    · obtain ⟨K, rfl⟩ : ∃ K : Nat, k = K := ⟨k.toNat, by have := hR.1; omega⟩
      obtain ⟨V, rfl⟩ : ∃ V : Nat, W = V := ⟨W.toNat, by have := hR.2.2.1; omega⟩
      have hV1 : 1 ≤ V := by have := hR.2.2.1; omega
      obtain ⟨m, hm, hok, hno⟩ := first_bad (fun j => xs.getD j 0) n
      have HO := hide hok
      have HN := hide hno
      clear hok hno
      go_enter Try.func4, Try.ntmps4
      go_wp2_with fail
      refine (awake04 w).mono ?_
      rintro e w1 ⟨rfl, hb⟩
      have hr1 := (hr.below hb).more hb.size
      go_wp2_with fail
      refine (rests_any A n c K V m xs w1 hr1 hR hnc hcm (by omega) (by omega) hm HO.out HN.out).mono ?_
      rintro e w2 ⟨hb2, he2⟩
      have hB2 := bchain hb hb2
      have hr2 := (hr.below hB2).more hB2.size
      by_cases hmn : m = n
      · rw [if_pos hmn] at he2
        obtain ⟨v2, rfl, hown2⟩ := he2
        obtain ⟨A2, c2, rfl, hc2, hm2, hR2⟩ := own_reads hown2
        clear hown2
        go_wp2_with fail
        refine (rrests_any A n c K V m xs w2 hr2 hR hnc hcm (by omega) (by omega) hm HO.out HN.out).mono ?_
        rintro e w3 ⟨hb3, he3⟩
        rw [if_pos hmn] at he3
        obtain ⟨v3, rfl, hown3⟩ := he3
        obtain ⟨A3, c3, rfl, hc3, hm3, hR3⟩ := own_reads hown3
        clear hown3
        have hB3 := bchain hB2 hb3
        have hR2' := (hR2.below hb3).more hb3.size
        go_wp2_with fail
        refine (same_any A2 A3 n c2 c3 _ w3 hR2' hR3 (by omega)).mono ?_
        rintro e w4 ⟨rfl, mm, rfl⟩
        obtain ⟨W4, hW4⟩ : ∃ W4, W4 = w3.drewN mm := ⟨_, rfl⟩
        have hR4 : Reads W4 W4.heap.size 1 A2 n (((List.range n).map (restS K V (fun j => xs.getD j 0))).map (Value.int .i64)) := by rw [hW4]; exact hR2'
        have hB4 : Below w.heap.size w W4 := by rw [hW4]; exact below_drewN hB3 mm
        rw [← hW4]
        clear hW4 hR2' hR3 hR2
        have hrng : ∀ j, j < n → -4294967295 ≤ restS K V (fun j => xs.getD j 0) j ∧ restS K V (fun j => xs.getD j 0) j ≤ 4294967295 :=
          fun j hj => rest_rng K V _ hV1 j (fun i hi => HO.out i (by omega))
        have HRG := hide hrng
        clear hrng
        have hdone := cells_any A2 n c2 K V n ((List.range n).map (restS K V (fun j => xs.getD j 0))) W4 hR4 hR hc2 hm2 (by omega) (by omega)
          (fun x hx => by
            obtain ⟨j, hj, rfl⟩ := List.mem_map.1 hx
            have := HRG.out j (List.mem_range.1 hj)
            omega) (Nat.le_refl _)
          (fun j hj => by rw [cells_rests K V n _ hV1 j hj]; exact HO.out j (by omega)) (fun h => absurd h (by omega))
        rw [map_range_congr _ (fun j => xs.getD j 0) n (cells_rests K V n _ hV1)] at hdone
        have HD := hide hdone
        clear hdone
        go_wp2
        go_loop [11] (fun i => ∃ j : Nat, i = .int .i64 j ∧ j ≤ n) (fun i => n - (intOf i).toNat)
        case atStart => exact ⟨0, rfl, by omega⟩
        case round =>
          obtain ⟨j, rfl, hj⟩ := hrel
          by_cases hlt : j < n
          · obtain ⟨b2, off2, rfl, hbl2, hcell2⟩ := hR4.cells_ (by omega)
            have hc := hcell2 j (.int .i64 (restS K V (fun j => xs.getD j 0) j)) (by simp [hlt])
            obtain ⟨r0, r1⟩ := HRG.out j hlt
            clear hcell2 hR4
            generalize restS K V (fun j => xs.getD j 0) j = r at *
            go_wp2
            go_round
            case rel => exact ⟨j + 1, by go_num, by omega⟩
            case measure => simp [intOf]; omega
          · obtain rfl : j = n := by omega
            go_wp2_with fail
            refine HD.out.mono ?_
            rintro e w5 ⟨hb5, he5⟩
            rw [if_pos rfl] at he5
            obtain ⟨v5, rfl, hown5⟩ := he5
            have hxs : (List.range j).map (fun j => xs.getD j 0) = xs := by rw [← hlen]; exact list_range xs
            rw [hxs] at hown5
            obtain ⟨A5, c5, rfl, hc5, hm5, hR5⟩ := own_reads hown5
            have hB5 := bchain hB4 hb5
            have hr5 := (hr.below hB5).more hB5.size
            clear hown5 HD hxs
            go_wp2_with fail
            refine (same_any A5 A j c5 c _ w5 hR5 hr5 (by omega)).mono ?_
            rintro e w6 ⟨rfl, m6, rfl⟩
            go_wp2
            go_ret
            exact ⟨rfl, below_drewN hB5 m6⟩
      · rw [if_neg hmn] at he2
        subst he2
        go_wp2_with fail
        refine (rrests_any A n c K V m xs w2 hr2 hR hnc hcm (by omega) (by omega) hm HO.out HN.out).mono ?_
        rintro e w3 ⟨hb3, he3⟩
        rw [if_neg hmn] at he3
        subst he3
        have hB3 := bchain hB2 hb3
        go_wp2_with fail
        refine (same_any none none 0 0 0 [] w3 Reads.none_ Reads.none_ (by omega)).mono ?_
        rintro e w4 ⟨rfl, mm, rfl⟩
        go_wp2
        go_ret
        exact ⟨rfl, below_drewN hB3 mm⟩
    · go_enter Try.func4, Try.ntmps4
      go_wp2_with fail
      refine (awake04 w).mono ?_
      rintro e w1 ⟨rfl, hb⟩
      go_wp2_with fail
      refine (rests_arg A n c k W w1 hR).mono ?_
      rintro e w1 ⟨rfl, rfl⟩
      go_wp2_with fail
      refine (rrests_arg A n c k W w1 hR).mono ?_
      rintro e w1 ⟨rfl, rfl⟩
      go_wp2_with fail
      refine (same_any none none 0 0 0 [] w1 Reads.none_ Reads.none_ (by omega)).mono ?_
      rintro e w4 ⟨rfl, mm, rfl⟩
      go_wp2
      go_ret
      exact ⟨rfl, below_drewN hb mm⟩

end Go.Proofs.Ytafokllnelibcaa
