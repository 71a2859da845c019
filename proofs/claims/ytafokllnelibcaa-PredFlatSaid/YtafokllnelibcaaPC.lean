/- Contracts of pred.Guess; the chapter's example. -/
import Derived.Test.YtafokllnelibcaaPB
namespace Go.Proofs.Ytafokllnelibcaa
open Go.RowKit Go.Lib

theorem guessF_arg (A : Option Addr) (n c : Nat) (k W i : Int) (w : World) (h : ¬ rightP k W n) :
    Calls Try.prog 14 #[.int .i64 k, .slice A n c, .int .i64 W, .int .i64 i] w fun e w' => e = .returned (.tuple #[.int .i64 0, .int .i64 11]) ∧ w = w' := by
  go_enter Try.func14, Try.ntmps14
  go_wp2_with fail
  refine (pright_no k W n w h).mono ?_
  rintro e w ⟨rfl, rfl⟩
  go_wp2
  go_ret2
  exact ⟨rfl, rfl⟩

theorem guessF_place (A : Option Addr) (n c : Nat) (k W i : Int) (w : World) (h : rightP k W n) (hi : i < 0 ∨ i ≥ n) :
    Calls Try.prog 14 #[.int .i64 k, .slice A n c, .int .i64 W, .int .i64 i] w fun e w' => e = .returned (.tuple #[.int .i64 0, .int .i64 4]) ∧ w = w' := by
  by_cases h0 : i < 0
  · go_enter Try.func14, Try.ntmps14
    go_wp2_with fail
    refine (pright_yes k W n w h).mono ?_
    rintro e w ⟨rfl, rfl⟩
    clear h
    go_wp2
    go_ret2
    exact ⟨rfl, rfl⟩
  · have h1 : i ≥ n := by omega
    go_enter Try.func14, Try.ntmps14
    go_wp2_with fail
    refine (pright_yes k W n w h).mono ?_
    rintro e w ⟨rfl, rfl⟩
    clear h
    go_wp2
    go_ret2
    exact ⟨rfl, rfl⟩

/-- m: how many cells ahead of the first one that can't be; at most i. -/
def GuessPost (w : World) (m i : Nat) (g : Int) (e : Ending) (w' : World) : Prop :=
  Below w.heap.size w w' ∧ e = .returned (.tuple #[.int .i64 (if m = i then g else 0), .int .i64 (if m = i then 0 else 7)])

set_option maxHeartbeats 1600000 in
theorem guessF_any (A : Option Addr) (n c K W m i : Nat) (xs : List Int) (w : World) (hr : Reads w w.heap.size 1 A n (xs.map (Value.int .i64))) (hR : rightP K W n) (hnc : n ≤ c) (hcm : c ≤ maxLen) (hn : n ≤ 1000000) (hWm : W ≤ 9223372036854775807)
    (hi : i < n) (hm : m ≤ i) (hok : ∀ j, j < m → mayP (xs.getD j 0)) (hno : m < i → ¬ mayP (xs.getD m 0)) :
    Calls Try.prog 14 #[.int .i64 K, .slice A n c, .int .i64 W, .int .i64 i] w (GuessPost w m i (gS K W i (fun j => xs.getD j 0))) := by
  have hcm' : c ≤ 9223372036854775807 := by unfold maxLen at hcm; omega
  have hlen : xs.length = n := by simpa using hr.1
  have hK2 : K ≤ 2 := by have := hR.2.1; omega
  have hW1 : 1 ≤ W := by have := hR.2.2.1; omega
  obtain ⟨b, off, rfl, hbl, hcell⟩ := hr.cells_ (by omega)
  have hall : ∀ j, j < n → w.cell? ⟨b, off + j, none⟩ = some (.int .i64 (xs.getD j 0)) := fun j hj =>
    hcell j _ (by simp [List.getD, List.getElem?_eq_getElem (show j < xs.length by omega)])
  have t1 : decide ((i : Int) < 0) = false := by simp
  have t2 : decide (n ≤ i) = false := by simp; omega
  go_enter Try.func14, Try.ntmps14
  go_wp2_with fail
  refine (pright_yes K W n w hR).mono ?_
  rintro e w ⟨rfl, rfl⟩
  clear hr hcell hR
  have HA := hide hall
  have HO := hide hok
  have HN := hide hno
  clear hall hok hno
  go_wp2
  go_loop [30] (fun i' => ∃ k : Nat, i' = .int .i64 k ∧ k ≤ m) (fun i' => i - (intOf i').toNat)
  case atStart => exact ⟨0, rfl, by omega⟩
  case round =>
    obtain ⟨k, rfl, hk⟩ := hrel
    by_cases hlt : k < i
    · have hc := HA.out k (by omega)
      by_cases hkm : k < m
      · have hmay := HO.out k hkm
        generalize xs.getD k 0 = x at *
        go_wp2_with fail
        refine (pmay_yes x w hmay).mono ?_
        rintro e w ⟨rfl, rfl⟩
        go_wp2
        go_round
        case rel => exact ⟨k + 1, by go_num, by omega⟩
        case measure => simp [intOf]; omega
      · obtain rfl : k = m := by omega
        have hmay := HN.out hlt
        generalize xs.getD k 0 = x at *
        go_wp2_with fail
        refine (pmay_no x w hmay).mono ?_
        rintro e w ⟨rfl, rfl⟩
        go_wp2
        go_ret2
        exact ⟨Below.refl _ _, by rw [if_neg (by omega), if_neg (by omega)]; rfl⟩
    · obtain rfl : k = i := by omega
      obtain rfl : k = m := by omega
      have hge := guess_any K W k n c b off (fun j => xs.getD j 0) w hK2 hW1 hWm hi hnc hcm' (fun j hj => HA.out j (by omega)) HO.out
      obtain ⟨g, HG⟩ : ∃ g, Hid (g = gS K W k (fun j => xs.getD j 0)) := ⟨_, rfl⟩
      rw [← HG.out] at hge
      have HGE := hide hge
      clear hge
      go_wp2_with fail
      refine HGE.out.mono ?_
      rintro e w' ⟨rfl, mm, rfl⟩
      clear HGE
      go_wp2
      go_ret2
      exact ⟨below_drewN (Below.refl _ _) mm, by rw [if_pos rfl, if_pos rfl, ← HG.out]; rfl⟩

theorem awake04 (w : World) : Calls Try.prog 13 #[] w fun e w' => e = .returned (.bool true) ∧ Below w.heap.size w w' := by
  go_enter Try.func13, Try.ntmps13
  go_wp2_with fail
  have hr : Reads (w.alloc (.cells #[.int .i64 5, .int .i64 7, .int .i64 6, .int .i64 0] 2)) (w.alloc (.cells #[.int .i64 5, .int .i64 7, .int .i64 6, .int .i64 0] 2)).heap.size 1 (some ⟨w.heap.size, 0, none⟩) 4 ([5, 7, 6, 0].map (Value.int .i64)) :=
    Reads.of_own (World.ownsRow_lit w #[.int .i64 5, .int .i64 7, .int .i64 6, .int .i64 0] 4 (Nat.le_refl _) (by decide) rfl)
  refine (guessF_any _ 4 4 2 2 3 3 [5, 7, 6, 0] _ hr (by unfold rightP; decide) (by omega) (by decide) (by omega) (by omega) (by omega) (by omega) ?_ (by omega)).mono ?_
  · intro j hj
    rcases (by omega : j = 0 ∨ j = 1 ∨ j = 2) with rfl | rfl | rfl <;> exact ⟨by decide, by decide⟩
  rintro e w1 ⟨hb, rfl⟩
  rw [if_pos rfl, if_pos rfl, show gS 2 2 3 (fun j => [5, 7, 6, 0].getD j 0) = 7 by decide]
  have hB : Below w.heap.size w w1 := bchain ((Below.refl _ _).alloc (Nat.le_refl _) _) hb
  clear hr hb
  go_wp2
  go_ret
  exact ⟨rfl, hB⟩

end Go.Proofs.Ytafokllnelibcaa
