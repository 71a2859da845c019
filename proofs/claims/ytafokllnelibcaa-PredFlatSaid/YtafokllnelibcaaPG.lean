/- Contracts of the document's own Cells, Rests, Same. -/
import Derived.Test.YtafokllnelibcaaPF
namespace Go.Proofs.Ytafokllnelibcaa
open Go.RowKit Go.Lib

set_option maxHeartbeats 800000 in
theorem same_any (A B : Option Addr) (n c d : Nat) (xs : List Int) (w : World) (hA : Reads w w.heap.size 1 A n (xs.map (Value.int .i64))) (hB : Reads w w.heap.size 1 B n (xs.map (Value.int .i64))) (hn : n ≤ 1000000) :
    Calls Try.prog 21 #[.slice A n c, .slice B n d] w fun e w' => e = .returned (.bool true) ∧ ∃ m, w' = w.drewN m := by
  have hlen : xs.length = n := by simpa using hA.1
  go_enter Try.func21, Try.ntmps21
  go_wp2
  go_loopw [5] (fun i wr => ∃ k j : Nat, i = .int .i64 k ∧ k ≤ n ∧ wr = w.drewN j) (fun i _ => n - (intOf i).toNat)
  case atStart => exact ⟨0, 0, rfl, by omega, rfl⟩
  case round =>
    obtain ⟨k, j, rfl, hk, rfl⟩ := hrel
    by_cases hlt : k < n
    · obtain ⟨b, off, rfl, _, hcA⟩ := hA.cells_ (by omega)
      obtain ⟨b2, off2, rfl, _, hcB⟩ := hB.cells_ (by omega)
      have h1 : w.cell? ⟨b, off + k, none⟩ = some (.int .i64 (xs.getD k 0)) := hcA k _ (by simp [List.getD, List.getElem?_eq_getElem (show k < xs.length by omega)])
      have h2 : w.cell? ⟨b2, off2 + k, none⟩ = some (.int .i64 (xs.getD k 0)) := hcB k _ (by simp [List.getD, List.getElem?_eq_getElem (show k < xs.length by omega)])
      clear hcA hcB hA hB
      generalize xs.getD k 0 = x at *
      have i1 : (k : Int) < n := by omega
      go_wp2
      go_quiet (fail)
      go_wp2
      go_roundw
      case rel => exact ⟨k + 1, _, by go_num, by omega, rfl⟩
      case measure => simp [intOf]; omega
    · go_wp2
      go_ret
      exact ⟨rfl, _, rfl⟩

theorem rcells_arg (A : Option Addr) (n c : Nat) (k W : Int) (w : World) (h : ¬ rightP k W n) :
    Calls Try.prog 23 #[.int .i64 k, .slice A n c, .int .i64 W] w fun e w' => e = .returned (.tuple #[.slice none 0 0, .int .i64 11]) ∧ w = w' := by
  go_enter Try.func23, Try.ntmps23
  go_wp2_with fail
  refine (rright_no k W n w h).mono ?_
  rintro e w ⟨rfl, rfl⟩
  go_wp2
  go_ret2
  exact ⟨rfl, rfl⟩

theorem range_snoc (f : Nat → Int) (k : Nat) : (List.range (k + 1)).map f = (List.range k).map f ++ [f k] := by
  rw [List.range_succ, List.map_append]; rfl

/-- The document's guess for the cell behind an owned row of k cells. -/
theorem rguess_own (K W k : Nat) (f : Nat → Int) (A : Option Addr) (c : Nat) (w : World) (hK : K ≤ 2) (hW : 1 ≤ W) (hWm : W ≤ 9223372036854775807) (hk : k ≤ 1000000) (hkc : k ≤ c) (hcm : c ≤ 9223372036854775807)
    (hr : Reads w w.heap.size 1 A k (((List.range k).map f).map (Value.int .i64))) (hf : ∀ j, j < k → mayP (f j)) :
    Calls Try.prog 17 #[.int .i64 K, .slice A k c, .int .i64 W, .int .i64 k] w fun e w' => e = .returned (.int .i64 (gS K W k f)) ∧ ∃ m, w' = w.drewN m := by
  rcases Nat.eq_zero_or_pos k with h | h
  · subst h
    exact rguess_zero K W 0 c A f w hW hWm
  · obtain ⟨b, off, rfl, _, hc⟩ := hr.cells_ h
    exact rguess_any K W k k c b off f w hK hW hWm (Nat.le_refl _) hk hkc hcm (fun j hj => hc j _ (by simp [hj])) hf

set_option maxHeartbeats 1600000 in
theorem rcells_any (A : Option Addr) (n c K W m : Nat) (xs : List Int) (w : World) (hr : Reads w w.heap.size 1 A n (xs.map (Value.int .i64))) (hR : rightP K W n) (hnc : n ≤ c) (hcm : c ≤ maxLen) (hn : n ≤ 1000000) (hWm : W ≤ 9223372036854775807)
    (hx : ∀ x ∈ xs, -9223372036854775808 ≤ x ∧ x ≤ 9223372036854775807)
    (hm : m ≤ n) (hok : ∀ j, j < m → mayP (cF K W (fun j => xs.getD j 0) j)) (hno : m < n → ¬ mayP (cF K W (fun j => xs.getD j 0) m)) :
    Calls Try.prog 23 #[.int .i64 K, .slice A n c, .int .i64 W] w (RestsPost w m n ((List.range n).map (cF K W (fun j => xs.getD j 0)))) := by
  have hcm' : c ≤ 9223372036854775807 := by unfold maxLen at hcm; omega
  have hlen : xs.length = n := by simpa using hr.1
  have hK2 : K ≤ 2 := by have := hR.2.1; omega
  have hW1 : 1 ≤ W := by have := hR.2.2.1; omega
  go_enter Try.func23, Try.ntmps23
  go_wp2_with fail
  refine (rright_yes K W n w hR).mono ?_
  rintro e w ⟨rfl, rfl⟩
  clear hR
  go_wp2
  have hown0 : (w.alloc (Obj.cells #[] 2)).ownsRow w.heap.size 2 1 (.slice (some ⟨w.heap.size, 0, none⟩) 0 0) 0 (((List.range 0).map (cF K W (fun j => xs.getD j 0))).map (Value.int .i64)) :=
    World.ownsRow_made w #[] 0 (Nat.le_refl _) (Nat.zero_le _) rfl
  have hb0 : Below w.heap.size w (w.alloc (Obj.cells #[] 2)) := (Below.refl _ _).alloc (Nat.le_refl _) _
  go_loopw [8, 9] (fun v i wr => ∃ k : Nat, i = .int .i64 k ∧ k ≤ m ∧ wr.ownsRow w.heap.size 2 1 v k (((List.range k).map (cF K W (fun j => xs.getD j 0))).map (Value.int .i64)) ∧ Below w.heap.size w wr) (fun _ i _ => n - (intOf i).toNat)
  case atStart => exact ⟨0, rfl, by omega, hown0, hb0⟩
  case round =>
    obtain ⟨k, rfl, hk, hown, hb⟩ := hrel
    clear hown0 hb0
    by_cases hlt : k < n
    · obtain ⟨b, off, rfl, hbl, hcell⟩ := hr.cells_ (by omega)
      obtain ⟨A8, c8, rfl, hc8, hm8, hr8⟩ := own_reads hown
      have hc : wr.cell? ⟨b, off + k, none⟩ = some (.int .i64 (xs.getD k 0)) := by
        rw [hb.cell (p := ⟨b, off + k, none⟩) hbl]
        exact hcell k _ (by simp [List.getD, List.getElem?_eq_getElem (show k < xs.length by omega)])
      have hxk : -9223372036854775808 ≤ xs.getD k 0 ∧ xs.getD k 0 ≤ 9223372036854775807 := by
        rw [List.getD, List.getElem?_eq_getElem (by omega)]; exact hx _ (List.getElem_mem _)
      have hgm := gS_may K W k (cF K W (fun j => xs.getD j 0)) hW1 (fun j hj => hok j (by omega))
      have hcont := rguess_own K W k (cF K W (fun j => xs.getD j 0)) A8 c8 wr hK2 hW1 hWm (by omega) hc8 (by unfold maxLen at hm8; omega) hr8 (fun j hj => hok j (by omega))
      have hcF := cF_eq K W (fun j => xs.getD j 0) k hW1
      have HR := hide hcF
      have HC := hide hcont
      have hsplit : (k < m ∧ mayP (cF K W (fun j => xs.getD j 0) k)) ∨ (k = m ∧ ¬ mayP (cF K W (fun j => xs.getD j 0) k)) := by
        by_cases hkm : k < m
        · exact .inl ⟨hkm, hok k hkm⟩
        · obtain rfl : k = m := by omega
          exact .inr ⟨rfl, hno hlt⟩
      rw [hcF] at hsplit
      have HS := hide (range_snoc (cF K W (fun j => xs.getD j 0)) k)
      clear hcell hok hno hcont hr hx hcF hr8
      generalize gS K W k (cF K W (fun j => xs.getD j 0)) = g at *
      obtain ⟨x0, x1⟩ := hxk
      obtain ⟨g0, g1⟩ := hgm
      generalize xs.getD k 0 = x at *
      go_wp2_with fail
      refine HC.out.mono ?_
      rintro e w' ⟨rfl, mm, rfl⟩
      clear HC
      unfold mayP at hsplit
      rcases hsplit with ⟨hkm, s0, s1⟩ | ⟨rfl, hbad⟩
      · have hownD : (wr.drewN mm).ownsRow w.heap.size 2 1 (.slice A8 k c8) k (((List.range k).map (cF K W (fun j => xs.getD j 0))).map (Value.int .i64)) := hown
        have hbD := below_drewN hb mm
        go_wp2_with (at_builtin; go_must (refine wpList_append_one rfl (.tmp 45) (.tmp 52) _ rfl 2 _ 8 Try.underlying22 Try.infoi64 rfl (by omega) hownD rfl rfl rfl (by omega) hbD.size ?_); intro v3 w3 hown3 hb3)
        refine ⟨⟨k + 1, by go_num, by omega, ?_, hbD.trans hb3⟩, by simp [intOf]; omega⟩
        rw [HS.out, List.map_append]
        rw [← HR.out] at hown3
        exact hown3
      · by_cases hs : x < -2147483648 - g
        · go_wp2
          go_ret2
          exact ⟨below_drewN hb mm, by rw [if_neg (by omega)]; rfl⟩
        · have hs2 : 2147483647 - g < x := by omega
          go_wp2
          go_ret2
          exact ⟨below_drewN hb mm, by rw [if_neg (by omega)]; rfl⟩
    · obtain rfl : k = n := by omega
      obtain rfl : k = m := by omega
      go_wp2
      go_ret2
      refine ⟨hb, ?_⟩
      rw [if_pos rfl]
      exact ⟨_, rfl, hown⟩

theorem rrests_arg (A : Option Addr) (n c : Nat) (k W : Int) (w : World) (h : ¬ rightP k W n) :
    Calls Try.prog 20 #[.int .i64 k, .slice A n c, .int .i64 W] w fun e w' => e = .returned (.tuple #[.slice none 0 0, .int .i64 11]) ∧ w = w' := by
  go_enter Try.func20, Try.ntmps20
  go_wp2_with fail
  refine (rright_no k W n w h).mono ?_
  rintro e w ⟨rfl, rfl⟩
  go_wp2
  go_ret2
  exact ⟨rfl, rfl⟩

set_option maxHeartbeats 3200000 in
theorem rrests_any (A : Option Addr) (n c K W m : Nat) (xs : List Int) (w : World) (hr : Reads w w.heap.size 1 A n (xs.map (Value.int .i64))) (hR : rightP K W n) (hnc : n ≤ c) (hcm : c ≤ maxLen) (hn : n ≤ 1000000) (hWm : W ≤ 9223372036854775807)
    (hm : m ≤ n) (hok : ∀ j, j < m → mayP (xs.getD j 0)) (hno : m < n → ¬ mayP (xs.getD m 0)) :
    Calls Try.prog 20 #[.int .i64 K, .slice A n c, .int .i64 W] w (RestsPost w m n ((List.range n).map (restS K W (fun j => xs.getD j 0)))) := by
  have hcm' : c ≤ 9223372036854775807 := by unfold maxLen at hcm; omega
  have hlen : xs.length = n := by simpa using hr.1
  have hK2 : K ≤ 2 := by have := hR.2.1; omega
  have hW1 : 1 ≤ W := by have := hR.2.2.1; omega
  go_enter Try.func20, Try.ntmps20
  go_wp2_with fail
  refine (rright_yes K W n w hR).mono ?_
  rintro e w ⟨rfl, rfl⟩
  clear hR
  go_wp2
  go_loop [8] (fun i => ∃ k : Nat, i = .int .i64 k ∧ k ≤ m) (fun i => n - (intOf i).toNat)
  case atStart => exact ⟨0, rfl, by omega⟩
  case round =>
    obtain ⟨k, rfl, hk⟩ := hrel
    by_cases hlt : k < n
    · obtain ⟨b, off, rfl, hbl, hcell⟩ := hr.cells_ (by omega)
      have hc : w.cell? ⟨b, off + k, none⟩ = some (.int .i64 (xs.getD k 0)) :=
        hcell k _ (by simp [List.getD, List.getElem?_eq_getElem (show k < xs.length by omega)])
      by_cases hkm : k < m
      · have hmay := hok k hkm
        clear hcell hok hno
        generalize xs.getD k 0 = x at *
        go_wp2_with fail
        refine (rmay_yes x w hmay).mono ?_
        rintro e w ⟨rfl, rfl⟩
        go_wp2
        go_round
        case rel => exact ⟨k + 1, by go_num, by omega⟩
        case measure => simp [intOf]; omega
      · obtain rfl : k = m := by omega
        have hmay := hno hlt
        clear hcell hok hno
        generalize xs.getD k 0 = x at *
        go_wp2_with fail
        refine (rmay_no x w hmay).mono ?_
        rintro e w ⟨rfl, rfl⟩
        go_wp2
        go_ret2
        exact ⟨Below.refl _ _, by rw [if_neg (by omega)]; rfl⟩
    · obtain rfl : k = n := by omega
      obtain rfl : k = m := by omega
      go_wp2
      have hown0 : (w.alloc (Obj.cells #[] 2)).ownsRow w.heap.size 2 1 (.slice (some ⟨w.heap.size, 0, none⟩) 0 0) 0 (((List.range 0).map (restS K W (fun j => xs.getD j 0))).map (Value.int .i64)) :=
        World.ownsRow_made w #[] 0 (Nat.le_refl _) (Nat.zero_le _) rfl
      have hb0 : Below w.heap.size w (w.alloc (Obj.cells #[] 2)) := (Below.refl _ _).alloc (Nat.le_refl _) _
      clear hno
      go_loopw [9, 10] (fun v i wr => ∃ j : Nat, i = .int .i64 j ∧ j ≤ k ∧ wr.ownsRow w.heap.size 2 1 v j (((List.range j).map (restS K W (fun j => xs.getD j 0))).map (Value.int .i64)) ∧ Below w.heap.size w wr) (fun _ i _ => k - (intOf i).toNat)
      case atStart => exact ⟨0, rfl, by omega, hown0, hb0⟩
      case round =>
        obtain ⟨j, rfl, hj, hown, hb⟩ := hrel
        clear hown0 hb0
        by_cases hlt : j < k
        · obtain ⟨b, off, rfl, hbl, hcell⟩ := hr.cells_ (by omega)
          have hall : ∀ i, i < k → wr.cell? ⟨b, off + i, none⟩ = some (.int .i64 (xs.getD i 0)) := by
            intro i hi
            rw [hb.cell (p := ⟨b, off + i, none⟩) hbl]
            exact hcell i _ (by simp [List.getD, List.getElem?_eq_getElem (show i < xs.length by omega)])
          have hc := hall j hlt
          obtain ⟨x0, x1⟩ := hok j hlt
          obtain ⟨g0, g1⟩ := gS_may K W j (fun j => xs.getD j 0) hW1 (fun i hi => hok i (by omega))
          have hcont : ∀ W' : World, (∀ a, W'.cell? a = wr.cell? a) → Calls Try.prog 17 #[.int .i64 K, .slice (some ⟨b, off, none⟩) k c, .int .i64 W, .int .i64 j] W' fun e w' => e = .returned (.int .i64 (gS K W j (fun j => xs.getD j 0))) ∧ ∃ m, w' = W'.drewN m :=
            fun W' hW' => rguess_any K W j k c b off (fun j => xs.getD j 0) W' hK2 hW1 hWm (by omega) hn hnc hcm' (fun i hi => by rw [hW']; exact hall i (by omega)) (fun i hi => hok i (by omega))
          have HC := hide hcont
          have HS := hide (range_snoc (restS K W (fun j => xs.getD j 0)) j)
          have HR := hide (show restS K W (fun j => xs.getD j 0) j = xs.getD j 0 - gS K W j (fun j => xs.getD j 0) from rfl)
          clear hcell hall hok hcont hr
          generalize gS K W j (fun j => xs.getD j 0) = g at *
          generalize xs.getD j 0 = x at *
          have i1 : (j : Int) < k := by omega
          go_wp2_with fail
          go_region_law (first
            | (refine step_append_one (v := u9) (n := j) (xs := ((List.range j).map (restS K W (fun j => xs.getD j 0))).map (Value.int .i64)) (base := w.heap.size) rfl (.tmp 36) (.tmp 47) _ rfl 2 _ 8 Try.underlying22 Try.infoi64 rfl (by omega) (by exact hown) rfl rfl rfl (by omega) (by exact hb.size) ?_; intro v3 w3 hown3 hb3)
            | (go_simp; go_at_call 17; refine (HC.out _ (fun _ => by rfl)).mono ?_; rintro e w' ⟨rfl, mm, rfl⟩))
          all_goals
            go_wp2
            refine ⟨⟨j + 1, by go_num, by omega, ?_, (below_drewN hb _).trans hb3⟩, by simp [intOf]; omega⟩
            rw [HS.out, List.map_append, HR.out]
            have hwr : IntKind.i64.wrap (x - g) = x - g := by rw [IntKind.wrap_i64]; omega
            rw [hwr] at hown3
            exact hown3
        · obtain rfl : j = k := by omega
          go_wp2
          go_ret2
          refine ⟨hb, ?_⟩
          rw [if_pos rfl]
          exact ⟨_, rfl, hown⟩

end Go.Proofs.Ytafokllnelibcaa
