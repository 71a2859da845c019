/- Contracts of pred.Cells and of the document's own Cells, Rests, Same. -/
import Derived.Test.YtafokllnelibcaaPE
import Derived.Deep.RegionLaw
namespace Go.Proofs.Ytafokllnelibcaa
open Go.RowKit Go.Lib

/-- The cells that have the rests r, the first i of them. -/
def cellL (K W : Nat) (r : Nat → Int) : Nat → List Int
  | 0 => []
  | i + 1 => cellL K W r i ++ [gS K W i (fun j => (cellL K W r i).getD j 0) + r i]
def cF (K W : Nat) (r : Nat → Int) (i : Nat) : Int := (cellL K W r (i + 1)).getD i 0
theorem cellL_length (K W : Nat) (r : Nat → Int) (i : Nat) : (cellL K W r i).length = i := by
  induction i with
  | zero => rfl
  | succ i ih => simp [cellL, ih]
theorem cellL_get (K W : Nat) (r : Nat → Int) (i j : Nat) (h : j < i) : (cellL K W r i).getD j 0 = cF K W r j := by
  induction i with
  | zero => omega
  | succ i ih =>
    by_cases hj : j < i
    · rw [← ih hj, cellL, List.getD, List.getD, List.getElem?_append_left (by rw [cellL_length]; exact hj)]
    · obtain rfl : j = i := by omega
      rfl
theorem cF_eq (K W : Nat) (r : Nat → Int) (i : Nat) (hW : 1 ≤ W) : cF K W r i = gS K W i (cF K W r) + r i := by
  have h : cF K W r i = gS K W i (fun j => (cellL K W r i).getD j 0) + r i := by
    unfold cF
    rw [cellL, List.getD, List.getElem?_append_right (by rw [cellL_length]; exact Nat.le_refl _), cellL_length]
    simp
  rw [h, gS_congr K W i _ (cF K W r) hW (fun j hj => cellL_get K W r i j hj)]
theorem cF_unique (K W : Nat) (r f : Nat → Int) (hW : 1 ≤ W) (n : Nat) (h : ∀ i, i < n → f i = gS K W i f + r i) : ∀ i, i < n → f i = cF K W r i := by
  intro i
  induction i using Nat.strongRecOn with
  | _ i ih =>
    intro hi
    rw [h i hi, cF_eq K W r i hW, gS_congr K W i f (cF K W r) hW (fun j hj => ih j hj (by omega))]

theorem cells_arg (A : Option Addr) (n c : Nat) (k W : Int) (w : World) (h : ¬ rightP k W n) :
    Calls Try.prog 22 #[.int .i64 k, .slice A n c, .int .i64 W] w fun e w' => e = .returned (.tuple #[.slice none 0 0, .int .i64 11]) ∧ w = w' := by
  go_enter Try.func22, Try.ntmps22
  go_wp2_with fail
  refine (pright_no k W n w h).mono ?_
  rintro e w ⟨rfl, rfl⟩
  go_wp2
  go_ret2
  exact ⟨rfl, rfl⟩

set_option maxHeartbeats 1600000 in
theorem cells_any (A : Option Addr) (n c K W m : Nat) (xs : List Int) (w : World) (hr : Reads w w.heap.size 1 A n (xs.map (Value.int .i64))) (hR : rightP K W n) (hnc : n ≤ c) (hcm : c ≤ maxLen) (hn : n ≤ 1000000) (hWm : W ≤ 9223372036854775807)
    (hx : ∀ x ∈ xs, -9223372036854775808 ≤ x ∧ x ≤ 9223372036854775807)
    (hm : m ≤ n) (hok : ∀ j, j < m → mayP (cF K W (fun j => xs.getD j 0) j)) (hno : m < n → ¬ mayP (cF K W (fun j => xs.getD j 0) m)) :
    Calls Try.prog 22 #[.int .i64 K, .slice A n c, .int .i64 W] w (RestsPost w m n ((List.range n).map (cF K W (fun j => xs.getD j 0)))) := by
  have hcm' : c ≤ 9223372036854775807 := by unfold maxLen at hcm; omega
  obtain ⟨i0, hi, hz0, hz1, hz2⟩ := info_parts Try.infoi64
  have hlen : xs.length = n := by simpa using hr.1
  have hK2 : K ≤ 2 := by have := hR.2.1; omega
  have hW1 : 1 ≤ W := by have := hR.2.2.1; omega
  go_enter Try.func22, Try.ntmps22
  go_wp2_with fail
  refine (pright_yes K W n w hR).mono ?_
  rintro e w ⟨rfl, rfl⟩
  go_wp2_with (at_make; go_must (refine wpList_make_full _ rfl _ _ 22 rfl w.heap.size 2 i0 (.int .i64 0) 1 Try.underlying22 hi hz0 hz1 .i64 .i64 _ _ n rfl rfl rfl rfl (by rw [hz2]; omega) (by unfold maxLen; omega) (Nat.le_refl _) ?_); intro w0 hown0 hg0)
  have hb0 : Below w.heap.size w w0 := (Below.refl w.heap.size w).grown hg0 (Nat.le_refl _) (by simp)
  have hown0' : w0.ownsRow w.heap.size 2 1 (.slice (some ⟨w.heap.size, 0, none⟩) n n) n ((rowK (cF K W (fun j => xs.getD j 0)) n 0).map (Value.int .i64)) := by
    have e : (madeCells (Value.int .i64 0).cells (n * 1)).toList = (rowK (cF K W (fun j => xs.getD j 0)) n 0).map (Value.int .i64) := by
      rw [rowK_zero, List.map_replicate, Nat.mul_one]
      exact toList_madeCells_one _ _
    rw [← e]; exact hown0
  clear hown0 hg0 hR
  go_loopw [23] (fun i wr => ∃ k : Nat, i = .int .i64 k ∧ k ≤ m ∧ wr.ownsRow w.heap.size 2 1 (.slice (some ⟨w.heap.size, 0, none⟩) n n) n ((rowK (cF K W (fun j => xs.getD j 0)) n k).map (Value.int .i64)) ∧ Below w.heap.size w wr) (fun i _ => n - (intOf i).toNat)
  case atStart => exact ⟨0, rfl, by omega, hown0', hb0⟩
  case round =>
    obtain ⟨k, rfl, hk, hown, hb⟩ := hrel
    clear hown0' hb0
    by_cases hlt : k < n
    · obtain ⟨b, off, rfl, hbl, hcell⟩ := hr.cells_ (by omega)
      have hc : wr.cell? ⟨b, off + k, none⟩ = some (.int .i64 (xs.getD k 0)) := by
        rw [hb.cell (p := ⟨b, off + k, none⟩) hbl]
        exact hcell k _ (by simp [List.getD, List.getElem?_eq_getElem (show k < xs.length by omega)])
      have hxk : -9223372036854775808 ≤ xs.getD k 0 ∧ xs.getD k 0 ≤ 9223372036854775807 := by
        rw [List.getD, List.getElem?_eq_getElem (by omega)]; exact hx _ (List.getElem_mem _)
      have hcw : wr.cell? ⟨w.heap.size, k, none⟩ = some (.int .i64 0) := by
        rw [hown.cellAt k (by omega), List.getElem?_map, rowK_get _ _ _ _ hlt]; simp
      have hfw := hown.frozenAt k
      have hgm := gS_may K W k (cF K W (fun j => xs.getD j 0)) hW1 (fun j hj => hok j (by omega))
      have hcont := guess_any K W k n n w.heap.size 0 (cF K W (fun j => xs.getD j 0)) wr hK2 hW1 hWm hlt (Nat.le_refl _) (by omega)
        (fun j hj => by
          rw [Nat.zero_add, hown.cellAt j (by omega), List.getElem?_map, rowK_get _ _ _ _ (by omega)]
          simp [hj]) (fun j hj => hok j (by omega))
      have hcF := cF_eq K W (fun j => xs.getD j 0) k hW1
      have HR := hide hcF
      have HC := hide hcont
      have hsplit : (k < m ∧ mayP (cF K W (fun j => xs.getD j 0) k)) ∨ (k = m ∧ ¬ mayP (cF K W (fun j => xs.getD j 0) k)) := by
        by_cases hkm : k < m
        · exact .inl ⟨hkm, hok k hkm⟩
        · obtain rfl : k = m := by omega
          exact .inr ⟨rfl, hno hlt⟩
      rw [hcF] at hsplit
      clear hcell hok hno hcont hr hx hcF
      generalize gS K W k (cF K W (fun j => xs.getD j 0)) = g at *
      obtain ⟨x0, x1⟩ := hxk
      obtain ⟨g0, g1⟩ := hgm
      generalize xs.getD k 0 = x at *
      go_wp2_with fail
      refine HC.out.mono ?_
      rintro e w' ⟨rfl, mm, rfl⟩
      clear HC
      unfold mayP at hsplit
      rcases hsplit with ⟨hkm, s0, s1⟩ | ⟨rfl, hbad⟩
      · go_wp2
        have hown2 := (World.ownsRow.stored (w := wr.drewN mm) hown k (.int .i64 (g + x))).1
        refine ⟨⟨k + 1, by go_num, by omega, ?_, (below_drewN hb mm).setCell (Nat.le_refl _) _⟩, by simp [intOf]; omega⟩
        rw [← HR.out, ← List.map_set, rowK_set _ _ _ hlt] at hown2
        rw [← HR.out]
        exact hown2
      · by_cases hs : x < -2147483648 - g
        · go_wp2
          go_ret2
          exact ⟨below_drewN hb mm, by rw [if_neg (by omega)]; rfl⟩
        · have hs2 : 2147483647 - g < x := by omega
          go_wp2
          go_ret2
          exact ⟨below_drewN hb mm, by rw [if_neg (by omega)]; rfl⟩
    · obtain rfl : k = n := by omega
      obtain rfl : k = m := by omega
      go_wp2
      go_ret2
      refine ⟨hb, ?_⟩
      rw [if_pos rfl]
      refine ⟨_, rfl, ?_⟩
      rw [← rowK_full]
      exact hown

end Go.Proofs.Ytafokllnelibcaa
