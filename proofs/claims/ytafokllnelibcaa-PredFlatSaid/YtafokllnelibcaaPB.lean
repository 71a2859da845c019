/- Contracts of pred.Rests. -/
import Derived.Test.YtafokllnelibcaaPA
import Derived.StillTailTactics
namespace Go.Proofs.Ytafokllnelibcaa
open Go.RowKit Go.Lib

theorem Try.infoi64 : (Try.prog.info? 2).map (fun i => (i.zero, i.size, i.bytes)) = some (some (.int .i64 0), 1, 8) := by kernel_rfl

/-- A row of n numbers of which k are done. -/
def rowK (r : Nat → Int) (n k : Nat) : List Int := (List.range n).map fun j => if j < k then r j else 0
theorem rowK_length (r : Nat → Int) (n k : Nat) : (rowK r n k).length = n := by simp [rowK]
theorem rowK_get (r : Nat → Int) (n k j : Nat) (hj : j < n) : (rowK r n k)[j]? = some (if j < k then r j else 0) := by simp [rowK, hj]
theorem rowK_zero (r : Nat → Int) (n : Nat) : rowK r n 0 = List.replicate n 0 := by
  apply List.ext_getElem?
  intro j
  by_cases hj : j < n
  · rw [rowK_get r n 0 j hj]; simp [hj]
  · rw [List.getElem?_eq_none (by rw [rowK_length]; omega), List.getElem?_eq_none (by simp; omega)]
theorem rowK_set (r : Nat → Int) (n k : Nat) (hk : k < n) : (rowK r n k).set k (r k) = rowK r n (k + 1) := by
  apply List.ext_getElem?
  intro j
  rw [List.getElem?_set]
  by_cases hj : j < n
  · rw [rowK_get r n k j hj, rowK_get r n (k + 1) j hj]
    by_cases h : k = j
    · subst h; rw [if_pos rfl, if_pos (by rw [rowK_length]; exact hk)]; simp
    · rw [if_neg h]
      by_cases h2 : j < k
      · rw [if_pos h2, if_pos (by omega)]
      · rw [if_neg h2, if_neg (by omega)]
  · rw [if_neg (by omega), List.getElem?_eq_none (by rw [rowK_length]; omega), List.getElem?_eq_none (by rw [rowK_length]; omega)]
theorem rowK_full (r : Nat → Int) (n : Nat) : rowK r n n = (List.range n).map r := by
  apply List.ext_getElem?
  intro j
  by_cases hj : j < n
  · rw [rowK_get r n n j hj]; simp [hj]
  · rw [List.getElem?_eq_none (by rw [rowK_length]; omega), List.getElem?_eq_none (by simp; omega)]

/-- The rest of cell i. -/
def restS (K W : Nat) (f : Nat → Int) (i : Nat) : Int := f i - gS K W i f

/-- m: how many cells ahead of the first one that can't be. -/
def RestsPost (w : World) (m n : Nat) (rs : List Int) (e : Ending) (w' : World) : Prop :=
  Below w.heap.size w w' ∧ if m = n then ∃ v, e = .returned (.tuple #[v, .int .i64 0]) ∧ w'.ownsRow w.heap.size 2 1 v n (rs.map (Value.int .i64)) else e = .returned (.tuple #[.slice none 0 0, .int .i64 7])

theorem rests_arg (A : Option Addr) (n c : Nat) (k W : Int) (w : World) (h : ¬ rightP k W n) :
    Calls Try.prog 19 #[.int .i64 k, .slice A n c, .int .i64 W] w fun e w' => e = .returned (.tuple #[.slice none 0 0, .int .i64 11]) ∧ w = w' := by
  go_enter Try.func19, Try.ntmps19
  go_wp2_with fail
  refine (pright_no k W n w h).mono ?_
  rintro e w ⟨rfl, rfl⟩
  go_wp2
  go_ret2
  exact ⟨rfl, rfl⟩

set_option maxHeartbeats 1600000 in
theorem rests_any (A : Option Addr) (n c K W m : Nat) (xs : List Int) (w : World) (hr : Reads w w.heap.size 1 A n (xs.map (Value.int .i64))) (hR : rightP K W n) (hnc : n ≤ c) (hcm : c ≤ maxLen) (hn : n ≤ 1000000) (hWm : W ≤ 9223372036854775807)
    (hm : m ≤ n) (hok : ∀ j, j < m → mayP (xs.getD j 0)) (hno : m < n → ¬ mayP (xs.getD m 0)) :
    Calls Try.prog 19 #[.int .i64 K, .slice A n c, .int .i64 W] w (RestsPost w m n ((List.range n).map (restS K W (fun j => xs.getD j 0)))) := by
  have hcm' : c ≤ 9223372036854775807 := by unfold maxLen at hcm; omega
  obtain ⟨i0, hi, hz0, hz1, hz2⟩ := info_parts Try.infoi64
  have hlen : xs.length = n := by simpa using hr.1
  have hK2 : K ≤ 2 := by have := hR.2.1; omega
  have hW1 : 1 ≤ W := by have := hR.2.2.1; omega
  go_enter Try.func19, Try.ntmps19
  go_wp2_with fail
  refine (pright_yes K W n w hR).mono ?_
  rintro e w ⟨rfl, rfl⟩
  go_wp2_with (at_make; go_must (refine wpList_make_full _ rfl _ _ 22 rfl w.heap.size 2 i0 (.int .i64 0) 1 Try.underlying22 hi hz0 hz1 .i64 .i64 _ _ n rfl rfl rfl rfl (by rw [hz2]; omega) (by unfold maxLen; omega) (Nat.le_refl _) ?_); intro w0 hown0 hg0)
  have hb0 : Below w.heap.size w w0 := (Below.refl w.heap.size w).grown hg0 (Nat.le_refl _) (by simp)
  have hown0' : w0.ownsRow w.heap.size 2 1 (.slice (some ⟨w.heap.size, 0, none⟩) n n) n ((rowK (restS K W (fun j => xs.getD j 0)) n 0).map (Value.int .i64)) := by
    have e : (madeCells (Value.int .i64 0).cells (n * 1)).toList = (rowK (restS K W (fun j => xs.getD j 0)) n 0).map (Value.int .i64) := by
      rw [rowK_zero, List.map_replicate, Nat.mul_one]
      exact toList_madeCells_one _ _
    rw [← e]; exact hown0
  clear hown0 hg0 hR
  go_loopw [22] (fun i wr => ∃ k : Nat, i = .int .i64 k ∧ k ≤ m ∧ wr.ownsRow w.heap.size 2 1 (.slice (some ⟨w.heap.size, 0, none⟩) n n) n ((rowK (restS K W (fun j => xs.getD j 0)) n k).map (Value.int .i64)) ∧ Below w.heap.size w wr) (fun i _ => n - (intOf i).toNat)
  case atStart => exact ⟨0, rfl, by omega, hown0', hb0⟩
  case round =>
    obtain ⟨k, rfl, hk, hown, hb⟩ := hrel
    clear hown0' hb0
    by_cases hlt : k < n
    · obtain ⟨b, off, rfl, hbl, hcell⟩ := hr.cells_ (by omega)
      have hall : ∀ j, j < n → wr.cell? ⟨b, off + j, none⟩ = some (.int .i64 (xs.getD j 0)) := by
        intro j hj
        rw [hb.cell (p := ⟨b, off + j, none⟩) hbl]
        exact hcell j _ (by simp [List.getD, List.getElem?_eq_getElem (show j < xs.length by omega)])
      have hc := hall k hlt
      by_cases hkm : k < m
      · have hmay := hok k hkm
        have hcw : wr.cell? ⟨w.heap.size, k, none⟩ = some (.int .i64 0) := by
          rw [hown.cellAt k (by omega), List.getElem?_map, rowK_get _ _ _ _ hlt]; simp
        have hfw := hown.frozenAt k
        have hgm := gS_may K W k (fun j => xs.getD j 0) hW1 (fun j hj => hok j (by omega))
        have hcont := fun W' => guess_any K W k n c b off (fun j => xs.getD j 0) W' hK2 hW1 hWm hlt hnc hcm'
        have hok' : ∀ j, j < k → mayP (xs.getD j 0) := fun j hj => hok j (by omega)
        have HC := hide hcont
        have HA := hide hall
        have HO := hide hok'
        have HR := hide (show restS K W (fun j => xs.getD j 0) k = xs.getD k 0 - gS K W k (fun j => xs.getD j 0) from rfl)
        clear hcell hall hok hno hcont hok' hr
        generalize gS K W k (fun j => xs.getD j 0) = g at *
        have hx := hmay
        obtain ⟨x0, x1⟩ := hx
        obtain ⟨g0, g1⟩ := hgm
        generalize xs.getD k 0 = x at *
        go_wp2_with fail
        refine (pmay_yes x wr hmay).mono ?_
        rintro e wr ⟨rfl, rfl⟩
        go_wp2_with fail
        refine (HC.out wr (fun j hj => HA.out j (by omega)) HO.out).mono ?_
        rintro e w' ⟨rfl, mm, rfl⟩
        go_wp2
        have hown2 := (World.ownsRow.stored (w := wr.drewN mm) hown k (.int .i64 (x - g))).1
        refine ⟨⟨k + 1, by go_num, by omega, ?_, (below_drewN hb mm).setCell (Nat.le_refl _) _⟩, by simp [intOf]; omega⟩
        rw [← HR.out, ← List.map_set, rowK_set _ _ _ hlt] at hown2
        rw [← HR.out]
        exact hown2
      · obtain rfl : k = m := by omega
        have hmay := hno hlt
        clear hcell hall hok hno hown hr
        generalize xs.getD k 0 = x at *
        go_wp2_with fail
        refine (pmay_no _ wr hmay).mono ?_
        rintro e wr ⟨rfl, rfl⟩
        go_wp2
        go_ret2
        exact ⟨hb, by rw [if_neg (by omega)]; rfl⟩
    · obtain rfl : k = n := by omega
      obtain rfl : k = m := by omega
      go_wp2
      go_ret2
      refine ⟨hb, ?_⟩
      rw [if_pos rfl]
      refine ⟨_, rfl, ?_⟩
      rw [← rowK_full]
      exact hown

end Go.Proofs.Ytafokllnelibcaa
