/- Contracts of tier.Size, tier.has, and the document's own Sizes. -/
import Derived.Test.YtagahpfinaaemaaTA
import Derived.OwnWalk
namespace Go.Proofs.Ytagahpfinaaemaa
open Go.RowKit Go.Lib

theorem Try.infocell : (Try.prog.info? 25).map (fun i => (i.zero, i.size, i.bytes)) = some (some (.agg #[.int .i64 0, .int .i64 0]), 2, 16) := by kernel_rfl

/-- Cells side by side. -/
def pairL (X Y : Nat → Int) : Nat → List Value
  | 0 => []
  | k + 1 => pairL X Y k ++ [.int .i64 (X k), .int .i64 (Y k)]
theorem pairL_len (X Y : Nat → Int) (k : Nat) : (pairL X Y k).length = 2 * k := by
  induction k with
  | zero => rfl
  | succ k ih => rw [pairL, List.length_append, ih]; simp; omega
theorem pairL_get (X Y : Nat → Int) (n i : Nat) (h : i < n) : (pairL X Y n)[i * 2]? = some (.int .i64 (X i)) ∧ (pairL X Y n)[i * 2 + 1]? = some (.int .i64 (Y i)) := by
  induction n with
  | zero => omega
  | succ n ih =>
    rw [pairL]
    by_cases hn : i < n
    · have hl := pairL_len X Y n
      rw [List.getElem?_append_left (by omega), List.getElem?_append_left (by omega)]
      exact ih hn
    · obtain rfl : i = n := by omega
      have hl := pairL_len X Y i
      rw [List.getElem?_append_right (by omega), List.getElem?_append_right (by omega), hl]
      rw [show i * 2 - 2 * i = 0 by omega, show i * 2 + 1 - 2 * i = 1 by omega]
      exact ⟨rfl, rfl⟩
theorem pairL_congr {X Y X' Y' : Nat → Int} (n : Nat) (h : ∀ i, i < n → X i = X' i ∧ Y i = Y' i) : pairL X Y n = pairL X' Y' n := by
  induction n with
  | zero => rfl
  | succ n ih => rw [pairL, pairL, ih fun i hi => h i (by omega), (h n (by omega)).1, (h n (by omega)).2]

theorem own_below {w w' : World} {base : Nat} {e : TypeId} {size : Nat} {v : Value} {n : Nat} {xs : List Value} (h : w.ownsRow base e size v n xs) (hb : Below w.heap.size w w') : w'.ownsRow base e size v n xs := by
  refine ⟨h.1, ?_⟩
  rcases h.2 with h0 | ⟨g, cap, cur, h1, h2, h3, h4⟩
  · exact .inl h0
  · refine .inr ⟨g, cap, cur, h1, h2, ?_, h4⟩
    rw [hb.block g]
    · exact h3
    · exact (h.lt g (by rw [h1]; rfl)).2
/-- A slice of cells as it reads. -/
def Row2 (w : World) (A : Option Addr) (n : Nat) (X Y : Nat → Int) : Prop :=
  n = 0 ∨ ∃ g, A = some ⟨g, 0, none⟩ ∧ g < w.heap.size ∧ ∀ i, i < n → w.cell? ⟨g, i * 2, none⟩ = some (.int .i64 (X i)) ∧ w.cell? ⟨g, i * 2 + 1, none⟩ = some (.int .i64 (Y i))
theorem Row2.below {w w' : World} {A : Option Addr} {n : Nat} {X Y : Nat → Int} (h : Row2 w A n X Y) (hb : Below w.heap.size w w') : Row2 w' A n X Y := by
  rcases h with h0 | ⟨g, h1, h2, h3⟩
  · exact .inl h0
  · exact .inr ⟨g, h1, Nat.lt_of_lt_of_le h2 hb.size, fun i hi => ⟨kc hb (h3 i hi).1, kc hb (h3 i hi).2⟩⟩
theorem Row2.of_own {w : World} {base : Nat} {e : TypeId} {v : Value} {n : Nat} {X Y : Nat → Int} (h : w.ownsRow base e 2 v n (pairL X Y n)) :
    ∃ A c, v = .slice A n c ∧ n ≤ c ∧ c ≤ maxLen ∧ Row2 w A n X Y := by
  rcases Nat.eq_zero_or_pos n with h0 | h0
  · obtain ⟨A, c, h1, h2, h3, _⟩ := own_reads_n h
    exact ⟨A, c, h1, h2, h3, .inl h0⟩
  · obtain ⟨g, cap, h1, _, h2, h3, h4, h5⟩ := own_form_n h h0
    exact ⟨_, cap, h1, h3, h4, .inr ⟨g, rfl, h2, fun i hi => ⟨h5 _ _ (pairL_get X Y n i hi).1, h5 _ _ (pairL_get X Y n i hi).2⟩⟩⟩


theorem size15_no (n m k : Int) (w : World) (h : ¬ sizeP n m) : Calls Try.prog 33 #[.int .i64 n, .int .i64 m, .int .i64 k] w fun e w' => e = .returned (.tuple #[.int .i64 0, .int .i64 0, .int .i64 3]) ∧ Below w.heap.size w w' := by
  go_enter Try.func33, Try.ntmps33
  go_wp2_with fail
  refine (levels_no _ _ _ h).mono ?_
  rintro e w1 ⟨rfl, hb⟩
  go_wp2
  go_ret3
  exact ⟨rfl, hb⟩
theorem size15_arg (n m k : Int) (L : Nat) (w : World) (h : sizeP n m) (hL : TopP n m L) (hk : k < 0 ∨ (L : Int) < k) : Calls Try.prog 33 #[.int .i64 n, .int .i64 m, .int .i64 k] w fun e w' => e = .returned (.tuple #[.int .i64 0, .int .i64 0, .int .i64 11]) ∧ Below w.heap.size w w' := by
  have HL := hide hL
  have hk : k < 0 ∨ (0 ≤ k ∧ (L : Int) + 1 ≤ k) := by omega
  have hLb : L ≤ 10 := hL.1
  clear hL
  rcases hk with hk | ⟨hk, hk2⟩
  all_goals
    go_enter Try.func33, Try.ntmps33
    go_wp2_with fail
    refine (levels_yes _ _ L _ h HL.out).mono ?_
    rintro e w1 ⟨rfl, hb⟩
    go_wp2
    go_ret3
    exact ⟨rfl, hb⟩
set_option maxHeartbeats 1000000 in
theorem size15_yes (n m : Int) (k L : Nat) (w : World) (h : sizeP n m) (hL : TopP n m L) (hk : k ≤ L) : Calls Try.prog 33 #[.int .i64 n, .int .i64 m, .int .i64 k] w fun e w' => e = .returned (.tuple #[.int .i64 (hlf k n), .int .i64 (hlf k m), .int .i64 0]) ∧ Below w.heap.size w w' := by
  have HL := hide hL
  have Hs := hide h
  have hLb : L ≤ 10 := hL.1
  unfold sizeP at h
  have HR : Hid (∀ k, (1 ≤ hlf k n ∧ hlf k n ≤ 1024) ∧ (1 ≤ hlf k m ∧ hlf k m ≤ 1024)) := hide fun k => ⟨hlf_rng k n (by omega) (by omega), hlf_rng k m (by omega) (by omega)⟩
  have k1 : (0 : Int) ≤ (k : Int) := by omega
  have k2 : (k : Int) < (L : Int) + 1 := by omega
  clear hL
  go_enter Try.func33, Try.ntmps33
  go_wp2_with fail
  refine (levels_yes _ _ L _ Hs.out HL.out).mono ?_
  rintro e w1 ⟨rfl, hb⟩
  go_wp2_with fail
  go_loop [0, 1, 28] (fun a b c => ∃ j : Nat, j ≤ k ∧ a = .int .i64 (hlf j n) ∧ b = .int .i64 (hlf j m) ∧ c = .int .i64 (j : Int)) (fun _ _ c => (k - intOf c).toNat)
  case atStart => exact ⟨0, by omega, rfl, rfl, rfl⟩
  case round =>
    obtain ⟨j, hj, rfl, rfl, rfl⟩ := hrel
    obtain ⟨⟨r1, r2⟩, r3, r4⟩ := HR.out j
    have E1 := hide (show hlf (j + 1) n = (hlf j n + 1) / 2 from rfl)
    have E2 := hide (show hlf (j + 1) m = (hlf j m + 1) / 2 from rfl)
    by_cases hlt : j < k
    · have i1 : (j : Int) < (k : Int) := by omega
      generalize hlf j n = x at *
      generalize hlf j m = y at *
      go_wp2_with (go_at_call 47; refine (half_any _ _ (by omega) (by omega)).mono ?_; rintro e w' ⟨rfl, rfl⟩)
      go_round
      case rel => exact ⟨j + 1, by omega, by rw [E1.out], by rw [E2.out], by go_num⟩
      case measure => simp [intOf]; omega
    · obtain rfl : j = k := by omega
      go_wp2
      go_ret3
      exact ⟨rfl, hb⟩

def OwnedList (w : World) (X Y : Nat → Int) (n : Nat) (e : Ending) (w' : World) : Prop :=
  ∃ v, e = .returned v ∧ w'.ownsRow w.heap.size 25 2 v n (pairL X Y n) ∧ Below w.heap.size w w'
theorem sizes_no (n m : Int) (w : World) (h : ¬ sizeP n m) : Calls Try.prog 34 #[.int .i64 n, .int .i64 m] w fun e w' => e = .returned (.slice none 0 0) ∧ w' = w := by
  have hc : n < 1 ∨ (1 ≤ n ∧ 1024 < n) ∨ (1 ≤ n ∧ n ≤ 1024 ∧ m < 1) ∨ (1 ≤ n ∧ n ≤ 1024 ∧ 1 ≤ m ∧ 1024 < m) := by unfold sizeP at h; omega
  clear h
  rcases hc with h1 | ⟨h1, h2⟩ | ⟨h1, h2, h3⟩ | ⟨h1, h2, h3, h4⟩
  all_goals
    go_enter Try.func34, Try.ntmps34
    go_wp2
    go_ret
    exact ⟨rfl, rfl⟩
set_option maxRecDepth 100000 in
set_option maxHeartbeats 1000000 in
theorem sizes_yes (n m : Int) (L : Nat) (w : World) (h : sizeP n m) (hL : TopP n m L) : Calls Try.prog 34 #[.int .i64 n, .int .i64 m] w fun e w' => OwnedList w (fun k => hlf k n) (fun k => hlf k m) (L + 1) e w' := by
  obtain ⟨l1, l2, l3, l4⟩ := hL
  have HL := hide l4
  have H2 := hide l2
  have H3 := hide l3
  unfold sizeP at h
  have HR : Hid (∀ k, (1 ≤ hlf k n ∧ hlf k n ≤ 1024) ∧ (1 ≤ hlf k m ∧ hlf k m ≤ 1024)) := hide fun k => ⟨hlf_rng k n (by omega) (by omega), hlf_rng k m (by omega) (by omega)⟩
  clear l2 l3 l4
  go_enter Try.func34, Try.ntmps34
  go_wp2_with fail
  have hown0 : (w.alloc (.cells #[.int .i64 n, .int .i64 m] 25)).ownsRow w.heap.size 25 2 (.slice (some ⟨w.heap.size, 0, none⟩) 1 1) 1 (pairL (fun k => hlf k n) (fun k => hlf k m) 1) :=
    World.ownsRow_lit w #[.int .i64 n, .int .i64 m] 1 (Nat.le_refl _) (by simp [maxLen]) rfl
  have hB0 : Below w.heap.size w (w.alloc (.cells #[.int .i64 n, .int .i64 m] 25)) := below_at
  go_loopw [0, 1, 5] (fun a b c wr => ∃ k : Nat, k ≤ L ∧ a = .int .i64 (hlf k n) ∧ b = .int .i64 (hlf k m) ∧ wr.ownsRow w.heap.size 25 2 c (k + 1) (pairL (fun k => hlf k n) (fun k => hlf k m) (k + 1)) ∧ Below w.heap.size w wr) (fun a b _ _ => (intOf a + intOf b).toNat)
  case atStart => exact ⟨0, by omega, rfl, rfl, hown0, hB0⟩
  case round =>
    obtain ⟨k, hk, rfl, rfl, hown, hb⟩ := hrel
    clear hown0 hB0
    obtain ⟨⟨r1, r2⟩, r3, r4⟩ := HR.out k
    have E1 := hide (show hlf (k + 1) n = (hlf k n + 1) / 2 from rfl)
    have E2 := hide (show hlf (k + 1) m = (hlf k m + 1) / 2 from rfl)
    by_cases hlt : k < L
    · have ht := HL.out k hlt
      generalize hx : hlf k n = x at *
      generalize hy : hlf k m = y at *
      have X1 := hide hx
      have Y1 := hide hy
      clear hx hy
      have hsp : 1 < x ∨ (x ≤ 1 ∧ 1 < y) := by omega
      clear ht
      have hsz := hb.size
      rcases hsp with hx | ⟨hx, hy⟩
      all_goals
        go_wp2_with (at_builtin; refine wpList_append_grp (wr := wr) (n := k + 1) (xs := pairL (fun k => hlf k n) (fun k => hlf k m) (k + 1)) (base := w.heap.size) (ys := [_, _]) rfl (.tmp 36) (.tmp 40) _ rfl 25 _ 2 16 Try.underlying52 Try.infocell rfl (by omega) (by omega) (by exact hown) (by rfl) rfl (by rfl) (by simp [Value.oneCell']) (by omega) (by omega) ?_; intro v3 wn hown3 hb3)
        refine ⟨⟨k + 1, by omega, by rw [E1.out], by rw [E2.out], ?_, hb.trans hb3⟩, by simp [intOf]; omega⟩
        rw [pairL]
        simp only [E1.out, E2.out]
        exact hown3
    · obtain rfl : k = L := by omega
      have h2 := H2.out
      have h3 := H3.out
      generalize hlf k n = x at *
      generalize hlf k m = y at *
      go_wp2
      go_ret
      exact ⟨_, rfl, hown, hb⟩
end Go.Proofs.Ytagahpfinaaemaa
