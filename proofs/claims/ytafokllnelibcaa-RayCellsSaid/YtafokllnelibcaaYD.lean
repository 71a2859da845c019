/- Two lists of cells held against each other, and the chapter's example of layer 23. -/
import Derived.Test.YtafokllnelibcaaYC
import Derived.Deep.RegionHeld3
namespace Go.Proofs.Ytafokllnelibcaa
open Go.RowKit Go.Lib

/-- A slice of cells as it reads. -/
def Row2 (w : World) (A : Option Addr) (n : Nat) (X Y : Nat → Int) : Prop :=
  n = 0 ∨ ∃ g, A = some ⟨g, 0, none⟩ ∧ g < w.heap.size ∧ ∀ i, i < n → w.cell? ⟨g, i * 2, none⟩ = some (.int .i64 (X i)) ∧ w.cell? ⟨g, i * 2 + 1, none⟩ = some (.int .i64 (Y i))
theorem Row2.below {w w' : World} {A : Option Addr} {n : Nat} {X Y : Nat → Int} (h : Row2 w A n X Y) (hb : Below w.heap.size w w') : Row2 w' A n X Y := by
  rcases h with h0 | ⟨g, h1, h2, h3⟩
  · exact .inl h0
  · exact .inr ⟨g, h1, Nat.lt_of_lt_of_le h2 hb.size, fun i hi => ⟨kc hb (h3 i hi).1, kc hb (h3 i hi).2⟩⟩
theorem Row2.of_own {w : World} {base : Nat} {e : TypeId} {v : Value} {n : Nat} {X Y : Nat → Int} (h : w.ownsRow base e 2 v n (pairL X Y n)) :
    ∃ A c, v = .slice A n c ∧ n ≤ c ∧ c ≤ maxLen ∧ Row2 w A n X Y := by
  rcases Nat.eq_zero_or_pos n with h0 | h0
  · obtain ⟨A, c, h1, h2, h3, _⟩ := own_reads_n h
    exact ⟨A, c, h1, h2, h3, .inl h0⟩
  · obtain ⟨g, cap, h1, _, h2, h3, h4, h5⟩ := own_form_n h h0
    exact ⟨_, cap, h1, h3, h4, .inr ⟨g, rfl, h2, fun i hi => ⟨h5 _ _ (pairL_get X Y n i hi).1, h5 _ _ (pairL_get X Y n i hi).2⟩⟩⟩

set_option maxHeartbeats 800000 in
theorem sameCells_any (A B : Option Addr) (n c d : Nat) (X Y X' Y' : Nat → Int) (w : World) (hA : Row2 w A n X Y) (hB : Row2 w B n X' Y') (he : Hid (∀ i, i < n → X i = X' i ∧ Y i = Y' i)) (hn : n ≤ 1000000) :
    Calls Try.prog 30 #[.slice A n c, .slice B n d] w fun e w' => e = .returned (.bool true) ∧ ∃ m, w' = w.drewN m := by
  go_enter Try.func30, Try.ntmps30
  go_wp2
  go_loopw [5] (fun i wr => ∃ k j : Nat, i = .int .i64 k ∧ k ≤ n ∧ wr = w.drewN j) (fun i _ => n - (intOf i).toNat)
  case atStart => exact ⟨0, 0, rfl, by omega, rfl⟩
  case round =>
    obtain ⟨k, j, rfl, hk, rfl⟩ := hrel
    by_cases hlt : k < n
    · obtain ⟨b, rfl, _, hcA⟩ := hA.resolve_left (by omega)
      obtain ⟨b2, rfl, _, hcB⟩ := hB.resolve_left (by omega)
      obtain ⟨h1, h2⟩ := hcA k hlt
      obtain ⟨h3, h4⟩ := hcB k hlt
      obtain ⟨e1, e2⟩ := he.out k hlt
      rw [← e1] at h3
      rw [← e2] at h4
      clear e1 e2 hcA hcB hA hB he
      generalize X k = x at *
      generalize Y k = y at *
      have i1 : (k : Int) < n := by omega
      go_wp2
      go_quiet (fail)
      go_wp2
      go_roundw
      case rel => exact ⟨k + 1, _, by go_num, by omega, rfl⟩
      case measure => simp [intOf]; omega
    · go_wp2
      go_ret
      exact ⟨rfl, _, rfl⟩

theorem rsize_any (n : Int) (w : World) (h0 : -3000 ≤ n) (h1 : n ≤ 3000) : Calls Try.prog 46 #[.int .i64 n] w fun e w' => e = .returned (.int .i64 (if n < 0 then -n else n)) ∧ w = w' := by
  by_cases h : n < 0
  · rw [if_pos h]
    go_enter Try.func46, Try.ntmps46
    go_wp2
    go_ret
    exact ⟨rfl, rfl⟩
  · rw [if_neg h]
    go_enter Try.func46, Try.ntmps46
    go_wp2
    go_ret
    exact ⟨rfl, rfl⟩

def absI (n : Int) : Int := if n < 0 then -n else n
def rlenI (ax ay bx b_y : Int) : Int := if absI (b_y - ay) < absI (bx - ax) then absI (bx - ax) else absI (b_y - ay)
theorem size_abs (n : Int) (w : World) (h0 : -3000 ≤ n) (h1 : n ≤ 3000) : Calls Try.prog 46 #[.int .i64 n] w fun e w' => e = .returned (.int .i64 (absI n)) ∧ w' = w :=
  (rsize_any n w h0 h1).mono fun _ _ ⟨h, h2⟩ => ⟨h, h2.symm⟩
set_option maxRecDepth 100000 in
set_option maxHeartbeats 1000000 in
theorem rlen_any (ax ay bx b_y : Int) (w : World) (ha : canP ax ay) (hb : canP bx b_y) :
    Calls Try.prog 29 #[.agg #[.int .i64 ax, .int .i64 ay], .agg #[.int .i64 bx, .int .i64 b_y]] w fun e w' => e = .returned (.int .i64 (rlenI ax ay bx b_y)) ∧ Below w.heap.size w w' := by
  unfold canP at ha hb
  have t1 := hide (w64 (bx - ax) (by omega) (by omega))
  have t2 := hide (w64 (b_y - ay) (by omega) (by omega))
  generalize hR : rlenI ax ay bx b_y = R
  unfold rlenI at hR
  have HR := hide hR
  clear hR
  go_enter Try.func29, Try.ntmps29
  go_wp2_with fail
  obtain ⟨W, hW⟩ : ∃ W, W = (w.alloc (Obj.cells #[Value.int IntKind.i64 ax, Value.int IntKind.i64 ay] 37)).alloc (Obj.cells #[Value.int IntKind.i64 bx, Value.int IntKind.i64 b_y] 37) := ⟨_, rfl⟩
  have A1 : At W.drew w.heap.size [.int .i64 ax, .int .i64 ay] := by rw [hW]; exact At.drew (At.alloc At.new _)
  have A2 : At W.drew (w.heap.size + 1) [.int .i64 bx, .int .i64 b_y] := by rw [hW]; exact At.drew (At.new_ (by simp))
  have hBW : Below w.heap.size w W.drew := by rw [hW]; exact (below_put below_at).drew
  rw [← hW]
  clear hW
  obtain ⟨c0, c1⟩ := A1.two
  obtain ⟨d0, d1⟩ := A2.two
  have s1 := t1.out
  have s2 := t2.out
  go_region_held3 (fun w' => w'.cell? ⟨w.heap.size, 0, none⟩ = some (.int .i64 ax) ∧ w'.cell? ⟨w.heap.size, 1, none⟩ = some (.int .i64 ay) ∧ w'.cell? ⟨w.heap.size + 1, 0, none⟩ = some (.int .i64 bx) ∧ w'.cell? ⟨w.heap.size + 1, 1, none⟩ = some (.int .i64 b_y) ∧ Below w.heap.size w w')
    (first
    | exact ⟨c0, c1, d0, d1, hBW⟩
    | (go_split_ands; refine ⟨?_, ?_, ?_, ?_, ?_⟩ <;> assumption))
    (first
    | (go_at_call 46; refine (size_abs _ _ (by omega) (by omega)).mono ?_; rintro e w' ⟨rfl, rfl⟩))
  all_goals
    rename_i hh
    obtain ⟨-, -, -, -, hBf⟩ := hh
    clear s1 s2 c0 c1 d0 d1
    by_cases hc : absI (b_y - ay) < absI (bx - ax)
    · have hr := HR.out
      rw [if_pos hc] at hr
      have hr' := hide hr
      clear hr
      go_wp2
      go_ret
      exact ⟨by rw [← hr'.out]; rfl, hBf⟩
    · have hr := HR.out
      rw [if_neg hc] at hr
      have hr' := hide hr
      clear hr
      go_wp2
      go_ret
      exact ⟨by rw [← hr'.out]; rfl, hBf⟩

def exY (i : Nat) : Int := if i < 2 then 0 else 1
set_option maxHeartbeats 800000 in
theorem awake23_ok (w : World) : Calls Try.prog 24 #[] w fun e w' => e = .returned (.bool true) ∧ Below w.heap.size w w' := by
  go_enter Try.func24, Try.ntmps24
  go_wp2_with fail
  refine (row_cells 0 0 3 1 (by unfold canP; omega) (by unfold canP; omega) _).mono ?_
  rintro e w1 ⟨v, rfl, hown, hb⟩
  obtain ⟨A, c, rfl, hc1, hc2, hr⟩ := Row2.of_own hown
  have hN : (rL 0 0 3 1).toNat + 1 = 4 := by decide
  rw [hN] at hr hc1
  rw [hN]
  clear hown
  go_wp2_with fail
  have AL : At (w1.alloc (Obj.cells #[Value.int IntKind.i64 0, Value.int IntKind.i64 0, Value.int IntKind.i64 1, Value.int IntKind.i64 0, Value.int IntKind.i64 2, Value.int IntKind.i64 1, Value.int IntKind.i64 3, Value.int IntKind.i64 1] 37)) w1.heap.size [.int .i64 0, .int .i64 0, .int .i64 1, .int .i64 0, .int .i64 2, .int .i64 1, .int .i64 3, .int .i64 1] := At.new
  have hE : ∀ i : Nat, i < 4 → rX 0 0 3 1 i = (i : Int) ∧ rY 0 0 3 1 i = exY i := by decide
  refine (sameCells_any A _ 4 c 4 _ _ (fun i => (i : Int)) exY _ (hr.below below_at) (.inr ⟨_, rfl, by simp, fun i hi => ?_⟩) (hide hE) (by omega)).mono ?_
  · match i, hi with
    | 0, _ => exact ⟨AL.2.1 0 _ rfl, AL.2.1 1 _ rfl⟩
    | 1, _ => exact ⟨AL.2.1 2 _ rfl, AL.2.1 3 _ rfl⟩
    | 2, _ => exact ⟨AL.2.1 4 _ rfl, AL.2.1 5 _ rfl⟩
    | 3, _ => exact ⟨AL.2.1 6 _ rfl, AL.2.1 7 _ rfl⟩
  rintro e w2 ⟨rfl, m, rfl⟩
  clear hE AL hr
  go_wp2
  go_ret
  exact ⟨rfl, below_drewN (below_put hb) m⟩
end Go.Proofs.Ytafokllnelibcaa
