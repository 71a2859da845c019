/- Contract of ray.Row, told by its cells one by one. -/
import Derived.Test.YtafokllnelibcaaYA
import Derived.OwnWalk
namespace Go.Proofs.Ytafokllnelibcaa
open Go.RowKit Go.Lib

theorem Try.infocell : (Try.prog.info? 37).map (fun i => (i.zero, i.size, i.bytes)) = some (some (.agg #[.int .i64 0, .int .i64 0]), 2, 16) := by kernel_rfl

/-- Cells side by side. -/
def pairL (X Y : Nat → Int) : Nat → List Value
  | 0 => []
  | k + 1 => pairL X Y k ++ [.int .i64 (X k), .int .i64 (Y k)]
theorem pairL_len (X Y : Nat → Int) (k : Nat) : (pairL X Y k).length = 2 * k := by
  induction k with
  | zero => rfl
  | succ k ih => rw [pairL, List.length_append, ih]; simp; omega
theorem pairL_get (X Y : Nat → Int) (n i : Nat) (h : i < n) : (pairL X Y n)[i * 2]? = some (.int .i64 (X i)) ∧ (pairL X Y n)[i * 2 + 1]? = some (.int .i64 (Y i)) := by
  induction n with
  | zero => omega
  | succ n ih =>
    rw [pairL]
    by_cases hn : i < n
    · have hl := pairL_len X Y n
      rw [List.getElem?_append_left (by omega), List.getElem?_append_left (by omega)]
      exact ih hn
    · obtain rfl : i = n := by omega
      have hl := pairL_len X Y i
      rw [List.getElem?_append_right (by omega), List.getElem?_append_right (by omega), hl]
      rw [show i * 2 - 2 * i = 0 by omega, show i * 2 + 1 - 2 * i = 1 by omega]
      exact ⟨rfl, rfl⟩
theorem pairL_congr {X Y X' Y' : Nat → Int} (n : Nat) (h : ∀ i, i < n → X i = X' i ∧ Y i = Y' i) : pairL X Y n = pairL X' Y' n := by
  induction n with
  | zero => rfl
  | succ n ih => rw [pairL, pairL, ih fun i hi => h i (by omega), (h n (by omega)).1, (h n (by omega)).2]

theorem own_below {w w' : World} {base : Nat} {e : TypeId} {size : Nat} {v : Value} {n : Nat} {xs : List Value} (h : w.ownsRow base e size v n xs) (hb : Below w.heap.size w w') : w'.ownsRow base e size v n xs := by
  refine ⟨h.1, ?_⟩
  rcases h.2 with h0 | ⟨g, cap, cur, h1, h2, h3, h4⟩
  · exact .inl h0
  · refine .inr ⟨g, cap, cur, h1, h2, ?_, h4⟩
    rw [hb.block g]
    · exact h3
    · exact (h.lt g (by rw [h1]; rfl)).2
theorem own_mono {w : World} {base base' : Nat} {e : TypeId} {size : Nat} {v : Value} {n : Nat} {xs : List Value} (h : w.ownsRow base e size v n xs) (hb : base' ≤ base) : w.ownsRow base' e size v n xs := by
  refine ⟨h.1, ?_⟩
  rcases h.2 with h0 | ⟨g, cap, cur, h1, h2, h3⟩
  · exact .inl h0
  · exact .inr ⟨g, cap, cur, h1, Nat.le_trans hb h2, h3⟩

/-- The ray's own calls, as the walk of Row wants them. -/
def BetC (ax ay bx b_y : Int) (way : Array Value) : Prop := ∀ w : World,
  Calls Try.prog 44 #[.agg #[.int .i64 ax, .int .i64 ay], .agg #[.int .i64 bx, .int .i64 b_y]] w fun e w' => e = .returned (.agg way) ∧ Below w.heap.size w w'
def AtC (way : Array Value) (i x y : Int) : Prop := ∀ w : World,
  Calls Try.prog 45 #[.agg way, .int .i64 i] w fun e w' => e = .returned (.agg #[.int .i64 x, .int .i64 y]) ∧ Below w.heap.size w w'

def OwnedCells (w : World) (X Y : Nat → Int) (n : Nat) (c : Int) (e : Ending) (w' : World) : Prop :=
  ∃ v, e = .returned (.tuple #[v, .int .i64 c]) ∧ w'.ownsRow w.heap.size 37 2 v n (pairL X Y n) ∧ Below w.heap.size w w'

theorem row_no (ax ay bx b_y : Int) (w : World) (h : ¬ (canP ax ay ∧ canP bx b_y)) : Calls Try.prog 27 #[.agg #[.int .i64 ax, .int .i64 ay], .agg #[.int .i64 bx, .int .i64 b_y]] w fun e w' => e = .returned (.tuple #[.slice none 0 0, .int .i64 4]) ∧ Below w.heap.size w w' := by
  by_cases ha : canP ax ay
  · have hb' : ¬ canP bx b_y := fun hb => h ⟨ha, hb⟩
    go_enter Try.func27, Try.ntmps27
    go_wp2_with fail
    refine (can_any _ _ _).mono ?_
    rintro e w1 ⟨rfl, hb⟩
    rw [decide_eq_true ha]
    have A2 : At w1 (w.heap.size + 1) [.int .i64 bx, .int .i64 b_y] := At.below (At.new_ (by simp)) hb
    have hB := bal (bal hb)
    clear hb
    obtain ⟨c0, c1⟩ := A2.two
    go_wp2_with fail
    refine (can_any _ _ _).mono ?_
    rintro e w2 ⟨rfl, hb⟩
    rw [decide_eq_false hb']
    go_wp2
    go_ret2
    exact ⟨rfl, bchain hB hb⟩
  · go_enter Try.func27, Try.ntmps27
    go_wp2_with fail
    refine (can_any _ _ _).mono ?_
    rintro e w1 ⟨rfl, hb⟩
    rw [decide_eq_false ha]
    go_wp2
    go_ret2
    exact ⟨rfl, bal (bal hb)⟩

set_option maxRecDepth 100000 in
set_option maxHeartbeats 1000000 in
theorem row_ok (ax ay bx b_y sx sy A : Int) (N : Nat) (b : Bool) (X Y : Nat → Int) (w : World) (ha : canP ax ay) (hb : canP bx b_y) (hN : N ≤ 1023)
    (hbet : Hid (BetC ax ay bx b_y #[.int .i64 ax, .int .i64 ay, .int .i64 sx, .int .i64 sy, .int .i64 N, .int .i64 A, .bool b]))
    (hat : Hid (∀ i : Nat, i ≤ N → AtC #[.int .i64 ax, .int .i64 ay, .int .i64 sx, .int .i64 sy, .int .i64 N, .int .i64 A, .bool b] i (X i) (Y i))) :
    Calls Try.prog 27 #[.agg #[.int .i64 ax, .int .i64 ay], .agg #[.int .i64 bx, .int .i64 b_y]] w fun e w' => OwnedCells w X Y (N + 1) 0 e w' := by
  obtain ⟨i0, hi, hz0, hz1, hz2⟩ := info_parts Try.infocell
  have Hi := hide hi
  have Hz0 := hide hz0
  have Hz1 := hide hz1
  have Hz2 := hide hz2
  clear hi hz0 hz1 hz2
  go_enter Try.func27, Try.ntmps27
  go_wp2_with fail
  refine (can_any _ _ _).mono ?_
  rintro e w1 ⟨rfl, hb1⟩
  rw [decide_eq_true ha]
  have A1 : At w1 w.heap.size [.int .i64 ax, .int .i64 ay] := At.below (At.alloc At.new _) hb1
  have A2 : At w1 (w.heap.size + 1) [.int .i64 bx, .int .i64 b_y] := At.below (At.new_ (by simp)) hb1
  have hB := bal (bal hb1)
  clear hb1
  obtain ⟨c0, c1⟩ := A2.two
  go_wp2_with fail
  refine (can_any _ _ _).mono ?_
  rintro e w2 ⟨rfl, hb2⟩
  rw [decide_eq_true hb]
  have A1 := A1.below hb2
  have A2 := A2.below hb2
  have hB := bchain hB hb2
  clear hb2 c0 c1
  obtain ⟨c0, c1⟩ := A1.two
  obtain ⟨d0, d1⟩ := A2.two
  go_wp2_with fail
  refine (hbet.out _).mono ?_
  rintro e w3 ⟨rfl, hb3⟩
  have hB := bchain hB hb3
  clear hb3 A1 A2 c0 c1 d0 d1
  go_wp2_with ((at_make; refine wpList_make_own _ rfl _ _ _ rfl (w3.heap.size + 1) 37 i0 _ 2 Try.underlying41 Hi.out Hz0.out Hz1.out _ _ _ (N + 1) rfl rfl (by omega) (by rw [Hz2.out]; omega) (by simp only [maxLen]; omega) (by simp) ?_; intro w4 hown hgrow; have hBg := (Below.refl _ _).grown hgrow (Nat.le_refl _) (fun _ h => by cases h); have A3 := At.below (At.new (w := w3) (vs := [.int .i64 ax, .int .i64 ay, .int .i64 sx, .int .i64 sy, .int .i64 N, .int .i64 A, .bool b])) hBg; have c4 := A3.2.1 4 _ rfl))
  have hBw := bchain (below_put hB) hBg
  have hlt := A3.1
  have hsz := hB.size
  clear hBg hgrow hB
  go_loopw [7, 27] (fun v c wr => ∃ k : Nat, c = .int .i64 k ∧ k ≤ N + 1 ∧ wr.ownsRow (w3.heap.size + 1) 37 2 v k (pairL X Y k) ∧ At wr w3.heap.size [.int .i64 ax, .int .i64 ay, .int .i64 sx, .int .i64 sy, .int .i64 N, .int .i64 A, .bool b] ∧ Below w.heap.size w wr) (fun _ c _ => N + 1 - (intOf c).toNat)
  case atStart => exact ⟨0, rfl, by omega, by simpa [pairL] using hown, A3, hBw⟩
  case round =>
    obtain ⟨k, rfl, hk, hownk, Ak, hBk⟩ := hrel
    clear A3 c4 hown hBw
    by_cases hlt : k < N + 1
    · have HA := hide (hat.out k (by omega))
      have c0 := Ak.2.1 0 _ rfl
      have c1 := Ak.2.1 1 _ rfl
      have c2 := Ak.2.1 2 _ rfl
      have c3 := Ak.2.1 3 _ rfl
      have c4 := Ak.2.1 4 _ rfl
      have c5 := Ak.2.1 5 _ rfl
      have c6 := Ak.2.1 6 _ rfl
      go_wp2_with fail
      refine (HA.out _).mono ?_
      rintro e wq ⟨rfl, hbq⟩
      have hownq := own_below hownk hbq
      have Aq := Ak.below hbq
      have hBq := bchain hBk hbq
      clear hownk Ak hBk hbq c0 c1 c2 c3 c4 c5 c6 HA
      have hq1 := Aq.1
      go_wp2_with (at_builtin; refine wpList_append_grp (wr := wq) (n := k) (xs := pairL X Y k) (base := w3.heap.size + 1) (ys := [_, _]) rfl (.tmp 30) (.tmp 34) _ rfl 37 _ 2 16 Try.underlying41 Try.infocell rfl (by omega) (by omega) (by exact hownq) (by rfl) rfl (by rfl) (by simp [Value.oneCell']) (by omega) (by omega) ?_; intro v3 wn hown3 hb3)
      refine ⟨⟨k + 1, by go_num, by omega, hown3, Aq.into (by omega) hb3, hBq.trans (hb3.mono (by omega))⟩, by simp [intOf]; omega⟩
    · obtain rfl : k = N + 1 := by omega
      go_wp2
      go_ret2
      exact ⟨_, rfl, own_mono hownk (by omega), hBk⟩
end Go.Proofs.Ytafokllnelibcaa
