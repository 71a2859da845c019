/- Contract of ray.At at two cells that can be. -/
import Derived.Test.YtafokllnelibcaaYG
namespace Go.Proofs.Ytafokllnelibcaa
open Go.RowKit Go.Lib

theorem at_of (ax ay bx b_y L i : Int) (ha : canP ax ay) (hb : canP bx b_y) (hL : L = rL ax ay bx b_y) (hi0 : 0 ≤ i) (hii : i ≤ L) :
    AtC #[.int .i64 ax, .int .i64 ay, .int .i64 (apS ax bx), .int .i64 (apS ay b_y), .int .i64 L, .int .i64 (rA ax ay bx b_y), .bool (decide (apD ay b_y ≤ apD ax bx))] i (rX ax ay bx b_y i) (rY ax ay bx b_y i) := fun w => by
  subst hL
  obtain ⟨q1, q2, q3⟩ := rL_rng ax ay bx b_y ha hb
  have ha' := ha
  have hb' := hb
  unfold canP at ha' hb'
  by_cases h0 : rL ax ay bx b_y = 0
  · have hA0 : rA ax ay bx b_y = 0 := by omega
    have hi0 : i = 0 := by omega
    subst hi0
    have e1 : rX ax ay bx b_y 0 = ax := (ray_zero ax ay bx b_y ha hb).1
    have e2 : rY ax ay bx b_y 0 = ay := (ray_zero ax ay bx b_y ha hb).2
    rw [e1, e2, h0]
    exact at_zero ax ay _ _ _ _ _ w
  · have hs := rS_rng (rL ax ay bx b_y) (rA ax ay bx b_y) i (by omega) q1 q2 (by omega) hii
    have p0 := Int.mul_nonneg (show 0 ≤ i by omega) q1
    have p1 := Int.mul_le_mul (show i ≤ 1023 by omega) (show rA ax ay bx b_y ≤ 1023 by omega) q1 (by omega)
    have hP : 2 * i * rA ax ay bx b_y = 2 * (i * rA ax ay bx b_y) := Int.mul_assoc _ _ _
    by_cases hw : apD ay b_y ≤ apD ax bx
    · rw [decide_eq_true hw, rX, rY, if_pos hw, if_pos hw]
      have m1 := apS_mul ax bx i
      have m2 := apS_mul ay b_y (rS (rL ax ay bx b_y) (rA ax ay bx b_y) i)
      exact at_wide ax ay _ _ (rL ax ay bx b_y) (rA ax ay bx b_y) i (2 * i * rA ax ay bx b_y) (rS (rL ax ay bx b_y) (rA ax ay bx b_y) i) _ _ w (by omega) (by omega) (by omega) (by omega) (by omega) (by omega) (by omega) (by omega) rfl (by omega) (by omega) rfl (by omega) (by omega) rfl (by rw [m1]; split <;> omega) (by rw [m1]; split <;> omega) rfl (by rw [m2]; split <;> omega) (by rw [m2]; split <;> omega)
    · rw [decide_eq_false hw, rX, rY, if_neg hw, if_neg hw]
      have m1 := apS_mul ay b_y i
      have m2 := apS_mul ax bx (rS (rL ax ay bx b_y) (rA ax ay bx b_y) i)
      exact at_tall ax ay _ _ (rL ax ay bx b_y) (rA ax ay bx b_y) i (2 * i * rA ax ay bx b_y) (rS (rL ax ay bx b_y) (rA ax ay bx b_y) i) _ _ w (by omega) (by omega) (by omega) (by omega) (by omega) (by omega) (by omega) (by omega) rfl (by omega) (by omega) rfl (by omega) (by omega) rfl (by rw [m2]; split <;> omega) (by rw [m2]; split <;> omega) rfl (by rw [m1]; split <;> omega) (by rw [m1]; split <;> omega)

set_option maxHeartbeats 1000000 in
theorem rayat_yes (ax ay bx b_y i L u v c : Int) (w : World) (ha : canP ax ay) (hb : canP bx b_y) (hL : L = rL ax ay bx b_y) (hc : (i < 0 ∨ L < i) ∧ u = 0 ∧ v = 0 ∧ c = 11 ∨ 0 ≤ i ∧ i ≤ L ∧ u = rX ax ay bx b_y i ∧ v = rY ax ay bx b_y i ∧ c = 0) :
    Calls Try.prog 26 #[.agg #[.int .i64 ax, .int .i64 ay], .agg #[.int .i64 bx, .int .i64 b_y], .int .i64 i] w fun e w' => e = .returned (.tuple #[.agg #[.int .i64 u, .int .i64 v], .int .i64 c]) ∧ Below w.heap.size w w' := by
  have HB := hide (bet_of ax ay bx b_y L ha hb hL)
  have HA : Hid (0 ≤ i → i ≤ L → AtC #[.int .i64 ax, .int .i64 ay, .int .i64 (apS ax bx), .int .i64 (apS ay b_y), .int .i64 L, .int .i64 (rA ax ay bx b_y), .bool (decide (apD ay b_y ≤ apD ax bx))] i (rX ax ay bx b_y i) (rY ax ay bx b_y i)) := hide fun h1 h2 => at_of ax ay bx b_y L i ha hb hL h1 h2
  have hL0 : 0 ≤ L := by rw [hL]; have := rL_rng ax ay bx b_y ha hb; omega
  generalize rX ax ay bx b_y i = rx at *
  generalize rY ax ay bx b_y i = ry at *
  generalize apS ax bx = sx at *
  generalize apS ay b_y = sy at *
  generalize rA ax ay bx b_y = A at *
  generalize decide (apD ay b_y ≤ apD ax bx) = bw at *
  clear hL
  rcases hc with ⟨hi, rfl, rfl, rfl⟩ | ⟨h0, h1, rfl, rfl, rfl⟩
  · have hi : i < 0 ∨ (0 ≤ i ∧ L < i) := by omega
    rcases hi with hi | ⟨hi, hi2⟩
    all_goals
      go_enter Try.func26, Try.ntmps26
      go_wp2_with fail
      refine (can_any _ _ _).mono ?_
      rintro e w1 ⟨rfl, hb1⟩
      rw [decide_eq_true ha]
      have A1 : At w1 w.heap.size [.int .i64 ax, .int .i64 ay] := At.below (At.alloc (At.alloc At.new _) _) hb1
      have A2 : At w1 (w.heap.size + 1) [.int .i64 bx, .int .i64 b_y] := At.below (At.alloc (At.new_ (by simp)) _) hb1
      have A3 : At w1 (w.heap.size + 1 + 1) [.int .i64 0, .int .i64 0] := At.below (At.new_ (by simp)) hb1
      have hB := bal (bal (bal hb1))
      clear hb1
      obtain ⟨c0, c1⟩ := A2.two
      go_wp2_with fail
      refine (can_any _ _ _).mono ?_
      rintro e w2 ⟨rfl, hb2⟩
      rw [decide_eq_true hb]
      have A1 := A1.below hb2
      have A2 := A2.below hb2
      have A3 := A3.below hb2
      have hB := bchain hB hb2
      clear hb2 c0 c1
      obtain ⟨c0, c1⟩ := A1.two
      obtain ⟨d0, d1⟩ := A2.two
      go_wp2_with fail
      refine (HB.out _).mono ?_
      rintro e w3 ⟨rfl, hb3⟩
      have A3 := A3.below hb3
      have hB := bchain hB hb3
      clear hb3 c0 c1 d0 d1 A1 A2
      obtain ⟨n0, n1⟩ := A3.two
      obtain ⟨f0, f1, fs⟩ := A3.fr2
      go_wp2_with fail
      exact bodyPost_ret (v := .tuple #[.agg #[.int .i64 0, .int .i64 0], .int .i64 11]) (by simp [results, Try.results26, go_sem, n0, n1, f0, f1, fs]) rfl ⟨rfl, by repeat first | exact hB | refine below_put ?_ | refine Below.setCell ?_ (by go_size) _⟩
  · have HAt := hide (HA.out h0 h1)
    clear HA
    go_enter Try.func26, Try.ntmps26
    go_wp2_with fail
    refine (can_any _ _ _).mono ?_
    rintro e w1 ⟨rfl, hb1⟩
    rw [decide_eq_true ha]
    have A1 : At w1 w.heap.size [.int .i64 ax, .int .i64 ay] := At.below (At.alloc (At.alloc At.new _) _) hb1
    have A2 : At w1 (w.heap.size + 1) [.int .i64 bx, .int .i64 b_y] := At.below (At.alloc (At.new_ (by simp)) _) hb1
    have A3 : At w1 (w.heap.size + 1 + 1) [.int .i64 0, .int .i64 0] := At.below (At.new_ (by simp)) hb1
    have hB := bal (bal (bal hb1))
    clear hb1
    obtain ⟨c0, c1⟩ := A2.two
    go_wp2_with fail
    refine (can_any _ _ _).mono ?_
    rintro e w2 ⟨rfl, hb2⟩
    rw [decide_eq_true hb]
    have A1 := A1.below hb2
    have A2 := A2.below hb2
    have A3 := A3.below hb2
    have hB := bchain hB hb2
    clear hb2 c0 c1
    obtain ⟨c0, c1⟩ := A1.two
    obtain ⟨d0, d1⟩ := A2.two
    go_wp2_with fail
    refine (HB.out _).mono ?_
    rintro e w3 ⟨rfl, hb3⟩
    have A3 := A3.below hb3
    have hB := bchain hB hb3
    clear hb3 c0 c1 d0 d1 A1 A2
    go_wp2_with fail
    refine (HAt.out _).mono ?_
    rintro e w4 ⟨rfl, hb4⟩
    have A3 := (A3.alloc _).below hb4
    have hB := bchain (below_put hB) hb4
    clear hb4
    obtain ⟨n0, n1⟩ := A3.two
    obtain ⟨f0, f1, fs⟩ := A3.fr2
    go_wp2_with fail
    exact bodyPost_ret (v := .tuple #[.agg #[.int .i64 u, .int .i64 v], .int .i64 0]) (by simp [results, Try.results26, go_sem, n0, n1, f0, f1, fs]) rfl ⟨rfl, by repeat first | exact hB | refine below_put ?_ | refine Below.setCell ?_ (by go_size) _⟩

/-- What stands in memory while the law of cells runs. -/
structure Ray4 (w0 : World) (g h : Nat) (A : Option Addr) (n : Nat) (X Y : Nat → Int) (a0 a1 b0 b1 u v : Int) (w : World) : Prop where
  a : At w w0.heap.size [.int .i64 a0, .int .i64 a1]
  b : At w (w0.heap.size + 1) [.int .i64 b0, .int .i64 b1]
  c : At w g [.int .i64 u, .int .i64 v]
  d : At w h [.int .i64 0, .int .i64 0]
  r : Row2 w A n X Y
  e : Below w0.heap.size w0 w
section
variable {w0 w w' : World} {g h n : Nat} {A : Option Addr} {X Y : Nat → Int} {a0 a1 b0 b1 u v : Int}
theorem Ray4.below (k : Ray4 w0 g h A n X Y a0 a1 b0 b1 u v w) (hb : Below w.heap.size w w') : Ray4 w0 g h A n X Y a0 a1 b0 b1 u v w' :=
  ⟨k.a.below hb, k.b.below hb, k.c.below hb, k.d.below hb, k.r.below hb, bchain k.e hb⟩
theorem Ray4.drewN (k : Ray4 w0 g h A n X Y a0 a1 b0 b1 u v w) (m : Nat) : Ray4 w0 g h A n X Y a0 a1 b0 b1 u v (w.drewN m) :=
  ⟨k.a.drewN m, k.b.drewN m, k.c.drewN m, k.d.drewN m, k.r, below_drewN k.e m⟩
theorem Ray4.cells (k : Ray4 w0 g h A n X Y a0 a1 b0 b1 u v w) :
    w.cell? ⟨w0.heap.size, 0, none⟩ = some (.int .i64 a0) ∧ w.cell? ⟨w0.heap.size, 1, none⟩ = some (.int .i64 a1) ∧ w.cell? ⟨w0.heap.size + 1, 0, none⟩ = some (.int .i64 b0) ∧ w.cell? ⟨w0.heap.size + 1, 1, none⟩ = some (.int .i64 b1) ∧
      w.cell? ⟨g, 0, none⟩ = some (.int .i64 u) ∧ w.cell? ⟨g, 1, none⟩ = some (.int .i64 v) ∧ w.cell? ⟨h, 0, none⟩ = some (.int .i64 0) ∧ w.cell? ⟨h, 1, none⟩ = some (.int .i64 0) ∧ w0.heap.size < w.heap.size ∧ w0.heap.size + 1 < w.heap.size ∧ g < w.heap.size ∧ h < w.heap.size :=
  ⟨k.a.two.1, k.a.two.2, k.b.two.1, k.b.two.2, k.c.two.1, k.c.two.2, k.d.two.1, k.d.two.2, k.a.1, k.b.1, k.c.1, k.d.1⟩
end
end Go.Proofs.Ytafokllnelibcaa
