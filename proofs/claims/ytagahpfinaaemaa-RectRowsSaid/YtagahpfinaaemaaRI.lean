/- What rect.Nth and rect.Rank tell, packed for the law. -/
import Derived.Test.YtagahpfinaaemaaRH
namespace Go.Proofs.Ytagahpfinaaemaa
open Go.RowKit Go.Lib

theorem nth_math (x0 y0 x1 y1 i : Int) (h : okP x0 y0 x1 y1) (h0 : 0 ≤ i) (h1 : i < (x1 - x0 + 1) * (y1 - y0 + 1)) :
    0 ≤ i / (x1 - x0 + 1) ∧ i / (x1 - x0 + 1) ≤ y1 - y0 ∧ 0 ≤ i % (x1 - x0 + 1) ∧ i % (x1 - x0 + 1) ≤ x1 - x0 ∧ i / (x1 - x0 + 1) * (x1 - x0 + 1) + i % (x1 - x0 + 1) = i := by
  unfold okP at h
  have hd : 0 < x1 - x0 + 1 := by omega
  have a1 := Int.ediv_nonneg h0 (by omega : 0 ≤ x1 - x0 + 1)
  have a2 := Int.emod_nonneg i (by omega : x1 - x0 + 1 ≠ 0)
  have a3 := Int.emod_lt_of_pos i hd
  have a4 := Int.ediv_lt_of_lt_mul hd (by rw [Int.mul_comm]; exact h1 : i < (y1 - y0 + 1) * (x1 - x0 + 1))
  have a5 := Int.mul_ediv_add_emod i (x1 - x0 + 1)
  rw [Int.mul_comm] at a5
  exact ⟨a1, by omega, a2, by omega, a5⟩
theorem rank_math (x0 y0 x1 y1 x y : Int) (h : hasP x0 y0 x1 y1 x y) :
    0 ≤ (y - y0) * (x1 - x0 + 1) ∧ (y - y0) * (x1 - x0 + 1) ≤ 1048576 ∧ 0 ≤ (y - y0) * (x1 - x0 + 1) + x - x0 ∧ (y - y0) * (x1 - x0 + 1) + x - x0 < (x1 - x0 + 1) * (y1 - y0 + 1) ∧
      ((y - y0) * (x1 - x0 + 1) + x - x0) / (x1 - x0 + 1) = y - y0 ∧ ((y - y0) * (x1 - x0 + 1) + x - x0) % (x1 - x0 + 1) = x - x0 := by
  unfold hasP okP at h
  have hd : 0 < x1 - x0 + 1 := by omega
  have a1 := Int.mul_nonneg (show 0 ≤ y - y0 by omega) (show 0 ≤ x1 - x0 + 1 by omega)
  have a2 := Int.mul_le_mul (show y - y0 ≤ 1024 by omega) (show x1 - x0 + 1 ≤ 1024 by omega) (by omega) (by omega)
  have a3 := Int.mul_le_mul_of_nonneg_right (show y - y0 ≤ y1 - y0 by omega) (show 0 ≤ x1 - x0 + 1 by omega)
  have a4 : (x1 - x0 + 1) * (y1 - y0 + 1) = (y1 - y0) * (x1 - x0 + 1) + (x1 - x0 + 1) := by rw [Int.mul_comm, Int.add_mul, Int.one_mul]
  have e : (y - y0) * (x1 - x0 + 1) + x - x0 = (x - x0) + (y - y0) * (x1 - x0 + 1) := by omega
  refine ⟨a1, by omega, by omega, by omega, ?_, ?_⟩
  · rw [e, Int.add_mul_ediv_right _ _ (by omega), Int.ediv_eq_zero_of_lt (by omega) (by omega), Int.zero_add]
  · rw [e, Int.add_mul_emod_self_right, Int.emod_eq_of_lt (by omega) (by omega)]

def NthC (x0 y0 x1 y1 i u v : Int) (b : Bool) : Prop := ∀ w : World,
    Calls Try.prog 29 #[.agg #[.int .i64 x0, .int .i64 y0, .int .i64 x1, .int .i64 y1], .int .i64 i] w fun e w' => e = .returned (.tuple #[.agg #[.int .i64 u, .int .i64 v], .bool b]) ∧ Below w.heap.size w w'
def RankC (x0 y0 x1 y1 x y n : Int) (b : Bool) : Prop := ∀ w : World,
    Calls Try.prog 30 #[.agg #[.int .i64 x0, .int .i64 y0, .int .i64 x1, .int .i64 y1], .agg #[.int .i64 x, .int .i64 y]] w fun e w' => e = .returned (.tuple #[.int .i64 n, .bool b]) ∧ Below w.heap.size w w'

theorem area_pos (x0 y0 x1 y1 i : Int) (h0 : 0 ≤ i) (h1 : i < areaI x0 y0 x1 y1) : okP x0 y0 x1 y1 ∧ areaI x0 y0 x1 y1 = (x1 - x0 + 1) * (y1 - y0 + 1) := by
  by_cases h : okP x0 y0 x1 y1
  · exact ⟨h, by rw [areaI, if_pos h]⟩
  · rw [areaI, if_neg h] at h1; omega

/-- What Nth tells of a number that is one's: the cell, whose rank is the number. -/
theorem nth_in (x0 y0 x1 y1 i : Int) (h0 : 0 ≤ i) (h1 : i < areaI x0 y0 x1 y1) :
    ∃ q r : Int, 0 ≤ q ∧ q ≤ y1 - y0 ∧ 0 ≤ r ∧ r ≤ x1 - x0 ∧ okP x0 y0 x1 y1 ∧ i.tdiv (x1 - x0 + 1) = q ∧ i.tmod (x1 - x0 + 1) = r ∧ NthC x0 y0 x1 y1 i (x0 + r) (y0 + q) true ∧ RankC x0 y0 x1 y1 (x0 + r) (y0 + q) i true := by
  obtain ⟨hk, he⟩ := area_pos _ _ _ _ _ h0 h1
  obtain ⟨b1, b2, b3, b4, b5⟩ := nth_math x0 y0 x1 y1 i hk h0 (by omega)
  have hr := area_rng x0 y0 x1 y1
  have hk' := hk
  unfold okP at hk'
  refine ⟨i / (x1 - x0 + 1), i % (x1 - x0 + 1), b1, b2, b3, b4, hk, Int.tdiv_eq_ediv_of_nonneg h0, Int.tmod_eq_emod_of_nonneg h0, fun w => ?_, fun w => ?_⟩
  · exact nth_yes x0 y0 x1 y1 i (x1 - x0 + 1) _ _ (areaI x0 y0 x1 y1) w hk (hide rfl) (hide rfl) h0 h1 (by omega) (by omega) (by omega) b1 (by omega) b3 (by omega) (hide rfl) (hide rfl)
  · have hh : hasP x0 y0 x1 y1 (x0 + i % (x1 - x0 + 1)) (y0 + i / (x1 - x0 + 1)) := ⟨hk, by omega, by omega, by omega, by omega⟩
    have hm := rank_math _ _ _ _ _ _ hh
    refine rank_yes x0 y0 x1 y1 _ _ (x1 - x0 + 1) i w hh (hide rfl) (by omega) (by omega) (hide ?_) hm.1 hm.2.1
    rw [show y0 + i / (x1 - x0 + 1) - y0 = i / (x1 - x0 + 1) by omega]
    omega
theorem nth_out (x0 y0 x1 y1 i : Int) (h : ¬ (0 ≤ i ∧ i < areaI x0 y0 x1 y1)) : NthC x0 y0 x1 y1 i 0 0 false := fun w =>
  nth_no x0 y0 x1 y1 i _ w (hide rfl) (by omega)
/-- What Rank tells of a cell that is in: the number, whose cell it is. -/
theorem rank_in (x0 y0 x1 y1 x y : Int) (h : hasP x0 y0 x1 y1 x y) : ∃ n : Int, RankC x0 y0 x1 y1 x y n true ∧ NthC x0 y0 x1 y1 n x y true := by
  have hh := h
  have hm := rank_math _ _ _ _ _ _ h
  obtain ⟨hk, hx0, hx1, hy0, hy1⟩ := h
  have hk' := hk
  unfold okP at hk'
  have he : areaI x0 y0 x1 y1 = (x1 - x0 + 1) * (y1 - y0 + 1) := by rw [areaI, if_pos hk]
  have hr := area_rng x0 y0 x1 y1
  obtain ⟨m1, m2, m3, m4, m5, m6⟩ := hm
  refine ⟨(y - y0) * (x1 - x0 + 1) + x - x0, fun w => ?_, fun w => ?_⟩
  · exact rank_yes x0 y0 x1 y1 _ _ (x1 - x0 + 1) _ w hh (hide rfl) (by omega) (by omega) (hide rfl) m1 m2
  · have := nth_yes x0 y0 x1 y1 _ (x1 - x0 + 1) (y - y0) (x - x0) (areaI x0 y0 x1 y1) w hk (hide rfl) (hide rfl) m3 (by omega) (by omega) (by omega) (by omega) (by omega) (by omega) (by omega) (by omega) (hide m5) (hide m6)
    rw [show x0 + (x - x0) = x by omega, show y0 + (y - y0) = y by omega] at this
    exact this
theorem rank_out (x0 y0 x1 y1 x y : Int) (h : ¬ hasP x0 y0 x1 y1 x y) : RankC x0 y0 x1 y1 x y 0 false := fun w => rank_no _ _ _ _ _ _ w h

/-- What stands in memory while the law runs: the rectangle, the cell, the cell that Nth told. -/
structure Rows3 (w0 : World) (g : Nat) (r0 r1 r2 r3 x y u v : Int) (w : World) : Prop where
  a : At w w0.heap.size [.int .i64 r0, .int .i64 r1, .int .i64 r2, .int .i64 r3]
  b : At w (w0.heap.size + 1) [.int .i64 x, .int .i64 y]
  c : At w g [.int .i64 u, .int .i64 v]
  d : Below w0.heap.size w0 w
theorem Rows3.below {w0 w w' : World} {g : Nat} {r0 r1 r2 r3 x y u v : Int} (h : Rows3 w0 g r0 r1 r2 r3 x y u v w) (hb : Below w.heap.size w w') : Rows3 w0 g r0 r1 r2 r3 x y u v w' :=
  ⟨h.a.below hb, h.b.below hb, h.c.below hb, bchain h.d hb⟩
theorem Rows3.drew {w0 w : World} {g : Nat} {r0 r1 r2 r3 x y u v : Int} (h : Rows3 w0 g r0 r1 r2 r3 x y u v w) : Rows3 w0 g r0 r1 r2 r3 x y u v w.drew :=
  ⟨h.a.drew, h.b.drew, h.c.drew, h.d.drew⟩
theorem Rows3.cells {w0 w : World} {g : Nat} {r0 r1 r2 r3 x y u v : Int} (h : Rows3 w0 g r0 r1 r2 r3 x y u v w) :
    w.cell? ⟨w0.heap.size, 0, none⟩ = some (.int .i64 r0) ∧ w.cell? ⟨w0.heap.size, 1, none⟩ = some (.int .i64 r1) ∧ w.cell? ⟨w0.heap.size, 2, none⟩ = some (.int .i64 r2) ∧ w.cell? ⟨w0.heap.size, 3, none⟩ = some (.int .i64 r3) ∧
      w.cell? ⟨w0.heap.size + 1, 0, none⟩ = some (.int .i64 x) ∧ w.cell? ⟨w0.heap.size + 1, 1, none⟩ = some (.int .i64 y) ∧ w.cell? ⟨g, 0, none⟩ = some (.int .i64 u) ∧ w.cell? ⟨g, 1, none⟩ = some (.int .i64 v) ∧
      w0.heap.size < w.heap.size ∧ w0.heap.size + 1 < w.heap.size ∧ g < w.heap.size :=
  ⟨h.a.four.1, h.a.four.2.1, h.a.four.2.2.1, h.a.four.2.2.2, h.b.two.1, h.b.two.2, h.c.two.1, h.c.two.2, h.a.1, h.b.1, h.c.1⟩
end Go.Proofs.Ytagahpfinaaemaa
