/- Contract of rect.Pieces, and the chapter's example. -/
import Derived.Test.YtagahpfinaaemaaRB
import Derived.Lib.MinMax
import Derived.Deep.RegionHeld3
namespace Go.Proofs.Ytagahpfinaaemaa
open Go.RowKit Go.Lib

theorem next_any (p : Int) (w : World) (h0 : 0 ≤ p) (h1 : p ≤ 2000) : Calls Try.prog 46 #[.int .i64 p] w fun e w' => e = .returned (.int .i64 (p - p % 16 + 16)) ∧ w' = w := by
  go_enter Try.func46, Try.ntmps46
  go_wp2
  go_ret
  exact ⟨rfl, rfl⟩
theorem Try.inforect : (Try.prog.info? 23).map (fun i => (i.zero, i.size, i.bytes)) = some (some (.agg #[.int .i64 0, .int .i64 0, .int .i64 0, .int .i64 0]), 4, 32) := by kernel_rfl

def nxt (p : Int) : Int := p - p % 16 + 16
def rowL (x1 y q : Int) : Nat → Int → List Int
  | 0, _ => []
  | f + 1, x => if x ≤ x1 then x :: y :: min x1 (nxt x - 1) :: q :: rowL x1 y q f (nxt x) else []
def pieL (x0 x1 y1 : Int) : Nat → Int → List Int
  | 0, _ => []
  | f + 1, y => if y ≤ y1 then rowL x1 y (min y1 (nxt y - 1)) 1024 x0 ++ pieL x0 x1 y1 f (nxt y) else []
theorem rowL_end (x1 y q : Int) (f : Nat) (x : Int) (h : x1 < x) : rowL x1 y q f x = [] := by
  cases f with
  | zero => rfl
  | succ f => rw [rowL, if_neg (by omega)]
theorem pieL_end (x0 x1 y1 : Int) (f : Nat) (y : Int) (h : y1 < y) : pieL x0 x1 y1 f y = [] := by
  cases f with
  | zero => rfl
  | succ f => rw [pieL, if_neg (by omega)]

theorem own_mono {w : World} {base base' : Nat} {e : TypeId} {size : Nat} {v : Value} {n : Nat} {xs : List Value} (h : w.ownsRow base e size v n xs) (hb : base' ≤ base) : w.ownsRow base' e size v n xs := by
  refine ⟨h.1, ?_⟩
  rcases h.2 with h0 | ⟨g, cap, cur, h1, h2, h3⟩
  · exact .inl h0
  · exact .inr ⟨g, cap, cur, h1, Nat.le_trans hb h2, h3⟩
def OwnedRects (w : World) (l : List Int) (e : Ending) (w' : World) : Prop := ∃ v n, e = .returned v ∧ w'.ownsRow w.heap.size 23 4 v n (l.map (Value.int .i64)) ∧ Below w.heap.size w w'

set_option maxRecDepth 100000 in
set_option maxHeartbeats 1000000 in
theorem pieces_ok (x0 y0 x1 y1 : Int) (w : World) (h : okP x0 y0 x1 y1) : Calls Try.prog 26 #[.agg #[.int .i64 x0, .int .i64 y0, .int .i64 x1, .int .i64 y1]] w fun e w' => OwnedRects w (pieL x0 x1 y1 1024 y0) e w' := by
  have hk := hide h
  unfold okP at h
  go_enter Try.func26, Try.ntmps26
  go_wp2_with fail
  refine (right_any _ _ _ _ _).mono ?_
  rintro e w1 ⟨rfl, hb⟩
  rw [decide_eq_true hk.out]
  have A1 : At w1 w.heap.size [.int .i64 x0, .int .i64 y0, .int .i64 x1, .int .i64 y1] := At.below At.new hb
  have hB := bal hb
  have hlt : w.heap.size < w1.heap.size := A1.1
  clear hb
  obtain ⟨c0, c1, c2, c3⟩ := A1.four
  go_wp2_with fail
  go_loopw [3, 4] (fun v s wr => ∃ (g n : Nat) (d : List Int) (y : Int), s = .int .i64 y ∧ y0 ≤ y ∧ y ≤ 1040 ∧ y1 < y + g ∧ n + 1024 * g ≤ 1048576 ∧ Hid (d ++ pieL x0 x1 y1 g y = pieL x0 x1 y1 1024 y0) ∧ wr.ownsRow w1.heap.size 23 4 v n (d.map (Value.int .i64)) ∧ Below w1.heap.size w1 wr) (fun _ s _ => (1100 - intOf s).toNat)
  case atStart => exact ⟨1024, 0, [], y0, rfl, by omega, by omega, by omega, by omega, hide rfl, World.ownsRow_nil _ _ _ _, Below.refl _ _⟩
  case round =>
    obtain ⟨g, n, d, y, rfl, hy0, hy1, hg, hn, hd, hown, hbr⟩ := hrel
    have A2 := A1.into A1.1 hbr
    clear c0 c1 c2 c3
    obtain ⟨c0, c1, c2, c3⟩ := A2.four
    by_cases hy : y ≤ y1
    · obtain ⟨wo, rfl⟩ : ∃ wo : World, wo = wr := ⟨_, rfl⟩
      obtain ⟨g, rfl⟩ : ∃ k, g = k + 1 := ⟨g - 1, by omega⟩
      have hq : Hid (nxt y = y - y % 16 + 16) := rfl
      go_wp2_with fail
      go_loopw [3, 5] (fun v s wv => ∃ (f m : Nat) (d2 : List Int) (x : Int), s = .int .i64 x ∧ x0 ≤ x ∧ x ≤ 1040 ∧ x1 < x + f ∧ m + f ≤ n + 1024 ∧ Hid (d2 ++ rowL x1 y (min y1 (nxt y - 1)) f x = d ++ rowL x1 y (min y1 (nxt y - 1)) 1024 x0) ∧ wv.ownsRow w1.heap.size 23 4 v m (d2.map (Value.int .i64)) ∧ Below w1.heap.size w1 wv) (fun _ s _ => (1100 - intOf s).toNat)
      case atStart => exact ⟨1024, n, d, x0, rfl, by omega, by omega, by omega, by omega, hide rfl, hown, hbr⟩
      case round =>
        obtain ⟨f, m, d2, x, rfl, hx0, hx1, hf, hm, hd2, hown2, hbv⟩ := hrel
        have A3 := A1.into A1.1 hbv
        clear c0 c1 c2 c3 A2 hown hbr
        obtain ⟨c0, c1, c2, c3⟩ := A3.four
        by_cases hx : x ≤ x1
        · obtain ⟨f, rfl⟩ : ∃ k, f = k + 1 := ⟨f - 1, by omega⟩
          go_wp2_with fail
          have A3d := A3.drew
          have hownV : (wr.drew).ownsRow w1.heap.size 23 4 _ m (d2.map (Value.int .i64)) := hown2
          have hbV : Below w1.heap.size w1 wr.drew := hbv.drew
          obtain ⟨k0, k1, k2, k3⟩ := A3d.four
          clear c0 c1 c2 c3 hown2 hbv
          go_region_held3 (fun w' => w'.cell? ⟨w.heap.size, 2, none⟩ = some (.int .i64 x1) ∧ w'.cell? ⟨w.heap.size, 3, none⟩ = some (.int .i64 y1)) (first | exact ⟨k2, k3⟩ | exact ⟨(A3.alloc _).drew.four.2.2.1, (A3.alloc _).drew.four.2.2.2⟩ | exact ⟨(A3d.into A1.1 hb3).four.2.2.1, (A3d.into A1.1 hb3).four.2.2.2⟩)
            (first
            | (refine step_append_grp (wr := wr.drew) (n := m) (xs := d2.map (Value.int .i64)) (base := w1.heap.size) (ys := [_, _, _, _]) rfl (.tmp 25) (.tmp 41) _ rfl 23 _ 4 32 Try.underlying40 Try.inforect rfl (by omega) (by omega) (by exact hownV) (by rfl) rfl (by rfl) (by simp [Value.oneCell']) (by omega) (by exact hbV.size) ?_; intro v3 w3 hown3 hb3)
            | (go_at_call 46; refine (next_any _ _ (by omega) (by omega)).mono ?_; rintro e w' ⟨rfl, rfl⟩))
          all_goals
            have A4 := A3d.into A1.1 hb3
            clear k0 k1 k2 k3 A3d A3
            rw [w64 (x - x % 16 + 16 - 1) (by omega) (by omega), w64 (y - y % 16 + 16 - 1) (by omega) (by omega)] at hown3
            obtain ⟨k0, k1, k2, k3⟩ := A4.four
            go_wp2_with (go_at_call 46; refine (next_any _ _ (by omega) (by omega)).mono ?_; rintro e w' ⟨rfl, rfl⟩)
            refine ⟨⟨f, m + 1, d2 ++ [x, y, min x1 (nxt x - 1), min y1 (nxt y - 1)], nxt x, rfl, by unfold nxt; omega, by unfold nxt; omega, by unfold nxt; omega, by omega, ?_, by rw [List.map_append]; exact hown3, hbV.trans hb3⟩, by simp [intOf]; omega⟩
            refine hide ?_
            rw [← hd2.out, rowL, if_pos hx, List.append_assoc]
            rfl
        · have e1 := hd2.out
          rw [rowL_end _ _ _ _ _ (by omega), List.append_nil] at e1
          have e2 := hide e1
          clear e1 hd2
          go_wp2_with (go_at_call 46; refine (next_any _ _ (by omega) (by omega)).mono ?_; rintro e w' ⟨rfl, rfl⟩)
          refine ⟨⟨g, m, d2, nxt y, rfl, by unfold nxt; omega, by unfold nxt; omega, by unfold nxt; omega, by omega, ?_, hown2, hbv⟩, by simp [intOf]; omega⟩
          refine hide ?_
          rw [← hd.out, pieL, if_pos hy, e2.out, List.append_assoc]
    · have e1 := hd.out
      rw [pieL_end _ _ _ _ _ (by omega), List.append_nil] at e1
      subst e1
      go_wp2
      go_ret
      refine ⟨_, n, rfl, own_mono hown (Nat.le_of_lt hlt), hB.trans (hbr.mono (Nat.le_of_lt hlt))⟩
theorem pie_ex : pieL 14 17 3 1024 3 = [14, 3, 15, 3, 16, 3, 17, 3] := by rfl
end Go.Proofs.Ytagahpfinaaemaa
