/- Contracts of rect.Nth and rect.Rank. -/
import Derived.Test.YtagahpfinaaemaaRG
import Derived.Deep.RegionHeld3
namespace Go.Proofs.Ytagahpfinaaemaa
open Go.RowKit Go.Lib

theorem width_d (x0 y0 x1 y1 d : Int) (w : World) (hd : Hid (x1 - x0 + 1 = d)) (h0 : 0 ≤ x0) (h1 : x0 ≤ 1024) (h2 : 0 ≤ x1) (h3 : x1 ≤ 1024) : Calls Try.prog 44 #[.agg #[.int .i64 x0, .int .i64 y0, .int .i64 x1, .int .i64 y1]] w fun e w' => e = .returned (.int .i64 d) ∧ Below w.heap.size w w' := by
  have := width_any x0 y0 x1 y1 w h0 h1 h2 h3
  rw [hd.out] at this
  exact this

set_option maxRecDepth 100000 in
set_option maxHeartbeats 1000000 in
theorem nth_yes (x0 y0 x1 y1 i d q r m : Int) (w : World) (h : okP x0 y0 x1 y1) (hd : Hid (x1 - x0 + 1 = d)) (hm : Hid (areaI x0 y0 x1 y1 = m)) (hi0 : 0 ≤ i) (hi1 : i < m) (him : m ≤ 1048576) (hd1 : 1 ≤ d) (hd2 : d ≤ 1024) (hq0 : 0 ≤ q) (hq1 : q ≤ 1023) (hr0 : 0 ≤ r) (hr1 : r ≤ 1023) (hq : Hid (i / d = q)) (hr : Hid (i % d = r)) :
    Calls Try.prog 29 #[.agg #[.int .i64 x0, .int .i64 y0, .int .i64 x1, .int .i64 y1], .int .i64 i] w fun e w' => e = .returned (.tuple #[.agg #[.int .i64 (x0 + r), .int .i64 (y0 + q)], .bool true]) ∧ Below w.heap.size w w' := by
  have hk := hide h
  unfold okP at h
  have e1 : i.tmod d = r := by rw [Int.tmod_eq_emod_of_nonneg hi0]; exact hr.out
  have e2 : i.tdiv d = q := by rw [Int.tdiv_eq_ediv_of_nonneg hi0]; exact hq.out
  have e3 : (d == 0) = false := by rw [beq_eq_false_iff_ne]; omega
  have H1 := hide e1
  have H2 := hide e2
  clear e1 e2
  go_enter Try.func29, Try.ntmps29
  go_wp2_with fail
  refine (area_any _ _ _ _ _).mono ?_
  rintro e w1 ⟨rfl, hb⟩
  rw [hm.out]
  have A1 : At w1 w.heap.size [.int .i64 x0, .int .i64 y0, .int .i64 x1, .int .i64 y1] := At.below (At.alloc At.new _) hb
  have A2 : At w1 (w.heap.size + 1) [.int .i64 0, .int .i64 0] := At.below (At.new_ (by simp)) hb
  have hB := bal (bal hb)
  clear hb
  go_wp2_with fail
  have hBd := hB.drew
  have A1d := A1.drew
  have A2d := A2.drew
  obtain ⟨c0, c1, c2, c3⟩ := A1d.four
  clear A1 A2 hB
  have e1 := H1.out
  have e2 := H2.out
  have e4 : ¬ d = 0 := by omega
  have n0 := cellD_eq A2d.two.1
  have n1 := cellD_eq A2d.two.2
  obtain ⟨f0, f1, _⟩ := A2d.fr2
  clear A1d A2d
  go_region_held3 (fun w' => w'.cell? ⟨w.heap.size, 0, none⟩ = some (.int .i64 x0) ∧ w'.cell? ⟨w.heap.size, 1, none⟩ = some (.int .i64 y0) ∧ w'.cell? ⟨w.heap.size, 2, none⟩ = some (.int .i64 x1) ∧ w'.cell? ⟨w.heap.size, 3, none⟩ = some (.int .i64 y1) ∧ w'.cell? ⟨w.heap.size + 1, 0, none⟩ = some (cellD w' ⟨w.heap.size + 1, 0, none⟩) ∧ w'.cell? ⟨w.heap.size + 1, 1, none⟩ = some (cellD w' ⟨w.heap.size + 1, 1, none⟩) ∧ w'.frozen? ⟨w.heap.size + 1, 0, none⟩ = false ∧ w'.frozen? ⟨w.heap.size + 1, 1, none⟩ = false ∧ Below w.heap.size w w')
    (first
    | exact ⟨c0, c1, c2, c3, n0, n1, f0, f1, hBd⟩
    | (go_split_ands; refine ⟨kc hbq ?_, kc hbq ?_, kc hbq ?_, kc hbq ?_, kcd hbq ?_, kcd hbq ?_, kfz hbq (by assumption) ?_, kfz hbq (by assumption) ?_, bchain ?_ hbq⟩ <;> assumption)
    | (go_split_ands; refine ⟨?_, ?_, ?_, ?_, ksd (ksd ?_), ksd (ksd ?_), ?_, ?_, Below.setCell (Below.setCell ?_ (by simp) _) (by simp) _⟩ <;> first | assumption | (simp only [World.frozen?_setCell]; assumption) | (rw [World.cell?_setCell_far _ _ _ _ (by simp), World.cell?_setCell_far _ _ _ _ (by simp)]; assumption)))
    (first
    | (go_at_call 44; refine (width_d _ _ _ _ d _ hd (by omega) (by omega) (by omega) (by omega)).mono ?_; rintro e wq ⟨rfl, hbq⟩))
  rename_i hh
  obtain ⟨-, -, -, -, m0, m1, g0, g1, hBf⟩ := hh
  obtain ⟨u0, u1⟩ := set_two m0 m1
  rw [u0] at m0
  rw [u1] at m1
  clear u0 u1
  rw [w64 (x0 + r) (by omega) (by omega), w64 q (by omega) (by omega), w64 (y0 + q) (by omega) (by omega)] at *
  obtain ⟨V, hV⟩ : ∃ V, V = ((wq.setCell ⟨w.heap.size + 1, 0, none⟩ (.int .i64 (x0 + r))).setCell ⟨w.heap.size + 1, 1, none⟩ (.int .i64 (y0 + q))) := ⟨_, rfl⟩
  rw [← hV] at m0 m1 g0 g1 hBf ⊢
  clear hV
  have hlt : w.heap.size + 1 < V.heap.size := World.block_lt_of_cell? V _ m0
  go_wp2
  exact bodyPost_ret (v := .tuple #[.agg #[.int .i64 (x0 + r), .int .i64 (y0 + q)], .bool true]) (by simp [results, Try.results29, go_sem, m0, m1, g0, g1, hlt]) rfl ⟨rfl, hBf⟩

theorem nth_no (x0 y0 x1 y1 i m : Int) (w : World) (hm : Hid (areaI x0 y0 x1 y1 = m)) (h : i < 0 ∨ m ≤ i) :
    Calls Try.prog 29 #[.agg #[.int .i64 x0, .int .i64 y0, .int .i64 x1, .int .i64 y1], .int .i64 i] w fun e w' => e = .returned (.tuple #[.agg #[.int .i64 0, .int .i64 0], .bool false]) ∧ Below w.heap.size w w' := by
  by_cases hi : i < 0
  · clear h
    go_enter Try.func29, Try.ntmps29
    go_wp2_with fail
    exact bodyPost_ret (v := .tuple #[.agg #[.int .i64 0, .int .i64 0], .bool false]) (by simp [results, Try.results29, go_sem]) rfl ⟨rfl, by repeat first | exact Below.refl _ _ | refine below_put ?_ | refine Below.setCell ?_ (by go_size) _⟩
  · have h1 : m ≤ i := by omega
    clear h
    go_enter Try.func29, Try.ntmps29
    go_wp2_with fail
    refine (area_any _ _ _ _ _).mono ?_
    rintro e w1 ⟨rfl, hb⟩
    rw [hm.out]
    have A2 : At w1 (w.heap.size + 1) [.int .i64 0, .int .i64 0] := At.below (At.new_ (by simp)) hb
    have hB := bal (bal hb)
    clear hb
    obtain ⟨m0, m1⟩ := A2.two
    obtain ⟨g0, g1, hlt⟩ := A2.fr2
    go_wp2
    exact bodyPost_ret (v := .tuple #[.agg #[.int .i64 0, .int .i64 0], .bool false]) (by simp [results, Try.results29, go_sem, m0, m1, g0, g1, hlt]) rfl ⟨rfl, by repeat first | exact hB | refine below_put ?_ | refine Below.setCell ?_ (by go_size) _⟩

theorem rank_no (x0 y0 x1 y1 x y : Int) (w : World) (h : ¬ hasP x0 y0 x1 y1 x y) :
    Calls Try.prog 30 #[.agg #[.int .i64 x0, .int .i64 y0, .int .i64 x1, .int .i64 y1], .agg #[.int .i64 x, .int .i64 y]] w fun e w' => e = .returned (.tuple #[.int .i64 0, .bool false]) ∧ Below w.heap.size w w' := by
  go_enter Try.func30, Try.ntmps30
  go_wp2_with fail
  refine (has_any _ _ _ _ _ _ _).mono ?_
  rintro e w1 ⟨rfl, hb⟩
  rw [decide_eq_false h]
  go_wp2
  go_ret2
  exact ⟨rfl, bal (bal hb)⟩

set_option maxRecDepth 100000 in
set_option maxHeartbeats 1000000 in
theorem rank_yes (x0 y0 x1 y1 x y d n : Int) (w : World) (h : hasP x0 y0 x1 y1 x y) (hd : Hid (x1 - x0 + 1 = d)) (hd1 : 1 ≤ d) (hd2 : d ≤ 1024) (hn : Hid ((y - y0) * d + x - x0 = n)) (hp0 : 0 ≤ (y - y0) * d) (hp1 : (y - y0) * d ≤ 1048576) :
    Calls Try.prog 30 #[.agg #[.int .i64 x0, .int .i64 y0, .int .i64 x1, .int .i64 y1], .agg #[.int .i64 x, .int .i64 y]] w fun e w' => e = .returned (.tuple #[.int .i64 n, .bool true]) ∧ Below w.heap.size w w' := by
  have hk := hide h
  unfold hasP okP at h
  go_enter Try.func30, Try.ntmps30
  go_wp2_with fail
  refine (has_any _ _ _ _ _ _ _).mono ?_
  rintro e w1 ⟨rfl, hb⟩
  rw [decide_eq_true hk.out]
  have A1 : At w1 w.heap.size [.int .i64 x0, .int .i64 y0, .int .i64 x1, .int .i64 y1] := At.below (At.alloc At.new _) hb
  have A2 : At w1 (w.heap.size + 1) [.int .i64 x, .int .i64 y] := At.below (At.new_ (by simp)) hb
  have hB := bal (bal hb)
  clear hb
  go_wp2_with fail
  have hBd := hB.drew
  have A1d := A1.drew
  have A2d := A2.drew
  obtain ⟨c0, c1, c2, c3⟩ := A1d.four
  obtain ⟨n0, n1⟩ := A2d.two
  clear A1 A2 hB A1d A2d
  go_region_held3 (fun w' => w'.cell? ⟨w.heap.size, 0, none⟩ = some (.int .i64 x0) ∧ w'.cell? ⟨w.heap.size, 1, none⟩ = some (.int .i64 y0) ∧ w'.cell? ⟨w.heap.size, 2, none⟩ = some (.int .i64 x1) ∧ w'.cell? ⟨w.heap.size, 3, none⟩ = some (.int .i64 y1) ∧ w'.cell? ⟨w.heap.size + 1, 0, none⟩ = some (.int .i64 x) ∧ w'.cell? ⟨w.heap.size + 1, 1, none⟩ = some (.int .i64 y) ∧ Below w.heap.size w w')
    (first
    | exact ⟨c0, c1, c2, c3, n0, n1, hBd⟩
    | (go_split_ands; refine ⟨kc hbq ?_, kc hbq ?_, kc hbq ?_, kc hbq ?_, kc hbq ?_, kc hbq ?_, bchain ?_ hbq⟩ <;> assumption))
    (first
    | (go_at_call 44; refine (width_d _ _ _ _ d _ hd (by omega) (by omega) (by omega) (by omega)).mono ?_; rintro e wq ⟨rfl, hbq⟩))
  all_goals
    rename_i hh
    obtain ⟨-, -, -, -, -, -, hBf⟩ := hh
    go_wp2
    go_ret2
    refine ⟨?_, hBf⟩
    have q1 := w64 (y - y0) (by omega) (by omega)
    have q2 := w64 ((y - y0) * d) (by omega) (by omega)
    have q3 := w64 ((y - y0) * d + x) (by omega) (by omega)
    have q4 := w64 ((y - y0) * d + x - x0) (by omega) (by omega)
    rw [← hn.out]
    simp only [q1, q2, q3, q4]
    rfl
end Go.Proofs.Ytagahpfinaaemaa
