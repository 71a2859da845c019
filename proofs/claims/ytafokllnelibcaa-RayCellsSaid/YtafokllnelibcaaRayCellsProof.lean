/- Proves the law RayCells: for every input that can be read it returns true, and the input reads as it did. No conditions. -/
import Derived.Test.YtafokllnelibcaaRows
import Derived.Test.YtafokllnelibcaaYH
import Derived.WalkKit
import Derived.ProofKit
import Derived.OpenShut
import Derived.ShutString
import Derived.ChangeOld
import Derived.Below
import Derived.Lib.SmallJoins
namespace Go.Proofs.Ytafokllnelibcaa.rayCells
open Go.ChangeShapes Go.WideShapes Go.ChangeAt Go.RowKit Go.Joins
open Go.ChangeMaps (open_string shut_string)
set_option linter.unusedVariables false

theorem own : ownKnob Try.prog.godebug = none := by kernel_rfl
theorem cells37 : Try.prog.cellsOf 37 = 2 := by kernel_rfl

set_option maxRecDepth 100000 in
set_option maxHeartbeats 4000000 in
theorem walk (w : World) (a0_0 : Int) (w0_0 : (Lit.int .i64 a0_0).wf = true) (a0_1 : Int) (w0_1 : (Lit.int .i64 a0_1).wf = true) (a1_0 : Int) (w1_0 : (Lit.int .i64 a1_0).wf = true) (a1_1 : Int) (w1_1 : (Lit.int .i64 a1_1).wf = true) (a2 : Int) (w2 : (Lit.int .i64 a2).wf = true) :
    Calls Try.prog 7 #[.agg #[.int .i64 a0_0, .int .i64 a0_1], .agg #[.int .i64 a1_0, .int .i64 a1_1], .int .i64 a2] w fun e w' => e = .returned (.bool true) ∧ Below w.heap.size w w' := by
  by_cases hab : canP a0_0 a0_1 ∧ canP a1_0 a1_1
  · obtain ⟨ha, hb⟩ := hab
    obtain ⟨q1, q2, q3⟩ := rL_rng _ _ _ _ ha hb
    obtain ⟨N, hN⟩ : ∃ N : Nat, (N : Int) = rL a0_0 a0_1 a1_0 a1_1 := ⟨_, Int.toNat_of_nonneg (by omega)⟩
    have hNb : N ≤ 1023 := by omega
    obtain ⟨X, hX⟩ : ∃ X : Nat → Int, ∀ i : Nat, X i = rX a0_0 a0_1 a1_0 a1_1 i := ⟨_, fun _ => rfl⟩
    obtain ⟨Y, hY⟩ : ∃ Y : Nat → Int, ∀ i : Nat, Y i = rY a0_0 a0_1 a1_0 a1_1 i := ⟨_, fun _ => rfl⟩
    have HL : Hid (∀ w, Calls Try.prog 25 #[.agg #[.int .i64 a0_0, .int .i64 a0_1], .agg #[.int .i64 a1_0, .int .i64 a1_1]] w fun e w' => e = .returned (.tuple #[.int .i64 N, .int .i64 0]) ∧ Below w.heap.size w w') := hide fun w => len_yes _ _ _ _ N w ha hb hN
    have HW : Hid (RowC a0_0 a0_1 a1_0 a1_1 N X Y) := by
      have := rowC_of a0_0 a0_1 a1_0 a1_1 N ha hb hN
      rw [show (fun i : Nat => rX a0_0 a0_1 a1_0 a1_1 i) = X from funext fun i => (hX i).symm, show (fun i : Nat => rY a0_0 a0_1 a1_0 a1_1 i) = Y from funext fun i => (hY i).symm] at this
      exact this
    have HRW : Hid (∀ w, Calls Try.prog 31 #[.agg #[.int .i64 a0_0, .int .i64 a0_1], .agg #[.int .i64 a1_0, .int .i64 a1_1]] w fun e w' => OwnedRow w X Y (N + 1) e w') := hide fun w =>
      rrow_any _ _ _ _ N X Y w ha hb hNb (hide hN) (hide fun i _ => ⟨hX i, hY i⟩)
    have HRL : Hid (∀ w, Calls Try.prog 29 #[.agg #[.int .i64 a0_0, .int .i64 a0_1], .agg #[.int .i64 a1_0, .int .i64 a1_1]] w fun e w' => e = .returned (.int .i64 N) ∧ Below w.heap.size w w') := hide fun w => by
      rw [hN, ← rlen_L]
      exact rlen_any _ _ _ _ w ha hb
    have hU : ∃ u v c : Int, Hid (∀ w, Calls Try.prog 26 #[.agg #[.int .i64 a0_0, .int .i64 a0_1], .agg #[.int .i64 a1_0, .int .i64 a1_1], .int .i64 a2] w fun e w' => e = .returned (.tuple #[.agg #[.int .i64 u, .int .i64 v], .int .i64 c]) ∧ Below w.heap.size w w') ∧
        ((a2 < 0 ∨ (0 ≤ a2 ∧ (N : Int) < a2)) ∧ u = 0 ∧ v = 0 ∧ c = 11 ∨ ∃ k : Nat, a2 = k ∧ k ≤ N ∧ (k : Int) ≤ N ∧ (k : Int) < (N : Int) + 1 ∧ u = X k ∧ v = Y k ∧ c = 0) := by
      by_cases hi : 0 ≤ a2 ∧ a2 ≤ N
      · obtain ⟨k, hk⟩ : ∃ k : Nat, a2 = k := ⟨a2.toNat, by omega⟩
        refine ⟨_, _, _, hide fun w => rayat_yes _ _ _ _ a2 N _ _ 0 w ha hb hN (.inr ⟨hi.1, hi.2, rfl, rfl, rfl⟩), .inr ⟨k, hk, by omega, by omega, by omega, ?_, ?_, rfl⟩⟩
        · rw [hX, hk]
        · rw [hY, hk]
      · exact ⟨0, 0, 11, hide fun w => rayat_yes _ _ _ _ a2 N 0 0 11 w ha hb hN (.inl ⟨by omega, rfl, rfl, rfl⟩), .inl ⟨by omega, rfl, rfl, rfl⟩⟩
    obtain ⟨u, v, c, HU, hU⟩ := hU
    have Ha := hide ha
    have Hb := hide hb
    clear hX hY hN q1 q2 q3 ha hb
    have n1 : ((N : Int) + 1 == 0) = false := by rw [beq_eq_false_iff_ne]; omega
    rcases hU with ⟨hi | ⟨hi, hi2⟩, rfl, rfl, rfl⟩ | ⟨k, rfl, hk, hk2, hk3, rfl, rfl, rfl⟩
    all_goals
      go_enter Try.func7, Try.ntmps7
      go_wp2_with fail
      refine (awake23_ok _).mono ?_
      rintro e w1 ⟨rfl, hb1⟩
      have A1 : At w1 w.heap.size [.int .i64 a0_0, .int .i64 a0_1] := At.below (At.alloc At.new _) hb1
      have A2 : At w1 (w.heap.size + 1) [.int .i64 a1_0, .int .i64 a1_1] := At.below (At.new_ (by simp)) hb1
      have hB := bal (bal hb1)
      clear hb1
      obtain ⟨c0, c1⟩ := A1.two
      obtain ⟨d0, d1⟩ := A2.two
      go_wp2_with fail
      refine (HL.out _).mono ?_
      rintro e w2 ⟨rfl, hb1⟩
      have A1 := A1.below hb1
      have A2 := A2.below hb1
      have hB := bchain hB hb1
      clear hb1 c0 c1 d0 d1
      obtain ⟨c0, c1⟩ := A1.two
      obtain ⟨d0, d1⟩ := A2.two
      go_wp2_with fail
      refine (HU.out _).mono ?_
      rintro e w3 ⟨rfl, hb1⟩
      have A1 := A1.below hb1
      have A2 := A2.below hb1
      have hB := bchain hB hb1
      clear hb1 c0 c1 d0 d1
      obtain ⟨c0, c1⟩ := A1.two
      obtain ⟨d0, d1⟩ := A2.two
      have l1 := A1.1
      have l2 := A2.1
      go_wp2_with fail
      refine (HW.out _).mono ?_
      rintro e w4 ⟨v, rfl, hown, hb1⟩
      obtain ⟨A, cp, rfl, hc1, hc2, hr⟩ := Row2.of_own hown
      have A1 := (A1.alloc _).below hb1
      have A2 := (A2.alloc _).below hb1
      have A3 := At.below At.new hb1
      have hB := bchain (below_put hB) hb1
      clear hown hb1 c0 c1 d0 d1 l1 l2
      obtain ⟨c0, c1⟩ := A1.two
      obtain ⟨d0, d1⟩ := A2.two
      have l1 := A1.1
      have l2 := A2.1
      go_wp2_with fail
      refine (rcan_any _ _ _).mono ?_
      rintro e w5 ⟨rfl, hb1⟩
      rw [decide_eq_true Ha.out]
      have K := Ray4.mk ((A1.alloc _).below hb1) ((A2.alloc _).below hb1) ((A3.alloc _).below hb1) (At.below At.new hb1) ((hr.below below_at).below hb1) (bchain (below_put hB) hb1)
      clear hr A1 A2 A3 hB hb1 c0 c1 d0 d1 l1 l2
      obtain ⟨c0, c1, c2, c3, c4, c5, c6, c7, l0, l1, l2, l3⟩ := K.cells
      go_wp2_with fail
      refine (rcan_any _ _ _).mono ?_
      rintro e w6 ⟨rfl, hb1⟩
      rw [decide_eq_true Hb.out]
      have K := K.below hb1
      clear hb1 c0 c1 c2 c3 c4 c5 c6 c7 l0 l1 l2 l3
      obtain ⟨c0, c1, c2, c3, c4, c5, c6, c7, l0, l1, l2, l3⟩ := K.cells
      go_wp2_with fail
      refine (HRL.out _).mono ?_
      rintro e w7 ⟨rfl, hb1⟩
      have K := K.below hb1
      clear hb1 c0 c1 c2 c3 c4 c5 c6 c7 l0 l1 l2 l3
      obtain ⟨c0, c1, c2, c3, c4, c5, c6, c7, l0, l1, l2, l3⟩ := K.cells
      go_wp2_with fail
      refine (HRW.out _).mono ?_
      rintro e w8 ⟨v2, rfl, hown, hb1⟩
      obtain ⟨A', cp', rfl, hc3, hc4, hr'⟩ := Row2.of_own hown
      have K := K.below hb1
      clear hown hb1 c0 c1 c2 c3 c4 c5 c6 c7 l0 l1 l2 l3
      go_wp2_with fail
      refine (sameCells_any A A' (N + 1) cp cp' X Y X Y _ K.r hr' (hide fun _ _ => ⟨rfl, rfl⟩) (by omega)).mono ?_
      rintro e w9 ⟨rfl, m, rfl⟩
      have K := K.drewN m
      clear hr'
      generalize w8.drewN m = w9 at *
      obtain ⟨c0, c1, c2, c3, c4, c5, c6, c7, l0, l1, l2, l3⟩ := K.cells
      first
      | (obtain ⟨g, rfl, _, kc'⟩ := K.r.resolve_left (by omega)
         obtain ⟨p0, p1⟩ := kc' k (by omega)
         have p2 : (0 : Int) ≤ (k : Int) := by omega
         have KC := hide kc'
         clear kc'
         go_wp2_with fail
         go_quiet (fail)
         go_wp2
         go_ret
         exact ⟨rfl, below_drewN K.e _⟩)
      | (go_wp2
         go_ret
         exact ⟨rfl, K.e⟩)
  · go_enter Try.func7, Try.ntmps7
    go_wp2_with fail
    refine (awake23_ok _).mono ?_
    rintro e w1 ⟨rfl, hb1⟩
    have A1 : At w1 w.heap.size [.int .i64 a0_0, .int .i64 a0_1] := At.below (At.alloc At.new _) hb1
    have A2 : At w1 (w.heap.size + 1) [.int .i64 a1_0, .int .i64 a1_1] := At.below (At.new_ (by simp)) hb1
    have hB := bal (bal hb1)
    clear hb1
    obtain ⟨c0, c1⟩ := A1.two
    obtain ⟨d0, d1⟩ := A2.two
    go_wp2_with fail
    refine (len_no _ _ _ _ _ hab).mono ?_
    rintro e w2 ⟨rfl, hb1⟩
    have A1 := A1.below hb1
    have A2 := A2.below hb1
    have hB := bchain hB hb1
    clear hb1 c0 c1 d0 d1
    obtain ⟨c0, c1⟩ := A1.two
    obtain ⟨d0, d1⟩ := A2.two
    go_wp2_with fail
    refine (rayat_no _ _ _ _ _ _ hab).mono ?_
    rintro e w3 ⟨rfl, hb1⟩
    have A1 := A1.below hb1
    have A2 := A2.below hb1
    have hB := bchain hB hb1
    clear hb1 c0 c1 d0 d1
    obtain ⟨c0, c1⟩ := A1.two
    obtain ⟨d0, d1⟩ := A2.two
    have l1 := A1.1
    have l2 := A2.1
    go_wp2_with fail
    refine (row_no _ _ _ _ _ hab).mono ?_
    rintro e w4 ⟨rfl, hb1⟩
    have A1 := (A1.alloc _).below hb1
    have A2 := (A2.alloc _).below hb1
    have A3 := At.below At.new hb1
    have hB := bchain (below_put hB) hb1
    clear hb1 c0 c1 d0 d1 l1 l2
    obtain ⟨c0, c1⟩ := A1.two
    obtain ⟨d0, d1⟩ := A2.two
    have l1 := A1.1
    have l2 := A2.1
    by_cases ha : canP a0_0 a0_1
    · have hb' : ¬ canP a1_0 a1_1 := fun h => hab ⟨ha, h⟩
      have Ha := hide ha
      have Hb := hide hb'
      clear ha hb' hab
      go_wp2_with fail
      refine (rcan_any _ _ _).mono ?_
      rintro e w5 ⟨rfl, hb1⟩
      rw [decide_eq_true Ha.out]
      have K := Ray4.mk (n := 0) (X := fun _ => 0) (Y := fun _ => 0) (A := none) ((A1.alloc _).below hb1) ((A2.alloc _).below hb1) ((A3.alloc _).below hb1) (At.below At.new hb1) (.inl rfl) (bchain (below_put hB) hb1)
      clear A1 A2 A3 hB hb1 c0 c1 d0 d1 l1 l2
      obtain ⟨c0, c1, c2, c3, c4, c5, c6, c7, l0, l1, l2, l3⟩ := K.cells
      go_wp2_with fail
      refine (rcan_any _ _ _).mono ?_
      rintro e w6 ⟨rfl, hb1⟩
      rw [decide_eq_false Hb.out]
      have K := K.below hb1
      clear hb1 c0 c1 c2 c3 c4 c5 c6 c7 l0 l1 l2 l3
      obtain ⟨c0, c1, c2, c3, c4, c5, c6, c7, l0, l1, l2, l3⟩ := K.cells
      go_wp2
      go_ret
      exact ⟨rfl, K.e⟩
    · have Ha := hide ha
      clear ha hab
      go_wp2_with fail
      refine (rcan_any _ _ _).mono ?_
      rintro e w5 ⟨rfl, hb1⟩
      rw [decide_eq_false Ha.out]
      have K := Ray4.mk (n := 0) (X := fun _ => 0) (Y := fun _ => 0) (A := none) ((A1.alloc _).below hb1) ((A2.alloc _).below hb1) ((A3.alloc _).below hb1) (At.below At.new hb1) (.inl rfl) (bchain (below_put hB) hb1)
      clear A1 A2 A3 hB hb1 c0 c1 d0 d1 l1 l2
      obtain ⟨c0, c1, c2, c3, c4, c5, c6, c7, l0, l1, l2, l3⟩ := K.cells
      go_wp2
      go_ret
      exact ⟨rfl, K.e⟩

set_option maxRecDepth 100000 in
theorem lifted (os : Os) (started : os.Started) (H : Type) (enc : TypeId × Value → H) :
    ReturnsInHanded {} Try.checked os 7 .any (Rows.rayCellsSpec.pre6 enc Try.prog Try.f7 Rows.rayCellsRow.domain false) (Rows.rayCellsSpec.post enc Try.prog Try.f7 false true false false) := by
  refine returnsInHanded_of_change (C := Try.checked) own started (by kernel_rfl) Try.func7
    (ChangeSpec.witness6 (enc := enc) (C := Try.checked) false ⟨#[], #[.agg #[.int .i64 0, .int .i64 0], .agg #[.int .i64 0, .int .i64 0], .int .i64 0], []⟩ 8 (by kernel_rfl) (by kernel_rfl) (by kernel_rfl) (by kernel_rfl)) ?_
  intro W base args ds gs before hval0 hW hcnd _
  have hval : ∀ (j : Nat) t v, Try.f7.params[j]? = some t → args[j]? = some v → Value.okWide Try.prog W .any base t v := hval0
  have hW' := hW
  obtain ⟨p, q, hA0, hV, rfl, hfz, hnd⟩ := hW
  have hA : DataW.TrodAll enc Try.prog W 0 (fun _ => true) true Try.f7.params.toList args.toList ds p := hA0
  rw [Try.params7] at hA hval
  obtain ⟨v0, vs0, d0, ds0, p0, q0, hargs, rfl, rfl, h0, r0⟩ := trodAll_cons hA
  obtain ⟨v1, vs1, d1, ds1, p1, q1, rfl, rfl, rfl, h1, r1⟩ := trodAll_cons r0
  obtain ⟨v2, vs2, d2, ds2, p2, q2, rfl, rfl, rfl, h2, r2⟩ := trodAll_cons r1
  obtain ⟨rfl, rfl, rfl⟩ := trodAll_nil r2
  obtain rfl : args = #[v0, v1, v2] := by cases args; simp_all
  obtain ⟨rfl, rfl⟩ := trodVars_none hV
  obtain ⟨c0_0, c0_1, y0_0, y0_1, m0, rfl, rfl, rfl, hy0_0, hy0_1⟩ := open_agg2 Try.underlying37 (by kernel_rfl) cells37 (hval 0 37 v0 rfl rfl) h0
  obtain ⟨a0_0, e0_0, rfl, w0_0⟩ := DataW.trod_int Try.underlying2 hy0_0
  obtain ⟨a0_1, e0_1, rfl, w0_1⟩ := DataW.trod_int Try.underlying2 hy0_1
  simp at e0_0 e0_1
  subst e0_0 e0_1
  have sr0 : ∀ (W' : World) (sp : Nat → Bool), DataW.Trod enc Try.prog W' 0 sp true 37 (.agg #[.int .i64 a0_0, .int .i64 a0_1]) (.agg [.lit (.int .i64 a0_0), .lit (.int .i64 a0_1)]) [] := fun W' sp =>
    shut_agg2 (y0 := (.lit (.int .i64 a0_0), [])) (y1 := (.lit (.int .i64 a0_1), [])) Try.underlying37 (by kernel_rfl) cells37 ⟨1, by simp [DataW.trod, Try.underlying2, w0_0]⟩ ⟨1, by simp [DataW.trod, Try.underlying2, w0_1]⟩
  obtain ⟨c1_0, c1_1, y1_0, y1_1, m1, rfl, rfl, rfl, hy1_0, hy1_1⟩ := open_agg2 Try.underlying37 (by kernel_rfl) cells37 (hval 1 37 v1 rfl rfl) h1
  obtain ⟨a1_0, e1_0, rfl, w1_0⟩ := DataW.trod_int Try.underlying2 hy1_0
  obtain ⟨a1_1, e1_1, rfl, w1_1⟩ := DataW.trod_int Try.underlying2 hy1_1
  simp at e1_0 e1_1
  subst e1_0 e1_1
  have sr1 : ∀ (W' : World) (sp : Nat → Bool), DataW.Trod enc Try.prog W' 0 sp true 37 (.agg #[.int .i64 a1_0, .int .i64 a1_1]) (.agg [.lit (.int .i64 a1_0), .lit (.int .i64 a1_1)]) [] := fun W' sp =>
    shut_agg2 (y0 := (.lit (.int .i64 a1_0), [])) (y1 := (.lit (.int .i64 a1_1), [])) Try.underlying37 (by kernel_rfl) cells37 ⟨1, by simp [DataW.trod, Try.underlying2, w1_0]⟩ ⟨1, by simp [DataW.trod, Try.underlying2, w1_1]⟩
  obtain ⟨a2, rfl, rfl, rfl, w2⟩ := open_int Try.underlying2 (hval 2 2 v2 rfl rfl) h2
  clear hA0 hval0
  simp only [List.append_nil] at hW'
  refine (walk W a0_0 w0_0 a0_1 w0_1 a1_0 w1_0 a1_1 w1_1 a2 w2).mono fun e W' ⟨he, bel⟩ => ?_
  subst he
  exact ⟨_, rfl, _, _, _, [], _, [], hW', trodAll_mk1 (shut_bool Try.underlying4 _), (trodAll_cons_mk (sr0 _ _) (trodAll_cons_mk (sr1 _ _) (trodAll_cons_mk (shut_int Try.underlying2 w2) trodAll_mk0))), rfl, bel.frame _, fun h => by cases h⟩

theorem over : Rows.rayCellsRow.holds Try.pinned (OpenSpec.ofChange Rows.rayCellsSpec) :=
  OpenClaim.holds_of_wide 7 Try.f7 rfl rfl rfl rfl rfl rfl rfl ⟨rfl, rfl, rfl, rfl, rfl⟩ rfl rfl rfl rfl rfl (by kernel_rfl) Try.func7 (by kernel_rfl)
    (of_decide_eq_true (by kernel_rfl)) (by unfold Func.isWrapper; first | (rw [if_pos (by decide +kernel)]; kernel_rfl) | (rw [if_neg (by decide +kernel)]; exact ⟨rfl, rfl⟩))
    (fun os started H enc _ => lifted os started H enc)

theorem proved : Rows.RayCellsSaid := over
#print axioms proved
end Go.Proofs.Ytafokllnelibcaa.rayCells
