/- Proves the law RayTurns: for every input that can be read it returns true, and the input reads as it did. No conditions. -/
import Derived.Test.YtafokllnelibcaaRows
import Derived.Test.YtafokllnelibcaaYE
import Derived.WalkKit
import Derived.ProofKit
import Derived.OpenShut
import Derived.ShutString
import Derived.ChangeOld
import Derived.Below
import Derived.Lib.SmallJoins
namespace Go.Proofs.Ytafokllnelibcaa.rayTurns
open Go.ChangeShapes Go.WideShapes Go.ChangeAt Go.RowKit Go.Joins
open Go.ChangeMaps (open_string shut_string)
set_option linter.unusedVariables false

theorem own : ownKnob Try.prog.godebug = none := by kernel_rfl
theorem cells37 : Try.prog.cellsOf 37 = 2 := by kernel_rfl

set_option maxRecDepth 100000 in
set_option maxHeartbeats 4000000 in
theorem walk (w : World) (a0_0 : Int) (w0_0 : (Lit.int .i64 a0_0).wf = true) (a0_1 : Int) (w0_1 : (Lit.int .i64 a0_1).wf = true) (a1_0 : Int) (w1_0 : (Lit.int .i64 a1_0).wf = true) (a1_1 : Int) (w1_1 : (Lit.int .i64 a1_1).wf = true) :
    Calls Try.prog 9 #[.agg #[.int .i64 a0_0, .int .i64 a0_1], .agg #[.int .i64 a1_0, .int .i64 a1_1]] w fun e w' => e = .returned (.bool true) ∧ Below w.heap.size w w' := by
  by_cases hab : canP a0_0 a0_1 ∧ canP a1_0 a1_1
  · obtain ⟨ha, hb⟩ := hab
    obtain ⟨N, X, Y, X1, Y1, X2, Y2, hNb, hr0, hr1, hr2, hat⟩ := row_turns _ _ _ _ ha hb
    have R0 := hide hr0
    have R1 := hide hr1
    have R2 := hide hr2
    have HA := hide hat
    have m1 := w64 (1023 - a0_0) (by unfold canP at ha; omega) (by unfold canP at ha; omega)
    have m2 := w64 (1023 - a1_0) (by unfold canP at hb; omega) (by unfold canP at hb; omega)
    clear ha hb hr0 hr1 hr2 hat
    go_enter Try.func9, Try.ntmps9
    go_wp2_with fail
    refine (awake23_ok _).mono ?_
    rintro e w1 ⟨rfl, hb⟩
    have A1 : At w1 w.heap.size [.int .i64 a0_0, .int .i64 a0_1] := At.below (At.alloc At.new _) hb
    have A2 : At w1 (w.heap.size + 1) [.int .i64 a1_0, .int .i64 a1_1] := At.below (At.new_ (by simp)) hb
    have hB := bal (bal hb)
    clear hb
    obtain ⟨c0, c1⟩ := A1.two
    obtain ⟨d0, d1⟩ := A2.two
    go_wp2_with fail
    refine (R0.out _).mono ?_
    rintro e w2 ⟨v, rfl, hown, hb⟩
    obtain ⟨A, c, rfl, hc1, hc2, hr⟩ := Row2.of_own hown
    have A1 := A1.below hb
    have A2 := A2.below hb
    have hB := bchain hB hb
    clear hown hb c0 c1 d0 d1
    obtain ⟨c0, c1⟩ := A1.two
    obtain ⟨d0, d1⟩ := A2.two
    go_wp2_with fail
    refine (R1.out _).mono ?_
    rintro e w3 ⟨v, rfl, hown, hb⟩
    obtain ⟨B, c', rfl, hc3, hc4, hs⟩ := Row2.of_own hown
    have hr := hr.below hb
    have A1 := A1.below hb
    have A2 := A2.below hb
    have hB := bchain hB hb
    clear hown hb c0 c1 d0 d1
    obtain ⟨c0, c1⟩ := A1.two
    obtain ⟨d0, d1⟩ := A2.two
    go_wp2_with fail
    refine (R2.out _).mono ?_
    rintro e w4 ⟨v, rfl, hown, hb⟩
    obtain ⟨C, c'', rfl, hc5, hc6, ht⟩ := Row2.of_own hown
    have hr := hr.below hb
    have hs := hs.below hb
    have hB := bchain hB hb
    clear hown hb c0 c1 d0 d1 A1 A2 m1 m2
    obtain ⟨g0, rfl, _, k0⟩ := hr.resolve_left (by omega)
    obtain ⟨g1, rfl, _, k1⟩ := hs.resolve_left (by omega)
    obtain ⟨g2, rfl, _, k2⟩ := ht.resolve_left (by omega)
    have K0 := hide k0
    have K1 := hide k1
    have K2 := hide k2
    clear k0 k1 k2 hr hs ht
    go_wp2_with fail
    go_loopw [11] (fun v wr => ∃ k n : Nat, v = .int .i64 k ∧ k ≤ N + 1 ∧ wr = w4.drewN n) (fun v _ => N + 1 - (intOf v).toNat)
    case atStart => exact ⟨0, 0, rfl, by omega, rfl⟩
    case round =>
      obtain ⟨k, n, rfl, hk, rfl⟩ := hrel
      by_cases hlt : k < N + 1
      · obtain ⟨t1, t2, t3, t4, t5⟩ := HA.out k (by omega)
        obtain ⟨p0, p1⟩ := K0.out k hlt
        obtain ⟨p2, p3⟩ := K1.out k hlt
        obtain ⟨p4, p5⟩ := K2.out k hlt
        rw [t2] at p2
        rw [t3] at p3
        rw [t4] at p4
        rw [t5] at p5
        clear t2 t3 t4 t5
        generalize X k = x at *
        generalize Y k = y at *
        unfold canP at t1
        have m1 := w64 (1023 - x) (by omega) (by omega)
        have i1 : (k : Int) < N + 1 := by omega
        go_wp2_with fail
        go_quiet (fail)
        go_wp2_with fail
        go_roundw
        case rel => exact ⟨k + 1, _, by go_num, by omega, rfl⟩
        case measure => simp [intOf]; omega
      · obtain rfl : k = N + 1 := by omega
        go_wp2
        go_ret
        exact ⟨rfl, below_drewN hB _⟩
  · go_enter Try.func9, Try.ntmps9
    go_wp2_with fail
    refine (awake23_ok _).mono ?_
    rintro e w1 ⟨rfl, hb⟩
    have A1 : At w1 w.heap.size [.int .i64 a0_0, .int .i64 a0_1] := At.below (At.alloc At.new _) hb
    have A2 : At w1 (w.heap.size + 1) [.int .i64 a1_0, .int .i64 a1_1] := At.below (At.new_ (by simp)) hb
    have hB := bal (bal hb)
    clear hb
    obtain ⟨c0, c1⟩ := A1.two
    obtain ⟨d0, d1⟩ := A2.two
    go_wp2_with fail
    refine (row_no _ _ _ _ _ hab).mono ?_
    rintro e w2 ⟨rfl, hb⟩
    go_wp2
    go_ret
    exact ⟨rfl, bchain hB hb⟩

set_option maxRecDepth 100000 in
theorem lifted (os : Os) (started : os.Started) (H : Type) (enc : TypeId × Value → H) :
    ReturnsInHanded {} Try.checked os 9 .any (Rows.rayTurnsSpec.pre6 enc Try.prog Try.f9 Rows.rayTurnsRow.domain false) (Rows.rayTurnsSpec.post enc Try.prog Try.f9 false true false false) := by
  refine returnsInHanded_of_change (C := Try.checked) own started (by kernel_rfl) Try.func9
    (ChangeSpec.witness6 (enc := enc) (C := Try.checked) false ⟨#[], #[.agg #[.int .i64 0, .int .i64 0], .agg #[.int .i64 0, .int .i64 0]], []⟩ 8 (by kernel_rfl) (by kernel_rfl) (by kernel_rfl) (by kernel_rfl)) ?_
  intro W base args ds gs before hval0 hW hcnd _
  have hval : ∀ (j : Nat) t v, Try.f9.params[j]? = some t → args[j]? = some v → Value.okWide Try.prog W .any base t v := hval0
  have hW' := hW
  obtain ⟨p, q, hA0, hV, rfl, hfz, hnd⟩ := hW
  have hA : DataW.TrodAll enc Try.prog W 0 (fun _ => true) true Try.f9.params.toList args.toList ds p := hA0
  rw [Try.params9] at hA hval
  obtain ⟨v0, vs0, d0, ds0, p0, q0, hargs, rfl, rfl, h0, r0⟩ := trodAll_cons hA
  obtain ⟨v1, vs1, d1, ds1, p1, q1, rfl, rfl, rfl, h1, r1⟩ := trodAll_cons r0
  obtain ⟨rfl, rfl, rfl⟩ := trodAll_nil r1
  obtain rfl : args = #[v0, v1] := by cases args; simp_all
  obtain ⟨rfl, rfl⟩ := trodVars_none hV
  obtain ⟨c0_0, c0_1, y0_0, y0_1, m0, rfl, rfl, rfl, hy0_0, hy0_1⟩ := open_agg2 Try.underlying37 (by kernel_rfl) cells37 (hval 0 37 v0 rfl rfl) h0
  obtain ⟨a0_0, e0_0, rfl, w0_0⟩ := DataW.trod_int Try.underlying2 hy0_0
  obtain ⟨a0_1, e0_1, rfl, w0_1⟩ := DataW.trod_int Try.underlying2 hy0_1
  simp at e0_0 e0_1
  subst e0_0 e0_1
  have sr0 : ∀ (W' : World) (sp : Nat → Bool), DataW.Trod enc Try.prog W' 0 sp true 37 (.agg #[.int .i64 a0_0, .int .i64 a0_1]) (.agg [.lit (.int .i64 a0_0), .lit (.int .i64 a0_1)]) [] := fun W' sp =>
    shut_agg2 (y0 := (.lit (.int .i64 a0_0), [])) (y1 := (.lit (.int .i64 a0_1), [])) Try.underlying37 (by kernel_rfl) cells37 ⟨1, by simp [DataW.trod, Try.underlying2, w0_0]⟩ ⟨1, by simp [DataW.trod, Try.underlying2, w0_1]⟩
  obtain ⟨c1_0, c1_1, y1_0, y1_1, m1, rfl, rfl, rfl, hy1_0, hy1_1⟩ := open_agg2 Try.underlying37 (by kernel_rfl) cells37 (hval 1 37 v1 rfl rfl) h1
  obtain ⟨a1_0, e1_0, rfl, w1_0⟩ := DataW.trod_int Try.underlying2 hy1_0
  obtain ⟨a1_1, e1_1, rfl, w1_1⟩ := DataW.trod_int Try.underlying2 hy1_1
  simp at e1_0 e1_1
  subst e1_0 e1_1
  have sr1 : ∀ (W' : World) (sp : Nat → Bool), DataW.Trod enc Try.prog W' 0 sp true 37 (.agg #[.int .i64 a1_0, .int .i64 a1_1]) (.agg [.lit (.int .i64 a1_0), .lit (.int .i64 a1_1)]) [] := fun W' sp =>
    shut_agg2 (y0 := (.lit (.int .i64 a1_0), [])) (y1 := (.lit (.int .i64 a1_1), [])) Try.underlying37 (by kernel_rfl) cells37 ⟨1, by simp [DataW.trod, Try.underlying2, w1_0]⟩ ⟨1, by simp [DataW.trod, Try.underlying2, w1_1]⟩
  clear hA0 hval0
  simp only [List.append_nil] at hW'
  refine (walk W a0_0 w0_0 a0_1 w0_1 a1_0 w1_0 a1_1 w1_1).mono fun e W' ⟨he, bel⟩ => ?_
  subst he
  exact ⟨_, rfl, _, _, _, [], _, [], hW', trodAll_mk1 (shut_bool Try.underlying4 _), (trodAll_cons_mk (sr0 _ _) (trodAll_cons_mk (sr1 _ _) trodAll_mk0)), rfl, bel.frame _, fun h => by cases h⟩

theorem over : Rows.rayTurnsRow.holds Try.pinned (OpenSpec.ofChange Rows.rayTurnsSpec) :=
  OpenClaim.holds_of_wide 9 Try.f9 rfl rfl rfl rfl rfl rfl rfl ⟨rfl, rfl, rfl, rfl, rfl⟩ rfl rfl rfl rfl rfl (by kernel_rfl) Try.func9 (by kernel_rfl)
    (of_decide_eq_true (by kernel_rfl)) (by unfold Func.isWrapper; first | (rw [if_pos (by decide +kernel)]; kernel_rfl) | (rw [if_neg (by decide +kernel)]; exact ⟨rfl, rfl⟩))
    (fun os started H enc _ => lifted os started H enc)

theorem proved : Rows.RayTurnsSaid := over
#print axioms proved
end Go.Proofs.Ytafokllnelibcaa.rayTurns
