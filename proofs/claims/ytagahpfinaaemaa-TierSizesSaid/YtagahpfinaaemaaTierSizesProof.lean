/- Proves the law TierSizes: for every input that can be read it returns true, and the input reads as it did. No conditions. -/
import Derived.Test.YtagahpfinaaemaaRows
import Derived.Test.YtagahpfinaaemaaTC
import Derived.WalkKit
import Derived.ProofKit
import Derived.OpenShut
import Derived.ShutString
import Derived.ChangeOld
import Derived.Below
import Derived.Lib.SmallJoins
namespace Go.Proofs.Ytagahpfinaaemaa.tierSizes
open Go.ChangeShapes Go.WideShapes Go.ChangeAt Go.RowKit Go.Joins
open Go.ChangeMaps (open_string shut_string)
set_option linter.unusedVariables false

theorem own : ownKnob Try.prog.godebug = none := by kernel_rfl

set_option maxRecDepth 100000 in
set_option maxHeartbeats 4000000 in
theorem walk (w : World) (a0 : Int) (w0 : (Lit.int .i64 a0).wf = true) (a1 : Int) (w1 : (Lit.int .i64 a1).wf = true) (a2 : Int) (w2 : (Lit.int .i64 a2).wf = true) :
    Calls Try.prog 8 #[.int .i64 a0, .int .i64 a1, .int .i64 a2] w fun e w' => e = .returned (.bool true) ∧ Below w.heap.size w w' := by
  by_cases hs : sizeP a0 a1
  · obtain ⟨L, hL⟩ := top_ex a0 a1 hs
    have hLb : L ≤ 10 := hL.1
    have hcase : (a2 < 0 ∨ (0 ≤ a2 ∧ (L : Int) + 1 ≤ a2)) ∨ ∃ k : Nat, a2 = k ∧ k ≤ L ∧ (k : Int) < (L : Int) + 1 := by
      by_cases h : 0 ≤ a2 ∧ a2 ≤ L
      · exact .inr ⟨a2.toNat, by omega, by omega, by omega⟩
      · exact .inl (by omega)
    have HV : Hid (∀ w : World, Calls Try.prog 32 #[.int .i64 a0, .int .i64 a1] w fun e w' => e = .returned (.tuple #[.int .i64 ((L : Int) + 1), .int .i64 0]) ∧ Below w.heap.size w w') := hide fun w => levels_yes _ _ L w hs hL
    have HZ : Hid (∀ w : World, Calls Try.prog 34 #[.int .i64 a0, .int .i64 a1] w fun e w' => OwnedList w (fun k => hlf k a0) (fun k => hlf k a1) (L + 1) e w') := hide fun w => sizes_yes _ _ L w hs hL
    have n1 : ((L : Int) + 1 == 0) = false := by rw [beq_eq_false_iff_ne]; omega
    rcases hcase with hk | ⟨k, rfl, hk, hk2⟩
    · have HK : Hid (∀ w : World, Calls Try.prog 33 #[.int .i64 a0, .int .i64 a1, .int .i64 a2] w fun e w' => e = .returned (.tuple #[.int .i64 0, .int .i64 0, .int .i64 11]) ∧ Below w.heap.size w w') := hide fun w => size15_arg _ _ _ L w hs hL (by omega)
      clear hL hs
      rcases hk with hk | ⟨hk, hk2⟩
      all_goals
        go_enter Try.func8, Try.ntmps8
        go_wp2_with fail
        refine (awake15_ok _).mono ?_
        rintro e w1 ⟨rfl, hb⟩
        go_wp2_with fail
        refine (HV.out _).mono ?_
        rintro e w2 ⟨rfl, hb2⟩
        have hb := bchain hb hb2
        clear hb2
        go_wp2_with fail
        refine (HK.out _).mono ?_
        rintro e w3 ⟨rfl, hb2⟩
        have hb := bchain hb hb2
        clear hb2
        go_wp2_with fail
        refine (HZ.out _).mono ?_
        rintro e w4 ⟨v, rfl, hown, hb2⟩
        obtain ⟨A, c, rfl, hc1, hc2, hr⟩ := Row2.of_own hown
        have hb := bchain hb hb2
        clear hb2 hown hr
        go_wp2
        go_ret
        exact ⟨rfl, hb⟩
    · have HK : Hid (∀ w : World, Calls Try.prog 33 #[.int .i64 a0, .int .i64 a1, .int .i64 k] w fun e w' => e = .returned (.tuple #[.int .i64 (hlf k a0), .int .i64 (hlf k a1), .int .i64 0]) ∧ Below w.heap.size w w') := hide fun w => size15_yes _ _ k L w hs hL hk
      clear hL hs
      have k0 : (0 : Int) ≤ (k : Int) := by omega
      go_enter Try.func8, Try.ntmps8
      go_wp2_with fail
      refine (awake15_ok _).mono ?_
      rintro e w1 ⟨rfl, hb⟩
      go_wp2_with fail
      refine (HV.out _).mono ?_
      rintro e w2 ⟨rfl, hb2⟩
      have hb := bchain hb hb2
      clear hb2
      go_wp2_with fail
      refine (HK.out _).mono ?_
      rintro e w3 ⟨rfl, hb2⟩
      have hb := bchain hb hb2
      clear hb2
      go_wp2_with fail
      refine (HZ.out _).mono ?_
      rintro e w4 ⟨v, rfl, hown, hb2⟩
      obtain ⟨A, c, rfl, hc1, hc2, hr⟩ := Row2.of_own hown
      have hb := bchain hb hb2
      obtain ⟨g, rfl, _, kc'⟩ := hr.resolve_left (by omega)
      obtain ⟨p0, p1⟩ := kc' k (by omega)
      have p0' : w4.cell? ⟨g, k * 2, none⟩ = some (.int .i64 (hlf k a0)) := p0
      have p1' : w4.cell? ⟨g, k * 2 + 1, none⟩ = some (.int .i64 (hlf k a1)) := p1
      clear hb2 hown hr kc' p0 p1 HV HK HZ
      generalize hlf k a0 = x at *
      generalize hlf k a1 = y at *
      go_wp2
      go_ret
      exact ⟨rfl, hb⟩
  · have hc : a0 < 1 ∨ (1 ≤ a0 ∧ 1024 < a0) ∨ (1 ≤ a0 ∧ a0 ≤ 1024 ∧ a1 < 1) ∨ (1 ≤ a0 ∧ a0 ≤ 1024 ∧ 1 ≤ a1 ∧ 1024 < a1) := by unfold sizeP at hs; omega
    have Hs := hide hs
    clear hs hc
    go_enter Try.func8, Try.ntmps8
    go_wp2_with fail
    refine (awake15_ok _).mono ?_
    rintro e w1 ⟨rfl, hb⟩
    go_wp2_with fail
    refine (levels_no _ _ _ Hs.out).mono ?_
    rintro e w2 ⟨rfl, hb2⟩
    have hb := bchain hb hb2
    clear hb2
    go_wp2_with fail
    refine (size15_no _ _ _ _ Hs.out).mono ?_
    rintro e w3 ⟨rfl, hb2⟩
    have hb := bchain hb hb2
    clear hb2
    go_wp2_with fail
    refine (sizes_no _ _ _ Hs.out).mono ?_
    rintro e w4 ⟨rfl, rfl⟩
    go_wp2
    go_ret
    exact ⟨rfl, hb⟩

set_option maxRecDepth 100000 in
theorem lifted (os : Os) (started : os.Started) (H : Type) (enc : TypeId × Value → H) :
    ReturnsInHanded {} Try.checked os 8 .any (Rows.tierSizesSpec.pre6 enc Try.prog Try.f8 Rows.tierSizesRow.domain false) (Rows.tierSizesSpec.post enc Try.prog Try.f8 false true false false) := by
  refine returnsInHanded_of_change (C := Try.checked) own started (by kernel_rfl) Try.func8
    (ChangeSpec.witness6 (enc := enc) (C := Try.checked) false ⟨#[], #[.int .i64 0, .int .i64 0, .int .i64 0], []⟩ 8 (by kernel_rfl) (by kernel_rfl) (by kernel_rfl) (by kernel_rfl)) ?_
  intro W base args ds gs before hval0 hW hcnd _
  have hval : ∀ (j : Nat) t v, Try.f8.params[j]? = some t → args[j]? = some v → Value.okWide Try.prog W .any base t v := hval0
  have hW' := hW
  obtain ⟨p, q, hA0, hV, rfl, hfz, hnd⟩ := hW
  have hA : DataW.TrodAll enc Try.prog W 0 (fun _ => true) true Try.f8.params.toList args.toList ds p := hA0
  rw [Try.params8] at hA hval
  obtain ⟨v0, vs0, d0, ds0, p0, q0, hargs, rfl, rfl, h0, r0⟩ := trodAll_cons hA
  obtain ⟨v1, vs1, d1, ds1, p1, q1, rfl, rfl, rfl, h1, r1⟩ := trodAll_cons r0
  obtain ⟨v2, vs2, d2, ds2, p2, q2, rfl, rfl, rfl, h2, r2⟩ := trodAll_cons r1
  obtain ⟨rfl, rfl, rfl⟩ := trodAll_nil r2
  obtain rfl : args = #[v0, v1, v2] := by cases args; simp_all
  obtain ⟨rfl, rfl⟩ := trodVars_none hV
  obtain ⟨a0, rfl, rfl, rfl, w0⟩ := open_int Try.underlying2 (hval 0 2 v0 rfl rfl) h0
  obtain ⟨a1, rfl, rfl, rfl, w1⟩ := open_int Try.underlying2 (hval 1 2 v1 rfl rfl) h1
  obtain ⟨a2, rfl, rfl, rfl, w2⟩ := open_int Try.underlying3 (hval 2 3 v2 rfl rfl) h2
  clear hA0 hval0
  simp only [List.append_nil] at hW'
  refine (walk W a0 w0 a1 w1 a2 w2).mono fun e W' ⟨he, bel⟩ => ?_
  subst he
  exact ⟨_, rfl, _, _, _, [], _, [], hW', trodAll_mk1 (shut_bool Try.underlying4 _), (trodAll_cons_mk (shut_int Try.underlying2 w0) (trodAll_cons_mk (shut_int Try.underlying2 w1) (trodAll_cons_mk (shut_int Try.underlying3 w2) trodAll_mk0))), rfl, bel.frame _, fun h => by cases h⟩

theorem over : Rows.tierSizesRow.holds Try.pinned (OpenSpec.ofChange Rows.tierSizesSpec) :=
  OpenClaim.holds_of_wide 8 Try.f8 rfl rfl rfl rfl rfl rfl rfl ⟨rfl, rfl, rfl, rfl, rfl⟩ rfl rfl rfl rfl rfl (by kernel_rfl) Try.func8 (by kernel_rfl)
    (of_decide_eq_true (by kernel_rfl)) (by unfold Func.isWrapper; first | (rw [if_pos (by decide +kernel)]; kernel_rfl) | (rw [if_neg (by decide +kernel)]; exact ⟨rfl, rfl⟩))
    (fun os started H enc _ => lifted os started H enc)

theorem proved : Rows.TierSizesSaid := over
#print axioms proved
end Go.Proofs.Ytagahpfinaaemaa.tierSizes
