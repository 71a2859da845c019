/- Proves the law RectRows: for every input that can be read it returns true, and the input reads as it did. No conditions. -/
import Derived.Test.YtagahpfinaaemaaRows
import Derived.Test.YtagahpfinaaemaaRI
import Derived.WalkKit
import Derived.ProofKit
import Derived.OpenShut
import Derived.ShutString
import Derived.ChangeOld
import Derived.Below
import Derived.Lib.SmallJoins
namespace Go.Proofs.Ytagahpfinaaemaa.rectRows
open Go.ChangeShapes Go.WideShapes Go.ChangeAt Go.RowKit Go.Joins
open Go.ChangeMaps (open_string shut_string)
set_option linter.unusedVariables false

theorem own : ownKnob Try.prog.godebug = none := by kernel_rfl
theorem cells23 : Try.prog.cellsOf 23 = 4 := by kernel_rfl
theorem cells25 : Try.prog.cellsOf 25 = 2 := by kernel_rfl

set_option maxRecDepth 100000 in
set_option maxHeartbeats 4000000 in
theorem walk (w : World) (a0_0 : Int) (w0_0 : (Lit.int .i64 a0_0).wf = true) (a0_1 : Int) (w0_1 : (Lit.int .i64 a0_1).wf = true) (a0_2 : Int) (w0_2 : (Lit.int .i64 a0_2).wf = true) (a0_3 : Int) (w0_3 : (Lit.int .i64 a0_3).wf = true) (a1 : Int) (w1 : (Lit.int .i64 a1).wf = true) (a2_0 : Int) (w2_0 : (Lit.int .i64 a2_0).wf = true) (a2_1 : Int) (w2_1 : (Lit.int .i64 a2_1).wf = true) :
    Calls Try.prog 7 #[.agg #[.int .i64 a0_0, .int .i64 a0_1, .int .i64 a0_2, .int .i64 a0_3], .int .i64 a1, .agg #[.int .i64 a2_0, .int .i64 a2_1]] w fun e w' => e = .returned (.bool true) ∧ Below w.heap.size w w' := by
  have hsplit : (a1 < 0 ∨ (0 ≤ a1 ∧ areaI a0_0 a0_1 a0_2 a0_3 ≤ a1)) ∨ (0 ≤ a1 ∧ a1 < areaI a0_0 a0_1 a0_2 a0_3) := by omega
  have hIs : ∃ (n : Int) (is : Bool), Hid (RankC a0_0 a0_1 a0_2 a0_3 a2_0 a2_1 n is) ∧ Hid (decide (hasP a0_0 a0_1 a0_2 a0_3 a2_0 a2_1) = is) ∧ Hid (is = true → NthC a0_0 a0_1 a0_2 a0_3 n a2_0 a2_1 true) ∧ Hid (is = false → n = 0) := by
    by_cases hi : hasP a0_0 a0_1 a0_2 a0_3 a2_0 a2_1
    · obtain ⟨n, h1, h2⟩ := rank_in _ _ _ _ _ _ hi
      exact ⟨n, true, hide h1, hide (decide_eq_true hi), hide fun _ => h2, hide (fun h => by cases h)⟩
    · exact ⟨0, false, hide (rank_out _ _ _ _ _ _ hi), hide (decide_eq_false hi), hide (fun h => by cases h), hide (fun _ => rfl)⟩
  obtain ⟨n, is, HK, HIS, HKN, hn0⟩ := hIs
  rcases hsplit with ho | ⟨h0, h1⟩
  · have HN := hide (nth_out a0_0 a0_1 a0_2 a0_3 a1 (by omega))
    rcases ho with h0 | ⟨h0, h1⟩
    all_goals
      cases is
      case' false => obtain rfl := hn0.out rfl
      case' true => have HKM := hide (HKN.out rfl)
      all_goals
        go_enter Try.func7, Try.ntmps7
        go_wp2_with fail
        refine (awake7_ok _).mono ?_
        rintro e w1 ⟨rfl, hb⟩
        have A1 : At w1 w.heap.size [.int .i64 a0_0, .int .i64 a0_1, .int .i64 a0_2, .int .i64 a0_3] := At.below (At.alloc At.new _) hb
        have A2 : At w1 (w.heap.size + 1) [.int .i64 a2_0, .int .i64 a2_1] := At.below (At.new_ (by simp)) hb
        have hB := bal (bal hb)
        clear hb
        obtain ⟨c0, c1, c2, c3⟩ := A1.four
        go_wp2_with fail
        refine (HN.out _).mono ?_
        rintro e w2 ⟨rfl, hb2⟩
        have A1 := A1.below hb2
        have A2 := A2.below hb2
        have hB := bchain hB hb2
        clear hb2 c0 c1 c2 c3
        obtain ⟨c0, c1, c2, c3⟩ := A1.four
        obtain ⟨d0, d1⟩ := A2.two
        have l1 := A1.1
        have l2 := A2.1
        go_wp2_with fail
        refine (HK.out _).mono ?_
        rintro e w3 ⟨rfl, hb3⟩
        have I : Rows3 w w2.heap.size a0_0 a0_1 a0_2 a0_3 a2_0 a2_1 0 0 w3 := ⟨(A1.alloc _).below hb3, (A2.alloc _).below hb3, At.below At.new hb3, bchain (below_put hB) hb3⟩
        clear hb3 c0 c1 c2 c3 d0 d1 l1 l2 A1 A2 hB
        obtain ⟨c0, c1, c2, c3, c4, c5, c6, c7, l1, l2, l3⟩ := I.cells
        go_wp2_with (first
          | (go_at_call 16; refine (area_any _ _ _ _ _).mono ?_; rintro e wq ⟨rfl, hbq⟩; have I := I.below hbq; obtain ⟨c0, c1, c2, c3, c4, c5, c6, c7, l1, l2, l3⟩ := I.cells)
          | (go_at_call 18; refine (has_any _ _ _ _ _ _ _).mono ?_; rintro e wq ⟨rfl, hbq⟩; rw [HIS.out]; have I := I.below hbq; obtain ⟨c0, c1, c2, c3, c4, c5, c6, c7, l1, l2, l3⟩ := I.cells)
          | (go_at_call 29; refine (HKM.out _).mono ?_; rintro e wq ⟨rfl, hbq⟩; have I := I.below hbq; obtain ⟨c0, c1, c2, c3, c4, c5, c6, c7, l1, l2, l3⟩ := I.cells))
        go_ret
        exact ⟨by first | rfl | simp, by first | exact I.d | (repeat first | exact I.d | refine below_put ?_ | refine Below.setCell ?_ (by go_size) _)⟩
  · obtain ⟨q, r, q0, q1, r0, r1, hk, e1, e2, hN, hR⟩ := nth_in _ _ _ _ _ h0 h1
    have HN := hide hN
    have HR := hide hR
    have hk' := hide hk
    unfold okP at hk
    have E1 := hide e1
    have E2 := hide e2
    have s1 := hide (w64 (a0_2 - a0_0) (by omega) (by omega))
    have s2 := hide (w64 (a0_2 - a0_0 + 1) (by omega) (by omega))
    have s3 := hide (w64 (a0_0 + r) (by omega) (by omega))
    have s4 := hide (w64 (a0_1 + q) (by omega) (by omega))
    have s5 : ¬ (a0_2 - a0_0 + 1 = 0) := by omega
    have s6 : ((a0_2 - a0_0 + 1) == 0) = false := by rw [beq_eq_false_iff_ne]; omega
    have s7 := hide (w64 q (by omega) (by omega))
    have s8 := hide (w64 r (by omega) (by omega))
    clear hN hR e1 e2
    cases is
    case' false => obtain rfl := hn0.out rfl
    case' true => have HKM := hide (HKN.out rfl)
    all_goals
      go_enter Try.func7, Try.ntmps7
      go_wp2_with fail
      refine (awake7_ok _).mono ?_
      rintro e w1 ⟨rfl, hb⟩
      have A1 : At w1 w.heap.size [.int .i64 a0_0, .int .i64 a0_1, .int .i64 a0_2, .int .i64 a0_3] := At.below (At.alloc At.new _) hb
      have A2 : At w1 (w.heap.size + 1) [.int .i64 a2_0, .int .i64 a2_1] := At.below (At.new_ (by simp)) hb
      have hB := bal (bal hb)
      clear hb
      obtain ⟨c0, c1, c2, c3⟩ := A1.four
      go_wp2_with fail
      refine (HN.out _).mono ?_
      rintro e w2 ⟨rfl, hb2⟩
      have A1 := A1.below hb2
      have A2 := A2.below hb2
      have hB := bchain hB hb2
      clear hb2 c0 c1 c2 c3
      obtain ⟨c0, c1, c2, c3⟩ := A1.four
      obtain ⟨d0, d1⟩ := A2.two
      have l1 := A1.1
      have l2 := A2.1
      go_wp2_with fail
      refine (HK.out _).mono ?_
      rintro e w3 ⟨rfl, hb3⟩
      have I : Rows3 w w2.heap.size a0_0 a0_1 a0_2 a0_3 a2_0 a2_1 (a0_0 + r) (a0_1 + q) w3 := ⟨(A1.alloc _).below hb3, (A2.alloc _).below hb3, At.below At.new hb3, bchain (below_put hB) hb3⟩
      clear hb3 c0 c1 c2 c3 d0 d1 l1 l2 A1 A2 hB
      obtain ⟨c0, c1, c2, c3, c4, c5, c6, c7, l1, l2, l3⟩ := I.cells
      go_wp2_with (first
        | (go_at_call 16; refine (area_any _ _ _ _ _).mono ?_; rintro e wq ⟨rfl, hbq⟩; have I := I.below hbq; obtain ⟨c0, c1, c2, c3, c4, c5, c6, c7, l1, l2, l3⟩ := I.cells)
        | (go_at_call 18; refine (has_any _ _ _ _ _ _ _).mono ?_; rintro e wq ⟨rfl, hbq⟩; rw [HIS.out]; have I := I.below hbq; obtain ⟨c0, c1, c2, c3, c4, c5, c6, c7, l1, l2, l3⟩ := I.cells)
        | (go_at_call 30; refine (HR.out _).mono ?_; rintro e wq ⟨rfl, hbq⟩; have I := I.below hbq; obtain ⟨c0, c1, c2, c3, c4, c5, c6, c7, l1, l2, l3⟩ := I.cells))
      have Id := I.drew
      obtain ⟨b0, b1, b2, b3, b4, b5, b6, b7, l1, l2, l3⟩ := Id.cells
      have t1 := s1.out
      have t2 := s2.out
      have t3 := s3.out
      have t4 := s4.out
      have t7 := s7.out
      have t8 := s8.out
      have e1 := E1.out
      have e2 := E2.out
      go_region_held3 (fun w' => w'.cell? ⟨w.heap.size, 0, none⟩ = some (.int .i64 a0_0) ∧ w'.cell? ⟨w.heap.size, 1, none⟩ = some (.int .i64 a0_1) ∧ w'.cell? ⟨w.heap.size, 2, none⟩ = some (.int .i64 a0_2) ∧ w'.cell? ⟨w2.heap.size, 0, none⟩ = some (.int .i64 (a0_0 + r)) ∧ w'.cell? ⟨w2.heap.size, 1, none⟩ = some (.int .i64 (a0_1 + q)))
        (first | exact ⟨b0, b1, b2, b6, b7⟩)
        (first | fail)
      clear t1 t2 t3 t4 t7 t8 e1 e2
      go_wp2_with (first
        | (go_at_call 29; refine (HKM.out _).mono ?_; rintro e wq ⟨rfl, hbq⟩; have I := Id.below hbq; obtain ⟨c0, c1, c2, c3, c4, c5, c6, c7, l1, l2, l3⟩ := I.cells))
      go_ret
      exact ⟨by first | rfl | simp, by first | exact Id.d | exact I.d | (repeat first | exact I.d | refine below_put ?_ | refine Below.setCell ?_ (by go_size) _)⟩

set_option maxRecDepth 100000 in
theorem lifted (os : Os) (started : os.Started) (H : Type) (enc : TypeId × Value → H) :
    ReturnsInHanded {} Try.checked os 7 .any (Rows.rectRowsSpec.pre6 enc Try.prog Try.f7 Rows.rectRowsRow.domain false) (Rows.rectRowsSpec.post enc Try.prog Try.f7 false true false false) := by
  refine returnsInHanded_of_change (C := Try.checked) own started (by kernel_rfl) Try.func7
    (ChangeSpec.witness6 (enc := enc) (C := Try.checked) false ⟨#[], #[.agg #[.int .i64 0, .int .i64 0, .int .i64 0, .int .i64 0], .int .i64 0, .agg #[.int .i64 0, .int .i64 0]], []⟩ 8 (by kernel_rfl) (by kernel_rfl) (by kernel_rfl) (by kernel_rfl)) ?_
  intro W base args ds gs before hval0 hW hcnd _
  have hval : ∀ (j : Nat) t v, Try.f7.params[j]? = some t → args[j]? = some v → Value.okWide Try.prog W .any base t v := hval0
  have hW' := hW
  obtain ⟨p, q, hA0, hV, rfl, hfz, hnd⟩ := hW
  have hA : DataW.TrodAll enc Try.prog W 0 (fun _ => true) true Try.f7.params.toList args.toList ds p := hA0
  rw [Try.params7] at hA hval
  obtain ⟨v0, vs0, d0, ds0, p0, q0, hargs, rfl, rfl, h0, r0⟩ := trodAll_cons hA
  obtain ⟨v1, vs1, d1, ds1, p1, q1, rfl, rfl, rfl, h1, r1⟩ := trodAll_cons r0
  obtain ⟨v2, vs2, d2, ds2, p2, q2, rfl, rfl, rfl, h2, r2⟩ := trodAll_cons r1
  obtain ⟨rfl, rfl, rfl⟩ := trodAll_nil r2
  obtain rfl : args = #[v0, v1, v2] := by cases args; simp_all
  obtain ⟨rfl, rfl⟩ := trodVars_none hV
  obtain ⟨c0_0, c0_1, c0_2, c0_3, y0_0, y0_1, y0_2, y0_3, m0, rfl, rfl, rfl, hy0_0, hy0_1, hy0_2, hy0_3⟩ := open_agg4 Try.underlying23 (by kernel_rfl) cells23 (hval 0 23 v0 rfl rfl) h0
  obtain ⟨a0_0, e0_0, rfl, w0_0⟩ := DataW.trod_int Try.underlying2 hy0_0
  obtain ⟨a0_1, e0_1, rfl, w0_1⟩ := DataW.trod_int Try.underlying2 hy0_1
  obtain ⟨a0_2, e0_2, rfl, w0_2⟩ := DataW.trod_int Try.underlying2 hy0_2
  obtain ⟨a0_3, e0_3, rfl, w0_3⟩ := DataW.trod_int Try.underlying2 hy0_3
  simp at e0_0 e0_1 e0_2 e0_3
  subst e0_0 e0_1 e0_2 e0_3
  have sr0 : ∀ (W' : World) (sp : Nat → Bool), DataW.Trod enc Try.prog W' 0 sp true 23 (.agg #[.int .i64 a0_0, .int .i64 a0_1, .int .i64 a0_2, .int .i64 a0_3]) (.agg [.lit (.int .i64 a0_0), .lit (.int .i64 a0_1), .lit (.int .i64 a0_2), .lit (.int .i64 a0_3)]) [] := fun W' sp =>
    shut_agg4 (y0 := (.lit (.int .i64 a0_0), [])) (y1 := (.lit (.int .i64 a0_1), [])) (y2 := (.lit (.int .i64 a0_2), [])) (y3 := (.lit (.int .i64 a0_3), [])) Try.underlying23 (by kernel_rfl) cells23 ⟨1, by simp [DataW.trod, Try.underlying2, w0_0]⟩ ⟨1, by simp [DataW.trod, Try.underlying2, w0_1]⟩ ⟨1, by simp [DataW.trod, Try.underlying2, w0_2]⟩ ⟨1, by simp [DataW.trod, Try.underlying2, w0_3]⟩
  obtain ⟨a1, rfl, rfl, rfl, w1⟩ := open_int Try.underlying2 (hval 1 2 v1 rfl rfl) h1
  obtain ⟨c2_0, c2_1, y2_0, y2_1, m2, rfl, rfl, rfl, hy2_0, hy2_1⟩ := open_agg2 Try.underlying25 (by kernel_rfl) cells25 (hval 2 25 v2 rfl rfl) h2
  obtain ⟨a2_0, e2_0, rfl, w2_0⟩ := DataW.trod_int Try.underlying2 hy2_0
  obtain ⟨a2_1, e2_1, rfl, w2_1⟩ := DataW.trod_int Try.underlying2 hy2_1
  simp at e2_0 e2_1
  subst e2_0 e2_1
  have sr2 : ∀ (W' : World) (sp : Nat → Bool), DataW.Trod enc Try.prog W' 0 sp true 25 (.agg #[.int .i64 a2_0, .int .i64 a2_1]) (.agg [.lit (.int .i64 a2_0), .lit (.int .i64 a2_1)]) [] := fun W' sp =>
    shut_agg2 (y0 := (.lit (.int .i64 a2_0), [])) (y1 := (.lit (.int .i64 a2_1), [])) Try.underlying25 (by kernel_rfl) cells25 ⟨1, by simp [DataW.trod, Try.underlying2, w2_0]⟩ ⟨1, by simp [DataW.trod, Try.underlying2, w2_1]⟩
  clear hA0 hval0
  simp only [List.append_nil] at hW'
  refine (walk W a0_0 w0_0 a0_1 w0_1 a0_2 w0_2 a0_3 w0_3 a1 w1 a2_0 w2_0 a2_1 w2_1).mono fun e W' ⟨he, bel⟩ => ?_
  subst he
  exact ⟨_, rfl, _, _, _, [], _, [], hW', trodAll_mk1 (shut_bool Try.underlying4 _), (trodAll_cons_mk (sr0 _ _) (trodAll_cons_mk (shut_int Try.underlying2 w1) (trodAll_cons_mk (sr2 _ _) trodAll_mk0))), rfl, bel.frame _, fun h => by cases h⟩

theorem over : Rows.rectRowsRow.holds Try.pinned (OpenSpec.ofChange Rows.rectRowsSpec) :=
  OpenClaim.holds_of_wide 7 Try.f7 rfl rfl rfl rfl rfl rfl rfl ⟨rfl, rfl, rfl, rfl, rfl⟩ rfl rfl rfl rfl rfl (by kernel_rfl) Try.func7 (by kernel_rfl)
    (of_decide_eq_true (by kernel_rfl)) (by unfold Func.isWrapper; first | (rw [if_pos (by decide +kernel)]; kernel_rfl) | (rw [if_neg (by decide +kernel)]; exact ⟨rfl, rfl⟩))
    (fun os started H enc _ => lifted os started H enc)

theorem proved : Rows.RectRowsSaid := over
#print axioms proved
end Go.Proofs.Ytagahpfinaaemaa.rectRows
