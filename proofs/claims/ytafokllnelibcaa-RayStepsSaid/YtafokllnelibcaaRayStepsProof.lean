/- Proves the law RaySteps: for every input that can be read it returns true, and the input reads as it did. No conditions. -/
import Derived.Test.YtafokllnelibcaaRows
import Derived.Test.YtafokllnelibcaaYE
import Derived.WalkKit
import Derived.ProofKit
import Derived.OpenShut
import Derived.ShutString
import Derived.ChangeOld
import Derived.Below
import Derived.Lib.SmallJoins
namespace Go.Proofs.Ytafokllnelibcaa.raySteps
open Go.ChangeShapes Go.WideShapes Go.ChangeAt Go.RowKit Go.Joins
open Go.ChangeMaps (open_string shut_string)
set_option linter.unusedVariables false

theorem own : ownKnob Try.prog.godebug = none := by kernel_rfl
theorem cells37 : Try.prog.cellsOf 37 = 2 := by kernel_rfl

set_option maxRecDepth 100000 in
set_option maxHeartbeats 4000000 in
theorem walk (w : World) (a0_0 : Int) (w0_0 : (Lit.int .i64 a0_0).wf = true) (a0_1 : Int) (w0_1 : (Lit.int .i64 a0_1).wf = true) (a1_0 : Int) (w1_0 : (Lit.int .i64 a1_0).wf = true) (a1_1 : Int) (w1_1 : (Lit.int .i64 a1_1).wf = true) :
    Calls Try.prog 8 #[.agg #[.int .i64 a0_0, .int .i64 a0_1], .agg #[.int .i64 a1_0, .int .i64 a1_1]] w fun e w' => e = .returned (.bool true) ∧ Below w.heap.size w w' := by
  by_cases hab : canP a0_0 a0_1 ∧ canP a1_0 a1_1
  · obtain ⟨ha, hb⟩ := hab
    obtain ⟨N, X, Y, hNb, hrow, x0, y0, xN, yN, hat, hst⟩ := row_steps _ _ _ _ ha hb
    have HR := hide hrow
    have X0 := hide x0
    have Y0 := hide y0
    have XN := hide xN
    have YN := hide yN
    have HA := hide hat
    have HS := hide hst
    have Hb := hide hb
    clear ha hrow x0 y0 xN yN hat hst hb
    go_enter Try.func8, Try.ntmps8
    go_wp2_with fail
    refine (awake23_ok _).mono ?_
    rintro e w1 ⟨rfl, hb⟩
    have A1 : At w1 w.heap.size [.int .i64 a0_0, .int .i64 a0_1] := At.below (At.alloc At.new _) hb
    have A2 : At w1 (w.heap.size + 1) [.int .i64 a1_0, .int .i64 a1_1] := At.below (At.new_ (by simp)) hb
    have hB := bal (bal hb)
    clear hb
    obtain ⟨c0, c1⟩ := A1.two
    obtain ⟨d0, d1⟩ := A2.two
    go_wp2_with fail
    refine (HR.out _).mono ?_
    rintro e w2 ⟨v, rfl, hown, hb⟩
    obtain ⟨A, c, rfl, hc1, hc2, hr⟩ := Row2.of_own hown
    have A1 := A1.below hb
    have A2 := A2.below hb
    have hB := bchain hB hb
    clear hown hb c0 c1 d0 d1
    obtain ⟨g, rfl, hg, hcell⟩ := hr.resolve_left (by omega)
    have HC := hide hcell
    clear hcell
    have r0 : w2.cell? ⟨g, 0, none⟩ = some (.int .i64 a0_0) := by
      have := (HC.out 0 (by omega)).1
      rw [X0.out] at this
      exact this
    have r1 : w2.cell? ⟨g, 1, none⟩ = some (.int .i64 a0_1) := by
      have := (HC.out 0 (by omega)).2
      rw [Y0.out] at this
      exact this
    have r2 : w2.cell? ⟨g, N * 2, none⟩ = some (.int .i64 a1_0) := by
      have := (HC.out N (by omega)).1
      rw [XN.out] at this
      exact this
    have r3 : w2.cell? ⟨g, N * 2 + 1, none⟩ = some (.int .i64 a1_1) := by
      have := (HC.out N (by omega)).2
      rw [YN.out] at this
      exact this
    obtain ⟨c0, c1⟩ := A1.two
    obtain ⟨d0, d1⟩ := A2.two
    have n1 : ((N : Int) + 1 == 0) = false := by rw [beq_eq_false_iff_ne]; omega
    have n2 : IntKind.i64.wrap ((N : Int) + 1 - 1) = N := by rw [w64 _ (by omega) (by omega)]; omega
    have n3 : (0 : Int) ≤ (N : Int) := by omega
    have n4 : (N : Int) < (N : Int) + 1 := by omega
    go_wp2_with fail
    go_quiet (fail)
    go_wp2_with fail
    have hR : ∀ i, i < N + 1 → (w2.drewN nq).cell? ⟨g, i * 2, none⟩ = some (.int .i64 (X i)) ∧ (w2.drewN nq).cell? ⟨g, i * 2 + 1, none⟩ = some (.int .i64 (Y i)) := HC.out
    have HR2 := hide hR
    have A2n := A2.drewN nq
    have hBn := below_drewN hB nq
    clear r0 r1 r2 r3 c0 c1 d0 d1 HC hR n1 n2 n3 n4 HR X0 Y0 XN YN A1 A2 hB
    generalize w2.drewN nq = W at *
    go_loopw [7] (fun v wr => ∃ m : Nat, v = .int .i64 m ∧ 1 ≤ m ∧ m ≤ N + 1 ∧ Hid (∀ i, i < N + 1 → wr.cell? ⟨g, i * 2, none⟩ = some (.int .i64 (X i)) ∧ wr.cell? ⟨g, i * 2 + 1, none⟩ = some (.int .i64 (Y i))) ∧ At wr (w.heap.size + 1) [.int .i64 a1_0, .int .i64 a1_1] ∧ Below w.heap.size w wr) (fun v _ => N + 1 - (intOf v).toNat)
    case atStart => exact ⟨1, rfl, by omega, by omega, HR2, A2n, hBn⟩
    case round =>
      obtain ⟨m, rfl, hm1, hm2, HRm, Am, hBm⟩ := hrel
      clear HR2 A2n hBn
      by_cases hlt : m < N + 1
      · obtain ⟨j, rfl⟩ : ∃ j, m = j + 1 := ⟨m - 1, by omega⟩
        obtain ⟨k0, k1⟩ := HRm.out j (by omega)
        obtain ⟨k2, k3⟩ := HRm.out (j + 1) (by omega)
        obtain ⟨t1, t2⟩ := HA.out (j + 1) (by omega)
        obtain ⟨t3, t4⟩ := HA.out j (by omega)
        obtain ⟨s1, s2, s3, s4, s5⟩ := HS.out j (by omega)
        obtain ⟨x1, hx1⟩ : ∃ z, X (j + 1) = z := ⟨_, rfl⟩
        obtain ⟨y1, hy1⟩ : ∃ z, Y (j + 1) = z := ⟨_, rfl⟩
        obtain ⟨x, hx⟩ : ∃ z, X j = z := ⟨_, rfl⟩
        obtain ⟨y, hy⟩ : ∃ z, Y j = z := ⟨_, rfl⟩
        rw [hx1] at k2 t1 t2 s1 s2 s5
        rw [hy1] at k3 t1 t2 s3 s4 s5
        rw [hx] at k0 t3 t4 s1 s2 s5
        rw [hy] at k1 t3 t4 s3 s4 s5
        have F0 := hide k0
        have F1 := hide k1
        have F2 := hide k2
        have F3 := hide k3
        clear hx1 hy1 hx hy
        have C1 := hide t1
        have C0 := hide t3
        unfold canP at t1 t3
        obtain ⟨l1, hl1⟩ : ∃ l1 : Int, (N : Int) - ((j + 1 : Nat) : Int) = l1 := ⟨_, rfl⟩
        obtain ⟨l0, hl0⟩ : ∃ l0 : Int, (N : Int) - (j : Int) = l0 := ⟨_, rfl⟩
        obtain ⟨dx, hdx⟩ : ∃ dx : Int, x1 - x = dx := ⟨_, rfl⟩
        obtain ⟨dy, hdy⟩ : ∃ dy : Int, y1 - y = dy := ⟨_, rfl⟩
        have u1 : IntKind.i64.wrap (x1 - x) = dx := by rw [w64 _ (by omega) (by omega), hdx]
        have u2 : IntKind.i64.wrap (y1 - y) = dy := by rw [w64 _ (by omega) (by omega), hdy]
        have u3 : IntKind.i64.wrap ((j : Int) + 1 - 1) = j := by rw [w64 _ (by omega) (by omega)]; omega
        have u9 : IntKind.i64.wrap (((j + 1 : Nat) : Int) - 1) = j := by rw [w64 _ (by omega) (by omega)]; omega
        have u12 : IntKind.i64.wrap (j : Int) = j := w64 _ (by omega) (by omega)
        have u4 : IntKind.i64.wrap (l0 - 1) = l1 := by rw [w64 _ (by omega) (by omega)]; omega
        have u5 : (0 : Int) ≤ (j : Int) := by omega
        have u6 : (j : Int) < (N : Int) + 1 := by omega
        have u7 : (j : Int) + 1 < (N : Int) + 1 := by omega
        have u8 : (0 : Int) ≤ (j : Int) + 1 := by omega
        have g1 : -1 ≤ dx := by omega
        have g2 : dx ≤ 1 := by omega
        have g3 : -1 ≤ dy := by omega
        have g4 : dy ≤ 1 := by omega
        have G5 : Hid (¬ (dx = 0 ∧ dy = 0)) := by intro h; exact s5 ⟨by omega, by omega⟩
        rw [hl1] at t2
        rw [hl0] at t4
        have E1 := hide t2
        have E0 := hide t4
        clear t2 t4 hl1 hl0 hdx hdy s1 s2 s3 s4 s5 t1 t3
        go_wp2_with fail
        go_quiet (fail)
        have hz : (dx = 0 ∧ (dy == 0) = false) ∨ (dx == 0) = false := by
          by_cases h : dx = 0
          · exact .inl ⟨h, by rw [beq_eq_false_iff_ne]; exact fun h2 => G5.out ⟨h, h2⟩⟩
          · exact .inr (by rw [beq_eq_false_iff_ne]; exact h)
        clear k0 k1 k2 k3 u1 u2
        have A3 := (Am.drewN nq).drew
        have hB3 := (below_drewN hBm nq).drew
        have v0 : (wr.drewN nq).drew.cell? ⟨g, j * 2, none⟩ = some (.int .i64 x) := F0.out
        have v1 : (wr.drewN nq).drew.cell? ⟨g, j * 2 + 1, none⟩ = some (.int .i64 y) := F1.out
        have v2 : (wr.drewN nq).drew.cell? ⟨g, (j + 1) * 2, none⟩ = some (.int .i64 x1) := F2.out
        have v3 : (wr.drewN nq).drew.cell? ⟨g, (j + 1) * 2 + 1, none⟩ = some (.int .i64 y1) := F3.out
        have w2' : ∀ i, i < N + 1 → (wr.drewN nq).drew.cell? ⟨g, i * 2, none⟩ = some (.int .i64 (X i)) ∧ (wr.drewN nq).drew.cell? ⟨g, i * 2 + 1, none⟩ = some (.int .i64 (Y i)) := HRm.out
        have HRd := hide w2'
        clear w2' HRm Am hBm F0 F1 F2 F3
        obtain ⟨d0, d1⟩ := A3.two
        rcases hz with ⟨rfl, hz⟩ | hz
        all_goals
          go_wp2_with fail
          have e1 := E1.out
          have e0 := E0.out
          go_region_held3? (fun w' => w'.cell? ⟨g, j * 2, none⟩ = some (.int .i64 x) ∧ w'.cell? ⟨g, j * 2 + 1, none⟩ = some (.int .i64 y) ∧ w'.cell? ⟨g, (j + 1) * 2, none⟩ = some (.int .i64 x1) ∧ w'.cell? ⟨g, (j + 1) * 2 + 1, none⟩ = some (.int .i64 y1) ∧ w'.cell? ⟨w.heap.size + 1, 0, none⟩ = some (.int .i64 a1_0) ∧ w'.cell? ⟨w.heap.size + 1, 1, none⟩ = some (.int .i64 a1_1) ∧ Below (wr.drewN nq).drew.heap.size (wr.drewN nq).drew w')
            (first
            | exact ⟨v0, v1, v2, v3, d0, d1, Below.refl _ _⟩
            | (go_split_ands; refine ⟨kc hbq ?_, kc hbq ?_, kc hbq ?_, kc hbq ?_, kc hbq ?_, kc hbq ?_, bchain ?_ hbq⟩ <;> assumption))
            (first
            | (go_at_call 29; refine (rlen_any _ _ _ _ _ (by first | exact C1.out | exact C0.out) Hb.out).mono ?_; rintro e wq ⟨rfl, hbq⟩))
          rename_i hh
          obtain ⟨-, -, -, -, -, -, hBf⟩ := hh
          clear e0 e1 v0 v1 v2 v3 d0 d1
          go_wp2_with fail
          refine ⟨⟨j + 1 + 1, by go_num, by omega, by omega, hide fun i hi => ⟨kc hBf (HRd.out i hi).1, kc hBf (HRd.out i hi).2⟩, A3.below hBf, bchain hB3 hBf⟩, by simp [intOf]; omega⟩
      · obtain rfl : m = N + 1 := by omega
        go_wp2
        go_ret
        exact ⟨rfl, hBm⟩
  · go_enter Try.func8, Try.ntmps8
    go_wp2_with fail
    refine (awake23_ok _).mono ?_
    rintro e w1 ⟨rfl, hb⟩
    have A1 : At w1 w.heap.size [.int .i64 a0_0, .int .i64 a0_1] := At.below (At.alloc At.new _) hb
    have A2 : At w1 (w.heap.size + 1) [.int .i64 a1_0, .int .i64 a1_1] := At.below (At.new_ (by simp)) hb
    have hB := bal (bal hb)
    clear hb
    obtain ⟨c0, c1⟩ := A1.two
    obtain ⟨d0, d1⟩ := A2.two
    go_wp2_with fail
    refine (row_no _ _ _ _ _ hab).mono ?_
    rintro e w2 ⟨rfl, hb⟩
    go_wp2
    go_ret
    exact ⟨rfl, bchain hB hb⟩

set_option maxRecDepth 100000 in
theorem lifted (os : Os) (started : os.Started) (H : Type) (enc : TypeId × Value → H) :
    ReturnsInHanded {} Try.checked os 8 .any (Rows.rayStepsSpec.pre6 enc Try.prog Try.f8 Rows.rayStepsRow.domain false) (Rows.rayStepsSpec.post enc Try.prog Try.f8 false true false false) := by
  refine returnsInHanded_of_change (C := Try.checked) own started (by kernel_rfl) Try.func8
    (ChangeSpec.witness6 (enc := enc) (C := Try.checked) false ⟨#[], #[.agg #[.int .i64 0, .int .i64 0], .agg #[.int .i64 0, .int .i64 0]], []⟩ 8 (by kernel_rfl) (by kernel_rfl) (by kernel_rfl) (by kernel_rfl)) ?_
  intro W base args ds gs before hval0 hW hcnd _
  have hval : ∀ (j : Nat) t v, Try.f8.params[j]? = some t → args[j]? = some v → Value.okWide Try.prog W .any base t v := hval0
  have hW' := hW
  obtain ⟨p, q, hA0, hV, rfl, hfz, hnd⟩ := hW
  have hA : DataW.TrodAll enc Try.prog W 0 (fun _ => true) true Try.f8.params.toList args.toList ds p := hA0
  rw [Try.params8] at hA hval
  obtain ⟨v0, vs0, d0, ds0, p0, q0, hargs, rfl, rfl, h0, r0⟩ := trodAll_cons hA
  obtain ⟨v1, vs1, d1, ds1, p1, q1, rfl, rfl, rfl, h1, r1⟩ := trodAll_cons r0
  obtain ⟨rfl, rfl, rfl⟩ := trodAll_nil r1
  obtain rfl : args = #[v0, v1] := by cases args; simp_all
  obtain ⟨rfl, rfl⟩ := trodVars_none hV
  obtain ⟨c0_0, c0_1, y0_0, y0_1, m0, rfl, rfl, rfl, hy0_0, hy0_1⟩ := open_agg2 Try.underlying37 (by kernel_rfl) cells37 (hval 0 37 v0 rfl rfl) h0
  obtain ⟨a0_0, e0_0, rfl, w0_0⟩ := DataW.trod_int Try.underlying2 hy0_0
  obtain ⟨a0_1, e0_1, rfl, w0_1⟩ := DataW.trod_int Try.underlying2 hy0_1
  simp at e0_0 e0_1
  subst e0_0 e0_1
  have sr0 : ∀ (W' : World) (sp : Nat → Bool), DataW.Trod enc Try.prog W' 0 sp true 37 (.agg #[.int .i64 a0_0, .int .i64 a0_1]) (.agg [.lit (.int .i64 a0_0), .lit (.int .i64 a0_1)]) [] := fun W' sp =>
    shut_agg2 (y0 := (.lit (.int .i64 a0_0), [])) (y1 := (.lit (.int .i64 a0_1), [])) Try.underlying37 (by kernel_rfl) cells37 ⟨1, by simp [DataW.trod, Try.underlying2, w0_0]⟩ ⟨1, by simp [DataW.trod, Try.underlying2, w0_1]⟩
  obtain ⟨c1_0, c1_1, y1_0, y1_1, m1, rfl, rfl, rfl, hy1_0, hy1_1⟩ := open_agg2 Try.underlying37 (by kernel_rfl) cells37 (hval 1 37 v1 rfl rfl) h1
  obtain ⟨a1_0, e1_0, rfl, w1_0⟩ := DataW.trod_int Try.underlying2 hy1_0
  obtain ⟨a1_1, e1_1, rfl, w1_1⟩ := DataW.trod_int Try.underlying2 hy1_1
  simp at e1_0 e1_1
  subst e1_0 e1_1
  have sr1 : ∀ (W' : World) (sp : Nat → Bool), DataW.Trod enc Try.prog W' 0 sp true 37 (.agg #[.int .i64 a1_0, .int .i64 a1_1]) (.agg [.lit (.int .i64 a1_0), .lit (.int .i64 a1_1)]) [] := fun W' sp =>
    shut_agg2 (y0 := (.lit (.int .i64 a1_0), [])) (y1 := (.lit (.int .i64 a1_1), [])) Try.underlying37 (by kernel_rfl) cells37 ⟨1, by simp [DataW.trod, Try.underlying2, w1_0]⟩ ⟨1, by simp [DataW.trod, Try.underlying2, w1_1]⟩
  clear hA0 hval0
  simp only [List.append_nil] at hW'
  refine (walk W a0_0 w0_0 a0_1 w0_1 a1_0 w1_0 a1_1 w1_1).mono fun e W' ⟨he, bel⟩ => ?_
  subst he
  exact ⟨_, rfl, _, _, _, [], _, [], hW', trodAll_mk1 (shut_bool Try.underlying4 _), (trodAll_cons_mk (sr0 _ _) (trodAll_cons_mk (sr1 _ _) trodAll_mk0)), rfl, bel.frame _, fun h => by cases h⟩

theorem over : Rows.rayStepsRow.holds Try.pinned (OpenSpec.ofChange Rows.rayStepsSpec) :=
  OpenClaim.holds_of_wide 8 Try.f8 rfl rfl rfl rfl rfl rfl rfl ⟨rfl, rfl, rfl, rfl, rfl⟩ rfl rfl rfl rfl rfl (by kernel_rfl) Try.func8 (by kernel_rfl)
    (of_decide_eq_true (by kernel_rfl)) (by unfold Func.isWrapper; first | (rw [if_pos (by decide +kernel)]; kernel_rfl) | (rw [if_neg (by decide +kernel)]; exact ⟨rfl, rfl⟩))
    (fun os started H enc _ => lifted os started H enc)

theorem proved : Rows.RayStepsSaid := over
#print axioms proved
end Go.Proofs.Ytafokllnelibcaa.raySteps
