/- Proves the law SlopeSteepest: for every input that can be read it returns true, and the input reads as it did. No conditions. -/
import Derived.Test.YtafokllnelibcaaRows
import Derived.Test.YtafokllnelibcaaSF
import Derived.Carry
import Derived.WalkKit
import Derived.ProofKit
import Derived.OpenShut
import Derived.ShutString
import Derived.ChangeOld
import Derived.Below
import Derived.Lib.SmallJoins
namespace Go.Proofs.Ytafokllnelibcaa.slopeSteepest
open Go.ChangeShapes Go.WideShapes Go.ChangeAt Go.RowKit Go.Joins
open Go.ChangeMaps (open_string shut_string)
set_option linter.unusedVariables false

theorem own : ownKnob Try.prog.godebug = none := by kernel_rfl
theorem laidOut : laidOutB Try.prog = true := by kernel_rfl
theorem ecells51 : Try.prog.cellsOf 51 = 2 := by kernel_rfl

set_option maxRecDepth 100000 in
set_option maxHeartbeats 4000000 in
theorem walk (w : World) (a0 : Option Addr) (len0 cap0 : Nat) (X0 Y0 : Nat → Int) (w0 : PairRow w a0 len0 cap0 X0 Y0) :
    Calls Try.prog 12 #[.slice a0 len0 cap0] w fun e w' => e = .returned (.bool true) ∧ Below w.heap.size w w' := by
  by_cases hn : len0 ≤ 100
  · have hn2 : ¬ (100 : Int) < (len0 : Int) := by omega
    have HP := hide w0
    obtain ⟨hnc, hcm, hwf, hrow⟩ := w0
    have HW := hide hwf
    clear hwf
    rcases Nat.eq_zero_or_pos len0 with h0 | h0
    · subst h0
      clear hrow HW
      go_enter Try.func12, Try.ntmps12
      go_wp2_with fail
      refine (awake24 _).mono ?_
      rintro e w1 ⟨rfl, hb⟩
      go_wp2_with fail
      refine (steep_any a0 0 cap0 X0 Y0 _ ⟨hnc, hcm, fun i hi => absurd hi (by omega), .inl rfl⟩ hn).mono ?_
      rintro e w2 ⟨r, c, rfl, hs, hb2⟩
      have hrc : r = 0 ∧ c = 15 := by
        rcases hs with ⟨_, h1, h2⟩ | ⟨h1, _⟩ | ⟨_, _, b, h1, _⟩
        · exact ⟨h1, h2⟩
        · omega
        · omega
      obtain ⟨rfl, rfl⟩ := hrc
      go_wp2
      go_ret
      exact ⟨rfl, bchain hb hb2⟩
    · obtain ⟨g, off, rfl, hg, hcell⟩ := hrow.resolve_left (by omega)
      have HC := hide hcell
      have n1 : ((len0 : Int) == 0) = false := by rw [beq_eq_false_iff_ne]; omega
      clear hcell hrow
      go_enter Try.func12, Try.ntmps12
      go_wp2_with fail
      refine (awake24 _).mono ?_
      rintro e w1 ⟨rfl, hb⟩
      go_wp2_with fail
      refine (steep_any _ len0 cap0 X0 Y0 _ ⟨hnc, hcm, HW.out, .inr ⟨g, off, rfl, Nat.lt_of_lt_of_le hg hb.size, fun i hi => ⟨kc hb (HC.out i hi).1, kc hb (HC.out i hi).2⟩⟩⟩ hn).mono ?_
      rintro e w2 ⟨r, c, rfl, hs, hb2⟩
      have hB := bchain hb hb2
      clear hb hb2
      rcases hs with ⟨h1, _⟩ | ⟨_, hbad, rfl, rfl⟩ | ⟨hall, rfl, b, hbn, rfl, htop⟩
      · omega
      · have HB := hide hbad
        clear hbad
        go_wp2_with fail
        go_loop [5] (fun v => ∃ m : Nat, v = .int .i64 m ∧ m ≤ len0 ∧ Hid (∀ j, j < m → 1 ≤ Y0 j)) (fun v => len0 - (intOf v).toNat)
        case atStart => exact ⟨0, rfl, by omega, hide fun j hj => absurd hj (by omega)⟩
        case round =>
          obtain ⟨m, rfl, hm, HG⟩ := hrel
          have hlt : m < len0 := by
            apply Classical.byContradiction
            intro h
            obtain ⟨i, hi, hy⟩ := HB.out
            have := HG.out i (by omega)
            omega
          have i1 : (m : Int) < len0 := by omega
          have k1 := kc hB (HC.out m hlt).2
          obtain ⟨y, hy⟩ : ∃ z, Y0 m = z := ⟨_, rfl⟩
          rw [hy] at k1
          have HY := hide hy
          clear hy
          by_cases hy1 : y < 1
          · go_wp2
            go_ret
            exact ⟨rfl, hB⟩
          · go_wp2
            go_round
            case rel => exact ⟨m + 1, by go_num, by omega, hide fun j hj => by
              by_cases hjm : j < m
              · exact HG.out j hjm
              · obtain rfl : j = m := by omega
                rw [HY.out]; omega⟩
            case measure => simp [intOf]; omega
      · have HA := hide hall
        have HT := hide htop
        clear hall htop
        have i3 : (b : Int) < len0 := by omega
        have i4 : (0 : Int) ≤ (b : Int) := by omega
        have i5 : ¬ (b : Int) < 0 := by omega
        go_wp2_with fail
        go_loop [5] (fun v => ∃ m : Nat, v = .int .i64 m ∧ m ≤ len0) (fun v => len0 - (intOf v).toNat)
        case atStart => exact ⟨0, rfl, by omega⟩
        case round =>
          obtain ⟨m, rfl, hm⟩ := hrel
          by_cases hlt : m < len0
          · have i1 : (m : Int) < len0 := by omega
            have k1 := kc hB (HC.out m hlt).2
            have hy1 := HA.out m hlt
            generalize Y0 m = y at *
            go_wp2
            go_round
            case rel => exact ⟨m + 1, by go_num, by omega⟩
            case measure => simp [intOf]; omega
          · obtain rfl : m = len0 := by omega
            go_wp2_with fail
            go_loopw [6] (fun v wr => ∃ m2 : Nat, v = .int .i64 m2 ∧ m2 ≤ m ∧ Below w.heap.size w wr) (fun v _ => m - (intOf v).toNat)
            case atStart => exact ⟨0, rfl, by omega, hB⟩
            case round =>
              obtain ⟨i, rfl, hi, hBi⟩ := hrel
              by_cases hlt2 : i < m
              · have j1 : (i : Int) < m := by omega
                have j2 : (0 : Int) ≤ (i : Int) := by omega
                have c0 := kc hBi.drew (HC.out i hlt2).1
                have c1 := kc hBi.drew (HC.out i hlt2).2
                have d0 := kc hBi.drew (HC.out b hbn).1
                have d1 := kc hBi.drew (HC.out b hbn).2
                obtain ⟨w1', w2'⟩ := HW.out i hlt2
                obtain ⟨w3', w4'⟩ := HW.out b hbn
                have g1 := HA.out i hlt2
                have g2 := HA.out b hbn
                obtain ⟨t1, t2⟩ := HT.out i hlt2
                obtain ⟨ui, hui⟩ : ∃ z, X0 i = z := ⟨_, rfl⟩
                obtain ⟨oi, hoi⟩ : ∃ z, Y0 i = z := ⟨_, rfl⟩
                obtain ⟨ub, hub⟩ : ∃ z, X0 b = z := ⟨_, rfl⟩
                obtain ⟨ob, hob⟩ : ∃ z, Y0 b = z := ⟨_, rfl⟩
                rw [hui] at c0 w1' t1 t2
                rw [hoi] at c1 w2' t1 t2 g1
                rw [hub] at d0 w3' t1 t2
                rw [hob] at d1 w4' t1 t2 g2
                unfold I64 at w1' w2' w3' w4'
                obtain ⟨cv, hcv⟩ : ∃ z, cmp3 (ub * oi) (ui * ob) = z := ⟨_, rfl⟩
                have HCp : Hid (∀ w : World, Calls Try.prog 37 #[.int .i64 ub, .int .i64 ob, .int .i64 ui, .int .i64 oi] w fun e w' => e = .returned (.int .i64 cv) ∧ w = w') := hide fun w => by
                  rw [← hcv]
                  exact rcmp_ok ub ob ui oi w g2 g1 w4'.2 w2'.2 w3'.1 w1'.1 w3'.2 w1'.2
                have v0 : 0 ≤ cv := by rw [← hcv]; unfold cmp3; repeat' split
                                       all_goals omega
                have v1 : i < b → (cv == 0) = false := by
                  intro h
                  have := t2 h
                  rw [beq_eq_false_iff_ne, ← hcv]
                  unfold cmp3; repeat' split
                  all_goals omega
                have V1 := hide v1
                clear hui hoi hub hob hcv t1 t2 v1
                go_wp2_with fail
                go_region_held3 (fun w' => w'.cell? ⟨g, off + i * 2, none⟩ = some (.int .i64 ui) ∧ w'.cell? ⟨g, off + i * 2 + 1, none⟩ = some (.int .i64 oi) ∧ w'.cell? ⟨g, off + b * 2, none⟩ = some (.int .i64 ub) ∧ w'.cell? ⟨g, off + b * 2 + 1, none⟩ = some (.int .i64 ob) ∧ Below w.heap.size w w')
                  (first
                  | exact ⟨c0, c1, d0, d1, hBi.drew⟩
                  | (go_split_ands; refine ⟨?_, ?_, ?_, ?_, ?_⟩ <;> assumption))
                  (first
                  | (go_at_call 37; refine (HCp.out _).mono ?_; rintro e w' ⟨rfl, rfl⟩))
                all_goals
                  rename_i hh
                  obtain ⟨-, -, -, -, hBf⟩ := hh
                  by_cases hib : i < b
                  · have v2 := V1.out hib
                    have v3 : (i : Int) < (b : Int) := by omega
                    go_wp2
                    go_roundw
                    case rel => exact ⟨i + 1, by go_num, by omega, hBf⟩
                    case measure => simp [intOf]; omega
                  · have v3 : ¬ (i : Int) < (b : Int) := by omega
                    go_wp2
                    go_roundw
                    case rel => exact ⟨i + 1, by go_num, by omega, hBf⟩
                    case measure => simp [intOf]; omega
              · obtain rfl : i = m := by omega
                go_wp2
                go_ret
                exact ⟨rfl, hBi⟩
  · have h1 : 100 < len0 := by omega
    have h2 : (100 : Int) < (len0 : Int) := by omega
    go_enter Try.func12, Try.ntmps12
    go_wp2_with fail
    refine (awake24 _).mono ?_
    rintro e w1 ⟨rfl, hb⟩
    go_wp2
    go_ret
    exact ⟨rfl, hb⟩

set_option maxRecDepth 100000 in
theorem lifted (os : Os) (started : os.Started) (H : Type) (enc : TypeId × Value → H) :
    ReturnsInHanded {} Try.checked os 12 .any (Rows.slopeSteepestSpec.pre6 enc Try.prog Try.f12 Rows.slopeSteepestRow.domain false) (Rows.slopeSteepestSpec.post enc Try.prog Try.f12 false true false false) := by
  refine returnsInHanded_of_change (C := Try.checked) own started (by kernel_rfl) Try.func12
    (ChangeSpec.witness6 (enc := enc) (C := Try.checked) false ⟨#[], #[.slice none 0 0], []⟩ 8 (by kernel_rfl) (by kernel_rfl) (by kernel_rfl) (by kernel_rfl)) ?_
  intro W base args ds gs before hval0 hW hcnd _
  have hval : ∀ (j : Nat) t v, Try.f12.params[j]? = some t → args[j]? = some v → Value.okWide Try.prog W .any base t v := hval0
  have hW' := hW
  obtain ⟨p, q, hA0, hV, rfl, hfz, hnd⟩ := hW
  have hA : DataW.TrodAll enc Try.prog W 0 (fun _ => true) true Try.f12.params.toList args.toList ds p := hA0
  rw [Try.params12] at hA hval
  obtain ⟨v0, vs0, d0, ds0, p0, q0, hargs, rfl, rfl, h0, r0⟩ := trodAll_cons hA
  obtain ⟨rfl, rfl, rfl⟩ := trodAll_nil r0
  obtain rfl : args = #[v0] := by cases args; simp_all
  obtain ⟨rfl, rfl⟩ := trodVars_none hV
  obtain ⟨a0, len0, cap0, rfl⟩ := okWide_slice Try.underlying62 (hval 0 62 v0 rfl rfl)
  have k0 := h0
  have lt0 : ∀ x ∈ p0, x.block < W.heap.size := by obtain ⟨m, hm⟩ := k0; exact DataW.trod_lt m _ _ _ hm
  obtain ⟨X0, Y0, w0⟩ := pairRow_of Try.underlying62 Try.underlying51 ecells51 rfl rfl (by kernel_rfl) (by kernel_rfl) Try.underlying2 Try.underlying2 h0
  clear hA0 hval0
  simp only [List.append_nil] at hW'
  refine (walk W a0 len0 cap0 X0 Y0 w0).mono fun e W' ⟨he, bel⟩ => ?_
  subst he
  exact ⟨_, rfl, _, _, _, [], _, [], hW', trodAll_mk1 (shut_bool Try.underlying4 _), (trodAll_cons_mk (Below.trod laidOut (by kernel_rfl) (of_decide_eq_true (by kernel_rfl)) k0 bel lt0) trodAll_mk0), rfl, bel.frame _, fun h => by cases h⟩

theorem over : Rows.slopeSteepestRow.holds Try.pinned (OpenSpec.ofChange Rows.slopeSteepestSpec) :=
  OpenClaim.holds_of_wide 12 Try.f12 rfl rfl rfl rfl rfl rfl rfl ⟨rfl, rfl, rfl, rfl, rfl⟩ rfl rfl rfl rfl rfl (by kernel_rfl) Try.func12 (by kernel_rfl)
    (of_decide_eq_true (by kernel_rfl)) (by unfold Func.isWrapper; first | (rw [if_pos (by decide +kernel)]; kernel_rfl) | (rw [if_neg (by decide +kernel)]; exact ⟨rfl, rfl⟩))
    (fun os started H enc _ => lifted os started H enc)

theorem proved : Rows.SlopeSteepestSaid := over
#print axioms proved
end Go.Proofs.Ytafokllnelibcaa.slopeSteepest
