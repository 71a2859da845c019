/- Proves the law CrcSums: for every input that can be read it returns true, and the input reads as it did. No conditions. -/
import Derived.Test.YtbbldkcakepnoaaRows
import Derived.Test.YtbbldkcakepnoaaCB
import Derived.WalkKit
import Derived.ProofKit
import Derived.OpenShut
import Derived.ShutString
import Derived.ChangeOld
import Derived.Below
namespace Go.Proofs.Ytbbldkcakepnoaa.crcSums
open Go.ChangeShapes Go.WideShapes Go.ChangeAt Go.RowKit
open Go.ChangeMaps (open_string shut_string)
set_option linter.unusedVariables false

theorem own : ownKnob Try.prog.godebug = none := by kernel_rfl
theorem laidOut : laidOutB Try.prog = true := by kernel_rfl

/-- WHAT THE WALK IS TOLD OF A SLICE OF INTEGERS THAT CAME IN: it is nil; or it leads to a row of 'cap' cells, the numbers 'zs' (the first 'len' are its elements, the rest its spare room), each fitting its kind. -/
def IsRow (k : IntKind) (w : World) (a : Option Addr) (len cap : Nat) (zs : List Int) : Prop :=
  (a = none ∧ len = 0 ∧ cap = 0 ∧ zs = []) ∨
  ∃ x, a = some x ∧ len ≤ cap ∧ cap ≤ maxLen ∧ zs.length = cap ∧ (∀ i, i < zs.length → w.cell? (x.add i) = some (.int k (zs.getD i 0))) ∧ ∀ n ∈ zs, (Lit.int k n).wf = true

/-! ### STEP 1: THE WALK: the Go text returns true, AND WRITES NOTHING THAT WAS THERE: 'Below w.heap.size w w'' (Derived/Below.lean: '.refl', '.alloc', '.drew', '.setCell' at a new block, '.trans'). Open each 'IsRow' by 'rcases' AHEAD of 'go_enter'; part every test ahead of the walk. -/
theorem walk (a0 : Option Addr) (len0 cap0 : Nat) (z0 : List Int) (a1 : Option Addr) (len1 cap1 : Nat) (z1 : List Int) (a2 : Int) (w : World) (w0 : IsRow .u8 w a0 len0 cap0 z0) (w1 : IsRow .u8 w a1 len1 cap1 z1) (w2 : (Lit.int .u32 a2).wf = true) :
    Calls Try.prog 4 #[.slice a0 len0 cap0, .slice a1 len1 cap1, .int .u32 a2] w fun e w' => e = .returned (.bool true) ∧ Below w.heap.size w w' := by
  obtain ⟨xs, hra, hxa, hla, hca, hma⟩ := row_reads w0
  obtain ⟨ys, hrb, hyb, hlb, hcb, hmb⟩ := row_reads w1
  have bs := bounds_u32 w2
  have hxr : ∀ x ∈ xs, 0 ≤ x ∧ x ≤ 255 := fun x hx => bounds_u8 (hxa x hx)
  have hyr : ∀ x ∈ ys, 0 ≤ x ∧ x ≤ 255 := fun x hx => bounds_u8 (hyb x hx)
  have HXR := hide hxr
  have HYR := hide hyr
  have HLA := hide hla
  have HLB := hide hlb
  clear hxa hyb w0 w1 w2 hxr hyr hla hlb
  by_cases h1 : len0 ≤ 2000
  · by_cases h2 : len1 ≤ 2000
    · have i1 : ¬ (2000 : Int) < (len0 : Int) := by omega
      have i2 : ¬ (2000 : Int) < (len1 : Int) := by omega
      have hone : ∀ l : List Int, ∀ u ∈ l.map (Value.int .u8), u.oneCell' = true := fun l u hu => by
        obtain ⟨x, _, rfl⟩ := List.mem_map.1 hu
        rfl
      have HONE := hide hone
      obtain ⟨j0, hi, hz0, hz1, hz2⟩ := info_parts Try.infobyte
      have Hi := hide hi
      have Hz0 := hide hz0
      have Hz1 := hide hz1
      have Hz2 := hide hz2
      clear hone hi hz0 hz1 hz2
      have RA := hide hra
      have RB := hide hrb
      clear hra hrb
      go_enter Try.func4, Try.ntmps4
      go_wp2_with fail
      refine (awake03_ok _).mono ?_
      rintro e w1 ⟨rfl, hb1⟩
      have hown0 : (w1.alloc (Obj.cells #[] 5)).ownsRow w1.heap.size 5 1 (.slice (some ⟨w1.heap.size, 0, none⟩) 0 0) 0 [] := World.ownsRow_made w1 #[] 0 (Nat.le_refl _) (Nat.zero_le _) rfl
      have hb0 : Below w1.heap.size w1 (w1.alloc (Obj.cells #[] 5)) := (Below.refl _ _).alloc (Nat.le_refl _) _
      have ra := RA.out.below (hb1.trans (hb0.mono hb1.size))
      have rb := RB.out.below (hb1.trans (hb0.mono hb1.size))
      go_wp2_with (first
        | (at_builtin; (refine wpList_append_any _ rfl (.tmp 18) (.tmp 19) _ rfl w1.heap.size 5 j0 _ 1 1 Try.underlying27 Hi.out Hz0.out Hz1.out Hz2.out rfl (by omega) _ 0 [] rfl hown0 w.heap.size a0 len0 cap0 _ rfl ra (HONE.out _) (by simp only [maxLen]; omega) (by omega) hb0.size ?_); intro v4 w4 hown4 hg4 hat4; have hb4 := hb0.grown hg4 hb0.size (fun k hk => (hown0.lt k hk).1))
        | (at_builtin; (refine wpList_append_any _ rfl (.tmp 20) (.tmp 21) _ rfl w1.heap.size 5 j0 _ 1 1 Try.underlying27 Hi.out Hz0.out Hz1.out Hz2.out rfl (by omega) v4 _ _ rfl hown4 w.heap.size a1 len1 cap1 _ rfl (RB.out.below (hb1.trans (hb4.mono hb1.size))) (HONE.out _) (by simp only [maxLen]; omega) (by omega) hb4.size ?_); intro v5 w5 hown5 hg5 hat5; have hb5 := hb4.grown hg5 hb4.size (fun k hk => (hown4.lt k hk).1)))
      simp only [Nat.zero_add, List.nil_append, ← List.map_append] at hown5
      obtain ⟨B5, d5, rfl, hd5, hm5, hR5⟩ := own_reads hown5
      have hW := hb1.trans (hb5.mono hb1.size)
      have HRa := hide ((RA.out.below hW).more hW.size)
      have HRb := hide ((RB.out.below hW).more hW.size)
      have HR5 := hide hR5
      have HXY : Hid (∀ x ∈ xs ++ ys, 0 ≤ x ∧ x ≤ 255) := hide fun x hx => (List.mem_append.1 hx).elim (HXR.out x) (HYR.out x)
      have HMM := hide (crcM_more xs ys 0)
      have hcr := crcM_rng 0 xs
      clear hown5 hown4 hown0 hg4 hg5 hat4 hat5 hb0 hb4 hb5 ra rb hR5 hb1
      refine (sum_any a0 len0 cap0 xs _ HRa.out HXR.out (by omega) hca hma).mono ?_
      rintro e w6 ⟨rfl, rfl⟩
      go_wp2_with fail
      refine (rsum_any a0 len0 cap0 xs _ HRa.out HXR.out (by omega) hca hma).mono ?_
      rintro e w6 ⟨rfl, rfl⟩
      generalize hc0 : crcM 0 xs = cx at *
      go_wp2_with fail
      refine (more_any a2 a1 len1 cap1 ys _ HRb.out bs.1 bs.2 HYR.out (by omega) hcb hmb).mono ?_
      rintro e w6 ⟨rfl, rfl⟩
      go_wp2_with fail
      refine (rmore_any a2 a1 len1 cap1 ys _ HRb.out bs.1 bs.2 HYR.out (by omega) hcb hmb).mono ?_
      rintro e w6 ⟨rfl, rfl⟩
      generalize crcM a2 ys = cy at *
      have HC0 := hide hc0
      clear hc0
      go_wp2_with fail
      refine (sum_any a0 len0 cap0 xs _ HRa.out HXR.out (by omega) hca hma).mono ?_
      rintro e w6 ⟨rfl, rfl⟩
      rw [HC0.out]
      go_wp2_with fail
      refine (more_any cx a1 len1 cap1 ys _ HRb.out hcr.1 hcr.2 HYR.out (by omega) hcb hmb).mono ?_
      rintro e w6 ⟨rfl, rfl⟩
      rw [HMM.out]
      generalize hc3 : crcM 0 (xs ++ ys) = cz at *
      have HC3 := hide hc3
      clear hc3
      go_wp2_with fail
      refine (sum_any B5 _ d5 (xs ++ ys) _ HR5.out HXY.out (by omega) hd5 hm5).mono ?_
      rintro e w6 ⟨rfl, rfl⟩
      rw [HC3.out]
      go_wp2_with fail
      refine (sum_any none 0 0 [] _ Reads.none_ (by simp) (by omega) (Nat.le_refl _) (Nat.zero_le _)).mono ?_
      rintro e w6 ⟨rfl, rfl⟩
      rw [crcM_nil]
      go_wp2
      go_ret
      exact ⟨rfl, hW⟩
    · have i1 : ¬ (2000 : Int) < (len0 : Int) := by omega
      have i2 : (2000 : Int) < (len1 : Int) := by omega
      go_enter Try.func4, Try.ntmps4
      go_wp2_with fail
      refine (awake03_ok _).mono ?_
      rintro e w1 ⟨rfl, hb1⟩
      go_wp2
      go_ret
      exact ⟨rfl, hb1⟩
  · have i1 : (2000 : Int) < (len0 : Int) := by omega
    go_enter Try.func4, Try.ntmps4
    go_wp2_with fail
    refine (awake03_ok _).mono ?_
    rintro e w1 ⟨rfl, hb1⟩
    go_wp2
    go_ret
    exact ⟨rfl, hb1⟩

/-! ### THE ROW's STEP: WRITTEN OUT: LEAVE IT -/
set_option maxRecDepth 100000 in
theorem lifted (os : Os) (started : os.Started) (H : Type) (enc : TypeId × Value → H) :
    ReturnsInHanded {} Try.checked os 4 .any (Rows.crcSumsSpec.pre6 enc Try.prog Try.f4 Rows.crcSumsRow.domain false) (Rows.crcSumsSpec.post enc Try.prog Try.f4 false true false false) := by
  refine returnsInHanded_of_change (C := Try.checked) own started (by kernel_rfl) Try.func4
    (ChangeSpec.witness6 (enc := enc) (C := Try.checked) false ⟨#[], #[.slice none 0 0, .slice none 0 0, .int .u32 0], []⟩ 8 (by kernel_rfl) (by kernel_rfl) (by kernel_rfl) (by kernel_rfl)) ?_
  intro W base args ds gs before hval0 hW hcnd _
  have hval : ∀ (j : Nat) t v, Try.f4.params[j]? = some t → args[j]? = some v → Value.okWide Try.prog W .any base t v := hval0
  have hW' := hW
  obtain ⟨p, q, hA0, hV, rfl, hfz, hnd⟩ := hW
  have hA : DataW.TrodAll enc Try.prog W 0 (fun _ => true) true Try.f4.params.toList args.toList ds p := hA0
  rw [Try.params4] at hA hval
  obtain ⟨v0, vs0, d0, ds0, p0, q0, hargs, rfl, rfl, h0, r0⟩ := trodAll_cons hA
  obtain ⟨v1, vs1, d1, ds1, p1, q1, rfl, rfl, rfl, h1, r1⟩ := trodAll_cons r0
  obtain ⟨v2, vs2, d2, ds2, p2, q2, rfl, rfl, rfl, h2, r2⟩ := trodAll_cons r1
  obtain ⟨rfl, rfl, rfl⟩ := trodAll_nil r2
  obtain rfl : args = #[v0, v1, v2] := by cases args; simp_all
  obtain ⟨rfl, rfl⟩ := trodVars_none hV
  obtain ⟨a0, len0, cap0, rfl⟩ := okWide_slice Try.underlying27 (hval 0 27 v0 rfl rfl)
  have k0 := h0
  have lt0 : ∀ x ∈ p0, x.block < W.heap.size := by obtain ⟨m, hm⟩ := k0; exact DataW.trod_lt m _ _ _ hm
  obtain ⟨z0, w0⟩ : ∃ zs, IsRow .u8 W a0 len0 cap0 zs := by
    obtain ⟨fuel, hf⟩ := h0
    rcases open_ints Try.underlying27 Try.underlying5 (by kernel_rfl) hf with ⟨hcs, _⟩ | ⟨x, l, c, zs, hcs, _, hl, hm, hz, _, hcell, hwz⟩
    · simp [Value.cells] at hcs
      obtain ⟨rfl, rfl, rfl⟩ := hcs
      exact ⟨[], .inl ⟨rfl, rfl, rfl, rfl⟩⟩
    · simp [Value.cells] at hcs
      obtain ⟨rfl, rfl, rfl⟩ := hcs
      exact ⟨zs, .inr ⟨_, rfl, hl, hm, by simpa using hz, hcell, hwz⟩⟩
  obtain ⟨a1, len1, cap1, rfl⟩ := okWide_slice Try.underlying27 (hval 1 27 v1 rfl rfl)
  have k1 := h1
  have lt1 : ∀ x ∈ p1, x.block < W.heap.size := by obtain ⟨m, hm⟩ := k1; exact DataW.trod_lt m _ _ _ hm
  obtain ⟨z1, w1⟩ : ∃ zs, IsRow .u8 W a1 len1 cap1 zs := by
    obtain ⟨fuel, hf⟩ := h1
    rcases open_ints Try.underlying27 Try.underlying5 (by kernel_rfl) hf with ⟨hcs, _⟩ | ⟨x, l, c, zs, hcs, _, hl, hm, hz, _, hcell, hwz⟩
    · simp [Value.cells] at hcs
      obtain ⟨rfl, rfl, rfl⟩ := hcs
      exact ⟨[], .inl ⟨rfl, rfl, rfl, rfl⟩⟩
    · simp [Value.cells] at hcs
      obtain ⟨rfl, rfl, rfl⟩ := hcs
      exact ⟨zs, .inr ⟨_, rfl, hl, hm, by simpa using hz, hcell, hwz⟩⟩
  obtain ⟨a2, rfl, rfl, rfl, w2⟩ := open_int Try.underlying28 (hval 2 28 v2 rfl rfl) h2
  clear hA0 hval0
  refine (walk a0 len0 cap0 z0 a1 len1 cap1 z1 a2 W w0 w1 w2).mono fun e W' ⟨he, bel⟩ => ?_
  subst he
  exact ⟨_, rfl, _, _, _, [], _, [], hW', trodAll_mk1 (shut_bool Try.underlying4 _), (trodAll_cons_mk (Below.trod laidOut (by kernel_rfl) (of_decide_eq_true (by kernel_rfl)) k0 bel lt0) (trodAll_cons_mk (Below.trod laidOut (by kernel_rfl) (of_decide_eq_true (by kernel_rfl)) k1 bel lt1) (trodAll_cons_mk (shut_int Try.underlying28 w2) trodAll_mk0))), rfl, bel.frame _, fun h => by cases h⟩

theorem over : Rows.crcSumsRow.holds Try.pinned (OpenSpec.ofChange Rows.crcSumsSpec) :=
  OpenClaim.holds_of_wide 4 Try.f4 rfl rfl rfl rfl rfl rfl rfl ⟨rfl, rfl, rfl, rfl, rfl⟩ rfl rfl rfl rfl rfl (by kernel_rfl) Try.func4 (by kernel_rfl)
    (of_decide_eq_true (by kernel_rfl)) (by unfold Func.isWrapper; first | (rw [if_pos (by decide +kernel)]; kernel_rfl) | (rw [if_neg (by decide +kernel)]; exact ⟨rfl, rfl⟩))
    (fun os started H enc _ => lifted os started H enc)

/-- ████ THE STATEMENT ████ -/
theorem proved : Rows.CrcSumsSaid := over
#print axioms proved
end Go.Proofs.Ytbbldkcakepnoaa.crcSums
