/- A slice of pairs that came in, as two functions; contracts of slope.Steepest. -/
import Derived.Test.YtafokllnelibcaaSD
import Derived.Test.YtafokllnelibcaaWS
import Derived.Deep.SlicePairs
import Derived.Deep.RegionHeld3
namespace Go.Proofs.Ytafokllnelibcaa
open Go.RowKit Go.Lib

def I64 (x : Int) : Prop := -9223372036854775808 ≤ x ∧ x ≤ 9223372036854775807
/-- A slice of pairs of 64-bit numbers that came in. -/
def PairRow (W : World) (a : Option Addr) (len cap : Nat) (X Y : Nat → Int) : Prop :=
  len ≤ cap ∧ cap ≤ maxLen ∧ (∀ i, i < len → I64 (X i) ∧ I64 (Y i)) ∧
    (len = 0 ∨ ∃ b off, a = some ⟨b, off, none⟩ ∧ b < W.heap.size ∧ ∀ i, i < len → W.cell? ⟨b, off + i * 2, none⟩ = some (.int .i64 (X i)) ∧ W.cell? ⟨b, off + i * 2 + 1, none⟩ = some (.int .i64 (Y i)))
theorem wf_i64 {x : Int} (h : (Lit.int .i64 x).wf = true) : I64 x := by
  exact bounds_i64 h
theorem pairRow_of {H : Type} {enc : TypeId × Value → H} {P : Program} {W : World} {t e : TypeId} {f0 f1 : Field} (ht : P.underlying t = some (.slice e)) (he : P.underlying e = some (.struct #[f0, f1]))
    (ce : P.cellsOf e = 2) (o0 : f0.offset = 0) (o1 : f1.offset = 1) (c0 : P.cellsOf f0.type = 1) (c1 : P.cellsOf f1.type = 1) (u0 : P.underlying f0.type = some (.int .i64)) (u1 : P.underlying f1.type = some (.int .i64))
    {a : Option Addr} {len cap : Nat} {d : DataW H} {p : List MemPlace} (h : DataW.Trod enc P W 0 (fun _ => true) true t (.slice a len cap) d p) : ∃ X Y, PairRow W a len cap X Y := by
  obtain ⟨fuel, hf⟩ := h
  rcases Go.Deep.open_slice_pairs ht he ce o0 o1 c0 c1 hf with ⟨hcs, _⟩ | ⟨x, l, c, m, n, V0, V1, D0, D1, P0, P1, hcs, _, hl, hm, hmm, _, hall⟩
  · simp [Value.cells] at hcs
    obtain ⟨rfl, rfl, rfl⟩ := hcs
    exact ⟨fun _ => 0, fun _ => 0, Nat.le_refl _, Nat.zero_le _, fun i hi => absurd hi (by omega), .inl rfl⟩
  · simp [Value.cells] at hcs
    obtain ⟨rfl, rfl, rfl⟩ := hcs
    simp at hmm
    subst hmm
    have hv : ∀ i, i < len → W.cell? (x.add (i * 2)) = some (.int .i64 (intOf (V0 i))) ∧ W.cell? (x.add (i * 2 + 1)) = some (.int .i64 (intOf (V1 i))) ∧ I64 (intOf (V0 i)) ∧ I64 (intOf (V1 i)) := by
      intro i hi
      obtain ⟨g0, g1, g2, g3⟩ := hall i (by omega)
      obtain ⟨y0, e0, _, w0⟩ := DataW.trod_int u0 g2
      obtain ⟨y1, e1, _, w1⟩ := DataW.trod_int u1 g3
      simp at e0 e1
      rw [e0] at g0
      rw [e1] at g1
      rw [e0, e1]
      exact ⟨g0, g1, wf_i64 w0, wf_i64 w1⟩
    refine ⟨fun i => intOf (V0 i), fun i => intOf (V1 i), hl, hm, fun i hi => ⟨(hv i hi).2.2.1, (hv i hi).2.2.2⟩, ?_⟩
    rcases Nat.eq_zero_or_pos len with h0 | h0
    · exact .inl h0
    · obtain ⟨b, off, sp⟩ := x
      have h1 := (hv 0 h0).1
      have hsp : sp = none := by simpa [Addr.add] using World.cell?_spot h1
      subst hsp
      have ha : ∀ j, (⟨b, off, none⟩ : Addr).add j = ⟨b, off + j, none⟩ := fun j => by unfold Addr.add; split <;> simp_all
      refine .inr ⟨b, off, rfl, ?_, fun i hi => ?_⟩
      · have := World.block_lt_of_cell? W _ h1
        rw [ha] at this
        exact this
      · have := hv i hi
        rw [ha, ha] at this
        exact ⟨this.1, by rw [Nat.add_assoc]; exact this.2.1⟩

theorem frac_trans {ua oa ub ob uc oc : Int} (ha : 1 ≤ oa) (hb : 1 ≤ ob) (hc : 1 ≤ oc) (h1 : ub * oa < ua * ob) (h2 : uc * ob ≤ ub * oc) : uc * oa < ua * oc := by
  have e1 : uc * ob * oa ≤ ub * oc * oa := Int.mul_le_mul_of_nonneg_right h2 (by omega)
  have e2 : ub * oa * oc < ua * ob * oc := Int.mul_lt_mul_of_pos_right h1 (by omega)
  have e3 : ub * oc * oa = ub * oa * oc := Int.mul_right_comm _ _ _
  have e4 : uc * ob * oa = ob * (uc * oa) := by rw [Int.mul_comm uc ob, Int.mul_assoc]
  have e5 : ua * ob * oc = ob * (ua * oc) := by rw [Int.mul_comm ua ob, Int.mul_assoc]
  have e6 : ob * (uc * oa) < ob * (ua * oc) := by omega
  exact Int.lt_of_mul_lt_mul_left e6 (by omega)

/-- None of the first k is more than the b-th, and those ahead of it are less. -/
def Top (X Y : Nat → Int) (k b : Nat) : Prop := ∀ j, j < k → X j * Y b ≤ X b * Y j ∧ (j < b → X j * Y b < X b * Y j)
theorem top_stay {X Y : Nat → Int} {k b : Nat} (h : Top X Y k b) (hb : b ≤ k) (hc : ¬ X b * Y k < X k * Y b) : Top X Y (k + 1) b := by
  intro j hj
  by_cases hjk : j < k
  · exact h j hjk
  · obtain rfl : j = k := by omega
    exact ⟨by omega, fun h => absurd h (by omega)⟩
theorem top_new {X Y : Nat → Int} {k b : Nat} (h : Top X Y k b) (hb : b < k) (hg : ∀ j, j ≤ k → 1 ≤ Y j) (hc : X b * Y k < X k * Y b) : Top X Y (k + 1) k := by
  intro j hj
  by_cases hjk : j < k
  · have := frac_trans (hg k (by omega)) (hg b (by omega)) (hg j (by omega)) hc (h j hjk).1
    exact ⟨by omega, fun _ => this⟩
  · obtain rfl : j = k := by omega
    exact ⟨by omega, fun h => absurd h (by omega)⟩

def SteepP (n : Nat) (X Y : Nat → Int) (r c : Int) : Prop :=
  (n = 0 ∧ r = 0 ∧ c = 15) ∨ (0 < n ∧ (∃ i, i < n ∧ Y i < 1) ∧ r = 0 ∧ c = 13) ∨ ((∀ i, i < n → 1 ≤ Y i) ∧ c = 0 ∧ ∃ b : Nat, b < n ∧ r = b ∧ Top X Y n b)
def SteepR (w : World) (n : Nat) (X Y : Nat → Int) (e : Ending) (w' : World) : Prop := ∃ r c : Int, e = .returned (.tuple #[.int .i64 r, .int .i64 c]) ∧ SteepP n X Y r c ∧ Below w.heap.size w w'

theorem gt_cmp3 (x y : Int) : (0 < cmp3 x y ↔ y < x) := by
  unfold cmp3
  repeat' split
  all_goals omega

set_option maxRecDepth 100000 in
set_option maxHeartbeats 2000000 in
theorem steep_any (a : Option Addr) (n cap : Nat) (X Y : Nat → Int) (w : World) (h : PairRow w a n cap X Y) (hn : n ≤ 100) :
    Calls Try.prog 39 #[.slice a n cap] w fun e w' => SteepR w n X Y e w' := by
  obtain ⟨hnc, hcm, hwf, hrow⟩ := h
  rcases Nat.eq_zero_or_pos n with h0 | h0
  · subst h0
    go_enter Try.func39, Try.ntmps39
    go_wp2
    go_ret2
    exact ⟨0, 15, rfl, .inl ⟨rfl, rfl, rfl⟩, Below.refl _ _⟩
  · obtain ⟨g, off, rfl, hg, hcell⟩ := hrow.resolve_left (by omega)
    have HC := hide hcell
    have HW := hide hwf
    have n1 : ((n : Int) == 0) = false := by rw [beq_eq_false_iff_ne]; omega
    clear hcell hwf hrow
    go_enter Try.func39, Try.ntmps39
    go_wp2_with fail
    go_loopw [4, 14] (fun v c wr => ∃ k b : Nat, c = .int .i64 k ∧ v = .int .i64 b ∧ k ≤ n ∧ (b < k ∨ (k = 0 ∧ b = 0)) ∧ Hid (∀ j, j < k → 1 ≤ Y j) ∧ Hid (Top X Y k b) ∧ Below w.heap.size w wr) (fun _ c _ => n - (intOf c).toNat)
    case atStart => exact ⟨0, 0, rfl, rfl, by omega, .inr ⟨rfl, rfl⟩, hide fun j hj => absurd hj (by omega), hide fun j hj => absurd hj (by omega), Below.refl _ _⟩
    case round =>
      obtain ⟨k, b, rfl, rfl, hk, hbk, HG, HT, hB⟩ := hrel
      by_cases hlt : k < n
      · have i1 : (k : Int) < n := by omega
        have i2 : (0 : Int) ≤ (k : Int) := by omega
        have hbn : b < n := by omega
        have i3 : (b : Int) < n := by omega
        have i4 : (0 : Int) ≤ (b : Int) := by omega
        have hwr := hB.size
        obtain ⟨k0, k1⟩ := HC.out k hlt
        obtain ⟨b0, b1⟩ := HC.out b hbn
        have K0 := hide (kc (hB.mono (Nat.le_refl _)) k0)
        have K1 := hide (kc (hB.mono (Nat.le_refl _)) k1)
        have B0 := hide (kc (hB.mono (Nat.le_refl _)) b0)
        have B1 := hide (kc (hB.mono (Nat.le_refl _)) b1)
        obtain ⟨w1, w2⟩ := HW.out k hlt
        obtain ⟨w3, w4⟩ := HW.out b hbn
        obtain ⟨uk, huk⟩ : ∃ z, X k = z := ⟨_, rfl⟩
        obtain ⟨ok, hok⟩ : ∃ z, Y k = z := ⟨_, rfl⟩
        obtain ⟨ub, hub⟩ : ∃ z, X b = z := ⟨_, rfl⟩
        obtain ⟨ob, hob⟩ : ∃ z, Y b = z := ⟨_, rfl⟩
        have c0 := K0.out
        have c1 := K1.out
        have d0 := B0.out
        have d1 := B1.out
        rw [huk] at c0 w1
        rw [hok] at c1 w2
        rw [hub] at d0 w3
        rw [hob] at d1 w4
        unfold I64 at w1 w2 w3 w4
        have UK := hide huk
        have OK := hide hok
        have UB := hide hub
        have OB := hide hob
        clear k0 k1 b0 b1 K0 K1 B0 B1 huk hok hub hob
        have hcase : ok < 1 ∨ (1 ≤ ok ∧ 1 ≤ ob) := by
          rcases hbk with hb | ⟨hk0, hb0⟩
          · have := HG.out b hb
            rw [OB.out] at this
            omega
          · have : ok = ob := by rw [← OK.out, ← OB.out, hk0, hb0]
            omega
        rcases hcase with hbad | ⟨hg1, hg2⟩
        · have HCp : Hid (∀ w : World, Calls Try.prog 33 #[.agg #[.int .i64 uk, .int .i64 ok], .agg #[.int .i64 ub, .int .i64 ob]] w fun e w' => e = .returned (.tuple #[.int .i64 0, .int .i64 13]) ∧ Below w.heap.size w w') := hide fun w => cmp_bad uk ok ub ob w (.inl hbad)
          go_wp2_with fail
          obtain ⟨U, hU⟩ : ∃ U, U = wr.alloc (Obj.cells #[Value.int IntKind.i64 uk, Value.int IntKind.i64 ok] 51) := ⟨_, rfl⟩
          have T0 : At U.drew wr.heap.size [.int .i64 uk, .int .i64 ok] := by rw [hU]; exact At.drew At.new
          have D0 : U.drew.cell? ⟨g, off + b * 2, none⟩ = some (.int .i64 ub) := by rw [hU]; exact kc (Below.drew below_at) d0
          have D1 : U.drew.cell? ⟨g, off + b * 2 + 1, none⟩ = some (.int .i64 ob) := by rw [hU]; exact kc (Below.drew below_at) d1
          have hBU : Below w.heap.size w U.drew := by rw [hU]; exact (below_put hB).drew
          rw [← hU]
          clear hU c0 c1 d0 d1
          obtain ⟨t0, t1⟩ := T0.two
          go_region_held3 (fun w' => w'.cell? ⟨wr.heap.size, 0, none⟩ = some (.int .i64 uk) ∧ w'.cell? ⟨wr.heap.size, 1, none⟩ = some (.int .i64 ok) ∧ w'.cell? ⟨g, off + b * 2, none⟩ = some (.int .i64 ub) ∧ w'.cell? ⟨g, off + b * 2 + 1, none⟩ = some (.int .i64 ob) ∧ Below w.heap.size w w')
            (first
            | exact ⟨t0, t1, D0, D1, hBU⟩
            | (go_split_ands; refine ⟨kc hbq ?_, kc hbq ?_, kc hbq ?_, kc hbq ?_, bchain ?_ hbq⟩ <;> assumption))
            (first
            | (go_at_call 33; refine (HCp.out _).mono ?_; rintro e wq ⟨rfl, hbq⟩))
          all_goals
            rename_i hh
            obtain ⟨-, -, -, -, hBf⟩ := hh
            go_wp2_with fail
            go_ret2
            exact ⟨0, 13, rfl, .inr (.inl ⟨by omega, ⟨k, hlt, by rw [OK.out]; exact hbad⟩, rfl, rfl⟩), hBf⟩
        · obtain ⟨cv, hcv⟩ : ∃ z, cmp3 (uk * ob) (ub * ok) = z := ⟨_, rfl⟩
          have HCp : Hid (∀ w : World, Calls Try.prog 33 #[.agg #[.int .i64 uk, .int .i64 ok], .agg #[.int .i64 ub, .int .i64 ob]] w fun e w' => e = .returned (.tuple #[.int .i64 cv, .int .i64 0]) ∧ Below w.heap.size w w') := hide fun w => by
            rw [← hcv]
            exact cmp_ok uk ok ub ob w hg1 hg2 w2.2 w4.2 w1.1 w3.1 w1.2 w3.2
          have HV := hide (show 0 < cv ↔ X b * Y k < X k * Y b by rw [← hcv, gt_cmp3, UK.out, OK.out, UB.out, OB.out])
          have HG2 : Hid (∀ j, j < k + 1 → 1 ≤ Y j) := hide fun j hj => by
            by_cases hjk : j < k
            · exact HG.out j hjk
            · obtain rfl : j = k := by omega
              rw [OK.out]; exact hg1
          clear hcv
          have hsp : 0 < cv ∨ cv ≤ 0 := by omega
          go_wp2_with fail
          obtain ⟨U, hU⟩ : ∃ U, U = wr.alloc (Obj.cells #[Value.int IntKind.i64 uk, Value.int IntKind.i64 ok] 51) := ⟨_, rfl⟩
          have T0 : At U.drew wr.heap.size [.int .i64 uk, .int .i64 ok] := by rw [hU]; exact At.drew At.new
          have D0 : U.drew.cell? ⟨g, off + b * 2, none⟩ = some (.int .i64 ub) := by rw [hU]; exact kc (Below.drew below_at) d0
          have D1 : U.drew.cell? ⟨g, off + b * 2 + 1, none⟩ = some (.int .i64 ob) := by rw [hU]; exact kc (Below.drew below_at) d1
          have hBU : Below w.heap.size w U.drew := by rw [hU]; exact (below_put hB).drew
          rw [← hU]
          clear hU c0 c1 d0 d1
          obtain ⟨t0, t1⟩ := T0.two
          go_region_held3 (fun w' => w'.cell? ⟨wr.heap.size, 0, none⟩ = some (.int .i64 uk) ∧ w'.cell? ⟨wr.heap.size, 1, none⟩ = some (.int .i64 ok) ∧ w'.cell? ⟨g, off + b * 2, none⟩ = some (.int .i64 ub) ∧ w'.cell? ⟨g, off + b * 2 + 1, none⟩ = some (.int .i64 ob) ∧ Below w.heap.size w w')
            (first
            | exact ⟨t0, t1, D0, D1, hBU⟩
            | (go_split_ands; refine ⟨kc hbq ?_, kc hbq ?_, kc hbq ?_, kc hbq ?_, bchain ?_ hbq⟩ <;> assumption))
            (first
            | (go_at_call 33; refine (HCp.out _).mono ?_; rintro e wq ⟨rfl, hbq⟩))
          all_goals
            rename_i hh
            obtain ⟨-, -, -, -, hBf⟩ := hh
            rcases hsp with hv | hv
            · go_wp2_with fail
              refine ⟨⟨k + 1, k, by go_num, rfl, by omega, .inl (by omega), HG2, hide ?_, hBf⟩, by simp [intOf]; omega⟩
              have hvv := HV.out.1 hv
              rcases hbk with hb | ⟨hk0, hb0⟩
              · exact top_new HT.out hb (fun j hj => HG2.out j (by omega)) hvv
              · exfalso
                rw [hk0, hb0] at hvv
                omega
            · go_wp2_with fail
              refine ⟨⟨k + 1, b, by go_num, rfl, by omega, .inl (by omega), HG2, hide ?_, hBf⟩, by simp [intOf]; omega⟩
              exact top_stay HT.out (by omega) fun h => absurd (HV.out.2 h) (by omega)
      · obtain rfl : k = n := by omega
        go_wp2
        go_ret2
        exact ⟨_, _, rfl, .inr (.inr ⟨HG.out, rfl, b, by omega, rfl, HT.out⟩), hB⟩
end Go.Proofs.Ytafokllnelibcaa
