/- The law PredFlat. -/
import Derived.Test.YtafokllnelibcaaPH
namespace Go.Proofs.Ytafokllnelibcaa
open Go.RowKit Go.Lib

/-- out = append(out, x) beside another row of the call's own, which stays as it was. -/
theorem wpList_append_one2 {P : Program} {ops : Array Oper} {rest : List Oper} {o : Oper} {a : Act} {Q : Exit → Act → World → Prop} (hgd : o.guard = none) (s x : Operand) (t : TypeId)
    (ho : o.op = .call { callee := .builtin .append, args := #[s, x], argTypes := #[t, t] })
    (e : TypeId) (z : Value) (bytes : Nat) (ht : P.underlying t = some (.slice e)) (hinfo : (P.info? e).map (fun i => (i.zero, i.size, i.bytes)) = some (some z, 1, bytes)) (hzs : z.cells.size = 1) (hby : bytes ≤ 16)
    {base : Nat} {v : Value} {n : Nat} {xs : List Value} {wr : World} (hown : wr.ownsRow base e 1 v n xs) (hs : a.eval s = v) {y : Value}
    (hx : a.eval x = .slice (some ⟨wr.heap.size, 0, none⟩) 1 1) (hy : y.oneCell' = true) (hn : n ≤ 1000000000000) (hbase : base ≤ wr.heap.size)
    (h : ∀ v' w', w'.ownsRow base e 1 v' (n + 1) (xs ++ [y]) → Below base wr w' →
      (∀ v2 n2 xs2, wr.ownsRow base e 1 v2 n2 xs2 → (v2.ownBlock = none ∨ v2.ownBlock ≠ v.ownBlock) → w'.ownsRow base e 1 v2 n2 xs2 ∧ (v2.ownBlock = none ∨ v2.ownBlock ≠ v'.ownBlock)) →
      wpList P ops Q rest (a.put o.dst v') w') : wpList P ops Q (o :: rest) a (wr.alloc (.cells #[y] e)) := by
  obtain ⟨i0, hi, hz0, hz1, hz2⟩ := info_parts hinfo
  have hcell : (wr.alloc (.cells #[y] e)).cell? ⟨wr.heap.size, 0, none⟩ = some y := by rw [World.cell?_alloc_at _ _ _ _ rfl]; rfl
  refine wpList_append_any (wr.alloc (.cells #[y] e)) hgd s x t ho base e i0 z 1 bytes ht hi hz0 hz1 hz2 hzs (by omega) v n xs hs (hown.alloc _) (wr.heap.size + 1) (some ⟨wr.heap.size, 0, none⟩) 1 1 [y] hx
    ⟨rfl, fun _ => ⟨_, rfl, by simp, fun j u hu => ?_⟩⟩ ?_ ?_ ?_ ?_ ?_
  · have hj : j = 0 := by
      rcases Nat.eq_zero_or_pos j with h0 | h0
      · exact h0
      · rw [List.getElem?_cons, if_neg (by omega)] at hu; simp at hu
    subst hj
    have hu' : y = u := by simpa using hu
    subst hu'
    exact hcell
  · intro u hu
    have : u = y := by simpa using hu
    subst this
    exact hy
  · simp only [maxLen]; omega
  · have : (n + 1) * bytes ≤ (n + 1) * 16 := Nat.mul_le_mul_left _ hby
    omega
  · simp; omega
  · intro v' w' h2 h3 h4
    refine h v' w' h2 (((Below.refl base wr).alloc hbase _).grown h3 (by simp; omega) (fun k hk => (hown.lt k hk).1)) fun v2 n2 xs2 ho2 hne => ?_
    have hlt := ho2.lt
    refine ⟨(ho2.alloc _).kept h3 hne, ?_⟩
    rcases hne with hne | hne
    · exact .inl hne
    · rcases h4 with h4 | h4
      · exact .inr (by rw [h4]; exact hne)
      · refine .inr fun he => ?_
        rw [h4] at he
        have := (hlt _ he).2
        simp at this
        omega

def slopeF (v A D : Int) (W : Nat) (j : Nat) : Int := v + ((j % W : Nat) : Int) * A + ((j / W : Nat) : Int) * D

theorem slopeF_at (v A D : Int) (W y x : Nat) (hx : x < W) : slopeF v A D W (y * W + x) = v + (x : Int) * A + (y : Int) * D := by
  unfold slopeF
  rw [Nat.mul_comm y W, Nat.mul_add_mod, Nat.mod_eq_of_lt hx, Nat.mul_add_div (by omega), Nat.div_eq_of_lt hx, Nat.add_zero]

theorem flat_rest (K W : Nat) (v : Int) (i : Nat) (hK : 1 ≤ K) (hW : 1 ≤ W) : restS K W (fun _ => v) i = if i = 0 then v else 0 := by
  show v - gS K W i (fun _ => v) = _
  unfold gS
  by_cases h0 : i = 0
  · rw [if_pos (.inr h0), if_pos h0]; omega
  · rw [if_neg (by omega), if_neg h0]
    split
    · show v - v = 0; omega
    · split
      · show v - v = 0; omega
      · show v - med v v v = 0; unfold med; omega

theorem slope_rest (W : Nat) (v A D : Int) (i : Nat) (hW : 1 ≤ W) (hA : 0 ≤ A) (hD : 0 ≤ D) (hi : W ≤ i) (hm : 0 < i % W) : restS 2 W (slopeF v A D W) i = if D < A then D else A := by
  obtain ⟨y, x, rfl, hx, hx0, hy⟩ : ∃ y x : Nat, i = y * W + x ∧ x < W ∧ 0 < x ∧ 1 ≤ y := by
    refine ⟨i / W, i % W, by rw [Nat.mul_comm]; exact (Nat.div_add_mod i W).symm, Nat.mod_lt _ (by omega), hm, ?_⟩
    exact (Nat.le_div_iff_mul_le (by omega)).2 (by omega)
  obtain ⟨y, rfl⟩ : ∃ y', y = y' + 1 := ⟨y - 1, by omega⟩
  have e0 : (y + 1) * W = y * W + W := by rw [Nat.add_mul, Nat.one_mul]
  have hmod : ¬ ((y + 1) * W + x) % W = 0 := by omega
  have e1 : (y + 1) * W + x - 1 = (y + 1) * W + (x - 1) := by omega
  have e2 : (y + 1) * W + x - W = y * W + x := by rw [e0]; omega
  have e3 : (y + 1) * W + x - W - 1 = y * W + (x - 1) := by rw [e0]; omega
  unfold restS gS
  rw [if_neg (by omega), if_neg hmod, if_neg (by omega), e1, e3, e2, slopeF_at _ _ _ _ _ _ hx, slopeF_at _ _ _ _ _ _ (show x - 1 < W by omega), slopeF_at _ _ _ _ _ _ hx, slopeF_at _ _ _ _ _ _ (show x - 1 < W by omega)]
  have c1 : ((x - 1 : Nat) : Int) * A = (x : Int) * A - A := by rw [show ((x - 1 : Nat) : Int) = (x : Int) - 1 by omega, Int.sub_mul, Int.one_mul]
  have c2 : ((y + 1 : Nat) : Int) * D = (y : Int) * D + D := by rw [show ((y + 1 : Nat) : Int) = (y : Int) + 1 by omega, Int.add_mul, Int.one_mul]
  rw [c1, c2]
  generalize (x : Int) * A = p
  generalize (y : Int) * D = q
  clear e0 e1 e2 e3 c1 c2 hmod hm hi
  unfold med
  simp only [Int.min_def, Int.max_def]
  repeat' split
  all_goals omega


theorem mul_rng (a k m : Int) (h0 : 0 ≤ a) (h1 : a ≤ m) (h2 : 0 ≤ k) (h3 : k ≤ 20) : 0 ≤ k * a ∧ k * a ≤ 20 * m :=
  ⟨Int.mul_nonneg h2 h0, Int.mul_le_mul h3 h1 h0 (by omega)⟩

theorem slopeF_may (v A D : Int) (W j : Nat) (hv0 : -1000000000 ≤ v) (hv1 : v ≤ 1000000000) (hA0 : 0 ≤ A) (hA1 : A ≤ 1000000) (hD0 : 0 ≤ D) (hD1 : D ≤ 1000000) (hW : 1 ≤ W) (hW20 : W ≤ 20) (hj : j < 20 * W) : mayP (slopeF v A D W j) := by
  have h1 : j % W < W := Nat.mod_lt _ (by omega)
  have h2 : j / W < 20 := Nat.div_lt_of_lt_mul (by rw [Nat.mul_comm]; exact hj)
  unfold slopeF mayP
  generalize j % W = p at *
  generalize j / W = q at *
  obtain ⟨a0, a1⟩ := mul_rng A (p : Int) 1000000 hA0 hA1 (by omega) (by omega)
  obtain ⟨d0, d1⟩ := mul_rng D (q : Int) 1000000 hD0 hD1 (by omega) (by omega)
  omega

def Apart (v u : Value) : Prop := u.ownBlock = none ∨ u.ownBlock ≠ v.ownBlock
theorem Apart.symm {v u : Value} (h : Apart v u) : Apart u v := by
  unfold Apart at *
  rcases h with h | h
  · by_cases h2 : v.ownBlock = none
    · exact .inl h2
    · exact .inr (by rw [h]; exact h2)
  · exact .inr (fun e => h e.symm)

theorem restS_congr (K W : Nat) (f g : Nat → Int) (i : Nat) (hW : 1 ≤ W) (h : ∀ j, j ≤ i → f j = g j) : restS K W f i = restS K W g i := by
  unfold restS
  rw [h i (Nat.le_refl _), gS_congr K W i f g hW (fun j hj => h j (by omega))]

/-- Both rows of the law, N cells of each. -/
def Rows2 (B : Nat) (v A D : Int) (W N : Nat) (fl sl : Value) (wr : World) : Prop :=
  wr.ownsRow B 2 1 fl N (((List.range N).map (fun _ => v)).map (Value.int .i64)) ∧ wr.ownsRow B 2 1 sl N (((List.range N).map (slopeF v A D W)).map (Value.int .i64)) ∧ Apart fl sl

set_option maxRecDepth 100000 in
set_option maxHeartbeats 6400000 in
theorem flat_law (v W0 R0 A D : Int) (w : World) :
    Calls Try.prog 6 #[.int .i64 v, .int .i64 W0, .int .i64 R0, .int .i64 A, .int .i64 D] w fun e w' => e = .returned (.bool true) ∧ Below w.heap.size w w' := by
  by_cases hbad : W0 < 1 ∨ W0 > 20 ∨ R0 < 1 ∨ R0 > 20 ∨ v < -1000000000 ∨ v > 1000000000 ∨ A < 0 ∨ A > 1000000 ∨ D < 0 ∨ D > 1000000
  · go_enter Try.func6, Try.ntmps6
    go_wp2_with fail
    refine (awake04 w).mono ?_
    rintro e w1 ⟨rfl, hb⟩
    go_wp2
    all_goals first
      | (exfalso; omega)
      | (go_ret; exact ⟨rfl, hb⟩)
  · obtain ⟨W, rfl⟩ : ∃ W : Nat, W0 = W := ⟨W0.toNat, by omega⟩
    obtain ⟨R, rfl⟩ : ∃ R : Nat, R0 = R := ⟨R0.toNat, by omega⟩
    go_enter Try.func6, Try.ntmps6
    go_wp2_with fail
    refine (awake04 w).mono ?_
    rintro e w1 ⟨rfl, hb⟩
    have hW1 : 1 ≤ W := by omega
    have hW2 : W ≤ 20 := by omega
    have hR1 : 1 ≤ R := by omega
    have hR2 : R ≤ 20 := by omega
    have hv1 : -1000000000 ≤ v := by omega
    have hv2 : v ≤ 1000000000 := by omega
    have hA1 : 0 ≤ A := by omega
    have hA2 : A ≤ 1000000 := by omega
    have hD1 : 0 ≤ D := by omega
    have hD2 : D ≤ 1000000 := by omega
    have t1 : decide ((W : Int) < 1) = false := by simp; omega
    have t2 : decide ((20 : Int) < W) = false := by simp; omega
    have t3 : decide ((R : Int) < 1) = false := by simp; omega
    have t4 : decide ((20 : Int) < R) = false := by simp; omega
    have t5 : decide (v < -1000000000) = false := by simp; omega
    have t6 : decide (1000000000 < v) = false := by simp; omega
    have t7 : decide (A < 0) = false := by simp; omega
    have t8 : decide (1000000 < A) = false := by simp; omega
    have t9 : decide (D < 0) = false := by simp; omega
    have t10 : decide (1000000 < D) = false := by simp; omega
    clear hbad
    go_wp2
    obtain ⟨B, hB⟩ : ∃ B, Hid (B = w1.heap.size) := ⟨_, rfl⟩
    have hbB : w.heap.size ≤ B := by rw [hB.out]; exact hb.size
    have hrow0 : Rows2 B v A D W 0 (.slice (some ⟨w1.heap.size, 0, none⟩) 0 0) (.slice (some ⟨w1.heap.size + 1, 0, none⟩) 0 0) ((w1.alloc (Obj.cells #[] 2)).alloc (Obj.cells #[] 2)) := by
      rw [hB.out]
      refine ⟨(World.ownsRow_made w1 #[] 0 (Nat.le_refl _) (Nat.zero_le _) rfl).alloc _, ?_, ?_⟩
      · have := World.ownsRow_made (w1.alloc (Obj.cells #[] 2)) (e := 2) (size := 1) (base := w1.heap.size) #[] 0 (by simp) (Nat.zero_le _) rfl
        simpa using this
      · exact .inr (by simp [Value.ownBlock])
    have hb0 : Below w.heap.size w ((w1.alloc (Obj.cells #[] 2)).alloc (Obj.cells #[] 2)) := (hb.alloc hb.size _).alloc (by simp; have := hb.size; omega) _
    have hBs : B ≤ ((w1.alloc (Obj.cells #[] 2)).alloc (Obj.cells #[] 2)).heap.size := by rw [hB.out]; simp; omega
    clear hb
    go_loopw [11, 12, 13] (fun fl sl yy wr => ∃ y : Nat, yy = .int .i64 y ∧ y ≤ R ∧ Rows2 B v A D W (y * W) fl sl wr ∧ Below w.heap.size w wr ∧ B ≤ wr.heap.size) (fun _ _ yy _ => R - (intOf yy).toNat)
    case atStart => exact ⟨0, rfl, by omega, by rw [Nat.zero_mul]; exact hrow0, hb0, hBs⟩
    case round =>
      obtain ⟨y, rfl, hy, hrow, hb, hBs'⟩ := hrel
      clear hrow0 hb0 hBs
      by_cases hlt : y < R
      · go_wp2
        obtain ⟨wo, hwo⟩ : ∃ wo : World, Hid (wo = wr) := ⟨_, rfl⟩
        rw [← hwo.out] at hrow hb hBs' ⊢
        clear hwo
        obtain ⟨d0, d1⟩ := mul_rng D (y : Int) 1000000 hD1 hD2 (by omega) (by omega)
        go_loopw [11, 12, 14] (fun fl sl xx wr => ∃ x : Nat, xx = .int .i64 x ∧ x ≤ W ∧ Rows2 B v A D W (y * W + x) fl sl wr ∧ Below w.heap.size w wr ∧ B ≤ wr.heap.size) (fun _ _ xx _ => W - (intOf xx).toNat)
        case atStart => exact ⟨0, rfl, by omega, hrow, hb, hBs'⟩
        case round =>
          obtain ⟨x, rfl, hx, hrow2, hb2, hBs2⟩ := hrel
          clear hrow hb hBs'
          by_cases hltx : x < W
          · obtain ⟨a0, a1⟩ := mul_rng A (x : Int) 1000000 hA1 hA2 (by omega) (by omega)
            obtain ⟨hF, hS, hAp⟩ := hrow2
            have hN : y * W + x ≤ 1000 := by
              have : y * W ≤ 20 * 20 := Nat.mul_le_mul (by omega) (by omega)
              omega
            have hSl := hide (slopeF_at v A D W y x hltx)
            have hrF := hide (range_snoc (fun _ => v) (y * W + x))
            have hrS := hide (range_snoc (slopeF v A D W) (y * W + x))
            go_wp2_with (first
              | (at_builtin; refine wpList_append_one2 rfl (.tmp 76) (.tmp 78) _ rfl 2 _ 8 Try.underlying22 Try.infoi64 rfl (by omega) hF rfl rfl rfl (by omega) hBs2 ?_; intro fl3 w3 hF3 hb3 hk3; have hS3 := hk3 _ _ _ hS hAp; have hBs3 := Nat.le_trans hBs2 hb3.size)
              | (at_builtin; refine wpList_append_one2 rfl (.tmp 80) (.tmp 90) _ rfl 2 _ 8 Try.underlying22 Try.infoi64 rfl (by omega) hS3.1 rfl rfl rfl (by omega) hBs3 ?_; intro sl4 w4 hS4 hb4 hk4; have hF4 := hk4 _ _ _ hF3 (Apart.symm hS3.2)))
            refine ⟨⟨x + 1, by go_num, by omega, ⟨?_, ?_, Apart.symm hF4.2⟩, hb2.trans ((hb3.mono hbB).trans (hb4.mono hbB)), by have := hb4.size; omega⟩, by simp [intOf]; omega⟩
            · rw [← Nat.add_assoc, hrF.out, List.map_append]
              exact hF4.1
            · rw [← Nat.add_assoc, hrS.out, List.map_append, hSl.out]
              exact hS4
          · obtain rfl : x = W := by omega
            go_wp2
            refine ⟨⟨y + 1, by go_num, by omega, by rw [Nat.succ_mul]; exact hrow2, hb2, hBs2⟩, by simp [intOf]; omega⟩
      · obtain rfl : y = R := by omega
        obtain ⟨hF, hS, hAp⟩ := hrow
        have hN1 : y * W ≤ 400 := Nat.mul_le_mul hR2 hW2
        obtain ⟨A1, c1, rfl, hc1, hm1, hR1f⟩ := own_reads hF
        obtain ⟨A2, c2, rfl, hc2, hm2, hR2s⟩ := own_reads hS
        have hW0 : W ≤ y * W := Nat.le_mul_of_pos_left W (by omega)
        have hmodN : ((y * W : Nat) : Int) % (W : Int) = 0 := by
          rw [Int.natCast_mul]; exact Int.mul_emod_left _ _
        generalize hNe : y * W = N at *
        have HNe := hide hNe
        clear hNe hF hS hAp
        have r1 : rightP (1 : Nat) W N := ⟨by decide, by decide, by omega, by omega, hmodN⟩
        have r2 : rightP (2 : Nat) W N := ⟨by decide, by decide, by omega, by omega, hmodN⟩
        have HM := hide hmodN
        clear hmodN
        have hmf : ∀ j, j < N → mayP (((List.range N).map (fun _ => v)).getD j 0) := fun j hj => by rw [map_getD _ _ _ hj]; exact ⟨by omega, by omega⟩
        have hms : ∀ j, j < N → mayP (((List.range N).map (slopeF v A D W)).getD j 0) := fun j hj => by
          rw [map_getD _ _ _ hj]
          exact slopeF_may v A D W j hv1 hv2 hA1 hA2 hD1 hD2 hW1 hW2 (by have := HNe.out; have := Nat.mul_le_mul_right W hR2; omega)
        have HMF := hide hmf
        have HMS := hide hms
        clear hmf hms
        go_wp2_with fail
        refine (rests_any A1 N c1 1 W N _ wr hR1f r1 hc1 hm1 (by omega) (by omega) (Nat.le_refl _) HMF.out (fun h => absurd h (by omega))).mono ?_
        rintro e wa ⟨hba, hea⟩
        rw [if_pos rfl] at hea
        obtain ⟨va, rfl, howna⟩ := hea
        obtain ⟨Aa, ca, rfl, hca, hma, hRa⟩ := own_reads howna
        have hBa := hb.trans (hba.mono hb.size)
        have hR1f' := (hR1f.below hba).more hba.size
        have hR2s' := (hR2s.below hba).more hba.size
        clear howna hR1f hR2s
        go_wp2_with fail
        refine (rests_any A1 N c1 2 W N _ wa hR1f' r2 hc1 hm1 (by omega) (by omega) (Nat.le_refl _) HMF.out (fun h => absurd h (by omega))).mono ?_
        rintro e wb ⟨hbb, heb⟩
        rw [if_pos rfl] at heb
        obtain ⟨vb, rfl, hownb⟩ := heb
        obtain ⟨Ab, cb, rfl, hcb, hmb, hRb⟩ := own_reads hownb
        have hBb := hBa.trans (hbb.mono hBa.size)
        have hRa' := (hRa.below hbb).more hbb.size
        have hR2s'' := (hR2s'.below hbb).more hbb.size
        clear hownb hRa hR1f' hR2s'
        go_wp2_with fail
        refine (rests_any A2 N c2 2 W N _ wb hR2s'' r2 hc2 hm2 (by omega) (by omega) (Nat.le_refl _) HMS.out (fun h => absurd h (by omega))).mono ?_
        rintro e wc ⟨hbc, hec⟩
        rw [if_pos rfl] at hec
        obtain ⟨vc, rfl, hownc⟩ := hec
        obtain ⟨Ac, cc, rfl, hcc, hmc, hRc⟩ := own_reads hownc
        have hBc := hBb.trans (hbc.mono hBb.size)
        have hRa'' := (hRa'.below hbc).more hbc.size
        have hRb' := (hRb.below hbc).more hbc.size
        clear hownc hRa' hRb hR2s'' hba hbb hbc hb
        have hva : ∀ k, k < N → restS 1 W (fun j => ((List.range N).map (fun _ => v)).getD j 0) k = if k = 0 then v else 0 := fun k hk => by
          rw [restS_congr 1 W _ (fun _ => v) k hW1 (fun j hj => map_getD _ _ _ (by omega)), flat_rest 1 W v k (by omega) hW1]
        have hvb : ∀ k, k < N → restS 2 W (fun j => ((List.range N).map (fun _ => v)).getD j 0) k = if k = 0 then v else 0 := fun k hk => by
          rw [restS_congr 2 W _ (fun _ => v) k hW1 (fun j hj => map_getD _ _ _ (by omega)), flat_rest 2 W v k (by omega) hW1]
        have hvc : ∀ k, k < N → W ≤ k → 0 < k % W → restS 2 W (fun j => ((List.range N).map (slopeF v A D W)).getD j 0) k = if D < A then D else A := fun k hk h1 h2 => by
          rw [restS_congr 2 W _ (slopeF v A D W) k hW1 (fun j hj => map_getD _ _ _ (by omega)), slope_rest W v A D k hW1 hA1 hD1 h1 h2]
        have HVA := hide hva
        have HVB := hide hvb
        have HVC := hide hvc
        clear hva hvb hvc
        go_wp2
        go_loop [21] (fun i => ∃ k : Nat, i = .int .i64 k ∧ k ≤ N) (fun i => N - (intOf i).toNat)
        case atStart => exact ⟨0, rfl, by omega⟩
        case round =>
          obtain ⟨k, rfl, hk⟩ := hrel
          by_cases hlt : k < N
          · obtain ⟨ba, oa, rfl, _, hca'⟩ := hRa''.cells_ (by omega)
            obtain ⟨bb, ob, rfl, _, hcb'⟩ := hRb'.cells_ (by omega)
            obtain ⟨bc, oc, rfl, _, hcc'⟩ := hRc.cells_ (by omega)
            have xa := hca' k _ (by rw [List.getElem?_map, List.getElem?_map, List.getElem?_range hlt]; rfl)
            have xb := hcb' k _ (by rw [List.getElem?_map, List.getElem?_map, List.getElem?_range hlt]; rfl)
            have xc := hcc' k _ (by rw [List.getElem?_map, List.getElem?_map, List.getElem?_range hlt]; rfl)
            rw [HVA.out k hlt] at xa
            rw [HVB.out k hlt] at xb
            have HC := hide (HVC.out k hlt)
            clear hca' hcb' hcc' hRa'' hRb' hRc HVA HVB HVC
            generalize restS 2 W (fun j => ((List.range N).map (slopeF v A D W)).getD j 0) k = z at *
            by_cases h0 : k = 0
            · subst h0
              rw [if_pos rfl, Nat.add_zero] at xa xb
              rw [Nat.add_zero] at xc
              have hge : decide ((W : Int) ≤ 0) = false := by simp; omega
              by_cases hDA : D < A
              · go_wp2
                go_round
                case rel => exact ⟨1, by go_num, by omega⟩
                case measure => simp [intOf]; omega
              · go_wp2
                go_round
                case rel => exact ⟨1, by go_num, by omega⟩
                case measure => simp [intOf]; omega
            · rw [if_neg h0] at xa xb
              have hk0 : ((k : Int) == 0) = false := by simp; omega
              by_cases hge : W ≤ k
              · by_cases hm : 0 < k % W
                · have hz := HC.out hge hm
                  have hmb : decide ((0 : Int) < (k : Int) % (W : Int)) = true := by rw [decide_eq_true_eq]; have : (((k % W : Nat)) : Int) = (k : Int) % W := Int.natCast_emod k W; omega
                  have hgb : decide ((W : Int) ≤ (k : Int)) = true := by simp; omega
                  by_cases hDA : D < A
                  · rw [if_pos hDA] at hz
                    subst hz
                    go_wp2
                    go_round
                    case rel => exact ⟨k + 1, by go_num, by omega⟩
                    case measure => simp [intOf]; omega
                  · rw [if_neg hDA] at hz
                    subst hz
                    go_wp2
                    go_round
                    case rel => exact ⟨k + 1, by go_num, by omega⟩
                    case measure => simp [intOf]; omega
                · have hmb : decide ((0 : Int) < (k : Int) % (W : Int)) = false := by rw [decide_eq_false_iff_not]; have : (((k % W : Nat)) : Int) = (k : Int) % W := Int.natCast_emod k W; omega
                  have hgb : decide ((W : Int) ≤ (k : Int)) = true := by simp; omega
                  clear hm
                  by_cases hDA : D < A
                  · go_wp2
                    go_round
                    case rel => exact ⟨k + 1, by go_num, by omega⟩
                    case measure => simp [intOf]; omega
                  · go_wp2
                    go_round
                    case rel => exact ⟨k + 1, by go_num, by omega⟩
                    case measure => simp [intOf]; omega
              · have hgb : decide ((W : Int) ≤ (k : Int)) = false := by simp; omega
                by_cases hDA : D < A
                · go_wp2
                  go_round
                  case rel => exact ⟨k + 1, by go_num, by omega⟩
                  case measure => simp [intOf]; omega
                · go_wp2
                  go_round
                  case rel => exact ⟨k + 1, by go_num, by omega⟩
                  case measure => simp [intOf]; omega
          · obtain rfl : k = N := by omega
            go_wp2
            go_ret
            exact ⟨rfl, hBc⟩

end Go.Proofs.Ytafokllnelibcaa
