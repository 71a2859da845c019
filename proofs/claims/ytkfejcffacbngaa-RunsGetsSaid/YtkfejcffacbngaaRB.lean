import Derived.Test.YtkfejcffacbngaaRA

namespace Go.Proofs.Ytkfejcffacbngaa.J

open Go Go.RowKit Go.Shelf

set_option linter.unusedVariables false

attribute [local go_sem] Oper.semAt_some

/-- What a body keeps: two blocks' cells. -/
def Keep2 (b c : Nat) (A B : World) : Prop := ∀ (k o : Nat) v, k = b ∨ k = c → A.cell? ⟨k, o, none⟩ = some v → B.cell? ⟨k, o, none⟩ = some v
theorem Keep2.refl (b c : Nat) (A : World) : Keep2 b c A A := fun _ _ _ _ h => h
theorem Keep2.trans {b c : Nat} {A B C : World} (h : Keep2 b c A B) (h' : Keep2 b c B C) : Keep2 b c A C := fun k o v hk hv => h' k o v hk (h k o v hk hv)
theorem Keep2.of_below {b c N : Nat} {A B : World} (h : Below N A B) (hb : b < N) (hc : c < N) : Keep2 b c A B := fun k o v hk hv => by
  have : k < N := by rcases hk with rfl | rfl <;> assumption
  exact (h.cell (p := ⟨k, o, none⟩) this).trans hv
theorem keep2_t {b c : Nat} : ∀ {A B C : World}, Keep2 b c A B → Keep2 b c B C → Keep2 b c A C := Keep2.trans
theorem keep2_b {b c : Nat} {N : Nat} : ∀ (W : World) (l : Nat) (o o' : Obj), N ≤ l → W.heap[l]? = some o → o.isCells = false → o.isWalk = false → Keep2 b c W (W.putObj l o') :=
  fun W l o o' _ ho hc _ k q v hk hv => cell_kept hv (grownBy_putObj' _ l o') (fun r e => by cases e; exact ⟨_, ho, hc⟩)

set_option maxRecDepth 100000 in
set_option maxHeartbeats 4000000 in
/-- the closure of runs.each, for every body that keeps the two blocks -/
theorem each1_in (F : Fence) (n : Nat) (h7 : F.fn 117) (hro : F.round = none) (hn : 1 ≤ n) (l Bs b off len cap : Nat) (zs : List Int) (hlen : zs.length = len) (hreach : len ≤ 1000000) (J Jx : List (Int × Int) → World → Prop)
    (hY : ∀ pre x W, J pre W → pre.length < len → YieldAt F (n - 1) Try.prog l #[.int .i64 x.1, .int .i64 x.2] W fun e W' =>
      (e = .returned (.bool true) ∧ J (pre ++ [x]) W' ∧ Keep2 b Bs W W') ∨ (e = .returned (.bool false) ∧ Jx (pre ++ [x]) W'))
    (W : World) (hBs : W.cell? ⟨Bs, 0, none⟩ = some (.slice (some ⟨b, off, none⟩) len cap)) (hc : ∀ j, j < len → W.cell? ⟨b, off + j, none⟩ = some (.int .i64 (zs[j]?.getD 0))) (h0 : J [] W) :
    CallsIn F n Try.prog 117 #[.func (.yield l) #[] #[], .pointer (some ⟨Bs, 0, none⟩)] W fun e W' => (∃ v, e = .returned v) ∧
      ((∃ ys, ys = runsL zs ∧ J ys W') ∨ (∃ pre, True ∧ Jx pre W')) := by
  refine callsIn_of_wp Try.func117 rfl h7 ?_ hro
  simp only [Try.ntmps117, List.size_toArray, List.length_cons, List.length_nil, Nat.reduceAdd, Nat.reduceSub, Array.replicate_succ, Array.replicate_zero, List.push_toArray, List.append_toArray, List.nil_append, List.cons_append]
  gi_wp2
  gi_loopw [3] (fun i wr => ∃ (k : Nat) (pre : List (Int × Int)), k ≤ len ∧ i = .int .i64 k ∧ pre.length ≤ k ∧ pre ++ runsL (zs.drop k) = runsL zs ∧ J pre wr ∧ Keep2 b Bs W wr)
    (fun i _ => len - (intOf i).toNat)
  case atStart => exact ⟨0, [], Nat.zero_le _, rfl, Nat.le_refl _, rfl, h0, Keep2.refl _ _ _⟩
  case round =>
    obtain ⟨k, pre, hk, rfl, hpl, hpr, hJs, hnx⟩ := hrel
    have hBw : wr.cell? ⟨Bs, 0, none⟩ = some (.slice (some ⟨b, off, none⟩) len cap) := hnx Bs 0 _ (.inr rfl) hBs
    by_cases hlt : k < len
    · obtain ⟨x, hx⟩ : ∃ x, zs[k]?.getD 0 = x := ⟨_, rfl⟩
      have hcx : wr.cell? ⟨b, off + k, none⟩ = some (.int .i64 x) := by rw [← hx]; exact hnx b _ _ (.inl rfl) (hc k hlt)
      have HC : Hid (∀ j, j < len → wr.cell? ⟨b, off + j, none⟩ = some (.int .i64 (zs[j]?.getD 0))) := fun j hj => hnx b _ _ (.inl rfl) (hc j hj)
      have HY := hide hY
      have HP := hide hpr
      have HX := hide hx
      have HL := hide hlen
      clear hY hpr hx hlen hc hBs
      gi_wp2
      gi_loop [4] (fun m => ∃ j : Nat, m = .int .i64 j ∧ 1 ≤ j ∧ k + j ≤ len ∧ (x = 0 → ∀ i, i < j → zs[k + i]?.getD 0 = 0) ∧ (x ≠ 0 → j = 1)) (fun m => len - (intOf m).toNat)
      case atStart => exact ⟨1, rfl, Nat.le_refl _, by omega, fun h i hi => by obtain rfl : i = 0 := by omega
                                                                               simpa [HX.out] using h, fun _ => rfl⟩
      case round =>
        obtain ⟨j, rfl, hj1, hj2, hj3, hj4⟩ := hrel
        obtain ⟨y, hy⟩ : ∃ y, zs[k + j]?.getD 0 = y := ⟨_, rfl⟩
        have HYY := hide hy
        have H3 := hide hj3
        have H4 := hide hj4
        clear hj3 hj4 hy
        by_cases hgo : x = 0 ∧ k + j < len ∧ y = 0
        · obtain ⟨hz, hl2, hw⟩ := hgo
          have hcy : wr.cell? ⟨b, off + (k + j), none⟩ = some (.int .i64 y) := by rw [← HYY.out]; exact HC.out (k + j) hl2
          gi_wp2
          refine ⟨⟨j + 1, by simp, by omega, by omega, fun _ i hi => ?_, fun h => absurd hz h⟩, by simp [intOf]; omega⟩
          by_cases hij : i = j
          · subst hij; rw [HYY.out, hw]
          · exact H3.out hz i (by omega)
        · have hrun : runsL (zs.drop k) = (x, (j : Int)) :: runsL (zs.drop (k + j)) := by
            have := runs_at (zs := zs) (k := k) (m := j) (by rw [HL.out]; omega) hj1 (fun h => ⟨H3.out (by rw [← HX.out]; exact h), fun h2 h3 => hgo ⟨by rw [← HX.out]; exact h, by rw [← HL.out]; exact h2, by rw [← HYY.out]; exact h3⟩⟩) (fun h => H4.out (by rw [← HX.out]; exact h))
            rwa [HX.out] at this
          have HRUN := hide hrun
          obtain ⟨fn, tmps, assign, body, hy, hR⟩ := HY.out pre (x, (j : Int)) wr hJs (by omega)
          dsimp only at hy
          have hk3 : (x = 0 ∧ k + j < len ∧ ¬ y = 0) ∨ (x = 0 ∧ ¬ k + j < len) ∨ ¬ x = 0 := by omega
          clear hrun hgo
          have hnext : ∀ W3, J (pre ++ [(x, (j : Int))]) W3 → Keep2 b Bs wr W3 → ∃ (k' : Nat) (pre' : List (Int × Int)), k' ≤ len ∧ Value.int IntKind.i64 ((k : Int) + (j : Int)) = .int .i64 k' ∧ pre'.length ≤ k' ∧ pre' ++ runsL (zs.drop k') = runsL zs ∧ J pre' W3 ∧ Keep2 b Bs W W3 := fun W3 h1 h2 =>
            ⟨k + j, pre ++ [(x, (j : Int))], hj2, by simp, by simp; omega, by rw [← HP.out, HRUN.out]; simp, h1, hnx.trans h2⟩
          have HN := hide hnext
          clear hnext
          have hstop : ∀ W3, Jx (pre ++ [(x, (j : Int))]) W3 → (∃ pre, True ∧ Jx pre W3) := fun W3 h => ⟨_, trivial, h⟩
          have HS := hide hstop
          clear hstop
          rcases hk3 with ⟨hz, hl2, hw⟩ | ⟨hz, hl2⟩ | hz
          · have hcy : wr.cell? ⟨b, off + (k + j), none⟩ = some (.int .i64 y) := by rw [← HYY.out]; exact HC.out (k + j) hl2
            subst hz
            gi_wp2
            refine hR.mono ?_
            rintro e W3 (⟨rfl, hJ3, hk3⟩ | ⟨rfl, hJx3⟩)
            · gi_wp2
              go_roundw
              case rel => exact HN.out W3 hJ3 hk3
              case measure => simp [intOf]; omega
            · gi_wp2
              refine bodyPost_ret (results_none rfl _ _ _) rfl ?_
              exact ⟨⟨_, rfl⟩, .inr (HS.out W3 hJx3)⟩
          · subst hz
            gi_wp2
            refine hR.mono ?_
            rintro e W3 (⟨rfl, hJ3, hk3⟩ | ⟨rfl, hJx3⟩)
            · gi_wp2
              go_roundw
              case rel => exact HN.out W3 hJ3 hk3
              case measure => simp [intOf]; omega
            · gi_wp2
              refine bodyPost_ret (results_none rfl _ _ _) rfl ?_
              exact ⟨⟨_, rfl⟩, .inr (HS.out W3 hJx3)⟩
          · gi_wp2
            refine hR.mono ?_
            rintro e W3 (⟨rfl, hJ3, hk3⟩ | ⟨rfl, hJx3⟩)
            · gi_wp2
              go_roundw
              case rel => exact HN.out W3 hJ3 hk3
              case measure => simp [intOf]; omega
            · gi_wp2
              refine bodyPost_ret (results_none rfl _ _ _) rfl ?_
              exact ⟨⟨_, rfl⟩, .inr (HS.out W3 hJx3)⟩
    · obtain rfl : k = len := by omega
      gi_wp2
      go_end0
      exact ⟨⟨_, rfl⟩, .inl ⟨_, by rw [← hpr, List.drop_eq_nil_of_le (by omega)]; simp [runsL, runsF], hJs⟩⟩

set_option maxRecDepth 100000 in
set_option maxHeartbeats 1000000 in
/-- .. where there is nothing -/
theorem each1_nil (F : Fence) (n : Nat) (h7 : F.fn 117) (hro : F.round = none) (l Bs : Nat) (a : Option Addr) (cap : Nat) (J : List (Int × Int) → World → Prop) (W : World) (hBs : W.cell? ⟨Bs, 0, none⟩ = some (.slice a 0 cap)) (h0 : J [] W) :
    CallsIn F n Try.prog 117 #[.func (.yield l) #[] #[], .pointer (some ⟨Bs, 0, none⟩)] W fun e W' => (∃ v, e = .returned v) ∧ J [] W' := by
  refine callsIn_of_wp Try.func117 rfl h7 ?_ hro
  simp only [Try.ntmps117, List.size_toArray, List.length_cons, List.length_nil, Nat.reduceAdd, Nat.reduceSub, Array.replicate_succ, Array.replicate_zero, List.push_toArray, List.append_toArray, List.nil_append, List.cons_append]
  gi_wp2
  gi_loopw [3] (fun i wr => i = .int .i64 0 ∧ J [] wr ∧ wr.cell? ⟨Bs, 0, none⟩ = some (.slice a 0 cap)) (fun _ _ => 0)
  case atStart => exact ⟨rfl, h0, hBs⟩
  case round =>
    obtain ⟨rfl, hJs, hB⟩ := hrel
    gi_wp2
    go_end0
    exact ⟨⟨_, rfl⟩, hJs⟩

set_option maxHeartbeats 1000000 in
/-- runs.each: the slice is boxed, the closure captures the box -/
theorem each_in (F : Fence) (n : Nat) (h5 : F.fn 75) (hro : F.round = none) (a : Option Addr) (len cap : Nat) (w : World) :
    CallsIn F n Try.prog 75 #[.slice a len cap] w fun e w' => e = .returned (.func (.func 117) #[] #[.pointer (some ⟨w.heap.size, 0, none⟩)]) ∧ w' = w.alloc (.cells #[.slice a len cap] 23) := by
  refine callsIn_of_wp Try.func75 rfl h5 ?_ hro
  simp only [Try.ntmps75, List.size_toArray, List.length_cons, List.length_nil, Nat.reduceAdd, Nat.reduceSub, Array.replicate_succ, Array.replicate_zero, List.push_toArray, List.append_toArray, List.nil_append, List.cons_append]
  gi_wp2
  go_ret
  exact ⟨rfl, rfl⟩

/-- a slice that holds these numbers (b: its block, where there is one) -/
def IntsAt (W : World) (sv : Value) (b : Nat) (zs : List Int) : Prop := ∃ a cap, sv = .slice a zs.length cap ∧ (zs = [] ∨ ∃ off, a = some ⟨b, off, none⟩ ∧ ∀ j, j < zs.length → W.cell? ⟨b, off + j, none⟩ = some (.int .i64 (zs[j]?.getD 0)))

/-- a slice that holds these numbers, in a block below N where there is one -/
def IntsIn (W : World) (N : Nat) (sv : Value) (zs : List Int) : Prop := ∃ a cap, sv = .slice a zs.length cap ∧ (zs = [] ∨ ∃ b off, a = some ⟨b, off, none⟩ ∧ b < N ∧ ∀ j, j < zs.length → W.cell? ⟨b, off + j, none⟩ = some (.int .i64 (zs[j]?.getD 0)))

/-- the runs, in order -/
theorem each_stops (F : Fence) (n : Nat) (h7 : F.fn 117) (hro : F.round = none) (hn : 1 ≤ n) (Bs b : Nat) (sv : Value) (zs : List Int) (hreach : zs.length ≤ 1000000) (w : World) (hBs : Bs < w.heap.size) (hb : b < w.heap.size)
    (hc : w.cell? ⟨Bs, 0, none⟩ = some sv) (hI : IntsAt w sv b zs) :
    SeqStopsK F n Try.prog 117 #[.pointer (some ⟨Bs, 0, none⟩)] encP (Keep2 b Bs) (fun ys => ys = runsL zs) (fun _ => True) zs.length w := fun l J Jx W hW _ _ hY h0 => by
  have hc' := (hW.cell (p := ⟨Bs, 0, none⟩) hBs).trans hc
  obtain ⟨a, cap, rfl, rfl | ⟨off, rfl, hcs⟩⟩ := hI
  · exact (each1_nil F n h7 hro l Bs a cap J W hc' h0).mono fun e W' ⟨he, hj⟩ => ⟨he, .inl ⟨_, rfl, hj⟩⟩
  · exact each1_in F n h7 hro hn l Bs b off zs.length cap zs rfl hreach J Jx hY W hc' (fun j hj => (hW.cell (p := ⟨b, off + j, none⟩) hb).trans (hcs j hj)) h0

end Go.Proofs.Ytkfejcffacbngaa.J
