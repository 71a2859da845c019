/- Contracts of the document's own Row, and of ray.At. -/
import Derived.Test.YtafokllnelibcaaYF
namespace Go.Proofs.Ytafokllnelibcaa
open Go.RowKit Go.Lib

theorem rlen_L (ax ay bx b_y : Int) : rlenI ax ay bx b_y = rL ax ay bx b_y := by
  unfold rlenI rL
  rw [abs_apD, abs_apD]
  split <;> split <;> omega

def OwnedRow (w : World) (X Y : Nat → Int) (n : Nat) (e : Ending) (w' : World) : Prop :=
  ∃ v, e = .returned v ∧ w'.ownsRow w.heap.size 37 2 v n (pairL X Y n) ∧ Below w.heap.size w w'
set_option maxRecDepth 100000 in
set_option maxHeartbeats 1000000 in
theorem rrow_any (ax ay bx b_y : Int) (N : Nat) (X Y : Nat → Int) (w : World) (ha : canP ax ay) (hb : canP bx b_y) (hN : N ≤ 1023)
    (hL : Hid ((N : Int) = rL ax ay bx b_y)) (hX : Hid (∀ i : Nat, i ≤ N → X i = rX ax ay bx b_y i ∧ Y i = rY ax ay bx b_y i)) :
    Calls Try.prog 31 #[.agg #[.int .i64 ax, .int .i64 ay], .agg #[.int .i64 bx, .int .i64 b_y]] w fun e w' => OwnedRow w X Y (N + 1) e w' := by
  have HAt : Hid (∀ i : Nat, i ≤ N → ∀ w : World, Calls Try.prog 47 #[.agg #[.int .i64 ax, .int .i64 ay], .agg #[.int .i64 bx, .int .i64 b_y], .int .i64 i] w fun e w' => e = .returned (.agg #[.int .i64 (X i), .int .i64 (Y i)]) ∧ Below w.heap.size w w') := hide fun i hi w => by
    rw [(hX.out i hi).1, (hX.out i hi).2]
    exact rat_any ax ay bx b_y i w ha hb (by omega) (by rw [← hL.out]; omega)
  have HLn : Hid (∀ w : World, Calls Try.prog 29 #[.agg #[.int .i64 ax, .int .i64 ay], .agg #[.int .i64 bx, .int .i64 b_y]] w fun e w' => e = .returned (.int .i64 N) ∧ Below w.heap.size w w') := hide fun w => by
    rw [hL.out, ← rlen_L]
    exact rlen_any ax ay bx b_y w ha hb
  clear hL hX ha hb
  go_enter Try.func31, Try.ntmps31
  go_wp2_with fail
  obtain ⟨W, hW⟩ : ∃ W, W = ((w.alloc (Obj.cells #[Value.int IntKind.i64 ax, Value.int IntKind.i64 ay] 37)).alloc (Obj.cells #[Value.int IntKind.i64 bx, Value.int IntKind.i64 b_y] 37)).alloc (Obj.cells #[] 37) := ⟨_, rfl⟩
  have A1 : At W w.heap.size [.int .i64 ax, .int .i64 ay] := by rw [hW]; exact At.alloc (At.alloc At.new _) _
  have A2 : At W (w.heap.size + 1) [.int .i64 bx, .int .i64 b_y] := by rw [hW]; exact At.alloc (At.new_ (by simp)) _
  have hBW : Below w.heap.size w W := by rw [hW]; exact below_put (below_put below_at)
  have hown : W.ownsRow (w.heap.size + 1 + 1) 37 2 (.slice (some ⟨w.heap.size + 1 + 1, 0, none⟩) 0 0) 0 [] := by
    rw [hW]
    have := World.ownsRow_made ((w.alloc (Obj.cells #[Value.int IntKind.i64 ax, Value.int IntKind.i64 ay] 37)).alloc (Obj.cells #[Value.int IntKind.i64 bx, Value.int IntKind.i64 b_y] 37)) (e := 37) (size := 2) (base := w.heap.size + 1 + 1) #[] 0 (by simp) (Nat.zero_le _) rfl
    simpa using this
  rw [← hW]
  clear hW
  go_loopw [5, 6] (fun v c wr => ∃ k : Nat, c = .int .i64 k ∧ k ≤ N + 1 ∧ wr.ownsRow (w.heap.size + 1 + 1) 37 2 v k (pairL X Y k) ∧ At wr w.heap.size [.int .i64 ax, .int .i64 ay] ∧ At wr (w.heap.size + 1) [.int .i64 bx, .int .i64 b_y] ∧ Below w.heap.size w wr) (fun _ c _ => N + 1 - (intOf c).toNat)
  case atStart => exact ⟨0, rfl, by omega, hown, A1, A2, hBW⟩
  case round =>
    obtain ⟨k, rfl, hk, hownk, B1, B2, hBk⟩ := hrel
    clear A1 A2 hown hBW
    obtain ⟨c0, c1⟩ := B1.two
    obtain ⟨d0, d1⟩ := B2.two
    by_cases hlt : k < N + 1
    · have HA := hide (HAt.out k (by omega))
      go_wp2_with fail
      refine (HLn.out _).mono ?_
      rintro e wq ⟨rfl, hbq⟩
      have hownq := own_below hownk hbq
      have B1 := B1.below hbq
      have B2 := B2.below hbq
      have hBq := bchain hBk hbq
      clear hownk hBk hbq c0 c1 d0 d1
      obtain ⟨c0, c1⟩ := B1.two
      obtain ⟨d0, d1⟩ := B2.two
      go_wp2_with fail
      refine (HA.out _).mono ?_
      rintro e wp ⟨rfl, hbp⟩
      have hownp := own_below hownq hbp
      have B1 := B1.below hbp
      have B2 := B2.below hbp
      have hBp := bchain hBq hbp
      clear hownq hBq hbp c0 c1 d0 d1 HA
      have hq1 := B2.1
      go_wp2_with (at_builtin; refine wpList_append_grp (wr := wp) (n := k) (xs := pairL X Y k) (base := w.heap.size + 1 + 1) (ys := [_, _]) rfl (.tmp 15) (.tmp 20) _ rfl 37 _ 2 16 Try.underlying41 Try.infocell rfl (by omega) (by omega) (by exact hownp) (by rfl) rfl (by rfl) (by simp [Value.oneCell']) (by omega) (by omega) ?_; intro v3 wn hown3 hb3)
      refine ⟨⟨k + 1, by go_num, by omega, hown3, B1.into (by omega) hb3, B2.into (by omega) hb3, hBp.trans (hb3.mono (by omega))⟩, by simp [intOf]; omega⟩
    · obtain rfl : k = N + 1 := by omega
      go_wp2_with fail
      refine (HLn.out _).mono ?_
      rintro e wq ⟨rfl, hbq⟩
      have hownq := own_below hownk hbq
      have hBq := bchain hBk hbq
      clear hownk hBk hbq c0 c1 d0 d1
      go_wp2
      go_ret
      exact ⟨_, rfl, own_mono hownq (by omega), hBq⟩

theorem rayat_no (ax ay bx b_y i : Int) (w : World) (h : ¬ (canP ax ay ∧ canP bx b_y)) : Calls Try.prog 26 #[.agg #[.int .i64 ax, .int .i64 ay], .agg #[.int .i64 bx, .int .i64 b_y], .int .i64 i] w fun e w' => e = .returned (.tuple #[.agg #[.int .i64 0, .int .i64 0], .int .i64 4]) ∧ Below w.heap.size w w' := by
  by_cases ha : canP ax ay
  · have hb' : ¬ canP bx b_y := fun hb => h ⟨ha, hb⟩
    go_enter Try.func26, Try.ntmps26
    go_wp2_with fail
    refine (can_any _ _ _).mono ?_
    rintro e w1 ⟨rfl, hb⟩
    rw [decide_eq_true ha]
    have A2 : At w1 (w.heap.size + 1) [.int .i64 bx, .int .i64 b_y] := At.below (At.alloc (At.new_ (by simp)) _) hb
    have A3 : At w1 (w.heap.size + 1 + 1) [.int .i64 0, .int .i64 0] := At.below (At.new_ (by simp)) hb
    have hB := bal (bal (bal hb))
    clear hb
    obtain ⟨c0, c1⟩ := A2.two
    go_wp2_with fail
    refine (can_any _ _ _).mono ?_
    rintro e w2 ⟨rfl, hb⟩
    rw [decide_eq_false hb']
    have A3 := A3.below hb
    have hB := bchain hB hb
    clear hb c0 c1 A2
    obtain ⟨n0, n1⟩ := A3.two
    obtain ⟨f0, f1, fs⟩ := A3.fr2
    go_wp2
    exact bodyPost_ret (v := .tuple #[.agg #[.int .i64 0, .int .i64 0], .int .i64 4]) (by simp [results, Try.results26, go_sem, n0, n1, f0, f1, fs]) rfl ⟨rfl, by repeat first | exact hB | refine below_put ?_ | refine Below.setCell ?_ (by go_size) _⟩
  · go_enter Try.func26, Try.ntmps26
    go_wp2_with fail
    refine (can_any _ _ _).mono ?_
    rintro e w1 ⟨rfl, hb⟩
    rw [decide_eq_false ha]
    have A3 : At w1 (w.heap.size + 1 + 1) [.int .i64 0, .int .i64 0] := At.below (At.new_ (by simp)) hb
    have hB := bal (bal (bal hb))
    clear hb
    obtain ⟨n0, n1⟩ := A3.two
    obtain ⟨f0, f1, fs⟩ := A3.fr2
    go_wp2
    exact bodyPost_ret (v := .tuple #[.agg #[.int .i64 0, .int .i64 0], .int .i64 4]) (by simp [results, Try.results26, go_sem, n0, n1, f0, f1, fs]) rfl ⟨rfl, by repeat first | exact hB | refine below_put ?_ | refine Below.setCell ?_ (by go_size) _⟩
end Go.Proofs.Ytafokllnelibcaa
