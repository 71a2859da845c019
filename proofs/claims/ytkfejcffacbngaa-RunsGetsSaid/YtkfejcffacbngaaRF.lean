import Derived.Test.YtkfejcffacbngaaRE
import Derived.RangeFuncNested
import Derived.Shelf.RegionOpen
import Derived.RangeFuncFrom
import Derived.RangeFuncWrites

namespace Go.Proofs.Ytkfejcffacbngaa.J

open Go Go.RowKit Go.Shelf

set_option linter.unusedVariables false

attribute [local go_sem] Oper.semAt_some

theorem KeepsOthers.of_below {A B : World} (h : Below A.heap.size A B) : KeepsOthers A B := ⟨h.size, fun k o hk _ => (h.block k (Array.getElem?_eq_some_iff.1 hk).1).trans hk⟩

def bumpL (p : Int × Int) : Nat := (lebN 10 (foldM p.1)).length + (if p.1 = 0 then (lebN 10 (IntKind.u64.wrap (IntKind.i64.wrap (p.2 - 1)))).length else 0)

def lenS (pre : List (Int × Int)) : Nat := (pre.map bumpL).sum

theorem lenS_snoc (pre : List (Int × Int)) (x : Int × Int) : lenS (pre ++ [x]) = lenS pre + bumpL x := by simp [lenS]

theorem lebN_len' (k : Nat) (u : Int) : 1 ≤ (lebN k u).length ∧ (lebN k u).length ≤ k + 1 := by
  induction k generalizing u with
  | zero => simp [lebN]
  | succ k ih =>
    rw [lebN]
    split
    · simp
    · have := ih (u / 128); simp; omega

theorem bumpL_le (p : Int × Int) : bumpL p ≤ 22 := by
  have h1 := lebN_len' 10 (foldM p.1)
  have h2 := lebN_len' 10 (IntKind.u64.wrap (IntKind.i64.wrap (p.2 - 1)))
  unfold bumpL
  split <;> omega

theorem lenS_le (pre : List (Int × Int)) : lenS pre ≤ 22 * pre.length := by
  induction pre with
  | nil => simp [lenS]
  | cons x l ih => have := bumpL_le x; simp [lenS] at ih ⊢; omega

/-- what a round has kept, and where its box is -/
def Kept (w : World) (B b : Nat) (W W' : World) (v : Value) : Prop := KeepsOthers W W' ∧ Keep2 b (B + 1) W W' ∧ Boxed W' B 3 v ∧ Below B w W'

theorem Keep2.of_all {b c : Nat} {A B : World} (h : Below A.heap.size A B) : Keep2 b c A B := fun k o v hk hv => by
  have hlt : k < A.heap.size := by
    simp only [World.cell?] at hv
    split at hv
    · rename_i hq; exact (Array.getElem?_eq_some_iff.1 hq).1
    · cases hv
  exact (h.cell (p := ⟨k, o, none⟩) hlt).trans hv

theorem Kept.start {w W : World} {B b : Nat} {v : Value} (h : Boxed W B 3 v) (hB : Below B w W) : Kept w B b W W v := ⟨KeepsOthers.refl _, Keep2.refl _ _ _, h, hB⟩

theorem Kept.step {w W W1 w1 : World} {B b : Nat} {v : Value} (h : Kept w B b W W1 v) (hb : Below W1.heap.size W1 w1) : Kept w B b W w1 v :=
  ⟨h.1.trans (KeepsOthers.of_below hb), h.2.1.trans (Keep2.of_all hb), (hb.block B h.2.2.1.lt).trans h.2.2.1, h.2.2.2.trans (hb.mono (Nat.le_of_lt h.2.2.1.lt))⟩

theorem Kept.set {w W W1 : World} {B b : Nat} {v : Value} (v' : Value) (h : Kept w B b W W1 v) (hbB : b ≠ B) : Kept w B b W (W1.setCell ⟨B, 0, none⟩ v') v' :=
  ⟨h.1.trans (KeepsOthers.setCell _ _ _), h.2.1.trans fun k o u hk hu => (World.cell?_setCell_other W1 ⟨B, 0, none⟩ ⟨k, o, none⟩ v' (fun e => by have := congrArg Addr.block e; simp at this; omega)).trans hu, h.2.2.1.set v', h.2.2.2.setCell (p := ⟨B, 0, none⟩) (Nat.le_refl _) v'⟩

theorem Kept.drew {w W W1 : World} {B b : Nat} {v : Value} (h : Kept w B b W W1 v) : Kept w B b W W1.drew v := ⟨h.1.trans (KeepsOthers.drew _), fun k o u hk hu => h.2.1 k o u hk hu, h.2.2.1, h.2.2.2.drew⟩

theorem wrapU_rng (y : Int) : 0 ≤ IntKind.u64.wrap y ∧ IntKind.u64.wrap y ≤ 18446744073709551615 := by
  simp only [IntKind.wrap, IntKind.bits, IntKind.signed]
  simp
  omega

set_option maxRecDepth 100000 in
set_option maxHeartbeats 4000000 in
theorem len_in (sv : Value) (zs : List Int) (hreach : zs.length ≤ 1000000) (w : World) (hI : IntsIn w w.heap.size sv zs) :
    CallsIn Fence.wide 3 Try.prog 22 #[sv] w fun e W' => e = .returned (.int .i64 (lenS (runsL zs) : Nat)) ∧ Below w.heap.size w W' := by
  obtain ⟨a, cap, rfl, hz0⟩ := hI
  obtain ⟨b, hb, hz⟩ : ∃ b, (b < w.heap.size ∨ b = w.heap.size + 1) ∧ (zs = [] ∨ ∃ off, a = some ⟨b, off, none⟩ ∧ b < w.heap.size ∧ ∀ j, j < zs.length → w.cell? ⟨b, off + j, none⟩ = some (.int .i64 (zs[j]?.getD 0))) := by
    rcases hz0 with h | ⟨b, off, h1, h2, h3⟩
    · exact ⟨w.heap.size + 1, .inr rfl, .inl h⟩
    · exact ⟨b, .inl h2, .inr ⟨off, h1, h2, h3⟩⟩
  have hbB : b ≠ w.heap.size := by omega
  clear hz0
  have h1 : (1 : Nat) ≤ 3 := by omega
  refine callsIn_of_wp_marks Try.func22 rfl trivial ?_ rfl
  simp only [Try.ntmps22, List.size_toArray, List.length_cons, List.length_nil, Nat.reduceAdd, Nat.reduceSub, Array.replicate_succ, Array.replicate_zero, List.push_toArray, List.append_toArray, List.nil_append, List.cons_append]
  gi_wp2_with (refine ⟨trivial, ?_⟩; gi_at_call 75; refine (each_in Fence.wide 2 trivial rfl _ _ _ _).mono ?_; rintro e w' ⟨rfl, rfl⟩)
  have bO := Boxed.new w 3 (.int .i64 0)
  have bN := Boxed.new (w.alloc (.cells #[.int .i64 0] 3)) 23 (.slice a zs.length cap)
  rw [World.size_alloc] at bN
  have hB0 : Below w.heap.size w ((w.alloc (.cells #[.int .i64 0] 3)).alloc (.cells #[.slice a zs.length cap] 23)) := ((Below.refl _ w).alloc (Nat.le_refl _) _).alloc (by simp) _
  refine wpIn_rangeFunc_ownF rfl h1 (gf := 117) (lb := #[.pointer (some ⟨w.heap.size + 1, 0, none⟩)]) rfl trivial (enters_of Try.func117 (by kernel_rfl) rfl)
    (each_stops Fence.wide 2 trivial rfl (by omega) (w.heap.size + 1) b _ zs hreach _ (by simp) (by simp; omega) bN.cell ⟨a, cap, rfl, hz.imp id fun ⟨off, h1, hb2, h2⟩ => ⟨off, h1, fun j hj => (hB0.cell (p := ⟨b, off + j, none⟩) hb2).trans (h2 j hj)⟩⟩) keep2_t keep2_b (Below.refl _ _) (fun _ => rfl)
    (fun pre W => Boxed W w.heap.size 3 (.int .i64 (lenS pre : Nat)) ∧ Below w.heap.size w W)
    (fun _ _ _ => False)
    (OwnFrom.and (Own.from (boxed_own w.heap.size 3 (fun pre => Value.int .i64 (lenS pre : Nat))) _) (ownFrom_below (Nat.le_refl _) (by simp; omega)))
    (fun _ _ _ _ _ hs _ _ => hs)
    ⟨bO.alloc _, hB0⟩
    (fun x => { tmps := #[.slice a zs.length cap, undef, .int .i64 0, .pointer (some ⟨w.heap.size, 0, none⟩), .int .i64 x.1, .int .i64 x.2, .slice a zs.length cap, .func (.func 117) #[] #[.pointer (some ⟨w.heap.size + 1, 0, none⟩)], .int .i64 x.1, .int .i64 x.2, undef, undef, undef, undef, undef, undef, undef, undef, undef, undef, undef, undef, undef, undef], defers := [] }) ?assign ?body ?done ?stop
  case assign =>
    intro l x W K hK
    gi_wp2
    exact hK
  case body =>
    rintro l pre x W ⟨hv, hB⟩ hlt
    have hlt0 := hv.lt
    have hc := hv.cell
    have hf := hv.frozen
    obtain ⟨x1, x2⟩ := x
    obtain ⟨u, hu⟩ : ∃ u, foldM x1 = u := ⟨_, rfl⟩
    have hur := foldM_rng x1
    rw [hu] at hur
    obtain ⟨hu0, hu1⟩ := hur
    obtain ⟨L, hL⟩ : ∃ L, (lebN 10 u).length = L := ⟨_, rfl⟩
    have hL1 := (lebN_len' 10 u).2
    rw [hL] at hL1
    have hS := lenS_le pre
    obtain ⟨S, hS0⟩ : ∃ S, lenS pre = S := ⟨_, rfl⟩
    have HV := hide hv
    rw [hS0] at hS hc
    clear hv
    have HF : ∀ W1, Calls Try.prog 77 #[.int .i64 x1] W1 fun e w' => e = .returned (.int .u64 u) ∧ Below W1.heap.size W1 w' := fun W1 => by rw [← hu]; exact fold_call x1 W1
    have HLn : ∀ W1, Calls Try.prog 80 #[.int .u64 u] W1 fun e w' => e = .returned (.int .i64 (L : Nat)) ∧ W1 = w' := fun W1 => by rw [← hL]; exact len_any u W1 hu0 hu1
    have HF' := hide HF
    have HLn' := hide HLn
    have HZ := hide hz
    have HB := hide hB
    clear HF HLn hz hB hB0 bO bN
    have hd : 1 ≤ 3 - 1 - 1 := by omega
    have hmx : Try.prog.follows .mixedOrders = true := mix
    obtain ⟨u2, hu2⟩ : ∃ z, IntKind.u64.wrap (IntKind.i64.wrap (x2 - 1)) = z := ⟨_, rfl⟩
    have hu2r : 0 ≤ u2 ∧ u2 ≤ 18446744073709551615 := by rw [← hu2]; exact wrapU_rng _
    obtain ⟨L2, hL2⟩ : ∃ L, (lebN 10 u2).length = L := ⟨_, rfl⟩
    have hL3 := (lebN_len' 10 u2).2
    rw [hL2] at hL3
    have HL2' : Hid (∀ W1, Calls Try.prog 80 #[.int .u64 u2] W1 fun e w' => e = .returned (.int .i64 (L2 : Nat)) ∧ W1 = w') := fun W1 => by rw [← hL2]; exact len_any u2 W1 hu2r.1 hu2r.2
    have HB2 : Hid (bumpL (x1, x2) = L + if x1 = 0 then L2 else 0) := by simp only [Hid, bumpL, hu, hL, hu2, hL2]
    have HU2 := hide hu2
    have HSS := hide hS0
    clear hu2 hu2r hL2 hu hL hS0
    by_cases hx : x1 = 0
    · subst hx
      gi_wp2
      gi_region_with_o (first
        | (refine ⟨trivial, ?_⟩; gi_at_call 77; refine (CallsIn.inRound l (callsIn_wide.2 (HF'.out _))).mono ?_; rintro e w1 ⟨rfl, hb1⟩; have hc1 := (hb1.cell (p := ⟨w.heap.size, 0, none⟩) hlt0).trans hc; have hf1 := (hb1.frozen (p := ⟨w.heap.size, 0, none⟩) hlt0).trans hf)
        | (refine ⟨trivial, ?_⟩; gi_at_call 80; refine (CallsIn.inRound l (callsIn_wide.2 (HLn'.out _))).mono ?_; rintro e w2 ⟨rfl, rfl⟩))
      all_goals gi_wp2
      all_goals (have hu3 := HU2.out)
      all_goals gi_region_with_o (refine ⟨trivial, ?_⟩; gi_at_call 80; refine (CallsIn.inRound l (callsIn_wide.2 (HL2'.out _))).mono ?_; rintro e w2 ⟨rfl, rfl⟩)
      all_goals gi_wp2
      all_goals
        have hK := (((((Kept.start (b := b) HV.out HB.out).step (((Below.refl _ W).drew).trans hb1)).set (.int .i64 ((S : Int) + (L : Int))) hbB)).set (.int .i64 (IntKind.i64.wrap ((S : Int) + (L : Int) + (L2 : Int)))) hbB).drew
        have hW : IntKind.i64.wrap ((S : Int) + (L : Int) + (L2 : Int)) = ((S + (L + L2) : Nat) : Int) := by rw [Sym.wrap_i64 (by omega)]; omega
        exact ⟨hK.1, hK.2.1, by rw [lenS_snoc, HSS.out, HB2.out]; simp only [if_true]; rw [← hW]; exact hK.2.2.1, hK.2.2.2⟩
    · gi_wp2
      gi_region_with_o (first
        | (refine ⟨trivial, ?_⟩; gi_at_call 77; refine (CallsIn.inRound l (callsIn_wide.2 (HF'.out _))).mono ?_; rintro e w1 ⟨rfl, hb1⟩; have hc1 := (hb1.cell (p := ⟨w.heap.size, 0, none⟩) hlt0).trans hc; have hf1 := (hb1.frozen (p := ⟨w.heap.size, 0, none⟩) hlt0).trans hf)
        | (refine ⟨trivial, ?_⟩; gi_at_call 80; refine (CallsIn.inRound l (callsIn_wide.2 (HLn'.out _))).mono ?_; rintro e w2 ⟨rfl, rfl⟩))
      all_goals gi_wp2
      all_goals
        have hK := ((Kept.start (b := b) HV.out HB.out).step (((Below.refl _ W).drew).trans hb1)).set (.int .i64 ((S : Int) + (L : Int))) hbB
        exact ⟨hK.1, hK.2.1, by rw [lenS_snoc, HSS.out, HB2.out, if_neg hx]; simpa using hK.2.2.1, hK.2.2.2⟩
  case done =>
    rintro D ys W hD rfl ⟨hv, hB⟩ hK
    have hc := hv.cell
    gi_wp2
    refine ⟨by simp, .inl ⟨_, _, rfl, run_takeDeferred hK, ?_⟩⟩
    exact ⟨_, results_tmp rfl _ _ _, rfl, hB.trans (belowK_b (w := w) (Nat.le_refl _) W D _ _ (by simp at hD; omega) hK rfl rfl)⟩
  case stop =>
    rintro D c pre W _ _ h _
    exact h.elim

end Go.Proofs.Ytkfejcffacbngaa.J
