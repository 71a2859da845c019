import Derived.Test.YtkfejcffacbngaaRH

namespace Go.Proofs.Ytkfejcffacbngaa.J

open Go Go.RowKit Go.Shelf

set_option linter.unusedVariables false

attribute [local go_sem] Oper.semAt_some

theorem own_slice {W : World} {base : Nat} {e : TypeId} {size : Nat} {v : Value} {k : Nat} {xs : List Value} (h : W.ownsRow base e size v k xs) : ∃ a c, v = .slice a k c := by
  rcases h.2 with ⟨h0, h1⟩ | ⟨g, cap, _, h0, _⟩
  · subst h1; exact ⟨_, _, h0⟩
  · exact ⟨_, _, h0⟩


theorem stepIn_append {F : Fence} {n : Nat} {P : Program} {w : World} {ops : Array Oper} {o : Oper} {a : Act} {K : Act → World → Prop} {Q : Exit → Act → World → Prop} {E : Prop} (hgd : o.guard = none) (s x : Operand) (t : TypeId)
    (ho : o.op = .call { callee := .builtin .append, args := #[s, x], argTypes := #[t, t] })
    (base : Nat) (e : TypeId) (i : TypeInfo) (z : Value) (size bytes : Nat) (ht : P.underlying t = some (.slice e)) (hi : P.info? e = some i) (hz : i.zero = some z)
    (hsize : i.size = size) (hby : i.bytes = bytes) (hzs : z.cells.size = size) (hsz : 0 < size)
    (v : Value) (k : Nat) (xs : List Value) (hs : a.eval s = v) (hown : w.ownsRow base e size v k xs)
    (ad : Addr) (m c : Nat) (news : List Value) (hx : a.eval x = .slice (some ad) m c) (hl : news.length = m * size) (hnews : ∀ j u, news[j]? = some u → w.cell? (ad.add j) = some u) (h1 : ∀ u ∈ news, u.oneCell' = true)
    (h63 : k + m ≤ maxLen) (hbytes : (k + m) * bytes ≤ 140737488355328) (hbase : base ≤ w.heap.size)
    (h : ∀ v' w', w'.ownsRow base e size v' (k + m) (xs ++ news) → w.grownBy w' v.ownBlock → K (a.put o.dst v') w') :
    if Region.wanted o (yielded ops a.tmps) = true then Oper.wpIn F n P o a w K Q else E := by
  have hw : Region.wanted o (yielded ops a.tmps) = true := by simp [Region.wanted, hgd]
  rw [if_pos hw]
  obtain ⟨v', w', hr, h2, h3, h4, h5⟩ := run_append_own_at (P := P) w base t o.type e i z size bytes ht hi hz hsize hby hzs hsz v k xs hown ad m c news hl hnews h1 h63 hbytes hbase
  unfold Oper.wpIn
  refine ⟨by simp [Oper.about, ho, resolve, Target.leads, Sem.run_pure], ?_⟩
  rw [Oper.semAt_plain F _ _ (by rw [ho]; intro c hc'; cases hc')]
  simp [execOp, ho, resolve, invoke, builtin, hs, hx, hr, Result.andThen]
  exact h v' w' h2 h3

set_option maxRecDepth 100000 in
set_option maxHeartbeats 8000000 in
theorem put_in (A : Option Addr) (n c : Nat) (xs : List Int) (sv : Value) (zs : List Int) (hreach : zs.length ≤ 1000000) (w : World) (hr : Reads w w.heap.size 1 A n (B8 xs)) (hn : n ≤ 1000000) (hI : IntsIn w w.heap.size sv zs) :
    CallsIn Fence.wide 3 Try.prog 20 #[.slice A n c, sv] w fun e W' => ∃ v, e = .returned v ∧ W'.ownsRow w.heap.size 5 1 v (xs ++ putS (runsL zs)).length (B8 (xs ++ putS (runsL zs))) ∧ Below w.heap.size w W' := by
  obtain ⟨a, cap, rfl, hz⟩ := hI
  have hxl : xs.length = n := by simpa using hr.1
  have h1 : (1 : Nat) ≤ 3 := by omega
  have HR := hide hr
  have HZ := hide hz
  clear hr hz
  refine callsIn_of_wp_marks Try.func20 rfl trivial ?_ rfl
  simp only [Try.ntmps20, List.size_toArray, List.length_cons, List.length_nil, Nat.reduceAdd, Nat.reduceSub, Array.replicate_succ, Array.replicate_zero, List.push_toArray, List.append_toArray, List.nil_append, List.cons_append]
  gi_wp2_with (first
    | (refine ⟨trivial, ?_⟩; gi_at_call 74; refine (callsIn_wide.2 (clone74 A n c xs _ HR.out hn)).mono ?_; rintro e w1 ⟨v0, rfl, hown, hb1⟩; obtain ⟨A0, c0, rfl⟩ := own_slice hown)
    | (refine ⟨trivial, ?_⟩; gi_at_call 75; refine (each_in Fence.wide 2 trivial rfl _ _ _ _).mono ?_; rintro e w' ⟨rfl, rfl⟩))
  have hsz0 := hb1.size
  obtain ⟨b, hb, hz⟩ : ∃ b, (b < w.heap.size ∨ b = w1.heap.size + 1) ∧ (zs = [] ∨ ∃ off, a = some ⟨b, off, none⟩ ∧ b < w.heap.size ∧ ∀ j, j < zs.length → w.cell? ⟨b, off + j, none⟩ = some (.int .i64 (zs[j]?.getD 0))) := by
    rcases HZ.out with h | ⟨b, off, h1, h2, h3⟩
    · exact ⟨w1.heap.size + 1, .inr rfl, .inl h⟩
    · exact ⟨b, .inl h2, .inr ⟨off, h1, h2, h3⟩⟩
  have HZ2 := hide hz
  clear hz
  have bO := Boxed.new w1 22 (.slice A0 n c0)
  have bN := Boxed.new (w1.alloc (.cells #[.slice A0 n c0] 22)) 23 (.slice a zs.length cap)
  rw [World.size_alloc] at bN
  have hB1 : Below w1.heap.size w1 ((w1.alloc (.cells #[.slice A0 n c0] 22)).alloc (.cells #[.slice a zs.length cap] 23)) := ((Below.refl _ w1).alloc (Nat.le_refl _) _).alloc (by simp) _
  have hB0 : Below w.heap.size w ((w1.alloc (.cells #[.slice A0 n c0] 22)).alloc (.cells #[.slice a zs.length cap] 23)) := hb1.trans (hB1.mono hb1.size)
  have hsz := hb1.size
  refine wpIn_rangeFunc_ownF rfl h1 (gf := 117) (lb := #[.pointer (some ⟨w1.heap.size + 1, 0, none⟩)]) rfl trivial (enters_of Try.func117 (by kernel_rfl) rfl)
    (each_stops Fence.wide 2 trivial rfl (by omega) (w1.heap.size + 1) b _ zs hreach _ (by simp) (by simp; omega) bN.cell ⟨a, cap, rfl, HZ2.out.imp id fun ⟨off, h1, hb2, h2⟩ => ⟨off, h1, fun j hj => (hB0.cell (p := ⟨b, off + j, none⟩) hb2).trans (h2 j hj)⟩⟩) keep2_t keep2_b (Below.refl _ _) (fun _ => rfl)
    (fun pre W => (∃ v, Boxed W w1.heap.size 22 v ∧ W.ownsRow w.heap.size 5 1 v (xs ++ putS pre).length (B8 (xs ++ putS pre)) ∧ True) ∧ Boxed W (w1.heap.size + 1) 23 (.slice a zs.length cap) ∧ Below w.heap.size w W)
    (fun _ _ _ => False)
    (OwnFrom.and (Own.from (holdsRow_own w.heap.size w1.heap.size 22 5 1 (fun pre => (xs ++ putS pre).length) (fun pre => B8 (xs ++ putS pre)) (fun _ _ => True)) _) (OwnFrom.and (Own.from (boxed_own (w1.heap.size + 1) 23 (fun _ => Value.slice a zs.length cap)) _) (ownFrom_below (Nat.le_refl _) (by simp; omega))))
    (fun _ _ _ _ _ hs _ _ => hs)
    ⟨⟨_, bO.alloc _, by simpa [putS, hxl] using own_keep hown hB1, trivial⟩, bN, hB0⟩
    (fun x => { tmps := #[.slice A n c, .slice a zs.length cap, undef, undef, .slice none 0 0, .pointer (some ⟨w1.heap.size, 0, none⟩), .int .i64 x.1, .int .i64 x.2, .slice A n c, .slice A0 n c0, .slice a zs.length cap, .func (.func 117) #[] #[.pointer (some ⟨w1.heap.size + 1, 0, none⟩)], .int .i64 x.1, .int .i64 x.2, undef, undef, undef, undef, undef, undef, undef, undef, undef, undef, undef, undef, undef, undef], defers := [] }) ?assign ?body ?done ?stop
  case assign =>
    intro l x W K hK
    gi_wp2
    exact hK
  case body =>
    rintro l pre ⟨x1, x2⟩ W ⟨⟨v, hv, hrow, _⟩, hit, hB⟩ hlt
    obtain ⟨u, hu⟩ : ∃ u, foldM x1 = u := ⟨_, rfl⟩
    have hur := foldM_rng x1
    rw [hu] at hur
    obtain ⟨hu0, hu1⟩ := hur
    obtain ⟨R, hR⟩ : ∃ R, lebN 10 u = R := ⟨_, rfl⟩
    have hR1 := (lebN_len' 10 u).2
    rw [hR] at hR1
    obtain ⟨m, hm⟩ : ∃ m, R.length = m := ⟨_, rfl⟩
    rw [hm] at hR1
    obtain ⟨u2, hu2⟩ : ∃ z, IntKind.u64.wrap (IntKind.i64.wrap (x2 - 1)) = z := ⟨_, rfl⟩
    have hu2r : 0 ≤ u2 ∧ u2 ≤ 18446744073709551615 := by rw [← hu2]; exact wrapU_rng _
    obtain ⟨R2, hR2⟩ : ∃ R, lebN 10 u2 = R := ⟨_, rfl⟩
    have hR21 := (lebN_len' 10 u2).2
    rw [hR2] at hR21
    obtain ⟨m2, hm2⟩ : ∃ m, R2.length = m := ⟨_, rfl⟩
    rw [hm2] at hR21
    have HF' : Hid (∀ W1, Calls Try.prog 77 #[.int .i64 x1] W1 fun e w' => e = .returned (.int .u64 u) ∧ Below W1.heap.size W1 w') := fun W1 => by rw [← hu]; exact fold_call x1 W1
    have HP1 : Hid (∀ W1, Calls Try.prog 76 #[.slice none 0 0, .int .u64 u] W1 fun e w' => ∃ g c, e = .returned (.slice (some ⟨g, 0, none⟩) m c) ∧ (∀ j z, (B8 R)[j]? = some z → w'.cell? ((⟨g, 0, none⟩ : Addr).add j) = some z) ∧ Below W1.heap.size W1 w') := fun W1 => by have := put_call u hu0 hu1 W1; rw [hR, hm] at this; exact this
    have HP2 : Hid (∀ W1, Calls Try.prog 76 #[.slice none 0 0, .int .u64 u2] W1 fun e w' => ∃ g c, e = .returned (.slice (some ⟨g, 0, none⟩) m2 c) ∧ (∀ j z, (B8 R2)[j]? = some z → w'.cell? ((⟨g, 0, none⟩ : Addr).add j) = some z) ∧ Below W1.heap.size W1 w') := fun W1 => by have := put_call u2 hu2r.1 hu2r.2 W1; rw [hR2, hm2] at this; exact this
    have HPB : Hid (putB (x1, x2) = R ++ if x1 = 0 then R2 else []) := by simp only [Hid, putB, hu, hR, hu2, hR2]
    have hS := lenS_le pre
    rw [← putS_len] at hS
    obtain ⟨out, hout⟩ : ∃ out, xs ++ putS pre = out := ⟨_, rfl⟩
    have hol : out.length ≤ 23000000 := by rw [← hout, List.length_append]; omega
    rw [hout] at hrow
    obtain ⟨M, hM⟩ : ∃ M, out.length = M := ⟨_, rfl⟩
    have HK : KeptR w w.heap.size w1.heap.size b (.slice a zs.length cap) W W v out := KeptR.start hv hit hrow hB
    rw [hM] at hol hrow
    obtain ⟨A1, c1, rfl⟩ := own_slice hrow
    have hlt0 := hv.lt
    have hc := hv.cell
    have hf := hv.frozen
    have hNW := hB.size
    obtain ⟨j0, hi, hz0, hz1, hz2⟩ := info_parts infobyte
    have Hi := hide hi
    have Hz0 := hide hz0
    have Hz1 := hide hz1
    have Hz2 := hide hz2
    have HK' := hide HK
    have HU2 := hide hu2
    have HO := hide hout
    have HM := hide hM
    have Hm := hide hm
    have Hm2 := hide hm2
    have HBB := hide hB
    have hd : 1 ≤ 3 - 1 - 1 := by omega
    have hmx : Try.prog.follows .mixedOrders = true := mix
    clear hu2 hu2r hR2 hu hR hm hm2 hout hM HK hi hz0 hz1 hz2 hv hit hrow hB hB0 bO bN hb1 hB1 hown hxl
    by_cases hx : x1 = 0
    · subst hx
      gi_wp2
      refine wpIn_mono (Q := fun e a' w' => e = .normal ∧ ∃ (g c3 : Nat) (A2 : Option Addr) (c2 : Nat), a' = { tmps := #[.slice A n c, .slice a zs.length cap, undef, undef, .slice none 0 0, .pointer (some ⟨w1.heap.size, 0, none⟩), .int .i64 0, .int .i64 x2, .slice A n c, .slice A0 n c0, .slice a zs.length cap, .func (.func 117) #[] #[.pointer (some ⟨w1.heap.size + 1, 0, none⟩)], .int .i64 0, .int .i64 x2, .slice A1 M c1, .int .i64 0, .int .u64 u, .slice (some ⟨g, 0, none⟩) m c3, .slice A2 (M + m) c2, undef, undef, undef, undef, undef, undef, undef, undef, undef], defers := [] } ∧ KeptR w w.heap.size w1.heap.size b (.slice a zs.length cap) W w' (.slice A2 (M + m) c2) (out ++ R)) ?_ ?_
      · refine wpIn_region_any hmx ?_
        change wpAnyIn _ _ _ _ _ _ _ _ _ (World.drew _)
        refine wpAnyIn_ready (rs := [0, 1]) (by kernel_rfl) (by simp) (AllReadyIn.cons rfl (fun K hK => ?_) (AllReadyIn.cons rfl (fun K hK => ?_) AllReadyIn.nil))
        · go_simp
          refine hK _ _ ?_
          clear hK K
          refine wpAnyIn_ready (rs := [1]) (by kernel_rfl) (by simp) (AllReadyIn.cons rfl (fun K hK => ?_) AllReadyIn.nil)
          go_simp
          refine hK _ _ ?_
          clear hK K
          refine wpAnyIn_ready (rs := [2]) (by kernel_rfl) (by simp) (AllReadyIn.cons rfl (fun K hK => ?_) AllReadyIn.nil)
          go_simp
          refine ⟨trivial, ?_⟩
          refine (CallsIn.inRound l (callsIn_wide.2 (HF'.out _))).mono ?_
          rintro e w2 ⟨rfl, hb2⟩
          have HK2 := hide (HK'.out.step hNW (((Below.refl _ W).drew).trans hb2))
          have hc2 := HK2.out.box.cell
          have hf2 := HK2.out.box.frozen
          have hn2 := Nat.le_trans hNW hb2.size
          refine hK _ _ ?_
          clear hK K
          refine wpAnyIn_ready (rs := [3]) (by kernel_rfl) (by simp) (AllReadyIn.cons rfl (fun K hK => ?_) AllReadyIn.nil)
          go_simp
          refine ⟨trivial, ?_⟩
          refine (CallsIn.inRound l (callsIn_wide.2 (HP1.out _))).mono ?_
          rintro e w3 ⟨g, c3, rfl, hcs, hb3⟩
          have HCS := hide hcs
          clear hcs
          have HK3 := hide (HK2.out.step hn2 hb3)
          have hc3 := HK3.out.box.cell
          have hf3 := HK3.out.box.frozen
          have hn3 := Nat.le_trans hn2 hb3.size
          refine hK _ _ ?_
          clear hK K
          refine wpAnyIn_ready (rs := [4]) (by kernel_rfl) (by simp) (AllReadyIn.cons rfl (fun K hK => ?_) AllReadyIn.nil)
          refine stepIn_append rfl _ _ 22 rfl w.heap.size 5 j0 (.int .u8 0) 1 1 Try.underlying22 Hi.out Hz0.out Hz1.out Hz2.out rfl (by decide) _ (M) _ rfl (by have h := HK3.out.row; rw [HM.out] at h; exact h) ⟨g, 0, none⟩ _ c3 (B8 R) rfl (by simp [Hm.out]) HCS.out (hone8 _) (by simp only [maxLen]; omega) (by omega) hn3 (fun v' w4 hown' hg' => ?_)
          obtain ⟨A3, c4, rfl⟩ := own_slice hown'
          obtain ⟨hbx, hk4⟩ := HK3.out.append hb hsz hn3 (ys := out ++ R) (by simpa using hown') (by rw [List.length_append, HM.out, Hm.out]) hg'
          have HK4 := hide hk4
          clear hk4
          have hc4 := hbx.cell
          have hf4 := hbx.frozen
          refine hK _ _ ?_
          clear hK K
          refine wpAnyIn_ready (rs := [5]) (by kernel_rfl) (by simp) (AllReadyIn.cons rfl (fun K hK => ?_) AllReadyIn.nil)
          go_simp
          refine hK _ _ ?_
          clear hK K
          refine wpAnyIn_done (by kernel_rfl) ?_ _
          exact ⟨rfl, g, c3, A3, c4, rfl, by first | exact HK4.out | exact HK4.out.drew⟩
        · go_simp
          refine hK _ _ ?_
          clear hK K
          refine wpAnyIn_ready (rs := [0, 2]) (by kernel_rfl) (by simp) (AllReadyIn.cons rfl (fun K hK => ?_) (AllReadyIn.cons rfl (fun K hK => ?_) AllReadyIn.nil))
          · go_simp
            refine hK _ _ ?_
            clear hK K
            refine wpAnyIn_ready (rs := [2]) (by kernel_rfl) (by simp) (AllReadyIn.cons rfl (fun K hK => ?_) AllReadyIn.nil)
            go_simp
            refine ⟨trivial, ?_⟩
            refine (CallsIn.inRound l (callsIn_wide.2 (HF'.out _))).mono ?_
            rintro e w2 ⟨rfl, hb2⟩
            have HK2 := hide (HK'.out.step hNW (((Below.refl _ W).drew).trans hb2))
            have hc2 := HK2.out.box.cell
            have hf2 := HK2.out.box.frozen
            have hn2 := Nat.le_trans hNW hb2.size
            refine hK _ _ ?_
            clear hK K
            refine wpAnyIn_ready (rs := [3]) (by kernel_rfl) (by simp) (AllReadyIn.cons rfl (fun K hK => ?_) AllReadyIn.nil)
            go_simp
            refine ⟨trivial, ?_⟩
            refine (CallsIn.inRound l (callsIn_wide.2 (HP1.out _))).mono ?_
            rintro e w3 ⟨g, c3, rfl, hcs, hb3⟩
            have HCS := hide hcs
            clear hcs
            have HK3 := hide (HK2.out.step hn2 hb3)
            have hc3 := HK3.out.box.cell
            have hf3 := HK3.out.box.frozen
            have hn3 := Nat.le_trans hn2 hb3.size
            refine hK _ _ ?_
            clear hK K
            refine wpAnyIn_ready (rs := [4]) (by kernel_rfl) (by simp) (AllReadyIn.cons rfl (fun K hK => ?_) AllReadyIn.nil)
            refine stepIn_append rfl _ _ 22 rfl w.heap.size 5 j0 (.int .u8 0) 1 1 Try.underlying22 Hi.out Hz0.out Hz1.out Hz2.out rfl (by decide) _ (M) _ rfl (by have h := HK3.out.row; rw [HM.out] at h; exact h) ⟨g, 0, none⟩ _ c3 (B8 R) rfl (by simp [Hm.out]) HCS.out (hone8 _) (by simp only [maxLen]; omega) (by omega) hn3 (fun v' w4 hown' hg' => ?_)
            obtain ⟨A3, c4, rfl⟩ := own_slice hown'
            obtain ⟨hbx, hk4⟩ := HK3.out.append hb hsz hn3 (ys := out ++ R) (by simpa using hown') (by rw [List.length_append, HM.out, Hm.out]) hg'
            have HK4 := hide hk4
            clear hk4
            have hc4 := hbx.cell
            have hf4 := hbx.frozen
            refine hK _ _ ?_
            clear hK K
            refine wpAnyIn_ready (rs := [5]) (by kernel_rfl) (by simp) (AllReadyIn.cons rfl (fun K hK => ?_) AllReadyIn.nil)
            go_simp
            refine hK _ _ ?_
            clear hK K
            refine wpAnyIn_done (by kernel_rfl) ?_ _
            exact ⟨rfl, g, c3, A3, c4, rfl, by first | exact HK4.out | exact HK4.out.drew⟩
          · go_simp
            refine ⟨trivial, ?_⟩
            refine (CallsIn.inRound l (callsIn_wide.2 (HF'.out _))).mono ?_
            rintro e w2 ⟨rfl, hb2⟩
            have HK2 := hide (HK'.out.step hNW (((Below.refl _ W).drew).trans hb2))
            have hc2 := HK2.out.box.cell
            have hf2 := HK2.out.box.frozen
            have hn2 := Nat.le_trans hNW hb2.size
            refine hK _ _ ?_
            clear hK K
            refine wpAnyIn_ready (rs := [0, 3]) (by kernel_rfl) (by simp) (AllReadyIn.cons rfl (fun K hK => ?_) (AllReadyIn.cons rfl (fun K hK => ?_) AllReadyIn.nil))
            · go_simp
              refine hK _ _ ?_
              clear hK K
              refine wpAnyIn_ready (rs := [3]) (by kernel_rfl) (by simp) (AllReadyIn.cons rfl (fun K hK => ?_) AllReadyIn.nil)
              go_simp
              refine ⟨trivial, ?_⟩
              refine (CallsIn.inRound l (callsIn_wide.2 (HP1.out _))).mono ?_
              rintro e w3 ⟨g, c3, rfl, hcs, hb3⟩
              have HCS := hide hcs
              clear hcs
              have HK3 := hide (HK2.out.step hn2 hb3)
              have hc3 := HK3.out.box.cell
              have hf3 := HK3.out.box.frozen
              have hn3 := Nat.le_trans hn2 hb3.size
              refine hK _ _ ?_
              clear hK K
              refine wpAnyIn_ready (rs := [4]) (by kernel_rfl) (by simp) (AllReadyIn.cons rfl (fun K hK => ?_) AllReadyIn.nil)
              refine stepIn_append rfl _ _ 22 rfl w.heap.size 5 j0 (.int .u8 0) 1 1 Try.underlying22 Hi.out Hz0.out Hz1.out Hz2.out rfl (by decide) _ (M) _ rfl (by have h := HK3.out.row; rw [HM.out] at h; exact h) ⟨g, 0, none⟩ _ c3 (B8 R) rfl (by simp [Hm.out]) HCS.out (hone8 _) (by simp only [maxLen]; omega) (by omega) hn3 (fun v' w4 hown' hg' => ?_)
              obtain ⟨A3, c4, rfl⟩ := own_slice hown'
              obtain ⟨hbx, hk4⟩ := HK3.out.append hb hsz hn3 (ys := out ++ R) (by simpa using hown') (by rw [List.length_append, HM.out, Hm.out]) hg'
              have HK4 := hide hk4
              clear hk4
              have hc4 := hbx.cell
              have hf4 := hbx.frozen
              refine hK _ _ ?_
              clear hK K
              refine wpAnyIn_ready (rs := [5]) (by kernel_rfl) (by simp) (AllReadyIn.cons rfl (fun K hK => ?_) AllReadyIn.nil)
              go_simp
              refine hK _ _ ?_
              clear hK K
              refine wpAnyIn_done (by kernel_rfl) ?_ _
              exact ⟨rfl, g, c3, A3, c4, rfl, by first | exact HK4.out | exact HK4.out.drew⟩
            · go_simp
              refine ⟨trivial, ?_⟩
              refine (CallsIn.inRound l (callsIn_wide.2 (HP1.out _))).mono ?_
              rintro e w3 ⟨g, c3, rfl, hcs, hb3⟩
              have HCS := hide hcs
              clear hcs
              have HK3 := hide (HK2.out.step hn2 hb3)
              have hc3 := HK3.out.box.cell
              have hf3 := HK3.out.box.frozen
              have hn3 := Nat.le_trans hn2 hb3.size
              refine hK _ _ ?_
              clear hK K
              refine wpAnyIn_ready (rs := [0]) (by kernel_rfl) (by simp) (AllReadyIn.cons rfl (fun K hK => ?_) AllReadyIn.nil)
              go_simp
              refine hK _ _ ?_
              clear hK K
              refine wpAnyIn_ready (rs := [4]) (by kernel_rfl) (by simp) (AllReadyIn.cons rfl (fun K hK => ?_) AllReadyIn.nil)
              refine stepIn_append rfl _ _ 22 rfl w.heap.size 5 j0 (.int .u8 0) 1 1 Try.underlying22 Hi.out Hz0.out Hz1.out Hz2.out rfl (by decide) _ (M) _ rfl (by have h := HK3.out.row; rw [HM.out] at h; exact h) ⟨g, 0, none⟩ _ c3 (B8 R) rfl (by simp [Hm.out]) HCS.out (hone8 _) (by simp only [maxLen]; omega) (by omega) hn3 (fun v' w4 hown' hg' => ?_)
              obtain ⟨A3, c4, rfl⟩ := own_slice hown'
              obtain ⟨hbx, hk4⟩ := HK3.out.append hb hsz hn3 (ys := out ++ R) (by simpa using hown') (by rw [List.length_append, HM.out, Hm.out]) hg'
              have HK4 := hide hk4
              clear hk4
              have hc4 := hbx.cell
              have hf4 := hbx.frozen
              refine hK _ _ ?_
              clear hK K
              refine wpAnyIn_ready (rs := [5]) (by kernel_rfl) (by simp) (AllReadyIn.cons rfl (fun K hK => ?_) AllReadyIn.nil)
              go_simp
              refine hK _ _ ?_
              clear hK K
              refine wpAnyIn_done (by kernel_rfl) ?_ _
              exact ⟨rfl, g, c3, A3, c4, rfl, by first | exact HK4.out | exact HK4.out.drew⟩
      rintro e a' W2 ⟨rfl, g, c3, A2, c2, rfl, hk5⟩
      have HK5 := hide hk5
      clear hk5
      have hc5 := HK5.out.box.cell
      have hf5 := HK5.out.box.frozen
      have hn5 := HK5.out.below.size
      have hu3 := HU2.out
      have HM2 : Hid ((out ++ R).length = M + m) := by rw [Hid, List.length_append, HM.out, Hm.out]
      gi_wp2
      refine wpIn_mono (Q := fun e a' w' => e = .normal ∧ ∃ (A3 : Option Addr) (c4 : Nat), KeptR w w.heap.size w1.heap.size b (.slice a zs.length cap) W w' (.slice A3 (M + m + m2) c4) (out ++ R ++ R2)) ?_ ?_
      · refine wpIn_region_any hmx ?_
        change wpAnyIn _ _ _ _ _ _ _ _ _ (World.drew _)
        refine wpAnyIn_ready (rs := [0, 1]) (by kernel_rfl) (by simp) (AllReadyIn.cons rfl (fun K hK => ?_) (AllReadyIn.cons rfl (fun K hK => ?_) AllReadyIn.nil))
        · go_simp
          refine hK _ _ ?_
          clear hK K
          refine wpAnyIn_ready (rs := [1]) (by kernel_rfl) (by simp) (AllReadyIn.cons rfl (fun K hK => ?_) AllReadyIn.nil)
          go_simp
          refine hK _ _ ?_
          clear hK K
          refine wpAnyIn_ready (rs := [2]) (by kernel_rfl) (by simp) (AllReadyIn.cons rfl (fun K hK => ?_) AllReadyIn.nil)
          go_simp
          refine hK _ _ ?_
          clear hK K
          refine wpAnyIn_ready (rs := [3]) (by kernel_rfl) (by simp) (AllReadyIn.cons rfl (fun K hK => ?_) AllReadyIn.nil)
          go_simp
          refine hK _ _ ?_
          clear hK K
          refine wpAnyIn_ready (rs := [4]) (by kernel_rfl) (by simp) (AllReadyIn.cons rfl (fun K hK => ?_) AllReadyIn.nil)
          go_simp
          refine ⟨trivial, ?_⟩
          refine (CallsIn.inRound l (callsIn_wide.2 (HP2.out _))).mono ?_
          rintro e w3 ⟨g, c3, rfl, hcs, hb3⟩
          have HCS := hide hcs
          clear hcs
          have HK3 := hide (HK5.out.step hn5 (((Below.refl _ W2).drew).trans hb3))
          have hc3 := HK3.out.box.cell
          have hf3 := HK3.out.box.frozen
          have hn3 := Nat.le_trans hn5 hb3.size
          refine hK _ _ ?_
          clear hK K
          refine wpAnyIn_ready (rs := [5]) (by kernel_rfl) (by simp) (AllReadyIn.cons rfl (fun K hK => ?_) AllReadyIn.nil)
          refine stepIn_append rfl _ _ 22 rfl w.heap.size 5 j0 (.int .u8 0) 1 1 Try.underlying22 Hi.out Hz0.out Hz1.out Hz2.out rfl (by decide) _ (M + m) _ rfl (by have h := HK3.out.row; rw [HM2.out] at h; exact h) ⟨g, 0, none⟩ _ c3 (B8 R2) rfl (by simp [Hm2.out]) HCS.out (hone8 _) (by simp only [maxLen]; omega) (by omega) hn3 (fun v' w4 hown' hg' => ?_)
          obtain ⟨A3, c4, rfl⟩ := own_slice hown'
          obtain ⟨hbx, hk4⟩ := HK3.out.append hb hsz hn3 (ys := (out ++ R) ++ R2) (by simpa using hown') (by rw [List.length_append, HM2.out, Hm2.out]) hg'
          have HK4 := hide hk4
          clear hk4
          have hc4 := hbx.cell
          have hf4 := hbx.frozen
          refine hK _ _ ?_
          clear hK K
          refine wpAnyIn_ready (rs := [6]) (by kernel_rfl) (by simp) (AllReadyIn.cons rfl (fun K hK => ?_) AllReadyIn.nil)
          go_simp
          refine hK _ _ ?_
          clear hK K
          refine wpAnyIn_done (by kernel_rfl) ?_ _
          exact ⟨rfl, A3, c4, by first | exact HK4.out | exact HK4.out.drew⟩
        · go_simp
          refine hK _ _ ?_
          clear hK K
          refine wpAnyIn_ready (rs := [0, 2]) (by kernel_rfl) (by simp) (AllReadyIn.cons rfl (fun K hK => ?_) (AllReadyIn.cons rfl (fun K hK => ?_) AllReadyIn.nil))
          · go_simp
            refine hK _ _ ?_
            clear hK K
            refine wpAnyIn_ready (rs := [2]) (by kernel_rfl) (by simp) (AllReadyIn.cons rfl (fun K hK => ?_) AllReadyIn.nil)
            go_simp
            refine hK _ _ ?_
            clear hK K
            refine wpAnyIn_ready (rs := [3]) (by kernel_rfl) (by simp) (AllReadyIn.cons rfl (fun K hK => ?_) AllReadyIn.nil)
            go_simp
            refine hK _ _ ?_
            clear hK K
            refine wpAnyIn_ready (rs := [4]) (by kernel_rfl) (by simp) (AllReadyIn.cons rfl (fun K hK => ?_) AllReadyIn.nil)
            go_simp
            refine ⟨trivial, ?_⟩
            refine (CallsIn.inRound l (callsIn_wide.2 (HP2.out _))).mono ?_
            rintro e w3 ⟨g, c3, rfl, hcs, hb3⟩
            have HCS := hide hcs
            clear hcs
            have HK3 := hide (HK5.out.step hn5 (((Below.refl _ W2).drew).trans hb3))
            have hc3 := HK3.out.box.cell
            have hf3 := HK3.out.box.frozen
            have hn3 := Nat.le_trans hn5 hb3.size
            refine hK _ _ ?_
            clear hK K
            refine wpAnyIn_ready (rs := [5]) (by kernel_rfl) (by simp) (AllReadyIn.cons rfl (fun K hK => ?_) AllReadyIn.nil)
            refine stepIn_append rfl _ _ 22 rfl w.heap.size 5 j0 (.int .u8 0) 1 1 Try.underlying22 Hi.out Hz0.out Hz1.out Hz2.out rfl (by decide) _ (M + m) _ rfl (by have h := HK3.out.row; rw [HM2.out] at h; exact h) ⟨g, 0, none⟩ _ c3 (B8 R2) rfl (by simp [Hm2.out]) HCS.out (hone8 _) (by simp only [maxLen]; omega) (by omega) hn3 (fun v' w4 hown' hg' => ?_)
            obtain ⟨A3, c4, rfl⟩ := own_slice hown'
            obtain ⟨hbx, hk4⟩ := HK3.out.append hb hsz hn3 (ys := (out ++ R) ++ R2) (by simpa using hown') (by rw [List.length_append, HM2.out, Hm2.out]) hg'
            have HK4 := hide hk4
            clear hk4
            have hc4 := hbx.cell
            have hf4 := hbx.frozen
            refine hK _ _ ?_
            clear hK K
            refine wpAnyIn_ready (rs := [6]) (by kernel_rfl) (by simp) (AllReadyIn.cons rfl (fun K hK => ?_) AllReadyIn.nil)
            go_simp
            refine hK _ _ ?_
            clear hK K
            refine wpAnyIn_done (by kernel_rfl) ?_ _
            exact ⟨rfl, A3, c4, by first | exact HK4.out | exact HK4.out.drew⟩
          · go_simp
            refine hK _ _ ?_
            clear hK K
            refine wpAnyIn_ready (rs := [0, 3]) (by kernel_rfl) (by simp) (AllReadyIn.cons rfl (fun K hK => ?_) (AllReadyIn.cons rfl (fun K hK => ?_) AllReadyIn.nil))
            · go_simp
              refine hK _ _ ?_
              clear hK K
              refine wpAnyIn_ready (rs := [3]) (by kernel_rfl) (by simp) (AllReadyIn.cons rfl (fun K hK => ?_) AllReadyIn.nil)
              go_simp
              refine hK _ _ ?_
              clear hK K
              refine wpAnyIn_ready (rs := [4]) (by kernel_rfl) (by simp) (AllReadyIn.cons rfl (fun K hK => ?_) AllReadyIn.nil)
              go_simp
              refine ⟨trivial, ?_⟩
              refine (CallsIn.inRound l (callsIn_wide.2 (HP2.out _))).mono ?_
              rintro e w3 ⟨g, c3, rfl, hcs, hb3⟩
              have HCS := hide hcs
              clear hcs
              have HK3 := hide (HK5.out.step hn5 (((Below.refl _ W2).drew).trans hb3))
              have hc3 := HK3.out.box.cell
              have hf3 := HK3.out.box.frozen
              have hn3 := Nat.le_trans hn5 hb3.size
              refine hK _ _ ?_
              clear hK K
              refine wpAnyIn_ready (rs := [5]) (by kernel_rfl) (by simp) (AllReadyIn.cons rfl (fun K hK => ?_) AllReadyIn.nil)
              refine stepIn_append rfl _ _ 22 rfl w.heap.size 5 j0 (.int .u8 0) 1 1 Try.underlying22 Hi.out Hz0.out Hz1.out Hz2.out rfl (by decide) _ (M + m) _ rfl (by have h := HK3.out.row; rw [HM2.out] at h; exact h) ⟨g, 0, none⟩ _ c3 (B8 R2) rfl (by simp [Hm2.out]) HCS.out (hone8 _) (by simp only [maxLen]; omega) (by omega) hn3 (fun v' w4 hown' hg' => ?_)
              obtain ⟨A3, c4, rfl⟩ := own_slice hown'
              obtain ⟨hbx, hk4⟩ := HK3.out.append hb hsz hn3 (ys := (out ++ R) ++ R2) (by simpa using hown') (by rw [List.length_append, HM2.out, Hm2.out]) hg'
              have HK4 := hide hk4
              clear hk4
              have hc4 := hbx.cell
              have hf4 := hbx.frozen
              refine hK _ _ ?_
              clear hK K
              refine wpAnyIn_ready (rs := [6]) (by kernel_rfl) (by simp) (AllReadyIn.cons rfl (fun K hK => ?_) AllReadyIn.nil)
              go_simp
              refine hK _ _ ?_
              clear hK K
              refine wpAnyIn_done (by kernel_rfl) ?_ _
              exact ⟨rfl, A3, c4, by first | exact HK4.out | exact HK4.out.drew⟩
            · go_simp
              refine hK _ _ ?_
              clear hK K
              refine wpAnyIn_ready (rs := [0, 4]) (by kernel_rfl) (by simp) (AllReadyIn.cons rfl (fun K hK => ?_) (AllReadyIn.cons rfl (fun K hK => ?_) AllReadyIn.nil))
              · go_simp
                refine hK _ _ ?_
                clear hK K
                refine wpAnyIn_ready (rs := [4]) (by kernel_rfl) (by simp) (AllReadyIn.cons rfl (fun K hK => ?_) AllReadyIn.nil)
                go_simp
                refine ⟨trivial, ?_⟩
                refine (CallsIn.inRound l (callsIn_wide.2 (HP2.out _))).mono ?_
                rintro e w3 ⟨g, c3, rfl, hcs, hb3⟩
                have HCS := hide hcs
                clear hcs
                have HK3 := hide (HK5.out.step hn5 (((Below.refl _ W2).drew).trans hb3))
                have hc3 := HK3.out.box.cell
                have hf3 := HK3.out.box.frozen
                have hn3 := Nat.le_trans hn5 hb3.size
                refine hK _ _ ?_
                clear hK K
                refine wpAnyIn_ready (rs := [5]) (by kernel_rfl) (by simp) (AllReadyIn.cons rfl (fun K hK => ?_) AllReadyIn.nil)
                refine stepIn_append rfl _ _ 22 rfl w.heap.size 5 j0 (.int .u8 0) 1 1 Try.underlying22 Hi.out Hz0.out Hz1.out Hz2.out rfl (by decide) _ (M + m) _ rfl (by have h := HK3.out.row; rw [HM2.out] at h; exact h) ⟨g, 0, none⟩ _ c3 (B8 R2) rfl (by simp [Hm2.out]) HCS.out (hone8 _) (by simp only [maxLen]; omega) (by omega) hn3 (fun v' w4 hown' hg' => ?_)
                obtain ⟨A3, c4, rfl⟩ := own_slice hown'
                obtain ⟨hbx, hk4⟩ := HK3.out.append hb hsz hn3 (ys := (out ++ R) ++ R2) (by simpa using hown') (by rw [List.length_append, HM2.out, Hm2.out]) hg'
                have HK4 := hide hk4
                clear hk4
                have hc4 := hbx.cell
                have hf4 := hbx.frozen
                refine hK _ _ ?_
                clear hK K
                refine wpAnyIn_ready (rs := [6]) (by kernel_rfl) (by simp) (AllReadyIn.cons rfl (fun K hK => ?_) AllReadyIn.nil)
                go_simp
                refine hK _ _ ?_
                clear hK K
                refine wpAnyIn_done (by kernel_rfl) ?_ _
                exact ⟨rfl, A3, c4, by first | exact HK4.out | exact HK4.out.drew⟩
              · go_simp
                refine ⟨trivial, ?_⟩
                refine (CallsIn.inRound l (callsIn_wide.2 (HP2.out _))).mono ?_
                rintro e w3 ⟨g, c3, rfl, hcs, hb3⟩
                have HCS := hide hcs
                clear hcs
                have HK3 := hide (HK5.out.step hn5 (((Below.refl _ W2).drew).trans hb3))
                have hc3 := HK3.out.box.cell
                have hf3 := HK3.out.box.frozen
                have hn3 := Nat.le_trans hn5 hb3.size
                refine hK _ _ ?_
                clear hK K
                refine wpAnyIn_ready (rs := [0]) (by kernel_rfl) (by simp) (AllReadyIn.cons rfl (fun K hK => ?_) AllReadyIn.nil)
                go_simp
                refine hK _ _ ?_
                clear hK K
                refine wpAnyIn_ready (rs := [5]) (by kernel_rfl) (by simp) (AllReadyIn.cons rfl (fun K hK => ?_) AllReadyIn.nil)
                refine stepIn_append rfl _ _ 22 rfl w.heap.size 5 j0 (.int .u8 0) 1 1 Try.underlying22 Hi.out Hz0.out Hz1.out Hz2.out rfl (by decide) _ (M + m) _ rfl (by have h := HK3.out.row; rw [HM2.out] at h; exact h) ⟨g, 0, none⟩ _ c3 (B8 R2) rfl (by simp [Hm2.out]) HCS.out (hone8 _) (by simp only [maxLen]; omega) (by omega) hn3 (fun v' w4 hown' hg' => ?_)
                obtain ⟨A3, c4, rfl⟩ := own_slice hown'
                obtain ⟨hbx, hk4⟩ := HK3.out.append hb hsz hn3 (ys := (out ++ R) ++ R2) (by simpa using hown') (by rw [List.length_append, HM2.out, Hm2.out]) hg'
                have HK4 := hide hk4
                clear hk4
                have hc4 := hbx.cell
                have hf4 := hbx.frozen
                refine hK _ _ ?_
                clear hK K
                refine wpAnyIn_ready (rs := [6]) (by kernel_rfl) (by simp) (AllReadyIn.cons rfl (fun K hK => ?_) AllReadyIn.nil)
                go_simp
                refine hK _ _ ?_
                clear hK K
                refine wpAnyIn_done (by kernel_rfl) ?_ _
                exact ⟨rfl, A3, c4, by first | exact HK4.out | exact HK4.out.drew⟩
      rintro e a' W3 ⟨rfl, A3, c4, hk6⟩
      have hrow := hk6.row
      have he : xs ++ putS (pre ++ [(0, x2)]) = out ++ R ++ R2 := by rw [putS_snoc, ← List.append_assoc, HO.out, HPB.out]; simp
      rw [← he] at hrow
      exact ⟨hk6.others, hk6.keep, ⟨_, hk6.box, hrow, trivial⟩, hk6.it, hk6.below⟩
    · gi_wp2
      refine wpIn_mono (Q := fun e a' w' => e = .normal ∧ ∃ (g c3 : Nat) (A2 : Option Addr) (c2 : Nat), a' = { tmps := #[.slice A n c, .slice a zs.length cap, undef, undef, .slice none 0 0, .pointer (some ⟨w1.heap.size, 0, none⟩), .int .i64 x1, .int .i64 x2, .slice A n c, .slice A0 n c0, .slice a zs.length cap, .func (.func 117) #[] #[.pointer (some ⟨w1.heap.size + 1, 0, none⟩)], .int .i64 x1, .int .i64 x2, .slice A1 M c1, .int .i64 x1, .int .u64 u, .slice (some ⟨g, 0, none⟩) m c3, .slice A2 (M + m) c2, undef, undef, undef, undef, undef, undef, undef, undef, undef], defers := [] } ∧ KeptR w w.heap.size w1.heap.size b (.slice a zs.length cap) W w' (.slice A2 (M + m) c2) (out ++ R)) ?_ ?_
      · refine wpIn_region_any hmx ?_
        change wpAnyIn _ _ _ _ _ _ _ _ _ (World.drew _)
        refine wpAnyIn_ready (rs := [0, 1]) (by kernel_rfl) (by simp) (AllReadyIn.cons rfl (fun K hK => ?_) (AllReadyIn.cons rfl (fun K hK => ?_) AllReadyIn.nil))
        · go_simp
          refine hK _ _ ?_
          clear hK K
          refine wpAnyIn_ready (rs := [1]) (by kernel_rfl) (by simp) (AllReadyIn.cons rfl (fun K hK => ?_) AllReadyIn.nil)
          go_simp
          refine hK _ _ ?_
          clear hK K
          refine wpAnyIn_ready (rs := [2]) (by kernel_rfl) (by simp) (AllReadyIn.cons rfl (fun K hK => ?_) AllReadyIn.nil)
          go_simp
          refine ⟨trivial, ?_⟩
          refine (CallsIn.inRound l (callsIn_wide.2 (HF'.out _))).mono ?_
          rintro e w2 ⟨rfl, hb2⟩
          have HK2 := hide (HK'.out.step hNW (((Below.refl _ W).drew).trans hb2))
          have hc2 := HK2.out.box.cell
          have hf2 := HK2.out.box.frozen
          have hn2 := Nat.le_trans hNW hb2.size
          refine hK _ _ ?_
          clear hK K
          refine wpAnyIn_ready (rs := [3]) (by kernel_rfl) (by simp) (AllReadyIn.cons rfl (fun K hK => ?_) AllReadyIn.nil)
          go_simp
          refine ⟨trivial, ?_⟩
          refine (CallsIn.inRound l (callsIn_wide.2 (HP1.out _))).mono ?_
          rintro e w3 ⟨g, c3, rfl, hcs, hb3⟩
          have HCS := hide hcs
          clear hcs
          have HK3 := hide (HK2.out.step hn2 hb3)
          have hc3 := HK3.out.box.cell
          have hf3 := HK3.out.box.frozen
          have hn3 := Nat.le_trans hn2 hb3.size
          refine hK _ _ ?_
          clear hK K
          refine wpAnyIn_ready (rs := [4]) (by kernel_rfl) (by simp) (AllReadyIn.cons rfl (fun K hK => ?_) AllReadyIn.nil)
          refine stepIn_append rfl _ _ 22 rfl w.heap.size 5 j0 (.int .u8 0) 1 1 Try.underlying22 Hi.out Hz0.out Hz1.out Hz2.out rfl (by decide) _ (M) _ rfl (by have h := HK3.out.row; rw [HM.out] at h; exact h) ⟨g, 0, none⟩ _ c3 (B8 R) rfl (by simp [Hm.out]) HCS.out (hone8 _) (by simp only [maxLen]; omega) (by omega) hn3 (fun v' w4 hown' hg' => ?_)
          obtain ⟨A3, c4, rfl⟩ := own_slice hown'
          obtain ⟨hbx, hk4⟩ := HK3.out.append hb hsz hn3 (ys := out ++ R) (by simpa using hown') (by rw [List.length_append, HM.out, Hm.out]) hg'
          have HK4 := hide hk4
          clear hk4
          have hc4 := hbx.cell
          have hf4 := hbx.frozen
          refine hK _ _ ?_
          clear hK K
          refine wpAnyIn_ready (rs := [5]) (by kernel_rfl) (by simp) (AllReadyIn.cons rfl (fun K hK => ?_) AllReadyIn.nil)
          go_simp
          refine hK _ _ ?_
          clear hK K
          refine wpAnyIn_done (by kernel_rfl) ?_ _
          exact ⟨rfl, g, c3, A3, c4, rfl, by first | exact HK4.out | exact HK4.out.drew⟩
        · go_simp
          refine hK _ _ ?_
          clear hK K
          refine wpAnyIn_ready (rs := [0, 2]) (by kernel_rfl) (by simp) (AllReadyIn.cons rfl (fun K hK => ?_) (AllReadyIn.cons rfl (fun K hK => ?_) AllReadyIn.nil))
          · go_simp
            refine hK _ _ ?_
            clear hK K
            refine wpAnyIn_ready (rs := [2]) (by kernel_rfl) (by simp) (AllReadyIn.cons rfl (fun K hK => ?_) AllReadyIn.nil)
            go_simp
            refine ⟨trivial, ?_⟩
            refine (CallsIn.inRound l (callsIn_wide.2 (HF'.out _))).mono ?_
            rintro e w2 ⟨rfl, hb2⟩
            have HK2 := hide (HK'.out.step hNW (((Below.refl _ W).drew).trans hb2))
            have hc2 := HK2.out.box.cell
            have hf2 := HK2.out.box.frozen
            have hn2 := Nat.le_trans hNW hb2.size
            refine hK _ _ ?_
            clear hK K
            refine wpAnyIn_ready (rs := [3]) (by kernel_rfl) (by simp) (AllReadyIn.cons rfl (fun K hK => ?_) AllReadyIn.nil)
            go_simp
            refine ⟨trivial, ?_⟩
            refine (CallsIn.inRound l (callsIn_wide.2 (HP1.out _))).mono ?_
            rintro e w3 ⟨g, c3, rfl, hcs, hb3⟩
            have HCS := hide hcs
            clear hcs
            have HK3 := hide (HK2.out.step hn2 hb3)
            have hc3 := HK3.out.box.cell
            have hf3 := HK3.out.box.frozen
            have hn3 := Nat.le_trans hn2 hb3.size
            refine hK _ _ ?_
            clear hK K
            refine wpAnyIn_ready (rs := [4]) (by kernel_rfl) (by simp) (AllReadyIn.cons rfl (fun K hK => ?_) AllReadyIn.nil)
            refine stepIn_append rfl _ _ 22 rfl w.heap.size 5 j0 (.int .u8 0) 1 1 Try.underlying22 Hi.out Hz0.out Hz1.out Hz2.out rfl (by decide) _ (M) _ rfl (by have h := HK3.out.row; rw [HM.out] at h; exact h) ⟨g, 0, none⟩ _ c3 (B8 R) rfl (by simp [Hm.out]) HCS.out (hone8 _) (by simp only [maxLen]; omega) (by omega) hn3 (fun v' w4 hown' hg' => ?_)
            obtain ⟨A3, c4, rfl⟩ := own_slice hown'
            obtain ⟨hbx, hk4⟩ := HK3.out.append hb hsz hn3 (ys := out ++ R) (by simpa using hown') (by rw [List.length_append, HM.out, Hm.out]) hg'
            have HK4 := hide hk4
            clear hk4
            have hc4 := hbx.cell
            have hf4 := hbx.frozen
            refine hK _ _ ?_
            clear hK K
            refine wpAnyIn_ready (rs := [5]) (by kernel_rfl) (by simp) (AllReadyIn.cons rfl (fun K hK => ?_) AllReadyIn.nil)
            go_simp
            refine hK _ _ ?_
            clear hK K
            refine wpAnyIn_done (by kernel_rfl) ?_ _
            exact ⟨rfl, g, c3, A3, c4, rfl, by first | exact HK4.out | exact HK4.out.drew⟩
          · go_simp
            refine ⟨trivial, ?_⟩
            refine (CallsIn.inRound l (callsIn_wide.2 (HF'.out _))).mono ?_
            rintro e w2 ⟨rfl, hb2⟩
            have HK2 := hide (HK'.out.step hNW (((Below.refl _ W).drew).trans hb2))
            have hc2 := HK2.out.box.cell
            have hf2 := HK2.out.box.frozen
            have hn2 := Nat.le_trans hNW hb2.size
            refine hK _ _ ?_
            clear hK K
            refine wpAnyIn_ready (rs := [0, 3]) (by kernel_rfl) (by simp) (AllReadyIn.cons rfl (fun K hK => ?_) (AllReadyIn.cons rfl (fun K hK => ?_) AllReadyIn.nil))
            · go_simp
              refine hK _ _ ?_
              clear hK K
              refine wpAnyIn_ready (rs := [3]) (by kernel_rfl) (by simp) (AllReadyIn.cons rfl (fun K hK => ?_) AllReadyIn.nil)
              go_simp
              refine ⟨trivial, ?_⟩
              refine (CallsIn.inRound l (callsIn_wide.2 (HP1.out _))).mono ?_
              rintro e w3 ⟨g, c3, rfl, hcs, hb3⟩
              have HCS := hide hcs
              clear hcs
              have HK3 := hide (HK2.out.step hn2 hb3)
              have hc3 := HK3.out.box.cell
              have hf3 := HK3.out.box.frozen
              have hn3 := Nat.le_trans hn2 hb3.size
              refine hK _ _ ?_
              clear hK K
              refine wpAnyIn_ready (rs := [4]) (by kernel_rfl) (by simp) (AllReadyIn.cons rfl (fun K hK => ?_) AllReadyIn.nil)
              refine stepIn_append rfl _ _ 22 rfl w.heap.size 5 j0 (.int .u8 0) 1 1 Try.underlying22 Hi.out Hz0.out Hz1.out Hz2.out rfl (by decide) _ (M) _ rfl (by have h := HK3.out.row; rw [HM.out] at h; exact h) ⟨g, 0, none⟩ _ c3 (B8 R) rfl (by simp [Hm.out]) HCS.out (hone8 _) (by simp only [maxLen]; omega) (by omega) hn3 (fun v' w4 hown' hg' => ?_)
              obtain ⟨A3, c4, rfl⟩ := own_slice hown'
              obtain ⟨hbx, hk4⟩ := HK3.out.append hb hsz hn3 (ys := out ++ R) (by simpa using hown') (by rw [List.length_append, HM.out, Hm.out]) hg'
              have HK4 := hide hk4
              clear hk4
              have hc4 := hbx.cell
              have hf4 := hbx.frozen
              refine hK _ _ ?_
              clear hK K
              refine wpAnyIn_ready (rs := [5]) (by kernel_rfl) (by simp) (AllReadyIn.cons rfl (fun K hK => ?_) AllReadyIn.nil)
              go_simp
              refine hK _ _ ?_
              clear hK K
              refine wpAnyIn_done (by kernel_rfl) ?_ _
              exact ⟨rfl, g, c3, A3, c4, rfl, by first | exact HK4.out | exact HK4.out.drew⟩
            · go_simp
              refine ⟨trivial, ?_⟩
              refine (CallsIn.inRound l (callsIn_wide.2 (HP1.out _))).mono ?_
              rintro e w3 ⟨g, c3, rfl, hcs, hb3⟩
              have HCS := hide hcs
              clear hcs
              have HK3 := hide (HK2.out.step hn2 hb3)
              have hc3 := HK3.out.box.cell
              have hf3 := HK3.out.box.frozen
              have hn3 := Nat.le_trans hn2 hb3.size
              refine hK _ _ ?_
              clear hK K
              refine wpAnyIn_ready (rs := [0]) (by kernel_rfl) (by simp) (AllReadyIn.cons rfl (fun K hK => ?_) AllReadyIn.nil)
              go_simp
              refine hK _ _ ?_
              clear hK K
              refine wpAnyIn_ready (rs := [4]) (by kernel_rfl) (by simp) (AllReadyIn.cons rfl (fun K hK => ?_) AllReadyIn.nil)
              refine stepIn_append rfl _ _ 22 rfl w.heap.size 5 j0 (.int .u8 0) 1 1 Try.underlying22 Hi.out Hz0.out Hz1.out Hz2.out rfl (by decide) _ (M) _ rfl (by have h := HK3.out.row; rw [HM.out] at h; exact h) ⟨g, 0, none⟩ _ c3 (B8 R) rfl (by simp [Hm.out]) HCS.out (hone8 _) (by simp only [maxLen]; omega) (by omega) hn3 (fun v' w4 hown' hg' => ?_)
              obtain ⟨A3, c4, rfl⟩ := own_slice hown'
              obtain ⟨hbx, hk4⟩ := HK3.out.append hb hsz hn3 (ys := out ++ R) (by simpa using hown') (by rw [List.length_append, HM.out, Hm.out]) hg'
              have HK4 := hide hk4
              clear hk4
              have hc4 := hbx.cell
              have hf4 := hbx.frozen
              refine hK _ _ ?_
              clear hK K
              refine wpAnyIn_ready (rs := [5]) (by kernel_rfl) (by simp) (AllReadyIn.cons rfl (fun K hK => ?_) AllReadyIn.nil)
              go_simp
              refine hK _ _ ?_
              clear hK K
              refine wpAnyIn_done (by kernel_rfl) ?_ _
              exact ⟨rfl, g, c3, A3, c4, rfl, by first | exact HK4.out | exact HK4.out.drew⟩
      rintro e a' W2 ⟨rfl, g, c3, A2, c2, rfl, hk5⟩
      have HK5 := hide hk5
      clear hk5
      have hc5 := HK5.out.box.cell
      have hf5 := HK5.out.box.frozen
      have hn5 := HK5.out.below.size
      gi_wp2
      have hrow := HK5.out.row
      have he : xs ++ putS (pre ++ [(x1, x2)]) = out ++ R := by rw [putS_snoc, ← List.append_assoc, HO.out, HPB.out, if_neg hx, List.append_nil]
      rw [← he] at hrow
      exact ⟨HK5.out.others, HK5.out.keep, ⟨_, HK5.out.box, hrow, trivial⟩, HK5.out.it, HK5.out.below⟩
  case done =>
    rintro D ys W hD rfl ⟨⟨v, hv, hrow, _⟩, hit, hB⟩ hK
    obtain ⟨out, hout⟩ : ∃ out, xs ++ putS (runsL zs) = out := ⟨_, rfl⟩
    obtain ⟨M, hM⟩ : ∃ M, out.length = M := ⟨_, rfl⟩
    rw [hout, hM] at hrow
    obtain ⟨A1, c1, rfl⟩ := own_slice hrow
    have hc := hv.cell
    have HO := hide hout
    have HM := hide hM
    clear hout hM
    gi_wp2
    refine ⟨by simp, .inl ⟨_, _, rfl, run_takeDeferred hK, ?_⟩⟩
    exact ⟨_, results_tmp rfl _ _ _, _, rfl, by rw [HO.out, HM.out]; exact ownsRow_putObj hrow _ hK rfl, hB.trans (belowK_b (w := w) (Nat.le_refl _) W D _ _ (by simp at hD; omega) hK rfl rfl)⟩
  case stop =>
    rintro D c pre W _ _ h _
    exact h.elim

end Go.Proofs.Ytkfejcffacbngaa.J
