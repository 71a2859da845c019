import Derived.Test.YtkfejcffacbngaaRN

namespace Go.Proofs.Ytkfejcffacbngaa.J

open Go Go.Sym

set_option linter.unusedVariables false

theorem sub_all' {l : List Int} {n : Nat} (h : n = l.length) : subL l 0 (n : Int) 1 = l := by
  subst h
  simp [subL]

theorem wrapU (y : Int) : 0 ≤ IntKind.u64.wrap y ∧ IntKind.u64.wrap y ≤ 18446744073709551615 := wrapU_rng y

set_option maxHeartbeats 1000000 in
theorem bytes_ok : PcOk Try.prog FNs pcBytes := by
  refine pc_floyd (cs := cutB) (base := 1) mix pcBytes knB_ok (Nat.le_refl 1) bytes_rounds bytes_entry invB muB (fun ls i env h => by
    obtain ⟨_, _, _, _, h | ⟨h, _⟩ | ⟨h, _⟩ | ⟨h, _⟩⟩ := h <;> simp <;> omega) ?_
  intro ls e0 hf hargs hrng hpre
  simp only [pcBytes, ArgsE, ArgE] at hargs
  obtain ⟨zs, _, rfl, ⟨hb, _⟩, rfl⟩ := hargs
  have hlen := (hrng.1 (.sl [.i64]) zs rfl rfl).2
  simp only [measL, List.length_singleton, Nat.div_one] at hlen
  refine ⟨fun env hfn => ⟨⟨?_, ?_, ?_, ?_, trivial⟩, ⟨?_, ?_, ?_, ?_, trivial⟩⟩, ?_⟩
  · rintro ⟨_, hl, h1, q0, _⟩
    refine asOk_append ?_ (inU_ok env hfn (z := foldM (at0 (env.row 0) 0)) ?_ (foldM_rng _))
    · simp only [lim, lB, atmB, AsOk_cons, AsOk_nil, BE.eval, cmpI, IE.eval, IE.reval, q0, Nat.div_one]
      simp; omega
    · simp only [IE.eval, IE.reval, IE.aeval, hfn, FNs_100, List.headD_cons]
      rw [show selL (env.row 0) 0 1 0 = at0 (env.row 0) 0 from sel_at0 _ 0]
  · rintro ⟨_, hl, h1, q0, h | ⟨_, i, q1, h2, h3, q3, ho⟩ | ⟨h, _⟩ | ⟨h, _⟩⟩
    · cases h
    · have e1 : binI .sub .i64 (i : Int) 1 = (i : Int) - 1 := wrap_i64 (by omega)
      have hl2 := (lebN_len' 10 (foldM (at0 (env.row 0) i))).2
      have ho2 := ho.2
      refine asOk_append (asOk_append (asOk_append ?_ (inU_ok env hfn (z := foldM (at0 (env.row 0) i)) ?_ (foldM_rng _))) ?_) ?_
      · simp only [lim, ltR, im1, lB, atmB, AsOk_cons, AsOk_nil, BE.eval, cmpI, IE.eval, IE.reval, q0, q1, e1, Nat.div_one]
        simp; omega
      · simp only [IE.eval, IE.reval, IE.aeval, hfn, q1, FNs_100, List.headD_cons, sel_at0]
      · simp only [cntB, nonneg, atmB, AsOk_cons, AsOk_nil, BE.eval, cmpI, IE.eval, q3]
        simp; omega
      · simp only [ltR, rowE, xiE, AsOk_cons, AsOk_nil, BE.eval, cmpI, IE.eval, IE.reval, IE.aeval, hfn, q1, q3, FNs_100, FNs_82, List.headD_cons, sel_at0, Nat.div_one]
        simp; omega
    · cases h
    · cases h
  · rintro ⟨_, hl, h1, q0, h | ⟨h, _⟩ | ⟨_, k, q4, h2, h3, h4, h5⟩ | ⟨h, _⟩⟩
    · cases h
    · cases h
    · have e1 : binI .add .i64 0 (k : Int) = (k : Int) := by simp only [binI]; rw [wrap_i64 (by omega)]; omega
      have hl2 := (lebN_len' 10 (IntKind.u64.wrap (binI .sub .i64 (k : Int) 1))).2
      refine asOk_append (asOk_append ?_ (inU_ok env hfn (z := IntKind.u64.wrap (binI .sub .i64 (k : Int) 1)) ?_ (wrapU _))) ?_
      · simp only [lim, nonneg, ltR, lB, atmB, AsOk_cons, AsOk_nil, BE.eval, cmpI, IE.eval, IE.reval, q0, q4, e1, Nat.div_one]
        simp; omega
      · simp only [IE.eval, q4]
      · simp only [ltR, rowE, ukE, AsOk_cons, AsOk_nil, BE.eval, cmpI, IE.eval, IE.reval, IE.aeval, hfn, q4, FNs_82, Nat.div_one]
        simp; omega
    · cases h
  · rintro ⟨_, hl, h1, q0, h | ⟨h, _⟩ | ⟨h, _⟩ | ⟨_, i, k, q1, q4, h2, h3, h4, h5, h6, h7, q3, ho⟩⟩
    · cases h
    · cases h
    · cases h
    · have e1 : binI .add .i64 (i : Int) (k : Int) = (i : Int) + k := wrap_i64 (by omega)
      have hl2 := (lebN_len' 10 (IntKind.u64.wrap (binI .sub .i64 (k : Int) 1))).2
      have ho2 := ho.2
      refine asOk_append (asOk_append (asOk_append ?_ (inU_ok env hfn (z := IntKind.u64.wrap (binI .sub .i64 (k : Int) 1)) ?_ (wrapU _))) ?_) ?_
      · simp only [lim, nonneg, ltR, ipk, lB, atmB, AsOk_cons, AsOk_nil, BE.eval, cmpI, IE.eval, IE.reval, q0, q1, q4, e1, Nat.div_one]
        simp; omega
      · simp only [IE.eval, q4]
      · simp only [cntB, nonneg, atmB, AsOk_cons, AsOk_nil, BE.eval, cmpI, IE.eval, q3]
        simp; omega
      · simp only [ltR, rowE, ukE, AsOk_cons, AsOk_nil, BE.eval, cmpI, IE.eval, IE.reval, IE.aeval, hfn, q3, q4, FNs_82, Nat.div_one]
        simp; omega
  · rintro ⟨_, hl, h1, q0, _⟩
    simp only [List.cons.injEq, and_true] at hl
    subst hl
    have s0 : selL zs 0 1 0 = at0 zs 0 := sel_at0 _ 0
    have hl2 := (lebN_len' 10 (foldM (at0 zs 0))).2
    simp only [allLeaves, AsOk_cons, AsOk_nil, BE.eval, cmpI, IE.eval, IE.reval, IE.aeval, hfn, q0, s0, FNs_100, FNs_82, List.headD_cons, Nat.div_one, and_true, decide_eq_true_eq, decide_eq_false_iff_not]
    refine ⟨fun hA => ?_, fun hA => ?_, fun hA => ?_, fun hA => ?_⟩
    · refine stepG_cut ⟨zs, rfl, h1, ?_, .inr (.inr (.inl ⟨rfl, 0, ?_, by omega, by omega, hA.1, fun j hj => by omega⟩))⟩ (Prod.lex_def.2 (.inl ?_))
      · simp [upd, lk_nil, q0]
      · simp [upd, lk_cons, lk_nil, IE.eval, vInt_int]
      · simp [muB]
    · exfalso; omega
    · have hO := (Outd.start zs).num (by omega) hA.2.1
      refine stepG_cut ⟨zs, rfl, h1, ?_, .inr (.inl ⟨rfl, 1, ?_, by omega, by omega, ?_, ?_⟩)⟩ (Prod.lex_def.2 (.inl ?_))
      · simp [upd, lk_cons, lk_nil, q0]
      · simp [upd, lk_cons, lk_nil, IE.eval, vInt_int]
      · simp [upd, lk_cons, lk_nil, IE.eval, IE.reval, IE.aeval, hfn, q0, s0, FNs_100, FNs_82, vInt_int]
      · simp only [upd, lk_cons, lk_nil, if_true, IE.eval, IE.reval, IE.aeval, hfn, q0, s0, FNs_100, FNs_82, List.headD_cons]
        exact hO
      · simp [muB, upd, lk_cons, lk_nil, IE.eval, vInt_int]; omega
    · have hz : zs = [] := List.eq_nil_of_length_eq_zero (by omega)
      subst hz
      refine ⟨[_], rfl, ⟨by decide, _, rfl, ?_, ?_⟩, rfl⟩
      · rfl
      · refine ⟨by simp [IE.eval], fun B r cnt ks' h1 h2 => ?_⟩
        obtain rfl := Option.some.inj h1
        cases h2
        exact Int.le_refl _
  · rintro ⟨_, hl, h1, q0, h | ⟨_, i, q1, h2, h3, q3, ho⟩ | ⟨h, _⟩ | ⟨h, _⟩⟩
    · cases h
    · simp only [List.cons.injEq, and_true] at hl
      subst hl
      have e1 : binI .sub .i64 (i : Int) 1 = ((i - 1 : Nat) : Int) := by simp only [binI]; rw [wrap_i64 (by omega)]; omega
      have e2 : binI .add .i64 (i : Int) 1 = ((i + 1 : Nat) : Int) := by simp only [binI]; rw [wrap_i64 (by omega)]; omega
      have ho2 := ho.2
      simp only [allLeaves, AsOk_cons, AsOk_nil, BE.eval, cmpI, IE.eval, IE.reval, IE.aeval, hfn, q0, q1, q3, e1, sel_at0, FNs_100, FNs_82, List.headD_cons, Nat.div_one, and_true, decide_eq_true_eq, decide_eq_false_iff_not]
      refine ⟨fun hA => ?_, fun hA => ?_, fun hA => ?_, fun hA => ?_⟩
      · refine stepG_cut ⟨zs, rfl, h1, ?_, .inr (.inl ⟨rfl, i + 1, ?_, by omega, by omega, ?_, ?_⟩)⟩ (Prod.lex_def.2 (.inl ?_))
        · simp [upd, lk_cons, lk_nil, q0]
        · simp [upd, lk_cons, lk_nil, IE.eval, q1, e2, vInt_int]
        · simp [upd, lk_cons, lk_nil, IE.eval, IE.reval, q3, vInt_int]
        · simp only [upd, lk_cons, lk_nil, if_true, IE.reval]
          exact ho.inn (by omega) (by omega) hA.1 hA.2.1
        · simp [muB, upd, lk_cons, lk_nil, IE.eval, q1, e2, vInt_int]; omega
      · refine stepG_cut ⟨zs, rfl, h1, ?_, .inr (.inr (.inr ⟨rfl, i, 0, ?_, ?_, by omega, by omega, by omega, hA.2.1, hA.1, fun j hj => by omega, ?_, ?_⟩))⟩ (Prod.lex_def.2 (.inl ?_))
        · simp [upd, lk_cons, lk_nil, q0]
        · simp [upd, lk_cons, lk_nil, IE.eval, q1, vInt_int]
        · simp [upd, lk_cons, lk_nil, IE.eval, vInt_int]
        · simp [upd, lk_cons, lk_nil, IE.eval, IE.reval, q3, vInt_int]
        · simp only [upd, lk_cons, lk_nil, if_true, IE.reval]
          exact ho
        · simp [muB, upd, lk_cons, lk_nil, IE.eval, q1, vInt_int]
      · have hO := ho.num (by omega) hA.1
        refine stepG_cut ⟨zs, rfl, h1, ?_, .inr (.inl ⟨rfl, i + 1, ?_, by omega, by omega, ?_, ?_⟩)⟩ (Prod.lex_def.2 (.inl ?_))
        · simp [upd, lk_cons, lk_nil, q0]
        · simp [upd, lk_cons, lk_nil, IE.eval, q1, e2, vInt_int]
        · simp [upd, lk_cons, lk_nil, IE.eval, IE.reval, IE.aeval, hfn, q0, q1, q3, sel_at0, FNs_100, FNs_82, vInt_int]
        · simp only [upd, lk_cons, lk_nil, if_true, IE.eval, IE.reval, IE.aeval, hfn, q0, q1, sel_at0, FNs_100, FNs_82, List.headD_cons]
          exact hO
        · simp [muB, upd, lk_cons, lk_nil, IE.eval, q1, e2, vInt_int]; omega
      · obtain rfl : i = zs.length := by omega
        have hend : env.row 2 = putS (runsL zs) := by have := ho.1; rw [restR_end] at this; simpa [putS] using this
        refine ⟨[_], rfl, ⟨by decide, _, rfl, ?_, ?_⟩, rfl⟩
        · rw [subE_eval (by simp only [IE.reval, IE.eval, q3]; simp)]
          simp only [IE.reval, IE.eval, q3, hend, pcBytes, FNs_105]
          exact sub_all' rfl
        · refine ⟨by simp only [IE.eval, q3]; omega, fun B r cnt ks' h1 h2 => ?_⟩
          obtain rfl := Option.some.inj h1
          cases h2
          exact Int.le_refl _
    · cases h
    · cases h
  · rintro ⟨_, hl, h1, q0, h | ⟨h, _⟩ | ⟨_, k, q4, h2, h3, h4, h5⟩ | ⟨h, _⟩⟩
    · cases h
    · cases h
    · simp only [List.cons.injEq, and_true] at hl
      subst hl
      have e1 : binI .add .i64 0 (k : Int) = (k : Int) := by simp only [binI]; rw [wrap_i64 (by omega)]; omega
      have e2 : binI .add .i64 (k : Int) 1 = ((k + 1 : Nat) : Int) := by simp only [binI]; rw [wrap_i64 (by omega)]; omega
      have fin : (0 + k < zs.length → at0 zs (0 + k) ≠ 0) → StepG FNs [zs] pcBytes.id pcBytes.rks (invB [zs]) (muB [zs]) (some (muB [zs] 2 env)) env (.cut 1 ⟨[(1, .lit 1), (3, .plus (.lit 1) (.rlen (.rapp 82 (.acons (.rcons (.wrap .u64 (.bin .sub .i64 (.var 4) (.lit 1))) .rnil) .anil)) 1))], [(2, .cat (.rcons (.lit 0) .rnil) (.rapp 82 (.acons (.rcons (.wrap .u64 (.bin .sub .i64 (.var 4) (.lit 1))) .rnil) .anil)))], [], [(0, 2)]⟩) := by
        intro hf
        have hO := (Outd.start zs).zero (k := k) h3 (by omega) h4 (by omega) h5 hf
        refine stepG_cut ⟨zs, rfl, h1, ?_, .inr (.inl ⟨rfl, 1, ?_, by omega, by omega, ?_, ?_⟩)⟩ (Prod.lex_def.2 (.inl ?_))
        · simp [upd, lk_cons, lk_nil, q0]
        · simp [upd, lk_cons, lk_nil, IE.eval, vInt_int]
        · simp [upd, lk_cons, lk_nil, IE.eval, IE.reval, IE.aeval, hfn, q4, FNs_82, vInt_int]; omega
        · simp only [upd, lk_cons, lk_nil, if_true, IE.eval, IE.reval, IE.aeval, hfn, q4, FNs_82]
          exact hO
        · simp [muB, upd, lk_cons, lk_nil, IE.eval, vInt_int]; omega
      simp only [allLeaves, AsOk_cons, AsOk_nil, BE.eval, cmpI, IE.eval, IE.reval, q0, q4, e1, sel_at0, Nat.div_one, and_true, decide_eq_true_eq, decide_eq_false_iff_not]
      refine ⟨fun hA => ?_, fun hA => fin (fun _ => by rw [Nat.zero_add]; exact hA.1), fun hA => fin (fun h => by omega)⟩
      refine stepG_cut ⟨zs, rfl, h1, ?_, .inr (.inr (.inl ⟨rfl, k + 1, ?_, by omega, h3, h4, fun j hj => ?_⟩))⟩ (Prod.lex_def.2 (.inr ⟨?_, ?_⟩))
      · simp [upd, lk_cons, lk_nil, q0]
      · simp [upd, lk_cons, lk_nil, IE.eval, q4, e2, vInt_int]
      · by_cases hjk : j = k
        · subst hjk; rw [Nat.zero_add]; exact hA.1
        · exact h5 j (by omega)
      · simp [muB]
      · simp [muB, upd, lk_cons, lk_nil, IE.eval, q4, e2, vInt_int]; omega
    · cases h
  · rintro ⟨_, hl, h1, q0, h | ⟨h, _⟩ | ⟨h, _⟩ | ⟨_, i, k, q1, q4, h2, h3, h4, h5, h6, h7, q3, ho⟩⟩
    · cases h
    · cases h
    · cases h
    · simp only [List.cons.injEq, and_true] at hl
      subst hl
      have e1 : binI .add .i64 (i : Int) (k : Int) = ((i + k : Nat) : Int) := by simp only [binI]; rw [wrap_i64 (by omega)]; omega
      have e2 : binI .add .i64 (k : Int) 1 = ((k + 1 : Nat) : Int) := by simp only [binI]; rw [wrap_i64 (by omega)]; omega
      have e3 : binI .add .i64 (i : Int) 1 = ((i + 1 : Nat) : Int) := by simp only [binI]; rw [wrap_i64 (by omega)]; omega
      have fin : (i + k < zs.length → at0 zs (i + k) ≠ 0) → StepG FNs [zs] pcBytes.id pcBytes.rks (invB [zs]) (muB [zs]) (some (muB [zs] 3 env)) env (.cut 1 ⟨[(1, .bin .add .i64 (.var 1) (.lit 1)), (3, .plus (.plus (.var 3) (.lit 1)) (.rlen (.rapp 82 (.acons (.rcons (.wrap .u64 (.bin .sub .i64 (.var 4) (.lit 1))) .rnil) .anil)) 1))], [(2, .cat (.cat (.rvar 2) (.rcons (.lit 0) .rnil)) (.rapp 82 (.acons (.rcons (.wrap .u64 (.bin .sub .i64 (.var 4) (.lit 1))) .rnil) .anil)))], [], [(0, 0)]⟩) := by
        intro hf
        have hO := ho.zero (k := k) h3 (fun h => h6 h.2) h5 h4 h7 hf
        refine stepG_cut ⟨zs, rfl, h1, ?_, .inr (.inl ⟨rfl, i + 1, ?_, by omega, by omega, ?_, ?_⟩)⟩ (Prod.lex_def.2 (.inl ?_))
        · simp [upd, lk_cons, lk_nil, q0]
        · simp [upd, lk_cons, lk_nil, IE.eval, q1, e3, vInt_int]
        · simp [upd, lk_cons, lk_nil, IE.eval, IE.reval, IE.aeval, hfn, q3, q4, FNs_82, vInt_int]; omega
        · simp only [upd, lk_cons, lk_nil, if_true, IE.eval, IE.reval, IE.aeval, hfn, q4, FNs_82, List.append_assoc, List.cons_append, List.nil_append]
          exact hO
        · simp [muB, upd, lk_cons, lk_nil, IE.eval, q1, e3, vInt_int]; omega
      simp only [allLeaves, AsOk_cons, AsOk_nil, BE.eval, cmpI, IE.eval, IE.reval, q0, q1, q4, e1, sel_at0, Nat.div_one, and_true, decide_eq_true_eq, decide_eq_false_iff_not]
      refine ⟨fun hA => ?_, fun hA => fin (fun _ => hA.1), fun hA => fin (fun h => by omega)⟩
      refine stepG_cut ⟨zs, rfl, h1, ?_, .inr (.inr (.inr ⟨rfl, i, k + 1, ?_, ?_, h2, h3, by omega, h5, h6, fun j hj => ?_, ?_, ?_⟩))⟩ (Prod.lex_def.2 (.inr ⟨?_, ?_⟩))
      · simp [upd, lk_cons, lk_nil, q0]
      · simp [upd, lk_cons, lk_nil, IE.eval, q1, vInt_int]
      · simp [upd, lk_cons, lk_nil, IE.eval, q4, e2, vInt_int]
      · by_cases hjk : j = k
        · subst hjk; exact hA.1
        · exact h7 j (by omega)
      · simp [upd, lk_cons, lk_nil, IE.eval, IE.reval, q3, vInt_int]
      · simp only [upd, lk_cons, lk_nil, if_true, IE.reval]
        exact ho
      · simp [muB, upd, lk_cons, lk_nil, IE.eval, q1, vInt_int]
      · simp [muB, upd, lk_cons, lk_nil, IE.eval, q4, e2, vInt_int]; omega
  · simp only [allLeaves, and_true]
    exact fun _ => stepG_cut0 ⟨zs, rfl, by omega, by simp [upd, lk_nil, hb], .inl rfl⟩

end Go.Proofs.Ytkfejcffacbngaa.J
