import Derived.Test.YtkfejcffacbngaaRR

namespace Go.Proofs.Ytkfejcffacbngaa.J

open Go Go.Sym

set_option linter.unusedVariables false

def invG (ls : List (List Int)) (c : Nat) (env : Env) : Prop := ∃ (b : List Int) (a n p : Int), ls = [b, [a], [n]] ∧ (b.length : Int) ≤ 4294967296 ∧ 0 ≤ n ∧ n ≤ 1048576 ∧ env.row 0 = b ∧ vInt (env.val 2) = n ∧ vInt (env.val 3) = p ∧
  ((c = 0 ∧ Stands b a n p [] false) ∨ (c = 1 ∧ vInt (env.val 5) = ((env.row 4).length : Int) ∧ Stands b a n p (env.row 4) false) ∨ (c = 2 ∧ vInt (env.val 5) = ((env.row 4).length : Int) ∧ Stands b a n p (env.row 4) true))

def muG (ls : List (List Int)) (c : Nat) (env : Env) : Nat × Nat := (0, if c = 0 then 2000000 else (1900000 - (vInt (env.val 5)).toNat))

theorem ret_code {b : List Int} {a n code : Int} (h : getM b a n = ([], 0, code)) {env : Env} {o : Option (Nat × Nat)} {M : Mem} {s : SV} (hs : ∃ e, toIE s = some (IntKind.i64, e) ∧ e.eval env = code) :
    StepG FNt [b, [a], [n]] pcRGet.id pcRGet.rks (invG [b, [a], [n]]) (muG [b, [a], [n]]) o env (.ret (.tuple [.nilslice, .int .i64 0, s]) M) := by
  obtain ⟨e, h1, h2⟩ := hs
  refine ⟨[_, _, _], rfl, ⟨by decide, _, rfl, ?_, trivial⟩, ⟨_, rfl, ?_⟩, ⟨e, h1, ?_⟩, rfl⟩
  · simp only [IE.reval, pcRGet, FNt_106, h]
  · simp only [IE.eval, pcRGet, Nat.reduceAdd, FNt_107, h, List.headD_cons]
  · simp only [h2, pcRGet, Nat.reduceAdd, FNt_108, h, List.headD_cons]

theorem sub_all2 {l : List Int} {n : Nat} (h : n = l.length) : subL l 0 (n : Int) 1 = l := by
  subst h
  simp [subL]

theorem row_end {b : List Int} {a n p : Int} {env : Env} {o : Option (Nat × Nat)} (q3 : vInt (env.val 3) = p) (q5 : vInt (env.val 5) = ((env.row 4).length : Int)) (hg : getM b a n = (env.row 4, p, 0)) :
    StepG FNt [b, [a], [n]] pcRGet.id pcRGet.rks (invG [b, [a], [n]]) (muG [b, [a], [n]]) o env (.ret (.tuple [.rsl (.own 0) (.lit 0) (.var 5) 1, .sint .i64 (.var 3), .int .i64 0]) ⟨1, (.node (some ⟨2, 0, [], .nil, true, (some (.rvar 4, (.var 5, [.i64])))⟩) .nil .nil)⟩) := by
  refine ⟨[_, _, _], rfl, ⟨by decide, _, rfl, ?_, ?_⟩, ⟨_, rfl, ?_⟩, ⟨_, rfl, ?_⟩, rfl⟩
  · rw [subE_eval (by simp only [IE.reval, IE.eval, q5]; simp)]
    simp only [IE.reval, IE.eval, q5, pcRGet, FNt_106, hg]
    exact sub_all2 rfl
  · refine ⟨by simp only [IE.eval, q5]; omega, fun B r cnt ks' h1 h2 => ?_⟩
    obtain rfl := Option.some.inj h1
    cases h2
    exact Int.le_refl _
  · simp only [IE.eval, q3, pcRGet, Nat.reduceAdd, FNt_107, hg, List.headD_cons]
  · simp only [IE.eval, pcRGet, Nat.reduceAdd, FNt_108, hg, List.headD_cons]

theorem go_on {b : List Int} {a n p' : Int} {out' : List Int} {z : Bool} {c j : Nat} {σ : Sb} {env : Env} (hst : Stands b a n p' out' z) (hj : (j = 1 ∧ z = false) ∨ (j = 2 ∧ z = true)) (h1 : (b.length : Int) ≤ 4294967296) (h2 : 0 ≤ n) (h3 : n ≤ 1048576)
    (e0 : (upd env σ).row 0 = b) (e2 : vInt ((upd env σ).val 2) = n) (e3 : vInt ((upd env σ).val 3) = p') (e4 : (upd env σ).row 4 = out') (e5 : vInt ((upd env σ).val 5) = (out'.length : Int)) (hm : c = 0 ∨ vInt (env.val 5) < (out'.length : Int)) (h5 : c = 0 ∨ 0 ≤ vInt (env.val 5)) :
    StepG FNt [b, [a], [n]] pcRGet.id pcRGet.rks (invG [b, [a], [n]]) (muG [b, [a], [n]]) (some (muG [b, [a], [n]] c env)) env (.cut j σ) := by
  have hle : (out'.length : Int) ≤ n := by obtain ⟨_, _, h, _⟩ := hst; exact h
  refine ⟨⟨b, a, n, p', rfl, h1, h2, h3, e0, e2, e3, ?_⟩, fun m hm' => ?_⟩
  · rcases hj with ⟨rfl, rfl⟩ | ⟨rfl, rfl⟩
    · exact .inr (.inl ⟨rfl, by rw [e4]; exact e5, by rw [e4]; exact hst⟩)
    · exact .inr (.inr ⟨rfl, by rw [e4]; exact e5, by rw [e4]; exact hst⟩)
  · cases hm'
    refine Prod.lex_def.2 (.inr ⟨rfl, ?_⟩)
    have hj0 : ¬ j = 0 := by omega
    simp only [muG, if_neg hj0, e5]
    split <;> omega

set_option maxHeartbeats 2000000 in
theorem rget_ok : PcOk Try.prog FNt pcRGet := by
  refine pc_floyd_as (cs := cutG) (base := 3) mix pcRGet knG2_ok (Nat.le_refl 3) rget_rounds rget_entry invG muG (fun ls i env h => by
    obtain ⟨_, _, _, _, _, _, _, _, _, _, _, ⟨h, _⟩ | ⟨h, _⟩ | ⟨h, _⟩⟩ := h <;> simp <;> omega) ?_
  intro ls e0 hf hargs hrng hpre
  simp only [pcRGet, ArgsE, ArgE] at hargs
  obtain ⟨b, _, rfl, ⟨hb, _⟩, a', _, rfl, ha, n', _, rfl, hn, rfl⟩ := hargs
  have hlen := (hrng.1 (.sl [.u8]) b rfl rfl).2
  simp only [measL, List.length_singleton, Nat.div_one] at hlen
  obtain ⟨a, hav⟩ : ∃ z, vInt (e0.val 1) = z := ⟨_, rfl⟩
  obtain ⟨n, hnv⟩ : ∃ z, vInt (e0.val 2) = z := ⟨_, rfl⟩
  simp only [Nat.zero_add, Nat.reduceAdd, hav, hnv] at ha hn
  subst ha; subst hn
  refine ⟨?_, fun env hfn => ⟨⟨?_, ?_, ?_, trivial⟩, ⟨?_, ?_, ?_, trivial⟩⟩, ?_⟩
  · simp only [lB, atmB, AsOk_cons, AsOk_nil, BE.eval, cmpI, IE.eval, IE.reval, hb, Nat.div_one]
    simp; omega
  · rintro ⟨_, _, _, p, hl, h1, h2, h3, q0, q2, q3, _⟩
    simp only [asB0, ltR, lB, atmB, AsOk_cons, AsOk_nil, BE.eval, cmpI, IE.eval, IE.reval, q0, q2, Nat.div_one]
    simp; omega
  · rintro ⟨_, _, _, p, hl, h1, h2, h3, q0, q2, q3, ⟨h, _⟩ | ⟨_, q5, f, hs, h4, h5⟩ | ⟨h, _⟩⟩
    · cases h
    · simp only [asB0, asC0, ltR, lB, nonneg, atmB, List.cons_append, List.nil_append, AsOk_cons, AsOk_nil, BE.eval, cmpI, IE.eval, IE.reval, q0, q2, q5, Nat.div_one]
      simp; omega
    · cases h
  · rintro ⟨_, _, _, p, hl, h1, h2, h3, q0, q2, q3, ⟨h, _⟩ | ⟨h, _⟩ | ⟨_, q5, f, hs, h4, h5⟩⟩
    · cases h
    · cases h
    · simp only [asB0, asC0, ltR, lB, nonneg, atmB, List.cons_append, List.nil_append, AsOk_cons, AsOk_nil, BE.eval, cmpI, IE.eval, IE.reval, q0, q2, q5, Nat.div_one]
      simp; omega
  · rintro ⟨_, _, _, p, hl, h1, h2, h3, q0, q2, q3, ⟨_, hs⟩ | ⟨h, _⟩ | ⟨h, _⟩⟩
    · simp only [List.cons.injEq, and_true] at hl
      obtain ⟨rfl, rfl, rfl⟩ := hl
      have hle : (([] : List Int).length : Int) ≤ n := by obtain ⟨_, _, h, _⟩ := hs; exact h
      have hU0 := lebU_rng' b p (lebR b p).2
      have hM0 := lebU_rng' b (p + (lebR b p).2) (lebR b (p + (lebR b p).2)).2
      have eS : IntKind.u64.wrap (binI .sub .i64 n 0) = n - 0 := by
        have : binI .sub .i64 n 0 = n - 0 := wrap_i64 (by omega)
        rw [this]; exact wrap_u64 (by omega)
      have eM : lebU b (p + (lebR b p).2) (lebR b (p + (lebR b p).2)).2 < n - 0 → binI .add .u64 (lebU b (p + (lebR b p).2) (lebR b (p + (lebR b p).2)).2) 1 = lebU b (p + (lebR b p).2) (lebR b (p + (lebR b p).2)).2 + 1 := fun h => wrap_u64 (by omega)
      have end0 : getM b a n = ([], p, 0) → StepG FNt [b, [a], [n]] pcRGet.id pcRGet.rks (invG [b, [a], [n]]) (muG [b, [a], [n]]) (some (muG [b, [a], [n]] 0 env)) env (.ret (.tuple [.nilslice, .sint .i64 (.var 3), .int .i64 0]) ⟨0, .nil⟩) := by
        intro hg
        refine ⟨[_, _, _], rfl, ⟨by decide, _, rfl, ?_, trivial⟩, ⟨_, rfl, ?_⟩, ⟨_, rfl, ?_⟩, rfl⟩
        · simp only [IE.reval, pcRGet, FNt_106, hg]
        · simp only [IE.eval, q3, pcRGet, Nat.reduceAdd, FNt_107, hg, List.headD_cons]
        · simp only [IE.eval, pcRGet, Nat.reduceAdd, FNt_108, hg, List.headD_cons]
      by_cases hE : (lebR b p).1 = 0
      · by_cases hE2 : (lebR b (p + (lebR b p).2)).1 = 0
        · simp only [allLeaves, AsOk_cons, AsOk_nil, BE.eval, cmpI, IE.eval, IE.reval, IE.aeval, hfn, q0, q2, q3, hE, hE2, if_true, FNt_83, FNt_84, FNt_85, eS, List.headD_cons, Nat.div_one, and_true, true_and, decide_eq_true_eq, decide_eq_false_iff_not, not_true_eq_false, false_and, false_imp_iff]
          refine ⟨fun hA => ?_, fun hA => ?_, fun hA => ?_, fun hA => ?_, fun hA => ?_, fun hA => ?_, fun hA => end0 (hs.done (by simpa using hA.1))⟩
          · exfalso; have := eM hA.2.2.1; omega
          · have hlt : lebU b (p + (lebR b p).2) (lebR b (p + (lebR b p).2)).2 < n - 0 := by have := hA.2.2.1; omega
            have hr := repL_len (lebU b (p + (lebR b p).2) (lebR b (p + (lebR b p).2)).2 + 1) (by omega)
            exact go_on (hs.zeros (by simpa using hA.2.2.2.2.1) hE hA.2.2.2.1 hE2 (by simpa using hlt)) (.inr ⟨rfl, rfl⟩) h1 h2 h3 (by simp [upd, lk_cons, lk_nil, q0]) (by simp [upd, lk_cons, lk_nil, q2]) (by simp [upd, lk_cons, lk_nil, IE.eval, IE.reval, IE.aeval, hfn, q0, q3, hE, hE2, FNt_84, vInt_int]) (by simp [upd, lk_cons, lk_nil, IE.eval, IE.reval, IE.aeval, hfn, q0, q3, hE, hE2, eM hlt, FNt_83, FNt_84]) (by have := repL_len (lebU b (p + (lebR b p).2) (lebR b (p + (lebR b p).2)).2 + 1) (by omega); simp only [upd, lk_cons, lk_nil, Nat.reduceEqDiff, if_false, if_true, IE.eval, IE.reval, IE.aeval, hfn, q0, q3, hE, hE2, FNt_83, FNt_84, List.headD_cons, vInt_int, eM hlt]; rw [List.length_append]; simp; omega) (.inl rfl) (.inl rfl)
          · exfalso; have := eM hA.2.2.1; omega
          · exfalso; have := eM hA.2.2.1; omega
          · exact ret_code (hs.many (by simpa using hA.2.2.1) hE hA.2.1 hE2 (by simp; omega)) ⟨_, rfl, rfl⟩
          · exact go_on (hs.num (by simpa using hA.2.1) hE hA.1) (.inl ⟨rfl, rfl⟩) h1 h2 h3 (by simp [upd, lk_cons, lk_nil, q0]) (by simp [upd, lk_cons, lk_nil, q2]) (by simp [upd, lk_cons, lk_nil, IE.eval, IE.reval, IE.aeval, hfn, q0, q3, hE, FNt_84, vInt_int]) (by simp [upd, lk_cons, lk_nil, IE.eval, IE.reval, IE.aeval, hfn, q0, q3, hE, FNt_83, FNt_109]) (by simp [upd, lk_cons, lk_nil, IE.eval, vInt_int]) (.inl rfl) (.inl rfl)
        · simp only [allLeaves, AsOk_cons, AsOk_nil, BE.eval, cmpI, IE.eval, IE.reval, IE.aeval, hfn, q0, q2, q3, hE, hE2, if_true, if_false, FNt_83, FNt_84, FNt_85, eS, List.headD_cons, Nat.div_one, and_true, true_and, decide_eq_true_eq, decide_eq_false_iff_not, not_true_eq_false, not_false_eq_true, false_and, and_false, false_imp_iff]
          refine ⟨fun hA => ?_, fun hA => ?_, fun hA => end0 (hs.done (by simpa using hA.1))⟩
          · exact ret_code (hs.code2 (by simpa using hA.2.1) hE hA.1 hE2) ⟨_, rfl, by simp only [IE.eval, IE.reval, IE.aeval, hfn, q0, q3, hE, if_true, FNt_84, FNt_85, List.headD_cons]⟩
          · exact go_on (hs.num (by simpa using hA.2.1) hE hA.1) (.inl ⟨rfl, rfl⟩) h1 h2 h3 (by simp [upd, lk_cons, lk_nil, q0]) (by simp [upd, lk_cons, lk_nil, q2]) (by simp [upd, lk_cons, lk_nil, IE.eval, IE.reval, IE.aeval, hfn, q0, q3, hE, FNt_84, vInt_int]) (by simp [upd, lk_cons, lk_nil, IE.eval, IE.reval, IE.aeval, hfn, q0, q3, hE, FNt_83, FNt_109]) (by simp [upd, lk_cons, lk_nil, IE.eval, vInt_int]) (.inl rfl) (.inl rfl)
      · simp only [allLeaves, AsOk_cons, AsOk_nil, BE.eval, cmpI, IE.eval, IE.reval, IE.aeval, hfn, q0, q2, q3, hE, if_false, FNt_83, FNt_84, FNt_85, eS, List.headD_cons, Nat.div_one, and_true, true_and, decide_eq_true_eq, decide_eq_false_iff_not, not_true_eq_false, not_false_eq_true, false_and, and_false, false_imp_iff]
        refine ⟨fun hA => ?_, fun hA => end0 (hs.done (by simpa using hA.1))⟩
        · exact ret_code (hs.code (by simpa using hA.1) hE) ⟨_, rfl, by simp only [IE.eval, IE.reval, IE.aeval, hfn, q0, q3, FNt_85, List.headD_cons]⟩
    · cases h
    · cases h
  · rintro ⟨_, _, _, p, hl, h1, h2, h3, q0, q2, q3, ⟨h, _⟩ | ⟨_, q5, hs⟩ | ⟨h, _⟩⟩
    · cases h
    · simp only [List.cons.injEq, and_true] at hl
      obtain ⟨rfl, rfl, rfl⟩ := hl
      obtain ⟨out, hout⟩ : ∃ o, env.row 4 = o := ⟨_, rfl⟩
      have hend := row_end (b := b) (a := a) (n := n) (o := some (muG [b, [a], [n]] 1 env)) q3 q5
      rw [hout] at q5 hs hend
      have hle : ((out : List Int).length : Int) ≤ n := by obtain ⟨_, _, h, _⟩ := hs; exact h
      have hU0 := lebU_rng' b p (lebR b p).2
      have hM0 := lebU_rng' b (p + (lebR b p).2) (lebR b (p + (lebR b p).2)).2
      have eS : IntKind.u64.wrap (binI .sub .i64 n (out.length : Int)) = n - (out.length : Int) := by
        have : binI .sub .i64 n (out.length : Int) = n - (out.length : Int) := wrap_i64 (by omega)
        rw [this]; exact wrap_u64 (by omega)
      have eM : lebU b (p + (lebR b p).2) (lebR b (p + (lebR b p).2)).2 < n - (out.length : Int) → binI .add .u64 (lebU b (p + (lebR b p).2) (lebR b (p + (lebR b p).2)).2) 1 = lebU b (p + (lebR b p).2) (lebR b (p + (lebR b p).2)).2 + 1 := fun h => wrap_u64 (by omega)
      by_cases hE : (lebR b p).1 = 0
      · by_cases hE2 : (lebR b (p + (lebR b p).2)).1 = 0
        · simp only [allLeaves, AsOk_cons, AsOk_nil, BE.eval, cmpI, IE.eval, IE.reval, IE.aeval, hfn, q0, q2, q3, q5, hE, hE2, if_true, FNt_83, FNt_84, FNt_85, eS, List.headD_cons, Nat.div_one, and_true, true_and, decide_eq_true_eq, decide_eq_false_iff_not, not_true_eq_false, false_and, false_imp_iff]
          refine ⟨fun hA => ?_, fun hA => ?_, fun hA => ?_, fun hA => ?_, fun hA => ?_, fun hA => ?_, fun hA => hend (hs.done hA.1)⟩
          · exfalso; have := eM hA.2.1; omega
          · exfalso; have := eM hA.2.2.1; omega
          · exfalso; have := eM hA.2.2.2.1; omega
          · have hlt := hA.2.2.2.1
            have hr := repL_len (lebU b (p + (lebR b p).2) (lebR b (p + (lebR b p).2)).2 + 1) (by omega)
            exact go_on (hs.zeros hA.2.2.2.2.2.1 hE hA.2.2.2.2.1 hE2 hlt) (.inr ⟨rfl, rfl⟩) h1 h2 h3 (by simp [upd, lk_cons, lk_nil, q0]) (by simp [upd, lk_cons, lk_nil, q2]) (by simp [upd, lk_cons, lk_nil, IE.eval, IE.reval, IE.aeval, hfn, q0, q3, hE, hE2, FNt_84, vInt_int]) (by simp [upd, lk_cons, lk_nil, IE.eval, IE.reval, IE.aeval, hfn, q0, q3, hout, hE, hE2, eM hlt, FNt_83, FNt_84]) (by have := repL_len (lebU b (p + (lebR b p).2) (lebR b (p + (lebR b p).2)).2 + 1) (by omega); simp only [upd, lk_cons, lk_nil, Nat.reduceEqDiff, if_false, if_true, IE.eval, IE.reval, IE.aeval, hfn, q0, q3, q5, hE, hE2, FNt_83, FNt_84, List.headD_cons, vInt_int, eM hlt]; rw [List.length_append]; omega) (.inr (by rw [q5, List.length_append]; omega)) (.inr (by omega))
          · exact ret_code (hs.many hA.2.2.1 hE hA.2.1 hE2 (by omega)) ⟨_, rfl, rfl⟩
          · exact go_on (hs.num hA.2.1 hE hA.1) (.inl ⟨rfl, rfl⟩) h1 h2 h3 (by simp [upd, lk_cons, lk_nil, q0]) (by simp [upd, lk_cons, lk_nil, q2]) (by simp [upd, lk_cons, lk_nil, IE.eval, IE.reval, IE.aeval, hfn, q0, q3, hE, FNt_84, vInt_int]) (by simp [upd, lk_cons, lk_nil, IE.eval, IE.reval, IE.aeval, hfn, q0, q3, hout, hE, FNt_83, FNt_109]) (by simp [upd, lk_cons, lk_nil, IE.eval, q5, vInt_int]) (.inr (by rw [q5, List.length_append]; simp; omega)) (.inr (by omega))
        · simp only [allLeaves, AsOk_cons, AsOk_nil, BE.eval, cmpI, IE.eval, IE.reval, IE.aeval, hfn, q0, q2, q3, q5, hE, hE2, if_true, if_false, FNt_83, FNt_84, FNt_85, eS, List.headD_cons, Nat.div_one, and_true, true_and, decide_eq_true_eq, decide_eq_false_iff_not, not_true_eq_false, not_false_eq_true, false_and, and_false, false_imp_iff]
          refine ⟨fun hA => ?_, fun hA => ?_, fun hA => hend (hs.done hA.1)⟩
          · exact ret_code (hs.code2 hA.2.1 hE hA.1 hE2) ⟨_, rfl, by simp only [IE.eval, IE.reval, IE.aeval, hfn, q0, q3, hE, if_true, FNt_84, FNt_85, List.headD_cons]⟩
          · exact go_on (hs.num hA.2.1 hE hA.1) (.inl ⟨rfl, rfl⟩) h1 h2 h3 (by simp [upd, lk_cons, lk_nil, q0]) (by simp [upd, lk_cons, lk_nil, q2]) (by simp [upd, lk_cons, lk_nil, IE.eval, IE.reval, IE.aeval, hfn, q0, q3, hE, FNt_84, vInt_int]) (by simp [upd, lk_cons, lk_nil, IE.eval, IE.reval, IE.aeval, hfn, q0, q3, hout, hE, FNt_83, FNt_109]) (by simp [upd, lk_cons, lk_nil, IE.eval, q5, vInt_int]) (.inr (by rw [q5, List.length_append]; simp; omega)) (.inr (by omega))
      · simp only [allLeaves, AsOk_cons, AsOk_nil, BE.eval, cmpI, IE.eval, IE.reval, IE.aeval, hfn, q0, q2, q3, q5, hE, if_false, FNt_83, FNt_84, FNt_85, eS, List.headD_cons, Nat.div_one, and_true, true_and, decide_eq_true_eq, decide_eq_false_iff_not, not_true_eq_false, not_false_eq_true, false_and, and_false, false_imp_iff]
        refine ⟨fun hA => ?_, fun hA => hend (hs.done hA.1)⟩
        · exact ret_code (hs.code hA.1 hE) ⟨_, rfl, by simp only [IE.eval, IE.reval, IE.aeval, hfn, q0, q3, FNt_85, List.headD_cons]⟩
    · cases h
  · rintro ⟨_, _, _, p, hl, h1, h2, h3, q0, q2, q3, ⟨h, _⟩ | ⟨h, _⟩ | ⟨_, q5, hs⟩⟩
    · cases h
    · cases h
    · simp only [List.cons.injEq, and_true] at hl
      obtain ⟨rfl, rfl, rfl⟩ := hl
      obtain ⟨out, hout⟩ : ∃ o, env.row 4 = o := ⟨_, rfl⟩
      have hend := row_end (b := b) (a := a) (n := n) (o := some (muG [b, [a], [n]] 2 env)) q3 q5
      rw [hout] at q5 hs hend
      have hle : ((out : List Int).length : Int) ≤ n := by obtain ⟨_, _, h, _⟩ := hs; exact h
      have hU0 := lebU_rng' b p (lebR b p).2
      have hM0 := lebU_rng' b (p + (lebR b p).2) (lebR b (p + (lebR b p).2)).2
      by_cases hE : (lebR b p).1 = 0
      · simp only [allLeaves, AsOk_cons, AsOk_nil, BE.eval, cmpI, IE.eval, IE.reval, IE.aeval, hfn, q0, q2, q3, q5, hE, if_true, FNt_83, FNt_85, List.headD_cons, Nat.div_one, and_true, true_and, decide_eq_true_eq, decide_eq_false_iff_not, not_true_eq_false, false_and, false_imp_iff]
        refine ⟨fun hA => ?_, fun hA => ?_, fun hA => hend (hs.done hA.1)⟩
        · exact ret_code (hs.twice hA.2.1 hE hA.1) ⟨_, rfl, rfl⟩
        · exact go_on (hs.num hA.2.1 hE hA.1) (.inl ⟨rfl, rfl⟩) h1 h2 h3 (by simp [upd, lk_cons, lk_nil, q0]) (by simp [upd, lk_cons, lk_nil, q2]) (by simp [upd, lk_cons, lk_nil, IE.eval, IE.reval, IE.aeval, hfn, q0, q3, hE, FNt_84, vInt_int]) (by simp [upd, lk_cons, lk_nil, IE.eval, IE.reval, IE.aeval, hfn, q0, q3, hout, hE, FNt_83, FNt_109]) (by simp [upd, lk_cons, lk_nil, IE.eval, q5, vInt_int]) (.inr (by rw [q5, List.length_append]; simp; omega)) (.inr (by omega))
      · simp only [allLeaves, AsOk_cons, AsOk_nil, BE.eval, cmpI, IE.eval, IE.reval, IE.aeval, hfn, q0, q2, q3, q5, hE, if_false, FNt_83, FNt_85, List.headD_cons, Nat.div_one, and_true, true_and, decide_eq_true_eq, decide_eq_false_iff_not, not_true_eq_false, not_false_eq_true, false_and, and_false, false_imp_iff]
        refine ⟨fun hA => ?_, fun hA => hend (hs.done hA.1)⟩
        · exact ret_code (hs.code hA.1 hE) ⟨_, rfl, by simp only [IE.eval, IE.reval, IE.aeval, hfn, q0, q3, FNt_85, List.headD_cons]⟩
  · have no11 : a < 0 ∨ (b.length : Int) < a ∨ n < 0 ∨ 1048576 < n → getM b a n = ([], 0, 11) := fun h => by rw [getM, if_pos h]
    simp only [allLeaves, AsOk_cons, AsOk_nil, BE.eval, cmpI, IE.eval, IE.reval, hb, hav, hnv, Nat.div_one, and_true, decide_eq_true_eq, decide_eq_false_iff_not]
    refine ⟨fun hA => ret_code (no11 (.inl hA.1)) ⟨_, rfl, rfl⟩, fun hA => ret_code (no11 (.inr (.inl hA.1))) ⟨_, rfl, rfl⟩, fun hA => ret_code (no11 (.inr (.inr (.inl hA.1)))) ⟨_, rfl, rfl⟩, fun hA => ret_code (no11 (.inr (.inr (.inr hA.1)))) ⟨_, rfl, rfl⟩, fun hA => ?_⟩
    refine stepG_cut0 ⟨b, a, n, a, rfl, hlen, by omega, by omega, ?_, ?_, ?_, .inl ⟨rfl, Stands.start (by omega) (by omega) (by omega) (by omega)⟩⟩
    · simp [upd, lk_nil, hb]
    · simp [upd, lk_cons, lk_nil, hnv]
    · simp [upd, lk_cons, lk_nil, IE.eval, hav, vInt_int]

end Go.Proofs.Ytkfejcffacbngaa.J
