import Derived.Test.YtkfejcffacbngaaDJ

namespace Go.Proofs.Ytkfejcffacbngaa

open Go Go.Sym

set_option linter.unusedVariables false

theorem awake_dir : saysTrue Try.prog 5000 35 = true := by kernel_rfl

theorem knPuts_ok : ∀ env : Env, env.fn = FNf → KnOk Try.prog env knPuts := fun env h =>
  knOk_cons (knOk_cons (knOk_cons (knOk_cons (knOk_cons (knOk_cons (knOk_cons (knOk_cons knOk_nil (Pc.ct_ok h get_ok))
    (Pc.ct_ok h (f_ok (e_ok (d_ok sizeR_ok (by decide) (by decide)) (by decide) (by decide)) (by decide) (by decide))))
    (Pc.ct_ok h (f_ok (e_ok (d_ok size_ok (by decide) (by decide)) (by decide) (by decide)) (by decide) (by decide))))
    (Pc.ct_ok h (f_ok (e_ok (d_ok tilesR_ok (by decide) (by decide)) (by decide) (by decide)) (by decide) (by decide))))
    (Pc.ct_ok h tiles_f))
    (Pc.ct_ok h (f_ok (e_ok putR_ok (by decide) (by decide)) (by decide) (by decide))))
    (Pc.ct_ok h (f_ok (e_ok put_ok (by decide) (by decide)) (by decide) (by decide)))) (ctTrue_ok mix awake_dir)

theorem FNf_52 (w h : Int) : FNf 52 [[w], [h]] = [if szOk w h then 13 + 8 * tilesI w h else 0] := rfl
theorem FNf_54 (w h : Int) (l : List Int) : FNf 54 [[w], [h], l] = putL w h l := rfl
theorem FNf_55 (w h : Int) (l : List Int) : FNf 55 [[w], [h], l] = [putC w h l] := rfl

theorem chunk2_at {l : List Int} {i : Nat} (h : 2 * (i + 1) ≤ l.length) : l.drop (2 * i) = selL l (i : Int) 2 0 :: selL l (i : Int) 2 1 :: l.drop (2 * (i + 1)) := by
  have g : ∀ f : Nat, selL l (i : Int) 2 f = l[2 * i + f]?.getD 0 := by
    intro f
    simp only [selL, Int.toNat_natCast, Nat.mul_comm i 2]
  have e : ∀ k, k < l.length → l.drop k = l[k]?.getD 0 :: l.drop (k + 1) := by
    intro k hk
    rw [List.drop_eq_getElem_cons hk, List.getElem?_eq_getElem hk]; rfl
  rw [g 0, g 1, e (2 * i) (by omega), e (2 * i + 1) (by omega)]
  rfl

abbrev Says (vs : Array Value) (w : World) : Prop := Calls Try.prog 9 vs w fun e w' => e = .returned (.bool true) ∧ RowKit.Below w.heap.size w w'

theorem law_const {w : World} {vs : Array Value} {W H : Int} {lens behind : List Int} (hargs : ArgsAre w vs.toList akP [[W], [H], lens, behind]) {aa : As} {outs : List Leaf} (hent : entryK Try.prog knPuts 1 800 9 [] 4 (argSVs 0 akP) 6 aa = some outs)
    (hall : ∀ e0 : Env, e0.fn = FNf → vInt (e0.val 0) = W → vInt (e0.val 1) = H → e0.row 2 = lens → e0.row 3 = behind →
      AsOk e0 aa ∧ allLeaves (fun lf => AsOk e0 lf.1 → StepL (fun _ _ => False) (fun _ _ => (0, 0)) none e0 lf.2) outs) : Says vs w := by
  refine law_floyd_as (FN := FNf) mix knPuts_ok (by decide) hent hargs fun e0 hf ha => ?_
  simp only [ArgsE, ArgE, List.cons.injEq, and_true] at ha
  obtain ⟨_, _, ⟨rfl, rfl⟩, ha0, _, _, ⟨rfl, rfl⟩, ha1, _, _, ⟨rfl, rfl⟩, ⟨ha2, _⟩, _, _, ⟨rfl, rfl⟩, ⟨ha3, _⟩, _⟩ := ha
  simp only [List.cons.injEq, and_true] at ha0 ha1
  exact hall e0 hf ha0.symm ha1.symm ha2 ha3

def invLaw (ls : List (List Int)) (c : Nat) (env : Env) : Prop := c = 0 ∧ ∃ (W H : Int) (lens behind : List Int), ls = [[W], [H], lens, behind] ∧ lens.length ≤ 5000 ∧ (∀ l ∈ lens, lenOk l) ∧ env.row 2 = lens ∧ ∃ (n : Nat) (a a0 : Int), env.row 4 = pairsL a0 lens ∧
  vInt (env.val 5) = (lens.length : Int) ∧ vInt (env.val 7) = n ∧ n ≤ lens.length ∧ vInt (env.val 6) = a ∧ (0 ≤ a ∧ a ≤ 40000 + 1048576 * n) ∧ (pairsL a0 lens).drop (2 * n) = pairsL a (lens.drop n)

theorem dec6000 {n m : Nat} (h : n < m) (hm : m ≤ 5000) : (6000 - ((n + 1 : Nat) : Int)).toNat < (6000 - (n : Int)).toNat := by omega

theorem puts_main {w : World} {vs : Array Value} {W H : Int} {lens behind : List Int} (hargs : ArgsAre w vs.toList akP [[W], [H], lens, behind]) (h1 : lens.length ≤ 5000) (h2 : behind.length ≤ 100) (hc : putC W H lens = 0) : Says vs w := by
  refine law_floyd_cas (cs := cutLaw) (FN := FNf) (aa := asMain) (aks := akP) (base := 4) mix (fun ls => ls = [[W], [H], lens, behind]) knPuts_ok (Nat.le_refl 4) law_rounds law_entry invLaw (fun ls c env => (0, (6000 - vInt (env.val 7)).toNat)) (fun ls i env h => by have := h.1; simp; omega) ?_ hargs rfl
  intro ls e0 hf ha hls
  subst hls
  simp only [ArgsE, ArgE, List.cons.injEq, and_true] at ha
  obtain ⟨_, _, ⟨rfl, rfl⟩, ha0, _, _, ⟨rfl, rfl⟩, ha1, _, _, ⟨rfl, rfl⟩, ⟨hrow2, _⟩, _, _, ⟨rfl, rfl⟩, ⟨hrow3, _⟩, _⟩ := ha
  simp only [List.cons.injEq, and_true] at ha0 ha1
  have hW := ha0.symm
  have hH := ha1.symm
  obtain ⟨hs, hlen, hok⟩ := putC_zero hc
  have htl := tilesI_bd hs
  obtain ⟨g1, g2, g3, g4, g5⟩ := get_put (rest := behind) hc
  refine ⟨?_, fun env hfn => ⟨⟨?_, trivial⟩, ⟨?_, trivial⟩⟩, ?_⟩
  · simp only [asMain, asFew, eqE, ltE, aG, putE, aWH, aWHL, List.cons_append, List.nil_append, AsOk_cons, AsOk_nil, BE.eval, cmpI, IE.eval, IE.reval, IE.aeval, hf, hW, hH, hrow2, hrow3, FNf_52, FNf_54, FNf_55, FNf_70, FNf_71, FNf_72, FNf_73, List.headD_cons, g1, g2, g3, g4, hc, if_pos hs, if_true, Option.getD_some, pairsL_len, Nat.div_one, and_true]
    simp; omega
  · rintro ⟨_, W', H', lens', behind', hl, hn5, hk, q2, n, a, a0, q4, q5, q7, hn, q6, hb, hd⟩
    simp only [nonneg, atmB, eqE, AsOk_cons, AsOk_nil, BE.eval, cmpI, IE.eval, IE.reval, q2, q5, q7, Nat.div_one]
    simp; omega
  · rintro ⟨_, W', H', lens', behind', hl, hn5, hk, q2, n, a, a0, q4, q5, q7, hn, q6, hb, hd⟩
    by_cases hi : n < lens'.length
    · have hi' : (n : Int) < (lens'.length : Int) := by omega
      have hx := sel1 hi
      have hm := hk _ (sel1_mem hi)
      obtain ⟨x, hxx⟩ : ∃ x, selL lens' (n : Int) 1 0 = x := ⟨_, rfl⟩
      rw [hxx] at hx hm
      unfold lenOk at hm
      have hch := chunk2_at (l := pairsL a0 lens') (i := n) (by rw [pairsL_len]; omega)
      rw [hd, hx, pairsL] at hch
      simp only [List.cons.injEq] at hch
      obtain ⟨c0, c1, c2⟩ := hch
      simp only [allLeaves, AsOk_cons, AsOk_nil, BE.eval, cmpI, IE.eval, IE.reval, q2, q4, q5, q6, q7, hxx, ← c0, ← c1, hi', Nat.div_one, and_true, true_and, decide_true, decide_eq_true_eq, decide_eq_false_iff_not, not_true_eq_false, Bool.true_eq_false, false_and, and_false, false_imp_iff]
      have e1 : binI .add .i64 (n : Int) 1 = ((n + 1 : Nat) : Int) := by simp only [binI]; rw [wrap_i64 (by omega)]; omega
      have e2 : binI .add .i64 a x = a + x := wrap_i64 (by omega)
      refine fun _ => ⟨⟨rfl, W', H', lens', behind', hl, hn5, hk, ?_, n + 1, a + x, a0, ?_, ?_, ?_, by omega, ?_, by omega, c2.symm⟩, fun M hM => ?_⟩
      · simp [upd, lk_cons, lk_nil, q2]
      · simp [upd, lk_cons, lk_nil, IE.reval, q4]
      · simp [upd, lk_cons, lk_nil, IE.eval, q5, vInt_int]
      · simp [upd, lk_cons, lk_nil, IE.eval, q7, e1, vInt_int]
      · simp [upd, lk_cons, lk_nil, IE.eval, IE.reval, q2, q6, q7, hxx, e2, vInt_int]
      · cases hM
        refine Prod.lex_def.2 (.inr ⟨rfl, ?_⟩)
        simp only [upd, lk_cons, lk_nil, Nat.reduceEqDiff, if_false, if_true, IE.eval, q7, e1, vInt_int]
        exact dec6000 hi hn5
    · have hi' : ¬ ((n : Int) < (lens'.length : Int)) := by omega
      simp only [allLeaves, AsOk_cons, AsOk_nil, BE.eval, cmpI, IE.eval, IE.reval, q2, q4, q5, q6, q7, hi', Nat.div_one, and_true, true_and, decide_eq_true_eq, decide_eq_false_iff_not, not_true_eq_false, false_and, and_false, false_imp_iff]
      exact fun _ => rfl
  · simp only [allLeaves, and_true]
    refine fun _ => ⟨⟨rfl, W, H, lens, behind, rfl, h1, hok, ?_, 0, 13 + 8 * tilesI W H, 13 + 8 * tilesI W H, ?_, ?_, ?_, by omega, ?_, by omega, rfl⟩, fun M hM => by cases hM⟩
    · simp [upd, lk_cons, lk_nil, hrow2]
    · simp [upd, lk_cons, lk_nil, IE.reval, IE.eval, IE.aeval, hf, hW, hH, hrow2, hrow3, FNf_54, FNf_72, g3, g4]
    · simp [upd, lk_cons, lk_nil, IE.reval, IE.eval, IE.aeval, hf, hW, hH, hrow2, hrow3, FNf_54, FNf_72, g3, g4, pairsL_len, vInt_int]
    · simp [upd, lk_cons, lk_nil, IE.eval, vInt_int]
    · simp [upd, lk_cons, lk_nil, IE.reval, IE.eval, IE.aeval, hf, hW, hH, FNf_52, hs, vInt_int]

theorem puts_law {w : World} {vs : Array Value} {W H : Int} {lens behind : List Int} (hargs : ArgsAre w vs.toList akP [[W], [H], lens, behind]) : Says vs w := by
  by_cases h1 : lens.length ≤ 5000
  · by_cases h2 : behind.length ≤ 100
    · by_cases hc : putC W H lens = 0
      · exact puts_main hargs h1 h2 hc
      · refine law_const hargs law_no fun e0 hf hW hH hr2 hr3 => ⟨?_, ⟨fun _ => rfl, trivial⟩⟩
        have hp : putL W H lens = [] := by rw [putL, if_neg hc]
        simp only [asNo, asFew, ltE, putE, aWHL, AsOk_cons, AsOk_nil, BE.eval, cmpI, IE.eval, IE.reval, IE.aeval, hf, hW, hH, hr2, hr3, FNf_54, FNf_55, List.headD_cons, hp, Nat.div_one, and_true]
        simp; omega
    · refine law_const hargs law_behind fun e0 hf hW hH hr2 hr3 => ⟨?_, ⟨fun _ => rfl, trivial⟩⟩
      simp only [ltE, AsOk_cons, AsOk_nil, BE.eval, cmpI, IE.eval, IE.reval, hr2, hr3, Nat.div_one, and_true]
      simp; omega
  · refine law_const hargs law_long fun e0 hf hW hH hr2 hr3 => ⟨?_, ⟨fun _ => rfl, trivial⟩⟩
    simp only [ltE, AsOk_cons, AsOk_nil, BE.eval, cmpI, IE.eval, IE.reval, hr2, Nat.div_one, and_true]
    simp; omega

end Go.Proofs.Ytkfejcffacbngaa
