import Derived.Test.YtkfejcffacbngaaDS

namespace Go.Proofs.Ytkfejcffacbngaa

open Go Go.Sym

set_option linter.unusedVariables false

theorem dec6000 {n m : Nat} (h : n < m) (hm : m ≤ 5000) : (6000 - ((n + 1 : Nat) : Int)).toNat < (6000 - (n : Int)).toNat := by omega

theorem awake_gets : saysTrue Try.prog 5000 35 = true := by kernel_rfl

theorem knGets_ok : ∀ env : Env, env.fn = FNh → KnOk Try.prog env knGets := fun env h =>
  knOk_cons (knOk_cons (knOk_cons (knOk_cons (knOk_cons knOk_nil (Pc.ct_ok h sameE_ok)) (Pc.ct_ok h getR_ok)) (Pc.ct_ok h (h_ok get_ok (by decide) (by decide)))) (Pc.ct_ok h (h_ok (f_ok (e_ok put_ok (by decide) (by decide)) (by decide) (by decide)) (by decide) (by decide)))) (ctTrue_ok mix awake_gets)

theorem FNh_54 (w h : Int) (l : List Int) : FNh 54 [[w], [h], l] = putL w h l := rfl
theorem FNh_55 (w h : Int) (l : List Int) : FNh 55 [[w], [h], l] = [putC w h l] := rfl

theorem odd_sel : ∀ (L : List Int) (n : Nat), n < (oddL L).length → (oddL L)[n]? = some (selL L (n : Int) 2 1)
  | [], n, h => by simp [oddL] at h
  | [_], n, h => by simp [oddL] at h
  | a :: b :: r, 0, h => by simp [oddL, selL]
  | a :: b :: r, n + 1, h => by
    simp only [oddL, List.length_cons] at h
    have ih := odd_sel r n (by omega)
    simp only [oddL, List.getElem?_cons_succ, ih]
    have e1 : ((n + 1 : Nat) : Int).toNat * 2 + 1 = (n * 2 + 1) + 1 + 1 := by omega
    have e2 : (n : Int).toNat * 2 + 1 = n * 2 + 1 := by omega
    simp only [selL, e1, e2, List.getElem?_cons_succ]

abbrev Says10 (vs : Array Value) (w : World) : Prop := Calls Try.prog 10 vs w fun e w' => e = .returned (.bool true) ∧ RowKit.Below w.heap.size w w'

def invG (ls : List (List Int)) (c : Nat) (env : Env) : Prop := ∃ b L, ls = [b] ∧ bytesOk b ∧ b.length ≤ 5000 ∧ getC b = 0 ∧ entsOf b = some L ∧ env.row 0 = b ∧ vInt (env.val 1) = wOf b ∧ vInt (env.val 2) = hOf b ∧ env.row 5 = L ∧ ∃ n : Nat, vInt (env.val 3) = ((oddL L).length : Int) ∧ vInt (env.val 4) = n ∧ n ≤ (oddL L).length ∧
  ((c = 0 ∧ n = 0) ∨ (c = 1 ∧ env.row 7 = (oddL L).take n ∧ vInt (env.val 6) = n))

theorem gets_main {w : World} {vs : Array Value} {b : List Int} (hargs : ArgsAre w vs.toList [.sl [.u8]] [b]) (h1 : b.length ≤ 5000) (hby : bytesOk b) (hc : getC b = 0) : Says10 vs w := by
  refine law_floyd_cas (cs := cutG) (FN := FNh) (aa := asG) (aks := [.sl [.u8]]) (base := 1) mix (fun ls => ls = [b]) knGets_ok (Nat.le_refl 1) gets_rounds gets_entry invG (fun ls c env => (0, (6000 - vInt (env.val 4)).toNat)) (fun ls i env h => by obtain ⟨_, _, _, _, _, _, _, _, _, _, _, _, _, _, _, h⟩ := h; simp; omega) ?_ hargs rfl
  intro ls e0 hf ha hls
  subst hls
  simp only [ArgsE, ArgE, List.cons.injEq] at ha
  obtain ⟨_, _, ⟨rfl, rfl⟩, ⟨hrow, _⟩, _⟩ := ha
  obtain ⟨L, hL, hp, hput, hle, hLL⟩ := put_get hby hc
  have hLlen : L.length = 2 * (oddL L).length := by
    have := congrArg List.length hLL
    rw [pairsL_len] at this; exact this
  have hod : (oddL L).length ≤ 1000 := by omega
  obtain ⟨hs, hlen, _⟩ := putC_zero hp
  have htl := tilesI_bd hs
  -- the end
  have w8id : ∀ l : List Int, (∀ x ∈ l, 0 ≤ x ∧ x < 256) → w8L l = l := by
    intro l
    induction l with
    | nil => intro _; rfl
    | cons x l ih =>
      intro hx
      have h0 := hx x (List.mem_cons_self ..)
      have := ih (fun y hy => hx y (List.mem_cons_of_mem _ hy))
      unfold w8L at this ⊢
      rw [List.map_cons, this]
      congr 1
      simp; omega
  have plen : (putL (wOf b) (hOf b) (oddL L)).length = 13 + 8 * (oddL L).length := by rw [hput, List.length_take]; omega
  have hsub : subL b 0 ((13 + 8 * (oddL L).length : Nat) : Int) 1 = b.take (13 + 8 * (oddL L).length) := by
    have e1 : ((13 + 8 * (oddL L).length : Nat) : Int).toNat = 13 + 8 * (oddL L).length := Int.toNat_natCast _
    simp only [subL, e1]
    simp
  have stepc : ∀ (env : Env) (n : Nat) (σ : Sb), n < (oddL L).length → (upd env σ).row 0 = b → vInt ((upd env σ).val 1) = wOf b → vInt ((upd env σ).val 2) = hOf b → (upd env σ).row 5 = L → vInt ((upd env σ).val 3) = ((oddL L).length : Int) → vInt ((upd env σ).val 4) = ((n + 1 : Nat) : Int) → (upd env σ).row 7 = (oddL L).take (n + 1) → vInt ((upd env σ).val 6) = ((n + 1 : Nat) : Int) →
      StepL (invG [b]) (fun c env => (0, (6000 - vInt (env.val 4)).toNat)) (some (0, (6000 - (n : Int)).toNat)) env (.cut 1 σ) := by
    intro env n σ hi s0 s1 s2 s5 s3 s4 s7 s6
    refine ⟨⟨b, L, rfl, hby, h1, hc, hL, s0, s1, s2, s5, n + 1, s3, s4, by omega, .inr ⟨rfl, s7, s6⟩⟩, fun M hM => ?_⟩
    cases hM
    refine Prod.lex_def.2 (.inr ⟨rfl, ?_⟩)
    show (6000 - vInt ((upd env σ).val 4)).toNat < _
    rw [s4]
    exact dec6000 hi (by omega)
  refine ⟨?_, fun env hfn => ⟨⟨?_, ?_, trivial⟩, ⟨?_, ?_, trivial⟩⟩, ?_⟩
  · have hd : ((L.length / 2 : Nat) : Int) = (oddL L).length := by omega
    simp only [asG, asG0, b1, List.cons_append, List.nil_append, AsOk_cons, AsOk_nil, BE.eval, cmpI, IE.eval, IE.reval, IE.aeval, hf, hrow, FNh_72, FNh_73, FNh_77, FNh_79, encB_one, encB_zero, List.headD_cons, hc, hL, if_true, Option.getD_some, hd, Nat.div_one]
    simp [hby]; omega
  · rintro ⟨b', L', hl, hby', hb5, hc', hL', q0, q1, q2, q5, n, q3, q4, hn, hq⟩
    simp only [List.cons.injEq, and_true] at hl
    subst hl
    rw [hL] at hL'
    cases hL'
    simp only [asGs, nonneg, atmB, AsOk_cons, AsOk_nil, BE.eval, cmpI, IE.eval, IE.reval, q0, q3, q4, Nat.div_one]
    simp; omega
  · rintro ⟨b', L', hl, hby', hb5, hc', hL', q0, q1, q2, q5, n, q3, q4, hn, hq | ⟨_, q7, q6⟩⟩
    · omega
    · simp only [List.cons.injEq, and_true] at hl
      subst hl
      rw [hL] at hL'
      cases hL'
      simp only [asGs, nonneg, atmB, AsOk_cons, AsOk_nil, BE.eval, cmpI, IE.eval, IE.reval, q0, q3, q4, q6, Nat.div_one]
      simp; omega
  · rintro ⟨b', L', hl, hby', hb5, hc', hL', q0, q1, q2, q5, n, q3, q4, hn, ⟨_, hn0⟩ | hq⟩
    · simp only [List.cons.injEq, and_true] at hl
      subst hl
      rw [hL] at hL'
      cases hL'
      subst hn0
      have hi : 0 < (oddL L).length := by omega
      have hi' : ((0 : Nat) : Int) < ((oddL L).length : Int) := by omega
      have ho := odd_sel L 0 hi
      have e1 : binI .add .i64 ((0 : Nat) : Int) 1 = ((0 + 1 : Nat) : Int) := by decide
      simp only [allLeaves, AsOk_cons, AsOk_nil, BE.eval, cmpI, IE.eval, IE.reval, q3, q4, hi', and_true, decide_eq_true_eq, decide_eq_false_iff_not, not_true_eq_false, false_and, and_false, false_imp_iff, true_and]
      refine fun hA => stepc env 0 _ hi ?_ ?_ ?_ ?_ ?_ ?_ ?_ ?_
      · simp [upd, lk_cons, lk_nil, q0]
      · simp [upd, lk_cons, lk_nil, IE.eval, q1, vInt_int]
      · simp [upd, lk_cons, lk_nil, IE.eval, q2, vInt_int]
      · simp [upd, lk_cons, lk_nil, IE.reval, q5]
      · simp [upd, lk_cons, lk_nil, IE.eval, q3, vInt_int]
      · simp only [upd, lk_cons, lk_nil, Nat.reduceEqDiff, if_false, if_true, IE.eval, q4, e1, vInt_int]
      · simp only [upd, lk_cons, lk_nil, Nat.reduceEqDiff, if_false, if_true, IE.eval, IE.reval, q4, q5]
        rw [List.take_add_one, ho]; simp
      · simp [upd, lk_cons, lk_nil, IE.eval, vInt_int]
    · omega
  · rintro ⟨b', L', hl, hby', hb5, hc', hL', q0, q1, q2, q5, n, q3, q4, hn, hq | ⟨_, q7, q6⟩⟩
    · omega
    · simp only [List.cons.injEq, and_true] at hl
      subst hl
      rw [hL] at hL'
      cases hL'
      by_cases hi : n < (oddL L).length
      · have hi' : (n : Int) < ((oddL L).length : Int) := by omega
        have ho := odd_sel L n hi
        have e1 : binI .add .i64 (n : Int) 1 = ((n + 1 : Nat) : Int) := by simp only [binI]; rw [wrap_i64 (by omega)]; omega
        simp only [allLeaves, AsOk_cons, AsOk_nil, BE.eval, cmpI, IE.eval, IE.reval, q3, q4, hi', and_true, decide_eq_true_eq, decide_eq_false_iff_not, not_true_eq_false, false_and, and_false, false_imp_iff, true_and]
        refine fun hA => stepc env n _ hi ?_ ?_ ?_ ?_ ?_ ?_ ?_ ?_
        · simp [upd, lk_cons, lk_nil, q0]
        · simp [upd, lk_cons, lk_nil, IE.eval, q1, vInt_int]
        · simp [upd, lk_cons, lk_nil, IE.eval, q2, vInt_int]
        · simp [upd, lk_cons, lk_nil, IE.reval, q5]
        · simp [upd, lk_cons, lk_nil, IE.eval, q3, vInt_int]
        · simp only [upd, lk_cons, lk_nil, Nat.reduceEqDiff, if_false, if_true, IE.eval, q4, e1, vInt_int]
        · simp only [upd, lk_cons, lk_nil, Nat.reduceEqDiff, if_false, if_true, IE.eval, IE.reval, q4, q5, q7]
          rw [List.take_add_one, ho]; simp
        · simp [upd, lk_cons, lk_nil, IE.eval, q6, vInt_int]
      · have hi' : ¬ ((n : Int) < ((oddL L).length : Int)) := by omega
        obtain rfl : n = (oddL L).length := by omega
        rw [List.take_of_length_le (Nat.le_refl _)] at q7
        have z1 : ¬ ((b.length : Int) < ((13 + 8 * (oddL L).length : Nat) : Int)) := by omega
        have z2 : (0 : Int) < ((13 + 8 * (oddL L).length : Nat) : Int) := by omega
        simp only [allLeaves, AsOk_cons, AsOk_nil, BE.eval, cmpI, IE.eval, IE.reval, IE.aeval, hfn, q0, q1, q2, q3, q4, q7, FNh_54, FNh_55, List.headD_cons, hp, plen, z1, z2, hi', Nat.div_one, and_true, decide_eq_true_eq, decide_eq_false_iff_not, not_true_eq_false, not_false_eq_true, false_and, and_false, false_imp_iff, true_and]
        intro hA
        show BE.eval env _ = true
        simp only [BE.eval, IE.eval, IE.reval, IE.aeval, hfn, q0, q1, q2, q7, FNh_54, plen, Nat.div_one, hsub, decide_eq_true_eq]
        rw [hput]
  · simp only [allLeaves, and_true]
    refine fun hA => ⟨⟨b, L, rfl, hby, h1, hc, hL, ?_, ?_, ?_, ?_, 0, ?_, ?_, by omega, .inl ⟨rfl, rfl⟩⟩, fun M hM => by cases hM⟩
    · simp [upd, lk_cons, lk_nil, hrow]
    · simp [upd, lk_cons, lk_nil, IE.eval, IE.reval, IE.aeval, hf, hrow, FNh_70, hc, vInt_int]
    · simp [upd, lk_cons, lk_nil, IE.eval, IE.reval, IE.aeval, hf, hrow, FNh_71, hc, vInt_int]
    · simp [upd, lk_cons, lk_nil, IE.reval, IE.aeval, hf, hrow, FNh_72, hc, hL]
    · simp [upd, lk_cons, lk_nil, IE.eval, IE.reval, IE.aeval, hf, hrow, FNh_72, hc, hL, vInt_int]; omega
    · simp [upd, lk_cons, lk_nil, IE.eval, vInt_int]

theorem gets_law {w : World} {vs : Array Value} {b : List Int} (hargs : ArgsAre w vs.toList [.sl [.u8]] [b]) (hby : bytesOk b) : Says10 vs w := by
  have const : ∀ {aa : As} {outs : List Leaf}, entryK Try.prog knGets 1 800 10 [] 1 (argSVs 0 [.sl [.u8]]) 6 aa = some outs → (∀ e0 : Env, e0.fn = FNh → e0.row 0 = b → AsOk e0 aa ∧ allLeaves (fun lf => AsOk e0 lf.1 → StepL (fun _ _ => False) (fun _ _ => (0, 0)) none e0 lf.2) outs) → Says10 vs w := by
    intro aa outs hent hall
    refine law_floyd_as (FN := FNh) mix knGets_ok (by decide) hent hargs fun e0 hf ha => ?_
    simp only [ArgsE, ArgE, List.cons.injEq] at ha
    obtain ⟨_, _, ⟨rfl, rfl⟩, ⟨hrow, _⟩, _⟩ := ha
    exact hall e0 hf hrow
  by_cases h1 : b.length ≤ 5000
  · by_cases hc : getC b = 0
    · exact gets_main hargs h1 hby hc
    · refine const gets_no fun e0 hf hrow => ⟨?_, ⟨fun _ => rfl, trivial⟩⟩
      simp only [asGno, asG0, b1, List.cons_append, List.nil_append, AsOk_cons, AsOk_nil, BE.eval, cmpI, IE.eval, IE.reval, IE.aeval, hf, hrow, FNh_72, FNh_73, FNh_77, FNh_79, encB_one, encB_zero, List.headD_cons, if_neg hc, Nat.div_one]
      simp [hby, hc]; omega
  · refine const gets_long fun e0 hf hrow => ⟨?_, ⟨fun _ => rfl, trivial⟩⟩
    simp only [AsOk_cons, AsOk_nil, BE.eval, cmpI, IE.eval, IE.reval, hrow, Nat.div_one, and_true]
    simp; omega

end Go.Proofs.Ytkfejcffacbngaa
