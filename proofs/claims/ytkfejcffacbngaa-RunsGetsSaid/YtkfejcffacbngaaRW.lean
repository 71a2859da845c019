import Derived.Test.YtkfejcffacbngaaRU

namespace Go.Proofs.Ytkfejcffacbngaa.J

open Go Go.Sym

set_option linter.unusedVariables false

abbrev knP : Kn := [pcAw.ct, pcRPut.ct, pcBytes.ct, pcRLen.ct, pcRGet.ct, pcSame.ct]
abbrev akP : List ArgK := [.sl [.u8], .sl [.i64], .sl [.u8]]
abbrev l0 : IE := .rlen (.rvar 0) 1
abbrev l1 : IE := .rlen (.rvar 1) 1
abbrev l2 : IE := .rlen (.rvar 2) 1
abbrev putE : IE := .rapp 102 (.acons (.rvar 0) (.acons (.rvar 1) .anil))
abbrev wantE : IE := .rapp 105 (.acons (.rvar 1) .anil)
abbrev asP0 : As := [awR, ltR (.lit 600) l1 false, ltR (.lit 100) l0 false, ltR (.lit 100) l2 false]
abbrev sumE : IE := .plus (.rlen putE 1) l2
abbrev gJ : IE := .acons (.cat (.cat .rnil putE) (.rvar 2)) (.acons (.rcons l0 .rnil) (.acons (.rcons l1 .rnil) .anil))
abbrev asP1 : As := [ltR (.lit 1000000) l0 false, ltR (.lit 1000000) l1 false, ltR (.lit 0) (.rlen putE 1) true, ltR (.lit 0) (.rlen wantE 1) true, ltR (.lit 9223372036854775807) (.plus (.rlen (.w8 (.rvar 0)) 1) (.rlen (.w8 wantE) 1)) false, (.req (.w8 putE) (.cat (.w8 (.rvar 0)) (.w8 wantE)), true), (.cmp .eql (.app 103 (.acons (.rvar 1) .anil)) (.rlen wantE 1), true), ltR (.lit 140737488355328) (.rlen putE 1) false, ltR (.lit 140737488355328) sumE false, ltR sumE (.lit 0) false, ltR (.lit 4294967296) sumE false] ++ asP0
abbrev gotE : IE := .rapp 106 gJ
abbrev asEnd : As := [(.cmp .eql (.app 107 gJ) (.rlen putE 1), true), (.cmp .eql (.app 108 gJ) (.lit 0), true)]
abbrev asFull : As := [ltR (.lit 1099511627776) (.rlen gotE 1) false, ltR (.lit 0) (.rlen gotE 1) true, (.cmp .eql (.app 110 (.acons gotE (.acons (.rvar 1) .anil))) (.lit 0), false)] ++ (asEnd ++ asP1)
abbrev asQ1 : As := [ltR (.lit 1000000) l0 false, ltR (.lit 1000000) l1 false, ltR (.lit 0) (.rlen putE 1) true, ltR (.lit 0) (.rlen wantE 1) false, ltR (.lit 9223372036854775807) (.plus (.rlen (.w8 (.rvar 0)) 1) (.rlen (.rcon []) 1)) false, (.req (.w8 putE) (.cat (.w8 (.rvar 0)) (.rcon [])), true), (.cmp .eql (.app 103 (.acons (.rvar 1) .anil)) (.lit 0), true), ltR (.lit 140737488355328) (.rlen putE 1) false, ltR (.lit 140737488355328) sumE false, ltR sumE (.lit 0) false, ltR (.lit 4294967296) sumE false, ltR (.lit 0) (.rlen gotE 1) false, (.cmp .eql (.app 110 (.acons .rnil (.acons (.rvar 1) .anil))) (.lit 0), false)] ++ (asEnd ++ asP0)
abbrev gJ0 : IE := .acons (.cat (.cat .rnil .rnil) (.rvar 2)) (.acons (.rcons l0 .rnil) (.acons (.rcons l1 .rnil) .anil))
abbrev asQ2 : As := [ltR (.lit 1000000) l0 false, ltR (.lit 1000000) l1 false, ltR (.lit 0) (.rlen putE 1) false, ltR (.lit 0) (.rlen wantE 1) false, ltR (.lit 9223372036854775807) (.plus (.rlen (.w8 (.rvar 0)) 1) (.rlen (.rcon []) 1)) false, (.req (.rcon []) (.cat (.w8 (.rvar 0)) (.rcon [])), true), (.cmp .eql (.app 103 (.acons (.rvar 1) .anil)) (.lit 0), true), ltR (.lit 0) (.rlen (.rapp 106 gJ0) 1) false, (.cmp .eql (.app 107 gJ0) (.lit 0), true), (.cmp .eql (.app 108 gJ0) (.lit 0), true), (.cmp .eql (.app 110 (.acons .rnil (.acons (.rvar 1) .anil))) (.lit 0), false)] ++ asP0

theorem rputs_full : entryK Try.prog knP 1 400 3 [] 3 (argSVs 0 akP) 3 asFull = some [([(.cmp .lss (.lit 1099511627776) (.rlen (.rapp 106 (.acons (.cat (.cat .rnil (.rapp 102 (.acons (.rvar 0) (.acons (.rvar 1) .anil)))) (.rvar 2)) (.acons (.rcons (.rlen (.rvar 0) 1) .rnil) (.acons (.rcons (.rlen (.rvar 1) 1) .rnil) .anil)))) 1), false), (.cmp .lss (.lit 0) (.rlen (.rapp 106 (.acons (.cat (.cat .rnil (.rapp 102 (.acons (.rvar 0) (.acons (.rvar 1) .anil)))) (.rvar 2)) (.acons (.rcons (.rlen (.rvar 0) 1) .rnil) (.acons (.rcons (.rlen (.rvar 1) 1) .rnil) .anil)))) 1), true), (.cmp .eql (.app 110 (.acons (.rapp 106 (.acons (.cat (.cat .rnil (.rapp 102 (.acons (.rvar 0) (.acons (.rvar 1) .anil)))) (.rvar 2)) (.acons (.rcons (.rlen (.rvar 0) 1) .rnil) (.acons (.rcons (.rlen (.rvar 1) 1) .rnil) .anil)))) (.acons (.rvar 1) .anil))) (.lit 0), false), (.cmp .eql (.app 107 (.acons (.cat (.cat .rnil (.rapp 102 (.acons (.rvar 0) (.acons (.rvar 1) .anil)))) (.rvar 2)) (.acons (.rcons (.rlen (.rvar 0) 1) .rnil) (.acons (.rcons (.rlen (.rvar 1) 1) .rnil) .anil)))) (.rlen (.rapp 102 (.acons (.rvar 0) (.acons (.rvar 1) .anil))) 1), true), (.cmp .eql (.app 108 (.acons (.cat (.cat .rnil (.rapp 102 (.acons (.rvar 0) (.acons (.rvar 1) .anil)))) (.rvar 2)) (.acons (.rcons (.rlen (.rvar 0) 1) .rnil) (.acons (.rcons (.rlen (.rvar 1) 1) .rnil) .anil)))) (.lit 0), true), (.cmp .lss (.lit 1000000) (.rlen (.rvar 0) 1), false), (.cmp .lss (.lit 1000000) (.rlen (.rvar 1) 1), false), (.cmp .lss (.lit 0) (.rlen (.rapp 102 (.acons (.rvar 0) (.acons (.rvar 1) .anil))) 1), true), (.cmp .lss (.lit 0) (.rlen (.rapp 105 (.acons (.rvar 1) .anil)) 1), true), (.cmp .lss (.lit 9223372036854775807) (.plus (.rlen (.w8 (.rvar 0)) 1) (.rlen (.w8 (.rapp 105 (.acons (.rvar 1) .anil))) 1)), false), (.req (.w8 (.rapp 102 (.acons (.rvar 0) (.acons (.rvar 1) .anil)))) (.cat (.w8 (.rvar 0)) (.w8 (.rapp 105 (.acons (.rvar 1) .anil)))), true), (.cmp .eql (.app 103 (.acons (.rvar 1) .anil)) (.rlen (.rapp 105 (.acons (.rvar 1) .anil)) 1), true), (.cmp .lss (.lit 140737488355328) (.rlen (.rapp 102 (.acons (.rvar 0) (.acons (.rvar 1) .anil))) 1), false), (.cmp .lss (.lit 140737488355328) (.plus (.rlen (.rapp 102 (.acons (.rvar 0) (.acons (.rvar 1) .anil))) 1) (.rlen (.rvar 2) 1)), false), (.cmp .lss (.plus (.rlen (.rapp 102 (.acons (.rvar 0) (.acons (.rvar 1) .anil))) 1) (.rlen (.rvar 2) 1)) (.lit 0), false), (.cmp .lss (.lit 4294967296) (.plus (.rlen (.rapp 102 (.acons (.rvar 0) (.acons (.rvar 1) .anil))) 1) (.rlen (.rvar 2) 1)), false), (.cmp .eql (.app 104 .anil) (.lit 0), false), (.cmp .lss (.lit 600) (.rlen (.rvar 1) 1), false), (.cmp .lss (.lit 100) (.rlen (.rvar 0) 1), false), (.cmp .lss (.lit 100) (.rlen (.rvar 2) 1), false)], .ret (.bool true) ⟨0, .nil⟩)] := by kernel_rfl

theorem rputs_q1 : entryK Try.prog knP 1 400 3 [] 3 (argSVs 0 akP) 3 asQ1 = some [([(.cmp .lss (.lit 1000000) (.rlen (.rvar 0) 1), false), (.cmp .lss (.lit 1000000) (.rlen (.rvar 1) 1), false), (.cmp .lss (.lit 0) (.rlen (.rapp 102 (.acons (.rvar 0) (.acons (.rvar 1) .anil))) 1), true), (.cmp .lss (.lit 0) (.rlen (.rapp 105 (.acons (.rvar 1) .anil)) 1), false), (.cmp .lss (.lit 9223372036854775807) (.plus (.rlen (.w8 (.rvar 0)) 1) (.rlen (.rcon []) 1)), false), (.req (.w8 (.rapp 102 (.acons (.rvar 0) (.acons (.rvar 1) .anil)))) (.cat (.w8 (.rvar 0)) (.rcon [])), true), (.cmp .eql (.app 103 (.acons (.rvar 1) .anil)) (.lit 0), true), (.cmp .lss (.lit 140737488355328) (.rlen (.rapp 102 (.acons (.rvar 0) (.acons (.rvar 1) .anil))) 1), false), (.cmp .lss (.lit 140737488355328) (.plus (.rlen (.rapp 102 (.acons (.rvar 0) (.acons (.rvar 1) .anil))) 1) (.rlen (.rvar 2) 1)), false), (.cmp .lss (.plus (.rlen (.rapp 102 (.acons (.rvar 0) (.acons (.rvar 1) .anil))) 1) (.rlen (.rvar 2) 1)) (.lit 0), false), (.cmp .lss (.lit 4294967296) (.plus (.rlen (.rapp 102 (.acons (.rvar 0) (.acons (.rvar 1) .anil))) 1) (.rlen (.rvar 2) 1)), false), (.cmp .lss (.lit 0) (.rlen (.rapp 106 (.acons (.cat (.cat .rnil (.rapp 102 (.acons (.rvar 0) (.acons (.rvar 1) .anil)))) (.rvar 2)) (.acons (.rcons (.rlen (.rvar 0) 1) .rnil) (.acons (.rcons (.rlen (.rvar 1) 1) .rnil) .anil)))) 1), false), (.cmp .eql (.app 110 (.acons .rnil (.acons (.rvar 1) .anil))) (.lit 0), false), (.cmp .eql (.app 107 (.acons (.cat (.cat .rnil (.rapp 102 (.acons (.rvar 0) (.acons (.rvar 1) .anil)))) (.rvar 2)) (.acons (.rcons (.rlen (.rvar 0) 1) .rnil) (.acons (.rcons (.rlen (.rvar 1) 1) .rnil) .anil)))) (.rlen (.rapp 102 (.acons (.rvar 0) (.acons (.rvar 1) .anil))) 1), true), (.cmp .eql (.app 108 (.acons (.cat (.cat .rnil (.rapp 102 (.acons (.rvar 0) (.acons (.rvar 1) .anil)))) (.rvar 2)) (.acons (.rcons (.rlen (.rvar 0) 1) .rnil) (.acons (.rcons (.rlen (.rvar 1) 1) .rnil) .anil)))) (.lit 0), true), (.cmp .eql (.app 104 .anil) (.lit 0), false), (.cmp .lss (.lit 600) (.rlen (.rvar 1) 1), false), (.cmp .lss (.lit 100) (.rlen (.rvar 0) 1), false), (.cmp .lss (.lit 100) (.rlen (.rvar 2) 1), false)], .ret (.bool true) ⟨0, .nil⟩)] := by kernel_rfl

theorem rputs_q2 : entryK Try.prog knP 1 400 3 [] 3 (argSVs 0 akP) 3 asQ2 = some [([(.cmp .lss (.lit 1000000) (.rlen (.rvar 0) 1), false), (.cmp .lss (.lit 1000000) (.rlen (.rvar 1) 1), false), (.cmp .lss (.lit 0) (.rlen (.rapp 102 (.acons (.rvar 0) (.acons (.rvar 1) .anil))) 1), false), (.cmp .lss (.lit 0) (.rlen (.rapp 105 (.acons (.rvar 1) .anil)) 1), false), (.cmp .lss (.lit 9223372036854775807) (.plus (.rlen (.w8 (.rvar 0)) 1) (.rlen (.rcon []) 1)), false), (.req (.rcon []) (.cat (.w8 (.rvar 0)) (.rcon [])), true), (.cmp .eql (.app 103 (.acons (.rvar 1) .anil)) (.lit 0), true), (.cmp .lss (.lit 0) (.rlen (.rapp 106 (.acons (.cat (.cat .rnil .rnil) (.rvar 2)) (.acons (.rcons (.rlen (.rvar 0) 1) .rnil) (.acons (.rcons (.rlen (.rvar 1) 1) .rnil) .anil)))) 1), false), (.cmp .eql (.app 107 (.acons (.cat (.cat .rnil .rnil) (.rvar 2)) (.acons (.rcons (.rlen (.rvar 0) 1) .rnil) (.acons (.rcons (.rlen (.rvar 1) 1) .rnil) .anil)))) (.lit 0), true), (.cmp .eql (.app 108 (.acons (.cat (.cat .rnil .rnil) (.rvar 2)) (.acons (.rcons (.rlen (.rvar 0) 1) .rnil) (.acons (.rcons (.rlen (.rvar 1) 1) .rnil) .anil)))) (.lit 0), true), (.cmp .eql (.app 110 (.acons .rnil (.acons (.rvar 1) .anil))) (.lit 0), false), (.cmp .eql (.app 104 .anil) (.lit 0), false), (.cmp .lss (.lit 600) (.rlen (.rvar 1) 1), false), (.cmp .lss (.lit 100) (.rlen (.rvar 0) 1), false), (.cmp .lss (.lit 100) (.rlen (.rvar 2) 1), false)], .ret (.bool true) ⟨0, .nil⟩)] := by kernel_rfl

theorem rputs_1 : entryK Try.prog knP 1 400 3 [] 3 (argSVs 0 akP) 3 [awR, ltR (.lit 600) l1 true] = some [([(.cmp .eql (.app 104 .anil) (.lit 0), false), (.cmp .lss (.lit 600) (.rlen (.rvar 1) 1), true)], .ret (.bool true) ⟨0, .nil⟩)] := by kernel_rfl

theorem rputs_0 : entryK Try.prog knP 1 400 3 [] 3 (argSVs 0 akP) 3 [awR, ltR (.lit 600) l1 false, ltR (.lit 100) l0 true] = some [([(.cmp .eql (.app 104 .anil) (.lit 0), false), (.cmp .lss (.lit 600) (.rlen (.rvar 1) 1), false), (.cmp .lss (.lit 100) (.rlen (.rvar 0) 1), true)], .ret (.bool true) ⟨0, .nil⟩)] := by kernel_rfl

theorem rputs_2 : entryK Try.prog knP 1 400 3 [] 3 (argSVs 0 akP) 3 [awR, ltR (.lit 600) l1 false, ltR (.lit 100) l0 false, ltR (.lit 100) l2 true] = some [([(.cmp .eql (.app 104 .anil) (.lit 0), false), (.cmp .lss (.lit 600) (.rlen (.rvar 1) 1), false), (.cmp .lss (.lit 100) (.rlen (.rvar 0) 1), false), (.cmp .lss (.lit 100) (.rlen (.rvar 2) 1), true)], .ret (.bool true) ⟨0, .nil⟩)] := by kernel_rfl

end Go.Proofs.Ytkfejcffacbngaa.J

namespace Go.Proofs.Ytkfejcffacbngaa.J

open Go Go.Sym

set_option linter.unusedVariables false

theorem t_u {c : Pc} (h : PcOk Try.prog FNt c) (h1 : ∀ i, i < c.rks.length → c.id + i ≤ 109) (h2 : c.pre = []) : PcOk Try.prog FNu c := by
  refine h.cong (fun i hi => ?_) (fun i hi => by rw [h2] at hi; cases hi)
  have := h1 i hi
  generalize c.id + i = j at this
  funext l
  unfold FNu
  split <;> first | omega | rfl

theorem r_u {c : Pc} (h : PcOk Try.prog FNr c) (h1 : ∀ i, i < c.rks.length → 102 ≤ c.id + i ∧ c.id + i ≤ 104) (h2 : c.pre = []) : PcOk Try.prog FNu c :=
  t_u (s_t (r_s h (fun i hi => by have := h1 i hi; omega) h2) (fun i hi => by have := h1 i hi; omega) h2) (fun i hi => by have := h1 i hi; omega) h2

theorem knP_ok : ∀ env : Env, env.fn = FNu → KnOk Try.prog env knP := fun env h =>
  knOk_cons (knOk_cons (knOk_cons (knOk_cons (knOk_cons (knOk_cons knOk_nil (Pc.ct_ok h same_ok)) (Pc.ct_ok h (t_u rget_ok (by decide) rfl))) (Pc.ct_ok h (r_u rlen_r (by decide) rfl))) (Pc.ct_ok h (t_u (s_t bytes_ok (by decide) rfl) (by decide) rfl))) (Pc.ct_ok h (r_u rput_r (by decide) rfl))) (Pc.ct_ok h (r_u aw_ok (by decide) rfl))

theorem rputs_inst {w : World} {vs : Array Value} {a zs b : List Int} (hargs : ArgsAre w vs.toList akP [a, zs, b]) {aa : As} {outs : List Leaf} (hent : entryK Try.prog knP 1 400 3 [] 3 (argSVs 0 akP) 3 aa = some outs)
    (hall : ∀ e0 : Env, e0.fn = FNu → e0.row 0 = a → e0.row 1 = zs → e0.row 2 = b →
      AsOk e0 aa ∧ allLeaves (fun lf => AsOk e0 lf.1 → StepL (fun _ _ => False) (fun _ _ => (0, 0)) none e0 lf.2) outs) : Calls Try.prog 3 vs w fun e w' => e = .returned (.bool true) ∧ RowKit.Below w.heap.size w w' := by
  refine law_floyd_as (FN := FNu) mix knP_ok (by decide) hent hargs fun e0 hf ha => ?_
  simp only [ArgsE, ArgE, List.cons.injEq] at ha
  obtain ⟨_, _, ⟨rfl, rfl⟩, ⟨h0, _⟩, _, _, ⟨rfl, rfl⟩, ⟨h1, _⟩, _, _, ⟨rfl, rfl⟩, ⟨h2, _⟩, _⟩ := ha
  exact hall e0 hf h0 h1 h2

theorem w8L_app (a b : List Int) : w8L (a ++ b) = w8L a ++ w8L b := by simp [w8L]
theorem w8L_len (a : List Int) : (w8L a).length = a.length := by simp [w8L]

theorem runsL_ne {zs : List Int} (h : zs ≠ []) : 0 < (putS (runsL zs)).length := by
  cases zs with
  | nil => exact absurd rfl h
  | cons x l =>
    rw [runsL_cons, putS_cons, List.length_append, putB_len]
    have := (lebN_len' 10 (foldM x)).1
    unfold bumpL
    simp only
    omega

theorem runsL_len : ∀ (m : Nat) (zs : List Int), zs.length ≤ m → (runsL zs).length ≤ zs.length := by
  intro m
  induction m with
  | zero =>
    intro zs h
    obtain rfl : zs = [] := List.eq_nil_of_length_eq_zero (by omega)
    simp [runsL, runsF]
  | succ m ih =>
    intro zs h
    cases zs with
    | nil => simp [runsL, runsF]
    | cons x l =>
      have h1 := rl_pos (x := x) (l := l)
      have h2 := rl_le (x :: l)
      have := ih ((x :: l).drop (rl (x :: l))) (by simp at h ⊢; omega)
      rw [runsL_cons, List.length_cons]
      rw [List.length_drop] at this
      omega

theorem rputs_law {w : World} {vs : Array Value} {a zs b : List Int} (hr : ∀ x ∈ zs, -9223372036854775808 ≤ x ∧ x ≤ 9223372036854775807) (hargs : ArgsAre w vs.toList akP [a, zs, b]) : Calls Try.prog 3 vs w fun e w' => e = .returned (.bool true) ∧ RowKit.Below w.heap.size w w' := by
  by_cases h1 : zs.length ≤ 600
  · by_cases h0 : a.length ≤ 100
    · by_cases h2 : b.length ≤ 100
      · have hg := get_put (ahead := a) (behind := b) (zs := zs) (by omega) hr
        have hs := lenS_le (runsL zs)
        have hps := putS_len (runsL zs)
        have hrl : (runsL zs).length ≤ zs.length := runsL_len zs.length zs (Nat.le_refl _)
        obtain ⟨P, hP⟩ : ∃ P, putS (runsL zs) = P := ⟨_, rfl⟩
        rw [hP] at hg hps
        have hl : P.length ≤ 13200 := by rw [hps]; omega
        by_cases hz : zs = []
        · have hP0 : P = [] := by rw [← hP, hz]; rfl
          have hs0 : lenS (runsL zs) = 0 := by rw [hz]; rfl
          by_cases ha : a = []
          · refine rputs_inst hargs rputs_q2 fun e0 hf q0 q1 q2 => ⟨?_, ⟨fun _ => rfl, trivial⟩⟩
            have hg' : getM ([] ++ [] ++ b) ((a.length : Nat) : Int) (zs.length : Int) = (zs, 0, 0) := by
              have := hg
              rw [hP0, ha] at this
              rw [ha]; simpa using this
            simp only [asQ2, asP0, awR, ltR, l0, l1, l2, putE, wantE, gJ0, List.cons_append, List.nil_append, AsOk_cons, AsOk_nil, BE.eval, cmpI, IE.eval, IE.reval, IE.aeval, hf, q0, q1, q2, FNu_102, FNu_103, FNu_104, FNu_105, FNu_106, FNu_107, FNu_108, FNu_110, hP, hs0, List.headD_cons, w8L_len, List.length_append, Nat.div_one]
            simp only [List.nil_append] at hg'
            rw [hg', hP0, hz, ha]
            simp [w8L]; omega
          · refine rputs_inst hargs rputs_q1 fun e0 hf q0 q1 q2 => ⟨?_, ⟨fun _ => rfl, trivial⟩⟩
            have hal : 0 < a.length := List.length_pos_iff.2 ha
            simp only [asQ1, asEnd, asP0, sumE, gJ, gotE, awR, ltR, l0, l1, l2, putE, wantE, List.cons_append, List.nil_append, AsOk_cons, AsOk_nil, BE.eval, cmpI, IE.eval, IE.reval, IE.aeval, hf, q0, q1, q2, FNu_102, FNu_103, FNu_104, FNu_105, FNu_106, FNu_107, FNu_108, FNu_110, hP, hs0, hg, List.headD_cons, w8L_len, w8L_app, List.length_append, Nat.div_one]
            rw [hP0, hz]
            simp [w8L]; omega
        · have hne := runsL_ne hz
          rw [hP] at hne
          have hzl : 0 < zs.length := List.length_pos_iff.2 hz
          refine rputs_inst hargs rputs_full fun e0 hf q0 q1 q2 => ⟨?_, ⟨fun _ => rfl, trivial⟩⟩
          simp only [asFull, asEnd, asP1, asP0, sumE, gJ, gotE, awR, ltR, l0, l1, l2, putE, wantE, List.cons_append, List.nil_append, AsOk_cons, AsOk_nil, BE.eval, cmpI, IE.eval, IE.reval, IE.aeval, hf, q0, q1, q2, FNu_102, FNu_103, FNu_104, FNu_105, FNu_106, FNu_107, FNu_108, FNu_110, hP, hg, ← hps, if_true, List.headD_cons, w8L_len, w8L_app, List.length_append, Nat.div_one]
          simp; omega
      · refine rputs_inst hargs rputs_2 fun e0 hf q0 q1 q2 => ⟨?_, ⟨fun _ => rfl, trivial⟩⟩
        simp only [awR, ltR, l0, l1, l2, AsOk_cons, AsOk_nil, BE.eval, cmpI, IE.eval, IE.reval, IE.aeval, hf, q0, q1, q2, FNu_104, List.headD_cons, Nat.div_one]
        simp; omega
    · refine rputs_inst hargs rputs_0 fun e0 hf q0 q1 q2 => ⟨?_, ⟨fun _ => rfl, trivial⟩⟩
      simp only [awR, ltR, l0, l1, AsOk_cons, AsOk_nil, BE.eval, cmpI, IE.eval, IE.reval, IE.aeval, hf, q0, q1, FNu_104, List.headD_cons, Nat.div_one]
      simp; omega
  · refine rputs_inst hargs rputs_1 fun e0 hf q0 q1 q2 => ⟨?_, ⟨fun _ => rfl, trivial⟩⟩
    simp only [awR, ltR, l1, AsOk_cons, AsOk_nil, BE.eval, cmpI, IE.eval, IE.reval, IE.aeval, hf, q1, FNu_104, List.headD_cons, Nat.div_one]
    simp; omega

end Go.Proofs.Ytkfejcffacbngaa.J
