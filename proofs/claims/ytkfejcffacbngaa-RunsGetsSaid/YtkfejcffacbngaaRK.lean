import Derived.Test.YtkfejcffacbngaaRJ

namespace Go.Proofs.Ytkfejcffacbngaa.J

open Go Go.Sym

set_option linter.unusedVariables false

def g104 : List (List Int) → List Int
  | _ => [1]

def FNr : Nat → List (List Int) → List Int
  | 104, l => g104 l
  | i, l => FNq i l

theorem FNr_102 (b zs : List Int) : FNr 102 [b, zs] = b ++ putS (runsL zs) := rfl
theorem FNr_103 (zs : List Int) : FNr 103 [zs] = [((lenS (runsL zs) : Nat) : Int)] := rfl
theorem FNr_104 : FNr 104 [] = [1] := rfl

def pcAw : Pc := ⟨19, [], [.bool], 104, [], []⟩

abbrev ltR (a b : IE) (t : Bool) : BE × Bool := (.cmp .lss a b, t)
abbrev awR : BE × Bool := (.cmp .eql (.app 104 .anil) (.lit 0), false)
abbrev wkE : IE := .rapp 102 (.acons .rnil (.acons (.rcons (.lit 0) (.rcons (.lit 0) (.rcons (.lit 0) (.rcons (.lit (-1)) .rnil)))) .anil))

theorem aw_entry : entryK Try.prog [pcRPut.ct] 1 400 19 [] 0 [] 3 [ltR (.lit 0) (.rlen wkE 1) true] = some [([(.cmp .lss (.lit 0) (.rlen (.rapp 102 (.acons .rnil (.acons (.rcons (.lit 0) (.rcons (.lit 0) (.rcons (.lit 0) (.rcons (.lit (-1)) .rnil)))) .anil))) 1), true)], .ret (.sbool (.req (.w8 (.rapp 102 (.acons .rnil (.acons (.rcons (.lit 0) (.rcons (.lit 0) (.rcons (.lit 0) (.rcons (.lit (-1)) .rnil)))) .anil)))) (.rcon [0, 2, 1]))) ⟨0, .nil⟩)] := by kernel_rfl

abbrev akS : List ArgK := [.int .u16, .sl [.i64]]
abbrev lz : IE := .rlen (.rvar 1) 1
abbrev zE : IE := .app 103 (.acons (.rep (.var 0) (.rcon [0])) .anil)
abbrev asS0 : As := [ltR (.lit 4) zE false, ltR (.lit 1000000) (.var 0) false, ltR (.lit 17592186044416) (.var 0) false, ltR (.var 0) (.lit 0) false, awR, ltR (.lit 1000) lz false]
abbrev cutS : Cuts := [([0, 1, 0, 1, 1, 1, 1], ⟨39, [(1, .rsl (.ro 1 [.i64]) (.lit 0) lz 1), (4, .bool false), (5, .sint .i64 (.var 2))], [], 0, [(nonneg (.var 2), true), (atmB (.var 2) lz, true), (atmB lz (.lit 1000), true), (atmB lz (.lit 1000000), true)]⟩)]
abbrev knS : Kn := [pcAw.ct, pcRLen.ct]

theorem short_entry : entryK Try.prog knS 1 400 5 cutS 2 (argSVs 0 akS) 6 asS0 = some [([(.cmp .lss (.lit 4) (.app 103 (.acons (.rep (.var 0) (.rcon [0])) .anil)), false), (.cmp .lss (.lit 1000000) (.var 0), false), (.cmp .lss (.lit 17592186044416) (.var 0), false), (.cmp .lss (.var 0) (.lit 0), false), (.cmp .eql (.app 104 .anil) (.lit 0), false), (.cmp .lss (.lit 1000) (.rlen (.rvar 1) 1), false)], .cut 0 ⟨[(2, .lit 0)], [], [], []⟩)] := by kernel_rfl

theorem short_rounds : roundsK Try.prog knS 1 400 5 cutS 2 6 cutS = some [[([(.cmp .lss (.lit 4294967295) (.sel (.rvar 1) (.var 2) 1 0), true), (.cmp .lss (.var 2) (.rlen (.rvar 1) 1), true), (.not (.cmp .lss (.var 2) (.lit 0)), true), (.not (.cmp .lss (.rlen (.rvar 1) 1) (.var 2)), true), (.not (.cmp .lss (.lit 1000) (.rlen (.rvar 1) 1)), true), (.not (.cmp .lss (.lit 1000000) (.rlen (.rvar 1) 1)), true)], .ret (.bool true) ⟨0, .nil⟩), ([(.cmp .lss (.sel (.rvar 1) (.var 2) 1 0) (.lit (-4294967295)), true), (.cmp .lss (.lit 4294967295) (.sel (.rvar 1) (.var 2) 1 0), false), (.cmp .lss (.var 2) (.rlen (.rvar 1) 1), true), (.not (.cmp .lss (.var 2) (.lit 0)), true), (.not (.cmp .lss (.rlen (.rvar 1) 1) (.var 2)), true), (.not (.cmp .lss (.lit 1000) (.rlen (.rvar 1) 1)), true), (.not (.cmp .lss (.lit 1000000) (.rlen (.rvar 1) 1)), true)], .ret (.bool true) ⟨0, .nil⟩), ([(.cmp .lss (.sel (.rvar 1) (.var 2) 1 0) (.lit (-4294967295)), false), (.cmp .lss (.lit 4294967295) (.sel (.rvar 1) (.var 2) 1 0), false), (.cmp .lss (.var 2) (.rlen (.rvar 1) 1), true), (.not (.cmp .lss (.var 2) (.lit 0)), true), (.not (.cmp .lss (.rlen (.rvar 1) 1) (.var 2)), true), (.not (.cmp .lss (.lit 1000) (.rlen (.rvar 1) 1)), true), (.not (.cmp .lss (.lit 1000000) (.rlen (.rvar 1) 1)), true)], .cut 0 ⟨[(2, .bin .add .i64 (.var 2) (.lit 1))], [], [], []⟩), ([(.cmp .lss (.var 2) (.rlen (.rvar 1) 1), false), (.not (.cmp .lss (.var 2) (.lit 0)), true), (.not (.cmp .lss (.rlen (.rvar 1) 1) (.var 2)), true), (.not (.cmp .lss (.lit 1000) (.rlen (.rvar 1) 1)), true), (.not (.cmp .lss (.lit 1000000) (.rlen (.rvar 1) 1)), true)], .ret (.sbool (.not (.cmp .lss (.bin .mul .i64 (.lit 5) (.rlen (.rvar 1) 1)) (.app 103 (.acons (.rvar 1) .anil))))) ⟨0, .nil⟩)]] := by kernel_rfl

theorem short_long : entryK Try.prog knS 1 400 5 [] 2 (argSVs 0 akS) 6 [awR, ltR (.lit 1000) lz true] = some [([(.cmp .eql (.app 104 .anil) (.lit 0), false), (.cmp .lss (.lit 1000) (.rlen (.rvar 1) 1), true)], .ret (.bool true) ⟨0, .nil⟩)] := by kernel_rfl

end Go.Proofs.Ytkfejcffacbngaa.J

namespace Go.Proofs.Ytkfejcffacbngaa.J

open Go Go.Sym

set_option linter.unusedVariables false

theorem foldM_val {x : Int} (h0 : -9223372036854775808 ≤ x) (h1 : x ≤ 9223372036854775807) : foldM x = if x < 0 then -2 * x - 1 else 2 * x := by
  have e2 : ∀ y : Int, binI .mul .u64 2 y = IntKind.u64.wrap (2 * y) := fun y => rfl
  have e3 : ∀ y : Int, binI .add .u64 y 1 = IntKind.u64.wrap (y + 1) := fun y => rfl
  unfold foldM
  split
  · have t1 : binI .add .i64 x 1 = x + 1 := wrap_i64 (by omega)
    have t2 : binI .sub .i64 0 (x + 1) = 0 - (x + 1) := wrap_i64 (by omega)
    have t3 : IntKind.u64.wrap (0 - (x + 1)) = 0 - (x + 1) := wrap_u64 (by omega)
    rw [t1, t2, t3, e2, wrap_u64 (by omega), e3, wrap_u64 (by omega)]
    omega
  · have t3 : IntKind.u64.wrap x = x := wrap_u64 (by omega)
    rw [t3, e2, wrap_u64 (by omega)]

theorem lebN_short : ∀ (j k : Nat) (u : Int), 0 ≤ u → u < 128 ^ (j + 1) → j ≤ k → (lebN k u).length ≤ j + 1 := by
  intro j
  induction j with
  | zero => intro k u h0 h1 _; rw [lebN_lt (by simpa using h1)]; simp
  | succ j ih =>
    intro k u h0 h1 hk
    obtain ⟨k, rfl⟩ : ∃ q, k = q + 1 := ⟨k - 1, by omega⟩
    by_cases h : u < 128
    · rw [lebN_lt h]; simp
    · rw [lebN_ge (by omega), List.length_cons]
      have := ih k (u / 128) (by omega) (by rw [Int.pow_succ] at h1; omega) (by omega)
      omega

theorem rl_le : ∀ (l : List Int), rl l ≤ l.length
  | [] => Nat.le_refl _
  | x :: l => by
    have h : ∀ l : List Int, zc l ≤ l.length := by
      intro l
      induction l with
      | nil => simp [zc]
      | cons y l ih => rw [zc]; split <;> simp <;> omega
    have := h l
    rw [rl]; split <;> simp <;> omega

theorem rl_one {x : Int} {l : List Int} (h : x ≠ 0) : rl (x :: l) = 1 := by rw [rl, if_neg h]

/-- Runs are few bytes: five a number, if no number is far from 0. -/
theorem lenS_few : ∀ (m : Nat) (zs : List Int), zs.length ≤ m → zs.length ≤ 1000 → (∀ x ∈ zs, -4294967295 ≤ x ∧ x ≤ 4294967295) → lenS (runsL zs) ≤ 5 * zs.length := by
  intro m
  induction m with
  | zero =>
    intro zs hm _ _
    obtain rfl : zs = [] := List.eq_nil_of_length_eq_zero (by omega)
    simp [runsL, runsF, lenS]
  | succ m ih =>
    intro zs hm h1000 hz
    cases zs with
    | nil => simp [runsL, runsF, lenS]
    | cons x l =>
      have hp := rl_pos (x := x) (l := l)
      have hle := rl_le (x :: l)
      have hx := hz x (List.mem_cons_self ..)
      have ih' := ih ((x :: l).drop (rl (x :: l))) (by simp at hm ⊢; omega) (by simp at h1000 ⊢; omega) (fun y hy => hz y (List.mem_of_mem_drop hy))
      rw [runsL_cons]
      have hs : lenS ((x, (rl (x :: l) : Int)) :: runsL ((x :: l).drop (rl (x :: l)))) = bumpL (x, (rl (x :: l) : Int)) + lenS (runsL ((x :: l).drop (rl (x :: l)))) := by simp [lenS]
      rw [hs]
      rw [List.length_drop] at ih'
      have hb : bumpL (x, (rl (x :: l) : Int)) ≤ 5 * rl (x :: l) := by
        have hv := foldM_val (x := x) (by omega) (by omega)
        unfold bumpL
        by_cases h0 : x = 0
        · subst h0
          rw [if_pos rfl]
          have e1 : IntKind.i64.wrap ((rl (0 :: l) : Int) - 1) = (rl (0 :: l) : Int) - 1 := wrap_i64 (by omega)
          have e2 : IntKind.u64.wrap ((rl (0 :: l) : Int) - 1) = (rl (0 :: l) : Int) - 1 := wrap_u64 (by omega)
          have l1 := lebN_short 0 10 (foldM 0) (by rw [hv]; simp) (by rw [hv]; simp) (by decide)
          have l2 := lebN_short 1 10 ((rl (0 :: l) : Int) - 1) (by omega) (by simp at h1000 hle ⊢; omega) (by decide)
          simp only [e1, e2]
          omega
        · rw [if_neg h0]
          have l1 := lebN_short 4 10 (foldM x) (by rw [hv]; split <;> omega) (by rw [hv]; simp; split <;> omega) (by decide)
          simp only
          omega
      omega

theorem zc_rep (n : Nat) : zc (List.replicate n 0) = n := by
  induction n with
  | zero => rfl
  | succ n ih => rw [List.replicate_succ, zc, if_pos rfl, ih]

/-- Noughts are cheap. -/
theorem lenS_zeros (n : Nat) (h : n ≤ 65536) : lenS (runsL (List.replicate n 0)) ≤ 4 := by
  cases n with
  | zero => simp [runsL, runsF, lenS]
  | succ n =>
    have hr : rl (0 :: List.replicate n 0) = n + 1 := by rw [rl, if_pos rfl, zc_rep]
    rw [List.replicate_succ, runsL_cons, hr, List.drop_eq_nil_of_le (by simp)]
    have hb : lenS ((0, ((n + 1 : Nat) : Int)) :: runsL []) = bumpL (0, ((n + 1 : Nat) : Int)) := by simp [lenS, runsL, runsF]
    rw [hb, bumpL, if_pos rfl]
    have hv := foldM_val (x := 0) (by decide) (by decide)
    have e1 : IntKind.i64.wrap (((n + 1 : Nat) : Int) - 1) = (n : Int) := by rw [wrap_i64 (by omega)]; omega
    have e2 : IntKind.u64.wrap (n : Int) = (n : Int) := wrap_u64 (by omega)
    have l1 := lebN_short 0 10 (foldM 0) (by rw [hv]; simp) (by rw [hv]; simp) (by decide)
    have l2 := lebN_short 2 10 (n : Int) (by omega) (by simp; omega) (by decide)
    simp only [e1, e2]
    omega

theorem awakeS : w8L ([] ++ putS (runsL [0, 0, 0, -1])) = [0, 2, 1] := by decide +kernel
theorem awakeS0 : 0 < ([] ++ putS (runsL [0, 0, 0, -1]) : List Int).length := by decide +kernel

end Go.Proofs.Ytkfejcffacbngaa.J

namespace Go.Proofs.Ytkfejcffacbngaa.J

open Go Go.Sym

set_option linter.unusedVariables false

theorem q_r {c : Pc} (h : PcOk Try.prog FNq c) (h1 : ∀ i, i < c.rks.length → c.id + i ≤ 103) (h2 : c.pre = []) : PcOk Try.prog FNr c := by
  refine h.cong (fun i hi => ?_) (fun i hi => by rw [h2] at hi; cases hi)
  have := h1 i hi
  generalize c.id + i = j at this
  funext l
  unfold FNr
  split <;> first | omega | rfl

theorem rput_r : PcOk Try.prog FNr pcRPut := q_r rput_ok (by decide) rfl
theorem rlen_r : PcOk Try.prog FNr pcRLen := q_r rlen_ok (by decide) rfl

theorem aw_ok : PcOk Try.prog FNr pcAw := by
  intro w vs ls hargs hrng hpre
  refine pc_inst' mix pcAw (fun env h => knOk_cons knOk_nil (Pc.ct_ok h rput_r)) (by decide) aw_entry hargs fun e0 hf ha => ?_
  simp only [pcAw, ArgsE] at ha
  subst ha
  refine ⟨?_, ⟨fun _ => ⟨[_], rfl, ⟨?_, rfl⟩⟩, trivial⟩⟩
  · have := awakeS0
    simp only [ltR, wkE, AsOk_cons, AsOk_nil, BE.eval, cmpI, IE.eval, IE.reval, IE.aeval, hf, FNr_102, Nat.div_one]
    exact ⟨decide_eq_true (by omega), trivial⟩
  · simp only [BE.eval, IE.eval, IE.reval, IE.aeval, hf, FNr_102, pcAw, FNr_104, List.headD_cons, awakeS]
    decide

theorem knS_ok : ∀ env : Env, env.fn = FNr → KnOk Try.prog env knS := fun env h => knOk_cons (knOk_cons knOk_nil (Pc.ct_ok h rlen_r)) (Pc.ct_ok h aw_ok)

def invS (ls : List (List Int)) (c : Nat) (env : Env) : Prop := c = 0 ∧ ∃ (n : Int) (zs : List Int), ls = [[n], zs] ∧ zs.length ≤ 1000 ∧ env.row 1 = zs ∧ ∃ k : Nat, vInt (env.val 2) = k ∧ k ≤ zs.length ∧ ∀ x ∈ zs.take k, -4294967295 ≤ x ∧ x ≤ 4294967295

theorem take_snoc {zs : List Int} {k : Nat} (h : k < zs.length) : zs.take (k + 1) = zs.take k ++ [selL zs (k : Int) 1 0] := by
  rw [List.take_add_one, List.getElem?_eq_getElem h]
  simp [selL, h]

theorem short_law {w : World} {vs : Array Value} {n : Int} {zs : List Int} (h0 : 0 ≤ n) (h1 : n ≤ 65535) (hargs : ArgsAre w vs.toList akS [[n], zs]) : Calls Try.prog 5 vs w fun e w' => e = .returned (.bool true) ∧ RowKit.Below w.heap.size w w' := by
  by_cases hl : zs.length ≤ 1000
  · refine law_floyd_cas (cs := cutS) (FN := FNr) (aa := asS0) (aks := akS) (base := 2) mix (fun ls => ls = [[n], zs]) knS_ok (Nat.le_refl 2) short_rounds short_entry invS (fun ls c env => (0, (2000 - vInt (env.val 2)).toNat)) (fun ls i env h => by have := h.1; simp; omega) ?_ hargs rfl
    intro ls e0 hf ha hls
    subst hls
    simp only [ArgsE, ArgE, List.cons.injEq] at ha
    obtain ⟨_, _, ⟨rfl, rfl⟩, ha0, _, _, ⟨rfl, rfl⟩, ⟨hrow, _⟩, _⟩ := ha
    simp only [List.cons.injEq, and_true] at ha0
    have hn := ha0.symm
    have hz := lenS_zeros n.toNat (by omega)
    have hrep : repL n [0] = List.replicate n.toNat 0 := by
      simp only [repL]
      generalize n.toNat = q
      induction q with
      | zero => rfl
      | succ q ih => rw [List.replicate_succ, List.flatten_cons, ih, List.replicate_succ]; rfl
    refine ⟨?_, fun env hfn => ⟨⟨?_, trivial⟩, ⟨?_, trivial⟩⟩, ?_⟩
    · simp only [asS0, ltR, awR, zE, lz, AsOk_cons, AsOk_nil, BE.eval, cmpI, IE.eval, IE.reval, IE.aeval, hf, hn, hrow, hrep, FNr_103, FNr_104, List.headD_cons, Nat.div_one]
      simp; omega
    · rintro ⟨_, n', zs', hls, hl', q1, k, q2, hk, hx⟩
      simp only [lz, nonneg, atmB, AsOk_cons, AsOk_nil, BE.eval, cmpI, IE.eval, IE.reval, q1, q2, Nat.div_one]
      simp; omega
    · rintro ⟨_, n', zs', hls, hl', q1, k, q2, hk, hx⟩
      simp only [List.cons.injEq, and_true] at hls
      obtain ⟨rfl, rfl⟩ := hls
      simp only [allLeaves, AsOk_cons, AsOk_nil, BE.eval, cmpI, IE.eval, IE.reval, q1, q2, Nat.div_one, and_true, decide_eq_true_eq, decide_eq_false_iff_not]
      refine ⟨fun _ => rfl, fun _ => rfl, fun hA => ?_, fun hA => ?_⟩
      · have hlt : k < zs.length := by omega
        have e1 : binI .add .i64 (k : Int) 1 = ((k + 1 : Nat) : Int) := by simp only [binI]; rw [wrap_i64 (by omega)]; omega
        refine ⟨⟨rfl, n, zs, rfl, hl', ?_, k + 1, ?_, by omega, ?_⟩, fun M hM => ?_⟩
        · simp [upd, lk_nil, q1]
        · simp [upd, lk_cons, lk_nil, IE.eval, q2, e1, vInt_int]
        · intro x hxm
          rw [take_snoc hlt] at hxm
          rcases List.mem_append.1 hxm with h | h
          · exact hx x h
          · simp only [List.mem_singleton] at h
            subst h
            omega
        · cases hM
          refine Prod.lex_def.2 (.inr ⟨rfl, ?_⟩)
          simp only [upd, lk_cons, lk_nil, if_true, IE.eval, q2, e1, vInt_int]
          omega
      · obtain rfl : k = zs.length := by omega
        rw [List.take_length] at hx
        have hfew := lenS_few zs.length zs (Nat.le_refl _) hl' hx
        have e5 : binI .mul .i64 5 (zs.length : Int) = 5 * (zs.length : Int) := wrap_i64 (by omega)
        simp only [StepL, BE.eval, cmpI, IE.eval, IE.reval, IE.aeval, hfn, q1, e5, FNr_103, List.headD_cons, Nat.div_one]
        simp; omega
    · simp only [allLeaves, and_true]
      refine fun _ => ⟨⟨rfl, n, zs, rfl, hl, ?_, 0, ?_, by omega, by simp⟩, fun M hM => by cases hM⟩
      · simp [upd, lk_nil, hrow]
      · simp [upd, lk_cons, lk_nil, IE.eval, vInt_int]
  · refine law_floyd_as (FN := FNr) mix knS_ok (by decide) short_long hargs fun e0 hf ha => ?_
    simp only [ArgsE, ArgE, List.cons.injEq] at ha
    obtain ⟨_, _, ⟨rfl, rfl⟩, ha0, _, _, ⟨rfl, rfl⟩, ⟨hrow, _⟩, _⟩ := ha
    refine ⟨?_, ⟨fun _ => rfl, trivial⟩⟩
    simp only [ltR, awR, lz, AsOk_cons, AsOk_nil, BE.eval, cmpI, IE.eval, IE.reval, IE.aeval, hf, hrow, FNr_104, List.headD_cons, Nat.div_one]
    simp; omega

end Go.Proofs.Ytkfejcffacbngaa.J
