import Derived.Test.YtkfejcffacbngaaJA

namespace Go.Proofs.Ytkfejcffacbngaa.J

open Go Go.Sym

set_option linter.unusedVariables false

theorem wrap_u8 (z : Int) : IntKind.u8.wrap z = z % 256 := by simp [IntKind.wrap, IntKind.bits, IntKind.signed]

theorem or128_all : ((List.range 256).all fun x => decide (binI .or .u8 (x : Int) 128 = (x : Int) % 128 + 128)) = true := by kernel_rfl

theorem or128 {v : Int} : binI .or .u8 (IntKind.u8.wrap v) 128 = v % 128 + 128 := by
  rw [wrap_u8]
  have h := List.all_eq_true.1 or128_all (v % 256).toNat (List.mem_range.2 (by omega))
  have h := of_decide_eq_true h
  rw [show (((v % 256).toNat : Nat) : Int) = v % 256 by omega] at h
  rw [h]; omega

theorem shr7 {v : Int} (h : 0 ≤ v) : binI .shr .u64 v 7 = v / 128 := by
  have e : min (7 : Int).toNat (IntKind.u64).bits = 7 := by decide
  simp only [binI, e]
  exact Int.fdiv_eq_ediv_of_nonneg _ (by decide)

theorem quo128 {v : Int} (h : 0 ≤ v ∧ v < 18446744073709551616) : binI .quo .u64 v 128 = v / 128 := by
  simp only [binI, Int.tdiv_eq_ediv_of_nonneg h.1]
  exact wrap_u64 (by omega)

theorem rem128 {v : Int} (h : 0 ≤ v) : binI .add .u8 (IntKind.u8.wrap (binI .rem .u64 v 128)) 128 = v % 128 + 128 := by
  have e : binI .rem .u64 v 128 = v % 128 := by simp only [binI, Int.tmod_eq_emod_of_nonneg h]
  rw [e]
  simp only [binI, wrap_u8]
  omega

theorem pow128 (k : Nat) : (1 : Int) ≤ 128 ^ k := by
  have : (0 : Int) < 128 ^ k := Int.pow_pos (by decide)
  omega

theorem lebN_lt {k : Nat} {v : Int} (h : v < 128) : lebN k v = [v] := by
  cases k with
  | zero => rfl
  | succ k => rw [lebN, if_pos h]

theorem lebN_ge {k : Nat} {v : Int} (h : 128 ≤ v) : lebN (k + 1) v = (v % 128 + 128) :: lebN k (v / 128) := by
  rw [lebN, if_neg (by omega)]

/-- The tail of a number's bytes: what is still to be written. -/
def Todo (out : List Int) (v : Int) (all : List Int) (n : Nat) : Prop := ∃ k : Nat, k ≤ 10 ∧ 0 ≤ v ∧ v < 18446744073709551616 ∧ v < 128 ^ (k + 1) ∧ out ++ lebN k v = all ∧ out.length + k = n + 10

theorem todo_end {out : List Int} {v : Int} {all : List Int} {n : Nat} (h : Todo out v all n) (hv : v < 128) : out ++ [v] = all := by
  obtain ⟨k, _, _, _, _, h, _⟩ := h
  rw [← h, lebN_lt hv]

theorem todo_step {out : List Int} {v : Int} {all : List Int} {n : Nat} (h : Todo out v all n) (hv : 128 ≤ v) : Todo (out ++ [v % 128 + 128]) (v / 128) all n ∧ out.length < n + 10 := by
  obtain ⟨k, h1, h2, h3, h4, h5, h6⟩ := h
  match k, h1, h4, h5, h6 with
  | 0, _, h4, _, _ => simp at h4; omega
  | k + 1, h1, h4, h5, h6 =>
    refine ⟨⟨k, by omega, by omega, by omega, ?_, ?_, ?_⟩, by omega⟩
    · rw [Int.pow_succ] at h4; omega
    · rw [← h5, lebN_ge hv]; simp
    · simp; omega

theorem todo_len {out : List Int} {v : Int} {all : List Int} {n : Nat} (h : Todo out v all n) : out.length ≤ n + 10 := by
  obtain ⟨k, _, _, _, _, _, h⟩ := h; omega

def invLeb (ls : List (List Int)) (c : Nat) (env : Env) : Prop := c = 0 ∧ ∃ b u, ls = [b, [u]] ∧ (b.length : Int) ≤ 4294967296 ∧ vInt (env.val 3) = ((env.row 2).length : Int) ∧ Todo (env.row 2) (vInt (env.val 4)) (b ++ lebN 10 u) b.length

theorem leb_ok : PcOk Try.prog FNa pcLeb := by
  refine pc_floyd_as (cs := cutLeb) (aa := asL) (base := 2) mix pcLeb (fun _ _ => knOk_nil) (Nat.le_refl 2) leb_rounds leb_entry invLeb (fun ls _ env => (0, ((ls.headD []).length + 10 - (env.row 2).length))) (fun ls i env h => by have := h.1; simp; omega) ?_
  intro ls e0 hf hargs hrng hpre
  simp only [pcLeb, ArgsE, ArgE] at hargs
  obtain ⟨b, _, rfl, ⟨hb, _⟩, u', _, rfl, hu, rfl⟩ := hargs
  obtain ⟨u, huv⟩ : ∃ z, vInt (e0.val 1) = z := ⟨_, rfl⟩
  simp only [Nat.zero_add, huv] at hu
  subst hu
  have hlen := (hrng.1 (.sl [.u8]) b rfl rfl).2
  have hur := hrng.2.1 (.int .u64) [u] rfl rfl
  simp only [measL, List.length_singleton, Nat.div_one, List.headD_cons] at hlen hur
  have e10 : binI .add .i64 (b.length : Int) 10 = (b.length : Int) + 10 := wrap_i64 (by omega)
  have e0' : binI .sub .i64 ((b.length : Int) + 10) 0 = (b.length : Int) + 10 := by simp only [binI]; rw [wrap_i64 (by omega)]; omega
  refine ⟨?_, fun env hfn => ⟨⟨?_, trivial⟩, ⟨?_, trivial⟩⟩, ?_⟩
  · simp only [asL, atmB, AsOk_cons, AsOk_nil, BE.eval, cmpI, IE.eval, IE.reval, hb, Nat.div_one, e10, e0']
    simp; omega
  · rintro ⟨_, b', u', hl, h1, h2, h3⟩
    have := todo_len h3
    simp only [asO, nonneg, atmB, AsOk_cons, AsOk_nil, BE.eval, cmpI, IE.eval, h2]
    simp; omega
  · rintro ⟨_, b', u', hl, h1, h2, h3⟩
    simp only [List.cons.injEq, and_true] at hl
    obtain ⟨rfl, rfl⟩ := hl
    have hv : 0 ≤ vInt (env.val 4) := by obtain ⟨_, _, h, _⟩ := h3; exact h
    simp only [allLeaves, AsOk_cons, AsOk_nil, BE.eval, cmpI, IE.eval, and_true]
    refine ⟨fun hA => ?_, fun hA => ?_⟩
    · have hA := of_decide_eq_true hA.1
      have hend := todo_end h3 hA
      refine ⟨[_], rfl, ⟨by decide, _, rfl, ?_, ?_⟩, rfl⟩
      · have e : IntKind.u8.wrap (vInt (env.val 4)) = vInt (env.val 4) := by rw [wrap_u8]; omega
        rw [subE_eval (by simp only [IE.reval, IE.eval, h2]; simp)]
        simp only [IE.reval, IE.eval, h2, subL, e, pcLeb, FNa_81, hend]
        have e2 : ((env.row 2).length + 1 : Int).toNat * [IntKind.u8].length = (b ++ lebN 10 u).length := by rw [← hend]; simp
        rw [e2, List.take_of_length_le (Nat.le_refl _)]; simp
      · refine ⟨by simp only [IE.eval, h2]; omega, fun B r cnt ks' h1 h2 => ?_⟩
        obtain rfl := Option.some.inj h1
        cases h2
        exact Int.le_refl _
    · have hA := of_decide_eq_false hA.1
      obtain ⟨h5, h6⟩ := todo_step h3 (by omega)
      refine stepG_cut ⟨rfl, b, u, rfl, h1, ?_, ?_⟩ (Prod.lex_def.2 (.inr ⟨rfl, ?_⟩))
      · simp [upd, lk_cons, lk_nil, IE.eval, IE.reval, h2, vInt_int]
      · simp only [upd, lk_cons, lk_nil, Nat.reduceEqDiff, if_false, if_true, IE.eval, IE.reval, vInt_int, or128, shr7 hv]
        exact h5
      · simp [upd, lk_cons, lk_nil, IE.eval, IE.reval]
        omega
  · simp only [allLeaves, AsOk_cons, AsOk_nil, BE.eval, cmpI, IE.eval, IE.reval, hb, and_true]
    intro hA
    refine stepG_cut0 ⟨rfl, b, u, rfl, hlen, ?_, ?_⟩
    · simp [upd, lk_cons, lk_nil, IE.eval, IE.reval, hb, subL, vInt_int]
    · refine ⟨10, Nat.le_refl _, ?_⟩
      simp [upd, lk_cons, lk_nil, IE.eval, IE.reval, hb, subL, vInt_int, huv]
      omega

def invRfB (ls : List (List Int)) (c : Nat) (env : Env) : Prop := ∃ u, ls = [[u]] ∧ 0 ≤ u ∧ u ≤ 18446744073709551615 ∧
  ((c = 0 ∧ vInt (env.val 1) = u) ∨ (c = 1 ∧ vInt (env.val 3) = ((env.row 2).length : Int) ∧ Todo (env.row 2) (vInt (env.val 1)) (lebN 10 u) 0))

theorem todo_0 {u : Int} (h : 0 ≤ u ∧ u ≤ 18446744073709551615) : Todo [] u (lebN 10 u) 0 := by
  refine ⟨10, Nat.le_refl _, h.1, by omega, ?_, rfl, rfl⟩
  have : (128 : Int) ^ (10 + 1) = 151115727451828646838272 := by decide
  omega

theorem rfB_ok : PcOk Try.prog FNa pcRfB := by
  refine pc_floyd (cs := cutRfB) (base := 1) mix pcRfB (fun _ _ => knOk_nil) (Nat.le_refl 1) rfB_rounds rfB_entry invRfB (fun ls c env => (0, if c = 0 then 100 else 10 - (env.row 2).length)) (fun ls i env h => by obtain ⟨_, _, _, _, h⟩ := h; simp; omega) ?_
  intro ls e0 hf hargs hrng hpre
  simp only [pcRfB, ArgsE, ArgE] at hargs
  obtain ⟨u', _, rfl, hu, rfl⟩ := hargs
  obtain ⟨u, huv⟩ : ∃ z, vInt (e0.val 0) = z := ⟨_, rfl⟩
  simp only [huv] at hu
  subst hu
  have hur := hrng.1 (.int .u64) [u] rfl rfl
  simp only [measL, List.headD_cons] at hur
  refine ⟨fun env hfn => ⟨⟨fun _ => by simp [AsOk_nil], ⟨?_, trivial⟩⟩, ⟨?_, ⟨?_, trivial⟩⟩⟩, ?_⟩
  · rintro ⟨u', hl, hu1, hu2, ⟨h, _⟩ | ⟨_, h2, h3⟩⟩
    · cases h
    have := todo_len h3
    simp only [asO, nonneg, atmB, AsOk_cons, AsOk_nil, BE.eval, cmpI, IE.eval, h2]
    simp; omega
  · rintro ⟨u', hl, hu1, hu2, ⟨_, h2⟩ | ⟨h, _⟩⟩
    case inr => cases h
    simp only [List.cons.injEq, and_true] at hl
    subst hl
    simp only [allLeaves, AsOk_cons, AsOk_nil, BE.eval, cmpI, IE.eval, and_true, h2]
    refine ⟨fun hA => ?_, fun hA => ?_⟩
    · have hA := of_decide_eq_true hA
      obtain ⟨h5, h6⟩ := todo_step (todo_0 hur) (by omega)
      refine stepG_cut ⟨u, rfl, hu1, hu2, .inr ⟨rfl, ?_, ?_⟩⟩ (Prod.lex_def.2 (.inr ⟨rfl, ?_⟩))
      · simp [upd, lk_cons, lk_nil, IE.eval, IE.reval, vInt_int]
      · simp only [upd, lk_cons, lk_nil, Nat.reduceEqDiff, if_false, if_true, IE.eval, IE.reval, vInt_int, h2, rem128 hu1, quo128 (v := u) (by omega)]
        exact h5
      · simp [upd, lk_cons, lk_nil, IE.eval, IE.reval]
    · have hA := of_decide_eq_false hA
      refine ⟨[_], rfl, ⟨by decide, _, rfl, ?_, ?_⟩, rfl⟩
      · have e : IntKind.u8.wrap u = u := by rw [wrap_u8]; omega
        rw [subE_eval (by simp [IE.eval, IE.reval])]
        simp only [IE.reval, IE.eval, h2, subL, e, pcRfB, FNa_82, lebN_lt (k := 10) (v := u) (by omega)]
        rfl
      · refine ⟨by simp only [IE.eval]; decide, fun B r cnt ks' h1 h2 => ?_⟩
        obtain rfl := Option.some.inj h1
        cases h2
        exact Int.le_refl _
  · rintro ⟨u', hl, hu1, hu2, ⟨h, _⟩ | ⟨_, h2, h3⟩⟩
    · cases h
    simp only [List.cons.injEq, and_true] at hl
    subst hl
    have hv : 0 ≤ vInt (env.val 1) ∧ vInt (env.val 1) < 18446744073709551616 := by obtain ⟨_, _, h, h', _⟩ := h3; exact ⟨h, h'⟩
    simp only [allLeaves, AsOk_cons, AsOk_nil, BE.eval, cmpI, IE.eval, and_true]
    refine ⟨fun hA => ?_, fun hA => ?_⟩
    · have hA := of_decide_eq_true hA.1
      obtain ⟨h5, h6⟩ := todo_step h3 (by omega)
      refine stepG_cut ⟨u, rfl, hu1, hu2, .inr ⟨rfl, ?_, ?_⟩⟩ (Prod.lex_def.2 (.inr ⟨rfl, ?_⟩))
      · simp [upd, lk_cons, lk_nil, IE.eval, IE.reval, h2, vInt_int]
      · simp only [upd, lk_cons, lk_nil, Nat.reduceEqDiff, if_false, if_true, IE.eval, IE.reval, vInt_int, rem128 hv.1, quo128 hv]
        exact h5
      · simp [upd, lk_cons, lk_nil, IE.eval, IE.reval]
        omega
    · have hA := of_decide_eq_false hA.1
      have hend := todo_end h3 (by omega)
      refine ⟨[_], rfl, ⟨by decide, _, rfl, ?_, ?_⟩, rfl⟩
      · have e : IntKind.u8.wrap (vInt (env.val 1)) = vInt (env.val 1) := by rw [wrap_u8]; omega
        rw [subE_eval (by simp only [IE.reval, IE.eval, h2]; simp)]
        simp only [IE.reval, IE.eval, h2, subL, e, pcRfB, FNa_82, hend]
        have e2 : ((env.row 2).length + 1 : Int).toNat * [IntKind.u8].length = (lebN 10 u).length := by rw [← hend]; simp
        rw [e2, List.take_of_length_le (Nat.le_refl _)]; simp
      · refine ⟨by simp only [IE.eval, h2]; omega, fun B r cnt ks' h1 h2 => ?_⟩
        obtain rfl := Option.some.inj h1
        cases h2
        exact Int.le_refl _
  · simp only [allLeaves, AsOk_nil, and_true]
    intro _
    refine stepG_cut0 ⟨u, rfl, hur.1, hur.2, .inl ⟨rfl, ?_⟩⟩
    simp [upd, lk_cons, lk_nil, IE.eval, vInt_int, huv]

end Go.Proofs.Ytkfejcffacbngaa.J
