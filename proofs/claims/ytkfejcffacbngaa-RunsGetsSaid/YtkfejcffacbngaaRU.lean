import Derived.Test.YtkfejcffacbngaaRT

namespace Go.Proofs.Ytkfejcffacbngaa.J

open Go Go.Sym

set_option linter.unusedVariables false

def g110 : List (List Int) → List Int
  | [a, b] => [if a = b then 1 else 0]
  | _ => []

def FNu : Nat → List (List Int) → List Int
  | 110, l => g110 l
  | i, l => FNt i l

theorem FNu_102 (b zs : List Int) : FNu 102 [b, zs] = b ++ putS (runsL zs) := rfl
theorem FNu_103 (zs : List Int) : FNu 103 [zs] = [((lenS (runsL zs) : Nat) : Int)] := rfl
theorem FNu_104 : FNu 104 [] = [1] := rfl
theorem FNu_105 (zs : List Int) : FNu 105 [zs] = putS (runsL zs) := rfl
theorem FNu_106 (b : List Int) (a n : Int) : FNu 106 [b, [a], [n]] = (getM b a n).1 := rfl
theorem FNu_107 (b : List Int) (a n : Int) : FNu 107 [b, [a], [n]] = [(getM b a n).2.1] := rfl
theorem FNu_108 (b : List Int) (a n : Int) : FNu 108 [b, [a], [n]] = [(getM b a n).2.2] := rfl
theorem FNu_110 (a b : List Int) : FNu 110 [a, b] = [if a = b then 1 else 0] := rfl

def pcSame : Pc := ⟨24, [.sl [.i64], .sl [.i64]], [.bool], 110, [(0, 0, 1099511627776)], []⟩

abbrev cutE : Cuts := [([0, 1, 0, 1, 1], ⟨26, [(0, .rsl (.ro 0 [.i64]) (.lit 0) (.rlen (.rvar 0) 1) 1), (1, .rsl (.ro 1 [.i64]) (.lit 0) (.rlen (.rvar 1) 1) 1), (4, .bool false), (5, .sint .i64 (.var 2))], [], 0, [(nonneg (.var 2), true), (.cmp .eql (.rlen (.rvar 0) 1) (.rlen (.rvar 1) 1), true)]⟩)]

theorem same_entry : entryK Try.prog [] 50 200 24 cutE 2 (argSVs 0 pcSame.aks) 10 [] = some [([(.cmp .eql (.rlen (.rvar 0) 1) (.rlen (.rvar 1) 1), true)], .cut 0 ⟨[(2, .lit 0)], [], [], []⟩), ([(.cmp .eql (.rlen (.rvar 0) 1) (.rlen (.rvar 1) 1), false)], .ret (.bool false) ⟨0, .nil⟩)] := by kernel_rfl

theorem same_rounds : roundsK Try.prog [] 50 200 24 cutE 2 10 cutE = some [[([(.cmp .eql (.sel (.rvar 0) (.var 2) 1 0) (.sel (.rvar 1) (.var 2) 1 0), true), (.cmp .lss (.var 2) (.rlen (.rvar 0) 1), true), (.not (.cmp .lss (.var 2) (.lit 0)), true), (.cmp .eql (.rlen (.rvar 0) 1) (.rlen (.rvar 1) 1), true)], .cut 0 ⟨[(2, .bin .add .i64 (.var 2) (.lit 1))], [], [], []⟩), ([(.cmp .eql (.sel (.rvar 0) (.var 2) 1 0) (.sel (.rvar 1) (.var 2) 1 0), false), (.cmp .lss (.var 2) (.rlen (.rvar 0) 1), true), (.not (.cmp .lss (.var 2) (.lit 0)), true), (.cmp .eql (.rlen (.rvar 0) 1) (.rlen (.rvar 1) 1), true)], .ret (.bool false) ⟨0, .nil⟩), ([(.cmp .lss (.var 2) (.rlen (.rvar 0) 1), false), (.not (.cmp .lss (.var 2) (.lit 0)), true), (.cmp .eql (.rlen (.rvar 0) 1) (.rlen (.rvar 1) 1), true)], .ret (.bool true) ⟨0, .nil⟩)]] := by kernel_rfl

def invE (ls : List (List Int)) (i : Nat) (env : Env) : Prop := i = 0 ∧ ∃ a b, ls = [a, b] ∧ (a.length : Int) ≤ 1099511627776 ∧ env.row 0 = a ∧ env.row 1 = b ∧ a.length = b.length ∧ ∃ n : Nat, vInt (env.val 2) = n ∧ n ≤ a.length ∧ a.take n = b.take n

theorem take_eqs {a b : List Int} {n : Nat} (h : a.take n = b.take n) (ha : n < a.length) (hb : n < b.length) (he : at0 a n = at0 b n) : a.take (n + 1) = b.take (n + 1) := by
  rw [List.take_add_one, List.take_add_one, h]
  simp [at0, ha, hb] at he
  simp [ha, hb, he]

theorem same_ok : PcOk Try.prog FNu pcSame := by
  refine pc_floyd (base := 2) (cs := cutE) mix pcSame (fun _ _ => knOk_nil) (by decide) same_rounds same_entry invE (fun ls _ env => (0, (ls.headD []).length - (vInt (env.val 2)).toNat)) (fun ls i env h => by have := h.1; simp; omega) ?_
  intro ls e0 hf hargs hrng hpre
  simp only [pcSame, ArgsE, ArgE] at hargs
  obtain ⟨a, _, rfl, ⟨ha0, _⟩, b, _, rfl, ⟨hb0, _⟩, rfl⟩ := hargs
  have hla := (hrng.1 (.sl [.i64]) a rfl rfl).2
  simp only [measL, List.length_singleton, Nat.div_one, Nat.zero_add] at hla hb0
  refine ⟨fun env hfn => ⟨⟨?_, trivial⟩, ⟨?_, trivial⟩⟩, ?_⟩
  · rintro ⟨_, a', b', hl, h1, h0, h0', h2, n, h3, h4, h5⟩
    simp only [AsOk_cons, AsOk_nil, nonneg, BE.eval, cmpI, IE.eval, IE.reval, h0, h0', h3, Nat.div_one]
    simp; omega
  · rintro ⟨_, a', b', hl, h1, h0, h0', h2, n, h3, h4, h5⟩
    simp only [List.cons.injEq, and_true] at hl
    obtain ⟨rfl, rfl⟩ := hl
    have e1 : binI .add .i64 (n : Int) 1 = ((n + 1 : Nat) : Int) := by simp only [binI]; rw [wrap_i64 (by omega)]; omega
    simp only [allLeaves, AsOk_cons, AsOk_nil, BE.eval, cmpI, IE.eval, IE.reval, h0, h0', h3, sel_at0, Nat.div_one, and_true, decide_eq_true_eq, decide_eq_false_iff_not]
    refine ⟨fun hA => ?_, fun hA => ?_, fun hA => ?_⟩
    · refine stepG_cut ⟨rfl, a, b, rfl, h1, ?_, ?_, h2, n + 1, ?_, by omega, take_eqs h5 (by omega) (by omega) hA.1⟩ (Prod.lex_def.2 (.inr ⟨rfl, ?_⟩))
      · simp [upd, lk_nil, h0]
      · simp [upd, lk_nil, h0']
      · simp [upd, lk_cons, lk_nil, IE.eval, h3, e1, vInt_int]
      · simp [upd, lk_cons, lk_nil, IE.eval, h3, e1, vInt_int]; omega
    · have hne : ¬ a = b := fun e => hA.1 (by rw [e])
      refine ⟨[_], rfl, ?_, rfl⟩
      simp only [pcSame, FNu_110, if_neg hne, List.headD_cons]; rfl
    · obtain rfl : n = a.length := by omega
      have he : a = b := by
        rw [List.take_length, h2, List.take_length] at h5; exact h5
      refine ⟨[_], rfl, ?_, rfl⟩
      simp only [pcSame, FNu_110, if_pos he, List.headD_cons]; rfl
  · simp only [allLeaves, AsOk_cons, AsOk_nil, BE.eval, cmpI, IE.eval, IE.reval, ha0, hb0, Nat.div_one, and_true, decide_eq_true_eq, decide_eq_false_iff_not]
    refine ⟨fun hA => ?_, fun hA => ?_⟩
    · refine stepG_cut0 ⟨rfl, a, b, rfl, by omega, ?_, ?_, by omega, 0, ?_, by omega, by simp⟩
      · simp [upd, lk_nil, ha0]
      · simp [upd, lk_nil, hb0]
      · simp [upd, lk_cons, lk_nil, IE.eval, vInt_int]
    · have hne : ¬ a = b := fun e => hA (by rw [e])
      refine ⟨[_], rfl, ?_, rfl⟩
      simp only [pcSame, FNu_110, if_neg hne, List.headD_cons]; rfl

end Go.Proofs.Ytkfejcffacbngaa.J

namespace Go.Proofs.Ytkfejcffacbngaa.J

open Go Go.Sym

set_option linter.unusedVariables false

theorem and127_all : ((List.range 256).all fun x => decide (binI .and .u8 (x : Int) 127 = (x : Int) % 128)) = true := by kernel_rfl

theorem and127 {v : Int} (h : 0 ≤ v ∧ v < 256) : binI .and .u8 v 127 = v % 128 := by
  have h := List.all_eq_true.1 and127_all v.toNat (List.mem_range.2 (by omega))
  have h := of_decide_eq_true h
  rwa [show ((v.toNat : Nat) : Int) = v by omega] at h

theorem or_step {p q k : Nat} (hk : k ≤ 9) (hp : p < 2 ^ (7 * k)) (hq : q < 128) (hf : 2 ^ (7 * k) * q + p < 18446744073709551616) : binI .or .u64 (p : Int) (binI .shl .u64 (q : Int) (binI .mul .i64 7 (k : Int))) = ((2 ^ (7 * k) * q + p : Nat) : Int) := by
  have e8 : binI .mul .i64 7 (k : Int) = ((7 * k : Nat) : Int) := by
    have : IntKind.i64.wrap (7 * (k : Int)) = 7 * k := wrap_i64 (by omega)
    simp only [binI, this]; omega
  have hpk : 0 < (2 : Nat) ^ (7 * k) := Nat.pow_pos (by omega)
  have em : min (((7 * k : Nat) : Int)).toNat (IntKind.u64).bits = 7 * k := by simp [IntKind.bits]; omega
  have es : binI .shl .u64 (q : Int) ((7 * k : Nat) : Int) = ((2 ^ (7 * k) * q : Nat) : Int) := by
    simp only [binI, em]
    have : (q : Int) * 2 ^ (7 * k) = ((2 ^ (7 * k) * q : Nat) : Int) := by
      rw [Int.natCast_mul, Int.natCast_pow, Int.mul_comm]; rfl
    rw [this]
    exact wrap_u64 (by omega)
  rw [e8, es]
  simp only [binI]
  have hb : (IntKind.u64).bits = 64 := rfl
  rw [hb]
  have o1 : BitVec.ofInt 64 (p : Int) = BitVec.ofNat 64 p := by simp
  have o2 : BitVec.ofInt 64 ((2 ^ (7 * k) * q : Nat) : Int) = BitVec.ofNat 64 (2 ^ (7 * k) * q) := by rw [BitVec.ofInt_natCast]
  rw [o1, o2, BitVec.toNat_or, BitVec.toNat_ofNat, BitVec.toNat_ofNat, Nat.mod_eq_of_lt (by omega), Nat.mod_eq_of_lt (by omega), Nat.or_comm, ← Nat.two_pow_add_eq_or_of_lt hp q]
  exact wrap_u64 (by omega)

theorem sel_at {b rest : List Int} {p k : Nat} {x : Int} (h : b.drop (p + k) = x :: rest) : selL b ((p : Int) + (k : Int)) 1 0 = x ∧ p + k < b.length := by
  have h1 : ((p : Int) + (k : Int)).toNat = p + k := by omega
  have h2 : p + k < b.length := by
    have := congrArg List.length h
    simp at this; omega
  have h3 := List.getElem?_drop (xs := b) (i := p + k) (j := 0)
  rw [h] at h3
  refine ⟨?_, h2⟩
  simp only [selL, h1, Nat.mul_one, Nat.add_zero]
  simp only [List.getElem?_cons_zero, Nat.add_zero] at h3
  rw [← h3]; rfl

theorem lebC_N {b rest : List Int} {p : Nat} : ∀ (j : Nat), 1 ≤ j → j ≤ 10 → ∀ (v : Nat), v < 2 ^ (7 * j - 6) → (j < 10 → 0 < v) → b.drop (p + (10 - j)) = lebN j (v : Int) ++ rest → (∃ q : Nat, lebU b (p : Int) (10 - j) = q ∧ q < 2 ^ (7 * (10 - j))) →
    lebC b (p : Int) j (10 - j) = (0, (10 - j) + (lebN j (v : Int)).length) ∧ lebU b (p : Int) ((10 - j) + (lebN j (v : Int)).length) = lebU b (p : Int) (10 - j) + ((2 ^ (7 * (10 - j)) * v : Nat) : Int) := by
  intro j
  induction j with
  | zero => omega
  | succ j ih =>
    intro _ hj v hv hv0 hd hq
    obtain ⟨q, hq, hql⟩ := hq
    obtain ⟨k, hk⟩ : ∃ k, 10 - (j + 1) = k := ⟨_, rfl⟩
    rw [hk] at hd hq hql ⊢
    have hjk : 10 - j = k + 1 := by omega
    rw [hjk] at ih
    have hpow : (2 : Nat) ^ (7 * k) * 2 ^ (7 * (j + 1) - 6) = 18446744073709551616 := by
      rw [← Nat.pow_add, show 7 * k + (7 * (j + 1) - 6) = 64 by omega]
    have hpk : 0 < (2 : Nat) ^ (7 * k) := Nat.pow_pos (by omega)
    have hfit : 2 ^ (7 * k) * v + q < 18446744073709551616 := by
      have : 2 ^ (7 * k) * (v + 1) ≤ 2 ^ (7 * k) * 2 ^ (7 * (j + 1) - 6) := Nat.mul_le_mul_left _ (by omega)
      rw [Nat.mul_add] at this
      omega
    by_cases h128 : v < 128
    · rw [lebN_lt (by omega)] at hd ⊢
      obtain ⟨s1, s2⟩ := sel_at (rest := rest) hd
      have hU := or_step (p := q) (q := v) (k := k) (by omega) hql h128 hfit
      refine ⟨?_, ?_⟩
      · rw [lebC, s1, if_neg (by omega), if_neg, if_pos (by omega)]
        · rfl
        · rintro (⟨h1, h2⟩ | ⟨h1, h2⟩)
          · obtain rfl : j = 0 := by omega
            simp at hv; omega
          · have := hv0 (by omega); omega
      · show lebU b (p : Int) (k + 1) = _
        rw [lebU, s1, hq, and127 (by omega), show ((v : Int) % 128) = (v : Int) by omega, show IntKind.u64.wrap (v : Int) = (v : Int) from wrap_u64 (by omega), hU]
        omega
    · rw [lebN_ge (by omega)] at hd ⊢
      have hj1 : 1 ≤ j := by
        by_cases h : j = 0
        · subst h; simp at hv; omega
        · omega
      obtain ⟨s1, s2⟩ := sel_at (rest := lebN j ((v : Int) / 128) ++ rest) (by simpa using hd)
      have hm : (v : Int) % 128 = ((v % 128 : Nat) : Int) := by omega
      have hdv : (v : Int) / 128 = ((v / 128 : Nat) : Int) := by omega
      have hfit2 : 2 ^ (7 * k) * (v % 128) + q < 18446744073709551616 := by
        have : 2 ^ (7 * k) * (v % 128) ≤ 2 ^ (7 * k) * v := Nat.mul_le_mul_left _ (Nat.mod_le _ _)
        omega
      have hU := or_step (p := q) (q := v % 128) (k := k) (by omega) hql (Nat.mod_lt _ (by decide)) hfit2
      have hU1 : lebU b (p : Int) (k + 1) = ((2 ^ (7 * k) * (v % 128) + q : Nat) : Int) := by
        rw [lebU, s1, hq, and127 (by omega), show (((v : Int) % 128 + 128) % 128) = ((v % 128 : Nat) : Int) by omega, show IntKind.u64.wrap ((v % 128 : Nat) : Int) = ((v % 128 : Nat) : Int) from wrap_u64 (by omega), hU]
      have e7 : (2 : Nat) ^ (7 * (k + 1)) = 2 ^ (7 * k) * 128 := by rw [show 7 * (k + 1) = 7 * k + 7 by omega, Nat.pow_add]
      have hlt : 2 ^ (7 * k) * (v % 128) + q < 2 ^ (7 * (k + 1)) := by
        rw [e7]
        have : 2 ^ (7 * k) * (v % 128 + 1) ≤ 2 ^ (7 * k) * 128 := Nat.mul_le_mul_left _ (by omega)
        rw [Nat.mul_add] at this
        omega
      have hvd : v / 128 < 2 ^ (7 * j - 6) := by
        have : (2 : Nat) ^ (7 * (j + 1) - 6) = 128 * 2 ^ (7 * j - 6) := by rw [show 7 * (j + 1) - 6 = 7 + (7 * j - 6) by omega, Nat.pow_add]
        rw [this] at hv
        exact Nat.div_lt_of_lt_mul hv
      have hdd : b.drop (p + (k + 1)) = lebN j ((v / 128 : Nat) : Int) ++ rest := by
        rw [← Nat.add_assoc, ← List.drop_drop, hd, ← hdv]; rfl
      obtain ⟨i1, i2⟩ := ih hj1 (by omega) (v / 128) hvd (fun _ => by omega) hdd ⟨_, hU1, hlt⟩
      rw [hdv]
      have hlen : k + (((v : Int) % 128 + 128) :: lebN j ((v / 128 : Nat) : Int)).length = k + 1 + (lebN j ((v / 128 : Nat) : Int)).length := by simp; omega
      refine ⟨?_, ?_⟩
      · rw [lebC, s1, if_neg (by omega), if_neg (by omega), if_neg (by omega), i1, hlen]
      · rw [hlen, i2, hU1, e7, hq]
        have : 2 ^ (7 * k) * v = 2 ^ (7 * k) * (v % 128) + 2 ^ (7 * k) * 128 * (v / 128) := by
          rw [Nat.mul_assoc, ← Nat.mul_add]
          congr 1; omega
        rw [this]; omega

theorem leb_get {ahead rest : List Int} {u : Nat} (hu : u < 18446744073709551616) : lebR (ahead ++ lebN 10 (u : Int) ++ rest) (ahead.length : Int) = (0, (lebN 10 (u : Int)).length) ∧ lebU (ahead ++ lebN 10 (u : Int) ++ rest) (ahead.length : Int) (lebN 10 (u : Int)).length = u := by
  have hd : (ahead ++ lebN 10 (u : Int) ++ rest).drop (ahead.length + (10 - 10)) = lebN 10 (u : Int) ++ rest := by simp
  obtain ⟨h1, h2⟩ := lebC_N (b := ahead ++ lebN 10 (u : Int) ++ rest) (p := ahead.length) (rest := rest) 10 (by decide) (by decide) u (by simpa using hu) (fun h => absurd h (by omega)) hd ⟨0, by simp [lebU], by decide⟩
  simp only [Nat.sub_self, Nat.zero_add] at h1 h2
  refine ⟨?_, ?_⟩
  · rw [lebR, if_pos ⟨by omega, by simp; omega⟩]
    exact h1
  · rw [h2]; simp [lebU]


theorem leb_at {b rest : List Int} {p u : Nat} (hu : u < 18446744073709551616) (h : b.drop p = lebN 10 (u : Int) ++ rest) : lebR b (p : Int) = (0, (lebN 10 (u : Int)).length) ∧ lebU b (p : Int) (lebN 10 (u : Int)).length = u := by
  have hp : p ≤ b.length := by
    have h1 := (lebN_len' 10 (u : Int)).1
    have := congrArg List.length h
    simp at this; omega
  have hb : b = b.take p ++ lebN 10 (u : Int) ++ rest := by rw [List.append_assoc, ← h, List.take_append_drop]
  have hl : (b.take p).length = p := by simp; omega
  have := leb_get (ahead := b.take p) (rest := rest) hu
  rw [← hb, hl] at this
  exact this

theorem unf_fold {x : Int} (h0 : -9223372036854775808 ≤ x) (h1 : x ≤ 9223372036854775807) : unfM (foldM x) = x := by
  rw [foldM_val h0 h1]
  have hr : ∀ u : Int, 0 ≤ u → binI .rem .u64 u 2 = u % 2 := fun u h => by show u.tmod 2 = u % 2; rw [Int.tmod_eq_emod_of_nonneg h]
  have hq : ∀ u : Int, 0 ≤ u → u < 18446744073709551616 → binI .quo .u64 u 2 = u / 2 := fun u h h' => by
    show IntKind.u64.wrap (u.tdiv 2) = u / 2
    rw [Int.tdiv_eq_ediv_of_nonneg h]; exact wrap_u64 (by omega)
  unfold unfM
  split
  · rw [hr _ (by omega), if_pos (by omega), hq _ (by omega) (by omega), wrap_i64 (by omega)]
    have t1 : binI .sub .i64 0 ((-2 * x - 1) / 2) = 0 - (-2 * x - 1) / 2 := wrap_i64 (by omega)
    have t2 : binI .sub .i64 (0 - (-2 * x - 1) / 2) 1 = 0 - (-2 * x - 1) / 2 - 1 := wrap_i64 (by omega)
    rw [t1, t2]; omega
  · rw [hr _ (by omega), if_neg (by omega), hq _ (by omega) (by omega), wrap_i64 (by omega)]
    omega

theorem fold_ne {x : Int} (h0 : -9223372036854775808 ≤ x) (h1 : x ≤ 9223372036854775807) (h : x ≠ 0) : foldM x ≠ 0 := by
  rw [foldM_val h0 h1]; split <;> omega

theorem repL_rep (n : Nat) : repL (n : Int) [0] = List.replicate n 0 := by
  simp only [repL, Int.toNat_natCast]
  induction n with
  | zero => rfl
  | succ q ih => rw [List.replicate_succ, List.flatten_cons, ih, List.replicate_succ]; rfl

theorem zc_split : ∀ l : List Int, l = List.replicate (zc l) 0 ++ l.drop (zc l) ∧ (l.drop (zc l)).head? ≠ some 0
  | [] => by simp [zc]
  | x :: l => by
    have ih := zc_split l
    rw [zc]
    split
    · rename_i h
      subst h
      refine ⟨?_, by simpa using ih.2⟩
      rw [List.replicate_succ, List.cons_append, List.drop_succ_cons, ← ih.1]
    · rename_i h
      simp [h]

theorem cast_add (a b : Nat) : (a : Int) + (b : Int) = ((a + b : Nat) : Int) := by omega

/-- WHAT IS PUT IS GOT. -/
theorem get_runs {b rest : List Int} {a n : Int} : ∀ (m : Nat) (l : List Int), l.length ≤ m → l.length ≤ 1000000 → (∀ x ∈ l, -9223372036854775808 ≤ x ∧ x ≤ 9223372036854775807) → ∀ (p : Nat) (out : List Int) (z : Bool), Stands b a n (p : Int) out z → n = out.length + l.length → (z = true → l.head? ≠ some 0) → b.drop p = putS (runsL l) ++ rest →
    getM b a n = (out ++ l, ((p + (putS (runsL l)).length : Nat) : Int), 0) := by
  intro m
  induction m with
  | zero =>
    intro l hm _ _ p out z hs hn _ _
    obtain rfl : l = [] := List.eq_nil_of_length_eq_zero (by omega)
    rw [hs.done (by simp at hn; omega)]
    simp [runsL, runsF, putS]
  | succ m ih =>
    intro l hm h6 hr p out z hs hn hz hd
    cases l with
    | nil =>
      rw [hs.done (by simp at hn; omega)]
      simp [runsL, runsF, putS]
    | cons x l =>
      have hx := hr x (List.mem_cons_self ..)
      have hlt : (out.length : Int) < n := by rw [hn]; simp; omega
      have hrl := rl_le (x :: l)
      by_cases h0 : x = 0
      · subst h0
        have hz' : z = false := by cases z with | false => rfl | true => exact absurd rfl (hz rfl)
        subst hz'
        obtain ⟨k, hk⟩ : ∃ k, rl (0 :: l) = k + 1 := ⟨zc l, by rw [rl, if_pos rfl]⟩
        have hkz : zc l = k := by rw [rl, if_pos rfl] at hk; omega
        have hsp := zc_split l
        rw [hkz] at hsp
        rw [hk] at hrl
        rw [runsL_cons, hk, putS_cons, putB_zero, List.drop_succ_cons] at hd ⊢
        have e1 : IntKind.i64.wrap (((k + 1 : Nat) : Int) - 1) = (k : Int) := by rw [wrap_i64 (by simp at h6 hrl ⊢; omega)]; omega
        have e2 : IntKind.u64.wrap (k : Int) = (k : Int) := wrap_u64 (by simp at h6 hrl ⊢; omega)
        rw [e1, e2] at hd ⊢
        have hd1 : b.drop p = lebN 10 ((0 : Nat) : Int) ++ (lebN 10 (k : Int) ++ (putS (runsL (l.drop k)) ++ rest)) := by
          rw [hd, show lebN 10 ((0 : Nat) : Int) = [0] by decide]; simp
        obtain ⟨g1, g2⟩ := leb_at (p := p) (u := 0) (by omega) hd1
        have g0 : (lebN 10 ((0 : Nat) : Int)).length = 1 := by decide
        rw [g0] at g1 g2
        have hd2 : b.drop (p + 1) = lebN 10 (k : Int) ++ (putS (runsL (l.drop k)) ++ rest) := by
          rw [← List.drop_drop, hd]; simp
        obtain ⟨g3, g4⟩ := leb_at (p := p + 1) (u := k) (by simp at h6 hrl; omega) hd2
        have ep : (p : Int) + ((1 : Nat) : Int) = ((p + 1 : Nat) : Int) := by omega
        have hst := hs.zeros hlt (by rw [g1]) (by rw [g1]; exact g2) (by rw [g1]; simp only [ep]; rw [g3]) (by rw [g1]; simp only [ep]; rw [g3, g4, hn]; simp at hrl ⊢; omega)
        rw [g1] at hst
        simp only [ep] at hst
        rw [g3] at hst
        dsimp only at hst
        rw [g4, show ((k : Int) + 1) = ((k + 1 : Nat) : Int) by omega, repL_rep, cast_add (p + 1) (lebN 10 (k : Int)).length] at hst
        have hfin := ih (l.drop k) (by simp at hm ⊢; omega) (by simp at h6 ⊢; omega) (fun y hy => hr y (List.mem_cons_of_mem _ (List.mem_of_mem_drop hy))) _ _ _ hst (by rw [hn]; simp at hrl ⊢; omega) (fun _ => hsp.2) (by rw [← List.drop_drop, hd2, List.drop_left' rfl])
        rw [hfin]
        have hl : out ++ List.replicate (k + 1) 0 ++ l.drop k = out ++ 0 :: l := by
          rw [List.append_assoc, List.replicate_succ, List.cons_append, ← hsp.1]
        rw [hl]
        simp; omega
      · rw [runsL_cons, rl_one h0, putS_cons, putB_num h0, List.drop_succ_cons, List.drop_zero] at hd ⊢
        obtain ⟨u, hu⟩ : ∃ u : Nat, foldM x = u := ⟨(foldM x).toNat, by have := (foldM_rng x).1; omega⟩
        have hur := foldM_rng x
        have hne := fold_ne hx.1 hx.2 h0
        have huf := unf_fold hx.1 hx.2
        rw [hu] at hur hne huf hd ⊢
        obtain ⟨g1, g2⟩ := leb_at (p := p) (u := u) (rest := putS (runsL l) ++ rest) (by omega) (by rw [hd]; simp)
        have hst := hs.num hlt (by rw [g1]) (by rw [g1, g2]; exact hne)
        rw [g1] at hst
        dsimp only at hst
        rw [g2, huf, cast_add p (lebN 10 (u : Int)).length] at hst
        have hfin := ih l (by simp at hm; omega) (by simp at h6; omega) (fun y hy => hr y (List.mem_cons_of_mem _ hy)) _ _ _ hst (by rw [hn]; simp; omega) (fun h => by cases h) (by rw [← List.drop_drop, hd]; simp)
        rw [hfin]
        simp; omega

theorem get_put {ahead zs behind : List Int} (h6 : zs.length ≤ 1000000) (hr : ∀ x ∈ zs, -9223372036854775808 ≤ x ∧ x ≤ 9223372036854775807) :
    getM (ahead ++ putS (runsL zs) ++ behind) (ahead.length : Int) (zs.length : Int) = (zs, ((ahead ++ putS (runsL zs)).length : Int), 0) := by
  have hst : Stands (ahead ++ putS (runsL zs) ++ behind) (ahead.length : Int) (zs.length : Int) ((ahead.length : Nat) : Int) [] false := Stands.start (by omega) (by simp; omega) (by omega) (by omega)
  have := get_runs (rest := behind) zs.length zs (Nat.le_refl _) h6 hr ahead.length [] false hst (by simp) (fun h => by cases h) (by simp)
  rw [this]
  simp

end Go.Proofs.Ytkfejcffacbngaa.J
