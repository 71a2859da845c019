import Derived.Test.YtkfejcffacbngaaRW

namespace Go.Proofs.Ytkfejcffacbngaa.J

open Go Go.Sym

set_option linter.unusedVariables false

def bytes8 (b : List Int) : Prop := ∀ x ∈ b, 0 ≤ x ∧ x ≤ 255

open Classical in
noncomputable def g111 : List (List Int) → List Int
  | [b, _] => [if bytes8 b then 1 else 0]
  | [b, _, _] => [if bytes8 b then 1 else 0]
  | _ => []

noncomputable def FNv : Nat → List (List Int) → List Int
  | 111, l => g111 l
  | i, l => FNu i l

theorem FNv_83 (b : List Int) (a : Int) : FNv 83 [b, [a]] = [if (lebR b a).1 = 0 then lebU b a (lebR b a).2 else 0] := rfl
theorem FNv_84 (b : List Int) (a : Int) : FNv 84 [b, [a]] = [if (lebR b a).1 = 0 then a + (lebR b a).2 else 0] := rfl
theorem FNv_85 (b : List Int) (a : Int) : FNv 85 [b, [a]] = [(lebR b a).1] := rfl
theorem FNv_102 (b zs : List Int) : FNv 102 [b, zs] = b ++ putS (runsL zs) := rfl
theorem FNv_104 : FNv 104 [] = [1] := rfl
theorem FNv_106 (b : List Int) (a n : Int) : FNv 106 [b, [a], [n]] = (getM b a n).1 := rfl
theorem FNv_107 (b : List Int) (a n : Int) : FNv 107 [b, [a], [n]] = [(getM b a n).2.1] := rfl
theorem FNv_108 (b : List Int) (a n : Int) : FNv 108 [b, [a], [n]] = [(getM b a n).2.2] := rfl
theorem FNv_109 (u : Int) : FNv 109 [[u]] = [unfM u] := rfl
theorem FNv_110 (a b : List Int) : FNv 110 [a, b] = [if a = b then 1 else 0] := rfl
theorem FNv_111 {b l : List Int} (h : bytes8 b) : FNv 111 [b, l] = [1] := by show [_] = _; rw [if_pos h]
theorem FNv_111' {b l m : List Int} (h : bytes8 b) : FNv 111 [b, l, m] = [1] := by show [_] = _; rw [if_pos h]
theorem bytes8_of {b l : List Int} (h : (FNv 111 [b, l]).headD 0 = 1) : bytes8 b := by
  by_cases hb : bytes8 b
  · exact hb
  · exfalso
    have : FNv 111 [b, l] = [0] := by show [_] = _; rw [if_neg hb]
    rw [this] at h; simp at h
theorem bytes8_of' {b l m : List Int} (h : (FNv 111 [b, l, m]).headD 0 = 1) : bytes8 b := by
  by_cases hb : bytes8 b
  · exact hb
  · exfalso
    have : FNv 111 [b, l, m] = [0] := by show [_] = _; rw [if_neg hb]
    rw [this] at h; simp at h

def pcLebGR : Pc := ⟨83, [.sl [.u8], .int .i64], [.int .u64, .int .i64, .int .i64], 83, [(0, 0, 4294967296)], [111]⟩

abbrev apk : IE := .bin .add .i64 (.var 1) (.var 4)
abbrev cutD : Cuts := [([0, 1, 0, 1, 1, 1, 1], ⟨65, [(0, .rsl (.ro 0 [.u8]) (.lit 0) lB 1), (1, .sint .i64 (.var 1)), (4, .int .u64 0), (5, .int .i64 0), (6, .int .i64 0), (7, .sint .u64 (.var 2)), (8, .sint .u64 (.var 3)), (9, .sint .i64 (.var 4))], [], 0, [(atmB lB (.lit 4294967296), true), ltR (.var 1) (.lit 0) false, ltR lB (.var 1) false, (nonneg (.var 4), true), (atmB (.var 4) (.lit 9), true), ltR apk (.lit 0) false]⟩)]

theorem lebGR_entry : entryK Try.prog [] 50 200 83 cutD 2 (argSVs 0 pcLebGR.aks) 20 [(atmB lB (.lit 4294967296), true)] = some [([(.cmp .lss (.var 1) (.lit 0), true), (.not (.cmp .lss (.lit 4294967296) (.rlen (.rvar 0) 1)), true)], .ret (.tuple [.int .u64 0, .int .i64 0, .int .i64 11]) ⟨0, .nil⟩), ([(.cmp .lss (.rlen (.rvar 0) 1) (.var 1), true), (.cmp .lss (.var 1) (.lit 0), false), (.not (.cmp .lss (.lit 4294967296) (.rlen (.rvar 0) 1)), true)], .ret (.tuple [.int .u64 0, .int .i64 0, .int .i64 11]) ⟨0, .nil⟩), ([(.cmp .lss (.rlen (.rvar 0) 1) (.var 1), false), (.cmp .lss (.var 1) (.lit 0), false), (.not (.cmp .lss (.lit 4294967296) (.rlen (.rvar 0) 1)), true)], .cut 0 ⟨[(4, .lit 0), (3, .lit 1), (2, .lit 0)], [], [], []⟩)] := by kernel_rfl

theorem lebGR_rounds : roundsK Try.prog [] 50 200 83 cutD 2 20 cutD = some [[([(.cmp .lss (.lit 1) (.sel (.rvar 0) (.bin .add .i64 (.var 1) (.var 4)) 1 0), true), (.cmp .eql (.var 4) (.lit 9), true), (.cmp .lss (.bin .add .i64 (.var 1) (.var 4)) (.rlen (.rvar 0) 1), true), (.cmp .lss (.var 4) (.bin .sub .i64 (.rlen (.rvar 0) 1) (.var 1)), true), (.not (.cmp .lss (.lit 4294967296) (.rlen (.rvar 0) 1)), true), (.cmp .lss (.var 1) (.lit 0), false), (.cmp .lss (.rlen (.rvar 0) 1) (.var 1), false), (.not (.cmp .lss (.var 4) (.lit 0)), true), (.not (.cmp .lss (.lit 9) (.var 4)), true), (.cmp .lss (.bin .add .i64 (.var 1) (.var 4)) (.lit 0), false)], .ret (.tuple [.int .u64 0, .int .i64 0, .int .i64 13]) ⟨0, .nil⟩), ([(.cmp .eql (.sel (.rvar 0) (.bin .add .i64 (.var 1) (.var 4)) 1 0) (.lit 0), true), (.cmp .lss (.lit 1) (.sel (.rvar 0) (.bin .add .i64 (.var 1) (.var 4)) 1 0), false), (.cmp .eql (.var 4) (.lit 9), true), (.cmp .lss (.bin .add .i64 (.var 1) (.var 4)) (.rlen (.rvar 0) 1), true), (.cmp .lss (.var 4) (.bin .sub .i64 (.rlen (.rvar 0) 1) (.var 1)), true), (.not (.cmp .lss (.lit 4294967296) (.rlen (.rvar 0) 1)), true), (.cmp .lss (.var 1) (.lit 0), false), (.cmp .lss (.rlen (.rvar 0) 1) (.var 1), false), (.not (.cmp .lss (.var 4) (.lit 0)), true), (.not (.cmp .lss (.lit 9) (.var 4)), true), (.cmp .lss (.bin .add .i64 (.var 1) (.var 4)) (.lit 0), false)], .ret (.tuple [.int .u64 0, .int .i64 0, .int .i64 13]) ⟨0, .nil⟩), ([(.cmp .eql (.sel (.rvar 0) (.bin .add .i64 (.var 1) (.var 4)) 1 0) (.lit 0), false), (.cmp .lss (.lit 1) (.sel (.rvar 0) (.bin .add .i64 (.var 1) (.var 4)) 1 0), false), (.cmp .eql (.var 4) (.lit 9), true), (.cmp .lss (.bin .add .i64 (.var 1) (.var 4)) (.rlen (.rvar 0) 1), true), (.cmp .lss (.var 4) (.bin .sub .i64 (.rlen (.rvar 0) 1) (.var 1)), true), (.not (.cmp .lss (.lit 4294967296) (.rlen (.rvar 0) 1)), true), (.cmp .lss (.var 1) (.lit 0), false), (.cmp .lss (.rlen (.rvar 0) 1) (.var 1), false), (.not (.cmp .lss (.var 4) (.lit 0)), true), (.not (.cmp .lss (.lit 9) (.var 4)), true), (.cmp .lss (.bin .add .i64 (.var 1) (.var 4)) (.lit 0), false)], .ret (.tuple [.sint .u64 (.bin .add .u64 (.var 2) (.bin .mul .u64 (.wrap .u64 (.bin .rem .u8 (.sel (.rvar 0) (.bin .add .i64 (.var 1) (.var 4)) 1 0) (.lit 128))) (.var 3))), .sint .i64 (.bin .add .i64 (.bin .add .i64 (.var 1) (.var 4)) (.lit 1)), .int .i64 0]) ⟨0, .nil⟩), ([(.cmp .eql (.sel (.rvar 0) (.bin .add .i64 (.var 1) (.var 4)) 1 0) (.lit 0), true), (.cmp .lss (.lit 0) (.var 4), true), (.cmp .eql (.var 4) (.lit 9), false), (.cmp .lss (.bin .add .i64 (.var 1) (.var 4)) (.rlen (.rvar 0) 1), true), (.cmp .lss (.var 4) (.bin .sub .i64 (.rlen (.rvar 0) 1) (.var 1)), true), (.not (.cmp .lss (.lit 4294967296) (.rlen (.rvar 0) 1)), true), (.cmp .lss (.var 1) (.lit 0), false), (.cmp .lss (.rlen (.rvar 0) 1) (.var 1), false), (.not (.cmp .lss (.var 4) (.lit 0)), true), (.not (.cmp .lss (.lit 9) (.var 4)), true), (.cmp .lss (.bin .add .i64 (.var 1) (.var 4)) (.lit 0), false)], .ret (.tuple [.int .u64 0, .int .i64 0, .int .i64 13]) ⟨0, .nil⟩), ([(.cmp .lss (.sel (.rvar 0) (.bin .add .i64 (.var 1) (.var 4)) 1 0) (.lit 128), true), (.cmp .eql (.sel (.rvar 0) (.bin .add .i64 (.var 1) (.var 4)) 1 0) (.lit 0), false), (.cmp .lss (.lit 0) (.var 4), true), (.cmp .eql (.var 4) (.lit 9), false), (.cmp .lss (.bin .add .i64 (.var 1) (.var 4)) (.rlen (.rvar 0) 1), true), (.cmp .lss (.var 4) (.bin .sub .i64 (.rlen (.rvar 0) 1) (.var 1)), true), (.not (.cmp .lss (.lit 4294967296) (.rlen (.rvar 0) 1)), true), (.cmp .lss (.var 1) (.lit 0), false), (.cmp .lss (.rlen (.rvar 0) 1) (.var 1), false), (.not (.cmp .lss (.var 4) (.lit 0)), true), (.not (.cmp .lss (.lit 9) (.var 4)), true), (.cmp .lss (.bin .add .i64 (.var 1) (.var 4)) (.lit 0), false)], .ret (.tuple [.sint .u64 (.bin .add .u64 (.var 2) (.bin .mul .u64 (.wrap .u64 (.bin .rem .u8 (.sel (.rvar 0) (.bin .add .i64 (.var 1) (.var 4)) 1 0) (.lit 128))) (.var 3))), .sint .i64 (.bin .add .i64 (.bin .add .i64 (.var 1) (.var 4)) (.lit 1)), .int .i64 0]) ⟨0, .nil⟩), ([(.cmp .lss (.sel (.rvar 0) (.bin .add .i64 (.var 1) (.var 4)) 1 0) (.lit 128), false), (.cmp .eql (.sel (.rvar 0) (.bin .add .i64 (.var 1) (.var 4)) 1 0) (.lit 0), false), (.cmp .lss (.lit 0) (.var 4), true), (.cmp .eql (.var 4) (.lit 9), false), (.cmp .lss (.bin .add .i64 (.var 1) (.var 4)) (.rlen (.rvar 0) 1), true), (.cmp .lss (.var 4) (.bin .sub .i64 (.rlen (.rvar 0) 1) (.var 1)), true), (.not (.cmp .lss (.lit 4294967296) (.rlen (.rvar 0) 1)), true), (.cmp .lss (.var 1) (.lit 0), false), (.cmp .lss (.rlen (.rvar 0) 1) (.var 1), false), (.not (.cmp .lss (.var 4) (.lit 0)), true), (.not (.cmp .lss (.lit 9) (.var 4)), true), (.cmp .lss (.bin .add .i64 (.var 1) (.var 4)) (.lit 0), false)], .cut 0 ⟨[(4, .bin .add .i64 (.var 4) (.lit 1)), (3, .bin .mul .u64 (.var 3) (.lit 128)), (2, .bin .add .u64 (.var 2) (.bin .mul .u64 (.wrap .u64 (.bin .rem .u8 (.sel (.rvar 0) (.bin .add .i64 (.var 1) (.var 4)) 1 0) (.lit 128))) (.var 3)))], [], [], []⟩), ([(.cmp .lss (.sel (.rvar 0) (.bin .add .i64 (.var 1) (.var 4)) 1 0) (.lit 128), true), (.cmp .lss (.lit 0) (.var 4), false), (.cmp .eql (.var 4) (.lit 9), false), (.cmp .lss (.bin .add .i64 (.var 1) (.var 4)) (.rlen (.rvar 0) 1), true), (.cmp .lss (.var 4) (.bin .sub .i64 (.rlen (.rvar 0) 1) (.var 1)), true), (.not (.cmp .lss (.lit 4294967296) (.rlen (.rvar 0) 1)), true), (.cmp .lss (.var 1) (.lit 0), false), (.cmp .lss (.rlen (.rvar 0) 1) (.var 1), false), (.not (.cmp .lss (.var 4) (.lit 0)), true), (.not (.cmp .lss (.lit 9) (.var 4)), true), (.cmp .lss (.bin .add .i64 (.var 1) (.var 4)) (.lit 0), false)], .ret (.tuple [.sint .u64 (.bin .add .u64 (.var 2) (.bin .mul .u64 (.wrap .u64 (.bin .rem .u8 (.sel (.rvar 0) (.bin .add .i64 (.var 1) (.var 4)) 1 0) (.lit 128))) (.var 3))), .sint .i64 (.bin .add .i64 (.bin .add .i64 (.var 1) (.var 4)) (.lit 1)), .int .i64 0]) ⟨0, .nil⟩), ([(.cmp .lss (.sel (.rvar 0) (.bin .add .i64 (.var 1) (.var 4)) 1 0) (.lit 128), false), (.cmp .lss (.lit 0) (.var 4), false), (.cmp .eql (.var 4) (.lit 9), false), (.cmp .lss (.bin .add .i64 (.var 1) (.var 4)) (.rlen (.rvar 0) 1), true), (.cmp .lss (.var 4) (.bin .sub .i64 (.rlen (.rvar 0) 1) (.var 1)), true), (.not (.cmp .lss (.lit 4294967296) (.rlen (.rvar 0) 1)), true), (.cmp .lss (.var 1) (.lit 0), false), (.cmp .lss (.rlen (.rvar 0) 1) (.var 1), false), (.not (.cmp .lss (.var 4) (.lit 0)), true), (.not (.cmp .lss (.lit 9) (.var 4)), true), (.cmp .lss (.bin .add .i64 (.var 1) (.var 4)) (.lit 0), false)], .cut 0 ⟨[(4, .bin .add .i64 (.var 4) (.lit 1)), (3, .bin .mul .u64 (.var 3) (.lit 128)), (2, .bin .add .u64 (.var 2) (.bin .mul .u64 (.wrap .u64 (.bin .rem .u8 (.sel (.rvar 0) (.bin .add .i64 (.var 1) (.var 4)) 1 0) (.lit 128))) (.var 3)))], [], [], []⟩), ([(.cmp .lss (.bin .add .i64 (.var 1) (.var 4)) (.rlen (.rvar 0) 1), false), (.cmp .lss (.var 4) (.bin .sub .i64 (.rlen (.rvar 0) 1) (.var 1)), true), (.not (.cmp .lss (.lit 4294967296) (.rlen (.rvar 0) 1)), true), (.cmp .lss (.var 1) (.lit 0), false), (.cmp .lss (.rlen (.rvar 0) 1) (.var 1), false), (.not (.cmp .lss (.var 4) (.lit 0)), true), (.not (.cmp .lss (.lit 9) (.var 4)), true), (.cmp .lss (.bin .add .i64 (.var 1) (.var 4)) (.lit 0), false)], .bad), ([(.cmp .lss (.var 4) (.bin .sub .i64 (.rlen (.rvar 0) 1) (.var 1)), false), (.not (.cmp .lss (.lit 4294967296) (.rlen (.rvar 0) 1)), true), (.cmp .lss (.var 1) (.lit 0), false), (.cmp .lss (.rlen (.rvar 0) 1) (.var 1), false), (.not (.cmp .lss (.var 4) (.lit 0)), true), (.not (.cmp .lss (.lit 9) (.var 4)), true), (.cmp .lss (.bin .add .i64 (.var 1) (.var 4)) (.lit 0), false)], .ret (.tuple [.int .u64 0, .int .i64 0, .int .i64 14]) ⟨0, .nil⟩)]] := by kernel_rfl

end Go.Proofs.Ytkfejcffacbngaa.J


namespace Go.Proofs.Ytkfejcffacbngaa.J

open Go Go.Sym

set_option linter.unusedVariables false

def invD (ls : List (List Int)) (c : Nat) (env : Env) : Prop := c = 0 ∧ ∃ b a, ls = [b, [a]] ∧ 0 ≤ a ∧ a ≤ (b.length : Int) ∧ (b.length : Int) ≤ 4294967296 ∧ env.row 0 = b ∧ vInt (env.val 1) = a ∧ ∃ k q : Nat, vInt (env.val 4) = k ∧ k ≤ 9 ∧ vInt (env.val 2) = q ∧ lebU b a k = q ∧ q < 2 ^ (7 * k) ∧ vInt (env.val 3) = ((2 ^ (7 * k) : Nat) : Int) ∧ lebC b a 10 0 = lebC b a (10 - k) k

theorem sel_byte {b : List Int} (hB : bytes8 b) {a : Int} {k : Nat} (h0 : 0 ≤ a) (h1 : a + k < b.length) : ∃ c : Nat, selL b (a + k) 1 0 = c ∧ c ≤ 255 := by
  have hlt : (a + k).toNat < b.length := by omega
  have e : selL b (a + k) 1 0 = b[(a + k).toNat] := by simp [selL, hlt]
  have := hB _ (List.getElem_mem hlt)
  exact ⟨(b[(a + k).toNat]).toNat, by rw [e]; omega, by omega⟩

/-- a byte more, by shifts and by sums -/
theorem more_bits {b : List Int} {a : Int} {k q c : Nat} (hk : k ≤ 9) (hq : lebU b a k = q) (hl : q < 2 ^ (7 * k)) (hc : selL b (a + k) 1 0 = c) (hc2 : c ≤ 255) (h9 : k = 9 → c ≤ 1) :
    lebU b a (k + 1) = ((2 ^ (7 * k) * (c % 128) + q : Nat) : Int) ∧ binI .add .u64 (q : Int) (binI .mul .u64 (IntKind.u64.wrap (binI .rem .u8 (c : Int) 128)) ((2 ^ (7 * k) : Nat) : Int)) = ((2 ^ (7 * k) * (c % 128) + q : Nat) : Int) ∧ 2 ^ (7 * k) * (c % 128) + q < 2 ^ (7 * (k + 1)) := by
  have hpk : 0 < (2 : Nat) ^ (7 * k) := Nat.pow_pos (by omega)
  have e7 : (2 : Nat) ^ (7 * (k + 1)) = 2 ^ (7 * k) * 128 := by rw [show 7 * (k + 1) = 7 * k + 7 by omega, Nat.pow_add]
  have hlt : 2 ^ (7 * k) * (c % 128) + q < 2 ^ (7 * (k + 1)) := by
    rw [e7]
    have : 2 ^ (7 * k) * (c % 128 + 1) ≤ 2 ^ (7 * k) * 128 := Nat.mul_le_mul_left _ (by omega)
    rw [Nat.mul_add] at this
    omega
  have hfit : 2 ^ (7 * k) * (c % 128) + q < 18446744073709551616 := by
    by_cases hk9 : k = 9
    · have := h9 hk9
      subst hk9
      have h63 : (2 : Nat) ^ (7 * 9) = 9223372036854775808 := by decide
      rw [h63] at hl ⊢
      have : c % 128 ≤ 1 := by omega
      omega
    · have : (2 : Nat) ^ (7 * (k + 1)) ≤ 2 ^ 63 := Nat.pow_le_pow_right (by omega) (by omega)
      omega
  have hU := or_step (p := q) (q := c % 128) (k := k) hk hl (Nat.mod_lt _ (by decide)) hfit
  refine ⟨?_, ?_, hlt⟩
  · rw [lebU, hq, hc, and127 (by omega), show ((c : Int) % 128) = ((c % 128 : Nat) : Int) by omega, show IntKind.u64.wrap ((c % 128 : Nat) : Int) = ((c % 128 : Nat) : Int) from wrap_u64 (by omega), hU]
  · have hrem : binI .rem .u8 (c : Int) 128 = ((c % 128 : Nat) : Int) := by
      show (c : Int).tmod 128 = _
      rw [Int.tmod_eq_emod_of_nonneg (by omega)]; omega
    have hmul : binI .mul .u64 ((c % 128 : Nat) : Int) ((2 ^ (7 * k) : Nat) : Int) = ((2 ^ (7 * k) * (c % 128) : Nat) : Int) := by
      show IntKind.u64.wrap (((c % 128 : Nat) : Int) * ((2 ^ (7 * k) : Nat) : Int)) = _
      rw [← Int.natCast_mul, Nat.mul_comm]
      exact wrap_u64 (by omega)
    rw [hrem, show IntKind.u64.wrap ((c % 128 : Nat) : Int) = ((c % 128 : Nat) : Int) from wrap_u64 (by omega), hmul]
    show IntKind.u64.wrap ((q : Int) + ((2 ^ (7 * k) * (c % 128) : Nat) : Int)) = _
    rw [wrap_u64 (by omega)]; omega

set_option maxHeartbeats 1000000 in
theorem lebGR_ok : PcOk Try.prog FNv pcLebGR := by
  refine pc_floyd_as (cs := cutD) (base := 2) mix pcLebGR (fun _ _ => knOk_nil) (Nat.le_refl 2) lebGR_rounds lebGR_entry invD (fun ls _ env => (0, (50 - vInt (env.val 4)).toNat)) (fun ls i env h => by have := h.1; simp; omega) ?_
  intro ls e0 hf hargs hrng hpre
  simp only [pcLebGR, ArgsE, ArgE] at hargs
  obtain ⟨b, _, rfl, ⟨hb, _⟩, a', _, rfl, ha, rfl⟩ := hargs
  have hlen := (hrng.1 (.sl [.u8]) b rfl rfl).2
  simp only [measL, List.length_singleton, Nat.div_one] at hlen
  have hB : bytes8 b := bytes8_of hpre.1
  obtain ⟨a, hav⟩ : ∃ z, vInt (e0.val 1) = z := ⟨_, rfl⟩
  simp only [Nat.zero_add, hav] at ha
  subst ha
  have ret : ∀ (env : Env) (code : Int) (o : Option (Nat × Nat)) (M : Mem), (lebR b a).1 = code → code ≠ 0 → StepG FNv [b, [a]] pcLebGR.id pcLebGR.rks (invD [b, [a]]) (fun _ env => (0, (50 - vInt (env.val 4)).toNat)) o env (.ret (.tuple [.int .u64 0, .int .i64 0, .int .i64 code]) M) := by
    intro env code o M h1 h2
    refine ⟨[_, _, _], rfl, ⟨_, rfl, ?_⟩, ⟨_, rfl, ?_⟩, ⟨_, rfl, ?_⟩, rfl⟩
    · simp only [IE.eval, pcLebGR, FNv_83, h1, if_neg h2, List.headD_cons]
    · simp only [IE.eval, pcLebGR, Nat.reduceAdd, FNv_84, h1, if_neg h2, List.headD_cons]
    · simp only [IE.eval, pcLebGR, Nat.reduceAdd, FNv_85, h1, List.headD_cons]
  refine ⟨?_, fun env hfn => ⟨⟨?_, trivial⟩, ⟨?_, trivial⟩⟩, ?_⟩
  · simp only [lB, atmB, AsOk_cons, AsOk_nil, BE.eval, cmpI, IE.eval, IE.reval, hb, Nat.div_one]
    simp; omega
  · rintro ⟨_, b', a', hl, h1, h2, h3, q0, q1, k, q, q4, h4, _⟩
    have e7 : binI .add .i64 a' (k : Int) = a' + k := wrap_i64 (by omega)
    simp only [lB, apk, ltR, nonneg, atmB, AsOk_cons, AsOk_nil, BE.eval, cmpI, IE.eval, IE.reval, q0, q1, q4, e7, Nat.div_one]
    simp; omega
  · rintro ⟨_, b', a', hl, h1, h2, h3, q0, q1, k, q, q4, h4, q2, hq, hql, q3, h6⟩
    simp only [List.cons.injEq, and_true] at hl
    obtain ⟨rfl, rfl⟩ := hl
    have hR : lebR b a = lebC b a (10 - k) k := by rw [lebR, if_pos ⟨h1, h2⟩, h6]
    have hat := lebC_at (b := b) (a := a) h4
    have ea : binI .add .i64 a (k : Int) = a + k := wrap_i64 (by omega)
    have es : binI .sub .i64 (b.length : Int) a = b.length - a := wrap_i64 (by omega)
    have e1 : binI .add .i64 (k : Int) 1 = ((k + 1 : Nat) : Int) := by simp only [binI]; rw [wrap_i64 (by omega)]; omega
    have e2 : binI .add .i64 (a + (k : Int)) 1 = a + ((k + 1 : Nat) : Int) := by simp only [binI]; rw [wrap_i64 (by omega)]; omega
    have e3 : binI .mul .u64 ((2 ^ (7 * k) : Nat) : Int) 128 = ((2 ^ (7 * (k + 1)) : Nat) : Int) ∨ k = 9 := by
      by_cases hk : k = 9
      · exact .inr hk
      · left
        have e7 : (2 : Nat) ^ (7 * (k + 1)) = 2 ^ (7 * k) * 128 := by rw [show 7 * (k + 1) = 7 * k + 7 by omega, Nat.pow_add]
        have h63 : (2 : Nat) ^ (7 * (k + 1)) ≤ 2 ^ 63 := Nat.pow_le_pow_right (by omega) (by omega)
        show IntKind.u64.wrap (((2 ^ (7 * k) : Nat) : Int) * 128) = _
        rw [e7] at h63 ⊢
        rw [show ((2 ^ (7 * k) : Nat) : Int) * 128 = ((2 ^ (7 * k) * 128 : Nat) : Int) by omega]
        exact wrap_u64 (by omega)
    by_cases hin : a + k < b.length
    · obtain ⟨c, hc, hc2⟩ := sel_byte hB h1 hin
      rw [hc] at hat
      have hmb := more_bits h4 hq hql hc hc2
      have good : ∀ (o : Option (Nat × Nat)) (M : Mem), (k = 9 → c ≤ 1) → lebC b a (10 - k) k = (0, k + 1) → StepG FNv [b, [a]] pcLebGR.id pcLebGR.rks (invD [b, [a]]) (fun _ env => (0, (50 - vInt (env.val 4)).toNat)) o env (.ret (.tuple [.sint .u64 (.bin .add .u64 (.var 2) (.bin .mul .u64 (.wrap .u64 (.bin .rem .u8 (.sel (.rvar 0) (.bin .add .i64 (.var 1) (.var 4)) 1 0) (.lit 128))) (.var 3))), .sint .i64 (.bin .add .i64 (.bin .add .i64 (.var 1) (.var 4)) (.lit 1)), .int .i64 0]) M) := by
        intro o M h9 h
        obtain ⟨m1, m2, m3⟩ := hmb h9
        rw [h] at hR
        refine ⟨[_, _, _], rfl, ⟨_, rfl, ?_⟩, ⟨_, rfl, ?_⟩, ⟨_, rfl, ?_⟩, rfl⟩
        · simp only [IE.eval, IE.reval, pcLebGR, FNv_83, hR, if_true, List.headD_cons, q0, q1, q2, q3, q4, ea, hc, m1, m2]
        · simp only [IE.eval, pcLebGR, Nat.reduceAdd, FNv_84, hR, if_true, List.headD_cons, q1, q4, ea, e2]
        · simp only [IE.eval, pcLebGR, Nat.reduceAdd, FNv_85, hR, List.headD_cons]
      have next : ∀ (m : Nat × Nat), m = (0, (50 - (k : Int)).toNat) → k ≠ 9 → lebC b a (10 - k) k = lebC b a (10 - (k + 1)) (k + 1) → StepG FNv [b, [a]] pcLebGR.id pcLebGR.rks (invD [b, [a]]) (fun _ env => (0, (50 - vInt (env.val 4)).toNat)) (some m) env (.cut 0 ⟨[(4, .bin .add .i64 (.var 4) (.lit 1)), (3, .bin .mul .u64 (.var 3) (.lit 128)), (2, .bin .add .u64 (.var 2) (.bin .mul .u64 (.wrap .u64 (.bin .rem .u8 (.sel (.rvar 0) (.bin .add .i64 (.var 1) (.var 4)) 1 0) (.lit 128))) (.var 3)))], [], [], []⟩) := by
        rintro m rfl h9 h
        obtain ⟨m1, m2, m3⟩ := hmb (fun h => absurd h h9)
        have e3 := e3.resolve_right h9
        refine stepG_cut ⟨rfl, b, a, rfl, h1, h2, h3, ?_, ?_, k + 1, 2 ^ (7 * k) * (c % 128) + q, ?_, by omega, ?_, m1, m3, ?_, by rw [h6, h]⟩ (Prod.lex_def.2 (.inr ⟨rfl, ?_⟩))
        · simp [upd, lk_nil, q0]
        · simp [upd, lk_cons, lk_nil, q1]
        · simp [upd, lk_cons, lk_nil, IE.eval, q4, e1, vInt_int]
        · simp only [upd, lk_cons, lk_nil, Nat.reduceEqDiff, if_false, if_true, IE.eval, IE.reval, q0, q1, q2, q3, q4, ea, hc, m2, vInt_int]
        · simp only [upd, lk_cons, lk_nil, Nat.reduceEqDiff, if_false, if_true, IE.eval, q3, e3, vInt_int]
        · simp only [upd, lk_cons, lk_nil, Nat.reduceEqDiff, if_false, if_true, IE.eval, q4, e1, vInt_int]
          omega
      rw [if_neg (by omega)] at hat
      simp only [allLeaves, AsOk_cons, AsOk_nil, BE.eval, cmpI, IE.eval, IE.reval, q0, q1, q4, ea, es, hc, Nat.div_one, and_true, decide_eq_true_eq, decide_eq_false_iff_not]
      refine ⟨fun hA => ?_, fun hA => ?_, fun hA => ?_, fun hA => ?_, fun hA => ?_, fun hA => ?_, fun hA => ?_, fun hA => ?_, fun hA => ?_, fun hA => ?_⟩
      · exact ret env 13 _ _ (by rw [hR, hat, if_pos (.inl (by omega))]) (by decide)
      · exact ret env 13 _ _ (by rw [hR, hat, if_pos (.inr (by omega))]) (by decide)
      · exact good _ _ (fun _ => by omega) (by rw [hat, if_neg (by omega), if_pos (by omega)])
      · exact ret env 13 _ _ (by rw [hR, hat, if_pos (.inr (by omega))]) (by decide)
      · exact good _ _ (fun _ => by omega) (by rw [hat, if_neg (by omega), if_pos (by omega)])
      · exact next _ rfl (by omega) (by rw [hat, if_neg (by omega), if_neg (by omega)])
      · exact good _ _ (fun _ => by omega) (by rw [hat, if_neg (by omega), if_pos (by omega)])
      · exact next _ rfl (by omega) (by rw [hat, if_neg (by omega), if_neg (by omega)])
      · exfalso; omega
      · exfalso; omega
    · rw [if_pos (by omega)] at hat
      simp only [allLeaves, AsOk_cons, AsOk_nil, BE.eval, cmpI, IE.eval, IE.reval, q0, q1, q4, ea, es, Nat.div_one, and_true, decide_eq_true_eq, decide_eq_false_iff_not]
      refine ⟨fun hA => ?_, fun hA => ?_, fun hA => ?_, fun hA => ?_, fun hA => ?_, fun hA => ?_, fun hA => ?_, fun hA => ?_, fun hA => ?_, fun hA => ?_⟩
      all_goals first | (exfalso; omega) | exact ret env 14 _ _ (by rw [hR, hat]) (by decide)
  · simp only [allLeaves, AsOk_cons, AsOk_nil, BE.eval, cmpI, IE.eval, IE.reval, hb, hav, Nat.div_one, and_true, decide_eq_true_eq, decide_eq_false_iff_not]
    have no11 : ¬ (0 ≤ a ∧ a ≤ (b.length : Int)) → (lebR b a).1 = 11 := fun h => by rw [lebR, if_neg h]
    refine ⟨fun hA => ret e0 11 _ _ (no11 (by omega)) (by decide), fun hA => ret e0 11 _ _ (no11 (by omega)) (by decide), fun hA => ?_⟩
    refine stepG_cut0 ⟨rfl, b, a, rfl, by omega, by omega, hlen, ?_, ?_, 0, 0, ?_, by omega, ?_, by simp [lebU], by decide, ?_, rfl⟩
    · simp [upd, lk_nil, hb]
    · simp [upd, lk_cons, lk_nil, hav]
    · simp [upd, lk_cons, lk_nil, IE.eval, vInt_int]
    · simp [upd, lk_cons, lk_nil, IE.eval, vInt_int]
    · simp [upd, lk_cons, lk_nil, IE.eval, vInt_int]

end Go.Proofs.Ytkfejcffacbngaa.J

