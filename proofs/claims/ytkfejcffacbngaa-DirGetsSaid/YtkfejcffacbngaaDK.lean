import Derived.Test.YtkfejcffacbngaaDI

namespace Go.Proofs.Ytkfejcffacbngaa

open Go Go.Sym

set_option linter.unusedVariables false

theorem bitU_eq {p q k : Nat} (hk : k ≤ 3) (hp : p < 2 ^ (8 * k)) (hq : q < 256) : bitU (p : Int) (q : Int) k = ((2 ^ (8 * k) * q + p : Nat) : Int) := by
  have e8 : binI .mul .i64 8 (k : Int) = ((8 * k : Nat) : Int) := by
    have : IntKind.i64.wrap (8 * (k : Int)) = 8 * k := wrap_i64 (by omega)
    simp only [binI, this]; omega
  have h256 : (2 : Nat) ^ (8 * k) ≤ 2 ^ 24 := Nat.pow_le_pow_right (by omega) (by omega)
  have hpk : 0 < (2 : Nat) ^ (8 * k) := Nat.pow_pos (by omega)
  have hq' : 2 ^ (8 * k) * q < 2 ^ 24 * 256 := Nat.mul_lt_mul_of_le_of_lt h256 hq (by omega)
  have eu : IntKind.u64.wrap (q : Int) = q := wrap_u64 (by omega)
  have em : min (((8 * k : Nat) : Int)).toNat (IntKind.u64).bits = 8 * k := by simp [IntKind.bits]; omega
  have es : binI .shl .u64 (q : Int) ((8 * k : Nat) : Int) = ((2 ^ (8 * k) * q : Nat) : Int) := by
    simp only [binI, em]
    have : (q : Int) * 2 ^ (8 * k) = ((2 ^ (8 * k) * q : Nat) : Int) := by
      rw [Int.natCast_mul, Int.natCast_pow, Int.mul_comm]; rfl
    rw [this]
    exact wrap_u64 (by omega)
  unfold bitU
  rw [e8, eu, es]
  simp only [binI]
  have hb : (IntKind.u64).bits = 64 := rfl
  rw [hb]
  have o1 : BitVec.ofInt 64 (p : Int) = BitVec.ofNat 64 p := by simp
  have o2 : BitVec.ofInt 64 ((2 ^ (8 * k) * q : Nat) : Int) = BitVec.ofNat 64 (2 ^ (8 * k) * q) := by rw [BitVec.ofInt_natCast]
  rw [o1, o2, BitVec.toNat_or, BitVec.toNat_ofNat, BitVec.toNat_ofNat, Nat.mod_eq_of_lt (by omega), Nat.mod_eq_of_lt (by omega), Nat.or_comm, ← Nat.two_pow_add_eq_or_of_lt hp q]
  exact wrap_u64 (by omega)

theorem sel_drop {b : List Int} {p : Nat} {k : Nat} : selL b ((p : Int) + (k : Int)) 1 0 = ((b.drop p)[k]?).getD 0 := by
  have : ((p : Int) + (k : Int)).toNat = p + k := by omega
  simp only [selL, this, Nat.mul_one, Nat.add_zero, List.getElem?_drop]

theorem nU2_at {b rest : List Int} {p : Nat} {v : Int} (hv : 0 ≤ v ∧ v < 65536) (h : b.drop p = u16L v ++ rest) : nU b (p : Int) 2 = v := by
  have hl := congrArg List.length h
  simp [u16L] at hl
  have hg : gotC b (p : Int) 2 = 0 := gotC_zero.2 (by omega)
  rw [nU, if_pos hg]
  have s0 := sel_drop (b := b) (p := p) (k := 0)
  have s1 := sel_drop (b := b) (p := p) (k := 1)
  rw [h] at s0 s1
  simp [u16L] at s0 s1
  have e : numU b (p : Int) (2 : Int).toNat = v := by
    show bitU (bitU 0 (selL b ((p : Int) + ((0 : Nat) : Int)) 1 0) 0) (selL b ((p : Int) + ((1 : Nat) : Int)) 1 0) 1 = v
    simp only [Int.natCast_zero, Int.add_zero, Int.natCast_one, s0, s1]
    obtain ⟨q0, hq0⟩ : ∃ q : Nat, (q : Int) = v % 256 := ⟨(v % 256).toNat, by omega⟩
    obtain ⟨q1, hq1⟩ : ∃ q : Nat, (q : Int) = v / 256 % 256 := ⟨(v / 256 % 256).toNat, by omega⟩
    rw [← hq0, ← hq1]
    have t0 := bitU_eq (p := 0) (q := q0) (k := 0) (by omega) (by simp) (by omega)
    have t1 := bitU_eq (p := 2 ^ (8 * 0) * q0 + 0) (q := q1) (k := 1) (by omega) (by simp; omega) (by omega)
    rw [← t0] at t1
    rw [show ((0 : Nat) : Int) = 0 from rfl] at t0 t1
    rw [t1]
    simp; omega
  rw [e]
  exact wrap_i64 (by omega)

theorem nU4_at {b rest : List Int} {p : Nat} {v : Int} (hv : 0 ≤ v ∧ v < 4294967296) (h : b.drop p = u32L v ++ rest) : nU b (p : Int) 4 = v := by
  have hl := congrArg List.length h
  simp [u32L] at hl
  have hg : gotC b (p : Int) 4 = 0 := gotC_zero.2 (by omega)
  rw [nU, if_pos hg]
  have s0 := sel_drop (b := b) (p := p) (k := 0)
  have s1 := sel_drop (b := b) (p := p) (k := 1)
  have s2 := sel_drop (b := b) (p := p) (k := 2)
  have s3 := sel_drop (b := b) (p := p) (k := 3)
  rw [h] at s0 s1 s2 s3
  simp [u32L] at s0 s1 s2 s3
  have e : numU b (p : Int) (4 : Int).toNat = v := by
    show bitU (bitU (bitU (bitU 0 (selL b ((p : Int) + ((0 : Nat) : Int)) 1 0) 0) (selL b ((p : Int) + ((1 : Nat) : Int)) 1 0) 1) (selL b ((p : Int) + ((2 : Nat) : Int)) 1 0) 2) (selL b ((p : Int) + ((3 : Nat) : Int)) 1 0) 3 = v
    have c2 : ((2 : Nat) : Int) = 2 := rfl
    have c3 : ((3 : Nat) : Int) = 3 := rfl
    simp only [Int.natCast_zero, Int.add_zero, Int.natCast_one, c2, c3, s0, s1, s2, s3]
    obtain ⟨q0, hq0⟩ : ∃ q : Nat, (q : Int) = v % 256 := ⟨(v % 256).toNat, by omega⟩
    obtain ⟨q1, hq1⟩ : ∃ q : Nat, (q : Int) = v / 256 % 256 := ⟨(v / 256 % 256).toNat, by omega⟩
    obtain ⟨q2, hq2⟩ : ∃ q : Nat, (q : Int) = v / 65536 % 256 := ⟨(v / 65536 % 256).toNat, by omega⟩
    obtain ⟨q3, hq3⟩ : ∃ q : Nat, (q : Int) = v / 16777216 % 256 := ⟨(v / 16777216 % 256).toNat, by omega⟩
    rw [← hq0, ← hq1, ← hq2, ← hq3]
    have t0 := bitU_eq (p := 0) (q := q0) (k := 0) (by omega) (by simp) (by omega)
    have t1 := bitU_eq (p := 2 ^ (8 * 0) * q0 + 0) (q := q1) (k := 1) (by omega) (by simp; omega) (by omega)
    have t2 := bitU_eq (p := 2 ^ (8 * 1) * q1 + (2 ^ (8 * 0) * q0 + 0)) (q := q2) (k := 2) (by omega) (by simp; omega) (by omega)
    have t3 := bitU_eq (p := 2 ^ (8 * 2) * q2 + (2 ^ (8 * 1) * q1 + (2 ^ (8 * 0) * q0 + 0))) (q := q3) (k := 3) (by omega) (by simp; omega) (by omega)
    rw [← t2, ← t1, ← t0] at t3
    rw [show ((0 : Nat) : Int) = 0 from rfl] at t3
    rw [t3]
    simp; omega
  rw [e]
  exact wrap_i64 (by omega)

def pairsL : Int → List Int → List Int
  | _, [] => []
  | a, l :: r => a :: l :: pairsL (a + l) r

theorem pairsL_len : ∀ (lens : List Int) (a : Int), (pairsL a lens).length = 2 * lens.length
  | [], _ => rfl
  | l :: r, a => by simp only [pairsL, List.length_cons, pairsL_len r]; omega

theorem getE_put {b rest : List Int} : ∀ (lens : List Int) (a : Int) (i : Nat), (∀ l ∈ lens, lenOk l) → 0 ≤ a → a + 1048576 * (lens.length : Int) ≤ 4294967296 + 1048575 → b.drop (13 + 8 * i) = entL a lens ++ rest → getE b lens.length i a = some (pairsL a lens)
  | [], a, i, _, _, _, _ => rfl
  | l :: r, a, i, hok, h0, h1, hd => by
    have hl := hok l (List.mem_cons_self ..)
    unfold lenOk at hl
    simp only [List.length_cons] at h1
    have p1 := nU4_at (v := a) (rest := u32L l ++ (entL (a + l) r ++ rest)) (p := 13 + 8 * i) (by omega) (by rw [hd, entL]; simp)
    have d2 : b.drop (17 + 8 * i) = u32L l ++ (entL (a + l) r ++ rest) := by
      rw [show 17 + 8 * i = 13 + 8 * i + 4 by omega, ← List.drop_drop, hd, entL]; simp [u32L]
    have p2 := nU4_at (v := l) (p := 17 + 8 * i) (by omega) d2
    have d3 : b.drop (13 + 8 * (i + 1)) = entL (a + l) r ++ rest := by
      rw [show 13 + 8 * (i + 1) = 17 + 8 * i + 4 by omega, ← List.drop_drop, d2]; simp [u32L]
    have c1 : ((13 + 8 * i : Nat) : Int) = 13 + 8 * (i : Int) := by omega
    have c2 : ((17 + 8 * i : Nat) : Int) = 17 + 8 * (i : Int) := by omega
    rw [c1] at p1
    rw [c2] at p2
    rw [List.length_cons, getE, p1, p2, if_pos ⟨rfl, hl⟩, getE_put r (a + l) (i + 1) (fun x hx => hok x (List.mem_cons_of_mem _ hx)) (by omega) (by omega) d3]
    rfl

theorem putC_zero {w h : Int} {lens : List Int} (hc : putC w h lens = 0) : szOk w h ∧ (lens.length : Int) = tilesI w h ∧ ∀ l ∈ lens, lenOk l := by
  unfold putC at hc
  split at hc
  · split at hc
    · split at hc
      · exact ⟨by assumption, by assumption, by assumption⟩
      · omega
    · omega
  · omega

theorem entL_len : ∀ (lens : List Int) (a : Int), (entL a lens).length = 8 * lens.length
  | [], _ => rfl
  | l :: r, a => by simp only [entL, List.length_append, List.length_cons, entL_len r]; simp [u32L]; omega

/-- WHAT IS PUT IS GOT. -/
theorem get_put {w h : Int} {lens rest : List Int} (hc : putC w h lens = 0) : wOf (putL w h lens ++ rest) = w ∧ hOf (putL w h lens ++ rest) = h ∧ getC (putL w h lens ++ rest) = 0 ∧ entsOf (putL w h lens ++ rest) = some (pairsL (13 + 8 * tilesI w h) lens) ∧ ((putL w h lens).length : Int) = 13 + 8 * tilesI w h := by
  obtain ⟨hs, hl, hok⟩ := putC_zero hc
  have hs' := hs
  unfold szOk at hs'
  have htl := tilesI_bd hs
  have hlen : ((putL w h lens).length : Int) = 13 + 8 * tilesI w h := by
    rw [putL, if_pos hc, List.length_append, head_len, entL_len]; omega
  obtain ⟨b, hb⟩ : ∃ b, putL w h lens ++ rest = b := ⟨_, rfl⟩
  have hb' : b = headL w h ++ (entL (13 + 8 * tilesI w h) lens ++ rest) := by rw [← hb, putL, if_pos hc, List.append_assoc]
  have hbl : (b.length : Int) = 13 + 8 * tilesI w h + rest.length := by rw [← hb, List.length_append, ← hlen]; omega
  rw [hb]
  have e1 : wOf b = w := by
    have := nU2_at (b := b) (p := 5) (v := w - 1) (rest := u16L (h - 1) ++ (u32L (tilesI w h) ++ (entL (13 + 8 * tilesI w h) lens ++ rest))) (by omega) (by rw [hb']; simp [headL])
    rw [show ((5 : Nat) : Int) = 5 from rfl] at this
    rw [wOf, this]
    simp only [binI]; rw [wrap_i64 (by omega)]; omega
  have e2 : hOf b = h := by
    have := nU2_at (b := b) (p := 7) (v := h - 1) (rest := u32L (tilesI w h) ++ (entL (13 + 8 * tilesI w h) lens ++ rest)) (by omega) (by rw [hb']; simp [headL, u16L])
    rw [show ((7 : Nat) : Int) = 7 from rfl] at this
    rw [hOf, this]
    simp only [binI]; rw [wrap_i64 (by omega)]; omega
  have e3 : nU b 9 4 = tilesI w h := by
    have := nU4_at (b := b) (p := 9) (v := tilesI w h) (rest := entL (13 + 8 * tilesI w h) lens ++ rest) (by omega) (by rw [hb']; simp [headL, u16L])
    exact this
  have e4 : isMagic b := by
    unfold isMagic
    rw [hb']
    simp [headL, u16L, u32L, subL, w8L]
    decide
  have e5 : entsOf b = some (pairsL (13 + 8 * tilesI w h) lens) := by
    rw [entsOf, e1, e2, show (tilesI w h).toNat = lens.length by omega]
    exact getE_put (rest := rest) lens _ 0 hok (by omega) (by omega) (by rw [hb']; simp [headL, u16L, u32L])
  refine ⟨e1, e2, ?_, e5, hlen⟩
  rw [getC, if_neg (by omega), if_pos e4, e1, e2, if_pos hs, if_pos e3, if_neg (by omega), e5]; rfl

end Go.Proofs.Ytkfejcffacbngaa
