import Derived.Test.YtkfejcffacbngaaDK

namespace Go.Proofs.Ytkfejcffacbngaa

open Go Go.Sym

set_option linter.unusedVariables false

theorem numU2_at {b rest : List Int} {p : Nat} {v : Int} (hv : 0 ≤ v ∧ v < 65536) (h : b.drop p = u16L v ++ rest) : numU b (p : Int) (2 : Int).toNat = v := by
  have s0 := sel_drop (b := b) (p := p) (k := 0)
  have s1 := sel_drop (b := b) (p := p) (k := 1)
  rw [h] at s0 s1
  simp [u16L] at s0 s1
  show bitU (bitU 0 (selL b ((p : Int) + ((0 : Nat) : Int)) 1 0) 0) (selL b ((p : Int) + ((1 : Nat) : Int)) 1 0) 1 = v
  simp only [Int.natCast_zero, Int.add_zero, Int.natCast_one, s0, s1]
  obtain ⟨q0, hq0⟩ : ∃ q : Nat, (q : Int) = v % 256 := ⟨(v % 256).toNat, by omega⟩
  obtain ⟨q1, hq1⟩ : ∃ q : Nat, (q : Int) = v / 256 % 256 := ⟨(v / 256 % 256).toNat, by omega⟩
  rw [← hq0, ← hq1]
  have t0 := bitU_eq (p := 0) (q := q0) (k := 0) (by omega) (by simp) (by omega)
  have t1 := bitU_eq (p := 2 ^ (8 * 0) * q0 + 0) (q := q1) (k := 1) (by omega) (by simp; omega) (by omega)
  rw [← t0] at t1
  rw [show ((0 : Nat) : Int) = 0 from rfl] at t0 t1
  rw [t1]
  simp; omega

theorem numU4_at {b rest : List Int} {p : Nat} {v : Int} (hv : 0 ≤ v ∧ v < 4294967296) (h : b.drop p = u32L v ++ rest) : numU b (p : Int) (4 : Int).toNat = v := by
  have s0 := sel_drop (b := b) (p := p) (k := 0)
  have s1 := sel_drop (b := b) (p := p) (k := 1)
  have s2 := sel_drop (b := b) (p := p) (k := 2)
  have s3 := sel_drop (b := b) (p := p) (k := 3)
  rw [h] at s0 s1 s2 s3
  simp [u32L] at s0 s1 s2 s3
  show bitU (bitU (bitU (bitU 0 (selL b ((p : Int) + ((0 : Nat) : Int)) 1 0) 0) (selL b ((p : Int) + ((1 : Nat) : Int)) 1 0) 1) (selL b ((p : Int) + ((2 : Nat) : Int)) 1 0) 2) (selL b ((p : Int) + ((3 : Nat) : Int)) 1 0) 3 = v
  have c2 : ((2 : Nat) : Int) = 2 := rfl
  have c3 : ((3 : Nat) : Int) = 3 := rfl
  simp only [Int.natCast_zero, Int.add_zero, Int.natCast_one, c2, c3, s0, s1, s2, s3]
  obtain ⟨q0, hq0⟩ : ∃ q : Nat, (q : Int) = v % 256 := ⟨(v % 256).toNat, by omega⟩
  obtain ⟨q1, hq1⟩ : ∃ q : Nat, (q : Int) = v / 256 % 256 := ⟨(v / 256 % 256).toNat, by omega⟩
  obtain ⟨q2, hq2⟩ : ∃ q : Nat, (q : Int) = v / 65536 % 256 := ⟨(v / 65536 % 256).toNat, by omega⟩
  obtain ⟨q3, hq3⟩ : ∃ q : Nat, (q : Int) = v / 16777216 % 256 := ⟨(v / 16777216 % 256).toNat, by omega⟩
  rw [← hq0, ← hq1, ← hq2, ← hq3]
  have t0 := bitU_eq (p := 0) (q := q0) (k := 0) (by omega) (by simp) (by omega)
  have t1 := bitU_eq (p := 2 ^ (8 * 0) * q0 + 0) (q := q1) (k := 1) (by omega) (by simp; omega) (by omega)
  have t2 := bitU_eq (p := 2 ^ (8 * 1) * q1 + (2 ^ (8 * 0) * q0 + 0)) (q := q2) (k := 2) (by omega) (by simp; omega) (by omega)
  have t3 := bitU_eq (p := 2 ^ (8 * 2) * q2 + (2 ^ (8 * 1) * q1 + (2 ^ (8 * 0) * q0 + 0))) (q := q3) (k := 3) (by omega) (by simp; omega) (by omega)
  rw [← t2, ← t1, ← t0] at t3
  rw [show ((0 : Nat) : Int) = 0 from rfl] at t3
  rw [t3]
  simp; omega

def valL : List Int → Int
  | [] => 0
  | c :: r => c + 256 * valL r

theorem valL_bd : ∀ l : List Int, (∀ x ∈ l, 0 ≤ x ∧ x < 256) → 0 ≤ valL l ∧ valL l < 256 ^ l.length
  | [], _ => by simp [valL]
  | c :: r, h => by
    have h0 := h c (List.mem_cons_self ..)
    have h1 := valL_bd r (fun x hx => h x (List.mem_cons_of_mem _ hx))
    simp only [valL, List.length_cons, Int.pow_succ]
    omega

def bytesOk (b : List Int) : Prop := ∀ x ∈ b, 0 ≤ x ∧ x < 256

instance (b : List Int) : Decidable (bytesOk b) := by unfold bytesOk; infer_instance

theorem byte_at {b : List Int} (hb : bytesOk b) {p : Nat} (h : p < b.length) : 0 ≤ b[p] ∧ b[p] < 256 := hb _ (List.getElem_mem h)

theorem drop4 {b : List Int} {p : Nat} (h : p + 4 ≤ b.length) : b.drop p = b[p] :: b[p + 1] :: b[p + 2] :: b[p + 3] :: b.drop (p + 4) := by
  rw [List.drop_eq_getElem_cons (by omega : p < b.length), List.drop_eq_getElem_cons (by omega : p + 1 < b.length), List.drop_eq_getElem_cons (by omega : p + 1 + 1 < b.length), List.drop_eq_getElem_cons (by omega : p + 1 + 1 + 1 < b.length)]

theorem drop2 {b : List Int} {p : Nat} (h : p + 2 ≤ b.length) : b.drop p = b[p] :: b[p + 1] :: b.drop (p + 2) := by
  rw [List.drop_eq_getElem_cons (by omega : p < b.length), List.drop_eq_getElem_cons (by omega : p + 1 < b.length)]

theorem u32_of {b : List Int} (hb : bytesOk b) {p : Nat} (h : p + 4 ≤ b.length) : u32L (nU b (p : Int) 4) = (b.drop p).take 4 ∧ 0 ≤ nU b (p : Int) 4 ∧ nU b (p : Int) 4 < 4294967296 ∧ nU b (p : Int) 4 = b[p] + 256 * b[p + 1] + 65536 * b[p + 2] + 16777216 * b[p + 3] := by
  have h0 := byte_at hb (p := p) (by omega)
  have h1 := byte_at hb (p := p + 1) (by omega)
  have h2 := byte_at hb (p := p + 2) (by omega)
  have h3 := byte_at hb (p := p + 3) (by omega)
  have hd := drop4 h
  obtain ⟨c0, e0⟩ : ∃ c, b[p] = c := ⟨_, rfl⟩
  obtain ⟨c1, e1⟩ : ∃ c, b[p + 1] = c := ⟨_, rfl⟩
  obtain ⟨c2, e2⟩ : ∃ c, b[p + 2] = c := ⟨_, rfl⟩
  obtain ⟨c3, e3⟩ : ∃ c, b[p + 3] = c := ⟨_, rfl⟩
  rw [e0] at h0 hd; rw [e1] at h1 hd; rw [e2] at h2 hd; rw [e3] at h3 hd
  rw [e0, e1, e2, e3]
  have hu : u32L (c0 + 256 * c1 + 65536 * c2 + 16777216 * c3) = [c0, c1, c2, c3] := by
    simp only [u32L, List.cons.injEq, and_true]; omega
  have hn := nU4_at (b := b) (p := p) (v := c0 + 256 * c1 + 65536 * c2 + 16777216 * c3) (rest := b.drop (p + 4)) (by omega) (by rw [hu, hd]; rfl)
  rw [hn, hu, hd]
  exact ⟨rfl, by omega, by omega, rfl⟩

theorem u16_of {b : List Int} (hb : bytesOk b) {p : Nat} (h : p + 2 ≤ b.length) : u16L (nU b (p : Int) 2) = (b.drop p).take 2 ∧ 0 ≤ nU b (p : Int) 2 ∧ nU b (p : Int) 2 < 65536 ∧ nU b (p : Int) 2 = b[p] + 256 * b[p + 1] := by
  have h0 := byte_at hb (p := p) (by omega)
  have h1 := byte_at hb (p := p + 1) (by omega)
  have hd := drop2 h
  obtain ⟨c0, e0⟩ : ∃ c, b[p] = c := ⟨_, rfl⟩
  obtain ⟨c1, e1⟩ : ∃ c, b[p + 1] = c := ⟨_, rfl⟩
  rw [e0] at h0 hd; rw [e1] at h1 hd
  rw [e0, e1]
  have hu : u16L (c0 + 256 * c1) = [c0, c1] := by
    simp only [u16L, List.cons.injEq, and_true]; omega
  have hn := nU2_at (b := b) (p := p) (v := c0 + 256 * c1) (rest := b.drop (p + 2)) (by omega) (by rw [hu, hd]; rfl)
  rw [hn, hu, hd]
  exact ⟨rfl, by omega, by omega, rfl⟩

def oddL : List Int → List Int
  | _ :: l :: r => l :: oddL r
  | _ => []

theorem entL_of {b : List Int} (hb : bytesOk b) : ∀ (k i : Nat) (a : Int) (L : List Int), 13 + 8 * (i + k) ≤ b.length → getE b k i a = some L → (oddL L).length = k ∧ (∀ l ∈ oddL L, lenOk l) ∧ entL a (oddL L) = (b.drop (13 + 8 * i)).take (8 * k) ∧ L = pairsL a (oddL L)
  | 0, i, a, L, _, h => by
    simp only [getE, Option.some.injEq] at h
    subst h
    exact ⟨rfl, by simp [oddL], by simp [oddL, entL], rfl⟩
  | k + 1, i, a, L, hl, h => by
    simp only [getE] at h
    split at h
    · rename_i hc
      obtain ⟨c1, c2, c3⟩ := hc
      have p1 := u32_of hb (p := 13 + 8 * i) (by omega)
      have p2 := u32_of hb (p := 17 + 8 * i) (by omega)
      have e1 : ((13 + 8 * i : Nat) : Int) = 13 + 8 * (i : Int) := by omega
      have e2 : ((17 + 8 * i : Nat) : Int) = 17 + 8 * (i : Int) := by omega
      rw [e1] at p1
      rw [e2] at p2
      rw [c1] at p1 h
      obtain ⟨y, hy⟩ : ∃ y, nU b (17 + 8 * (i : Int)) 4 = y := ⟨_, rfl⟩
      rw [hy] at p2 h c2 c3
      cases hg : getE b k (i + 1) (a + y) with
      | none => rw [hg] at h; cases h
      | some R =>
        rw [hg] at h
        simp only [Option.map_some, Option.some.injEq] at h
        subst h
        obtain ⟨q1, q2, q3, q4⟩ := entL_of hb k (i + 1) (a + y) R (by omega) hg
        refine ⟨by simp [oddL, q1], ?_, ?_, ?_⟩
        · intro l hm
          simp only [oddL, List.mem_cons] at hm
          rcases hm with rfl | hm
          · exact ⟨c2, c3⟩
          · exact q2 l hm
        · simp only [oddL, entL]
          rw [p1.1, p2.1, q3]
          rw [show 8 * (k + 1) = 4 + (4 + 8 * k) by omega, List.take_add, List.take_add, List.drop_drop, List.drop_drop]
          rw [show 13 + 8 * i + 4 = 17 + 8 * i by omega, show 17 + 8 * i + 4 = 13 + 8 * (i + 1) by omega]
          simp
        · simp only [oddL, pairsL]
          rw [← q4]
    · cases h

/-- WHAT IS GOT IS PUT AS IT WAS. -/
theorem put_get {b : List Int} (hb : bytesOk b) (hc : getC b = 0) : ∃ L, entsOf b = some L ∧ putC (wOf b) (hOf b) (oddL L) = 0 ∧ putL (wOf b) (hOf b) (oddL L) = b.take (13 + 8 * (oddL L).length) ∧ 13 + 8 * (oddL L).length ≤ b.length ∧ L = pairsL (13 + 8 * tilesI (wOf b) (hOf b)) (oddL L) := by
  unfold getC at hc
  split at hc
  · omega
  · rename_i h13
    split at hc
    · rename_i hm
      split at hc
      · rename_i hs
        split at hc
        · rename_i ht
          split at hc
          · omega
          · rename_i hl
            split at hc
            · rename_i he
              have htl := tilesI_bd hs
              obtain ⟨L, hL⟩ := Option.isSome_iff_exists.1 he
              have hE := hL
              unfold entsOf at hE
              obtain ⟨q1, q2, q3, q4⟩ := entL_of hb _ 0 _ L (by omega) hE
              have hn : ((oddL L).length : Int) = tilesI (wOf b) (hOf b) := by omega
              have hp : putC (wOf b) (hOf b) (oddL L) = 0 := by rw [putC, if_pos hs, if_pos hn, if_pos q2]
              refine ⟨L, hL, hp, ?_, by omega, q4⟩
              have a1 := u16_of hb (p := 5) (by omega)
              have a2 := u16_of hb (p := 7) (by omega)
              have a3 := u32_of hb (p := 9) (by omega)
              have w1 : wOf b - 1 = nU b 5 2 := by
                have : ((5 : Nat) : Int) = 5 := rfl
                rw [this] at a1
                unfold wOf
                simp only [binI]
                rw [wrap_i64 (by omega)]; omega
              have w2 : hOf b - 1 = nU b 7 2 := by
                have : ((7 : Nat) : Int) = 7 := rfl
                rw [this] at a2
                unfold hOf
                simp only [binI]
                rw [wrap_i64 (by omega)]; omega
              have m5 : b.take 5 = [72, 65, 67, 72, 1] := by
                have hm' := hm
                unfold isMagic at hm'
                have e : w8L (subL b 0 13 1) = subL b 0 13 1 := by
                  unfold w8L
                  have hs13 : ∀ x ∈ subL b 0 13 1, 0 ≤ x ∧ x < 256 := fun x hx => hb x (List.mem_of_mem_take (by simpa [subL] using hx))
                  have : ∀ l : List Int, (∀ x ∈ l, 0 ≤ x ∧ x < 256) → l.map (fun n => ((UInt8.ofNat n.toNat).toNat : Int)) = l := by
                    intro l
                    induction l with
                    | nil => intro _; rfl
                    | cons x l ih =>
                      intro hx
                      have h0 := hx x (List.mem_cons_self ..)
                      rw [List.map_cons, ih (fun y hy => hx y (List.mem_cons_of_mem _ hy))]
                      congr 1
                      simp; omega
                  exact this _ hs13
                rw [e] at hm'
                simp only [subL] at hm'
                simpa [List.take_take] using hm'
              rw [putL, if_pos hp, headL, w1, w2, ← ht]
              have n5 : ((5 : Nat) : Int) = 5 := rfl
              have n7 : ((7 : Nat) : Int) = 7 := rfl
              have n9 : ((9 : Nat) : Int) = 9 := rfl
              rw [n5] at a1; rw [n7] at a2; rw [n9] at a3
              rw [a1.1, a2.1, a3.1, ← m5]
              rw [ht, q3, q1]
              rw [show 13 + 8 * (tilesI (wOf b) (hOf b)).toNat = 5 + (2 + (2 + (4 + 8 * (tilesI (wOf b) (hOf b)).toNat))) by omega, List.take_add, List.take_add, List.take_add, List.take_add]
              simp [List.drop_drop]
            · omega
        · omega
      · omega
    · omega

theorem numU_val {b : List Int} (hb : bytesOk b) {p : Nat} {n : Int} (hn : n = 2 ∨ n = 4) (h : (p : Int) + n ≤ b.length) : numU b (p : Int) n.toNat = valL ((b.drop p).take n.toNat) := by
  rcases hn with rfl | rfl
  · have h0 := byte_at hb (p := p) (by omega)
    have h1 := byte_at hb (p := p + 1) (by omega)
    have hd := drop2 (b := b) (p := p) (by omega)
    obtain ⟨c0, e0⟩ : ∃ c, b[p] = c := ⟨_, rfl⟩
    obtain ⟨c1, e1⟩ : ∃ c, b[p + 1] = c := ⟨_, rfl⟩
    rw [e0] at h0 hd; rw [e1] at h1 hd
    have hu : u16L (c0 + 256 * c1) = [c0, c1] := by simp only [u16L, List.cons.injEq, and_true]; omega
    rw [numU2_at (b := b) (p := p) (v := c0 + 256 * c1) (rest := b.drop (p + 2)) (by omega) (by rw [hu, hd]; rfl), hd]
    simp [valL]
  · have h0 := byte_at hb (p := p) (by omega)
    have h1 := byte_at hb (p := p + 1) (by omega)
    have h2 := byte_at hb (p := p + 2) (by omega)
    have h3 := byte_at hb (p := p + 3) (by omega)
    have hd := drop4 (b := b) (p := p) (by omega)
    obtain ⟨c0, e0⟩ : ∃ c, b[p] = c := ⟨_, rfl⟩
    obtain ⟨c1, e1⟩ : ∃ c, b[p + 1] = c := ⟨_, rfl⟩
    obtain ⟨c2, e2⟩ : ∃ c, b[p + 2] = c := ⟨_, rfl⟩
    obtain ⟨c3, e3⟩ : ∃ c, b[p + 3] = c := ⟨_, rfl⟩
    rw [e0] at h0 hd; rw [e1] at h1 hd; rw [e2] at h2 hd; rw [e3] at h3 hd
    have hu : u32L (c0 + 256 * c1 + 65536 * c2 + 16777216 * c3) = [c0, c1, c2, c3] := by simp only [u32L, List.cons.injEq, and_true]; omega
    rw [numU4_at (b := b) (p := p) (v := c0 + 256 * c1 + 65536 * c2 + 16777216 * c3) (rest := b.drop (p + 4)) (by omega) (by rw [hu, hd]; rfl), hd]
    simp [valL]; omega

end Go.Proofs.Ytkfejcffacbngaa
