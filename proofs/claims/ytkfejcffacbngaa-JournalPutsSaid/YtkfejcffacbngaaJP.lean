import Derived.Test.YtkfejcffacbngaaJO

namespace Go.Proofs.Ytkfejcffacbngaa.J

open Go Go.Sym

set_option linter.unusedVariables false

theorem and127_all : ((List.range 256).all fun x => decide (binI .and .u8 (x : Int) 127 = (x : Int) % 128)) = true := by kernel_rfl

theorem and127 {v : Int} (h : 0 ≤ v ∧ v < 256) : binI .and .u8 v 127 = v % 128 := by
  have h := List.all_eq_true.1 and127_all v.toNat (List.mem_range.2 (by omega))
  have h := of_decide_eq_true h
  rwa [show ((v.toNat : Nat) : Int) = v by omega] at h

theorem or_step {p q k : Nat} (hk : k ≤ 9) (hp : p < 2 ^ (7 * k)) (hq : q < 128) (hf : 2 ^ (7 * k) * q + p < 18446744073709551616) : binI .or .u64 (p : Int) (binI .shl .u64 (q : Int) (binI .mul .i64 7 (k : Int))) = ((2 ^ (7 * k) * q + p : Nat) : Int) := by
  have e8 : binI .mul .i64 7 (k : Int) = ((7 * k : Nat) : Int) := by
    have : IntKind.i64.wrap (7 * (k : Int)) = 7 * k := wrap_i64 (by omega)
    simp only [binI, this]; omega
  have hpk : 0 < (2 : Nat) ^ (7 * k) := Nat.pow_pos (by omega)
  have em : min (((7 * k : Nat) : Int)).toNat (IntKind.u64).bits = 7 * k := by simp [IntKind.bits]; omega
  have es : binI .shl .u64 (q : Int) ((7 * k : Nat) : Int) = ((2 ^ (7 * k) * q : Nat) : Int) := by
    simp only [binI, em]
    have : (q : Int) * 2 ^ (7 * k) = ((2 ^ (7 * k) * q : Nat) : Int) := by
      rw [Int.natCast_mul, Int.natCast_pow, Int.mul_comm]; rfl
    rw [this]
    exact wrap_u64 (by omega)
  rw [e8, es]
  simp only [binI]
  have hb : (IntKind.u64).bits = 64 := rfl
  rw [hb]
  have o1 : BitVec.ofInt 64 (p : Int) = BitVec.ofNat 64 p := by simp
  have o2 : BitVec.ofInt 64 ((2 ^ (7 * k) * q : Nat) : Int) = BitVec.ofNat 64 (2 ^ (7 * k) * q) := by rw [BitVec.ofInt_natCast]
  rw [o1, o2, BitVec.toNat_or, BitVec.toNat_ofNat, BitVec.toNat_ofNat, Nat.mod_eq_of_lt (by omega), Nat.mod_eq_of_lt (by omega), Nat.or_comm, ← Nat.two_pow_add_eq_or_of_lt hp q]
  exact wrap_u64 (by omega)

theorem sel_at {b rest : List Int} {p k : Nat} {x : Int} (h : b.drop (p + k) = x :: rest) : selL b ((p : Int) + (k : Int)) 1 0 = x ∧ p + k < b.length := by
  have h1 : ((p : Int) + (k : Int)).toNat = p + k := by omega
  have h2 : p + k < b.length := by
    have := congrArg List.length h
    simp at this; omega
  have h3 := List.getElem?_drop (xs := b) (i := p + k) (j := 0)
  rw [h] at h3
  refine ⟨?_, h2⟩
  simp only [selL, h1, Nat.mul_one, Nat.add_zero]
  simp only [List.getElem?_cons_zero, Nat.add_zero] at h3
  rw [← h3]; rfl

theorem lebC_N {b rest : List Int} {p : Nat} : ∀ (j : Nat), 1 ≤ j → j ≤ 10 → ∀ (v : Nat), v < 2 ^ (7 * j - 6) → (j < 10 → 0 < v) → b.drop (p + (10 - j)) = lebN j (v : Int) ++ rest → (∃ q : Nat, lebU b (p : Int) (10 - j) = q ∧ q < 2 ^ (7 * (10 - j))) →
    lebC b (p : Int) j (10 - j) = (0, (10 - j) + (lebN j (v : Int)).length) ∧ lebU b (p : Int) ((10 - j) + (lebN j (v : Int)).length) = lebU b (p : Int) (10 - j) + ((2 ^ (7 * (10 - j)) * v : Nat) : Int) := by
  intro j
  induction j with
  | zero => omega
  | succ j ih =>
    intro _ hj v hv hv0 hd hq
    obtain ⟨q, hq, hql⟩ := hq
    obtain ⟨k, hk⟩ : ∃ k, 10 - (j + 1) = k := ⟨_, rfl⟩
    rw [hk] at hd hq hql ⊢
    have hjk : 10 - j = k + 1 := by omega
    rw [hjk] at ih
    have hpow : (2 : Nat) ^ (7 * k) * 2 ^ (7 * (j + 1) - 6) = 18446744073709551616 := by
      rw [← Nat.pow_add, show 7 * k + (7 * (j + 1) - 6) = 64 by omega]
    have hpk : 0 < (2 : Nat) ^ (7 * k) := Nat.pow_pos (by omega)
    have hfit : 2 ^ (7 * k) * v + q < 18446744073709551616 := by
      have : 2 ^ (7 * k) * (v + 1) ≤ 2 ^ (7 * k) * 2 ^ (7 * (j + 1) - 6) := Nat.mul_le_mul_left _ (by omega)
      rw [Nat.mul_add] at this
      omega
    by_cases h128 : v < 128
    · rw [lebN_lt (by omega)] at hd ⊢
      obtain ⟨s1, s2⟩ := sel_at (rest := rest) hd
      have hU := or_step (p := q) (q := v) (k := k) (by omega) hql h128 hfit
      refine ⟨?_, ?_⟩
      · rw [lebC, s1, if_neg (by omega), if_neg, if_pos (by omega)]
        · rfl
        · rintro (⟨h1, h2⟩ | ⟨h1, h2⟩)
          · obtain rfl : j = 0 := by omega
            simp at hv; omega
          · have := hv0 (by omega); omega
      · show lebU b (p : Int) (k + 1) = _
        rw [lebU, s1, hq, and127 (by omega), show ((v : Int) % 128) = (v : Int) by omega, show IntKind.u64.wrap (v : Int) = (v : Int) from wrap_u64 (by omega), hU]
        omega
    · rw [lebN_ge (by omega)] at hd ⊢
      have hj1 : 1 ≤ j := by
        by_cases h : j = 0
        · subst h; simp at hv; omega
        · omega
      obtain ⟨s1, s2⟩ := sel_at (rest := lebN j ((v : Int) / 128) ++ rest) (by simpa using hd)
      have hm : (v : Int) % 128 = ((v % 128 : Nat) : Int) := by omega
      have hdv : (v : Int) / 128 = ((v / 128 : Nat) : Int) := by omega
      have hfit2 : 2 ^ (7 * k) * (v % 128) + q < 18446744073709551616 := by
        have : 2 ^ (7 * k) * (v % 128) ≤ 2 ^ (7 * k) * v := Nat.mul_le_mul_left _ (Nat.mod_le _ _)
        omega
      have hU := or_step (p := q) (q := v % 128) (k := k) (by omega) hql (Nat.mod_lt _ (by decide)) hfit2
      have hU1 : lebU b (p : Int) (k + 1) = ((2 ^ (7 * k) * (v % 128) + q : Nat) : Int) := by
        rw [lebU, s1, hq, and127 (by omega), show (((v : Int) % 128 + 128) % 128) = ((v % 128 : Nat) : Int) by omega, show IntKind.u64.wrap ((v % 128 : Nat) : Int) = ((v % 128 : Nat) : Int) from wrap_u64 (by omega), hU]
      have e7 : (2 : Nat) ^ (7 * (k + 1)) = 2 ^ (7 * k) * 128 := by rw [show 7 * (k + 1) = 7 * k + 7 by omega, Nat.pow_add]
      have hlt : 2 ^ (7 * k) * (v % 128) + q < 2 ^ (7 * (k + 1)) := by
        rw [e7]
        have : 2 ^ (7 * k) * (v % 128 + 1) ≤ 2 ^ (7 * k) * 128 := Nat.mul_le_mul_left _ (by omega)
        rw [Nat.mul_add] at this
        omega
      have hvd : v / 128 < 2 ^ (7 * j - 6) := by
        have : (2 : Nat) ^ (7 * (j + 1) - 6) = 128 * 2 ^ (7 * j - 6) := by rw [show 7 * (j + 1) - 6 = 7 + (7 * j - 6) by omega, Nat.pow_add]
        rw [this] at hv
        exact Nat.div_lt_of_lt_mul hv
      have hdd : b.drop (p + (k + 1)) = lebN j ((v / 128 : Nat) : Int) ++ rest := by
        rw [← Nat.add_assoc, ← List.drop_drop, hd, ← hdv]; rfl
      obtain ⟨i1, i2⟩ := ih hj1 (by omega) (v / 128) hvd (fun _ => by omega) hdd ⟨_, hU1, hlt⟩
      rw [hdv]
      have hlen : k + (((v : Int) % 128 + 128) :: lebN j ((v / 128 : Nat) : Int)).length = k + 1 + (lebN j ((v / 128 : Nat) : Int)).length := by simp; omega
      refine ⟨?_, ?_⟩
      · rw [lebC, s1, if_neg (by omega), if_neg (by omega), if_neg (by omega), i1, hlen]
      · rw [hlen, i2, hU1, e7, hq]
        have : 2 ^ (7 * k) * v = 2 ^ (7 * k) * (v % 128) + 2 ^ (7 * k) * 128 * (v / 128) := by
          rw [Nat.mul_assoc, ← Nat.mul_add]
          congr 1; omega
        rw [this]; omega

theorem leb_get {ahead rest : List Int} {u : Nat} (hu : u < 18446744073709551616) : lebR (ahead ++ lebN 10 (u : Int) ++ rest) (ahead.length : Int) = (0, (lebN 10 (u : Int)).length) ∧ lebU (ahead ++ lebN 10 (u : Int) ++ rest) (ahead.length : Int) (lebN 10 (u : Int)).length = u := by
  have hd : (ahead ++ lebN 10 (u : Int) ++ rest).drop (ahead.length + (10 - 10)) = lebN 10 (u : Int) ++ rest := by simp
  obtain ⟨h1, h2⟩ := lebC_N (b := ahead ++ lebN 10 (u : Int) ++ rest) (p := ahead.length) (rest := rest) 10 (by decide) (by decide) u (by simpa using hu) (fun h => absurd h (by omega)) hd ⟨0, by simp [lebU], by decide⟩
  simp only [Nat.sub_self, Nat.zero_add] at h1 h2
  refine ⟨?_, ?_⟩
  · rw [lebR, if_pos ⟨by omega, by simp; omega⟩]
    exact h1
  · rw [h2]; simp [lebU]

theorem open_seal (r : List Int) : openC (sealM r) = 0 ∧ openM (sealM r) = r := by
  have hl := sealM_len r
  have ht : (sealM r).take ((sealM r).length - 4) = r := by
    rw [hl, show r.length + 4 - 4 = r.length by omega]
    simp [sealM]
  have hc : openC (sealM r) = 0 := by rw [openC, if_neg (by omega), ht, if_pos rfl]
  exact ⟨hc, by rw [openM, if_pos hc, ht]⟩

theorem jget_put {ahead r behind : List Int} (hr : r.length ≤ 1000) : jC (ahead ++ recM r ++ behind) (ahead.length : Int) = 0 ∧ jM (ahead ++ recM r ++ behind) (ahead.length : Int) = r ∧ jE (ahead ++ recM r ++ behind) (ahead.length : Int) = ((ahead ++ recM r).length : Int) := by
  obtain ⟨u, hu⟩ : ∃ u : Nat, u = r.length + 1 := ⟨_, rfl⟩
  have huc : (r.length : Int) + 1 = (u : Int) := by omega
  obtain ⟨L, hL⟩ : ∃ L, lebN 10 (u : Int) = L := ⟨_, rfl⟩
  have hb : ahead ++ recM r ++ behind = ahead ++ L ++ (sealM r ++ behind) := by simp [recM, huc, hL]
  have hb1 : ahead ++ recM r = ahead ++ L ++ sealM r := by simp [recM, huc, hL]
  rw [hb, hb1]
  obtain ⟨h1, h2⟩ := leb_get (ahead := ahead) (rest := sealM r ++ behind) (u := u) (by omega)
  rw [hL] at h1 h2
  have hs := sealM_len r
  obtain ⟨B, hB⟩ : ∃ B, ahead ++ L ++ (sealM r ++ behind) = B := ⟨_, rfl⟩
  have hBl : B.length = ahead.length + L.length + (r.length + 4) + behind.length := by rw [← hB]; simp [hs]; omega
  rw [hB] at h1 h2 ⊢
  have hN : gotN B (ahead.length : Int) = u := by rw [gotN, h1, h2]
  have hP : gotP B (ahead.length : Int) = ((ahead.length + L.length : Nat) : Int) := by rw [gotP, h1]; simp
  have hX : gotX B (ahead.length : Int) = sealM r := by
    rw [gotX, hN, hP]
    have e : (((ahead.length + L.length : Nat) : Int) + (u : Int) + 3).toNat = (ahead ++ L ++ sealM r).length := by simp [hs]; omega
    simp only [subL, e, Int.toNat_natCast, Nat.mul_one]
    rw [← hB, ← List.append_assoc (ahead ++ L) (sealM r) behind, List.take_left' rfl]
    have e2 : ahead.length + L.length = (ahead ++ L).length := by simp
    rw [e2, List.drop_left' rfl]
  obtain ⟨o1, o2⟩ := open_seal r
  have hC : jC B (ahead.length : Int) = 0 := by
    rw [jC, if_neg (by rw [h1]; simp), hN, if_neg (by omega), hP, if_neg (by omega), hX, o1]
  refine ⟨hC, ?_, ?_⟩
  · rw [jM, if_pos hC, hX, o2]
  · rw [jE, if_pos hC, hN, hP]
    simp [hs]; omega

end Go.Proofs.Ytkfejcffacbngaa.J
