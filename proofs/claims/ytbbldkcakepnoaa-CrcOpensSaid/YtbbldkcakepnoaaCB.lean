/- Contracts of crc.More, crc.Sum, and the document's own. -/
import Derived.Test.YtbbldkcakepnoaaCA
namespace Go.Proofs.Ytbbldkcakepnoaa
open Go.RowKit Go.Lib

theorem cfold_get (s : Int) (xs : List Int) (k : Nat) (h : k < xs.length) : cfold s (xs.take (k + 1)) = cbyte (cfold s (xs.take k)) (xs.getD k 0) := by
  rw [List.take_succ_eq_append_getElem h, cfold_snoc]
  simp [List.getD, List.getElem?_eq_getElem h]

theorem notx (s : Int) (h0 : 0 ≤ s) (h1 : s ≤ 4294967295) : bits .xor .u32 IntKind.u32.max s = bits .xor .u32 s 4294967295 := by
  obtain ⟨a, rfl⟩ := Int.eq_ofNat_of_zero_le h0
  have ha : a < 4294967296 := by omega
  have hm : (4294967295 : Int) = ((4294967295 : Nat) : Int) := rfl
  show bits .xor .u32 4294967295 (a : Int) = _
  rw [hm, u32_xor_nat a 4294967295 ha (by decide), u32_xor_nat 4294967295 a (by decide) ha, Nat.xor_comm]

set_option maxHeartbeats 1000000 in
theorem more_any (s : Int) (A : Option Addr) (n c : Nat) (xs : List Int) (w : World) (hr : Reads w w.heap.size 1 A n (xs.map (Value.int .u8))) (hs0 : 0 ≤ s) (hs1 : s ≤ 4294967295) (hx : ∀ x ∈ xs, 0 ≤ x ∧ x ≤ 255) (hn : n ≤ 100000) (hnc : n ≤ c) (hcm : c ≤ maxLen) :
    Calls Try.prog 13 #[.int .u32 s, .slice A n c] w fun e w' => e = .returned (.int .u32 (crcM s xs)) ∧ w' = w := by
  have hlen : xs.length = n := by simpa using hr.1
  have HN := hide (notx s hs0 hs1)
  obtain ⟨S0, hS0⟩ : ∃ z, bits .xor .u32 s 4294967295 = z := ⟨_, rfl⟩
  have HS0 := hide hS0
  have hS := bits_rng .xor s 4294967295
  rw [hS0] at hS
  have HF : Hid (∀ k, 0 ≤ cfold S0 (xs.take k) ∧ cfold S0 (xs.take k) ≤ 4294967295) := hide fun k => cfold_rng _ _ hS.1 hS.2
  have HX := hide hx
  have HR := hide hr
  have HL := hide hlen
  have HM := hide (show crcM s xs = bits .xor .u32 (cfold S0 xs) 4294967295 by rw [crcM, hS0])
  clear hx hr hlen hS0 hS
  go_enter Try.func13, Try.ntmps13
  go_wp2_with fail
  go_loop [0, 11] (fun a i => ∃ k : Nat, k ≤ n ∧ i = .int .i64 k ∧ a = .int .u32 (cfold S0 (xs.take k))) (fun _ i => n - (intOf i).toNat)
  case atStart => exact ⟨0, by omega, rfl, by rw [HN.out, HS0.out]; simp [cfold]⟩
  case round =>
    obtain ⟨k, hk, rfl, rfl⟩ := hrel
    by_cases hlt : k < n
    · obtain ⟨b, off, rfl, _, hcell⟩ := HR.out.cells_ (by omega)
      have h1 : w.cell? ⟨b, off + k, none⟩ = some (.int .u8 (xs.getD k 0)) := hcell k _ (by have := HL.out; simp [List.getD, List.getElem?_eq_getElem (show k < xs.length by omega)])
      obtain ⟨x0, x1⟩ := HX.out (xs.getD k 0) (by have := HL.out; simp [List.getD, List.getElem?_eq_getElem (show k < xs.length by omega)])
      obtain ⟨p0, p1⟩ := HF.out k
      have HC := hide (cfold_get S0 xs k (by have := HL.out; omega))
      clear hcell
      generalize xs.getD k 0 = x at *
      generalize cfold S0 (xs.take k) = p at *
      obtain ⟨q, hq⟩ : ∃ z, bits .xor .u32 p x = z := ⟨_, rfl⟩
      have hqr := bits_rng .xor p x
      rw [hq] at hqr
      have HI : Hid (∀ k, 0 ≤ cit k q ∧ cit k q ≤ 4294967295) := hide fun k => cit_rng k q hqr.1 hqr.2
      have HC2 := hide (show cfold S0 (xs.take (k + 1)) = cit 8 q by rw [HC.out, cbyte, hq])
      clear HC hqr
      have i1 : (k : Int) < n := by omega
      have y1 : IntKind.u32.wrap x = x := by rw [IntKind.wrap_u32]; omega
      go_wp2_with fail
      trace "A"
      go_loop [0, 19] (fun a j => ∃ i : Nat, i ≤ 8 ∧ j = .int .i64 i ∧ a = .int .u32 (cit i q)) (fun _ j => 8 - (intOf j).toNat)
      case atStart => exact ⟨0, by omega, rfl, rfl⟩
      case round =>
        obtain ⟨i, hi, rfl, rfl⟩ := hrel
        obtain ⟨t0, t1⟩ := HI.out i
        have HT := hide (cstep_go (cit i q) t0 t1)
        have HT2 := hide (show cit (i + 1) q = cstep (cit i q) from rfl)
        obtain ⟨t, ht⟩ : ∃ z, cit i q = z := ⟨_, rfl⟩
        have ht8 : i = 8 → cit 8 q = t := fun h => by rw [← h]; exact ht
        rw [ht] at t0 t1 HT HT2 ⊢
        have HT8 := hide ht8
        clear ht ht8
        by_cases hi8 : i < 8
        · have i2 : (i : Int) < 8 := by omega
          clear hq
          go_wp2_with fail
          exact ⟨⟨i + 1, by omega, by go_num, by rw [HT2.out, ← HT.out, IntKind.wrap_u32]⟩, by simp [intOf]; omega⟩
        · obtain rfl : i = 8 := by omega
          clear hq
          have HT3 := hide (HT8.out rfl)
          go_wp2_with fail
          exact ⟨⟨k + 1, by omega, by go_num, by rw [HC2.out, HT3.out]⟩, by simp [intOf]; omega⟩
    · obtain rfl : k = n := by omega
      have hf := HF.out k
      have htk : xs.take k = xs := List.take_of_length_le (by have := HL.out; omega)
      have HK := hide (notx (cfold S0 xs) (by rw [htk] at hf; exact hf.1) (by rw [htk] at hf; exact hf.2))
      rw [htk]
      clear hf htk
      go_wp2
      go_ret
      refine ⟨?_, rfl⟩
      rw [HM.out, ← HK.out]
      rfl

set_option maxHeartbeats 1000000 in
theorem rmore_any (s : Int) (A : Option Addr) (n c : Nat) (xs : List Int) (w : World) (hr : Reads w w.heap.size 1 A n (xs.map (Value.int .u8))) (hs0 : 0 ≤ s) (hs1 : s ≤ 4294967295) (hx : ∀ x ∈ xs, 0 ≤ x ∧ x ≤ 255) (hn : n ≤ 100000) (hnc : n ≤ c) (hcm : c ≤ maxLen) :
    Calls Try.prog 14 #[.int .u32 s, .slice A n c] w fun e w' => e = .returned (.int .u32 (crcM s xs)) ∧ w' = w := by
  have hlen : xs.length = n := by simpa using hr.1
  obtain ⟨S0, hS0⟩ : ∃ z, bits .xor .u32 s 4294967295 = z := ⟨_, rfl⟩
  have HS0 := hide hS0
  have hS := bits_rng .xor s 4294967295
  rw [hS0] at hS
  have HF : Hid (∀ k, 0 ≤ cfold S0 (xs.take k) ∧ cfold S0 (xs.take k) ≤ 4294967295) := hide fun k => cfold_rng _ _ hS.1 hS.2
  have HX := hide hx
  have HR := hide hr
  have HL := hide hlen
  have HM := hide (show crcM s xs = bits .xor .u32 (cfold S0 xs) 4294967295 by rw [crcM, hS0])
  clear hx hr hlen hS0 hS
  go_enter Try.func14, Try.ntmps14
  go_wp2_with fail
  go_loop [0, 5] (fun a i => ∃ k : Nat, k ≤ n ∧ i = .int .i64 k ∧ a = .int .u32 (cfold S0 (xs.take k))) (fun _ i => n - (intOf i).toNat)
  case atStart => exact ⟨0, by omega, rfl, by rw [HS0.out]; simp [cfold]⟩
  case round =>
    obtain ⟨k, hk, rfl, rfl⟩ := hrel
    by_cases hlt : k < n
    · obtain ⟨b, off, rfl, _, hcell⟩ := HR.out.cells_ (by omega)
      have h1 : w.cell? ⟨b, off + k, none⟩ = some (.int .u8 (xs.getD k 0)) := hcell k _ (by have := HL.out; simp [List.getD, List.getElem?_eq_getElem (show k < xs.length by omega)])
      obtain ⟨x0, x1⟩ := HX.out (xs.getD k 0) (by have := HL.out; simp [List.getD, List.getElem?_eq_getElem (show k < xs.length by omega)])
      obtain ⟨p0, p1⟩ := HF.out k
      have HC := hide (cfold_get S0 xs k (by have := HL.out; omega))
      clear hcell
      generalize xs.getD k 0 = x at *
      generalize cfold S0 (xs.take k) = p at *
      obtain ⟨q, hq⟩ : ∃ z, bits .xor .u32 p x = z := ⟨_, rfl⟩
      have hqr := bits_rng .xor p x
      rw [hq] at hqr
      have HI : Hid (∀ k, 0 ≤ cit k q ∧ cit k q ≤ 4294967295) := hide fun k => cit_rng k q hqr.1 hqr.2
      have HC2 := hide (show cfold S0 (xs.take (k + 1)) = cit 8 q by rw [HC.out, cbyte, hq])
      clear HC hqr
      have i1 : (k : Int) < n := by omega
      have y1 : IntKind.u32.wrap x = x := by rw [IntKind.wrap_u32]; omega
      go_wp2_with fail
      go_loop [0, 6] (fun a j => ∃ i : Nat, i ≤ 8 ∧ j = .int .i64 i ∧ a = .int .u32 (cit i q)) (fun _ j => 8 - (intOf j).toNat)
      case atStart => exact ⟨0, by omega, rfl, rfl⟩
      case round =>
        obtain ⟨i, hi, rfl, rfl⟩ := hrel
        obtain ⟨t0, t1⟩ := HI.out i
        have HT2 := hide (show cit (i + 1) q = cstep (cit i q) from rfl)
        obtain ⟨t, ht⟩ : ∃ z, cit i q = z := ⟨_, rfl⟩
        have ht8 : i = 8 → cit 8 q = t := fun h => by rw [← h]; exact ht
        rw [ht] at t0 t1 HT2 ⊢
        have HT8 := hide ht8
        clear ht ht8
        by_cases hi8 : i < 8
        · have i2 : (i : Int) < 8 := by omega
          clear hq
          by_cases hodd : t % 2 = 1
          · have HE := hide (show cstep t = bits .xor .u32 (t / 2) 2197175160 by rw [cstep, if_pos hodd])
            go_wp2_with fail
            exact ⟨⟨i + 1, by omega, by go_num, by rw [HT2.out, HE.out]⟩, by simp [intOf]; omega⟩
          · have HE := hide (show cstep t = t / 2 by rw [cstep, if_neg hodd])
            have hev : t % 2 = 0 := by omega
            go_wp2_with fail
            exact ⟨⟨i + 1, by omega, by go_num, by rw [HT2.out, HE.out]⟩, by simp [intOf]; omega⟩
        · obtain rfl : i = 8 := by omega
          clear hq
          have HT3 := hide (HT8.out rfl)
          go_wp2_with fail
          exact ⟨⟨k + 1, by omega, by go_num, by rw [HC2.out, HT3.out]⟩, by simp [intOf]; omega⟩
    · obtain rfl : k = n := by omega
      have htk : xs.take k = xs := List.take_of_length_le (by have := HL.out; omega)
      rw [htk]
      clear htk
      go_wp2
      go_ret
      refine ⟨?_, rfl⟩
      rw [HM.out]
      rfl

theorem sum_any (A : Option Addr) (n c : Nat) (xs : List Int) (w : World) (hr : Reads w w.heap.size 1 A n (xs.map (Value.int .u8))) (hx : ∀ x ∈ xs, 0 ≤ x ∧ x ≤ 255) (hn : n ≤ 100000) (hnc : n ≤ c) (hcm : c ≤ maxLen) :
    Calls Try.prog 11 #[.slice A n c] w fun e w' => e = .returned (.int .u32 (crcM 0 xs)) ∧ w' = w := by
  go_enter Try.func11, Try.ntmps11
  go_wp2_with fail
  refine (more_any 0 A n c xs _ hr (by omega) (by omega) hx hn hnc hcm).mono ?_
  rintro e w' ⟨rfl, rfl⟩
  go_wp2
  go_ret
  exact ⟨rfl, rfl⟩
theorem rsum_any (A : Option Addr) (n c : Nat) (xs : List Int) (w : World) (hr : Reads w w.heap.size 1 A n (xs.map (Value.int .u8))) (hx : ∀ x ∈ xs, 0 ≤ x ∧ x ≤ 255) (hn : n ≤ 100000) (hnc : n ≤ c) (hcm : c ≤ maxLen) :
    Calls Try.prog 12 #[.slice A n c] w fun e w' => e = .returned (.int .u32 (crcM 0 xs)) ∧ w' = w := by
  go_enter Try.func12, Try.ntmps12
  go_wp2_with fail
  refine (rmore_any 0 A n c xs _ hr (by omega) (by omega) hx hn hnc hcm).mono ?_
  rintro e w' ⟨rfl, rfl⟩
  go_wp2
  go_ret
  exact ⟨rfl, rfl⟩

theorem marked_reads (w : World) (C : Array Value) (e : TypeId) (fr : Nat × Nat) : Reads (w.alloc (.cells C e fr)) (w.alloc (.cells C e fr)).heap.size 1 (some ⟨w.heap.size, 0, none⟩) C.size C.toList := by
  refine ⟨by simp, fun _ => ⟨_, rfl, by simp, fun j u hu => ?_⟩⟩
  have e : (⟨w.heap.size, 0, none⟩ : Addr).add j = ⟨w.heap.size, j, none⟩ := by unfold Addr.add; split <;> simp_all
  rw [e]
  simp only [World.cell?, World.alloc, Array.getElem?_push, if_true]
  simpa using hu
set_option maxHeartbeats 800000 in
theorem awake03_ok (w : World) : Calls Try.prog 10 #[] w fun e w' => e = .returned (.bool true) ∧ Below w.heap.size w w' := by
  have kc := fun (w : World) (C : Array Value) (n c : Nat) => Lib.run_convert_bytes_const (P := Try.prog) w 27 5 C n c Try.underlying27 Try.underlying5
  go_enter Try.func10, Try.ntmps10
  go_wp2_with fail
  refine (sum_any _ 9 9 [49, 50, 51, 52, 53, 54, 55, 56, 57] _ (marked_reads w #[Value.int .u8 49, Value.int .u8 50, Value.int .u8 51, Value.int .u8 52, Value.int .u8 53, Value.int .u8 54, Value.int .u8 55, Value.int .u8 56, Value.int .u8 57] 5 (9, 10)) (by decide) (by omega) (by omega) (by simp [maxLen])).mono ?_
  rintro e w1 ⟨rfl, rfl⟩
  rw [crc_digits]
  go_wp2
  go_ret
  exact ⟨rfl, (Below.refl _ _).alloc (Nat.le_refl _) _⟩
theorem Try.infobyte : (Try.prog.info? 5).map (fun i => (i.zero, i.size, i.bytes)) = some (some (.int .u8 0), 1, 1) := by kernel_rfl
end Go.Proofs.Ytbbldkcakepnoaa
