/- Contracts of crc.Open and the document's own Open. -/
import Derived.Test.YtbbldkcakepnoaaCD
import Derived.Deep.RegionWith
import Derived.Deep.RegionHeld3
namespace Go.Proofs.Ytbbldkcakepnoaa
open Go.RowKit Go.Lib

def openC (xs : List Int) : Int := if xs.length < 4 then 14 else if sealB (xs.take (xs.length - 4)) = xs then 0 else 10
def openV (xs : List Int) : List Int := if openC xs = 0 then xs.take (xs.length - 4) else []
theorem openC_short {xs : List Int} (h : xs.length < 4) : openC xs = 14 ∧ openV xs = [] := by
  have : openC xs = 14 := by rw [openC, if_pos h]
  exact ⟨this, by rw [openV, this, if_neg (by decide)]⟩
theorem openC_yes {xs : List Int} (h : 4 ≤ xs.length) (hs : sealB (xs.take (xs.length - 4)) = xs) : openC xs = 0 ∧ openV xs = xs.take (xs.length - 4) := by
  have : openC xs = 0 := by rw [openC, if_neg (by omega), if_pos hs]
  exact ⟨this, by rw [openV, this, if_pos rfl]⟩
theorem openC_no {xs : List Int} (h : 4 ≤ xs.length) (hs : sealB (xs.take (xs.length - 4)) ≠ xs) : openC xs = 10 ∧ openV xs = [] := by
  have : openC xs = 10 := by rw [openC, if_neg (by omega), if_neg hs]
  exact ⟨this, by rw [openV, this, if_neg (by decide)]⟩
theorem openC_seal (xs : List Int) : openC (sealB xs) = 0 ∧ openV (sealB xs) = xs := by
  have h1 := sealB_len xs
  have h2 : (sealB xs).take ((sealB xs).length - 4) = xs := by rw [h1]; simp [sealB]
  obtain ⟨a, b⟩ := openC_yes (xs := sealB xs) (by omega) (by rw [h2])
  exact ⟨a, by rw [b, h2]⟩
theorem tail_is (xs : List Int) (h : 4 ≤ xs.length) : (tailB (crcM 0 (xs.take (xs.length - 4))) = xs.drop (xs.length - 4)) ↔ sealB (xs.take (xs.length - 4)) = xs := by
  have h1 := List.take_append_drop (xs.length - 4) xs
  unfold sealB
  constructor
  · intro h2
    rw [h2, h1]
  · intro h2
    rw [← h1] at h2
    have h3 : (List.take (xs.length - 4) xs ++ List.drop (xs.length - 4) xs).length = xs.length := by rw [h1]
    rw [h3] at h2
    have h4 : List.take (xs.length - 4) (List.take (xs.length - 4) xs ++ List.drop (xs.length - 4) xs) = List.take (xs.length - 4) xs := by rw [h1]
    rw [h4] at h2
    exact List.append_cancel_left h2

def OpenOk (w : World) (xs : List Int) (e : Ending) (w' : World) : Prop := ∃ v, e = .returned (.tuple #[v, .int .i64 (openC xs)]) ∧ w'.ownsRow w.heap.size 5 1 v (openV xs).length ((openV xs).map (Value.int .u8)) ∧ Below w.heap.size w w'

set_option maxRecDepth 100000 in
set_option maxHeartbeats 1000000 in
theorem open_any (A : Option Addr) (n c : Nat) (xs : List Int) (w : World) (hr : Reads w w.heap.size 1 A n (xs.map (Value.int .u8))) (hx : ∀ x ∈ xs, 0 ≤ x ∧ x ≤ 255) (hn : n ≤ 80000) (hnc : n ≤ c) (hcm : c ≤ maxLen) :
    Calls Try.prog 16 #[.slice A n c] w fun e w' => OpenOk w xs e w' := by
  have hlen : xs.length = n := by simpa using hr.1
  have HR := hide hr
  have HX := hide hx
  have HL := hide hlen
  clear hr hx hlen
  by_cases h4 : n < 4
  · have i1 : (n : Int) < 4 := by omega
    go_enter Try.func16, Try.ntmps16
    go_wp2_with fail
    go_ret2
    obtain ⟨a, b⟩ := openC_short (xs := xs) (by rw [HL.out]; exact h4)
    refine ⟨.slice none 0 0, by rw [a]; rfl, ?_, Below.refl _ _⟩
    rw [b]
    exact ⟨rfl, .inl ⟨rfl, rfl⟩⟩
  · obtain ⟨b, off, rfl, _, _⟩ := HR.out.cells_ (by omega)
    have hsub := Reads.sub (k := 0) (m := n - 4) HR.out (by omega)
    rw [List.drop_zero, Nat.add_zero] at hsub
    have HSub := hide hsub
    have HXS : Hid (∀ x ∈ xs.take (n - 4), 0 ≤ x ∧ x ≤ 255) := hide fun x hx => HX.out x (List.mem_of_mem_take hx)
    have HSR := hide (sealB_rng _ HXS.out)
    clear hsub
    have hc4 : n - 4 ≤ c := by omega
    have i1 : ¬ (n : Int) < 4 := by omega
    have i2 : ((n : Int) - 4) = ((n - 4 : Nat) : Int) := by omega
    go_enter Try.func16, Try.ntmps16
    go_wp2_with fail
    refine (seal_any (some ⟨b, off, none⟩) (n - 4) c (xs.take (n - 4)) _ HSub.out HXS.out (by omega) hc4 hcm).mono ?_
    rintro e w1 ⟨v, rfl, hown, hb1⟩
    obtain ⟨T, d, rfl, hd, hm, hT⟩ := own_reads hown
    have HT := hide hT
    have HR1 := hide ((HR.out.below hb1).more hb1.size)
    clear hT hown
    go_wp2_with fail
    refine (equal_any T (n - 4 + 4) d (sealB (xs.take (n - 4))) (some ⟨b, off, none⟩) n c xs _ HT.out HR1.out HSR.out HX.out).mono ?_
    rintro e w2 ⟨rfl, hb2⟩
    have hb := bchain hb1 hb2
    by_cases hs : sealB (xs.take (n - 4)) = xs
    · have HS := hide hs
      clear hs
      rw [show decide (sealB (xs.take (n - 4)) = xs) = true by simpa using HS.out]
      go_wp2_with fail
      refine (clone_any (some ⟨b, off, none⟩) (n - 4) c (xs.take (n - 4)) _ ((HSub.out.below hb).more hb.size) (by omega)).mono ?_
      rintro e w3 ⟨v, rfl, hown3, hb3⟩
      go_wp2_with fail
      go_ret2
      obtain ⟨x, y⟩ := openC_yes (xs := xs) (by rw [HL.out]; omega) (by rw [HL.out]; exact HS.out)
      refine ⟨v, by rw [x]; rfl, ?_, bchain hb hb3⟩
      rw [y, HL.out, show (xs.take (n - 4)).length = n - 4 by have := HL.out; simp; omega]
      exact ⟨hown3.1, hown3.2.imp id fun ⟨g, cap, cur, h1, h2, h3⟩ => ⟨g, cap, cur, h1, Nat.le_trans hb.size h2, h3⟩⟩
    · have HS := hide hs
      clear hs
      rw [show decide (sealB (xs.take (n - 4)) = xs) = false by simpa using HS.out]
      go_wp2_with fail
      go_ret2
      obtain ⟨x, y⟩ := openC_no (xs := xs) (by rw [HL.out]; omega) (by rw [HL.out]; exact HS.out)
      refine ⟨.slice none 0 0, by rw [x]; rfl, ?_, hb⟩
      rw [y]
      exact ⟨rfl, .inl ⟨rfl, rfl⟩⟩

/-- The document's own Open: a part of what came in, or nil. -/
def ROpenOk (w : World) (xs : List Int) (e : Ending) (w' : World) : Prop := ∃ A m c, e = .returned (.tuple #[.slice A m c, .int .i64 (openC xs)]) ∧ Reads w' w.heap.size 1 A m ((openV xs).map (Value.int .u8)) ∧ Below w.heap.size w w'

set_option maxRecDepth 100000 in
set_option maxHeartbeats 1000000 in
theorem ropen_any (A : Option Addr) (n c : Nat) (xs : List Int) (w : World) (hr : Reads w w.heap.size 1 A n (xs.map (Value.int .u8))) (hx : ∀ x ∈ xs, 0 ≤ x ∧ x ≤ 255) (hn : n ≤ 80000) (hnc : n ≤ c) (hcm : c ≤ maxLen) :
    Calls Try.prog 17 #[.slice A n c] w fun e w' => ROpenOk w xs e w' := by
  have hlen : xs.length = n := by simpa using hr.1
  have HR := hide hr
  have HX := hide hx
  have HL := hide hlen
  clear hr hx hlen
  by_cases h4 : n < 4
  · have i1 : (n : Int) < 4 := by omega
    go_enter Try.func17, Try.ntmps17
    go_wp2_with fail
    go_ret2
    obtain ⟨a, b⟩ := openC_short (xs := xs) (by rw [HL.out]; exact h4)
    refine ⟨none, 0, 0, by rw [a]; rfl, ?_, Below.refl _ _⟩
    rw [b]
    exact Reads.none_
  · obtain ⟨b, off, rfl, _, _⟩ := HR.out.cells_ (by omega)
    have hsub := Reads.sub (k := 0) (m := n - 4) HR.out (by omega)
    rw [List.drop_zero, Nat.add_zero] at hsub
    have HSub := hide hsub
    have hsub4 := Reads.sub (k := n - 4) (m := n - (n - 4)) HR.out (by omega)
    rw [List.take_of_length_le (by have := HL.out; simp; omega)] at hsub4
    have HSub4 := hide hsub4
    have HXS : Hid (∀ x ∈ xs.take (n - 4), 0 ≤ x ∧ x ≤ 255) := hide fun x hx => HX.out x (List.mem_of_mem_take hx)
    have HX4 : Hid (∀ x ∈ xs.drop (n - 4), 0 ≤ x ∧ x ≤ 255) := hide fun x hx => HX.out x (List.mem_of_mem_drop hx)
    have hs := crcM_rng 0 (xs.take (n - 4))
    have HTI := hide (tail_is xs (by rw [HL.out]; omega))
    rw [HL.out] at HTI
    obtain ⟨s, hs2⟩ : ∃ z, crcM 0 (xs.take (n - 4)) = z := ⟨_, rfl⟩
    rw [hs2] at hs HTI
    have HS2 := hide hs2
    have HTR := hide (tailB_rng s hs.1 hs.2)
    clear hsub hsub4 hs2
    have hc4 : n - 4 ≤ c := by omega
    have i1 : ¬ (n : Int) < 4 := by omega
    have i2 : ((n : Int) - 4) = ((n - 4 : Nat) : Int) := by omega
    go_enter Try.func17, Try.ntmps17
    go_wp2_with fail
    have q1 := conv_reads (P := Try.prog) 27 5 9 Try.underlying27 Try.underlying5 Try.underlying9 HSub4.out.drew (c - (n - 4))
    go_region_with (first
      | (go_at_call 12; refine (rsum_any (some ⟨b, off, none⟩) (n - 4) c (xs.take (n - 4)) _ HSub.out.drew HXS.out (by omega) hc4 hcm).mono ?_; rintro e w1 ⟨rfl, hw1⟩; obtain rfl := hw1.symm; rw [HS2.out])
      | (go_at_call 25; refine (tail_any s _ hs.1 hs.2).mono ?_; rintro e w2 ⟨v2, rfl, hown2, hb2⟩; obtain ⟨T, d, rfl, hd, hm, hT⟩ := own_reads hown2; have q2 := conv_reads (P := Try.prog) 27 5 9 Try.underlying27 Try.underlying5 Try.underlying9 hT d; have q3 := conv_reads (P := Try.prog) 27 5 9 Try.underlying27 Try.underlying5 Try.underlying9 (HSub4.out.drew.below hb2) (c - (n - 4))))
    all_goals (
      have hB : Below w.heap.size w w2 := bchain (Below.refl w.heap.size w).drew hb2
      clear q1 q2 q3 hown2 hd hm hT hb2
      by_cases ht : tailB s = xs.drop (n - 4)
      · have HS := hide (HTI.out.1 ht)
        rw [ht]
        clear ht
        simp only [beq_self_eq_true, Bool.not_true]
        go_wp2
        go_ret2
        obtain ⟨x, y⟩ := openC_yes (xs := xs) (by rw [HL.out]; omega) (by rw [HL.out]; exact HS.out)
        refine ⟨some ⟨b, off, none⟩, n - 4, c, by rw [x]; rfl, ?_, hB⟩
        rw [y, HL.out]
        exact HSub.out.below hB
      · have hne := str_ne (fun he => ht (strOfNums_inj HTR.out HX4.out he))
        have HS := hide (fun he => ht (HTI.out.2 he))
        clear ht
        simp only [hne, Bool.not_false]
        go_wp2
        go_ret2
        obtain ⟨x, y⟩ := openC_no (xs := xs) (by rw [HL.out]; omega) (by rw [HL.out]; exact HS.out)
        refine ⟨none, 0, 0, by rw [x]; rfl, ?_, hB⟩
        rw [y]
        exact Reads.none_)
end Go.Proofs.Ytbbldkcakepnoaa
