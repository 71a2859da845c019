/- The law CrcOpens, where both are short. -/
import Derived.Test.YtbbldkcakepnoaaCE
import Derived.Deep.RegionHeld
namespace Go.Proofs.Ytbbldkcakepnoaa
open Go.RowKit Go.Lib

theorem openV_len (xs : List Int) : (openV xs).length ≤ xs.length := by
  unfold openV
  split
  · simp
  · simp

set_option maxRecDepth 100000 in
set_option maxHeartbeats 4000000 in
theorem opens_law (a0 : Option Addr) (len0 cap0 : Nat) (xs : List Int) (a1 : Option Addr) (len1 cap1 : Nat) (ys : List Int) (w : World) (hra : Reads w w.heap.size 1 a0 len0 (xs.map (Value.int .u8))) (hrb : Reads w w.heap.size 1 a1 len1 (ys.map (Value.int .u8)))
    (hxr : ∀ x ∈ xs, 0 ≤ x ∧ x ≤ 255) (hyr : ∀ x ∈ ys, 0 ≤ x ∧ x ≤ 255) (h1 : len0 ≤ 2000) (h2 : len1 ≤ 2000) (hca : len0 ≤ cap0) (hma : cap0 ≤ maxLen) (hcb : len1 ≤ cap1) (hmb : cap1 ≤ maxLen) :
    Calls Try.prog 5 #[.slice a0 len0 cap0, .slice a1 len1 cap1] w fun e w' => e = .returned (.bool true) ∧ Below w.heap.size w w' := by
      have hla : xs.length = len0 := by simpa using hra.1
      have HXR := hide hxr
      have HYR := hide hyr
      have HLA := hide hla
      clear hxr hyr hla
      have i1 : ¬ (2000 : Int) < (len0 : Int) := by omega
      have i2 : ¬ (2000 : Int) < (len1 : Int) := by omega
      have RA := hide hra
      have RB := hide hrb
      have HSL := hide (sealB_len xs)
      have HSR := hide (sealB_rng xs HXR.out)
      have HOS := hide (openC_seal xs)
      obtain ⟨sx, hsx⟩ : ∃ z, sealB xs = z := ⟨_, rfl⟩
      rw [hsx] at HSL HSR HOS
      have HSX := hide hsx
      obtain ⟨cy, hcy⟩ : ∃ z, openC ys = z := ⟨_, rfl⟩
      obtain ⟨vy, hvy⟩ : ∃ z, openV ys = z := ⟨_, rfl⟩
      have HCY := hide hcy
      have HVY := hide hvy
      have hvl : vy.length ≤ 2000 := by
        have g1 := openV_len ys
        have g2 : ys.length = len1 := by simpa using hrb.1
        rw [hvy] at g1
        omega
      clear hra hrb hsx hcy hvy
      go_enter Try.func5, Try.ntmps5
      go_wp2_with fail
      refine (awake03_ok _).mono ?_
      rintro e w1 ⟨rfl, hb1⟩
      have HA1 := hide ((RA.out.below hb1).more hb1.size)
      go_wp2_with fail
      refine (seal_any a0 len0 cap0 xs _ HA1.out HXR.out (by omega) hca hma).mono ?_
      rintro e w2 ⟨v2, rfl, hown2, hb2⟩
      rw [HSX.out] at hown2
      obtain ⟨S2, d2, rfl, hd2, hm2, hS2⟩ := own_reads hown2
      have HS2 := hide hS2
      have hB2 := bchain hb1 hb2
      clear hown2 hS2
      go_wp2_with fail
      refine (open_any S2 (len0 + 4) d2 sx _ HS2.out HSR.out (by omega) hd2 hm2).mono ?_
      rintro e w3 ⟨v3, rfl, hown3, hb3⟩
      rw [HOS.out.2, HLA.out] at hown3
      rw [HOS.out.1]
      obtain ⟨C3, d3, rfl, hd3, hm3, hC3⟩ := own_reads hown3
      have HC3 := hide hC3
      have HS3 := hide ((HS2.out.below hb3).more hb3.size)
      have hB3 := bchain hB2 hb3
      have HB3 := hide ((RB.out.below hB3).more hB3.size)
      clear hown3 hC3
      go_wp2_with fail
      refine (open_any a1 len1 cap1 ys _ HB3.out HYR.out (by omega) hcb hmb).mono ?_
      rintro e w4 ⟨v4, rfl, hown4, hb4⟩
      rw [HVY.out] at hown4
      have HB4 := hide ((HB3.out.below hb4).more hb4.size)
      have hB4 := bchain hB3 hb4
      rw [HCY.out]
      go_wp2_with fail
      refine (ropen_any a1 len1 cap1 ys _ HB4.out HYR.out (by omega) hcb hmb).mono ?_
      rintro e w5 ⟨X, m5, c5, rfl, hX, hb5⟩
      rw [HVY.out] at hX
      rw [HCY.out]
      have hown5 := own_below hown4 hb5
      have hB5 := bchain hB4 hb5
      have hW5 : Below w3.heap.size w3 w5 := bchain hb4 hb5
      have HX5 := hide (hX.more (Nat.le_trans hb5.size (Nat.le_refl _)))
      have HA5 := hide ((RA.out.below hB5).more hB5.size)
      have HS5 := hide ((HS3.out.below hW5).more hW5.size)
      have HC5 := hide ((HC3.out.below hW5).more hW5.size)
      obtain ⟨D5, d5, rfl, hd5, hm5, hD5⟩ := own_reads hown5
      have HD5 := hide hD5
      have e1 : ((strOfNums sx).toList == (strOfNums sx).toList) = true := by simp
      have e2 : ((strOfNums xs).toList == (strOfNums xs).toList) = true := by simp
      have e3 : ((strOfNums vy).toList == (strOfNums vy).toList) = true := by simp
      have e4 : (cy != cy) = false := by simp
      have q0 := conv_reads (P := Try.prog) 27 5 9 Try.underlying27 Try.underlying5 Try.underlying9 HS5.out.drew d2
      have hbD : Below w5.heap.size w5 w5.drew := (Below.refl _ _).drew
      have hsz := hB3.size
      clear hX hD5 hown4 hb5 hb4 hb3 hb2 hb1 hB2 hB3 hB4
      go_wp2_with fail
      obtain ⟨s1, s2, s3, s4, s5⟩ : Reads w5.drew w5.heap.size 1 S2 (len0 + 4) (sx.map (Value.int .u8)) ∧ Reads w5.drew w5.heap.size 1 C3 len0 (xs.map (Value.int .u8)) ∧ Reads w5.drew w5.heap.size 1 a0 len0 (xs.map (Value.int .u8)) ∧ Reads w5.drew w5.heap.size 1 D5 vy.length (vy.map (Value.int .u8)) ∧ Reads w5.drew w5.heap.size 1 X m5 (vy.map (Value.int .u8)) := ⟨HS5.out, HC5.out, HA5.out, HD5.out, HX5.out⟩
      go_region_held (fun w' => Reads w' w5.heap.size 1 S2 (len0 + 4) (sx.map (Value.int .u8)) ∧ Reads w' w5.heap.size 1 C3 len0 (xs.map (Value.int .u8)) ∧ Reads w' w5.heap.size 1 a0 len0 (xs.map (Value.int .u8)) ∧ Reads w' w5.heap.size 1 D5 vy.length (vy.map (Value.int .u8)) ∧ Reads w' w5.heap.size 1 X m5 (vy.map (Value.int .u8)) ∧ Below w5.heap.size w5 w')
        (first
        | exact ⟨s1, s2, s3, s4, s5, hbD⟩
        | (go_split_ands; refine ⟨Reads.below ?_ hbq, Reads.below ?_ hbq, Reads.below ?_ hbq, Reads.below ?_ hbq, Reads.below ?_ hbq, bchain ?_ hbq⟩ <;> assumption))
        (first
        | (go_at_call 18; refine (rseal_any a0 len0 cap0 xs _ HA5.out.drew HXR.out (by omega) hca hma).mono ?_; rintro e wq ⟨v6, rfl, hown6, hbq⟩; rw [HSX.out] at hown6; obtain ⟨R6, d6, rfl, hd6, hm6, hR6⟩ := own_reads hown6; have q1 := conv_reads (P := Try.prog) 27 5 9 Try.underlying27 Try.underlying5 Try.underlying9 (HS5.out.drew.below hbq) d2; have q2 := conv_reads (P := Try.prog) 27 5 9 Try.underlying27 Try.underlying5 Try.underlying9 hR6 d6; have q3 := conv_reads (P := Try.prog) 27 5 9 Try.underlying27 Try.underlying5 Try.underlying9 (HC5.out.drew.below hbq) d3; have q4 := conv_reads (P := Try.prog) 27 5 9 Try.underlying27 Try.underlying5 Try.underlying9 (HA5.out.drew.below hbq) cap0; have q5 := conv_reads (P := Try.prog) 27 5 9 Try.underlying27 Try.underlying5 Try.underlying9 (HD5.out.drew.below hbq) d5; have q6 := conv_reads (P := Try.prog) 27 5 9 Try.underlying27 Try.underlying5 Try.underlying9 (HX5.out.drew.below hbq) c5))
      all_goals (
        rename_i hh
        obtain ⟨-, -, -, -, -, hBf⟩ := hh
        have hT : Below w3.heap.size w3 wq := bchain hW5 hBf
        have hTB : Below w.heap.size w wq := bchain hB5 hBf
        have hown7 := own_below hown5 hBf
        have HBq := hide (HB3.out.below hT)
        have hqb := conv_reads (P := Try.prog) 27 5 9 Try.underlying27 Try.underlying5 Try.underlying9 HBq.out cap1
        clear s1 s2 s3 s4 s5 q0 q1 q2 q3 q4 q5 q6 hR6 hown6 hbq hown5 hBf hbD HX5 HA5 HS5 HC5 HD5 hW5 hB5
        go_wp2_with fail
        go_loopw [13] (fun i wr => ∃ (k : Nat) (zs : List Int), i = .int .i64 k ∧ k ≤ vy.length ∧ zs.length = vy.length ∧ wr.ownsRow w3.heap.size 5 1 (.slice D5 vy.length d5) vy.length (zs.map (Value.int .u8)) ∧ Below w3.heap.size w3 wr ∧ Below w.heap.size w wr) (fun i _ => vy.length - (intOf i).toNat)
        case atStart => exact ⟨0, vy, rfl, by omega, rfl, hown7, hT, hTB⟩
        case round =>
          obtain ⟨k, zs, rfl, hk, hz, hown, hb3, hb⟩ := hrel
          clear hown7 hT hTB hqb
          by_cases hlt : k < vy.length
          · obtain ⟨g, cap, hv, hg1, hg2, hgn, hgm, hgc⟩ := own_form hown (by omega)
            cases hv
            have hcw : wr.cell? ⟨g, k, none⟩ = some (.int .u8 (zs.getD k 0)) := by
              rw [hown.cellAt k (by omega), List.getElem?_map]
              simp [List.getD, List.getElem?_eq_getElem (show k < zs.length by omega)]
            have hfw := hown.frozenAt k
            generalize zs.getD k 0 = z at hcw
            have hown2 := (World.ownsRow.stored hown k (.int .u8 (bits .xor .u8 z 255))).1
            rw [← List.map_set] at hown2
            have HO2 := hide hown2
            have HLT := hide hlt
            have HG := hide (Nat.le_trans hsz hg1)
            clear hown2 hown hgc
            have ik : (k : Int) < (vy.length : Int) := by omega
            go_wp2_with fail
            exact ⟨⟨k + 1, zs.set k (bits .xor .u8 z 255), by go_num, HLT.out, by rw [List.length_set]; exact hz, HO2.out, hb3.setCell hg1 _, hb.setCell HG.out _⟩, by have := HLT.out; simp [intOf]; omega⟩
          · have hk2 : k = vy.length := by omega
            subst hk2
            have hqw := conv_reads (P := Try.prog) 27 5 9 Try.underlying27 Try.underlying5 Try.underlying9 (HB3.out.below hb3) cap1
            clear hown
            go_wp2_with fail
            go_ret
            exact ⟨by simp, hb⟩)
end Go.Proofs.Ytbbldkcakepnoaa
