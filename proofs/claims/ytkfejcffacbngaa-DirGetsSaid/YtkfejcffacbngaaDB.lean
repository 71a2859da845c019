import Derived.Test.YtkfejcffacbngaaDA

namespace Go.Proofs.Ytkfejcffacbngaa

open Go Go.Sym

set_option linter.unusedVariables false

abbrev II : List ArgK := [.int .i64, .int .i64]

def pcTiles : Pc := ⟨38, II, [.int .i64, .int .i64], 50, [], []⟩

def pcTilesR : Pc := ⟨39, II, [.int .i64, .int .i64], 50, [], []⟩

def pcSize : Pc := ⟨40, II, [.int .i64, .int .i64], 52, [], []⟩

def pcSizeR : Pc := ⟨41, II, [.int .i64, .int .i64], 52, [], []⟩

theorem tiles_entry : entryK Try.prog [pcWithin.ct] 50 200 38 [] 2 (argSVs 0 II) 8 [] = some [([(.cmp .eql (.app 25 (.acons (.rcons (.lit 0) (.rcons (.lit 0) (.rcons (.lit 0) (.rcons (.lit 0) .rnil)))) (.acons (.rcons (.var 0) .rnil) (.acons (.rcons (.var 1) .rnil) .anil)))) (.lit 0), true)], .ret (.tuple [.sint .i64 (.bin .mul .i64 (.bin .quo .i64 (.bin .sub .i64 (.bin .add .i64 (.var 0) (.lit 16)) (.lit 1)) (.lit 16)) (.bin .quo .i64 (.bin .sub .i64 (.bin .add .i64 (.var 1) (.lit 16)) (.lit 1)) (.lit 16))), .int .i64 0]) ⟨0, .nil⟩), ([(.cmp .eql (.app 25 (.acons (.rcons (.lit 0) (.rcons (.lit 0) (.rcons (.lit 0) (.rcons (.lit 0) .rnil)))) (.acons (.rcons (.var 0) .rnil) (.acons (.rcons (.var 1) .rnil) .anil)))) (.lit 0), false)], .ret (.tuple [.int .i64 0, .sint .i64 (.app 25 (.acons (.rcons (.lit 0) (.rcons (.lit 0) (.rcons (.lit 0) (.rcons (.lit 0) .rnil)))) (.acons (.rcons (.var 0) .rnil) (.acons (.rcons (.var 1) .rnil) .anil))))]) ⟨0, .nil⟩)] := by kernel_rfl

theorem tilesR_entry : entryK Try.prog [pcPiecesR.ct] 50 200 39 [] 2 (argSVs 0 II) 8 [] = some [([(.cmp .lss (.var 0) (.lit 1), true)], .ret (.tuple [.int .i64 0, .int .i64 3]) ⟨0, .nil⟩), ([(.cmp .lss (.lit 1024) (.var 0), true), (.cmp .lss (.var 0) (.lit 1), false)], .ret (.tuple [.int .i64 0, .int .i64 3]) ⟨0, .nil⟩), ([(.cmp .lss (.var 1) (.lit 1), true), (.cmp .lss (.lit 1024) (.var 0), false), (.cmp .lss (.var 0) (.lit 1), false)], .ret (.tuple [.int .i64 0, .int .i64 3]) ⟨0, .nil⟩), ([(.cmp .lss (.lit 1024) (.var 1), true), (.cmp .lss (.var 1) (.lit 1), false), (.cmp .lss (.lit 1024) (.var 0), false), (.cmp .lss (.var 0) (.lit 1), false)], .ret (.tuple [.int .i64 0, .int .i64 3]) ⟨0, .nil⟩), ([(.cmp .lss (.lit 0) (.rlen (.rapp 31 (.acons (.rcons (.lit 0) (.rcons (.lit 0) (.rcons (.bin .sub .i64 (.var 0) (.lit 1)) (.rcons (.bin .sub .i64 (.var 1) (.lit 1)) .rnil)))) .anil)) 4), true), (.cmp .lss (.lit 1024) (.var 1), false), (.cmp .lss (.var 1) (.lit 1), false), (.cmp .lss (.lit 1024) (.var 0), false), (.cmp .lss (.var 0) (.lit 1), false)], .ret (.tuple [.sint .i64 (.rlen (.rapp 31 (.acons (.rcons (.lit 0) (.rcons (.lit 0) (.rcons (.bin .sub .i64 (.var 0) (.lit 1)) (.rcons (.bin .sub .i64 (.var 1) (.lit 1)) .rnil)))) .anil)) 4), .int .i64 0]) ⟨0, .nil⟩), ([(.cmp .lss (.lit 0) (.rlen (.rapp 31 (.acons (.rcons (.lit 0) (.rcons (.lit 0) (.rcons (.bin .sub .i64 (.var 0) (.lit 1)) (.rcons (.bin .sub .i64 (.var 1) (.lit 1)) .rnil)))) .anil)) 4), false), (.cmp .lss (.lit 1024) (.var 1), false), (.cmp .lss (.var 1) (.lit 1), false), (.cmp .lss (.lit 1024) (.var 0), false), (.cmp .lss (.var 0) (.lit 1), false)], .ret (.tuple [.int .i64 0, .int .i64 0]) ⟨0, .nil⟩)] := by kernel_rfl

theorem size_entry : entryK Try.prog [pcTiles.ct] 50 200 40 [] 2 (argSVs 0 II) 8 [] = some [([(.cmp .eql (.app 51 (.acons (.rcons (.var 0) .rnil) (.acons (.rcons (.var 1) .rnil) .anil))) (.lit 0), true)], .ret (.tuple [.sint .i64 (.bin .add .i64 (.lit 13) (.bin .mul .i64 (.lit 8) (.app 50 (.acons (.rcons (.var 0) .rnil) (.acons (.rcons (.var 1) .rnil) .anil))))), .int .i64 0]) ⟨0, .nil⟩), ([(.cmp .eql (.app 51 (.acons (.rcons (.var 0) .rnil) (.acons (.rcons (.var 1) .rnil) .anil))) (.lit 0), false)], .ret (.tuple [.int .i64 0, .sint .i64 (.app 51 (.acons (.rcons (.var 0) .rnil) (.acons (.rcons (.var 1) .rnil) .anil)))]) ⟨0, .nil⟩)] := by kernel_rfl

theorem sizeR_entry : entryK Try.prog [pcTilesR.ct] 50 200 41 [] 2 (argSVs 0 II) 8 [] = some [([(.cmp .eql (.app 51 (.acons (.rcons (.var 0) .rnil) (.acons (.rcons (.var 1) .rnil) .anil))) (.lit 0), true)], .ret (.tuple [.sint .i64 (.bin .add .i64 (.lit 13) (.bin .mul .i64 (.lit 8) (.app 50 (.acons (.rcons (.var 0) .rnil) (.acons (.rcons (.var 1) .rnil) .anil))))), .int .i64 0]) ⟨0, .nil⟩), ([(.cmp .eql (.app 51 (.acons (.rcons (.var 0) .rnil) (.acons (.rcons (.var 1) .rnil) .anil))) (.lit 0), false)], .ret (.tuple [.int .i64 0, .sint .i64 (.app 51 (.acons (.rcons (.var 0) .rnil) (.acons (.rcons (.var 1) .rnil) .anil)))]) ⟨0, .nil⟩)] := by kernel_rfl

theorem tile_len1 {x0 y0 x1 y1 X Y : Int} (h : meetsP x0 y0 x1 y1 (16 * X) (16 * Y) (16 * X + 15) (16 * Y + 15)) : (tileL x0 y0 x1 y1 X Y).length = 4 := by
  rw [tileL, if_pos h, meetL_len]

theorem row_count {w h : Int} (hs : szOk w h) {Y : Int} (hY : 0 ≤ Y ∧ 16 * Y < h) : ∀ n : Nat, ((rowT 0 0 (w - 1) (h - 1) Y n).length : Int) = 4 * min (n : Int) ((w + 15) / 16)
  | 0 => by unfold szOk at hs; simp [rowT]; omega
  | n + 1 => by
    have hs' := hs
    unfold szOk at hs'
    have ih := row_count hs hY n
    rw [rowT, List.length_append]
    by_cases hm : 16 * (n : Int) < w
    · rw [tile_len1 (by unfold meetsP rightP; omega)]; omega
    · rw [tile_no (by unfold meetsP rightP; omega)]; simp; omega

theorem all_count {w h : Int} (hs : szOk w h) {m : Nat} (hm : m = 64) : ∀ n : Nat, ((List.flatten (List.map (fun Y : Nat => rowT 0 0 (w - 1) (h - 1) Y m) (List.range n))).length : Int) = 4 * ((w + 15) / 16) * min (n : Int) ((h + 15) / 16)
  | 0 => by unfold szOk at hs; rw [show min (((0 : Nat)) : Int) ((h + 15) / 16) = 0 by omega, Int.mul_zero]; rfl
  | n + 1 => by
    have hs' := hs
    unfold szOk at hs'
    have ih := all_count hs hm n
    rw [List.range_succ, List.map_append, List.flatten_append, List.length_append]
    by_cases hq : 16 * (n : Int) < h
    · have := row_count hs (Y := n) (by omega) m
      simp only [List.map_cons, List.map_nil, List.flatten_cons, List.flatten_nil, List.append_nil]
      have e1 : min (m : Int) ((w + 15) / 16) = (w + 15) / 16 := by omega
      have e2 : min ((n + 1 : Nat) : Int) ((h + 15) / 16) = min (n : Int) ((h + 15) / 16) + 1 := by omega
      rw [e1] at this
      rw [e2, Int.mul_add, Int.mul_one, Int.natCast_add, ih, this]
    · simp only [List.map_cons, List.map_nil, List.flatten_cons, List.flatten_nil, List.append_nil]
      rw [rowT_out (by omega)]
      have e2 : min ((n + 1 : Nat) : Int) ((h + 15) / 16) = min (n : Int) ((h + 15) / 16) := by omega
      rw [e2, ← ih]; simp

theorem allT_flat (x0 y0 x1 y1 : Int) : ∀ n : Nat, allT x0 y0 x1 y1 n = List.flatten (List.map (fun Y : Nat => rowT x0 y0 x1 y1 Y 64) (List.range n))
  | 0 => rfl
  | n + 1 => by rw [allT, allT_flat x0 y0 x1 y1 n, List.range_succ, List.map_append, List.flatten_append]; simp

theorem tiles_count {w h : Int} (hs : szOk w h) : ((piecesL 0 0 (w - 1) (h - 1)).length : Int) = 4 * tilesI w h := by
  have hs' := hs
  unfold szOk at hs'
  rw [piecesL, allT_flat, all_count hs rfl 64, tilesI, if_pos hs, Int.mul_assoc]
  congr 2
  omega

theorem tilesI_bd {w h : Int} (hs : szOk w h) : 1 ≤ tilesI w h ∧ tilesI w h ≤ 4096 := by
  have hs' := hs
  unfold szOk at hs'
  rw [tilesI, if_pos hs]
  have p1 : 1 * 1 ≤ (w + 15) / 16 * ((h + 15) / 16) := Int.mul_le_mul (by omega) (by omega) (by omega) (by omega)
  have p2 : (w + 15) / 16 * ((h + 15) / 16) ≤ 64 * 64 := Int.mul_le_mul (by omega) (by omega) (by omega) (by omega)
  omega

theorem within0 (w h : Int) : withinC 0 0 0 0 w h = szC w h := by
  unfold withinC szC
  by_cases h1 : szOk w h
  · have h2 := h1
    unfold szOk at h2
    rw [if_pos h1, if_pos h2, if_pos (by omega), if_neg (by omega)]
  · have h2 := h1
    unfold szOk at h2
    rw [if_neg h1, if_neg h2]

theorem szC_zero {w h : Int} : szC w h = 0 ↔ szOk w h := by unfold szC; split <;> simp_all

theorem FN_25 (a b c d w h : Int) : FN 25 [[a, b, c, d], [w], [h]] = [withinC a b c d w h] := rfl

theorem FN_50 (w h : Int) : FN 50 [[w], [h]] = [tilesI w h] := rfl

theorem FN_51 (w h : Int) : FN 51 [[w], [h]] = [szC w h] := rfl

theorem FN_52 (w h : Int) : FN 52 [[w], [h]] = [if szOk w h then 13 + 8 * tilesI w h else 0] := rfl

theorem FN_53 (w h : Int) : FN 53 [[w], [h]] = [szC w h] := rfl

theorem knWithin : ∀ env : Env, env.fn = FN → KnOk Try.prog env [pcWithin.ct] := fun env h => knOk_cons knOk_nil (Pc.ct_ok h within_ok)

theorem knPiecesR : ∀ env : Env, env.fn = FN → KnOk Try.prog env [pcPiecesR.ct] := fun env h => knOk_cons knOk_nil (Pc.ct_ok h piecesR_ok)

theorem tiles_ok : PcOk Try.prog FN pcTiles := by
  refine pc_floyd (cs := []) mix pcTiles knWithin (by decide) (by rfl) tiles_entry (fun _ _ _ => False) (fun _ _ _ => (0, 0)) (fun _ _ _ h => h.elim) ?_
  intro ls e0 hf hargs hrng hpre
  simp only [pcTiles, II, ArgsE, ArgE] at hargs
  obtain ⟨a, _, rfl, ha, b, _, rfl, hb, rfl⟩ := hargs
  obtain ⟨w, hw⟩ : ∃ n, vInt (e0.val 0) = n := ⟨_, rfl⟩
  obtain ⟨h, hh⟩ : ∃ n, vInt (e0.val 1) = n := ⟨_, rfl⟩
  simp only [Nat.zero_add, hw, hh] at ha hb
  subst ha; subst hb
  refine ⟨fun _ _ => ⟨trivial, trivial⟩, ?_⟩
  simp only [allLeaves, AsOk_cons, AsOk_nil, BE.eval, cmpI, IE.eval, IE.reval, IE.aeval, hw, hh, hf, FN_25, within0, List.headD_cons, szC_zero, and_true, decide_eq_true_eq, decide_eq_false_iff_not, StepG, pcTiles]
  refine ⟨fun hA => ⟨[_, _], rfl, ⟨_, rfl, ?_⟩, ⟨_, rfl, ?_⟩, rfl⟩, fun hA => ⟨[_, _], rfl, ⟨_, rfl, ?_⟩, ⟨_, rfl, ?_⟩, rfl⟩⟩
  · have hb := tilesI_bd hA
    rw [FN_50, List.headD_cons]
    rw [tilesI, if_pos hA] at hb ⊢
    have hA' := hA
    unfold szOk at hA'
    simp only [IE.eval, hw, hh, binI]
    simp (disch := omega) only [wrap_i64, Int.tdiv_eq_ediv_of_nonneg]
    rw [show w + 16 - 1 = w + 15 by omega, show h + 16 - 1 = h + 15 by omega]
    simp (disch := omega) only [wrap_i64]
  · rw [FN_51, List.headD_cons, IE.eval, szC_zero.2 hA]
  · rw [FN_50, List.headD_cons, tilesI, if_neg hA, IE.eval]
  · simp only [Nat.reduceAdd, FN_51, List.headD_cons, IE.eval, IE.reval, IE.aeval, hf, hw, hh, FN_25, within0]

theorem tilesR_ok : PcOk Try.prog FN pcTilesR := by
  refine pc_floyd (cs := []) mix pcTilesR knPiecesR (by decide) (by rfl) tilesR_entry (fun _ _ _ => False) (fun _ _ _ => (0, 0)) (fun _ _ _ h => h.elim) ?_
  intro ls e0 hf hargs hrng hpre
  simp only [pcTilesR, II, ArgsE, ArgE] at hargs
  obtain ⟨a, _, rfl, ha, b, _, rfl, hb, rfl⟩ := hargs
  obtain ⟨w, hw⟩ : ∃ n, vInt (e0.val 0) = n := ⟨_, rfl⟩
  obtain ⟨h, hh⟩ : ∃ n, vInt (e0.val 1) = n := ⟨_, rfl⟩
  simp only [Nat.zero_add, hw, hh] at ha hb
  subst ha; subst hb
  refine ⟨fun _ _ => ⟨trivial, trivial⟩, ?_⟩
  by_cases hs : szOk w h
  · have hs' := hs
    unfold szOk at hs'
    have e1 : IntKind.i64.wrap (w - 1) = w - 1 := wrap_i64 (by omega)
    have e2 : IntKind.i64.wrap (h - 1) = h - 1 := wrap_i64 (by omega)
    have hc := tiles_count hs
    have hb := tilesI_bd hs
    obtain ⟨L, hL⟩ : ∃ L, piecesL 0 0 (w - 1) (h - 1) = L := ⟨_, rfl⟩
    rw [hL] at hc
    have hd : ((L.length / 4 : Nat) : Int) = tilesI w h := by omega
    simp only [allLeaves, AsOk_cons, AsOk_nil, BE.eval, cmpI, IE.eval, IE.reval, IE.aeval, hw, hh, hf, binI, e1, e2, FNp_31, hL, hd, and_true, decide_eq_true_eq, decide_eq_false_iff_not, StepG, pcTilesR]
    refine ⟨fun hA => absurd hA (by omega), fun hA => absurd hA.1 (by omega), fun hA => absurd hA.1 (by omega), fun hA => absurd hA.1 (by omega), fun hA => ⟨[_, _], rfl, ⟨_, rfl, ?_⟩, ⟨_, rfl, ?_⟩, rfl⟩, fun hA => absurd hA.1 (by omega)⟩
    · simp only [FN_50, List.headD_cons, IE.eval, IE.reval, IE.aeval, hf, hw, hh, binI, e1, e2, FNp_31, hL, hd]
    · simp only [Nat.reduceAdd, FN_51, List.headD_cons, IE.eval, szC, if_pos hs]
  · have hs' := hs
    unfold szOk at hs'
    simp only [allLeaves, AsOk_cons, AsOk_nil, BE.eval, cmpI, IE.eval, hw, hh, and_true, decide_eq_true_eq, decide_eq_false_iff_not, StepG, pcTilesR]
    have no : ∃ l, SV.tuple [SV.int IntKind.i64 0, SV.int IntKind.i64 3] = tup l ∧ RetEq e0 FN [[w], [h]] { next := 0, tr := Tr.nil } 50 [ResK.int IntKind.i64, ResK.int IntKind.i64] l := by
      refine ⟨[_, _], rfl, ⟨_, rfl, ?_⟩, ⟨_, rfl, ?_⟩, rfl⟩
      · simp only [FN_50, List.headD_cons, IE.eval, tilesI, if_neg hs]
      · simp only [Nat.reduceAdd, FN_51, List.headD_cons, IE.eval, szC, if_neg hs]
    refine ⟨fun _ => no, fun _ => no, fun _ => no, fun _ => no, fun hA => absurd hA.2 (by omega), fun hA => absurd hA.2 (by omega)⟩

theorem knTiles : ∀ env : Env, env.fn = FN → KnOk Try.prog env [pcTiles.ct] := fun env h => knOk_cons knOk_nil (Pc.ct_ok h tiles_ok)

theorem knTilesR : ∀ env : Env, env.fn = FN → KnOk Try.prog env [pcTilesR.ct] := fun env h => knOk_cons knOk_nil (Pc.ct_ok h tilesR_ok)

theorem size_ok : PcOk Try.prog FN pcSize := by
  refine pc_floyd (cs := []) mix pcSize knTiles (by decide) (by rfl) size_entry (fun _ _ _ => False) (fun _ _ _ => (0, 0)) (fun _ _ _ h => h.elim) ?_
  intro ls e0 hf hargs hrng hpre
  simp only [pcSize, II, ArgsE, ArgE] at hargs
  obtain ⟨a, _, rfl, ha, b, _, rfl, hb, rfl⟩ := hargs
  obtain ⟨w, hw⟩ : ∃ n, vInt (e0.val 0) = n := ⟨_, rfl⟩
  obtain ⟨h, hh⟩ : ∃ n, vInt (e0.val 1) = n := ⟨_, rfl⟩
  simp only [Nat.zero_add, hw, hh] at ha hb
  subst ha; subst hb
  refine ⟨fun _ _ => ⟨trivial, trivial⟩, ?_⟩
  simp only [allLeaves, AsOk_cons, AsOk_nil, BE.eval, cmpI, IE.eval, IE.reval, IE.aeval, hw, hh, hf, FN_50, FN_51, List.headD_cons, szC_zero, and_true, decide_eq_true_eq, decide_eq_false_iff_not, StepG, pcSize]
  refine ⟨fun hA => ⟨[_, _], rfl, ⟨_, rfl, ?_⟩, ⟨_, rfl, ?_⟩, rfl⟩, fun hA => ⟨[_, _], rfl, ⟨_, rfl, ?_⟩, ⟨_, rfl, ?_⟩, rfl⟩⟩
  · have hb := tilesI_bd hA
    simp only [FN_52, List.headD_cons, if_pos hA, IE.eval, IE.reval, IE.aeval, hf, hw, hh, FN_50, binI]
    simp (disch := omega) only [wrap_i64]
  · rw [FN_53, List.headD_cons, IE.eval, szC_zero.2 hA]
  · rw [FN_52, List.headD_cons, if_neg hA, IE.eval]
  · simp only [Nat.reduceAdd, FN_53, List.headD_cons, IE.eval, IE.reval, IE.aeval, hf, hw, hh, FN_51]

theorem sizeR_ok : PcOk Try.prog FN pcSizeR := by
  refine pc_floyd (cs := []) mix pcSizeR knTilesR (by decide) (by rfl) sizeR_entry (fun _ _ _ => False) (fun _ _ _ => (0, 0)) (fun _ _ _ h => h.elim) ?_
  intro ls e0 hf hargs hrng hpre
  simp only [pcSizeR, II, ArgsE, ArgE] at hargs
  obtain ⟨a, _, rfl, ha, b, _, rfl, hb, rfl⟩ := hargs
  obtain ⟨w, hw⟩ : ∃ n, vInt (e0.val 0) = n := ⟨_, rfl⟩
  obtain ⟨h, hh⟩ : ∃ n, vInt (e0.val 1) = n := ⟨_, rfl⟩
  simp only [Nat.zero_add, hw, hh] at ha hb
  subst ha; subst hb
  refine ⟨fun _ _ => ⟨trivial, trivial⟩, ?_⟩
  simp only [allLeaves, AsOk_cons, AsOk_nil, BE.eval, cmpI, IE.eval, IE.reval, IE.aeval, hw, hh, hf, FN_50, FN_51, List.headD_cons, szC_zero, and_true, decide_eq_true_eq, decide_eq_false_iff_not, StepG, pcSizeR]
  refine ⟨fun hA => ⟨[_, _], rfl, ⟨_, rfl, ?_⟩, ⟨_, rfl, ?_⟩, rfl⟩, fun hA => ⟨[_, _], rfl, ⟨_, rfl, ?_⟩, ⟨_, rfl, ?_⟩, rfl⟩⟩
  · have hb := tilesI_bd hA
    simp only [FN_52, List.headD_cons, if_pos hA, IE.eval, IE.reval, IE.aeval, hf, hw, hh, FN_50, binI]
    simp (disch := omega) only [wrap_i64]
  · rw [FN_53, List.headD_cons, IE.eval, szC_zero.2 hA]
  · rw [FN_52, List.headD_cons, if_neg hA, IE.eval]
  · simp only [Nat.reduceAdd, FN_53, List.headD_cons, IE.eval, IE.reval, IE.aeval, hf, hw, hh, FN_51]

end Go.Proofs.Ytkfejcffacbngaa
