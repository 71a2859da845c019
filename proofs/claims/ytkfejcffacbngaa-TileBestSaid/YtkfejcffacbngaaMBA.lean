import Derived.Test.YtkfejcffacbngaaProg
import Derived.Test.YtkfejcffacbngaaSyCd
import Derived.RangeFuncBox
import Derived.RangeFuncLeaves
import Derived.RangeFuncCalls
import Derived.Shelf.Abstract
import Derived.WalkKit
import Derived.OwnWalkIn
import Derived.TacticsInMore
import Derived.LoopNIn
import Derived.LoopIn
import Derived.Maps.AppendAt
import Derived.Lib.Strings
import Derived.Lib.Slices
import Derived.Lib.Small
import Derived.Lib.Walk
import Derived.Lib.BitFns
import Derived.RangeFuncNested
import Derived.Shelf.RegionOpen
import Derived.RangeFuncFrom
import Derived.RangeFuncWrites
import Derived.Test.YtkfejcffacbngaaW
import Derived.Maps.OwnIn
import Derived.Lib.SliceRun


namespace Go.Proofs.Ytkfejcffacbngaa.J

open Go Go.Sym

set_option linter.unusedVariables false

theorem mix : Try.prog.follows .mixedOrders = true := by kernel_rfl

def lebN : Nat → Int → List Int
  | 0, u => [u]
  | k + 1, u => if u < 128 then [u] else (u % 128 + 128) :: lebN k (u / 128)

def g81 : List (List Int) → List Int
  | [b, [u]] => b ++ lebN 10 u
  | _ => []

def g82 : List (List Int) → List Int
  | [[u]] => lebN 10 u
  | _ => []

def FNa : Nat → List (List Int) → List Int
  | 81, l => g81 l
  | 82, l => g82 l
  | _, _ => []

theorem FNa_81 (b : List Int) (u : Int) : FNa 81 [b, [u]] = b ++ lebN 10 u := rfl
theorem FNa_82 (u : Int) : FNa 82 [[u]] = lebN 10 u := rfl

def pcLeb : Pc := ⟨76, [.sl [.u8], .int .u64], [.sl 5 [.u8]], 81, [(0, 0, 4294967296), (1, 0, 18446744073709551615)], []⟩

def pcRfB : Pc := ⟨78, [.int .u64], [.sl 5 [.u8]], 82, [(0, 0, 18446744073709551615)], []⟩

abbrev lnB : IE := .rlen (.rvar 0) 1

abbrev grow : IE := .bin .sub .i64 (.bin .add .i64 lnB (.lit 10)) (.lit 0)

abbrev asL : As := [(.cmp .lss (.lit 140737488355328) grow, false), (.cmp .lss (.lit 0) grow, true), (.cmp .lss (.bin .add .i64 lnB (.lit 10)) (.lit 0), false), (atmB lnB (.lit 4294967296), true)]

abbrev oB (r n : Nat) : Nat × Blk := (0, ⟨5, 0, [], .nil, true, some (.rvar r, .var n, [.u8])⟩)

abbrev asO : As := [(nonneg (.var 3), true), (atmB (.var 3) (.lit 8589934592), true)]

abbrev cutLeb : Cuts := [([0, 0, 1, 1, 1], ⟨28, [(1, .sint .u64 (.var 4)), (5, .rsl (.own 0) (.lit 0) (.var 3) 1)], [oB 2 3], 1, asO⟩)]

abbrev cutRfB : Cuts := [([0, 0, 1, 1], ⟨21, [(0, .sint .u64 (.var 1)), (2, .nilslice), (3, .slice 0 0 0 0)], [(0, ⟨5, 0, [], .nil, false, none⟩)], 1, []⟩), ([0, 0, 1, 1], ⟨21, [(0, .sint .u64 (.var 1)), (2, .nilslice), (3, .rsl (.own 0) (.lit 0) (.var 3) 1)], [oB 2 3], 1, asO⟩)]

theorem leb_entry : entryK Try.prog [] 50 200 76 cutLeb 2 (argSVs 0 pcLeb.aks) 30 asL = some [([(.cmp .lss (.lit 140737488355328) (.bin .sub .i64 (.bin .add .i64 (.rlen (.rvar 0) 1) (.lit 10)) (.lit 0)), false), (.cmp .lss (.lit 0) (.bin .sub .i64 (.bin .add .i64 (.rlen (.rvar 0) 1) (.lit 10)) (.lit 0)), true), (.cmp .lss (.bin .add .i64 (.rlen (.rvar 0) 1) (.lit 10)) (.lit 0), false), (.not (.cmp .lss (.lit 4294967296) (.rlen (.rvar 0) 1)), true)], .cut 0 ⟨[(3, .rlen (.rvar 0) 1), (4, .var 1)], [(2, .cat (.sub (.rep (.bin .sub .i64 (.bin .add .i64 (.rlen (.rvar 0) 1) (.lit 10)) (.lit 0)) (.rcon [0])) (.lit 0) (.lit 0) 1) (.rvar 0))], [], [(0, 1)]⟩)] := by kernel_rfl

theorem leb_rounds : roundsK Try.prog [] 50 200 76 cutLeb 2 30 cutLeb = some [[([(.cmp .lss (.var 4) (.lit 128), true), (.not (.cmp .lss (.var 3) (.lit 0)), true), (.not (.cmp .lss (.lit 8589934592) (.var 3)), true)], .ret (.rsl (.own 2) (.lit 0) (.plus (.var 3) (.lit 1)) 1) ⟨3, (.node none (.node (some ⟨5, 1, [.sint .u8 (.wrap .u8 (.var 4))], .nil, false, none⟩) .nil .nil) (.node (some ⟨5, 0, [], .nil, true, (some (.cat (.rvar 2) (.rcons (.wrap .u8 (.var 4)) .rnil), (.plus (.var 3) (.lit 1), [.u8])))⟩) .nil .nil))⟩), ([(.cmp .lss (.var 4) (.lit 128), false), (.not (.cmp .lss (.var 3) (.lit 0)), true), (.not (.cmp .lss (.lit 8589934592) (.var 3)), true)], .cut 0 ⟨[(3, .plus (.var 3) (.lit 1)), (4, .bin .shr .u64 (.var 4) (.lit 7))], [(2, .cat (.rvar 2) (.rcons (.bin .or .u8 (.wrap .u8 (.var 4)) (.lit 128)) .rnil))], [], [(0, 2)]⟩)]] := by kernel_rfl

theorem rfB_entry : entryK Try.prog [] 50 200 78 cutRfB 1 (argSVs 0 pcRfB.aks) 30 [] = some [([], .cut 0 ⟨[(1, .var 0)], [], [], [(0, 0)]⟩)] := by kernel_rfl

theorem rfB_rounds : roundsK Try.prog [] 50 200 78 cutRfB 1 30 cutRfB = some [[([(.cmp .lss (.lit 127) (.var 1), true)], .cut 1 ⟨[(3, .lit 1), (1, .bin .quo .u64 (.var 1) (.lit 128))], [(2, .rcons (.bin .add .u8 (.wrap .u8 (.bin .rem .u64 (.var 1) (.lit 128))) (.lit 128)) .rnil)], [], [(0, 2)]⟩), ([(.cmp .lss (.lit 127) (.var 1), false)], .ret (.oslice 2 0 1 1) ⟨3, (.node (some ⟨5, 0, [], .nil, false, none⟩) (.node (some ⟨5, 1, [.sint .u8 (.wrap .u8 (.var 1))], .nil, false, none⟩) .nil .nil) (.node (some ⟨5, 1, [], (.node (some (.sint .u8 (.wrap .u8 (.var 1)))) .nil .nil), true, none⟩) .nil .nil))⟩)], [([(.cmp .lss (.lit 127) (.var 1), true), (.not (.cmp .lss (.var 3) (.lit 0)), true), (.not (.cmp .lss (.lit 8589934592) (.var 3)), true)], .cut 1 ⟨[(3, .plus (.var 3) (.lit 1)), (1, .bin .quo .u64 (.var 1) (.lit 128))], [(2, .cat (.rvar 2) (.rcons (.bin .add .u8 (.wrap .u8 (.bin .rem .u64 (.var 1) (.lit 128))) (.lit 128)) .rnil))], [], [(0, 2)]⟩), ([(.cmp .lss (.lit 127) (.var 1), false), (.not (.cmp .lss (.var 3) (.lit 0)), true), (.not (.cmp .lss (.lit 8589934592) (.var 3)), true)], .ret (.rsl (.own 2) (.lit 0) (.plus (.var 3) (.lit 1)) 1) ⟨3, (.node none (.node (some ⟨5, 1, [.sint .u8 (.wrap .u8 (.var 1))], .nil, false, none⟩) .nil .nil) (.node (some ⟨5, 0, [], .nil, true, (some (.cat (.rvar 2) (.rcons (.wrap .u8 (.var 1)) .rnil), (.plus (.var 3) (.lit 1), [.u8])))⟩) .nil .nil))⟩)]] := by kernel_rfl

end Go.Proofs.Ytkfejcffacbngaa.J


namespace Go.Proofs.Ytkfejcffacbngaa.J

open Go Go.Sym

set_option linter.unusedVariables false

theorem wrap_u8 (z : Int) : IntKind.u8.wrap z = z % 256 := by simp [IntKind.wrap, IntKind.bits, IntKind.signed]

theorem or128_all : ((List.range 256).all fun x => decide (binI .or .u8 (x : Int) 128 = (x : Int) % 128 + 128)) = true := by kernel_rfl

theorem or128 {v : Int} : binI .or .u8 (IntKind.u8.wrap v) 128 = v % 128 + 128 := by
  rw [wrap_u8]
  have h := List.all_eq_true.1 or128_all (v % 256).toNat (List.mem_range.2 (by omega))
  have h := of_decide_eq_true h
  rw [show (((v % 256).toNat : Nat) : Int) = v % 256 by omega] at h
  rw [h]; omega

theorem shr7 {v : Int} (h : 0 ≤ v) : binI .shr .u64 v 7 = v / 128 := by
  have e : min (7 : Int).toNat (IntKind.u64).bits = 7 := by decide
  simp only [binI, e]
  exact Int.fdiv_eq_ediv_of_nonneg _ (by decide)

theorem quo128 {v : Int} (h : 0 ≤ v ∧ v < 18446744073709551616) : binI .quo .u64 v 128 = v / 128 := by
  simp only [binI, Int.tdiv_eq_ediv_of_nonneg h.1]
  exact wrap_u64 (by omega)

theorem rem128 {v : Int} (h : 0 ≤ v) : binI .add .u8 (IntKind.u8.wrap (binI .rem .u64 v 128)) 128 = v % 128 + 128 := by
  have e : binI .rem .u64 v 128 = v % 128 := by simp only [binI, Int.tmod_eq_emod_of_nonneg h]
  rw [e]
  simp only [binI, wrap_u8]
  omega

theorem lebN_lt {k : Nat} {v : Int} (h : v < 128) : lebN k v = [v] := by
  cases k with
  | zero => rfl
  | succ k => rw [lebN, if_pos h]

theorem lebN_ge {k : Nat} {v : Int} (h : 128 ≤ v) : lebN (k + 1) v = (v % 128 + 128) :: lebN k (v / 128) := by
  rw [lebN, if_neg (by omega)]

/-- The tail of a number's bytes: what is still to be written. -/
def Todo (out : List Int) (v : Int) (all : List Int) (n : Nat) : Prop := ∃ k : Nat, k ≤ 10 ∧ 0 ≤ v ∧ v < 18446744073709551616 ∧ v < 128 ^ (k + 1) ∧ out ++ lebN k v = all ∧ out.length + k = n + 10

theorem todo_end {out : List Int} {v : Int} {all : List Int} {n : Nat} (h : Todo out v all n) (hv : v < 128) : out ++ [v] = all := by
  obtain ⟨k, _, _, _, _, h, _⟩ := h
  rw [← h, lebN_lt hv]

theorem todo_step {out : List Int} {v : Int} {all : List Int} {n : Nat} (h : Todo out v all n) (hv : 128 ≤ v) : Todo (out ++ [v % 128 + 128]) (v / 128) all n ∧ out.length < n + 10 := by
  obtain ⟨k, h1, h2, h3, h4, h5, h6⟩ := h
  match k, h1, h4, h5, h6 with
  | 0, _, h4, _, _ => simp at h4; omega
  | k + 1, h1, h4, h5, h6 =>
    refine ⟨⟨k, by omega, by omega, by omega, ?_, ?_, ?_⟩, by omega⟩
    · rw [Int.pow_succ] at h4; omega
    · rw [← h5, lebN_ge hv]; simp
    · simp; omega

theorem todo_len {out : List Int} {v : Int} {all : List Int} {n : Nat} (h : Todo out v all n) : out.length ≤ n + 10 := by
  obtain ⟨k, _, _, _, _, _, h⟩ := h; omega

def invLeb (ls : List (List Int)) (c : Nat) (env : Env) : Prop := c = 0 ∧ ∃ b u, ls = [b, [u]] ∧ (b.length : Int) ≤ 4294967296 ∧ vInt (env.val 3) = ((env.row 2).length : Int) ∧ Todo (env.row 2) (vInt (env.val 4)) (b ++ lebN 10 u) b.length

theorem leb_ok : PcOk Try.prog FNa pcLeb := by
  refine pc_floyd_as (cs := cutLeb) (aa := asL) (base := 2) mix pcLeb (fun _ _ => knOk_nil) (Nat.le_refl 2) leb_rounds leb_entry invLeb (fun ls _ env => (0, ((ls.headD []).length + 10 - (env.row 2).length))) (fun ls i env h => by have := h.1; simp; omega) ?_
  intro ls e0 hf hargs hrng hpre
  simp only [pcLeb, ArgsE, ArgE] at hargs
  obtain ⟨b, _, rfl, ⟨hb, _⟩, u', _, rfl, hu, rfl⟩ := hargs
  obtain ⟨u, huv⟩ : ∃ z, vInt (e0.val 1) = z := ⟨_, rfl⟩
  simp only [Nat.zero_add, huv] at hu
  subst hu
  have hlen := (hrng.1 (.sl [.u8]) b rfl rfl).2
  have hur := hrng.2.1 (.int .u64) [u] rfl rfl
  simp only [measL, List.length_singleton, Nat.div_one, List.headD_cons] at hlen hur
  have e10 : binI .add .i64 (b.length : Int) 10 = (b.length : Int) + 10 := wrap_i64 (by omega)
  have e0' : binI .sub .i64 ((b.length : Int) + 10) 0 = (b.length : Int) + 10 := by simp only [binI]; rw [wrap_i64 (by omega)]; omega
  refine ⟨?_, fun env hfn => ⟨⟨?_, trivial⟩, ⟨?_, trivial⟩⟩, ?_⟩
  · simp only [asL, atmB, AsOk_cons, AsOk_nil, BE.eval, cmpI, IE.eval, IE.reval, hb, Nat.div_one, e10, e0']
    simp; omega
  · rintro ⟨_, b', u', hl, h1, h2, h3⟩
    have := todo_len h3
    simp only [asO, nonneg, atmB, AsOk_cons, AsOk_nil, BE.eval, cmpI, IE.eval, h2]
    simp; omega
  · rintro ⟨_, b', u', hl, h1, h2, h3⟩
    simp only [List.cons.injEq, and_true] at hl
    obtain ⟨rfl, rfl⟩ := hl
    have hv : 0 ≤ vInt (env.val 4) := by obtain ⟨_, _, h, _⟩ := h3; exact h
    simp only [allLeaves, AsOk_cons, AsOk_nil, BE.eval, cmpI, IE.eval, and_true]
    refine ⟨fun hA => ?_, fun hA => ?_⟩
    · have hA := of_decide_eq_true hA.1
      have hend := todo_end h3 hA
      refine ⟨[_], rfl, ⟨by decide, _, rfl, ?_, ?_⟩, rfl⟩
      · have e : IntKind.u8.wrap (vInt (env.val 4)) = vInt (env.val 4) := by rw [wrap_u8]; omega
        rw [subE_eval (by simp only [IE.reval, IE.eval, h2]; simp)]
        simp only [IE.reval, IE.eval, h2, subL, e, pcLeb, FNa_81, hend]
        have e2 : ((env.row 2).length + 1 : Int).toNat * [IntKind.u8].length = (b ++ lebN 10 u).length := by rw [← hend]; simp
        rw [e2, List.take_of_length_le (Nat.le_refl _)]; simp
      · refine ⟨by simp only [IE.eval, h2]; omega, fun B r cnt ks' h1 h2 => ?_⟩
        obtain rfl := Option.some.inj h1
        cases h2
        exact Int.le_refl _
    · have hA := of_decide_eq_false hA.1
      obtain ⟨h5, h6⟩ := todo_step h3 (by omega)
      refine stepG_cut ⟨rfl, b, u, rfl, h1, ?_, ?_⟩ (Prod.lex_def.2 (.inr ⟨rfl, ?_⟩))
      · simp [upd, lk_cons, lk_nil, IE.eval, IE.reval, h2, vInt_int]
      · simp only [upd, lk_cons, lk_nil, Nat.reduceEqDiff, if_false, if_true, IE.eval, IE.reval, vInt_int, or128, shr7 hv]
        exact h5
      · simp [upd, lk_cons, lk_nil, IE.eval, IE.reval]
        omega
  · simp only [allLeaves, AsOk_cons, AsOk_nil, BE.eval, cmpI, IE.eval, IE.reval, hb, and_true]
    intro hA
    refine stepG_cut0 ⟨rfl, b, u, rfl, hlen, ?_, ?_⟩
    · simp [upd, lk_cons, lk_nil, IE.eval, IE.reval, hb, subL, vInt_int]
    · refine ⟨10, Nat.le_refl _, ?_⟩
      simp [upd, lk_cons, lk_nil, IE.eval, IE.reval, hb, subL, vInt_int, huv]
      omega

def invRfB (ls : List (List Int)) (c : Nat) (env : Env) : Prop := ∃ u, ls = [[u]] ∧ 0 ≤ u ∧ u ≤ 18446744073709551615 ∧
  ((c = 0 ∧ vInt (env.val 1) = u) ∨ (c = 1 ∧ vInt (env.val 3) = ((env.row 2).length : Int) ∧ Todo (env.row 2) (vInt (env.val 1)) (lebN 10 u) 0))

theorem todo_0 {u : Int} (h : 0 ≤ u ∧ u ≤ 18446744073709551615) : Todo [] u (lebN 10 u) 0 := by
  refine ⟨10, Nat.le_refl _, h.1, by omega, ?_, rfl, rfl⟩
  have : (128 : Int) ^ (10 + 1) = 151115727451828646838272 := by decide
  omega

theorem rfB_ok : PcOk Try.prog FNa pcRfB := by
  refine pc_floyd (cs := cutRfB) (base := 1) mix pcRfB (fun _ _ => knOk_nil) (Nat.le_refl 1) rfB_rounds rfB_entry invRfB (fun ls c env => (0, if c = 0 then 100 else 10 - (env.row 2).length)) (fun ls i env h => by obtain ⟨_, _, _, _, h⟩ := h; simp; omega) ?_
  intro ls e0 hf hargs hrng hpre
  simp only [pcRfB, ArgsE, ArgE] at hargs
  obtain ⟨u', _, rfl, hu, rfl⟩ := hargs
  obtain ⟨u, huv⟩ : ∃ z, vInt (e0.val 0) = z := ⟨_, rfl⟩
  simp only [huv] at hu
  subst hu
  have hur := hrng.1 (.int .u64) [u] rfl rfl
  simp only [measL, List.headD_cons] at hur
  refine ⟨fun env hfn => ⟨⟨fun _ => by simp [AsOk_nil], ⟨?_, trivial⟩⟩, ⟨?_, ⟨?_, trivial⟩⟩⟩, ?_⟩
  · rintro ⟨u', hl, hu1, hu2, ⟨h, _⟩ | ⟨_, h2, h3⟩⟩
    · cases h
    have := todo_len h3
    simp only [asO, nonneg, atmB, AsOk_cons, AsOk_nil, BE.eval, cmpI, IE.eval, h2]
    simp; omega
  · rintro ⟨u', hl, hu1, hu2, ⟨_, h2⟩ | ⟨h, _⟩⟩
    case inr => cases h
    simp only [List.cons.injEq, and_true] at hl
    subst hl
    simp only [allLeaves, AsOk_cons, AsOk_nil, BE.eval, cmpI, IE.eval, and_true, h2]
    refine ⟨fun hA => ?_, fun hA => ?_⟩
    · have hA := of_decide_eq_true hA
      obtain ⟨h5, h6⟩ := todo_step (todo_0 hur) (by omega)
      refine stepG_cut ⟨u, rfl, hu1, hu2, .inr ⟨rfl, ?_, ?_⟩⟩ (Prod.lex_def.2 (.inr ⟨rfl, ?_⟩))
      · simp [upd, lk_cons, lk_nil, IE.eval, IE.reval, vInt_int]
      · simp only [upd, lk_cons, lk_nil, Nat.reduceEqDiff, if_false, if_true, IE.eval, IE.reval, vInt_int, h2, rem128 hu1, quo128 (v := u) (by omega)]
        exact h5
      · simp [upd, lk_cons, lk_nil, IE.eval, IE.reval]
    · have hA := of_decide_eq_false hA
      refine ⟨[_], rfl, ⟨by decide, _, rfl, ?_, ?_⟩, rfl⟩
      · have e : IntKind.u8.wrap u = u := by rw [wrap_u8]; omega
        rw [subE_eval (by simp [IE.eval, IE.reval])]
        simp only [IE.reval, IE.eval, h2, subL, e, pcRfB, FNa_82, lebN_lt (k := 10) (v := u) (by omega)]
        rfl
      · refine ⟨by simp only [IE.eval]; decide, fun B r cnt ks' h1 h2 => ?_⟩
        obtain rfl := Option.some.inj h1
        cases h2
        exact Int.le_refl _
  · rintro ⟨u', hl, hu1, hu2, ⟨h, _⟩ | ⟨_, h2, h3⟩⟩
    · cases h
    simp only [List.cons.injEq, and_true] at hl
    subst hl
    have hv : 0 ≤ vInt (env.val 1) ∧ vInt (env.val 1) < 18446744073709551616 := by obtain ⟨_, _, h, h', _⟩ := h3; exact ⟨h, h'⟩
    simp only [allLeaves, AsOk_cons, AsOk_nil, BE.eval, cmpI, IE.eval, and_true]
    refine ⟨fun hA => ?_, fun hA => ?_⟩
    · have hA := of_decide_eq_true hA.1
      obtain ⟨h5, h6⟩ := todo_step h3 (by omega)
      refine stepG_cut ⟨u, rfl, hu1, hu2, .inr ⟨rfl, ?_, ?_⟩⟩ (Prod.lex_def.2 (.inr ⟨rfl, ?_⟩))
      · simp [upd, lk_cons, lk_nil, IE.eval, IE.reval, h2, vInt_int]
      · simp only [upd, lk_cons, lk_nil, Nat.reduceEqDiff, if_false, if_true, IE.eval, IE.reval, vInt_int, rem128 hv.1, quo128 hv]
        exact h5
      · simp [upd, lk_cons, lk_nil, IE.eval, IE.reval]
        omega
    · have hA := of_decide_eq_false hA.1
      have hend := todo_end h3 (by omega)
      refine ⟨[_], rfl, ⟨by decide, _, rfl, ?_, ?_⟩, rfl⟩
      · have e : IntKind.u8.wrap (vInt (env.val 1)) = vInt (env.val 1) := by rw [wrap_u8]; omega
        rw [subE_eval (by simp only [IE.reval, IE.eval, h2]; simp)]
        simp only [IE.reval, IE.eval, h2, subL, e, pcRfB, FNa_82, hend]
        have e2 : ((env.row 2).length + 1 : Int).toNat * [IntKind.u8].length = (lebN 10 u).length := by rw [← hend]; simp
        rw [e2, List.take_of_length_le (Nat.le_refl _)]; simp
      · refine ⟨by simp only [IE.eval, h2]; omega, fun B r cnt ks' h1 h2 => ?_⟩
        obtain rfl := Option.some.inj h1
        cases h2
        exact Int.le_refl _
  · simp only [allLeaves, AsOk_nil, and_true]
    intro _
    refine stepG_cut0 ⟨u, rfl, hur.1, hur.2, .inl ⟨rfl, ?_⟩⟩
    simp [upd, lk_cons, lk_nil, IE.eval, vInt_int, huv]

end Go.Proofs.Ytkfejcffacbngaa.J


namespace Go.Proofs.Ytkfejcffacbngaa.J

open Go Go.RowKit Go.Shelf

set_option linter.unusedVariables false

attribute [local go_sem] Oper.semAt_some

/-- how many noughts a row begins with -/
def zc : List Int → Nat
  | [] => 0
  | x :: l => if x = 0 then zc l + 1 else 0

/-- how many numbers the first run has -/
def rl : List Int → Nat
  | [] => 0
  | x :: l => if x = 0 then zc l + 1 else 1

def runsF : Nat → List Int → List (Int × Int)
  | 0, _ => []
  | _ + 1, [] => []
  | f + 1, x :: l => (x, (rl (x :: l) : Int)) :: runsF f ((x :: l).drop (rl (x :: l)))

def runsL (l : List Int) : List (Int × Int) := runsF l.length l

theorem rl_pos {x : Int} {l : List Int} : 1 ≤ rl (x :: l) := by
  rw [rl]; split <;> omega

theorem runsF_more : ∀ (f g : Nat) (l : List Int), l.length ≤ f → l.length ≤ g → runsF f l = runsF g l := by
  intro f
  induction f with
  | zero =>
    intro g l h1 h2
    obtain rfl : l = [] := List.eq_nil_of_length_eq_zero (by omega)
    cases g <;> rfl
  | succ f ih =>
    intro g l h1 h2
    cases l with
    | nil => cases g <;> rfl
    | cons x l =>
      cases g with
      | zero => simp at h2
      | succ g =>
        have := rl_pos (x := x) (l := l)
        simp only [List.length_cons] at h1 h2
        rw [runsF, runsF, ih g ((x :: l).drop (rl (x :: l))) (by simp; omega) (by simp; omega)]

theorem runsL_cons (x : Int) (l : List Int) : runsL (x :: l) = (x, (rl (x :: l) : Int)) :: runsL ((x :: l).drop (rl (x :: l))) := by
  have := rl_pos (x := x) (l := l)
  rw [runsL, List.length_cons, runsF, runsL]
  rw [runsF_more l.length _ _ (by simp; omega) (Nat.le_refl _)]

theorem zc_eq : ∀ (l : List Int) (m : Nat), (∀ j, j < m → l[j]? = some 0) → l[m]? ≠ some 0 → zc l = m
  | [], m, h1, h2 => by
    cases m with
    | zero => rfl
    | succ m => have := h1 0 (by omega); simp at this
  | x :: l, 0, h1, h2 => by
    have : ¬ x = 0 := fun e => h2 (by simp [e])
    rw [zc, if_neg this]
  | x :: l, m + 1, h1, h2 => by
    have h0 := h1 0 (by omega)
    simp at h0
    rw [zc, if_pos h0, zc_eq l m (fun j hj => by simpa using h1 (j + 1) (by omega)) (by simpa using h2)]

/-- A run's end is found. -/
theorem rl_at {zs : List Int} {k m : Nat} (hk : k + m ≤ zs.length) (hm : 1 ≤ m) (h0 : zs[k]?.getD 0 = 0 → (∀ j, j < m → zs[k + j]?.getD 0 = 0) ∧ (k + m < zs.length → zs[k + m]?.getD 0 ≠ 0)) (h1 : zs[k]?.getD 0 ≠ 0 → m = 1) :
    rl (zs.drop k) = m := by
  have hlt : k < zs.length := by omega
  rw [List.drop_eq_getElem_cons hlt]
  have hg : zs[k]?.getD 0 = zs[k] := by simp [hlt]
  rw [rl]
  split
  · rename_i hz
    obtain ⟨a, b⟩ := h0 (by rw [hg, hz])
    obtain ⟨n, rfl⟩ : ∃ n, m = n + 1 := ⟨m - 1, by omega⟩
    rw [zc_eq _ n]
    · intro j hj
      have h2 := a (j + 1) (by omega)
      have h3 : k + 1 + j < zs.length := by omega
      rw [List.getElem?_drop, List.getElem?_eq_getElem h3]
      rw [show k + (j + 1) = k + 1 + j by omega, List.getElem?_eq_getElem h3] at h2
      simpa using h2
    · rw [List.getElem?_drop]
      intro h
      have h3 : k + 1 + n < zs.length := (List.getElem?_eq_some_iff.1 h).1
      exact b (by omega) (by rw [show k + (n + 1) = k + 1 + n by omega, h]; rfl)
  · rename_i hz
    rw [h1 (by rw [hg]; exact hz)]

theorem runs_at {zs : List Int} {k m : Nat} (hk : k + m ≤ zs.length) (hm : 1 ≤ m) (h0 : zs[k]?.getD 0 = 0 → (∀ j, j < m → zs[k + j]?.getD 0 = 0) ∧ (k + m < zs.length → zs[k + m]?.getD 0 ≠ 0)) (h1 : zs[k]?.getD 0 ≠ 0 → m = 1) :
    runsL (zs.drop k) = (zs[k]?.getD 0, (m : Int)) :: runsL (zs.drop (k + m)) := by
  have h := rl_at hk hm h0 h1
  have hlt : k < zs.length := by omega
  have hg : zs[k]?.getD 0 = zs[k] := by simp [hlt]
  have e := List.drop_eq_getElem_cons hlt
  rw [e] at h
  rw [e, runsL_cons, h, ← e, List.drop_drop, hg]

theorem hide {p : Prop} (h : p) : Hid p := h

abbrev encP (p : Int × Int) : Array Value := #[.int .i64 p.1, .int .i64 p.2]

end Go.Proofs.Ytkfejcffacbngaa.J


namespace Go.Proofs.Ytkfejcffacbngaa.J

open Go Go.RowKit Go.Shelf

set_option linter.unusedVariables false

attribute [local go_sem] Oper.semAt_some

/-- What a body keeps: two blocks' cells. -/
def Keep2 (b c : Nat) (A B : World) : Prop := ∀ (k o : Nat) v, k = b ∨ k = c → A.cell? ⟨k, o, none⟩ = some v → B.cell? ⟨k, o, none⟩ = some v
theorem Keep2.refl (b c : Nat) (A : World) : Keep2 b c A A := fun _ _ _ _ h => h
theorem Keep2.trans {b c : Nat} {A B C : World} (h : Keep2 b c A B) (h' : Keep2 b c B C) : Keep2 b c A C := fun k o v hk hv => h' k o v hk (h k o v hk hv)
theorem Keep2.of_below {b c N : Nat} {A B : World} (h : Below N A B) (hb : b < N) (hc : c < N) : Keep2 b c A B := fun k o v hk hv => by
  have : k < N := by rcases hk with rfl | rfl <;> assumption
  exact (h.cell (p := ⟨k, o, none⟩) this).trans hv
theorem keep2_t {b c : Nat} : ∀ {A B C : World}, Keep2 b c A B → Keep2 b c B C → Keep2 b c A C := Keep2.trans
theorem keep2_b {b c : Nat} {N : Nat} : ∀ (W : World) (l : Nat) (o o' : Obj), N ≤ l → W.heap[l]? = some o → o.isCells = false → o.isWalk = false → Keep2 b c W (W.putObj l o') :=
  fun W l o o' _ ho hc _ k q v hk hv => cell_kept hv (grownBy_putObj' _ l o') (fun r e => by cases e; exact ⟨_, ho, hc⟩)

set_option maxRecDepth 100000 in
set_option maxHeartbeats 4000000 in
/-- the closure of runs.each, for every body that keeps the two blocks -/
theorem each1_in (F : Fence) (n : Nat) (h7 : F.fn 117) (hro : F.round = none) (hn : 1 ≤ n) (l Bs b off len cap : Nat) (zs : List Int) (hlen : zs.length = len) (hreach : len ≤ 1000000) (J Jx : List (Int × Int) → World → Prop)
    (hY : ∀ pre x W, J pre W → pre.length < len → YieldAt F (n - 1) Try.prog l #[.int .i64 x.1, .int .i64 x.2] W fun e W' =>
      (e = .returned (.bool true) ∧ J (pre ++ [x]) W' ∧ Keep2 b Bs W W') ∨ (e = .returned (.bool false) ∧ Jx (pre ++ [x]) W'))
    (W : World) (hBs : W.cell? ⟨Bs, 0, none⟩ = some (.slice (some ⟨b, off, none⟩) len cap)) (hc : ∀ j, j < len → W.cell? ⟨b, off + j, none⟩ = some (.int .i64 (zs[j]?.getD 0))) (h0 : J [] W) :
    CallsIn F n Try.prog 117 #[.func (.yield l) #[] #[], .pointer (some ⟨Bs, 0, none⟩)] W fun e W' => (∃ v, e = .returned v) ∧
      ((∃ ys, ys = runsL zs ∧ J ys W') ∨ (∃ pre, True ∧ Jx pre W')) := by
  refine callsIn_of_wp Try.func117 rfl h7 ?_ hro
  simp only [Try.ntmps117, List.size_toArray, List.length_cons, List.length_nil, Nat.reduceAdd, Nat.reduceSub, Array.replicate_succ, Array.replicate_zero, List.push_toArray, List.append_toArray, List.nil_append, List.cons_append]
  gi_wp2
  gi_loopw [3] (fun i wr => ∃ (k : Nat) (pre : List (Int × Int)), k ≤ len ∧ i = .int .i64 k ∧ pre.length ≤ k ∧ pre ++ runsL (zs.drop k) = runsL zs ∧ J pre wr ∧ Keep2 b Bs W wr)
    (fun i _ => len - (intOf i).toNat)
  case atStart => exact ⟨0, [], Nat.zero_le _, rfl, Nat.le_refl _, rfl, h0, Keep2.refl _ _ _⟩
  case round =>
    obtain ⟨k, pre, hk, rfl, hpl, hpr, hJs, hnx⟩ := hrel
    have hBw : wr.cell? ⟨Bs, 0, none⟩ = some (.slice (some ⟨b, off, none⟩) len cap) := hnx Bs 0 _ (.inr rfl) hBs
    by_cases hlt : k < len
    · obtain ⟨x, hx⟩ : ∃ x, zs[k]?.getD 0 = x := ⟨_, rfl⟩
      have hcx : wr.cell? ⟨b, off + k, none⟩ = some (.int .i64 x) := by rw [← hx]; exact hnx b _ _ (.inl rfl) (hc k hlt)
      have HC : Hid (∀ j, j < len → wr.cell? ⟨b, off + j, none⟩ = some (.int .i64 (zs[j]?.getD 0))) := fun j hj => hnx b _ _ (.inl rfl) (hc j hj)
      have HY := hide hY
      have HP := hide hpr
      have HX := hide hx
      have HL := hide hlen
      clear hY hpr hx hlen hc hBs
      gi_wp2
      gi_loop [4] (fun m => ∃ j : Nat, m = .int .i64 j ∧ 1 ≤ j ∧ k + j ≤ len ∧ (x = 0 → ∀ i, i < j → zs[k + i]?.getD 0 = 0) ∧ (x ≠ 0 → j = 1)) (fun m => len - (intOf m).toNat)
      case atStart => exact ⟨1, rfl, Nat.le_refl _, by omega, fun h i hi => by obtain rfl : i = 0 := by omega
                                                                               simpa [HX.out] using h, fun _ => rfl⟩
      case round =>
        obtain ⟨j, rfl, hj1, hj2, hj3, hj4⟩ := hrel
        obtain ⟨y, hy⟩ : ∃ y, zs[k + j]?.getD 0 = y := ⟨_, rfl⟩
        have HYY := hide hy
        have H3 := hide hj3
        have H4 := hide hj4
        clear hj3 hj4 hy
        by_cases hgo : x = 0 ∧ k + j < len ∧ y = 0
        · obtain ⟨hz, hl2, hw⟩ := hgo
          have hcy : wr.cell? ⟨b, off + (k + j), none⟩ = some (.int .i64 y) := by rw [← HYY.out]; exact HC.out (k + j) hl2
          gi_wp2
          refine ⟨⟨j + 1, by simp, by omega, by omega, fun _ i hi => ?_, fun h => absurd hz h⟩, by simp [intOf]; omega⟩
          by_cases hij : i = j
          · subst hij; rw [HYY.out, hw]
          · exact H3.out hz i (by omega)
        · have hrun : runsL (zs.drop k) = (x, (j : Int)) :: runsL (zs.drop (k + j)) := by
            have := runs_at (zs := zs) (k := k) (m := j) (by rw [HL.out]; omega) hj1 (fun h => ⟨H3.out (by rw [← HX.out]; exact h), fun h2 h3 => hgo ⟨by rw [← HX.out]; exact h, by rw [← HL.out]; exact h2, by rw [← HYY.out]; exact h3⟩⟩) (fun h => H4.out (by rw [← HX.out]; exact h))
            rwa [HX.out] at this
          have HRUN := hide hrun
          obtain ⟨fn, tmps, assign, body, hy, hR⟩ := HY.out pre (x, (j : Int)) wr hJs (by omega)
          dsimp only at hy
          have hk3 : (x = 0 ∧ k + j < len ∧ ¬ y = 0) ∨ (x = 0 ∧ ¬ k + j < len) ∨ ¬ x = 0 := by omega
          clear hrun hgo
          have hnext : ∀ W3, J (pre ++ [(x, (j : Int))]) W3 → Keep2 b Bs wr W3 → ∃ (k' : Nat) (pre' : List (Int × Int)), k' ≤ len ∧ Value.int IntKind.i64 ((k : Int) + (j : Int)) = .int .i64 k' ∧ pre'.length ≤ k' ∧ pre' ++ runsL (zs.drop k') = runsL zs ∧ J pre' W3 ∧ Keep2 b Bs W W3 := fun W3 h1 h2 =>
            ⟨k + j, pre ++ [(x, (j : Int))], hj2, by simp, by simp; omega, by rw [← HP.out, HRUN.out]; simp, h1, hnx.trans h2⟩
          have HN := hide hnext
          clear hnext
          have hstop : ∀ W3, Jx (pre ++ [(x, (j : Int))]) W3 → (∃ pre, True ∧ Jx pre W3) := fun W3 h => ⟨_, trivial, h⟩
          have HS := hide hstop
          clear hstop
          rcases hk3 with ⟨hz, hl2, hw⟩ | ⟨hz, hl2⟩ | hz
          · have hcy : wr.cell? ⟨b, off + (k + j), none⟩ = some (.int .i64 y) := by rw [← HYY.out]; exact HC.out (k + j) hl2
            subst hz
            gi_wp2
            refine hR.mono ?_
            rintro e W3 (⟨rfl, hJ3, hk3⟩ | ⟨rfl, hJx3⟩)
            · gi_wp2
              go_roundw
              case rel => exact HN.out W3 hJ3 hk3
              case measure => simp [intOf]; omega
            · gi_wp2
              refine bodyPost_ret (results_none rfl _ _ _) rfl ?_
              exact ⟨⟨_, rfl⟩, .inr (HS.out W3 hJx3)⟩
          · subst hz
            gi_wp2
            refine hR.mono ?_
            rintro e W3 (⟨rfl, hJ3, hk3⟩ | ⟨rfl, hJx3⟩)
            · gi_wp2
              go_roundw
              case rel => exact HN.out W3 hJ3 hk3
              case measure => simp [intOf]; omega
            · gi_wp2
              refine bodyPost_ret (results_none rfl _ _ _) rfl ?_
              exact ⟨⟨_, rfl⟩, .inr (HS.out W3 hJx3)⟩
          · gi_wp2
            refine hR.mono ?_
            rintro e W3 (⟨rfl, hJ3, hk3⟩ | ⟨rfl, hJx3⟩)
            · gi_wp2
              go_roundw
              case rel => exact HN.out W3 hJ3 hk3
              case measure => simp [intOf]; omega
            · gi_wp2
              refine bodyPost_ret (results_none rfl _ _ _) rfl ?_
              exact ⟨⟨_, rfl⟩, .inr (HS.out W3 hJx3)⟩
    · obtain rfl : k = len := by omega
      gi_wp2
      go_end0
      exact ⟨⟨_, rfl⟩, .inl ⟨_, by rw [← hpr, List.drop_eq_nil_of_le (by omega)]; simp [runsL, runsF], hJs⟩⟩

set_option maxRecDepth 100000 in
set_option maxHeartbeats 1000000 in
/-- .. where there is nothing -/
theorem each1_nil (F : Fence) (n : Nat) (h7 : F.fn 117) (hro : F.round = none) (l Bs : Nat) (a : Option Addr) (cap : Nat) (J : List (Int × Int) → World → Prop) (W : World) (hBs : W.cell? ⟨Bs, 0, none⟩ = some (.slice a 0 cap)) (h0 : J [] W) :
    CallsIn F n Try.prog 117 #[.func (.yield l) #[] #[], .pointer (some ⟨Bs, 0, none⟩)] W fun e W' => (∃ v, e = .returned v) ∧ J [] W' := by
  refine callsIn_of_wp Try.func117 rfl h7 ?_ hro
  simp only [Try.ntmps117, List.size_toArray, List.length_cons, List.length_nil, Nat.reduceAdd, Nat.reduceSub, Array.replicate_succ, Array.replicate_zero, List.push_toArray, List.append_toArray, List.nil_append, List.cons_append]
  gi_wp2
  gi_loopw [3] (fun i wr => i = .int .i64 0 ∧ J [] wr ∧ wr.cell? ⟨Bs, 0, none⟩ = some (.slice a 0 cap)) (fun _ _ => 0)
  case atStart => exact ⟨rfl, h0, hBs⟩
  case round =>
    obtain ⟨rfl, hJs, hB⟩ := hrel
    gi_wp2
    go_end0
    exact ⟨⟨_, rfl⟩, hJs⟩

set_option maxHeartbeats 1000000 in
/-- runs.each: the slice is boxed, the closure captures the box -/
theorem each_in (F : Fence) (n : Nat) (h5 : F.fn 75) (hro : F.round = none) (a : Option Addr) (len cap : Nat) (w : World) :
    CallsIn F n Try.prog 75 #[.slice a len cap] w fun e w' => e = .returned (.func (.func 117) #[] #[.pointer (some ⟨w.heap.size, 0, none⟩)]) ∧ w' = w.alloc (.cells #[.slice a len cap] 23) := by
  refine callsIn_of_wp Try.func75 rfl h5 ?_ hro
  simp only [Try.ntmps75, List.size_toArray, List.length_cons, List.length_nil, Nat.reduceAdd, Nat.reduceSub, Array.replicate_succ, Array.replicate_zero, List.push_toArray, List.append_toArray, List.nil_append, List.cons_append]
  gi_wp2
  go_ret
  exact ⟨rfl, rfl⟩

/-- a slice that holds these numbers (b: its block, where there is one) -/
def IntsAt (W : World) (sv : Value) (b : Nat) (zs : List Int) : Prop := ∃ a cap, sv = .slice a zs.length cap ∧ (zs = [] ∨ ∃ off, a = some ⟨b, off, none⟩ ∧ ∀ j, j < zs.length → W.cell? ⟨b, off + j, none⟩ = some (.int .i64 (zs[j]?.getD 0)))

/-- a slice that holds these numbers, in a block below N where there is one -/
def IntsIn (W : World) (N : Nat) (sv : Value) (zs : List Int) : Prop := ∃ a cap, sv = .slice a zs.length cap ∧ (zs = [] ∨ ∃ b off, a = some ⟨b, off, none⟩ ∧ b < N ∧ ∀ j, j < zs.length → W.cell? ⟨b, off + j, none⟩ = some (.int .i64 (zs[j]?.getD 0)))

/-- the runs, in order -/
theorem each_stops (F : Fence) (n : Nat) (h7 : F.fn 117) (hro : F.round = none) (hn : 1 ≤ n) (Bs b : Nat) (sv : Value) (zs : List Int) (hreach : zs.length ≤ 1000000) (w : World) (hBs : Bs < w.heap.size) (hb : b < w.heap.size)
    (hc : w.cell? ⟨Bs, 0, none⟩ = some sv) (hI : IntsAt w sv b zs) :
    SeqStopsK F n Try.prog 117 #[.pointer (some ⟨Bs, 0, none⟩)] encP (Keep2 b Bs) (fun ys => ys = runsL zs) (fun _ => True) zs.length w := fun l J Jx W hW _ _ hY h0 => by
  have hc' := (hW.cell (p := ⟨Bs, 0, none⟩) hBs).trans hc
  obtain ⟨a, cap, rfl, rfl | ⟨off, rfl, hcs⟩⟩ := hI
  · exact (each1_nil F n h7 hro l Bs a cap J W hc' h0).mono fun e W' ⟨he, hj⟩ => ⟨he, .inl ⟨_, rfl, hj⟩⟩
  · exact each1_in F n h7 hro hn l Bs b off zs.length cap zs rfl hreach J Jx hY W hc' (fun j hj => (hW.cell (p := ⟨b, off + j, none⟩) hb).trans (hcs j hj)) h0

end Go.Proofs.Ytkfejcffacbngaa.J


namespace Go.Proofs.Ytkfejcffacbngaa.J

open Go Go.RowKit Go.Lib

set_option linter.unusedVariables false

theorem ret_int {k : IntKind} {a b : Int} (h : a = b) : Ending.returned (.int k a) = .returned (.int k b) := by rw [h]

set_option maxRecDepth 100000 in
theorem fold_tab : (⟨((([0, 1, 2, 2, 3, 3, 3, 3, 4, 4, 4, 4, 4, 4, 4, 4, 5, 5, 5, 5, 5, 5, 5, 5, 5, 5, 5, 5, 5, 5, 5, 5, 6, 6, 6, 6, 6, 6, 6, 6, 6, 6, 6, 6, 6, 6, 6, 6, 6, 6, 6, 6, 6, 6, 6, 6, 6, 6, 6, 6, 6, 6, 6, 6] : List UInt8).append [7, 7, 7, 7, 7, 7, 7, 7, 7, 7, 7, 7, 7, 7, 7, 7, 7, 7, 7, 7, 7, 7, 7, 7, 7, 7, 7, 7, 7, 7, 7, 7, 7, 7, 7, 7, 7, 7, 7, 7, 7, 7, 7, 7, 7, 7, 7, 7, 7, 7, 7, 7, 7, 7, 7, 7, 7, 7, 7, 7, 7, 7, 7, 7]).append ([8, 8, 8, 8, 8, 8, 8, 8, 8, 8, 8, 8, 8, 8, 8, 8, 8, 8, 8, 8, 8, 8, 8, 8, 8, 8, 8, 8, 8, 8, 8, 8, 8, 8, 8, 8, 8, 8, 8, 8, 8, 8, 8, 8, 8, 8, 8, 8, 8, 8, 8, 8, 8, 8, 8, 8, 8, 8, 8, 8, 8, 8, 8, 8].append [8, 8, 8, 8, 8, 8, 8, 8, 8, 8, 8, 8, 8, 8, 8, 8, 8, 8, 8, 8, 8, 8, 8, 8, 8, 8, 8, 8, 8, 8, 8, 8, 8, 8, 8, 8, 8, 8, 8, 8, 8, 8, 8, 8, 8, 8, 8, 8, 8, 8, 8, 8, 8, 8, 8, 8, 8, 8, 8, 8, 8, 8, 8, 8])).toArray⟩ : ByteArray) = Lib.len8tab := by kernel_rfl
attribute [local go_sem high] fold_tab

set_option maxHeartbeats 400000 in
set_option maxRecDepth 100000 in
theorem len64_111 (x : Int) (w : World) (h0 : 0 ≤ x) (h1 : x ≤ 18446744073709551615) (t1 : 4294967296 ≤ x) (t2 : 65536 ≤ x / 4294967296) (t3 : 256 ≤ x / 4294967296 / 65536) :
    Calls Try.prog 119 #[.int .u64 x] w fun e w' => e = .returned (.int .i64 (Lib.bitLen x.toNat)) ∧ w = w' := by
  have k0 : 0 ≤ x / 4294967296 / 65536 / 256 := by omega
  have k1 : x / 4294967296 / 65536 / 256 ≤ 255 := by omega
  have e : (x / 4294967296 / 65536 / 256).toNat = x.toNat / 72057594037927936 := by omega
  have l := Lib.bitLen_le8' (x / 4294967296 / 65536 / 256) k0 k1
  have g := Lib.len8_of (x / 4294967296 / 65536 / 256) k0 k1
  have g0 : 0 ≤ len8 (x / 4294967296 / 65536 / 256) := by omega
  have g1 : len8 (x / 4294967296 / 65536 / 256) ≤ 8 := by omega
  rw [e] at g
  have s := Lib.bitLen_shift56 x.toNat (by omega) (by omega)
  have G := hide (show (56 : Int) + len8 (x / 4294967296 / 65536 / 256) = Lib.bitLen x.toNat by omega)
  clear g l e s
  go_enter Try.func119, Try.ntmps119
  go_wp2
  go_ret
  exact ⟨ret_int (by have := G.out; omega), rfl⟩

set_option maxHeartbeats 400000 in
set_option maxRecDepth 100000 in
theorem len64_110 (x : Int) (w : World) (h0 : 0 ≤ x) (h1 : x ≤ 18446744073709551615) (t1 : 4294967296 ≤ x) (t2 : 65536 ≤ x / 4294967296) (t3 : x / 4294967296 / 65536 < 256) :
    Calls Try.prog 119 #[.int .u64 x] w fun e w' => e = .returned (.int .i64 (Lib.bitLen x.toNat)) ∧ w = w' := by
  have k0 : 0 ≤ x / 4294967296 / 65536 := by omega
  have k1 : x / 4294967296 / 65536 ≤ 255 := by omega
  have e : (x / 4294967296 / 65536).toNat = x.toNat / 281474976710656 := by omega
  have l := Lib.bitLen_le8' (x / 4294967296 / 65536) k0 k1
  have g := Lib.len8_of (x / 4294967296 / 65536) k0 k1
  have g0 : 0 ≤ len8 (x / 4294967296 / 65536) := by omega
  have g1 : len8 (x / 4294967296 / 65536) ≤ 8 := by omega
  rw [e] at g
  have s := Lib.bitLen_shift48 x.toNat (by omega) (by omega)
  have G := hide (show (48 : Int) + len8 (x / 4294967296 / 65536) = Lib.bitLen x.toNat by omega)
  clear g l e s
  go_enter Try.func119, Try.ntmps119
  go_wp2
  go_ret
  exact ⟨ret_int (by have := G.out; omega), rfl⟩

set_option maxHeartbeats 400000 in
set_option maxRecDepth 100000 in
theorem len64_101 (x : Int) (w : World) (h0 : 0 ≤ x) (h1 : x ≤ 18446744073709551615) (t1 : 4294967296 ≤ x) (t2 : x / 4294967296 < 65536) (t3 : 256 ≤ x / 4294967296) :
    Calls Try.prog 119 #[.int .u64 x] w fun e w' => e = .returned (.int .i64 (Lib.bitLen x.toNat)) ∧ w = w' := by
  have k0 : 0 ≤ x / 4294967296 / 256 := by omega
  have k1 : x / 4294967296 / 256 ≤ 255 := by omega
  have e : (x / 4294967296 / 256).toNat = x.toNat / 1099511627776 := by omega
  have l := Lib.bitLen_le8' (x / 4294967296 / 256) k0 k1
  have g := Lib.len8_of (x / 4294967296 / 256) k0 k1
  have g0 : 0 ≤ len8 (x / 4294967296 / 256) := by omega
  have g1 : len8 (x / 4294967296 / 256) ≤ 8 := by omega
  rw [e] at g
  have s := Lib.bitLen_shift40 x.toNat (by omega) (by omega)
  have G := hide (show (40 : Int) + len8 (x / 4294967296 / 256) = Lib.bitLen x.toNat by omega)
  clear g l e s
  go_enter Try.func119, Try.ntmps119
  go_wp2
  go_ret
  exact ⟨ret_int (by have := G.out; omega), rfl⟩

set_option maxHeartbeats 400000 in
set_option maxRecDepth 100000 in
theorem len64_100 (x : Int) (w : World) (h0 : 0 ≤ x) (h1 : x ≤ 18446744073709551615) (t1 : 4294967296 ≤ x) (t2 : x / 4294967296 < 65536) (t3 : x / 4294967296 < 256) :
    Calls Try.prog 119 #[.int .u64 x] w fun e w' => e = .returned (.int .i64 (Lib.bitLen x.toNat)) ∧ w = w' := by
  have k0 : 0 ≤ x / 4294967296 := by omega
  have k1 : x / 4294967296 ≤ 255 := by omega
  have e : (x / 4294967296).toNat = x.toNat / 4294967296 := by omega
  have l := Lib.bitLen_le8' (x / 4294967296) k0 k1
  have g := Lib.len8_of (x / 4294967296) k0 k1
  have g0 : 0 ≤ len8 (x / 4294967296) := by omega
  have g1 : len8 (x / 4294967296) ≤ 8 := by omega
  rw [e] at g
  have s := Lib.bitLen_shift32 x.toNat (by omega) (by omega)
  have G := hide (show (32 : Int) + len8 (x / 4294967296) = Lib.bitLen x.toNat by omega)
  clear g l e s
  go_enter Try.func119, Try.ntmps119
  go_wp2
  go_ret
  exact ⟨ret_int (by have := G.out; omega), rfl⟩

set_option maxHeartbeats 400000 in
set_option maxRecDepth 100000 in
theorem len64_011 (x : Int) (w : World) (h0 : 0 ≤ x) (h1 : x ≤ 18446744073709551615) (t1 : x < 4294967296) (t2 : 65536 ≤ x) (t3 : 256 ≤ x / 65536) :
    Calls Try.prog 119 #[.int .u64 x] w fun e w' => e = .returned (.int .i64 (Lib.bitLen x.toNat)) ∧ w = w' := by
  have k0 : 0 ≤ x / 65536 / 256 := by omega
  have k1 : x / 65536 / 256 ≤ 255 := by omega
  have e : (x / 65536 / 256).toNat = x.toNat / 16777216 := by omega
  have l := Lib.bitLen_le8' (x / 65536 / 256) k0 k1
  have g := Lib.len8_of (x / 65536 / 256) k0 k1
  have g0 : 0 ≤ len8 (x / 65536 / 256) := by omega
  have g1 : len8 (x / 65536 / 256) ≤ 8 := by omega
  rw [e] at g
  have s := Lib.bitLen_shift24 x.toNat (by omega) (by omega)
  have G := hide (show (24 : Int) + len8 (x / 65536 / 256) = Lib.bitLen x.toNat by omega)
  clear g l e s
  go_enter Try.func119, Try.ntmps119
  go_wp2
  go_ret
  exact ⟨ret_int (by have := G.out; omega), rfl⟩

set_option maxHeartbeats 400000 in
set_option maxRecDepth 100000 in
theorem len64_010 (x : Int) (w : World) (h0 : 0 ≤ x) (h1 : x ≤ 18446744073709551615) (t1 : x < 4294967296) (t2 : 65536 ≤ x) (t3 : x / 65536 < 256) :
    Calls Try.prog 119 #[.int .u64 x] w fun e w' => e = .returned (.int .i64 (Lib.bitLen x.toNat)) ∧ w = w' := by
  have k0 : 0 ≤ x / 65536 := by omega
  have k1 : x / 65536 ≤ 255 := by omega
  have e : (x / 65536).toNat = x.toNat / 65536 := by omega
  have l := Lib.bitLen_le8' (x / 65536) k0 k1
  have g := Lib.len8_of (x / 65536) k0 k1
  have g0 : 0 ≤ len8 (x / 65536) := by omega
  have g1 : len8 (x / 65536) ≤ 8 := by omega
  rw [e] at g
  have s := Lib.bitLen_shift16 x.toNat (by omega) (by omega)
  have G := hide (show (16 : Int) + len8 (x / 65536) = Lib.bitLen x.toNat by omega)
  clear g l e s
  go_enter Try.func119, Try.ntmps119
  go_wp2
  go_ret
  exact ⟨ret_int (by have := G.out; omega), rfl⟩

set_option maxHeartbeats 400000 in
set_option maxRecDepth 100000 in
theorem len64_001 (x : Int) (w : World) (h0 : 0 ≤ x) (h1 : x ≤ 18446744073709551615) (t1 : x < 4294967296) (t2 : x < 65536) (t3 : 256 ≤ x) :
    Calls Try.prog 119 #[.int .u64 x] w fun e w' => e = .returned (.int .i64 (Lib.bitLen x.toNat)) ∧ w = w' := by
  have k0 : 0 ≤ x / 256 := by omega
  have k1 : x / 256 ≤ 255 := by omega
  have e : (x / 256).toNat = x.toNat / 256 := by omega
  have l := Lib.bitLen_le8' (x / 256) k0 k1
  have g := Lib.len8_of (x / 256) k0 k1
  have g0 : 0 ≤ len8 (x / 256) := by omega
  have g1 : len8 (x / 256) ≤ 8 := by omega
  rw [e] at g
  have s := Lib.bitLen_shift8 x.toNat (by omega) (by omega)
  have G := hide (show (8 : Int) + len8 (x / 256) = Lib.bitLen x.toNat by omega)
  clear g l e s
  go_enter Try.func119, Try.ntmps119
  go_wp2
  go_ret
  exact ⟨ret_int (by have := G.out; omega), rfl⟩

set_option maxHeartbeats 400000 in
set_option maxRecDepth 100000 in
theorem len64_000 (x : Int) (w : World) (h0 : 0 ≤ x) (h1 : x ≤ 18446744073709551615) (t1 : x < 4294967296) (t2 : x < 65536) (t3 : x < 256) :
    Calls Try.prog 119 #[.int .u64 x] w fun e w' => e = .returned (.int .i64 (Lib.bitLen x.toNat)) ∧ w = w' := by
  have k0 : 0 ≤ x := by omega
  have k1 : x ≤ 255 := by omega
  have e : (x).toNat = x.toNat / 1 := by omega
  have l := Lib.bitLen_le8' (x) k0 k1
  have g := Lib.len8_of (x) k0 k1
  have g0 : 0 ≤ len8 (x) := by omega
  have g1 : len8 (x) ≤ 8 := by omega
  rw [e] at g
  rw [Nat.div_one] at g
  have G := hide (show (0 : Int) + len8 (x) = Lib.bitLen x.toNat by omega)
  clear g l e
  go_enter Try.func119, Try.ntmps119
  go_wp2
  go_ret
  exact ⟨ret_int (by have := G.out; omega), rfl⟩

theorem len64_any (x : Int) (w : World) (h0 : 0 ≤ x) (h1 : x ≤ 18446744073709551615) :
    Calls Try.prog 119 #[.int .u64 x] w fun e w' => e = .returned (.int .i64 (Lib.bitLen x.toNat)) ∧ w = w' := by
  by_cases t1 : 4294967296 ≤ x
  · by_cases t2 : 65536 ≤ x / 4294967296
    · by_cases t3 : 256 ≤ x / 4294967296 / 65536
      · exact len64_111 x w h0 h1 t1 t2 t3
      · exact len64_110 x w h0 h1 t1 t2 (by omega)
    · by_cases t3 : 256 ≤ x / 4294967296
      · exact len64_101 x w h0 h1 t1 (by omega) t3
      · exact len64_100 x w h0 h1 t1 (by omega) (by omega)
  · by_cases t2 : 65536 ≤ x
    · by_cases t3 : 256 ≤ x / 65536
      · exact len64_011 x w h0 h1 (by omega) t2 t3
      · exact len64_010 x w h0 h1 (by omega) t2 (by omega)
    · by_cases t3 : 256 ≤ x
      · exact len64_001 x w h0 h1 (by omega) (by omega) t3
      · exact len64_000 x w h0 h1 (by omega) (by omega) (by omega)

theorem bitLen_pos (x : Nat) (h : 1 ≤ x) (hx : x < 2 ^ 64) : 1 ≤ Lib.bitLen x := by rw [Lib.bitLen_half x (by omega) hx]; omega
theorem bitLen_leb (f : Nat) (u : Int) (h0 : 0 ≤ u) (h1 : u < 128 ^ (f + 1)) (h2 : u ≤ 18446744073709551615) : max 1 (((Lib.bitLen u.toNat : Nat) + 6) / 7) = (lebN f u).length := by
  induction f generalizing u with
  | zero =>
    have := Lib.bitLen_le u.toNat 7 (by omega) (by simp at h1; omega)
    simp only [lebN, List.length_singleton]
    omega
  | succ f ih =>
    by_cases hlt : u < 128
    · rw [lebN_lt hlt]
      have := Lib.bitLen_le u.toNat 7 (by omega) (by omega)
      simp only [List.length_singleton]
      omega
    · have hl : lebN (f + 1) u = (u % 128 + 128) :: lebN f (u / 128) := by simp [lebN, hlt]
      have e : (128 : Int) ^ (f + 1 + 1) = 128 ^ (f + 1) * 128 := Int.pow_succ _ _
      have h3 := ih (u / 128) (by omega) (by rw [e] at h1; exact Int.ediv_lt_of_lt_mul (by omega) h1) (by omega)
      have h4 := Lib.bitLen_shift 7 u.toNat (by omega) (by omega)
      have e2 : (u / 128).toNat = u.toNat / 2 ^ 7 := by omega
      rw [e2] at h3
      have h5 := bitLen_pos (u.toNat / 2 ^ 7) (by omega) (by omega)
      rw [hl, List.length_cons, ← h3, h4]
      omega

theorem len_any (u : Int) (w : World) (h0 : 0 ≤ u) (h1 : u ≤ 18446744073709551615) :
    Calls Try.prog 80 #[.int .u64 u] w fun e w' => e = .returned (.int .i64 ((lebN 10 u).length : Nat)) ∧ w = w' := by
  have hb := Lib.bitLen_le u.toNat 64 (by omega) (by omega)
  have hl := hide (bitLen_leb 10 u h0 (by omega) h1)
  go_enter Try.func80, Try.ntmps80
  go_wp2_with fail
  refine (len64_any u w h0 h1).mono ?_
  rintro e w1 ⟨rfl, rfl⟩
  generalize Lib.bitLen u.toNat = B at *
  go_wp2
  go_ret
  refine ⟨ret_int ?_, rfl⟩
  rw [← hl.out]
  omega


end Go.Proofs.Ytkfejcffacbngaa.J


namespace Go.Proofs.Ytkfejcffacbngaa.J

open Go Go.Sym

set_option linter.unusedVariables false

/-- a number without its sign, in the program's words -/
def foldM (x : Int) : Int := if x < 0 then binI .add .u64 (binI .mul .u64 2 (IntKind.u64.wrap (binI .sub .i64 0 (binI .add .i64 x 1)))) 1 else binI .mul .u64 2 (IntKind.u64.wrap x)

def g100 : List (List Int) → List Int
  | [[x]] => [foldM x]
  | _ => []

def FNp : Nat → List (List Int) → List Int
  | 100, l => g100 l
  | i, l => FNa i l

theorem FNp_100 (x : Int) : FNp 100 [[x]] = [foldM x] := rfl

def pcFold : Pc := ⟨77, [.int .i64], [.int .u64], 100, [], []⟩
def pcFoldR : Pc := ⟨79, [.int .i64], [.int .u64], 100, [], []⟩

theorem fold_entry : entryK Try.prog [] 50 200 77 [] 1 (argSVs 0 pcFold.aks) 30 [] = some [([(.cmp .lss (.var 0) (.lit 0), true)], .ret (.sint .u64 (.bin .add .u64 (.bin .mul .u64 (.lit 2) (.wrap .u64 (.bin .sub .i64 (.lit 0) (.bin .add .i64 (.var 0) (.lit 1))))) (.lit 1))) ⟨0, .nil⟩), ([(.cmp .lss (.var 0) (.lit 0), false)], .ret (.sint .u64 (.bin .mul .u64 (.lit 2) (.wrap .u64 (.var 0)))) ⟨0, .nil⟩)] := by kernel_rfl

theorem foldR_entry : entryK Try.prog [] 50 200 79 [] 1 (argSVs 0 pcFoldR.aks) 30 [] = some [([(.cmp .lss (.var 0) (.lit 0), true)], .ret (.sint .u64 (.bin .add .u64 (.bin .mul .u64 (.lit 2) (.wrap .u64 (.bin .sub .i64 (.lit 0) (.bin .add .i64 (.var 0) (.lit 1))))) (.lit 1))) ⟨0, .nil⟩), ([(.cmp .lss (.var 0) (.lit 0), false)], .ret (.sint .u64 (.bin .mul .u64 (.lit 2) (.wrap .u64 (.var 0)))) ⟨0, .nil⟩)] := by kernel_rfl

end Go.Proofs.Ytkfejcffacbngaa.J


namespace Go.Proofs.Ytkfejcffacbngaa.J

open Go Go.Sym

set_option linter.unusedVariables false

/-- A contract at one call: what is assumed from the beginning may be chosen by the numbers. -/
theorem pc_inst' {P : Program} {FN : Nat → List (List Int) → List Int} {aa : As} (hmix : P.follows .mixedOrders = true) {kn : Kn} {n f k base : Nat} (c : Pc) (hkn : ∀ env : Env, env.fn = FN → KnOk P env kn) (hbase : c.aks.length ≤ base) {eouts : List Leaf}
    (hent : entryK P kn n f c.f [] base (argSVs 0 c.aks) k aa = some eouts) {w : World} {vs : Array Value} {ls : List (List Int)} (hargs : ArgsAre w vs.toList c.aks ls)
    (H : ∀ (e0 : Env), e0.fn = FN → ArgsE e0 0 c.aks ls → AsOk e0 aa ∧ allLeaves (fun lf => AsOk e0 lf.1 → StepG FN ls c.id c.rks (fun _ _ => False) (fun _ _ => (0, 0)) none e0 lf.2) eouts) :
    Calls P c.f vs w fun e w' => RowKit.Below w.heap.size w w' ∧ ∃ v vs', e = .returned v ∧ TupIs v vs' ∧ ResL FN ls w w' c.id c.rks vs' := by
  have h0 : ArgsE (argEnv FN c.aks vs.toList ls) 0 c.aks ls := by have := argsE_of (FN := FN) hargs c.aks 0 rfl; simpa using this
  obtain ⟨ha, h2⟩ := H _ rfl h0
  refine floyd_args (n := n) (f := f) (k := k) (kn := kn) (base := base) (cs := []) hmix hkn hbase hargs (fun _ _ => False) (fun _ _ => (0, 0)) (fun i p T hi => by simp at hi) (fun i env h => h.elim) hent ha (fun lf hlf hA => ?_)
  have h := allLeaves_spec h2 lf hlf hA
  generalize lf.2 = o at h ⊢
  cases o with
  | ret s M => obtain ⟨l, hl, hr⟩ := h; exact ret_good l hl hr
  | cut j σ => exact h
  | bad => exact h

theorem fold_leaves {ls : List (List Int)} {e0 : Env} {c : Pc} (hid : c.id = 100) (hr : c.rks = [.int .u64]) (hargs : ArgsE e0 0 [.int .i64] ls) : ∃ x, ls = [[x]] ∧ vInt (e0.val 0) = x := by
  simp only [ArgsE, ArgE] at hargs
  obtain ⟨_, _, rfl, h, rfl⟩ := hargs
  exact ⟨_, by rw [h], rfl⟩

theorem fold_ok : PcOk Try.prog FNp pcFold := by
  intro w vs ls hargs hrng hpre
  refine pc_inst' mix pcFold (fun _ _ => knOk_nil) (by decide) fold_entry hargs fun e0 hf ha => ⟨(fun p hp => by cases hp), ?_⟩
  obtain ⟨x, rfl, hx⟩ := fold_leaves (c := pcFold) rfl rfl ha
  simp only [allLeaves, AsOk_cons, AsOk_nil, BE.eval, cmpI, IE.eval, hx, and_true, decide_eq_true_eq, decide_eq_false_iff_not]
  refine ⟨fun hA => ⟨[_], rfl, ⟨_, rfl, ?_⟩, rfl⟩, fun hA => ⟨[_], rfl, ⟨_, rfl, ?_⟩, rfl⟩⟩
  · simp only [IE.eval, hx, pcFold, FNp_100, foldM, if_pos hA, List.headD_cons]
  · simp only [IE.eval, hx, pcFold, FNp_100, foldM, if_neg hA, List.headD_cons]

theorem foldR_ok : PcOk Try.prog FNp pcFoldR := by
  intro w vs ls hargs hrng hpre
  refine pc_inst' mix pcFoldR (fun _ _ => knOk_nil) (by decide) foldR_entry hargs fun e0 hf ha => ⟨(fun p hp => by cases hp), ?_⟩
  obtain ⟨x, rfl, hx⟩ := fold_leaves (c := pcFoldR) rfl rfl ha
  simp only [allLeaves, AsOk_cons, AsOk_nil, BE.eval, cmpI, IE.eval, hx, and_true, decide_eq_true_eq, decide_eq_false_iff_not]
  refine ⟨fun hA => ⟨[_], rfl, ⟨_, rfl, ?_⟩, rfl⟩, fun hA => ⟨[_], rfl, ⟨_, rfl, ?_⟩, rfl⟩⟩
  · simp only [IE.eval, hx, pcFoldR, FNp_100, foldM, if_pos hA, List.headD_cons]
  · simp only [IE.eval, hx, pcFoldR, FNp_100, foldM, if_neg hA, List.headD_cons]

theorem foldM_rng (x : Int) : 0 ≤ foldM x ∧ foldM x ≤ 18446744073709551615 := by
  have h : ∀ y : Int, 0 ≤ IntKind.u64.wrap y ∧ IntKind.u64.wrap y ≤ 18446744073709551615 := by
    intro y
    simp only [IntKind.wrap, IntKind.bits, IntKind.signed]
    simp
    omega
  unfold foldM
  split
  · exact h _
  · exact h _

/-- leb.Fold as a call -/
theorem fold_call (x : Int) (w : World) : Calls Try.prog 77 #[.int .i64 x] w fun e w' => e = .returned (.int .u64 (foldM x)) ∧ RowKit.Below w.heap.size w w' := by
  refine (fold_ok w #[.int .i64 x] [[x]] ⟨⟨x, rfl, rfl⟩, trivial⟩ trivial trivial).mono ?_
  rintro e w' ⟨hb, v, vs', rfl, ht, hr⟩
  obtain ⟨u, vs2, rfl, hu, rfl⟩ := hr
  simp only [TupIs] at ht
  subst ht
  refine ⟨?_, hb⟩
  rw [show v = .int .u64 (foldM x) from hu]

end Go.Proofs.Ytkfejcffacbngaa.J


namespace Go.Proofs.Ytkfejcffacbngaa.J

open Go Go.RowKit Go.Shelf

set_option linter.unusedVariables false

attribute [local go_sem] Oper.semAt_some

theorem KeepsOthers.of_below {A B : World} (h : Below A.heap.size A B) : KeepsOthers A B := ⟨h.size, fun k o hk _ => (h.block k (Array.getElem?_eq_some_iff.1 hk).1).trans hk⟩

def bumpL (p : Int × Int) : Nat := (lebN 10 (foldM p.1)).length + (if p.1 = 0 then (lebN 10 (IntKind.u64.wrap (IntKind.i64.wrap (p.2 - 1)))).length else 0)

def lenS (pre : List (Int × Int)) : Nat := (pre.map bumpL).sum

theorem lenS_snoc (pre : List (Int × Int)) (x : Int × Int) : lenS (pre ++ [x]) = lenS pre + bumpL x := by simp [lenS]

theorem lebN_len' (k : Nat) (u : Int) : 1 ≤ (lebN k u).length ∧ (lebN k u).length ≤ k + 1 := by
  induction k generalizing u with
  | zero => simp [lebN]
  | succ k ih =>
    rw [lebN]
    split
    · simp
    · have := ih (u / 128); simp; omega

theorem bumpL_le (p : Int × Int) : bumpL p ≤ 22 := by
  have h1 := lebN_len' 10 (foldM p.1)
  have h2 := lebN_len' 10 (IntKind.u64.wrap (IntKind.i64.wrap (p.2 - 1)))
  unfold bumpL
  split <;> omega

theorem lenS_le (pre : List (Int × Int)) : lenS pre ≤ 22 * pre.length := by
  induction pre with
  | nil => simp [lenS]
  | cons x l ih => have := bumpL_le x; simp [lenS] at ih ⊢; omega

/-- what a round has kept, and where its box is -/
def Kept (w : World) (B b : Nat) (W W' : World) (v : Value) : Prop := KeepsOthers W W' ∧ Keep2 b (B + 1) W W' ∧ Boxed W' B 3 v ∧ Below B w W'

theorem Keep2.of_all {b c : Nat} {A B : World} (h : Below A.heap.size A B) : Keep2 b c A B := fun k o v hk hv => by
  have hlt : k < A.heap.size := by
    simp only [World.cell?] at hv
    split at hv
    · rename_i hq; exact (Array.getElem?_eq_some_iff.1 hq).1
    · cases hv
  exact (h.cell (p := ⟨k, o, none⟩) hlt).trans hv

theorem Kept.start {w W : World} {B b : Nat} {v : Value} (h : Boxed W B 3 v) (hB : Below B w W) : Kept w B b W W v := ⟨KeepsOthers.refl _, Keep2.refl _ _ _, h, hB⟩

theorem Kept.step {w W W1 w1 : World} {B b : Nat} {v : Value} (h : Kept w B b W W1 v) (hb : Below W1.heap.size W1 w1) : Kept w B b W w1 v :=
  ⟨h.1.trans (KeepsOthers.of_below hb), h.2.1.trans (Keep2.of_all hb), (hb.block B h.2.2.1.lt).trans h.2.2.1, h.2.2.2.trans (hb.mono (Nat.le_of_lt h.2.2.1.lt))⟩

theorem Kept.set {w W W1 : World} {B b : Nat} {v : Value} (v' : Value) (h : Kept w B b W W1 v) (hbB : b ≠ B) : Kept w B b W (W1.setCell ⟨B, 0, none⟩ v') v' :=
  ⟨h.1.trans (KeepsOthers.setCell _ _ _), h.2.1.trans fun k o u hk hu => (World.cell?_setCell_other W1 ⟨B, 0, none⟩ ⟨k, o, none⟩ v' (fun e => by have := congrArg Addr.block e; simp at this; omega)).trans hu, h.2.2.1.set v', h.2.2.2.setCell (p := ⟨B, 0, none⟩) (Nat.le_refl _) v'⟩

theorem Kept.drew {w W W1 : World} {B b : Nat} {v : Value} (h : Kept w B b W W1 v) : Kept w B b W W1.drew v := ⟨h.1.trans (KeepsOthers.drew _), fun k o u hk hu => h.2.1 k o u hk hu, h.2.2.1, h.2.2.2.drew⟩

theorem wrapU_rng (y : Int) : 0 ≤ IntKind.u64.wrap y ∧ IntKind.u64.wrap y ≤ 18446744073709551615 := by
  simp only [IntKind.wrap, IntKind.bits, IntKind.signed]
  simp
  omega

set_option maxRecDepth 100000 in
set_option maxHeartbeats 4000000 in
theorem len_in (sv : Value) (zs : List Int) (hreach : zs.length ≤ 1000000) (w : World) (hI : IntsIn w w.heap.size sv zs) :
    CallsIn Fence.wide 3 Try.prog 22 #[sv] w fun e W' => e = .returned (.int .i64 (lenS (runsL zs) : Nat)) ∧ Below w.heap.size w W' := by
  obtain ⟨a, cap, rfl, hz0⟩ := hI
  obtain ⟨b, hb, hz⟩ : ∃ b, (b < w.heap.size ∨ b = w.heap.size + 1) ∧ (zs = [] ∨ ∃ off, a = some ⟨b, off, none⟩ ∧ b < w.heap.size ∧ ∀ j, j < zs.length → w.cell? ⟨b, off + j, none⟩ = some (.int .i64 (zs[j]?.getD 0))) := by
    rcases hz0 with h | ⟨b, off, h1, h2, h3⟩
    · exact ⟨w.heap.size + 1, .inr rfl, .inl h⟩
    · exact ⟨b, .inl h2, .inr ⟨off, h1, h2, h3⟩⟩
  have hbB : b ≠ w.heap.size := by omega
  clear hz0
  have h1 : (1 : Nat) ≤ 3 := by omega
  refine callsIn_of_wp_marks Try.func22 rfl trivial ?_ rfl
  simp only [Try.ntmps22, List.size_toArray, List.length_cons, List.length_nil, Nat.reduceAdd, Nat.reduceSub, Array.replicate_succ, Array.replicate_zero, List.push_toArray, List.append_toArray, List.nil_append, List.cons_append]
  gi_wp2_with (refine ⟨trivial, ?_⟩; gi_at_call 75; refine (each_in Fence.wide 2 trivial rfl _ _ _ _).mono ?_; rintro e w' ⟨rfl, rfl⟩)
  have bO := Boxed.new w 3 (.int .i64 0)
  have bN := Boxed.new (w.alloc (.cells #[.int .i64 0] 3)) 23 (.slice a zs.length cap)
  rw [World.size_alloc] at bN
  have hB0 : Below w.heap.size w ((w.alloc (.cells #[.int .i64 0] 3)).alloc (.cells #[.slice a zs.length cap] 23)) := ((Below.refl _ w).alloc (Nat.le_refl _) _).alloc (by simp) _
  refine wpIn_rangeFunc_ownF rfl h1 (gf := 117) (lb := #[.pointer (some ⟨w.heap.size + 1, 0, none⟩)]) rfl trivial (enters_of Try.func117 (by kernel_rfl) rfl)
    (each_stops Fence.wide 2 trivial rfl (by omega) (w.heap.size + 1) b _ zs hreach _ (by simp) (by simp; omega) bN.cell ⟨a, cap, rfl, hz.imp id fun ⟨off, h1, hb2, h2⟩ => ⟨off, h1, fun j hj => (hB0.cell (p := ⟨b, off + j, none⟩) hb2).trans (h2 j hj)⟩⟩) keep2_t keep2_b (Below.refl _ _) (fun _ => rfl)
    (fun pre W => Boxed W w.heap.size 3 (.int .i64 (lenS pre : Nat)) ∧ Below w.heap.size w W)
    (fun _ _ _ => False)
    (OwnFrom.and (Own.from (boxed_own w.heap.size 3 (fun pre => Value.int .i64 (lenS pre : Nat))) _) (ownFrom_below (Nat.le_refl _) (by simp; omega)))
    (fun _ _ _ _ _ hs _ _ => hs)
    ⟨bO.alloc _, hB0⟩
    (fun x => { tmps := #[.slice a zs.length cap, undef, .int .i64 0, .pointer (some ⟨w.heap.size, 0, none⟩), .int .i64 x.1, .int .i64 x.2, .slice a zs.length cap, .func (.func 117) #[] #[.pointer (some ⟨w.heap.size + 1, 0, none⟩)], .int .i64 x.1, .int .i64 x.2, undef, undef, undef, undef, undef, undef, undef, undef, undef, undef, undef, undef, undef, undef], defers := [] }) ?assign ?body ?done ?stop
  case assign =>
    intro l x W K hK
    gi_wp2
    exact hK
  case body =>
    rintro l pre x W ⟨hv, hB⟩ hlt
    have hlt0 := hv.lt
    have hc := hv.cell
    have hf := hv.frozen
    obtain ⟨x1, x2⟩ := x
    obtain ⟨u, hu⟩ : ∃ u, foldM x1 = u := ⟨_, rfl⟩
    have hur := foldM_rng x1
    rw [hu] at hur
    obtain ⟨hu0, hu1⟩ := hur
    obtain ⟨L, hL⟩ : ∃ L, (lebN 10 u).length = L := ⟨_, rfl⟩
    have hL1 := (lebN_len' 10 u).2
    rw [hL] at hL1
    have hS := lenS_le pre
    obtain ⟨S, hS0⟩ : ∃ S, lenS pre = S := ⟨_, rfl⟩
    have HV := hide hv
    rw [hS0] at hS hc
    clear hv
    have HF : ∀ W1, Calls Try.prog 77 #[.int .i64 x1] W1 fun e w' => e = .returned (.int .u64 u) ∧ Below W1.heap.size W1 w' := fun W1 => by rw [← hu]; exact fold_call x1 W1
    have HLn : ∀ W1, Calls Try.prog 80 #[.int .u64 u] W1 fun e w' => e = .returned (.int .i64 (L : Nat)) ∧ W1 = w' := fun W1 => by rw [← hL]; exact len_any u W1 hu0 hu1
    have HF' := hide HF
    have HLn' := hide HLn
    have HZ := hide hz
    have HB := hide hB
    clear HF HLn hz hB hB0 bO bN
    have hd : 1 ≤ 3 - 1 - 1 := by omega
    have hmx : Try.prog.follows .mixedOrders = true := mix
    obtain ⟨u2, hu2⟩ : ∃ z, IntKind.u64.wrap (IntKind.i64.wrap (x2 - 1)) = z := ⟨_, rfl⟩
    have hu2r : 0 ≤ u2 ∧ u2 ≤ 18446744073709551615 := by rw [← hu2]; exact wrapU_rng _
    obtain ⟨L2, hL2⟩ : ∃ L, (lebN 10 u2).length = L := ⟨_, rfl⟩
    have hL3 := (lebN_len' 10 u2).2
    rw [hL2] at hL3
    have HL2' : Hid (∀ W1, Calls Try.prog 80 #[.int .u64 u2] W1 fun e w' => e = .returned (.int .i64 (L2 : Nat)) ∧ W1 = w') := fun W1 => by rw [← hL2]; exact len_any u2 W1 hu2r.1 hu2r.2
    have HB2 : Hid (bumpL (x1, x2) = L + if x1 = 0 then L2 else 0) := by simp only [Hid, bumpL, hu, hL, hu2, hL2]
    have HU2 := hide hu2
    have HSS := hide hS0
    clear hu2 hu2r hL2 hu hL hS0
    by_cases hx : x1 = 0
    · subst hx
      gi_wp2
      gi_region_with_o (first
        | (refine ⟨trivial, ?_⟩; gi_at_call 77; refine (CallsIn.inRound l (callsIn_wide.2 (HF'.out _))).mono ?_; rintro e w1 ⟨rfl, hb1⟩; have hc1 := (hb1.cell (p := ⟨w.heap.size, 0, none⟩) hlt0).trans hc; have hf1 := (hb1.frozen (p := ⟨w.heap.size, 0, none⟩) hlt0).trans hf)
        | (refine ⟨trivial, ?_⟩; gi_at_call 80; refine (CallsIn.inRound l (callsIn_wide.2 (HLn'.out _))).mono ?_; rintro e w2 ⟨rfl, rfl⟩))
      all_goals gi_wp2
      all_goals (have hu3 := HU2.out)
      all_goals gi_region_with_o (refine ⟨trivial, ?_⟩; gi_at_call 80; refine (CallsIn.inRound l (callsIn_wide.2 (HL2'.out _))).mono ?_; rintro e w2 ⟨rfl, rfl⟩)
      all_goals gi_wp2
      all_goals
        have hK := (((((Kept.start (b := b) HV.out HB.out).step (((Below.refl _ W).drew).trans hb1)).set (.int .i64 ((S : Int) + (L : Int))) hbB)).set (.int .i64 (IntKind.i64.wrap ((S : Int) + (L : Int) + (L2 : Int)))) hbB).drew
        have hW : IntKind.i64.wrap ((S : Int) + (L : Int) + (L2 : Int)) = ((S + (L + L2) : Nat) : Int) := by rw [Sym.wrap_i64 (by omega)]; omega
        exact ⟨hK.1, hK.2.1, by rw [lenS_snoc, HSS.out, HB2.out]; simp only [if_true]; rw [← hW]; exact hK.2.2.1, hK.2.2.2⟩
    · gi_wp2
      gi_region_with_o (first
        | (refine ⟨trivial, ?_⟩; gi_at_call 77; refine (CallsIn.inRound l (callsIn_wide.2 (HF'.out _))).mono ?_; rintro e w1 ⟨rfl, hb1⟩; have hc1 := (hb1.cell (p := ⟨w.heap.size, 0, none⟩) hlt0).trans hc; have hf1 := (hb1.frozen (p := ⟨w.heap.size, 0, none⟩) hlt0).trans hf)
        | (refine ⟨trivial, ?_⟩; gi_at_call 80; refine (CallsIn.inRound l (callsIn_wide.2 (HLn'.out _))).mono ?_; rintro e w2 ⟨rfl, rfl⟩))
      all_goals gi_wp2
      all_goals
        have hK := ((Kept.start (b := b) HV.out HB.out).step (((Below.refl _ W).drew).trans hb1)).set (.int .i64 ((S : Int) + (L : Int))) hbB
        exact ⟨hK.1, hK.2.1, by rw [lenS_snoc, HSS.out, HB2.out, if_neg hx]; simpa using hK.2.2.1, hK.2.2.2⟩
  case done =>
    rintro D ys W hD rfl ⟨hv, hB⟩ hK
    have hc := hv.cell
    gi_wp2
    refine ⟨by simp, .inl ⟨_, _, rfl, run_takeDeferred hK, ?_⟩⟩
    exact ⟨_, results_tmp rfl _ _ _, rfl, hB.trans (belowK_b (w := w) (Nat.le_refl _) W D _ _ (by simp at hD; omega) hK rfl rfl)⟩
  case stop =>
    rintro D c pre W _ _ h _
    exact h.elim

end Go.Proofs.Ytkfejcffacbngaa.J


namespace Go.Proofs.Ytkfejcffacbngaa.J

open Go Go.RowKit Go.Shelf

set_option linter.unusedVariables false

attribute [local go_sem] Oper.semAt_some

abbrev B8 (l : List Int) : List Value := l.map (Value.int .u8)

/-- what a round of Put has kept: its box, the iterator's box, the bytes so far -/
structure KeptR (w : World) (N B b : Nat) (rv : Value) (W W' : World) (v : Value) (xs : List Int) : Prop where
  others : KeepsOthers W W'
  keep : Keep2 b (B + 1) W W'
  box : Boxed W' B 22 v
  it : Boxed W' (B + 1) 23 rv
  row : W'.ownsRow N 5 1 v xs.length (B8 xs)
  below : Below N w W'

theorem KeptR.start {w W : World} {N B b : Nat} {rv v : Value} {xs : List Int} (h : Boxed W B 22 v) (h2 : Boxed W (B + 1) 23 rv) (hr : W.ownsRow N 5 1 v xs.length (B8 xs)) (hB : Below N w W) : KeptR w N B b rv W W v xs :=
  ⟨KeepsOthers.refl _, Keep2.refl _ _ _, h, h2, hr, hB⟩

theorem own_keep {w w' : World} {base : Nat} {e : TypeId} {size : Nat} {v : Value} {n : Nat} {xs : List Value} (h : w.ownsRow base e size v n xs) (hb : Below w.heap.size w w') : w'.ownsRow base e size v n xs := by
  refine ⟨h.1, ?_⟩
  rcases h.2 with h0 | ⟨g, cap, cur, h1, h2, h3, h4⟩
  · exact .inl h0
  · exact .inr ⟨g, cap, cur, h1, h2, by rw [hb.block g (Array.getElem?_eq_some_iff.1 h3).1]; exact h3, h4⟩

theorem KeptR.step {w W W1 w1 : World} {N B b : Nat} {rv v : Value} {xs : List Int} (h : KeptR w N B b rv W W1 v xs) (hN : N ≤ W1.heap.size) (hb : Below W1.heap.size W1 w1) : KeptR w N B b rv W w1 v xs :=
  ⟨h.others.trans (KeepsOthers.of_below hb), h.keep.trans (Keep2.of_all hb), (hb.block B h.box.lt).trans h.box, (hb.block (B + 1) h.it.lt).trans h.it, own_keep h.row hb, h.below.trans (hb.mono hN)⟩

theorem KeptR.drew {w W W1 : World} {N B b : Nat} {rv v : Value} {xs : List Int} (h : KeptR w N B b rv W W1 v xs) : KeptR w N B b rv W W1.drew v xs :=
  ⟨h.others.trans (KeepsOthers.drew _), fun k o u hk hu => h.keep k o u hk hu, h.box, h.it, h.row, h.below.drew⟩

theorem KeptR.append {w W W1 w1 : World} {N B b : Nat} {rv v v' : Value} {xs ys : List Int} {m : Nat} (h : KeptR w N B b rv W W1 v xs) (hb : b < N ∨ b = B + 1) (hNB : N ≤ B) (hN : N ≤ W1.heap.size)
    (hown : w1.ownsRow N 5 1 v' m (B8 ys)) (hm : m = ys.length) (hg : W1.grownBy w1 v.ownBlock) : Boxed w1 B 22 v ∧ KeptR w N B b rv W (w1.setCell ⟨B, 0, none⟩ v') v' ys := by
  subst hm
  have hv1 : Boxed w1 B 22 v := h.box.kept hg (h.box.not_row (by decide) h.row)
  have hi1 : Boxed w1 (B + 1) 23 rv := h.it.kept hg (h.it.not_row (by decide) h.row)
  have hrow : ∀ j, v.ownBlock = some j → N ≤ j ∧ ∃ o : Obj, W1.heap[j]? = some o ∧ o.isCells = true := by
    intro j ej
    rcases h.row.2 with ⟨rfl, _⟩ | ⟨g, cap, cur, rfl, hb, hgb, _⟩
    · simp [Value.ownBlock] at ej
    · obtain rfl : g = j := by simpa [Value.ownBlock] using ej
      exact ⟨hb, _, hgb, rfl⟩
  refine ⟨hv1, ?_, ?_, hv1.set v', ?_, hown.kept (grownBy_setCell' w1 B v') (.inr (hv1.not_row (by decide) hown).symm), ?_⟩
  · exact (h.others.trans (KeepsOthers.of_grownBy hg fun j o ej hj => by obtain ⟨_, o', h1, h2⟩ := hrow j ej; rw [hj] at h1; cases h1; exact h2)).trans (KeepsOthers.setCell _ _ _)
  · intro k o u hk hu
    have h1 := h.keep k o u hk hu
    have hlt : k < W1.heap.size := by
      simp only [World.cell?] at h1
      split at h1
      · rename_i hq; exact (Array.getElem?_eq_some_iff.1 hq).1
      · cases h1
    have hne : some k ≠ v.ownBlock := by
      intro e
      by_cases hkB : k = B + 1
      · subst hkB; exact h.it.not_row (by decide) h.row e
      · have := (hrow k e.symm).1; omega
    have h2 : w1.cell? ⟨k, o, none⟩ = some u := (World.cell?_of_block (w := W1) (hg.block k hlt hne)).trans h1
    exact (World.cell?_setCell_other w1 ⟨B, 0, none⟩ ⟨k, o, none⟩ v' (fun e => by have := congrArg Addr.block e; simp at this; omega)).trans h2
  · exact hi1.kept (grownBy_setCell' w1 B v') (by simp)
  · exact ((h.below.grown hg hN fun j ej => (hrow j ej).1)).setCell (p := ⟨B, 0, none⟩) hNB v'

/-- leb.Put of nothing, as a call -/
theorem put_call (u : Int) (h0 : 0 ≤ u) (h1 : u ≤ 18446744073709551615) (w : World) : Calls Try.prog 76 #[.slice none 0 0, .int .u64 u] w fun e w' => ∃ g c, e = .returned (.slice (some ⟨g, 0, none⟩) (lebN 10 u).length c) ∧ (∀ j z, (B8 (lebN 10 u))[j]? = some z → w'.cell? ((⟨g, 0, none⟩ : Addr).add j) = some z) ∧ Below w.heap.size w w' := by
  refine (leb_ok w #[.slice none 0 0, .int .u64 u] [[], [u]] ⟨⟨by decide, none, 0, 0, rfl, Nat.le_refl _, rfl, .inr rfl⟩, ⟨u, rfl, rfl⟩, trivial⟩ ?_ trivial).mono ?_
  · refine ⟨fun k l hk hl => ?_, fun k l hk hl => ?_, trivial⟩
    · cases hk; cases hl; simp [Sym.measL]
    · cases hk; cases hl; simp [Sym.measL]; omega
  · rintro e w' ⟨hb, v, vs', rfl, ht, hr⟩
    obtain ⟨x, vs2, rfl, ⟨_, hx⟩, rfl⟩ := hr
    simp only [Sym.TupIs] at ht
    subst ht
    have e1 : FNa pcLeb.id [[], [u]] = lebN 10 u := rfl
    rw [e1] at hx
    rcases hx with ⟨hx, _⟩ | ⟨_, b, n, c, cells, lo, hi, rfl, hn, _, _, _, _, _, hrow⟩
    · have := (lebN_len' 10 u).1; rw [hx] at this; simp at this
    · refine ⟨b, c, by rw [hn]; simp, fun j z hz => ?_, hb⟩
      rw [List.getElem?_map] at hz
      cases hq : (lebN 10 u)[j]? with
      | none => rw [hq] at hz; cases hz
      | some q =>
        rw [hq] at hz
        cases hz
        have := hrow j q hq
        rw [Sym.addr_add]
        simpa [Sym.kindAt, Nat.mod_one] using this

end Go.Proofs.Ytkfejcffacbngaa.J


namespace Go.Proofs.Ytkfejcffacbngaa.J

open Go Go.RowKit Go.Shelf

set_option linter.unusedVariables false

theorem infobyte : (Try.prog.info? 5).map (fun i => (i.zero, i.size, i.bytes)) = some (some (.int .u8 0), 1, 1) := by kernel_rfl

theorem hone8 (l : List Int) : ∀ u ∈ B8 l, u.oneCell' = true := fun u hu => by
  obtain ⟨x, _, rfl⟩ := List.mem_map.1 hu
  rfl

set_option maxRecDepth 100000 in
set_option maxHeartbeats 1000000 in
theorem clone74 (A : Option Addr) (n c : Nat) (xs : List Int) (w : World) (hr : Reads w w.heap.size 1 A n (B8 xs)) (hn : n ≤ 1000000) :
    Calls Try.prog 74 #[.slice A n c] w fun e w' => ∃ v, e = .returned v ∧ w'.ownsRow w.heap.size 5 1 v n (B8 xs) ∧ Below w.heap.size w w' := by
  have hlen : xs.length = n := by simpa using hr.1
  obtain ⟨j0, hi, hz0, hz1, hz2⟩ := info_parts infobyte
  have Hi := hide hi
  have Hz0 := hide hz0
  have Hz1 := hide hz1
  have Hz2 := hide hz2
  have HR := hide hr
  have HL := hide hlen
  have HONE := hide hone8
  have hown0 : (w.alloc (Obj.cells #[] 5)).ownsRow w.heap.size 5 1 (.slice (some ⟨w.heap.size, 0, none⟩) 0 0) 0 [] := World.ownsRow_made w #[] 0 (Nat.le_refl _) (Nat.zero_le _) rfl
  have hb0 : Below w.heap.size w (w.alloc (Obj.cells #[] 5)) := (Below.refl _ _).alloc (Nat.le_refl _) _
  clear hi hz0 hz1 hz2 hr hlen
  cases A with
  | none =>
    have hn0 : n = 0 := by
      by_cases h : n = 0
      · exact h
      · obtain ⟨ad, h1, _⟩ := HR.out.2 (by omega)
        cases h1
    subst hn0
    have hx0 : xs = [] := List.eq_nil_of_length_eq_zero HL.out
    subst hx0
    clear hown0 hb0
    have kq := Lib.run_eql_slice_nil (P := Try.prog) w 22 5 none 0 c 0 0 Try.underlying22
    go_enter Try.func74, Try.ntmps74
    go_wp2_with fail
    go_ret
    exact ⟨_, rfl, ⟨rfl, .inl ⟨rfl, rfl⟩⟩, Below.refl _ _⟩
  | some ad =>
    have kq := Lib.run_eql_slice_nil (P := Try.prog) w 22 5 (some ad) n c 0 0 Try.underlying22
    go_enter Try.func74, Try.ntmps74
    go_wp2_with (at_builtin; (refine wpList_append_any _ rfl (.tmp 5) (.tmp 6) _ rfl w.heap.size 5 j0 _ 1 1 Try.underlying22 Hi.out Hz0.out Hz1.out Hz2.out rfl (by omega) _ 0 [] rfl hown0 w.heap.size (some ad) n c _ rfl (HR.out.below hb0) (HONE.out _) (by simp only [maxLen]; omega) (by omega) hb0.size ?_); intro v4 w4 hown4 hg4 hat4; have hb4 := hb0.grown hg4 hb0.size (fun k hk => (hown0.lt k hk).1))
    go_ret
    refine ⟨_, rfl, ?_, hb4⟩
    simpa using hown4

def putB (p : Int × Int) : List Int := lebN 10 (foldM p.1) ++ (if p.1 = 0 then lebN 10 (IntKind.u64.wrap (IntKind.i64.wrap (p.2 - 1))) else [])

def putS (pre : List (Int × Int)) : List Int := (pre.map putB).flatten

theorem putS_snoc (pre : List (Int × Int)) (x : Int × Int) : putS (pre ++ [x]) = putS pre ++ putB x := by simp [putS]

theorem putB_len (p : Int × Int) : (putB p).length = bumpL p := by
  unfold putB bumpL
  split <;> simp

theorem putS_len (pre : List (Int × Int)) : (putS pre).length = lenS pre := by
  induction pre with
  | nil => rfl
  | cons x l ih =>
    have h1 : putS (x :: l) = putB x ++ putS l := by simp [putS]
    have h2 : lenS (x :: l) = bumpL x + lenS l := by simp [lenS]
    rw [h1, h2, List.length_append, putB_len, ih]

end Go.Proofs.Ytkfejcffacbngaa.J


namespace Go.Proofs.Ytkfejcffacbngaa.J

open Go Go.RowKit Go.Shelf

set_option linter.unusedVariables false

attribute [local go_sem] Oper.semAt_some

theorem own_slice {W : World} {base : Nat} {e : TypeId} {size : Nat} {v : Value} {k : Nat} {xs : List Value} (h : W.ownsRow base e size v k xs) : ∃ a c, v = .slice a k c := by
  rcases h.2 with ⟨h0, h1⟩ | ⟨g, cap, _, h0, _⟩
  · subst h1; exact ⟨_, _, h0⟩
  · exact ⟨_, _, h0⟩


theorem stepIn_append {F : Fence} {n : Nat} {P : Program} {w : World} {ops : Array Oper} {o : Oper} {a : Act} {K : Act → World → Prop} {Q : Exit → Act → World → Prop} {E : Prop} (hgd : o.guard = none) (s x : Operand) (t : TypeId)
    (ho : o.op = .call { callee := .builtin .append, args := #[s, x], argTypes := #[t, t] })
    (base : Nat) (e : TypeId) (i : TypeInfo) (z : Value) (size bytes : Nat) (ht : P.underlying t = some (.slice e)) (hi : P.info? e = some i) (hz : i.zero = some z)
    (hsize : i.size = size) (hby : i.bytes = bytes) (hzs : z.cells.size = size) (hsz : 0 < size)
    (v : Value) (k : Nat) (xs : List Value) (hs : a.eval s = v) (hown : w.ownsRow base e size v k xs)
    (ad : Addr) (m c : Nat) (news : List Value) (hx : a.eval x = .slice (some ad) m c) (hl : news.length = m * size) (hnews : ∀ j u, news[j]? = some u → w.cell? (ad.add j) = some u) (h1 : ∀ u ∈ news, u.oneCell' = true)
    (h63 : k + m ≤ maxLen) (hbytes : (k + m) * bytes ≤ 140737488355328) (hbase : base ≤ w.heap.size)
    (h : ∀ v' w', w'.ownsRow base e size v' (k + m) (xs ++ news) → w.grownBy w' v.ownBlock → K (a.put o.dst v') w') :
    if Region.wanted o (yielded ops a.tmps) = true then Oper.wpIn F n P o a w K Q else E := by
  have hw : Region.wanted o (yielded ops a.tmps) = true := by simp [Region.wanted, hgd]
  rw [if_pos hw]
  obtain ⟨v', w', hr, h2, h3, h4, h5⟩ := run_append_own_at (P := P) w base t o.type e i z size bytes ht hi hz hsize hby hzs hsz v k xs hown ad m c news hl hnews h1 h63 hbytes hbase
  unfold Oper.wpIn
  refine ⟨by simp [Oper.about, ho, resolve, Target.leads, Sem.run_pure], ?_⟩
  rw [Oper.semAt_plain F _ _ (by rw [ho]; intro c hc'; cases hc')]
  simp [execOp, ho, resolve, invoke, builtin, hs, hx, hr, Result.andThen]
  exact h v' w' h2 h3

set_option maxRecDepth 100000 in
set_option maxHeartbeats 8000000 in
theorem put_in (A : Option Addr) (n c : Nat) (xs : List Int) (sv : Value) (zs : List Int) (hreach : zs.length ≤ 1000000) (w : World) (hr : Reads w w.heap.size 1 A n (B8 xs)) (hn : n ≤ 1000000) (hI : IntsIn w w.heap.size sv zs) :
    CallsIn Fence.wide 3 Try.prog 20 #[.slice A n c, sv] w fun e W' => ∃ v, e = .returned v ∧ W'.ownsRow w.heap.size 5 1 v (xs ++ putS (runsL zs)).length (B8 (xs ++ putS (runsL zs))) ∧ Below w.heap.size w W' := by
  obtain ⟨a, cap, rfl, hz⟩ := hI
  have hxl : xs.length = n := by simpa using hr.1
  have h1 : (1 : Nat) ≤ 3 := by omega
  have HR := hide hr
  have HZ := hide hz
  clear hr hz
  refine callsIn_of_wp_marks Try.func20 rfl trivial ?_ rfl
  simp only [Try.ntmps20, List.size_toArray, List.length_cons, List.length_nil, Nat.reduceAdd, Nat.reduceSub, Array.replicate_succ, Array.replicate_zero, List.push_toArray, List.append_toArray, List.nil_append, List.cons_append]
  gi_wp2_with (first
    | (refine ⟨trivial, ?_⟩; gi_at_call 74; refine (callsIn_wide.2 (clone74 A n c xs _ HR.out hn)).mono ?_; rintro e w1 ⟨v0, rfl, hown, hb1⟩; obtain ⟨A0, c0, rfl⟩ := own_slice hown)
    | (refine ⟨trivial, ?_⟩; gi_at_call 75; refine (each_in Fence.wide 2 trivial rfl _ _ _ _).mono ?_; rintro e w' ⟨rfl, rfl⟩))
  have hsz0 := hb1.size
  obtain ⟨b, hb, hz⟩ : ∃ b, (b < w.heap.size ∨ b = w1.heap.size + 1) ∧ (zs = [] ∨ ∃ off, a = some ⟨b, off, none⟩ ∧ b < w.heap.size ∧ ∀ j, j < zs.length → w.cell? ⟨b, off + j, none⟩ = some (.int .i64 (zs[j]?.getD 0))) := by
    rcases HZ.out with h | ⟨b, off, h1, h2, h3⟩
    · exact ⟨w1.heap.size + 1, .inr rfl, .inl h⟩
    · exact ⟨b, .inl h2, .inr ⟨off, h1, h2, h3⟩⟩
  have HZ2 := hide hz
  clear hz
  have bO := Boxed.new w1 22 (.slice A0 n c0)
  have bN := Boxed.new (w1.alloc (.cells #[.slice A0 n c0] 22)) 23 (.slice a zs.length cap)
  rw [World.size_alloc] at bN
  have hB1 : Below w1.heap.size w1 ((w1.alloc (.cells #[.slice A0 n c0] 22)).alloc (.cells #[.slice a zs.length cap] 23)) := ((Below.refl _ w1).alloc (Nat.le_refl _) _).alloc (by simp) _
  have hB0 : Below w.heap.size w ((w1.alloc (.cells #[.slice A0 n c0] 22)).alloc (.cells #[.slice a zs.length cap] 23)) := hb1.trans (hB1.mono hb1.size)
  have hsz := hb1.size
  refine wpIn_rangeFunc_ownF rfl h1 (gf := 117) (lb := #[.pointer (some ⟨w1.heap.size + 1, 0, none⟩)]) rfl trivial (enters_of Try.func117 (by kernel_rfl) rfl)
    (each_stops Fence.wide 2 trivial rfl (by omega) (w1.heap.size + 1) b _ zs hreach _ (by simp) (by simp; omega) bN.cell ⟨a, cap, rfl, HZ2.out.imp id fun ⟨off, h1, hb2, h2⟩ => ⟨off, h1, fun j hj => (hB0.cell (p := ⟨b, off + j, none⟩) hb2).trans (h2 j hj)⟩⟩) keep2_t keep2_b (Below.refl _ _) (fun _ => rfl)
    (fun pre W => (∃ v, Boxed W w1.heap.size 22 v ∧ W.ownsRow w.heap.size 5 1 v (xs ++ putS pre).length (B8 (xs ++ putS pre)) ∧ True) ∧ Boxed W (w1.heap.size + 1) 23 (.slice a zs.length cap) ∧ Below w.heap.size w W)
    (fun _ _ _ => False)
    (OwnFrom.and (Own.from (holdsRow_own w.heap.size w1.heap.size 22 5 1 (fun pre => (xs ++ putS pre).length) (fun pre => B8 (xs ++ putS pre)) (fun _ _ => True)) _) (OwnFrom.and (Own.from (boxed_own (w1.heap.size + 1) 23 (fun _ => Value.slice a zs.length cap)) _) (ownFrom_below (Nat.le_refl _) (by simp; omega))))
    (fun _ _ _ _ _ hs _ _ => hs)
    ⟨⟨_, bO.alloc _, by simpa [putS, hxl] using own_keep hown hB1, trivial⟩, bN, hB0⟩
    (fun x => { tmps := #[.slice A n c, .slice a zs.length cap, undef, undef, .slice none 0 0, .pointer (some ⟨w1.heap.size, 0, none⟩), .int .i64 x.1, .int .i64 x.2, .slice A n c, .slice A0 n c0, .slice a zs.length cap, .func (.func 117) #[] #[.pointer (some ⟨w1.heap.size + 1, 0, none⟩)], .int .i64 x.1, .int .i64 x.2, undef, undef, undef, undef, undef, undef, undef, undef, undef, undef, undef, undef, undef, undef], defers := [] }) ?assign ?body ?done ?stop
  case assign =>
    intro l x W K hK
    gi_wp2
    exact hK
  case body =>
    rintro l pre ⟨x1, x2⟩ W ⟨⟨v, hv, hrow, _⟩, hit, hB⟩ hlt
    obtain ⟨u, hu⟩ : ∃ u, foldM x1 = u := ⟨_, rfl⟩
    have hur := foldM_rng x1
    rw [hu] at hur
    obtain ⟨hu0, hu1⟩ := hur
    obtain ⟨R, hR⟩ : ∃ R, lebN 10 u = R := ⟨_, rfl⟩
    have hR1 := (lebN_len' 10 u).2
    rw [hR] at hR1
    obtain ⟨m, hm⟩ : ∃ m, R.length = m := ⟨_, rfl⟩
    rw [hm] at hR1
    obtain ⟨u2, hu2⟩ : ∃ z, IntKind.u64.wrap (IntKind.i64.wrap (x2 - 1)) = z := ⟨_, rfl⟩
    have hu2r : 0 ≤ u2 ∧ u2 ≤ 18446744073709551615 := by rw [← hu2]; exact wrapU_rng _
    obtain ⟨R2, hR2⟩ : ∃ R, lebN 10 u2 = R := ⟨_, rfl⟩
    have hR21 := (lebN_len' 10 u2).2
    rw [hR2] at hR21
    obtain ⟨m2, hm2⟩ : ∃ m, R2.length = m := ⟨_, rfl⟩
    rw [hm2] at hR21
    have HF' : Hid (∀ W1, Calls Try.prog 77 #[.int .i64 x1] W1 fun e w' => e = .returned (.int .u64 u) ∧ Below W1.heap.size W1 w') := fun W1 => by rw [← hu]; exact fold_call x1 W1
    have HP1 : Hid (∀ W1, Calls Try.prog 76 #[.slice none 0 0, .int .u64 u] W1 fun e w' => ∃ g c, e = .returned (.slice (some ⟨g, 0, none⟩) m c) ∧ (∀ j z, (B8 R)[j]? = some z → w'.cell? ((⟨g, 0, none⟩ : Addr).add j) = some z) ∧ Below W1.heap.size W1 w') := fun W1 => by have := put_call u hu0 hu1 W1; rw [hR, hm] at this; exact this
    have HP2 : Hid (∀ W1, Calls Try.prog 76 #[.slice none 0 0, .int .u64 u2] W1 fun e w' => ∃ g c, e = .returned (.slice (some ⟨g, 0, none⟩) m2 c) ∧ (∀ j z, (B8 R2)[j]? = some z → w'.cell? ((⟨g, 0, none⟩ : Addr).add j) = some z) ∧ Below W1.heap.size W1 w') := fun W1 => by have := put_call u2 hu2r.1 hu2r.2 W1; rw [hR2, hm2] at this; exact this
    have HPB : Hid (putB (x1, x2) = R ++ if x1 = 0 then R2 else []) := by simp only [Hid, putB, hu, hR, hu2, hR2]
    have hS := lenS_le pre
    rw [← putS_len] at hS
    obtain ⟨out, hout⟩ : ∃ out, xs ++ putS pre = out := ⟨_, rfl⟩
    have hol : out.length ≤ 23000000 := by rw [← hout, List.length_append]; omega
    rw [hout] at hrow
    obtain ⟨M, hM⟩ : ∃ M, out.length = M := ⟨_, rfl⟩
    have HK : KeptR w w.heap.size w1.heap.size b (.slice a zs.length cap) W W v out := KeptR.start hv hit hrow hB
    rw [hM] at hol hrow
    obtain ⟨A1, c1, rfl⟩ := own_slice hrow
    have hlt0 := hv.lt
    have hc := hv.cell
    have hf := hv.frozen
    have hNW := hB.size
    obtain ⟨j0, hi, hz0, hz1, hz2⟩ := info_parts infobyte
    have Hi := hide hi
    have Hz0 := hide hz0
    have Hz1 := hide hz1
    have Hz2 := hide hz2
    have HK' := hide HK
    have HU2 := hide hu2
    have HO := hide hout
    have HM := hide hM
    have Hm := hide hm
    have Hm2 := hide hm2
    have HBB := hide hB
    have hd : 1 ≤ 3 - 1 - 1 := by omega
    have hmx : Try.prog.follows .mixedOrders = true := mix
    clear hu2 hu2r hR2 hu hR hm hm2 hout hM HK hi hz0 hz1 hz2 hv hit hrow hB hB0 bO bN hb1 hB1 hown hxl
    by_cases hx : x1 = 0
    · subst hx
      gi_wp2
      refine wpIn_mono (Q := fun e a' w' => e = .normal ∧ ∃ (g c3 : Nat) (A2 : Option Addr) (c2 : Nat), a' = { tmps := #[.slice A n c, .slice a zs.length cap, undef, undef, .slice none 0 0, .pointer (some ⟨w1.heap.size, 0, none⟩), .int .i64 0, .int .i64 x2, .slice A n c, .slice A0 n c0, .slice a zs.length cap, .func (.func 117) #[] #[.pointer (some ⟨w1.heap.size + 1, 0, none⟩)], .int .i64 0, .int .i64 x2, .slice A1 M c1, .int .i64 0, .int .u64 u, .slice (some ⟨g, 0, none⟩) m c3, .slice A2 (M + m) c2, undef, undef, undef, undef, undef, undef, undef, undef, undef], defers := [] } ∧ KeptR w w.heap.size w1.heap.size b (.slice a zs.length cap) W w' (.slice A2 (M + m) c2) (out ++ R)) ?_ ?_
      · refine wpIn_region_any hmx ?_
        change wpAnyIn _ _ _ _ _ _ _ _ _ (World.drew _)
        refine wpAnyIn_ready (rs := [0, 1]) (by kernel_rfl) (by simp) (AllReadyIn.cons rfl (fun K hK => ?_) (AllReadyIn.cons rfl (fun K hK => ?_) AllReadyIn.nil))
        · go_simp
          refine hK _ _ ?_
          clear hK K
          refine wpAnyIn_ready (rs := [1]) (by kernel_rfl) (by simp) (AllReadyIn.cons rfl (fun K hK => ?_) AllReadyIn.nil)
          go_simp
          refine hK _ _ ?_
          clear hK K
          refine wpAnyIn_ready (rs := [2]) (by kernel_rfl) (by simp) (AllReadyIn.cons rfl (fun K hK => ?_) AllReadyIn.nil)
          go_simp
          refine ⟨trivial, ?_⟩
          refine (CallsIn.inRound l (callsIn_wide.2 (HF'.out _))).mono ?_
          rintro e w2 ⟨rfl, hb2⟩
          have HK2 := hide (HK'.out.step hNW (((Below.refl _ W).drew).trans hb2))
          have hc2 := HK2.out.box.cell
          have hf2 := HK2.out.box.frozen
          have hn2 := Nat.le_trans hNW hb2.size
          refine hK _ _ ?_
          clear hK K
          refine wpAnyIn_ready (rs := [3]) (by kernel_rfl) (by simp) (AllReadyIn.cons rfl (fun K hK => ?_) AllReadyIn.nil)
          go_simp
          refine ⟨trivial, ?_⟩
          refine (CallsIn.inRound l (callsIn_wide.2 (HP1.out _))).mono ?_
          rintro e w3 ⟨g, c3, rfl, hcs, hb3⟩
          have HCS := hide hcs
          clear hcs
          have HK3 := hide (HK2.out.step hn2 hb3)
          have hc3 := HK3.out.box.cell
          have hf3 := HK3.out.box.frozen
          have hn3 := Nat.le_trans hn2 hb3.size
          refine hK _ _ ?_
          clear hK K
          refine wpAnyIn_ready (rs := [4]) (by kernel_rfl) (by simp) (AllReadyIn.cons rfl (fun K hK => ?_) AllReadyIn.nil)
          refine stepIn_append rfl _ _ 22 rfl w.heap.size 5 j0 (.int .u8 0) 1 1 Try.underlying22 Hi.out Hz0.out Hz1.out Hz2.out rfl (by decide) _ (M) _ rfl (by have h := HK3.out.row; rw [HM.out] at h; exact h) ⟨g, 0, none⟩ _ c3 (B8 R) rfl (by simp [Hm.out]) HCS.out (hone8 _) (by simp only [maxLen]; omega) (by omega) hn3 (fun v' w4 hown' hg' => ?_)
          obtain ⟨A3, c4, rfl⟩ := own_slice hown'
          obtain ⟨hbx, hk4⟩ := HK3.out.append hb hsz hn3 (ys := out ++ R) (by simpa using hown') (by rw [List.length_append, HM.out, Hm.out]) hg'
          have HK4 := hide hk4
          clear hk4
          have hc4 := hbx.cell
          have hf4 := hbx.frozen
          refine hK _ _ ?_
          clear hK K
          refine wpAnyIn_ready (rs := [5]) (by kernel_rfl) (by simp) (AllReadyIn.cons rfl (fun K hK => ?_) AllReadyIn.nil)
          go_simp
          refine hK _ _ ?_
          clear hK K
          refine wpAnyIn_done (by kernel_rfl) ?_ _
          exact ⟨rfl, g, c3, A3, c4, rfl, by first | exact HK4.out | exact HK4.out.drew⟩
        · go_simp
          refine hK _ _ ?_
          clear hK K
          refine wpAnyIn_ready (rs := [0, 2]) (by kernel_rfl) (by simp) (AllReadyIn.cons rfl (fun K hK => ?_) (AllReadyIn.cons rfl (fun K hK => ?_) AllReadyIn.nil))
          · go_simp
            refine hK _ _ ?_
            clear hK K
            refine wpAnyIn_ready (rs := [2]) (by kernel_rfl) (by simp) (AllReadyIn.cons rfl (fun K hK => ?_) AllReadyIn.nil)
            go_simp
            refine ⟨trivial, ?_⟩
            refine (CallsIn.inRound l (callsIn_wide.2 (HF'.out _))).mono ?_
            rintro e w2 ⟨rfl, hb2⟩
            have HK2 := hide (HK'.out.step hNW (((Below.refl _ W).drew).trans hb2))
            have hc2 := HK2.out.box.cell
            have hf2 := HK2.out.box.frozen
            have hn2 := Nat.le_trans hNW hb2.size
            refine hK _ _ ?_
            clear hK K
            refine wpAnyIn_ready (rs := [3]) (by kernel_rfl) (by simp) (AllReadyIn.cons rfl (fun K hK => ?_) AllReadyIn.nil)
            go_simp
            refine ⟨trivial, ?_⟩
            refine (CallsIn.inRound l (callsIn_wide.2 (HP1.out _))).mono ?_
            rintro e w3 ⟨g, c3, rfl, hcs, hb3⟩
            have HCS := hide hcs
            clear hcs
            have HK3 := hide (HK2.out.step hn2 hb3)
            have hc3 := HK3.out.box.cell
            have hf3 := HK3.out.box.frozen
            have hn3 := Nat.le_trans hn2 hb3.size
            refine hK _ _ ?_
            clear hK K
            refine wpAnyIn_ready (rs := [4]) (by kernel_rfl) (by simp) (AllReadyIn.cons rfl (fun K hK => ?_) AllReadyIn.nil)
            refine stepIn_append rfl _ _ 22 rfl w.heap.size 5 j0 (.int .u8 0) 1 1 Try.underlying22 Hi.out Hz0.out Hz1.out Hz2.out rfl (by decide) _ (M) _ rfl (by have h := HK3.out.row; rw [HM.out] at h; exact h) ⟨g, 0, none⟩ _ c3 (B8 R) rfl (by simp [Hm.out]) HCS.out (hone8 _) (by simp only [maxLen]; omega) (by omega) hn3 (fun v' w4 hown' hg' => ?_)
            obtain ⟨A3, c4, rfl⟩ := own_slice hown'
            obtain ⟨hbx, hk4⟩ := HK3.out.append hb hsz hn3 (ys := out ++ R) (by simpa using hown') (by rw [List.length_append, HM.out, Hm.out]) hg'
            have HK4 := hide hk4
            clear hk4
            have hc4 := hbx.cell
            have hf4 := hbx.frozen
            refine hK _ _ ?_
            clear hK K
            refine wpAnyIn_ready (rs := [5]) (by kernel_rfl) (by simp) (AllReadyIn.cons rfl (fun K hK => ?_) AllReadyIn.nil)
            go_simp
            refine hK _ _ ?_
            clear hK K
            refine wpAnyIn_done (by kernel_rfl) ?_ _
            exact ⟨rfl, g, c3, A3, c4, rfl, by first | exact HK4.out | exact HK4.out.drew⟩
          · go_simp
            refine ⟨trivial, ?_⟩
            refine (CallsIn.inRound l (callsIn_wide.2 (HF'.out _))).mono ?_
            rintro e w2 ⟨rfl, hb2⟩
            have HK2 := hide (HK'.out.step hNW (((Below.refl _ W).drew).trans hb2))
            have hc2 := HK2.out.box.cell
            have hf2 := HK2.out.box.frozen
            have hn2 := Nat.le_trans hNW hb2.size
            refine hK _ _ ?_
            clear hK K
            refine wpAnyIn_ready (rs := [0, 3]) (by kernel_rfl) (by simp) (AllReadyIn.cons rfl (fun K hK => ?_) (AllReadyIn.cons rfl (fun K hK => ?_) AllReadyIn.nil))
            · go_simp
              refine hK _ _ ?_
              clear hK K
              refine wpAnyIn_ready (rs := [3]) (by kernel_rfl) (by simp) (AllReadyIn.cons rfl (fun K hK => ?_) AllReadyIn.nil)
              go_simp
              refine ⟨trivial, ?_⟩
              refine (CallsIn.inRound l (callsIn_wide.2 (HP1.out _))).mono ?_
              rintro e w3 ⟨g, c3, rfl, hcs, hb3⟩
              have HCS := hide hcs
              clear hcs
              have HK3 := hide (HK2.out.step hn2 hb3)
              have hc3 := HK3.out.box.cell
              have hf3 := HK3.out.box.frozen
              have hn3 := Nat.le_trans hn2 hb3.size
              refine hK _ _ ?_
              clear hK K
              refine wpAnyIn_ready (rs := [4]) (by kernel_rfl) (by simp) (AllReadyIn.cons rfl (fun K hK => ?_) AllReadyIn.nil)
              refine stepIn_append rfl _ _ 22 rfl w.heap.size 5 j0 (.int .u8 0) 1 1 Try.underlying22 Hi.out Hz0.out Hz1.out Hz2.out rfl (by decide) _ (M) _ rfl (by have h := HK3.out.row; rw [HM.out] at h; exact h) ⟨g, 0, none⟩ _ c3 (B8 R) rfl (by simp [Hm.out]) HCS.out (hone8 _) (by simp only [maxLen]; omega) (by omega) hn3 (fun v' w4 hown' hg' => ?_)
              obtain ⟨A3, c4, rfl⟩ := own_slice hown'
              obtain ⟨hbx, hk4⟩ := HK3.out.append hb hsz hn3 (ys := out ++ R) (by simpa using hown') (by rw [List.length_append, HM.out, Hm.out]) hg'
              have HK4 := hide hk4
              clear hk4
              have hc4 := hbx.cell
              have hf4 := hbx.frozen
              refine hK _ _ ?_
              clear hK K
              refine wpAnyIn_ready (rs := [5]) (by kernel_rfl) (by simp) (AllReadyIn.cons rfl (fun K hK => ?_) AllReadyIn.nil)
              go_simp
              refine hK _ _ ?_
              clear hK K
              refine wpAnyIn_done (by kernel_rfl) ?_ _
              exact ⟨rfl, g, c3, A3, c4, rfl, by first | exact HK4.out | exact HK4.out.drew⟩
            · go_simp
              refine ⟨trivial, ?_⟩
              refine (CallsIn.inRound l (callsIn_wide.2 (HP1.out _))).mono ?_
              rintro e w3 ⟨g, c3, rfl, hcs, hb3⟩
              have HCS := hide hcs
              clear hcs
              have HK3 := hide (HK2.out.step hn2 hb3)
              have hc3 := HK3.out.box.cell
              have hf3 := HK3.out.box.frozen
              have hn3 := Nat.le_trans hn2 hb3.size
              refine hK _ _ ?_
              clear hK K
              refine wpAnyIn_ready (rs := [0]) (by kernel_rfl) (by simp) (AllReadyIn.cons rfl (fun K hK => ?_) AllReadyIn.nil)
              go_simp
              refine hK _ _ ?_
              clear hK K
              refine wpAnyIn_ready (rs := [4]) (by kernel_rfl) (by simp) (AllReadyIn.cons rfl (fun K hK => ?_) AllReadyIn.nil)
              refine stepIn_append rfl _ _ 22 rfl w.heap.size 5 j0 (.int .u8 0) 1 1 Try.underlying22 Hi.out Hz0.out Hz1.out Hz2.out rfl (by decide) _ (M) _ rfl (by have h := HK3.out.row; rw [HM.out] at h; exact h) ⟨g, 0, none⟩ _ c3 (B8 R) rfl (by simp [Hm.out]) HCS.out (hone8 _) (by simp only [maxLen]; omega) (by omega) hn3 (fun v' w4 hown' hg' => ?_)
              obtain ⟨A3, c4, rfl⟩ := own_slice hown'
              obtain ⟨hbx, hk4⟩ := HK3.out.append hb hsz hn3 (ys := out ++ R) (by simpa using hown') (by rw [List.length_append, HM.out, Hm.out]) hg'
              have HK4 := hide hk4
              clear hk4
              have hc4 := hbx.cell
              have hf4 := hbx.frozen
              refine hK _ _ ?_
              clear hK K
              refine wpAnyIn_ready (rs := [5]) (by kernel_rfl) (by simp) (AllReadyIn.cons rfl (fun K hK => ?_) AllReadyIn.nil)
              go_simp
              refine hK _ _ ?_
              clear hK K
              refine wpAnyIn_done (by kernel_rfl) ?_ _
              exact ⟨rfl, g, c3, A3, c4, rfl, by first | exact HK4.out | exact HK4.out.drew⟩
      rintro e a' W2 ⟨rfl, g, c3, A2, c2, rfl, hk5⟩
      have HK5 := hide hk5
      clear hk5
      have hc5 := HK5.out.box.cell
      have hf5 := HK5.out.box.frozen
      have hn5 := HK5.out.below.size
      have hu3 := HU2.out
      have HM2 : Hid ((out ++ R).length = M + m) := by rw [Hid, List.length_append, HM.out, Hm.out]
      gi_wp2
      refine wpIn_mono (Q := fun e a' w' => e = .normal ∧ ∃ (A3 : Option Addr) (c4 : Nat), KeptR w w.heap.size w1.heap.size b (.slice a zs.length cap) W w' (.slice A3 (M + m + m2) c4) (out ++ R ++ R2)) ?_ ?_
      · refine wpIn_region_any hmx ?_
        change wpAnyIn _ _ _ _ _ _ _ _ _ (World.drew _)
        refine wpAnyIn_ready (rs := [0, 1]) (by kernel_rfl) (by simp) (AllReadyIn.cons rfl (fun K hK => ?_) (AllReadyIn.cons rfl (fun K hK => ?_) AllReadyIn.nil))
        · go_simp
          refine hK _ _ ?_
          clear hK K
          refine wpAnyIn_ready (rs := [1]) (by kernel_rfl) (by simp) (AllReadyIn.cons rfl (fun K hK => ?_) AllReadyIn.nil)
          go_simp
          refine hK _ _ ?_
          clear hK K
          refine wpAnyIn_ready (rs := [2]) (by kernel_rfl) (by simp) (AllReadyIn.cons rfl (fun K hK => ?_) AllReadyIn.nil)
          go_simp
          refine hK _ _ ?_
          clear hK K
          refine wpAnyIn_ready (rs := [3]) (by kernel_rfl) (by simp) (AllReadyIn.cons rfl (fun K hK => ?_) AllReadyIn.nil)
          go_simp
          refine hK _ _ ?_
          clear hK K
          refine wpAnyIn_ready (rs := [4]) (by kernel_rfl) (by simp) (AllReadyIn.cons rfl (fun K hK => ?_) AllReadyIn.nil)
          go_simp
          refine ⟨trivial, ?_⟩
          refine (CallsIn.inRound l (callsIn_wide.2 (HP2.out _))).mono ?_
          rintro e w3 ⟨g, c3, rfl, hcs, hb3⟩
          have HCS := hide hcs
          clear hcs
          have HK3 := hide (HK5.out.step hn5 (((Below.refl _ W2).drew).trans hb3))
          have hc3 := HK3.out.box.cell
          have hf3 := HK3.out.box.frozen
          have hn3 := Nat.le_trans hn5 hb3.size
          refine hK _ _ ?_
          clear hK K
          refine wpAnyIn_ready (rs := [5]) (by kernel_rfl) (by simp) (AllReadyIn.cons rfl (fun K hK => ?_) AllReadyIn.nil)
          refine stepIn_append rfl _ _ 22 rfl w.heap.size 5 j0 (.int .u8 0) 1 1 Try.underlying22 Hi.out Hz0.out Hz1.out Hz2.out rfl (by decide) _ (M + m) _ rfl (by have h := HK3.out.row; rw [HM2.out] at h; exact h) ⟨g, 0, none⟩ _ c3 (B8 R2) rfl (by simp [Hm2.out]) HCS.out (hone8 _) (by simp only [maxLen]; omega) (by omega) hn3 (fun v' w4 hown' hg' => ?_)
          obtain ⟨A3, c4, rfl⟩ := own_slice hown'
          obtain ⟨hbx, hk4⟩ := HK3.out.append hb hsz hn3 (ys := (out ++ R) ++ R2) (by simpa using hown') (by rw [List.length_append, HM2.out, Hm2.out]) hg'
          have HK4 := hide hk4
          clear hk4
          have hc4 := hbx.cell
          have hf4 := hbx.frozen
          refine hK _ _ ?_
          clear hK K
          refine wpAnyIn_ready (rs := [6]) (by kernel_rfl) (by simp) (AllReadyIn.cons rfl (fun K hK => ?_) AllReadyIn.nil)
          go_simp
          refine hK _ _ ?_
          clear hK K
          refine wpAnyIn_done (by kernel_rfl) ?_ _
          exact ⟨rfl, A3, c4, by first | exact HK4.out | exact HK4.out.drew⟩
        · go_simp
          refine hK _ _ ?_
          clear hK K
          refine wpAnyIn_ready (rs := [0, 2]) (by kernel_rfl) (by simp) (AllReadyIn.cons rfl (fun K hK => ?_) (AllReadyIn.cons rfl (fun K hK => ?_) AllReadyIn.nil))
          · go_simp
            refine hK _ _ ?_
            clear hK K
            refine wpAnyIn_ready (rs := [2]) (by kernel_rfl) (by simp) (AllReadyIn.cons rfl (fun K hK => ?_) AllReadyIn.nil)
            go_simp
            refine hK _ _ ?_
            clear hK K
            refine wpAnyIn_ready (rs := [3]) (by kernel_rfl) (by simp) (AllReadyIn.cons rfl (fun K hK => ?_) AllReadyIn.nil)
            go_simp
            refine hK _ _ ?_
            clear hK K
            refine wpAnyIn_ready (rs := [4]) (by kernel_rfl) (by simp) (AllReadyIn.cons rfl (fun K hK => ?_) AllReadyIn.nil)
            go_simp
            refine ⟨trivial, ?_⟩
            refine (CallsIn.inRound l (callsIn_wide.2 (HP2.out _))).mono ?_
            rintro e w3 ⟨g, c3, rfl, hcs, hb3⟩
            have HCS := hide hcs
            clear hcs
            have HK3 := hide (HK5.out.step hn5 (((Below.refl _ W2).drew).trans hb3))
            have hc3 := HK3.out.box.cell
            have hf3 := HK3.out.box.frozen
            have hn3 := Nat.le_trans hn5 hb3.size
            refine hK _ _ ?_
            clear hK K
            refine wpAnyIn_ready (rs := [5]) (by kernel_rfl) (by simp) (AllReadyIn.cons rfl (fun K hK => ?_) AllReadyIn.nil)
            refine stepIn_append rfl _ _ 22 rfl w.heap.size 5 j0 (.int .u8 0) 1 1 Try.underlying22 Hi.out Hz0.out Hz1.out Hz2.out rfl (by decide) _ (M + m) _ rfl (by have h := HK3.out.row; rw [HM2.out] at h; exact h) ⟨g, 0, none⟩ _ c3 (B8 R2) rfl (by simp [Hm2.out]) HCS.out (hone8 _) (by simp only [maxLen]; omega) (by omega) hn3 (fun v' w4 hown' hg' => ?_)
            obtain ⟨A3, c4, rfl⟩ := own_slice hown'
            obtain ⟨hbx, hk4⟩ := HK3.out.append hb hsz hn3 (ys := (out ++ R) ++ R2) (by simpa using hown') (by rw [List.length_append, HM2.out, Hm2.out]) hg'
            have HK4 := hide hk4
            clear hk4
            have hc4 := hbx.cell
            have hf4 := hbx.frozen
            refine hK _ _ ?_
            clear hK K
            refine wpAnyIn_ready (rs := [6]) (by kernel_rfl) (by simp) (AllReadyIn.cons rfl (fun K hK => ?_) AllReadyIn.nil)
            go_simp
            refine hK _ _ ?_
            clear hK K
            refine wpAnyIn_done (by kernel_rfl) ?_ _
            exact ⟨rfl, A3, c4, by first | exact HK4.out | exact HK4.out.drew⟩
          · go_simp
            refine hK _ _ ?_
            clear hK K
            refine wpAnyIn_ready (rs := [0, 3]) (by kernel_rfl) (by simp) (AllReadyIn.cons rfl (fun K hK => ?_) (AllReadyIn.cons rfl (fun K hK => ?_) AllReadyIn.nil))
            · go_simp
              refine hK _ _ ?_
              clear hK K
              refine wpAnyIn_ready (rs := [3]) (by kernel_rfl) (by simp) (AllReadyIn.cons rfl (fun K hK => ?_) AllReadyIn.nil)
              go_simp
              refine hK _ _ ?_
              clear hK K
              refine wpAnyIn_ready (rs := [4]) (by kernel_rfl) (by simp) (AllReadyIn.cons rfl (fun K hK => ?_) AllReadyIn.nil)
              go_simp
              refine ⟨trivial, ?_⟩
              refine (CallsIn.inRound l (callsIn_wide.2 (HP2.out _))).mono ?_
              rintro e w3 ⟨g, c3, rfl, hcs, hb3⟩
              have HCS := hide hcs
              clear hcs
              have HK3 := hide (HK5.out.step hn5 (((Below.refl _ W2).drew).trans hb3))
              have hc3 := HK3.out.box.cell
              have hf3 := HK3.out.box.frozen
              have hn3 := Nat.le_trans hn5 hb3.size
              refine hK _ _ ?_
              clear hK K
              refine wpAnyIn_ready (rs := [5]) (by kernel_rfl) (by simp) (AllReadyIn.cons rfl (fun K hK => ?_) AllReadyIn.nil)
              refine stepIn_append rfl _ _ 22 rfl w.heap.size 5 j0 (.int .u8 0) 1 1 Try.underlying22 Hi.out Hz0.out Hz1.out Hz2.out rfl (by decide) _ (M + m) _ rfl (by have h := HK3.out.row; rw [HM2.out] at h; exact h) ⟨g, 0, none⟩ _ c3 (B8 R2) rfl (by simp [Hm2.out]) HCS.out (hone8 _) (by simp only [maxLen]; omega) (by omega) hn3 (fun v' w4 hown' hg' => ?_)
              obtain ⟨A3, c4, rfl⟩ := own_slice hown'
              obtain ⟨hbx, hk4⟩ := HK3.out.append hb hsz hn3 (ys := (out ++ R) ++ R2) (by simpa using hown') (by rw [List.length_append, HM2.out, Hm2.out]) hg'
              have HK4 := hide hk4
              clear hk4
              have hc4 := hbx.cell
              have hf4 := hbx.frozen
              refine hK _ _ ?_
              clear hK K
              refine wpAnyIn_ready (rs := [6]) (by kernel_rfl) (by simp) (AllReadyIn.cons rfl (fun K hK => ?_) AllReadyIn.nil)
              go_simp
              refine hK _ _ ?_
              clear hK K
              refine wpAnyIn_done (by kernel_rfl) ?_ _
              exact ⟨rfl, A3, c4, by first | exact HK4.out | exact HK4.out.drew⟩
            · go_simp
              refine hK _ _ ?_
              clear hK K
              refine wpAnyIn_ready (rs := [0, 4]) (by kernel_rfl) (by simp) (AllReadyIn.cons rfl (fun K hK => ?_) (AllReadyIn.cons rfl (fun K hK => ?_) AllReadyIn.nil))
              · go_simp
                refine hK _ _ ?_
                clear hK K
                refine wpAnyIn_ready (rs := [4]) (by kernel_rfl) (by simp) (AllReadyIn.cons rfl (fun K hK => ?_) AllReadyIn.nil)
                go_simp
                refine ⟨trivial, ?_⟩
                refine (CallsIn.inRound l (callsIn_wide.2 (HP2.out _))).mono ?_
                rintro e w3 ⟨g, c3, rfl, hcs, hb3⟩
                have HCS := hide hcs
                clear hcs
                have HK3 := hide (HK5.out.step hn5 (((Below.refl _ W2).drew).trans hb3))
                have hc3 := HK3.out.box.cell
                have hf3 := HK3.out.box.frozen
                have hn3 := Nat.le_trans hn5 hb3.size
                refine hK _ _ ?_
                clear hK K
                refine wpAnyIn_ready (rs := [5]) (by kernel_rfl) (by simp) (AllReadyIn.cons rfl (fun K hK => ?_) AllReadyIn.nil)
                refine stepIn_append rfl _ _ 22 rfl w.heap.size 5 j0 (.int .u8 0) 1 1 Try.underlying22 Hi.out Hz0.out Hz1.out Hz2.out rfl (by decide) _ (M + m) _ rfl (by have h := HK3.out.row; rw [HM2.out] at h; exact h) ⟨g, 0, none⟩ _ c3 (B8 R2) rfl (by simp [Hm2.out]) HCS.out (hone8 _) (by simp only [maxLen]; omega) (by omega) hn3 (fun v' w4 hown' hg' => ?_)
                obtain ⟨A3, c4, rfl⟩ := own_slice hown'
                obtain ⟨hbx, hk4⟩ := HK3.out.append hb hsz hn3 (ys := (out ++ R) ++ R2) (by simpa using hown') (by rw [List.length_append, HM2.out, Hm2.out]) hg'
                have HK4 := hide hk4
                clear hk4
                have hc4 := hbx.cell
                have hf4 := hbx.frozen
                refine hK _ _ ?_
                clear hK K
                refine wpAnyIn_ready (rs := [6]) (by kernel_rfl) (by simp) (AllReadyIn.cons rfl (fun K hK => ?_) AllReadyIn.nil)
                go_simp
                refine hK _ _ ?_
                clear hK K
                refine wpAnyIn_done (by kernel_rfl) ?_ _
                exact ⟨rfl, A3, c4, by first | exact HK4.out | exact HK4.out.drew⟩
              · go_simp
                refine ⟨trivial, ?_⟩
                refine (CallsIn.inRound l (callsIn_wide.2 (HP2.out _))).mono ?_
                rintro e w3 ⟨g, c3, rfl, hcs, hb3⟩
                have HCS := hide hcs
                clear hcs
                have HK3 := hide (HK5.out.step hn5 (((Below.refl _ W2).drew).trans hb3))
                have hc3 := HK3.out.box.cell
                have hf3 := HK3.out.box.frozen
                have hn3 := Nat.le_trans hn5 hb3.size
                refine hK _ _ ?_
                clear hK K
                refine wpAnyIn_ready (rs := [0]) (by kernel_rfl) (by simp) (AllReadyIn.cons rfl (fun K hK => ?_) AllReadyIn.nil)
                go_simp
                refine hK _ _ ?_
                clear hK K
                refine wpAnyIn_ready (rs := [5]) (by kernel_rfl) (by simp) (AllReadyIn.cons rfl (fun K hK => ?_) AllReadyIn.nil)
                refine stepIn_append rfl _ _ 22 rfl w.heap.size 5 j0 (.int .u8 0) 1 1 Try.underlying22 Hi.out Hz0.out Hz1.out Hz2.out rfl (by decide) _ (M + m) _ rfl (by have h := HK3.out.row; rw [HM2.out] at h; exact h) ⟨g, 0, none⟩ _ c3 (B8 R2) rfl (by simp [Hm2.out]) HCS.out (hone8 _) (by simp only [maxLen]; omega) (by omega) hn3 (fun v' w4 hown' hg' => ?_)
                obtain ⟨A3, c4, rfl⟩ := own_slice hown'
                obtain ⟨hbx, hk4⟩ := HK3.out.append hb hsz hn3 (ys := (out ++ R) ++ R2) (by simpa using hown') (by rw [List.length_append, HM2.out, Hm2.out]) hg'
                have HK4 := hide hk4
                clear hk4
                have hc4 := hbx.cell
                have hf4 := hbx.frozen
                refine hK _ _ ?_
                clear hK K
                refine wpAnyIn_ready (rs := [6]) (by kernel_rfl) (by simp) (AllReadyIn.cons rfl (fun K hK => ?_) AllReadyIn.nil)
                go_simp
                refine hK _ _ ?_
                clear hK K
                refine wpAnyIn_done (by kernel_rfl) ?_ _
                exact ⟨rfl, A3, c4, by first | exact HK4.out | exact HK4.out.drew⟩
      rintro e a' W3 ⟨rfl, A3, c4, hk6⟩
      have hrow := hk6.row
      have he : xs ++ putS (pre ++ [(0, x2)]) = out ++ R ++ R2 := by rw [putS_snoc, ← List.append_assoc, HO.out, HPB.out]; simp
      rw [← he] at hrow
      exact ⟨hk6.others, hk6.keep, ⟨_, hk6.box, hrow, trivial⟩, hk6.it, hk6.below⟩
    · gi_wp2
      refine wpIn_mono (Q := fun e a' w' => e = .normal ∧ ∃ (g c3 : Nat) (A2 : Option Addr) (c2 : Nat), a' = { tmps := #[.slice A n c, .slice a zs.length cap, undef, undef, .slice none 0 0, .pointer (some ⟨w1.heap.size, 0, none⟩), .int .i64 x1, .int .i64 x2, .slice A n c, .slice A0 n c0, .slice a zs.length cap, .func (.func 117) #[] #[.pointer (some ⟨w1.heap.size + 1, 0, none⟩)], .int .i64 x1, .int .i64 x2, .slice A1 M c1, .int .i64 x1, .int .u64 u, .slice (some ⟨g, 0, none⟩) m c3, .slice A2 (M + m) c2, undef, undef, undef, undef, undef, undef, undef, undef, undef], defers := [] } ∧ KeptR w w.heap.size w1.heap.size b (.slice a zs.length cap) W w' (.slice A2 (M + m) c2) (out ++ R)) ?_ ?_
      · refine wpIn_region_any hmx ?_
        change wpAnyIn _ _ _ _ _ _ _ _ _ (World.drew _)
        refine wpAnyIn_ready (rs := [0, 1]) (by kernel_rfl) (by simp) (AllReadyIn.cons rfl (fun K hK => ?_) (AllReadyIn.cons rfl (fun K hK => ?_) AllReadyIn.nil))
        · go_simp
          refine hK _ _ ?_
          clear hK K
          refine wpAnyIn_ready (rs := [1]) (by kernel_rfl) (by simp) (AllReadyIn.cons rfl (fun K hK => ?_) AllReadyIn.nil)
          go_simp
          refine hK _ _ ?_
          clear hK K
          refine wpAnyIn_ready (rs := [2]) (by kernel_rfl) (by simp) (AllReadyIn.cons rfl (fun K hK => ?_) AllReadyIn.nil)
          go_simp
          refine ⟨trivial, ?_⟩
          refine (CallsIn.inRound l (callsIn_wide.2 (HF'.out _))).mono ?_
          rintro e w2 ⟨rfl, hb2⟩
          have HK2 := hide (HK'.out.step hNW (((Below.refl _ W).drew).trans hb2))
          have hc2 := HK2.out.box.cell
          have hf2 := HK2.out.box.frozen
          have hn2 := Nat.le_trans hNW hb2.size
          refine hK _ _ ?_
          clear hK K
          refine wpAnyIn_ready (rs := [3]) (by kernel_rfl) (by simp) (AllReadyIn.cons rfl (fun K hK => ?_) AllReadyIn.nil)
          go_simp
          refine ⟨trivial, ?_⟩
          refine (CallsIn.inRound l (callsIn_wide.2 (HP1.out _))).mono ?_
          rintro e w3 ⟨g, c3, rfl, hcs, hb3⟩
          have HCS := hide hcs
          clear hcs
          have HK3 := hide (HK2.out.step hn2 hb3)
          have hc3 := HK3.out.box.cell
          have hf3 := HK3.out.box.frozen
          have hn3 := Nat.le_trans hn2 hb3.size
          refine hK _ _ ?_
          clear hK K
          refine wpAnyIn_ready (rs := [4]) (by kernel_rfl) (by simp) (AllReadyIn.cons rfl (fun K hK => ?_) AllReadyIn.nil)
          refine stepIn_append rfl _ _ 22 rfl w.heap.size 5 j0 (.int .u8 0) 1 1 Try.underlying22 Hi.out Hz0.out Hz1.out Hz2.out rfl (by decide) _ (M) _ rfl (by have h := HK3.out.row; rw [HM.out] at h; exact h) ⟨g, 0, none⟩ _ c3 (B8 R) rfl (by simp [Hm.out]) HCS.out (hone8 _) (by simp only [maxLen]; omega) (by omega) hn3 (fun v' w4 hown' hg' => ?_)
          obtain ⟨A3, c4, rfl⟩ := own_slice hown'
          obtain ⟨hbx, hk4⟩ := HK3.out.append hb hsz hn3 (ys := out ++ R) (by simpa using hown') (by rw [List.length_append, HM.out, Hm.out]) hg'
          have HK4 := hide hk4
          clear hk4
          have hc4 := hbx.cell
          have hf4 := hbx.frozen
          refine hK _ _ ?_
          clear hK K
          refine wpAnyIn_ready (rs := [5]) (by kernel_rfl) (by simp) (AllReadyIn.cons rfl (fun K hK => ?_) AllReadyIn.nil)
          go_simp
          refine hK _ _ ?_
          clear hK K
          refine wpAnyIn_done (by kernel_rfl) ?_ _
          exact ⟨rfl, g, c3, A3, c4, rfl, by first | exact HK4.out | exact HK4.out.drew⟩
        · go_simp
          refine hK _ _ ?_
          clear hK K
          refine wpAnyIn_ready (rs := [0, 2]) (by kernel_rfl) (by simp) (AllReadyIn.cons rfl (fun K hK => ?_) (AllReadyIn.cons rfl (fun K hK => ?_) AllReadyIn.nil))
          · go_simp
            refine hK _ _ ?_
            clear hK K
            refine wpAnyIn_ready (rs := [2]) (by kernel_rfl) (by simp) (AllReadyIn.cons rfl (fun K hK => ?_) AllReadyIn.nil)
            go_simp
            refine ⟨trivial, ?_⟩
            refine (CallsIn.inRound l (callsIn_wide.2 (HF'.out _))).mono ?_
            rintro e w2 ⟨rfl, hb2⟩
            have HK2 := hide (HK'.out.step hNW (((Below.refl _ W).drew).trans hb2))
            have hc2 := HK2.out.box.cell
            have hf2 := HK2.out.box.frozen
            have hn2 := Nat.le_trans hNW hb2.size
            refine hK _ _ ?_
            clear hK K
            refine wpAnyIn_ready (rs := [3]) (by kernel_rfl) (by simp) (AllReadyIn.cons rfl (fun K hK => ?_) AllReadyIn.nil)
            go_simp
            refine ⟨trivial, ?_⟩
            refine (CallsIn.inRound l (callsIn_wide.2 (HP1.out _))).mono ?_
            rintro e w3 ⟨g, c3, rfl, hcs, hb3⟩
            have HCS := hide hcs
            clear hcs
            have HK3 := hide (HK2.out.step hn2 hb3)
            have hc3 := HK3.out.box.cell
            have hf3 := HK3.out.box.frozen
            have hn3 := Nat.le_trans hn2 hb3.size
            refine hK _ _ ?_
            clear hK K
            refine wpAnyIn_ready (rs := [4]) (by kernel_rfl) (by simp) (AllReadyIn.cons rfl (fun K hK => ?_) AllReadyIn.nil)
            refine stepIn_append rfl _ _ 22 rfl w.heap.size 5 j0 (.int .u8 0) 1 1 Try.underlying22 Hi.out Hz0.out Hz1.out Hz2.out rfl (by decide) _ (M) _ rfl (by have h := HK3.out.row; rw [HM.out] at h; exact h) ⟨g, 0, none⟩ _ c3 (B8 R) rfl (by simp [Hm.out]) HCS.out (hone8 _) (by simp only [maxLen]; omega) (by omega) hn3 (fun v' w4 hown' hg' => ?_)
            obtain ⟨A3, c4, rfl⟩ := own_slice hown'
            obtain ⟨hbx, hk4⟩ := HK3.out.append hb hsz hn3 (ys := out ++ R) (by simpa using hown') (by rw [List.length_append, HM.out, Hm.out]) hg'
            have HK4 := hide hk4
            clear hk4
            have hc4 := hbx.cell
            have hf4 := hbx.frozen
            refine hK _ _ ?_
            clear hK K
            refine wpAnyIn_ready (rs := [5]) (by kernel_rfl) (by simp) (AllReadyIn.cons rfl (fun K hK => ?_) AllReadyIn.nil)
            go_simp
            refine hK _ _ ?_
            clear hK K
            refine wpAnyIn_done (by kernel_rfl) ?_ _
            exact ⟨rfl, g, c3, A3, c4, rfl, by first | exact HK4.out | exact HK4.out.drew⟩
          · go_simp
            refine ⟨trivial, ?_⟩
            refine (CallsIn.inRound l (callsIn_wide.2 (HF'.out _))).mono ?_
            rintro e w2 ⟨rfl, hb2⟩
            have HK2 := hide (HK'.out.step hNW (((Below.refl _ W).drew).trans hb2))
            have hc2 := HK2.out.box.cell
            have hf2 := HK2.out.box.frozen
            have hn2 := Nat.le_trans hNW hb2.size
            refine hK _ _ ?_
            clear hK K
            refine wpAnyIn_ready (rs := [0, 3]) (by kernel_rfl) (by simp) (AllReadyIn.cons rfl (fun K hK => ?_) (AllReadyIn.cons rfl (fun K hK => ?_) AllReadyIn.nil))
            · go_simp
              refine hK _ _ ?_
              clear hK K
              refine wpAnyIn_ready (rs := [3]) (by kernel_rfl) (by simp) (AllReadyIn.cons rfl (fun K hK => ?_) AllReadyIn.nil)
              go_simp
              refine ⟨trivial, ?_⟩
              refine (CallsIn.inRound l (callsIn_wide.2 (HP1.out _))).mono ?_
              rintro e w3 ⟨g, c3, rfl, hcs, hb3⟩
              have HCS := hide hcs
              clear hcs
              have HK3 := hide (HK2.out.step hn2 hb3)
              have hc3 := HK3.out.box.cell
              have hf3 := HK3.out.box.frozen
              have hn3 := Nat.le_trans hn2 hb3.size
              refine hK _ _ ?_
              clear hK K
              refine wpAnyIn_ready (rs := [4]) (by kernel_rfl) (by simp) (AllReadyIn.cons rfl (fun K hK => ?_) AllReadyIn.nil)
              refine stepIn_append rfl _ _ 22 rfl w.heap.size 5 j0 (.int .u8 0) 1 1 Try.underlying22 Hi.out Hz0.out Hz1.out Hz2.out rfl (by decide) _ (M) _ rfl (by have h := HK3.out.row; rw [HM.out] at h; exact h) ⟨g, 0, none⟩ _ c3 (B8 R) rfl (by simp [Hm.out]) HCS.out (hone8 _) (by simp only [maxLen]; omega) (by omega) hn3 (fun v' w4 hown' hg' => ?_)
              obtain ⟨A3, c4, rfl⟩ := own_slice hown'
              obtain ⟨hbx, hk4⟩ := HK3.out.append hb hsz hn3 (ys := out ++ R) (by simpa using hown') (by rw [List.length_append, HM.out, Hm.out]) hg'
              have HK4 := hide hk4
              clear hk4
              have hc4 := hbx.cell
              have hf4 := hbx.frozen
              refine hK _ _ ?_
              clear hK K
              refine wpAnyIn_ready (rs := [5]) (by kernel_rfl) (by simp) (AllReadyIn.cons rfl (fun K hK => ?_) AllReadyIn.nil)
              go_simp
              refine hK _ _ ?_
              clear hK K
              refine wpAnyIn_done (by kernel_rfl) ?_ _
              exact ⟨rfl, g, c3, A3, c4, rfl, by first | exact HK4.out | exact HK4.out.drew⟩
            · go_simp
              refine ⟨trivial, ?_⟩
              refine (CallsIn.inRound l (callsIn_wide.2 (HP1.out _))).mono ?_
              rintro e w3 ⟨g, c3, rfl, hcs, hb3⟩
              have HCS := hide hcs
              clear hcs
              have HK3 := hide (HK2.out.step hn2 hb3)
              have hc3 := HK3.out.box.cell
              have hf3 := HK3.out.box.frozen
              have hn3 := Nat.le_trans hn2 hb3.size
              refine hK _ _ ?_
              clear hK K
              refine wpAnyIn_ready (rs := [0]) (by kernel_rfl) (by simp) (AllReadyIn.cons rfl (fun K hK => ?_) AllReadyIn.nil)
              go_simp
              refine hK _ _ ?_
              clear hK K
              refine wpAnyIn_ready (rs := [4]) (by kernel_rfl) (by simp) (AllReadyIn.cons rfl (fun K hK => ?_) AllReadyIn.nil)
              refine stepIn_append rfl _ _ 22 rfl w.heap.size 5 j0 (.int .u8 0) 1 1 Try.underlying22 Hi.out Hz0.out Hz1.out Hz2.out rfl (by decide) _ (M) _ rfl (by have h := HK3.out.row; rw [HM.out] at h; exact h) ⟨g, 0, none⟩ _ c3 (B8 R) rfl (by simp [Hm.out]) HCS.out (hone8 _) (by simp only [maxLen]; omega) (by omega) hn3 (fun v' w4 hown' hg' => ?_)
              obtain ⟨A3, c4, rfl⟩ := own_slice hown'
              obtain ⟨hbx, hk4⟩ := HK3.out.append hb hsz hn3 (ys := out ++ R) (by simpa using hown') (by rw [List.length_append, HM.out, Hm.out]) hg'
              have HK4 := hide hk4
              clear hk4
              have hc4 := hbx.cell
              have hf4 := hbx.frozen
              refine hK _ _ ?_
              clear hK K
              refine wpAnyIn_ready (rs := [5]) (by kernel_rfl) (by simp) (AllReadyIn.cons rfl (fun K hK => ?_) AllReadyIn.nil)
              go_simp
              refine hK _ _ ?_
              clear hK K
              refine wpAnyIn_done (by kernel_rfl) ?_ _
              exact ⟨rfl, g, c3, A3, c4, rfl, by first | exact HK4.out | exact HK4.out.drew⟩
      rintro e a' W2 ⟨rfl, g, c3, A2, c2, rfl, hk5⟩
      have HK5 := hide hk5
      clear hk5
      have hc5 := HK5.out.box.cell
      have hf5 := HK5.out.box.frozen
      have hn5 := HK5.out.below.size
      gi_wp2
      have hrow := HK5.out.row
      have he : xs ++ putS (pre ++ [(x1, x2)]) = out ++ R := by rw [putS_snoc, ← List.append_assoc, HO.out, HPB.out, if_neg hx, List.append_nil]
      rw [← he] at hrow
      exact ⟨HK5.out.others, HK5.out.keep, ⟨_, HK5.out.box, hrow, trivial⟩, HK5.out.it, HK5.out.below⟩
  case done =>
    rintro D ys W hD rfl ⟨⟨v, hv, hrow, _⟩, hit, hB⟩ hK
    obtain ⟨out, hout⟩ : ∃ out, xs ++ putS (runsL zs) = out := ⟨_, rfl⟩
    obtain ⟨M, hM⟩ : ∃ M, out.length = M := ⟨_, rfl⟩
    rw [hout, hM] at hrow
    obtain ⟨A1, c1, rfl⟩ := own_slice hrow
    have hc := hv.cell
    have HO := hide hout
    have HM := hide hM
    clear hout hM
    gi_wp2
    refine ⟨by simp, .inl ⟨_, _, rfl, run_takeDeferred hK, ?_⟩⟩
    exact ⟨_, results_tmp rfl _ _ _, _, rfl, by rw [HO.out, HM.out]; exact ownsRow_putObj hrow _ hK rfl, hB.trans (belowK_b (w := w) (Nat.le_refl _) W D _ _ (by simp at hD; omega) hK rfl rfl)⟩
  case stop =>
    rintro D c pre W _ _ h _
    exact h.elim

end Go.Proofs.Ytkfejcffacbngaa.J


namespace Go.Proofs.Ytkfejcffacbngaa.J

open Go Go.Sym

set_option linter.unusedVariables false

def g102 : List (List Int) → List Int
  | [b, zs] => b ++ putS (runsL zs)
  | _ => []

def g103 : List (List Int) → List Int
  | [zs] => [((lenS (runsL zs) : Nat) : Int)]
  | _ => []

def FNq : Nat → List (List Int) → List Int
  | 102, l => g102 l
  | 103, l => g103 l
  | i, l => FNp i l

def pcRPut : Pc := ⟨20, [.sl [.u8], .sl [.i64]], [.sl 5 [.u8]], 102, [(0, 0, 1000000), (1, 0, 1000000)], []⟩
def pcRLen : Pc := ⟨22, [.sl [.i64]], [.int .i64], 103, [(0, 0, 1000000)], []⟩

theorem kind1 (k : IntKind) (j : Nat) : kindAt [k] j = k := by simp [kindAt, Nat.mod_one]

theorem intsIn_of {w : World} {v : Value} {zs : List Int} (h : ArgIs w v (.sl [.i64]) zs) : IntsIn w w.heap.size v zs := by
  obtain ⟨_, a, n, c, rfl, h4, h5, h6⟩ := h
  simp only [List.length_singleton, Nat.mul_one] at h5
  refine ⟨a, c, by rw [h5], ?_⟩
  rcases h6 with ⟨b, o, rfl, h7, h8⟩ | h6
  · refine .inr ⟨b, o, rfl, h7, fun j hj => ?_⟩
    have := h8 j _ (List.getElem?_eq_getElem hj)
    rw [kind1] at this
    rw [this, List.getElem?_eq_getElem hj]; rfl
  · exact .inl (List.eq_nil_of_length_eq_zero (by omega))

theorem reads_of {w : World} {a : Option Addr} {n c : Nat} {l : List Int} (h : ArgIs w (.slice a n c) (.sl [.u8]) l) : Reads w w.heap.size 1 a n (B8 l) := by
  obtain ⟨_, a', n', c', he, h4, h5, h6⟩ := h
  cases he
  simp only [List.length_singleton, Nat.mul_one] at h5
  refine ⟨by simp [h5], fun hn => ?_⟩
  rcases h6 with ⟨b, o, rfl, h7, h8⟩ | h6
  · refine ⟨_, rfl, h7, fun j u hu => ?_⟩
    rw [List.getElem?_map] at hu
    cases hq : l[j]? with
    | none => rw [hq] at hu; cases hu
    | some q =>
      rw [hq] at hu
      cases hu
      have := h8 j q hq
      rw [kind1] at this
      rw [addr_add]; exact this
  · omega

theorem newSl_of {w w' : World} {v : Value} {l : List Int} (h : w'.ownsRow w.heap.size 5 1 v l.length (B8 l)) : NewSl w w' v 5 [.u8] l := by
  refine ⟨by decide, ?_⟩
  rcases h.2 with ⟨rfl, h0⟩ | ⟨g, cap, cur, rfl, h1, h2, h3, h4, h5, h6⟩
  · exact .inl ⟨List.eq_nil_of_length_eq_zero h0, _, _, rfl⟩
  · by_cases hl : l = []
    · subst hl; exact .inl ⟨rfl, _, _, rfl⟩
    · refine .inr ⟨hl, g, l.length, cap, cur, 0, 0, rfl, by simp, h3, h1, h2, .inl rfl, by simpa using h5, fun j x hx => ?_⟩
      rw [kind1]
      have hj : j < l.length := (List.getElem?_eq_some_iff.1 hx).1
      have hc : cur.toList[j]? = some (.int .u8 x) := by
        have := congrArg (fun q => q[j]?) h6
        simp only [Nat.mul_one, List.getElem?_take, if_pos hj] at this
        rw [this, List.getElem?_map, hx]; rfl
      simp only [World.cell?, h2, Nat.zero_add]
      simpa using hc

theorem rput_ok : PcOk Try.prog FNq pcRPut := by
  intro w vs ls hargs hrng hpre
  have hargs0 := hargs
  match hvs : vs.toList, ls, hargs with
  | [v, sv], [b, zs], hargs =>
    obtain ⟨h1, h2, _⟩ := hargs
    have l1 := (hrng.1 (.sl [.u8]) b rfl rfl).2
    have l2 := (hrng.2.1 (.sl [.i64]) zs rfl rfl).2
    simp only [measL, List.length_singleton, Nat.div_one] at l1 l2
    have hvs' : vs = #[v, sv] := by apply Array.ext'; simpa using hvs
    subst hvs'
    obtain ⟨_, a, n, c, rfl, h4, h5, h6⟩ := id h1
    simp only [List.length_singleton, Nat.mul_one] at h5
    refine (callsIn_wide.1 (put_in a n c b sv zs (by omega) w (reads_of h1) (by omega) (intsIn_of h2))).mono ?_
    rintro e w' ⟨v, rfl, hown, hb⟩
    exact ⟨hb, _, [v], rfl, rfl, _, [], rfl, newSl_of hown, rfl⟩
  | [], _, h => exact h.elim
  | [_], [], h => exact h.elim
  | [_], [_], h => exact h.2.elim
  | [_], _ :: _ :: _, h => exact h.2.elim
  | _ :: _ :: _, [], h => exact h.elim
  | _ :: _ :: _, [_], h => exact h.2.elim
  | [_, _], _ :: _ :: _ :: _, h => exact h.2.2.elim
  | _ :: _ :: _ :: _, [_, _], h => exact h.2.2.elim
  | _ :: _ :: _ :: _, _ :: _ :: _ :: _, h => exact h.2.2.elim

theorem rlen_ok : PcOk Try.prog FNq pcRLen := by
  intro w vs ls hargs hrng hpre
  match hvs : vs.toList, ls, hargs with
  | [sv], [zs], hargs =>
    obtain ⟨h1, _⟩ := hargs
    have l1 := (hrng.1 (.sl [.i64]) zs rfl rfl).2
    simp only [measL, List.length_singleton, Nat.div_one] at l1
    have hvs' : vs = #[sv] := by apply Array.ext'; simpa using hvs
    subst hvs'
    refine (callsIn_wide.1 (len_in sv zs (by omega) w (intsIn_of h1))).mono ?_
    rintro e w' ⟨rfl, hb⟩
    exact ⟨hb, _, [_], rfl, rfl, _, [], rfl, rfl, rfl⟩
  | [], _, h => exact h.elim
  | _ :: _ :: _, [_], h => exact h.2.elim
  | _ :: _, [], h => exact h.elim
  | [_], _ :: _ :: _, h => exact h.2.elim
  | _ :: _ :: _, _ :: _ :: _, h => exact h.2.elim

end Go.Proofs.Ytkfejcffacbngaa.J


namespace Go.Proofs.Ytkfejcffacbngaa.J

open Go Go.Sym

set_option linter.unusedVariables false

def g104 : List (List Int) → List Int
  | _ => [1]

def FNr : Nat → List (List Int) → List Int
  | 104, l => g104 l
  | i, l => FNq i l

abbrev ltR (a b : IE) (t : Bool) : BE × Bool := (.cmp .lss a b, t)
end Go.Proofs.Ytkfejcffacbngaa.J

namespace Go.Proofs.Ytkfejcffacbngaa.J

open Go Go.Sym

set_option linter.unusedVariables false

theorem rl_le : ∀ (l : List Int), rl l ≤ l.length
  | [] => Nat.le_refl _
  | x :: l => by
    have h : ∀ l : List Int, zc l ≤ l.length := by
      intro l
      induction l with
      | nil => simp [zc]
      | cons y l ih => rw [zc]; split <;> simp <;> omega
    have := h l
    rw [rl]; split <;> simp <;> omega

theorem rl_one {x : Int} {l : List Int} (h : x ≠ 0) : rl (x :: l) = 1 := by rw [rl, if_neg h]

end Go.Proofs.Ytkfejcffacbngaa.J

namespace Go.Proofs.Ytkfejcffacbngaa.J

open Go Go.Sym

set_option linter.unusedVariables false

theorem q_r {c : Pc} (h : PcOk Try.prog FNq c) (h1 : ∀ i, i < c.rks.length → c.id + i ≤ 103) (h2 : c.pre = []) : PcOk Try.prog FNr c := by
  refine h.cong (fun i hi => ?_) (fun i hi => by rw [h2] at hi; cases hi)
  have := h1 i hi
  generalize c.id + i = j at this
  funext l
  unfold FNr
  split <;> first | omega | rfl

theorem rput_r : PcOk Try.prog FNr pcRPut := q_r rput_ok (by decide) rfl
theorem rlen_r : PcOk Try.prog FNr pcRLen := q_r rlen_ok (by decide) rfl

end Go.Proofs.Ytkfejcffacbngaa.J


namespace Go.Proofs.Ytkfejcffacbngaa.J

open Go Go.Sym

set_option linter.unusedVariables false

def g105 : List (List Int) → List Int
  | [zs] => putS (runsL zs)
  | _ => []

def FNs : Nat → List (List Int) → List Int
  | 105, l => g105 l
  | i, l => FNr i l

theorem FNs_105 (zs : List Int) : FNs 105 [zs] = putS (runsL zs) := rfl
theorem FNs_100 (x : Int) : FNs 100 [[x]] = [foldM x] := rfl
theorem FNs_82 (u : Int) : FNs 82 [[u]] = lebN 10 u := rfl

def pcBytes : Pc := ⟨21, [.sl [.i64]], [.sl 5 [.u8]], 105, [(0, 0, 1000000)], []⟩

abbrev lB : IE := .rlen (.rvar 0) 1
abbrev x0E : IE := .app 100 (.acons (.rcons (.sel (.rvar 0) (.lit 0) 1 0) .rnil) .anil)
abbrev xiE : IE := .app 100 (.acons (.rcons (.sel (.rvar 0) (.var 1) 1 0) .rnil) .anil)
abbrev ukE : IE := .wrap .u64 (.bin .sub .i64 (.var 4) (.lit 1))
abbrev rowE (u : IE) : IE := .rapp 82 (.acons (.rcons u .rnil) .anil)
abbrev im1 : IE := .bin .sub .i64 (.var 1) (.lit 1)
abbrev ipk : IE := .bin .add .i64 (.var 1) (.var 4)
abbrev inU (u : IE) : As := [ltR u (.lit 0) false, ltR (.lit 18446744073709551615) u false, ltR (.lit 0) (.rlen (rowE u) 1) true]
abbrev lim : BE × Bool := (atmB lB (.lit 1000000), true)
abbrev blk0 : Nat × Blk := (0, ⟨5, 0, [], .nil, false, none⟩)
abbrev blkR : Nat × Blk := (0, ⟨5, 0, [], .nil, true, some (.rvar 2, .var 3, [.u8])⟩)
abbrev cntB : As := [(nonneg (.var 3), true), (atmB (.var 3) (.lit 30000000), true)]
abbrev sl0 : Nat × SV := (0, .rsl (.ro 0 [.i64]) (.lit 0) lB 1)
abbrev outR : Nat × SV := (3, .rsl (.own 0) (.lit 0) (.var 3) 1)

abbrev pO : List Nat := [0, 1, 0, 1, 1]
abbrev pN : List Nat := [0, 0, 1, 1, 1, 0, 0, 1, 0, 0, 1, 0, 1, 1]

abbrev cutB : Cuts := [
  (pO, ⟨63, [sl0, (2, .nilslice), (3, .slice 0 0 0 0), (4, .int .i64 0)], [blk0], 1, [lim] ++ inU x0E⟩),
  (pO, ⟨63, [sl0, (2, .nilslice), outR, (4, .sint .i64 (.var 1))], [blkR], 1, [lim, ltR (.lit 0) (.var 1) true, (atmB (.var 1) lB, true), ltR im1 (.lit 0) false, ltR im1 lB true, ltR (.var 1) (.lit 0) false] ++ inU xiE ++ cntB ++ [ltR (.lit 140737488355328) (.plus (.var 3) (.rlen (rowE xiE) 1)) false]⟩),
  (pN, ⟨63, [sl0, (2, .nilslice), (3, .slice 0 0 0 0), (4, .int .i64 0), (5, .sint .i64 (.var 4))], [blk0], 1, [lim, (nonneg (.var 4), true), (atmB (.var 4) lB, true), ltR (.bin .add .i64 (.lit 0) (.var 4)) (.lit 0) false] ++ inU ukE ++ [ltR (.lit 140737488355328) (.plus (.lit 1) (.rlen (rowE ukE) 1)) false]⟩),
  (pN, ⟨63, [sl0, (2, .nilslice), outR, (4, .sint .i64 (.var 1)), (5, .sint .i64 (.var 4))], [blkR], 1, [lim, ltR (.lit 0) (.var 1) true, (nonneg (.var 4), true), (atmB (.var 1) lB, true), ltR ipk (.lit 0) false] ++ inU ukE ++ cntB ++ [ltR (.lit 140737488355328) (.plus (.plus (.var 3) (.lit 1)) (.rlen (rowE ukE) 1)) false]⟩)]

abbrev knB : Kn := [pcRfB.ct, pcFoldR.ct]

theorem bytes_entry : entryK Try.prog knB 1 400 21 cutB 1 (argSVs 0 pcBytes.aks) 12 [] = some [([], .cut 0 ⟨[], [], [], [(0, 0)]⟩)] := by kernel_rfl

theorem bytes_rounds : roundsK Try.prog knB 1 400 21 cutB 1 12 cutB = some [[([(.cmp .eql (.sel (.rvar 0) (.lit 0) 1 0) (.lit 0), true), (.cmp .lss (.lit 0) (.rlen (.rvar 0) 1), true), (.not (.cmp .lss (.lit 1000000) (.rlen (.rvar 0) 1)), true), (.cmp .lss (.app 100 (.acons (.rcons (.sel (.rvar 0) (.lit 0) 1 0) .rnil) .anil)) (.lit 0), false), (.cmp .lss (.lit 18446744073709551615) (.app 100 (.acons (.rcons (.sel (.rvar 0) (.lit 0) 1 0) .rnil) .anil)), false), (.cmp .lss (.lit 0) (.rlen (.rapp 82 (.acons (.rcons (.app 100 (.acons (.rcons (.sel (.rvar 0) (.lit 0) 1 0) .rnil) .anil)) .rnil) .anil)) 1), true)], .cut 2 ⟨[(4, .lit 0)], [], [], [(0, 0)]⟩), ([(.cmp .lss (.lit 140737488355328) (.rlen (.rapp 82 (.acons (.rcons (.app 100 (.acons (.rcons (.sel (.rvar 0) (.lit 0) 1 0) .rnil) .anil)) .rnil) .anil)) 1), true), (.cmp .eql (.sel (.rvar 0) (.lit 0) 1 0) (.lit 0), false), (.cmp .lss (.lit 0) (.rlen (.rvar 0) 1), true), (.not (.cmp .lss (.lit 1000000) (.rlen (.rvar 0) 1)), true), (.cmp .lss (.app 100 (.acons (.rcons (.sel (.rvar 0) (.lit 0) 1 0) .rnil) .anil)) (.lit 0), false), (.cmp .lss (.lit 18446744073709551615) (.app 100 (.acons (.rcons (.sel (.rvar 0) (.lit 0) 1 0) .rnil) .anil)), false), (.cmp .lss (.lit 0) (.rlen (.rapp 82 (.acons (.rcons (.app 100 (.acons (.rcons (.sel (.rvar 0) (.lit 0) 1 0) .rnil) .anil)) .rnil) .anil)) 1), true)], .bad), ([(.cmp .lss (.lit 140737488355328) (.rlen (.rapp 82 (.acons (.rcons (.app 100 (.acons (.rcons (.sel (.rvar 0) (.lit 0) 1 0) .rnil) .anil)) .rnil) .anil)) 1), false), (.cmp .eql (.sel (.rvar 0) (.lit 0) 1 0) (.lit 0), false), (.cmp .lss (.lit 0) (.rlen (.rvar 0) 1), true), (.not (.cmp .lss (.lit 1000000) (.rlen (.rvar 0) 1)), true), (.cmp .lss (.app 100 (.acons (.rcons (.sel (.rvar 0) (.lit 0) 1 0) .rnil) .anil)) (.lit 0), false), (.cmp .lss (.lit 18446744073709551615) (.app 100 (.acons (.rcons (.sel (.rvar 0) (.lit 0) 1 0) .rnil) .anil)), false), (.cmp .lss (.lit 0) (.rlen (.rapp 82 (.acons (.rcons (.app 100 (.acons (.rcons (.sel (.rvar 0) (.lit 0) 1 0) .rnil) .anil)) .rnil) .anil)) 1), true)], .cut 1 ⟨[(1, .lit 1), (3, .rlen (.rapp 82 (.acons (.rcons (.app 100 (.acons (.rcons (.sel (.rvar 0) (.lit 0) 1 0) .rnil) .anil)) .rnil) .anil)) 1)], [(2, .cat .rnil (.rapp 82 (.acons (.rcons (.app 100 (.acons (.rcons (.sel (.rvar 0) (.lit 0) 1 0) .rnil) .anil)) .rnil) .anil)))], [], [(0, 2)]⟩), ([(.cmp .lss (.lit 0) (.rlen (.rvar 0) 1), false), (.not (.cmp .lss (.lit 1000000) (.rlen (.rvar 0) 1)), true), (.cmp .lss (.app 100 (.acons (.rcons (.sel (.rvar 0) (.lit 0) 1 0) .rnil) .anil)) (.lit 0), false), (.cmp .lss (.lit 18446744073709551615) (.app 100 (.acons (.rcons (.sel (.rvar 0) (.lit 0) 1 0) .rnil) .anil)), false), (.cmp .lss (.lit 0) (.rlen (.rapp 82 (.acons (.rcons (.app 100 (.acons (.rcons (.sel (.rvar 0) (.lit 0) 1 0) .rnil) .anil)) .rnil) .anil)) 1), true)], .ret (.slice 0 0 0 0) ⟨1, (.node (some ⟨5, 0, [], .nil, false, none⟩) .nil .nil)⟩)], [([(.cmp .eql (.sel (.rvar 0) (.bin .sub .i64 (.var 1) (.lit 1)) 1 0) (.lit 0), true), (.cmp .eql (.sel (.rvar 0) (.var 1) 1 0) (.lit 0), true), (.cmp .lss (.var 1) (.rlen (.rvar 0) 1), true), (.not (.cmp .lss (.lit 1000000) (.rlen (.rvar 0) 1)), true), (.cmp .lss (.lit 0) (.var 1), true), (.not (.cmp .lss (.rlen (.rvar 0) 1) (.var 1)), true), (.cmp .lss (.bin .sub .i64 (.var 1) (.lit 1)) (.lit 0), false), (.cmp .lss (.bin .sub .i64 (.var 1) (.lit 1)) (.rlen (.rvar 0) 1), true), (.cmp .lss (.var 1) (.lit 0), false), (.cmp .lss (.app 100 (.acons (.rcons (.sel (.rvar 0) (.var 1) 1 0) .rnil) .anil)) (.lit 0), false), (.cmp .lss (.lit 18446744073709551615) (.app 100 (.acons (.rcons (.sel (.rvar 0) (.var 1) 1 0) .rnil) .anil)), false), (.cmp .lss (.lit 0) (.rlen (.rapp 82 (.acons (.rcons (.app 100 (.acons (.rcons (.sel (.rvar 0) (.var 1) 1 0) .rnil) .anil)) .rnil) .anil)) 1), true), (.not (.cmp .lss (.var 3) (.lit 0)), true), (.not (.cmp .lss (.lit 30000000) (.var 3)), true), (.cmp .lss (.lit 140737488355328) (.plus (.var 3) (.rlen (.rapp 82 (.acons (.rcons (.app 100 (.acons (.rcons (.sel (.rvar 0) (.var 1) 1 0) .rnil) .anil)) .rnil) .anil)) 1)), false)], .cut 1 ⟨[(1, .bin .add .i64 (.var 1) (.lit 1)), (3, .var 3)], [(2, .rvar 2)], [], [(0, 0)]⟩), ([(.cmp .eql (.sel (.rvar 0) (.bin .sub .i64 (.var 1) (.lit 1)) 1 0) (.lit 0), false), (.cmp .eql (.sel (.rvar 0) (.var 1) 1 0) (.lit 0), true), (.cmp .lss (.var 1) (.rlen (.rvar 0) 1), true), (.not (.cmp .lss (.lit 1000000) (.rlen (.rvar 0) 1)), true), (.cmp .lss (.lit 0) (.var 1), true), (.not (.cmp .lss (.rlen (.rvar 0) 1) (.var 1)), true), (.cmp .lss (.bin .sub .i64 (.var 1) (.lit 1)) (.lit 0), false), (.cmp .lss (.bin .sub .i64 (.var 1) (.lit 1)) (.rlen (.rvar 0) 1), true), (.cmp .lss (.var 1) (.lit 0), false), (.cmp .lss (.app 100 (.acons (.rcons (.sel (.rvar 0) (.var 1) 1 0) .rnil) .anil)) (.lit 0), false), (.cmp .lss (.lit 18446744073709551615) (.app 100 (.acons (.rcons (.sel (.rvar 0) (.var 1) 1 0) .rnil) .anil)), false), (.cmp .lss (.lit 0) (.rlen (.rapp 82 (.acons (.rcons (.app 100 (.acons (.rcons (.sel (.rvar 0) (.var 1) 1 0) .rnil) .anil)) .rnil) .anil)) 1), true), (.not (.cmp .lss (.var 3) (.lit 0)), true), (.not (.cmp .lss (.lit 30000000) (.var 3)), true), (.cmp .lss (.lit 140737488355328) (.plus (.var 3) (.rlen (.rapp 82 (.acons (.rcons (.app 100 (.acons (.rcons (.sel (.rvar 0) (.var 1) 1 0) .rnil) .anil)) .rnil) .anil)) 1)), false)], .cut 3 ⟨[(4, .lit 0), (1, .var 1), (3, .var 3)], [(2, .rvar 2)], [], [(0, 0)]⟩), ([(.cmp .eql (.sel (.rvar 0) (.var 1) 1 0) (.lit 0), false), (.cmp .lss (.var 1) (.rlen (.rvar 0) 1), true), (.not (.cmp .lss (.lit 1000000) (.rlen (.rvar 0) 1)), true), (.cmp .lss (.lit 0) (.var 1), true), (.not (.cmp .lss (.rlen (.rvar 0) 1) (.var 1)), true), (.cmp .lss (.bin .sub .i64 (.var 1) (.lit 1)) (.lit 0), false), (.cmp .lss (.bin .sub .i64 (.var 1) (.lit 1)) (.rlen (.rvar 0) 1), true), (.cmp .lss (.var 1) (.lit 0), false), (.cmp .lss (.app 100 (.acons (.rcons (.sel (.rvar 0) (.var 1) 1 0) .rnil) .anil)) (.lit 0), false), (.cmp .lss (.lit 18446744073709551615) (.app 100 (.acons (.rcons (.sel (.rvar 0) (.var 1) 1 0) .rnil) .anil)), false), (.cmp .lss (.lit 0) (.rlen (.rapp 82 (.acons (.rcons (.app 100 (.acons (.rcons (.sel (.rvar 0) (.var 1) 1 0) .rnil) .anil)) .rnil) .anil)) 1), true), (.not (.cmp .lss (.var 3) (.lit 0)), true), (.not (.cmp .lss (.lit 30000000) (.var 3)), true), (.cmp .lss (.lit 140737488355328) (.plus (.var 3) (.rlen (.rapp 82 (.acons (.rcons (.app 100 (.acons (.rcons (.sel (.rvar 0) (.var 1) 1 0) .rnil) .anil)) .rnil) .anil)) 1)), false)], .cut 1 ⟨[(1, .bin .add .i64 (.var 1) (.lit 1)), (3, .plus (.var 3) (.rlen (.rapp 82 (.acons (.rcons (.app 100 (.acons (.rcons (.sel (.rvar 0) (.var 1) 1 0) .rnil) .anil)) .rnil) .anil)) 1))], [(2, .cat (.rvar 2) (.rapp 82 (.acons (.rcons (.app 100 (.acons (.rcons (.sel (.rvar 0) (.var 1) 1 0) .rnil) .anil)) .rnil) .anil)))], [], [(0, 2)]⟩), ([(.cmp .lss (.var 1) (.rlen (.rvar 0) 1), false), (.not (.cmp .lss (.lit 1000000) (.rlen (.rvar 0) 1)), true), (.cmp .lss (.lit 0) (.var 1), true), (.not (.cmp .lss (.rlen (.rvar 0) 1) (.var 1)), true), (.cmp .lss (.bin .sub .i64 (.var 1) (.lit 1)) (.lit 0), false), (.cmp .lss (.bin .sub .i64 (.var 1) (.lit 1)) (.rlen (.rvar 0) 1), true), (.cmp .lss (.var 1) (.lit 0), false), (.cmp .lss (.app 100 (.acons (.rcons (.sel (.rvar 0) (.var 1) 1 0) .rnil) .anil)) (.lit 0), false), (.cmp .lss (.lit 18446744073709551615) (.app 100 (.acons (.rcons (.sel (.rvar 0) (.var 1) 1 0) .rnil) .anil)), false), (.cmp .lss (.lit 0) (.rlen (.rapp 82 (.acons (.rcons (.app 100 (.acons (.rcons (.sel (.rvar 0) (.var 1) 1 0) .rnil) .anil)) .rnil) .anil)) 1), true), (.not (.cmp .lss (.var 3) (.lit 0)), true), (.not (.cmp .lss (.lit 30000000) (.var 3)), true), (.cmp .lss (.lit 140737488355328) (.plus (.var 3) (.rlen (.rapp 82 (.acons (.rcons (.app 100 (.acons (.rcons (.sel (.rvar 0) (.var 1) 1 0) .rnil) .anil)) .rnil) .anil)) 1)), false)], .ret (.rsl (.own 0) (.lit 0) (.var 3) 1) ⟨1, (.node (some ⟨5, 0, [], .nil, true, (some (.rvar 2, (.var 3, [.u8])))⟩) .nil .nil)⟩)], [([(.cmp .eql (.sel (.rvar 0) (.bin .add .i64 (.lit 0) (.var 4)) 1 0) (.lit 0), true), (.cmp .lss (.bin .add .i64 (.lit 0) (.var 4)) (.rlen (.rvar 0) 1), true), (.not (.cmp .lss (.lit 1000000) (.rlen (.rvar 0) 1)), true), (.not (.cmp .lss (.var 4) (.lit 0)), true), (.not (.cmp .lss (.rlen (.rvar 0) 1) (.var 4)), true), (.cmp .lss (.bin .add .i64 (.lit 0) (.var 4)) (.lit 0), false), (.cmp .lss (.wrap .u64 (.bin .sub .i64 (.var 4) (.lit 1))) (.lit 0), false), (.cmp .lss (.lit 18446744073709551615) (.wrap .u64 (.bin .sub .i64 (.var 4) (.lit 1))), false), (.cmp .lss (.lit 0) (.rlen (.rapp 82 (.acons (.rcons (.wrap .u64 (.bin .sub .i64 (.var 4) (.lit 1))) .rnil) .anil)) 1), true), (.cmp .lss (.lit 140737488355328) (.plus (.lit 1) (.rlen (.rapp 82 (.acons (.rcons (.wrap .u64 (.bin .sub .i64 (.var 4) (.lit 1))) .rnil) .anil)) 1)), false)], .cut 2 ⟨[(4, .bin .add .i64 (.var 4) (.lit 1))], [], [], [(0, 0)]⟩), ([(.cmp .eql (.sel (.rvar 0) (.bin .add .i64 (.lit 0) (.var 4)) 1 0) (.lit 0), false), (.cmp .lss (.bin .add .i64 (.lit 0) (.var 4)) (.rlen (.rvar 0) 1), true), (.not (.cmp .lss (.lit 1000000) (.rlen (.rvar 0) 1)), true), (.not (.cmp .lss (.var 4) (.lit 0)), true), (.not (.cmp .lss (.rlen (.rvar 0) 1) (.var 4)), true), (.cmp .lss (.bin .add .i64 (.lit 0) (.var 4)) (.lit 0), false), (.cmp .lss (.wrap .u64 (.bin .sub .i64 (.var 4) (.lit 1))) (.lit 0), false), (.cmp .lss (.lit 18446744073709551615) (.wrap .u64 (.bin .sub .i64 (.var 4) (.lit 1))), false), (.cmp .lss (.lit 0) (.rlen (.rapp 82 (.acons (.rcons (.wrap .u64 (.bin .sub .i64 (.var 4) (.lit 1))) .rnil) .anil)) 1), true), (.cmp .lss (.lit 140737488355328) (.plus (.lit 1) (.rlen (.rapp 82 (.acons (.rcons (.wrap .u64 (.bin .sub .i64 (.var 4) (.lit 1))) .rnil) .anil)) 1)), false)], .cut 1 ⟨[(1, .lit 1), (3, .plus (.lit 1) (.rlen (.rapp 82 (.acons (.rcons (.wrap .u64 (.bin .sub .i64 (.var 4) (.lit 1))) .rnil) .anil)) 1))], [(2, .cat (.rcons (.lit 0) .rnil) (.rapp 82 (.acons (.rcons (.wrap .u64 (.bin .sub .i64 (.var 4) (.lit 1))) .rnil) .anil)))], [], [(0, 4)]⟩), ([(.cmp .lss (.bin .add .i64 (.lit 0) (.var 4)) (.rlen (.rvar 0) 1), false), (.not (.cmp .lss (.lit 1000000) (.rlen (.rvar 0) 1)), true), (.not (.cmp .lss (.var 4) (.lit 0)), true), (.not (.cmp .lss (.rlen (.rvar 0) 1) (.var 4)), true), (.cmp .lss (.bin .add .i64 (.lit 0) (.var 4)) (.lit 0), false), (.cmp .lss (.wrap .u64 (.bin .sub .i64 (.var 4) (.lit 1))) (.lit 0), false), (.cmp .lss (.lit 18446744073709551615) (.wrap .u64 (.bin .sub .i64 (.var 4) (.lit 1))), false), (.cmp .lss (.lit 0) (.rlen (.rapp 82 (.acons (.rcons (.wrap .u64 (.bin .sub .i64 (.var 4) (.lit 1))) .rnil) .anil)) 1), true), (.cmp .lss (.lit 140737488355328) (.plus (.lit 1) (.rlen (.rapp 82 (.acons (.rcons (.wrap .u64 (.bin .sub .i64 (.var 4) (.lit 1))) .rnil) .anil)) 1)), false)], .cut 1 ⟨[(1, .lit 1), (3, .plus (.lit 1) (.rlen (.rapp 82 (.acons (.rcons (.wrap .u64 (.bin .sub .i64 (.var 4) (.lit 1))) .rnil) .anil)) 1))], [(2, .cat (.rcons (.lit 0) .rnil) (.rapp 82 (.acons (.rcons (.wrap .u64 (.bin .sub .i64 (.var 4) (.lit 1))) .rnil) .anil)))], [], [(0, 4)]⟩)], [([(.cmp .eql (.sel (.rvar 0) (.bin .add .i64 (.var 1) (.var 4)) 1 0) (.lit 0), true), (.cmp .lss (.bin .add .i64 (.var 1) (.var 4)) (.rlen (.rvar 0) 1), true), (.not (.cmp .lss (.lit 1000000) (.rlen (.rvar 0) 1)), true), (.cmp .lss (.lit 0) (.var 1), true), (.not (.cmp .lss (.var 4) (.lit 0)), true), (.not (.cmp .lss (.rlen (.rvar 0) 1) (.var 1)), true), (.cmp .lss (.bin .add .i64 (.var 1) (.var 4)) (.lit 0), false), (.cmp .lss (.wrap .u64 (.bin .sub .i64 (.var 4) (.lit 1))) (.lit 0), false), (.cmp .lss (.lit 18446744073709551615) (.wrap .u64 (.bin .sub .i64 (.var 4) (.lit 1))), false), (.cmp .lss (.lit 0) (.rlen (.rapp 82 (.acons (.rcons (.wrap .u64 (.bin .sub .i64 (.var 4) (.lit 1))) .rnil) .anil)) 1), true), (.not (.cmp .lss (.var 3) (.lit 0)), true), (.not (.cmp .lss (.lit 30000000) (.var 3)), true), (.cmp .lss (.lit 140737488355328) (.plus (.plus (.var 3) (.lit 1)) (.rlen (.rapp 82 (.acons (.rcons (.wrap .u64 (.bin .sub .i64 (.var 4) (.lit 1))) .rnil) .anil)) 1)), false)], .cut 3 ⟨[(4, .bin .add .i64 (.var 4) (.lit 1)), (1, .var 1), (3, .var 3)], [(2, .rvar 2)], [], [(0, 0)]⟩), ([(.cmp .eql (.sel (.rvar 0) (.bin .add .i64 (.var 1) (.var 4)) 1 0) (.lit 0), false), (.cmp .lss (.bin .add .i64 (.var 1) (.var 4)) (.rlen (.rvar 0) 1), true), (.not (.cmp .lss (.lit 1000000) (.rlen (.rvar 0) 1)), true), (.cmp .lss (.lit 0) (.var 1), true), (.not (.cmp .lss (.var 4) (.lit 0)), true), (.not (.cmp .lss (.rlen (.rvar 0) 1) (.var 1)), true), (.cmp .lss (.bin .add .i64 (.var 1) (.var 4)) (.lit 0), false), (.cmp .lss (.wrap .u64 (.bin .sub .i64 (.var 4) (.lit 1))) (.lit 0), false), (.cmp .lss (.lit 18446744073709551615) (.wrap .u64 (.bin .sub .i64 (.var 4) (.lit 1))), false), (.cmp .lss (.lit 0) (.rlen (.rapp 82 (.acons (.rcons (.wrap .u64 (.bin .sub .i64 (.var 4) (.lit 1))) .rnil) .anil)) 1), true), (.not (.cmp .lss (.var 3) (.lit 0)), true), (.not (.cmp .lss (.lit 30000000) (.var 3)), true), (.cmp .lss (.lit 140737488355328) (.plus (.plus (.var 3) (.lit 1)) (.rlen (.rapp 82 (.acons (.rcons (.wrap .u64 (.bin .sub .i64 (.var 4) (.lit 1))) .rnil) .anil)) 1)), false)], .cut 1 ⟨[(1, .bin .add .i64 (.var 1) (.lit 1)), (3, .plus (.plus (.var 3) (.lit 1)) (.rlen (.rapp 82 (.acons (.rcons (.wrap .u64 (.bin .sub .i64 (.var 4) (.lit 1))) .rnil) .anil)) 1))], [(2, .cat (.cat (.rvar 2) (.rcons (.lit 0) .rnil)) (.rapp 82 (.acons (.rcons (.wrap .u64 (.bin .sub .i64 (.var 4) (.lit 1))) .rnil) .anil)))], [], [(0, 4)]⟩), ([(.cmp .lss (.bin .add .i64 (.var 1) (.var 4)) (.rlen (.rvar 0) 1), false), (.not (.cmp .lss (.lit 1000000) (.rlen (.rvar 0) 1)), true), (.cmp .lss (.lit 0) (.var 1), true), (.not (.cmp .lss (.var 4) (.lit 0)), true), (.not (.cmp .lss (.rlen (.rvar 0) 1) (.var 1)), true), (.cmp .lss (.bin .add .i64 (.var 1) (.var 4)) (.lit 0), false), (.cmp .lss (.wrap .u64 (.bin .sub .i64 (.var 4) (.lit 1))) (.lit 0), false), (.cmp .lss (.lit 18446744073709551615) (.wrap .u64 (.bin .sub .i64 (.var 4) (.lit 1))), false), (.cmp .lss (.lit 0) (.rlen (.rapp 82 (.acons (.rcons (.wrap .u64 (.bin .sub .i64 (.var 4) (.lit 1))) .rnil) .anil)) 1), true), (.not (.cmp .lss (.var 3) (.lit 0)), true), (.not (.cmp .lss (.lit 30000000) (.var 3)), true), (.cmp .lss (.lit 140737488355328) (.plus (.plus (.var 3) (.lit 1)) (.rlen (.rapp 82 (.acons (.rcons (.wrap .u64 (.bin .sub .i64 (.var 4) (.lit 1))) .rnil) .anil)) 1)), false)], .cut 1 ⟨[(1, .bin .add .i64 (.var 1) (.lit 1)), (3, .plus (.plus (.var 3) (.lit 1)) (.rlen (.rapp 82 (.acons (.rcons (.wrap .u64 (.bin .sub .i64 (.var 4) (.lit 1))) .rnil) .anil)) 1))], [(2, .cat (.cat (.rvar 2) (.rcons (.lit 0) .rnil)) (.rapp 82 (.acons (.rcons (.wrap .u64 (.bin .sub .i64 (.var 4) (.lit 1))) .rnil) .anil)))], [], [(0, 4)]⟩)]] := by kernel_rfl

end Go.Proofs.Ytkfejcffacbngaa.J

namespace Go.Proofs.Ytkfejcffacbngaa.J

open Go Go.Sym

set_option linter.unusedVariables false

abbrev at0 (zs : List Int) (i : Nat) : Int := zs[i]?.getD 0

theorem sel_at0 (zs : List Int) (i : Nat) : selL zs (i : Int) 1 0 = at0 zs i := by simp [selL, at0]

/-- the runs that are still to be written, from a place on -/
def restR (zs : List Int) (i : Nat) : List (Int × Int) := if 0 < i ∧ at0 zs (i - 1) = 0 then runsL ((zs.drop i).drop (zc (zs.drop i))) else runsL (zs.drop i)

theorem drop_at {zs : List Int} {i : Nat} (h : i < zs.length) : zs.drop i = at0 zs i :: zs.drop (i + 1) := by
  rw [List.drop_eq_getElem_cons h]; simp [at0, h]

theorem restR_num {zs : List Int} {i : Nat} (h : i < zs.length) (hx : at0 zs i ≠ 0) : restR zs i = (at0 zs i, 1) :: restR zs (i + 1) := by
  have hz : zc (zs.drop i) = 0 := by rw [drop_at h, zc, if_neg hx]
  have e : restR zs i = runsL (zs.drop i) := by unfold restR; split <;> simp [hz]
  have e2 : restR zs (i + 1) = runsL (zs.drop (i + 1)) := by unfold restR; rw [if_neg (by simp [hx])]
  rw [e, e2, drop_at h, runsL_cons, rl_one hx]; rfl

theorem restR_in {zs : List Int} {i : Nat} (h : i < zs.length) (h0 : 0 < i) (hp : at0 zs (i - 1) = 0) (hx : at0 zs i = 0) : restR zs i = restR zs (i + 1) := by
  unfold restR
  rw [if_pos ⟨h0, hp⟩, if_pos ⟨by omega, by simpa using hx⟩, drop_at h, zc, if_pos hx]
  rfl

theorem restR_zero {zs : List Int} {i : Nat} (h : i < zs.length) (hp : ¬ (0 < i ∧ at0 zs (i - 1) = 0)) (hx : at0 zs i = 0) : restR zs i = (0, (zc (zs.drop i) : Int)) :: restR zs (i + 1) := by
  have hz : zc (zs.drop i) = zc (zs.drop (i + 1)) + 1 := by rw [drop_at h, zc, if_pos hx]
  have e2 : restR zs (i + 1) = runsL ((zs.drop (i + 1)).drop (zc (zs.drop (i + 1)))) := by unfold restR; rw [if_pos ⟨by omega, by simpa using hx⟩]
  have e1 : restR zs i = runsL (zs.drop i) := by unfold restR; rw [if_neg hp]
  have hr : rl (zs.drop i) = zc (zs.drop (i + 1)) + 1 := by rw [drop_at h, rl, if_pos hx]
  rw [e1, e2, hz]
  have hc := runsL_cons (at0 zs i) (zs.drop (i + 1))
  rw [← drop_at h, hr] at hc
  rw [hc, hx, drop_at h]
  rfl

theorem restR_end {zs : List Int} : restR zs zs.length = [] := by
  unfold restR; split <;> simp [runsL, runsF]

theorem restR_0 (zs : List Int) : restR zs 0 = runsL zs := by unfold restR; simp

theorem zc_at {zs : List Int} {i k : Nat} (hk : i + k ≤ zs.length) (h0 : ∀ j, j < k → at0 zs (i + j) = 0) (h1 : i + k < zs.length → at0 zs (i + k) ≠ 0) : zc (zs.drop i) = k := by
  refine zc_eq _ _ (fun j hj => ?_) ?_
  · have h := h0 j hj
    have hlt : i + j < zs.length := by omega
    rw [List.getElem?_drop, List.getElem?_eq_getElem hlt]
    simp [at0, hlt] at h
    rw [h]
  · rw [List.getElem?_drop]
    intro h
    have hlt : i + k < zs.length := (List.getElem?_eq_some_iff.1 h).1
    exact h1 hlt (by simp [at0, h])

theorem putB_zero (k : Int) : putB (0, k) = 0 :: lebN 10 (IntKind.u64.wrap (IntKind.i64.wrap (k - 1))) := by
  have : lebN 10 (foldM 0) = [0] := by decide
  simp [putB, this]

theorem putB_num {x : Int} (h : x ≠ 0) (k : Int) : putB (x, k) = lebN 10 (foldM x) := by simp [putB, h]

theorem putS_cons (p : Int × Int) (l : List (Int × Int)) : putS (p :: l) = putB p ++ putS l := by simp [putS]

def Outd (zs out : List Int) (i : Nat) : Prop := out ++ putS (restR zs i) = putS (runsL zs) ∧ out.length ≤ 22 * i

theorem Outd.start (zs : List Int) : Outd zs [] 0 := ⟨by rw [restR_0]; rfl, by simp⟩

theorem Outd.num {zs out : List Int} {i : Nat} (h : Outd zs out i) (hi : i < zs.length) (hx : at0 zs i ≠ 0) : Outd zs (out ++ lebN 10 (foldM (at0 zs i))) (i + 1) := by
  have hl := (lebN_len' 10 (foldM (at0 zs i))).2
  refine ⟨?_, by have := h.2; rw [List.length_append]; omega⟩
  rw [← h.1, restR_num hi hx, putS_cons, putB_num hx, List.append_assoc]

theorem Outd.inn {zs out : List Int} {i : Nat} (h : Outd zs out i) (hi : i < zs.length) (h0 : 0 < i) (hp : at0 zs (i - 1) = 0) (hx : at0 zs i = 0) : Outd zs out (i + 1) :=
  ⟨by rw [← h.1, restR_in hi h0 hp hx], by have := h.2; omega⟩

theorem Outd.zero {zs out : List Int} {i k : Nat} (h : Outd zs out i) (hi : i < zs.length) (hp : ¬ (0 < i ∧ at0 zs (i - 1) = 0)) (hx : at0 zs i = 0) (hk : i + k ≤ zs.length) (h0 : ∀ j, j < k → at0 zs (i + j) = 0) (h1 : i + k < zs.length → at0 zs (i + k) ≠ 0) :
    Outd zs (out ++ 0 :: lebN 10 (IntKind.u64.wrap (binI .sub .i64 (k : Int) 1))) (i + 1) := by
  have hl := (lebN_len' 10 (IntKind.u64.wrap (binI .sub .i64 (k : Int) 1))).2
  refine ⟨?_, by have := h.2; rw [List.length_append, List.length_cons]; omega⟩
  rw [← h.1, restR_zero hi hp hx, putS_cons, zc_at hk h0 h1, putB_zero, List.append_assoc]
  rfl

end Go.Proofs.Ytkfejcffacbngaa.J

namespace Go.Proofs.Ytkfejcffacbngaa.J

open Go Go.Sym

set_option linter.unusedVariables false

theorem r_s {c : Pc} (h : PcOk Try.prog FNr c) (h1 : ∀ i, i < c.rks.length → c.id + i ≤ 104) (h2 : c.pre = []) : PcOk Try.prog FNs c := by
  refine h.cong (fun i hi => ?_) (fun i hi => by rw [h2] at hi; cases hi)
  have := h1 i hi
  generalize c.id + i = j at this
  funext l
  unfold FNs
  split <;> first | omega | rfl

theorem p_s {c : Pc} (h : PcOk Try.prog FNp c) (h1 : ∀ i, i < c.rks.length → c.id + i ≤ 101) (h2 : c.pre = []) : PcOk Try.prog FNs c := by
  refine h.cong (fun i hi => ?_) (fun i hi => by rw [h2] at hi; cases hi)
  have := h1 i hi
  generalize c.id + i = j at this
  funext l
  unfold FNs FNr FNq
  split <;> first | omega | (split <;> first | omega | (split <;> first | omega | rfl))

theorem a_p {c : Pc} (h : PcOk Try.prog FNa c) (h1 : ∀ i, i < c.rks.length → c.id + i ≤ 99) (h2 : c.pre = []) : PcOk Try.prog FNp c := by
  refine h.cong (fun i hi => ?_) (fun i hi => by rw [h2] at hi; cases hi)
  have := h1 i hi
  generalize c.id + i = j at this
  funext l
  unfold FNp
  split <;> first | omega | rfl

theorem rfB_s : PcOk Try.prog FNs pcRfB := p_s (a_p rfB_ok (by decide) rfl) (by decide) rfl
theorem foldR_s : PcOk Try.prog FNs pcFoldR := p_s foldR_ok (by decide) rfl

theorem knB_ok : ∀ env : Env, env.fn = FNs → KnOk Try.prog env knB := fun env h => knOk_cons (knOk_cons knOk_nil (Pc.ct_ok h foldR_s)) (Pc.ct_ok h rfB_s)

def invB (ls : List (List Int)) (c : Nat) (env : Env) : Prop := ∃ zs, ls = [zs] ∧ zs.length ≤ 1000000 ∧ env.row 0 = zs ∧
  ((c = 0) ∨
   (c = 1 ∧ ∃ i : Nat, vInt (env.val 1) = i ∧ 1 ≤ i ∧ i ≤ zs.length ∧ vInt (env.val 3) = ((env.row 2).length : Int) ∧ Outd zs (env.row 2) i) ∨
   (c = 2 ∧ ∃ k : Nat, vInt (env.val 4) = k ∧ k ≤ zs.length ∧ 0 < zs.length ∧ at0 zs 0 = 0 ∧ ∀ j, j < k → at0 zs (0 + j) = 0) ∨
   (c = 3 ∧ ∃ i k : Nat, vInt (env.val 1) = i ∧ vInt (env.val 4) = k ∧ 1 ≤ i ∧ i < zs.length ∧ i + k ≤ zs.length ∧ at0 zs i = 0 ∧ at0 zs (i - 1) ≠ 0 ∧ (∀ j, j < k → at0 zs (i + j) = 0) ∧ vInt (env.val 3) = ((env.row 2).length : Int) ∧ Outd zs (env.row 2) i))

def muB (ls : List (List Int)) (c : Nat) (env : Env) : Nat × Nat :=
  (match c with
   | 0 => 2 * (ls.headD []).length + 2
   | 1 => 2 * ((ls.headD []).length - (vInt (env.val 1)).toNat) + 1
   | 2 => 2 * (ls.headD []).length + 1
   | _ => 2 * ((ls.headD []).length - (vInt (env.val 1)).toNat), (ls.headD []).length - (vInt (env.val 4)).toNat)

theorem inU_ok (env : Env) (hfn : env.fn = FNs) {u : IE} {z : Int} (hz : u.eval env = z) (h : 0 ≤ z ∧ z ≤ 18446744073709551615) : AsOk env (inU u) := by
  have hl := (lebN_len' 10 z).1
  simp only [inU, rowE, ltR, AsOk_cons, AsOk_nil, BE.eval, cmpI, IE.eval, IE.reval, IE.aeval, hfn, hz, FNs_82, Nat.div_one, and_true]
  simp; omega

theorem asOk_append {env : Env} {a b : As} (ha : AsOk env a) (hb : AsOk env b) : AsOk env (a ++ b) := fun p hp => (List.mem_append.1 hp).elim (ha p) (hb p)

end Go.Proofs.Ytkfejcffacbngaa.J


namespace Go.Proofs.Ytkfejcffacbngaa.J

open Go Go.Sym

set_option linter.unusedVariables false

theorem sub_all' {l : List Int} {n : Nat} (h : n = l.length) : subL l 0 (n : Int) 1 = l := by
  subst h
  simp [subL]

theorem wrapU (y : Int) : 0 ≤ IntKind.u64.wrap y ∧ IntKind.u64.wrap y ≤ 18446744073709551615 := wrapU_rng y

set_option maxHeartbeats 1000000 in
theorem bytes_ok : PcOk Try.prog FNs pcBytes := by
  refine pc_floyd (cs := cutB) (base := 1) mix pcBytes knB_ok (Nat.le_refl 1) bytes_rounds bytes_entry invB muB (fun ls i env h => by
    obtain ⟨_, _, _, _, h | ⟨h, _⟩ | ⟨h, _⟩ | ⟨h, _⟩⟩ := h <;> simp <;> omega) ?_
  intro ls e0 hf hargs hrng hpre
  simp only [pcBytes, ArgsE, ArgE] at hargs
  obtain ⟨zs, _, rfl, ⟨hb, _⟩, rfl⟩ := hargs
  have hlen := (hrng.1 (.sl [.i64]) zs rfl rfl).2
  simp only [measL, List.length_singleton, Nat.div_one] at hlen
  refine ⟨fun env hfn => ⟨⟨?_, ?_, ?_, ?_, trivial⟩, ⟨?_, ?_, ?_, ?_, trivial⟩⟩, ?_⟩
  · rintro ⟨_, hl, h1, q0, _⟩
    refine asOk_append ?_ (inU_ok env hfn (z := foldM (at0 (env.row 0) 0)) ?_ (foldM_rng _))
    · simp only [lim, lB, atmB, AsOk_cons, AsOk_nil, BE.eval, cmpI, IE.eval, IE.reval, q0, Nat.div_one]
      simp; omega
    · simp only [IE.eval, IE.reval, IE.aeval, hfn, FNs_100, List.headD_cons]
      rw [show selL (env.row 0) 0 1 0 = at0 (env.row 0) 0 from sel_at0 _ 0]
  · rintro ⟨_, hl, h1, q0, h | ⟨_, i, q1, h2, h3, q3, ho⟩ | ⟨h, _⟩ | ⟨h, _⟩⟩
    · cases h
    · have e1 : binI .sub .i64 (i : Int) 1 = (i : Int) - 1 := wrap_i64 (by omega)
      have hl2 := (lebN_len' 10 (foldM (at0 (env.row 0) i))).2
      have ho2 := ho.2
      refine asOk_append (asOk_append (asOk_append ?_ (inU_ok env hfn (z := foldM (at0 (env.row 0) i)) ?_ (foldM_rng _))) ?_) ?_
      · simp only [lim, ltR, im1, lB, atmB, AsOk_cons, AsOk_nil, BE.eval, cmpI, IE.eval, IE.reval, q0, q1, e1, Nat.div_one]
        simp; omega
      · simp only [IE.eval, IE.reval, IE.aeval, hfn, q1, FNs_100, List.headD_cons, sel_at0]
      · simp only [cntB, nonneg, atmB, AsOk_cons, AsOk_nil, BE.eval, cmpI, IE.eval, q3]
        simp; omega
      · simp only [ltR, rowE, xiE, AsOk_cons, AsOk_nil, BE.eval, cmpI, IE.eval, IE.reval, IE.aeval, hfn, q1, q3, FNs_100, FNs_82, List.headD_cons, sel_at0, Nat.div_one]
        simp; omega
    · cases h
    · cases h
  · rintro ⟨_, hl, h1, q0, h | ⟨h, _⟩ | ⟨_, k, q4, h2, h3, h4, h5⟩ | ⟨h, _⟩⟩
    · cases h
    · cases h
    · have e1 : binI .add .i64 0 (k : Int) = (k : Int) := by simp only [binI]; rw [wrap_i64 (by omega)]; omega
      have hl2 := (lebN_len' 10 (IntKind.u64.wrap (binI .sub .i64 (k : Int) 1))).2
      refine asOk_append (asOk_append ?_ (inU_ok env hfn (z := IntKind.u64.wrap (binI .sub .i64 (k : Int) 1)) ?_ (wrapU _))) ?_
      · simp only [lim, nonneg, ltR, lB, atmB, AsOk_cons, AsOk_nil, BE.eval, cmpI, IE.eval, IE.reval, q0, q4, e1, Nat.div_one]
        simp; omega
      · simp only [IE.eval, q4]
      · simp only [ltR, rowE, ukE, AsOk_cons, AsOk_nil, BE.eval, cmpI, IE.eval, IE.reval, IE.aeval, hfn, q4, FNs_82, Nat.div_one]
        simp; omega
    · cases h
  · rintro ⟨_, hl, h1, q0, h | ⟨h, _⟩ | ⟨h, _⟩ | ⟨_, i, k, q1, q4, h2, h3, h4, h5, h6, h7, q3, ho⟩⟩
    · cases h
    · cases h
    · cases h
    · have e1 : binI .add .i64 (i : Int) (k : Int) = (i : Int) + k := wrap_i64 (by omega)
      have hl2 := (lebN_len' 10 (IntKind.u64.wrap (binI .sub .i64 (k : Int) 1))).2
      have ho2 := ho.2
      refine asOk_append (asOk_append (asOk_append ?_ (inU_ok env hfn (z := IntKind.u64.wrap (binI .sub .i64 (k : Int) 1)) ?_ (wrapU _))) ?_) ?_
      · simp only [lim, nonneg, ltR, ipk, lB, atmB, AsOk_cons, AsOk_nil, BE.eval, cmpI, IE.eval, IE.reval, q0, q1, q4, e1, Nat.div_one]
        simp; omega
      · simp only [IE.eval, q4]
      · simp only [cntB, nonneg, atmB, AsOk_cons, AsOk_nil, BE.eval, cmpI, IE.eval, q3]
        simp; omega
      · simp only [ltR, rowE, ukE, AsOk_cons, AsOk_nil, BE.eval, cmpI, IE.eval, IE.reval, IE.aeval, hfn, q3, q4, FNs_82, Nat.div_one]
        simp; omega
  · rintro ⟨_, hl, h1, q0, _⟩
    simp only [List.cons.injEq, and_true] at hl
    subst hl
    have s0 : selL zs 0 1 0 = at0 zs 0 := sel_at0 _ 0
    have hl2 := (lebN_len' 10 (foldM (at0 zs 0))).2
    simp only [allLeaves, AsOk_cons, AsOk_nil, BE.eval, cmpI, IE.eval, IE.reval, IE.aeval, hfn, q0, s0, FNs_100, FNs_82, List.headD_cons, Nat.div_one, and_true, decide_eq_true_eq, decide_eq_false_iff_not]
    refine ⟨fun hA => ?_, fun hA => ?_, fun hA => ?_, fun hA => ?_⟩
    · refine stepG_cut ⟨zs, rfl, h1, ?_, .inr (.inr (.inl ⟨rfl, 0, ?_, by omega, by omega, hA.1, fun j hj => by omega⟩))⟩ (Prod.lex_def.2 (.inl ?_))
      · simp [upd, lk_nil, q0]
      · simp [upd, lk_cons, lk_nil, IE.eval, vInt_int]
      · simp [muB]
    · exfalso; omega
    · have hO := (Outd.start zs).num (by omega) hA.2.1
      refine stepG_cut ⟨zs, rfl, h1, ?_, .inr (.inl ⟨rfl, 1, ?_, by omega, by omega, ?_, ?_⟩)⟩ (Prod.lex_def.2 (.inl ?_))
      · simp [upd, lk_cons, lk_nil, q0]
      · simp [upd, lk_cons, lk_nil, IE.eval, vInt_int]
      · simp [upd, lk_cons, lk_nil, IE.eval, IE.reval, IE.aeval, hfn, q0, s0, FNs_100, FNs_82, vInt_int]
      · simp only [upd, lk_cons, lk_nil, if_true, IE.eval, IE.reval, IE.aeval, hfn, q0, s0, FNs_100, FNs_82, List.headD_cons]
        exact hO
      · simp [muB, upd, lk_cons, lk_nil, IE.eval, vInt_int]; omega
    · have hz : zs = [] := List.eq_nil_of_length_eq_zero (by omega)
      subst hz
      refine ⟨[_], rfl, ⟨by decide, _, rfl, ?_, ?_⟩, rfl⟩
      · rfl
      · refine ⟨by simp [IE.eval], fun B r cnt ks' h1 h2 => ?_⟩
        obtain rfl := Option.some.inj h1
        cases h2
        exact Int.le_refl _
  · rintro ⟨_, hl, h1, q0, h | ⟨_, i, q1, h2, h3, q3, ho⟩ | ⟨h, _⟩ | ⟨h, _⟩⟩
    · cases h
    · simp only [List.cons.injEq, and_true] at hl
      subst hl
      have e1 : binI .sub .i64 (i : Int) 1 = ((i - 1 : Nat) : Int) := by simp only [binI]; rw [wrap_i64 (by omega)]; omega
      have e2 : binI .add .i64 (i : Int) 1 = ((i + 1 : Nat) : Int) := by simp only [binI]; rw [wrap_i64 (by omega)]; omega
      have ho2 := ho.2
      simp only [allLeaves, AsOk_cons, AsOk_nil, BE.eval, cmpI, IE.eval, IE.reval, IE.aeval, hfn, q0, q1, q3, e1, sel_at0, FNs_100, FNs_82, List.headD_cons, Nat.div_one, and_true, decide_eq_true_eq, decide_eq_false_iff_not]
      refine ⟨fun hA => ?_, fun hA => ?_, fun hA => ?_, fun hA => ?_⟩
      · refine stepG_cut ⟨zs, rfl, h1, ?_, .inr (.inl ⟨rfl, i + 1, ?_, by omega, by omega, ?_, ?_⟩)⟩ (Prod.lex_def.2 (.inl ?_))
        · simp [upd, lk_cons, lk_nil, q0]
        · simp [upd, lk_cons, lk_nil, IE.eval, q1, e2, vInt_int]
        · simp [upd, lk_cons, lk_nil, IE.eval, IE.reval, q3, vInt_int]
        · simp only [upd, lk_cons, lk_nil, if_true, IE.reval]
          exact ho.inn (by omega) (by omega) hA.1 hA.2.1
        · simp [muB, upd, lk_cons, lk_nil, IE.eval, q1, e2, vInt_int]; omega
      · refine stepG_cut ⟨zs, rfl, h1, ?_, .inr (.inr (.inr ⟨rfl, i, 0, ?_, ?_, by omega, by omega, by omega, hA.2.1, hA.1, fun j hj => by omega, ?_, ?_⟩))⟩ (Prod.lex_def.2 (.inl ?_))
        · simp [upd, lk_cons, lk_nil, q0]
        · simp [upd, lk_cons, lk_nil, IE.eval, q1, vInt_int]
        · simp [upd, lk_cons, lk_nil, IE.eval, vInt_int]
        · simp [upd, lk_cons, lk_nil, IE.eval, IE.reval, q3, vInt_int]
        · simp only [upd, lk_cons, lk_nil, if_true, IE.reval]
          exact ho
        · simp [muB, upd, lk_cons, lk_nil, IE.eval, q1, vInt_int]
      · have hO := ho.num (by omega) hA.1
        refine stepG_cut ⟨zs, rfl, h1, ?_, .inr (.inl ⟨rfl, i + 1, ?_, by omega, by omega, ?_, ?_⟩)⟩ (Prod.lex_def.2 (.inl ?_))
        · simp [upd, lk_cons, lk_nil, q0]
        · simp [upd, lk_cons, lk_nil, IE.eval, q1, e2, vInt_int]
        · simp [upd, lk_cons, lk_nil, IE.eval, IE.reval, IE.aeval, hfn, q0, q1, q3, sel_at0, FNs_100, FNs_82, vInt_int]
        · simp only [upd, lk_cons, lk_nil, if_true, IE.eval, IE.reval, IE.aeval, hfn, q0, q1, sel_at0, FNs_100, FNs_82, List.headD_cons]
          exact hO
        · simp [muB, upd, lk_cons, lk_nil, IE.eval, q1, e2, vInt_int]; omega
      · obtain rfl : i = zs.length := by omega
        have hend : env.row 2 = putS (runsL zs) := by have := ho.1; rw [restR_end] at this; simpa [putS] using this
        refine ⟨[_], rfl, ⟨by decide, _, rfl, ?_, ?_⟩, rfl⟩
        · rw [subE_eval (by simp only [IE.reval, IE.eval, q3]; simp)]
          simp only [IE.reval, IE.eval, q3, hend, pcBytes, FNs_105]
          exact sub_all' rfl
        · refine ⟨by simp only [IE.eval, q3]; omega, fun B r cnt ks' h1 h2 => ?_⟩
          obtain rfl := Option.some.inj h1
          cases h2
          exact Int.le_refl _
    · cases h
    · cases h
  · rintro ⟨_, hl, h1, q0, h | ⟨h, _⟩ | ⟨_, k, q4, h2, h3, h4, h5⟩ | ⟨h, _⟩⟩
    · cases h
    · cases h
    · simp only [List.cons.injEq, and_true] at hl
      subst hl
      have e1 : binI .add .i64 0 (k : Int) = (k : Int) := by simp only [binI]; rw [wrap_i64 (by omega)]; omega
      have e2 : binI .add .i64 (k : Int) 1 = ((k + 1 : Nat) : Int) := by simp only [binI]; rw [wrap_i64 (by omega)]; omega
      have fin : (0 + k < zs.length → at0 zs (0 + k) ≠ 0) → StepG FNs [zs] pcBytes.id pcBytes.rks (invB [zs]) (muB [zs]) (some (muB [zs] 2 env)) env (.cut 1 ⟨[(1, .lit 1), (3, .plus (.lit 1) (.rlen (.rapp 82 (.acons (.rcons (.wrap .u64 (.bin .sub .i64 (.var 4) (.lit 1))) .rnil) .anil)) 1))], [(2, .cat (.rcons (.lit 0) .rnil) (.rapp 82 (.acons (.rcons (.wrap .u64 (.bin .sub .i64 (.var 4) (.lit 1))) .rnil) .anil)))], [], [(0, 2)]⟩) := by
        intro hf
        have hO := (Outd.start zs).zero (k := k) h3 (by omega) h4 (by omega) h5 hf
        refine stepG_cut ⟨zs, rfl, h1, ?_, .inr (.inl ⟨rfl, 1, ?_, by omega, by omega, ?_, ?_⟩)⟩ (Prod.lex_def.2 (.inl ?_))
        · simp [upd, lk_cons, lk_nil, q0]
        · simp [upd, lk_cons, lk_nil, IE.eval, vInt_int]
        · simp [upd, lk_cons, lk_nil, IE.eval, IE.reval, IE.aeval, hfn, q4, FNs_82, vInt_int]; omega
        · simp only [upd, lk_cons, lk_nil, if_true, IE.eval, IE.reval, IE.aeval, hfn, q4, FNs_82]
          exact hO
        · simp [muB, upd, lk_cons, lk_nil, IE.eval, vInt_int]; omega
      simp only [allLeaves, AsOk_cons, AsOk_nil, BE.eval, cmpI, IE.eval, IE.reval, q0, q4, e1, sel_at0, Nat.div_one, and_true, decide_eq_true_eq, decide_eq_false_iff_not]
      refine ⟨fun hA => ?_, fun hA => fin (fun _ => by rw [Nat.zero_add]; exact hA.1), fun hA => fin (fun h => by omega)⟩
      refine stepG_cut ⟨zs, rfl, h1, ?_, .inr (.inr (.inl ⟨rfl, k + 1, ?_, by omega, h3, h4, fun j hj => ?_⟩))⟩ (Prod.lex_def.2 (.inr ⟨?_, ?_⟩))
      · simp [upd, lk_cons, lk_nil, q0]
      · simp [upd, lk_cons, lk_nil, IE.eval, q4, e2, vInt_int]
      · by_cases hjk : j = k
        · subst hjk; rw [Nat.zero_add]; exact hA.1
        · exact h5 j (by omega)
      · simp [muB]
      · simp [muB, upd, lk_cons, lk_nil, IE.eval, q4, e2, vInt_int]; omega
    · cases h
  · rintro ⟨_, hl, h1, q0, h | ⟨h, _⟩ | ⟨h, _⟩ | ⟨_, i, k, q1, q4, h2, h3, h4, h5, h6, h7, q3, ho⟩⟩
    · cases h
    · cases h
    · cases h
    · simp only [List.cons.injEq, and_true] at hl
      subst hl
      have e1 : binI .add .i64 (i : Int) (k : Int) = ((i + k : Nat) : Int) := by simp only [binI]; rw [wrap_i64 (by omega)]; omega
      have e2 : binI .add .i64 (k : Int) 1 = ((k + 1 : Nat) : Int) := by simp only [binI]; rw [wrap_i64 (by omega)]; omega
      have e3 : binI .add .i64 (i : Int) 1 = ((i + 1 : Nat) : Int) := by simp only [binI]; rw [wrap_i64 (by omega)]; omega
      have fin : (i + k < zs.length → at0 zs (i + k) ≠ 0) → StepG FNs [zs] pcBytes.id pcBytes.rks (invB [zs]) (muB [zs]) (some (muB [zs] 3 env)) env (.cut 1 ⟨[(1, .bin .add .i64 (.var 1) (.lit 1)), (3, .plus (.plus (.var 3) (.lit 1)) (.rlen (.rapp 82 (.acons (.rcons (.wrap .u64 (.bin .sub .i64 (.var 4) (.lit 1))) .rnil) .anil)) 1))], [(2, .cat (.cat (.rvar 2) (.rcons (.lit 0) .rnil)) (.rapp 82 (.acons (.rcons (.wrap .u64 (.bin .sub .i64 (.var 4) (.lit 1))) .rnil) .anil)))], [], [(0, 0)]⟩) := by
        intro hf
        have hO := ho.zero (k := k) h3 (fun h => h6 h.2) h5 h4 h7 hf
        refine stepG_cut ⟨zs, rfl, h1, ?_, .inr (.inl ⟨rfl, i + 1, ?_, by omega, by omega, ?_, ?_⟩)⟩ (Prod.lex_def.2 (.inl ?_))
        · simp [upd, lk_cons, lk_nil, q0]
        · simp [upd, lk_cons, lk_nil, IE.eval, q1, e3, vInt_int]
        · simp [upd, lk_cons, lk_nil, IE.eval, IE.reval, IE.aeval, hfn, q3, q4, FNs_82, vInt_int]; omega
        · simp only [upd, lk_cons, lk_nil, if_true, IE.eval, IE.reval, IE.aeval, hfn, q4, FNs_82, List.append_assoc, List.cons_append, List.nil_append]
          exact hO
        · simp [muB, upd, lk_cons, lk_nil, IE.eval, q1, e3, vInt_int]; omega
      simp only [allLeaves, AsOk_cons, AsOk_nil, BE.eval, cmpI, IE.eval, IE.reval, q0, q1, q4, e1, sel_at0, Nat.div_one, and_true, decide_eq_true_eq, decide_eq_false_iff_not]
      refine ⟨fun hA => ?_, fun hA => fin (fun _ => hA.1), fun hA => fin (fun h => by omega)⟩
      refine stepG_cut ⟨zs, rfl, h1, ?_, .inr (.inr (.inr ⟨rfl, i, k + 1, ?_, ?_, h2, h3, by omega, h5, h6, fun j hj => ?_, ?_, ?_⟩))⟩ (Prod.lex_def.2 (.inr ⟨?_, ?_⟩))
      · simp [upd, lk_cons, lk_nil, q0]
      · simp [upd, lk_cons, lk_nil, IE.eval, q1, vInt_int]
      · simp [upd, lk_cons, lk_nil, IE.eval, q4, e2, vInt_int]
      · by_cases hjk : j = k
        · subst hjk; exact hA.1
        · exact h7 j (by omega)
      · simp [upd, lk_cons, lk_nil, IE.eval, IE.reval, q3, vInt_int]
      · simp only [upd, lk_cons, lk_nil, if_true, IE.reval]
        exact ho
      · simp [muB, upd, lk_cons, lk_nil, IE.eval, q1, vInt_int]
      · simp [muB, upd, lk_cons, lk_nil, IE.eval, q4, e2, vInt_int]; omega
  · simp only [allLeaves, and_true]
    exact fun _ => stepG_cut0 ⟨zs, rfl, by omega, by simp [upd, lk_nil, hb], .inl rfl⟩

end Go.Proofs.Ytkfejcffacbngaa.J


namespace Go.Proofs.Ytkfejcffacbngaa.J

open Go Go.Sym

set_option linter.unusedVariables false

def lebU (b : List Int) (a : Int) : Nat → Int
  | 0 => 0
  | k + 1 => binI .or .u64 (lebU b a k) (binI .shl .u64 (IntKind.u64.wrap (binI .and .u8 (selL b (a + k) 1 0) 127)) (binI .mul .i64 7 (k : Int)))

/-- code and number of bytes, from the k-th byte on -/
def lebC (b : List Int) (a : Int) : Nat → Nat → Int × Nat
  | 0, _ => (13, 0)
  | f + 1, k => if (b.length : Int) - a ≤ k then (14, 0) else if (k = 9 ∧ 1 < selL b (a + k) 1 0) ∨ (0 < k ∧ selL b (a + k) 1 0 = 0) then (13, 0) else if selL b (a + k) 1 0 < 128 then (0, k + 1) else lebC b a f (k + 1)

def lebR (b : List Int) (a : Int) : Int × Nat := if 0 ≤ a ∧ a ≤ (b.length : Int) then lebC b a 10 0 else (11, 0)

def g83 : List (List Int) → List Int
  | [b, [a]] => [if (lebR b a).1 = 0 then lebU b a (lebR b a).2 else 0]
  | _ => []

def g84 : List (List Int) → List Int
  | [b, [a]] => [if (lebR b a).1 = 0 then a + (lebR b a).2 else 0]
  | _ => []

def g85 : List (List Int) → List Int
  | [b, [a]] => [(lebR b a).1]
  | _ => []

end Go.Proofs.Ytkfejcffacbngaa.J


namespace Go.Proofs.Ytkfejcffacbngaa.J

open Go Go.Sym

set_option linter.unusedVariables false

end Go.Proofs.Ytkfejcffacbngaa.J


namespace Go.Proofs.Ytkfejcffacbngaa.J

open Go Go.Sym

set_option linter.unusedVariables false

/-- a number with its sign, in the program's words -/
def unfM (u : Int) : Int := if binI .rem .u64 u 2 = 1 then binI .sub .i64 (binI .sub .i64 0 (IntKind.i64.wrap (binI .quo .u64 u 2))) 1 else IntKind.i64.wrap (binI .quo .u64 u 2)

def getF (b : List Int) (n : Nat) : Nat → Int → List Int → Bool → List Int × Int × Int
  | 0, _, _, _ => ([], 0, 0)
  | f + 1, a, out, z =>
    if n ≤ out.length then (out, a, 0) else
    if (lebR b a).1 ≠ 0 then ([], 0, (lebR b a).1) else
    if lebU b a (lebR b a).2 ≠ 0 then getF b n f (a + (lebR b a).2) (out ++ [unfM (lebU b a (lebR b a).2)]) false else
    if z then ([], 0, 13) else
    if (lebR b (a + (lebR b a).2)).1 ≠ 0 then ([], 0, (lebR b (a + (lebR b a).2)).1) else
    if (n : Int) - out.length ≤ lebU b (a + (lebR b a).2) (lebR b (a + (lebR b a).2)).2 then ([], 0, 13) else
    getF b n f (a + (lebR b a).2 + (lebR b (a + (lebR b a).2)).2) (out ++ repL (lebU b (a + (lebR b a).2) (lebR b (a + (lebR b a).2)).2 + 1) [0]) true

def getM (b : List Int) (a n : Int) : List Int × Int × Int :=
  if a < 0 ∨ (b.length : Int) < a ∨ n < 0 ∨ 1048576 < n then ([], 0, 11) else getF b n.toNat (n.toNat + 1) a [] false

def g106 : List (List Int) → List Int
  | [b, [a], [n]] => (getM b a n).1
  | _ => []
def g107 : List (List Int) → List Int
  | [b, [a], [n]] => [(getM b a n).2.1]
  | _ => []
def g108 : List (List Int) → List Int
  | [b, [a], [n]] => [(getM b a n).2.2]
  | _ => []
def g109 : List (List Int) → List Int
  | [[u]] => [unfM u]
  | _ => []

def FNt : Nat → List (List Int) → List Int
  | 83, l => g83 l
  | 84, l => g84 l
  | 85, l => g85 l
  | 106, l => g106 l
  | 107, l => g107 l
  | 108, l => g108 l
  | 109, l => g109 l
  | i, l => FNs i l

abbrev blkI : Nat × Blk := (0, ⟨2, 0, [], .nil, true, some (.rvar 4, .var 5, [.i64])⟩)
abbrev rowI : SV := .rsl (.own 0) (.lit 0) (.var 5) 1

end Go.Proofs.Ytkfejcffacbngaa.J

namespace Go.Proofs.Ytkfejcffacbngaa.J

open Go Go.Sym

set_option linter.unusedVariables false

theorem s_t {c : Pc} (h : PcOk Try.prog FNs c) (h1 : ∀ i, i < c.rks.length → c.id + i ≤ 82 ∨ (86 ≤ c.id + i ∧ c.id + i ≤ 105)) (h2 : c.pre = []) : PcOk Try.prog FNt c := by
  refine h.cong (fun i hi => ?_) (fun i hi => by rw [h2] at hi; cases hi)
  have := h1 i hi
  generalize c.id + i = j at this
  funext l
  unfold FNt
  split <;> first | omega | rfl

/-- where the run of Get stands -/
def Stands (b : List Int) (a n : Int) (p : Int) (out : List Int) (z : Bool) : Prop := ∃ f : Nat, getM b a n = getF b n.toNat f p out z ∧ (out.length : Int) ≤ n ∧ n.toNat < out.length + f

section
variable {b : List Int} {a n p : Int} {out : List Int} {z : Bool}

theorem Stands.done (h : Stands b a n p out z) (hn : ¬ (out.length : Int) < n) : getM b a n = (out, p, 0) := by
  obtain ⟨f, h1, h2, h3⟩ := h
  obtain ⟨f, rfl⟩ : ∃ q, f = q + 1 := ⟨f - 1, by omega⟩
  rw [h1, getF, if_pos (by omega)]

theorem Stands.code (h : Stands b a n p out z) (hn : (out.length : Int) < n) (he : (lebR b p).1 ≠ 0) : getM b a n = ([], 0, (lebR b p).1) := by
  obtain ⟨f, h1, h2, h3⟩ := h
  obtain ⟨f, rfl⟩ : ∃ q, f = q + 1 := ⟨f - 1, by omega⟩
  rw [h1, getF, if_neg (by omega), if_pos he]

theorem Stands.num (h : Stands b a n p out z) (hn : (out.length : Int) < n) (he : (lebR b p).1 = 0) (hu : lebU b p (lebR b p).2 ≠ 0) : Stands b a n (p + (lebR b p).2) (out ++ [unfM (lebU b p (lebR b p).2)]) false := by
  obtain ⟨f, h1, h2, h3⟩ := h
  obtain ⟨f, rfl⟩ : ∃ q, f = q + 1 := ⟨f - 1, by omega⟩
  refine ⟨f, ?_, by simp; omega, by simp; omega⟩
  rw [h1, getF, if_neg (by omega), if_neg (by rw [he]; simp), if_pos hu]

end

theorem Stands.start {b : List Int} {a n : Int} (h0 : 0 ≤ a) (h1 : a ≤ b.length) (h2 : 0 ≤ n) (h3 : n ≤ 1048576) : Stands b a n a [] false :=
  ⟨n.toNat + 1, by rw [getM, if_neg (by omega)], by simpa using h2, by simp⟩

end Go.Proofs.Ytkfejcffacbngaa.J


namespace Go.Proofs.Ytkfejcffacbngaa.J

open Go Go.Sym

set_option linter.unusedVariables false

theorem sub_all2 {l : List Int} {n : Nat} (h : n = l.length) : subL l 0 (n : Int) 1 = l := by
  subst h
  simp [subL]

end Go.Proofs.Ytkfejcffacbngaa.J


namespace Go.Proofs.Ytkfejcffacbngaa.J

open Go Go.Sym

set_option linter.unusedVariables false

def g110 : List (List Int) → List Int
  | [a, b] => [if a = b then 1 else 0]
  | _ => []

def FNu : Nat → List (List Int) → List Int
  | 110, l => g110 l
  | i, l => FNt i l

end Go.Proofs.Ytkfejcffacbngaa.J

namespace Go.Proofs.Ytkfejcffacbngaa.J

open Go Go.Sym

set_option linter.unusedVariables false

theorem repL_rep (n : Nat) : repL (n : Int) [0] = List.replicate n 0 := by
  simp only [repL, Int.toNat_natCast]
  induction n with
  | zero => rfl
  | succ q ih => rw [List.replicate_succ, List.flatten_cons, ih, List.replicate_succ]; rfl

end Go.Proofs.Ytkfejcffacbngaa.J


namespace Go.Proofs.Ytkfejcffacbngaa.J

open Go Go.Sym

set_option linter.unusedVariables false

abbrev l0 : IE := .rlen (.rvar 0) 1
abbrev l1 : IE := .rlen (.rvar 1) 1
abbrev l2 : IE := .rlen (.rvar 2) 1
end Go.Proofs.Ytkfejcffacbngaa.J

namespace Go.Proofs.Ytkfejcffacbngaa.J

open Go Go.Sym

set_option linter.unusedVariables false

theorem t_u {c : Pc} (h : PcOk Try.prog FNt c) (h1 : ∀ i, i < c.rks.length → c.id + i ≤ 109) (h2 : c.pre = []) : PcOk Try.prog FNu c := by
  refine h.cong (fun i hi => ?_) (fun i hi => by rw [h2] at hi; cases hi)
  have := h1 i hi
  generalize c.id + i = j at this
  funext l
  unfold FNu
  split <;> first | omega | rfl

theorem r_u {c : Pc} (h : PcOk Try.prog FNr c) (h1 : ∀ i, i < c.rks.length → 102 ≤ c.id + i ∧ c.id + i ≤ 104) (h2 : c.pre = []) : PcOk Try.prog FNu c :=
  t_u (s_t (r_s h (fun i hi => by have := h1 i hi; omega) h2) (fun i hi => by have := h1 i hi; omega) h2) (fun i hi => by have := h1 i hi; omega) h2

theorem runsL_ne {zs : List Int} (h : zs ≠ []) : 0 < (putS (runsL zs)).length := by
  cases zs with
  | nil => exact absurd rfl h
  | cons x l =>
    rw [runsL_cons, putS_cons, List.length_append, putB_len]
    have := (lebN_len' 10 (foldM x)).1
    unfold bumpL
    simp only
    omega

theorem runsL_len : ∀ (m : Nat) (zs : List Int), zs.length ≤ m → (runsL zs).length ≤ zs.length := by
  intro m
  induction m with
  | zero =>
    intro zs h
    obtain rfl : zs = [] := List.eq_nil_of_length_eq_zero (by omega)
    simp [runsL, runsF]
  | succ m ih =>
    intro zs h
    cases zs with
    | nil => simp [runsL, runsF]
    | cons x l =>
      have h1 := rl_pos (x := x) (l := l)
      have h2 := rl_le (x :: l)
      have := ih ((x :: l).drop (rl (x :: l))) (by simp at h ⊢; omega)
      rw [runsL_cons, List.length_cons]
      rw [List.length_drop] at this
      omega

end Go.Proofs.Ytkfejcffacbngaa.J


namespace Go.Proofs.Ytkfejcffacbngaa.J

open Go Go.Sym

set_option linter.unusedVariables false

def bytes8 (b : List Int) : Prop := ∀ x ∈ b, 0 ≤ x ∧ x ≤ 255

open Classical in
noncomputable def g111 : List (List Int) → List Int
  | [b, _] => [if bytes8 b then 1 else 0]
  | [b, _, _] => [if bytes8 b then 1 else 0]
  | _ => []

noncomputable def FNv : Nat → List (List Int) → List Int
  | 111, l => g111 l
  | i, l => FNu i l

end Go.Proofs.Ytkfejcffacbngaa.J


namespace Go.Proofs.Ytkfejcffacbngaa.J

open Go Go.Sym

set_option linter.unusedVariables false

end Go.Proofs.Ytkfejcffacbngaa.J



namespace Go.Proofs.Ytkfejcffacbngaa.J

open Go Go.Sym

set_option linter.unusedVariables false

/-- a number with its sign, in the document's words -/
def unfD (u : Int) : Int := if binI .rem .u64 u 2 = 0 then IntKind.i64.wrap (binI .quo .u64 u 2) else binI .sub .i64 (binI .sub .i64 0 (IntKind.i64.wrap (binI .quo .u64 u 2))) 1

def g112 : List (List Int) → List Int
  | [[u]] => [unfD u]
  | _ => []

noncomputable def FNw : Nat → List (List Int) → List Int
  | 112, l => g112 l
  | i, l => FNv i l

abbrev sl0I : SV := .slice 0 0 0 0
abbrev blkZ : Nat × Blk := (0, ⟨2, 0, [], .nil, false, none⟩)
end Go.Proofs.Ytkfejcffacbngaa.J


namespace Go.Proofs.Ytkfejcffacbngaa.J

open Go Go.Sym

set_option linter.unusedVariables false

/-- a weaker word for what is returned -/
def Weak (env : Env) (s s' : SV) : Prop := ∀ ρ v, Rep ρ env s v → Rep ρ env s' v

def StepW (FN : Nat → List (List Int) → List Int) (ls : List (List Int)) (id : Nat) (rks : List ResK) (Inv : Nat → Env → Prop) (μ : Nat → Env → Nat × Nat) (bound : Option (Nat × Nat)) (env : Env) (o : Out) : Prop :=
  StepG FN ls id rks Inv μ bound env o ∨ ∃ s M s', o = .ret s M ∧ Weak env s s' ∧ StepG FN ls id rks Inv μ bound env (.ret s' M)

theorem weak_e0 {env : Env} {nm off cap : Nat} {l : List SV} : Weak env (.tuple (.slice nm off 0 cap :: l)) (.tuple (.e0 :: l)) := by
  intro ρ v h
  simp only [Rep, RepL] at h ⊢
  obtain ⟨vs, rfl, v, vs', h1, ⟨b, n, h2, rfl⟩, h3⟩ := h
  exact ⟨vs, rfl, _, vs', h1, ⟨_, _, rfl⟩, h3⟩

theorem pc_floyd_w {P : Program} {FN : Nat → List (List Int) → List Int} {aa : As} (hmix : P.follows .mixedOrders = true) {kn : Kn} {n f k base : Nat} {cs : Cuts} (c : Pc) (hkn : ∀ env : Env, env.fn = FN → KnOk P env kn) (hbase : c.aks.length ≤ base) {outs : List (List Leaf)} {eouts : List Leaf}
    (hrounds : roundsK P kn n f c.f cs base k cs = some outs) (hent : entryK P kn n f c.f cs base (argSVs 0 c.aks) k aa = some eouts)
    (Inv : List (List Int) → Nat → Env → Prop) (μ : List (List Int) → Nat → Env → Nat × Nat) (hinv : ∀ ls i env, Inv ls i env → i < cs.length)
    (H : ∀ (ls : List (List Int)) (e0 : Env), e0.fn = FN → ArgsE e0 0 c.aks ls → RngOk c.aks ls c.rng → PreOk FN ls c.pre → AsOk e0 aa ∧
      (∀ env : Env, env.fn = FN → AsAll env (Inv ls) 0 cs ∧ StepAll (fun i env lf => AsOk env lf.1 → StepW FN ls c.id c.rks (Inv ls) (μ ls) (some (μ ls i env)) env lf.2) env (Inv ls) 0 outs) ∧
      allLeaves (fun lf => AsOk e0 lf.1 → StepW FN ls c.id c.rks (Inv ls) (μ ls) none e0 lf.2) eouts) : PcOk P FN c := by
  intro w vs ls hargs hrng hpre
  have h0 : ArgsE (argEnv FN c.aks vs.toList ls) 0 c.aks ls := by have := argsE_of (FN := FN) hargs c.aks 0 rfl; simpa using this
  obtain ⟨ha, h1, h2⟩ := H ls _ rfl h0 hrng hpre
  have conv0 : ∀ b env o, StepG FN ls c.id c.rks (Inv ls) (μ ls) b env o → StepGood w (fun e w' => Go.RowKit.Below w.heap.size w w' ∧ ∃ v vs', e = .returned v ∧ TupIs v vs' ∧ ResL FN ls w w' c.id c.rks vs') (Inv ls) (μ ls) b env o := by
    intro b env o h
    cases o with
    | ret s M => obtain ⟨l, hl, hr⟩ := h; exact ret_good l hl hr
    | cut j σ => exact h
    | bad => exact h
  have conv : ∀ b env o, StepW FN ls c.id c.rks (Inv ls) (μ ls) b env o → StepGood w (fun e w' => Go.RowKit.Below w.heap.size w w' ∧ ∃ v vs', e = .returned v ∧ TupIs v vs' ∧ ResL FN ls w w' c.id c.rks vs') (Inv ls) (μ ls) b env o := by
    rintro b env o (h | ⟨s, M, s', rfl, hw, h⟩)
    · exact conv0 _ _ _ h
    · have := conv0 _ _ _ h
      intro ρ w' v hr
      exact this ρ w' v (hw ρ v hr)
  refine floyd_args (n := n) (f := f) (k := k) (kn := kn) (base := base) (cs := cs) hmix hkn hbase hargs (Inv ls) (μ ls) (fun i p T hi => ?_) (fun i env => hinv ls i env) hent ha (fun lf hlf hA => conv _ _ _ (allLeaves_spec h2 lf hlf hA))
  obtain ⟨o, ho1, ho2⟩ := roundsK_spec hrounds i _ hi
  refine ⟨fun env hfn hI => ?_, o, ho2, fun env hfn hI lf hlf hA => ?_⟩
  · have := AsAll_spec (h1 env hfn).1 i p T hi
    rw [Nat.zero_add] at this
    exact this hI
  · have := StepAll_spec (h1 env hfn).2 i o ho1
    rw [Nat.zero_add] at this
    exact conv _ _ _ (allLeaves_spec (this hI) lf hlf hA)

end Go.Proofs.Ytkfejcffacbngaa.J


namespace Go.Proofs.Ytkfejcffacbngaa.J

open Go Go.Sym

set_option linter.unusedVariables false

end Go.Proofs.Ytkfejcffacbngaa.J


namespace Go.Proofs.Ytkfejcffacbngaa.J

open Go Go.Sym

set_option linter.unusedVariables false

end Go.Proofs.Ytkfejcffacbngaa.J


namespace Go.Proofs.Ytkfejcffacbngaa.J

open Go Go.Sym

set_option linter.unusedVariables false

end Go.Proofs.Ytkfejcffacbngaa.J


namespace Go.Proofs.Ytkfejcffacbngaa.J

open Go Go.Sym

set_option linter.unusedVariables false

theorem u_w {c : Pc} (h : PcOk Try.prog FNu c) (h1 : ∀ i, i < c.rks.length → c.id + i ≠ 112 ∧ c.id + i ≠ 111) (h2 : c.pre = []) : PcOk Try.prog FNw c := by
  refine h.cong (fun i hi => ?_) (fun i hi => by rw [h2] at hi; cases hi)
  have := h1 i hi
  generalize c.id + i = j at this
  funext l
  unfold FNw
  split
  · omega
  · unfold FNv
    split <;> first | omega | rfl

end Go.Proofs.Ytkfejcffacbngaa.J



namespace Go.Proofs.Ytkfejcffacbngaa.J

open Go Go.Sym

set_option linter.unusedVariables false

def pcGuess : Pc := ⟨122, [.int .i64, .sl [.i64], .int .i64, .int .i64], [.int .i64], 115, [], []⟩

theorem guess_entry : entryK Try.prog [] 50 200 122 [] 4 (argSVs 0 pcGuess.aks) 30 [] = some [([(.cmp .eql (.var 0) (.lit 0), true)], .ret (.int .i64 0) ⟨0, .nil⟩), ([(.cmp .eql (.var 3) (.lit 0), true), (.cmp .eql (.var 0) (.lit 0), false)], .ret (.int .i64 0) ⟨0, .nil⟩), ([(.cmp .eql (.var 2) (.lit 0), true), (.cmp .eql (.var 3) (.lit 0), false), (.cmp .eql (.var 0) (.lit 0), false)], .bad), ([(.cmp .lss (.bin .sub .i64 (.var 3) (.var 2)) (.lit 0), true), (.cmp .eql (.bin .rem .i64 (.var 3) (.var 2)) (.lit 0), true), (.cmp .eql (.var 2) (.lit 0), false), (.cmp .eql (.var 3) (.lit 0), false), (.cmp .eql (.var 0) (.lit 0), false)], .bad), ([(.cmp .lss (.bin .sub .i64 (.var 3) (.var 2)) (.rlen (.rvar 1) 1), true), (.cmp .lss (.bin .sub .i64 (.var 3) (.var 2)) (.lit 0), false), (.cmp .eql (.bin .rem .i64 (.var 3) (.var 2)) (.lit 0), true), (.cmp .eql (.var 2) (.lit 0), false), (.cmp .eql (.var 3) (.lit 0), false), (.cmp .eql (.var 0) (.lit 0), false)], .ret (.sint .i64 (.sel (.rvar 1) (.bin .sub .i64 (.var 3) (.var 2)) 1 0)) ⟨0, .nil⟩), ([(.cmp .lss (.bin .sub .i64 (.var 3) (.var 2)) (.rlen (.rvar 1) 1), false), (.cmp .lss (.bin .sub .i64 (.var 3) (.var 2)) (.lit 0), false), (.cmp .eql (.bin .rem .i64 (.var 3) (.var 2)) (.lit 0), true), (.cmp .eql (.var 2) (.lit 0), false), (.cmp .eql (.var 3) (.lit 0), false), (.cmp .eql (.var 0) (.lit 0), false)], .bad), ([(.cmp .lss (.bin .sub .i64 (.var 3) (.lit 1)) (.lit 0), true), (.cmp .eql (.var 0) (.lit 1), true), (.cmp .eql (.bin .rem .i64 (.var 3) (.var 2)) (.lit 0), false), (.cmp .eql (.var 2) (.lit 0), false), (.cmp .eql (.var 3) (.lit 0), false), (.cmp .eql (.var 0) (.lit 0), false)], .bad), ([(.cmp .lss (.bin .sub .i64 (.var 3) (.lit 1)) (.rlen (.rvar 1) 1), true), (.cmp .lss (.bin .sub .i64 (.var 3) (.lit 1)) (.lit 0), false), (.cmp .eql (.var 0) (.lit 1), true), (.cmp .eql (.bin .rem .i64 (.var 3) (.var 2)) (.lit 0), false), (.cmp .eql (.var 2) (.lit 0), false), (.cmp .eql (.var 3) (.lit 0), false), (.cmp .eql (.var 0) (.lit 0), false)], .ret (.sint .i64 (.sel (.rvar 1) (.bin .sub .i64 (.var 3) (.lit 1)) 1 0)) ⟨0, .nil⟩), ([(.cmp .lss (.bin .sub .i64 (.var 3) (.lit 1)) (.rlen (.rvar 1) 1), false), (.cmp .lss (.bin .sub .i64 (.var 3) (.lit 1)) (.lit 0), false), (.cmp .eql (.var 0) (.lit 1), true), (.cmp .eql (.bin .rem .i64 (.var 3) (.var 2)) (.lit 0), false), (.cmp .eql (.var 2) (.lit 0), false), (.cmp .eql (.var 3) (.lit 0), false), (.cmp .eql (.var 0) (.lit 0), false)], .bad), ([(.cmp .lss (.bin .sub .i64 (.var 3) (.lit 1)) (.lit 0), true), (.cmp .lss (.var 3) (.var 2), true), (.cmp .eql (.var 0) (.lit 1), false), (.cmp .eql (.bin .rem .i64 (.var 3) (.var 2)) (.lit 0), false), (.cmp .eql (.var 2) (.lit 0), false), (.cmp .eql (.var 3) (.lit 0), false), (.cmp .eql (.var 0) (.lit 0), false)], .bad), ([(.cmp .lss (.bin .sub .i64 (.var 3) (.lit 1)) (.rlen (.rvar 1) 1), true), (.cmp .lss (.bin .sub .i64 (.var 3) (.lit 1)) (.lit 0), false), (.cmp .lss (.var 3) (.var 2), true), (.cmp .eql (.var 0) (.lit 1), false), (.cmp .eql (.bin .rem .i64 (.var 3) (.var 2)) (.lit 0), false), (.cmp .eql (.var 2) (.lit 0), false), (.cmp .eql (.var 3) (.lit 0), false), (.cmp .eql (.var 0) (.lit 0), false)], .ret (.sint .i64 (.sel (.rvar 1) (.bin .sub .i64 (.var 3) (.lit 1)) 1 0)) ⟨0, .nil⟩), ([(.cmp .lss (.bin .sub .i64 (.var 3) (.lit 1)) (.rlen (.rvar 1) 1), false), (.cmp .lss (.bin .sub .i64 (.var 3) (.lit 1)) (.lit 0), false), (.cmp .lss (.var 3) (.var 2), true), (.cmp .eql (.var 0) (.lit 1), false), (.cmp .eql (.bin .rem .i64 (.var 3) (.var 2)) (.lit 0), false), (.cmp .eql (.var 2) (.lit 0), false), (.cmp .eql (.var 3) (.lit 0), false), (.cmp .eql (.var 0) (.lit 0), false)], .bad), ([(.cmp .lss (.bin .sub .i64 (.var 3) (.lit 1)) (.lit 0), true), (.cmp .lss (.var 3) (.var 2), false), (.cmp .eql (.var 0) (.lit 1), false), (.cmp .eql (.bin .rem .i64 (.var 3) (.var 2)) (.lit 0), false), (.cmp .eql (.var 2) (.lit 0), false), (.cmp .eql (.var 3) (.lit 0), false), (.cmp .eql (.var 0) (.lit 0), false)], .bad), ([(.cmp .lss (.bin .sub .i64 (.var 3) (.var 2)) (.lit 0), true), (.cmp .lss (.bin .sub .i64 (.var 3) (.lit 1)) (.rlen (.rvar 1) 1), true), (.cmp .lss (.bin .sub .i64 (.var 3) (.lit 1)) (.lit 0), false), (.cmp .lss (.var 3) (.var 2), false), (.cmp .eql (.var 0) (.lit 1), false), (.cmp .eql (.bin .rem .i64 (.var 3) (.var 2)) (.lit 0), false), (.cmp .eql (.var 2) (.lit 0), false), (.cmp .eql (.var 3) (.lit 0), false), (.cmp .eql (.var 0) (.lit 0), false)], .bad), ([(.cmp .lss (.bin .sub .i64 (.bin .sub .i64 (.var 3) (.var 2)) (.lit 1)) (.lit 0), true), (.cmp .lss (.bin .sub .i64 (.var 3) (.var 2)) (.rlen (.rvar 1) 1), true), (.cmp .lss (.bin .sub .i64 (.var 3) (.var 2)) (.lit 0), false), (.cmp .lss (.bin .sub .i64 (.var 3) (.lit 1)) (.rlen (.rvar 1) 1), true), (.cmp .lss (.bin .sub .i64 (.var 3) (.lit 1)) (.lit 0), false), (.cmp .lss (.var 3) (.var 2), false), (.cmp .eql (.var 0) (.lit 1), false), (.cmp .eql (.bin .rem .i64 (.var 3) (.var 2)) (.lit 0), false), (.cmp .eql (.var 2) (.lit 0), false), (.cmp .eql (.var 3) (.lit 0), false), (.cmp .eql (.var 0) (.lit 0), false)], .bad), ([(.cmp .lss (.bin .sub .i64 (.bin .sub .i64 (.var 3) (.var 2)) (.lit 1)) (.rlen (.rvar 1) 1), true), (.cmp .lss (.bin .sub .i64 (.bin .sub .i64 (.var 3) (.var 2)) (.lit 1)) (.lit 0), false), (.cmp .lss (.bin .sub .i64 (.var 3) (.var 2)) (.rlen (.rvar 1) 1), true), (.cmp .lss (.bin .sub .i64 (.var 3) (.var 2)) (.lit 0), false), (.cmp .lss (.bin .sub .i64 (.var 3) (.lit 1)) (.rlen (.rvar 1) 1), true), (.cmp .lss (.bin .sub .i64 (.var 3) (.lit 1)) (.lit 0), false), (.cmp .lss (.var 3) (.var 2), false), (.cmp .eql (.var 0) (.lit 1), false), (.cmp .eql (.bin .rem .i64 (.var 3) (.var 2)) (.lit 0), false), (.cmp .eql (.var 2) (.lit 0), false), (.cmp .eql (.var 3) (.lit 0), false), (.cmp .eql (.var 0) (.lit 0), false)], .ret (.sint .i64 (.bin .lss .i64 (.bin .gtr .i64 (.bin .sub .i64 (.bin .add .i64 (.sel (.rvar 1) (.bin .sub .i64 (.var 3) (.lit 1)) 1 0) (.sel (.rvar 1) (.bin .sub .i64 (.var 3) (.var 2)) 1 0)) (.sel (.rvar 1) (.bin .sub .i64 (.bin .sub .i64 (.var 3) (.var 2)) (.lit 1)) 1 0)) (.bin .lss .i64 (.sel (.rvar 1) (.bin .sub .i64 (.var 3) (.lit 1)) 1 0) (.sel (.rvar 1) (.bin .sub .i64 (.var 3) (.var 2)) 1 0))) (.bin .gtr .i64 (.sel (.rvar 1) (.bin .sub .i64 (.var 3) (.lit 1)) 1 0) (.sel (.rvar 1) (.bin .sub .i64 (.var 3) (.var 2)) 1 0)))) ⟨0, .nil⟩), ([(.cmp .lss (.bin .sub .i64 (.bin .sub .i64 (.var 3) (.var 2)) (.lit 1)) (.rlen (.rvar 1) 1), false), (.cmp .lss (.bin .sub .i64 (.bin .sub .i64 (.var 3) (.var 2)) (.lit 1)) (.lit 0), false), (.cmp .lss (.bin .sub .i64 (.var 3) (.var 2)) (.rlen (.rvar 1) 1), true), (.cmp .lss (.bin .sub .i64 (.var 3) (.var 2)) (.lit 0), false), (.cmp .lss (.bin .sub .i64 (.var 3) (.lit 1)) (.rlen (.rvar 1) 1), true), (.cmp .lss (.bin .sub .i64 (.var 3) (.lit 1)) (.lit 0), false), (.cmp .lss (.var 3) (.var 2), false), (.cmp .eql (.var 0) (.lit 1), false), (.cmp .eql (.bin .rem .i64 (.var 3) (.var 2)) (.lit 0), false), (.cmp .eql (.var 2) (.lit 0), false), (.cmp .eql (.var 3) (.lit 0), false), (.cmp .eql (.var 0) (.lit 0), false)], .bad), ([(.cmp .lss (.bin .sub .i64 (.var 3) (.var 2)) (.rlen (.rvar 1) 1), false), (.cmp .lss (.bin .sub .i64 (.var 3) (.var 2)) (.lit 0), false), (.cmp .lss (.bin .sub .i64 (.var 3) (.lit 1)) (.rlen (.rvar 1) 1), true), (.cmp .lss (.bin .sub .i64 (.var 3) (.lit 1)) (.lit 0), false), (.cmp .lss (.var 3) (.var 2), false), (.cmp .eql (.var 0) (.lit 1), false), (.cmp .eql (.bin .rem .i64 (.var 3) (.var 2)) (.lit 0), false), (.cmp .eql (.var 2) (.lit 0), false), (.cmp .eql (.var 3) (.lit 0), false), (.cmp .eql (.var 0) (.lit 0), false)], .bad), ([(.cmp .lss (.bin .sub .i64 (.var 3) (.lit 1)) (.rlen (.rvar 1) 1), false), (.cmp .lss (.bin .sub .i64 (.var 3) (.lit 1)) (.lit 0), false), (.cmp .lss (.var 3) (.var 2), false), (.cmp .eql (.var 0) (.lit 1), false), (.cmp .eql (.bin .rem .i64 (.var 3) (.var 2)) (.lit 0), false), (.cmp .eql (.var 2) (.lit 0), false), (.cmp .eql (.var 3) (.lit 0), false), (.cmp .eql (.var 0) (.lit 0), false)], .bad)] := by kernel_rfl

def pcGuessR : Pc := ⟨124, [.int .i64, .sl [.i64], .int .i64, .int .i64], [.int .i64], 116, [], []⟩

theorem guessR_entry : entryK Try.prog [] 50 200 124 [] 4 (argSVs 0 pcGuessR.aks) 30 [] = some [([(.cmp .eql (.var 2) (.lit 0), true)], .bad), ([(.cmp .eql (.var 0) (.lit 0), true), (.cmp .eql (.var 2) (.lit 0), false)], .ret (.int .i64 0) ⟨0, .nil⟩), ([(.cmp .eql (.bin .quo .i64 (.var 3) (.var 2)) (.lit 0), true), (.cmp .eql (.bin .rem .i64 (.var 3) (.var 2)) (.lit 0), true), (.cmp .eql (.var 0) (.lit 0), false), (.cmp .eql (.var 2) (.lit 0), false)], .ret (.int .i64 0) ⟨0, .nil⟩), ([(.cmp .lss (.bin .add .i64 (.bin .mul .i64 (.bin .sub .i64 (.bin .quo .i64 (.var 3) (.var 2)) (.lit 1)) (.var 2)) (.lit 0)) (.lit 0), true), (.cmp .eql (.bin .quo .i64 (.var 3) (.var 2)) (.lit 0), false), (.cmp .eql (.bin .rem .i64 (.var 3) (.var 2)) (.lit 0), true), (.cmp .eql (.var 0) (.lit 0), false), (.cmp .eql (.var 2) (.lit 0), false)], .bad), ([(.cmp .lss (.bin .add .i64 (.bin .mul .i64 (.bin .sub .i64 (.bin .quo .i64 (.var 3) (.var 2)) (.lit 1)) (.var 2)) (.lit 0)) (.rlen (.rvar 1) 1), true), (.cmp .lss (.bin .add .i64 (.bin .mul .i64 (.bin .sub .i64 (.bin .quo .i64 (.var 3) (.var 2)) (.lit 1)) (.var 2)) (.lit 0)) (.lit 0), false), (.cmp .eql (.bin .quo .i64 (.var 3) (.var 2)) (.lit 0), false), (.cmp .eql (.bin .rem .i64 (.var 3) (.var 2)) (.lit 0), true), (.cmp .eql (.var 0) (.lit 0), false), (.cmp .eql (.var 2) (.lit 0), false)], .ret (.sint .i64 (.sel (.rvar 1) (.bin .add .i64 (.bin .mul .i64 (.bin .sub .i64 (.bin .quo .i64 (.var 3) (.var 2)) (.lit 1)) (.var 2)) (.lit 0)) 1 0)) ⟨0, .nil⟩), ([(.cmp .lss (.bin .add .i64 (.bin .mul .i64 (.bin .sub .i64 (.bin .quo .i64 (.var 3) (.var 2)) (.lit 1)) (.var 2)) (.lit 0)) (.rlen (.rvar 1) 1), false), (.cmp .lss (.bin .add .i64 (.bin .mul .i64 (.bin .sub .i64 (.bin .quo .i64 (.var 3) (.var 2)) (.lit 1)) (.var 2)) (.lit 0)) (.lit 0), false), (.cmp .eql (.bin .quo .i64 (.var 3) (.var 2)) (.lit 0), false), (.cmp .eql (.bin .rem .i64 (.var 3) (.var 2)) (.lit 0), true), (.cmp .eql (.var 0) (.lit 0), false), (.cmp .eql (.var 2) (.lit 0), false)], .bad), ([(.cmp .lss (.bin .add .i64 (.bin .mul .i64 (.bin .quo .i64 (.var 3) (.var 2)) (.var 2)) (.bin .sub .i64 (.bin .rem .i64 (.var 3) (.var 2)) (.lit 1))) (.lit 0), true), (.cmp .eql (.bin .rem .i64 (.var 3) (.var 2)) (.lit 0), false), (.cmp .eql (.var 0) (.lit 0), false), (.cmp .eql (.var 2) (.lit 0), false)], .bad), ([(.cmp .eql (.var 0) (.lit 1), true), (.cmp .lss (.bin .add .i64 (.bin .mul .i64 (.bin .quo .i64 (.var 3) (.var 2)) (.var 2)) (.bin .sub .i64 (.bin .rem .i64 (.var 3) (.var 2)) (.lit 1))) (.rlen (.rvar 1) 1), true), (.cmp .lss (.bin .add .i64 (.bin .mul .i64 (.bin .quo .i64 (.var 3) (.var 2)) (.var 2)) (.bin .sub .i64 (.bin .rem .i64 (.var 3) (.var 2)) (.lit 1))) (.lit 0), false), (.cmp .eql (.bin .rem .i64 (.var 3) (.var 2)) (.lit 0), false), (.cmp .eql (.var 0) (.lit 0), false), (.cmp .eql (.var 2) (.lit 0), false)], .ret (.sint .i64 (.sel (.rvar 1) (.bin .add .i64 (.bin .mul .i64 (.bin .quo .i64 (.var 3) (.var 2)) (.var 2)) (.bin .sub .i64 (.bin .rem .i64 (.var 3) (.var 2)) (.lit 1))) 1 0)) ⟨0, .nil⟩), ([(.cmp .eql (.bin .quo .i64 (.var 3) (.var 2)) (.lit 0), true), (.cmp .eql (.var 0) (.lit 1), false), (.cmp .lss (.bin .add .i64 (.bin .mul .i64 (.bin .quo .i64 (.var 3) (.var 2)) (.var 2)) (.bin .sub .i64 (.bin .rem .i64 (.var 3) (.var 2)) (.lit 1))) (.rlen (.rvar 1) 1), true), (.cmp .lss (.bin .add .i64 (.bin .mul .i64 (.bin .quo .i64 (.var 3) (.var 2)) (.var 2)) (.bin .sub .i64 (.bin .rem .i64 (.var 3) (.var 2)) (.lit 1))) (.lit 0), false), (.cmp .eql (.bin .rem .i64 (.var 3) (.var 2)) (.lit 0), false), (.cmp .eql (.var 0) (.lit 0), false), (.cmp .eql (.var 2) (.lit 0), false)], .ret (.sint .i64 (.sel (.rvar 1) (.bin .add .i64 (.bin .mul .i64 (.bin .quo .i64 (.var 3) (.var 2)) (.var 2)) (.bin .sub .i64 (.bin .rem .i64 (.var 3) (.var 2)) (.lit 1))) 1 0)) ⟨0, .nil⟩), ([(.cmp .lss (.bin .add .i64 (.bin .mul .i64 (.bin .sub .i64 (.bin .quo .i64 (.var 3) (.var 2)) (.lit 1)) (.var 2)) (.bin .rem .i64 (.var 3) (.var 2))) (.lit 0), true), (.cmp .eql (.bin .quo .i64 (.var 3) (.var 2)) (.lit 0), false), (.cmp .eql (.var 0) (.lit 1), false), (.cmp .lss (.bin .add .i64 (.bin .mul .i64 (.bin .quo .i64 (.var 3) (.var 2)) (.var 2)) (.bin .sub .i64 (.bin .rem .i64 (.var 3) (.var 2)) (.lit 1))) (.rlen (.rvar 1) 1), true), (.cmp .lss (.bin .add .i64 (.bin .mul .i64 (.bin .quo .i64 (.var 3) (.var 2)) (.var 2)) (.bin .sub .i64 (.bin .rem .i64 (.var 3) (.var 2)) (.lit 1))) (.lit 0), false), (.cmp .eql (.bin .rem .i64 (.var 3) (.var 2)) (.lit 0), false), (.cmp .eql (.var 0) (.lit 0), false), (.cmp .eql (.var 2) (.lit 0), false)], .bad), ([(.cmp .lss (.bin .add .i64 (.bin .mul .i64 (.bin .sub .i64 (.bin .quo .i64 (.var 3) (.var 2)) (.lit 1)) (.var 2)) (.bin .sub .i64 (.bin .rem .i64 (.var 3) (.var 2)) (.lit 1))) (.lit 0), true), (.cmp .lss (.bin .add .i64 (.bin .mul .i64 (.bin .sub .i64 (.bin .quo .i64 (.var 3) (.var 2)) (.lit 1)) (.var 2)) (.bin .rem .i64 (.var 3) (.var 2))) (.rlen (.rvar 1) 1), true), (.cmp .lss (.bin .add .i64 (.bin .mul .i64 (.bin .sub .i64 (.bin .quo .i64 (.var 3) (.var 2)) (.lit 1)) (.var 2)) (.bin .rem .i64 (.var 3) (.var 2))) (.lit 0), false), (.cmp .eql (.bin .quo .i64 (.var 3) (.var 2)) (.lit 0), false), (.cmp .eql (.var 0) (.lit 1), false), (.cmp .lss (.bin .add .i64 (.bin .mul .i64 (.bin .quo .i64 (.var 3) (.var 2)) (.var 2)) (.bin .sub .i64 (.bin .rem .i64 (.var 3) (.var 2)) (.lit 1))) (.rlen (.rvar 1) 1), true), (.cmp .lss (.bin .add .i64 (.bin .mul .i64 (.bin .quo .i64 (.var 3) (.var 2)) (.var 2)) (.bin .sub .i64 (.bin .rem .i64 (.var 3) (.var 2)) (.lit 1))) (.lit 0), false), (.cmp .eql (.bin .rem .i64 (.var 3) (.var 2)) (.lit 0), false), (.cmp .eql (.var 0) (.lit 0), false), (.cmp .eql (.var 2) (.lit 0), false)], .bad), ([(.cmp .lss (.sel (.rvar 1) (.bin .add .i64 (.bin .mul .i64 (.bin .quo .i64 (.var 3) (.var 2)) (.var 2)) (.bin .sub .i64 (.bin .rem .i64 (.var 3) (.var 2)) (.lit 1))) 1 0) (.sel (.rvar 1) (.bin .add .i64 (.bin .mul .i64 (.bin .sub .i64 (.bin .quo .i64 (.var 3) (.var 2)) (.lit 1)) (.var 2)) (.bin .rem .i64 (.var 3) (.var 2))) 1 0), true), (.cmp .lss (.bin .sub .i64 (.bin .add .i64 (.sel (.rvar 1) (.bin .add .i64 (.bin .mul .i64 (.bin .quo .i64 (.var 3) (.var 2)) (.var 2)) (.bin .sub .i64 (.bin .rem .i64 (.var 3) (.var 2)) (.lit 1))) 1 0) (.sel (.rvar 1) (.bin .add .i64 (.bin .mul .i64 (.bin .sub .i64 (.bin .quo .i64 (.var 3) (.var 2)) (.lit 1)) (.var 2)) (.bin .rem .i64 (.var 3) (.var 2))) 1 0)) (.sel (.rvar 1) (.bin .add .i64 (.bin .mul .i64 (.bin .sub .i64 (.bin .quo .i64 (.var 3) (.var 2)) (.lit 1)) (.var 2)) (.bin .sub .i64 (.bin .rem .i64 (.var 3) (.var 2)) (.lit 1))) 1 0)) (.sel (.rvar 1) (.bin .add .i64 (.bin .mul .i64 (.bin .sub .i64 (.bin .quo .i64 (.var 3) (.var 2)) (.lit 1)) (.var 2)) (.bin .rem .i64 (.var 3) (.var 2))) 1 0), true), (.cmp .lss (.bin .sub .i64 (.bin .add .i64 (.sel (.rvar 1) (.bin .add .i64 (.bin .mul .i64 (.bin .quo .i64 (.var 3) (.var 2)) (.var 2)) (.bin .sub .i64 (.bin .rem .i64 (.var 3) (.var 2)) (.lit 1))) 1 0) (.sel (.rvar 1) (.bin .add .i64 (.bin .mul .i64 (.bin .sub .i64 (.bin .quo .i64 (.var 3) (.var 2)) (.lit 1)) (.var 2)) (.bin .rem .i64 (.var 3) (.var 2))) 1 0)) (.sel (.rvar 1) (.bin .add .i64 (.bin .mul .i64 (.bin .sub .i64 (.bin .quo .i64 (.var 3) (.var 2)) (.lit 1)) (.var 2)) (.bin .sub .i64 (.bin .rem .i64 (.var 3) (.var 2)) (.lit 1))) 1 0)) (.sel (.rvar 1) (.bin .add .i64 (.bin .mul .i64 (.bin .quo .i64 (.var 3) (.var 2)) (.var 2)) (.bin .sub .i64 (.bin .rem .i64 (.var 3) (.var 2)) (.lit 1))) 1 0), true), (.cmp .lss (.bin .add .i64 (.bin .mul .i64 (.bin .sub .i64 (.bin .quo .i64 (.var 3) (.var 2)) (.lit 1)) (.var 2)) (.bin .sub .i64 (.bin .rem .i64 (.var 3) (.var 2)) (.lit 1))) (.rlen (.rvar 1) 1), true), (.cmp .lss (.bin .add .i64 (.bin .mul .i64 (.bin .sub .i64 (.bin .quo .i64 (.var 3) (.var 2)) (.lit 1)) (.var 2)) (.bin .sub .i64 (.bin .rem .i64 (.var 3) (.var 2)) (.lit 1))) (.lit 0), false), (.cmp .lss (.bin .add .i64 (.bin .mul .i64 (.bin .sub .i64 (.bin .quo .i64 (.var 3) (.var 2)) (.lit 1)) (.var 2)) (.bin .rem .i64 (.var 3) (.var 2))) (.rlen (.rvar 1) 1), true), (.cmp .lss (.bin .add .i64 (.bin .mul .i64 (.bin .sub .i64 (.bin .quo .i64 (.var 3) (.var 2)) (.lit 1)) (.var 2)) (.bin .rem .i64 (.var 3) (.var 2))) (.lit 0), false), (.cmp .eql (.bin .quo .i64 (.var 3) (.var 2)) (.lit 0), false), (.cmp .eql (.var 0) (.lit 1), false), (.cmp .lss (.bin .add .i64 (.bin .mul .i64 (.bin .quo .i64 (.var 3) (.var 2)) (.var 2)) (.bin .sub .i64 (.bin .rem .i64 (.var 3) (.var 2)) (.lit 1))) (.rlen (.rvar 1) 1), true), (.cmp .lss (.bin .add .i64 (.bin .mul .i64 (.bin .quo .i64 (.var 3) (.var 2)) (.var 2)) (.bin .sub .i64 (.bin .rem .i64 (.var 3) (.var 2)) (.lit 1))) (.lit 0), false), (.cmp .eql (.bin .rem .i64 (.var 3) (.var 2)) (.lit 0), false), (.cmp .eql (.var 0) (.lit 0), false), (.cmp .eql (.var 2) (.lit 0), false)], .ret (.sint .i64 (.sel (.rvar 1) (.bin .add .i64 (.bin .mul .i64 (.bin .quo .i64 (.var 3) (.var 2)) (.var 2)) (.bin .sub .i64 (.bin .rem .i64 (.var 3) (.var 2)) (.lit 1))) 1 0)) ⟨0, .nil⟩), ([(.cmp .lss (.sel (.rvar 1) (.bin .add .i64 (.bin .mul .i64 (.bin .quo .i64 (.var 3) (.var 2)) (.var 2)) (.bin .sub .i64 (.bin .rem .i64 (.var 3) (.var 2)) (.lit 1))) 1 0) (.sel (.rvar 1) (.bin .add .i64 (.bin .mul .i64 (.bin .sub .i64 (.bin .quo .i64 (.var 3) (.var 2)) (.lit 1)) (.var 2)) (.bin .rem .i64 (.var 3) (.var 2))) 1 0), false), (.cmp .lss (.bin .sub .i64 (.bin .add .i64 (.sel (.rvar 1) (.bin .add .i64 (.bin .mul .i64 (.bin .quo .i64 (.var 3) (.var 2)) (.var 2)) (.bin .sub .i64 (.bin .rem .i64 (.var 3) (.var 2)) (.lit 1))) 1 0) (.sel (.rvar 1) (.bin .add .i64 (.bin .mul .i64 (.bin .sub .i64 (.bin .quo .i64 (.var 3) (.var 2)) (.lit 1)) (.var 2)) (.bin .rem .i64 (.var 3) (.var 2))) 1 0)) (.sel (.rvar 1) (.bin .add .i64 (.bin .mul .i64 (.bin .sub .i64 (.bin .quo .i64 (.var 3) (.var 2)) (.lit 1)) (.var 2)) (.bin .sub .i64 (.bin .rem .i64 (.var 3) (.var 2)) (.lit 1))) 1 0)) (.sel (.rvar 1) (.bin .add .i64 (.bin .mul .i64 (.bin .sub .i64 (.bin .quo .i64 (.var 3) (.var 2)) (.lit 1)) (.var 2)) (.bin .rem .i64 (.var 3) (.var 2))) 1 0), true), (.cmp .lss (.bin .sub .i64 (.bin .add .i64 (.sel (.rvar 1) (.bin .add .i64 (.bin .mul .i64 (.bin .quo .i64 (.var 3) (.var 2)) (.var 2)) (.bin .sub .i64 (.bin .rem .i64 (.var 3) (.var 2)) (.lit 1))) 1 0) (.sel (.rvar 1) (.bin .add .i64 (.bin .mul .i64 (.bin .sub .i64 (.bin .quo .i64 (.var 3) (.var 2)) (.lit 1)) (.var 2)) (.bin .rem .i64 (.var 3) (.var 2))) 1 0)) (.sel (.rvar 1) (.bin .add .i64 (.bin .mul .i64 (.bin .sub .i64 (.bin .quo .i64 (.var 3) (.var 2)) (.lit 1)) (.var 2)) (.bin .sub .i64 (.bin .rem .i64 (.var 3) (.var 2)) (.lit 1))) 1 0)) (.sel (.rvar 1) (.bin .add .i64 (.bin .mul .i64 (.bin .quo .i64 (.var 3) (.var 2)) (.var 2)) (.bin .sub .i64 (.bin .rem .i64 (.var 3) (.var 2)) (.lit 1))) 1 0), true), (.cmp .lss (.bin .add .i64 (.bin .mul .i64 (.bin .sub .i64 (.bin .quo .i64 (.var 3) (.var 2)) (.lit 1)) (.var 2)) (.bin .sub .i64 (.bin .rem .i64 (.var 3) (.var 2)) (.lit 1))) (.rlen (.rvar 1) 1), true), (.cmp .lss (.bin .add .i64 (.bin .mul .i64 (.bin .sub .i64 (.bin .quo .i64 (.var 3) (.var 2)) (.lit 1)) (.var 2)) (.bin .sub .i64 (.bin .rem .i64 (.var 3) (.var 2)) (.lit 1))) (.lit 0), false), (.cmp .lss (.bin .add .i64 (.bin .mul .i64 (.bin .sub .i64 (.bin .quo .i64 (.var 3) (.var 2)) (.lit 1)) (.var 2)) (.bin .rem .i64 (.var 3) (.var 2))) (.rlen (.rvar 1) 1), true), (.cmp .lss (.bin .add .i64 (.bin .mul .i64 (.bin .sub .i64 (.bin .quo .i64 (.var 3) (.var 2)) (.lit 1)) (.var 2)) (.bin .rem .i64 (.var 3) (.var 2))) (.lit 0), false), (.cmp .eql (.bin .quo .i64 (.var 3) (.var 2)) (.lit 0), false), (.cmp .eql (.var 0) (.lit 1), false), (.cmp .lss (.bin .add .i64 (.bin .mul .i64 (.bin .quo .i64 (.var 3) (.var 2)) (.var 2)) (.bin .sub .i64 (.bin .rem .i64 (.var 3) (.var 2)) (.lit 1))) (.rlen (.rvar 1) 1), true), (.cmp .lss (.bin .add .i64 (.bin .mul .i64 (.bin .quo .i64 (.var 3) (.var 2)) (.var 2)) (.bin .sub .i64 (.bin .rem .i64 (.var 3) (.var 2)) (.lit 1))) (.lit 0), false), (.cmp .eql (.bin .rem .i64 (.var 3) (.var 2)) (.lit 0), false), (.cmp .eql (.var 0) (.lit 0), false), (.cmp .eql (.var 2) (.lit 0), false)], .ret (.sint .i64 (.sel (.rvar 1) (.bin .add .i64 (.bin .mul .i64 (.bin .sub .i64 (.bin .quo .i64 (.var 3) (.var 2)) (.lit 1)) (.var 2)) (.bin .rem .i64 (.var 3) (.var 2))) 1 0)) ⟨0, .nil⟩), ([(.cmp .lss (.bin .sub .i64 (.bin .add .i64 (.sel (.rvar 1) (.bin .add .i64 (.bin .mul .i64 (.bin .quo .i64 (.var 3) (.var 2)) (.var 2)) (.bin .sub .i64 (.bin .rem .i64 (.var 3) (.var 2)) (.lit 1))) 1 0) (.sel (.rvar 1) (.bin .add .i64 (.bin .mul .i64 (.bin .sub .i64 (.bin .quo .i64 (.var 3) (.var 2)) (.lit 1)) (.var 2)) (.bin .rem .i64 (.var 3) (.var 2))) 1 0)) (.sel (.rvar 1) (.bin .add .i64 (.bin .mul .i64 (.bin .sub .i64 (.bin .quo .i64 (.var 3) (.var 2)) (.lit 1)) (.var 2)) (.bin .sub .i64 (.bin .rem .i64 (.var 3) (.var 2)) (.lit 1))) 1 0)) (.sel (.rvar 1) (.bin .add .i64 (.bin .mul .i64 (.bin .sub .i64 (.bin .quo .i64 (.var 3) (.var 2)) (.lit 1)) (.var 2)) (.bin .rem .i64 (.var 3) (.var 2))) 1 0), false), (.cmp .lss (.bin .sub .i64 (.bin .add .i64 (.sel (.rvar 1) (.bin .add .i64 (.bin .mul .i64 (.bin .quo .i64 (.var 3) (.var 2)) (.var 2)) (.bin .sub .i64 (.bin .rem .i64 (.var 3) (.var 2)) (.lit 1))) 1 0) (.sel (.rvar 1) (.bin .add .i64 (.bin .mul .i64 (.bin .sub .i64 (.bin .quo .i64 (.var 3) (.var 2)) (.lit 1)) (.var 2)) (.bin .rem .i64 (.var 3) (.var 2))) 1 0)) (.sel (.rvar 1) (.bin .add .i64 (.bin .mul .i64 (.bin .sub .i64 (.bin .quo .i64 (.var 3) (.var 2)) (.lit 1)) (.var 2)) (.bin .sub .i64 (.bin .rem .i64 (.var 3) (.var 2)) (.lit 1))) 1 0)) (.sel (.rvar 1) (.bin .add .i64 (.bin .mul .i64 (.bin .quo .i64 (.var 3) (.var 2)) (.var 2)) (.bin .sub .i64 (.bin .rem .i64 (.var 3) (.var 2)) (.lit 1))) 1 0), true), (.cmp .lss (.bin .add .i64 (.bin .mul .i64 (.bin .sub .i64 (.bin .quo .i64 (.var 3) (.var 2)) (.lit 1)) (.var 2)) (.bin .sub .i64 (.bin .rem .i64 (.var 3) (.var 2)) (.lit 1))) (.rlen (.rvar 1) 1), true), (.cmp .lss (.bin .add .i64 (.bin .mul .i64 (.bin .sub .i64 (.bin .quo .i64 (.var 3) (.var 2)) (.lit 1)) (.var 2)) (.bin .sub .i64 (.bin .rem .i64 (.var 3) (.var 2)) (.lit 1))) (.lit 0), false), (.cmp .lss (.bin .add .i64 (.bin .mul .i64 (.bin .sub .i64 (.bin .quo .i64 (.var 3) (.var 2)) (.lit 1)) (.var 2)) (.bin .rem .i64 (.var 3) (.var 2))) (.rlen (.rvar 1) 1), true), (.cmp .lss (.bin .add .i64 (.bin .mul .i64 (.bin .sub .i64 (.bin .quo .i64 (.var 3) (.var 2)) (.lit 1)) (.var 2)) (.bin .rem .i64 (.var 3) (.var 2))) (.lit 0), false), (.cmp .eql (.bin .quo .i64 (.var 3) (.var 2)) (.lit 0), false), (.cmp .eql (.var 0) (.lit 1), false), (.cmp .lss (.bin .add .i64 (.bin .mul .i64 (.bin .quo .i64 (.var 3) (.var 2)) (.var 2)) (.bin .sub .i64 (.bin .rem .i64 (.var 3) (.var 2)) (.lit 1))) (.rlen (.rvar 1) 1), true), (.cmp .lss (.bin .add .i64 (.bin .mul .i64 (.bin .quo .i64 (.var 3) (.var 2)) (.var 2)) (.bin .sub .i64 (.bin .rem .i64 (.var 3) (.var 2)) (.lit 1))) (.lit 0), false), (.cmp .eql (.bin .rem .i64 (.var 3) (.var 2)) (.lit 0), false), (.cmp .eql (.var 0) (.lit 0), false), (.cmp .eql (.var 2) (.lit 0), false)], .ret (.sint .i64 (.bin .sub .i64 (.bin .add .i64 (.sel (.rvar 1) (.bin .add .i64 (.bin .mul .i64 (.bin .quo .i64 (.var 3) (.var 2)) (.var 2)) (.bin .sub .i64 (.bin .rem .i64 (.var 3) (.var 2)) (.lit 1))) 1 0) (.sel (.rvar 1) (.bin .add .i64 (.bin .mul .i64 (.bin .sub .i64 (.bin .quo .i64 (.var 3) (.var 2)) (.lit 1)) (.var 2)) (.bin .rem .i64 (.var 3) (.var 2))) 1 0)) (.sel (.rvar 1) (.bin .add .i64 (.bin .mul .i64 (.bin .sub .i64 (.bin .quo .i64 (.var 3) (.var 2)) (.lit 1)) (.var 2)) (.bin .sub .i64 (.bin .rem .i64 (.var 3) (.var 2)) (.lit 1))) 1 0))) ⟨0, .nil⟩), ([(.cmp .lss (.sel (.rvar 1) (.bin .add .i64 (.bin .mul .i64 (.bin .sub .i64 (.bin .quo .i64 (.var 3) (.var 2)) (.lit 1)) (.var 2)) (.bin .rem .i64 (.var 3) (.var 2))) 1 0) (.sel (.rvar 1) (.bin .add .i64 (.bin .mul .i64 (.bin .quo .i64 (.var 3) (.var 2)) (.var 2)) (.bin .sub .i64 (.bin .rem .i64 (.var 3) (.var 2)) (.lit 1))) 1 0), true), (.cmp .lss (.sel (.rvar 1) (.bin .add .i64 (.bin .mul .i64 (.bin .sub .i64 (.bin .quo .i64 (.var 3) (.var 2)) (.lit 1)) (.var 2)) (.bin .rem .i64 (.var 3) (.var 2))) 1 0) (.bin .sub .i64 (.bin .add .i64 (.sel (.rvar 1) (.bin .add .i64 (.bin .mul .i64 (.bin .quo .i64 (.var 3) (.var 2)) (.var 2)) (.bin .sub .i64 (.bin .rem .i64 (.var 3) (.var 2)) (.lit 1))) 1 0) (.sel (.rvar 1) (.bin .add .i64 (.bin .mul .i64 (.bin .sub .i64 (.bin .quo .i64 (.var 3) (.var 2)) (.lit 1)) (.var 2)) (.bin .rem .i64 (.var 3) (.var 2))) 1 0)) (.sel (.rvar 1) (.bin .add .i64 (.bin .mul .i64 (.bin .sub .i64 (.bin .quo .i64 (.var 3) (.var 2)) (.lit 1)) (.var 2)) (.bin .sub .i64 (.bin .rem .i64 (.var 3) (.var 2)) (.lit 1))) 1 0)), true), (.cmp .lss (.sel (.rvar 1) (.bin .add .i64 (.bin .mul .i64 (.bin .quo .i64 (.var 3) (.var 2)) (.var 2)) (.bin .sub .i64 (.bin .rem .i64 (.var 3) (.var 2)) (.lit 1))) 1 0) (.bin .sub .i64 (.bin .add .i64 (.sel (.rvar 1) (.bin .add .i64 (.bin .mul .i64 (.bin .quo .i64 (.var 3) (.var 2)) (.var 2)) (.bin .sub .i64 (.bin .rem .i64 (.var 3) (.var 2)) (.lit 1))) 1 0) (.sel (.rvar 1) (.bin .add .i64 (.bin .mul .i64 (.bin .sub .i64 (.bin .quo .i64 (.var 3) (.var 2)) (.lit 1)) (.var 2)) (.bin .rem .i64 (.var 3) (.var 2))) 1 0)) (.sel (.rvar 1) (.bin .add .i64 (.bin .mul .i64 (.bin .sub .i64 (.bin .quo .i64 (.var 3) (.var 2)) (.lit 1)) (.var 2)) (.bin .sub .i64 (.bin .rem .i64 (.var 3) (.var 2)) (.lit 1))) 1 0)), true), (.cmp .lss (.bin .sub .i64 (.bin .add .i64 (.sel (.rvar 1) (.bin .add .i64 (.bin .mul .i64 (.bin .quo .i64 (.var 3) (.var 2)) (.var 2)) (.bin .sub .i64 (.bin .rem .i64 (.var 3) (.var 2)) (.lit 1))) 1 0) (.sel (.rvar 1) (.bin .add .i64 (.bin .mul .i64 (.bin .sub .i64 (.bin .quo .i64 (.var 3) (.var 2)) (.lit 1)) (.var 2)) (.bin .rem .i64 (.var 3) (.var 2))) 1 0)) (.sel (.rvar 1) (.bin .add .i64 (.bin .mul .i64 (.bin .sub .i64 (.bin .quo .i64 (.var 3) (.var 2)) (.lit 1)) (.var 2)) (.bin .sub .i64 (.bin .rem .i64 (.var 3) (.var 2)) (.lit 1))) 1 0)) (.sel (.rvar 1) (.bin .add .i64 (.bin .mul .i64 (.bin .quo .i64 (.var 3) (.var 2)) (.var 2)) (.bin .sub .i64 (.bin .rem .i64 (.var 3) (.var 2)) (.lit 1))) 1 0), false), (.cmp .lss (.bin .add .i64 (.bin .mul .i64 (.bin .sub .i64 (.bin .quo .i64 (.var 3) (.var 2)) (.lit 1)) (.var 2)) (.bin .sub .i64 (.bin .rem .i64 (.var 3) (.var 2)) (.lit 1))) (.rlen (.rvar 1) 1), true), (.cmp .lss (.bin .add .i64 (.bin .mul .i64 (.bin .sub .i64 (.bin .quo .i64 (.var 3) (.var 2)) (.lit 1)) (.var 2)) (.bin .sub .i64 (.bin .rem .i64 (.var 3) (.var 2)) (.lit 1))) (.lit 0), false), (.cmp .lss (.bin .add .i64 (.bin .mul .i64 (.bin .sub .i64 (.bin .quo .i64 (.var 3) (.var 2)) (.lit 1)) (.var 2)) (.bin .rem .i64 (.var 3) (.var 2))) (.rlen (.rvar 1) 1), true), (.cmp .lss (.bin .add .i64 (.bin .mul .i64 (.bin .sub .i64 (.bin .quo .i64 (.var 3) (.var 2)) (.lit 1)) (.var 2)) (.bin .rem .i64 (.var 3) (.var 2))) (.lit 0), false), (.cmp .eql (.bin .quo .i64 (.var 3) (.var 2)) (.lit 0), false), (.cmp .eql (.var 0) (.lit 1), false), (.cmp .lss (.bin .add .i64 (.bin .mul .i64 (.bin .quo .i64 (.var 3) (.var 2)) (.var 2)) (.bin .sub .i64 (.bin .rem .i64 (.var 3) (.var 2)) (.lit 1))) (.rlen (.rvar 1) 1), true), (.cmp .lss (.bin .add .i64 (.bin .mul .i64 (.bin .quo .i64 (.var 3) (.var 2)) (.var 2)) (.bin .sub .i64 (.bin .rem .i64 (.var 3) (.var 2)) (.lit 1))) (.lit 0), false), (.cmp .eql (.bin .rem .i64 (.var 3) (.var 2)) (.lit 0), false), (.cmp .eql (.var 0) (.lit 0), false), (.cmp .eql (.var 2) (.lit 0), false)], .ret (.sint .i64 (.sel (.rvar 1) (.bin .add .i64 (.bin .mul .i64 (.bin .quo .i64 (.var 3) (.var 2)) (.var 2)) (.bin .sub .i64 (.bin .rem .i64 (.var 3) (.var 2)) (.lit 1))) 1 0)) ⟨0, .nil⟩), ([(.cmp .lss (.sel (.rvar 1) (.bin .add .i64 (.bin .mul .i64 (.bin .sub .i64 (.bin .quo .i64 (.var 3) (.var 2)) (.lit 1)) (.var 2)) (.bin .rem .i64 (.var 3) (.var 2))) 1 0) (.sel (.rvar 1) (.bin .add .i64 (.bin .mul .i64 (.bin .quo .i64 (.var 3) (.var 2)) (.var 2)) (.bin .sub .i64 (.bin .rem .i64 (.var 3) (.var 2)) (.lit 1))) 1 0), false), (.cmp .lss (.sel (.rvar 1) (.bin .add .i64 (.bin .mul .i64 (.bin .sub .i64 (.bin .quo .i64 (.var 3) (.var 2)) (.lit 1)) (.var 2)) (.bin .rem .i64 (.var 3) (.var 2))) 1 0) (.bin .sub .i64 (.bin .add .i64 (.sel (.rvar 1) (.bin .add .i64 (.bin .mul .i64 (.bin .quo .i64 (.var 3) (.var 2)) (.var 2)) (.bin .sub .i64 (.bin .rem .i64 (.var 3) (.var 2)) (.lit 1))) 1 0) (.sel (.rvar 1) (.bin .add .i64 (.bin .mul .i64 (.bin .sub .i64 (.bin .quo .i64 (.var 3) (.var 2)) (.lit 1)) (.var 2)) (.bin .rem .i64 (.var 3) (.var 2))) 1 0)) (.sel (.rvar 1) (.bin .add .i64 (.bin .mul .i64 (.bin .sub .i64 (.bin .quo .i64 (.var 3) (.var 2)) (.lit 1)) (.var 2)) (.bin .sub .i64 (.bin .rem .i64 (.var 3) (.var 2)) (.lit 1))) 1 0)), true), (.cmp .lss (.sel (.rvar 1) (.bin .add .i64 (.bin .mul .i64 (.bin .quo .i64 (.var 3) (.var 2)) (.var 2)) (.bin .sub .i64 (.bin .rem .i64 (.var 3) (.var 2)) (.lit 1))) 1 0) (.bin .sub .i64 (.bin .add .i64 (.sel (.rvar 1) (.bin .add .i64 (.bin .mul .i64 (.bin .quo .i64 (.var 3) (.var 2)) (.var 2)) (.bin .sub .i64 (.bin .rem .i64 (.var 3) (.var 2)) (.lit 1))) 1 0) (.sel (.rvar 1) (.bin .add .i64 (.bin .mul .i64 (.bin .sub .i64 (.bin .quo .i64 (.var 3) (.var 2)) (.lit 1)) (.var 2)) (.bin .rem .i64 (.var 3) (.var 2))) 1 0)) (.sel (.rvar 1) (.bin .add .i64 (.bin .mul .i64 (.bin .sub .i64 (.bin .quo .i64 (.var 3) (.var 2)) (.lit 1)) (.var 2)) (.bin .sub .i64 (.bin .rem .i64 (.var 3) (.var 2)) (.lit 1))) 1 0)), true), (.cmp .lss (.bin .sub .i64 (.bin .add .i64 (.sel (.rvar 1) (.bin .add .i64 (.bin .mul .i64 (.bin .quo .i64 (.var 3) (.var 2)) (.var 2)) (.bin .sub .i64 (.bin .rem .i64 (.var 3) (.var 2)) (.lit 1))) 1 0) (.sel (.rvar 1) (.bin .add .i64 (.bin .mul .i64 (.bin .sub .i64 (.bin .quo .i64 (.var 3) (.var 2)) (.lit 1)) (.var 2)) (.bin .rem .i64 (.var 3) (.var 2))) 1 0)) (.sel (.rvar 1) (.bin .add .i64 (.bin .mul .i64 (.bin .sub .i64 (.bin .quo .i64 (.var 3) (.var 2)) (.lit 1)) (.var 2)) (.bin .sub .i64 (.bin .rem .i64 (.var 3) (.var 2)) (.lit 1))) 1 0)) (.sel (.rvar 1) (.bin .add .i64 (.bin .mul .i64 (.bin .quo .i64 (.var 3) (.var 2)) (.var 2)) (.bin .sub .i64 (.bin .rem .i64 (.var 3) (.var 2)) (.lit 1))) 1 0), false), (.cmp .lss (.bin .add .i64 (.bin .mul .i64 (.bin .sub .i64 (.bin .quo .i64 (.var 3) (.var 2)) (.lit 1)) (.var 2)) (.bin .sub .i64 (.bin .rem .i64 (.var 3) (.var 2)) (.lit 1))) (.rlen (.rvar 1) 1), true), (.cmp .lss (.bin .add .i64 (.bin .mul .i64 (.bin .sub .i64 (.bin .quo .i64 (.var 3) (.var 2)) (.lit 1)) (.var 2)) (.bin .sub .i64 (.bin .rem .i64 (.var 3) (.var 2)) (.lit 1))) (.lit 0), false), (.cmp .lss (.bin .add .i64 (.bin .mul .i64 (.bin .sub .i64 (.bin .quo .i64 (.var 3) (.var 2)) (.lit 1)) (.var 2)) (.bin .rem .i64 (.var 3) (.var 2))) (.rlen (.rvar 1) 1), true), (.cmp .lss (.bin .add .i64 (.bin .mul .i64 (.bin .sub .i64 (.bin .quo .i64 (.var 3) (.var 2)) (.lit 1)) (.var 2)) (.bin .rem .i64 (.var 3) (.var 2))) (.lit 0), false), (.cmp .eql (.bin .quo .i64 (.var 3) (.var 2)) (.lit 0), false), (.cmp .eql (.var 0) (.lit 1), false), (.cmp .lss (.bin .add .i64 (.bin .mul .i64 (.bin .quo .i64 (.var 3) (.var 2)) (.var 2)) (.bin .sub .i64 (.bin .rem .i64 (.var 3) (.var 2)) (.lit 1))) (.rlen (.rvar 1) 1), true), (.cmp .lss (.bin .add .i64 (.bin .mul .i64 (.bin .quo .i64 (.var 3) (.var 2)) (.var 2)) (.bin .sub .i64 (.bin .rem .i64 (.var 3) (.var 2)) (.lit 1))) (.lit 0), false), (.cmp .eql (.bin .rem .i64 (.var 3) (.var 2)) (.lit 0), false), (.cmp .eql (.var 0) (.lit 0), false), (.cmp .eql (.var 2) (.lit 0), false)], .ret (.sint .i64 (.sel (.rvar 1) (.bin .add .i64 (.bin .mul .i64 (.bin .sub .i64 (.bin .quo .i64 (.var 3) (.var 2)) (.lit 1)) (.var 2)) (.bin .rem .i64 (.var 3) (.var 2))) 1 0)) ⟨0, .nil⟩), ([(.cmp .lss (.sel (.rvar 1) (.bin .add .i64 (.bin .mul .i64 (.bin .sub .i64 (.bin .quo .i64 (.var 3) (.var 2)) (.lit 1)) (.var 2)) (.bin .rem .i64 (.var 3) (.var 2))) 1 0) (.bin .sub .i64 (.bin .add .i64 (.sel (.rvar 1) (.bin .add .i64 (.bin .mul .i64 (.bin .quo .i64 (.var 3) (.var 2)) (.var 2)) (.bin .sub .i64 (.bin .rem .i64 (.var 3) (.var 2)) (.lit 1))) 1 0) (.sel (.rvar 1) (.bin .add .i64 (.bin .mul .i64 (.bin .sub .i64 (.bin .quo .i64 (.var 3) (.var 2)) (.lit 1)) (.var 2)) (.bin .rem .i64 (.var 3) (.var 2))) 1 0)) (.sel (.rvar 1) (.bin .add .i64 (.bin .mul .i64 (.bin .sub .i64 (.bin .quo .i64 (.var 3) (.var 2)) (.lit 1)) (.var 2)) (.bin .sub .i64 (.bin .rem .i64 (.var 3) (.var 2)) (.lit 1))) 1 0)), false), (.cmp .lss (.sel (.rvar 1) (.bin .add .i64 (.bin .mul .i64 (.bin .quo .i64 (.var 3) (.var 2)) (.var 2)) (.bin .sub .i64 (.bin .rem .i64 (.var 3) (.var 2)) (.lit 1))) 1 0) (.bin .sub .i64 (.bin .add .i64 (.sel (.rvar 1) (.bin .add .i64 (.bin .mul .i64 (.bin .quo .i64 (.var 3) (.var 2)) (.var 2)) (.bin .sub .i64 (.bin .rem .i64 (.var 3) (.var 2)) (.lit 1))) 1 0) (.sel (.rvar 1) (.bin .add .i64 (.bin .mul .i64 (.bin .sub .i64 (.bin .quo .i64 (.var 3) (.var 2)) (.lit 1)) (.var 2)) (.bin .rem .i64 (.var 3) (.var 2))) 1 0)) (.sel (.rvar 1) (.bin .add .i64 (.bin .mul .i64 (.bin .sub .i64 (.bin .quo .i64 (.var 3) (.var 2)) (.lit 1)) (.var 2)) (.bin .sub .i64 (.bin .rem .i64 (.var 3) (.var 2)) (.lit 1))) 1 0)), true), (.cmp .lss (.bin .sub .i64 (.bin .add .i64 (.sel (.rvar 1) (.bin .add .i64 (.bin .mul .i64 (.bin .quo .i64 (.var 3) (.var 2)) (.var 2)) (.bin .sub .i64 (.bin .rem .i64 (.var 3) (.var 2)) (.lit 1))) 1 0) (.sel (.rvar 1) (.bin .add .i64 (.bin .mul .i64 (.bin .sub .i64 (.bin .quo .i64 (.var 3) (.var 2)) (.lit 1)) (.var 2)) (.bin .rem .i64 (.var 3) (.var 2))) 1 0)) (.sel (.rvar 1) (.bin .add .i64 (.bin .mul .i64 (.bin .sub .i64 (.bin .quo .i64 (.var 3) (.var 2)) (.lit 1)) (.var 2)) (.bin .sub .i64 (.bin .rem .i64 (.var 3) (.var 2)) (.lit 1))) 1 0)) (.sel (.rvar 1) (.bin .add .i64 (.bin .mul .i64 (.bin .quo .i64 (.var 3) (.var 2)) (.var 2)) (.bin .sub .i64 (.bin .rem .i64 (.var 3) (.var 2)) (.lit 1))) 1 0), false), (.cmp .lss (.bin .add .i64 (.bin .mul .i64 (.bin .sub .i64 (.bin .quo .i64 (.var 3) (.var 2)) (.lit 1)) (.var 2)) (.bin .sub .i64 (.bin .rem .i64 (.var 3) (.var 2)) (.lit 1))) (.rlen (.rvar 1) 1), true), (.cmp .lss (.bin .add .i64 (.bin .mul .i64 (.bin .sub .i64 (.bin .quo .i64 (.var 3) (.var 2)) (.lit 1)) (.var 2)) (.bin .sub .i64 (.bin .rem .i64 (.var 3) (.var 2)) (.lit 1))) (.lit 0), false), (.cmp .lss (.bin .add .i64 (.bin .mul .i64 (.bin .sub .i64 (.bin .quo .i64 (.var 3) (.var 2)) (.lit 1)) (.var 2)) (.bin .rem .i64 (.var 3) (.var 2))) (.rlen (.rvar 1) 1), true), (.cmp .lss (.bin .add .i64 (.bin .mul .i64 (.bin .sub .i64 (.bin .quo .i64 (.var 3) (.var 2)) (.lit 1)) (.var 2)) (.bin .rem .i64 (.var 3) (.var 2))) (.lit 0), false), (.cmp .eql (.bin .quo .i64 (.var 3) (.var 2)) (.lit 0), false), (.cmp .eql (.var 0) (.lit 1), false), (.cmp .lss (.bin .add .i64 (.bin .mul .i64 (.bin .quo .i64 (.var 3) (.var 2)) (.var 2)) (.bin .sub .i64 (.bin .rem .i64 (.var 3) (.var 2)) (.lit 1))) (.rlen (.rvar 1) 1), true), (.cmp .lss (.bin .add .i64 (.bin .mul .i64 (.bin .quo .i64 (.var 3) (.var 2)) (.var 2)) (.bin .sub .i64 (.bin .rem .i64 (.var 3) (.var 2)) (.lit 1))) (.lit 0), false), (.cmp .eql (.bin .rem .i64 (.var 3) (.var 2)) (.lit 0), false), (.cmp .eql (.var 0) (.lit 0), false), (.cmp .eql (.var 2) (.lit 0), false)], .ret (.sint .i64 (.bin .sub .i64 (.bin .add .i64 (.sel (.rvar 1) (.bin .add .i64 (.bin .mul .i64 (.bin .quo .i64 (.var 3) (.var 2)) (.var 2)) (.bin .sub .i64 (.bin .rem .i64 (.var 3) (.var 2)) (.lit 1))) 1 0) (.sel (.rvar 1) (.bin .add .i64 (.bin .mul .i64 (.bin .sub .i64 (.bin .quo .i64 (.var 3) (.var 2)) (.lit 1)) (.var 2)) (.bin .rem .i64 (.var 3) (.var 2))) 1 0)) (.sel (.rvar 1) (.bin .add .i64 (.bin .mul .i64 (.bin .sub .i64 (.bin .quo .i64 (.var 3) (.var 2)) (.lit 1)) (.var 2)) (.bin .sub .i64 (.bin .rem .i64 (.var 3) (.var 2)) (.lit 1))) 1 0))) ⟨0, .nil⟩), ([(.cmp .lss (.sel (.rvar 1) (.bin .add .i64 (.bin .mul .i64 (.bin .quo .i64 (.var 3) (.var 2)) (.var 2)) (.bin .sub .i64 (.bin .rem .i64 (.var 3) (.var 2)) (.lit 1))) 1 0) (.bin .sub .i64 (.bin .add .i64 (.sel (.rvar 1) (.bin .add .i64 (.bin .mul .i64 (.bin .quo .i64 (.var 3) (.var 2)) (.var 2)) (.bin .sub .i64 (.bin .rem .i64 (.var 3) (.var 2)) (.lit 1))) 1 0) (.sel (.rvar 1) (.bin .add .i64 (.bin .mul .i64 (.bin .sub .i64 (.bin .quo .i64 (.var 3) (.var 2)) (.lit 1)) (.var 2)) (.bin .rem .i64 (.var 3) (.var 2))) 1 0)) (.sel (.rvar 1) (.bin .add .i64 (.bin .mul .i64 (.bin .sub .i64 (.bin .quo .i64 (.var 3) (.var 2)) (.lit 1)) (.var 2)) (.bin .sub .i64 (.bin .rem .i64 (.var 3) (.var 2)) (.lit 1))) 1 0)), false), (.cmp .lss (.bin .sub .i64 (.bin .add .i64 (.sel (.rvar 1) (.bin .add .i64 (.bin .mul .i64 (.bin .quo .i64 (.var 3) (.var 2)) (.var 2)) (.bin .sub .i64 (.bin .rem .i64 (.var 3) (.var 2)) (.lit 1))) 1 0) (.sel (.rvar 1) (.bin .add .i64 (.bin .mul .i64 (.bin .sub .i64 (.bin .quo .i64 (.var 3) (.var 2)) (.lit 1)) (.var 2)) (.bin .rem .i64 (.var 3) (.var 2))) 1 0)) (.sel (.rvar 1) (.bin .add .i64 (.bin .mul .i64 (.bin .sub .i64 (.bin .quo .i64 (.var 3) (.var 2)) (.lit 1)) (.var 2)) (.bin .sub .i64 (.bin .rem .i64 (.var 3) (.var 2)) (.lit 1))) 1 0)) (.sel (.rvar 1) (.bin .add .i64 (.bin .mul .i64 (.bin .quo .i64 (.var 3) (.var 2)) (.var 2)) (.bin .sub .i64 (.bin .rem .i64 (.var 3) (.var 2)) (.lit 1))) 1 0), false), (.cmp .lss (.bin .add .i64 (.bin .mul .i64 (.bin .sub .i64 (.bin .quo .i64 (.var 3) (.var 2)) (.lit 1)) (.var 2)) (.bin .sub .i64 (.bin .rem .i64 (.var 3) (.var 2)) (.lit 1))) (.rlen (.rvar 1) 1), true), (.cmp .lss (.bin .add .i64 (.bin .mul .i64 (.bin .sub .i64 (.bin .quo .i64 (.var 3) (.var 2)) (.lit 1)) (.var 2)) (.bin .sub .i64 (.bin .rem .i64 (.var 3) (.var 2)) (.lit 1))) (.lit 0), false), (.cmp .lss (.bin .add .i64 (.bin .mul .i64 (.bin .sub .i64 (.bin .quo .i64 (.var 3) (.var 2)) (.lit 1)) (.var 2)) (.bin .rem .i64 (.var 3) (.var 2))) (.rlen (.rvar 1) 1), true), (.cmp .lss (.bin .add .i64 (.bin .mul .i64 (.bin .sub .i64 (.bin .quo .i64 (.var 3) (.var 2)) (.lit 1)) (.var 2)) (.bin .rem .i64 (.var 3) (.var 2))) (.lit 0), false), (.cmp .eql (.bin .quo .i64 (.var 3) (.var 2)) (.lit 0), false), (.cmp .eql (.var 0) (.lit 1), false), (.cmp .lss (.bin .add .i64 (.bin .mul .i64 (.bin .quo .i64 (.var 3) (.var 2)) (.var 2)) (.bin .sub .i64 (.bin .rem .i64 (.var 3) (.var 2)) (.lit 1))) (.rlen (.rvar 1) 1), true), (.cmp .lss (.bin .add .i64 (.bin .mul .i64 (.bin .quo .i64 (.var 3) (.var 2)) (.var 2)) (.bin .sub .i64 (.bin .rem .i64 (.var 3) (.var 2)) (.lit 1))) (.lit 0), false), (.cmp .eql (.bin .rem .i64 (.var 3) (.var 2)) (.lit 0), false), (.cmp .eql (.var 0) (.lit 0), false), (.cmp .eql (.var 2) (.lit 0), false)], .ret (.sint .i64 (.bin .sub .i64 (.bin .add .i64 (.sel (.rvar 1) (.bin .add .i64 (.bin .mul .i64 (.bin .quo .i64 (.var 3) (.var 2)) (.var 2)) (.bin .sub .i64 (.bin .rem .i64 (.var 3) (.var 2)) (.lit 1))) 1 0) (.sel (.rvar 1) (.bin .add .i64 (.bin .mul .i64 (.bin .sub .i64 (.bin .quo .i64 (.var 3) (.var 2)) (.lit 1)) (.var 2)) (.bin .rem .i64 (.var 3) (.var 2))) 1 0)) (.sel (.rvar 1) (.bin .add .i64 (.bin .mul .i64 (.bin .sub .i64 (.bin .quo .i64 (.var 3) (.var 2)) (.lit 1)) (.var 2)) (.bin .sub .i64 (.bin .rem .i64 (.var 3) (.var 2)) (.lit 1))) 1 0))) ⟨0, .nil⟩), ([(.cmp .lss (.bin .add .i64 (.bin .mul .i64 (.bin .sub .i64 (.bin .quo .i64 (.var 3) (.var 2)) (.lit 1)) (.var 2)) (.bin .sub .i64 (.bin .rem .i64 (.var 3) (.var 2)) (.lit 1))) (.rlen (.rvar 1) 1), false), (.cmp .lss (.bin .add .i64 (.bin .mul .i64 (.bin .sub .i64 (.bin .quo .i64 (.var 3) (.var 2)) (.lit 1)) (.var 2)) (.bin .sub .i64 (.bin .rem .i64 (.var 3) (.var 2)) (.lit 1))) (.lit 0), false), (.cmp .lss (.bin .add .i64 (.bin .mul .i64 (.bin .sub .i64 (.bin .quo .i64 (.var 3) (.var 2)) (.lit 1)) (.var 2)) (.bin .rem .i64 (.var 3) (.var 2))) (.rlen (.rvar 1) 1), true), (.cmp .lss (.bin .add .i64 (.bin .mul .i64 (.bin .sub .i64 (.bin .quo .i64 (.var 3) (.var 2)) (.lit 1)) (.var 2)) (.bin .rem .i64 (.var 3) (.var 2))) (.lit 0), false), (.cmp .eql (.bin .quo .i64 (.var 3) (.var 2)) (.lit 0), false), (.cmp .eql (.var 0) (.lit 1), false), (.cmp .lss (.bin .add .i64 (.bin .mul .i64 (.bin .quo .i64 (.var 3) (.var 2)) (.var 2)) (.bin .sub .i64 (.bin .rem .i64 (.var 3) (.var 2)) (.lit 1))) (.rlen (.rvar 1) 1), true), (.cmp .lss (.bin .add .i64 (.bin .mul .i64 (.bin .quo .i64 (.var 3) (.var 2)) (.var 2)) (.bin .sub .i64 (.bin .rem .i64 (.var 3) (.var 2)) (.lit 1))) (.lit 0), false), (.cmp .eql (.bin .rem .i64 (.var 3) (.var 2)) (.lit 0), false), (.cmp .eql (.var 0) (.lit 0), false), (.cmp .eql (.var 2) (.lit 0), false)], .bad), ([(.cmp .lss (.bin .add .i64 (.bin .mul .i64 (.bin .sub .i64 (.bin .quo .i64 (.var 3) (.var 2)) (.lit 1)) (.var 2)) (.bin .rem .i64 (.var 3) (.var 2))) (.rlen (.rvar 1) 1), false), (.cmp .lss (.bin .add .i64 (.bin .mul .i64 (.bin .sub .i64 (.bin .quo .i64 (.var 3) (.var 2)) (.lit 1)) (.var 2)) (.bin .rem .i64 (.var 3) (.var 2))) (.lit 0), false), (.cmp .eql (.bin .quo .i64 (.var 3) (.var 2)) (.lit 0), false), (.cmp .eql (.var 0) (.lit 1), false), (.cmp .lss (.bin .add .i64 (.bin .mul .i64 (.bin .quo .i64 (.var 3) (.var 2)) (.var 2)) (.bin .sub .i64 (.bin .rem .i64 (.var 3) (.var 2)) (.lit 1))) (.rlen (.rvar 1) 1), true), (.cmp .lss (.bin .add .i64 (.bin .mul .i64 (.bin .quo .i64 (.var 3) (.var 2)) (.var 2)) (.bin .sub .i64 (.bin .rem .i64 (.var 3) (.var 2)) (.lit 1))) (.lit 0), false), (.cmp .eql (.bin .rem .i64 (.var 3) (.var 2)) (.lit 0), false), (.cmp .eql (.var 0) (.lit 0), false), (.cmp .eql (.var 2) (.lit 0), false)], .bad), ([(.cmp .lss (.bin .add .i64 (.bin .mul .i64 (.bin .quo .i64 (.var 3) (.var 2)) (.var 2)) (.bin .sub .i64 (.bin .rem .i64 (.var 3) (.var 2)) (.lit 1))) (.rlen (.rvar 1) 1), false), (.cmp .lss (.bin .add .i64 (.bin .mul .i64 (.bin .quo .i64 (.var 3) (.var 2)) (.var 2)) (.bin .sub .i64 (.bin .rem .i64 (.var 3) (.var 2)) (.lit 1))) (.lit 0), false), (.cmp .eql (.bin .rem .i64 (.var 3) (.var 2)) (.lit 0), false), (.cmp .eql (.var 0) (.lit 0), false), (.cmp .eql (.var 2) (.lit 0), false)], .bad)] := by kernel_rfl

end Go.Proofs.Ytkfejcffacbngaa.J


namespace Go.Proofs.Ytkfejcffacbngaa.J

open Go Go.Sym

set_option linter.unusedVariables false

abbrev cl (l : List Int) (j : Int) : Int := selL l j 1 0
def clampG (L A C : Int) : Int := binI .lss .i64 (binI .gtr .i64 (L + A - C) (binI .lss .i64 L A)) (binI .gtr .i64 L A)
/-- what a cell is likely to be -/
def guessG (k : Int) (l : List Int) (w i : Int) : Int := if k = 0 ∨ i = 0 then 0 else if i % w = 0 then cl l (i - w) else if k = 1 ∨ i < w then cl l (i - 1) else clampG (cl l (i - 1)) (cl l (i - w)) (cl l (i - w - 1))
def mayG (k : Int) (l : List Int) (w i : Int) : Prop := 0 ≤ k ∧ k ≤ 2 ∧ 1 ≤ w ∧ w ≤ 1099511627776 ∧ 0 ≤ i ∧ i ≤ 1099511627776 ∧ i ≤ l.length ∧ ∀ j, 0 ≤ j → j < i → -2147483648 ≤ cl l j ∧ cl l j ≤ 2147483647

def g115 : List (List Int) → List Int
  | [[k], l, [w], [i]] => [guessG k l w i]
  | _ => []
open Classical in
noncomputable def g117 : List (List Int) → List Int
  | [[k], l, [w], [i]] => [if mayG k l w i then 1 else 0]
  | _ => []

noncomputable def FNx : Nat → List (List Int) → List Int
  | 115, l => g115 l
  | 117, l => g117 l
  | i, l => FNw i l

theorem FNx_117 {k : Int} {l : List Int} {w i : Int} (h : mayG k l w i) : FNx 117 [[k], l, [w], [i]] = [1] := by show [_] = _; rw [if_pos h]
theorem mayG_of {k : Int} {l : List Int} {w i : Int} (h : (FNx 117 [[k], l, [w], [i]]).headD 0 = 1) : mayG k l w i := by
  by_cases hb : mayG k l w i
  · exact hb
  · exfalso
    have : FNx 117 [[k], l, [w], [i]] = [0] := by show [_] = _; rw [if_neg hb]
    rw [this] at h; simp at h

def pcGuessP : Pc := ⟨122, [.int .i64, .sl [.i64], .int .i64, .int .i64], [.int .i64], 115, [], [117]⟩
def pcGuessD : Pc := ⟨124, [.int .i64, .sl [.i64], .int .i64, .int .i64], [.int .i64], 115, [], [117]⟩

theorem guess_nums {w i : Int} (hw : 1 ≤ w) (hw2 : w ≤ 1099511627776) (hi : 0 ≤ i) (hi2 : i ≤ 1099511627776) :
    binI .sub .i64 i w = i - w ∧ binI .sub .i64 i 1 = i - 1 ∧ binI .sub .i64 (i - w) 1 = i - w - 1 ∧ binI .rem .i64 i w = i % w ∧ binI .quo .i64 i w = i / w ∧ binI .sub .i64 (i / w) 1 = i / w - 1 ∧
    binI .mul .i64 (i / w - 1) w = i - i % w - w ∧ binI .mul .i64 (i / w) w = i - i % w ∧ binI .add .i64 (i - i % w - w) 0 = i - i % w - w ∧ binI .add .i64 (i - i % w - w) (i % w) = i - w ∧ binI .sub .i64 (i % w) 1 = i % w - 1 ∧
    binI .add .i64 (i - i % w) (i % w - 1) = i - 1 ∧ binI .add .i64 (i - i % w - w) (i % w - 1) = i - w - 1 ∧ (i / w = 0 ↔ i < w) ∧ 0 ≤ i % w ∧ i % w < w ∧ i % w ≤ i := by
  have hq0 : 0 ≤ i / w := Int.ediv_nonneg hi (by omega)
  have hr0 := Int.emod_nonneg i (show w ≠ 0 by omega)
  have hr1 := Int.emod_lt_of_pos i (show 0 < w by omega)
  have hd := Int.emod_add_mul_ediv i w
  have hq1 : i / w ≤ i := Int.ediv_le_self w hi
  have hm : (i / w - 1) * w = i - i % w - w := by rw [Int.sub_mul, Int.one_mul, Int.mul_comm]; omega
  have hm2 : (i / w) * w = i - i % w := by rw [Int.mul_comm]; omega
  have hmn : 0 ≤ (i / w) * w := Int.mul_nonneg hq0 (by omega)
  refine ⟨wrap_i64 (by omega), wrap_i64 (by omega), wrap_i64 (by omega), ?_, ?_, wrap_i64 (by omega), ?_, ?_, ?_, ?_, wrap_i64 (by omega), ?_, ?_, ?_, hr0, hr1, by omega⟩
  · show i.tmod w = _; rw [Int.tmod_eq_emod_of_nonneg hi]
  · show IntKind.i64.wrap (i.tdiv w) = _; rw [Int.tdiv_eq_ediv_of_nonneg hi]; exact wrap_i64 (by omega)
  · show IntKind.i64.wrap ((i / w - 1) * w) = _; rw [hm]; exact wrap_i64 (by omega)
  · show IntKind.i64.wrap ((i / w) * w) = _; rw [hm2]; exact wrap_i64 (by omega)
  · show IntKind.i64.wrap (i - i % w - w + 0) = _; rw [Int.add_zero]; exact wrap_i64 (by omega)
  · show IntKind.i64.wrap (i - i % w - w + i % w) = _; rw [wrap_i64 (by omega)]; omega
  · show IntKind.i64.wrap (i - i % w + (i % w - 1)) = _; rw [wrap_i64 (by omega)]; omega
  · show IntKind.i64.wrap (i - i % w - w + (i % w - 1)) = _; rw [wrap_i64 (by omega)]; omega
  · constructor
    · intro h; rw [h, Int.zero_mul] at hm2; omega
    · intro h; exact Int.ediv_eq_zero_of_lt hi h

end Go.Proofs.Ytkfejcffacbngaa.J


namespace Go.Proofs.Ytkfejcffacbngaa.J

open Go Go.Sym

set_option linter.unusedVariables false

set_option maxHeartbeats 2000000 in
theorem guessP_ok : PcOk Try.prog FNx pcGuessP := by
  intro w0 vs ls hargs hrng hpre
  refine pc_inst' mix pcGuessP (fun _ _ => knOk_nil) (by decide) guess_entry hargs fun e0 hf ha => ⟨(fun p hp => by cases hp), ?_⟩
  simp only [pcGuessP, ArgsE, ArgE] at ha
  obtain ⟨_, _, rfl, rfl, l, _, rfl, ⟨hl, _⟩, _, _, rfl, rfl, _, _, rfl, rfl, rfl⟩ := ha
  have hm := mayG_of hpre.1
  obtain ⟨k, hk⟩ : ∃ z, vInt (e0.val 0) = z := ⟨_, rfl⟩
  obtain ⟨w, hw⟩ : ∃ z, vInt (e0.val 2) = z := ⟨_, rfl⟩
  obtain ⟨i, hi⟩ : ∃ z, vInt (e0.val 3) = z := ⟨_, rfl⟩
  simp only [Nat.zero_add, Nat.reduceAdd, hk, hw, hi] at hm hl ⊢
  obtain ⟨m1, m2, m3, m4, m5, m6, m7, m8⟩ := hm
  obtain ⟨n1, n2, n3, n4, n5, n6, n7, n8, n9, n10, n11, n12, n13, n14, n15, n16, n17⟩ := guess_nums m3 m4 m5 m6
  have ret : ∀ (e : SV) (M : Mem), (∃ x, toIE e = some (IntKind.i64, x) ∧ x.eval e0 = guessG k l w i) → StepG FNx [[k], l, [w], [i]] pcGuessP.id pcGuessP.rks (fun _ _ => False) (fun _ _ => (0, 0)) none e0 (.ret e M) := by
    rintro e M ⟨x, h1, h2⟩
    exact ⟨[_], rfl, ⟨x, h1, by rw [h2]; rfl⟩, rfl⟩
  by_cases hz : k = 0 ∨ i = 0
  · have hg : guessG k l w i = 0 := by rw [guessG, if_pos hz]
    simp only [allLeaves, AsOk_cons, AsOk_nil, BE.eval, cmpI, IE.eval, IE.reval, hk, hw, hi, hl, n1, n2, n3, n4, Nat.div_one, and_true, decide_eq_true_eq, decide_eq_false_iff_not]
    refine ⟨fun hA => ret _ _ ⟨_, rfl, hg.symm⟩, fun hA => ret _ _ ⟨_, rfl, hg.symm⟩, ?_⟩
    repeat' refine And.intro (fun hA => ?_) ?_
    all_goals first | trivial | (exfalso; omega) | (intro hA; exfalso; omega)
  · have hg0 : guessG k l w i = if i % w = 0 then cl l (i - w) else if k = 1 ∨ i < w then cl l (i - 1) else clampG (cl l (i - 1)) (cl l (i - w)) (cl l (i - w - 1)) := by rw [guessG, if_neg hz]
    by_cases hr : i % w = 0
    · rw [if_pos hr] at hg0
      have hiw : w ≤ i := by
        have := Int.emod_add_mul_ediv i w
        by_cases h : w ≤ i
        · exact h
        · exfalso; have := Int.emod_eq_of_lt m5 (show i < w by omega); omega
      simp only [allLeaves, AsOk_cons, AsOk_nil, BE.eval, cmpI, IE.eval, IE.reval, hk, hw, hi, hl, n1, n2, n3, n4, Nat.div_one, and_true, decide_eq_true_eq, decide_eq_false_iff_not]
      repeat' refine And.intro (fun hA => ?_) ?_
      all_goals first | trivial | (exfalso; omega) | (intro hA; exfalso; omega) | (refine ret _ _ ⟨_, rfl, ?_⟩; simp only [IE.eval, IE.reval, hw, hi, hl, n1, hg0])
    · rw [if_neg hr] at hg0
      by_cases hs : k = 1 ∨ i < w
      · rw [if_pos hs] at hg0
        simp only [allLeaves, AsOk_cons, AsOk_nil, BE.eval, cmpI, IE.eval, IE.reval, hk, hw, hi, hl, n1, n2, n3, n4, Nat.div_one, and_true, decide_eq_true_eq, decide_eq_false_iff_not]
        repeat' refine And.intro (fun hA => ?_) ?_
        all_goals first | trivial | (exfalso; omega) | (intro hA; exfalso; omega) | (refine ret _ _ ⟨_, rfl, ?_⟩; simp only [IE.eval, IE.reval, hw, hi, hl, n2, hg0])
      · rw [if_neg hs] at hg0
        have hiw : w < i := by
          by_cases h : i = w
          · exfalso; rw [h, Int.emod_self] at hr; exact hr rfl
          · omega
        have b1 := m8 (i - 1) (by omega) (by omega)
        have b2 := m8 (i - w) (by omega) (by omega)
        have b3 := m8 (i - w - 1) (by omega) (by omega)
        have a1 : binI .add .i64 (cl l (i - 1)) (cl l (i - w)) = cl l (i - 1) + cl l (i - w) := wrap_i64 (by omega)
        have a2 : binI .sub .i64 (cl l (i - 1) + cl l (i - w)) (cl l (i - w - 1)) = cl l (i - 1) + cl l (i - w) - cl l (i - w - 1) := wrap_i64 (by omega)
        simp only [allLeaves, AsOk_cons, AsOk_nil, BE.eval, cmpI, IE.eval, IE.reval, hk, hw, hi, hl, n1, n2, n3, n4, Nat.div_one, and_true, decide_eq_true_eq, decide_eq_false_iff_not]
        repeat' refine And.intro (fun hA => ?_) ?_
        all_goals first | trivial | (exfalso; omega) | (intro hA; exfalso; omega) | (refine ret _ _ ⟨_, rfl, ?_⟩; simp only [IE.eval, IE.reval, hw, hi, hl, n1, n2, n3, a1, a2, hg0, clampG])

end Go.Proofs.Ytkfejcffacbngaa.J


namespace Go.Proofs.Ytkfejcffacbngaa.J

open Go Go.Sym

set_option linter.unusedVariables false

set_option maxHeartbeats 4000000 in
theorem guessD_ok : PcOk Try.prog FNx pcGuessD := by
  intro w0 vs ls hargs hrng hpre
  refine pc_inst' mix pcGuessD (fun _ _ => knOk_nil) (by decide) guessR_entry hargs fun e0 hf ha => ⟨(fun p hp => by cases hp), ?_⟩
  simp only [pcGuessD, ArgsE, ArgE] at ha
  obtain ⟨_, _, rfl, rfl, l, _, rfl, ⟨hl, _⟩, _, _, rfl, rfl, _, _, rfl, rfl, rfl⟩ := ha
  have hm := mayG_of hpre.1
  obtain ⟨k, hk⟩ : ∃ z, vInt (e0.val 0) = z := ⟨_, rfl⟩
  obtain ⟨w, hw⟩ : ∃ z, vInt (e0.val 2) = z := ⟨_, rfl⟩
  obtain ⟨i, hi⟩ : ∃ z, vInt (e0.val 3) = z := ⟨_, rfl⟩
  simp only [Nat.zero_add, Nat.reduceAdd, hk, hw, hi] at hm hl ⊢
  obtain ⟨m1, m2, m3, m4, m5, m6, m7, m8⟩ := hm
  obtain ⟨n1, n2, n3, n4, n5, n6, n7, n8, n9, n10, n11, n12, n13, n14, n15, n16, n17⟩ := guess_nums m3 m4 m5 m6
  have ret : ∀ (e : SV) (M : Mem), (∃ x, toIE e = some (IntKind.i64, x) ∧ x.eval e0 = guessG k l w i) → StepG FNx [[k], l, [w], [i]] pcGuessD.id pcGuessD.rks (fun _ _ => False) (fun _ _ => (0, 0)) none e0 (.ret e M) := by
    rintro e M ⟨x, h1, h2⟩
    exact ⟨[_], rfl, ⟨x, h1, by rw [h2]; rfl⟩, rfl⟩
  by_cases hz : k = 0 ∨ i = 0
  · have hg : guessG k l w i = 0 := by rw [guessG, if_pos hz]
    simp only [allLeaves, AsOk_cons, AsOk_nil, BE.eval, cmpI, IE.eval, IE.reval, hk, hw, hi, hl, n4, n5, n6, n7, n8, n9, n10, n11, n12, n13, Nat.div_one, and_true, decide_eq_true_eq, decide_eq_false_iff_not]
    clear n1 n2 n3 n4 n5 n6 n7 n8 n9 n10 n11 n12 n13
    repeat' refine And.intro (fun hA => ?_) ?_
    all_goals first | trivial | (exfalso; omega) | (intro hA; exfalso; omega) | exact ret _ _ ⟨_, rfl, hg.symm⟩
  · have hg0 : guessG k l w i = if i % w = 0 then cl l (i - w) else if k = 1 ∨ i < w then cl l (i - 1) else clampG (cl l (i - 1)) (cl l (i - w)) (cl l (i - w - 1)) := by rw [guessG, if_neg hz]
    by_cases hr : i % w = 0
    · rw [if_pos hr] at hg0
      have hiw : w ≤ i := by
        by_cases h : w ≤ i
        · exact h
        · exfalso; have := Int.emod_eq_of_lt m5 (show i < w by omega); omega
      simp only [allLeaves, AsOk_cons, AsOk_nil, BE.eval, cmpI, IE.eval, IE.reval, hk, hw, hi, hl, n4, n5, n6, n7, n8, n9, n10, n11, n12, n13, Nat.div_one, and_true, decide_eq_true_eq, decide_eq_false_iff_not]
      have hx : i - i % w - w = i - w := by omega
      have hx0 : binI .add .i64 (i - w) 0 = i - w := by have := n9; rw [hx] at this; exact this
      repeat' refine And.intro (fun hA => ?_) ?_
      all_goals first | trivial | (exfalso; clear n1 n2 n3 n4 n5 n6 n7 n8 n9 n10 n11 n12 n13; omega) | (intro hA; exfalso; clear n1 n2 n3 n4 n5 n6 n7 n8 n9 n10 n11 n12 n13; omega) | (refine ret _ _ ⟨_, rfl, ?_⟩; simp only [IE.eval, IE.reval, hw, hi, hl, n4, n5, n6, n7, n8, n9, n10, n11, n12, n13, hx, hx0, hg0])
    · rw [if_neg hr] at hg0
      by_cases hs : k = 1 ∨ i < w
      · rw [if_pos hs] at hg0
        simp only [allLeaves, AsOk_cons, AsOk_nil, BE.eval, cmpI, IE.eval, IE.reval, hk, hw, hi, hl, n4, n5, n6, n7, n8, n9, n10, n11, n12, n13, Nat.div_one, and_true, decide_eq_true_eq, decide_eq_false_iff_not]
        repeat' refine And.intro (fun hA => ?_) ?_
        all_goals first | trivial | (exfalso; clear n1 n2 n3 n4 n5 n6 n7 n8 n9 n10 n11 n12 n13; omega) | (intro hA; exfalso; clear n1 n2 n3 n4 n5 n6 n7 n8 n9 n10 n11 n12 n13; omega) | (refine ret _ _ ⟨_, rfl, ?_⟩; simp only [IE.eval, IE.reval, hw, hi, hl, n4, n5, n6, n7, n8, n9, n10, n11, n12, n13, hg0])
      · rw [if_neg hs] at hg0
        have hiw : w < i := by
          by_cases h : i = w
          · exfalso; rw [h, Int.emod_self] at hr; exact hr rfl
          · omega
        have b1 := m8 (i - 1) (by omega) (by omega)
        have b2 := m8 (i - w) (by omega) (by omega)
        have b3 := m8 (i - w - 1) (by omega) (by omega)
        have a1 : binI .add .i64 (cl l (i - 1)) (cl l (i - w)) = cl l (i - 1) + cl l (i - w) := wrap_i64 (by omega)
        have a2 : binI .sub .i64 (cl l (i - 1) + cl l (i - w)) (cl l (i - w - 1)) = cl l (i - 1) + cl l (i - w) - cl l (i - w - 1) := wrap_i64 (by omega)
        simp only [cl] at b1 b2 b3 a1 a2 hg0
        simp only [allLeaves, AsOk_cons, AsOk_nil, BE.eval, cmpI, IE.eval, IE.reval, hk, hw, hi, hl, n4, n5, n6, n7, n8, n9, n10, n11, n12, n13, a1, a2, Nat.div_one, and_true, decide_eq_true_eq, decide_eq_false_iff_not]
        repeat' refine And.intro (fun hA => ?_) ?_
        all_goals first | trivial | (exfalso; clear n1 n2 n3 n4 n5 n6 n7 n8 n9 n10 n11 n12 n13 a1 a2; omega) | (intro hA; exfalso; clear n1 n2 n3 n4 n5 n6 n7 n8 n9 n10 n11 n12 n13 a1 a2; omega) | (refine ret _ _ ⟨_, rfl, ?_⟩; simp only [IE.eval, IE.reval, hw, hi, hl, n4, n5, n6, n7, n8, n9, n10, n11, n12, n13, a1, a2, hg0, clampG]; clear n1 n2 n3 n4 n5 n6 n7 n8 n9 n10 n11 n12 n13 a1 a2; simp only [binI]; (repeat' split) <;> omega)

end Go.Proofs.Ytkfejcffacbngaa.J


namespace Go.Proofs.Ytkfejcffacbngaa.J

open Go Go.Sym

set_option linter.unusedVariables false

def pcRestsP : Pc := ⟨86, [.int .i64, .sl [.i64], .int .i64], [.sl 2 [.i64], .int .i64], 118, [(1, 0, 1048576), (2, 1, 1048576)], []⟩

abbrev n1E : IE := .rlen (.rvar 1) 1
abbrev preG (i : IE) : BE × Bool := (.cmp .eql (.app 117 (.acons (.rcons (.var 0) .rnil) (.acons (.rvar 1) (.acons (.rcons (.var 2) .rnil) (.acons (.rcons i .rnil) .anil))))) (.lit 1), true)
abbrev rowN : SV := .rsl (.own 0) (.lit 0) n1E 1
abbrev in1 : SV := .rsl (.ro 1 [.i64]) (.lit 0) n1E 1
abbrev cutRP : Cuts := [([0, 1, 0, 1, 1, 1], ⟨42, [(0, .sint .i64 (.var 0)), (1, in1), (2, .sint .i64 (.var 2)), (6, .nilslice), (7, .int .i64 0), (8, rowN), (19, rowN), (20, in1), (21, .sint .i64 n1E), (22, .sint .i64 (.var 3))], [(0, ⟨2, 0, [], .nil, true, some (.rvar 4, n1E, [.i64])⟩)], 1, [preG (.var 3), (nonneg (.var 3), true), (atmB n1E (.lit 1048576), true)]⟩)]

theorem restsP_entry : entryK Try.prog [pcGuessP.ct] 50 400 86 cutRP 3 (argSVs 0 pcRestsP.aks) 14 [(atmB n1E (.lit 1048576), true)] = some [([(.cmp .lss (.var 0) (.lit 0), true), (.not (.cmp .lss (.lit 1048576) (.rlen (.rvar 1) 1)), true)], .ret (.tuple [.nilslice, .int .i64 11]) ⟨0, .nil⟩), ([(.cmp .lss (.lit 2) (.var 0), true), (.cmp .lss (.var 0) (.lit 0), false), (.not (.cmp .lss (.lit 1048576) (.rlen (.rvar 1) 1)), true)], .ret (.tuple [.nilslice, .int .i64 11]) ⟨0, .nil⟩), ([(.cmp .lss (.var 2) (.lit 1), true), (.cmp .lss (.lit 2) (.var 0), false), (.cmp .lss (.var 0) (.lit 0), false), (.not (.cmp .lss (.lit 1048576) (.rlen (.rvar 1) 1)), true)], .ret (.tuple [.nilslice, .int .i64 11]) ⟨0, .nil⟩), ([(.cmp .eql (.bin .rem .i64 (.rlen (.rvar 1) 1) (.var 2)) (.lit 0), true), (.cmp .lss (.var 2) (.lit 1), false), (.cmp .lss (.lit 2) (.var 0), false), (.cmp .lss (.var 0) (.lit 0), false), (.not (.cmp .lss (.lit 1048576) (.rlen (.rvar 1) 1)), true)], .cut 0 ⟨[(3, .lit 0)], [(4, .rep (.rlen (.rvar 1) 1) (.rcon [0]))], [], [(0, 0)]⟩), ([(.cmp .eql (.bin .rem .i64 (.rlen (.rvar 1) 1) (.var 2)) (.lit 0), false), (.cmp .lss (.var 2) (.lit 1), false), (.cmp .lss (.lit 2) (.var 0), false), (.cmp .lss (.var 0) (.lit 0), false), (.not (.cmp .lss (.lit 1048576) (.rlen (.rvar 1) 1)), true)], .ret (.tuple [.nilslice, .int .i64 11]) ⟨0, .nil⟩)] := by kernel_rfl

theorem restsP_rounds : roundsK Try.prog [pcGuessP.ct] 50 400 86 cutRP 3 14 cutRP = some [[([(.cmp .lss (.sel (.rvar 1) (.var 3) 1 0) (.lit (-2147483648)), true), (.cmp .lss (.var 3) (.rlen (.rvar 1) 1), true), (.cmp .eql (.app 117 (.acons (.rcons (.var 0) .rnil) (.acons (.rvar 1) (.acons (.rcons (.var 2) .rnil) (.acons (.rcons (.var 3) .rnil) .anil))))) (.lit 1), true), (.not (.cmp .lss (.var 3) (.lit 0)), true), (.not (.cmp .lss (.lit 1048576) (.rlen (.rvar 1) 1)), true)], .ret (.tuple [.nilslice, .int .i64 7]) ⟨0, .nil⟩), ([(.cmp .lss (.lit 2147483647) (.sel (.rvar 1) (.var 3) 1 0), true), (.cmp .lss (.sel (.rvar 1) (.var 3) 1 0) (.lit (-2147483648)), false), (.cmp .lss (.var 3) (.rlen (.rvar 1) 1), true), (.cmp .eql (.app 117 (.acons (.rcons (.var 0) .rnil) (.acons (.rvar 1) (.acons (.rcons (.var 2) .rnil) (.acons (.rcons (.var 3) .rnil) .anil))))) (.lit 1), true), (.not (.cmp .lss (.var 3) (.lit 0)), true), (.not (.cmp .lss (.lit 1048576) (.rlen (.rvar 1) 1)), true)], .ret (.tuple [.nilslice, .int .i64 7]) ⟨0, .nil⟩), ([(.cmp .lss (.lit 2147483647) (.sel (.rvar 1) (.var 3) 1 0), false), (.cmp .lss (.sel (.rvar 1) (.var 3) 1 0) (.lit (-2147483648)), false), (.cmp .lss (.var 3) (.rlen (.rvar 1) 1), true), (.cmp .eql (.app 117 (.acons (.rcons (.var 0) .rnil) (.acons (.rvar 1) (.acons (.rcons (.var 2) .rnil) (.acons (.rcons (.var 3) .rnil) .anil))))) (.lit 1), true), (.not (.cmp .lss (.var 3) (.lit 0)), true), (.not (.cmp .lss (.lit 1048576) (.rlen (.rvar 1) 1)), true)], .cut 0 ⟨[(3, .bin .add .i64 (.var 3) (.lit 1))], [(4, .set (.rvar 4) (.var 3) 1 0 (.bin .sub .i64 (.sel (.rvar 1) (.var 3) 1 0) (.app 115 (.acons (.rcons (.var 0) .rnil) (.acons (.rvar 1) (.acons (.rcons (.var 2) .rnil) (.acons (.rcons (.var 3) .rnil) .anil)))))))], [], [(0, 0)]⟩), ([(.cmp .lss (.var 3) (.rlen (.rvar 1) 1), false), (.cmp .eql (.app 117 (.acons (.rcons (.var 0) .rnil) (.acons (.rvar 1) (.acons (.rcons (.var 2) .rnil) (.acons (.rcons (.var 3) .rnil) .anil))))) (.lit 1), true), (.not (.cmp .lss (.var 3) (.lit 0)), true), (.not (.cmp .lss (.lit 1048576) (.rlen (.rvar 1) 1)), true)], .ret (.tuple [.rsl (.own 0) (.lit 0) (.rlen (.rvar 1) 1) 1, .int .i64 0]) ⟨1, (.node (some ⟨2, 0, [], .nil, true, (some (.rvar 4, (.rlen (.rvar 1) 1, [.i64])))⟩) .nil .nil)⟩)]] := by kernel_rfl

end Go.Proofs.Ytkfejcffacbngaa.J


namespace Go.Proofs.Ytkfejcffacbngaa.J

open Go Go.Sym

set_option linter.unusedVariables false

abbrev rightG (k w n : Int) : Prop := 0 ≤ k ∧ k ≤ 2 ∧ 1 ≤ w ∧ n % w = 0
abbrev mayV (x : Int) : Prop := -2147483648 ≤ x ∧ x ≤ 2147483647
def restV (k : Int) (l : List Int) (w : Int) (j : Nat) : Int := cl l j - guessG k l w j
def restsL (k : Int) (l : List Int) (w : Int) (n : Nat) : List Int := (List.range n).map (restV k l w)

def restsM (k : Int) (l : List Int) (w : Int) : List Int × Int :=
  if ¬ rightG k w l.length then ([], 11) else if ¬ (∀ x ∈ l, mayV x) then ([], 7) else (restsL k l w l.length, 0)

def g118 : List (List Int) → List Int
  | [[k], l, [w]] => (restsM k l w).1
  | _ => []
def g119 : List (List Int) → List Int
  | [[k], l, [w]] => [(restsM k l w).2]
  | _ => []

noncomputable def FNy : Nat → List (List Int) → List Int
  | 118, l => g118 l
  | 119, l => g119 l
  | i, l => FNx i l

theorem FNy_115 (k : Int) (l : List Int) (w i : Int) : FNy 115 [[k], l, [w], [i]] = [guessG k l w i] := rfl
theorem FNy_117 {k : Int} {l : List Int} {w i : Int} (h : mayG k l w i) : FNy 117 [[k], l, [w], [i]] = [1] := FNx_117 h
theorem FNy_118 (k : Int) (l : List Int) (w : Int) : FNy 118 [[k], l, [w]] = (restsM k l w).1 := rfl
theorem FNy_119 (k : Int) (l : List Int) (w : Int) : FNy 119 [[k], l, [w]] = [(restsM k l w).2] := rfl

theorem x_y {c : Pc} (h : PcOk Try.prog FNx c) (h1 : ∀ i, i < c.rks.length → c.id + i ≠ 118 ∧ c.id + i ≠ 119) (h2 : ∀ i, i ∈ c.pre → i ≠ 118 ∧ i ≠ 119) : PcOk Try.prog FNy c := by
  have e : ∀ j, j ≠ 118 ∧ j ≠ 119 → FNy j = FNx j := fun j hj => by
    funext l
    unfold FNy
    split <;> first | omega | rfl
  exact h.cong (fun i hi => e _ (h1 i hi)) (fun i hi => e _ (h2 i hi))

theorem cl_get {l : List Int} {j : Nat} (h : j < l.length) : cl l (j : Int) = l[j] := by simp [selL, h]

theorem guess_may {k : Int} {l : List Int} {w i : Int} (h : mayG k l w i) : mayV (guessG k l w i) := by
  obtain ⟨m1, m2, m3, m4, m5, m6, m7, m8⟩ := h
  unfold guessG
  split
  · exact ⟨by omega, by omega⟩
  rename_i hz
  have hr0 := Int.emod_nonneg i (show w ≠ 0 by omega)
  split
  · rename_i hr
    have hiw : w ≤ i := by
      by_cases h : w ≤ i
      · exact h
      · exfalso; have := Int.emod_eq_of_lt m5 (show i < w by omega); omega
    exact m8 _ (by omega) (by omega)
  rename_i hr
  split
  · exact m8 _ (by omega) (by omega)
  · rename_i hs
    have hiw : w < i := by
      by_cases h : i = w
      · exfalso; rw [h, Int.emod_self] at hr; exact hr rfl
      · omega
    have b1 := m8 (i - 1) (by omega) (by omega)
    have b2 := m8 (i - w) (by omega) (by omega)
    simp only [clampG, binI]
    refine ⟨?_, ?_⟩
    · (repeat' split) <;> omega
    · (repeat' split) <;> omega

theorem restsL_succ (k : Int) (l : List Int) (w : Int) (n : Nat) : restsL k l w (n + 1) = restsL k l w n ++ [restV k l w n] := by
  simp [restsL, List.range_succ]
theorem restsL_len (k : Int) (l : List Int) (w : Int) (n : Nat) : (restsL k l w n).length = n := by simp [restsL]

theorem set_next {A : List Int} {i n : Nat} {x : Int} (hA : A.length = i) (h : i < n) : setL' (A ++ List.replicate (n - i) 0) (i : Int) 1 0 x = (A ++ [x]) ++ List.replicate (n - (i + 1)) 0 := by
  obtain ⟨m, hm⟩ : ∃ m, n - i = m + 1 := ⟨n - i - 1, by omega⟩
  rw [hm, show n - (i + 1) = m by omega, List.replicate_succ]
  simp only [setL', Int.toNat_natCast, Nat.mul_one, Nat.add_zero]
  rw [List.set_append_right _ _ (by omega), show i - A.length = 0 by omega]
  simp

def invRP (ls : List (List Int)) (c : Nat) (env : Env) : Prop := c = 0 ∧ ∃ (k : Int) (l : List Int) (w : Int) (i : Nat), ls = [[k], l, [w]] ∧ (l.length : Int) ≤ 1048576 ∧ rightG k w l.length ∧ w ≤ 1048576 ∧ vInt (env.val 0) = k ∧ env.row 1 = l ∧ vInt (env.val 2) = w ∧ vInt (env.val 3) = i ∧ i ≤ l.length ∧
  (∀ j : Nat, j < i → mayV (cl l j)) ∧ env.row 4 = restsL k l w i ++ List.replicate (l.length - i) 0

theorem mayG_at {k : Int} {l : List Int} {w : Int} {i : Nat} (h : rightG k w l.length) (hl : (l.length : Int) ≤ 1048576) (hw : w ≤ 1048576) (hi : i ≤ l.length) (hm : ∀ j : Nat, j < i → mayV (cl l j)) : mayG k l w i :=
  ⟨h.1, h.2.1, h.2.2.1, by omega, by omega, by omega, by omega, fun j h0 h1 => by have := hm j.toNat (by omega); rwa [show ((j.toNat : Nat) : Int) = j by omega] at this⟩

theorem decM {n m : Nat} (h : n < m) (hm : (m : Int) ≤ 1048576) : (2000000 - ((n + 1 : Nat) : Int)).toNat < (2000000 - (n : Int)).toNat := by
  generalize hK : (2000000 : Int) = K
  have : (n : Int) < K := by omega
  clear hK
  omega

theorem knRP_ok : ∀ env : Env, env.fn = FNy → KnOk Try.prog env [pcGuessP.ct] := fun env h => knOk_cons knOk_nil (Pc.ct_ok h (x_y guessP_ok (by decide) (by decide)))

set_option maxHeartbeats 1000000 in
theorem restsP_ok : PcOk Try.prog FNy pcRestsP := by
  refine pc_floyd_as (cs := cutRP) (base := 3) mix pcRestsP knRP_ok (Nat.le_refl 3) restsP_rounds restsP_entry invRP (fun ls _ env => (0, (2000000 - vInt (env.val 3)).toNat)) (fun ls i env h => by have := h.1; simp; omega) ?_
  intro ls e0 hf hargs hrng hpre
  simp only [pcRestsP, ArgsE, ArgE] at hargs
  obtain ⟨_, _, rfl, rfl, l, _, rfl, ⟨hl, _⟩, _, _, rfl, rfl, rfl⟩ := hargs
  have hlen := (hrng.1 (.sl [.i64]) l rfl rfl).2
  have hwr := hrng.2.1 (.int .i64) _ rfl rfl
  obtain ⟨k, hk⟩ : ∃ z, vInt (e0.val 0) = z := ⟨_, rfl⟩
  obtain ⟨w, hw⟩ : ∃ z, vInt (e0.val 2) = z := ⟨_, rfl⟩
  simp only [measL, List.length_singleton, Nat.div_one, Nat.zero_add, Nat.reduceAdd, hk, hw, List.headD_cons] at hlen hwr hl ⊢
  have ret : ∀ (env : Env) (code : Int) (o : Option (Nat × Nat)) (M : Mem), restsM k l w = ([], code) → StepG FNy [[k], l, [w]] pcRestsP.id pcRestsP.rks (invRP [[k], l, [w]]) (fun _ env => (0, (2000000 - vInt (env.val 3)).toNat)) o env (.ret (.tuple [.nilslice, .int .i64 code]) M) := by
    intro env code o M h
    refine ⟨[_, _], rfl, ⟨by decide, _, rfl, ?_, trivial⟩, ⟨_, rfl, ?_⟩, rfl⟩
    · simp only [IE.reval, pcRestsP, FNy_118, h]
    · simp only [IE.eval, pcRestsP, Nat.reduceAdd, FNy_119, h, List.headD_cons]
  have no11 : ¬ rightG k w l.length → restsM k l w = ([], 11) := fun h => by rw [restsM, if_pos h]
  refine ⟨?_, fun env hfn => ⟨⟨?_, trivial⟩, ⟨?_, trivial⟩⟩, ?_⟩
  · simp only [atmB, AsOk_cons, AsOk_nil, BE.eval, cmpI, IE.eval, IE.reval, hl, Nat.div_one]
    simp; omega
  · rintro ⟨_, k', l', w', i, hls, h1, h2, h3, q0, q1, q2, q3, h4, h5, q4⟩
    have hm := mayG_at h2 h1 h3 h4 h5
    simp only [preG, nonneg, atmB, AsOk_cons, AsOk_nil, BE.eval, cmpI, IE.eval, IE.reval, IE.aeval, hfn, q0, q1, q2, q3, FNy_117 hm, List.headD_cons, Nat.div_one]
    simp; omega
  · rintro ⟨_, k', l', w', i, hls, h1, h2, h3, q0, q1, q2, q3, h4, h5, q4⟩
    simp only [List.cons.injEq, and_true] at hls
    obtain ⟨rfl, rfl, rfl⟩ := hls
    have hm := mayG_at h2 h1 h3 h4 h5
    have hgm := guess_may hm
    have e1 : binI .add .i64 (i : Int) 1 = ((i + 1 : Nat) : Int) := by simp only [binI]; rw [wrap_i64 (by omega)]; omega
    have no7 : i < l.length → ¬ mayV (cl l i) → restsM k l w = ([], 7) := fun hlt h => by
      rw [restsM, if_neg (by simpa using h2), if_pos]
      intro ha
      rw [cl_get hlt] at h
      exact h (ha _ (List.getElem_mem hlt))
    simp only [allLeaves, AsOk_cons, AsOk_nil, BE.eval, cmpI, IE.eval, IE.reval, IE.aeval, hfn, q0, q1, q2, q3, FNy_117 hm, List.headD_cons, Nat.div_one, and_true, decide_true, decide_eq_true_eq, decide_eq_false_iff_not]
    refine ⟨fun hA => ret env 7 _ _ (no7 (by omega) (by simp only [mayV, cl]; omega)), fun hA => ret env 7 _ _ (no7 (by omega) (by simp only [mayV, cl]; omega)), fun hA => ?_, fun hA => ?_⟩
    · have hlt : i < l.length := by omega
      have hv : mayV (cl l i) := by simp only [mayV, cl]; omega
      have e2 : binI .sub .i64 (cl l i) (guessG k l w i) = restV k l w i := wrap_i64 (by omega)
      refine stepG_cut ⟨rfl, k, l, w, i + 1, rfl, h1, h2, h3, ?_, ?_, ?_, ?_, by omega, fun j hj => ?_, ?_⟩ (Prod.lex_def.2 (.inr ⟨rfl, ?_⟩))
      · simp [upd, lk_cons, lk_nil, q0]
      · simp [upd, lk_cons, lk_nil, q1]
      · simp [upd, lk_cons, lk_nil, q2]
      · simp [upd, lk_cons, lk_nil, IE.eval, q3, e1, vInt_int]
      · by_cases h : j = i
        · rw [h]; exact hv
        · exact h5 j (by omega)
      · simp only [upd, lk_cons, lk_nil, Nat.reduceEqDiff, if_false, if_true, IE.eval, IE.reval, IE.aeval, hfn, q0, q1, q2, q3, q4, FNy_115, List.headD_cons]
        rw [e2, restsL_succ]
        exact set_next (restsL_len ..) hlt
      · simp only [upd, lk_cons, lk_nil, Nat.reduceEqDiff, if_false, if_true, IE.eval, q3, e1, vInt_int]
        exact decM hlt hlen
    · obtain rfl : i = l.length := by omega
      have hg : restsM k l w = (restsL k l w l.length, 0) := by
        rw [restsM, if_neg (by simpa using h2), if_neg]
        simp only [Decidable.not_not]
        intro x hx
        obtain ⟨j, hj, rfl⟩ := List.mem_iff_getElem.1 hx
        have := h5 j hj
        rwa [cl_get hj] at this
      rw [Nat.sub_self, List.replicate_zero, List.append_nil] at q4
      have hl4 : (env.row 4).length = l.length := by rw [q4, restsL_len]
      refine ⟨[_, _], rfl, ⟨by decide, _, rfl, ?_, ?_⟩, ⟨_, rfl, ?_⟩, rfl⟩
      · rw [subE_eval (by simp only [IE.reval, IE.eval, q1, hl4]; simp)]
        simp only [IE.reval, IE.eval, q1, pcRestsP, FNy_118, hg, Nat.div_one]
        rw [q4]
        exact sub_all2 (restsL_len ..).symm
      · refine ⟨by simp only [IE.eval, IE.reval, q1, Nat.div_one]; omega, fun B r cnt ks' h1 h2 => ?_⟩
        obtain rfl := Option.some.inj h1
        cases h2
        exact Int.le_refl _
      · simp only [IE.eval, pcRestsP, Nat.reduceAdd, FNy_119, hg, List.headD_cons]
  · have eR : 1 ≤ w → binI .rem .i64 (l.length : Int) w = (l.length : Int) % w := fun h => by show (l.length : Int).tmod w = _; rw [Int.tmod_eq_emod_of_nonneg (by omega)]
    simp only [allLeaves, AsOk_cons, AsOk_nil, BE.eval, cmpI, IE.eval, IE.reval, hk, hw, hl, eR hwr.1, Nat.div_one, and_true, decide_eq_true_eq, decide_eq_false_iff_not]
    refine ⟨fun hA => ret e0 11 _ _ (no11 (by omega)), fun hA => ret e0 11 _ _ (no11 (by omega)), fun hA => ret e0 11 _ _ (no11 (by omega)), fun hA => ?_, fun hA => ret e0 11 _ _ (no11 fun h => hA.1 h.2.2.2)⟩
    refine stepG_cut0 ⟨rfl, k, l, w, 0, rfl, hlen, ⟨by omega, by omega, by omega, hA.1⟩, hwr.2, ?_, ?_, ?_, ?_, by omega, fun j hj => by omega, ?_⟩
    · simp [upd, lk_cons, lk_nil, hk]
    · simp [upd, lk_cons, lk_nil, hl]
    · simp [upd, lk_cons, lk_nil, hw]
    · simp [upd, lk_cons, lk_nil, IE.eval, vInt_int]
    · simp only [upd, lk_cons, lk_nil, Nat.reduceEqDiff, if_false, if_true, IE.eval, IE.reval, hl, Nat.div_one, repL_rep]
      simp [restsL]

end Go.Proofs.Ytkfejcffacbngaa.J


namespace Go.Proofs.Ytkfejcffacbngaa.J

open Go Go.Sym

set_option linter.unusedVariables false

def pcRestsD : Pc := ⟨87, [.int .i64, .sl [.i64], .int .i64], [.sl 2 [.i64], .int .i64], 118, [(1, 0, 1048576), (2, 1, 1048576)], []⟩

abbrev slRD : List (Nat × SV) := [(0, .sint .i64 (.var 0)), (1, in1), (2, .sint .i64 (.var 2)), (6, .nilslice), (7, .int .i64 0)]
abbrev asRD : As := [(nonneg (.var 3), true), (atmB n1E (.lit 1048576), true)]
abbrev cutRD : Cuts := [
  ([0, 1, 0, 1, 1], ⟨50, slRD ++ [(8, .sint .i64 (.var 3))], [], 0, asRD⟩),
  ([0, 1, 0, 1, 1, 1, 1], ⟨50, slRD ++ [(9, sl0I), (10, .sint .i64 (.var 3))], [blkZ], 1, [preG (.var 3)] ++ asRD⟩),
  ([0, 1, 0, 1, 1, 1, 1], ⟨50, slRD ++ [(9, rowI), (10, .sint .i64 (.var 3))], [blkI], 1, [preG (.var 3)] ++ asRD ++ [(nonneg (.var 5), true), (atmB (.var 5) (.lit 1048576), true), ltR (.lit 17592186044416) (.plus (.var 5) (.lit 1)) false]⟩)]

theorem restsD_entry : entryK Try.prog [pcGuessD.ct] 50 400 87 cutRD 3 (argSVs 0 pcRestsD.aks) 14 [(atmB n1E (.lit 1048576), true)] = some [([(.cmp .eql (.bin .rem .i64 (.rlen (.rvar 1) 1) (.var 2)) (.lit 0), true), (.cmp .lss (.lit 0) (.var 2), true), (.cmp .eql (.var 0) (.lit 0), true), (.not (.cmp .lss (.lit 1048576) (.rlen (.rvar 1) 1)), true)], .cut 0 ⟨[(3, .lit 0)], [], [], []⟩), ([(.cmp .eql (.bin .rem .i64 (.rlen (.rvar 1) 1) (.var 2)) (.lit 0), false), (.cmp .lss (.lit 0) (.var 2), true), (.cmp .eql (.var 0) (.lit 0), true), (.not (.cmp .lss (.lit 1048576) (.rlen (.rvar 1) 1)), true)], .ret (.tuple [.nilslice, .int .i64 11]) ⟨0, .nil⟩), ([(.cmp .lss (.lit 0) (.var 2), false), (.cmp .eql (.var 0) (.lit 0), true), (.not (.cmp .lss (.lit 1048576) (.rlen (.rvar 1) 1)), true)], .ret (.tuple [.nilslice, .int .i64 11]) ⟨0, .nil⟩), ([(.cmp .eql (.bin .rem .i64 (.rlen (.rvar 1) 1) (.var 2)) (.lit 0), true), (.cmp .lss (.lit 0) (.var 2), true), (.cmp .eql (.var 0) (.lit 1), true), (.cmp .eql (.var 0) (.lit 0), false), (.not (.cmp .lss (.lit 1048576) (.rlen (.rvar 1) 1)), true)], .cut 0 ⟨[(3, .lit 0)], [], [], []⟩), ([(.cmp .eql (.bin .rem .i64 (.rlen (.rvar 1) 1) (.var 2)) (.lit 0), false), (.cmp .lss (.lit 0) (.var 2), true), (.cmp .eql (.var 0) (.lit 1), true), (.cmp .eql (.var 0) (.lit 0), false), (.not (.cmp .lss (.lit 1048576) (.rlen (.rvar 1) 1)), true)], .ret (.tuple [.nilslice, .int .i64 11]) ⟨0, .nil⟩), ([(.cmp .lss (.lit 0) (.var 2), false), (.cmp .eql (.var 0) (.lit 1), true), (.cmp .eql (.var 0) (.lit 0), false), (.not (.cmp .lss (.lit 1048576) (.rlen (.rvar 1) 1)), true)], .ret (.tuple [.nilslice, .int .i64 11]) ⟨0, .nil⟩), ([(.cmp .eql (.bin .rem .i64 (.rlen (.rvar 1) 1) (.var 2)) (.lit 0), true), (.cmp .lss (.lit 0) (.var 2), true), (.cmp .eql (.var 0) (.lit 2), true), (.cmp .eql (.var 0) (.lit 1), false), (.cmp .eql (.var 0) (.lit 0), false), (.not (.cmp .lss (.lit 1048576) (.rlen (.rvar 1) 1)), true)], .cut 0 ⟨[(3, .lit 0)], [], [], []⟩), ([(.cmp .eql (.bin .rem .i64 (.rlen (.rvar 1) 1) (.var 2)) (.lit 0), false), (.cmp .lss (.lit 0) (.var 2), true), (.cmp .eql (.var 0) (.lit 2), true), (.cmp .eql (.var 0) (.lit 1), false), (.cmp .eql (.var 0) (.lit 0), false), (.not (.cmp .lss (.lit 1048576) (.rlen (.rvar 1) 1)), true)], .ret (.tuple [.nilslice, .int .i64 11]) ⟨0, .nil⟩), ([(.cmp .lss (.lit 0) (.var 2), false), (.cmp .eql (.var 0) (.lit 2), true), (.cmp .eql (.var 0) (.lit 1), false), (.cmp .eql (.var 0) (.lit 0), false), (.not (.cmp .lss (.lit 1048576) (.rlen (.rvar 1) 1)), true)], .ret (.tuple [.nilslice, .int .i64 11]) ⟨0, .nil⟩), ([(.cmp .eql (.var 0) (.lit 2), false), (.cmp .eql (.var 0) (.lit 1), false), (.cmp .eql (.var 0) (.lit 0), false), (.not (.cmp .lss (.lit 1048576) (.rlen (.rvar 1) 1)), true)], .ret (.tuple [.nilslice, .int .i64 11]) ⟨0, .nil⟩)] := by kernel_rfl

theorem restsD_rounds : roundsK Try.prog [pcGuessD.ct] 50 400 87 cutRD 3 14 cutRD = some [[([(.cmp .lss (.sel (.rvar 1) (.var 3) 1 0) (.lit (-2147483648)), true), (.cmp .lss (.var 3) (.rlen (.rvar 1) 1), true), (.not (.cmp .lss (.var 3) (.lit 0)), true), (.not (.cmp .lss (.lit 1048576) (.rlen (.rvar 1) 1)), true)], .ret (.tuple [.nilslice, .int .i64 7]) ⟨0, .nil⟩), ([(.cmp .lss (.lit 2147483647) (.sel (.rvar 1) (.var 3) 1 0), true), (.cmp .lss (.sel (.rvar 1) (.var 3) 1 0) (.lit (-2147483648)), false), (.cmp .lss (.var 3) (.rlen (.rvar 1) 1), true), (.not (.cmp .lss (.var 3) (.lit 0)), true), (.not (.cmp .lss (.lit 1048576) (.rlen (.rvar 1) 1)), true)], .ret (.tuple [.nilslice, .int .i64 7]) ⟨0, .nil⟩), ([(.cmp .lss (.lit 2147483647) (.sel (.rvar 1) (.var 3) 1 0), false), (.cmp .lss (.sel (.rvar 1) (.var 3) 1 0) (.lit (-2147483648)), false), (.cmp .lss (.var 3) (.rlen (.rvar 1) 1), true), (.not (.cmp .lss (.var 3) (.lit 0)), true), (.not (.cmp .lss (.lit 1048576) (.rlen (.rvar 1) 1)), true)], .cut 0 ⟨[(3, .bin .add .i64 (.var 3) (.lit 1))], [], [], []⟩), ([(.cmp .lss (.var 3) (.rlen (.rvar 1) 1), false), (.not (.cmp .lss (.var 3) (.lit 0)), true), (.not (.cmp .lss (.lit 1048576) (.rlen (.rvar 1) 1)), true)], .cut 1 ⟨[(3, .lit 0)], [], [], [(0, 0)]⟩)], [([(.cmp .lss (.var 3) (.rlen (.rvar 1) 1), true), (.cmp .eql (.app 117 (.acons (.rcons (.var 0) .rnil) (.acons (.rvar 1) (.acons (.rcons (.var 2) .rnil) (.acons (.rcons (.var 3) .rnil) .anil))))) (.lit 1), true), (.not (.cmp .lss (.var 3) (.lit 0)), true), (.not (.cmp .lss (.lit 1048576) (.rlen (.rvar 1) 1)), true)], .cut 2 ⟨[(3, .bin .add .i64 (.var 3) (.lit 1)), (5, .lit 1)], [(4, .rcons (.bin .sub .i64 (.sel (.rvar 1) (.var 3) 1 0) (.app 115 (.acons (.rcons (.var 0) .rnil) (.acons (.rvar 1) (.acons (.rcons (.var 2) .rnil) (.acons (.rcons (.var 3) .rnil) .anil)))))) .rnil)], [], [(0, 2)]⟩), ([(.cmp .lss (.var 3) (.rlen (.rvar 1) 1), false), (.cmp .eql (.app 117 (.acons (.rcons (.var 0) .rnil) (.acons (.rvar 1) (.acons (.rcons (.var 2) .rnil) (.acons (.rcons (.var 3) .rnil) .anil))))) (.lit 1), true), (.not (.cmp .lss (.var 3) (.lit 0)), true), (.not (.cmp .lss (.lit 1048576) (.rlen (.rvar 1) 1)), true)], .ret (.tuple [.slice 0 0 0 0, .int .i64 0]) ⟨1, (.node (some ⟨2, 0, [], .nil, false, none⟩) .nil .nil)⟩)], [([(.cmp .lss (.var 3) (.rlen (.rvar 1) 1), true), (.cmp .eql (.app 117 (.acons (.rcons (.var 0) .rnil) (.acons (.rvar 1) (.acons (.rcons (.var 2) .rnil) (.acons (.rcons (.var 3) .rnil) .anil))))) (.lit 1), true), (.not (.cmp .lss (.var 3) (.lit 0)), true), (.not (.cmp .lss (.lit 1048576) (.rlen (.rvar 1) 1)), true), (.not (.cmp .lss (.var 5) (.lit 0)), true), (.not (.cmp .lss (.lit 1048576) (.var 5)), true), (.cmp .lss (.lit 17592186044416) (.plus (.var 5) (.lit 1)), false)], .cut 2 ⟨[(3, .bin .add .i64 (.var 3) (.lit 1)), (5, .plus (.var 5) (.lit 1))], [(4, .cat (.rvar 4) (.rcons (.bin .sub .i64 (.sel (.rvar 1) (.var 3) 1 0) (.app 115 (.acons (.rcons (.var 0) .rnil) (.acons (.rvar 1) (.acons (.rcons (.var 2) .rnil) (.acons (.rcons (.var 3) .rnil) .anil)))))) .rnil))], [], [(0, 2)]⟩), ([(.cmp .lss (.var 3) (.rlen (.rvar 1) 1), false), (.cmp .eql (.app 117 (.acons (.rcons (.var 0) .rnil) (.acons (.rvar 1) (.acons (.rcons (.var 2) .rnil) (.acons (.rcons (.var 3) .rnil) .anil))))) (.lit 1), true), (.not (.cmp .lss (.var 3) (.lit 0)), true), (.not (.cmp .lss (.lit 1048576) (.rlen (.rvar 1) 1)), true), (.not (.cmp .lss (.var 5) (.lit 0)), true), (.not (.cmp .lss (.lit 1048576) (.var 5)), true), (.cmp .lss (.lit 17592186044416) (.plus (.var 5) (.lit 1)), false)], .ret (.tuple [.rsl (.own 0) (.lit 0) (.var 5) 1, .int .i64 0]) ⟨1, (.node (some ⟨2, 0, [], .nil, true, (some (.rvar 4, (.var 5, [.i64])))⟩) .nil .nil)⟩)]] := by kernel_rfl

end Go.Proofs.Ytkfejcffacbngaa.J


namespace Go.Proofs.Ytkfejcffacbngaa.J

open Go Go.Sym

set_option linter.unusedVariables false

theorem knRD_ok : ∀ env : Env, env.fn = FNy → KnOk Try.prog env [pcGuessD.ct] := fun env h => knOk_cons knOk_nil (Pc.ct_ok h (x_y guessD_ok (by decide) (by decide)))

def invRD (ls : List (List Int)) (c : Nat) (env : Env) : Prop := ∃ (k : Int) (l : List Int) (w : Int) (i : Nat), ls = [[k], l, [w]] ∧ (l.length : Int) ≤ 1048576 ∧ rightG k w l.length ∧ w ≤ 1048576 ∧ vInt (env.val 0) = k ∧ env.row 1 = l ∧ vInt (env.val 2) = w ∧ vInt (env.val 3) = i ∧ i ≤ l.length ∧
  ((c = 0 ∧ ∀ j : Nat, j < i → mayV (cl l j)) ∨ (c = 1 ∧ i = 0 ∧ ∀ j : Nat, j < l.length → mayV (cl l j)) ∨ (c = 2 ∧ (∀ j : Nat, j < l.length → mayV (cl l j)) ∧ env.row 4 = restsL k l w i ∧ vInt (env.val 5) = i))

def muRD (_ : List (List Int)) (c : Nat) (env : Env) : Nat × Nat := (if c = 0 then 1 else 0, (2000000 - vInt (env.val 3)).toNat)

theorem restsM_ok {k : Int} {l : List Int} {w : Int} (h2 : rightG k w l.length) (h5 : ∀ j : Nat, j < l.length → mayV (cl l j)) : restsM k l w = (restsL k l w l.length, 0) := by
  rw [restsM, if_neg (by simpa using h2), if_neg]
  simp only [Decidable.not_not]
  intro x hx
  obtain ⟨j, hj, rfl⟩ := List.mem_iff_getElem.1 hx
  have := h5 j hj
  rwa [cl_get hj] at this

theorem restsM_7 {k : Int} {l : List Int} {w : Int} {i : Nat} (h2 : rightG k w l.length) (hlt : i < l.length) (h : ¬ mayV (cl l i)) : restsM k l w = ([], 7) := by
  rw [restsM, if_neg (by simpa using h2), if_pos]
  intro ha
  rw [cl_get hlt] at h
  exact h (ha _ (List.getElem_mem hlt))

set_option maxHeartbeats 2000000 in
theorem restsD_ok : PcOk Try.prog FNy pcRestsD := by
  refine pc_floyd_w (cs := cutRD) (base := 3) mix pcRestsD knRD_ok (Nat.le_refl 3) restsD_rounds restsD_entry invRD muRD (fun ls i env h => by
    obtain ⟨_, _, _, _, _, _, _, _, _, _, _, _, _, ⟨h, _⟩ | ⟨h, _⟩ | ⟨h, _⟩⟩ := h <;> simp <;> omega) ?_
  intro ls e0 hf hargs hrng hpre
  simp only [pcRestsD, ArgsE, ArgE] at hargs
  obtain ⟨_, _, rfl, rfl, l, _, rfl, ⟨hl, _⟩, _, _, rfl, rfl, rfl⟩ := hargs
  have hlen := (hrng.1 (.sl [.i64]) l rfl rfl).2
  have hwr := hrng.2.1 (.int .i64) _ rfl rfl
  obtain ⟨k, hk⟩ : ∃ z, vInt (e0.val 0) = z := ⟨_, rfl⟩
  obtain ⟨w, hw⟩ : ∃ z, vInt (e0.val 2) = z := ⟨_, rfl⟩
  simp only [measL, List.length_singleton, Nat.div_one, Nat.zero_add, Nat.reduceAdd, hk, hw, List.headD_cons] at hlen hwr hl ⊢
  have ret : ∀ (env : Env) (code : Int) (o : Option (Nat × Nat)) (M : Mem), restsM k l w = ([], code) → StepW FNy [[k], l, [w]] pcRestsD.id pcRestsD.rks (invRD [[k], l, [w]]) (muRD [[k], l, [w]]) o env (.ret (.tuple [.nilslice, .int .i64 code]) M) := by
    intro env code o M h
    refine .inl ⟨[_, _], rfl, ⟨by decide, _, rfl, ?_, trivial⟩, ⟨_, rfl, ?_⟩, rfl⟩
    · simp only [IE.reval, pcRestsD, FNy_118, h]
    · simp only [IE.eval, pcRestsD, Nat.reduceAdd, FNy_119, h, List.headD_cons]
  have no11 : ¬ rightG k w l.length → restsM k l w = ([], 11) := fun h => by rw [restsM, if_pos h]
  refine ⟨?_, fun env hfn => ⟨⟨?_, ?_, ?_, trivial⟩, ⟨?_, ?_, ?_, trivial⟩⟩, ?_⟩
  · simp only [atmB, AsOk_cons, AsOk_nil, BE.eval, cmpI, IE.eval, IE.reval, hl, Nat.div_one]
    simp; omega
  · rintro ⟨k', l', w', i, hls, h1, h2, h3, q0, q1, q2, q3, h4, _⟩
    simp only [asRD, nonneg, atmB, AsOk_cons, AsOk_nil, BE.eval, cmpI, IE.eval, IE.reval, q1, q3, Nat.div_one]
    simp; omega
  · rintro ⟨k', l', w', i, hls, h1, h2, h3, q0, q1, q2, q3, h4, ⟨h, _⟩ | ⟨_, h5, h6⟩ | ⟨h, _⟩⟩
    · cases h
    · have hm := mayG_at h2 h1 h3 h4 (fun j hj => h6 j (by omega))
      simp only [asRD, preG, nonneg, atmB, List.cons_append, List.nil_append, AsOk_cons, AsOk_nil, BE.eval, cmpI, IE.eval, IE.reval, IE.aeval, hfn, q0, q1, q2, q3, FNy_117 hm, List.headD_cons, Nat.div_one]
      simp; omega
    · cases h
  · rintro ⟨k', l', w', i, hls, h1, h2, h3, q0, q1, q2, q3, h4, ⟨h, _⟩ | ⟨h, _⟩ | ⟨_, h6, q4, q5⟩⟩
    · cases h
    · cases h
    · have hm := mayG_at h2 h1 h3 h4 (fun j hj => h6 j (by omega))
      simp only [asRD, preG, nonneg, atmB, ltR, List.cons_append, List.nil_append, AsOk_cons, AsOk_nil, BE.eval, cmpI, IE.eval, IE.reval, IE.aeval, hfn, q0, q1, q2, q3, q5, FNy_117 hm, List.headD_cons, Nat.div_one]
      simp; omega
  · rintro ⟨k', l', w', i, hls, h1, h2, h3, q0, q1, q2, q3, h4, ⟨_, h5⟩ | ⟨h, _⟩ | ⟨h, _⟩⟩
    · simp only [List.cons.injEq, and_true] at hls
      obtain ⟨rfl, rfl, rfl⟩ := hls
      have e1 : binI .add .i64 (i : Int) 1 = ((i + 1 : Nat) : Int) := by simp only [binI]; rw [wrap_i64 (by omega)]; omega
      simp only [allLeaves, AsOk_cons, AsOk_nil, BE.eval, cmpI, IE.eval, IE.reval, q0, q1, q2, q3, Nat.div_one, and_true, decide_eq_true_eq, decide_eq_false_iff_not]
      refine ⟨fun hA => ret env 7 _ _ (restsM_7 (i := i) h2 (by omega) (by simp only [mayV, cl]; omega)), fun hA => ret env 7 _ _ (restsM_7 (i := i) h2 (by omega) (by simp only [mayV, cl]; omega)), fun hA => ?_, fun hA => ?_⟩
      · have hlt : i < l.length := by omega
        have hv : mayV (cl l i) := by simp only [mayV, cl]; omega
        refine .inl ⟨⟨k, l, w, i + 1, rfl, h1, h2, h3, ?_, ?_, ?_, ?_, by omega, .inl ⟨rfl, fun j hj => ?_⟩⟩, fun m hm => ?_⟩
        · simp [upd, lk_cons, lk_nil, q0]
        · simp [upd, lk_cons, lk_nil, q1]
        · simp [upd, lk_cons, lk_nil, q2]
        · simp [upd, lk_cons, lk_nil, IE.eval, q3, e1, vInt_int]
        · by_cases h : j = i
          · rw [h]; exact hv
          · exact h5 j (by omega)
        · cases hm
          refine Prod.lex_def.2 (.inr ⟨rfl, ?_⟩)
          simp only [muRD, upd, lk_cons, lk_nil, Nat.reduceEqDiff, if_false, if_true, IE.eval, q3, e1, vInt_int]
          exact decM hlt hlen
      · obtain rfl : i = l.length := by omega
        refine .inl ⟨⟨k, l, w, 0, rfl, h1, h2, h3, ?_, ?_, ?_, ?_, by omega, .inr (.inl ⟨rfl, rfl, h5⟩)⟩, fun m hm => ?_⟩
        · simp [upd, lk_cons, lk_nil, q0]
        · simp [upd, lk_cons, lk_nil, q1]
        · simp [upd, lk_cons, lk_nil, q2]
        · simp [upd, lk_cons, lk_nil, IE.eval, vInt_int]
        · cases hm
          exact Prod.lex_def.2 (.inl (by simp [muRD]))
    · cases h
    · cases h
  · rintro ⟨k', l', w', i, hls, h1, h2, h3, q0, q1, q2, q3, h4, ⟨h, _⟩ | ⟨_, h5, h6⟩ | ⟨h, _⟩⟩
    · cases h
    · simp only [List.cons.injEq, and_true] at hls
      obtain ⟨rfl, rfl, rfl⟩ := hls
      subst h5
      have hm := mayG_at h2 h1 h3 h4 (fun j hj => h6 j (by omega))
      have hgm := guess_may hm
      have e1 : binI .add .i64 ((0 : Nat) : Int) 1 = ((1 : Nat) : Int) := by decide
      simp only [allLeaves, AsOk_cons, AsOk_nil, BE.eval, cmpI, IE.eval, IE.reval, IE.aeval, hfn, q0, q1, q2, q3, FNy_117 hm, List.headD_cons, Nat.div_one, and_true, decide_true, decide_eq_true_eq, decide_eq_false_iff_not]
      refine ⟨fun hA => ?_, fun hA => ?_⟩
      · have hlt : 0 < l.length := by omega
        have hv := h6 0 hlt
        have e2 : binI .sub .i64 (cl l ((0 : Nat) : Int)) (guessG k l w ((0 : Nat) : Int)) = restV k l w 0 := wrap_i64 (by omega)
        refine .inl ⟨⟨k, l, w, 1, rfl, h1, h2, h3, ?_, ?_, ?_, ?_, by omega, .inr (.inr ⟨rfl, h6, ?_, ?_⟩)⟩, fun m hm => ?_⟩
        · simp [upd, lk_cons, lk_nil, q0]
        · simp [upd, lk_cons, lk_nil, q1]
        · simp [upd, lk_cons, lk_nil, q2]
        · simp only [upd, lk_cons, lk_nil, Nat.reduceEqDiff, if_false, if_true, IE.eval, q3, e1, vInt_int]
        · simp only [upd, lk_cons, lk_nil, Nat.reduceEqDiff, if_false, if_true, IE.eval, IE.reval, IE.aeval, hfn, q0, q1, q2, q3, FNy_115, List.headD_cons]
          rw [e2]; rfl
        · simp only [upd, lk_cons, lk_nil, Nat.reduceEqDiff, if_false, if_true, IE.eval, vInt_int]; rfl
        · cases hm
          refine Prod.lex_def.2 (.inr ⟨rfl, ?_⟩)
          simp only [muRD, upd, lk_cons, lk_nil, Nat.reduceEqDiff, if_false, if_true, IE.eval, q3, e1, vInt_int]
          exact decM hlt hlen
      · have hl0 : l.length = 0 := by omega
        have hg := restsM_ok h2 h6
        have hr0 : restsL k l w l.length = [] := by rw [hl0]; rfl
        rw [hr0] at hg
        refine .inr ⟨_, _, _, rfl, weak_e0, [_, _], rfl, ⟨by decide, _, rfl, ?_, trivial⟩, ⟨_, rfl, ?_⟩, rfl⟩
        · simp only [IE.reval, pcRestsD, FNy_118, hg]
        · simp only [IE.eval, pcRestsD, Nat.reduceAdd, FNy_119, hg, List.headD_cons]
    · cases h
  · rintro ⟨k', l', w', i, hls, h1, h2, h3, q0, q1, q2, q3, h4, ⟨h, _⟩ | ⟨h, _⟩ | ⟨_, h6, q4, q5⟩⟩
    · cases h
    · cases h
    · simp only [List.cons.injEq, and_true] at hls
      obtain ⟨rfl, rfl, rfl⟩ := hls
      have hm := mayG_at h2 h1 h3 h4 (fun j hj => h6 j (by omega))
      have hgm := guess_may hm
      have e1 : binI .add .i64 (i : Int) 1 = ((i + 1 : Nat) : Int) := by simp only [binI]; rw [wrap_i64 (by omega)]; omega
      simp only [allLeaves, AsOk_cons, AsOk_nil, BE.eval, cmpI, IE.eval, IE.reval, IE.aeval, hfn, q0, q1, q2, q3, FNy_117 hm, List.headD_cons, Nat.div_one, and_true, decide_true, decide_eq_true_eq, decide_eq_false_iff_not]
      refine ⟨fun hA => ?_, fun hA => ?_⟩
      · have hlt : i < l.length := by omega
        have hv := h6 i hlt
        have e2 : binI .sub .i64 (cl l i) (guessG k l w i) = restV k l w i := wrap_i64 (by omega)
        refine .inl ⟨⟨k, l, w, i + 1, rfl, h1, h2, h3, ?_, ?_, ?_, ?_, by omega, .inr (.inr ⟨rfl, h6, ?_, ?_⟩)⟩, fun m hm => ?_⟩
        · simp [upd, lk_cons, lk_nil, q0]
        · simp [upd, lk_cons, lk_nil, q1]
        · simp [upd, lk_cons, lk_nil, q2]
        · simp [upd, lk_cons, lk_nil, IE.eval, q3, e1, vInt_int]
        · simp only [upd, lk_cons, lk_nil, Nat.reduceEqDiff, if_false, if_true, IE.eval, IE.reval, IE.aeval, hfn, q0, q1, q2, q3, q4, FNy_115, List.headD_cons]
          rw [e2, restsL_succ]
        · simp [upd, lk_cons, lk_nil, IE.eval, q5, vInt_int]
        · cases hm
          refine Prod.lex_def.2 (.inr ⟨rfl, ?_⟩)
          simp only [muRD, upd, lk_cons, lk_nil, Nat.reduceEqDiff, if_false, if_true, IE.eval, q3, e1, vInt_int]
          exact decM hlt hlen
      · obtain rfl : i = l.length := by omega
        have hg := restsM_ok h2 h6
        have hl4 : (env.row 4).length = l.length := by rw [q4, restsL_len]
        refine .inl ⟨[_, _], rfl, ⟨by decide, _, rfl, ?_, ?_⟩, ⟨_, rfl, ?_⟩, rfl⟩
        · rw [subE_eval (by simp only [IE.reval, IE.eval, q5, hl4]; simp)]
          simp only [IE.reval, IE.eval, q5, pcRestsD, FNy_118, hg]
          rw [q4]
          exact sub_all2 (restsL_len ..).symm
        · refine ⟨by simp only [IE.eval, q5]; omega, fun B r cnt ks' h1 h2 => ?_⟩
          obtain rfl := Option.some.inj h1
          cases h2
          exact Int.le_refl _
        · simp only [IE.eval, pcRestsD, Nat.reduceAdd, FNy_119, hg, List.headD_cons]
  · have eR : 1 ≤ w → binI .rem .i64 (l.length : Int) w = (l.length : Int) % w := fun h => by show (l.length : Int).tmod w = _; rw [Int.tmod_eq_emod_of_nonneg (by omega)]
    have start : ∀ hR : rightG k w l.length, StepW FNy [[k], l, [w]] pcRestsD.id pcRestsD.rks (invRD [[k], l, [w]]) (muRD [[k], l, [w]]) none e0 (.cut 0 ⟨[(3, .lit 0)], [], [], []⟩) := by
      intro hR
      refine .inl (stepG_cut0 ⟨k, l, w, 0, rfl, hlen, hR, hwr.2, ?_, ?_, ?_, ?_, by omega, .inl ⟨rfl, fun j hj => by omega⟩⟩)
      · simp [upd, lk_cons, lk_nil, hk]
      · simp [upd, lk_cons, lk_nil, hl]
      · simp [upd, lk_cons, lk_nil, hw]
      · simp [upd, lk_cons, lk_nil, IE.eval, vInt_int]
    simp only [allLeaves, AsOk_cons, AsOk_nil, BE.eval, cmpI, IE.eval, IE.reval, hk, hw, hl, eR hwr.1, Nat.div_one, and_true, decide_eq_true_eq, decide_eq_false_iff_not]
    refine ⟨fun hA => start ⟨by omega, by omega, by omega, hA.1⟩, fun hA => ret e0 11 _ _ (no11 fun h => hA.1 h.2.2.2), fun hA => ret e0 11 _ _ (no11 (by omega)), fun hA => start ⟨by omega, by omega, by omega, hA.1⟩, fun hA => ret e0 11 _ _ (no11 fun h => hA.1 h.2.2.2), fun hA => ret e0 11 _ _ (no11 (by omega)), fun hA => start ⟨by omega, by omega, by omega, hA.1⟩, fun hA => ret e0 11 _ _ (no11 fun h => hA.1 h.2.2.2), fun hA => ret e0 11 _ _ (no11 (by omega)), fun hA => ret e0 11 _ _ (no11 (by omega))⟩

end Go.Proofs.Ytkfejcffacbngaa.J

