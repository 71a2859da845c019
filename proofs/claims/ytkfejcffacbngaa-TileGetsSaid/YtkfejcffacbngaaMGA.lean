import Derived.Test.YtkfejcffacbngaaProg
import Derived.Test.YtkfejcffacbngaaSyCd
import Derived.RangeFuncBox
import Derived.RangeFuncLeaves
import Derived.RangeFuncCalls
import Derived.Shelf.Abstract
import Derived.WalkKit
import Derived.OwnWalkIn
import Derived.TacticsInMore
import Derived.LoopNIn
import Derived.LoopIn
import Derived.Maps.AppendAt
import Derived.Lib.Strings
import Derived.Lib.Slices
import Derived.Lib.Small
import Derived.Lib.Walk
import Derived.Lib.BitFns
import Derived.RangeFuncNested
import Derived.Shelf.RegionOpen
import Derived.RangeFuncFrom
import Derived.RangeFuncWrites
import Derived.Test.YtkfejcffacbngaaW
import Derived.Maps.OwnIn
import Derived.Lib.SliceRun


namespace Go.Proofs.Ytkfejcffacbngaa.J

open Go Go.Sym

set_option linter.unusedVariables false

theorem mix : Try.prog.follows .mixedOrders = true := by kernel_rfl

def lebN : Nat → Int → List Int
  | 0, u => [u]
  | k + 1, u => if u < 128 then [u] else (u % 128 + 128) :: lebN k (u / 128)

def g81 : List (List Int) → List Int
  | [b, [u]] => b ++ lebN 10 u
  | _ => []

def g82 : List (List Int) → List Int
  | [[u]] => lebN 10 u
  | _ => []

def FNa : Nat → List (List Int) → List Int
  | 81, l => g81 l
  | 82, l => g82 l
  | _, _ => []

theorem FNa_81 (b : List Int) (u : Int) : FNa 81 [b, [u]] = b ++ lebN 10 u := rfl
def pcLeb : Pc := ⟨76, [.sl [.u8], .int .u64], [.sl 5 [.u8]], 81, [(0, 0, 4294967296), (1, 0, 18446744073709551615)], []⟩

abbrev lnB : IE := .rlen (.rvar 0) 1

abbrev grow : IE := .bin .sub .i64 (.bin .add .i64 lnB (.lit 10)) (.lit 0)

abbrev asL : As := [(.cmp .lss (.lit 140737488355328) grow, false), (.cmp .lss (.lit 0) grow, true), (.cmp .lss (.bin .add .i64 lnB (.lit 10)) (.lit 0), false), (atmB lnB (.lit 4294967296), true)]

abbrev oB (r n : Nat) : Nat × Blk := (0, ⟨5, 0, [], .nil, true, some (.rvar r, .var n, [.u8])⟩)

abbrev asO : As := [(nonneg (.var 3), true), (atmB (.var 3) (.lit 8589934592), true)]

abbrev cutLeb : Cuts := [([0, 0, 1, 1, 1], ⟨28, [(1, .sint .u64 (.var 4)), (5, .rsl (.own 0) (.lit 0) (.var 3) 1)], [oB 2 3], 1, asO⟩)]

theorem leb_entry : entryK Try.prog [] 50 200 76 cutLeb 2 (argSVs 0 pcLeb.aks) 30 asL = some [([(.cmp .lss (.lit 140737488355328) (.bin .sub .i64 (.bin .add .i64 (.rlen (.rvar 0) 1) (.lit 10)) (.lit 0)), false), (.cmp .lss (.lit 0) (.bin .sub .i64 (.bin .add .i64 (.rlen (.rvar 0) 1) (.lit 10)) (.lit 0)), true), (.cmp .lss (.bin .add .i64 (.rlen (.rvar 0) 1) (.lit 10)) (.lit 0), false), (.not (.cmp .lss (.lit 4294967296) (.rlen (.rvar 0) 1)), true)], .cut 0 ⟨[(3, .rlen (.rvar 0) 1), (4, .var 1)], [(2, .cat (.sub (.rep (.bin .sub .i64 (.bin .add .i64 (.rlen (.rvar 0) 1) (.lit 10)) (.lit 0)) (.rcon [0])) (.lit 0) (.lit 0) 1) (.rvar 0))], [], [(0, 1)]⟩)] := by kernel_rfl

theorem leb_rounds : roundsK Try.prog [] 50 200 76 cutLeb 2 30 cutLeb = some [[([(.cmp .lss (.var 4) (.lit 128), true), (.not (.cmp .lss (.var 3) (.lit 0)), true), (.not (.cmp .lss (.lit 8589934592) (.var 3)), true)], .ret (.rsl (.own 2) (.lit 0) (.plus (.var 3) (.lit 1)) 1) ⟨3, (.node none (.node (some ⟨5, 1, [.sint .u8 (.wrap .u8 (.var 4))], .nil, false, none⟩) .nil .nil) (.node (some ⟨5, 0, [], .nil, true, (some (.cat (.rvar 2) (.rcons (.wrap .u8 (.var 4)) .rnil), (.plus (.var 3) (.lit 1), [.u8])))⟩) .nil .nil))⟩), ([(.cmp .lss (.var 4) (.lit 128), false), (.not (.cmp .lss (.var 3) (.lit 0)), true), (.not (.cmp .lss (.lit 8589934592) (.var 3)), true)], .cut 0 ⟨[(3, .plus (.var 3) (.lit 1)), (4, .bin .shr .u64 (.var 4) (.lit 7))], [(2, .cat (.rvar 2) (.rcons (.bin .or .u8 (.wrap .u8 (.var 4)) (.lit 128)) .rnil))], [], [(0, 2)]⟩)]] := by kernel_rfl

end Go.Proofs.Ytkfejcffacbngaa.J


namespace Go.Proofs.Ytkfejcffacbngaa.J

open Go Go.Sym

set_option linter.unusedVariables false

theorem wrap_u8 (z : Int) : IntKind.u8.wrap z = z % 256 := by simp [IntKind.wrap, IntKind.bits, IntKind.signed]

theorem or128_all : ((List.range 256).all fun x => decide (binI .or .u8 (x : Int) 128 = (x : Int) % 128 + 128)) = true := by kernel_rfl

theorem or128 {v : Int} : binI .or .u8 (IntKind.u8.wrap v) 128 = v % 128 + 128 := by
  rw [wrap_u8]
  have h := List.all_eq_true.1 or128_all (v % 256).toNat (List.mem_range.2 (by omega))
  have h := of_decide_eq_true h
  rw [show (((v % 256).toNat : Nat) : Int) = v % 256 by omega] at h
  rw [h]; omega

theorem shr7 {v : Int} (h : 0 ≤ v) : binI .shr .u64 v 7 = v / 128 := by
  have e : min (7 : Int).toNat (IntKind.u64).bits = 7 := by decide
  simp only [binI, e]
  exact Int.fdiv_eq_ediv_of_nonneg _ (by decide)

theorem lebN_lt {k : Nat} {v : Int} (h : v < 128) : lebN k v = [v] := by
  cases k with
  | zero => rfl
  | succ k => rw [lebN, if_pos h]

theorem lebN_ge {k : Nat} {v : Int} (h : 128 ≤ v) : lebN (k + 1) v = (v % 128 + 128) :: lebN k (v / 128) := by
  rw [lebN, if_neg (by omega)]

/-- The tail of a number's bytes: what is still to be written. -/
def Todo (out : List Int) (v : Int) (all : List Int) (n : Nat) : Prop := ∃ k : Nat, k ≤ 10 ∧ 0 ≤ v ∧ v < 18446744073709551616 ∧ v < 128 ^ (k + 1) ∧ out ++ lebN k v = all ∧ out.length + k = n + 10

theorem todo_end {out : List Int} {v : Int} {all : List Int} {n : Nat} (h : Todo out v all n) (hv : v < 128) : out ++ [v] = all := by
  obtain ⟨k, _, _, _, _, h, _⟩ := h
  rw [← h, lebN_lt hv]

theorem todo_step {out : List Int} {v : Int} {all : List Int} {n : Nat} (h : Todo out v all n) (hv : 128 ≤ v) : Todo (out ++ [v % 128 + 128]) (v / 128) all n ∧ out.length < n + 10 := by
  obtain ⟨k, h1, h2, h3, h4, h5, h6⟩ := h
  match k, h1, h4, h5, h6 with
  | 0, _, h4, _, _ => simp at h4; omega
  | k + 1, h1, h4, h5, h6 =>
    refine ⟨⟨k, by omega, by omega, by omega, ?_, ?_, ?_⟩, by omega⟩
    · rw [Int.pow_succ] at h4; omega
    · rw [← h5, lebN_ge hv]; simp
    · simp; omega

theorem todo_len {out : List Int} {v : Int} {all : List Int} {n : Nat} (h : Todo out v all n) : out.length ≤ n + 10 := by
  obtain ⟨k, _, _, _, _, _, h⟩ := h; omega

def invLeb (ls : List (List Int)) (c : Nat) (env : Env) : Prop := c = 0 ∧ ∃ b u, ls = [b, [u]] ∧ (b.length : Int) ≤ 4294967296 ∧ vInt (env.val 3) = ((env.row 2).length : Int) ∧ Todo (env.row 2) (vInt (env.val 4)) (b ++ lebN 10 u) b.length

theorem leb_ok : PcOk Try.prog FNa pcLeb := by
  refine pc_floyd_as (cs := cutLeb) (aa := asL) (base := 2) mix pcLeb (fun _ _ => knOk_nil) (Nat.le_refl 2) leb_rounds leb_entry invLeb (fun ls _ env => (0, ((ls.headD []).length + 10 - (env.row 2).length))) (fun ls i env h => by have := h.1; simp; omega) ?_
  intro ls e0 hf hargs hrng hpre
  simp only [pcLeb, ArgsE, ArgE] at hargs
  obtain ⟨b, _, rfl, ⟨hb, _⟩, u', _, rfl, hu, rfl⟩ := hargs
  obtain ⟨u, huv⟩ : ∃ z, vInt (e0.val 1) = z := ⟨_, rfl⟩
  simp only [Nat.zero_add, huv] at hu
  subst hu
  have hlen := (hrng.1 (.sl [.u8]) b rfl rfl).2
  have hur := hrng.2.1 (.int .u64) [u] rfl rfl
  simp only [measL, List.length_singleton, Nat.div_one, List.headD_cons] at hlen hur
  have e10 : binI .add .i64 (b.length : Int) 10 = (b.length : Int) + 10 := wrap_i64 (by omega)
  have e0' : binI .sub .i64 ((b.length : Int) + 10) 0 = (b.length : Int) + 10 := by simp only [binI]; rw [wrap_i64 (by omega)]; omega
  refine ⟨?_, fun env hfn => ⟨⟨?_, trivial⟩, ⟨?_, trivial⟩⟩, ?_⟩
  · simp only [asL, atmB, AsOk_cons, AsOk_nil, BE.eval, cmpI, IE.eval, IE.reval, hb, Nat.div_one, e10, e0']
    simp; omega
  · rintro ⟨_, b', u', hl, h1, h2, h3⟩
    have := todo_len h3
    simp only [asO, nonneg, atmB, AsOk_cons, AsOk_nil, BE.eval, cmpI, IE.eval, h2]
    simp; omega
  · rintro ⟨_, b', u', hl, h1, h2, h3⟩
    simp only [List.cons.injEq, and_true] at hl
    obtain ⟨rfl, rfl⟩ := hl
    have hv : 0 ≤ vInt (env.val 4) := by obtain ⟨_, _, h, _⟩ := h3; exact h
    simp only [allLeaves, AsOk_cons, AsOk_nil, BE.eval, cmpI, IE.eval, and_true]
    refine ⟨fun hA => ?_, fun hA => ?_⟩
    · have hA := of_decide_eq_true hA.1
      have hend := todo_end h3 hA
      refine ⟨[_], rfl, ⟨by decide, _, rfl, ?_, ?_⟩, rfl⟩
      · have e : IntKind.u8.wrap (vInt (env.val 4)) = vInt (env.val 4) := by rw [wrap_u8]; omega
        rw [subE_eval (by simp only [IE.reval, IE.eval, h2]; simp)]
        simp only [IE.reval, IE.eval, h2, subL, e, pcLeb, FNa_81, hend]
        have e2 : ((env.row 2).length + 1 : Int).toNat * [IntKind.u8].length = (b ++ lebN 10 u).length := by rw [← hend]; simp
        rw [e2, List.take_of_length_le (Nat.le_refl _)]; simp
      · refine ⟨by simp only [IE.eval, h2]; omega, fun B r cnt ks' h1 h2 => ?_⟩
        obtain rfl := Option.some.inj h1
        cases h2
        exact Int.le_refl _
    · have hA := of_decide_eq_false hA.1
      obtain ⟨h5, h6⟩ := todo_step h3 (by omega)
      refine stepG_cut ⟨rfl, b, u, rfl, h1, ?_, ?_⟩ (Prod.lex_def.2 (.inr ⟨rfl, ?_⟩))
      · simp [upd, lk_cons, lk_nil, IE.eval, IE.reval, h2, vInt_int]
      · simp only [upd, lk_cons, lk_nil, Nat.reduceEqDiff, if_false, if_true, IE.eval, IE.reval, vInt_int, or128, shr7 hv]
        exact h5
      · simp [upd, lk_cons, lk_nil, IE.eval, IE.reval]
        omega
  · simp only [allLeaves, AsOk_cons, AsOk_nil, BE.eval, cmpI, IE.eval, IE.reval, hb, and_true]
    intro hA
    refine stepG_cut0 ⟨rfl, b, u, rfl, hlen, ?_, ?_⟩
    · simp [upd, lk_cons, lk_nil, IE.eval, IE.reval, hb, subL, vInt_int]
    · refine ⟨10, Nat.le_refl _, ?_⟩
      simp [upd, lk_cons, lk_nil, IE.eval, IE.reval, hb, subL, vInt_int, huv]
      omega

end Go.Proofs.Ytkfejcffacbngaa.J


namespace Go.Proofs.Ytkfejcffacbngaa.J

open Go Go.RowKit Go.Shelf

set_option linter.unusedVariables false

attribute [local go_sem] Oper.semAt_some

/-- how many noughts a row begins with -/
def zc : List Int → Nat
  | [] => 0
  | x :: l => if x = 0 then zc l + 1 else 0

/-- how many numbers the first run has -/
def rl : List Int → Nat
  | [] => 0
  | x :: l => if x = 0 then zc l + 1 else 1

def runsF : Nat → List Int → List (Int × Int)
  | 0, _ => []
  | _ + 1, [] => []
  | f + 1, x :: l => (x, (rl (x :: l) : Int)) :: runsF f ((x :: l).drop (rl (x :: l)))

def runsL (l : List Int) : List (Int × Int) := runsF l.length l

theorem rl_pos {x : Int} {l : List Int} : 1 ≤ rl (x :: l) := by
  rw [rl]; split <;> omega

theorem runsF_more : ∀ (f g : Nat) (l : List Int), l.length ≤ f → l.length ≤ g → runsF f l = runsF g l := by
  intro f
  induction f with
  | zero =>
    intro g l h1 h2
    obtain rfl : l = [] := List.eq_nil_of_length_eq_zero (by omega)
    cases g <;> rfl
  | succ f ih =>
    intro g l h1 h2
    cases l with
    | nil => cases g <;> rfl
    | cons x l =>
      cases g with
      | zero => simp at h2
      | succ g =>
        have := rl_pos (x := x) (l := l)
        simp only [List.length_cons] at h1 h2
        rw [runsF, runsF, ih g ((x :: l).drop (rl (x :: l))) (by simp; omega) (by simp; omega)]

theorem runsL_cons (x : Int) (l : List Int) : runsL (x :: l) = (x, (rl (x :: l) : Int)) :: runsL ((x :: l).drop (rl (x :: l))) := by
  have := rl_pos (x := x) (l := l)
  rw [runsL, List.length_cons, runsF, runsL]
  rw [runsF_more l.length _ _ (by simp; omega) (Nat.le_refl _)]

theorem zc_eq : ∀ (l : List Int) (m : Nat), (∀ j, j < m → l[j]? = some 0) → l[m]? ≠ some 0 → zc l = m
  | [], m, h1, h2 => by
    cases m with
    | zero => rfl
    | succ m => have := h1 0 (by omega); simp at this
  | x :: l, 0, h1, h2 => by
    have : ¬ x = 0 := fun e => h2 (by simp [e])
    rw [zc, if_neg this]
  | x :: l, m + 1, h1, h2 => by
    have h0 := h1 0 (by omega)
    simp at h0
    rw [zc, if_pos h0, zc_eq l m (fun j hj => by simpa using h1 (j + 1) (by omega)) (by simpa using h2)]

/-- A run's end is found. -/
theorem rl_at {zs : List Int} {k m : Nat} (hk : k + m ≤ zs.length) (hm : 1 ≤ m) (h0 : zs[k]?.getD 0 = 0 → (∀ j, j < m → zs[k + j]?.getD 0 = 0) ∧ (k + m < zs.length → zs[k + m]?.getD 0 ≠ 0)) (h1 : zs[k]?.getD 0 ≠ 0 → m = 1) :
    rl (zs.drop k) = m := by
  have hlt : k < zs.length := by omega
  rw [List.drop_eq_getElem_cons hlt]
  have hg : zs[k]?.getD 0 = zs[k] := by simp [hlt]
  rw [rl]
  split
  · rename_i hz
    obtain ⟨a, b⟩ := h0 (by rw [hg, hz])
    obtain ⟨n, rfl⟩ : ∃ n, m = n + 1 := ⟨m - 1, by omega⟩
    rw [zc_eq _ n]
    · intro j hj
      have h2 := a (j + 1) (by omega)
      have h3 : k + 1 + j < zs.length := by omega
      rw [List.getElem?_drop, List.getElem?_eq_getElem h3]
      rw [show k + (j + 1) = k + 1 + j by omega, List.getElem?_eq_getElem h3] at h2
      simpa using h2
    · rw [List.getElem?_drop]
      intro h
      have h3 : k + 1 + n < zs.length := (List.getElem?_eq_some_iff.1 h).1
      exact b (by omega) (by rw [show k + (n + 1) = k + 1 + n by omega, h]; rfl)
  · rename_i hz
    rw [h1 (by rw [hg]; exact hz)]

theorem runs_at {zs : List Int} {k m : Nat} (hk : k + m ≤ zs.length) (hm : 1 ≤ m) (h0 : zs[k]?.getD 0 = 0 → (∀ j, j < m → zs[k + j]?.getD 0 = 0) ∧ (k + m < zs.length → zs[k + m]?.getD 0 ≠ 0)) (h1 : zs[k]?.getD 0 ≠ 0 → m = 1) :
    runsL (zs.drop k) = (zs[k]?.getD 0, (m : Int)) :: runsL (zs.drop (k + m)) := by
  have h := rl_at hk hm h0 h1
  have hlt : k < zs.length := by omega
  have hg : zs[k]?.getD 0 = zs[k] := by simp [hlt]
  have e := List.drop_eq_getElem_cons hlt
  rw [e] at h
  rw [e, runsL_cons, h, ← e, List.drop_drop, hg]

theorem hide {p : Prop} (h : p) : Hid p := h

abbrev encP (p : Int × Int) : Array Value := #[.int .i64 p.1, .int .i64 p.2]

end Go.Proofs.Ytkfejcffacbngaa.J


namespace Go.Proofs.Ytkfejcffacbngaa.J

open Go Go.RowKit Go.Shelf

set_option linter.unusedVariables false

attribute [local go_sem] Oper.semAt_some

/-- What a body keeps: two blocks' cells. -/
def Keep2 (b c : Nat) (A B : World) : Prop := ∀ (k o : Nat) v, k = b ∨ k = c → A.cell? ⟨k, o, none⟩ = some v → B.cell? ⟨k, o, none⟩ = some v
theorem Keep2.refl (b c : Nat) (A : World) : Keep2 b c A A := fun _ _ _ _ h => h
theorem Keep2.trans {b c : Nat} {A B C : World} (h : Keep2 b c A B) (h' : Keep2 b c B C) : Keep2 b c A C := fun k o v hk hv => h' k o v hk (h k o v hk hv)
theorem Keep2.of_below {b c N : Nat} {A B : World} (h : Below N A B) (hb : b < N) (hc : c < N) : Keep2 b c A B := fun k o v hk hv => by
  have : k < N := by rcases hk with rfl | rfl <;> assumption
  exact (h.cell (p := ⟨k, o, none⟩) this).trans hv
theorem keep2_t {b c : Nat} : ∀ {A B C : World}, Keep2 b c A B → Keep2 b c B C → Keep2 b c A C := Keep2.trans
theorem keep2_b {b c : Nat} {N : Nat} : ∀ (W : World) (l : Nat) (o o' : Obj), N ≤ l → W.heap[l]? = some o → o.isCells = false → o.isWalk = false → Keep2 b c W (W.putObj l o') :=
  fun W l o o' _ ho hc _ k q v hk hv => cell_kept hv (grownBy_putObj' _ l o') (fun r e => by cases e; exact ⟨_, ho, hc⟩)

set_option maxRecDepth 100000 in
set_option maxHeartbeats 4000000 in
/-- the closure of runs.each, for every body that keeps the two blocks -/
theorem each1_in (F : Fence) (n : Nat) (h7 : F.fn 117) (hro : F.round = none) (hn : 1 ≤ n) (l Bs b off len cap : Nat) (zs : List Int) (hlen : zs.length = len) (hreach : len ≤ 1000000) (J Jx : List (Int × Int) → World → Prop)
    (hY : ∀ pre x W, J pre W → pre.length < len → YieldAt F (n - 1) Try.prog l #[.int .i64 x.1, .int .i64 x.2] W fun e W' =>
      (e = .returned (.bool true) ∧ J (pre ++ [x]) W' ∧ Keep2 b Bs W W') ∨ (e = .returned (.bool false) ∧ Jx (pre ++ [x]) W'))
    (W : World) (hBs : W.cell? ⟨Bs, 0, none⟩ = some (.slice (some ⟨b, off, none⟩) len cap)) (hc : ∀ j, j < len → W.cell? ⟨b, off + j, none⟩ = some (.int .i64 (zs[j]?.getD 0))) (h0 : J [] W) :
    CallsIn F n Try.prog 117 #[.func (.yield l) #[] #[], .pointer (some ⟨Bs, 0, none⟩)] W fun e W' => (∃ v, e = .returned v) ∧
      ((∃ ys, ys = runsL zs ∧ J ys W') ∨ (∃ pre, True ∧ Jx pre W')) := by
  refine callsIn_of_wp Try.func117 rfl h7 ?_ hro
  simp only [Try.ntmps117, List.size_toArray, List.length_cons, List.length_nil, Nat.reduceAdd, Nat.reduceSub, Array.replicate_succ, Array.replicate_zero, List.push_toArray, List.append_toArray, List.nil_append, List.cons_append]
  gi_wp2
  gi_loopw [3] (fun i wr => ∃ (k : Nat) (pre : List (Int × Int)), k ≤ len ∧ i = .int .i64 k ∧ pre.length ≤ k ∧ pre ++ runsL (zs.drop k) = runsL zs ∧ J pre wr ∧ Keep2 b Bs W wr)
    (fun i _ => len - (intOf i).toNat)
  case atStart => exact ⟨0, [], Nat.zero_le _, rfl, Nat.le_refl _, rfl, h0, Keep2.refl _ _ _⟩
  case round =>
    obtain ⟨k, pre, hk, rfl, hpl, hpr, hJs, hnx⟩ := hrel
    have hBw : wr.cell? ⟨Bs, 0, none⟩ = some (.slice (some ⟨b, off, none⟩) len cap) := hnx Bs 0 _ (.inr rfl) hBs
    by_cases hlt : k < len
    · obtain ⟨x, hx⟩ : ∃ x, zs[k]?.getD 0 = x := ⟨_, rfl⟩
      have hcx : wr.cell? ⟨b, off + k, none⟩ = some (.int .i64 x) := by rw [← hx]; exact hnx b _ _ (.inl rfl) (hc k hlt)
      have HC : Hid (∀ j, j < len → wr.cell? ⟨b, off + j, none⟩ = some (.int .i64 (zs[j]?.getD 0))) := fun j hj => hnx b _ _ (.inl rfl) (hc j hj)
      have HY := hide hY
      have HP := hide hpr
      have HX := hide hx
      have HL := hide hlen
      clear hY hpr hx hlen hc hBs
      gi_wp2
      gi_loop [4] (fun m => ∃ j : Nat, m = .int .i64 j ∧ 1 ≤ j ∧ k + j ≤ len ∧ (x = 0 → ∀ i, i < j → zs[k + i]?.getD 0 = 0) ∧ (x ≠ 0 → j = 1)) (fun m => len - (intOf m).toNat)
      case atStart => exact ⟨1, rfl, Nat.le_refl _, by omega, fun h i hi => by obtain rfl : i = 0 := by omega
                                                                               simpa [HX.out] using h, fun _ => rfl⟩
      case round =>
        obtain ⟨j, rfl, hj1, hj2, hj3, hj4⟩ := hrel
        obtain ⟨y, hy⟩ : ∃ y, zs[k + j]?.getD 0 = y := ⟨_, rfl⟩
        have HYY := hide hy
        have H3 := hide hj3
        have H4 := hide hj4
        clear hj3 hj4 hy
        by_cases hgo : x = 0 ∧ k + j < len ∧ y = 0
        · obtain ⟨hz, hl2, hw⟩ := hgo
          have hcy : wr.cell? ⟨b, off + (k + j), none⟩ = some (.int .i64 y) := by rw [← HYY.out]; exact HC.out (k + j) hl2
          gi_wp2
          refine ⟨⟨j + 1, by simp, by omega, by omega, fun _ i hi => ?_, fun h => absurd hz h⟩, by simp [intOf]; omega⟩
          by_cases hij : i = j
          · subst hij; rw [HYY.out, hw]
          · exact H3.out hz i (by omega)
        · have hrun : runsL (zs.drop k) = (x, (j : Int)) :: runsL (zs.drop (k + j)) := by
            have := runs_at (zs := zs) (k := k) (m := j) (by rw [HL.out]; omega) hj1 (fun h => ⟨H3.out (by rw [← HX.out]; exact h), fun h2 h3 => hgo ⟨by rw [← HX.out]; exact h, by rw [← HL.out]; exact h2, by rw [← HYY.out]; exact h3⟩⟩) (fun h => H4.out (by rw [← HX.out]; exact h))
            rwa [HX.out] at this
          have HRUN := hide hrun
          obtain ⟨fn, tmps, assign, body, hy, hR⟩ := HY.out pre (x, (j : Int)) wr hJs (by omega)
          dsimp only at hy
          have hk3 : (x = 0 ∧ k + j < len ∧ ¬ y = 0) ∨ (x = 0 ∧ ¬ k + j < len) ∨ ¬ x = 0 := by omega
          clear hrun hgo
          have hnext : ∀ W3, J (pre ++ [(x, (j : Int))]) W3 → Keep2 b Bs wr W3 → ∃ (k' : Nat) (pre' : List (Int × Int)), k' ≤ len ∧ Value.int IntKind.i64 ((k : Int) + (j : Int)) = .int .i64 k' ∧ pre'.length ≤ k' ∧ pre' ++ runsL (zs.drop k') = runsL zs ∧ J pre' W3 ∧ Keep2 b Bs W W3 := fun W3 h1 h2 =>
            ⟨k + j, pre ++ [(x, (j : Int))], hj2, by simp, by simp; omega, by rw [← HP.out, HRUN.out]; simp, h1, hnx.trans h2⟩
          have HN := hide hnext
          clear hnext
          have hstop : ∀ W3, Jx (pre ++ [(x, (j : Int))]) W3 → (∃ pre, True ∧ Jx pre W3) := fun W3 h => ⟨_, trivial, h⟩
          have HS := hide hstop
          clear hstop
          rcases hk3 with ⟨hz, hl2, hw⟩ | ⟨hz, hl2⟩ | hz
          · have hcy : wr.cell? ⟨b, off + (k + j), none⟩ = some (.int .i64 y) := by rw [← HYY.out]; exact HC.out (k + j) hl2
            subst hz
            gi_wp2
            refine hR.mono ?_
            rintro e W3 (⟨rfl, hJ3, hk3⟩ | ⟨rfl, hJx3⟩)
            · gi_wp2
              go_roundw
              case rel => exact HN.out W3 hJ3 hk3
              case measure => simp [intOf]; omega
            · gi_wp2
              refine bodyPost_ret (results_none rfl _ _ _) rfl ?_
              exact ⟨⟨_, rfl⟩, .inr (HS.out W3 hJx3)⟩
          · subst hz
            gi_wp2
            refine hR.mono ?_
            rintro e W3 (⟨rfl, hJ3, hk3⟩ | ⟨rfl, hJx3⟩)
            · gi_wp2
              go_roundw
              case rel => exact HN.out W3 hJ3 hk3
              case measure => simp [intOf]; omega
            · gi_wp2
              refine bodyPost_ret (results_none rfl _ _ _) rfl ?_
              exact ⟨⟨_, rfl⟩, .inr (HS.out W3 hJx3)⟩
          · gi_wp2
            refine hR.mono ?_
            rintro e W3 (⟨rfl, hJ3, hk3⟩ | ⟨rfl, hJx3⟩)
            · gi_wp2
              go_roundw
              case rel => exact HN.out W3 hJ3 hk3
              case measure => simp [intOf]; omega
            · gi_wp2
              refine bodyPost_ret (results_none rfl _ _ _) rfl ?_
              exact ⟨⟨_, rfl⟩, .inr (HS.out W3 hJx3)⟩
    · obtain rfl : k = len := by omega
      gi_wp2
      go_end0
      exact ⟨⟨_, rfl⟩, .inl ⟨_, by rw [← hpr, List.drop_eq_nil_of_le (by omega)]; simp [runsL, runsF], hJs⟩⟩

set_option maxRecDepth 100000 in
set_option maxHeartbeats 1000000 in
/-- .. where there is nothing -/
theorem each1_nil (F : Fence) (n : Nat) (h7 : F.fn 117) (hro : F.round = none) (l Bs : Nat) (a : Option Addr) (cap : Nat) (J : List (Int × Int) → World → Prop) (W : World) (hBs : W.cell? ⟨Bs, 0, none⟩ = some (.slice a 0 cap)) (h0 : J [] W) :
    CallsIn F n Try.prog 117 #[.func (.yield l) #[] #[], .pointer (some ⟨Bs, 0, none⟩)] W fun e W' => (∃ v, e = .returned v) ∧ J [] W' := by
  refine callsIn_of_wp Try.func117 rfl h7 ?_ hro
  simp only [Try.ntmps117, List.size_toArray, List.length_cons, List.length_nil, Nat.reduceAdd, Nat.reduceSub, Array.replicate_succ, Array.replicate_zero, List.push_toArray, List.append_toArray, List.nil_append, List.cons_append]
  gi_wp2
  gi_loopw [3] (fun i wr => i = .int .i64 0 ∧ J [] wr ∧ wr.cell? ⟨Bs, 0, none⟩ = some (.slice a 0 cap)) (fun _ _ => 0)
  case atStart => exact ⟨rfl, h0, hBs⟩
  case round =>
    obtain ⟨rfl, hJs, hB⟩ := hrel
    gi_wp2
    go_end0
    exact ⟨⟨_, rfl⟩, hJs⟩

set_option maxHeartbeats 1000000 in
/-- runs.each: the slice is boxed, the closure captures the box -/
theorem each_in (F : Fence) (n : Nat) (h5 : F.fn 75) (hro : F.round = none) (a : Option Addr) (len cap : Nat) (w : World) :
    CallsIn F n Try.prog 75 #[.slice a len cap] w fun e w' => e = .returned (.func (.func 117) #[] #[.pointer (some ⟨w.heap.size, 0, none⟩)]) ∧ w' = w.alloc (.cells #[.slice a len cap] 23) := by
  refine callsIn_of_wp Try.func75 rfl h5 ?_ hro
  simp only [Try.ntmps75, List.size_toArray, List.length_cons, List.length_nil, Nat.reduceAdd, Nat.reduceSub, Array.replicate_succ, Array.replicate_zero, List.push_toArray, List.append_toArray, List.nil_append, List.cons_append]
  gi_wp2
  go_ret
  exact ⟨rfl, rfl⟩

/-- a slice that holds these numbers (b: its block, where there is one) -/
def IntsAt (W : World) (sv : Value) (b : Nat) (zs : List Int) : Prop := ∃ a cap, sv = .slice a zs.length cap ∧ (zs = [] ∨ ∃ off, a = some ⟨b, off, none⟩ ∧ ∀ j, j < zs.length → W.cell? ⟨b, off + j, none⟩ = some (.int .i64 (zs[j]?.getD 0)))

/-- a slice that holds these numbers, in a block below N where there is one -/
def IntsIn (W : World) (N : Nat) (sv : Value) (zs : List Int) : Prop := ∃ a cap, sv = .slice a zs.length cap ∧ (zs = [] ∨ ∃ b off, a = some ⟨b, off, none⟩ ∧ b < N ∧ ∀ j, j < zs.length → W.cell? ⟨b, off + j, none⟩ = some (.int .i64 (zs[j]?.getD 0)))

/-- the runs, in order -/
theorem each_stops (F : Fence) (n : Nat) (h7 : F.fn 117) (hro : F.round = none) (hn : 1 ≤ n) (Bs b : Nat) (sv : Value) (zs : List Int) (hreach : zs.length ≤ 1000000) (w : World) (hBs : Bs < w.heap.size) (hb : b < w.heap.size)
    (hc : w.cell? ⟨Bs, 0, none⟩ = some sv) (hI : IntsAt w sv b zs) :
    SeqStopsK F n Try.prog 117 #[.pointer (some ⟨Bs, 0, none⟩)] encP (Keep2 b Bs) (fun ys => ys = runsL zs) (fun _ => True) zs.length w := fun l J Jx W hW _ _ hY h0 => by
  have hc' := (hW.cell (p := ⟨Bs, 0, none⟩) hBs).trans hc
  obtain ⟨a, cap, rfl, rfl | ⟨off, rfl, hcs⟩⟩ := hI
  · exact (each1_nil F n h7 hro l Bs a cap J W hc' h0).mono fun e W' ⟨he, hj⟩ => ⟨he, .inl ⟨_, rfl, hj⟩⟩
  · exact each1_in F n h7 hro hn l Bs b off zs.length cap zs rfl hreach J Jx hY W hc' (fun j hj => (hW.cell (p := ⟨b, off + j, none⟩) hb).trans (hcs j hj)) h0

end Go.Proofs.Ytkfejcffacbngaa.J


namespace Go.Proofs.Ytkfejcffacbngaa.J

open Go Go.RowKit Go.Lib

set_option linter.unusedVariables false

set_option maxRecDepth 100000 in
theorem fold_tab : (⟨((([0, 1, 2, 2, 3, 3, 3, 3, 4, 4, 4, 4, 4, 4, 4, 4, 5, 5, 5, 5, 5, 5, 5, 5, 5, 5, 5, 5, 5, 5, 5, 5, 6, 6, 6, 6, 6, 6, 6, 6, 6, 6, 6, 6, 6, 6, 6, 6, 6, 6, 6, 6, 6, 6, 6, 6, 6, 6, 6, 6, 6, 6, 6, 6] : List UInt8).append [7, 7, 7, 7, 7, 7, 7, 7, 7, 7, 7, 7, 7, 7, 7, 7, 7, 7, 7, 7, 7, 7, 7, 7, 7, 7, 7, 7, 7, 7, 7, 7, 7, 7, 7, 7, 7, 7, 7, 7, 7, 7, 7, 7, 7, 7, 7, 7, 7, 7, 7, 7, 7, 7, 7, 7, 7, 7, 7, 7, 7, 7, 7, 7]).append ([8, 8, 8, 8, 8, 8, 8, 8, 8, 8, 8, 8, 8, 8, 8, 8, 8, 8, 8, 8, 8, 8, 8, 8, 8, 8, 8, 8, 8, 8, 8, 8, 8, 8, 8, 8, 8, 8, 8, 8, 8, 8, 8, 8, 8, 8, 8, 8, 8, 8, 8, 8, 8, 8, 8, 8, 8, 8, 8, 8, 8, 8, 8, 8].append [8, 8, 8, 8, 8, 8, 8, 8, 8, 8, 8, 8, 8, 8, 8, 8, 8, 8, 8, 8, 8, 8, 8, 8, 8, 8, 8, 8, 8, 8, 8, 8, 8, 8, 8, 8, 8, 8, 8, 8, 8, 8, 8, 8, 8, 8, 8, 8, 8, 8, 8, 8, 8, 8, 8, 8, 8, 8, 8, 8, 8, 8, 8, 8])).toArray⟩ : ByteArray) = Lib.len8tab := by kernel_rfl
attribute [local go_sem high] fold_tab

end Go.Proofs.Ytkfejcffacbngaa.J


namespace Go.Proofs.Ytkfejcffacbngaa.J

open Go Go.Sym

set_option linter.unusedVariables false

/-- a number without its sign, in the program's words -/
def foldM (x : Int) : Int := if x < 0 then binI .add .u64 (binI .mul .u64 2 (IntKind.u64.wrap (binI .sub .i64 0 (binI .add .i64 x 1)))) 1 else binI .mul .u64 2 (IntKind.u64.wrap x)

def g100 : List (List Int) → List Int
  | [[x]] => [foldM x]
  | _ => []

def FNp : Nat → List (List Int) → List Int
  | 100, l => g100 l
  | i, l => FNa i l

theorem FNp_100 (x : Int) : FNp 100 [[x]] = [foldM x] := rfl

def pcFold : Pc := ⟨77, [.int .i64], [.int .u64], 100, [], []⟩
theorem fold_entry : entryK Try.prog [] 50 200 77 [] 1 (argSVs 0 pcFold.aks) 30 [] = some [([(.cmp .lss (.var 0) (.lit 0), true)], .ret (.sint .u64 (.bin .add .u64 (.bin .mul .u64 (.lit 2) (.wrap .u64 (.bin .sub .i64 (.lit 0) (.bin .add .i64 (.var 0) (.lit 1))))) (.lit 1))) ⟨0, .nil⟩), ([(.cmp .lss (.var 0) (.lit 0), false)], .ret (.sint .u64 (.bin .mul .u64 (.lit 2) (.wrap .u64 (.var 0)))) ⟨0, .nil⟩)] := by kernel_rfl

end Go.Proofs.Ytkfejcffacbngaa.J


namespace Go.Proofs.Ytkfejcffacbngaa.J

open Go Go.Sym

set_option linter.unusedVariables false

/-- A contract at one call: what is assumed from the beginning may be chosen by the numbers. -/
theorem pc_inst' {P : Program} {FN : Nat → List (List Int) → List Int} {aa : As} (hmix : P.follows .mixedOrders = true) {kn : Kn} {n f k base : Nat} (c : Pc) (hkn : ∀ env : Env, env.fn = FN → KnOk P env kn) (hbase : c.aks.length ≤ base) {eouts : List Leaf}
    (hent : entryK P kn n f c.f [] base (argSVs 0 c.aks) k aa = some eouts) {w : World} {vs : Array Value} {ls : List (List Int)} (hargs : ArgsAre w vs.toList c.aks ls)
    (H : ∀ (e0 : Env), e0.fn = FN → ArgsE e0 0 c.aks ls → AsOk e0 aa ∧ allLeaves (fun lf => AsOk e0 lf.1 → StepG FN ls c.id c.rks (fun _ _ => False) (fun _ _ => (0, 0)) none e0 lf.2) eouts) :
    Calls P c.f vs w fun e w' => RowKit.Below w.heap.size w w' ∧ ∃ v vs', e = .returned v ∧ TupIs v vs' ∧ ResL FN ls w w' c.id c.rks vs' := by
  have h0 : ArgsE (argEnv FN c.aks vs.toList ls) 0 c.aks ls := by have := argsE_of (FN := FN) hargs c.aks 0 rfl; simpa using this
  obtain ⟨ha, h2⟩ := H _ rfl h0
  refine floyd_args (n := n) (f := f) (k := k) (kn := kn) (base := base) (cs := []) hmix hkn hbase hargs (fun _ _ => False) (fun _ _ => (0, 0)) (fun i p T hi => by simp at hi) (fun i env h => h.elim) hent ha (fun lf hlf hA => ?_)
  have h := allLeaves_spec h2 lf hlf hA
  generalize lf.2 = o at h ⊢
  cases o with
  | ret s M => obtain ⟨l, hl, hr⟩ := h; exact ret_good l hl hr
  | cut j σ => exact h
  | bad => exact h

theorem fold_leaves {ls : List (List Int)} {e0 : Env} {c : Pc} (hid : c.id = 100) (hr : c.rks = [.int .u64]) (hargs : ArgsE e0 0 [.int .i64] ls) : ∃ x, ls = [[x]] ∧ vInt (e0.val 0) = x := by
  simp only [ArgsE, ArgE] at hargs
  obtain ⟨_, _, rfl, h, rfl⟩ := hargs
  exact ⟨_, by rw [h], rfl⟩

theorem fold_ok : PcOk Try.prog FNp pcFold := by
  intro w vs ls hargs hrng hpre
  refine pc_inst' mix pcFold (fun _ _ => knOk_nil) (by decide) fold_entry hargs fun e0 hf ha => ⟨(fun p hp => by cases hp), ?_⟩
  obtain ⟨x, rfl, hx⟩ := fold_leaves (c := pcFold) rfl rfl ha
  simp only [allLeaves, AsOk_cons, AsOk_nil, BE.eval, cmpI, IE.eval, hx, and_true, decide_eq_true_eq, decide_eq_false_iff_not]
  refine ⟨fun hA => ⟨[_], rfl, ⟨_, rfl, ?_⟩, rfl⟩, fun hA => ⟨[_], rfl, ⟨_, rfl, ?_⟩, rfl⟩⟩
  · simp only [IE.eval, hx, pcFold, FNp_100, foldM, if_pos hA, List.headD_cons]
  · simp only [IE.eval, hx, pcFold, FNp_100, foldM, if_neg hA, List.headD_cons]

theorem foldM_rng (x : Int) : 0 ≤ foldM x ∧ foldM x ≤ 18446744073709551615 := by
  have h : ∀ y : Int, 0 ≤ IntKind.u64.wrap y ∧ IntKind.u64.wrap y ≤ 18446744073709551615 := by
    intro y
    simp only [IntKind.wrap, IntKind.bits, IntKind.signed]
    simp
    omega
  unfold foldM
  split
  · exact h _
  · exact h _

/-- leb.Fold as a call -/
theorem fold_call (x : Int) (w : World) : Calls Try.prog 77 #[.int .i64 x] w fun e w' => e = .returned (.int .u64 (foldM x)) ∧ RowKit.Below w.heap.size w w' := by
  refine (fold_ok w #[.int .i64 x] [[x]] ⟨⟨x, rfl, rfl⟩, trivial⟩ trivial trivial).mono ?_
  rintro e w' ⟨hb, v, vs', rfl, ht, hr⟩
  obtain ⟨u, vs2, rfl, hu, rfl⟩ := hr
  simp only [TupIs] at ht
  subst ht
  refine ⟨?_, hb⟩
  rw [show v = .int .u64 (foldM x) from hu]

end Go.Proofs.Ytkfejcffacbngaa.J


namespace Go.Proofs.Ytkfejcffacbngaa.J

open Go Go.RowKit Go.Shelf

set_option linter.unusedVariables false

attribute [local go_sem] Oper.semAt_some

theorem KeepsOthers.of_below {A B : World} (h : Below A.heap.size A B) : KeepsOthers A B := ⟨h.size, fun k o hk _ => (h.block k (Array.getElem?_eq_some_iff.1 hk).1).trans hk⟩

def bumpL (p : Int × Int) : Nat := (lebN 10 (foldM p.1)).length + (if p.1 = 0 then (lebN 10 (IntKind.u64.wrap (IntKind.i64.wrap (p.2 - 1)))).length else 0)

def lenS (pre : List (Int × Int)) : Nat := (pre.map bumpL).sum

theorem lebN_len' (k : Nat) (u : Int) : 1 ≤ (lebN k u).length ∧ (lebN k u).length ≤ k + 1 := by
  induction k generalizing u with
  | zero => simp [lebN]
  | succ k ih =>
    rw [lebN]
    split
    · simp
    · have := ih (u / 128); simp; omega

theorem bumpL_le (p : Int × Int) : bumpL p ≤ 22 := by
  have h1 := lebN_len' 10 (foldM p.1)
  have h2 := lebN_len' 10 (IntKind.u64.wrap (IntKind.i64.wrap (p.2 - 1)))
  unfold bumpL
  split <;> omega

theorem lenS_le (pre : List (Int × Int)) : lenS pre ≤ 22 * pre.length := by
  induction pre with
  | nil => simp [lenS]
  | cons x l ih => have := bumpL_le x; simp [lenS] at ih ⊢; omega

/-- what a round has kept, and where its box is -/
def Kept (w : World) (B b : Nat) (W W' : World) (v : Value) : Prop := KeepsOthers W W' ∧ Keep2 b (B + 1) W W' ∧ Boxed W' B 3 v ∧ Below B w W'

theorem Keep2.of_all {b c : Nat} {A B : World} (h : Below A.heap.size A B) : Keep2 b c A B := fun k o v hk hv => by
  have hlt : k < A.heap.size := by
    simp only [World.cell?] at hv
    split at hv
    · rename_i hq; exact (Array.getElem?_eq_some_iff.1 hq).1
    · cases hv
  exact (h.cell (p := ⟨k, o, none⟩) hlt).trans hv

theorem Kept.start {w W : World} {B b : Nat} {v : Value} (h : Boxed W B 3 v) (hB : Below B w W) : Kept w B b W W v := ⟨KeepsOthers.refl _, Keep2.refl _ _ _, h, hB⟩

theorem Kept.step {w W W1 w1 : World} {B b : Nat} {v : Value} (h : Kept w B b W W1 v) (hb : Below W1.heap.size W1 w1) : Kept w B b W w1 v :=
  ⟨h.1.trans (KeepsOthers.of_below hb), h.2.1.trans (Keep2.of_all hb), (hb.block B h.2.2.1.lt).trans h.2.2.1, h.2.2.2.trans (hb.mono (Nat.le_of_lt h.2.2.1.lt))⟩

theorem Kept.set {w W W1 : World} {B b : Nat} {v : Value} (v' : Value) (h : Kept w B b W W1 v) (hbB : b ≠ B) : Kept w B b W (W1.setCell ⟨B, 0, none⟩ v') v' :=
  ⟨h.1.trans (KeepsOthers.setCell _ _ _), h.2.1.trans fun k o u hk hu => (World.cell?_setCell_other W1 ⟨B, 0, none⟩ ⟨k, o, none⟩ v' (fun e => by have := congrArg Addr.block e; simp at this; omega)).trans hu, h.2.2.1.set v', h.2.2.2.setCell (p := ⟨B, 0, none⟩) (Nat.le_refl _) v'⟩

theorem Kept.drew {w W W1 : World} {B b : Nat} {v : Value} (h : Kept w B b W W1 v) : Kept w B b W W1.drew v := ⟨h.1.trans (KeepsOthers.drew _), fun k o u hk hu => h.2.1 k o u hk hu, h.2.2.1, h.2.2.2.drew⟩

theorem wrapU_rng (y : Int) : 0 ≤ IntKind.u64.wrap y ∧ IntKind.u64.wrap y ≤ 18446744073709551615 := by
  simp only [IntKind.wrap, IntKind.bits, IntKind.signed]
  simp
  omega

end Go.Proofs.Ytkfejcffacbngaa.J


namespace Go.Proofs.Ytkfejcffacbngaa.J

open Go Go.RowKit Go.Shelf

set_option linter.unusedVariables false

attribute [local go_sem] Oper.semAt_some

abbrev B8 (l : List Int) : List Value := l.map (Value.int .u8)

/-- what a round of Put has kept: its box, the iterator's box, the bytes so far -/
structure KeptR (w : World) (N B b : Nat) (rv : Value) (W W' : World) (v : Value) (xs : List Int) : Prop where
  others : KeepsOthers W W'
  keep : Keep2 b (B + 1) W W'
  box : Boxed W' B 22 v
  it : Boxed W' (B + 1) 23 rv
  row : W'.ownsRow N 5 1 v xs.length (B8 xs)
  below : Below N w W'

theorem KeptR.start {w W : World} {N B b : Nat} {rv v : Value} {xs : List Int} (h : Boxed W B 22 v) (h2 : Boxed W (B + 1) 23 rv) (hr : W.ownsRow N 5 1 v xs.length (B8 xs)) (hB : Below N w W) : KeptR w N B b rv W W v xs :=
  ⟨KeepsOthers.refl _, Keep2.refl _ _ _, h, h2, hr, hB⟩

theorem own_keep {w w' : World} {base : Nat} {e : TypeId} {size : Nat} {v : Value} {n : Nat} {xs : List Value} (h : w.ownsRow base e size v n xs) (hb : Below w.heap.size w w') : w'.ownsRow base e size v n xs := by
  refine ⟨h.1, ?_⟩
  rcases h.2 with h0 | ⟨g, cap, cur, h1, h2, h3, h4⟩
  · exact .inl h0
  · exact .inr ⟨g, cap, cur, h1, h2, by rw [hb.block g (Array.getElem?_eq_some_iff.1 h3).1]; exact h3, h4⟩

theorem KeptR.step {w W W1 w1 : World} {N B b : Nat} {rv v : Value} {xs : List Int} (h : KeptR w N B b rv W W1 v xs) (hN : N ≤ W1.heap.size) (hb : Below W1.heap.size W1 w1) : KeptR w N B b rv W w1 v xs :=
  ⟨h.others.trans (KeepsOthers.of_below hb), h.keep.trans (Keep2.of_all hb), (hb.block B h.box.lt).trans h.box, (hb.block (B + 1) h.it.lt).trans h.it, own_keep h.row hb, h.below.trans (hb.mono hN)⟩

theorem KeptR.drew {w W W1 : World} {N B b : Nat} {rv v : Value} {xs : List Int} (h : KeptR w N B b rv W W1 v xs) : KeptR w N B b rv W W1.drew v xs :=
  ⟨h.others.trans (KeepsOthers.drew _), fun k o u hk hu => h.keep k o u hk hu, h.box, h.it, h.row, h.below.drew⟩

theorem KeptR.append {w W W1 w1 : World} {N B b : Nat} {rv v v' : Value} {xs ys : List Int} {m : Nat} (h : KeptR w N B b rv W W1 v xs) (hb : b < N ∨ b = B + 1) (hNB : N ≤ B) (hN : N ≤ W1.heap.size)
    (hown : w1.ownsRow N 5 1 v' m (B8 ys)) (hm : m = ys.length) (hg : W1.grownBy w1 v.ownBlock) : Boxed w1 B 22 v ∧ KeptR w N B b rv W (w1.setCell ⟨B, 0, none⟩ v') v' ys := by
  subst hm
  have hv1 : Boxed w1 B 22 v := h.box.kept hg (h.box.not_row (by decide) h.row)
  have hi1 : Boxed w1 (B + 1) 23 rv := h.it.kept hg (h.it.not_row (by decide) h.row)
  have hrow : ∀ j, v.ownBlock = some j → N ≤ j ∧ ∃ o : Obj, W1.heap[j]? = some o ∧ o.isCells = true := by
    intro j ej
    rcases h.row.2 with ⟨rfl, _⟩ | ⟨g, cap, cur, rfl, hb, hgb, _⟩
    · simp [Value.ownBlock] at ej
    · obtain rfl : g = j := by simpa [Value.ownBlock] using ej
      exact ⟨hb, _, hgb, rfl⟩
  refine ⟨hv1, ?_, ?_, hv1.set v', ?_, hown.kept (grownBy_setCell' w1 B v') (.inr (hv1.not_row (by decide) hown).symm), ?_⟩
  · exact (h.others.trans (KeepsOthers.of_grownBy hg fun j o ej hj => by obtain ⟨_, o', h1, h2⟩ := hrow j ej; rw [hj] at h1; cases h1; exact h2)).trans (KeepsOthers.setCell _ _ _)
  · intro k o u hk hu
    have h1 := h.keep k o u hk hu
    have hlt : k < W1.heap.size := by
      simp only [World.cell?] at h1
      split at h1
      · rename_i hq; exact (Array.getElem?_eq_some_iff.1 hq).1
      · cases h1
    have hne : some k ≠ v.ownBlock := by
      intro e
      by_cases hkB : k = B + 1
      · subst hkB; exact h.it.not_row (by decide) h.row e
      · have := (hrow k e.symm).1; omega
    have h2 : w1.cell? ⟨k, o, none⟩ = some u := (World.cell?_of_block (w := W1) (hg.block k hlt hne)).trans h1
    exact (World.cell?_setCell_other w1 ⟨B, 0, none⟩ ⟨k, o, none⟩ v' (fun e => by have := congrArg Addr.block e; simp at this; omega)).trans h2
  · exact hi1.kept (grownBy_setCell' w1 B v') (by simp)
  · exact ((h.below.grown hg hN fun j ej => (hrow j ej).1)).setCell (p := ⟨B, 0, none⟩) hNB v'

/-- leb.Put of nothing, as a call -/
theorem put_call (u : Int) (h0 : 0 ≤ u) (h1 : u ≤ 18446744073709551615) (w : World) : Calls Try.prog 76 #[.slice none 0 0, .int .u64 u] w fun e w' => ∃ g c, e = .returned (.slice (some ⟨g, 0, none⟩) (lebN 10 u).length c) ∧ (∀ j z, (B8 (lebN 10 u))[j]? = some z → w'.cell? ((⟨g, 0, none⟩ : Addr).add j) = some z) ∧ Below w.heap.size w w' := by
  refine (leb_ok w #[.slice none 0 0, .int .u64 u] [[], [u]] ⟨⟨by decide, none, 0, 0, rfl, Nat.le_refl _, rfl, .inr rfl⟩, ⟨u, rfl, rfl⟩, trivial⟩ ?_ trivial).mono ?_
  · refine ⟨fun k l hk hl => ?_, fun k l hk hl => ?_, trivial⟩
    · cases hk; cases hl; simp [Sym.measL]
    · cases hk; cases hl; simp [Sym.measL]; omega
  · rintro e w' ⟨hb, v, vs', rfl, ht, hr⟩
    obtain ⟨x, vs2, rfl, ⟨_, hx⟩, rfl⟩ := hr
    simp only [Sym.TupIs] at ht
    subst ht
    have e1 : FNa pcLeb.id [[], [u]] = lebN 10 u := rfl
    rw [e1] at hx
    rcases hx with ⟨hx, _⟩ | ⟨_, b, n, c, cells, lo, hi, rfl, hn, _, _, _, _, _, hrow⟩
    · have := (lebN_len' 10 u).1; rw [hx] at this; simp at this
    · refine ⟨b, c, by rw [hn]; simp, fun j z hz => ?_, hb⟩
      rw [List.getElem?_map] at hz
      cases hq : (lebN 10 u)[j]? with
      | none => rw [hq] at hz; cases hz
      | some q =>
        rw [hq] at hz
        cases hz
        have := hrow j q hq
        rw [Sym.addr_add]
        simpa [Sym.kindAt, Nat.mod_one] using this

end Go.Proofs.Ytkfejcffacbngaa.J


namespace Go.Proofs.Ytkfejcffacbngaa.J

open Go Go.RowKit Go.Shelf

set_option linter.unusedVariables false

theorem infobyte : (Try.prog.info? 5).map (fun i => (i.zero, i.size, i.bytes)) = some (some (.int .u8 0), 1, 1) := by kernel_rfl

theorem hone8 (l : List Int) : ∀ u ∈ B8 l, u.oneCell' = true := fun u hu => by
  obtain ⟨x, _, rfl⟩ := List.mem_map.1 hu
  rfl

set_option maxRecDepth 100000 in
set_option maxHeartbeats 1000000 in
theorem clone74 (A : Option Addr) (n c : Nat) (xs : List Int) (w : World) (hr : Reads w w.heap.size 1 A n (B8 xs)) (hn : n ≤ 1000000) :
    Calls Try.prog 74 #[.slice A n c] w fun e w' => ∃ v, e = .returned v ∧ w'.ownsRow w.heap.size 5 1 v n (B8 xs) ∧ Below w.heap.size w w' := by
  have hlen : xs.length = n := by simpa using hr.1
  obtain ⟨j0, hi, hz0, hz1, hz2⟩ := info_parts infobyte
  have Hi := hide hi
  have Hz0 := hide hz0
  have Hz1 := hide hz1
  have Hz2 := hide hz2
  have HR := hide hr
  have HL := hide hlen
  have HONE := hide hone8
  have hown0 : (w.alloc (Obj.cells #[] 5)).ownsRow w.heap.size 5 1 (.slice (some ⟨w.heap.size, 0, none⟩) 0 0) 0 [] := World.ownsRow_made w #[] 0 (Nat.le_refl _) (Nat.zero_le _) rfl
  have hb0 : Below w.heap.size w (w.alloc (Obj.cells #[] 5)) := (Below.refl _ _).alloc (Nat.le_refl _) _
  clear hi hz0 hz1 hz2 hr hlen
  cases A with
  | none =>
    have hn0 : n = 0 := by
      by_cases h : n = 0
      · exact h
      · obtain ⟨ad, h1, _⟩ := HR.out.2 (by omega)
        cases h1
    subst hn0
    have hx0 : xs = [] := List.eq_nil_of_length_eq_zero HL.out
    subst hx0
    clear hown0 hb0
    have kq := Lib.run_eql_slice_nil (P := Try.prog) w 22 5 none 0 c 0 0 Try.underlying22
    go_enter Try.func74, Try.ntmps74
    go_wp2_with fail
    go_ret
    exact ⟨_, rfl, ⟨rfl, .inl ⟨rfl, rfl⟩⟩, Below.refl _ _⟩
  | some ad =>
    have kq := Lib.run_eql_slice_nil (P := Try.prog) w 22 5 (some ad) n c 0 0 Try.underlying22
    go_enter Try.func74, Try.ntmps74
    go_wp2_with (at_builtin; (refine wpList_append_any _ rfl (.tmp 5) (.tmp 6) _ rfl w.heap.size 5 j0 _ 1 1 Try.underlying22 Hi.out Hz0.out Hz1.out Hz2.out rfl (by omega) _ 0 [] rfl hown0 w.heap.size (some ad) n c _ rfl (HR.out.below hb0) (HONE.out _) (by simp only [maxLen]; omega) (by omega) hb0.size ?_); intro v4 w4 hown4 hg4 hat4; have hb4 := hb0.grown hg4 hb0.size (fun k hk => (hown0.lt k hk).1))
    go_ret
    refine ⟨_, rfl, ?_, hb4⟩
    simpa using hown4

def putB (p : Int × Int) : List Int := lebN 10 (foldM p.1) ++ (if p.1 = 0 then lebN 10 (IntKind.u64.wrap (IntKind.i64.wrap (p.2 - 1))) else [])

def putS (pre : List (Int × Int)) : List Int := (pre.map putB).flatten

theorem putS_snoc (pre : List (Int × Int)) (x : Int × Int) : putS (pre ++ [x]) = putS pre ++ putB x := by simp [putS]

theorem putB_len (p : Int × Int) : (putB p).length = bumpL p := by
  unfold putB bumpL
  split <;> simp

theorem putS_len (pre : List (Int × Int)) : (putS pre).length = lenS pre := by
  induction pre with
  | nil => rfl
  | cons x l ih =>
    have h1 : putS (x :: l) = putB x ++ putS l := by simp [putS]
    have h2 : lenS (x :: l) = bumpL x + lenS l := by simp [lenS]
    rw [h1, h2, List.length_append, putB_len, ih]

end Go.Proofs.Ytkfejcffacbngaa.J


namespace Go.Proofs.Ytkfejcffacbngaa.J

open Go Go.RowKit Go.Shelf

set_option linter.unusedVariables false

attribute [local go_sem] Oper.semAt_some

theorem own_slice {W : World} {base : Nat} {e : TypeId} {size : Nat} {v : Value} {k : Nat} {xs : List Value} (h : W.ownsRow base e size v k xs) : ∃ a c, v = .slice a k c := by
  rcases h.2 with ⟨h0, h1⟩ | ⟨g, cap, _, h0, _⟩
  · subst h1; exact ⟨_, _, h0⟩
  · exact ⟨_, _, h0⟩


theorem stepIn_append {F : Fence} {n : Nat} {P : Program} {w : World} {ops : Array Oper} {o : Oper} {a : Act} {K : Act → World → Prop} {Q : Exit → Act → World → Prop} {E : Prop} (hgd : o.guard = none) (s x : Operand) (t : TypeId)
    (ho : o.op = .call { callee := .builtin .append, args := #[s, x], argTypes := #[t, t] })
    (base : Nat) (e : TypeId) (i : TypeInfo) (z : Value) (size bytes : Nat) (ht : P.underlying t = some (.slice e)) (hi : P.info? e = some i) (hz : i.zero = some z)
    (hsize : i.size = size) (hby : i.bytes = bytes) (hzs : z.cells.size = size) (hsz : 0 < size)
    (v : Value) (k : Nat) (xs : List Value) (hs : a.eval s = v) (hown : w.ownsRow base e size v k xs)
    (ad : Addr) (m c : Nat) (news : List Value) (hx : a.eval x = .slice (some ad) m c) (hl : news.length = m * size) (hnews : ∀ j u, news[j]? = some u → w.cell? (ad.add j) = some u) (h1 : ∀ u ∈ news, u.oneCell' = true)
    (h63 : k + m ≤ maxLen) (hbytes : (k + m) * bytes ≤ 140737488355328) (hbase : base ≤ w.heap.size)
    (h : ∀ v' w', w'.ownsRow base e size v' (k + m) (xs ++ news) → w.grownBy w' v.ownBlock → K (a.put o.dst v') w') :
    if Region.wanted o (yielded ops a.tmps) = true then Oper.wpIn F n P o a w K Q else E := by
  have hw : Region.wanted o (yielded ops a.tmps) = true := by simp [Region.wanted, hgd]
  rw [if_pos hw]
  obtain ⟨v', w', hr, h2, h3, h4, h5⟩ := run_append_own_at (P := P) w base t o.type e i z size bytes ht hi hz hsize hby hzs hsz v k xs hown ad m c news hl hnews h1 h63 hbytes hbase
  unfold Oper.wpIn
  refine ⟨by simp [Oper.about, ho, resolve, Target.leads, Sem.run_pure], ?_⟩
  rw [Oper.semAt_plain F _ _ (by rw [ho]; intro c hc'; cases hc')]
  simp [execOp, ho, resolve, invoke, builtin, hs, hx, hr, Result.andThen]
  exact h v' w' h2 h3

set_option maxRecDepth 100000 in
set_option maxHeartbeats 8000000 in
theorem put_in (A : Option Addr) (n c : Nat) (xs : List Int) (sv : Value) (zs : List Int) (hreach : zs.length ≤ 1000000) (w : World) (hr : Reads w w.heap.size 1 A n (B8 xs)) (hn : n ≤ 1000000) (hI : IntsIn w w.heap.size sv zs) :
    CallsIn Fence.wide 3 Try.prog 20 #[.slice A n c, sv] w fun e W' => ∃ v, e = .returned v ∧ W'.ownsRow w.heap.size 5 1 v (xs ++ putS (runsL zs)).length (B8 (xs ++ putS (runsL zs))) ∧ Below w.heap.size w W' := by
  obtain ⟨a, cap, rfl, hz⟩ := hI
  have hxl : xs.length = n := by simpa using hr.1
  have h1 : (1 : Nat) ≤ 3 := by omega
  have HR := hide hr
  have HZ := hide hz
  clear hr hz
  refine callsIn_of_wp_marks Try.func20 rfl trivial ?_ rfl
  simp only [Try.ntmps20, List.size_toArray, List.length_cons, List.length_nil, Nat.reduceAdd, Nat.reduceSub, Array.replicate_succ, Array.replicate_zero, List.push_toArray, List.append_toArray, List.nil_append, List.cons_append]
  gi_wp2_with (first
    | (refine ⟨trivial, ?_⟩; gi_at_call 74; refine (callsIn_wide.2 (clone74 A n c xs _ HR.out hn)).mono ?_; rintro e w1 ⟨v0, rfl, hown, hb1⟩; obtain ⟨A0, c0, rfl⟩ := own_slice hown)
    | (refine ⟨trivial, ?_⟩; gi_at_call 75; refine (each_in Fence.wide 2 trivial rfl _ _ _ _).mono ?_; rintro e w' ⟨rfl, rfl⟩))
  have hsz0 := hb1.size
  obtain ⟨b, hb, hz⟩ : ∃ b, (b < w.heap.size ∨ b = w1.heap.size + 1) ∧ (zs = [] ∨ ∃ off, a = some ⟨b, off, none⟩ ∧ b < w.heap.size ∧ ∀ j, j < zs.length → w.cell? ⟨b, off + j, none⟩ = some (.int .i64 (zs[j]?.getD 0))) := by
    rcases HZ.out with h | ⟨b, off, h1, h2, h3⟩
    · exact ⟨w1.heap.size + 1, .inr rfl, .inl h⟩
    · exact ⟨b, .inl h2, .inr ⟨off, h1, h2, h3⟩⟩
  have HZ2 := hide hz
  clear hz
  have bO := Boxed.new w1 22 (.slice A0 n c0)
  have bN := Boxed.new (w1.alloc (.cells #[.slice A0 n c0] 22)) 23 (.slice a zs.length cap)
  rw [World.size_alloc] at bN
  have hB1 : Below w1.heap.size w1 ((w1.alloc (.cells #[.slice A0 n c0] 22)).alloc (.cells #[.slice a zs.length cap] 23)) := ((Below.refl _ w1).alloc (Nat.le_refl _) _).alloc (by simp) _
  have hB0 : Below w.heap.size w ((w1.alloc (.cells #[.slice A0 n c0] 22)).alloc (.cells #[.slice a zs.length cap] 23)) := hb1.trans (hB1.mono hb1.size)
  have hsz := hb1.size
  refine wpIn_rangeFunc_ownF rfl h1 (gf := 117) (lb := #[.pointer (some ⟨w1.heap.size + 1, 0, none⟩)]) rfl trivial (enters_of Try.func117 (by kernel_rfl) rfl)
    (each_stops Fence.wide 2 trivial rfl (by omega) (w1.heap.size + 1) b _ zs hreach _ (by simp) (by simp; omega) bN.cell ⟨a, cap, rfl, HZ2.out.imp id fun ⟨off, h1, hb2, h2⟩ => ⟨off, h1, fun j hj => (hB0.cell (p := ⟨b, off + j, none⟩) hb2).trans (h2 j hj)⟩⟩) keep2_t keep2_b (Below.refl _ _) (fun _ => rfl)
    (fun pre W => (∃ v, Boxed W w1.heap.size 22 v ∧ W.ownsRow w.heap.size 5 1 v (xs ++ putS pre).length (B8 (xs ++ putS pre)) ∧ True) ∧ Boxed W (w1.heap.size + 1) 23 (.slice a zs.length cap) ∧ Below w.heap.size w W)
    (fun _ _ _ => False)
    (OwnFrom.and (Own.from (holdsRow_own w.heap.size w1.heap.size 22 5 1 (fun pre => (xs ++ putS pre).length) (fun pre => B8 (xs ++ putS pre)) (fun _ _ => True)) _) (OwnFrom.and (Own.from (boxed_own (w1.heap.size + 1) 23 (fun _ => Value.slice a zs.length cap)) _) (ownFrom_below (Nat.le_refl _) (by simp; omega))))
    (fun _ _ _ _ _ hs _ _ => hs)
    ⟨⟨_, bO.alloc _, by simpa [putS, hxl] using own_keep hown hB1, trivial⟩, bN, hB0⟩
    (fun x => { tmps := #[.slice A n c, .slice a zs.length cap, undef, undef, .slice none 0 0, .pointer (some ⟨w1.heap.size, 0, none⟩), .int .i64 x.1, .int .i64 x.2, .slice A n c, .slice A0 n c0, .slice a zs.length cap, .func (.func 117) #[] #[.pointer (some ⟨w1.heap.size + 1, 0, none⟩)], .int .i64 x.1, .int .i64 x.2, undef, undef, undef, undef, undef, undef, undef, undef, undef, undef, undef, undef, undef, undef], defers := [] }) ?assign ?body ?done ?stop
  case assign =>
    intro l x W K hK
    gi_wp2
    exact hK
  case body =>
    rintro l pre ⟨x1, x2⟩ W ⟨⟨v, hv, hrow, _⟩, hit, hB⟩ hlt
    obtain ⟨u, hu⟩ : ∃ u, foldM x1 = u := ⟨_, rfl⟩
    have hur := foldM_rng x1
    rw [hu] at hur
    obtain ⟨hu0, hu1⟩ := hur
    obtain ⟨R, hR⟩ : ∃ R, lebN 10 u = R := ⟨_, rfl⟩
    have hR1 := (lebN_len' 10 u).2
    rw [hR] at hR1
    obtain ⟨m, hm⟩ : ∃ m, R.length = m := ⟨_, rfl⟩
    rw [hm] at hR1
    obtain ⟨u2, hu2⟩ : ∃ z, IntKind.u64.wrap (IntKind.i64.wrap (x2 - 1)) = z := ⟨_, rfl⟩
    have hu2r : 0 ≤ u2 ∧ u2 ≤ 18446744073709551615 := by rw [← hu2]; exact wrapU_rng _
    obtain ⟨R2, hR2⟩ : ∃ R, lebN 10 u2 = R := ⟨_, rfl⟩
    have hR21 := (lebN_len' 10 u2).2
    rw [hR2] at hR21
    obtain ⟨m2, hm2⟩ : ∃ m, R2.length = m := ⟨_, rfl⟩
    rw [hm2] at hR21
    have HF' : Hid (∀ W1, Calls Try.prog 77 #[.int .i64 x1] W1 fun e w' => e = .returned (.int .u64 u) ∧ Below W1.heap.size W1 w') := fun W1 => by rw [← hu]; exact fold_call x1 W1
    have HP1 : Hid (∀ W1, Calls Try.prog 76 #[.slice none 0 0, .int .u64 u] W1 fun e w' => ∃ g c, e = .returned (.slice (some ⟨g, 0, none⟩) m c) ∧ (∀ j z, (B8 R)[j]? = some z → w'.cell? ((⟨g, 0, none⟩ : Addr).add j) = some z) ∧ Below W1.heap.size W1 w') := fun W1 => by have := put_call u hu0 hu1 W1; rw [hR, hm] at this; exact this
    have HP2 : Hid (∀ W1, Calls Try.prog 76 #[.slice none 0 0, .int .u64 u2] W1 fun e w' => ∃ g c, e = .returned (.slice (some ⟨g, 0, none⟩) m2 c) ∧ (∀ j z, (B8 R2)[j]? = some z → w'.cell? ((⟨g, 0, none⟩ : Addr).add j) = some z) ∧ Below W1.heap.size W1 w') := fun W1 => by have := put_call u2 hu2r.1 hu2r.2 W1; rw [hR2, hm2] at this; exact this
    have HPB : Hid (putB (x1, x2) = R ++ if x1 = 0 then R2 else []) := by simp only [Hid, putB, hu, hR, hu2, hR2]
    have hS := lenS_le pre
    rw [← putS_len] at hS
    obtain ⟨out, hout⟩ : ∃ out, xs ++ putS pre = out := ⟨_, rfl⟩
    have hol : out.length ≤ 23000000 := by rw [← hout, List.length_append]; omega
    rw [hout] at hrow
    obtain ⟨M, hM⟩ : ∃ M, out.length = M := ⟨_, rfl⟩
    have HK : KeptR w w.heap.size w1.heap.size b (.slice a zs.length cap) W W v out := KeptR.start hv hit hrow hB
    rw [hM] at hol hrow
    obtain ⟨A1, c1, rfl⟩ := own_slice hrow
    have hlt0 := hv.lt
    have hc := hv.cell
    have hf := hv.frozen
    have hNW := hB.size
    obtain ⟨j0, hi, hz0, hz1, hz2⟩ := info_parts infobyte
    have Hi := hide hi
    have Hz0 := hide hz0
    have Hz1 := hide hz1
    have Hz2 := hide hz2
    have HK' := hide HK
    have HU2 := hide hu2
    have HO := hide hout
    have HM := hide hM
    have Hm := hide hm
    have Hm2 := hide hm2
    have HBB := hide hB
    have hd : 1 ≤ 3 - 1 - 1 := by omega
    have hmx : Try.prog.follows .mixedOrders = true := mix
    clear hu2 hu2r hR2 hu hR hm hm2 hout hM HK hi hz0 hz1 hz2 hv hit hrow hB hB0 bO bN hb1 hB1 hown hxl
    by_cases hx : x1 = 0
    · subst hx
      gi_wp2
      refine wpIn_mono (Q := fun e a' w' => e = .normal ∧ ∃ (g c3 : Nat) (A2 : Option Addr) (c2 : Nat), a' = { tmps := #[.slice A n c, .slice a zs.length cap, undef, undef, .slice none 0 0, .pointer (some ⟨w1.heap.size, 0, none⟩), .int .i64 0, .int .i64 x2, .slice A n c, .slice A0 n c0, .slice a zs.length cap, .func (.func 117) #[] #[.pointer (some ⟨w1.heap.size + 1, 0, none⟩)], .int .i64 0, .int .i64 x2, .slice A1 M c1, .int .i64 0, .int .u64 u, .slice (some ⟨g, 0, none⟩) m c3, .slice A2 (M + m) c2, undef, undef, undef, undef, undef, undef, undef, undef, undef], defers := [] } ∧ KeptR w w.heap.size w1.heap.size b (.slice a zs.length cap) W w' (.slice A2 (M + m) c2) (out ++ R)) ?_ ?_
      · refine wpIn_region_any hmx ?_
        change wpAnyIn _ _ _ _ _ _ _ _ _ (World.drew _)
        refine wpAnyIn_ready (rs := [0, 1]) (by kernel_rfl) (by simp) (AllReadyIn.cons rfl (fun K hK => ?_) (AllReadyIn.cons rfl (fun K hK => ?_) AllReadyIn.nil))
        · go_simp
          refine hK _ _ ?_
          clear hK K
          refine wpAnyIn_ready (rs := [1]) (by kernel_rfl) (by simp) (AllReadyIn.cons rfl (fun K hK => ?_) AllReadyIn.nil)
          go_simp
          refine hK _ _ ?_
          clear hK K
          refine wpAnyIn_ready (rs := [2]) (by kernel_rfl) (by simp) (AllReadyIn.cons rfl (fun K hK => ?_) AllReadyIn.nil)
          go_simp
          refine ⟨trivial, ?_⟩
          refine (CallsIn.inRound l (callsIn_wide.2 (HF'.out _))).mono ?_
          rintro e w2 ⟨rfl, hb2⟩
          have HK2 := hide (HK'.out.step hNW (((Below.refl _ W).drew).trans hb2))
          have hc2 := HK2.out.box.cell
          have hf2 := HK2.out.box.frozen
          have hn2 := Nat.le_trans hNW hb2.size
          refine hK _ _ ?_
          clear hK K
          refine wpAnyIn_ready (rs := [3]) (by kernel_rfl) (by simp) (AllReadyIn.cons rfl (fun K hK => ?_) AllReadyIn.nil)
          go_simp
          refine ⟨trivial, ?_⟩
          refine (CallsIn.inRound l (callsIn_wide.2 (HP1.out _))).mono ?_
          rintro e w3 ⟨g, c3, rfl, hcs, hb3⟩
          have HCS := hide hcs
          clear hcs
          have HK3 := hide (HK2.out.step hn2 hb3)
          have hc3 := HK3.out.box.cell
          have hf3 := HK3.out.box.frozen
          have hn3 := Nat.le_trans hn2 hb3.size
          refine hK _ _ ?_
          clear hK K
          refine wpAnyIn_ready (rs := [4]) (by kernel_rfl) (by simp) (AllReadyIn.cons rfl (fun K hK => ?_) AllReadyIn.nil)
          refine stepIn_append rfl _ _ 22 rfl w.heap.size 5 j0 (.int .u8 0) 1 1 Try.underlying22 Hi.out Hz0.out Hz1.out Hz2.out rfl (by decide) _ (M) _ rfl (by have h := HK3.out.row; rw [HM.out] at h; exact h) ⟨g, 0, none⟩ _ c3 (B8 R) rfl (by simp [Hm.out]) HCS.out (hone8 _) (by simp only [maxLen]; omega) (by omega) hn3 (fun v' w4 hown' hg' => ?_)
          obtain ⟨A3, c4, rfl⟩ := own_slice hown'
          obtain ⟨hbx, hk4⟩ := HK3.out.append hb hsz hn3 (ys := out ++ R) (by simpa using hown') (by rw [List.length_append, HM.out, Hm.out]) hg'
          have HK4 := hide hk4
          clear hk4
          have hc4 := hbx.cell
          have hf4 := hbx.frozen
          refine hK _ _ ?_
          clear hK K
          refine wpAnyIn_ready (rs := [5]) (by kernel_rfl) (by simp) (AllReadyIn.cons rfl (fun K hK => ?_) AllReadyIn.nil)
          go_simp
          refine hK _ _ ?_
          clear hK K
          refine wpAnyIn_done (by kernel_rfl) ?_ _
          exact ⟨rfl, g, c3, A3, c4, rfl, by first | exact HK4.out | exact HK4.out.drew⟩
        · go_simp
          refine hK _ _ ?_
          clear hK K
          refine wpAnyIn_ready (rs := [0, 2]) (by kernel_rfl) (by simp) (AllReadyIn.cons rfl (fun K hK => ?_) (AllReadyIn.cons rfl (fun K hK => ?_) AllReadyIn.nil))
          · go_simp
            refine hK _ _ ?_
            clear hK K
            refine wpAnyIn_ready (rs := [2]) (by kernel_rfl) (by simp) (AllReadyIn.cons rfl (fun K hK => ?_) AllReadyIn.nil)
            go_simp
            refine ⟨trivial, ?_⟩
            refine (CallsIn.inRound l (callsIn_wide.2 (HF'.out _))).mono ?_
            rintro e w2 ⟨rfl, hb2⟩
            have HK2 := hide (HK'.out.step hNW (((Below.refl _ W).drew).trans hb2))
            have hc2 := HK2.out.box.cell
            have hf2 := HK2.out.box.frozen
            have hn2 := Nat.le_trans hNW hb2.size
            refine hK _ _ ?_
            clear hK K
            refine wpAnyIn_ready (rs := [3]) (by kernel_rfl) (by simp) (AllReadyIn.cons rfl (fun K hK => ?_) AllReadyIn.nil)
            go_simp
            refine ⟨trivial, ?_⟩
            refine (CallsIn.inRound l (callsIn_wide.2 (HP1.out _))).mono ?_
            rintro e w3 ⟨g, c3, rfl, hcs, hb3⟩
            have HCS := hide hcs
            clear hcs
            have HK3 := hide (HK2.out.step hn2 hb3)
            have hc3 := HK3.out.box.cell
            have hf3 := HK3.out.box.frozen
            have hn3 := Nat.le_trans hn2 hb3.size
            refine hK _ _ ?_
            clear hK K
            refine wpAnyIn_ready (rs := [4]) (by kernel_rfl) (by simp) (AllReadyIn.cons rfl (fun K hK => ?_) AllReadyIn.nil)
            refine stepIn_append rfl _ _ 22 rfl w.heap.size 5 j0 (.int .u8 0) 1 1 Try.underlying22 Hi.out Hz0.out Hz1.out Hz2.out rfl (by decide) _ (M) _ rfl (by have h := HK3.out.row; rw [HM.out] at h; exact h) ⟨g, 0, none⟩ _ c3 (B8 R) rfl (by simp [Hm.out]) HCS.out (hone8 _) (by simp only [maxLen]; omega) (by omega) hn3 (fun v' w4 hown' hg' => ?_)
            obtain ⟨A3, c4, rfl⟩ := own_slice hown'
            obtain ⟨hbx, hk4⟩ := HK3.out.append hb hsz hn3 (ys := out ++ R) (by simpa using hown') (by rw [List.length_append, HM.out, Hm.out]) hg'
            have HK4 := hide hk4
            clear hk4
            have hc4 := hbx.cell
            have hf4 := hbx.frozen
            refine hK _ _ ?_
            clear hK K
            refine wpAnyIn_ready (rs := [5]) (by kernel_rfl) (by simp) (AllReadyIn.cons rfl (fun K hK => ?_) AllReadyIn.nil)
            go_simp
            refine hK _ _ ?_
            clear hK K
            refine wpAnyIn_done (by kernel_rfl) ?_ _
            exact ⟨rfl, g, c3, A3, c4, rfl, by first | exact HK4.out | exact HK4.out.drew⟩
          · go_simp
            refine ⟨trivial, ?_⟩
            refine (CallsIn.inRound l (callsIn_wide.2 (HF'.out _))).mono ?_
            rintro e w2 ⟨rfl, hb2⟩
            have HK2 := hide (HK'.out.step hNW (((Below.refl _ W).drew).trans hb2))
            have hc2 := HK2.out.box.cell
            have hf2 := HK2.out.box.frozen
            have hn2 := Nat.le_trans hNW hb2.size
            refine hK _ _ ?_
            clear hK K
            refine wpAnyIn_ready (rs := [0, 3]) (by kernel_rfl) (by simp) (AllReadyIn.cons rfl (fun K hK => ?_) (AllReadyIn.cons rfl (fun K hK => ?_) AllReadyIn.nil))
            · go_simp
              refine hK _ _ ?_
              clear hK K
              refine wpAnyIn_ready (rs := [3]) (by kernel_rfl) (by simp) (AllReadyIn.cons rfl (fun K hK => ?_) AllReadyIn.nil)
              go_simp
              refine ⟨trivial, ?_⟩
              refine (CallsIn.inRound l (callsIn_wide.2 (HP1.out _))).mono ?_
              rintro e w3 ⟨g, c3, rfl, hcs, hb3⟩
              have HCS := hide hcs
              clear hcs
              have HK3 := hide (HK2.out.step hn2 hb3)
              have hc3 := HK3.out.box.cell
              have hf3 := HK3.out.box.frozen
              have hn3 := Nat.le_trans hn2 hb3.size
              refine hK _ _ ?_
              clear hK K
              refine wpAnyIn_ready (rs := [4]) (by kernel_rfl) (by simp) (AllReadyIn.cons rfl (fun K hK => ?_) AllReadyIn.nil)
              refine stepIn_append rfl _ _ 22 rfl w.heap.size 5 j0 (.int .u8 0) 1 1 Try.underlying22 Hi.out Hz0.out Hz1.out Hz2.out rfl (by decide) _ (M) _ rfl (by have h := HK3.out.row; rw [HM.out] at h; exact h) ⟨g, 0, none⟩ _ c3 (B8 R) rfl (by simp [Hm.out]) HCS.out (hone8 _) (by simp only [maxLen]; omega) (by omega) hn3 (fun v' w4 hown' hg' => ?_)
              obtain ⟨A3, c4, rfl⟩ := own_slice hown'
              obtain ⟨hbx, hk4⟩ := HK3.out.append hb hsz hn3 (ys := out ++ R) (by simpa using hown') (by rw [List.length_append, HM.out, Hm.out]) hg'
              have HK4 := hide hk4
              clear hk4
              have hc4 := hbx.cell
              have hf4 := hbx.frozen
              refine hK _ _ ?_
              clear hK K
              refine wpAnyIn_ready (rs := [5]) (by kernel_rfl) (by simp) (AllReadyIn.cons rfl (fun K hK => ?_) AllReadyIn.nil)
              go_simp
              refine hK _ _ ?_
              clear hK K
              refine wpAnyIn_done (by kernel_rfl) ?_ _
              exact ⟨rfl, g, c3, A3, c4, rfl, by first | exact HK4.out | exact HK4.out.drew⟩
            · go_simp
              refine ⟨trivial, ?_⟩
              refine (CallsIn.inRound l (callsIn_wide.2 (HP1.out _))).mono ?_
              rintro e w3 ⟨g, c3, rfl, hcs, hb3⟩
              have HCS := hide hcs
              clear hcs
              have HK3 := hide (HK2.out.step hn2 hb3)
              have hc3 := HK3.out.box.cell
              have hf3 := HK3.out.box.frozen
              have hn3 := Nat.le_trans hn2 hb3.size
              refine hK _ _ ?_
              clear hK K
              refine wpAnyIn_ready (rs := [0]) (by kernel_rfl) (by simp) (AllReadyIn.cons rfl (fun K hK => ?_) AllReadyIn.nil)
              go_simp
              refine hK _ _ ?_
              clear hK K
              refine wpAnyIn_ready (rs := [4]) (by kernel_rfl) (by simp) (AllReadyIn.cons rfl (fun K hK => ?_) AllReadyIn.nil)
              refine stepIn_append rfl _ _ 22 rfl w.heap.size 5 j0 (.int .u8 0) 1 1 Try.underlying22 Hi.out Hz0.out Hz1.out Hz2.out rfl (by decide) _ (M) _ rfl (by have h := HK3.out.row; rw [HM.out] at h; exact h) ⟨g, 0, none⟩ _ c3 (B8 R) rfl (by simp [Hm.out]) HCS.out (hone8 _) (by simp only [maxLen]; omega) (by omega) hn3 (fun v' w4 hown' hg' => ?_)
              obtain ⟨A3, c4, rfl⟩ := own_slice hown'
              obtain ⟨hbx, hk4⟩ := HK3.out.append hb hsz hn3 (ys := out ++ R) (by simpa using hown') (by rw [List.length_append, HM.out, Hm.out]) hg'
              have HK4 := hide hk4
              clear hk4
              have hc4 := hbx.cell
              have hf4 := hbx.frozen
              refine hK _ _ ?_
              clear hK K
              refine wpAnyIn_ready (rs := [5]) (by kernel_rfl) (by simp) (AllReadyIn.cons rfl (fun K hK => ?_) AllReadyIn.nil)
              go_simp
              refine hK _ _ ?_
              clear hK K
              refine wpAnyIn_done (by kernel_rfl) ?_ _
              exact ⟨rfl, g, c3, A3, c4, rfl, by first | exact HK4.out | exact HK4.out.drew⟩
      rintro e a' W2 ⟨rfl, g, c3, A2, c2, rfl, hk5⟩
      have HK5 := hide hk5
      clear hk5
      have hc5 := HK5.out.box.cell
      have hf5 := HK5.out.box.frozen
      have hn5 := HK5.out.below.size
      have hu3 := HU2.out
      have HM2 : Hid ((out ++ R).length = M + m) := by rw [Hid, List.length_append, HM.out, Hm.out]
      gi_wp2
      refine wpIn_mono (Q := fun e a' w' => e = .normal ∧ ∃ (A3 : Option Addr) (c4 : Nat), KeptR w w.heap.size w1.heap.size b (.slice a zs.length cap) W w' (.slice A3 (M + m + m2) c4) (out ++ R ++ R2)) ?_ ?_
      · refine wpIn_region_any hmx ?_
        change wpAnyIn _ _ _ _ _ _ _ _ _ (World.drew _)
        refine wpAnyIn_ready (rs := [0, 1]) (by kernel_rfl) (by simp) (AllReadyIn.cons rfl (fun K hK => ?_) (AllReadyIn.cons rfl (fun K hK => ?_) AllReadyIn.nil))
        · go_simp
          refine hK _ _ ?_
          clear hK K
          refine wpAnyIn_ready (rs := [1]) (by kernel_rfl) (by simp) (AllReadyIn.cons rfl (fun K hK => ?_) AllReadyIn.nil)
          go_simp
          refine hK _ _ ?_
          clear hK K
          refine wpAnyIn_ready (rs := [2]) (by kernel_rfl) (by simp) (AllReadyIn.cons rfl (fun K hK => ?_) AllReadyIn.nil)
          go_simp
          refine hK _ _ ?_
          clear hK K
          refine wpAnyIn_ready (rs := [3]) (by kernel_rfl) (by simp) (AllReadyIn.cons rfl (fun K hK => ?_) AllReadyIn.nil)
          go_simp
          refine hK _ _ ?_
          clear hK K
          refine wpAnyIn_ready (rs := [4]) (by kernel_rfl) (by simp) (AllReadyIn.cons rfl (fun K hK => ?_) AllReadyIn.nil)
          go_simp
          refine ⟨trivial, ?_⟩
          refine (CallsIn.inRound l (callsIn_wide.2 (HP2.out _))).mono ?_
          rintro e w3 ⟨g, c3, rfl, hcs, hb3⟩
          have HCS := hide hcs
          clear hcs
          have HK3 := hide (HK5.out.step hn5 (((Below.refl _ W2).drew).trans hb3))
          have hc3 := HK3.out.box.cell
          have hf3 := HK3.out.box.frozen
          have hn3 := Nat.le_trans hn5 hb3.size
          refine hK _ _ ?_
          clear hK K
          refine wpAnyIn_ready (rs := [5]) (by kernel_rfl) (by simp) (AllReadyIn.cons rfl (fun K hK => ?_) AllReadyIn.nil)
          refine stepIn_append rfl _ _ 22 rfl w.heap.size 5 j0 (.int .u8 0) 1 1 Try.underlying22 Hi.out Hz0.out Hz1.out Hz2.out rfl (by decide) _ (M + m) _ rfl (by have h := HK3.out.row; rw [HM2.out] at h; exact h) ⟨g, 0, none⟩ _ c3 (B8 R2) rfl (by simp [Hm2.out]) HCS.out (hone8 _) (by simp only [maxLen]; omega) (by omega) hn3 (fun v' w4 hown' hg' => ?_)
          obtain ⟨A3, c4, rfl⟩ := own_slice hown'
          obtain ⟨hbx, hk4⟩ := HK3.out.append hb hsz hn3 (ys := (out ++ R) ++ R2) (by simpa using hown') (by rw [List.length_append, HM2.out, Hm2.out]) hg'
          have HK4 := hide hk4
          clear hk4
          have hc4 := hbx.cell
          have hf4 := hbx.frozen
          refine hK _ _ ?_
          clear hK K
          refine wpAnyIn_ready (rs := [6]) (by kernel_rfl) (by simp) (AllReadyIn.cons rfl (fun K hK => ?_) AllReadyIn.nil)
          go_simp
          refine hK _ _ ?_
          clear hK K
          refine wpAnyIn_done (by kernel_rfl) ?_ _
          exact ⟨rfl, A3, c4, by first | exact HK4.out | exact HK4.out.drew⟩
        · go_simp
          refine hK _ _ ?_
          clear hK K
          refine wpAnyIn_ready (rs := [0, 2]) (by kernel_rfl) (by simp) (AllReadyIn.cons rfl (fun K hK => ?_) (AllReadyIn.cons rfl (fun K hK => ?_) AllReadyIn.nil))
          · go_simp
            refine hK _ _ ?_
            clear hK K
            refine wpAnyIn_ready (rs := [2]) (by kernel_rfl) (by simp) (AllReadyIn.cons rfl (fun K hK => ?_) AllReadyIn.nil)
            go_simp
            refine hK _ _ ?_
            clear hK K
            refine wpAnyIn_ready (rs := [3]) (by kernel_rfl) (by simp) (AllReadyIn.cons rfl (fun K hK => ?_) AllReadyIn.nil)
            go_simp
            refine hK _ _ ?_
            clear hK K
            refine wpAnyIn_ready (rs := [4]) (by kernel_rfl) (by simp) (AllReadyIn.cons rfl (fun K hK => ?_) AllReadyIn.nil)
            go_simp
            refine ⟨trivial, ?_⟩
            refine (CallsIn.inRound l (callsIn_wide.2 (HP2.out _))).mono ?_
            rintro e w3 ⟨g, c3, rfl, hcs, hb3⟩
            have HCS := hide hcs
            clear hcs
            have HK3 := hide (HK5.out.step hn5 (((Below.refl _ W2).drew).trans hb3))
            have hc3 := HK3.out.box.cell
            have hf3 := HK3.out.box.frozen
            have hn3 := Nat.le_trans hn5 hb3.size
            refine hK _ _ ?_
            clear hK K
            refine wpAnyIn_ready (rs := [5]) (by kernel_rfl) (by simp) (AllReadyIn.cons rfl (fun K hK => ?_) AllReadyIn.nil)
            refine stepIn_append rfl _ _ 22 rfl w.heap.size 5 j0 (.int .u8 0) 1 1 Try.underlying22 Hi.out Hz0.out Hz1.out Hz2.out rfl (by decide) _ (M + m) _ rfl (by have h := HK3.out.row; rw [HM2.out] at h; exact h) ⟨g, 0, none⟩ _ c3 (B8 R2) rfl (by simp [Hm2.out]) HCS.out (hone8 _) (by simp only [maxLen]; omega) (by omega) hn3 (fun v' w4 hown' hg' => ?_)
            obtain ⟨A3, c4, rfl⟩ := own_slice hown'
            obtain ⟨hbx, hk4⟩ := HK3.out.append hb hsz hn3 (ys := (out ++ R) ++ R2) (by simpa using hown') (by rw [List.length_append, HM2.out, Hm2.out]) hg'
            have HK4 := hide hk4
            clear hk4
            have hc4 := hbx.cell
            have hf4 := hbx.frozen
            refine hK _ _ ?_
            clear hK K
            refine wpAnyIn_ready (rs := [6]) (by kernel_rfl) (by simp) (AllReadyIn.cons rfl (fun K hK => ?_) AllReadyIn.nil)
            go_simp
            refine hK _ _ ?_
            clear hK K
            refine wpAnyIn_done (by kernel_rfl) ?_ _
            exact ⟨rfl, A3, c4, by first | exact HK4.out | exact HK4.out.drew⟩
          · go_simp
            refine hK _ _ ?_
            clear hK K
            refine wpAnyIn_ready (rs := [0, 3]) (by kernel_rfl) (by simp) (AllReadyIn.cons rfl (fun K hK => ?_) (AllReadyIn.cons rfl (fun K hK => ?_) AllReadyIn.nil))
            · go_simp
              refine hK _ _ ?_
              clear hK K
              refine wpAnyIn_ready (rs := [3]) (by kernel_rfl) (by simp) (AllReadyIn.cons rfl (fun K hK => ?_) AllReadyIn.nil)
              go_simp
              refine hK _ _ ?_
              clear hK K
              refine wpAnyIn_ready (rs := [4]) (by kernel_rfl) (by simp) (AllReadyIn.cons rfl (fun K hK => ?_) AllReadyIn.nil)
              go_simp
              refine ⟨trivial, ?_⟩
              refine (CallsIn.inRound l (callsIn_wide.2 (HP2.out _))).mono ?_
              rintro e w3 ⟨g, c3, rfl, hcs, hb3⟩
              have HCS := hide hcs
              clear hcs
              have HK3 := hide (HK5.out.step hn5 (((Below.refl _ W2).drew).trans hb3))
              have hc3 := HK3.out.box.cell
              have hf3 := HK3.out.box.frozen
              have hn3 := Nat.le_trans hn5 hb3.size
              refine hK _ _ ?_
              clear hK K
              refine wpAnyIn_ready (rs := [5]) (by kernel_rfl) (by simp) (AllReadyIn.cons rfl (fun K hK => ?_) AllReadyIn.nil)
              refine stepIn_append rfl _ _ 22 rfl w.heap.size 5 j0 (.int .u8 0) 1 1 Try.underlying22 Hi.out Hz0.out Hz1.out Hz2.out rfl (by decide) _ (M + m) _ rfl (by have h := HK3.out.row; rw [HM2.out] at h; exact h) ⟨g, 0, none⟩ _ c3 (B8 R2) rfl (by simp [Hm2.out]) HCS.out (hone8 _) (by simp only [maxLen]; omega) (by omega) hn3 (fun v' w4 hown' hg' => ?_)
              obtain ⟨A3, c4, rfl⟩ := own_slice hown'
              obtain ⟨hbx, hk4⟩ := HK3.out.append hb hsz hn3 (ys := (out ++ R) ++ R2) (by simpa using hown') (by rw [List.length_append, HM2.out, Hm2.out]) hg'
              have HK4 := hide hk4
              clear hk4
              have hc4 := hbx.cell
              have hf4 := hbx.frozen
              refine hK _ _ ?_
              clear hK K
              refine wpAnyIn_ready (rs := [6]) (by kernel_rfl) (by simp) (AllReadyIn.cons rfl (fun K hK => ?_) AllReadyIn.nil)
              go_simp
              refine hK _ _ ?_
              clear hK K
              refine wpAnyIn_done (by kernel_rfl) ?_ _
              exact ⟨rfl, A3, c4, by first | exact HK4.out | exact HK4.out.drew⟩
            · go_simp
              refine hK _ _ ?_
              clear hK K
              refine wpAnyIn_ready (rs := [0, 4]) (by kernel_rfl) (by simp) (AllReadyIn.cons rfl (fun K hK => ?_) (AllReadyIn.cons rfl (fun K hK => ?_) AllReadyIn.nil))
              · go_simp
                refine hK _ _ ?_
                clear hK K
                refine wpAnyIn_ready (rs := [4]) (by kernel_rfl) (by simp) (AllReadyIn.cons rfl (fun K hK => ?_) AllReadyIn.nil)
                go_simp
                refine ⟨trivial, ?_⟩
                refine (CallsIn.inRound l (callsIn_wide.2 (HP2.out _))).mono ?_
                rintro e w3 ⟨g, c3, rfl, hcs, hb3⟩
                have HCS := hide hcs
                clear hcs
                have HK3 := hide (HK5.out.step hn5 (((Below.refl _ W2).drew).trans hb3))
                have hc3 := HK3.out.box.cell
                have hf3 := HK3.out.box.frozen
                have hn3 := Nat.le_trans hn5 hb3.size
                refine hK _ _ ?_
                clear hK K
                refine wpAnyIn_ready (rs := [5]) (by kernel_rfl) (by simp) (AllReadyIn.cons rfl (fun K hK => ?_) AllReadyIn.nil)
                refine stepIn_append rfl _ _ 22 rfl w.heap.size 5 j0 (.int .u8 0) 1 1 Try.underlying22 Hi.out Hz0.out Hz1.out Hz2.out rfl (by decide) _ (M + m) _ rfl (by have h := HK3.out.row; rw [HM2.out] at h; exact h) ⟨g, 0, none⟩ _ c3 (B8 R2) rfl (by simp [Hm2.out]) HCS.out (hone8 _) (by simp only [maxLen]; omega) (by omega) hn3 (fun v' w4 hown' hg' => ?_)
                obtain ⟨A3, c4, rfl⟩ := own_slice hown'
                obtain ⟨hbx, hk4⟩ := HK3.out.append hb hsz hn3 (ys := (out ++ R) ++ R2) (by simpa using hown') (by rw [List.length_append, HM2.out, Hm2.out]) hg'
                have HK4 := hide hk4
                clear hk4
                have hc4 := hbx.cell
                have hf4 := hbx.frozen
                refine hK _ _ ?_
                clear hK K
                refine wpAnyIn_ready (rs := [6]) (by kernel_rfl) (by simp) (AllReadyIn.cons rfl (fun K hK => ?_) AllReadyIn.nil)
                go_simp
                refine hK _ _ ?_
                clear hK K
                refine wpAnyIn_done (by kernel_rfl) ?_ _
                exact ⟨rfl, A3, c4, by first | exact HK4.out | exact HK4.out.drew⟩
              · go_simp
                refine ⟨trivial, ?_⟩
                refine (CallsIn.inRound l (callsIn_wide.2 (HP2.out _))).mono ?_
                rintro e w3 ⟨g, c3, rfl, hcs, hb3⟩
                have HCS := hide hcs
                clear hcs
                have HK3 := hide (HK5.out.step hn5 (((Below.refl _ W2).drew).trans hb3))
                have hc3 := HK3.out.box.cell
                have hf3 := HK3.out.box.frozen
                have hn3 := Nat.le_trans hn5 hb3.size
                refine hK _ _ ?_
                clear hK K
                refine wpAnyIn_ready (rs := [0]) (by kernel_rfl) (by simp) (AllReadyIn.cons rfl (fun K hK => ?_) AllReadyIn.nil)
                go_simp
                refine hK _ _ ?_
                clear hK K
                refine wpAnyIn_ready (rs := [5]) (by kernel_rfl) (by simp) (AllReadyIn.cons rfl (fun K hK => ?_) AllReadyIn.nil)
                refine stepIn_append rfl _ _ 22 rfl w.heap.size 5 j0 (.int .u8 0) 1 1 Try.underlying22 Hi.out Hz0.out Hz1.out Hz2.out rfl (by decide) _ (M + m) _ rfl (by have h := HK3.out.row; rw [HM2.out] at h; exact h) ⟨g, 0, none⟩ _ c3 (B8 R2) rfl (by simp [Hm2.out]) HCS.out (hone8 _) (by simp only [maxLen]; omega) (by omega) hn3 (fun v' w4 hown' hg' => ?_)
                obtain ⟨A3, c4, rfl⟩ := own_slice hown'
                obtain ⟨hbx, hk4⟩ := HK3.out.append hb hsz hn3 (ys := (out ++ R) ++ R2) (by simpa using hown') (by rw [List.length_append, HM2.out, Hm2.out]) hg'
                have HK4 := hide hk4
                clear hk4
                have hc4 := hbx.cell
                have hf4 := hbx.frozen
                refine hK _ _ ?_
                clear hK K
                refine wpAnyIn_ready (rs := [6]) (by kernel_rfl) (by simp) (AllReadyIn.cons rfl (fun K hK => ?_) AllReadyIn.nil)
                go_simp
                refine hK _ _ ?_
                clear hK K
                refine wpAnyIn_done (by kernel_rfl) ?_ _
                exact ⟨rfl, A3, c4, by first | exact HK4.out | exact HK4.out.drew⟩
      rintro e a' W3 ⟨rfl, A3, c4, hk6⟩
      have hrow := hk6.row
      have he : xs ++ putS (pre ++ [(0, x2)]) = out ++ R ++ R2 := by rw [putS_snoc, ← List.append_assoc, HO.out, HPB.out]; simp
      rw [← he] at hrow
      exact ⟨hk6.others, hk6.keep, ⟨_, hk6.box, hrow, trivial⟩, hk6.it, hk6.below⟩
    · gi_wp2
      refine wpIn_mono (Q := fun e a' w' => e = .normal ∧ ∃ (g c3 : Nat) (A2 : Option Addr) (c2 : Nat), a' = { tmps := #[.slice A n c, .slice a zs.length cap, undef, undef, .slice none 0 0, .pointer (some ⟨w1.heap.size, 0, none⟩), .int .i64 x1, .int .i64 x2, .slice A n c, .slice A0 n c0, .slice a zs.length cap, .func (.func 117) #[] #[.pointer (some ⟨w1.heap.size + 1, 0, none⟩)], .int .i64 x1, .int .i64 x2, .slice A1 M c1, .int .i64 x1, .int .u64 u, .slice (some ⟨g, 0, none⟩) m c3, .slice A2 (M + m) c2, undef, undef, undef, undef, undef, undef, undef, undef, undef], defers := [] } ∧ KeptR w w.heap.size w1.heap.size b (.slice a zs.length cap) W w' (.slice A2 (M + m) c2) (out ++ R)) ?_ ?_
      · refine wpIn_region_any hmx ?_
        change wpAnyIn _ _ _ _ _ _ _ _ _ (World.drew _)
        refine wpAnyIn_ready (rs := [0, 1]) (by kernel_rfl) (by simp) (AllReadyIn.cons rfl (fun K hK => ?_) (AllReadyIn.cons rfl (fun K hK => ?_) AllReadyIn.nil))
        · go_simp
          refine hK _ _ ?_
          clear hK K
          refine wpAnyIn_ready (rs := [1]) (by kernel_rfl) (by simp) (AllReadyIn.cons rfl (fun K hK => ?_) AllReadyIn.nil)
          go_simp
          refine hK _ _ ?_
          clear hK K
          refine wpAnyIn_ready (rs := [2]) (by kernel_rfl) (by simp) (AllReadyIn.cons rfl (fun K hK => ?_) AllReadyIn.nil)
          go_simp
          refine ⟨trivial, ?_⟩
          refine (CallsIn.inRound l (callsIn_wide.2 (HF'.out _))).mono ?_
          rintro e w2 ⟨rfl, hb2⟩
          have HK2 := hide (HK'.out.step hNW (((Below.refl _ W).drew).trans hb2))
          have hc2 := HK2.out.box.cell
          have hf2 := HK2.out.box.frozen
          have hn2 := Nat.le_trans hNW hb2.size
          refine hK _ _ ?_
          clear hK K
          refine wpAnyIn_ready (rs := [3]) (by kernel_rfl) (by simp) (AllReadyIn.cons rfl (fun K hK => ?_) AllReadyIn.nil)
          go_simp
          refine ⟨trivial, ?_⟩
          refine (CallsIn.inRound l (callsIn_wide.2 (HP1.out _))).mono ?_
          rintro e w3 ⟨g, c3, rfl, hcs, hb3⟩
          have HCS := hide hcs
          clear hcs
          have HK3 := hide (HK2.out.step hn2 hb3)
          have hc3 := HK3.out.box.cell
          have hf3 := HK3.out.box.frozen
          have hn3 := Nat.le_trans hn2 hb3.size
          refine hK _ _ ?_
          clear hK K
          refine wpAnyIn_ready (rs := [4]) (by kernel_rfl) (by simp) (AllReadyIn.cons rfl (fun K hK => ?_) AllReadyIn.nil)
          refine stepIn_append rfl _ _ 22 rfl w.heap.size 5 j0 (.int .u8 0) 1 1 Try.underlying22 Hi.out Hz0.out Hz1.out Hz2.out rfl (by decide) _ (M) _ rfl (by have h := HK3.out.row; rw [HM.out] at h; exact h) ⟨g, 0, none⟩ _ c3 (B8 R) rfl (by simp [Hm.out]) HCS.out (hone8 _) (by simp only [maxLen]; omega) (by omega) hn3 (fun v' w4 hown' hg' => ?_)
          obtain ⟨A3, c4, rfl⟩ := own_slice hown'
          obtain ⟨hbx, hk4⟩ := HK3.out.append hb hsz hn3 (ys := out ++ R) (by simpa using hown') (by rw [List.length_append, HM.out, Hm.out]) hg'
          have HK4 := hide hk4
          clear hk4
          have hc4 := hbx.cell
          have hf4 := hbx.frozen
          refine hK _ _ ?_
          clear hK K
          refine wpAnyIn_ready (rs := [5]) (by kernel_rfl) (by simp) (AllReadyIn.cons rfl (fun K hK => ?_) AllReadyIn.nil)
          go_simp
          refine hK _ _ ?_
          clear hK K
          refine wpAnyIn_done (by kernel_rfl) ?_ _
          exact ⟨rfl, g, c3, A3, c4, rfl, by first | exact HK4.out | exact HK4.out.drew⟩
        · go_simp
          refine hK _ _ ?_
          clear hK K
          refine wpAnyIn_ready (rs := [0, 2]) (by kernel_rfl) (by simp) (AllReadyIn.cons rfl (fun K hK => ?_) (AllReadyIn.cons rfl (fun K hK => ?_) AllReadyIn.nil))
          · go_simp
            refine hK _ _ ?_
            clear hK K
            refine wpAnyIn_ready (rs := [2]) (by kernel_rfl) (by simp) (AllReadyIn.cons rfl (fun K hK => ?_) AllReadyIn.nil)
            go_simp
            refine ⟨trivial, ?_⟩
            refine (CallsIn.inRound l (callsIn_wide.2 (HF'.out _))).mono ?_
            rintro e w2 ⟨rfl, hb2⟩
            have HK2 := hide (HK'.out.step hNW (((Below.refl _ W).drew).trans hb2))
            have hc2 := HK2.out.box.cell
            have hf2 := HK2.out.box.frozen
            have hn2 := Nat.le_trans hNW hb2.size
            refine hK _ _ ?_
            clear hK K
            refine wpAnyIn_ready (rs := [3]) (by kernel_rfl) (by simp) (AllReadyIn.cons rfl (fun K hK => ?_) AllReadyIn.nil)
            go_simp
            refine ⟨trivial, ?_⟩
            refine (CallsIn.inRound l (callsIn_wide.2 (HP1.out _))).mono ?_
            rintro e w3 ⟨g, c3, rfl, hcs, hb3⟩
            have HCS := hide hcs
            clear hcs
            have HK3 := hide (HK2.out.step hn2 hb3)
            have hc3 := HK3.out.box.cell
            have hf3 := HK3.out.box.frozen
            have hn3 := Nat.le_trans hn2 hb3.size
            refine hK _ _ ?_
            clear hK K
            refine wpAnyIn_ready (rs := [4]) (by kernel_rfl) (by simp) (AllReadyIn.cons rfl (fun K hK => ?_) AllReadyIn.nil)
            refine stepIn_append rfl _ _ 22 rfl w.heap.size 5 j0 (.int .u8 0) 1 1 Try.underlying22 Hi.out Hz0.out Hz1.out Hz2.out rfl (by decide) _ (M) _ rfl (by have h := HK3.out.row; rw [HM.out] at h; exact h) ⟨g, 0, none⟩ _ c3 (B8 R) rfl (by simp [Hm.out]) HCS.out (hone8 _) (by simp only [maxLen]; omega) (by omega) hn3 (fun v' w4 hown' hg' => ?_)
            obtain ⟨A3, c4, rfl⟩ := own_slice hown'
            obtain ⟨hbx, hk4⟩ := HK3.out.append hb hsz hn3 (ys := out ++ R) (by simpa using hown') (by rw [List.length_append, HM.out, Hm.out]) hg'
            have HK4 := hide hk4
            clear hk4
            have hc4 := hbx.cell
            have hf4 := hbx.frozen
            refine hK _ _ ?_
            clear hK K
            refine wpAnyIn_ready (rs := [5]) (by kernel_rfl) (by simp) (AllReadyIn.cons rfl (fun K hK => ?_) AllReadyIn.nil)
            go_simp
            refine hK _ _ ?_
            clear hK K
            refine wpAnyIn_done (by kernel_rfl) ?_ _
            exact ⟨rfl, g, c3, A3, c4, rfl, by first | exact HK4.out | exact HK4.out.drew⟩
          · go_simp
            refine ⟨trivial, ?_⟩
            refine (CallsIn.inRound l (callsIn_wide.2 (HF'.out _))).mono ?_
            rintro e w2 ⟨rfl, hb2⟩
            have HK2 := hide (HK'.out.step hNW (((Below.refl _ W).drew).trans hb2))
            have hc2 := HK2.out.box.cell
            have hf2 := HK2.out.box.frozen
            have hn2 := Nat.le_trans hNW hb2.size
            refine hK _ _ ?_
            clear hK K
            refine wpAnyIn_ready (rs := [0, 3]) (by kernel_rfl) (by simp) (AllReadyIn.cons rfl (fun K hK => ?_) (AllReadyIn.cons rfl (fun K hK => ?_) AllReadyIn.nil))
            · go_simp
              refine hK _ _ ?_
              clear hK K
              refine wpAnyIn_ready (rs := [3]) (by kernel_rfl) (by simp) (AllReadyIn.cons rfl (fun K hK => ?_) AllReadyIn.nil)
              go_simp
              refine ⟨trivial, ?_⟩
              refine (CallsIn.inRound l (callsIn_wide.2 (HP1.out _))).mono ?_
              rintro e w3 ⟨g, c3, rfl, hcs, hb3⟩
              have HCS := hide hcs
              clear hcs
              have HK3 := hide (HK2.out.step hn2 hb3)
              have hc3 := HK3.out.box.cell
              have hf3 := HK3.out.box.frozen
              have hn3 := Nat.le_trans hn2 hb3.size
              refine hK _ _ ?_
              clear hK K
              refine wpAnyIn_ready (rs := [4]) (by kernel_rfl) (by simp) (AllReadyIn.cons rfl (fun K hK => ?_) AllReadyIn.nil)
              refine stepIn_append rfl _ _ 22 rfl w.heap.size 5 j0 (.int .u8 0) 1 1 Try.underlying22 Hi.out Hz0.out Hz1.out Hz2.out rfl (by decide) _ (M) _ rfl (by have h := HK3.out.row; rw [HM.out] at h; exact h) ⟨g, 0, none⟩ _ c3 (B8 R) rfl (by simp [Hm.out]) HCS.out (hone8 _) (by simp only [maxLen]; omega) (by omega) hn3 (fun v' w4 hown' hg' => ?_)
              obtain ⟨A3, c4, rfl⟩ := own_slice hown'
              obtain ⟨hbx, hk4⟩ := HK3.out.append hb hsz hn3 (ys := out ++ R) (by simpa using hown') (by rw [List.length_append, HM.out, Hm.out]) hg'
              have HK4 := hide hk4
              clear hk4
              have hc4 := hbx.cell
              have hf4 := hbx.frozen
              refine hK _ _ ?_
              clear hK K
              refine wpAnyIn_ready (rs := [5]) (by kernel_rfl) (by simp) (AllReadyIn.cons rfl (fun K hK => ?_) AllReadyIn.nil)
              go_simp
              refine hK _ _ ?_
              clear hK K
              refine wpAnyIn_done (by kernel_rfl) ?_ _
              exact ⟨rfl, g, c3, A3, c4, rfl, by first | exact HK4.out | exact HK4.out.drew⟩
            · go_simp
              refine ⟨trivial, ?_⟩
              refine (CallsIn.inRound l (callsIn_wide.2 (HP1.out _))).mono ?_
              rintro e w3 ⟨g, c3, rfl, hcs, hb3⟩
              have HCS := hide hcs
              clear hcs
              have HK3 := hide (HK2.out.step hn2 hb3)
              have hc3 := HK3.out.box.cell
              have hf3 := HK3.out.box.frozen
              have hn3 := Nat.le_trans hn2 hb3.size
              refine hK _ _ ?_
              clear hK K
              refine wpAnyIn_ready (rs := [0]) (by kernel_rfl) (by simp) (AllReadyIn.cons rfl (fun K hK => ?_) AllReadyIn.nil)
              go_simp
              refine hK _ _ ?_
              clear hK K
              refine wpAnyIn_ready (rs := [4]) (by kernel_rfl) (by simp) (AllReadyIn.cons rfl (fun K hK => ?_) AllReadyIn.nil)
              refine stepIn_append rfl _ _ 22 rfl w.heap.size 5 j0 (.int .u8 0) 1 1 Try.underlying22 Hi.out Hz0.out Hz1.out Hz2.out rfl (by decide) _ (M) _ rfl (by have h := HK3.out.row; rw [HM.out] at h; exact h) ⟨g, 0, none⟩ _ c3 (B8 R) rfl (by simp [Hm.out]) HCS.out (hone8 _) (by simp only [maxLen]; omega) (by omega) hn3 (fun v' w4 hown' hg' => ?_)
              obtain ⟨A3, c4, rfl⟩ := own_slice hown'
              obtain ⟨hbx, hk4⟩ := HK3.out.append hb hsz hn3 (ys := out ++ R) (by simpa using hown') (by rw [List.length_append, HM.out, Hm.out]) hg'
              have HK4 := hide hk4
              clear hk4
              have hc4 := hbx.cell
              have hf4 := hbx.frozen
              refine hK _ _ ?_
              clear hK K
              refine wpAnyIn_ready (rs := [5]) (by kernel_rfl) (by simp) (AllReadyIn.cons rfl (fun K hK => ?_) AllReadyIn.nil)
              go_simp
              refine hK _ _ ?_
              clear hK K
              refine wpAnyIn_done (by kernel_rfl) ?_ _
              exact ⟨rfl, g, c3, A3, c4, rfl, by first | exact HK4.out | exact HK4.out.drew⟩
      rintro e a' W2 ⟨rfl, g, c3, A2, c2, rfl, hk5⟩
      have HK5 := hide hk5
      clear hk5
      have hc5 := HK5.out.box.cell
      have hf5 := HK5.out.box.frozen
      have hn5 := HK5.out.below.size
      gi_wp2
      have hrow := HK5.out.row
      have he : xs ++ putS (pre ++ [(x1, x2)]) = out ++ R := by rw [putS_snoc, ← List.append_assoc, HO.out, HPB.out, if_neg hx, List.append_nil]
      rw [← he] at hrow
      exact ⟨HK5.out.others, HK5.out.keep, ⟨_, HK5.out.box, hrow, trivial⟩, HK5.out.it, HK5.out.below⟩
  case done =>
    rintro D ys W hD rfl ⟨⟨v, hv, hrow, _⟩, hit, hB⟩ hK
    obtain ⟨out, hout⟩ : ∃ out, xs ++ putS (runsL zs) = out := ⟨_, rfl⟩
    obtain ⟨M, hM⟩ : ∃ M, out.length = M := ⟨_, rfl⟩
    rw [hout, hM] at hrow
    obtain ⟨A1, c1, rfl⟩ := own_slice hrow
    have hc := hv.cell
    have HO := hide hout
    have HM := hide hM
    clear hout hM
    gi_wp2
    refine ⟨by simp, .inl ⟨_, _, rfl, run_takeDeferred hK, ?_⟩⟩
    exact ⟨_, results_tmp rfl _ _ _, _, rfl, by rw [HO.out, HM.out]; exact ownsRow_putObj hrow _ hK rfl, hB.trans (belowK_b (w := w) (Nat.le_refl _) W D _ _ (by simp at hD; omega) hK rfl rfl)⟩
  case stop =>
    rintro D c pre W _ _ h _
    exact h.elim

end Go.Proofs.Ytkfejcffacbngaa.J


namespace Go.Proofs.Ytkfejcffacbngaa.J

open Go Go.Sym

set_option linter.unusedVariables false

def g102 : List (List Int) → List Int
  | [b, zs] => b ++ putS (runsL zs)
  | _ => []

def g103 : List (List Int) → List Int
  | [zs] => [((lenS (runsL zs) : Nat) : Int)]
  | _ => []

def FNq : Nat → List (List Int) → List Int
  | 102, l => g102 l
  | 103, l => g103 l
  | i, l => FNp i l

def pcRPut : Pc := ⟨20, [.sl [.u8], .sl [.i64]], [.sl 5 [.u8]], 102, [(0, 0, 1000000), (1, 0, 1000000)], []⟩
theorem kind1 (k : IntKind) (j : Nat) : kindAt [k] j = k := by simp [kindAt, Nat.mod_one]

theorem intsIn_of {w : World} {v : Value} {zs : List Int} (h : ArgIs w v (.sl [.i64]) zs) : IntsIn w w.heap.size v zs := by
  obtain ⟨_, a, n, c, rfl, h4, h5, h6⟩ := h
  simp only [List.length_singleton, Nat.mul_one] at h5
  refine ⟨a, c, by rw [h5], ?_⟩
  rcases h6 with ⟨b, o, rfl, h7, h8⟩ | h6
  · refine .inr ⟨b, o, rfl, h7, fun j hj => ?_⟩
    have := h8 j _ (List.getElem?_eq_getElem hj)
    rw [kind1] at this
    rw [this, List.getElem?_eq_getElem hj]; rfl
  · exact .inl (List.eq_nil_of_length_eq_zero (by omega))

theorem reads_of {w : World} {a : Option Addr} {n c : Nat} {l : List Int} (h : ArgIs w (.slice a n c) (.sl [.u8]) l) : Reads w w.heap.size 1 a n (B8 l) := by
  obtain ⟨_, a', n', c', he, h4, h5, h6⟩ := h
  cases he
  simp only [List.length_singleton, Nat.mul_one] at h5
  refine ⟨by simp [h5], fun hn => ?_⟩
  rcases h6 with ⟨b, o, rfl, h7, h8⟩ | h6
  · refine ⟨_, rfl, h7, fun j u hu => ?_⟩
    rw [List.getElem?_map] at hu
    cases hq : l[j]? with
    | none => rw [hq] at hu; cases hu
    | some q =>
      rw [hq] at hu
      cases hu
      have := h8 j q hq
      rw [kind1] at this
      rw [addr_add]; exact this
  · omega

theorem newSl_of {w w' : World} {v : Value} {l : List Int} (h : w'.ownsRow w.heap.size 5 1 v l.length (B8 l)) : NewSl w w' v 5 [.u8] l := by
  refine ⟨by decide, ?_⟩
  rcases h.2 with ⟨rfl, h0⟩ | ⟨g, cap, cur, rfl, h1, h2, h3, h4, h5, h6⟩
  · exact .inl ⟨List.eq_nil_of_length_eq_zero h0, _, _, rfl⟩
  · by_cases hl : l = []
    · subst hl; exact .inl ⟨rfl, _, _, rfl⟩
    · refine .inr ⟨hl, g, l.length, cap, cur, 0, 0, rfl, by simp, h3, h1, h2, .inl rfl, by simpa using h5, fun j x hx => ?_⟩
      rw [kind1]
      have hj : j < l.length := (List.getElem?_eq_some_iff.1 hx).1
      have hc : cur.toList[j]? = some (.int .u8 x) := by
        have := congrArg (fun q => q[j]?) h6
        simp only [Nat.mul_one, List.getElem?_take, if_pos hj] at this
        rw [this, List.getElem?_map, hx]; rfl
      simp only [World.cell?, h2, Nat.zero_add]
      simpa using hc

theorem rput_ok : PcOk Try.prog FNq pcRPut := by
  intro w vs ls hargs hrng hpre
  have hargs0 := hargs
  match hvs : vs.toList, ls, hargs with
  | [v, sv], [b, zs], hargs =>
    obtain ⟨h1, h2, _⟩ := hargs
    have l1 := (hrng.1 (.sl [.u8]) b rfl rfl).2
    have l2 := (hrng.2.1 (.sl [.i64]) zs rfl rfl).2
    simp only [measL, List.length_singleton, Nat.div_one] at l1 l2
    have hvs' : vs = #[v, sv] := by apply Array.ext'; simpa using hvs
    subst hvs'
    obtain ⟨_, a, n, c, rfl, h4, h5, h6⟩ := id h1
    simp only [List.length_singleton, Nat.mul_one] at h5
    refine (callsIn_wide.1 (put_in a n c b sv zs (by omega) w (reads_of h1) (by omega) (intsIn_of h2))).mono ?_
    rintro e w' ⟨v, rfl, hown, hb⟩
    exact ⟨hb, _, [v], rfl, rfl, _, [], rfl, newSl_of hown, rfl⟩
  | [], _, h => exact h.elim
  | [_], [], h => exact h.elim
  | [_], [_], h => exact h.2.elim
  | [_], _ :: _ :: _, h => exact h.2.elim
  | _ :: _ :: _, [], h => exact h.elim
  | _ :: _ :: _, [_], h => exact h.2.elim
  | [_, _], _ :: _ :: _ :: _, h => exact h.2.2.elim
  | _ :: _ :: _ :: _, [_, _], h => exact h.2.2.elim
  | _ :: _ :: _ :: _, _ :: _ :: _ :: _, h => exact h.2.2.elim

end Go.Proofs.Ytkfejcffacbngaa.J


namespace Go.Proofs.Ytkfejcffacbngaa.J

open Go Go.Sym

set_option linter.unusedVariables false

def g104 : List (List Int) → List Int
  | _ => [1]

def FNr : Nat → List (List Int) → List Int
  | 104, l => g104 l
  | i, l => FNq i l

abbrev ltR (a b : IE) (t : Bool) : BE × Bool := (.cmp .lss a b, t)
end Go.Proofs.Ytkfejcffacbngaa.J

namespace Go.Proofs.Ytkfejcffacbngaa.J

open Go Go.Sym

set_option linter.unusedVariables false

theorem foldM_val {x : Int} (h0 : -9223372036854775808 ≤ x) (h1 : x ≤ 9223372036854775807) : foldM x = if x < 0 then -2 * x - 1 else 2 * x := by
  have e2 : ∀ y : Int, binI .mul .u64 2 y = IntKind.u64.wrap (2 * y) := fun y => rfl
  have e3 : ∀ y : Int, binI .add .u64 y 1 = IntKind.u64.wrap (y + 1) := fun y => rfl
  unfold foldM
  split
  · have t1 : binI .add .i64 x 1 = x + 1 := wrap_i64 (by omega)
    have t2 : binI .sub .i64 0 (x + 1) = 0 - (x + 1) := wrap_i64 (by omega)
    have t3 : IntKind.u64.wrap (0 - (x + 1)) = 0 - (x + 1) := wrap_u64 (by omega)
    rw [t1, t2, t3, e2, wrap_u64 (by omega), e3, wrap_u64 (by omega)]
    omega
  · have t3 : IntKind.u64.wrap x = x := wrap_u64 (by omega)
    rw [t3, e2, wrap_u64 (by omega)]

theorem rl_le : ∀ (l : List Int), rl l ≤ l.length
  | [] => Nat.le_refl _
  | x :: l => by
    have h : ∀ l : List Int, zc l ≤ l.length := by
      intro l
      induction l with
      | nil => simp [zc]
      | cons y l ih => rw [zc]; split <;> simp <;> omega
    have := h l
    rw [rl]; split <;> simp <;> omega

theorem rl_one {x : Int} {l : List Int} (h : x ≠ 0) : rl (x :: l) = 1 := by rw [rl, if_neg h]

end Go.Proofs.Ytkfejcffacbngaa.J

namespace Go.Proofs.Ytkfejcffacbngaa.J

open Go Go.Sym

set_option linter.unusedVariables false

theorem q_r {c : Pc} (h : PcOk Try.prog FNq c) (h1 : ∀ i, i < c.rks.length → c.id + i ≤ 103) (h2 : c.pre = []) : PcOk Try.prog FNr c := by
  refine h.cong (fun i hi => ?_) (fun i hi => by rw [h2] at hi; cases hi)
  have := h1 i hi
  generalize c.id + i = j at this
  funext l
  unfold FNr
  split <;> first | omega | rfl

theorem rput_r : PcOk Try.prog FNr pcRPut := q_r rput_ok (by decide) rfl
end Go.Proofs.Ytkfejcffacbngaa.J


namespace Go.Proofs.Ytkfejcffacbngaa.J

open Go Go.Sym

set_option linter.unusedVariables false

def g105 : List (List Int) → List Int
  | [zs] => putS (runsL zs)
  | _ => []

def FNs : Nat → List (List Int) → List Int
  | 105, l => g105 l
  | i, l => FNr i l

abbrev lB : IE := .rlen (.rvar 0) 1
end Go.Proofs.Ytkfejcffacbngaa.J

namespace Go.Proofs.Ytkfejcffacbngaa.J

open Go Go.Sym

set_option linter.unusedVariables false

abbrev at0 (zs : List Int) (i : Nat) : Int := zs[i]?.getD 0

theorem sel_at0 (zs : List Int) (i : Nat) : selL zs (i : Int) 1 0 = at0 zs i := by simp [selL, at0]

/-- the runs that are still to be written, from a place on -/
def restR (zs : List Int) (i : Nat) : List (Int × Int) := if 0 < i ∧ at0 zs (i - 1) = 0 then runsL ((zs.drop i).drop (zc (zs.drop i))) else runsL (zs.drop i)

theorem drop_at {zs : List Int} {i : Nat} (h : i < zs.length) : zs.drop i = at0 zs i :: zs.drop (i + 1) := by
  rw [List.drop_eq_getElem_cons h]; simp [at0, h]

theorem restR_num {zs : List Int} {i : Nat} (h : i < zs.length) (hx : at0 zs i ≠ 0) : restR zs i = (at0 zs i, 1) :: restR zs (i + 1) := by
  have hz : zc (zs.drop i) = 0 := by rw [drop_at h, zc, if_neg hx]
  have e : restR zs i = runsL (zs.drop i) := by unfold restR; split <;> simp [hz]
  have e2 : restR zs (i + 1) = runsL (zs.drop (i + 1)) := by unfold restR; rw [if_neg (by simp [hx])]
  rw [e, e2, drop_at h, runsL_cons, rl_one hx]; rfl

theorem restR_zero {zs : List Int} {i : Nat} (h : i < zs.length) (hp : ¬ (0 < i ∧ at0 zs (i - 1) = 0)) (hx : at0 zs i = 0) : restR zs i = (0, (zc (zs.drop i) : Int)) :: restR zs (i + 1) := by
  have hz : zc (zs.drop i) = zc (zs.drop (i + 1)) + 1 := by rw [drop_at h, zc, if_pos hx]
  have e2 : restR zs (i + 1) = runsL ((zs.drop (i + 1)).drop (zc (zs.drop (i + 1)))) := by unfold restR; rw [if_pos ⟨by omega, by simpa using hx⟩]
  have e1 : restR zs i = runsL (zs.drop i) := by unfold restR; rw [if_neg hp]
  have hr : rl (zs.drop i) = zc (zs.drop (i + 1)) + 1 := by rw [drop_at h, rl, if_pos hx]
  rw [e1, e2, hz]
  have hc := runsL_cons (at0 zs i) (zs.drop (i + 1))
  rw [← drop_at h, hr] at hc
  rw [hc, hx, drop_at h]
  rfl

theorem restR_0 (zs : List Int) : restR zs 0 = runsL zs := by unfold restR; simp

theorem zc_at {zs : List Int} {i k : Nat} (hk : i + k ≤ zs.length) (h0 : ∀ j, j < k → at0 zs (i + j) = 0) (h1 : i + k < zs.length → at0 zs (i + k) ≠ 0) : zc (zs.drop i) = k := by
  refine zc_eq _ _ (fun j hj => ?_) ?_
  · have h := h0 j hj
    have hlt : i + j < zs.length := by omega
    rw [List.getElem?_drop, List.getElem?_eq_getElem hlt]
    simp [at0, hlt] at h
    rw [h]
  · rw [List.getElem?_drop]
    intro h
    have hlt : i + k < zs.length := (List.getElem?_eq_some_iff.1 h).1
    exact h1 hlt (by simp [at0, h])

theorem putB_zero (k : Int) : putB (0, k) = 0 :: lebN 10 (IntKind.u64.wrap (IntKind.i64.wrap (k - 1))) := by
  have : lebN 10 (foldM 0) = [0] := by decide
  simp [putB, this]

theorem putB_num {x : Int} (h : x ≠ 0) (k : Int) : putB (x, k) = lebN 10 (foldM x) := by simp [putB, h]

theorem putS_cons (p : Int × Int) (l : List (Int × Int)) : putS (p :: l) = putB p ++ putS l := by simp [putS]

def Outd (zs out : List Int) (i : Nat) : Prop := out ++ putS (restR zs i) = putS (runsL zs) ∧ out.length ≤ 22 * i

theorem Outd.start (zs : List Int) : Outd zs [] 0 := ⟨by rw [restR_0]; rfl, by simp⟩

theorem Outd.num {zs out : List Int} {i : Nat} (h : Outd zs out i) (hi : i < zs.length) (hx : at0 zs i ≠ 0) : Outd zs (out ++ lebN 10 (foldM (at0 zs i))) (i + 1) := by
  have hl := (lebN_len' 10 (foldM (at0 zs i))).2
  refine ⟨?_, by have := h.2; rw [List.length_append]; omega⟩
  rw [← h.1, restR_num hi hx, putS_cons, putB_num hx, List.append_assoc]

theorem Outd.zero {zs out : List Int} {i k : Nat} (h : Outd zs out i) (hi : i < zs.length) (hp : ¬ (0 < i ∧ at0 zs (i - 1) = 0)) (hx : at0 zs i = 0) (hk : i + k ≤ zs.length) (h0 : ∀ j, j < k → at0 zs (i + j) = 0) (h1 : i + k < zs.length → at0 zs (i + k) ≠ 0) :
    Outd zs (out ++ 0 :: lebN 10 (IntKind.u64.wrap (binI .sub .i64 (k : Int) 1))) (i + 1) := by
  have hl := (lebN_len' 10 (IntKind.u64.wrap (binI .sub .i64 (k : Int) 1))).2
  refine ⟨?_, by have := h.2; rw [List.length_append, List.length_cons]; omega⟩
  rw [← h.1, restR_zero hi hp hx, putS_cons, zc_at hk h0 h1, putB_zero, List.append_assoc]
  rfl

end Go.Proofs.Ytkfejcffacbngaa.J

namespace Go.Proofs.Ytkfejcffacbngaa.J

open Go Go.Sym

set_option linter.unusedVariables false

theorem r_s {c : Pc} (h : PcOk Try.prog FNr c) (h1 : ∀ i, i < c.rks.length → c.id + i ≤ 104) (h2 : c.pre = []) : PcOk Try.prog FNs c := by
  refine h.cong (fun i hi => ?_) (fun i hi => by rw [h2] at hi; cases hi)
  have := h1 i hi
  generalize c.id + i = j at this
  funext l
  unfold FNs
  split <;> first | omega | rfl

end Go.Proofs.Ytkfejcffacbngaa.J


namespace Go.Proofs.Ytkfejcffacbngaa.J

open Go Go.Sym

set_option linter.unusedVariables false

end Go.Proofs.Ytkfejcffacbngaa.J


namespace Go.Proofs.Ytkfejcffacbngaa.J

open Go Go.Sym

set_option linter.unusedVariables false

def lebU (b : List Int) (a : Int) : Nat → Int
  | 0 => 0
  | k + 1 => binI .or .u64 (lebU b a k) (binI .shl .u64 (IntKind.u64.wrap (binI .and .u8 (selL b (a + k) 1 0) 127)) (binI .mul .i64 7 (k : Int)))

/-- code and number of bytes, from the k-th byte on -/
def lebC (b : List Int) (a : Int) : Nat → Nat → Int × Nat
  | 0, _ => (13, 0)
  | f + 1, k => if (b.length : Int) - a ≤ k then (14, 0) else if (k = 9 ∧ 1 < selL b (a + k) 1 0) ∨ (0 < k ∧ selL b (a + k) 1 0 = 0) then (13, 0) else if selL b (a + k) 1 0 < 128 then (0, k + 1) else lebC b a f (k + 1)

def lebR (b : List Int) (a : Int) : Int × Nat := if 0 ≤ a ∧ a ≤ (b.length : Int) then lebC b a 10 0 else (11, 0)

def g83 : List (List Int) → List Int
  | [b, [a]] => [if (lebR b a).1 = 0 then lebU b a (lebR b a).2 else 0]
  | _ => []

def g84 : List (List Int) → List Int
  | [b, [a]] => [if (lebR b a).1 = 0 then a + (lebR b a).2 else 0]
  | _ => []

def g85 : List (List Int) → List Int
  | [b, [a]] => [(lebR b a).1]
  | _ => []

def FNb : Nat → List (List Int) → List Int
  | 83, l => g83 l
  | 84, l => g84 l
  | 85, l => g85 l
  | i, l => FNa i l

theorem FNb_83 (b : List Int) (a : Int) : FNb 83 [b, [a]] = [if (lebR b a).1 = 0 then lebU b a (lebR b a).2 else 0] := rfl
theorem FNb_84 (b : List Int) (a : Int) : FNb 84 [b, [a]] = [if (lebR b a).1 = 0 then a + (lebR b a).2 else 0] := rfl
theorem FNb_85 (b : List Int) (a : Int) : FNb 85 [b, [a]] = [(lebR b a).1] := rfl

def pcLebG : Pc := ⟨81, [.sl [.u8], .int .i64], [.int .u64, .int .i64, .int .i64], 83, [(0, 0, 4294967296)], []⟩

abbrev asG : As := [(.cmp .lss lnB (.var 1), false), (.cmp .lss (.var 1) (.lit 0), false), (atmB lnB (.lit 4294967296), true)]

abbrev restB : IE := .minus lnB (.var 1)

abbrev cutGl : Cuts := [([0, 1, 0, 1, 1, 1], ⟨57, [(1, .sint .i64 (.var 1)), (4, .int .u64 0), (5, .int .i64 0), (6, .int .i64 0), (7, .sint .u64 (.var 2)), (20, .rsl (.ro 0 [.u8]) (.var 1) restB 1), (21, .sint .i64 restB), (22, .sint .i64 (.var 3))], [], 0, asG ++ [(nonneg (.var 3), true), (atmB (.var 3) restB, true), (atmB (.var 3) (.lit 9), true), (.cmp .lss (.bin .mul .i64 (.lit 7) (.var 3)) (.lit 0), false)]⟩)]

theorem lebG_entry : entryK Try.prog [] 50 200 81 cutGl 2 (argSVs 0 pcLebG.aks) 30 [(atmB lnB (.lit 4294967296), true)] = some [([(.cmp .lss (.var 1) (.lit 0), true), (.not (.cmp .lss (.lit 4294967296) (.rlen (.rvar 0) 1)), true)], .ret (.tuple [.int .u64 0, .int .i64 0, .int .i64 11]) ⟨0, .nil⟩), ([(.cmp .lss (.rlen (.rvar 0) 1) (.var 1), true), (.cmp .lss (.var 1) (.lit 0), false), (.not (.cmp .lss (.lit 4294967296) (.rlen (.rvar 0) 1)), true)], .ret (.tuple [.int .u64 0, .int .i64 0, .int .i64 11]) ⟨0, .nil⟩), ([(.cmp .lss (.rlen (.rvar 0) 1) (.var 1), false), (.cmp .lss (.var 1) (.lit 0), false), (.not (.cmp .lss (.lit 4294967296) (.rlen (.rvar 0) 1)), true)], .cut 0 ⟨[(3, .lit 0), (2, .lit 0)], [], [], []⟩)] := by kernel_rfl

theorem lebG_rounds : roundsK Try.prog [] 50 200 81 cutGl 2 30 cutGl = some [[([(.cmp .lss (.lit 1) (.sel (.rvar 0) (.plus (.var 1) (.var 3)) 1 0), true), (.cmp .eql (.var 3) (.lit 9), true), (.cmp .lss (.plus (.var 1) (.var 3)) (.rlen (.rvar 0) 1), true), (.cmp .lss (.var 3) (.minus (.rlen (.rvar 0) 1) (.var 1)), true), (.cmp .lss (.rlen (.rvar 0) 1) (.var 1), false), (.cmp .lss (.var 1) (.lit 0), false), (.not (.cmp .lss (.lit 4294967296) (.rlen (.rvar 0) 1)), true), (.not (.cmp .lss (.var 3) (.lit 0)), true), (.not (.cmp .lss (.minus (.rlen (.rvar 0) 1) (.var 1)) (.var 3)), true), (.not (.cmp .lss (.lit 9) (.var 3)), true), (.cmp .lss (.bin .mul .i64 (.lit 7) (.var 3)) (.lit 0), false)], .ret (.tuple [.int .u64 0, .int .i64 0, .int .i64 13]) ⟨0, .nil⟩), ([(.cmp .eql (.sel (.rvar 0) (.plus (.var 1) (.var 3)) 1 0) (.lit 0), true), (.cmp .lss (.lit 1) (.sel (.rvar 0) (.plus (.var 1) (.var 3)) 1 0), false), (.cmp .eql (.var 3) (.lit 9), true), (.cmp .lss (.plus (.var 1) (.var 3)) (.rlen (.rvar 0) 1), true), (.cmp .lss (.var 3) (.minus (.rlen (.rvar 0) 1) (.var 1)), true), (.cmp .lss (.rlen (.rvar 0) 1) (.var 1), false), (.cmp .lss (.var 1) (.lit 0), false), (.not (.cmp .lss (.lit 4294967296) (.rlen (.rvar 0) 1)), true), (.not (.cmp .lss (.var 3) (.lit 0)), true), (.not (.cmp .lss (.minus (.rlen (.rvar 0) 1) (.var 1)) (.var 3)), true), (.not (.cmp .lss (.lit 9) (.var 3)), true), (.cmp .lss (.bin .mul .i64 (.lit 7) (.var 3)) (.lit 0), false)], .ret (.tuple [.int .u64 0, .int .i64 0, .int .i64 13]) ⟨0, .nil⟩), ([(.cmp .eql (.sel (.rvar 0) (.plus (.var 1) (.var 3)) 1 0) (.lit 0), false), (.cmp .lss (.lit 1) (.sel (.rvar 0) (.plus (.var 1) (.var 3)) 1 0), false), (.cmp .eql (.var 3) (.lit 9), true), (.cmp .lss (.plus (.var 1) (.var 3)) (.rlen (.rvar 0) 1), true), (.cmp .lss (.var 3) (.minus (.rlen (.rvar 0) 1) (.var 1)), true), (.cmp .lss (.rlen (.rvar 0) 1) (.var 1), false), (.cmp .lss (.var 1) (.lit 0), false), (.not (.cmp .lss (.lit 4294967296) (.rlen (.rvar 0) 1)), true), (.not (.cmp .lss (.var 3) (.lit 0)), true), (.not (.cmp .lss (.minus (.rlen (.rvar 0) 1) (.var 1)) (.var 3)), true), (.not (.cmp .lss (.lit 9) (.var 3)), true), (.cmp .lss (.bin .mul .i64 (.lit 7) (.var 3)) (.lit 0), false)], .ret (.tuple [.sint .u64 (.bin .or .u64 (.var 2) (.bin .shl .u64 (.wrap .u64 (.bin .and .u8 (.sel (.rvar 0) (.plus (.var 1) (.var 3)) 1 0) (.lit 127))) (.bin .mul .i64 (.lit 7) (.var 3)))), .sint .i64 (.bin .add .i64 (.bin .add .i64 (.var 1) (.var 3)) (.lit 1)), .int .i64 0]) ⟨0, .nil⟩), ([(.cmp .eql (.sel (.rvar 0) (.plus (.var 1) (.var 3)) 1 0) (.lit 0), true), (.cmp .lss (.lit 0) (.var 3), true), (.cmp .eql (.var 3) (.lit 9), false), (.cmp .lss (.plus (.var 1) (.var 3)) (.rlen (.rvar 0) 1), true), (.cmp .lss (.var 3) (.minus (.rlen (.rvar 0) 1) (.var 1)), true), (.cmp .lss (.rlen (.rvar 0) 1) (.var 1), false), (.cmp .lss (.var 1) (.lit 0), false), (.not (.cmp .lss (.lit 4294967296) (.rlen (.rvar 0) 1)), true), (.not (.cmp .lss (.var 3) (.lit 0)), true), (.not (.cmp .lss (.minus (.rlen (.rvar 0) 1) (.var 1)) (.var 3)), true), (.not (.cmp .lss (.lit 9) (.var 3)), true), (.cmp .lss (.bin .mul .i64 (.lit 7) (.var 3)) (.lit 0), false)], .ret (.tuple [.int .u64 0, .int .i64 0, .int .i64 13]) ⟨0, .nil⟩), ([(.cmp .lss (.sel (.rvar 0) (.plus (.var 1) (.var 3)) 1 0) (.lit 128), true), (.cmp .eql (.sel (.rvar 0) (.plus (.var 1) (.var 3)) 1 0) (.lit 0), false), (.cmp .lss (.lit 0) (.var 3), true), (.cmp .eql (.var 3) (.lit 9), false), (.cmp .lss (.plus (.var 1) (.var 3)) (.rlen (.rvar 0) 1), true), (.cmp .lss (.var 3) (.minus (.rlen (.rvar 0) 1) (.var 1)), true), (.cmp .lss (.rlen (.rvar 0) 1) (.var 1), false), (.cmp .lss (.var 1) (.lit 0), false), (.not (.cmp .lss (.lit 4294967296) (.rlen (.rvar 0) 1)), true), (.not (.cmp .lss (.var 3) (.lit 0)), true), (.not (.cmp .lss (.minus (.rlen (.rvar 0) 1) (.var 1)) (.var 3)), true), (.not (.cmp .lss (.lit 9) (.var 3)), true), (.cmp .lss (.bin .mul .i64 (.lit 7) (.var 3)) (.lit 0), false)], .ret (.tuple [.sint .u64 (.bin .or .u64 (.var 2) (.bin .shl .u64 (.wrap .u64 (.bin .and .u8 (.sel (.rvar 0) (.plus (.var 1) (.var 3)) 1 0) (.lit 127))) (.bin .mul .i64 (.lit 7) (.var 3)))), .sint .i64 (.bin .add .i64 (.bin .add .i64 (.var 1) (.var 3)) (.lit 1)), .int .i64 0]) ⟨0, .nil⟩), ([(.cmp .lss (.sel (.rvar 0) (.plus (.var 1) (.var 3)) 1 0) (.lit 128), false), (.cmp .eql (.sel (.rvar 0) (.plus (.var 1) (.var 3)) 1 0) (.lit 0), false), (.cmp .lss (.lit 0) (.var 3), true), (.cmp .eql (.var 3) (.lit 9), false), (.cmp .lss (.plus (.var 1) (.var 3)) (.rlen (.rvar 0) 1), true), (.cmp .lss (.var 3) (.minus (.rlen (.rvar 0) 1) (.var 1)), true), (.cmp .lss (.rlen (.rvar 0) 1) (.var 1), false), (.cmp .lss (.var 1) (.lit 0), false), (.not (.cmp .lss (.lit 4294967296) (.rlen (.rvar 0) 1)), true), (.not (.cmp .lss (.var 3) (.lit 0)), true), (.not (.cmp .lss (.minus (.rlen (.rvar 0) 1) (.var 1)) (.var 3)), true), (.not (.cmp .lss (.lit 9) (.var 3)), true), (.cmp .lss (.bin .mul .i64 (.lit 7) (.var 3)) (.lit 0), false)], .cut 0 ⟨[(3, .bin .add .i64 (.var 3) (.lit 1)), (2, .bin .or .u64 (.var 2) (.bin .shl .u64 (.wrap .u64 (.bin .and .u8 (.sel (.rvar 0) (.plus (.var 1) (.var 3)) 1 0) (.lit 127))) (.bin .mul .i64 (.lit 7) (.var 3))))], [], [], []⟩), ([(.cmp .lss (.sel (.rvar 0) (.plus (.var 1) (.var 3)) 1 0) (.lit 128), true), (.cmp .lss (.lit 0) (.var 3), false), (.cmp .eql (.var 3) (.lit 9), false), (.cmp .lss (.plus (.var 1) (.var 3)) (.rlen (.rvar 0) 1), true), (.cmp .lss (.var 3) (.minus (.rlen (.rvar 0) 1) (.var 1)), true), (.cmp .lss (.rlen (.rvar 0) 1) (.var 1), false), (.cmp .lss (.var 1) (.lit 0), false), (.not (.cmp .lss (.lit 4294967296) (.rlen (.rvar 0) 1)), true), (.not (.cmp .lss (.var 3) (.lit 0)), true), (.not (.cmp .lss (.minus (.rlen (.rvar 0) 1) (.var 1)) (.var 3)), true), (.not (.cmp .lss (.lit 9) (.var 3)), true), (.cmp .lss (.bin .mul .i64 (.lit 7) (.var 3)) (.lit 0), false)], .ret (.tuple [.sint .u64 (.bin .or .u64 (.var 2) (.bin .shl .u64 (.wrap .u64 (.bin .and .u8 (.sel (.rvar 0) (.plus (.var 1) (.var 3)) 1 0) (.lit 127))) (.bin .mul .i64 (.lit 7) (.var 3)))), .sint .i64 (.bin .add .i64 (.bin .add .i64 (.var 1) (.var 3)) (.lit 1)), .int .i64 0]) ⟨0, .nil⟩), ([(.cmp .lss (.sel (.rvar 0) (.plus (.var 1) (.var 3)) 1 0) (.lit 128), false), (.cmp .lss (.lit 0) (.var 3), false), (.cmp .eql (.var 3) (.lit 9), false), (.cmp .lss (.plus (.var 1) (.var 3)) (.rlen (.rvar 0) 1), true), (.cmp .lss (.var 3) (.minus (.rlen (.rvar 0) 1) (.var 1)), true), (.cmp .lss (.rlen (.rvar 0) 1) (.var 1), false), (.cmp .lss (.var 1) (.lit 0), false), (.not (.cmp .lss (.lit 4294967296) (.rlen (.rvar 0) 1)), true), (.not (.cmp .lss (.var 3) (.lit 0)), true), (.not (.cmp .lss (.minus (.rlen (.rvar 0) 1) (.var 1)) (.var 3)), true), (.not (.cmp .lss (.lit 9) (.var 3)), true), (.cmp .lss (.bin .mul .i64 (.lit 7) (.var 3)) (.lit 0), false)], .cut 0 ⟨[(3, .bin .add .i64 (.var 3) (.lit 1)), (2, .bin .or .u64 (.var 2) (.bin .shl .u64 (.wrap .u64 (.bin .and .u8 (.sel (.rvar 0) (.plus (.var 1) (.var 3)) 1 0) (.lit 127))) (.bin .mul .i64 (.lit 7) (.var 3))))], [], [], []⟩), ([(.cmp .lss (.plus (.var 1) (.var 3)) (.rlen (.rvar 0) 1), false), (.cmp .lss (.var 3) (.minus (.rlen (.rvar 0) 1) (.var 1)), true), (.cmp .lss (.rlen (.rvar 0) 1) (.var 1), false), (.cmp .lss (.var 1) (.lit 0), false), (.not (.cmp .lss (.lit 4294967296) (.rlen (.rvar 0) 1)), true), (.not (.cmp .lss (.var 3) (.lit 0)), true), (.not (.cmp .lss (.minus (.rlen (.rvar 0) 1) (.var 1)) (.var 3)), true), (.not (.cmp .lss (.lit 9) (.var 3)), true), (.cmp .lss (.bin .mul .i64 (.lit 7) (.var 3)) (.lit 0), false)], .bad), ([(.cmp .lss (.var 3) (.minus (.rlen (.rvar 0) 1) (.var 1)), false), (.cmp .lss (.rlen (.rvar 0) 1) (.var 1), false), (.cmp .lss (.var 1) (.lit 0), false), (.not (.cmp .lss (.lit 4294967296) (.rlen (.rvar 0) 1)), true), (.not (.cmp .lss (.var 3) (.lit 0)), true), (.not (.cmp .lss (.minus (.rlen (.rvar 0) 1) (.var 1)) (.var 3)), true), (.not (.cmp .lss (.lit 9) (.var 3)), true), (.cmp .lss (.bin .mul .i64 (.lit 7) (.var 3)) (.lit 0), false)], .ret (.tuple [.int .u64 0, .int .i64 0, .int .i64 14]) ⟨0, .nil⟩)]] := by kernel_rfl

end Go.Proofs.Ytkfejcffacbngaa.J


namespace Go.Proofs.Ytkfejcffacbngaa.J

open Go Go.Sym

set_option linter.unusedVariables false

theorem lebC_at {b : List Int} {a : Int} {k : Nat} (h : k ≤ 9) : lebC b a (10 - k) k = if (b.length : Int) - a ≤ k then (14, 0) else if (k = 9 ∧ 1 < selL b (a + k) 1 0) ∨ (0 < k ∧ selL b (a + k) 1 0 = 0) then (13, 0) else if selL b (a + k) 1 0 < 128 then (0, k + 1) else lebC b a (10 - (k + 1)) (k + 1) := by
  rw [show 10 - k = (10 - (k + 1)) + 1 by omega, lebC]

def invGl (ls : List (List Int)) (c : Nat) (env : Env) : Prop := c = 0 ∧ ∃ b a, ls = [b, [a]] ∧ 0 ≤ a ∧ a ≤ (b.length : Int) ∧ (b.length : Int) ≤ 4294967296 ∧ env.row 0 = b ∧ vInt (env.val 1) = a ∧ ∃ k : Nat, vInt (env.val 3) = k ∧ (k : Int) ≤ (b.length : Int) - a ∧ k ≤ 9 ∧ vInt (env.val 2) = lebU b a k ∧ lebC b a 10 0 = lebC b a (10 - k) k

theorem lebG_ok : PcOk Try.prog FNb pcLebG := by
  refine pc_floyd_as (cs := cutGl) (base := 2) mix pcLebG (fun _ _ => knOk_nil) (Nat.le_refl 2) lebG_rounds lebG_entry invGl (fun ls _ env => (0, (50 - vInt (env.val 3)).toNat)) (fun ls i env h => by have := h.1; simp; omega) ?_
  intro ls e0 hf hargs hrng hpre
  simp only [pcLebG, ArgsE, ArgE] at hargs
  obtain ⟨b, _, rfl, ⟨hb, _⟩, a', _, rfl, ha, rfl⟩ := hargs
  have hlen := (hrng.1 (.sl [.u8]) b rfl rfl).2
  simp only [measL, List.length_singleton, Nat.div_one] at hlen
  obtain ⟨a, hav⟩ : ∃ z, vInt (e0.val 1) = z := ⟨_, rfl⟩
  simp only [Nat.zero_add, hav] at ha
  subst ha
  have ret : ∀ (env : Env) (code : Int) (o : Option (Nat × Nat)) (M : Mem), (lebR b a).1 = code → code ≠ 0 → StepG FNb [b, [a]] pcLebG.id pcLebG.rks (invGl [b, [a]]) (fun _ env => (0, (50 - vInt (env.val 3)).toNat)) o env (.ret (.tuple [.int .u64 0, .int .i64 0, .int .i64 code]) M) := by
    intro env code o M h1 h2
    refine ⟨[_, _, _], rfl, ⟨_, rfl, ?_⟩, ⟨_, rfl, ?_⟩, ⟨_, rfl, ?_⟩, rfl⟩
    · simp only [IE.eval, pcLebG, FNb_83, h1, if_neg h2, List.headD_cons]
    · simp only [IE.eval, pcLebG, Nat.reduceAdd, FNb_84, h1, if_neg h2, List.headD_cons]
    · simp only [IE.eval, pcLebG, Nat.reduceAdd, FNb_85, h1, List.headD_cons]
  refine ⟨?_, fun env hfn => ⟨⟨?_, trivial⟩, ⟨?_, trivial⟩⟩, ?_⟩
  · simp only [atmB, AsOk_cons, AsOk_nil, BE.eval, cmpI, IE.eval, IE.reval, hb, Nat.div_one]
    simp; omega
  · rintro ⟨_, b', a', hl, h1, h2, h3, q0, q1, k, q3, h4, h5, q2, h6⟩
    have e7 : binI .mul .i64 7 (k : Int) = 7 * k := wrap_i64 (by omega)
    simp only [asG, restB, List.cons_append, List.nil_append, nonneg, atmB, AsOk_cons, AsOk_nil, BE.eval, cmpI, IE.eval, IE.reval, q0, q1, q3, e7, Nat.div_one]
    simp; omega
  · rintro ⟨_, b', a', hl, h1, h2, h3, q0, q1, k, q3, h4, h5, q2, h6⟩
    simp only [List.cons.injEq, and_true] at hl
    obtain ⟨rfl, rfl⟩ := hl
    have hR : lebR b a = lebC b a (10 - k) k := by rw [lebR, if_pos ⟨h1, h2⟩, h6]
    have hat := lebC_at (b := b) (a := a) h5
    obtain ⟨c, hc⟩ : ∃ c, selL b (a + k) 1 0 = c := ⟨_, rfl⟩
    rw [hc] at hat
    have e1 : binI .add .i64 (k : Int) 1 = ((k + 1 : Nat) : Int) := by simp only [binI]; rw [wrap_i64 (by omega)]; omega
    have e2 : binI .add .i64 (binI .add .i64 a (k : Int)) 1 = a + ((k + 1 : Nat) : Int) := by
      have : binI .add .i64 a (k : Int) = a + k := wrap_i64 (by omega)
      rw [this]; simp only [binI]; rw [wrap_i64 (by omega)]; omega
    have good : ∀ (o : Option (Nat × Nat)) (M : Mem), lebC b a (10 - k) k = (0, k + 1) → StepG FNb [b, [a]] pcLebG.id pcLebG.rks (invGl [b, [a]]) (fun _ env => (0, (50 - vInt (env.val 3)).toNat)) o env (.ret (.tuple [.sint .u64 (.bin .or .u64 (.var 2) (.bin .shl .u64 (.wrap .u64 (.bin .and .u8 (.sel (.rvar 0) (.plus (.var 1) (.var 3)) 1 0) (.lit 127))) (.bin .mul .i64 (.lit 7) (.var 3)))), .sint .i64 (.bin .add .i64 (.bin .add .i64 (.var 1) (.var 3)) (.lit 1)), .int .i64 0]) M) := by
      intro o M h
      rw [h] at hR
      refine ⟨[_, _, _], rfl, ⟨_, rfl, ?_⟩, ⟨_, rfl, ?_⟩, ⟨_, rfl, ?_⟩, rfl⟩
      · simp only [IE.eval, IE.reval, pcLebG, FNb_83, hR, if_true, List.headD_cons, q0, q1, q2, q3, lebU]
      · simp only [IE.eval, pcLebG, Nat.reduceAdd, FNb_84, hR, if_true, List.headD_cons, q1, q3, e2]
      · simp only [IE.eval, pcLebG, Nat.reduceAdd, FNb_85, hR, List.headD_cons]
    have next : ∀ (m : Nat × Nat), m = (0, (50 - (k : Int)).toNat) → lebC b a (10 - k) k = lebC b a (10 - (k + 1)) (k + 1) → k ≠ 9 → (k : Int) < (b.length : Int) - a → StepG FNb [b, [a]] pcLebG.id pcLebG.rks (invGl [b, [a]]) (fun _ env => (0, (50 - vInt (env.val 3)).toNat)) (some m) env (.cut 0 ⟨[(3, .bin .add .i64 (.var 3) (.lit 1)), (2, .bin .or .u64 (.var 2) (.bin .shl .u64 (.wrap .u64 (.bin .and .u8 (.sel (.rvar 0) (.plus (.var 1) (.var 3)) 1 0) (.lit 127))) (.bin .mul .i64 (.lit 7) (.var 3))))], [], [], []⟩) := by
      rintro m rfl h9 h10 h11
      refine stepG_cut ⟨rfl, b, a, rfl, h1, h2, h3, ?_, ?_, k + 1, ?_, by omega, by omega, ?_, by rw [h6, h9]⟩ (Prod.lex_def.2 (.inr ⟨rfl, ?_⟩))
      · simp [upd, lk_nil, q0]
      · simp [upd, lk_cons, lk_nil, q1]
      · simp [upd, lk_cons, lk_nil, IE.eval, q3, e1, vInt_int]
      · simp only [upd, lk_cons, lk_nil, Nat.reduceEqDiff, if_false, if_true, IE.eval, IE.reval, vInt_int, q0, q1, q2, q3, lebU]
      · simp only [upd, lk_cons, lk_nil, Nat.reduceEqDiff, if_false, if_true, IE.eval, q3, e1, vInt_int]
        omega
    simp only [allLeaves, AsOk_cons, AsOk_nil, BE.eval, cmpI, IE.eval, IE.reval, q0, q1, q3, hc, Nat.div_one, and_true]
    simp only [decide_eq_true_eq, decide_eq_false_iff_not]
    refine ⟨fun hA => ?_, fun hA => ?_, fun hA => ?_, fun hA => ?_, fun hA => ?_, fun hA => ?_, fun hA => ?_, fun hA => ?_, fun hA => ?_, fun hA => ?_⟩
    all_goals first
      | exact ret env 13 _ _ (by rw [hR, hat, if_neg (by omega), if_pos (by omega)]) (by decide)
      | exact ret env 14 _ _ (by rw [hR, hat, if_pos (by omega)]) (by decide)
      | exact good _ _ (by rw [hat, if_neg (by omega), if_neg (by omega), if_pos (by omega)])
      | exact next _ rfl (by rw [hat, if_neg (by omega), if_neg (by omega), if_neg (by omega)]) (by omega) (by omega)
      | (exfalso; omega)
  · simp only [allLeaves, AsOk_cons, AsOk_nil, BE.eval, cmpI, IE.eval, IE.reval, hb, hav, Nat.div_one, and_true]
    refine ⟨fun hA => ret _ 11 _ _ ?_ (by decide), fun hA => ret _ 11 _ _ ?_ (by decide), fun hA => ?_⟩
    · have hA := of_decide_eq_true hA.1
      rw [lebR, if_neg (by omega)]
    · have hA := of_decide_eq_true hA.1
      rw [lebR, if_neg (by omega)]
    · have hA1 := of_decide_eq_false hA.1
      have hA2 := of_decide_eq_false hA.2.1
      refine stepG_cut0 ⟨rfl, b, a, rfl, by omega, by omega, hlen, ?_, ?_, 0, ?_, by omega, by omega, ?_, rfl⟩
      · simp [upd, lk_nil, hb]
      · simp [upd, lk_cons, lk_nil, hav]
      · simp [upd, lk_cons, lk_nil, IE.eval, vInt_int]
      · simp [upd, lk_cons, lk_nil, IE.eval, vInt_int, lebU]

end Go.Proofs.Ytkfejcffacbngaa.J


namespace Go.Proofs.Ytkfejcffacbngaa.J

open Go Go.Sym

set_option linter.unusedVariables false

/-- a number with its sign, in the program's words -/
def unfM (u : Int) : Int := if binI .rem .u64 u 2 = 1 then binI .sub .i64 (binI .sub .i64 0 (IntKind.i64.wrap (binI .quo .u64 u 2))) 1 else IntKind.i64.wrap (binI .quo .u64 u 2)

def getF (b : List Int) (n : Nat) : Nat → Int → List Int → Bool → List Int × Int × Int
  | 0, _, _, _ => ([], 0, 0)
  | f + 1, a, out, z =>
    if n ≤ out.length then (out, a, 0) else
    if (lebR b a).1 ≠ 0 then ([], 0, (lebR b a).1) else
    if lebU b a (lebR b a).2 ≠ 0 then getF b n f (a + (lebR b a).2) (out ++ [unfM (lebU b a (lebR b a).2)]) false else
    if z then ([], 0, 13) else
    if (lebR b (a + (lebR b a).2)).1 ≠ 0 then ([], 0, (lebR b (a + (lebR b a).2)).1) else
    if (n : Int) - out.length ≤ lebU b (a + (lebR b a).2) (lebR b (a + (lebR b a).2)).2 then ([], 0, 13) else
    getF b n f (a + (lebR b a).2 + (lebR b (a + (lebR b a).2)).2) (out ++ repL (lebU b (a + (lebR b a).2) (lebR b (a + (lebR b a).2)).2 + 1) [0]) true

def getM (b : List Int) (a n : Int) : List Int × Int × Int :=
  if a < 0 ∨ (b.length : Int) < a ∨ n < 0 ∨ 1048576 < n then ([], 0, 11) else getF b n.toNat (n.toNat + 1) a [] false

def g106 : List (List Int) → List Int
  | [b, [a], [n]] => (getM b a n).1
  | _ => []
def g107 : List (List Int) → List Int
  | [b, [a], [n]] => [(getM b a n).2.1]
  | _ => []
def g108 : List (List Int) → List Int
  | [b, [a], [n]] => [(getM b a n).2.2]
  | _ => []
def g109 : List (List Int) → List Int
  | [[u]] => [unfM u]
  | _ => []

def FNt : Nat → List (List Int) → List Int
  | 83, l => g83 l
  | 84, l => g84 l
  | 85, l => g85 l
  | 106, l => g106 l
  | 107, l => g107 l
  | 108, l => g108 l
  | 109, l => g109 l
  | i, l => FNs i l

theorem FNt_83 (b : List Int) (a : Int) : FNt 83 [b, [a]] = [if (lebR b a).1 = 0 then lebU b a (lebR b a).2 else 0] := rfl
theorem FNt_84 (b : List Int) (a : Int) : FNt 84 [b, [a]] = [if (lebR b a).1 = 0 then a + (lebR b a).2 else 0] := rfl
theorem FNt_85 (b : List Int) (a : Int) : FNt 85 [b, [a]] = [(lebR b a).1] := rfl
theorem FNt_106 (b : List Int) (a n : Int) : FNt 106 [b, [a], [n]] = (getM b a n).1 := rfl
theorem FNt_107 (b : List Int) (a n : Int) : FNt 107 [b, [a], [n]] = [(getM b a n).2.1] := rfl
theorem FNt_108 (b : List Int) (a n : Int) : FNt 108 [b, [a], [n]] = [(getM b a n).2.2] := rfl
theorem FNt_109 (u : Int) : FNt 109 [[u]] = [unfM u] := rfl

def pcUnf : Pc := ⟨82, [.int .u64], [.int .i64], 109, [], []⟩
def pcRGet : Pc := ⟨23, [.sl [.u8], .int .i64, .int .i64], [.sl 2 [.i64], .int .i64, .int .i64], 106, [(0, 0, 4294967296)], []⟩

theorem unf_entry : entryK Try.prog [] 50 200 82 [] 1 (argSVs 0 pcUnf.aks) 30 [] = some [([(.cmp .eql (.bin .rem .u64 (.var 0) (.lit 2)) (.lit 1), true)], .ret (.sint .i64 (.bin .sub .i64 (.bin .sub .i64 (.lit 0) (.wrap .i64 (.bin .quo .u64 (.var 0) (.lit 2)))) (.lit 1))) ⟨0, .nil⟩), ([(.cmp .eql (.bin .rem .u64 (.var 0) (.lit 2)) (.lit 1), false)], .ret (.sint .i64 (.wrap .i64 (.bin .quo .u64 (.var 0) (.lit 2)))) ⟨0, .nil⟩)] := by kernel_rfl

abbrev gA (a : IE) : IE := .acons (.rvar 0) (.acons (.rcons a .rnil) .anil)
abbrev nextE : IE := .app 84 (gA (.var 3))
abbrev blkI : Nat × Blk := (0, ⟨2, 0, [], .nil, true, some (.rvar 4, .var 5, [.i64])⟩)
abbrev asB0 : As := [(atmB lB (.lit 4294967296), true), ltR (.var 2) (.lit 0) false, ltR (.lit 1048576) (.var 2) false]
abbrev asC0 : As := [(nonneg (.var 5), true), (atmB (.var 5) (.var 2), true), (atmB (.var 5) (.lit 1048576), true), ltR (.lit 17592186044416) (.plus (.var 5) (.lit 1)) false]
abbrev slG : List (Nat × SV) := [(0, .rsl (.ro 0 [.u8]) (.lit 0) lB 1), (1, .sint .i64 (.var 3)), (2, .sint .i64 (.var 2)), (6, .nilslice), (7, .int .i64 0), (8, .int .i64 0)]
abbrev pG : List Nat := [0, 1, 0, 1, 1, 1]
abbrev rowI : SV := .rsl (.own 0) (.lit 0) (.var 5) 1

abbrev cutG : Cuts := [
  (pG, ⟨78, slG ++ [(9, .nilslice), (10, .bool false)], [], 0, asB0⟩),
  (pG, ⟨78, slG ++ [(9, rowI), (10, .bool false)], [blkI], 1, asB0 ++ asC0⟩),
  (pG, ⟨78, slG ++ [(9, rowI), (10, .bool true)], [blkI], 1, asB0 ++ asC0⟩)]

abbrev knG2 : Kn := [pcLebG.ct, pcUnf.ct]

theorem rget_entry : entryK Try.prog knG2 1 400 23 cutG 3 (argSVs 0 pcRGet.aks) 14 [(atmB lB (.lit 4294967296), true)] = some [([(.cmp .lss (.var 1) (.lit 0), true), (.not (.cmp .lss (.lit 4294967296) (.rlen (.rvar 0) 1)), true)], .ret (.tuple [.nilslice, .int .i64 0, .int .i64 11]) ⟨0, .nil⟩), ([(.cmp .lss (.rlen (.rvar 0) 1) (.var 1), true), (.cmp .lss (.var 1) (.lit 0), false), (.not (.cmp .lss (.lit 4294967296) (.rlen (.rvar 0) 1)), true)], .ret (.tuple [.nilslice, .int .i64 0, .int .i64 11]) ⟨0, .nil⟩), ([(.cmp .lss (.var 2) (.lit 0), true), (.cmp .lss (.rlen (.rvar 0) 1) (.var 1), false), (.cmp .lss (.var 1) (.lit 0), false), (.not (.cmp .lss (.lit 4294967296) (.rlen (.rvar 0) 1)), true)], .ret (.tuple [.nilslice, .int .i64 0, .int .i64 11]) ⟨0, .nil⟩), ([(.cmp .lss (.lit 1048576) (.var 2), true), (.cmp .lss (.var 2) (.lit 0), false), (.cmp .lss (.rlen (.rvar 0) 1) (.var 1), false), (.cmp .lss (.var 1) (.lit 0), false), (.not (.cmp .lss (.lit 4294967296) (.rlen (.rvar 0) 1)), true)], .ret (.tuple [.nilslice, .int .i64 0, .int .i64 11]) ⟨0, .nil⟩), ([(.cmp .lss (.lit 1048576) (.var 2), false), (.cmp .lss (.var 2) (.lit 0), false), (.cmp .lss (.rlen (.rvar 0) 1) (.var 1), false), (.cmp .lss (.var 1) (.lit 0), false), (.not (.cmp .lss (.lit 4294967296) (.rlen (.rvar 0) 1)), true)], .cut 0 ⟨[(3, .var 1)], [], [], []⟩)] := by kernel_rfl

theorem rget_rounds : roundsK Try.prog knG2 1 400 23 cutG 3 14 cutG = some [[([(.cmp .lss (.lit 17592186044416) (.bin .add .u64 (.app 83 (.acons (.rvar 0) (.acons (.rcons (.app 84 (.acons (.rvar 0) (.acons (.rcons (.var 3) .rnil) .anil))) .rnil) .anil))) (.lit 1)), true), (.cmp .lss (.lit 0) (.bin .add .u64 (.app 83 (.acons (.rvar 0) (.acons (.rcons (.app 84 (.acons (.rvar 0) (.acons (.rcons (.var 3) .rnil) .anil))) .rnil) .anil))) (.lit 1)), true), (.cmp .lss (.app 83 (.acons (.rvar 0) (.acons (.rcons (.app 84 (.acons (.rvar 0) (.acons (.rcons (.var 3) .rnil) .anil))) .rnil) .anil))) (.wrap .u64 (.bin .sub .i64 (.var 2) (.lit 0))), true), (.cmp .eql (.app 85 (.acons (.rvar 0) (.acons (.rcons (.app 84 (.acons (.rvar 0) (.acons (.rcons (.var 3) .rnil) .anil))) .rnil) .anil))) (.lit 0), true), (.cmp .eql (.app 83 (.acons (.rvar 0) (.acons (.rcons (.var 3) .rnil) .anil))) (.lit 0), true), (.cmp .eql (.app 85 (.acons (.rvar 0) (.acons (.rcons (.var 3) .rnil) .anil))) (.lit 0), true), (.cmp .lss (.lit 0) (.var 2), true), (.not (.cmp .lss (.lit 4294967296) (.rlen (.rvar 0) 1)), true), (.cmp .lss (.var 2) (.lit 0), false), (.cmp .lss (.lit 1048576) (.var 2), false)], .bad), ([(.cmp .lss (.lit 17592186044416) (.bin .add .u64 (.app 83 (.acons (.rvar 0) (.acons (.rcons (.app 84 (.acons (.rvar 0) (.acons (.rcons (.var 3) .rnil) .anil))) .rnil) .anil))) (.lit 1)), false), (.cmp .lss (.lit 0) (.bin .add .u64 (.app 83 (.acons (.rvar 0) (.acons (.rcons (.app 84 (.acons (.rvar 0) (.acons (.rcons (.var 3) .rnil) .anil))) .rnil) .anil))) (.lit 1)), true), (.cmp .lss (.app 83 (.acons (.rvar 0) (.acons (.rcons (.app 84 (.acons (.rvar 0) (.acons (.rcons (.var 3) .rnil) .anil))) .rnil) .anil))) (.wrap .u64 (.bin .sub .i64 (.var 2) (.lit 0))), true), (.cmp .eql (.app 85 (.acons (.rvar 0) (.acons (.rcons (.app 84 (.acons (.rvar 0) (.acons (.rcons (.var 3) .rnil) .anil))) .rnil) .anil))) (.lit 0), true), (.cmp .eql (.app 83 (.acons (.rvar 0) (.acons (.rcons (.var 3) .rnil) .anil))) (.lit 0), true), (.cmp .eql (.app 85 (.acons (.rvar 0) (.acons (.rcons (.var 3) .rnil) .anil))) (.lit 0), true), (.cmp .lss (.lit 0) (.var 2), true), (.not (.cmp .lss (.lit 4294967296) (.rlen (.rvar 0) 1)), true), (.cmp .lss (.var 2) (.lit 0), false), (.cmp .lss (.lit 1048576) (.var 2), false)], .cut 2 ⟨[(5, .bin .add .u64 (.app 83 (.acons (.rvar 0) (.acons (.rcons (.app 84 (.acons (.rvar 0) (.acons (.rcons (.var 3) .rnil) .anil))) .rnil) .anil))) (.lit 1)), (3, .app 84 (.acons (.rvar 0) (.acons (.rcons (.app 84 (.acons (.rvar 0) (.acons (.rcons (.var 3) .rnil) .anil))) .rnil) .anil)))], [(4, .rep (.bin .add .u64 (.app 83 (.acons (.rvar 0) (.acons (.rcons (.app 84 (.acons (.rvar 0) (.acons (.rcons (.var 3) .rnil) .anil))) .rnil) .anil))) (.lit 1)) (.rcon [0]))], [], [(0, 0)]⟩), ([(.cmp .lss (.bin .add .u64 (.app 83 (.acons (.rvar 0) (.acons (.rcons (.app 84 (.acons (.rvar 0) (.acons (.rcons (.var 3) .rnil) .anil))) .rnil) .anil))) (.lit 1)) (.lit 0), true), (.cmp .lss (.lit 0) (.bin .add .u64 (.app 83 (.acons (.rvar 0) (.acons (.rcons (.app 84 (.acons (.rvar 0) (.acons (.rcons (.var 3) .rnil) .anil))) .rnil) .anil))) (.lit 1)), false), (.cmp .lss (.app 83 (.acons (.rvar 0) (.acons (.rcons (.app 84 (.acons (.rvar 0) (.acons (.rcons (.var 3) .rnil) .anil))) .rnil) .anil))) (.wrap .u64 (.bin .sub .i64 (.var 2) (.lit 0))), true), (.cmp .eql (.app 85 (.acons (.rvar 0) (.acons (.rcons (.app 84 (.acons (.rvar 0) (.acons (.rcons (.var 3) .rnil) .anil))) .rnil) .anil))) (.lit 0), true), (.cmp .eql (.app 83 (.acons (.rvar 0) (.acons (.rcons (.var 3) .rnil) .anil))) (.lit 0), true), (.cmp .eql (.app 85 (.acons (.rvar 0) (.acons (.rcons (.var 3) .rnil) .anil))) (.lit 0), true), (.cmp .lss (.lit 0) (.var 2), true), (.not (.cmp .lss (.lit 4294967296) (.rlen (.rvar 0) 1)), true), (.cmp .lss (.var 2) (.lit 0), false), (.cmp .lss (.lit 1048576) (.var 2), false)], .bad), ([(.cmp .lss (.bin .add .u64 (.app 83 (.acons (.rvar 0) (.acons (.rcons (.app 84 (.acons (.rvar 0) (.acons (.rcons (.var 3) .rnil) .anil))) .rnil) .anil))) (.lit 1)) (.lit 0), false), (.cmp .lss (.lit 0) (.bin .add .u64 (.app 83 (.acons (.rvar 0) (.acons (.rcons (.app 84 (.acons (.rvar 0) (.acons (.rcons (.var 3) .rnil) .anil))) .rnil) .anil))) (.lit 1)), false), (.cmp .lss (.app 83 (.acons (.rvar 0) (.acons (.rcons (.app 84 (.acons (.rvar 0) (.acons (.rcons (.var 3) .rnil) .anil))) .rnil) .anil))) (.wrap .u64 (.bin .sub .i64 (.var 2) (.lit 0))), true), (.cmp .eql (.app 85 (.acons (.rvar 0) (.acons (.rcons (.app 84 (.acons (.rvar 0) (.acons (.rcons (.var 3) .rnil) .anil))) .rnil) .anil))) (.lit 0), true), (.cmp .eql (.app 83 (.acons (.rvar 0) (.acons (.rcons (.var 3) .rnil) .anil))) (.lit 0), true), (.cmp .eql (.app 85 (.acons (.rvar 0) (.acons (.rcons (.var 3) .rnil) .anil))) (.lit 0), true), (.cmp .lss (.lit 0) (.var 2), true), (.not (.cmp .lss (.lit 4294967296) (.rlen (.rvar 0) 1)), true), (.cmp .lss (.var 2) (.lit 0), false), (.cmp .lss (.lit 1048576) (.var 2), false)], .bad), ([(.cmp .lss (.app 83 (.acons (.rvar 0) (.acons (.rcons (.app 84 (.acons (.rvar 0) (.acons (.rcons (.var 3) .rnil) .anil))) .rnil) .anil))) (.wrap .u64 (.bin .sub .i64 (.var 2) (.lit 0))), false), (.cmp .eql (.app 85 (.acons (.rvar 0) (.acons (.rcons (.app 84 (.acons (.rvar 0) (.acons (.rcons (.var 3) .rnil) .anil))) .rnil) .anil))) (.lit 0), true), (.cmp .eql (.app 83 (.acons (.rvar 0) (.acons (.rcons (.var 3) .rnil) .anil))) (.lit 0), true), (.cmp .eql (.app 85 (.acons (.rvar 0) (.acons (.rcons (.var 3) .rnil) .anil))) (.lit 0), true), (.cmp .lss (.lit 0) (.var 2), true), (.not (.cmp .lss (.lit 4294967296) (.rlen (.rvar 0) 1)), true), (.cmp .lss (.var 2) (.lit 0), false), (.cmp .lss (.lit 1048576) (.var 2), false)], .ret (.tuple [.nilslice, .int .i64 0, .int .i64 13]) ⟨0, .nil⟩), ([(.cmp .eql (.app 85 (.acons (.rvar 0) (.acons (.rcons (.app 84 (.acons (.rvar 0) (.acons (.rcons (.var 3) .rnil) .anil))) .rnil) .anil))) (.lit 0), false), (.cmp .eql (.app 83 (.acons (.rvar 0) (.acons (.rcons (.var 3) .rnil) .anil))) (.lit 0), true), (.cmp .eql (.app 85 (.acons (.rvar 0) (.acons (.rcons (.var 3) .rnil) .anil))) (.lit 0), true), (.cmp .lss (.lit 0) (.var 2), true), (.not (.cmp .lss (.lit 4294967296) (.rlen (.rvar 0) 1)), true), (.cmp .lss (.var 2) (.lit 0), false), (.cmp .lss (.lit 1048576) (.var 2), false)], .ret (.tuple [.nilslice, .int .i64 0, .sint .i64 (.app 85 (.acons (.rvar 0) (.acons (.rcons (.app 84 (.acons (.rvar 0) (.acons (.rcons (.var 3) .rnil) .anil))) .rnil) .anil)))]) ⟨0, .nil⟩), ([(.cmp .eql (.app 83 (.acons (.rvar 0) (.acons (.rcons (.var 3) .rnil) .anil))) (.lit 0), false), (.cmp .eql (.app 85 (.acons (.rvar 0) (.acons (.rcons (.var 3) .rnil) .anil))) (.lit 0), true), (.cmp .lss (.lit 0) (.var 2), true), (.not (.cmp .lss (.lit 4294967296) (.rlen (.rvar 0) 1)), true), (.cmp .lss (.var 2) (.lit 0), false), (.cmp .lss (.lit 1048576) (.var 2), false)], .cut 1 ⟨[(5, .lit 1), (3, .app 84 (.acons (.rvar 0) (.acons (.rcons (.var 3) .rnil) .anil)))], [(4, .rcons (.app 109 (.acons (.rcons (.app 83 (.acons (.rvar 0) (.acons (.rcons (.var 3) .rnil) .anil))) .rnil) .anil)) .rnil)], [], [(0, 1)]⟩), ([(.cmp .eql (.app 85 (.acons (.rvar 0) (.acons (.rcons (.var 3) .rnil) .anil))) (.lit 0), false), (.cmp .lss (.lit 0) (.var 2), true), (.not (.cmp .lss (.lit 4294967296) (.rlen (.rvar 0) 1)), true), (.cmp .lss (.var 2) (.lit 0), false), (.cmp .lss (.lit 1048576) (.var 2), false)], .ret (.tuple [.nilslice, .int .i64 0, .sint .i64 (.app 85 (.acons (.rvar 0) (.acons (.rcons (.var 3) .rnil) .anil)))]) ⟨0, .nil⟩), ([(.cmp .lss (.lit 0) (.var 2), false), (.not (.cmp .lss (.lit 4294967296) (.rlen (.rvar 0) 1)), true), (.cmp .lss (.var 2) (.lit 0), false), (.cmp .lss (.lit 1048576) (.var 2), false)], .ret (.tuple [.nilslice, .sint .i64 (.var 3), .int .i64 0]) ⟨0, .nil⟩)], [([(.cmp .lss (.lit 17592186044416) (.plus (.var 5) (.bin .add .u64 (.app 83 (.acons (.rvar 0) (.acons (.rcons (.app 84 (.acons (.rvar 0) (.acons (.rcons (.var 3) .rnil) .anil))) .rnil) .anil))) (.lit 1))), true), (.cmp .lss (.app 83 (.acons (.rvar 0) (.acons (.rcons (.app 84 (.acons (.rvar 0) (.acons (.rcons (.var 3) .rnil) .anil))) .rnil) .anil))) (.wrap .u64 (.bin .sub .i64 (.var 2) (.var 5))), true), (.cmp .eql (.app 85 (.acons (.rvar 0) (.acons (.rcons (.app 84 (.acons (.rvar 0) (.acons (.rcons (.var 3) .rnil) .anil))) .rnil) .anil))) (.lit 0), true), (.cmp .eql (.app 83 (.acons (.rvar 0) (.acons (.rcons (.var 3) .rnil) .anil))) (.lit 0), true), (.cmp .eql (.app 85 (.acons (.rvar 0) (.acons (.rcons (.var 3) .rnil) .anil))) (.lit 0), true), (.cmp .lss (.var 5) (.var 2), true), (.not (.cmp .lss (.lit 4294967296) (.rlen (.rvar 0) 1)), true), (.cmp .lss (.var 2) (.lit 0), false), (.cmp .lss (.lit 1048576) (.var 2), false), (.not (.cmp .lss (.var 5) (.lit 0)), true), (.not (.cmp .lss (.var 2) (.var 5)), true), (.not (.cmp .lss (.lit 1048576) (.var 5)), true), (.cmp .lss (.lit 17592186044416) (.plus (.var 5) (.lit 1)), false)], .bad), ([(.cmp .lss (.bin .add .u64 (.app 83 (.acons (.rvar 0) (.acons (.rcons (.app 84 (.acons (.rvar 0) (.acons (.rcons (.var 3) .rnil) .anil))) .rnil) .anil))) (.lit 1)) (.lit 0), true), (.cmp .lss (.lit 17592186044416) (.plus (.var 5) (.bin .add .u64 (.app 83 (.acons (.rvar 0) (.acons (.rcons (.app 84 (.acons (.rvar 0) (.acons (.rcons (.var 3) .rnil) .anil))) .rnil) .anil))) (.lit 1))), false), (.cmp .lss (.app 83 (.acons (.rvar 0) (.acons (.rcons (.app 84 (.acons (.rvar 0) (.acons (.rcons (.var 3) .rnil) .anil))) .rnil) .anil))) (.wrap .u64 (.bin .sub .i64 (.var 2) (.var 5))), true), (.cmp .eql (.app 85 (.acons (.rvar 0) (.acons (.rcons (.app 84 (.acons (.rvar 0) (.acons (.rcons (.var 3) .rnil) .anil))) .rnil) .anil))) (.lit 0), true), (.cmp .eql (.app 83 (.acons (.rvar 0) (.acons (.rcons (.var 3) .rnil) .anil))) (.lit 0), true), (.cmp .eql (.app 85 (.acons (.rvar 0) (.acons (.rcons (.var 3) .rnil) .anil))) (.lit 0), true), (.cmp .lss (.var 5) (.var 2), true), (.not (.cmp .lss (.lit 4294967296) (.rlen (.rvar 0) 1)), true), (.cmp .lss (.var 2) (.lit 0), false), (.cmp .lss (.lit 1048576) (.var 2), false), (.not (.cmp .lss (.var 5) (.lit 0)), true), (.not (.cmp .lss (.var 2) (.var 5)), true), (.not (.cmp .lss (.lit 1048576) (.var 5)), true), (.cmp .lss (.lit 17592186044416) (.plus (.var 5) (.lit 1)), false)], .bad), ([(.cmp .lss (.lit 17592186044416) (.bin .add .u64 (.app 83 (.acons (.rvar 0) (.acons (.rcons (.app 84 (.acons (.rvar 0) (.acons (.rcons (.var 3) .rnil) .anil))) .rnil) .anil))) (.lit 1)), true), (.cmp .lss (.bin .add .u64 (.app 83 (.acons (.rvar 0) (.acons (.rcons (.app 84 (.acons (.rvar 0) (.acons (.rcons (.var 3) .rnil) .anil))) .rnil) .anil))) (.lit 1)) (.lit 0), false), (.cmp .lss (.lit 17592186044416) (.plus (.var 5) (.bin .add .u64 (.app 83 (.acons (.rvar 0) (.acons (.rcons (.app 84 (.acons (.rvar 0) (.acons (.rcons (.var 3) .rnil) .anil))) .rnil) .anil))) (.lit 1))), false), (.cmp .lss (.app 83 (.acons (.rvar 0) (.acons (.rcons (.app 84 (.acons (.rvar 0) (.acons (.rcons (.var 3) .rnil) .anil))) .rnil) .anil))) (.wrap .u64 (.bin .sub .i64 (.var 2) (.var 5))), true), (.cmp .eql (.app 85 (.acons (.rvar 0) (.acons (.rcons (.app 84 (.acons (.rvar 0) (.acons (.rcons (.var 3) .rnil) .anil))) .rnil) .anil))) (.lit 0), true), (.cmp .eql (.app 83 (.acons (.rvar 0) (.acons (.rcons (.var 3) .rnil) .anil))) (.lit 0), true), (.cmp .eql (.app 85 (.acons (.rvar 0) (.acons (.rcons (.var 3) .rnil) .anil))) (.lit 0), true), (.cmp .lss (.var 5) (.var 2), true), (.not (.cmp .lss (.lit 4294967296) (.rlen (.rvar 0) 1)), true), (.cmp .lss (.var 2) (.lit 0), false), (.cmp .lss (.lit 1048576) (.var 2), false), (.not (.cmp .lss (.var 5) (.lit 0)), true), (.not (.cmp .lss (.var 2) (.var 5)), true), (.not (.cmp .lss (.lit 1048576) (.var 5)), true), (.cmp .lss (.lit 17592186044416) (.plus (.var 5) (.lit 1)), false)], .bad), ([(.cmp .lss (.lit 17592186044416) (.bin .add .u64 (.app 83 (.acons (.rvar 0) (.acons (.rcons (.app 84 (.acons (.rvar 0) (.acons (.rcons (.var 3) .rnil) .anil))) .rnil) .anil))) (.lit 1)), false), (.cmp .lss (.bin .add .u64 (.app 83 (.acons (.rvar 0) (.acons (.rcons (.app 84 (.acons (.rvar 0) (.acons (.rcons (.var 3) .rnil) .anil))) .rnil) .anil))) (.lit 1)) (.lit 0), false), (.cmp .lss (.lit 17592186044416) (.plus (.var 5) (.bin .add .u64 (.app 83 (.acons (.rvar 0) (.acons (.rcons (.app 84 (.acons (.rvar 0) (.acons (.rcons (.var 3) .rnil) .anil))) .rnil) .anil))) (.lit 1))), false), (.cmp .lss (.app 83 (.acons (.rvar 0) (.acons (.rcons (.app 84 (.acons (.rvar 0) (.acons (.rcons (.var 3) .rnil) .anil))) .rnil) .anil))) (.wrap .u64 (.bin .sub .i64 (.var 2) (.var 5))), true), (.cmp .eql (.app 85 (.acons (.rvar 0) (.acons (.rcons (.app 84 (.acons (.rvar 0) (.acons (.rcons (.var 3) .rnil) .anil))) .rnil) .anil))) (.lit 0), true), (.cmp .eql (.app 83 (.acons (.rvar 0) (.acons (.rcons (.var 3) .rnil) .anil))) (.lit 0), true), (.cmp .eql (.app 85 (.acons (.rvar 0) (.acons (.rcons (.var 3) .rnil) .anil))) (.lit 0), true), (.cmp .lss (.var 5) (.var 2), true), (.not (.cmp .lss (.lit 4294967296) (.rlen (.rvar 0) 1)), true), (.cmp .lss (.var 2) (.lit 0), false), (.cmp .lss (.lit 1048576) (.var 2), false), (.not (.cmp .lss (.var 5) (.lit 0)), true), (.not (.cmp .lss (.var 2) (.var 5)), true), (.not (.cmp .lss (.lit 1048576) (.var 5)), true), (.cmp .lss (.lit 17592186044416) (.plus (.var 5) (.lit 1)), false)], .cut 2 ⟨[(5, .plus (.var 5) (.bin .add .u64 (.app 83 (.acons (.rvar 0) (.acons (.rcons (.app 84 (.acons (.rvar 0) (.acons (.rcons (.var 3) .rnil) .anil))) .rnil) .anil))) (.lit 1))), (3, .app 84 (.acons (.rvar 0) (.acons (.rcons (.app 84 (.acons (.rvar 0) (.acons (.rcons (.var 3) .rnil) .anil))) .rnil) .anil)))], [(4, .cat (.rvar 4) (.rep (.bin .add .u64 (.app 83 (.acons (.rvar 0) (.acons (.rcons (.app 84 (.acons (.rvar 0) (.acons (.rcons (.var 3) .rnil) .anil))) .rnil) .anil))) (.lit 1)) (.rcon [0])))], [], [(0, 1)]⟩), ([(.cmp .lss (.app 83 (.acons (.rvar 0) (.acons (.rcons (.app 84 (.acons (.rvar 0) (.acons (.rcons (.var 3) .rnil) .anil))) .rnil) .anil))) (.wrap .u64 (.bin .sub .i64 (.var 2) (.var 5))), false), (.cmp .eql (.app 85 (.acons (.rvar 0) (.acons (.rcons (.app 84 (.acons (.rvar 0) (.acons (.rcons (.var 3) .rnil) .anil))) .rnil) .anil))) (.lit 0), true), (.cmp .eql (.app 83 (.acons (.rvar 0) (.acons (.rcons (.var 3) .rnil) .anil))) (.lit 0), true), (.cmp .eql (.app 85 (.acons (.rvar 0) (.acons (.rcons (.var 3) .rnil) .anil))) (.lit 0), true), (.cmp .lss (.var 5) (.var 2), true), (.not (.cmp .lss (.lit 4294967296) (.rlen (.rvar 0) 1)), true), (.cmp .lss (.var 2) (.lit 0), false), (.cmp .lss (.lit 1048576) (.var 2), false), (.not (.cmp .lss (.var 5) (.lit 0)), true), (.not (.cmp .lss (.var 2) (.var 5)), true), (.not (.cmp .lss (.lit 1048576) (.var 5)), true), (.cmp .lss (.lit 17592186044416) (.plus (.var 5) (.lit 1)), false)], .ret (.tuple [.nilslice, .int .i64 0, .int .i64 13]) ⟨0, .nil⟩), ([(.cmp .eql (.app 85 (.acons (.rvar 0) (.acons (.rcons (.app 84 (.acons (.rvar 0) (.acons (.rcons (.var 3) .rnil) .anil))) .rnil) .anil))) (.lit 0), false), (.cmp .eql (.app 83 (.acons (.rvar 0) (.acons (.rcons (.var 3) .rnil) .anil))) (.lit 0), true), (.cmp .eql (.app 85 (.acons (.rvar 0) (.acons (.rcons (.var 3) .rnil) .anil))) (.lit 0), true), (.cmp .lss (.var 5) (.var 2), true), (.not (.cmp .lss (.lit 4294967296) (.rlen (.rvar 0) 1)), true), (.cmp .lss (.var 2) (.lit 0), false), (.cmp .lss (.lit 1048576) (.var 2), false), (.not (.cmp .lss (.var 5) (.lit 0)), true), (.not (.cmp .lss (.var 2) (.var 5)), true), (.not (.cmp .lss (.lit 1048576) (.var 5)), true), (.cmp .lss (.lit 17592186044416) (.plus (.var 5) (.lit 1)), false)], .ret (.tuple [.nilslice, .int .i64 0, .sint .i64 (.app 85 (.acons (.rvar 0) (.acons (.rcons (.app 84 (.acons (.rvar 0) (.acons (.rcons (.var 3) .rnil) .anil))) .rnil) .anil)))]) ⟨0, .nil⟩), ([(.cmp .eql (.app 83 (.acons (.rvar 0) (.acons (.rcons (.var 3) .rnil) .anil))) (.lit 0), false), (.cmp .eql (.app 85 (.acons (.rvar 0) (.acons (.rcons (.var 3) .rnil) .anil))) (.lit 0), true), (.cmp .lss (.var 5) (.var 2), true), (.not (.cmp .lss (.lit 4294967296) (.rlen (.rvar 0) 1)), true), (.cmp .lss (.var 2) (.lit 0), false), (.cmp .lss (.lit 1048576) (.var 2), false), (.not (.cmp .lss (.var 5) (.lit 0)), true), (.not (.cmp .lss (.var 2) (.var 5)), true), (.not (.cmp .lss (.lit 1048576) (.var 5)), true), (.cmp .lss (.lit 17592186044416) (.plus (.var 5) (.lit 1)), false)], .cut 1 ⟨[(5, .plus (.var 5) (.lit 1)), (3, .app 84 (.acons (.rvar 0) (.acons (.rcons (.var 3) .rnil) .anil)))], [(4, .cat (.rvar 4) (.rcons (.app 109 (.acons (.rcons (.app 83 (.acons (.rvar 0) (.acons (.rcons (.var 3) .rnil) .anil))) .rnil) .anil)) .rnil))], [], [(0, 2)]⟩), ([(.cmp .eql (.app 85 (.acons (.rvar 0) (.acons (.rcons (.var 3) .rnil) .anil))) (.lit 0), false), (.cmp .lss (.var 5) (.var 2), true), (.not (.cmp .lss (.lit 4294967296) (.rlen (.rvar 0) 1)), true), (.cmp .lss (.var 2) (.lit 0), false), (.cmp .lss (.lit 1048576) (.var 2), false), (.not (.cmp .lss (.var 5) (.lit 0)), true), (.not (.cmp .lss (.var 2) (.var 5)), true), (.not (.cmp .lss (.lit 1048576) (.var 5)), true), (.cmp .lss (.lit 17592186044416) (.plus (.var 5) (.lit 1)), false)], .ret (.tuple [.nilslice, .int .i64 0, .sint .i64 (.app 85 (.acons (.rvar 0) (.acons (.rcons (.var 3) .rnil) .anil)))]) ⟨0, .nil⟩), ([(.cmp .lss (.var 5) (.var 2), false), (.not (.cmp .lss (.lit 4294967296) (.rlen (.rvar 0) 1)), true), (.cmp .lss (.var 2) (.lit 0), false), (.cmp .lss (.lit 1048576) (.var 2), false), (.not (.cmp .lss (.var 5) (.lit 0)), true), (.not (.cmp .lss (.var 2) (.var 5)), true), (.not (.cmp .lss (.lit 1048576) (.var 5)), true), (.cmp .lss (.lit 17592186044416) (.plus (.var 5) (.lit 1)), false)], .ret (.tuple [.rsl (.own 0) (.lit 0) (.var 5) 1, .sint .i64 (.var 3), .int .i64 0]) ⟨1, (.node (some ⟨2, 0, [], .nil, true, (some (.rvar 4, (.var 5, [.i64])))⟩) .nil .nil)⟩)], [([(.cmp .eql (.app 83 (.acons (.rvar 0) (.acons (.rcons (.var 3) .rnil) .anil))) (.lit 0), true), (.cmp .eql (.app 85 (.acons (.rvar 0) (.acons (.rcons (.var 3) .rnil) .anil))) (.lit 0), true), (.cmp .lss (.var 5) (.var 2), true), (.not (.cmp .lss (.lit 4294967296) (.rlen (.rvar 0) 1)), true), (.cmp .lss (.var 2) (.lit 0), false), (.cmp .lss (.lit 1048576) (.var 2), false), (.not (.cmp .lss (.var 5) (.lit 0)), true), (.not (.cmp .lss (.var 2) (.var 5)), true), (.not (.cmp .lss (.lit 1048576) (.var 5)), true), (.cmp .lss (.lit 17592186044416) (.plus (.var 5) (.lit 1)), false)], .ret (.tuple [.nilslice, .int .i64 0, .int .i64 13]) ⟨0, .nil⟩), ([(.cmp .eql (.app 83 (.acons (.rvar 0) (.acons (.rcons (.var 3) .rnil) .anil))) (.lit 0), false), (.cmp .eql (.app 85 (.acons (.rvar 0) (.acons (.rcons (.var 3) .rnil) .anil))) (.lit 0), true), (.cmp .lss (.var 5) (.var 2), true), (.not (.cmp .lss (.lit 4294967296) (.rlen (.rvar 0) 1)), true), (.cmp .lss (.var 2) (.lit 0), false), (.cmp .lss (.lit 1048576) (.var 2), false), (.not (.cmp .lss (.var 5) (.lit 0)), true), (.not (.cmp .lss (.var 2) (.var 5)), true), (.not (.cmp .lss (.lit 1048576) (.var 5)), true), (.cmp .lss (.lit 17592186044416) (.plus (.var 5) (.lit 1)), false)], .cut 1 ⟨[(5, .plus (.var 5) (.lit 1)), (3, .app 84 (.acons (.rvar 0) (.acons (.rcons (.var 3) .rnil) .anil)))], [(4, .cat (.rvar 4) (.rcons (.app 109 (.acons (.rcons (.app 83 (.acons (.rvar 0) (.acons (.rcons (.var 3) .rnil) .anil))) .rnil) .anil)) .rnil))], [], [(0, 2)]⟩), ([(.cmp .eql (.app 85 (.acons (.rvar 0) (.acons (.rcons (.var 3) .rnil) .anil))) (.lit 0), false), (.cmp .lss (.var 5) (.var 2), true), (.not (.cmp .lss (.lit 4294967296) (.rlen (.rvar 0) 1)), true), (.cmp .lss (.var 2) (.lit 0), false), (.cmp .lss (.lit 1048576) (.var 2), false), (.not (.cmp .lss (.var 5) (.lit 0)), true), (.not (.cmp .lss (.var 2) (.var 5)), true), (.not (.cmp .lss (.lit 1048576) (.var 5)), true), (.cmp .lss (.lit 17592186044416) (.plus (.var 5) (.lit 1)), false)], .ret (.tuple [.nilslice, .int .i64 0, .sint .i64 (.app 85 (.acons (.rvar 0) (.acons (.rcons (.var 3) .rnil) .anil)))]) ⟨0, .nil⟩), ([(.cmp .lss (.var 5) (.var 2), false), (.not (.cmp .lss (.lit 4294967296) (.rlen (.rvar 0) 1)), true), (.cmp .lss (.var 2) (.lit 0), false), (.cmp .lss (.lit 1048576) (.var 2), false), (.not (.cmp .lss (.var 5) (.lit 0)), true), (.not (.cmp .lss (.var 2) (.var 5)), true), (.not (.cmp .lss (.lit 1048576) (.var 5)), true), (.cmp .lss (.lit 17592186044416) (.plus (.var 5) (.lit 1)), false)], .ret (.tuple [.rsl (.own 0) (.lit 0) (.var 5) 1, .sint .i64 (.var 3), .int .i64 0]) ⟨1, (.node (some ⟨2, 0, [], .nil, true, (some (.rvar 4, (.var 5, [.i64])))⟩) .nil .nil)⟩)]] := by kernel_rfl

end Go.Proofs.Ytkfejcffacbngaa.J

namespace Go.Proofs.Ytkfejcffacbngaa.J

open Go Go.Sym

set_option linter.unusedVariables false

theorem s_t {c : Pc} (h : PcOk Try.prog FNs c) (h1 : ∀ i, i < c.rks.length → c.id + i ≤ 82 ∨ (86 ≤ c.id + i ∧ c.id + i ≤ 105)) (h2 : c.pre = []) : PcOk Try.prog FNt c := by
  refine h.cong (fun i hi => ?_) (fun i hi => by rw [h2] at hi; cases hi)
  have := h1 i hi
  generalize c.id + i = j at this
  funext l
  unfold FNt
  split <;> first | omega | rfl

theorem bt {c : Pc} (h : PcOk Try.prog FNb c) (h1 : ∀ i, i < c.rks.length → 83 ≤ c.id + i ∧ c.id + i ≤ 85) (h2 : c.pre = []) : PcOk Try.prog FNt c := by
  refine h.cong (fun i hi => ?_) (fun i hi => by rw [h2] at hi; cases hi)
  have := h1 i hi
  obtain h | h | h : c.id + i = 83 ∨ c.id + i = 84 ∨ c.id + i = 85 := by omega
  · rw [h]; rfl
  · rw [h]; rfl
  · rw [h]; rfl

theorem lebG_t : PcOk Try.prog FNt pcLebG := bt lebG_ok (by decide) rfl

theorem unf_ok : PcOk Try.prog FNt pcUnf := by
  intro w vs ls hargs hrng hpre
  refine pc_inst' mix pcUnf (fun _ _ => knOk_nil) (by decide) unf_entry hargs fun e0 hf ha => ⟨(fun p hp => by cases hp), ?_⟩
  simp only [pcUnf, ArgsE, ArgE] at ha
  obtain ⟨l, _, rfl, hl, rfl⟩ := ha
  obtain ⟨u, hu⟩ : ∃ u, vInt (e0.val 0) = u := ⟨_, rfl⟩
  rw [hu] at hl
  subst hl
  simp only [allLeaves, AsOk_cons, AsOk_nil, BE.eval, cmpI, IE.eval, hu, and_true, decide_eq_true_eq, decide_eq_false_iff_not]
  refine ⟨fun hA => ⟨[_], rfl, ⟨_, rfl, ?_⟩, rfl⟩, fun hA => ⟨[_], rfl, ⟨_, rfl, ?_⟩, rfl⟩⟩
  · simp only [IE.eval, hu, pcUnf, FNt_109, unfM, if_pos hA, List.headD_cons]
  · simp only [IE.eval, hu, pcUnf, FNt_109, unfM, if_neg hA, List.headD_cons]

theorem knG2_ok : ∀ env : Env, env.fn = FNt → KnOk Try.prog env knG2 := fun env h => knOk_cons (knOk_cons knOk_nil (Pc.ct_ok h unf_ok)) (Pc.ct_ok h lebG_t)

theorem or64_rng' (x y : Int) : 0 ≤ binI .or .u64 x y ∧ binI .or .u64 x y < 18446744073709551616 := by
  have h : (BitVec.ofInt 64 x ||| BitVec.ofInt 64 y).toNat < 2 ^ 64 := (BitVec.ofInt 64 x ||| BitVec.ofInt 64 y).isLt
  show 0 ≤ IntKind.u64.wrap ((BitVec.ofInt 64 x ||| BitVec.ofInt 64 y).toNat : Int) ∧ IntKind.u64.wrap ((BitVec.ofInt 64 x ||| BitVec.ofInt 64 y).toNat : Int) < 18446744073709551616
  rw [wrap_u64 (by omega)]
  omega

theorem lebU_rng' (b : List Int) (a : Int) (k : Nat) : 0 ≤ lebU b a k ∧ lebU b a k < 18446744073709551616 := by
  cases k with
  | zero => simp [lebU]
  | succ k => exact or64_rng' _ _

theorem repL_len (m : Int) (h : 0 ≤ m) : ((repL m [0]).length : Int) = m := by
  have : (repL m [0]).length = m.toNat := by
    simp only [repL]
    generalize m.toNat = q
    induction q with
    | zero => rfl
    | succ q ih => rw [List.replicate_succ, List.flatten_cons, List.length_append, ih]; simp; omega
  omega

/-- where the run of Get stands -/
def Stands (b : List Int) (a n : Int) (p : Int) (out : List Int) (z : Bool) : Prop := ∃ f : Nat, getM b a n = getF b n.toNat f p out z ∧ (out.length : Int) ≤ n ∧ n.toNat < out.length + f

section
variable {b : List Int} {a n p : Int} {out : List Int} {z : Bool}

theorem Stands.done (h : Stands b a n p out z) (hn : ¬ (out.length : Int) < n) : getM b a n = (out, p, 0) := by
  obtain ⟨f, h1, h2, h3⟩ := h
  obtain ⟨f, rfl⟩ : ∃ q, f = q + 1 := ⟨f - 1, by omega⟩
  rw [h1, getF, if_pos (by omega)]

theorem Stands.code (h : Stands b a n p out z) (hn : (out.length : Int) < n) (he : (lebR b p).1 ≠ 0) : getM b a n = ([], 0, (lebR b p).1) := by
  obtain ⟨f, h1, h2, h3⟩ := h
  obtain ⟨f, rfl⟩ : ∃ q, f = q + 1 := ⟨f - 1, by omega⟩
  rw [h1, getF, if_neg (by omega), if_pos he]

theorem Stands.num (h : Stands b a n p out z) (hn : (out.length : Int) < n) (he : (lebR b p).1 = 0) (hu : lebU b p (lebR b p).2 ≠ 0) : Stands b a n (p + (lebR b p).2) (out ++ [unfM (lebU b p (lebR b p).2)]) false := by
  obtain ⟨f, h1, h2, h3⟩ := h
  obtain ⟨f, rfl⟩ : ∃ q, f = q + 1 := ⟨f - 1, by omega⟩
  refine ⟨f, ?_, by simp; omega, by simp; omega⟩
  rw [h1, getF, if_neg (by omega), if_neg (by rw [he]; simp), if_pos hu]

theorem Stands.twice (h : Stands b a n p out true) (hn : (out.length : Int) < n) (he : (lebR b p).1 = 0) (hu : lebU b p (lebR b p).2 = 0) : getM b a n = ([], 0, 13) := by
  obtain ⟨f, h1, h2, h3⟩ := h
  obtain ⟨f, rfl⟩ : ∃ q, f = q + 1 := ⟨f - 1, by omega⟩
  rw [h1, getF, if_neg (by omega), if_neg (by rw [he]; simp), if_neg (by rw [hu]; simp), if_pos rfl]

theorem Stands.code2 (h : Stands b a n p out false) (hn : (out.length : Int) < n) (he : (lebR b p).1 = 0) (hu : lebU b p (lebR b p).2 = 0) (he2 : (lebR b (p + (lebR b p).2)).1 ≠ 0) : getM b a n = ([], 0, (lebR b (p + (lebR b p).2)).1) := by
  obtain ⟨f, h1, h2, h3⟩ := h
  obtain ⟨f, rfl⟩ : ∃ q, f = q + 1 := ⟨f - 1, by omega⟩
  rw [h1, getF, if_neg (by omega), if_neg (by rw [he]; simp), if_neg (by rw [hu]; simp), if_neg (by simp), if_pos he2]

theorem Stands.many (h : Stands b a n p out false) (hn : (out.length : Int) < n) (he : (lebR b p).1 = 0) (hu : lebU b p (lebR b p).2 = 0) (he2 : (lebR b (p + (lebR b p).2)).1 = 0) (hm : n - out.length ≤ lebU b (p + (lebR b p).2) (lebR b (p + (lebR b p).2)).2) : getM b a n = ([], 0, 13) := by
  obtain ⟨f, h1, h2, h3⟩ := h
  obtain ⟨f, rfl⟩ : ∃ q, f = q + 1 := ⟨f - 1, by omega⟩
  rw [h1, getF, if_neg (by omega), if_neg (by rw [he]; simp), if_neg (by rw [hu]; simp), if_neg (by simp), if_neg (by rw [he2]; simp), if_pos (by omega)]

theorem Stands.zeros (h : Stands b a n p out false) (hn : (out.length : Int) < n) (he : (lebR b p).1 = 0) (hu : lebU b p (lebR b p).2 = 0) (he2 : (lebR b (p + (lebR b p).2)).1 = 0) (hm : lebU b (p + (lebR b p).2) (lebR b (p + (lebR b p).2)).2 < n - out.length) :
    Stands b a n (p + (lebR b p).2 + (lebR b (p + (lebR b p).2)).2) (out ++ repL (lebU b (p + (lebR b p).2) (lebR b (p + (lebR b p).2)).2 + 1) [0]) true := by
  obtain ⟨f, h1, h2, h3⟩ := h
  obtain ⟨f, rfl⟩ : ∃ q, f = q + 1 := ⟨f - 1, by omega⟩
  have hr := repL_len (lebU b (p + (lebR b p).2) (lebR b (p + (lebR b p).2)).2 + 1) (by have := (lebU_rng' b (p + (lebR b p).2) (lebR b (p + (lebR b p).2)).2).1; omega)
  have h0 := (lebU_rng' b (p + (lebR b p).2) (lebR b (p + (lebR b p).2)).2).1
  refine ⟨f, ?_, by rw [List.length_append]; omega, by rw [List.length_append]; omega⟩
  rw [h1, getF, if_neg (by omega), if_neg (by rw [he]; simp), if_neg (by rw [hu]; simp), if_neg (by simp), if_neg (by rw [he2]; simp), if_neg (by omega)]
end

theorem Stands.start {b : List Int} {a n : Int} (h0 : 0 ≤ a) (h1 : a ≤ b.length) (h2 : 0 ≤ n) (h3 : n ≤ 1048576) : Stands b a n a [] false :=
  ⟨n.toNat + 1, by rw [getM, if_neg (by omega)], by simpa using h2, by simp⟩

end Go.Proofs.Ytkfejcffacbngaa.J


namespace Go.Proofs.Ytkfejcffacbngaa.J

open Go Go.Sym

set_option linter.unusedVariables false

def invG (ls : List (List Int)) (c : Nat) (env : Env) : Prop := ∃ (b : List Int) (a n p : Int), ls = [b, [a], [n]] ∧ (b.length : Int) ≤ 4294967296 ∧ 0 ≤ n ∧ n ≤ 1048576 ∧ env.row 0 = b ∧ vInt (env.val 2) = n ∧ vInt (env.val 3) = p ∧
  ((c = 0 ∧ Stands b a n p [] false) ∨ (c = 1 ∧ vInt (env.val 5) = ((env.row 4).length : Int) ∧ Stands b a n p (env.row 4) false) ∨ (c = 2 ∧ vInt (env.val 5) = ((env.row 4).length : Int) ∧ Stands b a n p (env.row 4) true))

def muG (ls : List (List Int)) (c : Nat) (env : Env) : Nat × Nat := (0, if c = 0 then 2000000 else (1900000 - (vInt (env.val 5)).toNat))

theorem ret_code {b : List Int} {a n code : Int} (h : getM b a n = ([], 0, code)) {env : Env} {o : Option (Nat × Nat)} {M : Mem} {s : SV} (hs : ∃ e, toIE s = some (IntKind.i64, e) ∧ e.eval env = code) :
    StepG FNt [b, [a], [n]] pcRGet.id pcRGet.rks (invG [b, [a], [n]]) (muG [b, [a], [n]]) o env (.ret (.tuple [.nilslice, .int .i64 0, s]) M) := by
  obtain ⟨e, h1, h2⟩ := hs
  refine ⟨[_, _, _], rfl, ⟨by decide, _, rfl, ?_, trivial⟩, ⟨_, rfl, ?_⟩, ⟨e, h1, ?_⟩, rfl⟩
  · simp only [IE.reval, pcRGet, FNt_106, h]
  · simp only [IE.eval, pcRGet, Nat.reduceAdd, FNt_107, h, List.headD_cons]
  · simp only [h2, pcRGet, Nat.reduceAdd, FNt_108, h, List.headD_cons]

theorem sub_all2 {l : List Int} {n : Nat} (h : n = l.length) : subL l 0 (n : Int) 1 = l := by
  subst h
  simp [subL]

theorem row_end {b : List Int} {a n p : Int} {env : Env} {o : Option (Nat × Nat)} (q3 : vInt (env.val 3) = p) (q5 : vInt (env.val 5) = ((env.row 4).length : Int)) (hg : getM b a n = (env.row 4, p, 0)) :
    StepG FNt [b, [a], [n]] pcRGet.id pcRGet.rks (invG [b, [a], [n]]) (muG [b, [a], [n]]) o env (.ret (.tuple [.rsl (.own 0) (.lit 0) (.var 5) 1, .sint .i64 (.var 3), .int .i64 0]) ⟨1, (.node (some ⟨2, 0, [], .nil, true, (some (.rvar 4, (.var 5, [.i64])))⟩) .nil .nil)⟩) := by
  refine ⟨[_, _, _], rfl, ⟨by decide, _, rfl, ?_, ?_⟩, ⟨_, rfl, ?_⟩, ⟨_, rfl, ?_⟩, rfl⟩
  · rw [subE_eval (by simp only [IE.reval, IE.eval, q5]; simp)]
    simp only [IE.reval, IE.eval, q5, pcRGet, FNt_106, hg]
    exact sub_all2 rfl
  · refine ⟨by simp only [IE.eval, q5]; omega, fun B r cnt ks' h1 h2 => ?_⟩
    obtain rfl := Option.some.inj h1
    cases h2
    exact Int.le_refl _
  · simp only [IE.eval, q3, pcRGet, Nat.reduceAdd, FNt_107, hg, List.headD_cons]
  · simp only [IE.eval, pcRGet, Nat.reduceAdd, FNt_108, hg, List.headD_cons]

theorem go_on {b : List Int} {a n p' : Int} {out' : List Int} {z : Bool} {c j : Nat} {σ : Sb} {env : Env} (hst : Stands b a n p' out' z) (hj : (j = 1 ∧ z = false) ∨ (j = 2 ∧ z = true)) (h1 : (b.length : Int) ≤ 4294967296) (h2 : 0 ≤ n) (h3 : n ≤ 1048576)
    (e0 : (upd env σ).row 0 = b) (e2 : vInt ((upd env σ).val 2) = n) (e3 : vInt ((upd env σ).val 3) = p') (e4 : (upd env σ).row 4 = out') (e5 : vInt ((upd env σ).val 5) = (out'.length : Int)) (hm : c = 0 ∨ vInt (env.val 5) < (out'.length : Int)) (h5 : c = 0 ∨ 0 ≤ vInt (env.val 5)) :
    StepG FNt [b, [a], [n]] pcRGet.id pcRGet.rks (invG [b, [a], [n]]) (muG [b, [a], [n]]) (some (muG [b, [a], [n]] c env)) env (.cut j σ) := by
  have hle : (out'.length : Int) ≤ n := by obtain ⟨_, _, h, _⟩ := hst; exact h
  refine ⟨⟨b, a, n, p', rfl, h1, h2, h3, e0, e2, e3, ?_⟩, fun m hm' => ?_⟩
  · rcases hj with ⟨rfl, rfl⟩ | ⟨rfl, rfl⟩
    · exact .inr (.inl ⟨rfl, by rw [e4]; exact e5, by rw [e4]; exact hst⟩)
    · exact .inr (.inr ⟨rfl, by rw [e4]; exact e5, by rw [e4]; exact hst⟩)
  · cases hm'
    refine Prod.lex_def.2 (.inr ⟨rfl, ?_⟩)
    have hj0 : ¬ j = 0 := by omega
    simp only [muG, if_neg hj0, e5]
    split <;> omega

set_option maxHeartbeats 2000000 in
theorem rget_ok : PcOk Try.prog FNt pcRGet := by
  refine pc_floyd_as (cs := cutG) (base := 3) mix pcRGet knG2_ok (Nat.le_refl 3) rget_rounds rget_entry invG muG (fun ls i env h => by
    obtain ⟨_, _, _, _, _, _, _, _, _, _, _, ⟨h, _⟩ | ⟨h, _⟩ | ⟨h, _⟩⟩ := h <;> simp <;> omega) ?_
  intro ls e0 hf hargs hrng hpre
  simp only [pcRGet, ArgsE, ArgE] at hargs
  obtain ⟨b, _, rfl, ⟨hb, _⟩, a', _, rfl, ha, n', _, rfl, hn, rfl⟩ := hargs
  have hlen := (hrng.1 (.sl [.u8]) b rfl rfl).2
  simp only [measL, List.length_singleton, Nat.div_one] at hlen
  obtain ⟨a, hav⟩ : ∃ z, vInt (e0.val 1) = z := ⟨_, rfl⟩
  obtain ⟨n, hnv⟩ : ∃ z, vInt (e0.val 2) = z := ⟨_, rfl⟩
  simp only [Nat.zero_add, Nat.reduceAdd, hav, hnv] at ha hn
  subst ha; subst hn
  refine ⟨?_, fun env hfn => ⟨⟨?_, ?_, ?_, trivial⟩, ⟨?_, ?_, ?_, trivial⟩⟩, ?_⟩
  · simp only [lB, atmB, AsOk_cons, AsOk_nil, BE.eval, cmpI, IE.eval, IE.reval, hb, Nat.div_one]
    simp; omega
  · rintro ⟨_, _, _, p, hl, h1, h2, h3, q0, q2, q3, _⟩
    simp only [asB0, ltR, lB, atmB, AsOk_cons, AsOk_nil, BE.eval, cmpI, IE.eval, IE.reval, q0, q2, Nat.div_one]
    simp; omega
  · rintro ⟨_, _, _, p, hl, h1, h2, h3, q0, q2, q3, ⟨h, _⟩ | ⟨_, q5, f, hs, h4, h5⟩ | ⟨h, _⟩⟩
    · cases h
    · simp only [asB0, asC0, ltR, lB, nonneg, atmB, List.cons_append, List.nil_append, AsOk_cons, AsOk_nil, BE.eval, cmpI, IE.eval, IE.reval, q0, q2, q5, Nat.div_one]
      simp; omega
    · cases h
  · rintro ⟨_, _, _, p, hl, h1, h2, h3, q0, q2, q3, ⟨h, _⟩ | ⟨h, _⟩ | ⟨_, q5, f, hs, h4, h5⟩⟩
    · cases h
    · cases h
    · simp only [asB0, asC0, ltR, lB, nonneg, atmB, List.cons_append, List.nil_append, AsOk_cons, AsOk_nil, BE.eval, cmpI, IE.eval, IE.reval, q0, q2, q5, Nat.div_one]
      simp; omega
  · rintro ⟨_, _, _, p, hl, h1, h2, h3, q0, q2, q3, ⟨_, hs⟩ | ⟨h, _⟩ | ⟨h, _⟩⟩
    · simp only [List.cons.injEq, and_true] at hl
      obtain ⟨rfl, rfl, rfl⟩ := hl
      have hle : (([] : List Int).length : Int) ≤ n := by obtain ⟨_, _, h, _⟩ := hs; exact h
      have hU0 := lebU_rng' b p (lebR b p).2
      have hM0 := lebU_rng' b (p + (lebR b p).2) (lebR b (p + (lebR b p).2)).2
      have eS : IntKind.u64.wrap (binI .sub .i64 n 0) = n - 0 := by
        have : binI .sub .i64 n 0 = n - 0 := wrap_i64 (by omega)
        rw [this]; exact wrap_u64 (by omega)
      have eM : lebU b (p + (lebR b p).2) (lebR b (p + (lebR b p).2)).2 < n - 0 → binI .add .u64 (lebU b (p + (lebR b p).2) (lebR b (p + (lebR b p).2)).2) 1 = lebU b (p + (lebR b p).2) (lebR b (p + (lebR b p).2)).2 + 1 := fun h => wrap_u64 (by omega)
      have end0 : getM b a n = ([], p, 0) → StepG FNt [b, [a], [n]] pcRGet.id pcRGet.rks (invG [b, [a], [n]]) (muG [b, [a], [n]]) (some (muG [b, [a], [n]] 0 env)) env (.ret (.tuple [.nilslice, .sint .i64 (.var 3), .int .i64 0]) ⟨0, .nil⟩) := by
        intro hg
        refine ⟨[_, _, _], rfl, ⟨by decide, _, rfl, ?_, trivial⟩, ⟨_, rfl, ?_⟩, ⟨_, rfl, ?_⟩, rfl⟩
        · simp only [IE.reval, pcRGet, FNt_106, hg]
        · simp only [IE.eval, q3, pcRGet, Nat.reduceAdd, FNt_107, hg, List.headD_cons]
        · simp only [IE.eval, pcRGet, Nat.reduceAdd, FNt_108, hg, List.headD_cons]
      by_cases hE : (lebR b p).1 = 0
      · by_cases hE2 : (lebR b (p + (lebR b p).2)).1 = 0
        · simp only [allLeaves, AsOk_cons, AsOk_nil, BE.eval, cmpI, IE.eval, IE.reval, IE.aeval, hfn, q0, q2, q3, hE, hE2, if_true, FNt_83, FNt_84, FNt_85, eS, List.headD_cons, Nat.div_one, and_true, true_and, decide_eq_true_eq, decide_eq_false_iff_not, not_true_eq_false, false_and, false_imp_iff]
          refine ⟨fun hA => ?_, fun hA => ?_, fun hA => ?_, fun hA => ?_, fun hA => ?_, fun hA => ?_, fun hA => end0 (hs.done (by simpa using hA.1))⟩
          · exfalso; have := eM hA.2.2.1; omega
          · have hlt : lebU b (p + (lebR b p).2) (lebR b (p + (lebR b p).2)).2 < n - 0 := by have := hA.2.2.1; omega
            have hr := repL_len (lebU b (p + (lebR b p).2) (lebR b (p + (lebR b p).2)).2 + 1) (by omega)
            exact go_on (hs.zeros (by simpa using hA.2.2.2.2.1) hE hA.2.2.2.1 hE2 (by simpa using hlt)) (.inr ⟨rfl, rfl⟩) h1 h2 h3 (by simp [upd, lk_cons, lk_nil, q0]) (by simp [upd, lk_cons, lk_nil, q2]) (by simp [upd, lk_cons, lk_nil, IE.eval, IE.reval, IE.aeval, hfn, q0, q3, hE, hE2, FNt_84, vInt_int]) (by simp [upd, lk_cons, lk_nil, IE.eval, IE.reval, IE.aeval, hfn, q0, q3, hE, hE2, eM hlt, FNt_83, FNt_84]) (by have := repL_len (lebU b (p + (lebR b p).2) (lebR b (p + (lebR b p).2)).2 + 1) (by omega); simp only [upd, lk_cons, lk_nil, Nat.reduceEqDiff, if_false, if_true, IE.eval, IE.reval, IE.aeval, hfn, q0, q3, hE, hE2, FNt_83, FNt_84, List.headD_cons, vInt_int, eM hlt]; rw [List.length_append]; simp; omega) (.inl rfl) (.inl rfl)
          · exfalso; have := eM hA.2.2.1; omega
          · exfalso; have := eM hA.2.2.1; omega
          · exact ret_code (hs.many (by simpa using hA.2.2.1) hE hA.2.1 hE2 (by simp; omega)) ⟨_, rfl, rfl⟩
          · exact go_on (hs.num (by simpa using hA.2.1) hE hA.1) (.inl ⟨rfl, rfl⟩) h1 h2 h3 (by simp [upd, lk_cons, lk_nil, q0]) (by simp [upd, lk_cons, lk_nil, q2]) (by simp [upd, lk_cons, lk_nil, IE.eval, IE.reval, IE.aeval, hfn, q0, q3, hE, FNt_84, vInt_int]) (by simp [upd, lk_cons, lk_nil, IE.eval, IE.reval, IE.aeval, hfn, q0, q3, hE, FNt_83, FNt_109]) (by simp [upd, lk_cons, lk_nil, IE.eval, vInt_int]) (.inl rfl) (.inl rfl)
        · simp only [allLeaves, AsOk_cons, AsOk_nil, BE.eval, cmpI, IE.eval, IE.reval, IE.aeval, hfn, q0, q2, q3, hE, hE2, if_true, if_false, FNt_83, FNt_84, FNt_85, eS, List.headD_cons, Nat.div_one, and_true, true_and, decide_eq_true_eq, decide_eq_false_iff_not, not_true_eq_false, not_false_eq_true, false_and, and_false, false_imp_iff]
          refine ⟨fun hA => ?_, fun hA => ?_, fun hA => end0 (hs.done (by simpa using hA.1))⟩
          · exact ret_code (hs.code2 (by simpa using hA.2.1) hE hA.1 hE2) ⟨_, rfl, by simp only [IE.eval, IE.reval, IE.aeval, hfn, q0, q3, hE, if_true, FNt_84, FNt_85, List.headD_cons]⟩
          · exact go_on (hs.num (by simpa using hA.2.1) hE hA.1) (.inl ⟨rfl, rfl⟩) h1 h2 h3 (by simp [upd, lk_cons, lk_nil, q0]) (by simp [upd, lk_cons, lk_nil, q2]) (by simp [upd, lk_cons, lk_nil, IE.eval, IE.reval, IE.aeval, hfn, q0, q3, hE, FNt_84, vInt_int]) (by simp [upd, lk_cons, lk_nil, IE.eval, IE.reval, IE.aeval, hfn, q0, q3, hE, FNt_83, FNt_109]) (by simp [upd, lk_cons, lk_nil, IE.eval, vInt_int]) (.inl rfl) (.inl rfl)
      · simp only [allLeaves, AsOk_cons, AsOk_nil, BE.eval, cmpI, IE.eval, IE.reval, IE.aeval, hfn, q0, q2, q3, hE, if_false, FNt_83, FNt_84, FNt_85, eS, List.headD_cons, Nat.div_one, and_true, true_and, decide_eq_true_eq, decide_eq_false_iff_not, not_true_eq_false, not_false_eq_true, false_and, and_false, false_imp_iff]
        refine ⟨fun hA => ?_, fun hA => end0 (hs.done (by simpa using hA.1))⟩
        · exact ret_code (hs.code (by simpa using hA.1) hE) ⟨_, rfl, by simp only [IE.eval, IE.reval, IE.aeval, hfn, q0, q3, FNt_85, List.headD_cons]⟩
    · cases h
    · cases h
  · rintro ⟨_, _, _, p, hl, h1, h2, h3, q0, q2, q3, ⟨h, _⟩ | ⟨_, q5, hs⟩ | ⟨h, _⟩⟩
    · cases h
    · simp only [List.cons.injEq, and_true] at hl
      obtain ⟨rfl, rfl, rfl⟩ := hl
      obtain ⟨out, hout⟩ : ∃ o, env.row 4 = o := ⟨_, rfl⟩
      have hend := row_end (b := b) (a := a) (n := n) (o := some (muG [b, [a], [n]] 1 env)) q3 q5
      rw [hout] at q5 hs hend
      have hle : ((out : List Int).length : Int) ≤ n := by obtain ⟨_, _, h, _⟩ := hs; exact h
      have hU0 := lebU_rng' b p (lebR b p).2
      have hM0 := lebU_rng' b (p + (lebR b p).2) (lebR b (p + (lebR b p).2)).2
      have eS : IntKind.u64.wrap (binI .sub .i64 n (out.length : Int)) = n - (out.length : Int) := by
        have : binI .sub .i64 n (out.length : Int) = n - (out.length : Int) := wrap_i64 (by omega)
        rw [this]; exact wrap_u64 (by omega)
      have eM : lebU b (p + (lebR b p).2) (lebR b (p + (lebR b p).2)).2 < n - (out.length : Int) → binI .add .u64 (lebU b (p + (lebR b p).2) (lebR b (p + (lebR b p).2)).2) 1 = lebU b (p + (lebR b p).2) (lebR b (p + (lebR b p).2)).2 + 1 := fun h => wrap_u64 (by omega)
      by_cases hE : (lebR b p).1 = 0
      · by_cases hE2 : (lebR b (p + (lebR b p).2)).1 = 0
        · simp only [allLeaves, AsOk_cons, AsOk_nil, BE.eval, cmpI, IE.eval, IE.reval, IE.aeval, hfn, q0, q2, q3, q5, hE, hE2, if_true, FNt_83, FNt_84, FNt_85, eS, List.headD_cons, Nat.div_one, and_true, true_and, decide_eq_true_eq, decide_eq_false_iff_not, not_true_eq_false, false_and, false_imp_iff]
          refine ⟨fun hA => ?_, fun hA => ?_, fun hA => ?_, fun hA => ?_, fun hA => ?_, fun hA => ?_, fun hA => hend (hs.done hA.1)⟩
          · exfalso; have := eM hA.2.1; omega
          · exfalso; have := eM hA.2.2.1; omega
          · exfalso; have := eM hA.2.2.2.1; omega
          · have hlt := hA.2.2.2.1
            have hr := repL_len (lebU b (p + (lebR b p).2) (lebR b (p + (lebR b p).2)).2 + 1) (by omega)
            exact go_on (hs.zeros hA.2.2.2.2.2.1 hE hA.2.2.2.2.1 hE2 hlt) (.inr ⟨rfl, rfl⟩) h1 h2 h3 (by simp [upd, lk_cons, lk_nil, q0]) (by simp [upd, lk_cons, lk_nil, q2]) (by simp [upd, lk_cons, lk_nil, IE.eval, IE.reval, IE.aeval, hfn, q0, q3, hE, hE2, FNt_84, vInt_int]) (by simp [upd, lk_cons, lk_nil, IE.eval, IE.reval, IE.aeval, hfn, q0, q3, hout, hE, hE2, eM hlt, FNt_83, FNt_84]) (by have := repL_len (lebU b (p + (lebR b p).2) (lebR b (p + (lebR b p).2)).2 + 1) (by omega); simp only [upd, lk_cons, lk_nil, Nat.reduceEqDiff, if_false, if_true, IE.eval, IE.reval, IE.aeval, hfn, q0, q3, q5, hE, hE2, FNt_83, FNt_84, List.headD_cons, vInt_int, eM hlt]; rw [List.length_append]; omega) (.inr (by rw [q5, List.length_append]; omega)) (.inr (by omega))
          · exact ret_code (hs.many hA.2.2.1 hE hA.2.1 hE2 (by omega)) ⟨_, rfl, rfl⟩
          · exact go_on (hs.num hA.2.1 hE hA.1) (.inl ⟨rfl, rfl⟩) h1 h2 h3 (by simp [upd, lk_cons, lk_nil, q0]) (by simp [upd, lk_cons, lk_nil, q2]) (by simp [upd, lk_cons, lk_nil, IE.eval, IE.reval, IE.aeval, hfn, q0, q3, hE, FNt_84, vInt_int]) (by simp [upd, lk_cons, lk_nil, IE.eval, IE.reval, IE.aeval, hfn, q0, q3, hout, hE, FNt_83, FNt_109]) (by simp [upd, lk_cons, lk_nil, IE.eval, q5, vInt_int]) (.inr (by rw [q5, List.length_append]; simp; omega)) (.inr (by omega))
        · simp only [allLeaves, AsOk_cons, AsOk_nil, BE.eval, cmpI, IE.eval, IE.reval, IE.aeval, hfn, q0, q2, q3, q5, hE, hE2, if_true, if_false, FNt_83, FNt_84, FNt_85, eS, List.headD_cons, Nat.div_one, and_true, true_and, decide_eq_true_eq, decide_eq_false_iff_not, not_true_eq_false, not_false_eq_true, false_and, and_false, false_imp_iff]
          refine ⟨fun hA => ?_, fun hA => ?_, fun hA => hend (hs.done hA.1)⟩
          · exact ret_code (hs.code2 hA.2.1 hE hA.1 hE2) ⟨_, rfl, by simp only [IE.eval, IE.reval, IE.aeval, hfn, q0, q3, hE, if_true, FNt_84, FNt_85, List.headD_cons]⟩
          · exact go_on (hs.num hA.2.1 hE hA.1) (.inl ⟨rfl, rfl⟩) h1 h2 h3 (by simp [upd, lk_cons, lk_nil, q0]) (by simp [upd, lk_cons, lk_nil, q2]) (by simp [upd, lk_cons, lk_nil, IE.eval, IE.reval, IE.aeval, hfn, q0, q3, hE, FNt_84, vInt_int]) (by simp [upd, lk_cons, lk_nil, IE.eval, IE.reval, IE.aeval, hfn, q0, q3, hout, hE, FNt_83, FNt_109]) (by simp [upd, lk_cons, lk_nil, IE.eval, q5, vInt_int]) (.inr (by rw [q5, List.length_append]; simp; omega)) (.inr (by omega))
      · simp only [allLeaves, AsOk_cons, AsOk_nil, BE.eval, cmpI, IE.eval, IE.reval, IE.aeval, hfn, q0, q2, q3, q5, hE, if_false, FNt_83, FNt_84, FNt_85, eS, List.headD_cons, Nat.div_one, and_true, true_and, decide_eq_true_eq, decide_eq_false_iff_not, not_true_eq_false, not_false_eq_true, false_and, and_false, false_imp_iff]
        refine ⟨fun hA => ?_, fun hA => hend (hs.done hA.1)⟩
        · exact ret_code (hs.code hA.1 hE) ⟨_, rfl, by simp only [IE.eval, IE.reval, IE.aeval, hfn, q0, q3, FNt_85, List.headD_cons]⟩
    · cases h
  · rintro ⟨_, _, _, p, hl, h1, h2, h3, q0, q2, q3, ⟨h, _⟩ | ⟨h, _⟩ | ⟨_, q5, hs⟩⟩
    · cases h
    · cases h
    · simp only [List.cons.injEq, and_true] at hl
      obtain ⟨rfl, rfl, rfl⟩ := hl
      obtain ⟨out, hout⟩ : ∃ o, env.row 4 = o := ⟨_, rfl⟩
      have hend := row_end (b := b) (a := a) (n := n) (o := some (muG [b, [a], [n]] 2 env)) q3 q5
      rw [hout] at q5 hs hend
      have hle : ((out : List Int).length : Int) ≤ n := by obtain ⟨_, _, h, _⟩ := hs; exact h
      have hU0 := lebU_rng' b p (lebR b p).2
      have hM0 := lebU_rng' b (p + (lebR b p).2) (lebR b (p + (lebR b p).2)).2
      by_cases hE : (lebR b p).1 = 0
      · simp only [allLeaves, AsOk_cons, AsOk_nil, BE.eval, cmpI, IE.eval, IE.reval, IE.aeval, hfn, q0, q2, q3, q5, hE, if_true, FNt_83, FNt_85, List.headD_cons, Nat.div_one, and_true, true_and, decide_eq_true_eq, decide_eq_false_iff_not, not_true_eq_false, false_and, false_imp_iff]
        refine ⟨fun hA => ?_, fun hA => ?_, fun hA => hend (hs.done hA.1)⟩
        · exact ret_code (hs.twice hA.2.1 hE hA.1) ⟨_, rfl, rfl⟩
        · exact go_on (hs.num hA.2.1 hE hA.1) (.inl ⟨rfl, rfl⟩) h1 h2 h3 (by simp [upd, lk_cons, lk_nil, q0]) (by simp [upd, lk_cons, lk_nil, q2]) (by simp [upd, lk_cons, lk_nil, IE.eval, IE.reval, IE.aeval, hfn, q0, q3, hE, FNt_84, vInt_int]) (by simp [upd, lk_cons, lk_nil, IE.eval, IE.reval, IE.aeval, hfn, q0, q3, hout, hE, FNt_83, FNt_109]) (by simp [upd, lk_cons, lk_nil, IE.eval, q5, vInt_int]) (.inr (by rw [q5, List.length_append]; simp; omega)) (.inr (by omega))
      · simp only [allLeaves, AsOk_cons, AsOk_nil, BE.eval, cmpI, IE.eval, IE.reval, IE.aeval, hfn, q0, q2, q3, q5, hE, if_false, FNt_83, FNt_85, List.headD_cons, Nat.div_one, and_true, true_and, decide_eq_true_eq, decide_eq_false_iff_not, not_true_eq_false, not_false_eq_true, false_and, and_false, false_imp_iff]
        refine ⟨fun hA => ?_, fun hA => hend (hs.done hA.1)⟩
        · exact ret_code (hs.code hA.1 hE) ⟨_, rfl, by simp only [IE.eval, IE.reval, IE.aeval, hfn, q0, q3, FNt_85, List.headD_cons]⟩
  · have no11 : a < 0 ∨ (b.length : Int) < a ∨ n < 0 ∨ 1048576 < n → getM b a n = ([], 0, 11) := fun h => by rw [getM, if_pos h]
    simp only [allLeaves, AsOk_cons, AsOk_nil, BE.eval, cmpI, IE.eval, IE.reval, hb, hav, hnv, Nat.div_one, and_true, decide_eq_true_eq, decide_eq_false_iff_not]
    refine ⟨fun hA => ret_code (no11 (.inl hA.1)) ⟨_, rfl, rfl⟩, fun hA => ret_code (no11 (.inr (.inl hA.1))) ⟨_, rfl, rfl⟩, fun hA => ret_code (no11 (.inr (.inr (.inl hA.1)))) ⟨_, rfl, rfl⟩, fun hA => ret_code (no11 (.inr (.inr (.inr hA.1)))) ⟨_, rfl, rfl⟩, fun hA => ?_⟩
    refine stepG_cut0 ⟨b, a, n, a, rfl, hlen, by omega, by omega, ?_, ?_, ?_, .inl ⟨rfl, Stands.start (by omega) (by omega) (by omega) (by omega)⟩⟩
    · simp [upd, lk_nil, hb]
    · simp [upd, lk_cons, lk_nil, hnv]
    · simp [upd, lk_cons, lk_nil, IE.eval, hav, vInt_int]

end Go.Proofs.Ytkfejcffacbngaa.J


namespace Go.Proofs.Ytkfejcffacbngaa.J

open Go Go.Sym

set_option linter.unusedVariables false

def g110 : List (List Int) → List Int
  | [a, b] => [if a = b then 1 else 0]
  | _ => []

def FNu : Nat → List (List Int) → List Int
  | 110, l => g110 l
  | i, l => FNt i l

theorem FNu_110 (a b : List Int) : FNu 110 [a, b] = [if a = b then 1 else 0] := rfl

def pcSame : Pc := ⟨24, [.sl [.i64], .sl [.i64]], [.bool], 110, [(0, 0, 1099511627776)], []⟩

abbrev cutE : Cuts := [([0, 1, 0, 1, 1], ⟨26, [(0, .rsl (.ro 0 [.i64]) (.lit 0) (.rlen (.rvar 0) 1) 1), (1, .rsl (.ro 1 [.i64]) (.lit 0) (.rlen (.rvar 1) 1) 1), (4, .bool false), (5, .sint .i64 (.var 2))], [], 0, [(nonneg (.var 2), true), (.cmp .eql (.rlen (.rvar 0) 1) (.rlen (.rvar 1) 1), true)]⟩)]

theorem same_entry : entryK Try.prog [] 50 200 24 cutE 2 (argSVs 0 pcSame.aks) 10 [] = some [([(.cmp .eql (.rlen (.rvar 0) 1) (.rlen (.rvar 1) 1), true)], .cut 0 ⟨[(2, .lit 0)], [], [], []⟩), ([(.cmp .eql (.rlen (.rvar 0) 1) (.rlen (.rvar 1) 1), false)], .ret (.bool false) ⟨0, .nil⟩)] := by kernel_rfl

theorem same_rounds : roundsK Try.prog [] 50 200 24 cutE 2 10 cutE = some [[([(.cmp .eql (.sel (.rvar 0) (.var 2) 1 0) (.sel (.rvar 1) (.var 2) 1 0), true), (.cmp .lss (.var 2) (.rlen (.rvar 0) 1), true), (.not (.cmp .lss (.var 2) (.lit 0)), true), (.cmp .eql (.rlen (.rvar 0) 1) (.rlen (.rvar 1) 1), true)], .cut 0 ⟨[(2, .bin .add .i64 (.var 2) (.lit 1))], [], [], []⟩), ([(.cmp .eql (.sel (.rvar 0) (.var 2) 1 0) (.sel (.rvar 1) (.var 2) 1 0), false), (.cmp .lss (.var 2) (.rlen (.rvar 0) 1), true), (.not (.cmp .lss (.var 2) (.lit 0)), true), (.cmp .eql (.rlen (.rvar 0) 1) (.rlen (.rvar 1) 1), true)], .ret (.bool false) ⟨0, .nil⟩), ([(.cmp .lss (.var 2) (.rlen (.rvar 0) 1), false), (.not (.cmp .lss (.var 2) (.lit 0)), true), (.cmp .eql (.rlen (.rvar 0) 1) (.rlen (.rvar 1) 1), true)], .ret (.bool true) ⟨0, .nil⟩)]] := by kernel_rfl

def invE (ls : List (List Int)) (i : Nat) (env : Env) : Prop := i = 0 ∧ ∃ a b, ls = [a, b] ∧ (a.length : Int) ≤ 1099511627776 ∧ env.row 0 = a ∧ env.row 1 = b ∧ a.length = b.length ∧ ∃ n : Nat, vInt (env.val 2) = n ∧ n ≤ a.length ∧ a.take n = b.take n

theorem take_eqs {a b : List Int} {n : Nat} (h : a.take n = b.take n) (ha : n < a.length) (hb : n < b.length) (he : at0 a n = at0 b n) : a.take (n + 1) = b.take (n + 1) := by
  rw [List.take_add_one, List.take_add_one, h]
  simp [at0, ha, hb] at he
  simp [ha, hb, he]

theorem same_ok : PcOk Try.prog FNu pcSame := by
  refine pc_floyd (base := 2) (cs := cutE) mix pcSame (fun _ _ => knOk_nil) (by decide) same_rounds same_entry invE (fun ls _ env => (0, (ls.headD []).length - (vInt (env.val 2)).toNat)) (fun ls i env h => by have := h.1; simp; omega) ?_
  intro ls e0 hf hargs hrng hpre
  simp only [pcSame, ArgsE, ArgE] at hargs
  obtain ⟨a, _, rfl, ⟨ha0, _⟩, b, _, rfl, ⟨hb0, _⟩, rfl⟩ := hargs
  have hla := (hrng.1 (.sl [.i64]) a rfl rfl).2
  simp only [measL, List.length_singleton, Nat.div_one, Nat.zero_add] at hla hb0
  refine ⟨fun env hfn => ⟨⟨?_, trivial⟩, ⟨?_, trivial⟩⟩, ?_⟩
  · rintro ⟨_, a', b', hl, h1, h0, h0', h2, n, h3, h4, h5⟩
    simp only [AsOk_cons, AsOk_nil, nonneg, BE.eval, cmpI, IE.eval, IE.reval, h0, h0', h3, Nat.div_one]
    simp; omega
  · rintro ⟨_, a', b', hl, h1, h0, h0', h2, n, h3, h4, h5⟩
    simp only [List.cons.injEq, and_true] at hl
    obtain ⟨rfl, rfl⟩ := hl
    have e1 : binI .add .i64 (n : Int) 1 = ((n + 1 : Nat) : Int) := by simp only [binI]; rw [wrap_i64 (by omega)]; omega
    simp only [allLeaves, AsOk_cons, AsOk_nil, BE.eval, cmpI, IE.eval, IE.reval, h0, h0', h3, sel_at0, Nat.div_one, and_true, decide_eq_true_eq, decide_eq_false_iff_not]
    refine ⟨fun hA => ?_, fun hA => ?_, fun hA => ?_⟩
    · refine stepG_cut ⟨rfl, a, b, rfl, h1, ?_, ?_, h2, n + 1, ?_, by omega, take_eqs h5 (by omega) (by omega) hA.1⟩ (Prod.lex_def.2 (.inr ⟨rfl, ?_⟩))
      · simp [upd, lk_nil, h0]
      · simp [upd, lk_nil, h0']
      · simp [upd, lk_cons, lk_nil, IE.eval, h3, e1, vInt_int]
      · simp [upd, lk_cons, lk_nil, IE.eval, h3, e1, vInt_int]; omega
    · have hne : ¬ a = b := fun e => hA.1 (by rw [e])
      refine ⟨[_], rfl, ?_, rfl⟩
      simp only [pcSame, FNu_110, if_neg hne, List.headD_cons]; rfl
    · obtain rfl : n = a.length := by omega
      have he : a = b := by
        rw [List.take_length, h2, List.take_length] at h5; exact h5
      refine ⟨[_], rfl, ?_, rfl⟩
      simp only [pcSame, FNu_110, if_pos he, List.headD_cons]; rfl
  · simp only [allLeaves, AsOk_cons, AsOk_nil, BE.eval, cmpI, IE.eval, IE.reval, ha0, hb0, Nat.div_one, and_true, decide_eq_true_eq, decide_eq_false_iff_not]
    refine ⟨fun hA => ?_, fun hA => ?_⟩
    · refine stepG_cut0 ⟨rfl, a, b, rfl, by omega, ?_, ?_, by omega, 0, ?_, by omega, by simp⟩
      · simp [upd, lk_nil, ha0]
      · simp [upd, lk_nil, hb0]
      · simp [upd, lk_cons, lk_nil, IE.eval, vInt_int]
    · have hne : ¬ a = b := fun e => hA (by rw [e])
      refine ⟨[_], rfl, ?_, rfl⟩
      simp only [pcSame, FNu_110, if_neg hne, List.headD_cons]; rfl

end Go.Proofs.Ytkfejcffacbngaa.J

namespace Go.Proofs.Ytkfejcffacbngaa.J

open Go Go.Sym

set_option linter.unusedVariables false

theorem and127_all : ((List.range 256).all fun x => decide (binI .and .u8 (x : Int) 127 = (x : Int) % 128)) = true := by kernel_rfl

theorem and127 {v : Int} (h : 0 ≤ v ∧ v < 256) : binI .and .u8 v 127 = v % 128 := by
  have h := List.all_eq_true.1 and127_all v.toNat (List.mem_range.2 (by omega))
  have h := of_decide_eq_true h
  rwa [show ((v.toNat : Nat) : Int) = v by omega] at h

theorem or_step {p q k : Nat} (hk : k ≤ 9) (hp : p < 2 ^ (7 * k)) (hq : q < 128) (hf : 2 ^ (7 * k) * q + p < 18446744073709551616) : binI .or .u64 (p : Int) (binI .shl .u64 (q : Int) (binI .mul .i64 7 (k : Int))) = ((2 ^ (7 * k) * q + p : Nat) : Int) := by
  have e8 : binI .mul .i64 7 (k : Int) = ((7 * k : Nat) : Int) := by
    have : IntKind.i64.wrap (7 * (k : Int)) = 7 * k := wrap_i64 (by omega)
    simp only [binI, this]; omega
  have hpk : 0 < (2 : Nat) ^ (7 * k) := Nat.pow_pos (by omega)
  have em : min (((7 * k : Nat) : Int)).toNat (IntKind.u64).bits = 7 * k := by simp [IntKind.bits]; omega
  have es : binI .shl .u64 (q : Int) ((7 * k : Nat) : Int) = ((2 ^ (7 * k) * q : Nat) : Int) := by
    simp only [binI, em]
    have : (q : Int) * 2 ^ (7 * k) = ((2 ^ (7 * k) * q : Nat) : Int) := by
      rw [Int.natCast_mul, Int.natCast_pow, Int.mul_comm]; rfl
    rw [this]
    exact wrap_u64 (by omega)
  rw [e8, es]
  simp only [binI]
  have hb : (IntKind.u64).bits = 64 := rfl
  rw [hb]
  have o1 : BitVec.ofInt 64 (p : Int) = BitVec.ofNat 64 p := by simp
  have o2 : BitVec.ofInt 64 ((2 ^ (7 * k) * q : Nat) : Int) = BitVec.ofNat 64 (2 ^ (7 * k) * q) := by rw [BitVec.ofInt_natCast]
  rw [o1, o2, BitVec.toNat_or, BitVec.toNat_ofNat, BitVec.toNat_ofNat, Nat.mod_eq_of_lt (by omega), Nat.mod_eq_of_lt (by omega), Nat.or_comm, ← Nat.two_pow_add_eq_or_of_lt hp q]
  exact wrap_u64 (by omega)

theorem repL_rep (n : Nat) : repL (n : Int) [0] = List.replicate n 0 := by
  simp only [repL, Int.toNat_natCast]
  induction n with
  | zero => rfl
  | succ q ih => rw [List.replicate_succ, List.flatten_cons, ih, List.replicate_succ]; rfl

theorem cast_add (a b : Nat) : (a : Int) + (b : Int) = ((a + b : Nat) : Int) := by omega

end Go.Proofs.Ytkfejcffacbngaa.J


namespace Go.Proofs.Ytkfejcffacbngaa.J

open Go Go.Sym

set_option linter.unusedVariables false

abbrev l0 : IE := .rlen (.rvar 0) 1
abbrev l1 : IE := .rlen (.rvar 1) 1
abbrev l2 : IE := .rlen (.rvar 2) 1
end Go.Proofs.Ytkfejcffacbngaa.J

namespace Go.Proofs.Ytkfejcffacbngaa.J

open Go Go.Sym

set_option linter.unusedVariables false

theorem t_u {c : Pc} (h : PcOk Try.prog FNt c) (h1 : ∀ i, i < c.rks.length → c.id + i ≤ 109) (h2 : c.pre = []) : PcOk Try.prog FNu c := by
  refine h.cong (fun i hi => ?_) (fun i hi => by rw [h2] at hi; cases hi)
  have := h1 i hi
  generalize c.id + i = j at this
  funext l
  unfold FNu
  split <;> first | omega | rfl

theorem r_u {c : Pc} (h : PcOk Try.prog FNr c) (h1 : ∀ i, i < c.rks.length → 102 ≤ c.id + i ∧ c.id + i ≤ 104) (h2 : c.pre = []) : PcOk Try.prog FNu c :=
  t_u (s_t (r_s h (fun i hi => by have := h1 i hi; omega) h2) (fun i hi => by have := h1 i hi; omega) h2) (fun i hi => by have := h1 i hi; omega) h2

theorem runsL_len : ∀ (m : Nat) (zs : List Int), zs.length ≤ m → (runsL zs).length ≤ zs.length := by
  intro m
  induction m with
  | zero =>
    intro zs h
    obtain rfl : zs = [] := List.eq_nil_of_length_eq_zero (by omega)
    simp [runsL, runsF]
  | succ m ih =>
    intro zs h
    cases zs with
    | nil => simp [runsL, runsF]
    | cons x l =>
      have h1 := rl_pos (x := x) (l := l)
      have h2 := rl_le (x :: l)
      have := ih ((x :: l).drop (rl (x :: l))) (by simp at h ⊢; omega)
      rw [runsL_cons, List.length_cons]
      rw [List.length_drop] at this
      omega

end Go.Proofs.Ytkfejcffacbngaa.J


namespace Go.Proofs.Ytkfejcffacbngaa.J

open Go Go.Sym

set_option linter.unusedVariables false

def bytes8 (b : List Int) : Prop := ∀ x ∈ b, 0 ≤ x ∧ x ≤ 255

open Classical in
noncomputable def g111 : List (List Int) → List Int
  | [b, _] => [if bytes8 b then 1 else 0]
  | [b, _, _] => [if bytes8 b then 1 else 0]
  | _ => []

noncomputable def FNv : Nat → List (List Int) → List Int
  | 111, l => g111 l
  | i, l => FNu i l

theorem FNv_83 (b : List Int) (a : Int) : FNv 83 [b, [a]] = [if (lebR b a).1 = 0 then lebU b a (lebR b a).2 else 0] := rfl
theorem FNv_84 (b : List Int) (a : Int) : FNv 84 [b, [a]] = [if (lebR b a).1 = 0 then a + (lebR b a).2 else 0] := rfl
theorem FNv_85 (b : List Int) (a : Int) : FNv 85 [b, [a]] = [(lebR b a).1] := rfl
theorem FNv_111 {b l : List Int} (h : bytes8 b) : FNv 111 [b, l] = [1] := by show [_] = _; rw [if_pos h]
theorem FNv_111' {b l m : List Int} (h : bytes8 b) : FNv 111 [b, l, m] = [1] := by show [_] = _; rw [if_pos h]
theorem bytes8_of {b l : List Int} (h : (FNv 111 [b, l]).headD 0 = 1) : bytes8 b := by
  by_cases hb : bytes8 b
  · exact hb
  · exfalso
    have : FNv 111 [b, l] = [0] := by show [_] = _; rw [if_neg hb]
    rw [this] at h; simp at h
theorem bytes8_of' {b l m : List Int} (h : (FNv 111 [b, l, m]).headD 0 = 1) : bytes8 b := by
  by_cases hb : bytes8 b
  · exact hb
  · exfalso
    have : FNv 111 [b, l, m] = [0] := by show [_] = _; rw [if_neg hb]
    rw [this] at h; simp at h

def pcLebGR : Pc := ⟨83, [.sl [.u8], .int .i64], [.int .u64, .int .i64, .int .i64], 83, [(0, 0, 4294967296)], [111]⟩

abbrev apk : IE := .bin .add .i64 (.var 1) (.var 4)
abbrev cutD : Cuts := [([0, 1, 0, 1, 1, 1, 1], ⟨65, [(0, .rsl (.ro 0 [.u8]) (.lit 0) lB 1), (1, .sint .i64 (.var 1)), (4, .int .u64 0), (5, .int .i64 0), (6, .int .i64 0), (7, .sint .u64 (.var 2)), (8, .sint .u64 (.var 3)), (9, .sint .i64 (.var 4))], [], 0, [(atmB lB (.lit 4294967296), true), ltR (.var 1) (.lit 0) false, ltR lB (.var 1) false, (nonneg (.var 4), true), (atmB (.var 4) (.lit 9), true), ltR apk (.lit 0) false]⟩)]

theorem lebGR_entry : entryK Try.prog [] 50 200 83 cutD 2 (argSVs 0 pcLebGR.aks) 20 [(atmB lB (.lit 4294967296), true)] = some [([(.cmp .lss (.var 1) (.lit 0), true), (.not (.cmp .lss (.lit 4294967296) (.rlen (.rvar 0) 1)), true)], .ret (.tuple [.int .u64 0, .int .i64 0, .int .i64 11]) ⟨0, .nil⟩), ([(.cmp .lss (.rlen (.rvar 0) 1) (.var 1), true), (.cmp .lss (.var 1) (.lit 0), false), (.not (.cmp .lss (.lit 4294967296) (.rlen (.rvar 0) 1)), true)], .ret (.tuple [.int .u64 0, .int .i64 0, .int .i64 11]) ⟨0, .nil⟩), ([(.cmp .lss (.rlen (.rvar 0) 1) (.var 1), false), (.cmp .lss (.var 1) (.lit 0), false), (.not (.cmp .lss (.lit 4294967296) (.rlen (.rvar 0) 1)), true)], .cut 0 ⟨[(4, .lit 0), (3, .lit 1), (2, .lit 0)], [], [], []⟩)] := by kernel_rfl

theorem lebGR_rounds : roundsK Try.prog [] 50 200 83 cutD 2 20 cutD = some [[([(.cmp .lss (.lit 1) (.sel (.rvar 0) (.bin .add .i64 (.var 1) (.var 4)) 1 0), true), (.cmp .eql (.var 4) (.lit 9), true), (.cmp .lss (.bin .add .i64 (.var 1) (.var 4)) (.rlen (.rvar 0) 1), true), (.cmp .lss (.var 4) (.bin .sub .i64 (.rlen (.rvar 0) 1) (.var 1)), true), (.not (.cmp .lss (.lit 4294967296) (.rlen (.rvar 0) 1)), true), (.cmp .lss (.var 1) (.lit 0), false), (.cmp .lss (.rlen (.rvar 0) 1) (.var 1), false), (.not (.cmp .lss (.var 4) (.lit 0)), true), (.not (.cmp .lss (.lit 9) (.var 4)), true), (.cmp .lss (.bin .add .i64 (.var 1) (.var 4)) (.lit 0), false)], .ret (.tuple [.int .u64 0, .int .i64 0, .int .i64 13]) ⟨0, .nil⟩), ([(.cmp .eql (.sel (.rvar 0) (.bin .add .i64 (.var 1) (.var 4)) 1 0) (.lit 0), true), (.cmp .lss (.lit 1) (.sel (.rvar 0) (.bin .add .i64 (.var 1) (.var 4)) 1 0), false), (.cmp .eql (.var 4) (.lit 9), true), (.cmp .lss (.bin .add .i64 (.var 1) (.var 4)) (.rlen (.rvar 0) 1), true), (.cmp .lss (.var 4) (.bin .sub .i64 (.rlen (.rvar 0) 1) (.var 1)), true), (.not (.cmp .lss (.lit 4294967296) (.rlen (.rvar 0) 1)), true), (.cmp .lss (.var 1) (.lit 0), false), (.cmp .lss (.rlen (.rvar 0) 1) (.var 1), false), (.not (.cmp .lss (.var 4) (.lit 0)), true), (.not (.cmp .lss (.lit 9) (.var 4)), true), (.cmp .lss (.bin .add .i64 (.var 1) (.var 4)) (.lit 0), false)], .ret (.tuple [.int .u64 0, .int .i64 0, .int .i64 13]) ⟨0, .nil⟩), ([(.cmp .eql (.sel (.rvar 0) (.bin .add .i64 (.var 1) (.var 4)) 1 0) (.lit 0), false), (.cmp .lss (.lit 1) (.sel (.rvar 0) (.bin .add .i64 (.var 1) (.var 4)) 1 0), false), (.cmp .eql (.var 4) (.lit 9), true), (.cmp .lss (.bin .add .i64 (.var 1) (.var 4)) (.rlen (.rvar 0) 1), true), (.cmp .lss (.var 4) (.bin .sub .i64 (.rlen (.rvar 0) 1) (.var 1)), true), (.not (.cmp .lss (.lit 4294967296) (.rlen (.rvar 0) 1)), true), (.cmp .lss (.var 1) (.lit 0), false), (.cmp .lss (.rlen (.rvar 0) 1) (.var 1), false), (.not (.cmp .lss (.var 4) (.lit 0)), true), (.not (.cmp .lss (.lit 9) (.var 4)), true), (.cmp .lss (.bin .add .i64 (.var 1) (.var 4)) (.lit 0), false)], .ret (.tuple [.sint .u64 (.bin .add .u64 (.var 2) (.bin .mul .u64 (.wrap .u64 (.bin .rem .u8 (.sel (.rvar 0) (.bin .add .i64 (.var 1) (.var 4)) 1 0) (.lit 128))) (.var 3))), .sint .i64 (.bin .add .i64 (.bin .add .i64 (.var 1) (.var 4)) (.lit 1)), .int .i64 0]) ⟨0, .nil⟩), ([(.cmp .eql (.sel (.rvar 0) (.bin .add .i64 (.var 1) (.var 4)) 1 0) (.lit 0), true), (.cmp .lss (.lit 0) (.var 4), true), (.cmp .eql (.var 4) (.lit 9), false), (.cmp .lss (.bin .add .i64 (.var 1) (.var 4)) (.rlen (.rvar 0) 1), true), (.cmp .lss (.var 4) (.bin .sub .i64 (.rlen (.rvar 0) 1) (.var 1)), true), (.not (.cmp .lss (.lit 4294967296) (.rlen (.rvar 0) 1)), true), (.cmp .lss (.var 1) (.lit 0), false), (.cmp .lss (.rlen (.rvar 0) 1) (.var 1), false), (.not (.cmp .lss (.var 4) (.lit 0)), true), (.not (.cmp .lss (.lit 9) (.var 4)), true), (.cmp .lss (.bin .add .i64 (.var 1) (.var 4)) (.lit 0), false)], .ret (.tuple [.int .u64 0, .int .i64 0, .int .i64 13]) ⟨0, .nil⟩), ([(.cmp .lss (.sel (.rvar 0) (.bin .add .i64 (.var 1) (.var 4)) 1 0) (.lit 128), true), (.cmp .eql (.sel (.rvar 0) (.bin .add .i64 (.var 1) (.var 4)) 1 0) (.lit 0), false), (.cmp .lss (.lit 0) (.var 4), true), (.cmp .eql (.var 4) (.lit 9), false), (.cmp .lss (.bin .add .i64 (.var 1) (.var 4)) (.rlen (.rvar 0) 1), true), (.cmp .lss (.var 4) (.bin .sub .i64 (.rlen (.rvar 0) 1) (.var 1)), true), (.not (.cmp .lss (.lit 4294967296) (.rlen (.rvar 0) 1)), true), (.cmp .lss (.var 1) (.lit 0), false), (.cmp .lss (.rlen (.rvar 0) 1) (.var 1), false), (.not (.cmp .lss (.var 4) (.lit 0)), true), (.not (.cmp .lss (.lit 9) (.var 4)), true), (.cmp .lss (.bin .add .i64 (.var 1) (.var 4)) (.lit 0), false)], .ret (.tuple [.sint .u64 (.bin .add .u64 (.var 2) (.bin .mul .u64 (.wrap .u64 (.bin .rem .u8 (.sel (.rvar 0) (.bin .add .i64 (.var 1) (.var 4)) 1 0) (.lit 128))) (.var 3))), .sint .i64 (.bin .add .i64 (.bin .add .i64 (.var 1) (.var 4)) (.lit 1)), .int .i64 0]) ⟨0, .nil⟩), ([(.cmp .lss (.sel (.rvar 0) (.bin .add .i64 (.var 1) (.var 4)) 1 0) (.lit 128), false), (.cmp .eql (.sel (.rvar 0) (.bin .add .i64 (.var 1) (.var 4)) 1 0) (.lit 0), false), (.cmp .lss (.lit 0) (.var 4), true), (.cmp .eql (.var 4) (.lit 9), false), (.cmp .lss (.bin .add .i64 (.var 1) (.var 4)) (.rlen (.rvar 0) 1), true), (.cmp .lss (.var 4) (.bin .sub .i64 (.rlen (.rvar 0) 1) (.var 1)), true), (.not (.cmp .lss (.lit 4294967296) (.rlen (.rvar 0) 1)), true), (.cmp .lss (.var 1) (.lit 0), false), (.cmp .lss (.rlen (.rvar 0) 1) (.var 1), false), (.not (.cmp .lss (.var 4) (.lit 0)), true), (.not (.cmp .lss (.lit 9) (.var 4)), true), (.cmp .lss (.bin .add .i64 (.var 1) (.var 4)) (.lit 0), false)], .cut 0 ⟨[(4, .bin .add .i64 (.var 4) (.lit 1)), (3, .bin .mul .u64 (.var 3) (.lit 128)), (2, .bin .add .u64 (.var 2) (.bin .mul .u64 (.wrap .u64 (.bin .rem .u8 (.sel (.rvar 0) (.bin .add .i64 (.var 1) (.var 4)) 1 0) (.lit 128))) (.var 3)))], [], [], []⟩), ([(.cmp .lss (.sel (.rvar 0) (.bin .add .i64 (.var 1) (.var 4)) 1 0) (.lit 128), true), (.cmp .lss (.lit 0) (.var 4), false), (.cmp .eql (.var 4) (.lit 9), false), (.cmp .lss (.bin .add .i64 (.var 1) (.var 4)) (.rlen (.rvar 0) 1), true), (.cmp .lss (.var 4) (.bin .sub .i64 (.rlen (.rvar 0) 1) (.var 1)), true), (.not (.cmp .lss (.lit 4294967296) (.rlen (.rvar 0) 1)), true), (.cmp .lss (.var 1) (.lit 0), false), (.cmp .lss (.rlen (.rvar 0) 1) (.var 1), false), (.not (.cmp .lss (.var 4) (.lit 0)), true), (.not (.cmp .lss (.lit 9) (.var 4)), true), (.cmp .lss (.bin .add .i64 (.var 1) (.var 4)) (.lit 0), false)], .ret (.tuple [.sint .u64 (.bin .add .u64 (.var 2) (.bin .mul .u64 (.wrap .u64 (.bin .rem .u8 (.sel (.rvar 0) (.bin .add .i64 (.var 1) (.var 4)) 1 0) (.lit 128))) (.var 3))), .sint .i64 (.bin .add .i64 (.bin .add .i64 (.var 1) (.var 4)) (.lit 1)), .int .i64 0]) ⟨0, .nil⟩), ([(.cmp .lss (.sel (.rvar 0) (.bin .add .i64 (.var 1) (.var 4)) 1 0) (.lit 128), false), (.cmp .lss (.lit 0) (.var 4), false), (.cmp .eql (.var 4) (.lit 9), false), (.cmp .lss (.bin .add .i64 (.var 1) (.var 4)) (.rlen (.rvar 0) 1), true), (.cmp .lss (.var 4) (.bin .sub .i64 (.rlen (.rvar 0) 1) (.var 1)), true), (.not (.cmp .lss (.lit 4294967296) (.rlen (.rvar 0) 1)), true), (.cmp .lss (.var 1) (.lit 0), false), (.cmp .lss (.rlen (.rvar 0) 1) (.var 1), false), (.not (.cmp .lss (.var 4) (.lit 0)), true), (.not (.cmp .lss (.lit 9) (.var 4)), true), (.cmp .lss (.bin .add .i64 (.var 1) (.var 4)) (.lit 0), false)], .cut 0 ⟨[(4, .bin .add .i64 (.var 4) (.lit 1)), (3, .bin .mul .u64 (.var 3) (.lit 128)), (2, .bin .add .u64 (.var 2) (.bin .mul .u64 (.wrap .u64 (.bin .rem .u8 (.sel (.rvar 0) (.bin .add .i64 (.var 1) (.var 4)) 1 0) (.lit 128))) (.var 3)))], [], [], []⟩), ([(.cmp .lss (.bin .add .i64 (.var 1) (.var 4)) (.rlen (.rvar 0) 1), false), (.cmp .lss (.var 4) (.bin .sub .i64 (.rlen (.rvar 0) 1) (.var 1)), true), (.not (.cmp .lss (.lit 4294967296) (.rlen (.rvar 0) 1)), true), (.cmp .lss (.var 1) (.lit 0), false), (.cmp .lss (.rlen (.rvar 0) 1) (.var 1), false), (.not (.cmp .lss (.var 4) (.lit 0)), true), (.not (.cmp .lss (.lit 9) (.var 4)), true), (.cmp .lss (.bin .add .i64 (.var 1) (.var 4)) (.lit 0), false)], .bad), ([(.cmp .lss (.var 4) (.bin .sub .i64 (.rlen (.rvar 0) 1) (.var 1)), false), (.not (.cmp .lss (.lit 4294967296) (.rlen (.rvar 0) 1)), true), (.cmp .lss (.var 1) (.lit 0), false), (.cmp .lss (.rlen (.rvar 0) 1) (.var 1), false), (.not (.cmp .lss (.var 4) (.lit 0)), true), (.not (.cmp .lss (.lit 9) (.var 4)), true), (.cmp .lss (.bin .add .i64 (.var 1) (.var 4)) (.lit 0), false)], .ret (.tuple [.int .u64 0, .int .i64 0, .int .i64 14]) ⟨0, .nil⟩)]] := by kernel_rfl

end Go.Proofs.Ytkfejcffacbngaa.J


namespace Go.Proofs.Ytkfejcffacbngaa.J

open Go Go.Sym

set_option linter.unusedVariables false

def invD (ls : List (List Int)) (c : Nat) (env : Env) : Prop := c = 0 ∧ ∃ b a, ls = [b, [a]] ∧ 0 ≤ a ∧ a ≤ (b.length : Int) ∧ (b.length : Int) ≤ 4294967296 ∧ env.row 0 = b ∧ vInt (env.val 1) = a ∧ ∃ k q : Nat, vInt (env.val 4) = k ∧ k ≤ 9 ∧ vInt (env.val 2) = q ∧ lebU b a k = q ∧ q < 2 ^ (7 * k) ∧ vInt (env.val 3) = ((2 ^ (7 * k) : Nat) : Int) ∧ lebC b a 10 0 = lebC b a (10 - k) k

theorem sel_byte {b : List Int} (hB : bytes8 b) {a : Int} {k : Nat} (h0 : 0 ≤ a) (h1 : a + k < b.length) : ∃ c : Nat, selL b (a + k) 1 0 = c ∧ c ≤ 255 := by
  have hlt : (a + k).toNat < b.length := by omega
  have e : selL b (a + k) 1 0 = b[(a + k).toNat] := by simp [selL, hlt]
  have := hB _ (List.getElem_mem hlt)
  exact ⟨(b[(a + k).toNat]).toNat, by rw [e]; omega, by omega⟩

/-- a byte more, by shifts and by sums -/
theorem more_bits {b : List Int} {a : Int} {k q c : Nat} (hk : k ≤ 9) (hq : lebU b a k = q) (hl : q < 2 ^ (7 * k)) (hc : selL b (a + k) 1 0 = c) (hc2 : c ≤ 255) (h9 : k = 9 → c ≤ 1) :
    lebU b a (k + 1) = ((2 ^ (7 * k) * (c % 128) + q : Nat) : Int) ∧ binI .add .u64 (q : Int) (binI .mul .u64 (IntKind.u64.wrap (binI .rem .u8 (c : Int) 128)) ((2 ^ (7 * k) : Nat) : Int)) = ((2 ^ (7 * k) * (c % 128) + q : Nat) : Int) ∧ 2 ^ (7 * k) * (c % 128) + q < 2 ^ (7 * (k + 1)) := by
  have hpk : 0 < (2 : Nat) ^ (7 * k) := Nat.pow_pos (by omega)
  have e7 : (2 : Nat) ^ (7 * (k + 1)) = 2 ^ (7 * k) * 128 := by rw [show 7 * (k + 1) = 7 * k + 7 by omega, Nat.pow_add]
  have hlt : 2 ^ (7 * k) * (c % 128) + q < 2 ^ (7 * (k + 1)) := by
    rw [e7]
    have : 2 ^ (7 * k) * (c % 128 + 1) ≤ 2 ^ (7 * k) * 128 := Nat.mul_le_mul_left _ (by omega)
    rw [Nat.mul_add] at this
    omega
  have hfit : 2 ^ (7 * k) * (c % 128) + q < 18446744073709551616 := by
    by_cases hk9 : k = 9
    · have := h9 hk9
      subst hk9
      have h63 : (2 : Nat) ^ (7 * 9) = 9223372036854775808 := by decide
      rw [h63] at hl ⊢
      have : c % 128 ≤ 1 := by omega
      omega
    · have : (2 : Nat) ^ (7 * (k + 1)) ≤ 2 ^ 63 := Nat.pow_le_pow_right (by omega) (by omega)
      omega
  have hU := or_step (p := q) (q := c % 128) (k := k) hk hl (Nat.mod_lt _ (by decide)) hfit
  refine ⟨?_, ?_, hlt⟩
  · rw [lebU, hq, hc, and127 (by omega), show ((c : Int) % 128) = ((c % 128 : Nat) : Int) by omega, show IntKind.u64.wrap ((c % 128 : Nat) : Int) = ((c % 128 : Nat) : Int) from wrap_u64 (by omega), hU]
  · have hrem : binI .rem .u8 (c : Int) 128 = ((c % 128 : Nat) : Int) := by
      show (c : Int).tmod 128 = _
      rw [Int.tmod_eq_emod_of_nonneg (by omega)]; omega
    have hmul : binI .mul .u64 ((c % 128 : Nat) : Int) ((2 ^ (7 * k) : Nat) : Int) = ((2 ^ (7 * k) * (c % 128) : Nat) : Int) := by
      show IntKind.u64.wrap (((c % 128 : Nat) : Int) * ((2 ^ (7 * k) : Nat) : Int)) = _
      rw [← Int.natCast_mul, Nat.mul_comm]
      exact wrap_u64 (by omega)
    rw [hrem, show IntKind.u64.wrap ((c % 128 : Nat) : Int) = ((c % 128 : Nat) : Int) from wrap_u64 (by omega), hmul]
    show IntKind.u64.wrap ((q : Int) + ((2 ^ (7 * k) * (c % 128) : Nat) : Int)) = _
    rw [wrap_u64 (by omega)]; omega

set_option maxHeartbeats 1000000 in
theorem lebGR_ok : PcOk Try.prog FNv pcLebGR := by
  refine pc_floyd_as (cs := cutD) (base := 2) mix pcLebGR (fun _ _ => knOk_nil) (Nat.le_refl 2) lebGR_rounds lebGR_entry invD (fun ls _ env => (0, (50 - vInt (env.val 4)).toNat)) (fun ls i env h => by have := h.1; simp; omega) ?_
  intro ls e0 hf hargs hrng hpre
  simp only [pcLebGR, ArgsE, ArgE] at hargs
  obtain ⟨b, _, rfl, ⟨hb, _⟩, a', _, rfl, ha, rfl⟩ := hargs
  have hlen := (hrng.1 (.sl [.u8]) b rfl rfl).2
  simp only [measL, List.length_singleton, Nat.div_one] at hlen
  have hB : bytes8 b := bytes8_of hpre.1
  obtain ⟨a, hav⟩ : ∃ z, vInt (e0.val 1) = z := ⟨_, rfl⟩
  simp only [Nat.zero_add, hav] at ha
  subst ha
  have ret : ∀ (env : Env) (code : Int) (o : Option (Nat × Nat)) (M : Mem), (lebR b a).1 = code → code ≠ 0 → StepG FNv [b, [a]] pcLebGR.id pcLebGR.rks (invD [b, [a]]) (fun _ env => (0, (50 - vInt (env.val 4)).toNat)) o env (.ret (.tuple [.int .u64 0, .int .i64 0, .int .i64 code]) M) := by
    intro env code o M h1 h2
    refine ⟨[_, _, _], rfl, ⟨_, rfl, ?_⟩, ⟨_, rfl, ?_⟩, ⟨_, rfl, ?_⟩, rfl⟩
    · simp only [IE.eval, pcLebGR, FNv_83, h1, if_neg h2, List.headD_cons]
    · simp only [IE.eval, pcLebGR, Nat.reduceAdd, FNv_84, h1, if_neg h2, List.headD_cons]
    · simp only [IE.eval, pcLebGR, Nat.reduceAdd, FNv_85, h1, List.headD_cons]
  refine ⟨?_, fun env hfn => ⟨⟨?_, trivial⟩, ⟨?_, trivial⟩⟩, ?_⟩
  · simp only [lB, atmB, AsOk_cons, AsOk_nil, BE.eval, cmpI, IE.eval, IE.reval, hb, Nat.div_one]
    simp; omega
  · rintro ⟨_, b', a', hl, h1, h2, h3, q0, q1, k, q, q4, h4, _⟩
    have e7 : binI .add .i64 a' (k : Int) = a' + k := wrap_i64 (by omega)
    simp only [lB, apk, ltR, nonneg, atmB, AsOk_cons, AsOk_nil, BE.eval, cmpI, IE.eval, IE.reval, q0, q1, q4, e7, Nat.div_one]
    simp; omega
  · rintro ⟨_, b', a', hl, h1, h2, h3, q0, q1, k, q, q4, h4, q2, hq, hql, q3, h6⟩
    simp only [List.cons.injEq, and_true] at hl
    obtain ⟨rfl, rfl⟩ := hl
    have hR : lebR b a = lebC b a (10 - k) k := by rw [lebR, if_pos ⟨h1, h2⟩, h6]
    have hat := lebC_at (b := b) (a := a) h4
    have ea : binI .add .i64 a (k : Int) = a + k := wrap_i64 (by omega)
    have es : binI .sub .i64 (b.length : Int) a = b.length - a := wrap_i64 (by omega)
    have e1 : binI .add .i64 (k : Int) 1 = ((k + 1 : Nat) : Int) := by simp only [binI]; rw [wrap_i64 (by omega)]; omega
    have e2 : binI .add .i64 (a + (k : Int)) 1 = a + ((k + 1 : Nat) : Int) := by simp only [binI]; rw [wrap_i64 (by omega)]; omega
    have e3 : binI .mul .u64 ((2 ^ (7 * k) : Nat) : Int) 128 = ((2 ^ (7 * (k + 1)) : Nat) : Int) ∨ k = 9 := by
      by_cases hk : k = 9
      · exact .inr hk
      · left
        have e7 : (2 : Nat) ^ (7 * (k + 1)) = 2 ^ (7 * k) * 128 := by rw [show 7 * (k + 1) = 7 * k + 7 by omega, Nat.pow_add]
        have h63 : (2 : Nat) ^ (7 * (k + 1)) ≤ 2 ^ 63 := Nat.pow_le_pow_right (by omega) (by omega)
        show IntKind.u64.wrap (((2 ^ (7 * k) : Nat) : Int) * 128) = _
        rw [e7] at h63 ⊢
        rw [show ((2 ^ (7 * k) : Nat) : Int) * 128 = ((2 ^ (7 * k) * 128 : Nat) : Int) by omega]
        exact wrap_u64 (by omega)
    by_cases hin : a + k < b.length
    · obtain ⟨c, hc, hc2⟩ := sel_byte hB h1 hin
      rw [hc] at hat
      have hmb := more_bits h4 hq hql hc hc2
      have good : ∀ (o : Option (Nat × Nat)) (M : Mem), (k = 9 → c ≤ 1) → lebC b a (10 - k) k = (0, k + 1) → StepG FNv [b, [a]] pcLebGR.id pcLebGR.rks (invD [b, [a]]) (fun _ env => (0, (50 - vInt (env.val 4)).toNat)) o env (.ret (.tuple [.sint .u64 (.bin .add .u64 (.var 2) (.bin .mul .u64 (.wrap .u64 (.bin .rem .u8 (.sel (.rvar 0) (.bin .add .i64 (.var 1) (.var 4)) 1 0) (.lit 128))) (.var 3))), .sint .i64 (.bin .add .i64 (.bin .add .i64 (.var 1) (.var 4)) (.lit 1)), .int .i64 0]) M) := by
        intro o M h9 h
        obtain ⟨m1, m2, m3⟩ := hmb h9
        rw [h] at hR
        refine ⟨[_, _, _], rfl, ⟨_, rfl, ?_⟩, ⟨_, rfl, ?_⟩, ⟨_, rfl, ?_⟩, rfl⟩
        · simp only [IE.eval, IE.reval, pcLebGR, FNv_83, hR, if_true, List.headD_cons, q0, q1, q2, q3, q4, ea, hc, m1, m2]
        · simp only [IE.eval, pcLebGR, Nat.reduceAdd, FNv_84, hR, if_true, List.headD_cons, q1, q4, ea, e2]
        · simp only [IE.eval, pcLebGR, Nat.reduceAdd, FNv_85, hR, List.headD_cons]
      have next : ∀ (m : Nat × Nat), m = (0, (50 - (k : Int)).toNat) → k ≠ 9 → lebC b a (10 - k) k = lebC b a (10 - (k + 1)) (k + 1) → StepG FNv [b, [a]] pcLebGR.id pcLebGR.rks (invD [b, [a]]) (fun _ env => (0, (50 - vInt (env.val 4)).toNat)) (some m) env (.cut 0 ⟨[(4, .bin .add .i64 (.var 4) (.lit 1)), (3, .bin .mul .u64 (.var 3) (.lit 128)), (2, .bin .add .u64 (.var 2) (.bin .mul .u64 (.wrap .u64 (.bin .rem .u8 (.sel (.rvar 0) (.bin .add .i64 (.var 1) (.var 4)) 1 0) (.lit 128))) (.var 3)))], [], [], []⟩) := by
        rintro m rfl h9 h
        obtain ⟨m1, m2, m3⟩ := hmb (fun h => absurd h h9)
        have e3 := e3.resolve_right h9
        refine stepG_cut ⟨rfl, b, a, rfl, h1, h2, h3, ?_, ?_, k + 1, 2 ^ (7 * k) * (c % 128) + q, ?_, by omega, ?_, m1, m3, ?_, by rw [h6, h]⟩ (Prod.lex_def.2 (.inr ⟨rfl, ?_⟩))
        · simp [upd, lk_nil, q0]
        · simp [upd, lk_cons, lk_nil, q1]
        · simp [upd, lk_cons, lk_nil, IE.eval, q4, e1, vInt_int]
        · simp only [upd, lk_cons, lk_nil, Nat.reduceEqDiff, if_false, if_true, IE.eval, IE.reval, q0, q1, q2, q3, q4, ea, hc, m2, vInt_int]
        · simp only [upd, lk_cons, lk_nil, Nat.reduceEqDiff, if_false, if_true, IE.eval, q3, e3, vInt_int]
        · simp only [upd, lk_cons, lk_nil, Nat.reduceEqDiff, if_false, if_true, IE.eval, q4, e1, vInt_int]
          omega
      rw [if_neg (by omega)] at hat
      simp only [allLeaves, AsOk_cons, AsOk_nil, BE.eval, cmpI, IE.eval, IE.reval, q0, q1, q4, ea, es, hc, Nat.div_one, and_true, decide_eq_true_eq, decide_eq_false_iff_not]
      refine ⟨fun hA => ?_, fun hA => ?_, fun hA => ?_, fun hA => ?_, fun hA => ?_, fun hA => ?_, fun hA => ?_, fun hA => ?_, fun hA => ?_, fun hA => ?_⟩
      · exact ret env 13 _ _ (by rw [hR, hat, if_pos (.inl (by omega))]) (by decide)
      · exact ret env 13 _ _ (by rw [hR, hat, if_pos (.inr (by omega))]) (by decide)
      · exact good _ _ (fun _ => by omega) (by rw [hat, if_neg (by omega), if_pos (by omega)])
      · exact ret env 13 _ _ (by rw [hR, hat, if_pos (.inr (by omega))]) (by decide)
      · exact good _ _ (fun _ => by omega) (by rw [hat, if_neg (by omega), if_pos (by omega)])
      · exact next _ rfl (by omega) (by rw [hat, if_neg (by omega), if_neg (by omega)])
      · exact good _ _ (fun _ => by omega) (by rw [hat, if_neg (by omega), if_pos (by omega)])
      · exact next _ rfl (by omega) (by rw [hat, if_neg (by omega), if_neg (by omega)])
      · exfalso; omega
      · exfalso; omega
    · rw [if_pos (by omega)] at hat
      simp only [allLeaves, AsOk_cons, AsOk_nil, BE.eval, cmpI, IE.eval, IE.reval, q0, q1, q4, ea, es, Nat.div_one, and_true, decide_eq_true_eq, decide_eq_false_iff_not]
      refine ⟨fun hA => ?_, fun hA => ?_, fun hA => ?_, fun hA => ?_, fun hA => ?_, fun hA => ?_, fun hA => ?_, fun hA => ?_, fun hA => ?_, fun hA => ?_⟩
      all_goals first | (exfalso; omega) | exact ret env 14 _ _ (by rw [hR, hat]) (by decide)
  · simp only [allLeaves, AsOk_cons, AsOk_nil, BE.eval, cmpI, IE.eval, IE.reval, hb, hav, Nat.div_one, and_true, decide_eq_true_eq, decide_eq_false_iff_not]
    have no11 : ¬ (0 ≤ a ∧ a ≤ (b.length : Int)) → (lebR b a).1 = 11 := fun h => by rw [lebR, if_neg h]
    refine ⟨fun hA => ret e0 11 _ _ (no11 (by omega)) (by decide), fun hA => ret e0 11 _ _ (no11 (by omega)) (by decide), fun hA => ?_⟩
    refine stepG_cut0 ⟨rfl, b, a, rfl, by omega, by omega, hlen, ?_, ?_, 0, 0, ?_, by omega, ?_, by simp [lebU], by decide, ?_, rfl⟩
    · simp [upd, lk_nil, hb]
    · simp [upd, lk_cons, lk_nil, hav]
    · simp [upd, lk_cons, lk_nil, IE.eval, vInt_int]
    · simp [upd, lk_cons, lk_nil, IE.eval, vInt_int]
    · simp [upd, lk_cons, lk_nil, IE.eval, vInt_int]

end Go.Proofs.Ytkfejcffacbngaa.J



namespace Go.Proofs.Ytkfejcffacbngaa.J

open Go Go.Sym

set_option linter.unusedVariables false

/-- a number with its sign, in the document's words -/
def unfD (u : Int) : Int := if binI .rem .u64 u 2 = 0 then IntKind.i64.wrap (binI .quo .u64 u 2) else binI .sub .i64 (binI .sub .i64 0 (IntKind.i64.wrap (binI .quo .u64 u 2))) 1

theorem unfD_M {u : Int} (h : 0 ≤ u) : unfD u = unfM u := by
  have hr : binI .rem .u64 u 2 = u % 2 := by show u.tmod 2 = u % 2; rw [Int.tmod_eq_emod_of_nonneg h]
  unfold unfD unfM
  rw [hr]
  by_cases h0 : u % 2 = 0
  · rw [if_pos h0, if_neg (by omega)]
  · rw [if_neg h0, if_pos (by omega)]

def g112 : List (List Int) → List Int
  | [[u]] => [unfD u]
  | _ => []

noncomputable def FNw : Nat → List (List Int) → List Int
  | 112, l => g112 l
  | i, l => FNv i l

theorem FNw_83 (b : List Int) (a : Int) : FNw 83 [b, [a]] = [if (lebR b a).1 = 0 then lebU b a (lebR b a).2 else 0] := rfl
theorem FNw_84 (b : List Int) (a : Int) : FNw 84 [b, [a]] = [if (lebR b a).1 = 0 then a + (lebR b a).2 else 0] := rfl
theorem FNw_85 (b : List Int) (a : Int) : FNw 85 [b, [a]] = [(lebR b a).1] := rfl
theorem FNw_106 (b : List Int) (a n : Int) : FNw 106 [b, [a], [n]] = (getM b a n).1 := rfl
theorem FNw_107 (b : List Int) (a n : Int) : FNw 107 [b, [a], [n]] = [(getM b a n).2.1] := rfl
theorem FNw_108 (b : List Int) (a n : Int) : FNw 108 [b, [a], [n]] = [(getM b a n).2.2] := rfl
theorem FNw_111 {b l : List Int} (h : bytes8 b) : FNw 111 [b, l] = [1] := FNv_111 (l := l) h
theorem FNw_111' {b l m : List Int} (h : bytes8 b) : FNw 111 [b, l, m] = [1] := FNv_111' (l := l) (m := m) h
theorem FNw_112 (u : Int) : FNw 112 [[u]] = [unfD u] := rfl

theorem v_w {c : Pc} (h : PcOk Try.prog FNv c) (h1 : ∀ i, i < c.rks.length → c.id + i ≠ 112) (h2 : ∀ i, i ∈ c.pre → i ≠ 112) : PcOk Try.prog FNw c := by
  have e : ∀ j, j ≠ 112 → FNv j = FNw j := fun j hj => by
    funext l
    unfold FNw
    split <;> first | omega | rfl
  exact h.cong (fun i hi => (e _ (h1 i hi)).symm) (fun i hi => (e _ (h2 i hi)).symm)

def pcUnfR : Pc := ⟨84, [.int .u64], [.int .i64], 112, [], []⟩
def pcRGetR : Pc := ⟨25, [.sl [.u8], .int .i64, .int .i64], [.sl 2 [.i64], .int .i64, .int .i64], 106, [(0, 0, 4294967296)], [111]⟩

theorem unfR_entry : entryK Try.prog [] 50 200 84 [] 1 (argSVs 0 pcUnfR.aks) 30 [] = some [([(.cmp .eql (.bin .rem .u64 (.var 0) (.lit 2)) (.lit 0), true)], .ret (.sint .i64 (.wrap .i64 (.bin .quo .u64 (.var 0) (.lit 2)))) ⟨0, .nil⟩), ([(.cmp .eql (.bin .rem .u64 (.var 0) (.lit 2)) (.lit 0), false)], .ret (.sint .i64 (.bin .sub .i64 (.bin .sub .i64 (.lit 0) (.wrap .i64 (.bin .quo .u64 (.var 0) (.lit 2)))) (.lit 1))) ⟨0, .nil⟩)] := by kernel_rfl

abbrev preA (a : IE) : BE × Bool := (.cmp .eql (.app 111 (gA a)) (.lit 1), true)
abbrev pA : List Nat := [0, 0, 1, 1, 1, 1]
abbrev pI : List Nat := [0, 1, 0, 1, 1, 1, 1, 1, 1, 1, 0, 1, 0, 0, 0, 1, 1, 1, 1]
abbrev asR0 : As := [preA (.var 3), preA nextE] ++ asB0
abbrev sl0I : SV := .slice 0 0 0 0
abbrev blkZ : Nat × Blk := (0, ⟨2, 0, [], .nil, false, none⟩)
abbrev slI : List (Nat × SV) := [(0, .rsl (.ro 0 [.u8]) (.lit 0) lB 1), (1, .sint .i64 (.var 3)), (2, .sint .i64 (.var 2)), (6, .nilslice), (7, .int .i64 0), (8, .int .i64 0), (10, .bool false), (14, .sint .u64 (.var 6)), (15, .sint .i64 (.var 7))]

abbrev cutR : Cuts := [
  (pA, ⟨87, slG ++ [(9, sl0I), (10, .bool false)], [blkZ], 1, asR0⟩),
  (pA, ⟨87, slG ++ [(9, rowI), (10, .bool false)], [blkI], 1, asR0 ++ asC0⟩),
  (pA, ⟨87, slG ++ [(9, rowI), (10, .bool true)], [blkI], 1, asR0 ++ asC0⟩),
  (pI, ⟨87, slI ++ [(9, sl0I), (17, .int .u64 0)], [blkZ], 1, asB0 ++ [(nonneg (.var 6), true)]⟩),
  (pI, ⟨87, slI ++ [(9, rowI), (17, .sint .u64 (.var 8))], [blkI], 1, asB0 ++ asC0⟩)]

abbrev knR2 : Kn := [pcLebGR.ct, pcUnfR.ct]

theorem rgetR_entry : entryK Try.prog knR2 1 400 25 cutR 3 (argSVs 0 pcRGetR.aks) 14 [(atmB lB (.lit 4294967296), true), preA (.var 1)] = some [([(.cmp .lss (.var 1) (.lit 0), true), (.not (.cmp .lss (.lit 4294967296) (.rlen (.rvar 0) 1)), true), (.cmp .eql (.app 111 (.acons (.rvar 0) (.acons (.rcons (.var 1) .rnil) .anil))) (.lit 1), true)], .ret (.tuple [.nilslice, .int .i64 0, .int .i64 11]) ⟨0, .nil⟩), ([(.cmp .lss (.rlen (.rvar 0) 1) (.var 1), true), (.cmp .lss (.var 1) (.lit 0), false), (.not (.cmp .lss (.lit 4294967296) (.rlen (.rvar 0) 1)), true), (.cmp .eql (.app 111 (.acons (.rvar 0) (.acons (.rcons (.var 1) .rnil) .anil))) (.lit 1), true)], .ret (.tuple [.nilslice, .int .i64 0, .int .i64 11]) ⟨0, .nil⟩), ([(.cmp .lss (.var 2) (.lit 0), true), (.cmp .lss (.rlen (.rvar 0) 1) (.var 1), false), (.cmp .lss (.var 1) (.lit 0), false), (.not (.cmp .lss (.lit 4294967296) (.rlen (.rvar 0) 1)), true), (.cmp .eql (.app 111 (.acons (.rvar 0) (.acons (.rcons (.var 1) .rnil) .anil))) (.lit 1), true)], .ret (.tuple [.nilslice, .int .i64 0, .int .i64 11]) ⟨0, .nil⟩), ([(.cmp .lss (.lit 1048576) (.var 2), true), (.cmp .lss (.var 2) (.lit 0), false), (.cmp .lss (.rlen (.rvar 0) 1) (.var 1), false), (.cmp .lss (.var 1) (.lit 0), false), (.not (.cmp .lss (.lit 4294967296) (.rlen (.rvar 0) 1)), true), (.cmp .eql (.app 111 (.acons (.rvar 0) (.acons (.rcons (.var 1) .rnil) .anil))) (.lit 1), true)], .ret (.tuple [.nilslice, .int .i64 0, .int .i64 11]) ⟨0, .nil⟩), ([(.cmp .lss (.lit 1048576) (.var 2), false), (.cmp .lss (.var 2) (.lit 0), false), (.cmp .lss (.rlen (.rvar 0) 1) (.var 1), false), (.cmp .lss (.var 1) (.lit 0), false), (.not (.cmp .lss (.lit 4294967296) (.rlen (.rvar 0) 1)), true), (.cmp .eql (.app 111 (.acons (.rvar 0) (.acons (.rcons (.var 1) .rnil) .anil))) (.lit 1), true)], .cut 0 ⟨[(3, .var 1)], [], [], [(0, 0)]⟩)] := by kernel_rfl

theorem rgetR_rounds : roundsK Try.prog knR2 1 400 25 cutR 3 14 cutR = some [[([(.cmp .lss (.lit 0) (.app 83 (.acons (.rvar 0) (.acons (.rcons (.var 3) .rnil) .anil))), true), (.cmp .eql (.app 85 (.acons (.rvar 0) (.acons (.rcons (.var 3) .rnil) .anil))) (.lit 0), true), (.cmp .lss (.lit 0) (.var 2), true), (.cmp .eql (.app 111 (.acons (.rvar 0) (.acons (.rcons (.var 3) .rnil) .anil))) (.lit 1), true), (.cmp .eql (.app 111 (.acons (.rvar 0) (.acons (.rcons (.app 84 (.acons (.rvar 0) (.acons (.rcons (.var 3) .rnil) .anil))) .rnil) .anil))) (.lit 1), true), (.not (.cmp .lss (.lit 4294967296) (.rlen (.rvar 0) 1)), true), (.cmp .lss (.var 2) (.lit 0), false), (.cmp .lss (.lit 1048576) (.var 2), false)], .cut 1 ⟨[(5, .lit 1), (3, .app 84 (.acons (.rvar 0) (.acons (.rcons (.var 3) .rnil) .anil)))], [(4, .rcons (.app 112 (.acons (.rcons (.app 83 (.acons (.rvar 0) (.acons (.rcons (.var 3) .rnil) .anil))) .rnil) .anil)) .rnil)], [], [(0, 2)]⟩), ([(.cmp .lss (.wrap .u64 (.bin .sub .i64 (.bin .sub .i64 (.var 2) (.lit 0)) (.lit 1))) (.app 83 (.acons (.rvar 0) (.acons (.rcons (.app 84 (.acons (.rvar 0) (.acons (.rcons (.var 3) .rnil) .anil))) .rnil) .anil))), true), (.cmp .eql (.app 85 (.acons (.rvar 0) (.acons (.rcons (.app 84 (.acons (.rvar 0) (.acons (.rcons (.var 3) .rnil) .anil))) .rnil) .anil))) (.lit 0), true), (.cmp .lss (.lit 0) (.app 83 (.acons (.rvar 0) (.acons (.rcons (.var 3) .rnil) .anil))), false), (.cmp .eql (.app 85 (.acons (.rvar 0) (.acons (.rcons (.var 3) .rnil) .anil))) (.lit 0), true), (.cmp .lss (.lit 0) (.var 2), true), (.cmp .eql (.app 111 (.acons (.rvar 0) (.acons (.rcons (.var 3) .rnil) .anil))) (.lit 1), true), (.cmp .eql (.app 111 (.acons (.rvar 0) (.acons (.rcons (.app 84 (.acons (.rvar 0) (.acons (.rcons (.var 3) .rnil) .anil))) .rnil) .anil))) (.lit 1), true), (.not (.cmp .lss (.lit 4294967296) (.rlen (.rvar 0) 1)), true), (.cmp .lss (.var 2) (.lit 0), false), (.cmp .lss (.lit 1048576) (.var 2), false)], .ret (.tuple [.nilslice, .int .i64 0, .int .i64 13]) ⟨0, .nil⟩), ([(.cmp .lss (.wrap .u64 (.bin .sub .i64 (.bin .sub .i64 (.var 2) (.lit 0)) (.lit 1))) (.app 83 (.acons (.rvar 0) (.acons (.rcons (.app 84 (.acons (.rvar 0) (.acons (.rcons (.var 3) .rnil) .anil))) .rnil) .anil))), false), (.cmp .eql (.app 85 (.acons (.rvar 0) (.acons (.rcons (.app 84 (.acons (.rvar 0) (.acons (.rcons (.var 3) .rnil) .anil))) .rnil) .anil))) (.lit 0), true), (.cmp .lss (.lit 0) (.app 83 (.acons (.rvar 0) (.acons (.rcons (.var 3) .rnil) .anil))), false), (.cmp .eql (.app 85 (.acons (.rvar 0) (.acons (.rcons (.var 3) .rnil) .anil))) (.lit 0), true), (.cmp .lss (.lit 0) (.var 2), true), (.cmp .eql (.app 111 (.acons (.rvar 0) (.acons (.rcons (.var 3) .rnil) .anil))) (.lit 1), true), (.cmp .eql (.app 111 (.acons (.rvar 0) (.acons (.rcons (.app 84 (.acons (.rvar 0) (.acons (.rcons (.var 3) .rnil) .anil))) .rnil) .anil))) (.lit 1), true), (.not (.cmp .lss (.lit 4294967296) (.rlen (.rvar 0) 1)), true), (.cmp .lss (.var 2) (.lit 0), false), (.cmp .lss (.lit 1048576) (.var 2), false)], .cut 3 ⟨[(7, .app 84 (.acons (.rvar 0) (.acons (.rcons (.app 84 (.acons (.rvar 0) (.acons (.rcons (.var 3) .rnil) .anil))) .rnil) .anil))), (6, .app 83 (.acons (.rvar 0) (.acons (.rcons (.app 84 (.acons (.rvar 0) (.acons (.rcons (.var 3) .rnil) .anil))) .rnil) .anil))), (3, .var 3)], [], [], [(0, 0)]⟩), ([(.cmp .eql (.app 85 (.acons (.rvar 0) (.acons (.rcons (.app 84 (.acons (.rvar 0) (.acons (.rcons (.var 3) .rnil) .anil))) .rnil) .anil))) (.lit 0), false), (.cmp .lss (.lit 0) (.app 83 (.acons (.rvar 0) (.acons (.rcons (.var 3) .rnil) .anil))), false), (.cmp .eql (.app 85 (.acons (.rvar 0) (.acons (.rcons (.var 3) .rnil) .anil))) (.lit 0), true), (.cmp .lss (.lit 0) (.var 2), true), (.cmp .eql (.app 111 (.acons (.rvar 0) (.acons (.rcons (.var 3) .rnil) .anil))) (.lit 1), true), (.cmp .eql (.app 111 (.acons (.rvar 0) (.acons (.rcons (.app 84 (.acons (.rvar 0) (.acons (.rcons (.var 3) .rnil) .anil))) .rnil) .anil))) (.lit 1), true), (.not (.cmp .lss (.lit 4294967296) (.rlen (.rvar 0) 1)), true), (.cmp .lss (.var 2) (.lit 0), false), (.cmp .lss (.lit 1048576) (.var 2), false)], .ret (.tuple [.nilslice, .int .i64 0, .sint .i64 (.app 85 (.acons (.rvar 0) (.acons (.rcons (.app 84 (.acons (.rvar 0) (.acons (.rcons (.var 3) .rnil) .anil))) .rnil) .anil)))]) ⟨0, .nil⟩), ([(.cmp .eql (.app 85 (.acons (.rvar 0) (.acons (.rcons (.var 3) .rnil) .anil))) (.lit 0), false), (.cmp .lss (.lit 0) (.var 2), true), (.cmp .eql (.app 111 (.acons (.rvar 0) (.acons (.rcons (.var 3) .rnil) .anil))) (.lit 1), true), (.cmp .eql (.app 111 (.acons (.rvar 0) (.acons (.rcons (.app 84 (.acons (.rvar 0) (.acons (.rcons (.var 3) .rnil) .anil))) .rnil) .anil))) (.lit 1), true), (.not (.cmp .lss (.lit 4294967296) (.rlen (.rvar 0) 1)), true), (.cmp .lss (.var 2) (.lit 0), false), (.cmp .lss (.lit 1048576) (.var 2), false)], .ret (.tuple [.nilslice, .int .i64 0, .sint .i64 (.app 85 (.acons (.rvar 0) (.acons (.rcons (.var 3) .rnil) .anil)))]) ⟨0, .nil⟩), ([(.cmp .lss (.lit 0) (.var 2), false), (.cmp .eql (.app 111 (.acons (.rvar 0) (.acons (.rcons (.var 3) .rnil) .anil))) (.lit 1), true), (.cmp .eql (.app 111 (.acons (.rvar 0) (.acons (.rcons (.app 84 (.acons (.rvar 0) (.acons (.rcons (.var 3) .rnil) .anil))) .rnil) .anil))) (.lit 1), true), (.not (.cmp .lss (.lit 4294967296) (.rlen (.rvar 0) 1)), true), (.cmp .lss (.var 2) (.lit 0), false), (.cmp .lss (.lit 1048576) (.var 2), false)], .ret (.tuple [.slice 0 0 0 0, .sint .i64 (.var 3), .int .i64 0]) ⟨1, (.node (some ⟨2, 0, [], .nil, false, none⟩) .nil .nil)⟩)], [([(.cmp .lss (.lit 0) (.app 83 (.acons (.rvar 0) (.acons (.rcons (.var 3) .rnil) .anil))), true), (.cmp .eql (.app 85 (.acons (.rvar 0) (.acons (.rcons (.var 3) .rnil) .anil))) (.lit 0), true), (.cmp .lss (.var 5) (.var 2), true), (.cmp .eql (.app 111 (.acons (.rvar 0) (.acons (.rcons (.var 3) .rnil) .anil))) (.lit 1), true), (.cmp .eql (.app 111 (.acons (.rvar 0) (.acons (.rcons (.app 84 (.acons (.rvar 0) (.acons (.rcons (.var 3) .rnil) .anil))) .rnil) .anil))) (.lit 1), true), (.not (.cmp .lss (.lit 4294967296) (.rlen (.rvar 0) 1)), true), (.cmp .lss (.var 2) (.lit 0), false), (.cmp .lss (.lit 1048576) (.var 2), false), (.not (.cmp .lss (.var 5) (.lit 0)), true), (.not (.cmp .lss (.var 2) (.var 5)), true), (.not (.cmp .lss (.lit 1048576) (.var 5)), true), (.cmp .lss (.lit 17592186044416) (.plus (.var 5) (.lit 1)), false)], .cut 1 ⟨[(5, .plus (.var 5) (.lit 1)), (3, .app 84 (.acons (.rvar 0) (.acons (.rcons (.var 3) .rnil) .anil)))], [(4, .cat (.rvar 4) (.rcons (.app 112 (.acons (.rcons (.app 83 (.acons (.rvar 0) (.acons (.rcons (.var 3) .rnil) .anil))) .rnil) .anil)) .rnil))], [], [(0, 2)]⟩), ([(.cmp .lss (.wrap .u64 (.bin .sub .i64 (.bin .sub .i64 (.var 2) (.var 5)) (.lit 1))) (.app 83 (.acons (.rvar 0) (.acons (.rcons (.app 84 (.acons (.rvar 0) (.acons (.rcons (.var 3) .rnil) .anil))) .rnil) .anil))), true), (.cmp .eql (.app 85 (.acons (.rvar 0) (.acons (.rcons (.app 84 (.acons (.rvar 0) (.acons (.rcons (.var 3) .rnil) .anil))) .rnil) .anil))) (.lit 0), true), (.cmp .lss (.lit 0) (.app 83 (.acons (.rvar 0) (.acons (.rcons (.var 3) .rnil) .anil))), false), (.cmp .eql (.app 85 (.acons (.rvar 0) (.acons (.rcons (.var 3) .rnil) .anil))) (.lit 0), true), (.cmp .lss (.var 5) (.var 2), true), (.cmp .eql (.app 111 (.acons (.rvar 0) (.acons (.rcons (.var 3) .rnil) .anil))) (.lit 1), true), (.cmp .eql (.app 111 (.acons (.rvar 0) (.acons (.rcons (.app 84 (.acons (.rvar 0) (.acons (.rcons (.var 3) .rnil) .anil))) .rnil) .anil))) (.lit 1), true), (.not (.cmp .lss (.lit 4294967296) (.rlen (.rvar 0) 1)), true), (.cmp .lss (.var 2) (.lit 0), false), (.cmp .lss (.lit 1048576) (.var 2), false), (.not (.cmp .lss (.var 5) (.lit 0)), true), (.not (.cmp .lss (.var 2) (.var 5)), true), (.not (.cmp .lss (.lit 1048576) (.var 5)), true), (.cmp .lss (.lit 17592186044416) (.plus (.var 5) (.lit 1)), false)], .ret (.tuple [.nilslice, .int .i64 0, .int .i64 13]) ⟨0, .nil⟩), ([(.cmp .lss (.wrap .u64 (.bin .sub .i64 (.bin .sub .i64 (.var 2) (.var 5)) (.lit 1))) (.app 83 (.acons (.rvar 0) (.acons (.rcons (.app 84 (.acons (.rvar 0) (.acons (.rcons (.var 3) .rnil) .anil))) .rnil) .anil))), false), (.cmp .eql (.app 85 (.acons (.rvar 0) (.acons (.rcons (.app 84 (.acons (.rvar 0) (.acons (.rcons (.var 3) .rnil) .anil))) .rnil) .anil))) (.lit 0), true), (.cmp .lss (.lit 0) (.app 83 (.acons (.rvar 0) (.acons (.rcons (.var 3) .rnil) .anil))), false), (.cmp .eql (.app 85 (.acons (.rvar 0) (.acons (.rcons (.var 3) .rnil) .anil))) (.lit 0), true), (.cmp .lss (.var 5) (.var 2), true), (.cmp .eql (.app 111 (.acons (.rvar 0) (.acons (.rcons (.var 3) .rnil) .anil))) (.lit 1), true), (.cmp .eql (.app 111 (.acons (.rvar 0) (.acons (.rcons (.app 84 (.acons (.rvar 0) (.acons (.rcons (.var 3) .rnil) .anil))) .rnil) .anil))) (.lit 1), true), (.not (.cmp .lss (.lit 4294967296) (.rlen (.rvar 0) 1)), true), (.cmp .lss (.var 2) (.lit 0), false), (.cmp .lss (.lit 1048576) (.var 2), false), (.not (.cmp .lss (.var 5) (.lit 0)), true), (.not (.cmp .lss (.var 2) (.var 5)), true), (.not (.cmp .lss (.lit 1048576) (.var 5)), true), (.cmp .lss (.lit 17592186044416) (.plus (.var 5) (.lit 1)), false)], .cut 4 ⟨[(8, .lit 0), (5, .var 5), (7, .app 84 (.acons (.rvar 0) (.acons (.rcons (.app 84 (.acons (.rvar 0) (.acons (.rcons (.var 3) .rnil) .anil))) .rnil) .anil))), (6, .app 83 (.acons (.rvar 0) (.acons (.rcons (.app 84 (.acons (.rvar 0) (.acons (.rcons (.var 3) .rnil) .anil))) .rnil) .anil))), (3, .var 3)], [(4, .rvar 4)], [], [(0, 0)]⟩), ([(.cmp .eql (.app 85 (.acons (.rvar 0) (.acons (.rcons (.app 84 (.acons (.rvar 0) (.acons (.rcons (.var 3) .rnil) .anil))) .rnil) .anil))) (.lit 0), false), (.cmp .lss (.lit 0) (.app 83 (.acons (.rvar 0) (.acons (.rcons (.var 3) .rnil) .anil))), false), (.cmp .eql (.app 85 (.acons (.rvar 0) (.acons (.rcons (.var 3) .rnil) .anil))) (.lit 0), true), (.cmp .lss (.var 5) (.var 2), true), (.cmp .eql (.app 111 (.acons (.rvar 0) (.acons (.rcons (.var 3) .rnil) .anil))) (.lit 1), true), (.cmp .eql (.app 111 (.acons (.rvar 0) (.acons (.rcons (.app 84 (.acons (.rvar 0) (.acons (.rcons (.var 3) .rnil) .anil))) .rnil) .anil))) (.lit 1), true), (.not (.cmp .lss (.lit 4294967296) (.rlen (.rvar 0) 1)), true), (.cmp .lss (.var 2) (.lit 0), false), (.cmp .lss (.lit 1048576) (.var 2), false), (.not (.cmp .lss (.var 5) (.lit 0)), true), (.not (.cmp .lss (.var 2) (.var 5)), true), (.not (.cmp .lss (.lit 1048576) (.var 5)), true), (.cmp .lss (.lit 17592186044416) (.plus (.var 5) (.lit 1)), false)], .ret (.tuple [.nilslice, .int .i64 0, .sint .i64 (.app 85 (.acons (.rvar 0) (.acons (.rcons (.app 84 (.acons (.rvar 0) (.acons (.rcons (.var 3) .rnil) .anil))) .rnil) .anil)))]) ⟨0, .nil⟩), ([(.cmp .eql (.app 85 (.acons (.rvar 0) (.acons (.rcons (.var 3) .rnil) .anil))) (.lit 0), false), (.cmp .lss (.var 5) (.var 2), true), (.cmp .eql (.app 111 (.acons (.rvar 0) (.acons (.rcons (.var 3) .rnil) .anil))) (.lit 1), true), (.cmp .eql (.app 111 (.acons (.rvar 0) (.acons (.rcons (.app 84 (.acons (.rvar 0) (.acons (.rcons (.var 3) .rnil) .anil))) .rnil) .anil))) (.lit 1), true), (.not (.cmp .lss (.lit 4294967296) (.rlen (.rvar 0) 1)), true), (.cmp .lss (.var 2) (.lit 0), false), (.cmp .lss (.lit 1048576) (.var 2), false), (.not (.cmp .lss (.var 5) (.lit 0)), true), (.not (.cmp .lss (.var 2) (.var 5)), true), (.not (.cmp .lss (.lit 1048576) (.var 5)), true), (.cmp .lss (.lit 17592186044416) (.plus (.var 5) (.lit 1)), false)], .ret (.tuple [.nilslice, .int .i64 0, .sint .i64 (.app 85 (.acons (.rvar 0) (.acons (.rcons (.var 3) .rnil) .anil)))]) ⟨0, .nil⟩), ([(.cmp .lss (.var 5) (.var 2), false), (.cmp .eql (.app 111 (.acons (.rvar 0) (.acons (.rcons (.var 3) .rnil) .anil))) (.lit 1), true), (.cmp .eql (.app 111 (.acons (.rvar 0) (.acons (.rcons (.app 84 (.acons (.rvar 0) (.acons (.rcons (.var 3) .rnil) .anil))) .rnil) .anil))) (.lit 1), true), (.not (.cmp .lss (.lit 4294967296) (.rlen (.rvar 0) 1)), true), (.cmp .lss (.var 2) (.lit 0), false), (.cmp .lss (.lit 1048576) (.var 2), false), (.not (.cmp .lss (.var 5) (.lit 0)), true), (.not (.cmp .lss (.var 2) (.var 5)), true), (.not (.cmp .lss (.lit 1048576) (.var 5)), true), (.cmp .lss (.lit 17592186044416) (.plus (.var 5) (.lit 1)), false)], .ret (.tuple [.rsl (.own 0) (.lit 0) (.var 5) 1, .sint .i64 (.var 3), .int .i64 0]) ⟨1, (.node (some ⟨2, 0, [], .nil, true, (some (.rvar 4, (.var 5, [.i64])))⟩) .nil .nil)⟩)], [([(.cmp .lss (.lit 0) (.app 83 (.acons (.rvar 0) (.acons (.rcons (.var 3) .rnil) .anil))), true), (.cmp .eql (.app 85 (.acons (.rvar 0) (.acons (.rcons (.var 3) .rnil) .anil))) (.lit 0), true), (.cmp .lss (.var 5) (.var 2), true), (.cmp .eql (.app 111 (.acons (.rvar 0) (.acons (.rcons (.var 3) .rnil) .anil))) (.lit 1), true), (.cmp .eql (.app 111 (.acons (.rvar 0) (.acons (.rcons (.app 84 (.acons (.rvar 0) (.acons (.rcons (.var 3) .rnil) .anil))) .rnil) .anil))) (.lit 1), true), (.not (.cmp .lss (.lit 4294967296) (.rlen (.rvar 0) 1)), true), (.cmp .lss (.var 2) (.lit 0), false), (.cmp .lss (.lit 1048576) (.var 2), false), (.not (.cmp .lss (.var 5) (.lit 0)), true), (.not (.cmp .lss (.var 2) (.var 5)), true), (.not (.cmp .lss (.lit 1048576) (.var 5)), true), (.cmp .lss (.lit 17592186044416) (.plus (.var 5) (.lit 1)), false)], .cut 1 ⟨[(5, .plus (.var 5) (.lit 1)), (3, .app 84 (.acons (.rvar 0) (.acons (.rcons (.var 3) .rnil) .anil)))], [(4, .cat (.rvar 4) (.rcons (.app 112 (.acons (.rcons (.app 83 (.acons (.rvar 0) (.acons (.rcons (.var 3) .rnil) .anil))) .rnil) .anil)) .rnil))], [], [(0, 2)]⟩), ([(.cmp .lss (.lit 0) (.app 83 (.acons (.rvar 0) (.acons (.rcons (.var 3) .rnil) .anil))), false), (.cmp .eql (.app 85 (.acons (.rvar 0) (.acons (.rcons (.var 3) .rnil) .anil))) (.lit 0), true), (.cmp .lss (.var 5) (.var 2), true), (.cmp .eql (.app 111 (.acons (.rvar 0) (.acons (.rcons (.var 3) .rnil) .anil))) (.lit 1), true), (.cmp .eql (.app 111 (.acons (.rvar 0) (.acons (.rcons (.app 84 (.acons (.rvar 0) (.acons (.rcons (.var 3) .rnil) .anil))) .rnil) .anil))) (.lit 1), true), (.not (.cmp .lss (.lit 4294967296) (.rlen (.rvar 0) 1)), true), (.cmp .lss (.var 2) (.lit 0), false), (.cmp .lss (.lit 1048576) (.var 2), false), (.not (.cmp .lss (.var 5) (.lit 0)), true), (.not (.cmp .lss (.var 2) (.var 5)), true), (.not (.cmp .lss (.lit 1048576) (.var 5)), true), (.cmp .lss (.lit 17592186044416) (.plus (.var 5) (.lit 1)), false)], .ret (.tuple [.nilslice, .int .i64 0, .int .i64 13]) ⟨0, .nil⟩), ([(.cmp .eql (.app 85 (.acons (.rvar 0) (.acons (.rcons (.var 3) .rnil) .anil))) (.lit 0), false), (.cmp .lss (.var 5) (.var 2), true), (.cmp .eql (.app 111 (.acons (.rvar 0) (.acons (.rcons (.var 3) .rnil) .anil))) (.lit 1), true), (.cmp .eql (.app 111 (.acons (.rvar 0) (.acons (.rcons (.app 84 (.acons (.rvar 0) (.acons (.rcons (.var 3) .rnil) .anil))) .rnil) .anil))) (.lit 1), true), (.not (.cmp .lss (.lit 4294967296) (.rlen (.rvar 0) 1)), true), (.cmp .lss (.var 2) (.lit 0), false), (.cmp .lss (.lit 1048576) (.var 2), false), (.not (.cmp .lss (.var 5) (.lit 0)), true), (.not (.cmp .lss (.var 2) (.var 5)), true), (.not (.cmp .lss (.lit 1048576) (.var 5)), true), (.cmp .lss (.lit 17592186044416) (.plus (.var 5) (.lit 1)), false)], .ret (.tuple [.nilslice, .int .i64 0, .sint .i64 (.app 85 (.acons (.rvar 0) (.acons (.rcons (.var 3) .rnil) .anil)))]) ⟨0, .nil⟩), ([(.cmp .lss (.var 5) (.var 2), false), (.cmp .eql (.app 111 (.acons (.rvar 0) (.acons (.rcons (.var 3) .rnil) .anil))) (.lit 1), true), (.cmp .eql (.app 111 (.acons (.rvar 0) (.acons (.rcons (.app 84 (.acons (.rvar 0) (.acons (.rcons (.var 3) .rnil) .anil))) .rnil) .anil))) (.lit 1), true), (.not (.cmp .lss (.lit 4294967296) (.rlen (.rvar 0) 1)), true), (.cmp .lss (.var 2) (.lit 0), false), (.cmp .lss (.lit 1048576) (.var 2), false), (.not (.cmp .lss (.var 5) (.lit 0)), true), (.not (.cmp .lss (.var 2) (.var 5)), true), (.not (.cmp .lss (.lit 1048576) (.var 5)), true), (.cmp .lss (.lit 17592186044416) (.plus (.var 5) (.lit 1)), false)], .ret (.tuple [.rsl (.own 0) (.lit 0) (.var 5) 1, .sint .i64 (.var 3), .int .i64 0]) ⟨1, (.node (some ⟨2, 0, [], .nil, true, (some (.rvar 4, (.var 5, [.i64])))⟩) .nil .nil)⟩)], [([(.not (.cmp .lss (.lit 4294967296) (.rlen (.rvar 0) 1)), true), (.cmp .lss (.var 2) (.lit 0), false), (.cmp .lss (.lit 1048576) (.var 2), false), (.not (.cmp .lss (.var 6) (.lit 0)), true)], .cut 4 ⟨[(8, .lit 1), (5, .lit 1), (7, .var 7), (6, .var 6), (3, .var 3)], [(4, .rcons (.lit 0) .rnil)], [], [(0, 2)]⟩)], [([(.cmp .lss (.var 6) (.var 8), true), (.not (.cmp .lss (.lit 4294967296) (.rlen (.rvar 0) 1)), true), (.cmp .lss (.var 2) (.lit 0), false), (.cmp .lss (.lit 1048576) (.var 2), false), (.not (.cmp .lss (.var 5) (.lit 0)), true), (.not (.cmp .lss (.var 2) (.var 5)), true), (.not (.cmp .lss (.lit 1048576) (.var 5)), true), (.cmp .lss (.lit 17592186044416) (.plus (.var 5) (.lit 1)), false)], .cut 2 ⟨[(5, .var 5), (3, .var 7)], [(4, .rvar 4)], [], [(0, 0)]⟩), ([(.cmp .lss (.var 6) (.var 8), false), (.not (.cmp .lss (.lit 4294967296) (.rlen (.rvar 0) 1)), true), (.cmp .lss (.var 2) (.lit 0), false), (.cmp .lss (.lit 1048576) (.var 2), false), (.not (.cmp .lss (.var 5) (.lit 0)), true), (.not (.cmp .lss (.var 2) (.var 5)), true), (.not (.cmp .lss (.lit 1048576) (.var 5)), true), (.cmp .lss (.lit 17592186044416) (.plus (.var 5) (.lit 1)), false)], .cut 4 ⟨[(8, .bin .add .u64 (.var 8) (.lit 1)), (5, .plus (.var 5) (.lit 1)), (7, .var 7), (6, .var 6), (3, .var 3)], [(4, .cat (.rvar 4) (.rcons (.lit 0) .rnil))], [], [(0, 2)]⟩)]] := by kernel_rfl

end Go.Proofs.Ytkfejcffacbngaa.J


namespace Go.Proofs.Ytkfejcffacbngaa.J

open Go Go.Sym

set_option linter.unusedVariables false

/-- a weaker word for what is returned -/
def Weak (env : Env) (s s' : SV) : Prop := ∀ ρ v, Rep ρ env s v → Rep ρ env s' v

def StepW (FN : Nat → List (List Int) → List Int) (ls : List (List Int)) (id : Nat) (rks : List ResK) (Inv : Nat → Env → Prop) (μ : Nat → Env → Nat × Nat) (bound : Option (Nat × Nat)) (env : Env) (o : Out) : Prop :=
  StepG FN ls id rks Inv μ bound env o ∨ ∃ s M s', o = .ret s M ∧ Weak env s s' ∧ StepG FN ls id rks Inv μ bound env (.ret s' M)

theorem weak_e0 {env : Env} {nm off cap : Nat} {l : List SV} : Weak env (.tuple (.slice nm off 0 cap :: l)) (.tuple (.e0 :: l)) := by
  intro ρ v h
  simp only [Rep, RepL] at h ⊢
  obtain ⟨vs, rfl, v, vs', h1, ⟨b, n, h2, rfl⟩, h3⟩ := h
  exact ⟨vs, rfl, _, vs', h1, ⟨_, _, rfl⟩, h3⟩

theorem pc_floyd_w {P : Program} {FN : Nat → List (List Int) → List Int} {aa : As} (hmix : P.follows .mixedOrders = true) {kn : Kn} {n f k base : Nat} {cs : Cuts} (c : Pc) (hkn : ∀ env : Env, env.fn = FN → KnOk P env kn) (hbase : c.aks.length ≤ base) {outs : List (List Leaf)} {eouts : List Leaf}
    (hrounds : roundsK P kn n f c.f cs base k cs = some outs) (hent : entryK P kn n f c.f cs base (argSVs 0 c.aks) k aa = some eouts)
    (Inv : List (List Int) → Nat → Env → Prop) (μ : List (List Int) → Nat → Env → Nat × Nat) (hinv : ∀ ls i env, Inv ls i env → i < cs.length)
    (H : ∀ (ls : List (List Int)) (e0 : Env), e0.fn = FN → ArgsE e0 0 c.aks ls → RngOk c.aks ls c.rng → PreOk FN ls c.pre → AsOk e0 aa ∧
      (∀ env : Env, env.fn = FN → AsAll env (Inv ls) 0 cs ∧ StepAll (fun i env lf => AsOk env lf.1 → StepW FN ls c.id c.rks (Inv ls) (μ ls) (some (μ ls i env)) env lf.2) env (Inv ls) 0 outs) ∧
      allLeaves (fun lf => AsOk e0 lf.1 → StepW FN ls c.id c.rks (Inv ls) (μ ls) none e0 lf.2) eouts) : PcOk P FN c := by
  intro w vs ls hargs hrng hpre
  have h0 : ArgsE (argEnv FN c.aks vs.toList ls) 0 c.aks ls := by have := argsE_of (FN := FN) hargs c.aks 0 rfl; simpa using this
  obtain ⟨ha, h1, h2⟩ := H ls _ rfl h0 hrng hpre
  have conv0 : ∀ b env o, StepG FN ls c.id c.rks (Inv ls) (μ ls) b env o → StepGood w (fun e w' => Go.RowKit.Below w.heap.size w w' ∧ ∃ v vs', e = .returned v ∧ TupIs v vs' ∧ ResL FN ls w w' c.id c.rks vs') (Inv ls) (μ ls) b env o := by
    intro b env o h
    cases o with
    | ret s M => obtain ⟨l, hl, hr⟩ := h; exact ret_good l hl hr
    | cut j σ => exact h
    | bad => exact h
  have conv : ∀ b env o, StepW FN ls c.id c.rks (Inv ls) (μ ls) b env o → StepGood w (fun e w' => Go.RowKit.Below w.heap.size w w' ∧ ∃ v vs', e = .returned v ∧ TupIs v vs' ∧ ResL FN ls w w' c.id c.rks vs') (Inv ls) (μ ls) b env o := by
    rintro b env o (h | ⟨s, M, s', rfl, hw, h⟩)
    · exact conv0 _ _ _ h
    · have := conv0 _ _ _ h
      intro ρ w' v hr
      exact this ρ w' v (hw ρ v hr)
  refine floyd_args (n := n) (f := f) (k := k) (kn := kn) (base := base) (cs := cs) hmix hkn hbase hargs (Inv ls) (μ ls) (fun i p T hi => ?_) (fun i env => hinv ls i env) hent ha (fun lf hlf hA => conv _ _ _ (allLeaves_spec h2 lf hlf hA))
  obtain ⟨o, ho1, ho2⟩ := roundsK_spec hrounds i _ hi
  refine ⟨fun env hfn hI => ?_, o, ho2, fun env hfn hI lf hlf hA => ?_⟩
  · have := AsAll_spec (h1 env hfn).1 i p T hi
    rw [Nat.zero_add] at this
    exact this hI
  · have := StepAll_spec (h1 env hfn).2 i o ho1
    rw [Nat.zero_add] at this
    exact conv _ _ _ (allLeaves_spec (this hI) lf hlf hA)

theorem unfR_ok : PcOk Try.prog FNw pcUnfR := by
  intro w vs ls hargs hrng hpre
  refine pc_inst' mix pcUnfR (fun _ _ => knOk_nil) (by decide) unfR_entry hargs fun e0 hf ha => ⟨(fun p hp => by cases hp), ?_⟩
  simp only [pcUnfR, ArgsE, ArgE] at ha
  obtain ⟨l, _, rfl, hl, rfl⟩ := ha
  obtain ⟨u, hu⟩ : ∃ u, vInt (e0.val 0) = u := ⟨_, rfl⟩
  rw [hu] at hl
  subst hl
  simp only [allLeaves, AsOk_cons, AsOk_nil, BE.eval, cmpI, IE.eval, hu, and_true, decide_eq_true_eq, decide_eq_false_iff_not]
  refine ⟨fun hA => ⟨[_], rfl, ⟨_, rfl, ?_⟩, rfl⟩, fun hA => ⟨[_], rfl, ⟨_, rfl, ?_⟩, rfl⟩⟩
  · simp only [IE.eval, hu, pcUnfR, FNw_112, unfD, if_pos hA, List.headD_cons]
  · simp only [IE.eval, hu, pcUnfR, FNw_112, unfD, if_neg hA, List.headD_cons]

theorem lebGR_w : PcOk Try.prog FNw pcLebGR := v_w lebGR_ok (by decide) (by decide)

theorem knR2_ok : ∀ env : Env, env.fn = FNw → KnOk Try.prog env knR2 := fun env h => knOk_cons (knOk_cons knOk_nil (Pc.ct_ok h unfR_ok)) (Pc.ct_ok h lebGR_w)

theorem repL_succ (i : Nat) : repL ((i : Int) + 1) [0] = repL (i : Int) [0] ++ [0] := by
  rw [show ((i : Int) + 1) = ((i + 1 : Nat) : Int) by omega, repL_rep, repL_rep, List.replicate_succ']

def invR (ls : List (List Int)) (c : Nat) (env : Env) : Prop := ∃ (b : List Int) (a n p : Int), ls = [b, [a], [n]] ∧ (b.length : Int) ≤ 4294967296 ∧ 0 ≤ n ∧ n ≤ 1048576 ∧ bytes8 b ∧ env.row 0 = b ∧ vInt (env.val 2) = n ∧ vInt (env.val 3) = p ∧
  ((c = 0 ∧ Stands b a n p [] false) ∨ (c = 1 ∧ vInt (env.val 5) = ((env.row 4).length : Int) ∧ Stands b a n p (env.row 4) false) ∨ (c = 2 ∧ vInt (env.val 5) = ((env.row 4).length : Int) ∧ Stands b a n p (env.row 4) true) ∨
    (c = 3 ∧ 0 ≤ vInt (env.val 6) ∧ Stands b a n (vInt (env.val 7)) (repL (vInt (env.val 6) + 1) [0]) true) ∨
    (c = 4 ∧ ∃ (out : List Int) (i : Nat), vInt (env.val 8) = i ∧ (i : Int) ≤ vInt (env.val 6) + 1 ∧ vInt (env.val 5) = ((env.row 4).length : Int) ∧ env.row 4 = out ++ repL (i : Int) [0] ∧ Stands b a n (vInt (env.val 7)) (out ++ repL (vInt (env.val 6) + 1) [0]) true))

def muR (ls : List (List Int)) (c : Nat) (env : Env) : Nat × Nat := if c = 0 then (1100000, 5) else if c = 3 then (1100000, 3) else (1100000 - (vInt (env.val 5)).toNat, if c = 1 then 4 else if c = 4 then 2 else 1)

theorem retR_code {b : List Int} {a n code : Int} (h : getM b a n = ([], 0, code)) {env : Env} {o : Option (Nat × Nat)} {M : Mem} {s : SV} (hs : ∃ e, toIE s = some (IntKind.i64, e) ∧ e.eval env = code) :
    StepW FNw [b, [a], [n]] pcRGetR.id pcRGetR.rks (invR [b, [a], [n]]) (muR [b, [a], [n]]) o env (.ret (.tuple [.nilslice, .int .i64 0, s]) M) := by
  obtain ⟨e, h1, h2⟩ := hs
  refine .inl ⟨[_, _, _], rfl, ⟨by decide, _, rfl, ?_, trivial⟩, ⟨_, rfl, ?_⟩, ⟨e, h1, ?_⟩, rfl⟩
  · simp only [IE.reval, pcRGetR, FNw_106, h]
  · simp only [IE.eval, pcRGetR, Nat.reduceAdd, FNw_107, h, List.headD_cons]
  · simp only [h2, pcRGetR, Nat.reduceAdd, FNw_108, h, List.headD_cons]

theorem rowR_end {b : List Int} {a n p : Int} {env : Env} {o : Option (Nat × Nat)} (q3 : vInt (env.val 3) = p) (q5 : vInt (env.val 5) = ((env.row 4).length : Int)) (hg : getM b a n = (env.row 4, p, 0)) :
    StepW FNw [b, [a], [n]] pcRGetR.id pcRGetR.rks (invR [b, [a], [n]]) (muR [b, [a], [n]]) o env (.ret (.tuple [.rsl (.own 0) (.lit 0) (.var 5) 1, .sint .i64 (.var 3), .int .i64 0]) ⟨1, (.node (some ⟨2, 0, [], .nil, true, (some (.rvar 4, (.var 5, [.i64])))⟩) .nil .nil)⟩) := by
  refine .inl ⟨[_, _, _], rfl, ⟨by decide, _, rfl, ?_, ?_⟩, ⟨_, rfl, ?_⟩, ⟨_, rfl, ?_⟩, rfl⟩
  · rw [subE_eval (by simp only [IE.reval, IE.eval, q5]; simp)]
    simp only [IE.reval, IE.eval, q5, pcRGetR, FNw_106, hg]
    exact sub_all2 rfl
  · refine ⟨by simp only [IE.eval, q5]; omega, fun B r cnt ks' h1 h2 => ?_⟩
    obtain rfl := Option.some.inj h1
    cases h2
    exact Int.le_refl _
  · simp only [IE.eval, q3, pcRGetR, Nat.reduceAdd, FNw_107, hg, List.headD_cons]
  · simp only [IE.eval, pcRGetR, Nat.reduceAdd, FNw_108, hg, List.headD_cons]

theorem goR_on {b : List Int} {a n p' : Int} {out' : List Int} {z : Bool} {c j : Nat} {σ : Sb} {env : Env} (hst : Stands b a n p' out' z) (hj : (j = 1 ∧ z = false) ∨ (j = 2 ∧ z = true)) (h1 : (b.length : Int) ≤ 4294967296) (h2 : 0 ≤ n) (h3 : n ≤ 1048576) (hB : bytes8 b)
    (e0 : (upd env σ).row 0 = b) (e2 : vInt ((upd env σ).val 2) = n) (e3 : vInt ((upd env σ).val 3) = p') (e4 : (upd env σ).row 4 = out') (e5 : vInt ((upd env σ).val 5) = (out'.length : Int)) (hm : Prod.Lex (· < ·) (· < ·) (muR [b, [a], [n]] j (upd env σ)) (muR [b, [a], [n]] c env)) :
    StepW FNw [b, [a], [n]] pcRGetR.id pcRGetR.rks (invR [b, [a], [n]]) (muR [b, [a], [n]]) (some (muR [b, [a], [n]] c env)) env (.cut j σ) := by
  refine .inl ⟨⟨b, a, n, p', rfl, h1, h2, h3, hB, e0, e2, e3, ?_⟩, fun m hm' => ?_⟩
  · rcases hj with ⟨rfl, rfl⟩ | ⟨rfl, rfl⟩
    · exact .inr (.inl ⟨rfl, by rw [e4]; exact e5, by rw [e4]; exact hst⟩)
    · exact .inr (.inr (.inl ⟨rfl, by rw [e4]; exact e5, by rw [e4]; exact hst⟩))
  · cases hm'
    exact hm

theorem mu_1 {ls : List (List Int)} {c : Nat} {env env' : Env} {k : Nat} (hc : c = 0 ∨ ((c = 1 ∨ c = 2) ∧ vInt (env.val 5) < k ∧ 0 ≤ vInt (env.val 5))) (h : vInt (env'.val 5) = k) (h0 : 0 < k) (h1 : k ≤ 1048576) : Prod.Lex (· < ·) (· < ·) (muR ls 1 env') (muR ls c env) := by
  refine Prod.lex_def.2 (.inl ?_)
  rcases hc with rfl | ⟨rfl | rfl, hc, h5⟩
  · simp [muR, h]; omega
  · simp [muR, h]; omega
  · simp [muR, h]; omega

end Go.Proofs.Ytkfejcffacbngaa.J


namespace Go.Proofs.Ytkfejcffacbngaa.J

open Go Go.Sym

set_option linter.unusedVariables false

theorem wrap_less {n l : Int} (h0 : 0 ≤ l) (h : l < n) (h3 : n ≤ 1048576) : IntKind.u64.wrap (binI .sub .i64 (binI .sub .i64 n l) 1) = n - l - 1 := by
  have e1 : binI .sub .i64 n l = n - l := wrap_i64 (by omega)
  have e2 : binI .sub .i64 (n - l) 1 = n - l - 1 := wrap_i64 (by omega)
  rw [e1, e2]; exact wrap_u64 (by omega)

theorem Stands.le {b : List Int} {a n p : Int} {out : List Int} {z : Bool} (h : Stands b a n p out z) : (out.length : Int) ≤ n := by obtain ⟨_, _, h, _⟩ := h; exact h

set_option maxHeartbeats 4000000 in
theorem rgetR_ok : PcOk Try.prog FNw pcRGetR := by
  refine pc_floyd_w (cs := cutR) (base := 3) mix pcRGetR knR2_ok (Nat.le_refl 3) rgetR_rounds rgetR_entry invR muR (fun ls i env h => by
    obtain ⟨_, _, _, _, _, _, _, _, _, _, _, _, ⟨h, _⟩ | ⟨h, _⟩ | ⟨h, _⟩ | ⟨h, _⟩ | ⟨h, _⟩⟩ := h <;> simp <;> omega) ?_
  intro ls e0 hf hargs hrng hpre
  simp only [pcRGetR, ArgsE, ArgE] at hargs
  obtain ⟨b, _, rfl, ⟨hb, _⟩, a', _, rfl, ha, n', _, rfl, hn, rfl⟩ := hargs
  have hlen := (hrng.1 (.sl [.u8]) b rfl rfl).2
  simp only [measL, List.length_singleton, Nat.div_one] at hlen
  have hB : bytes8 b := bytes8_of' (l := a') (m := n') hpre.1
  obtain ⟨a, hav⟩ : ∃ z, vInt (e0.val 1) = z := ⟨_, rfl⟩
  obtain ⟨n, hnv⟩ : ∃ z, vInt (e0.val 2) = z := ⟨_, rfl⟩
  simp only [Nat.zero_add, Nat.reduceAdd, hav, hnv] at ha hn
  subst ha; subst hn
  refine ⟨?_, fun env hfn => ⟨⟨?_, ?_, ?_, ?_, ?_, trivial⟩, ⟨?_, ?_, ?_, ?_, ?_, trivial⟩⟩, ?_⟩
  · simp only [lB, atmB, AsOk_cons, AsOk_nil, BE.eval, cmpI, IE.eval, IE.reval, IE.aeval, hf, hb, hav, FNw_111 hB, List.headD_cons, Nat.div_one]
    simp; omega
  · rintro ⟨_, _, _, p, hl, h1, h2, h3, h4, q0, q2, q3, _⟩
    simp only [asR0, asB0, ltR, lB, atmB, List.cons_append, List.nil_append, AsOk_cons, AsOk_nil, BE.eval, cmpI, IE.eval, IE.reval, IE.aeval, hfn, q0, q2, FNw_111 h4, List.headD_cons, Nat.div_one]
    simp; omega
  · rintro ⟨_, _, _, p, hl, h1, h2, h3, h4, q0, q2, q3, ⟨h, _⟩ | ⟨_, q5, hs⟩ | ⟨h, _⟩ | ⟨h, _⟩ | ⟨h, _⟩⟩
    · cases h
    · have := hs.le
      simp only [asR0, asB0, asC0, ltR, lB, nonneg, atmB, List.cons_append, List.nil_append, AsOk_cons, AsOk_nil, BE.eval, cmpI, IE.eval, IE.reval, IE.aeval, hfn, q0, q2, q5, FNw_111 h4, List.headD_cons, Nat.div_one]
      simp; omega
    · cases h
    · cases h
    · cases h
  · rintro ⟨_, _, _, p, hl, h1, h2, h3, h4, q0, q2, q3, ⟨h, _⟩ | ⟨h, _⟩ | ⟨_, q5, hs⟩ | ⟨h, _⟩ | ⟨h, _⟩⟩
    · cases h
    · cases h
    · have := hs.le
      simp only [asR0, asB0, asC0, ltR, lB, nonneg, atmB, List.cons_append, List.nil_append, AsOk_cons, AsOk_nil, BE.eval, cmpI, IE.eval, IE.reval, IE.aeval, hfn, q0, q2, q5, FNw_111 h4, List.headD_cons, Nat.div_one]
      simp; omega
    · cases h
    · cases h
  · rintro ⟨_, _, _, p, hl, h1, h2, h3, h4, q0, q2, q3, ⟨h, _⟩ | ⟨h, _⟩ | ⟨h, _⟩ | ⟨_, q6, hs⟩ | ⟨h, _⟩⟩
    · cases h
    · cases h
    · cases h
    · simp only [asB0, ltR, lB, nonneg, atmB, List.cons_append, List.nil_append, AsOk_cons, AsOk_nil, BE.eval, cmpI, IE.eval, IE.reval, q0, q2, Nat.div_one]
      simp [h1, h2, h3]; exact decide_eq_false (by omega)
    · cases h
  · rintro ⟨_, _, _, p, hl, h1, h2, h3, h4, q0, q2, q3, ⟨h, _⟩ | ⟨h, _⟩ | ⟨h, _⟩ | ⟨h, _⟩ | ⟨_, out, i, q8, hi, q5, q4, hs⟩⟩
    · cases h
    · cases h
    · cases h
    · cases h
    · have hle := hs.le
      have r1 := repL_len (vInt (env.val 6) + 1) (by omega)
      have r2 := repL_len (i : Int) (by omega)
      have : ((env.row 4).length : Int) = out.length + i := by rw [q4, List.length_append]; omega
      rw [List.length_append] at hle
      simp only [asB0, asC0, ltR, lB, nonneg, atmB, List.cons_append, List.nil_append, AsOk_cons, AsOk_nil, BE.eval, cmpI, IE.eval, IE.reval, q0, q2, q5, Nat.div_one]
      simp; omega
  · rintro ⟨_, _, _, p, hl, h1, h2, h3, h4, q0, q2, q3, ⟨_, hs⟩ | ⟨h, _⟩ | ⟨h, _⟩ | ⟨h, _⟩ | ⟨h, _⟩⟩
    · simp only [List.cons.injEq, and_true] at hl
      obtain ⟨rfl, rfl, rfl⟩ := hl
      have hU0 := lebU_rng' b p (lebR b p).2
      have hM0 := lebU_rng' b (p + (lebR b p).2) (lebR b (p + (lebR b p).2)).2
      have end0 : getM b a n = ([], p, 0) → StepW FNw [b, [a], [n]] pcRGetR.id pcRGetR.rks (invR [b, [a], [n]]) (muR [b, [a], [n]]) (some (muR [b, [a], [n]] 0 env)) env (.ret (.tuple [.slice 0 0 0 0, .sint .i64 (.var 3), .int .i64 0]) ⟨1, .node (some ⟨2, 0, [], .nil, false, none⟩) .nil .nil⟩) := by
        intro hg
        refine .inr ⟨_, _, _, rfl, weak_e0, [_, _, _], rfl, ⟨by decide, _, rfl, ?_, trivial⟩, ⟨_, rfl, ?_⟩, ⟨_, rfl, ?_⟩, rfl⟩
        · simp only [IE.reval, pcRGetR, FNw_106, hg]
        · simp only [IE.eval, q3, pcRGetR, Nat.reduceAdd, FNw_107, hg, List.headD_cons]
        · simp only [IE.eval, pcRGetR, Nat.reduceAdd, FNw_108, hg, List.headD_cons]
      by_cases hn0 : 0 < n
      · have eS := wrap_less (l := 0) (Int.le_refl _) hn0 h3
        by_cases hE : (lebR b p).1 = 0
        · by_cases hE2 : (lebR b (p + (lebR b p).2)).1 = 0
          · simp only [allLeaves, AsOk_cons, AsOk_nil, BE.eval, cmpI, IE.eval, IE.reval, IE.aeval, hfn, q0, q2, q3, hE, hE2, if_true, FNw_83, FNw_84, FNw_85, FNw_111 h4, eS, List.headD_cons, Nat.div_one, and_true, true_and, decide_eq_true_eq, decide_eq_false_iff_not, not_true_eq_false, false_and, false_imp_iff]
            refine ⟨fun hA => ?_, fun hA => ?_, fun hA => ?_, fun hA => ?_⟩
            · exact goR_on (hs.num (by simpa using hn0) hE (by omega)) (.inl ⟨rfl, rfl⟩) h1 h2 h3 h4 (by simp [upd, lk_cons, lk_nil, q0]) (by simp [upd, lk_cons, lk_nil, q2]) (by simp [upd, lk_cons, lk_nil, IE.eval, IE.reval, IE.aeval, hfn, q0, q3, hE, FNw_84, vInt_int]) (by simp [upd, lk_cons, lk_nil, IE.eval, IE.reval, IE.aeval, hfn, q0, q3, hE, FNw_83, FNw_112, unfD_M hU0.1]) (by simp [upd, lk_cons, lk_nil, IE.eval, vInt_int]) (mu_1 (k := 1) (.inl rfl) (by simp [upd, lk_cons, lk_nil, IE.eval, vInt_int]) (by omega) (by omega))
            · exact retR_code (hs.many (by simpa using hn0) hE (by omega) hE2 (by simp; omega)) ⟨_, rfl, rfl⟩
            · have hz := hs.zeros (by simpa using hn0) hE (by omega) hE2 (by simp; omega)
              refine .inl ⟨⟨b, a, n, p, rfl, h1, h2, h3, h4, ?_, ?_, ?_, .inr (.inr (.inr (.inl ⟨rfl, ?_, ?_⟩)))⟩, fun m hm => ?_⟩
              · simp [upd, lk_nil, q0]
              · simp [upd, lk_cons, lk_nil, q2]
              · simp [upd, lk_cons, lk_nil, IE.eval, q3, vInt_int]
              · simp only [upd, lk_cons, lk_nil, Nat.reduceEqDiff, if_false, if_true, IE.eval, IE.reval, IE.aeval, hfn, q0, q3, hE, hE2, FNw_83, FNw_84, List.headD_cons, vInt_int]
                exact hM0.1
              · simpa [upd, lk_cons, lk_nil, IE.eval, IE.reval, IE.aeval, hfn, q0, q3, hE, hE2, FNw_83, FNw_84, vInt_int] using hz
              · cases hm
                exact Prod.lex_def.2 (.inr ⟨rfl, by simp [muR]⟩)
            · exfalso; omega
          · simp only [allLeaves, AsOk_cons, AsOk_nil, BE.eval, cmpI, IE.eval, IE.reval, IE.aeval, hfn, q0, q2, q3, hE, hE2, if_true, if_false, FNw_83, FNw_84, FNw_85, FNw_111 h4, eS, List.headD_cons, Nat.div_one, and_true, true_and, decide_eq_true_eq, decide_eq_false_iff_not, not_true_eq_false, not_false_eq_true, false_and, and_false, false_imp_iff]
            refine ⟨fun hA => ?_, fun hA => ?_, fun hA => ?_⟩
            · exact goR_on (hs.num (by simpa using hn0) hE (by omega)) (.inl ⟨rfl, rfl⟩) h1 h2 h3 h4 (by simp [upd, lk_cons, lk_nil, q0]) (by simp [upd, lk_cons, lk_nil, q2]) (by simp [upd, lk_cons, lk_nil, IE.eval, IE.reval, IE.aeval, hfn, q0, q3, hE, FNw_84, vInt_int]) (by simp [upd, lk_cons, lk_nil, IE.eval, IE.reval, IE.aeval, hfn, q0, q3, hE, FNw_83, FNw_112, unfD_M hU0.1]) (by simp [upd, lk_cons, lk_nil, IE.eval, vInt_int]) (mu_1 (k := 1) (.inl rfl) (by simp [upd, lk_cons, lk_nil, IE.eval, vInt_int]) (by omega) (by omega))
            · exact retR_code (hs.code2 (by simpa using hn0) hE (by omega) hE2) ⟨_, rfl, by simp only [IE.eval, IE.reval, IE.aeval, hfn, q0, q3, hE, if_true, FNw_84, FNw_85, List.headD_cons]⟩
            · exfalso; omega
        · simp only [allLeaves, AsOk_cons, AsOk_nil, BE.eval, cmpI, IE.eval, IE.reval, IE.aeval, hfn, q0, q2, q3, hE, if_false, FNw_83, FNw_84, FNw_85, FNw_111 h4, eS, List.headD_cons, Nat.div_one, and_true, true_and, decide_eq_true_eq, decide_eq_false_iff_not, not_false_eq_true, false_and, and_false, false_imp_iff]
          refine ⟨fun hA => ?_, fun hA => ?_⟩
          · exact retR_code (hs.code (by simpa using hn0) hE) ⟨_, rfl, by simp only [IE.eval, IE.reval, IE.aeval, hfn, q0, q3, FNw_85, List.headD_cons]⟩
          · exfalso; omega
      · simp only [allLeaves, AsOk_cons, AsOk_nil, BE.eval, cmpI, IE.eval, IE.reval, IE.aeval, hfn, q0, q2, q3, hn0, decide_false, Bool.false_eq_true, FNw_111 h4, List.headD_cons, Nat.div_one, and_true, true_and, decide_eq_true_eq, decide_eq_false_iff_not, false_and, and_false, false_imp_iff]
        exact fun hA => end0 (hs.done (by simpa using hn0))
    · cases h
    · cases h
    · cases h
    · cases h
  · rintro ⟨_, _, _, p, hl, h1, h2, h3, h4, q0, q2, q3, ⟨h, _⟩ | ⟨_, q5, hs⟩ | ⟨h, _⟩ | ⟨h, _⟩ | ⟨h, _⟩⟩
    · cases h
    · simp only [List.cons.injEq, and_true] at hl
      obtain ⟨rfl, rfl, rfl⟩ := hl
      obtain ⟨out, hout⟩ : ∃ o, env.row 4 = o := ⟨_, rfl⟩
      have hend := rowR_end (b := b) (a := a) (n := n) (o := some (muR [b, [a], [n]] 1 env)) q3 q5
      rw [hout] at q5 hs hend
      have hle := hs.le
      have hU0 := lebU_rng' b p (lebR b p).2
      have hM0 := lebU_rng' b (p + (lebR b p).2) (lebR b (p + (lebR b p).2)).2
      by_cases hlt : (out.length : Int) < n
      · have eS := wrap_less (l := (out.length : Int)) (by omega) hlt h3
        by_cases hE : (lebR b p).1 = 0
        · by_cases hE2 : (lebR b (p + (lebR b p).2)).1 = 0
          · simp only [allLeaves, AsOk_cons, AsOk_nil, BE.eval, cmpI, IE.eval, IE.reval, IE.aeval, hfn, q0, q2, q3, q5, hE, hE2, if_true, FNw_83, FNw_84, FNw_85, FNw_111 h4, eS, List.headD_cons, Nat.div_one, and_true, true_and, decide_eq_true_eq, decide_eq_false_iff_not, not_true_eq_false, false_and, false_imp_iff]
            refine ⟨fun hA => ?_, fun hA => ?_, fun hA => ?_, fun hA => ?_⟩
            · exact goR_on (hs.num hlt hE (by omega)) (.inl ⟨rfl, rfl⟩) h1 h2 h3 h4 (by simp [upd, lk_cons, lk_nil, q0]) (by simp [upd, lk_cons, lk_nil, q2]) (by simp [upd, lk_cons, lk_nil, IE.eval, IE.reval, IE.aeval, hfn, q0, q3, hE, FNw_84, vInt_int]) (by simp [upd, lk_cons, lk_nil, IE.eval, IE.reval, IE.aeval, hfn, q0, q3, hout, hE, FNw_83, FNw_112, unfD_M hU0.1]) (by simp [upd, lk_cons, lk_nil, IE.eval, q5, vInt_int]) (mu_1 (k := out.length + 1) (.inr ⟨.inl rfl, by rw [q5]; omega, by rw [q5]; omega⟩) (by simp [upd, lk_cons, lk_nil, IE.eval, q5, vInt_int]) (by omega) (by omega))
            · exact retR_code (hs.many hlt hE (by omega) hE2 (by omega)) ⟨_, rfl, rfl⟩
            · have hz := hs.zeros hlt hE (by omega) hE2 (by omega)
              refine .inl ⟨⟨b, a, n, p, rfl, h1, h2, h3, h4, ?_, ?_, ?_, .inr (.inr (.inr (.inr ⟨rfl, out, 0, ?_, ?_, ?_, ?_, ?_⟩)))⟩, fun m hm => ?_⟩
              · simp [upd, lk_nil, lk_cons, q0]
              · simp [upd, lk_cons, lk_nil, q2]
              · simp [upd, lk_cons, lk_nil, IE.eval, q3, vInt_int]
              · simp [upd, lk_cons, lk_nil, IE.eval, vInt_int]
              · simp only [upd, lk_cons, lk_nil, Nat.reduceEqDiff, if_false, if_true, IE.eval, IE.reval, IE.aeval, hfn, q0, q3, hE, hE2, FNw_83, FNw_84, List.headD_cons, vInt_int]
                omega
              · simp [upd, lk_cons, lk_nil, IE.eval, IE.reval, q5, hout, vInt_int]
              · simp [upd, lk_cons, lk_nil, IE.reval, hout, repL]
              · simpa [upd, lk_cons, lk_nil, IE.eval, IE.reval, IE.aeval, hfn, q0, q3, hE, hE2, FNw_83, FNw_84, vInt_int] using hz
              · cases hm
                exact Prod.lex_def.2 (.inr ⟨by simp [muR, upd, lk_cons, lk_nil, IE.eval, vInt_int], by simp [muR]⟩)
            · exfalso; omega
          · simp only [allLeaves, AsOk_cons, AsOk_nil, BE.eval, cmpI, IE.eval, IE.reval, IE.aeval, hfn, q0, q2, q3, q5, hE, hE2, if_true, if_false, FNw_83, FNw_84, FNw_85, FNw_111 h4, eS, List.headD_cons, Nat.div_one, and_true, true_and, decide_eq_true_eq, decide_eq_false_iff_not, not_true_eq_false, not_false_eq_true, false_and, and_false, false_imp_iff]
            refine ⟨fun hA => ?_, fun hA => ?_, fun hA => ?_⟩
            · exact goR_on (hs.num hlt hE (by omega)) (.inl ⟨rfl, rfl⟩) h1 h2 h3 h4 (by simp [upd, lk_cons, lk_nil, q0]) (by simp [upd, lk_cons, lk_nil, q2]) (by simp [upd, lk_cons, lk_nil, IE.eval, IE.reval, IE.aeval, hfn, q0, q3, hE, FNw_84, vInt_int]) (by simp [upd, lk_cons, lk_nil, IE.eval, IE.reval, IE.aeval, hfn, q0, q3, hout, hE, FNw_83, FNw_112, unfD_M hU0.1]) (by simp [upd, lk_cons, lk_nil, IE.eval, q5, vInt_int]) (mu_1 (k := out.length + 1) (.inr ⟨.inl rfl, by rw [q5]; omega, by rw [q5]; omega⟩) (by simp [upd, lk_cons, lk_nil, IE.eval, q5, vInt_int]) (by omega) (by omega))
            · exact retR_code (hs.code2 hlt hE (by omega) hE2) ⟨_, rfl, by simp only [IE.eval, IE.reval, IE.aeval, hfn, q0, q3, hE, if_true, FNw_84, FNw_85, List.headD_cons]⟩
            · exfalso; omega
        · simp only [allLeaves, AsOk_cons, AsOk_nil, BE.eval, cmpI, IE.eval, IE.reval, IE.aeval, hfn, q0, q2, q3, q5, hE, if_false, FNw_83, FNw_84, FNw_85, FNw_111 h4, eS, List.headD_cons, Nat.div_one, and_true, true_and, decide_eq_true_eq, decide_eq_false_iff_not, not_false_eq_true, false_and, and_false, false_imp_iff]
          refine ⟨fun hA => ?_, fun hA => ?_⟩
          · exact retR_code (hs.code hlt hE) ⟨_, rfl, by simp only [IE.eval, IE.reval, IE.aeval, hfn, q0, q3, FNw_85, List.headD_cons]⟩
          · exfalso; omega
      · simp only [allLeaves, AsOk_cons, AsOk_nil, BE.eval, cmpI, IE.eval, IE.reval, IE.aeval, hfn, q0, q2, q3, q5, hlt, decide_false, Bool.false_eq_true, FNw_83, FNw_84, FNw_85, FNw_111 h4, List.headD_cons, Nat.div_one, and_true, true_and, decide_eq_true_eq, decide_eq_false_iff_not, false_and, and_false, false_imp_iff]
        exact fun hA => hend (hs.done hlt)
    · cases h
    · cases h
    · cases h
  · rintro ⟨_, _, _, p, hl, h1, h2, h3, h4, q0, q2, q3, ⟨h, _⟩ | ⟨h, _⟩ | ⟨_, q5, hs⟩ | ⟨h, _⟩ | ⟨h, _⟩⟩
    · cases h
    · cases h
    · simp only [List.cons.injEq, and_true] at hl
      obtain ⟨rfl, rfl, rfl⟩ := hl
      obtain ⟨out, hout⟩ : ∃ o, env.row 4 = o := ⟨_, rfl⟩
      have hend := rowR_end (b := b) (a := a) (n := n) (o := some (muR [b, [a], [n]] 2 env)) q3 q5
      rw [hout] at q5 hs hend
      have hle := hs.le
      have hU0 := lebU_rng' b p (lebR b p).2
      by_cases hlt : (out.length : Int) < n
      · by_cases hE : (lebR b p).1 = 0
        · simp only [allLeaves, AsOk_cons, AsOk_nil, BE.eval, cmpI, IE.eval, IE.reval, IE.aeval, hfn, q0, q2, q3, q5, hE, if_true, FNw_83, FNw_84, FNw_85, FNw_111 h4, List.headD_cons, Nat.div_one, and_true, true_and, decide_eq_true_eq, decide_eq_false_iff_not, not_true_eq_false, false_and, false_imp_iff]
          refine ⟨fun hA => ?_, fun hA => ?_, fun hA => ?_⟩
          · exact goR_on (hs.num hlt hE (by omega)) (.inl ⟨rfl, rfl⟩) h1 h2 h3 h4 (by simp [upd, lk_cons, lk_nil, q0]) (by simp [upd, lk_cons, lk_nil, q2]) (by simp [upd, lk_cons, lk_nil, IE.eval, IE.reval, IE.aeval, hfn, q0, q3, hE, FNw_84, vInt_int]) (by simp [upd, lk_cons, lk_nil, IE.eval, IE.reval, IE.aeval, hfn, q0, q3, hout, hE, FNw_83, FNw_112, unfD_M hU0.1]) (by simp [upd, lk_cons, lk_nil, IE.eval, q5, vInt_int]) (mu_1 (k := out.length + 1) (.inr ⟨.inr rfl, by rw [q5]; omega, by rw [q5]; omega⟩) (by simp [upd, lk_cons, lk_nil, IE.eval, q5, vInt_int]) (by omega) (by omega))
          · exact retR_code (hs.twice hlt hE (by omega)) ⟨_, rfl, rfl⟩
          · exfalso; omega
        · simp only [allLeaves, AsOk_cons, AsOk_nil, BE.eval, cmpI, IE.eval, IE.reval, IE.aeval, hfn, q0, q2, q3, q5, hE, if_false, FNw_83, FNw_84, FNw_85, FNw_111 h4, List.headD_cons, Nat.div_one, and_true, true_and, decide_eq_true_eq, decide_eq_false_iff_not, not_false_eq_true, false_and, and_false, false_imp_iff]
          refine ⟨fun hA => ?_, fun hA => ?_⟩
          · exact retR_code (hs.code hlt hE) ⟨_, rfl, by simp only [IE.eval, IE.reval, IE.aeval, hfn, q0, q3, FNw_85, List.headD_cons]⟩
          · exfalso; omega
      · simp only [allLeaves, AsOk_cons, AsOk_nil, BE.eval, cmpI, IE.eval, IE.reval, IE.aeval, hfn, q0, q2, q3, q5, hlt, decide_false, Bool.false_eq_true, FNw_83, FNw_84, FNw_85, FNw_111 h4, List.headD_cons, Nat.div_one, and_true, true_and, decide_eq_true_eq, decide_eq_false_iff_not, false_and, and_false, false_imp_iff]
        exact fun hA => hend (hs.done hlt)
    · cases h
    · cases h
  · rintro ⟨_, _, _, p, hl, h1, h2, h3, h4, q0, q2, q3, ⟨h, _⟩ | ⟨h, _⟩ | ⟨h, _⟩ | ⟨_, q6, hs⟩ | ⟨h, _⟩⟩
    · cases h
    · cases h
    · cases h
    · simp only [List.cons.injEq, and_true] at hl
      obtain ⟨rfl, rfl, rfl⟩ := hl
      refine ⟨fun hA => ?_, trivial⟩
      refine .inl ⟨⟨b, a, n, p, rfl, h1, h2, h3, h4, ?_, ?_, ?_, .inr (.inr (.inr (.inr ⟨rfl, [], 1, ?_, ?_, ?_, ?_, ?_⟩)))⟩, fun m hm => ?_⟩
      · simp [upd, lk_nil, lk_cons, q0]
      · simp [upd, lk_cons, lk_nil, q2]
      · simp [upd, lk_cons, lk_nil, IE.eval, q3, vInt_int]
      · simp [upd, lk_cons, lk_nil, IE.eval, vInt_int]
      · simp [upd, lk_cons, lk_nil, IE.eval, vInt_int]; omega
      · simp [upd, lk_cons, lk_nil, IE.eval, IE.reval, vInt_int]
      · simp [upd, lk_cons, lk_nil, IE.eval, IE.reval, repL]
      · simpa [upd, lk_cons, lk_nil, IE.eval, vInt_int] using hs
      · cases hm
        exact Prod.lex_def.2 (.inl (by simp [muR, upd, lk_cons, lk_nil, IE.eval, vInt_int]))
    · cases h
  · rintro ⟨_, _, _, p, hl, h1, h2, h3, h4, q0, q2, q3, ⟨h, _⟩ | ⟨h, _⟩ | ⟨h, _⟩ | ⟨h, _⟩ | ⟨_, out, i, q8, hi, q5, q4, hs⟩⟩
    · cases h
    · cases h
    · cases h
    · cases h
    · simp only [List.cons.injEq, and_true] at hl
      obtain ⟨rfl, rfl, rfl⟩ := hl
      have hle := hs.le
      obtain ⟨m, hm⟩ : ∃ m, vInt (env.val 6) = m := ⟨_, rfl⟩
      rw [hm] at hi hs hle
      have r1 := repL_len (m + 1) (by omega)
      have r2 := repL_len (i : Int) (by omega)
      have hl5 : ((env.row 4).length : Int) = out.length + i := by rw [q4, List.length_append]; omega
      rw [List.length_append] at hle
      have e8 : binI .add .u64 (i : Int) 1 = (i : Int) + 1 := wrap_u64 (by omega)
      simp only [allLeaves, AsOk_cons, AsOk_nil, BE.eval, cmpI, IE.eval, IE.reval, q0, q2, q5, q8, hm, Nat.div_one, and_true, decide_eq_true_eq, decide_eq_false_iff_not]
      refine ⟨fun hA => ?_, fun hA => ?_⟩
      · have hi' : (i : Int) = m + 1 := by omega
        rw [← hi', ← q4] at hs
        exact goR_on hs (.inr ⟨rfl, rfl⟩) h1 h2 h3 h4 (by simp [upd, lk_cons, lk_nil, q0]) (by simp [upd, lk_cons, lk_nil, q2]) (by simp [upd, lk_cons, lk_nil, IE.eval, vInt_int]) (by simp [upd, lk_cons, lk_nil, IE.reval]) (by simp [upd, lk_cons, lk_nil, IE.eval, q5, vInt_int]) (Prod.lex_def.2 (.inr ⟨by simp [muR, upd, lk_cons, lk_nil, IE.eval, vInt_int], by simp [muR]⟩))
      · refine .inl ⟨⟨b, a, n, p, rfl, h1, h2, h3, h4, ?_, ?_, ?_, .inr (.inr (.inr (.inr ⟨rfl, out, i + 1, ?_, ?_, ?_, ?_, ?_⟩)))⟩, fun m' hm' => ?_⟩
        · simp [upd, lk_nil, lk_cons, q0]
        · simp [upd, lk_cons, lk_nil, q2]
        · simp [upd, lk_cons, lk_nil, IE.eval, q3, vInt_int]
        · simp [upd, lk_cons, lk_nil, IE.eval, q8, e8, vInt_int]
        · simp [upd, lk_cons, lk_nil, IE.eval, hm, vInt_int]; omega
        · simp [upd, lk_cons, lk_nil, IE.eval, IE.reval, q5, vInt_int]
        · simp [upd, lk_cons, lk_nil, IE.eval, IE.reval, q4, repL_succ]
        · simpa [upd, lk_cons, lk_nil, IE.eval, hm, vInt_int] using hs
        · cases hm'
          exact Prod.lex_def.2 (.inl (by simp [muR, upd, lk_cons, lk_nil, IE.eval, q5, vInt_int]; omega))
  · have no11 : a < 0 ∨ (b.length : Int) < a ∨ n < 0 ∨ 1048576 < n → getM b a n = ([], 0, 11) := fun h => by rw [getM, if_pos h]
    simp only [allLeaves, AsOk_cons, AsOk_nil, BE.eval, cmpI, IE.eval, IE.reval, IE.aeval, hf, hb, hav, hnv, FNw_111 hB, List.headD_cons, Nat.div_one, and_true, decide_true, decide_eq_true_eq, decide_eq_false_iff_not]
    refine ⟨fun hA => retR_code (no11 (.inl hA.1)) ⟨_, rfl, rfl⟩, fun hA => retR_code (no11 (.inr (.inl hA.1))) ⟨_, rfl, rfl⟩, fun hA => retR_code (no11 (.inr (.inr (.inl hA.1)))) ⟨_, rfl, rfl⟩, fun hA => retR_code (no11 (.inr (.inr (.inr hA.1)))) ⟨_, rfl, rfl⟩, fun hA => ?_⟩
    refine .inl (stepG_cut0 ⟨b, a, n, a, rfl, hlen, by omega, by omega, hB, ?_, ?_, ?_, .inl ⟨rfl, Stands.start (by omega) (by omega) (by omega) (by omega)⟩⟩)
    · simp [upd, lk_nil, hb]
    · simp [upd, lk_cons, lk_nil, hnv]
    · simp [upd, lk_cons, lk_nil, IE.eval, hav, vInt_int]

end Go.Proofs.Ytkfejcffacbngaa.J


namespace Go.Proofs.Ytkfejcffacbngaa.J

open Go Go.Sym

set_option linter.unusedVariables false

abbrev sameE : BE × Bool := (.cmp .eql (.app 110 (.acons .rnil (.acons .rnil .anil))) (.lit 0), false)
end Go.Proofs.Ytkfejcffacbngaa.J


namespace Go.Proofs.Ytkfejcffacbngaa.J

open Go Go.Sym

set_option linter.unusedVariables false

theorem drop_sel {b : List Int} {p k c : Nat} (h : p + k < b.length) (hc : selL b ((p : Int) + k) 1 0 = c) : b.drop (p + k) = (c : Int) :: b.drop (p + k + 1) := by
  rw [List.drop_eq_getElem_cons h]
  have e : selL b ((p : Int) + k) 1 0 = b[p + k] := by
    have : ((p : Int) + (k : Int)).toNat = p + k := by omega
    simp [selL, this, h]
  rw [← hc, e]

/-- A NUMBER HAS ONE FORM. -/
theorem lebC_canon {b : List Int} {p : Nat} (hB : bytes8 b) : ∀ (j : Nat), j ≤ 10 → ∀ (K q : Nat), lebC b (p : Int) j (10 - j) = (0, K) → lebU b (p : Int) (10 - j) = q → q < 2 ^ (7 * (10 - j)) →
    ∃ v : Nat, v < 2 ^ (7 * j - 6) ∧ (j < 10 → 0 < v) ∧ K = (10 - j) + (lebN j (v : Int)).length ∧ p + K ≤ b.length ∧ b.drop (p + (10 - j)) = lebN j (v : Int) ++ b.drop (p + K) ∧ lebU b (p : Int) K = ((2 ^ (7 * (10 - j)) * v + q : Nat) : Int) := by
  intro j
  induction j with
  | zero => intro _ K q h _ _; rw [lebC] at h; cases h
  | succ j ih =>
    intro hj K q h hq hl
    obtain ⟨k, hk⟩ : ∃ k, 10 - (j + 1) = k := ⟨_, rfl⟩
    rw [hk] at h hq hl ⊢
    have hjk : 10 - j = k + 1 := by omega
    rw [lebC] at h
    split at h
    · cases h
    · rename_i hin
      obtain ⟨c, hc, hc2⟩ := sel_byte (k := k) hB (a := (p : Int)) (by omega) (by omega)
      have hd := drop_sel (b := b) (p := p) (k := k) (by omega) hc
      rw [hc] at h
      split at h
      · cases h
      · rename_i hform
        have hmb := more_bits (b := b) (a := (p : Int)) (k := k) (by omega) hq hl hc hc2 (fun h9 => by omega)
        split at h
        · rename_i h128
          simp only [Prod.mk.injEq, true_and] at h
          subst h
          have hcm : c % 128 = c := by omega
          rw [hcm] at hmb
          refine ⟨c, ?_, fun h10 => by omega, ?_, by omega, ?_, hmb.1⟩
          · by_cases hj0 : j = 0
            · subst hj0; simp; omega
            · have : (2 : Nat) ^ 8 ≤ 2 ^ (7 * (j + 1) - 6) := Nat.pow_le_pow_right (by omega) (by omega)
              omega
          · rw [lebN_lt (by omega)]; simp
          · rw [lebN_lt (by omega), hd]; rfl
        · rename_i h128
          rw [← hjk] at h hmb
          obtain ⟨v, v1, v2, v3, v4, v5, v6⟩ := ih (by omega) K _ h hmb.1 hmb.2.2
          have hv := v2 (by omega)
          have e1 : (((v * 128 + (c - 128) : Nat) : Int)) % 128 + 128 = c := by omega
          have e2 : (((v * 128 + (c - 128) : Nat) : Int)) / 128 = v := by omega
          have hj0 : j ≠ 0 := by
            rintro rfl
            simp at v1; omega
          have e7 : (2 : Nat) ^ (7 * (10 - j)) = 2 ^ (7 * k) * 128 := by rw [show 7 * (10 - j) = 7 * k + 7 by omega, Nat.pow_add]
          refine ⟨v * 128 + (c - 128), ?_, fun _ => by omega, ?_, v4, ?_, ?_⟩
          · have : (2 : Nat) ^ (7 * (j + 1) - 6) = 128 * 2 ^ (7 * j - 6) := by rw [show 7 * (j + 1) - 6 = 7 + (7 * j - 6) by omega, Nat.pow_add]
            rw [this]
            have : 128 * (v + 1) ≤ 128 * 2 ^ (7 * j - 6) := Nat.mul_le_mul_left _ (by omega)
            omega
          · rw [lebN_ge (by omega), e2, v3]; simp; omega
          · rw [lebN_ge (by omega), e1, e2, hd, List.cons_append, ← v5, hjk]; rfl
          · rw [v6, e7]
            have : 2 ^ (7 * k) * (v * 128 + (c - 128)) = 2 ^ (7 * k) * 128 * v + 2 ^ (7 * k) * (c % 128) := by
              rw [Nat.mul_add, Nat.mul_assoc, Nat.mul_comm 128 v, show c - 128 = c % 128 by omega]
            rw [this]; omega

theorem leb_canon {b : List Int} {p : Nat} (hB : bytes8 b) (h : (lebR b (p : Int)).1 = 0) : ∃ u : Nat, u < 18446744073709551616 ∧ lebU b (p : Int) (lebR b (p : Int)).2 = u ∧ (lebR b (p : Int)).2 = (lebN 10 (u : Int)).length ∧ p + (lebR b (p : Int)).2 ≤ b.length ∧ b.drop p = lebN 10 (u : Int) ++ b.drop (p + (lebR b (p : Int)).2) := by
  have hr : lebR b (p : Int) = (0, (lebR b (p : Int)).2) := by rw [← h]
  generalize (lebR b (p : Int)).2 = K at hr ⊢
  rw [lebR] at hr
  split at hr
  · obtain ⟨v, v1, v2, v3, v4, v5, v6⟩ := lebC_canon (p := p) hB 10 (Nat.le_refl _) K 0 hr (by simp [lebU]) (by decide)
    exact ⟨v, by simpa using v1, by simpa using v6, by simpa using v3, v4, by simpa using v5⟩
  · cases hr

theorem fold_unf {u : Int} (h0 : 0 ≤ u) (h1 : u < 18446744073709551616) : foldM (unfM u) = u ∧ -9223372036854775808 ≤ unfM u ∧ unfM u ≤ 9223372036854775807 := by
  have hr : binI .rem .u64 u 2 = u % 2 := by show u.tmod 2 = u % 2; rw [Int.tmod_eq_emod_of_nonneg h0]
  have hq : binI .quo .u64 u 2 = u / 2 := by
    show IntKind.u64.wrap (u.tdiv 2) = u / 2
    rw [Int.tdiv_eq_ediv_of_nonneg h0]; exact wrap_u64 (by omega)
  have hw : IntKind.i64.wrap (u / 2) = u / 2 := wrap_i64 (by omega)
  have hv : unfM u = if u % 2 = 1 then 0 - u / 2 - 1 else u / 2 := by
    unfold unfM
    rw [hr, hq, hw]
    have t1 : binI .sub .i64 0 (u / 2) = 0 - u / 2 := wrap_i64 (by omega)
    have t2 : binI .sub .i64 (0 - u / 2) 1 = 0 - u / 2 - 1 := wrap_i64 (by omega)
    rw [t1, t2]
  rw [hv]
  split
  · refine ⟨?_, by omega, by omega⟩
    rw [foldM_val (by omega) (by omega), if_pos (by omega)]; omega
  · refine ⟨?_, by omega, by omega⟩
    rw [foldM_val (by omega) (by omega), if_neg (by omega)]; omega

theorem zc_repL (m : Nat) {l : List Int} (h : l.head? ≠ some 0) : zc (List.replicate m 0 ++ l) = m := by
  induction m with
  | zero =>
    cases l with
    | nil => rfl
    | cons x l => simp at h; simp [zc, h]
  | succ m ih => rw [List.replicate_succ, List.cons_append, zc, if_pos rfl, ih]

/-- WHAT IS GOT IS PUT AS IT WAS. -/
theorem getF_canon {b : List Int} {n : Nat} (hB : bytes8 b) (hn : n ≤ 1048576) : ∀ (f : Nat) (p : Nat) (out : List Int) (z : Bool) (res : List Int) (e : Int), getF b n f (p : Int) out z = (res, e, 0) → p ≤ b.length → out.length ≤ n → n < out.length + f →
    ∃ (l : List Int) (e' : Nat), e = e' ∧ res = out ++ l ∧ n = out.length + l.length ∧ p ≤ e' ∧ e' ≤ b.length ∧ (z = true → l.head? ≠ some 0) ∧ b.drop p = putS (runsL l) ++ b.drop e' := by
  intro f
  induction f with
  | zero => intro p out z res e h hp ho hf; omega
  | succ f ih =>
    intro p out z res e h hp ho hf
    rw [getF] at h
    split at h
    · simp only [Prod.mk.injEq, and_true] at h
      obtain ⟨rfl, rfl⟩ := h
      exact ⟨[], p, rfl, by simp, by simp; omega, Nat.le_refl _, hp, fun _ => by simp, by simp [runsL, runsF, putS]⟩
    split at h
    · rename_i h1 h2
      simp only [Prod.mk.injEq] at h
      exact absurd h.2.2 h2
    rename_i h1 h2
    have h2 : (lebR b (p : Int)).1 = 0 := by omega
    obtain ⟨u, u1, u2, u3, u4, u5⟩ := leb_canon hB h2
    obtain ⟨k, hk⟩ : ∃ k, (lebR b (p : Int)).2 = k := ⟨_, rfl⟩
    rw [hk] at u2 u3 u4 u5 h
    rw [u2, cast_add p k] at h
    split at h
    · rename_i hu
      obtain ⟨l, e', q1, q2, q3, q4, q5, q6, q7⟩ := ih _ _ _ _ _ h u4 (by simp; omega) (by simp; omega)
      obtain ⟨f1, f2, f3⟩ := fold_unf (u := (u : Int)) (by omega) (by omega)
      have hx : unfM (u : Int) ≠ 0 := by
        intro h0
        rw [h0] at f1
        exact hu (by rw [← f1]; decide)
      refine ⟨unfM (u : Int) :: l, e', q1, by rw [q2]; simp, by rw [q3]; simp; omega, by omega, q5, fun _ => by simpa using hx, ?_⟩
      rw [runsL_cons, rl_one hx, putS_cons, putB_num hx, f1, u5, List.drop_succ_cons, List.drop_zero, List.append_assoc, ← q7]
    split at h
    · cases h
    rename_i hu hz
    have hz : z = false := by simpa using hz
    have hu0 : u = 0 := by omega
    split at h
    · rename_i h3
      simp only [Prod.mk.injEq] at h
      exact absurd h.2.2 h3
    rename_i h3
    have h3 : (lebR b ((p + k : Nat) : Int)).1 = 0 := by omega
    obtain ⟨m, m1, m2, m3, m4, m5⟩ := leb_canon hB h3
    obtain ⟨k2, hk2⟩ : ∃ k2, (lebR b ((p + k : Nat) : Int)).2 = k2 := ⟨_, rfl⟩
    rw [hk2] at m2 m3 m4 m5 h
    rw [m2, cast_add (p + k) k2] at h
    split at h
    · cases h
    rename_i hm
    rw [show ((m : Int) + 1) = ((m + 1 : Nat) : Int) by omega, repL_rep] at h
    obtain ⟨l, e', q1, q2, q3, q4, q5, q6, q7⟩ := ih _ _ _ _ _ h m4 (by simp; omega) (by simp; omega)
    have hl := q6 rfl
    refine ⟨List.replicate (m + 1) 0 ++ l, e', q1, by rw [q2]; simp, by rw [q3]; simp; omega, by omega, q5, fun h => (by rw [hz] at h; cases h), ?_⟩
    have hrl : rl (0 :: (List.replicate m 0 ++ l)) = m + 1 := by rw [rl, if_pos rfl, zc_repL m hl]
    have e1 : IntKind.i64.wrap (((m + 1 : Nat) : Int) - 1) = (m : Int) := by rw [wrap_i64 (by omega)]; omega
    have e2 : IntKind.u64.wrap (m : Int) = (m : Int) := wrap_u64 (by omega)
    have e3 : (List.replicate m (0 : Int) ++ l).drop m = l := List.drop_left' (by simp)
    rw [List.replicate_succ, List.cons_append, runsL_cons, hrl, putS_cons, putB_zero, e1, e2, List.drop_succ_cons, e3, u5, hu0, show lebN 10 ((0 : Nat) : Int) = [0] by decide, m5, q7]
    simp

theorem get_canon {b : List Int} {a n : Int} {res : List Int} {e : Int} (hB : bytes8 b) (h : getM b a n = (res, e, 0)) : 0 ≤ a ∧ a ≤ e ∧ e ≤ b.length ∧ (res.length : Int) = n ∧ n ≤ 1048576 ∧ putS (runsL res) = (b.drop a.toNat).take (e - a).toNat := by
  rw [getM] at h
  split at h
  · cases h
  · rename_i hn
    obtain ⟨p, rfl⟩ : ∃ p : Nat, a = p := ⟨a.toNat, by omega⟩
    obtain ⟨l, e', rfl, q2, q3, q4, q5, q6, q7⟩ := getF_canon hB (by omega) _ p [] false res e h (by omega) (by simp) (by simp)
    rw [List.nil_append] at q2
    subst q2
    refine ⟨by omega, by omega, by omega, by simp at q3; omega, by omega, ?_⟩
    rw [Int.toNat_natCast, q7]
    have hl := congrArg List.length q7
    rw [List.length_append, List.length_drop, List.length_drop] at hl
    rw [List.take_left' (by omega)]

end Go.Proofs.Ytkfejcffacbngaa.J


namespace Go.Proofs.Ytkfejcffacbngaa.J

open Go Go.Sym

set_option linter.unusedVariables false

theorem u_w {c : Pc} (h : PcOk Try.prog FNu c) (h1 : ∀ i, i < c.rks.length → c.id + i ≠ 112 ∧ c.id + i ≠ 111) (h2 : c.pre = []) : PcOk Try.prog FNw c := by
  refine h.cong (fun i hi => ?_) (fun i hi => by rw [h2] at hi; cases hi)
  have := h1 i hi
  generalize c.id + i = j at this
  funext l
  unfold FNw
  split
  · omega
  · unfold FNv
    split <;> first | omega | rfl

theorem getM_code {b : List Int} {a n : Int} (h : (getM b a n).2.2 ≠ 0) : (getM b a n).1 = [] := by
  have key : ∀ (f : Nat) (N : Nat) (p : Int) (out : List Int) (z : Bool), (getF b N f p out z).2.2 ≠ 0 → (getF b N f p out z).1 = [] := by
    intro f N
    induction f with
    | zero => intro p out z h; rfl
    | succ f ih =>
      intro p out z h
      rw [getF] at h ⊢
      by_cases c1 : N ≤ out.length
      · rw [if_pos c1] at h; exact absurd rfl h
      rw [if_neg c1] at h ⊢
      by_cases c2 : (lebR b p).1 ≠ 0
      · rw [if_pos c2]
      rw [if_neg c2] at h ⊢
      by_cases c3 : lebU b p (lebR b p).2 ≠ 0
      · rw [if_pos c3] at h ⊢; exact ih _ _ _ h
      rw [if_neg c3] at h ⊢
      by_cases c4 : z = true
      · rw [if_pos c4]
      rw [if_neg c4] at h ⊢
      by_cases c5 : (lebR b (p + (lebR b p).2)).1 ≠ 0
      · rw [if_pos c5]
      rw [if_neg c5] at h ⊢
      by_cases c6 : (N : Int) - out.length ≤ lebU b (p + (lebR b p).2) (lebR b (p + (lebR b p).2)).2
      · rw [if_pos c6]
      rw [if_neg c6] at h ⊢
      exact ih _ _ _ h
  unfold getM at h ⊢
  by_cases hc : a < 0 ∨ (b.length : Int) < a ∨ n < 0 ∨ 1048576 < n
  · rw [if_pos hc]
  · rw [if_neg hc] at h ⊢; exact key _ _ _ _ _ h

end Go.Proofs.Ytkfejcffacbngaa.J


