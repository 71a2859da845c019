/- Operations that leave memory as it is. -/
import Derived.Test.YtkfejcffacbngaaSyB
import Derived.Laws.Tables
import Derived.Laws.StructEq
import Derived.Laws.Slices
namespace Go.Sym
open Go Go.RowKit
set_option linter.unusedVariables false

/-! ### Constants -/

def ofV1 : Value → Option SV
  | .bool b => some (.bool b)
  | .int k n => some (.int k n)
  | .string s => some (.str s)
  | .pointer none => some .nilptr
  | .slice none 0 0 => some .nilslice
  | .nilIface => some .niliface
  | .nilFunc => some .nilfunc
  | .map none => some .nilmap
  | _ => none

def ofVL : List Value → Option (List SV)
  | [] => some []
  | v :: vs => match ofV1 v, ofVL vs with
    | some s, some l => some (s :: l)
    | _, _ => none

def ofV (v : Value) : Option SV :=
  match v with
  | .agg cs => match ofVL cs.toList with
    | some l => some (.agg l)
    | none => none
  | v => ofV1 v

section
variable {ρ : Rho} {env : Env} {w : World} {P : Program}

theorem ofV1_spec {v : Value} {s : SV} (h : ofV1 v = some s) : Rep ρ env s v ∧ s.one = true := by
  unfold ofV1 at h
  split at h <;> first | (cases h; constructor <;> simp [Rep, SV.one]) | cases h

theorem ofVL_spec : ∀ {vs : List Value} {l : List SV}, ofVL vs = some l → RepL ρ env l vs ∧ ∀ s ∈ l, s.one = true
  | [], l, h => by simp only [ofVL, Option.some.injEq] at h; subst h; simp [RepL]
  | v :: vs, l, h => by
    simp only [ofVL] at h
    split at h
    · rename_i s l' h1 h2
      cases h
      obtain ⟨a, b⟩ := ofVL_spec h2
      obtain ⟨c, d⟩ := ofV1_spec (ρ := ρ) (env := env) h1
      refine ⟨?_, by simpa [d] using b⟩
      simp only [RepL]
      exact ⟨v, vs, rfl, c, a⟩
    · cases h

theorem ofV_spec {v : Value} {s : SV} (h : ofV v = some s) : Rep ρ env s v ∧ (∀ x ∈ s.cells, x.one = true) ∧ s.isTuple = false := by
  unfold ofV at h
  split at h
  · split at h
    · rename_i l hl
      cases h
      obtain ⟨a, b⟩ := ofVL_spec (ρ := ρ) (env := env) hl
      exact ⟨by simp only [Rep]; exact ⟨_, rfl, a⟩, b, rfl⟩
    · cases h
  · obtain ⟨a, b⟩ := ofV1_spec (ρ := ρ) (env := env) h
    refine ⟨a, ?_, ?_⟩
    · intro x hx
      have : s.cells = [s] := by cases s <;> first | rfl | cases b
      rw [this] at hx
      simp at hx; subst hx; exact b
    · cases s <;> first | rfl | cases b

/-! ### Types -/

def tySz (P : Program) (t : TypeId) : Option Nat :=
  match P.info? t with
  | some i => some i.size
  | none => none

def aggD : TypeDesc → Bool
  | .struct _ | .array _ _ => true
  | _ => false

def isAggT (P : Program) (t : TypeId) : Option Bool :=
  match P.underlying t with
  | some d => some (aggD d)
  | none => none

def zeroS (P : Program) (t : TypeId) : Option SV :=
  match P.info? t with
  | some i => match i.zero with
    | some v => ofV v
    | none => none
  | none => none

theorem run_sizeOf' {t : TypeId} {n : Nat} (h : tySz P t = some n) : (sizeOf t).run P w = .ok n w := by
  unfold tySz at h
  split at h
  · rename_i i hi; cases h; simp [sizeOf, typeInfo, hi]
  · cases h

theorem run_isAgg' {t : TypeId} {b : Bool} (h : isAggT P t = some b) : (isAgg t).run P w = .ok b w := by
  unfold isAggT at h
  unfold isAgg
  cases hu : P.underlying t with
  | none => rw [hu] at h; cases h
  | some d =>
    rw [hu] at h
    cases h
    simp only [Sem.run_bind, run_underlying hu, Result.andThen_ok]
    cases d <;> rfl

theorem run_zero {t : TypeId} {s : SV} (h : zeroS P t = some s) : ∃ v, (zeroValue t).run P w = .ok v w ∧ Rep ρ env s v ∧ (∀ x ∈ s.cells, x.one = true) ∧ s.isTuple = false := by
  unfold zeroS at h
  split at h
  · rename_i i hi
    split at h
    · rename_i v hv
      obtain ⟨a, b, c⟩ := ofV_spec (ρ := ρ) (env := env) h
      exact ⟨v, by simp [zeroValue, typeInfo, hi, hv], a, b, c⟩
    · cases h
  · cases h

/-! ### A part of a struct or an array -/

def spart (P : Program) (t : TypeId) (cs : List SV) (off : Nat) : Option SV :=
  match isAggT P t, tySz P t with
  | some true, some n => match Nat.ble (off + n) cs.length with
    | true => some (.agg ((cs.drop off).take n))
    | false => none
  | some false, _ => nth cs off
  | _, _ => none

theorem run_part {t : TypeId} {cs : List SV} {off : Nat} {s : SV} {vs : Array Value} (h : spart P t cs off = some s) (hr : RepL ρ env cs vs.toList) :
    ∃ v, (part t vs off).run P w = .ok v w ∧ Rep ρ env s v := by
  unfold spart at h
  split at h
  · rename_i n h1 h2
    split at h
    · rename_i hb
      cases h
      refine ⟨.agg (vs.extract off (off + n)), by simp [part, run_isAgg' h1, run_sizeOf' h2], ?_⟩
      simp only [Rep]
      refine ⟨_, rfl, ?_⟩
      have : (vs.extract off (off + n)).toList = (vs.toList.drop off).take n := by
        simp [Array.toList_extract, List.extract_eq_take_drop]
      rw [this]
      exact (hr.drop off).take n
    · cases h
  · rename_i h1
    rw [nth_eq] at h
    obtain ⟨v, hv, hrep⟩ := hr.get off s h
    refine ⟨v, ?_, hrep⟩
    have hv' : vs[off]? = some v := by simpa using hv
    simp [part, run_isAgg' h1, hv']
  · cases h

/-! ### Numbers -/

def ieq (a b : Int) : Bool :=
  match a, b with
  | .ofNat x, .ofNat y => Nat.beq x y
  | .negSucc x, .negSucc y => Nat.beq x y
  | _, _ => false

def ile (a b : Int) : Bool :=
  match a, b with
  | .ofNat x, .ofNat y => Nat.ble x y
  | .negSucc x, .negSucc y => Nat.ble y x
  | .ofNat _, .negSucc _ => false
  | .negSucc _, .ofNat _ => true

theorem nat_beq (x y : Nat) : Nat.beq x y = decide (x = y) := by
  by_cases h : x = y
  · simp [h]
  · have : Nat.beq x y = false := by
      cases hc : Nat.beq x y with
      | false => rfl
      | true => exact absurd (Nat.eq_of_beq_eq_true hc) h
    simp [this, h]

theorem ieq_spec' (a b : Int) : ieq a b = decide (a = b) := by
  cases a <;> cases b <;> simp only [ieq, nat_beq] <;> simp <;> try omega

theorem ieq_spec (a b : Int) : ieq a b = (a == b) := by
  rw [ieq_spec']
  by_cases h : a = b
  · simp [h]
  · simp [h]

theorem nat_ble (x y : Nat) : Nat.ble x y = decide (x ≤ y) := by
  by_cases h : x ≤ y
  · simp [h, Nat.ble_eq]
  · have : Nat.ble x y = false := by
      cases hc : Nat.ble x y with
      | false => rfl
      | true => exact absurd (Nat.le_of_ble_eq_true hc) h
    simp [this, h]

theorem ile_spec (a b : Int) : ile a b = decide (a ≤ b) := by
  cases a with
  | ofNat x =>
    cases b with
    | ofNat y =>
      have h : (Int.ofNat x ≤ Int.ofNat y) ↔ x ≤ y := Int.ofNat_le
      simp only [ile, nat_ble, h]
    | negSucc y =>
      have h : ¬ (Int.ofNat x ≤ Int.negSucc y) := by
        have h1 := Int.negSucc_lt_zero y
        have h2 : (0 : Int) ≤ Int.ofNat x := Int.natCast_nonneg x
        omega
      simp only [ile, h, decide_false]
  | negSucc x =>
    cases b with
    | ofNat y =>
      have h : (Int.negSucc x ≤ Int.ofNat y) := by
        have h1 := Int.negSucc_lt_zero x
        have h2 : (0 : Int) ≤ Int.ofNat y := Int.natCast_nonneg y
        omega
      simp only [ile, h, decide_true]
    | negSucc y =>
      have h : (Int.negSucc x ≤ Int.negSucc y) ↔ y ≤ x := by
        have h1 : Int.negSucc x = -(x : Int) - 1 := by omega
        have h2 : Int.negSucc y = -(y : Int) - 1 := by omega
        rw [h1, h2]
        omega
      simp only [ile, nat_ble, h]

def ilt (a b : Int) : Bool := !(ile b a)
theorem ilt_spec (a b : Int) : ilt a b = decide (a < b) := by
  simp only [ilt, ile_spec]
  by_cases h : a < b
  · have : ¬ b ≤ a := by omega
    simp [h, this]
  · have : b ≤ a := by omega
    simp [h, this]

/-- does a number fit its kind? (by comparisons alone) -/
def fitsK (k : IntKind) (n : Int) : Bool :=
  match n with
  | .ofNat m => match k with
    | .i8 => Nat.ble m 127 | .i16 => Nat.ble m 32767 | .i32 => Nat.ble m 2147483647 | .i64 => Nat.ble m 9223372036854775807
    | .u8 => Nat.ble m 255 | .u16 => Nat.ble m 65535 | .u32 => Nat.ble m 4294967295 | .u64 => Nat.ble m 18446744073709551615
  | .negSucc m => match k with
    | .i8 => Nat.ble m 127 | .i16 => Nat.ble m 32767 | .i32 => Nat.ble m 2147483647 | .i64 => Nat.ble m 9223372036854775807
    | _ => false

theorem fitsK_spec {k : IntKind} {n : Int} (h : fitsK k n = true) : k.wrap n = n := by
  unfold fitsK at h
  split at h
  · rename_i m
    cases k <;> simp only [] at h <;> have h := ble_true h <;> simp only [IntKind.wrap, IntKind.bits, IntKind.signed] <;> simp <;> omega
  · rename_i m
    have : Int.negSucc m = -(m : Int) - 1 := by omega
    rw [this]
    cases k <;> simp only [] at h <;> first | (cases h; done) | skip
    all_goals have h := ble_true h; simp only [IntKind.wrap, IntKind.bits, IntKind.signed]; simp; omega

def wrapK (k : IntKind) (n : Int) : Int :=
  match fitsK k n with
  | true => n
  | false => k.wrap n

theorem wrapK_eq (k : IntKind) (n : Int) : wrapK k n = k.wrap n := by
  unfold wrapK
  split
  · rename_i h; exact (fitsK_spec h).symm
  · rfl

def kEq : IntKind → IntKind → Bool
  | .i8, .i8 | .i16, .i16 | .i32, .i32 | .i64, .i64 | .u8, .u8 | .u16, .u16 | .u32, .u32 | .u64, .u64 => true
  | _, _ => false
theorem kEq_spec {a b : IntKind} (h : kEq a b = true) : a = b := by cases a <;> cases b <;> first | rfl | cases h

/-- Two numbers (of one kind). -/
def sints (op : BinOp) (k : IntKind) (a b : Int) : Option SV :=
  match op with
  | .add => some (.int k (wrapK k (Int.add a b)))
  | .sub => some (.int k (wrapK k (Int.sub a b)))
  | .mul => some (.int k (wrapK k (Int.mul a b)))
  | .quo => match ieq b 0 with | true => none | false => some (.int k (wrapK k (Int.tdiv a b)))
  | .rem => match ieq b 0 with | true => none | false => some (.int k (Int.tmod a b))
  | .and => some (.int k (k.wrap (BitVec.ofInt k.bits a &&& BitVec.ofInt k.bits b).toNat))
  | .or => some (.int k (k.wrap (BitVec.ofInt k.bits a ||| BitVec.ofInt k.bits b).toNat))
  | .xor => some (.int k (k.wrap (BitVec.ofInt k.bits a ^^^ BitVec.ofInt k.bits b).toNat))
  | .andNot => some (.int k (k.wrap (BitVec.ofInt k.bits a &&& ~~~ BitVec.ofInt k.bits b).toNat))
  | .eql => some (.bool (ieq a b))
  | .neq => some (.bool (!(ieq a b)))
  | .lss => some (.bool (ilt a b))
  | .leq => some (.bool (ile a b))
  | .gtr => some (.bool (ilt b a))
  | .geq => some (.bool (ile b a))
  | _ => none

def sshift (op : BinOp) (k : IntKind) (a b : Int) : Option SV :=
  match ile 0 b with
  | false => none
  | true =>
    let n := Nat.min b.toNat k.bits
    match op with
    | .shl => some (.int k (wrapK k (Int.mul a (Int.ofNat (Nat.pow 2 n)))))
    | .shr => some (.int k (a.fdiv (Int.ofNat (Nat.pow 2 n))))
    | _ => none

def isShift : BinOp → Bool
  | .shl | .shr => true
  | _ => false

theorem run_sints {op : BinOp} {xt : TypeId} {k : IntKind} {a b : Int} {s : SV} (ho : isShift op = false) (h : sints op k a b = some s) :
    ∃ v, (Go.binOp op xt (.int k a) (.int k b)).run P w = .ok v w ∧ Rep ρ env s v := by
  have e0 : ∀ x y : Int, Int.add x y = x + y := fun _ _ => rfl
  have e1 : ∀ x y : Int, Int.sub x y = x - y := fun _ _ => rfl
  have e2 : ∀ x y : Int, Int.mul x y = x * y := fun _ _ => rfl
  cases op <;> simp only [sints, isShift] at h ho <;> first | (cases ho; done) | skip
  case quo =>
    split at h
    · cases h
    · rename_i hb
      cases h
      rw [ieq_spec] at hb
      have hb' : ¬ b = 0 := by simpa using hb
      exact ⟨_, by simp [Go.binOp, Op.intDiv, hb']; rfl, by simp [Rep, wrapK_eq]⟩
  case rem =>
    split at h
    · cases h
    · rename_i hb
      cases h
      rw [ieq_spec] at hb
      have hb' : ¬ b = 0 := by simpa using hb
      exact ⟨_, by simp [Go.binOp, Op.intDiv, hb']; rfl, by simp [Rep]⟩
  case eql => cases h; refine ⟨.bool (a == b), by simp [Go.binOp, Op.intCmp], ?_⟩; simp only [Rep, ieq_spec]
  case neq => cases h; refine ⟨.bool (a != b), by simp [Go.binOp, Op.intCmp], ?_⟩; simp only [Rep, ieq_spec, bne]
  case lss => cases h; refine ⟨.bool (decide (a < b)), by simp [Go.binOp, Op.intCmp], ?_⟩; simp only [Rep, ilt_spec]
  case leq => cases h; refine ⟨.bool (decide (a ≤ b)), by simp [Go.binOp, Op.intCmp], ?_⟩; simp only [Rep, ile_spec]
  case gtr => cases h; refine ⟨.bool (decide (b < a)), by simp [Go.binOp, Op.intCmp], ?_⟩; simp only [Rep, ilt_spec]
  case geq => cases h; refine ⟨.bool (decide (b ≤ a)), by simp [Go.binOp, Op.intCmp], ?_⟩; simp only [Rep, ile_spec]
  all_goals
    cases h
    exact ⟨_, by simp [Go.binOp, Op.intArith, Op.intBits]; rfl, by simp [Rep, wrapK_eq, e0, e1, e2]⟩

theorem run_sshift {op : BinOp} {xt : TypeId} {k k' : IntKind} {a b : Int} {s : SV} (ho : isShift op = true) (h : sshift op k a b = some s) :
    ∃ v, (Go.binOp op xt (.int k a) (.int k' b)).run P w = .ok v w ∧ Rep ρ env s v := by
  unfold sshift at h
  split at h
  · cases h
  · rename_i hb
    rw [ile_spec] at hb
    have hb' : ¬ b < 0 := by have : 0 ≤ b := by simpa using hb
                             omega
    have e2 : ∀ x y : Int, Int.mul x y = x * y := fun _ _ => rfl
    have e3 : ∀ n : Nat, Int.ofNat (Nat.pow 2 n) = (2 ^ n : Int) := fun n => by
      show ((2 ^ n : Nat) : Int) = _
      simp
    cases op <;> simp only [isShift] at ho <;> first | (cases ho; done) | skip
    all_goals
      simp only [Option.some.injEq] at h
      subst h
      exact ⟨_, by simp only [Go.binOp, Op.shift, hb', if_false]; rfl, by simp [Rep, wrapK_eq, e2, e3]; try rfl⟩

end
end Go.Sym
