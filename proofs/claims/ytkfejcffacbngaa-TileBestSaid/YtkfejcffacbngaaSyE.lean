/- Operations that leave memory as it is: two operands, slices, parts, loads, lengths. -/
import Derived.Test.YtkfejcffacbngaaSyD
import Derived.Laws.BytesString
import Derived.Laws.Build
namespace Go.Sym
open Go Go.RowKit
set_option linter.unusedVariables false

def plainV : Value → Bool
  | .int _ _ | .float _ _ | .complex _ _ _ | .string _ => false
  | _ => true

def plainS : SV → Bool
  | .int _ _ | .str _ | .atom _ | .tuple _ | .sint _ _ | .astr _ | .any | .zslice | .e0 | .rstr _ | .rsl .. | .rptr .. => false
  | _ => true

/-- are two expressions one? -/
def bopEq : BinOp → BinOp → Bool
  | .add, .add | .sub, .sub | .mul, .mul | .eql, .eql | .neq, .neq | .lss, .lss | .leq, .leq | .gtr, .gtr | .geq, .geq | .quo, .quo | .rem, .rem | .and, .and | .or, .or | .xor, .xor | .andNot, .andNot | .shl, .shl | .shr, .shr => true
  | _, _ => false
theorem bopEq_spec {a b : BinOp} (h : bopEq a b = true) : a = b := by cases a <;> cases b <;> first | rfl | cases h

def intsEq : List Int → List Int → Bool
  | [], [] => true
  | a :: l, b :: m => ieq a b && intsEq l m
  | _, _ => false

theorem intsEq_spec : ∀ (l m : List Int), intsEq l m = true → l = m
  | [], m, h => by cases m <;> simp only [intsEq] at h <;> first | rfl | cases h
  | a :: l, m, h => by
    cases m <;> simp only [intsEq] at h <;> first | (cases h; done) | skip
    simp only [Bool.and_eq_true] at h
    rw [ieq_spec'] at h
    rw [of_decide_eq_true h.1, intsEq_spec _ _ h.2]

def ieEq : IE → IE → Bool
  | .var i, .var j => Nat.beq i j
  | .len i, .len j => Nat.beq i j
  | .lit a, .lit b => ieq a b
  | .bin op k a b, .bin op' k' a' b' => bopEq op op' && (kEq k k' && (ieEq a a' && ieEq b b'))
  | .wrap k a, .wrap k' a' => kEq k k' && ieEq a a'
  | .plus a b, .plus a' b' => ieEq a a' && ieEq b b'
  | .minus a b, .minus a' b' => ieEq a a' && ieEq b b'
  | .sel r i e f, .sel r' i' e' f' => Nat.beq e e' && (Nat.beq f f' && (ieEq r r' && ieEq i i'))
  | .rlen r e, .rlen r' e' => Nat.beq e e' && ieEq r r'
  | .app f a, .app f' a' => Nat.beq f f' && ieEq a a'
  | .rvar i, .rvar j => Nat.beq i j
  | .rcon l, .rcon l' => intsEq l l'
  | .rnil, .rnil => true
  | .rcons e r, .rcons e' r' => ieEq e e' && ieEq r r'
  | .cat a b, .cat a' b' => ieEq a a' && ieEq b b'
  | .sub r a b e, .sub r' a' b' e' => Nat.beq e e' && (ieEq r r' && (ieEq a a' && ieEq b b'))
  | .set r i e f x, .set r' i' e' f' x' => Nat.beq e e' && (Nat.beq f f' && (ieEq r r' && (ieEq i i' && ieEq x x')))
  | .rep a b, .rep a' b' => ieEq a a' && ieEq b b'
  | .rapp f a, .rapp f' a' => Nat.beq f f' && ieEq a a'
  | .w8 a, .w8 b => ieEq a b
  | .anil, .anil => true
  | .acons a b, .acons a' b' => ieEq a a' && ieEq b b'
  | _, _ => false

theorem ieEq_spec : ∀ (a b : IE), ieEq a b = true → a = b
  | .var i, b, h => by
    cases b <;> simp only [ieEq] at h <;> first | (cases h; done) | skip
    rw [Nat.eq_of_beq_eq_true h]
  | .len i, b, h => by
    cases b <;> simp only [ieEq] at h <;> first | (cases h; done) | skip
    rw [Nat.eq_of_beq_eq_true h]
  | .lit n, b, h => by
    cases b <;> simp only [ieEq] at h <;> first | (cases h; done) | skip
    rw [ieq_spec'] at h
    rw [of_decide_eq_true h]
  | .bin op k x y, b, h => by
    cases b <;> simp only [ieEq] at h <;> first | (cases h; done) | skip
    simp only [Bool.and_eq_true] at h
    rw [bopEq_spec h.1, kEq_spec h.2.1, ieEq_spec _ _ h.2.2.1, ieEq_spec _ _ h.2.2.2]
  | .wrap k x, b, h => by
    cases b <;> simp only [ieEq] at h <;> first | (cases h; done) | skip
    simp only [Bool.and_eq_true] at h
    rw [kEq_spec h.1, ieEq_spec _ _ h.2]
  | .plus x y, b, h => by
    cases b <;> simp only [ieEq] at h <;> first | (cases h; done) | skip
    simp only [Bool.and_eq_true] at h
    rw [ieEq_spec _ _ h.1, ieEq_spec _ _ h.2]
  | .minus x y, b, h => by
    cases b <;> simp only [ieEq] at h <;> first | (cases h; done) | skip
    simp only [Bool.and_eq_true] at h
    rw [ieEq_spec _ _ h.1, ieEq_spec _ _ h.2]
  | .sel r i e f, b, h => by
    cases b <;> simp only [ieEq] at h <;> first | (cases h; done) | skip
    simp only [Bool.and_eq_true] at h
    rw [Nat.eq_of_beq_eq_true h.1, Nat.eq_of_beq_eq_true h.2.1, ieEq_spec _ _ h.2.2.1, ieEq_spec _ _ h.2.2.2]
  | .rlen r e, b, h => by
    cases b <;> simp only [ieEq] at h <;> first | (cases h; done) | skip
    simp only [Bool.and_eq_true] at h
    rw [Nat.eq_of_beq_eq_true h.1, ieEq_spec _ _ h.2]
  | .app f a, b, h => by
    cases b <;> simp only [ieEq] at h <;> first | (cases h; done) | skip
    simp only [Bool.and_eq_true] at h
    rw [Nat.eq_of_beq_eq_true h.1, ieEq_spec _ _ h.2]
  | .rvar i, b, h => by
    cases b <;> simp only [ieEq] at h <;> first | (cases h; done) | skip
    rw [Nat.eq_of_beq_eq_true h]
  | .rcon l, b, h => by
    cases b <;> simp only [ieEq] at h <;> first | (cases h; done) | skip
    rw [intsEq_spec _ _ h]
  | .rnil, b, h => by cases b <;> simp only [ieEq] at h <;> first | rfl | cases h
  | .rcons x y, b, h => by
    cases b <;> simp only [ieEq] at h <;> first | (cases h; done) | skip
    simp only [Bool.and_eq_true] at h
    rw [ieEq_spec _ _ h.1, ieEq_spec _ _ h.2]
  | .cat x y, b, h => by
    cases b <;> simp only [ieEq] at h <;> first | (cases h; done) | skip
    simp only [Bool.and_eq_true] at h
    rw [ieEq_spec _ _ h.1, ieEq_spec _ _ h.2]
  | .sub r x y e, b, h => by
    cases b <;> simp only [ieEq] at h <;> first | (cases h; done) | skip
    simp only [Bool.and_eq_true] at h
    rw [Nat.eq_of_beq_eq_true h.1, ieEq_spec _ _ h.2.1, ieEq_spec _ _ h.2.2.1, ieEq_spec _ _ h.2.2.2]
  | .set r i e f x, b, h => by
    cases b <;> simp only [ieEq] at h <;> first | (cases h; done) | skip
    simp only [Bool.and_eq_true] at h
    rw [Nat.eq_of_beq_eq_true h.1, Nat.eq_of_beq_eq_true h.2.1, ieEq_spec _ _ h.2.2.1, ieEq_spec _ _ h.2.2.2.1, ieEq_spec _ _ h.2.2.2.2]
  | .rep x y, b, h => by
    cases b <;> simp only [ieEq] at h <;> first | (cases h; done) | skip
    simp only [Bool.and_eq_true] at h
    rw [ieEq_spec _ _ h.1, ieEq_spec _ _ h.2]
  | .rapp f a, b, h => by
    cases b <;> simp only [ieEq] at h <;> first | (cases h; done) | skip
    simp only [Bool.and_eq_true] at h
    rw [Nat.eq_of_beq_eq_true h.1, ieEq_spec _ _ h.2]
  | .w8 x, b, h => by
    cases b <;> simp only [ieEq] at h <;> first | (cases h; done) | skip
    rw [ieEq_spec _ _ h]
  | .anil, b, h => by cases b <;> simp only [ieEq] at h <;> first | rfl | cases h
  | .acons x y, b, h => by
    cases b <;> simp only [ieEq] at h <;> first | (cases h; done) | skip
    simp only [Bool.and_eq_true] at h
    rw [ieEq_spec _ _ h.1, ieEq_spec _ _ h.2]

def beEq : BE → BE → Bool
  | .var i, .var j => Nat.beq i j
  | .cmp op a b, .cmp op' a' b' => bopEq op op' && (ieEq a a' && ieEq b b')
  | .not a, .not b => beEq a b
  | .req a b, .req a' b' => ieEq a a' && ieEq b b'
  | _, _ => false

theorem beEq_spec : ∀ (a b : BE), beEq a b = true → a = b
  | .var i, b, h => by
    cases b <;> simp only [beEq] at h <;> first | (cases h; done) | skip
    rw [Nat.eq_of_beq_eq_true h]
  | .cmp op x y, b, h => by
    cases b <;> simp only [beEq] at h <;> first | (cases h; done) | skip
    simp only [Bool.and_eq_true] at h
    rw [bopEq_spec h.1, ieEq_spec _ _ h.2.1, ieEq_spec _ _ h.2.2]
  | .not x, b, h => by
    cases b <;> simp only [beEq] at h <;> first | (cases h; done) | skip
    rw [beEq_spec _ _ h]
  | .req x y, b, h => by
    cases b <;> simp only [beEq] at h <;> first | (cases h; done) | skip
    simp only [Bool.and_eq_true] at h
    rw [ieEq_spec _ _ h.1, ieEq_spec _ _ h.2]

def toIE : SV → Option (IntKind × IE)
  | .int k n => some (k, .lit n)
  | .sint k e => some (k, e)
  | _ => none

/-- two numbers of which one at least is not known -/
def sbinI (op : BinOp) (k : IntKind) (a b : IE) : Option SV :=
  match op with
  | .add => some (.sint k (.bin .add k a b))
  | .mul => some (.sint k (.bin .mul k a b))
  | .sub => match ieEq a b with
    | true => some (.int k 0)
    | false => some (.sint k (.bin .sub k a b))
  | .eql => match ieEq a b with
    | true => some (.bool true)
    | false => some (.sbool (.cmp .eql a b))
  | .neq => match ieEq a b with
    | true => some (.bool false)
    | false => some (.sbool (.not (.cmp .eql a b)))
  | .lss => match ieEq a b with
    | true => some (.bool false)
    | false => some (.sbool (.cmp .lss a b))
  | .leq => match ieEq a b with
    | true => some (.bool true)
    | false => some (.sbool (.not (.cmp .lss b a)))
  | .gtr => match ieEq a b with
    | true => some (.bool false)
    | false => some (.sbool (.cmp .lss b a))
  | .geq => match ieEq a b with
    | true => some (.bool true)
    | false => some (.sbool (.not (.cmp .lss a b)))
  | .and => some (.sint k (.bin .and k a b))
  | .or => some (.sint k (.bin .or k a b))
  | .xor => some (.sint k (.bin .xor k a b))
  | .andNot => some (.sint k (.bin .andNot k a b))
  | .quo => match b with
    | .lit n => match ieq n 0 with
      | true => none
      | false => some (.sint k (.bin .quo k a b))
    | _ => none
  | .rem => match b with
    | .lit n => match ieq n 0 with
      | true => none
      | false => some (.sint k (.bin .rem k a b))
    | _ => none
  | _ => none

/-- a shift by a known number -/
def sshiftI (op : BinOp) (k : IntKind) (a : IE) (b : Int) : Option SV :=
  match ile 0 b with
  | false => none
  | true => match op with
    | .shl => some (.sint k (.bin .shl k a (.lit b)))
    | .shr => some (.sint k (.bin .shr k a (.lit b)))
    | _ => none

theorem run_sshiftI {ρ : Rho} {env : Env} {P : Program} {w : World} {op : BinOp} {xt : TypeId} {k k' : IntKind} {a : IE} {b : Int} {s : SV} (ho : isShift op = true) (h : sshiftI op k a b = some s) :
    ∃ v, (Go.binOp op xt (.int k (a.eval env)) (.int k' b)).run P w = .ok v w ∧ Rep ρ env s v := by
  unfold sshiftI at h
  split at h
  · cases h
  · rename_i hb
    rw [ile_spec] at hb
    have hb' : ¬ b < 0 := by have : 0 ≤ b := by simpa using hb
                             omega
    cases op <;> simp only [isShift] at ho <;> first | (cases ho; done) | skip
    all_goals
      simp only [Option.some.injEq] at h
      subst h
      exact ⟨_, by simp only [Go.binOp, Op.shift, hb', if_false]; rfl, by simp [Rep, IE.eval, binI]⟩

theorem wrap_zero (k : IntKind) : k.wrap 0 = 0 := by cases k <;> decide

theorem run_sbinI {ρ : Rho} {env : Env} {P : Program} {w : World} {op : BinOp} {xt : TypeId} {k : IntKind} {a b : IE} {s : SV} (h : sbinI op k a b = some s) :
    ∃ v, (Go.binOp op xt (.int k (a.eval env)) (.int k (b.eval env))).run P w = .ok v w ∧ Rep ρ env s v := by
  cases op <;> simp only [sbinI] at h <;> first | (cases h; done) | skip
  case and => cases h; exact ⟨_, by simp [Go.binOp, Op.intBits]; rfl, by simp [Rep, IE.eval, binI]⟩
  case or => cases h; exact ⟨_, by simp [Go.binOp, Op.intBits]; rfl, by simp [Rep, IE.eval, binI]⟩
  case xor => cases h; exact ⟨_, by simp [Go.binOp, Op.intBits]; rfl, by simp [Rep, IE.eval, binI]⟩
  case andNot => cases h; exact ⟨_, by simp [Go.binOp, Op.intBits]; rfl, by simp [Rep, IE.eval, binI]⟩
  case quo =>
    split at h
    · rename_i n
      split at h
      · cases h
      · rename_i hb
        cases h
        rw [ieq_spec] at hb
        have hb' : ¬ n = 0 := by simpa using hb
        exact ⟨_, by simp [Go.binOp, Op.intDiv, IE.eval, binI, hb']; rfl, by simp [Rep, IE.eval, binI]⟩
    · cases h
  case rem =>
    split at h
    · rename_i n
      split at h
      · cases h
      · rename_i hb
        cases h
        rw [ieq_spec] at hb
        have hb' : ¬ n = 0 := by simpa using hb
        exact ⟨_, by simp [Go.binOp, Op.intDiv, IE.eval, binI, hb']; rfl, by simp [Rep, IE.eval, binI]⟩
    · cases h
  case add => cases h; exact ⟨.int k (k.wrap (a.eval env + b.eval env)), by simp [Go.binOp, Op.intArith], by simp [Rep, IE.eval, binI]⟩
  case mul => cases h; exact ⟨.int k (k.wrap (a.eval env * b.eval env)), by simp [Go.binOp, Op.intArith], by simp [Rep, IE.eval, binI]⟩
  case sub =>
    refine ⟨.int k (k.wrap (a.eval env - b.eval env)), by simp [Go.binOp, Op.intArith], ?_⟩
    split at h
    · rename_i he; have := ieEq_spec _ _ he; subst this; cases h; simp [Rep, wrap_zero]
    · cases h; simp [Rep, IE.eval, binI]
  case eql =>
    refine ⟨.bool (a.eval env == b.eval env), by simp [Go.binOp, Op.intCmp], ?_⟩
    split at h
    · rename_i he; have := ieEq_spec _ _ he; subst this; cases h; simp [Rep]
    · cases h; simp only [Rep, BE.eval, cmpI]; rw [← ieq_spec, ieq_spec']
  case neq =>
    refine ⟨.bool (a.eval env != b.eval env), by simp [Go.binOp, Op.intCmp], ?_⟩
    split at h
    · rename_i he; have := ieEq_spec _ _ he; subst this; cases h; simp [Rep]
    · cases h; simp only [Rep, BE.eval, cmpI, bne]; rw [← ieq_spec, ieq_spec']
  case lss =>
    refine ⟨.bool (decide (a.eval env < b.eval env)), by simp [Go.binOp, Op.intCmp], ?_⟩
    split at h
    · rename_i he; have := ieEq_spec _ _ he; subst this; cases h; simp [Rep]
    · cases h; simp [Rep, BE.eval, cmpI]
  case leq =>
    refine ⟨.bool (decide (a.eval env ≤ b.eval env)), by simp [Go.binOp, Op.intCmp], ?_⟩
    split at h
    · rename_i he; have := ieEq_spec _ _ he; subst this; cases h; simp [Rep]
    · cases h; simp only [Rep, BE.eval, cmpI]; congr 1
      by_cases hh : a.eval env ≤ b.eval env
      · have : ¬ b.eval env < a.eval env := by omega
        simp [hh]
      · have : b.eval env < a.eval env := by omega
        simp [this]
  case gtr =>
    refine ⟨.bool (decide (b.eval env < a.eval env)), by simp [Go.binOp, Op.intCmp], ?_⟩
    split at h
    · rename_i he; have := ieEq_spec _ _ he; subst this; cases h; simp [Rep]
    · cases h; simp [Rep, BE.eval, cmpI]
  case geq =>
    refine ⟨.bool (decide (b.eval env ≤ a.eval env)), by simp [Go.binOp, Op.intCmp], ?_⟩
    split at h
    · rename_i he; have := ieEq_spec _ _ he; subst this; cases h; simp [Rep]
    · cases h; simp only [Rep, BE.eval, cmpI]; congr 1
      by_cases hh : b.eval env ≤ a.eval env
      · have : ¬ a.eval env < b.eval env := by omega
        simp [hh]
      · have : a.eval env < b.eval env := by omega
        simp [this]

theorem toIE_spec {ρ : Rho} {env : Env} {x : SV} {k : IntKind} {e : IE} {u : Value} (h : toIE x = some (k, e)) (hx : Rep ρ env x u) : u = .int k (e.eval env) := by
  cases x <;> simp only [toIE] at h <;> first | (cases h; done) | skip
  all_goals cases h; simpa [Rep, IE.eval, binI] using hx

def sbinop (P : Program) (op : BinOp) (t : TypeId) (cx cy : Operand) (x y : SV) : Option SV :=
  match x, y with
  | .int k a, .int k' b => match isShift op with
    | true => sshift op k a b
    | false => match kEq k k' with
      | true => sints op k a b
      | false => none
  | .str a, .str b => sstr op a b
  | .sint k a, .int k' b => match isShift op with
    | true => sshiftI op k a b
    | false => match kEq k k' with
      | true => sbinI op k a (.lit b)
      | false => none
  | _, _ => match toIE x, toIE y with
   | some (k, a), some (k', b) => match kEq k k' with
     | true => sbinI op k a b
     | false => none
   | _, _ => match plainS x with
    | false => none
    | true => match eqGuardS P t cx cy x y with
      | false => none
      | true => match op with
        | .eql => match seqv P 100 t x y with
          | some r => some (.bool r)
          | none => none
        | .neq => match seqv P 100 t x y with
          | some r => some (.bool (!r))
          | none => none
        | _ => none

section
variable {ρ : Rho} {env : Env} {w : World} {P : Program}

theorem plainS_spec {x : SV} {u : Value} (h : plainS x = true) (hx : Rep ρ env x u) : plainV u = true := by
  cases x <;> simp only [plainS] at h <;> first | (cases h; done) | skip
  all_goals
    simp only [Rep] at hx
    first
      | (subst hx; rfl)
      | (obtain ⟨_, _, _, rfl⟩ := hx; rfl)
      | (obtain ⟨_, _, _, _, rfl, _⟩ := hx; rfl)
      | (obtain ⟨_, _, rfl⟩ := hx; rfl)
      | (obtain ⟨_, rfl, _⟩ := hx; rfl)
      | (obtain ⟨_, _, rfl, _⟩ := hx; rfl)
      | (obtain ⟨_, _, _, rfl, _⟩ := hx; rfl)

theorem binOp_eql {t : TypeId} {u v : Value} (h : plainV u = true) : (Go.binOp .eql t u v).run P w = ((Op.equal t u v).run P w).andThen fun b w' => .ok (.bool b) w' := by
  cases u <;> simp only [plainV] at h <;> first | (cases h; done) | skip
  all_goals simp [Go.binOp]

theorem binOp_neq {t : TypeId} {u v : Value} (h : plainV u = true) : (Go.binOp .neq t u v).run P w = ((Op.equal t u v).run P w).andThen fun b w' => .ok (.bool (!b)) w' := by
  cases u <;> simp only [plainV] at h <;> first | (cases h; done) | skip
  all_goals simp [Go.binOp]

theorem run_sbinop {op : BinOp} {t : TypeId} {cx cy : Operand} {x y s : SV} {u v : Value} (h : sbinop P op t cx cy x y = some s) (hx : Rep ρ env x u) (hy : Rep ρ env y v) :
    ∃ r, ((do eqGuard op t cx cy u v; Go.binOp op t u v : Sem Value)).run P w = .ok r w ∧ Rep ρ env s r := by
  unfold sbinop at h
  split at h
  · rename_i k a k' b
    have hg : (eqGuard op t cx cy u v).run P w = .ok () w := run_eqGuard rfl hx hy
    simp only [Rep] at hx hy
    subst hx; subst hy
    split at h
    · rename_i hs
      obtain ⟨r, h1, h2⟩ := run_sshift (ρ := ρ) (env := env) (w := w) (P := P) (xt := t) (k' := k') hs h
      exact ⟨r, by simp only [Sem.run_bind, hg, Result.andThen_ok, h1], h2⟩
    · rename_i hs
      split at h
      · rename_i hk
        have hk := kEq_spec hk
        subst hk
        obtain ⟨r, h1, h2⟩ := run_sints (ρ := ρ) (env := env) (w := w) (P := P) (xt := t) hs h
        exact ⟨r, by simp only [Sem.run_bind, hg, Result.andThen_ok, h1], h2⟩
      · cases h
  · have hg : (eqGuard op t cx cy u v).run P w = .ok () w := run_eqGuard rfl hx hy
    simp only [Rep] at hx hy
    subst hx; subst hy
    obtain ⟨r, h1, h2⟩ := run_sstr (ρ := ρ) (env := env) (w := w) (P := P) (xt := t) h
    exact ⟨r, by simp only [Sem.run_bind, hg, Result.andThen_ok, h1], h2⟩
  · rename_i k a k' b
    simp only [Rep] at hx hy
    subst hx; subst hy
    have hg : (eqGuard op t cx cy (.int k (a.eval env)) (.int k' b)).run P w = .ok () w := by cases op <;> simp [eqGuard]
    split at h
    · rename_i hs
      obtain ⟨r, h1, h2⟩ := run_sshiftI (ρ := ρ) (env := env) (w := w) (P := P) (xt := t) (k' := k') hs h
      exact ⟨r, by simp only [Sem.run_bind, hg, Result.andThen_ok, h1], h2⟩
    · split at h
      · rename_i hk
        have hk := kEq_spec hk
        subst hk
        obtain ⟨r, h1, h2⟩ := run_sbinI (ρ := ρ) (env := env) (w := w) (P := P) (xt := t) h
        exact ⟨r, by simp only [Sem.run_bind, hg, Result.andThen_ok]; exact h1, h2⟩
      · cases h
  · split at h
    · rename_i k a k' b ha hb
      split at h
      · rename_i hk
        have hk := kEq_spec hk
        subst hk
        have e1 := toIE_spec ha hx
        have e2 := toIE_spec hb hy
        subst e1; subst e2
        obtain ⟨r, h1, h2⟩ := run_sbinI (ρ := ρ) (env := env) (w := w) (P := P) (xt := t) h
        have hg : (eqGuard op t cx cy (.int k (a.eval env)) (.int k (b.eval env))).run P w = .ok () w := by cases op <;> simp [eqGuard]
        exact ⟨r, by simp only [Sem.run_bind, hg, Result.andThen_ok, h1], h2⟩
      · cases h
    · split at h
      · cases h
      · rename_i hp
        have hp := plainS_spec hp hx
        split at h
        · cases h
        · rename_i hg
          have hg : (eqGuard op t cx cy u v).run P w = .ok () w := run_eqGuard hg hx hy
          split at h
          · split at h
            · rename_i r hr
              cases h
              have h1 := run_seqv (w := w) 100 10000 t x y r u v (by omega) hr hx hy
              exact ⟨.bool r, by simp only [Sem.run_bind, hg, Result.andThen_ok, binOp_eql hp, Op.equal, Op.maxDepth, h1], by simp [Rep]⟩
            · cases h
          · split at h
            · rename_i r hr
              cases h
              have h1 := run_seqv (w := w) 100 10000 t x y r u v (by omega) hr hx hy
              exact ⟨.bool (!r), by simp only [Sem.run_bind, hg, Result.andThen_ok, binOp_neq hp, Op.equal, Op.maxDepth, h1], by simp [Rep]⟩
            · cases h
          · cases h

/-! ### One operand -/

def sun (op : UnOp) (x : SV) : Option SV :=
  match op, x with
  | .neg, .int k n => some (.int k (wrapK k (Int.sub 0 n)))
  | .xor, .int k n => some (.int k (k.wrap (BitVec.ofInt k.bits (if k.signed then -1 else k.max) ^^^ BitVec.ofInt k.bits n).toNat))
  | .not, .bool b => some (.bool (!b))
  | .not, .sbool b => some (.sbool (.not b))
  | .neg, .sint k e => some (.sint k (.bin .sub k (.lit 0) e))
  | .xor, .sint k e => some (.sint k (.bin .xor k (.lit (if k.signed then -1 else k.max)) e))
  | _, _ => none

theorem run_sun {op : UnOp} {x s : SV} {u : Value} (h : sun op x = some s) (hx : Rep ρ env x u) : ∃ r, (Op.unary op u).run P w = .ok r w ∧ Rep ρ env s r := by
  unfold sun at h
  split at h
  · cases h; simp only [Rep] at hx; subst hx
    rename_i k n
    have e : Int.sub 0 n = -n := Int.zero_sub n
    exact ⟨.int k (k.wrap (-n)), by simp [Op.unary, Op.intArith], by simp [Rep, wrapK_eq, e]⟩
  · cases h; simp only [Rep] at hx; subst hx
    exact ⟨_, by simp [Op.unary, Op.intBits]; rfl, by simp [Rep]⟩
  · cases h; simp only [Rep] at hx; subst hx
    exact ⟨_, by simp [Op.unary]; rfl, by simp [Rep]⟩
  · cases h; simp only [Rep] at hx; subst hx
    exact ⟨_, by simp [Op.unary]; rfl, by simp [Rep, BE.eval]⟩
  · cases h; simp only [Rep] at hx; subst hx
    rename_i k e
    exact ⟨.int k (k.wrap (-(e.eval env))), by simp [Op.unary, Op.intArith], by simp [Rep, IE.eval, binI]⟩
  · cases h; simp only [Rep] at hx; subst hx
    exact ⟨_, by simp [Op.unary, Op.intBits]; rfl, by simp [Rep, IE.eval, binI]⟩
  · cases h

/-! ### Numbers that are places -/

def natOf : SV → Option Nat
  | .int _ (.ofNat n) => some n
  | _ => none

theorem natOf_spec {x : SV} {n : Nat} {u : Value} (h : natOf x = some n) (hx : Rep ρ env x u) : ∃ k, u = .int k (n : Int) := by
  unfold natOf at h
  split at h
  · cases h; simp only [Rep] at hx; subst hx; exact ⟨_, rfl⟩
  · cases h

/-! ### Slices -/

/-- a bound: none: not given -/
def sbound (x : Option SV) (d : Nat) : Option Nat :=
  match x with
  | none => some d
  | some s => natOf s

def sbounds (len cap : Nat) (lo hi mx : Option SV) : Option (Nat × Nat × Nat) :=
  match sbound mx cap, sbound lo 0 with
  | some m, some l =>
    match mx, hi with
    | some _, none => none
    | _, _ => match sbound hi len with
      | some h => match Nat.ble m cap, Nat.ble h m, Nat.ble l h with
        | true, true, true => some (l, h, m)
        | _, _, _ => none
      | none => none
  | _, _ => none

def RepO (ρ : Rho) (env : Env) : Option SV → Option Value → Prop
  | none, none => True
  | some s, some v => Rep ρ env s v
  | _, _ => False

theorem run_bound {s : SV} {v : Value} {n y : Nat} {code : BoundsCode} (h : natOf s = some n) (hv : Rep ρ env s v) (hy : n ≤ y) : (Instr.sliceBound v y code).run P w = .ok n w := by
  obtain ⟨k, rfl⟩ := natOf_spec h hv
  have := run_sliceBound (P := P) w k (n : Int) y code (by omega) (by omega)
  simpa using this

theorem run_bound_opt {x : Option SV} {d n y : Nat} {v : Option Value} (h : sbound x d = some n) (hv : RepO ρ env x v) (hy : n ≤ y) :
    (x = none ∧ v = none ∧ n = d) ∨ ∃ s u, x = some s ∧ v = some u ∧ ∀ code, (Instr.sliceBound u y code).run P w = .ok n w := by
  cases x with
  | none => cases v with
    | none => simp only [sbound, Option.some.injEq] at h; exact .inl ⟨rfl, rfl, h.symm⟩
    | some v => exact hv.elim
  | some s => cases v with
    | none => exact hv.elim
    | some v => exact .inr ⟨s, v, rfl, rfl, fun code => run_bound h hv hy⟩

theorem run_sbounds {b : Bool} {len cap : Nat} {lo hi mx : Option SV} {vl vh vm : Option Value} {l h m : Nat} (hb : sbounds len cap lo hi mx = some (l, h, m))
    (hl : RepO ρ env lo vl) (hh : RepO ρ env hi vh) (hm : RepO ρ env mx vm) : (Instr.sliceBounds b len cap vl vh vm).run P w = .ok (l, h, m) w ∧ l ≤ h ∧ h ≤ m ∧ m ≤ cap := by
  unfold sbounds at hb
  split at hb
  · rename_i m' l' h1 h2
    split at hb
    · cases hb
    · rename_i hno
      split at hb
      · rename_i h' h3
        split at hb
        · rename_i b1 b2 b3
          cases hb
          have b1 := ble_true b1
          have b2 := ble_true b2
          have b3 := ble_true b3
          refine ⟨?_, b3, b2, b1⟩
          rcases run_bound_opt (w := w) (P := P) h1 hm b1 with ⟨rfl, rfl, rfl⟩ | ⟨sm, um, rfl, rfl, Hm⟩
          · rcases run_bound_opt (w := w) (P := P) h3 hh b2 with ⟨rfl, rfl, rfl⟩ | ⟨sh, uh, rfl, rfl, Hh⟩
            · rcases run_bound_opt (w := w) (P := P) h2 hl b3 with ⟨rfl, rfl, rfl⟩ | ⟨sl, ul, rfl, rfl, Hl⟩
              · simp [Instr.sliceBounds]
              · simp [Instr.sliceBounds, Hl]
            · rcases run_bound_opt (w := w) (P := P) h2 hl b3 with ⟨rfl, rfl, rfl⟩ | ⟨sl, ul, rfl, rfl, Hl⟩
              · simp [Instr.sliceBounds, Hh]
              · simp [Instr.sliceBounds, Hh, Hl]
          · rcases run_bound_opt (w := w) (P := P) h3 hh b2 with ⟨rfl, rfl, rfl⟩ | ⟨sh, uh, rfl, rfl, Hh⟩
            · exact (hno _ rfl rfl).elim
            · rcases run_bound_opt (w := w) (P := P) h2 hl b3 with ⟨rfl, rfl, rfl⟩ | ⟨sl, ul, rfl, rfl, Hl⟩
              · simp [Instr.sliceBounds, Hm, Hh]
              · simp [Instr.sliceBounds, Hm, Hh, Hl]
        · cases hb
      · cases hb
  · cases hb

def sslice (P : Program) (t : TypeId) (x : SV) (lo hi mx : Option SV) : Option SV :=
  match P.underlying t with
  | some (.slice e) =>
    match tySz P e with
    | none => none
    | some sz =>
      match x with
      | .slice nm off len cap => match sbounds len cap lo hi mx with
        | some (l, h, m) => match Nat.beq m l with
          | true => some (.slice nm off (h - l) (m - l))
          | false => some (.slice nm (off + l * sz) (h - l) (m - l))
        | none => none
      | .nilslice => match sbounds 0 0 lo hi mx with
        | some _ => some .nilslice
        | none => none
      | .oslice nm off len esz => match Nat.beq sz esz, mx with
        | true, none => match sbounds len len lo hi mx with
          | some (l, h, _) => match l with
            | 0 => some (.oslice nm off h esz)
            | l' + 1 => match Nat.ble (l' + 2) len with
              | true => some (.oslice nm (off + (l' + 1) * esz) (h - (l' + 1)) esz)
              | false => some .eslice
          | none => none
        | true, some _ => match sbounds len len lo hi mx with
          | some (l, h, m) => match Nat.beq m l with
            | true => some (.slice nm off (h - l) (m - l))
            | false => some (.slice nm (off + l * sz) (h - l) (m - l))
          | none => none
        | _, _ => none
      | _ => none
  | some .string => match x, mx with
    | .str s, none => match sbounds s.size s.size lo hi none with
      | some (l, h, _) => some (.str (s.extract l h))
      | none => none
    | _, _ => none
  | some (.array n e) => match x, tySz P e with
    | .ptr nm off, some sz => match sbounds n n lo hi mx with
      | some (l, h, m) => match Nat.beq m l with
        | true => some (.slice nm off (h - l) (m - l))
        | false => some (.slice nm (off + l * sz) (h - l) (m - l))
      | none => none
    | _, _ => none
  | _ => none

end

section
variable {ρ : Rho} {env : Env} {w : World} {P : Program}

/-- Bounds that are right where the capacity is the length are right where it is greater. -/
theorem sbounds_more {len cap l h m : Nat} {lo hi : Option SV} (hb : sbounds len len lo hi none = some (l, h, m)) (hc : len ≤ cap) : sbounds len cap lo hi none = some (l, h, cap) ∧ l ≤ h ∧ h ≤ len := by
  unfold sbounds at hb ⊢
  rw [show sbound none len = some len from rfl] at hb
  rw [show sbound none cap = some cap from rfl]
  cases hl : sbound lo 0 with
  | none => simp [hl] at hb
  | some l' =>
    cases hh : sbound hi len with
    | none => simp [hl, hh] at hb
    | some h' =>
      simp only [hl, hh, nat_ble] at hb ⊢
      by_cases c1 : h' ≤ len <;> by_cases c2 : l' ≤ h' <;> simp [c1, c2] at hb ⊢
      obtain ⟨rfl, rfl, rfl⟩ := hb
      have : h' ≤ cap := by omega
      simp [this]
      omega

theorem sbounds_mx {len cap l h m : Nat} {lo hi : Option SV} {mm : SV} (hb : sbounds len len lo hi (some mm) = some (l, h, m)) (hc : len ≤ cap) : sbounds len cap lo hi (some mm) = some (l, h, m) := by
  unfold sbounds at hb ⊢
  have e : sbound (some mm) cap = sbound (some mm) len := by cases mm <;> rfl
  rw [e]
  cases hm : sbound (some mm) len with
  | none => simp [hm] at hb
  | some m' =>
    cases hl : sbound lo 0 with
    | none => simp [hm, hl] at hb
    | some l' =>
      cases hi with
      | none => simp [hm, hl] at hb
      | some hv =>
        cases hh : sbound (some hv) len with
        | none => simp [hm, hl, hh] at hb
        | some h' =>
          simp only [hm, hl, hh, nat_ble] at hb ⊢
          by_cases c0 : m' ≤ len <;> by_cases c1 : h' ≤ m' <;> by_cases c2 : l' ≤ h' <;> simp [c0, c1, c2] at hb ⊢
          obtain ⟨rfl, rfl, rfl⟩ := hb
          have : m' ≤ cap := by omega
          simp [this]

theorem run_sslice {t : TypeId} {x s : SV} {lo hi mx : Option SV} {u : Value} {vl vh vm : Option Value} (h : sslice P t x lo hi mx = some s) (hx : Rep ρ env x u)
    (hl : RepO ρ env lo vl) (hh : RepO ρ env hi vh) (hm : RepO ρ env mx vm) : ∃ r, (Instr.sliceAt t u vl vh vm).run P w = .ok r w ∧ Rep ρ env s r := by
  unfold sslice at h
  split at h
  · rename_i e hu
    have he : P.elem t = e := by simp [Program.elem, hu]
    have hu' : P.underlying t = some (.slice (P.elem t)) := by rw [he]; exact hu
    have hrun : ∀ a n c, (Instr.sliceAt t (.slice a n c) vl vh vm).run P w = ((Instr.sliceBounds true n c vl vh vm).run P w).andThen fun b w => ((sizeOf (P.elem t)).run P w).andThen fun s w => .ok (sliced a b.1 b.2.1 b.2.2 s) w := by
      intro a n c
      rw [run_sliceAt_slice w t _ _ _ _ hu', run_slice_any w t a n c hu']
    split at h
    · cases h
    · rename_i sz hsz
      have hsz' : (sizeOf (P.elem t)).run P w = .ok sz w := by rw [he]; exact run_sizeOf' hsz
      split at h
      · rename_i nm off len cap
        simp only [Rep] at hx
        obtain ⟨b, n, h1, rfl⟩ := hx
        split at h
        · rename_i l hh' m hb
          obtain ⟨hr, c1, c2, c3⟩ := run_sbounds (w := w) (P := P) (b := true) hb hl hh hm
          refine ⟨_, by rw [hrun, hr]; simp only [Result.andThen_ok, hsz']; rfl, ?_⟩
          split at h
          · rename_i hml
            have hml := Nat.eq_of_beq_eq_true hml
            cases h
            simp only [Rep, sliced, hml, if_true]
            exact ⟨b, n, h1, rfl⟩
          · rename_i hml
            rw [nat_beq] at hml
            have hml : ¬ m = l := by simpa using hml
            cases h
            simp only [Rep, sliced, hml, if_false, Option.map_some, addr_add]
            exact ⟨b, n, h1, rfl⟩
        · cases h
      · simp only [Rep] at hx
        subst hx
        split at h
        · rename_i x hb
          obtain ⟨l, hh', m⟩ := x
          cases h
          obtain ⟨hr, c1, c2, c3⟩ := run_sbounds (w := w) (P := P) (b := true) hb hl hh hm
          obtain rfl : m = 0 := by omega
          obtain rfl : hh' = 0 := by omega
          obtain rfl : l = 0 := by omega
          exact ⟨_, by rw [hrun, hr]; simp only [Result.andThen_ok, hsz']; rfl, by simp [Rep, sliced]⟩
        · cases h
      · rename_i nm off len esz
        simp only [Rep] at hx
        obtain ⟨b, n, c, h1, rfl, h2, h3⟩ := hx
        split at h
        · rename_i hse
          have hse := Nat.eq_of_beq_eq_true hse
          subst hse
          cases vm with
          | some v => exact hm.elim
          | none =>
          split at h
          · rename_i l hh' m hb
            obtain ⟨hb', c1, c2⟩ := sbounds_more hb h3
            obtain ⟨hr, c3, c4, c5⟩ := run_sbounds (w := w) (P := P) (b := true) hb' hl hh hm
            refine ⟨_, by rw [hrun, hr]; simp only [Result.andThen_ok, hsz']; rfl, ?_⟩
            split at h
            · cases h
              simp only [Rep, sliced, Nat.sub_zero, Nat.zero_mul, Option.map_some, addr_add, Nat.add_zero, ite_self]
              exact ⟨b, n, c, h1, rfl, h2, by omega⟩
            · rename_i l'
              split at h
              · rename_i hlt
                have hlt := ble_true hlt
                cases h
                have : ¬ c = l' + 1 := by omega
                simp only [Rep, sliced, this, if_false, Option.map_some, addr_add]
                refine ⟨b, n, c - (l' + 1), h1, rfl, ?_, by omega⟩
                rw [← h2]
                have : (l' + 1) * sz + (c - (l' + 1)) * sz = c * sz := by rw [← Nat.add_mul]; congr 1; omega
                omega
              · rename_i hlt
                cases h
                rw [nat_ble] at hlt
                have hlt : ¬ l' + 2 ≤ len := by simpa using hlt
                have e1 : hh' - (l' + 1) = 0 := by omega
                simp only [Rep, sliced, e1]
                split
                · exact ⟨_, _, rfl⟩
                · exact ⟨_, _, rfl⟩
          · cases h
        · rename_i mm hse
          have hse := Nat.eq_of_beq_eq_true hse
          subst hse
          split at h
          · rename_i l hh' m hb
            have hb' := sbounds_mx hb h3
            obtain ⟨hr, c3, c4, c5⟩ := run_sbounds (w := w) (P := P) (b := true) hb' hl hh hm
            refine ⟨_, by rw [hrun, hr]; simp only [Result.andThen_ok, hsz']; rfl, ?_⟩
            split at h
            · rename_i hml
              have hml := Nat.eq_of_beq_eq_true hml
              cases h
              simp only [Rep, sliced, hml, if_true]
              exact ⟨b, n, h1, rfl⟩
            · rename_i hml
              rw [nat_beq] at hml
              have hml : ¬ m = l := by simpa using hml
              cases h
              simp only [Rep, sliced, hml, if_false, Option.map_some, addr_add]
              exact ⟨b, n, h1, rfl⟩
          · cases h
        · cases h
      · cases h
  · rename_i hu
    split at h
    · rename_i str
      split at h
      · rename_i l hh' m hb
        cases h
        simp only [Rep] at hx
        subst hx
        cases vm with
        | some v => exact hm.elim
        | none =>
          obtain ⟨hr, c1, c2, c3⟩ := run_sbounds (w := w) (P := P) (b := false) (vm := none) hb hl hh trivial
          refine ⟨.string (str.extract l hh'), ?_, by simp [Rep]⟩
          rw [run_sliceAt_string w t _ _ _ _ hu]
          simp [Instr.slice, run_underlying hu, hr]
      · cases h
    · cases h
  · rename_i n e hu
    split at h
    · rename_i nm off sz hsz
      simp only [Rep] at hx
      obtain ⟨b, k, h1, rfl⟩ := hx
      split at h
      · rename_i l hh' m hb
        obtain ⟨hr, c1, c2, c3⟩ := run_sbounds (w := w) (P := P) (b := false) hb hl hh hm
        refine ⟨_, by simp only [Instr.sliceAt, Sem.run_bind, run_underlying hu, Result.andThen_ok, Instr.sureAddr, Sem.run_pure, hr, run_sizeOf' hsz]; rfl, ?_⟩
        split at h
        · rename_i hml
          have hml := Nat.eq_of_beq_eq_true hml
          cases h
          simp only [Rep, hml, if_true]
          exact ⟨b, k, h1, rfl⟩
        · rename_i hml
          rw [nat_beq] at hml
          have hml : ¬ m = l := by simpa using hml
          cases h
          simp only [Rep, hml, if_false, addr_add]
          exact ⟨b, k, h1, rfl⟩
      · cases h
    · cases h
  · cases h

end
end Go.Sym
