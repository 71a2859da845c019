/- Operations that leave memory as it is: equality, strings, parts. -/
import Derived.Test.YtkfejcffacbngaaSyC
namespace Go.Sym
open Go Go.RowKit
set_option linter.unusedVariables false

/-! ### Texts -/

def bytesEq : List UInt8 → List UInt8 → Bool
  | [], [] => true
  | a :: x, b :: y => match Nat.beq a.toNat b.toNat with
    | true => bytesEq x y
    | false => false
  | _, _ => false

theorem bytesEq_spec : ∀ (x y : List UInt8), bytesEq x y = (x == y)
  | [], [] => by simp [bytesEq]
  | [], _ :: _ => by simp [bytesEq]
  | _ :: _, [] => by simp [bytesEq]
  | a :: x, b :: y => by
    simp only [bytesEq, nat_beq]
    by_cases h : a = b
    · subst h; simp [bytesEq_spec x y]
    · have : ¬ a.toNat = b.toNat := fun e => h (UInt8.toNat_inj.1 e)
      simp [this, h]

def bytesLt : List UInt8 → List UInt8 → Bool
  | _, [] => false
  | [], _ :: _ => true
  | a :: x, b :: y => match Nat.beq a.toNat b.toNat with
    | true => bytesLt x y
    | false => Nat.ble a.toNat b.toNat

theorem bytesLt_spec : ∀ (x y : List UInt8), bytesLt x y = Op.bytesLess x y
  | [], [] => by simp [bytesLt, Op.bytesLess]
  | [], _ :: _ => by simp [bytesLt, Op.bytesLess]
  | _ :: _, [] => by simp [bytesLt, Op.bytesLess]
  | a :: x, b :: y => by
    simp only [bytesLt, Op.bytesLess, nat_beq, nat_ble]
    by_cases h : a = b
    · subst h; simp [bytesLt_spec x y]
    · have h1 : ¬ a.toNat = b.toNat := fun e => h (UInt8.toNat_inj.1 e)
      simp only [h1, decide_false]
      have h2 : (a < b) ↔ a.toNat < b.toNat := UInt8.lt_iff_toNat_lt
      have h3 : (a == b) = false := by simp [h]
      simp only [h3, Bool.false_and, Bool.or_false]
      by_cases h4 : a.toNat ≤ b.toNat
      · have : a < b := h2.2 (by omega)
        simp [h4, this]
      · have : ¬ a < b := fun e => h4 (by have := h2.1 e; omega)
        simp [h4, this]

def sstr (op : BinOp) (x y : ByteArray) : Option SV :=
  match op with
  | .add => match Nat.ble (x.size + y.size) 9223372036854775807 with
    | true => some (.str (x ++ y))
    | false => none
  | .eql => some (.bool (bytesEq x.data.toList y.data.toList))
  | .neq => some (.bool (!(bytesEq x.data.toList y.data.toList)))
  | .lss => some (.bool (bytesLt x.data.toList y.data.toList))
  | .geq => some (.bool (!(bytesLt x.data.toList y.data.toList)))
  | .leq => some (.bool (bytesLt x.data.toList y.data.toList || bytesEq x.data.toList y.data.toList))
  | .gtr => some (.bool (!(bytesLt x.data.toList y.data.toList || bytesEq x.data.toList y.data.toList)))
  | _ => none

section
variable {ρ : Rho} {env : Env} {w : World} {P : Program}

theorem run_sstr {op : BinOp} {xt : TypeId} {x y : ByteArray} {s : SV} (h : sstr op x y = some s) :
    ∃ v, (Go.binOp op xt (.string x) (.string y)).run P w = .ok v w ∧ Rep ρ env s v := by
  cases op <;> simp only [sstr] at h <;> first | (cases h; done) | skip
  case add =>
    split at h
    · rename_i hb
      cases h
      have hb' := ble_true hb
      have : ¬ (((x.size + y.size : Nat) : Int) > IntKind.i64.max) := by
        have : IntKind.i64.max = 9223372036854775807 := by decide
        rw [this]; omega
      exact ⟨.string (x ++ y), by simp only [Go.binOp, Op.stringOp, this, if_false]; rfl, by simp [Rep]⟩
    · cases h
  all_goals
    cases h
    simp only [bytesEq_spec, bytesLt_spec]
    exact ⟨_, by simp only [Go.binOp, Op.stringOp, ByteArray.toList_eq]; rfl, by simp [Rep]⟩

/-! ### Equality -/

def eqFs (P : Program) (rec : TypeId → SV → SV → Option Bool) (xs ys : List SV) : List Field → Option Bool
  | [] => some true
  | f :: fs => match decide (f.name = "_") with
    | true => eqFs P rec xs ys fs
    | false => match spart P f.type xs f.offset, spart P f.type ys f.offset with
      | some a, some b => match rec f.type a b with
        | some true => eqFs P rec xs ys fs
        | some false => some false
        | none => none
      | _, _ => none

/-- is a slice nil? -/
def slNil : SV → Option Bool
  | .nilslice => some true
  | .slice .. | .oslice .. | .eslice => some false
  | _ => none

theorem slNil_spec {x : SV} {b : Bool} {u : Value} (h : slNil x = some b) (hx : Rep ρ env x u) : ∃ a n c, u = .slice a n c ∧ a.isNone = b := by
  cases x <;> simp only [slNil] at h <;> first | (cases h; done) | skip
  all_goals cases h; simp only [Rep] at hx
  · obtain ⟨_, _, _, rfl⟩ := hx; exact ⟨_, _, _, rfl, rfl⟩
  · obtain ⟨_, _, _, _, rfl, _⟩ := hx; exact ⟨_, _, _, rfl, rfl⟩
  · obtain ⟨_, _, rfl⟩ := hx; exact ⟨_, _, _, rfl, rfl⟩
  · subst hx; exact ⟨_, _, _, rfl, rfl⟩

def seqv (P : Program) : Nat → TypeId → SV → SV → Option Bool
  | 0, _, _, _ => none
  | d + 1, t, x, y =>
    match P.underlying t with
    | some .bool => match x, y with
      | .bool a, .bool b => some (a == b)
      | _, _ => none
    | some (.int _) => match x, y with
      | .int k a, .int k' b => match kEq k k' with
        | true => some (ieq a b)
        | false => none
      | _, _ => none
    | some .string => match x, y with
      | .str a, .str b => some (bytesEq a.data.toList b.data.toList)
      | _, _ => none
    | some (.pointer e) => match x, y with
      | .nilptr, .nilptr => some true
      | .nilptr, .ptr _ _ => some false
      | .ptr _ _, .nilptr => some false
      | .ptr a o, .ptr b o' => match Nat.beq a b, tySz P e with
        | true, some (n + 1) => some (Nat.beq o o')
        | _, _ => none
      | _, _ => none
    | some (.interface _) => match x, y with
      | .niliface, .niliface => some true
      | .niliface, .iface _ _ => some false
      | .iface _ _, .niliface => some false
      | .iface tx a, .iface ty b => match Nat.beq tx ty with
        | false => some false
        | true => match P.info? tx with
          | some i => match i.comparable with
            | true => seqv P d tx a b
            | false => none
          | none => none
      | _, _ => none
    | some (.struct fs) => match x, y with
      | .agg xs, .agg ys => match P.stoodInHeld t with
        | true => none
        | false => eqFs P (seqv P d) xs ys fs.toList
      | _, _ => none
    | some (.slice _) => match slNil x, slNil y with
      | some true, some b => some b
      | some false, some true => some false
      | _, _ => none
    | some (.map ..) => match x, y with
      | .nilmap, .nilmap => some true
      | _, _ => none
    | some (.func ..) => match x, y with
      | .nilfunc, .nilfunc => some true
      | .nilfunc, .func .. => some false
      | .func .., .nilfunc => some false
      | _, _ => none
    | _ => none

theorem run_eqFs {rec : TypeId → SV → SV → Option Bool} {d : Nat} {xs ys : List SV} {us vs : Array Value} (hx : RepL ρ env xs us.toList) (hy : RepL ρ env ys vs.toList)
    (hrec : ∀ t a b r u v, rec t a b = some r → Rep ρ env a u → Rep ρ env b v → (Op.equalIn d t u v).run P w = .ok r w) :
    ∀ (fs : List Field) (r : Bool), eqFs P rec xs ys fs = some r → (Op.eqFields d us vs fs).run P w = .ok r w
  | [], r, h => by simp only [eqFs, Option.some.injEq] at h; subst h; simp [Op.eqFields]
  | f :: fs, r, h => by
    simp only [eqFs] at h
    by_cases hn : f.name = "_"
    · simp only [hn, decide_true] at h
      simp only [Op.eqFields, hn, ne_eq, not_true_eq_false, if_false]
      exact run_eqFs hx hy hrec fs r h
    · simp only [hn, decide_false] at h
      cases ha : spart P f.type xs f.offset with
      | none => simp [ha] at h
      | some a =>
        cases hb : spart P f.type ys f.offset with
        | none => simp [ha, hb] at h
        | some b =>
          simp only [ha, hb] at h
          obtain ⟨u, hu1, hu2⟩ := run_part (w := w) ha hx
          obtain ⟨v, hv1, hv2⟩ := run_part (w := w) hb hy
          cases hr : rec f.type a b with
          | none => simp [hr] at h
          | some q =>
            simp only [hr] at h
            have h1 := hrec _ _ _ _ _ _ hr hu2 hv2
            simp only [Op.eqFields, hn, ne_eq, not_false_eq_true, if_true, Sem.run_bind, hu1, hv1, Result.andThen_ok, h1]
            cases q with
            | true => simp only [Bool.not_true, Bool.false_eq_true, if_false]; exact run_eqFs hx hy hrec fs r h
            | false => simp only [Option.some.injEq] at h; subst h; simp

theorem beq_addr (a b : Addr) : (a == b) = decide (a = b) := by
  by_cases h : a = b
  · simp [h]
  · simp [h]

set_option maxHeartbeats 1000000 in
theorem run_seqv : ∀ (f d : Nat) (t : TypeId) (x y : SV) (r : Bool) (u v : Value), f ≤ d → seqv P f t x y = some r → Rep ρ env x u → Rep ρ env y v → (Op.equalIn d t u v).run P w = .ok r w := by
  intro f
  induction f with
  | zero => intro d t x y r u v _ h; simp [seqv] at h
  | succ f ih =>
    intro d t x y r u v hd h hx hy
    obtain ⟨d, rfl⟩ : ∃ e, d = e + 1 := ⟨d - 1, by omega⟩
    simp only [seqv] at h
    split at h
    · rename_i hu
      split at h
      · cases h; simp only [Rep] at hx hy; subst hx; subst hy; simp [Op.equalIn, run_underlying hu]
      · cases h
    · rename_i hu
      split at h
      · split at h
        · rename_i hk
          have hk := kEq_spec hk
          cases h; simp only [Rep] at hx hy; subst hx; subst hy; subst hk
          simp [Op.equalIn, run_underlying hu, ieq_spec]
        · cases h
      · cases h
    · rename_i hu
      split at h
      · cases h; simp only [Rep] at hx hy; subst hx; subst hy
        simp [Op.equalIn, run_underlying hu, bytesEq_spec, beq_toListBytes, ByteArray.toList_eq]
      · cases h
    · rename_i hu
      split at h
      · cases h; simp only [Rep] at hx hy; subst hx; subst hy; simp [Op.equalIn, run_underlying hu]
      · cases h; simp only [Rep] at hx hy; subst hx; obtain ⟨b, n, _, rfl⟩ := hy; simp [Op.equalIn, run_underlying hu]
      · cases h; simp only [Rep] at hx hy; subst hy; obtain ⟨b, n, _, rfl⟩ := hx; simp [Op.equalIn, run_underlying hu]
      · rename_i a o b o'
        split at h
        · rename_i n hb hz
          cases h
          have hb := Nat.eq_of_beq_eq_true hb
          subst hb
          simp only [Rep] at hx hy
          obtain ⟨b1, n1, h1, rfl⟩ := hx
          obtain ⟨b2, n2, h2, rfl⟩ := hy
          rw [h1] at h2
          cases h2
          simp [Op.equalIn, run_underlying hu, run_sizeOf' hz, sameAddr, nat_beq, beq_addr]
        · cases h
      · cases h
    · rename_i hu
      split at h
      · cases h; simp only [Rep] at hx hy; subst hx; subst hy; simp [Op.equalIn, run_underlying hu]
      · cases h; simp only [Rep] at hx hy; subst hx; obtain ⟨b, rfl, _⟩ := hy; simp [Op.equalIn, run_underlying hu]
      · cases h; simp only [Rep] at hx hy; subst hy; obtain ⟨b, rfl, _⟩ := hx; simp [Op.equalIn, run_underlying hu]
      · rename_i tx a ty b
        simp only [Rep] at hx hy
        obtain ⟨u', rfl, hu'⟩ := hx
        obtain ⟨v', rfl, hv'⟩ := hy
        split at h
        · rename_i hb
          cases h
          rw [nat_beq] at hb
          have hb' : ¬ tx = ty := by simpa using hb
          simp [Op.equalIn, run_underlying hu, hb']
        · rename_i hb
          have hb := Nat.eq_of_beq_eq_true hb
          subst hb
          split at h
          · rename_i i hi
            split at h
            · rename_i hc
              have := ih d tx a b r u' v' (by omega) h hu' hv'
              simp [Op.equalIn, run_underlying hu, typeInfo, hi, hc, this]
            · cases h
          · cases h
      · cases h
    · rename_i fs hu
      split at h
      · rename_i xs ys
        split at h
        · cases h
        · rename_i hst
          simp only [Rep] at hx hy
          obtain ⟨us, rfl, hus⟩ := hx
          obtain ⟨vs, rfl, hvs⟩ := hy
          have hf : P.fieldsOf t = fs := by simp [Program.fieldsOf, hu]
          rw [run_equalIn_struct w d t us vs (by rw [hf]; exact hu) hst, hf]
          exact run_eqFs hus hvs (fun t a b r u v h1 h2 h3 => ih d t a b r u v (by omega) h1 h2 h3) _ _ h
      · cases h
    · rename_i hu
      split at h
      · rename_i q h1 h2
        cases h
        obtain ⟨a, n, c, rfl, ha⟩ := slNil_spec h1 hx
        obtain ⟨a', n', c', rfl, ha'⟩ := slNil_spec h2 hy
        cases a with
        | some a => cases ha
        | none => simp [Op.equalIn, run_underlying hu, ha']
      · rename_i h1 h2
        cases h
        obtain ⟨a, n, c, rfl, ha⟩ := slNil_spec h1 hx
        obtain ⟨a', n', c', rfl, ha'⟩ := slNil_spec h2 hy
        cases a with
        | none => cases ha
        | some a =>
          cases a' with
          | some a' => cases ha'
          | none => simp [Op.equalIn, run_underlying hu]
      · cases h
    · rename_i hu
      split at h
      · cases h; simp only [Rep] at hx hy; subst hx; subst hy; simp [Op.equalIn, run_underlying hu]
      · cases h
    · rename_i hu
      split at h
      · cases h; simp only [Rep] at hx hy; subst hx; subst hy; simp [Op.equalIn, run_underlying hu]
      · cases h; simp only [Rep] at hx hy; subst hx; obtain ⟨_, _, rfl, _⟩ := hy; simp [Op.equalIn, run_underlying hu]
      · cases h; simp only [Rep] at hx hy; subst hy; obtain ⟨_, _, rfl, _⟩ := hx; simp [Op.equalIn, run_underlying hu]
      · cases h
    · cases h

/-- May the operation be refused for two nil interfaces? (no: false) -/
def isConstO : Operand → Bool
  | .const _ => true
  | _ => false

def eqGuardS (P : Program) (t : TypeId) (cx cy : Operand) (x y : SV) : Bool :=
  match x, y with
  | .niliface, .niliface => isConstO cx || isConstO cy
  | .agg _, .agg _ => !(P.eqGuardType P.depth t)
  | .atom _, _ => false
  | .any, _ => false
  | .zslice, _ => false
  | .e0, _ => false
  | .rsl .., _ => false
  | .rptr .., _ => false
  | _, .atom _ => false
  | _, .any => false
  | _, .zslice => false
  | _, .e0 => false
  | _, .rsl .. => false
  | _, .rptr .. => false
  | _, _ => true

def sbin (P : Program) (op : BinOp) (t : TypeId) (cx cy : Operand) (x y : SV) : Option SV :=
  match x, y with
  | .int k a, .int k' b => match isShift op with
    | true => sshift op k a b
    | false => match kEq k k' with
      | true => sints op k a b
      | false => none
  | .str a, .str b => sstr op a b
  | _, _ => match op with
    | .eql => match eqGuardS P t cx cy x y with
      | true => match seqv P 100 t x y with
        | some r => some (.bool r)
        | none => none
      | false => none
    | .neq => match eqGuardS P t cx cy x y with
      | true => match seqv P 100 t x y with
        | some r => some (.bool (!r))
        | none => none
      | false => none
    | _ => none

theorem isConstO_spec {x : Operand} (h : isConstO x = true) : ∃ v, x = .const v := by cases x <;> first | exact ⟨_, rfl⟩ | cases h

theorem run_eqGuard {op : BinOp} {t : TypeId} {cx cy : Operand} {x y : SV} {u v : Value} (h : eqGuardS P t cx cy x y = true) (hx : Rep ρ env x u) (hy : Rep ρ env y v) :
    (eqGuard op t cx cy u v).run P w = .ok () w := by
  have hag : ∀ us vs, (P.eqGuardType P.depth t = false) → (eqGuard op t cx cy (.agg us) (.agg vs)).run P w = .ok () w := fun us vs hm => run_eqGuard_agg w op t cx cy us vs hm
  have hnn : (isConstO cx || isConstO cy) = true → (eqGuard op t cx cy .nilIface .nilIface).run P w = .ok () w := by
    intro h
    simp only [Bool.or_eq_true] at h
    rcases h with h | h
    · obtain ⟨c, rfl⟩ := isConstO_spec h
      cases op <;> simp [eqGuard]
    · obtain ⟨c, rfl⟩ := isConstO_spec h
      cases op <;> cases cx <;> simp [eqGuard]
  have hother : (∀ us vs, ¬ (u = .agg us ∧ v = .agg vs)) → ¬ (u = .nilIface ∧ v = .nilIface) → (eqGuard op t cx cy u v).run P w = .ok () w := by
    intro h1 h2
    cases op <;> simp [eqGuard] <;> split <;> simp_all
  by_cases hn : u = .nilIface ∧ v = .nilIface
  · obtain ⟨rfl, rfl⟩ := hn
    refine hnn ?_
    cases x <;> simp only [Rep] at hx <;> try (first | (cases hx; done) | (obtain ⟨_, _, _, h0⟩ := hx; cases h0; done) | (obtain ⟨_, _, _, _, h0, _⟩ := hx; cases h0; done) | (obtain ⟨_, _, h0⟩ := hx; cases h0; done) | (obtain ⟨_, h0, _⟩ := hx; cases h0; done) | (obtain ⟨_, _, h0, _⟩ := hx; cases h0; done) | (obtain ⟨_, _, _, h0, _⟩ := hx; cases h0; done))
    · cases y <;> simp only [Rep] at hy <;> try (first | (cases hy; done) | (obtain ⟨_, _, _, h0⟩ := hy; cases h0; done) | (obtain ⟨_, _, _, _, h0, _⟩ := hy; cases h0; done) | (obtain ⟨_, _, h0⟩ := hy; cases h0; done) | (obtain ⟨_, h0, _⟩ := hy; cases h0; done) | (obtain ⟨_, _, h0, _⟩ := hy; cases h0; done) | (obtain ⟨_, _, _, h0, _⟩ := hy; cases h0; done))
      · exact h
      all_goals simp [eqGuardS] at h
    all_goals simp [eqGuardS] at h
  · by_cases ha : ∃ us vs, u = .agg us ∧ v = .agg vs
    · obtain ⟨us, vs, rfl, rfl⟩ := ha
      refine hag us vs ?_
      cases x <;> simp only [Rep] at hx <;> try (first | (cases hx; done) | (obtain ⟨_, _, _, h0⟩ := hx; cases h0; done) | (obtain ⟨_, _, _, _, h0, _⟩ := hx; cases h0; done) | (obtain ⟨_, _, h0⟩ := hx; cases h0; done) | (obtain ⟨_, h0, _⟩ := hx; cases h0; done) | (obtain ⟨_, _, h0, _⟩ := hx; cases h0; done) | (obtain ⟨_, _, _, h0, _⟩ := hx; cases h0; done) | (obtain ⟨_, h0⟩ := hx; cases h0; done))
      all_goals cases y <;> simp only [Rep] at hy <;> try (first | (cases hy; done) | (obtain ⟨_, _, _, h0⟩ := hy; cases h0; done) | (obtain ⟨_, _, _, _, h0, _⟩ := hy; cases h0; done) | (obtain ⟨_, _, h0⟩ := hy; cases h0; done) | (obtain ⟨_, h0, _⟩ := hy; cases h0; done) | (obtain ⟨_, _, h0, _⟩ := hy; cases h0; done) | (obtain ⟨_, _, _, h0, _⟩ := hy; cases h0; done) | (obtain ⟨_, h0⟩ := hy; cases h0; done))
      all_goals first | (simp [eqGuardS] at h; done) | (simp [eqGuardS] at h; exact h)
    · exact hother (fun us vs h => ha ⟨us, vs, h⟩) hn

end
end Go.Sym
