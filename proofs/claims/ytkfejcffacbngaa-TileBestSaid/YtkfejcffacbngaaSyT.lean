/- What tests say of tests; operations that read rows. -/
import Derived.Test.YtkfejcffacbngaaSyK
import Derived.Test.YtkfejcffacbngaaSyS
namespace Go.Sym
open Go Go.RowKit
set_option linter.unusedVariables false

/-- What comes of a run: a result; a test that is not known; nothing. -/
inductive Rz (α : Type) where
  | ok (a : α)
  | fork (b : BE)
  | no

abbrev As := List (BE × Bool)

def lookA : As → BE → Option Bool
  | [], _ => none
  | (a, t) :: as, b => match beEq a b with
    | true => some t
    | false => lookA as b

/-- all that is assumed, as bounds -/
def factsAs : As → List Fact
  | [] => []
  | (b, t) :: as => factsOf b t ++ (termB b ++ factsAs as)

def judgeA (as : As) (b : BE) : Option Bool :=
  match as with
  | [] => none
  | _ => judge (termB b ++ factsAs as) b

def decideA (as : As) : BE → Option Bool
  | .not b => match decideA as b with
    | some t => some (!t)
    | none => none
  | .var i => lookA as (.var i)
  | .cmp op x y => match lookA as (.cmp op x y) with
    | some t => some t
    | none => judgeA as (.cmp op x y)
  | .req x y => match ieEq x y with
    | true => some true
    | false => lookA as (.req x y)

/-- A test whose answer is assumed. -/
def resolve (as : As) (s : SV) : SV :=
  match s with
  | .sbool b => match decideA as b with
    | some t => .bool t
    | none => s
  | _ => s

def AsOk (env : Env) (as : As) : Prop := ∀ p ∈ as, p.1.eval env = p.2

/-- the test itself, its nots struck -/
def coreB : BE → BE
  | .not b => coreB b
  | b => b


section
variable {ρ ρ' : Rho} {env : Env} {w : World} {P : Program}

theorem lookA_spec {as : As} (h : AsOk env as) : ∀ {b : BE} {t : Bool}, lookA as b = some t → b.eval env = t := by
  induction as with
  | nil => intro b t h; simp [lookA] at h
  | cons p as ihl =>
    obtain ⟨a, u⟩ := p
    intro b t hb
    simp only [lookA] at hb
    split at hb
    · rename_i he
      have := beEq_spec _ _ he
      subst this
      cases hb
      exact h (a, u) (by simp)
    · exact ihl (fun p hp => h p (by simp [hp])) hb

theorem factsAs_ok : ∀ {as : As}, AsOk env as → ∀ f ∈ factsAs as, f.ok env
  | [], _, f, hf => by simp [factsAs] at hf
  | (b, t) :: as, h, f, hf => by
    simp only [factsAs, List.mem_append] at hf
    rcases hf with hf | hf | hf
    · exact factsOf_ok b t (h (b, t) (by simp)) f hf
    · exact termB_ok b f hf
    · exact factsAs_ok (fun p hp => h p (by simp [hp])) f hf

theorem decideA_spec {as : As} (h : AsOk env as) : ∀ (b : BE) (t : Bool), decideA as b = some t → b.eval env = t
  | .not b, t, hb => by
    simp only [decideA] at hb
    split at hb
    · rename_i u hu
      cases hb
      simp only [BE.eval, decideA_spec h b u hu]
    · cases hb
  | .var i, t, hb => lookA_spec h (by simpa [decideA] using hb)
  | .req x y, t, hb => by
    simp only [decideA] at hb
    split at hb
    · rename_i he; have := ieEq_spec _ _ he; subst this; cases hb; simp [BE.eval]
    · exact lookA_spec h hb
  | .cmp op x y, t, hb => by
    simp only [decideA] at hb
    split at hb
    · rename_i u hu
      cases hb
      exact lookA_spec h hu
    · unfold judgeA at hb
      split at hb
      · cases hb
      · refine judge_ok (fun f hf => ?_) hb
        simp only [List.mem_append] at hf
        rcases hf with hf | hf
        · exact termB_ok _ f hf
        · exact factsAs_ok h f hf

theorem resolve_spec {as : As} (h : AsOk env as) {s : SV} {v : Value} (hr : Rep ρ env s v) : Rep ρ env (resolve as s) v := by
  unfold resolve
  split
  · rename_i b
    split
    · rename_i t ht
      simp only [Rep] at hr ⊢
      rw [hr, decideA_spec h b t ht]
    · exact hr
  · exact hr


end

/-- a test of two known numbers, or of one number with itself -/
def litB : BE → Option Bool
  | .not b => match litB b with
    | some t => some (!t)
    | none => none
  | .cmp .lss a b => match a, b with
    | .lit x, .lit y => some (ilt x y)
    | a, b => match ieEq a b with
      | true => some false
      | false => none
  | .cmp .eql a b => match a, b with
    | .lit x, .lit y => some (ieq x y)
    | a, b => match ieEq a b with
      | true => some true
      | false => none
  | _ => none

theorem litB_spec {env : Env} : ∀ (b : BE) (t : Bool), litB b = some t → b.eval env = t
  | .not b, t, h => by
    simp only [litB] at h
    split at h
    · rename_i u hu; cases h; simp only [BE.eval, litB_spec b u hu]
    · cases h
  | .var i, t, h => by simp [litB] at h
  | .req a b, t, h => by simp [litB] at h
  | .cmp op a b, t, h => by
    cases op <;> simp only [litB] at h <;> try (cases h; done)
    · split at h
      · cases h; simp only [BE.eval, cmpI, IE.eval, ieq_spec']; congr
      · split at h
        · rename_i he; have := ieEq_spec _ _ he; subst this; cases h; simp [BE.eval, cmpI]
        · cases h
    · split at h
      · cases h; simp only [BE.eval, cmpI, IE.eval, ilt_spec]; congr
      · split at h
        · rename_i he; have := ieEq_spec _ _ he; subst this; cases h; simp [BE.eval, cmpI]
        · cases h

def ckB (as : As) (b : BE) : Option Bool :=
  match litB b with
  | some t => some t
  | none => decideA as b

theorem ckB_spec {env : Env} {as : As} (h : AsOk env as) {b : BE} {t : Bool} (hb : ckB as b = some t) : b.eval env = t := by
  unfold ckB at hb
  split at hb
  · rename_i u hu; cases hb; exact litB_spec _ _ hu
  · exact decideA_spec h _ _ hb

/-- do all these hold? -/
def allCk (as : As) : List BE → Bool
  | [] => true
  | b :: bs => match ckB as b with
    | some true => allCk as bs
    | _ => false

/-- the first of which nothing is known -/
def firstNo (as : As) : List BE → Option BE
  | [] => none
  | b :: bs => match ckB as b with
    | some true => firstNo as bs
    | some false => none
    | none => some b

theorem allCk_spec {env : Env} {as : As} (h : AsOk env as) : ∀ {bs : List BE}, allCk as bs = true → ∀ b ∈ bs, b.eval env = true
  | [], _, b, hb => by cases hb
  | x :: bs, hx, b, hb => by
    simp only [allCk] at hx
    split at hx
    · rename_i h1
      cases hb with
      | head => exact ckB_spec h h1
      | tail _ hm => exact allCk_spec h hx b hm
    · cases hx

def nonneg (e : IE) : BE := .not (.cmp .lss e (.lit 0))
def lessB (a b : IE) : BE := .cmp .lss a b
def atmB (a b : IE) : BE := .not (.cmp .lss b a)

theorem nonneg_spec {env : Env} {e : IE} (h : (nonneg e).eval env = true) : 0 ≤ e.eval env := by
  have h2 : (IE.lit 0).eval env = 0 := by simp only [IE.eval]
  simp only [nonneg, BE.eval, cmpI, h2, Bool.not_eq_true', decide_eq_false_iff_not] at h; omega
theorem lessB_spec {env : Env} {a b : IE} (h : (lessB a b).eval env = true) : a.eval env < b.eval env := by
  simpa only [lessB, BE.eval, cmpI, decide_eq_true_eq] using h
theorem atmB_spec {env : Env} {a b : IE} (h : (atmB a b).eval env = true) : a.eval env ≤ b.eval env := by
  simp only [atmB, BE.eval, cmpI, Bool.not_eq_true', decide_eq_false_iff_not] at h; omega

def plusE (a b : IE) : IE :=
  match a, b with
  | .lit x, .lit y => .lit (Int.add x y)
  | .lit (.ofNat 0), b => b
  | a, .lit (.ofNat 0) => a
  | .plus a (.lit x), .lit y => .plus a (.lit (Int.add x y))
  | a, b => .plus a b
theorem plusE_eval (env : Env) (a b : IE) : (plusE a b).eval env = a.eval env + b.eval env := by
  unfold plusE
  split
  · simp only [IE.eval]; rfl
  · have : (IE.lit (.ofNat 0)).eval env = 0 := rfl
    rw [this]; omega
  · have : (IE.lit (.ofNat 0)).eval env = 0 := rfl
    rw [this]; omega
  · simp only [IE.eval]; rw [Int.add_assoc]; rfl
  · simp only [IE.eval]

def minusE (a b : IE) : IE :=
  match a, b with
  | .lit x, .lit y => .lit (Int.sub x y)
  | a, .lit (.ofNat 0) => a
  | a, b => match ieEq a b with
    | true => .lit 0
    | false => .minus a b
theorem minusE_eval (env : Env) (a b : IE) : (minusE a b).eval env = a.eval env - b.eval env := by
  unfold minusE
  split
  · simp only [IE.eval]; rfl
  · have : (IE.lit (.ofNat 0)).eval env = 0 := rfl
    rw [this]; omega
  · split
    · rename_i he; have := ieEq_spec _ _ he; subst this; simp only [IE.eval]; omega
    · simp only [IE.eval]

/-- the elements from a on, below b, of a row of n -/
def subE (r a b n : IE) (esz : Nat) : IE :=
  match a with
  | .lit (.ofNat 0) => match ieEq b n with
    | true => r
    | false => .sub r a b esz
  | _ => .sub r a b esz
theorem subE_eval {env : Env} {r a b n : IE} {esz : Nat} (h : (r.reval env).length = (n.eval env).toNat * esz) : (subE r a b n esz).reval env = subL (r.reval env) (a.eval env) (b.eval env) esz := by
  unfold subE
  split
  · split
    · rename_i he; have := ieEq_spec _ _ he; subst this
      have : (IE.lit (.ofNat 0)).eval env = 0 := rfl
      simp only [this, subL, Int.toNat_zero, Nat.zero_mul, List.drop_zero]
      rw [← h, List.take_length]
    · simp only [IE.reval]
  · simp only [IE.reval]

def byteInts : List UInt8 → List Int
  | [] => []
  | b :: l => Int.ofNat b.toNat :: byteInts l
theorem byteInts_eq (l : List UInt8) : byteInts l = l.map fun b => (b.toNat : Int) := by
  induction l with
  | nil => rfl
  | cons b l ih => simp only [byteInts, List.map_cons, ih]; rfl

/-- a text's row -/
def strRow : SV → Option IE
  | .str s => some (.rcon (byteInts s.data.toList))
  | .rstr r => some r
  | _ => none
theorem strRow_spec {ρ : Rho} {env : Env} {x : SV} {r : IE} {u : Value} (h : strRow x = some r) (hx : Rep ρ env x u) : ∃ s, u = .string s ∧ intsOf s = r.reval env := by
  unfold strRow at h
  split at h
  · cases h; simp only [Rep] at hx; exact ⟨_, hx, by simp only [IE.reval, byteInts_eq, intsOf]⟩
  · cases h; simpa only [Rep] using hx
  · cases h

theorem intsOf_inj {s t : ByteArray} (h : intsOf s = intsOf t) : s = t := by
  have h1 : s.data.toList = t.data.toList := by
    unfold intsOf at h
    refine (List.map_inj_right fun x y hxy => ?_).1 h
    exact UInt8.toNat_inj.1 (by omega)
  cases s; cases t
  simp only [ByteArray.mk.injEq]
  exact Array.ext' h1
theorem intsOf_length (s : ByteArray) : (intsOf s).length = s.size := by simp [intsOf]

/-- the row at a place, how many elements it has, its kinds -/
def rowP (M : Mem) : Pl → Option (IE × IE × List IntKind)
  | .own nm => match M.get nm with
    | some B => B.row
    | none => none
  | .ro i ks => some (.rvar i, .rlen (.rvar i) ks.length, ks)

def nthK (ks : List IntKind) (j : Nat) : IntKind := match nth ks j with | some k => k | none => .i64

/-- n cells of an element -/
def cellsE (ks : List IntKind) (r idx : IE) (esz : Nat) : Nat → Nat → List SV
  | _, 0 => []
  | fld, n + 1 => .sint (nthK ks fld) (.sel r idx esz fld) :: cellsE ks r idx esz (Nat.succ fld) n

def isU8 (ks : List IntKind) : Bool := match ks with | [.u8] => true | _ => false

def optI (x : Option SV) (d : IE) : Option IE :=
  match x with
  | none => some d
  | some s => match toIE s with
    | some (_, e) => some e
    | none => none

def isZero (x : SV) : Bool := match x with | .int _ (.ofNat 0) => true | _ => false

/-- a struct of numbers alone: its fields, from a cell on -/
def flatFs (P : Program) : Nat → List Field → Option Nat
  | i, [] => some i
  | i, f :: fs => match decide (f.name = "_"), P.underlying f.type, isAggT P f.type, Nat.beq f.offset i with
    | false, some (.int _), some false, true => flatFs P (Nat.succ i) fs
    | _, _, _, _ => none

def rowAny : List SV → Option IE
  | [] => some .rnil
  | s :: l => match toIE s, rowAny l with
    | some (_, e), some r => some (.rcons e r)
    | _, _ => none

def kindsL : List SV → List IntKind
  | [] => []
  | s :: l => (match toIE s with | some (k, _) => k | none => .i64) :: kindsL l

def ksEq' : List IntKind → List IntKind → Bool
  | [], [] => true
  | a :: l, b :: m => kEq a b && ksEq' l m
  | _, _ => false

/-- are two structs of numbers one? -/
def structB (P : Program) (t : TypeId) (cx cy : Operand) (x y : SV) : Option BE :=
  match x, y with
  | .agg xs, .agg ys => match P.underlying t, P.stoodInHeld t, P.eqGuardType P.depth t with
    | some (.struct fs), false, false => match flatFs P 0 fs.toList, rowAny xs, rowAny ys with
      | some n, some a, some b => match Nat.beq n xs.length, Nat.beq n ys.length, ksEq' (kindsL xs) (kindsL ys) with
        | true, true, true => some (.req a b)
        | _, _, _ => none
      | _, _, _ => none
    | _, _, _ => none
  | _, _ => none

/-- An operation that reads rows: what must hold, and its value. -/
def xr (P : Program) (M : Mem) (ev : Ev) (o : Oper) : Option (List BE × SV) :=
  match o.op with
  | .indexAddr t x i => match ev x, ev i with
    | some (.rsl p off len esz), some s => match toIE s, P.underlying t with
      | some (_, e), some (.slice el) => match tySz P el with
        | some n => match Nat.beq n esz with
          | true => some ([nonneg e, lessB e len], .rptr p (plusE off e) esz 0)
          | false => none
        | none => none
      | _, _ => none
    | _, _ => none
  | .index t x i => match ev x, ev i with
    | some sx, some s => match strRow sx, toIE s, P.underlying t with
      | some r, some (_, e), some .string => some ([nonneg e, lessB e (.rlen r 1)], .sint .u8 (.sel r e 1 0))
      | _, _, _ => none
    | _, _ => none
  | .fieldAddr t x f => match ev x, P.underlying t with
    | some (.rptr p idx esz fld), some (.struct fs) => match fs[f]? with
      | some fd => match tySz P fd.type with
        | some (n + 1) => some ([], .rptr p idx esz (fld + fd.offset))
        | _ => none
      | none => none
    | _, _ => none
  | .load t a => match ev a with
    | some (.rptr p idx esz fld) => match rowP M p with
      | some (r, cnt, ks) => match Nat.beq ks.length esz, isAggT P t with
        | true, some false => match Nat.ble (Nat.succ fld) esz with
          | true => some ([lessB idx cnt], .sint (nthK ks fld) (.sel r idx esz fld))
          | false => none
        | true, some true => match tySz P t with
          | some n => match Nat.ble (fld + n) esz with
            | true => some ([lessB idx cnt], .agg (cellsE ks r idx esz fld n))
            | false => none
          | none => none
        | _, _ => none
      | none => none
    | _ => none
  | .slice t x lo hi mx => match ev x, evO ev lo, evO ev hi, evO ev mx with
    | some (.rsl p off len esz), some a, some b, some none => match optI a (.lit 0), optI b len, P.underlying t with
      | some l, some h, some (.slice el) => match tySz P el with
        | some n => match Nat.beq n esz with
          | true => some ([nonneg l, atmB l h, atmB h len], .rsl p (plusE off l) (minusE h l) esz)
          | false => none
        | none => none
      | _, _, _ => none
    | some (.rsl p off len esz), some a, some (some b), some (some c) => match isZero b, isZero c, optI a (.lit 0), P.underlying t with
      | true, true, some (.lit (.ofNat 0)), some (.slice el) => match tySz P el with
        | some n => some ([], .zslice)
        | none => none
      | _, _, _, _ => none
    | some (.rstr r), some a, some b, some none => match optI a (.lit 0), optI b (.rlen r 1), P.underlying t with
      | some l, some h, some .string => some ([nonneg l, atmB l h, atmB h (.rlen r 1)], .rstr (subE r l h (.rlen r 1) 1))
      | _, _, _ => none
    | some (.str s), some a, some b, some none => match optI a (.lit 0), optI b (.rlen (.rcon (byteInts s.data.toList)) 1), P.underlying t with
      | some l, some h, some .string => some ([nonneg l, atmB l h, atmB h (.rlen (.rcon (byteInts s.data.toList)) 1)], .rstr (subE (.rcon (byteInts s.data.toList)) l h (.rlen (.rcon (byteInts s.data.toList)) 1) 1))
      | _, _, _ => none
    | _, _, _, _ => none
  | .binOp op t x y _ => match ev x, ev y with
    | some sx, some sy => match strRow sx, strRow sy with
      | some a, some b => match op with
        | .add => some ([atmB (.plus (.rlen a 1) (.rlen b 1)) (.lit 9223372036854775807)], .rstr (.cat a b))
        | .eql => some ([], .sbool (.req a b))
        | .neq => some ([], .sbool (.not (.req a b)))
        | _ => none
      | _, _ => match toIE sx, toIE sy with
        | none, none => match structB P t x y sx sy with
          | some b => match op with
            | .eql => some ([], .sbool b)
            | .neq => some ([], .sbool (.not b))
            | _ => none
          | none => match sx, sy, P.underlying t with
            | .rsl p off len esz, .nilslice, some (.slice el) => match op with
              | .eql => some ([lessB (.lit 0) len], .bool false)
              | .neq => some ([lessB (.lit 0) len], .bool true)
              | _ => none
            | _, _, _ => none
        | some (k, a), some (k', b) => match op with
          | .quo => match kEq k k' with
            | true => some ([.not (.cmp .eql b (.lit 0))], .sint k (.bin .quo k a b))
            | false => none
          | .rem => match kEq k k' with
            | true => some ([.not (.cmp .eql b (.lit 0))], .sint k (.bin .rem k a b))
            | false => none
          | .shl => some ([nonneg b], .sint k (.bin .shl k a b))
          | .shr => some ([nonneg b], .sint k (.bin .shr k a b))
          | _ => none
        | _, _ => none
    | _, _ => none
  | .nilCheck x => match ev x with
    | some (.rptr p idx esz fld) => some ([], .rptr p idx esz fld)
    | _ => none
  | .convert src dst x => match ev x, P.underlying dst, P.underlying src with
    | some (.rsl p off len esz), some .string, some (.slice e) => match rowP M p, P.underlying e with
      | some (r, cnt, ks), some (.int .u8) => match isU8 ks, Nat.beq esz 1 with
        | true, true => some ([nonneg len, atmB (plusE off len) cnt], .rstr (.w8 (subE r off (plusE off len) cnt 1)))
        | _, _ => none
      | _, _ => none
    | some (.rstr r), some .string, some .string => some ([], .rstr r)
    | some .zslice, some .string, some (.slice e) => match P.underlying e with
      | some (.int .u8) => some ([], .str .empty)
      | _ => none
    | some .e0, some .string, some (.slice e) => match P.underlying e with
      | some (.int .u8) => some ([], .str .empty)
      | _ => none
    | _, _, _ => none
  | .call c => match c.callee with
    | .builtin .len => match evL ev c.args.toList with
      | some [x] => match c.argTypes[0]? with
        | some t => match P.underlying t, x with
          | some (.slice _), .rsl p off len esz => some ([], .sint .i64 len)
          | some .string, .rstr r => some ([], .sint .i64 (.rlen r 1))
          | some (.slice _), .zslice => some ([], .int .i64 0)
          | some (.slice _), .e0 => some ([], .int .i64 0)
          | _, _ => none
        | none => none
      | _ => none
    | _ => none
  | _ => none

section
variable {ρ : Rho} {env : Env} {w : World} {P : Program} {ev : Ev} {av : Operand → Value}

theorem nthK_eq {ks : List IntKind} {j k : Nat} (h : j < ks.length) : kindAt ks (k * ks.length + j) = nthK ks j := by
  unfold kindAt nthK
  have : (k * ks.length + j) % ks.length = j := by rw [Nat.add_comm, Nat.add_mul_mod_self_right]; exact Nat.mod_eq_of_lt h
  rw [this, nth_eq]
  cases ks[j]? <;> rfl

theorem rowP_spec {M : Mem} {p : Pl} {r cnt : IE} {ks : List IntKind} {b base : Nat} (H : Holds ρ env M.get w) (h : rowP M p = some (r, cnt, ks)) (hp : plAt ρ env p b base) :
    RowOk env r cnt ks ∧ RowAt w b base ks (r.reval env) := by
  cases p with
  | own nm =>
    simp only [rowP] at h
    split at h
    · rename_i B hB
      obtain ⟨n, h1, rfl⟩ := hp
      obtain ⟨b', n', h2, hC⟩ := H.blk nm B hB
      rw [h1] at h2; cases h2
      have := hC.rows r cnt ks h
      exact ⟨this.1.2, this.2⟩
    · cases h
  | ro i ks' =>
    simp only [rowP, Option.some.injEq, Prod.mk.injEq] at h
    obtain ⟨rfl, rfl, rfl⟩ := h
    obtain ⟨k1, ⟨k2, k3, k4⟩, k5⟩ := H.ro i _ hp
    simp only at k2 k3 k4
    refine ⟨⟨k3, ?_, ?_⟩, by simpa only [IE.reval] using k2⟩
    · simp only [IE.eval]; exact Int.natCast_nonneg _
    · simp only [IE.reval, IE.eval, Int.toNat_natCast]
      exact (Nat.div_mul_cancel (Nat.dvd_of_mod_eq_zero k4)).symm

theorem nat_mul_lt {i n e f : Nat} (h : i < n) (hf : f < e) : i * e + f < n * e := by
  have : (i + 1) * e ≤ n * e := Nat.mul_le_mul_right _ h
  rw [Nat.add_mul] at this; omega

/-- a cell of a row -/
theorem row_cell {M : Mem} {p : Pl} {r cnt idx : IE} {ks : List IntKind} {b base esz fld : Nat} (H : Holds ρ env M.get w) (h : rowP M p = some (r, cnt, ks)) (hp : plAt ρ env p b base) (he : ks.length = esz)
    (h0 : 0 ≤ idx.eval env) (hlt : idx.eval env < cnt.eval env) (hf : fld < esz) :
    w.cell? ⟨b, base + ((idx.eval env).toNat * esz + fld), none⟩ = some (.int (nthK ks fld) ((IE.sel r idx esz fld).eval env)) := by
  obtain ⟨⟨k1, k2, k3⟩, k4⟩ := rowP_spec H h hp
  subst he
  have hl : (idx.eval env).toNat * ks.length + fld < (r.reval env).length := by
    rw [k3]; exact nat_mul_lt (by omega) hf
  have := k4 ((idx.eval env).toNat * ks.length + fld) _ (List.getElem?_eq_getElem hl)
  rw [this, nthK_eq hf]
  simp only [IE.eval, selL, List.getElem?_eq_getElem hl, Option.getD_some]

theorem cellsE_get (ks : List IntKind) (r idx : IE) (esz : Nat) : ∀ (n fld j : Nat), j < n → (cellsE ks r idx esz fld n)[j]? = some (.sint (nthK ks (fld + j)) (.sel r idx esz (fld + j)))
  | 0, fld, j, h => by omega
  | n + 1, fld, j, h => by
    cases j with
    | zero => simp [cellsE]
    | succ j =>
      simp only [cellsE, List.getElem?_cons_succ]
      rw [cellsE_get ks r idx esz n (Nat.succ fld) j (by omega)]
      have : Nat.succ fld + j = fld + (j + 1) := by omega
      rw [this]
theorem cellsE_length (ks : List IntKind) (r idx : IE) (esz : Nat) : ∀ (n fld : Nat), (cellsE ks r idx esz fld n).length = n
  | 0, fld => rfl
  | n + 1, fld => by simp only [cellsE, List.length_cons, cellsE_length ks r idx esz n]

theorem run_sb {k : IntKind} {n : Int} {y : Nat} {code : BoundsCode} (h0 : 0 ≤ n) (h1 : n ≤ y) : (Instr.sliceBound (.int k n) y code).run P w = .ok n.toNat w := by
  simp [Instr.sliceBound, asIntOf, h0, h1]

/-- a bound that may be lacking -/
def OptIs (v : Option Value) (d n : Int) : Prop := (v = none ∧ n = d) ∨ ∃ k, v = some (.int k n)

theorem optI_spec {x : Option SV} {d e : IE} {v : Option Value} (h : optI x d = some e) (hv : RepO ρ env x v) : OptIs v (d.eval env) (e.eval env) := by
  unfold optI at h
  split at h
  · cases h
    cases v with
    | none => exact .inl ⟨rfl, rfl⟩
    | some v => exact hv.elim
  · rename_i s
    split at h
    · rename_i k e' he
      cases h
      cases v with
      | none => exact hv.elim
      | some v => exact .inr ⟨k, by rw [toIE_spec he hv]⟩
    · cases h

theorem run_bounds2 {bs : Bool} {len cap : Nat} {vl vh : Option Value} {l h : Int} (hl : OptIs vl 0 l) (hh : OptIs vh len h) (h0 : 0 ≤ l) (h1 : l ≤ h) (h2 : h ≤ cap) :
    (Instr.sliceBounds bs len cap vl vh none).run P w = .ok (l.toNat, h.toNat, cap) w := by
  have e1 : ∀ code : BoundsCode, h ≤ cap → (Instr.sliceBounds bs len cap vl vh none).run P w = .ok (l.toNat, h.toNat, cap) w := by
    intro code hc
    rcases hl with ⟨rfl, rfl⟩ | ⟨k, rfl⟩ <;> rcases hh with ⟨rfl, rfl⟩ | ⟨k', rfl⟩
    · simp [Instr.sliceBounds]
    · simp only [Instr.sliceBounds, Sem.run_bind, Sem.run_pure, Result.andThen_ok, run_sb (P := P) (w := w) (by omega : 0 ≤ h) h2]; rfl
    · have : l ≤ ((len : Int).toNat : Int) := by simpa using h1
      simp only [Instr.sliceBounds, Sem.run_bind, Sem.run_pure, Result.andThen_ok]
      rw [run_sb h0 (by simpa using h1)]; simp
    · simp only [Instr.sliceBounds, Sem.run_bind, Sem.run_pure, Result.andThen_ok, run_sb (P := P) (w := w) (by omega : 0 ≤ h) h2]
      rw [run_sb h0 (by omega)]; simp
  exact e1 .sliceB h2

theorem run_xindexAddr {t el : TypeId} {p : Pl} {off len e : IE} {esz : Nat} {k : IntKind} {u v : Value} {s : SV} (hx : Rep ρ env (.rsl p off len esz) u) (hi : Rep ρ env s v) (he : toIE s = some (k, e)) (hu : P.underlying t = some (.slice el)) (hsz : tySz P el = some esz)
    (h0 : 0 ≤ e.eval env) (h1 : e.eval env < len.eval env) : ∃ r, (Instr.indexAt t u v).run P w = .ok r w ∧ Rep ρ env (.rptr p (plusE off e) esz 0) r := by
  rw [toIE_spec he hi]
  simp only [Rep] at hx
  obtain ⟨l, c, g1, g2, g3, ⟨b, base, g4, rfl, g5⟩ | ⟨rfl, g4, a, rfl⟩⟩ := hx
  · refine ⟨.pointer (some ⟨b, base + (off.eval env + e.eval env).toNat * esz + 0, none⟩), ?_, ?_⟩
    rotate_left
    · simp only [Rep, plusE_eval]
      exact ⟨b, base, g4, by omega, rfl⟩
    · have hb : 0 ≤ e.eval env ∧ e.eval env < (l : Int) := ⟨h0, by omega⟩
      have ht : ((off.eval env) + (e.eval env)).toNat = (off.eval env).toNat + (e.eval env).toNat := by omega
      simp [Instr.indexAt, asIntOf, run_underlying hu, hb, run_sizeOf' hsz, addr_add, ht, Nat.add_mul, Nat.add_assoc]
  · omega

theorem run_xload {M : Mem} {t : TypeId} {p : Pl} {r cnt idx : IE} {ks : List IntKind} {esz fld : Nat} {u : Value} (H : Holds ρ env M.get w) (hx : Rep ρ env (.rptr p idx esz fld) u) (hr : rowP M p = some (r, cnt, ks)) (hk : ks.length = esz) (hlt : idx.eval env < cnt.eval env)
    (ha : isAggT P t = some false) (hf : fld < esz) : ∃ v, (Instr.loadAt t u).run P w = .ok v w ∧ Rep ρ env (.sint (nthK ks fld) (.sel r idx esz fld)) v := by
  simp only [Rep] at hx
  obtain ⟨b, base, g1, g2, rfl⟩ := hx
  have hc := row_cell H hr g1 hk g2 hlt hf
  refine ⟨_, ?_, by simp only [Rep]; rfl⟩
  have : w.cell? ⟨b, base + (idx.eval env).toNat * esz + fld, none⟩ = some (.int (nthK ks fld) ((IE.sel r idx esz fld).eval env)) := by rw [Nat.add_assoc]; exact hc
  simp [Instr.loadAt, Instr.sureAddr, loadVar, run_isAgg' ha, this]

theorem run_xloadAgg {M : Mem} {t : TypeId} {p : Pl} {r cnt idx : IE} {ks : List IntKind} {esz fld n : Nat} {u : Value} (H : Holds ρ env M.get w) (hx : Rep ρ env (.rptr p idx esz fld) u) (hr : rowP M p = some (r, cnt, ks)) (hk : ks.length = esz) (hlt : idx.eval env < cnt.eval env)
    (ha : isAggT P t = some true) (hsz : tySz P t = some n) (hf : fld + n ≤ esz) : ∃ v, (Instr.loadAt t u).run P w = .ok v w ∧ Rep ρ env (.agg (cellsE ks r idx esz fld n)) v := by
  simp only [Rep] at hx
  obtain ⟨b, base, g1, g2, rfl⟩ := hx
  let f : Nat → Value := fun j => .int (nthK ks (fld + j)) ((IE.sel r idx esz (fld + j)).eval env)
  have hrun := run_loadCells (P := P) w ⟨b, base + (idx.eval env).toNat * esz + fld, none⟩ n f (fun j hj => by
    have := row_cell H hr g1 hk g2 hlt (fld := fld + j) (by omega)
    rw [addr_add]
    rw [show base + (idx.eval env).toNat * esz + fld + j = base + ((idx.eval env).toNat * esz + (fld + j)) by omega]
    exact this)
  refine ⟨.agg ((List.range n).map f).toArray, by simp [Instr.loadAt, Instr.sureAddr, loadVar, run_isAgg' ha, run_sizeOf' hsz, hrun], ?_⟩
  simp only [Rep]
  refine ⟨_, rfl, RepL.of_get (by simp [cellsE_length]) fun i s hs => ?_⟩
  have hi : i < n := by have := (List.getElem?_eq_some_iff.1 hs).1; rwa [cellsE_length] at this
  rw [cellsE_get _ _ _ _ _ _ _ hi] at hs
  cases hs
  exact ⟨f i, by simp [hi], by simp only [Rep]; rfl⟩

theorem run_xfield {t : TypeId} {fs : Array Field} {fd : Field} {p : Pl} {idx : IE} {esz fld f n : Nat} {u : Value} (hx : Rep ρ env (.rptr p idx esz fld) u) (hu : P.underlying t = some (.struct fs)) (hf : fs[f]? = some fd) (hsz : tySz P fd.type = some (n + 1)) :
    ∃ v, (Instr.fieldAt t u f).run P w = .ok v w ∧ Rep ρ env (.rptr p idx esz (fld + fd.offset)) v := by
  simp only [Rep] at hx ⊢
  obtain ⟨b, base, g1, g2, rfl⟩ := hx
  refine ⟨_, ?_, b, base, g1, g2, rfl⟩
  simp [Instr.fieldAt, run_underlying hu, hf, Instr.sureAddr, fieldPlace, run_sizeOf' hsz, addr_add, Nat.add_assoc]

theorem run_xslice {M : Mem} (H : Holds ρ env M.get w) {t el : TypeId} {p : Pl} {off len l h : IE} {esz : Nat} {u : Value} {vl vh : Option Value} (hx : Rep ρ env (.rsl p off len esz) u) (hu : P.underlying t = some (.slice el)) (hsz : tySz P el = some esz)
    (hl : OptIs vl 0 (l.eval env)) (hh : OptIs vh (len.eval env) (h.eval env)) (h0 : 0 ≤ l.eval env) (h1 : l.eval env ≤ h.eval env) (h2 : h.eval env ≤ len.eval env) :
    ∃ r, (Instr.sliceAt t u vl vh none).run P w = .ok r w ∧ Rep ρ env (.rsl p (plusE off l) (minusE h l) esz) r := by
  simp only [Rep] at hx
  obtain ⟨n, c, g1, g2, g3, g4⟩ := hx
  have hrun : ∀ a, (Instr.sliceAt t (.slice a n c) vl vh none).run P w = .ok (.slice (if c = (l.eval env).toNat then a else a.map (·.add ((l.eval env).toNat * esz))) ((h.eval env).toNat - (l.eval env).toNat) (c - (l.eval env).toNat)) w := by
    intro a
    have hb := run_bounds2 (P := P) (w := w) (bs := true) (len := n) (cap := c) hl (by rw [g1]; exact hh) h0 h1 (by omega)
    simp [Instr.sliceAt, Instr.slice, run_underlying hu, hb, run_sizeOf' hsz]
  have ht : ((off.eval env) + (l.eval env)).toNat = (off.eval env).toNat + (l.eval env).toNat := by omega
  rcases g4 with ⟨b, base, k1, rfl, k3⟩ | ⟨rfl, k1, a, rfl⟩
  · refine ⟨_, hrun _, ?_⟩
    simp only [Rep, plusE_eval, minusE_eval]
    refine ⟨(h.eval env).toNat - (l.eval env).toNat, c - (l.eval env).toNat, by omega, by omega, by omega, ?_⟩
    by_cases hc : c = (l.eval env).toNat
    · right
      refine ⟨by omega, ?_, _, by rw [if_pos hc]; congr 1; omega⟩
      cases p with
      | own nm => simp only [plNil]; omega
      | ro i ks => exact (H.ro i _ k1).2.1.2.2
    · left
      refine ⟨b, base, k1, ?_, ?_⟩
      · rw [if_neg hc]
        simp only [Option.map_some, addr_add, ht, Nat.add_mul, Nat.add_assoc]
      · have e : ((off.eval env) + (l.eval env)).toNat * esz + (c - (l.eval env).toNat) * esz = (off.eval env).toNat * esz + c * esz := by
          rw [ht, ← Nat.add_mul, ← Nat.add_mul]; congr 1; omega
        rw [e]; exact k3
  · have hl0 : (l.eval env).toNat = 0 := by omega
    have hh0 : (h.eval env).toNat = 0 := by omega
    refine ⟨_, hrun _, ?_⟩
    simp only [Rep, plusE_eval, minusE_eval]
    refine ⟨0, c, by omega, by omega, by omega, .inr ⟨rfl, k1, ?_⟩⟩
    rw [hl0, hh0]
    exact ⟨_, rfl⟩

theorem subL_extract (s : ByteArray) (a b : Int) : intsOf (s.extract a.toNat b.toNat) = subL (intsOf s) a b 1 := by
  simp only [intsOf, subL, Nat.mul_one, ByteArray.data_extract, Array.toList_extract, List.extract_eq_take_drop, List.drop_take, List.map_take, List.map_drop]

theorem run_xsliceStr {t : TypeId} {s : ByteArray} {r l h : IE} {vl vh : Option Value} (hu : P.underlying t = some .string) (hs : intsOf s = r.reval env)
    (hl : OptIs vl 0 (l.eval env)) (hh : OptIs vh ((IE.rlen r 1).eval env) (h.eval env)) (h0 : 0 ≤ l.eval env) (h1 : l.eval env ≤ h.eval env) (h2 : h.eval env ≤ (IE.rlen r 1).eval env) :
    ∃ v, (Instr.sliceAt t (.string s) vl vh none).run P w = .ok v w ∧ Rep ρ env (.rstr (subE r l h (.rlen r 1) 1)) v := by
  have hn : (IE.rlen r 1).eval env = (s.size : Int) := by
    simp only [IE.eval, Nat.div_one, ← hs, intsOf_length]
  rw [hn] at hh h2
  have hb := run_bounds2 (P := P) (w := w) (bs := false) (len := s.size) (cap := s.size) hl hh h0 h1 h2
  refine ⟨.string (s.extract (l.eval env).toNat (h.eval env).toNat), by simp [Instr.sliceAt, Instr.slice, run_underlying hu, hb], ?_⟩
  simp only [Rep]
  refine ⟨_, rfl, ?_⟩
  rw [subL_extract, subE_eval (by simp only [IE.eval, Nat.div_one, Nat.mul_one, Int.toNat_natCast]), hs]

theorem run_eqGuard_prim {op : BinOp} {t : TypeId} {cx cy : Operand} {u v : Value} (h : (∃ a b, u = .string a ∧ v = .string b) ∨ ∃ k a k' b, u = .int k a ∧ v = .int k' b) : (eqGuard op t cx cy u v).run P w = .ok () w := by
  rcases h with ⟨a, b, rfl, rfl⟩ | ⟨k, a, k', b, rfl, rfl⟩ <;> cases op <;> simp [eqGuard]

theorem fold_push : ∀ (ms : List Int) (a : ByteArray), ms.foldl (fun r n => r.push (UInt8.ofNat n.toNat)) a = ⟨⟨a.data.toList ++ ms.map fun n => UInt8.ofNat n.toNat⟩⟩
  | [], a => by cases a; simp
  | m :: ms, a => by
    simp only [List.foldl_cons, List.map_cons]
    rw [fold_push ms]
    congr 1; simp

theorem run_bytesToString_row {a : Addr} {len c : Nat} {ns : List Int} (hl : (loadCells a len).run P w = .ok (ns.map (Value.int .u8)).toArray w) :
    (Conv.bytesToString (.slice (some a) len c)).run P w = .ok (.string ⟨⟨ns.map fun n => UInt8.ofNat n.toNat⟩⟩) w := by
  have h := run_bytesToString (P := P) w a len c ns (by simpa using hl)
  rw [h, fold_push]
  simp

theorem ksEq'_spec : ∀ {l m : List IntKind}, ksEq' l m = true → l = m
  | [], m, h => by cases m <;> simp only [ksEq'] at h <;> first | rfl | cases h
  | a :: l, m, h => by
    cases m <;> simp only [ksEq'] at h <;> first | (cases h; done) | skip
    simp only [Bool.and_eq_true] at h
    rw [kEq_spec h.1, ksEq'_spec h.2]

theorem rowAny_spec : ∀ {l : List SV} {r : IE} {vs : List Value}, rowAny l = some r → RepL ρ env l vs → (r.reval env).length = l.length ∧ (kindsL l).length = l.length ∧ ∀ i : Nat, vs[i]? = (match (kindsL l)[i]?, (r.reval env)[i]? with | some k, some x => some (Value.int k x) | _, _ => none)
  | [], r, vs, h, hr => by
    simp only [rowAny, Option.some.injEq] at h; subst h
    simp only [RepL] at hr; subst hr
    simp [IE.reval, kindsL]
  | s :: l, r, vs, h, hr => by
    simp only [rowAny] at h
    split at h <;> try (cases h; done)
    rename_i k e r' he hl
    cases h
    simp only [RepL] at hr
    obtain ⟨v, vs', rfl, h2, h3⟩ := hr
    obtain ⟨h4, h5, h6⟩ := rowAny_spec hl h3
    have hv := toIE_spec he h2
    refine ⟨by simp only [IE.reval, List.length_cons, h4], by simp only [kindsL, List.length_cons, h5], fun i => ?_⟩
    cases i with
    | zero => simp [IE.reval, kindsL, he, hv]
    | succ i => simp only [IE.reval, kindsL, List.getElem?_cons_succ]; exact h6 i

theorem eqFields_flat {ks : List IntKind} {l m : List Int} {us vs : Array Value} (hl : l.length = ks.length) (hm : m.length = ks.length) (hu : ∀ i : Nat, us.toList[i]? = (match ks[i]?, l[i]? with | some k, some x => some (Value.int k x) | _, _ => none)) (hv : ∀ i : Nat, vs.toList[i]? = (match ks[i]?, m[i]? with | some k, some x => some (Value.int k x) | _, _ => none)) (d : Nat) :
    ∀ (fs : List Field) (i : Nat), flatFs P i fs = some ks.length → (Op.eqFields (d + 1) us vs fs).run P w = .ok (decide (l.drop i = m.drop i)) w
  | [], i, h => by
    simp only [flatFs, Option.some.injEq] at h
    have e1 : l.drop i = [] := List.drop_eq_nil_of_le (by omega)
    have e2 : m.drop i = [] := List.drop_eq_nil_of_le (by omega)
    rw [e1, e2]
    simp [Op.eqFields]
  | f :: fs, i, h => by
    simp only [flatFs] at h
    split at h <;> try (cases h; done)
    rename_i k0 h1 h2 h3 h4
    have h4 := Nat.eq_of_beq_eq_true h4
    have hmono : ∀ (fs : List Field) (i n : Nat), flatFs P i fs = some n → i ≤ n := by
      intro fs
      induction fs with
      | nil => intro i n h; simp only [flatFs, Option.some.injEq] at h; omega
      | cons f fs ih =>
        intro i n h
        simp only [flatFs] at h
        split at h <;> try (cases h; done)
        have := ih _ _ h; omega
    have hi : i < ks.length := by have := hmono _ _ _ h; omega
    have hk := List.getElem?_eq_getElem hi
    have hx := List.getElem?_eq_getElem (l := l) (i := i) (by omega)
    have hy := List.getElem?_eq_getElem (l := m) (i := i) (by omega)
    have pu : (part f.type us f.offset).run P w = .ok (.int ks[i] (l[i]'(by omega))) w := by
      have := hu i
      rw [hk, hx] at this
      have : us[i]? = some (.int ks[i] (l[i]'(by omega))) := by simpa using this
      simp [part, run_isAgg' h3, h4, this]
    have pv : (part f.type vs f.offset).run P w = .ok (.int ks[i] (m[i]'(by omega))) w := by
      have := hv i
      rw [hk, hy] at this
      have : vs[i]? = some (.int ks[i] (m[i]'(by omega))) := by simpa using this
      simp [part, run_isAgg' h3, h4, this]
    have hn : ¬ f.name = "_" := by simpa using h1
    simp only [Op.eqFields, hn, ne_eq, not_false_eq_true, if_true, Sem.run_bind, pu, pv, Result.andThen_ok, run_equalIn_int w d f.type _ _ _ _ h2]
    rw [List.drop_eq_getElem_cons (by omega : i < l.length), List.drop_eq_getElem_cons (by omega : i < m.length)]
    by_cases he : l[i]'(by omega) = m[i]'(by omega)
    · have := eqFields_flat hl hm hu hv d fs (i + 1) h
      simp only [he, beq_self_eq_true, Bool.not_true, Bool.false_eq_true, if_false, this, List.cons.injEq, true_and]
    · have hb : (l[i]'(by omega) == m[i]'(by omega)) = false := by simpa using he
      have hd : ¬ ((l[i]'(by omega)) :: l.drop (i + 1) = (m[i]'(by omega)) :: m.drop (i + 1)) := fun q => he (List.cons.inj q).1
      simp only [hb, Bool.not_false, if_true, Sem.run_pure]
      rw [decide_eq_false hd]

theorem run_structB {op : BinOp} {t : TypeId} {cx cy : Operand} {x y : SV} {b : BE} {u v : Value} (h : structB P t cx cy x y = some b) (hx : Rep ρ env x u) (hy : Rep ρ env y v) :
    (eqGuard op t cx cy u v).run P w = .ok () w ∧ (Op.equal t u v).run P w = .ok (b.eval env) w ∧ ∃ us vs, u = .agg us ∧ v = .agg vs := by
  unfold structB at h
  split at h <;> try (cases h; done)
  rename_i xs ys
  split at h <;> try (cases h; done)
  rename_i fs hu hst hg
  split at h <;> try (cases h; done)
  rename_i n a b' hf ha hb
  split at h <;> try (cases h; done)
  rename_i h1 h2 h3
  have h1 := Nat.eq_of_beq_eq_true h1
  have h2 := Nat.eq_of_beq_eq_true h2
  have h3 := ksEq'_spec h3
  cases h
  simp only [Rep] at hx hy
  obtain ⟨us, rfl, hus⟩ := hx
  obtain ⟨vs, rfl, hvs⟩ := hy
  obtain ⟨q1, q2, q3⟩ := rowAny_spec ha hus
  obtain ⟨q4, q5, q6⟩ := rowAny_spec hb hvs
  refine ⟨run_eqGuard_agg w op t cx cy us vs hg, ?_, us, vs, rfl, rfl⟩
  have hff : P.fieldsOf t = fs := by simp [Program.fieldsOf, hu]
  show (Op.equalIn 10000 t (.agg us) (.agg vs)).run P w = _
  rw [run_equalIn_struct w 9999 t us vs (by rw [hff]; exact hu) hst, hff]
  rw [← h3] at q5 q6
  have := eqFields_flat (P := P) (w := w) (ks := kindsL xs) (us := us) (vs := vs) (by rw [q1, q2]) (by rw [q4, q5]) q3 q6 9998 fs.toList 0 (by rw [hf, h1, q2])
  simp only [List.drop_zero] at this
  rw [this]
  simp only [BE.eval]

theorem pair_some {α β : Type} {a c : α} {b d : β} (h : some (a, b) = some (c, d)) : a = c ∧ b = d := by cases h; exact ⟨rfl, rfl⟩

theorem equalIn_someNil' {t el : TypeId} (hu : P.underlying t = some (.slice el)) {a : Addr} {n c d : Nat} : (Op.equalIn (d + 1) t (.slice (some a) n c) (.slice none 0 0)).run P w = .ok false w := by
  simp [Op.equalIn, run_underlying hu]
theorem equalIn_someNil {t el : TypeId} (hu : P.underlying t = some (.slice el)) {a : Addr} {n c : Nat} : (Op.equalIn Op.maxDepth t (.slice (some a) n c) (.slice none 0 0)).run P w = .ok false w := equalIn_someNil' (d := 9999) hu


theorem run_xr {M : Mem} {o : Oper} {bs : List BE} {s : SV} (H : Holds ρ env M.get w) (hev : EvOk ρ env ev av) (h : xr P M ev o = some (bs, s)) (hb : ∀ b ∈ bs, b.eval env = true) :
    ∃ v, (execOp av o).run P w = .ok (.value v) w ∧ Rep ρ env s v := by
  unfold xr at h
  split at h
  · -- indexAddr
    rename_i t x i ho
    split at h <;> try (cases h; done)
    rename_i p off len esz si hx hi
    split at h <;> try (cases h; done)
    rename_i k e el he hu
    split at h <;> try (cases h; done)
    rename_i n hn
    split at h <;> try (cases h; done)
    rename_i hne
    have := Nat.eq_of_beq_eq_true hne; subst this
    cases h
    obtain ⟨v, h1, h2⟩ := run_xindexAddr (w := w) (hev _ _ hx) (hev _ _ hi) he hu hn (nonneg_spec (hb _ (by simp))) (lessB_spec (hb _ (by simp)))
    exact ⟨v, by simp [execOp, ho, h1], h2⟩
  · -- index
    rename_i t x i ho
    split at h <;> try (cases h; done)
    rename_i sx si hx hi
    split at h <;> try (cases h; done)
    rename_i r k e hr he hu
    cases h
    obtain ⟨str, hs, hi2⟩ := strRow_spec hr (hev _ _ hx)
    have h0 := nonneg_spec (hb _ (List.mem_cons_self ..))
    have h1 := lessB_spec (hb (lessB e (.rlen r 1)) (by simp))
    have hv := toIE_spec he (hev _ _ hi)
    have hn : (IE.rlen r 1).eval env = (str.size : Int) := by simp only [IE.eval, Nat.div_one, ← hi2, intsOf_length]
    rw [hn] at h1
    have hlt : (e.eval env).toNat < str.size := by omega
    refine ⟨.int .u8 ((str[(e.eval env).toNat]'hlt).toNat : Int), ?_, ?_⟩
    · have hg : str[(e.eval env).toNat]? = some (str[(e.eval env).toNat]'hlt) := by simp [hlt]
      simp [execOp, ho, hs, hv, Instr.index, asIntOf, run_underlying hu, h0, hg]
    · simp only [Rep, IE.eval, selL, Nat.mul_one, Nat.add_zero, ← hi2, intsOf]
      have hl2 : (e.eval env).toNat < str.data.toList.length := by simpa using hlt
      simp only [List.getElem?_map, List.getElem?_eq_getElem hl2, Option.map_some, Option.getD_some]
      rfl
  · -- fieldAddr
    rename_i t x f ho
    split at h <;> try (cases h; done)
    rename_i p idx esz fld fs hx hu
    split at h <;> try (cases h; done)
    rename_i fd hf
    split at h <;> try (cases h; done)
    rename_i n hn
    cases h
    obtain ⟨v, h1, h2⟩ := run_xfield (w := w) (hev _ _ hx) hu hf hn
    exact ⟨v, by simp [execOp, ho, h1], h2⟩
  · -- load
    rename_i t a ho
    split at h <;> try (cases h; done)
    rename_i p idx esz fld ha
    split at h <;> try (cases h; done)
    rename_i r cnt ks hr
    split at h <;> try (cases h; done)
    · rename_i hk hag
      have hk := Nat.eq_of_beq_eq_true hk
      split at h <;> try (cases h; done)
      rename_i hf
      have hf := ble_true hf
      cases h
      obtain ⟨v, h1, h2⟩ := run_xload H (hev _ _ ha) hr hk (lessB_spec (hb _ (by simp))) hag hf
      exact ⟨v, by simp [execOp, ho, h1], h2⟩
    · rename_i hk hag
      have hk := Nat.eq_of_beq_eq_true hk
      split at h <;> try (cases h; done)
      rename_i n hn
      split at h <;> try (cases h; done)
      rename_i hf
      have hf := ble_true hf
      cases h
      obtain ⟨v, h1, h2⟩ := run_xloadAgg H (hev _ _ ha) hr hk (lessB_spec (hb _ (by simp))) hag hn hf
      exact ⟨v, by simp [execOp, ho, h1], h2⟩
  · -- slice
    rename_i t x lo hi mx ho
    split at h <;> try (cases h; done)
    · rename_i p off len esz a b hx hlo hhi hmx
      split at h <;> try (cases h; done)
      rename_i l h' el hl hh hu
      split at h <;> try (cases h; done)
      rename_i n hn
      split at h <;> try (cases h; done)
      rename_i hne
      have := Nat.eq_of_beq_eq_true hne; subst this
      cases h
      have hm : mx.map av = none := by
        have := evO_spec hev hmx
        cases hq : mx.map av with
        | none => rfl
        | some q => rw [hq] at this; exact this.elim
      obtain ⟨v, h1, h2⟩ := run_xslice (w := w) H (hev _ _ hx) hu hn (optI_spec hl (evO_spec hev hlo)) (optI_spec hh (evO_spec hev hhi)) (nonneg_spec (hb _ (by simp))) (atmB_spec (hb (atmB l h') (by simp))) (atmB_spec (hb (atmB h' len) (by simp)))
      exact ⟨v, by simp [execOp, ho, hm, h1], h2⟩
    · rename_i p off len esz a b c hx hlo hhi hmx
      split at h <;> try (cases h; done)
      rename_i l el hb0 hc0 hl hu
      split at h <;> try (cases h; done)
      rename_i n hn
      cases h
      have h1 := evO_spec hev hlo
      have h2 := evO_spec hev hhi
      have h3 := evO_spec hev hmx
      have hz : ∀ x v, isZero x = true → Rep ρ env x v → ∃ k, v = .int k 0 := by
        intro x v hz hr
        unfold isZero at hz
        split at hz
        · simp only [Rep] at hr; exact ⟨_, hr⟩
        · cases hz
      obtain ⟨vh, hvh⟩ : ∃ vh, hi.map av = some vh := by
        cases hq : hi.map av with
        | none => rw [hq] at h2; exact h2.elim
        | some q => exact ⟨q, rfl⟩
      obtain ⟨vm, hvm⟩ : ∃ vm, mx.map av = some vm := by
        cases hq : mx.map av with
        | none => rw [hq] at h3; exact h3.elim
        | some q => exact ⟨q, rfl⟩
      rw [hvh] at h2; rw [hvm] at h3
      obtain ⟨k1, rfl⟩ := hz _ _ hb0 h2
      obtain ⟨k2, rfl⟩ := hz _ _ hc0 h3
      have hlo' := optI_spec hl h1
      have e0 : (IE.lit (.ofNat 0)).eval env = 0 := rfl
      have e1 : (IE.lit 0).eval env = 0 := rfl
      rw [e0, e1] at hlo'
      have hx' := hev _ _ hx
      simp only [Rep] at hx'
      obtain ⟨n', c', _, _, _, hx'⟩ := hx'
      have hu' : ∃ a', av x = .slice a' n' c' := by
        rcases hx' with ⟨_, _, _, hq, _⟩ | ⟨rfl, _, a, hq⟩
        · exact ⟨_, hq⟩
        · exact ⟨a, hq⟩
      obtain ⟨a', ha'⟩ := hu'
      refine ⟨.slice a' 0 0, ?_, by simp only [Rep]; exact ⟨a', rfl⟩⟩
      rcases hlo' with ⟨hlo', _⟩ | ⟨k3, hlo'⟩
      · simp [execOp, ho, hlo', hvh, hvm, ha', Instr.sliceAt, Instr.slice, run_underlying hu, Instr.sliceBounds, run_sb, run_sizeOf' hn]
      · simp [execOp, ho, hlo', hvh, hvm, ha', Instr.sliceAt, Instr.slice, run_underlying hu, Instr.sliceBounds, run_sb, run_sizeOf' hn]
    · rename_i r a b hx hlo hhi hmx
      split at h <;> try (cases h; done)
      rename_i l h' hl hh hu
      cases h
      have hm : mx.map av = none := by
        have := evO_spec hev hmx
        cases hq : mx.map av with
        | none => rfl
        | some q => rw [hq] at this; exact this.elim
      have hx' := hev _ _ hx
      simp only [Rep] at hx'
      obtain ⟨str, hs, hi2⟩ := hx'
      obtain ⟨v, h1, h2⟩ := run_xsliceStr (ρ := ρ) (w := w) hu hi2 (optI_spec hl (evO_spec hev hlo)) (optI_spec hh (evO_spec hev hhi)) (nonneg_spec (hb _ (by simp))) (atmB_spec (hb (atmB l h') (by simp))) (atmB_spec (hb (atmB h' (.rlen r 1)) (by simp)))
      exact ⟨v, by simp [execOp, ho, hm, hs, h1], h2⟩
    · rename_i str a b hx hlo hhi hmx
      split at h <;> try (cases h; done)
      rename_i l h' hl hh hu
      cases h
      have hm : mx.map av = none := by
        have := evO_spec hev hmx
        cases hq : mx.map av with
        | none => rfl
        | some q => rw [hq] at this; exact this.elim
      have hx' := hev _ _ hx
      simp only [Rep] at hx'
      have hi2 : intsOf str = (IE.rcon (byteInts str.data.toList)).reval env := by simp only [IE.reval, byteInts_eq, intsOf]
      obtain ⟨v, h1, h2⟩ := run_xsliceStr (ρ := ρ) (w := w) hu hi2 (optI_spec hl (evO_spec hev hlo)) (optI_spec hh (evO_spec hev hhi)) (nonneg_spec (hb _ (by simp))) (atmB_spec (hb (atmB l h') (by simp))) (atmB_spec (hb (atmB h' _) (by simp)))
      exact ⟨v, by simp [execOp, ho, hm, hx', h1], h2⟩
  · -- binOp
    rename_i op t x y yt ho
    split at h <;> try (cases h; done)
    rename_i sx sy hx hy
    split at h
    · rename_i a b ha hb'
      obtain ⟨s1, hs1, hi1⟩ := strRow_spec ha (hev _ _ hx)
      obtain ⟨s2, hs2, hi2⟩ := strRow_spec hb' (hev _ _ hy)
      have hg := run_eqGuard_prim (P := P) (w := w) (op := op) (t := t) (cx := x) (cy := y) (u := .string s1) (v := .string s2) (.inl ⟨_, _, rfl, rfl⟩)
      have heq : (s1.toList == s2.toList) = decide (a.reval env = b.reval env) := by
        rw [← hi1, ← hi2]
        by_cases e : s1 = s2
        · subst e; simp
        · have h1 : ¬ intsOf s1 = intsOf s2 := fun q => e (intsOf_inj q)
          have h2 : ¬ s1.toList = s2.toList := fun q => e (by
            rw [ByteArray.toList_eq, ByteArray.toList_eq] at q
            cases s1; cases s2
            simp only [ByteArray.mk.injEq]
            exact Array.ext' q)
          simp [h1, h2]
      split at h <;> try (cases h; done)
      · cases h
        have hsz := atmB_spec (hb _ (List.mem_cons_self ..))
        have hsz' : ¬ (((s1.size + s2.size : Nat) : Int) > IntKind.i64.max) := by
          have e : IntKind.i64.max = 9223372036854775807 := by decide
          simp only [IE.eval, Nat.div_one, ← hi1, ← hi2, intsOf_length] at hsz
          rw [e]; omega
        refine ⟨.string (s1 ++ s2), ?_, ?_⟩
        · simp only [execOp, ho, hs1, hs2, Sem.run_bind, hg, Result.andThen_ok, Go.binOp, Op.stringOp, hsz', if_false]; rfl
        · simp only [Rep]
          refine ⟨_, rfl, ?_⟩
          simp only [IE.reval, ← hi1, ← hi2, intsOf, ByteArray.data_append, Array.toList_append, List.map_append]
      · cases h
        refine ⟨.bool (decide (a.reval env = b.reval env)), ?_, by simp only [Rep, BE.eval]⟩
        simp only [execOp, ho, hs1, hs2, Sem.run_bind, hg, Result.andThen_ok, Go.binOp, Op.stringOp, heq]; rfl
      · cases h
        refine ⟨.bool (!decide (a.reval env = b.reval env)), ?_, by simp only [Rep, BE.eval]⟩
        simp only [execOp, ho, hs1, hs2, Sem.run_bind, hg, Result.andThen_ok, Go.binOp, Op.stringOp, heq]; rfl
    · split at h <;> try (cases h; done)
      · split at h <;> try (cases h; done)
        rename_i b hsb
        obtain ⟨g1, g2, us, vs, hu, hv⟩ := run_structB (w := w) (op := op) hsb (hev _ _ hx) (hev _ _ hy)
        split at h <;> try (cases h; done)
        · cases h
          refine ⟨.bool (b.eval env), ?_, by simp only [Rep]⟩
          simp only [execOp, ho, Sem.run_bind, g1, Result.andThen_ok]
          rw [binOp_eql (by rw [hu]; rfl), g2]; rfl
        · cases h
          refine ⟨.bool (!(b.eval env)), ?_, by simp only [Rep, BE.eval]⟩
          simp only [execOp, ho, Sem.run_bind, g1, Result.andThen_ok]
          rw [binOp_neq (by rw [hu]; rfl), g2]; rfl
        · split at h <;> try (cases h; done)
          rename_i p off len esz el hu _ _ _ _
          have hx' := hev _ _ hx
          have hy' := hev _ _ hy
          simp only [Rep] at hx' hy'
          obtain ⟨n, c, hn, _, _, hx'⟩ := hx'
          have hpos : ∀ (q : (lessB (.lit 0) len).eval env = true), ∃ a, av x = .slice (some a) n c := by
            intro q
            have q := lessB_spec q
            simp only [IE.eval] at q
            rcases hx' with ⟨b, base, _, hq, _⟩ | ⟨hz, _⟩
            · exact ⟨_, hq⟩
            · omega
          split at h <;> try (cases h; done)
          · cases h
            obtain ⟨a, ha⟩ := hpos (hb _ (List.mem_cons_self ..))
            refine ⟨.bool false, ?_, by simp only [Rep]⟩
            simp [execOp, ho, ha, hy', eqGuard, Go.binOp, Op.equal, equalIn_someNil hu]
          · cases h
            obtain ⟨a, ha⟩ := hpos (hb _ (List.mem_cons_self ..))
            refine ⟨.bool true, ?_, by simp only [Rep]⟩
            simp [execOp, ho, ha, hy', eqGuard, Go.binOp, Op.equal, equalIn_someNil hu]
      rename_i k a k' b ha hb'
      have hv1 := toIE_spec ha (hev _ _ hx)
      have hv2 := toIE_spec hb' (hev _ _ hy)
      have hg := run_eqGuard_prim (P := P) (w := w) (op := op) (t := t) (cx := x) (cy := y) (u := .int k (a.eval env)) (v := .int k' (b.eval env)) (.inr ⟨_, _, _, _, rfl, rfl⟩)
      split at h <;> try (cases h; done)
      · split at h <;> try (cases h; done)
        rename_i hk
        have := kEq_spec hk; subst this
        cases h
        have hz : ¬ b.eval env = 0 := by
          have := hb _ (List.mem_cons_self ..)
          simp only [BE.eval, cmpI, IE.eval, Bool.not_eq_true'] at this
          exact of_decide_eq_false this
        refine ⟨.int k ((IE.bin .quo k a b).eval env), ?_, by simp only [Rep]⟩
        simp [execOp, ho, hv1, hv2, hg, Go.binOp, Op.intDiv, hz, IE.eval, binI]
      · split at h <;> try (cases h; done)
        rename_i hk
        have := kEq_spec hk; subst this
        cases h
        have hz : ¬ b.eval env = 0 := by
          have := hb _ (List.mem_cons_self ..)
          simp only [BE.eval, cmpI, IE.eval, Bool.not_eq_true'] at this
          exact of_decide_eq_false this
        refine ⟨.int k ((IE.bin .rem k a b).eval env), ?_, by simp only [Rep]⟩
        simp [execOp, ho, hv1, hv2, hg, Go.binOp, Op.intDiv, hz, IE.eval, binI]
      · cases h
        have hz : ¬ b.eval env < 0 := by have := nonneg_spec (hb _ (List.mem_cons_self ..)); omega
        refine ⟨.int k ((IE.bin .shl k a b).eval env), ?_, by simp only [Rep]⟩
        simp [execOp, ho, hv1, hv2, hg, Go.binOp, Op.shift, hz, IE.eval, binI]
      · cases h
        have hz : ¬ b.eval env < 0 := by have := nonneg_spec (hb _ (List.mem_cons_self ..)); omega
        refine ⟨.int k ((IE.bin .shr k a b).eval env), ?_, by simp only [Rep]⟩
        simp [execOp, ho, hv1, hv2, hg, Go.binOp, Op.shift, hz, IE.eval, binI]
  · -- nilCheck
    rename_i x ho
    split at h <;> try (cases h; done)
    rename_i p idx esz fld hx
    cases h
    have hv := hev _ _ hx
    have hv0 := hv
    simp only [Rep] at hv
    obtain ⟨b, base, _, _, hv⟩ := hv
    exact ⟨_, by simp [execOp, ho, hv]; rfl, by rw [← hv]; exact hv0⟩
  · -- convert
    rename_i src dst x ho
    split at h <;> try (cases h; done)
    · rename_i p off len esz e hx hd hs
      split at h <;> try (cases h; done)
      rename_i r cnt ks hr he
      split at h <;> try (cases h; done)
      rename_i hu8 h1
      have := Nat.eq_of_beq_eq_true h1; subst this
      have hks : ks = [.u8] := by
        unfold isU8 at hu8
        split at hu8
        · rfl
        · cases hu8
      subst hks
      cases h
      have hlen := nonneg_spec (hb _ (List.mem_cons_self ..))
      have hin := atmB_spec (hb (atmB (plusE off len) cnt) (by simp))
      rw [plusE_eval] at hin
      have hv := hev _ _ hx
      simp only [Rep] at hv
      obtain ⟨l, c, g1, g2, g3, g4⟩ := hv
      have hsl : ∀ (hok : RowOk env r cnt [IntKind.u8]), (subE r off (plusE off len) cnt 1).reval env = subL (r.reval env) (off.eval env) (off.eval env + len.eval env) 1 := fun hok => by
        rw [subE_eval (by simpa using hok.2.2), plusE_eval]
      rcases g4 with ⟨b, base, k1, k2, k3⟩ | ⟨rfl, k1, a, k2⟩
      · obtain ⟨hok, hat⟩ := rowP_spec H hr k1
        have hrl : (r.reval env).length = (cnt.eval env).toNat := by simpa using hok.2.2
        have hcell : ∀ j, j < l → w.cell? ⟨b, base + (off.eval env).toNat * 1 + j, none⟩ = some (.int .u8 ((IE.sel r (.lit (off.eval env + j)) 1 0).eval env)) := by
          intro j hj
          have := row_cell (ρ := ρ) (idx := .lit (off.eval env + j)) (fld := 0) H hr k1 rfl (by simp only [IE.eval]; omega) (by simp only [IE.eval]; omega) (by simp)
          have e : (IE.lit (off.eval env + j)).eval env = off.eval env + j := by simp only [IE.eval]
          rw [e] at this
          have e2 : base + ((off.eval env + (j : Int)).toNat * 1 + 0) = base + (off.eval env).toNat * 1 + j := by omega
          simp only [List.length_singleton] at this
          rw [e2] at this
          exact this
        let ns : List Int := (List.range l).map fun j => (IE.sel r (.lit (off.eval env + (j : Nat))) 1 0).eval env
        have hns : ns = subL (r.reval env) (off.eval env) (off.eval env + len.eval env) 1 := by
          refine List.ext_getElem? fun j => ?_
          have e3 : (off.eval env + len.eval env).toNat = (off.eval env).toNat + l := by omega
          simp only [ns, subL, Nat.mul_one, e3, List.getElem?_map, List.getElem?_drop, List.getElem?_take]
          by_cases hj : j < l
          · have h5 : (off.eval env).toNat + j < (r.reval env).length := by omega
            have e4 : (off.eval env + (j : Int)).toNat = (off.eval env).toNat + j := by omega
            have h6 : (off.eval env).toNat + j < (off.eval env).toNat + l := by omega
            simp only [List.getElem?_range hj, Option.map_some, h6, if_true, IE.eval, selL, Nat.mul_one, Nat.add_zero, e4, List.getElem?_eq_getElem h5, Option.getD_some]
          · have h6 : ¬ (off.eval env).toNat + j < (off.eval env).toNat + l := by omega
            rw [if_neg h6]
            have : (List.range l)[j]? = none := by simp; omega
            simp [this]
        let f : Nat → Value := fun j => .int .u8 ((IE.sel r (.lit (off.eval env + (j : Nat))) 1 0).eval env)
        have hload := run_loadCells (P := P) w ⟨b, base + (off.eval env).toNat * 1, none⟩ l f (fun j hj => by rw [addr_add]; exact hcell j hj)
        let bs8 : List UInt8 := ns.map fun n => UInt8.ofNat n.toNat
        refine ⟨.string ⟨⟨bs8⟩⟩, ?_, ?_⟩
        · have hfold : ∀ (ms : List Int) (a : ByteArray), ms.foldl (fun r n => r.push (UInt8.ofNat n.toNat)) a = ⟨⟨a.data.toList ++ ms.map fun n => UInt8.ofNat n.toNat⟩⟩ := by
            intro ms
            induction ms with
            | nil => intro a; cases a; simp
            | cons m ms ih => intro a; simp only [List.foldl_cons, ih, List.map_cons]; congr 1; simp
          have hbs := run_bytesToString_row (P := P) (w := w) (a := ⟨b, base + (off.eval env).toNat * 1, none⟩) (len := l) (c := c) (ns := ns) (by
            have : ((List.range l).map f).toArray = (ns.map (Value.int .u8)).toArray := by simp [ns, f]
            rw [← this]; exact hload)
          simp only [execOp, ho, k2, Sem.run_bind, convert, run_underlying hd, run_underlying hs, run_underlying he, Result.andThen_ok]
          rw [hbs]
          rfl
        · simp only [Rep]
          refine ⟨_, rfl, ?_⟩
          simp only [IE.reval, intsOf, bs8, w8L]
          rw [hsl hok, ← hns, List.map_map]
          rfl
      · refine ⟨.string .empty, ?_, ?_⟩
        · have hz : (Conv.bytesToString (.slice a 0 c)).run P w = .ok (.string .empty) w := by
            cases a with
            | none => rfl
            | some a =>
              exact run_bytesToString_row (P := P) (w := w) (a := a) (len := 0) (c := c) (ns := []) (by simp [loadCells, loadCellsFrom])
          simp only [execOp, ho, k2, Sem.run_bind, convert, run_underlying hd, run_underlying hs, run_underlying he, Result.andThen_ok]
          rw [hz]
          rfl
        · simp only [Rep]
          refine ⟨_, rfl, ?_⟩
          have hl0 : len.eval env = 0 := by omega
          have hrl : (r.reval env).length = (cnt.eval env).toNat := by
            cases p with
            | own nm =>
              simp only [rowP] at hr
              split at hr
              · rename_i B hB
                obtain ⟨b', n', h2', hC⟩ := H.blk nm B hB
                simpa using (hC.rows r cnt _ hr).1.2.2.2
              · cases hr
            | ro i ks' =>
              simp only [rowP, Option.some.injEq, Prod.mk.injEq] at hr
              obtain ⟨rfl, rfl, rfl⟩ := hr
              simp [IE.eval, IE.reval]
          have hsub : (subE r off (plusE off len) cnt 1).reval env = [] := by
            rw [subE_eval (by rw [hrl]; simp), plusE_eval, hl0]
            simp [subL]
          simp only [IE.reval, hsub, w8L, List.map_nil]; rfl
    · rename_i r hx hd hs
      cases h
      have hv := hev _ _ hx
      have hv0 := hv
      simp only [Rep] at hv
      obtain ⟨str, hs', _⟩ := hv
      exact ⟨.string str, by simp [execOp, ho, convert, run_underlying hd, run_underlying hs, hs'], by rw [← hs']; exact hv0⟩
    · rename_i e hx hd hs
      split at h <;> try (cases h; done)
      rename_i he
      cases h
      have hv := hev _ _ hx
      simp only [Rep] at hv
      obtain ⟨a, hv⟩ := hv
      refine ⟨.string .empty, ?_, by simp only [Rep]⟩
      have hz : (Conv.bytesToString (.slice a 0 0)).run P w = .ok (.string .empty) w := by
        cases a with
        | none => rfl
        | some a =>
          exact run_bytesToString_row (P := P) (w := w) (a := a) (len := 0) (c := 0) (ns := []) (by simp [loadCells, loadCellsFrom])
      simp only [execOp, ho, hv, Sem.run_bind, convert, run_underlying hd, run_underlying hs, run_underlying he, Result.andThen_ok]
      rw [hz]
      rfl
    · rename_i e hx hd hs
      split at h <;> try (cases h; done)
      rename_i he
      cases h
      have hv := hev _ _ hx
      simp only [Rep] at hv
      obtain ⟨a, c, hv⟩ := hv
      refine ⟨.string .empty, ?_, by simp only [Rep]⟩
      have hz : (Conv.bytesToString (.slice a 0 c)).run P w = .ok (.string .empty) w := by
        cases a with
        | none => rfl
        | some a =>
          exact run_bytesToString_row (P := P) (w := w) (a := a) (len := 0) (c := c) (ns := []) (by simp [loadCells, loadCellsFrom])
      simp only [execOp, ho, hv, Sem.run_bind, convert, run_underlying hd, run_underlying hs, run_underlying he, Result.andThen_ok]
      rw [hz]
      rfl
  · -- len
    rename_i c ho
    split at h <;> try (cases h; done)
    rename_i hc
    split at h <;> try (cases h; done)
    rename_i x hl
    split at h <;> try (cases h; done)
    rename_i t ht
    have h1 := evL_spec hev hl
    simp only [RepL] at h1
    obtain ⟨u, us, e1, h2, rfl⟩ := h1
    have hargs : c.args.map av = #[u] := by apply Array.ext'; simpa using e1
    split at h <;> try (cases h; done)
    · rename_i e p off len esz hu
      cases h
      simp only [Rep] at h2
      obtain ⟨l, cc, g1, g2, g3, g4⟩ := h2
      have hu' : ∃ a', u = .slice a' l cc := by
        rcases g4 with ⟨_, _, _, hq, _⟩ | ⟨rfl, _, a, hq⟩
        · exact ⟨_, hq⟩
        · exact ⟨a, hq⟩
      obtain ⟨a', rfl⟩ := hu'
      refine ⟨goInt l, ?_, by simp only [Rep, goInt, g1]⟩
      simp [execOp, ho, Go.resolve, hc, invoke, builtin, hargs, Builtin.len_, ht, run_underlying hu]
    · rename_i r hu
      cases h
      simp only [Rep] at h2
      obtain ⟨str, rfl, hi2⟩ := h2
      refine ⟨goInt str.size, ?_, by simp only [Rep, goInt, IE.eval, Nat.div_one, ← hi2, intsOf_length]⟩
      simp [execOp, ho, Go.resolve, hc, invoke, builtin, hargs, Builtin.len_, ht, run_underlying hu]
    · rename_i e hu
      cases h
      simp only [Rep] at h2
      obtain ⟨a, rfl⟩ := h2
      refine ⟨goInt 0, ?_, by simp only [Rep, goInt]⟩
      simp [execOp, ho, Go.resolve, hc, invoke, builtin, hargs, Builtin.len_, ht, run_underlying hu]
    · rename_i e hu
      cases h
      simp only [Rep] at h2
      obtain ⟨a, c0, rfl⟩ := h2
      refine ⟨goInt 0, ?_, by simp only [Rep, goInt]⟩
      simp [execOp, ho, Go.resolve, hc, invoke, builtin, hargs, Builtin.len_, ht, run_underlying hu]
  · cases h

end

end Go.Sym
