/- A symbolic run of the model's programs: values, memory, and what they stand for. -/
import Derived.Orders
import Derived.Below
import Derived.Laws.Cells
import Derived.Laws.Rows
import Derived.Laws.Append
namespace Go.Sym
open Go Go.RowKit
set_option linter.unusedVariables false

/-- A number, a row of numbers, or a list of rows that hangs on what is not known: atoms are values of the environment. -/
inductive IE where
  | var (i : Nat)
  | len (i : Nat)
  | lit (n : Int)
  | bin (op : BinOp) (k : IntKind) (a b : IE)
  | wrap (k : IntKind) (a : IE)
  /- plain numbers -/
  | plus (a b : IE)
  | minus (a b : IE)
  /- cell fld of element i (of esz cells) of a row -/
  | sel (r i : IE) (esz fld : Nat)
  /- how many elements (of esz cells) -/
  | rlen (r : IE) (esz : Nat)
  /- a known function's number -/
  | app (f : Nat) (args : IE)
  /- rows -/
  | rvar (i : Nat)
  | rcon (l : List Int)
  | rnil
  | rcons (e r : IE)
  | cat (a b : IE)
  | sub (r a b : IE) (esz : Nat)
  | set (r i : IE) (esz fld : Nat) (e : IE)
  | rep (n r : IE)
  | rapp (f : Nat) (args : IE)
  /- as bytes -/
  | w8 (r : IE)
  /- lists of rows: arguments -/
  | anil
  | acons (r args : IE)
  deriving Inhabited

inductive BE where
  | var (i : Nat)
  | cmp (op : BinOp) (a b : IE)
  | not (b : BE)
  /- two rows are one -/
  | req (a b : IE)
  deriving Inhabited

def vInt : Value → Int
  | .int _ n => n
  | _ => 0
def vLen : Value → Nat
  | .slice _ n _ => n
  | .string s => s.size
  | _ => 0
def vBool : Value → Bool
  | .bool b => b
  | _ => false

def cmpI (op : BinOp) (a b : Int) : Bool :=
  match op with
  | .eql => decide (a = b)
  | .neq => !decide (a = b)
  | .lss => decide (a < b)
  | .leq => decide (a ≤ b)
  | .gtr => decide (b < a)
  | .geq => decide (b ≤ a)
  | _ => false

/-- A row of numbers in a block that the run only reads: where it begins, the cells' kinds in turn. -/
structure Ro where
  blk : Nat
  base : Nat
  ks : List IntKind

/-- What is not known: values, rows, where rows lie that are only read; and what the known functions say. -/
structure Env where
  val : Nat → Value
  row : Nat → List Int
  ro : Nat → Option Ro
  fn : Nat → List (List Int) → List Int

def env0 : Env := ⟨fun _ => undef, fun _ => [], fun _ => none, fun _ _ => []⟩

instance : CoeFun Env (fun _ => Nat → Value) := ⟨Env.val⟩

def binI (op : BinOp) (k : IntKind) (a b : Int) : Int :=
  match op with
  | .add => k.wrap (a + b)
  | .sub => k.wrap (a - b)
  | .mul => k.wrap (a * b)
  | .quo => k.wrap (a.tdiv b)
  | .rem => a.tmod b
  | .and => k.wrap (BitVec.ofInt k.bits a &&& BitVec.ofInt k.bits b).toNat
  | .or => k.wrap (BitVec.ofInt k.bits a ||| BitVec.ofInt k.bits b).toNat
  | .xor => k.wrap (BitVec.ofInt k.bits a ^^^ BitVec.ofInt k.bits b).toNat
  | .andNot => k.wrap (BitVec.ofInt k.bits a &&& ~~~ BitVec.ofInt k.bits b).toNat
  | .shl => k.wrap (a * 2 ^ min b.toNat k.bits)
  | .shr => a.fdiv (2 ^ min b.toNat k.bits)
  | .lss => if b < a then b else a
  | .gtr => if a < b then b else a
  | _ => 0

def selL (l : List Int) (i : Int) (esz fld : Nat) : Int := (l[i.toNat * esz + fld]?).getD 0
def setL' (l : List Int) (i : Int) (esz fld : Nat) (x : Int) : List Int := l.set (i.toNat * esz + fld) x
def subL (l : List Int) (a b : Int) (esz : Nat) : List Int := (l.take (b.toNat * esz)).drop (a.toNat * esz)
def repL (n : Int) (l : List Int) : List Int := (List.replicate n.toNat l).flatten

def w8L (l : List Int) : List Int := l.map fun n => ((UInt8.ofNat n.toNat).toNat : Int)

mutual
def IE.eval (env : Env) : IE → Int
  | .var i => vInt (env i)
  | .len i => (vLen (env i) : Int)
  | .lit n => n
  | .bin op k a b => binI op k (a.eval env) (b.eval env)
  | .wrap k a => k.wrap (a.eval env)
  | .plus a b => a.eval env + b.eval env
  | .minus a b => a.eval env - b.eval env
  | .sel r i esz fld => selL (r.reval env) (i.eval env) esz fld
  | .rlen r esz => ((r.reval env).length / esz : Nat)
  | .app f args => (env.fn f (args.aeval env)).headD 0
  | _ => 0
def IE.reval (env : Env) : IE → List Int
  | .rvar i => env.row i
  | .rcon l => l
  | .rnil => []
  | .rcons e r => e.eval env :: r.reval env
  | .cat a b => a.reval env ++ b.reval env
  | .sub r a b esz => subL (r.reval env) (a.eval env) (b.eval env) esz
  | .set r i esz fld e => setL' (r.reval env) (i.eval env) esz fld (e.eval env)
  | .rep n r => repL (n.eval env) (r.reval env)
  | .rapp f args => env.fn f (args.aeval env)
  | .w8 r => w8L (r.reval env)
  | _ => []
def IE.aeval (env : Env) : IE → List (List Int)
  | .acons r args => r.reval env :: args.aeval env
  | _ => []
end

def BE.eval (env : Env) : BE → Bool
  | .var i => vBool (env i)
  | .cmp op a b => cmpI op (a.eval env) (b.eval env)
  | .not b => !(b.eval env)
  | .req a b => decide (a.reval env = b.reval env)

/-- a text's bytes as numbers -/
def intsOf (s : ByteArray) : List Int := s.data.toList.map fun b => (b.toNat : Int)

/-- Where a row lies: in a block of the run's own, or in one that it only reads. -/
inductive Pl where
  | own (nm : Nat)
  | ro (i : Nat) (ks : List IntKind)
  deriving Inhabited

/-- A value: memory of the run's own has names in place of block numbers. -/
inductive SV where
  | bool (b : Bool)
  | int (k : IntKind) (n : Int)
  | str (s : ByteArray)
  | ptr (nm off : Nat)
  | nilptr
  | gptr (g off : Nat)
  | slice (nm off len cap : Nat)
  | oslice (nm off len esz : Nat)
  | eslice
  | nilslice
  | agg (cs : List SV)
  | tuple (vs : List SV)
  | iface (t : Nat) (v : SV)
  | niliface
  | func (fn : Fn) (first captured : List SV)
  | nilfunc
  | nilmap
  | atom (i : Nat)
  | sint (k : IntKind) (e : IE)
  | sbool (b : BE)
  | aslice (i : Nat)
  | astr (i : Nat)
  /- whatever it is -/
  | any
  /- a text of these bytes -/
  | rstr (r : IE)
  /- an empty slice without room -/
  | zslice
  /- an empty slice, whatever its room -/
  | e0
  /- a slice of a row, from an element on, so many (of esz cells) -/
  | rsl (p : Pl) (off len : IE) (esz : Nat)
  /- a place in a row: an element, a cell of it -/
  | rptr (p : Pl) (idx : IE) (esz fld : Nat)
  deriving Inhabited

abbrev Rho := Nat → Option (Nat × Nat)

/-- The block in which a row lies, where it begins. -/
def plAt (ρ : Rho) (env : Env) : Pl → Nat → Nat → Prop
  | .own nm, b, base => ∃ n, ρ nm = some (b, n) ∧ base = 0
  | .ro i ks, b, base => env.ro i = some ⟨b, base, ks⟩

/-- A slice that may be written behind its end: it ends where its block does. -/
def plFull (ρ : Rho) : Pl → Nat → Prop
  | .own nm, e => ∃ b, ρ nm = some (b, e)
  | .ro _ _, _ => True

/-- An empty slice that lies nowhere. -/
def plNil (env : Env) : Pl → Nat → Prop
  | .own _, c => c = 0
  | .ro i ks, _ => (env.row i).length % ks.length = 0

mutual
/-- What a value stands for: names by ρ (the block and how many cells it has), atoms by the environment. -/
def Rep (ρ : Rho) (env : Env) : SV → Value → Prop
  | .bool b, v => v = .bool b
  | .int k n, v => v = .int k n
  | .str s, v => v = .string s
  | .ptr nm off, v => ∃ b n, ρ nm = some (b, n) ∧ v = .pointer (some ⟨b, off, none⟩)
  | .nilptr, v => v = .pointer none
  | .gptr g off, v => v = .pointer (some ⟨g, off, none⟩)
  | .slice nm off len cap, v => ∃ b n, ρ nm = some (b, n) ∧ v = .slice (some ⟨b, off, none⟩) len cap
  | .oslice nm off len esz, v => ∃ b n c, ρ nm = some (b, n) ∧ v = .slice (some ⟨b, off, none⟩) len c ∧ off + c * esz = n ∧ len ≤ c
  | .eslice, v => ∃ a c, v = .slice (some a) 0 c
  | .nilslice, v => v = .slice none 0 0
  | .agg cs, v => ∃ vs : Array Value, v = .agg vs ∧ RepL ρ env cs vs.toList
  | .tuple cs, v => ∃ vs : Array Value, v = .tuple vs ∧ RepL ρ env cs vs.toList
  | .iface t s, v => ∃ u, v = .iface t u ∧ Rep ρ env s u
  | .niliface, v => v = .nilIface
  | .func fn f c, v => ∃ fs cs : Array Value, v = .func fn fs cs ∧ RepL ρ env f fs.toList ∧ RepL ρ env c cs.toList
  | .nilfunc, v => v = .nilFunc
  | .nilmap, v => v = .map none
  | .atom i, v => v = env i ∧ v.oneCell' = true
  | .sint k e, v => v = .int k (e.eval env)
  | .sbool b, v => v = .bool (b.eval env)
  | .aslice i, v => ∃ a n c, v = .slice a n c ∧ v = env i
  | .astr i, v => ∃ s, v = .string s ∧ v = env i
  | .any, _ => True
  | .zslice, v => ∃ a, v = .slice a 0 0
  | .e0, v => ∃ a c, v = .slice a 0 c
  | .rstr r, v => ∃ s, v = .string s ∧ intsOf s = r.reval env
  | .rsl p off len esz, v => ∃ l c : Nat, (l : Int) = len.eval env ∧ l ≤ c ∧ 0 ≤ off.eval env ∧ ((∃ b base, plAt ρ env p b base ∧ v = .slice (some ⟨b, base + (off.eval env).toNat * esz, none⟩) l c ∧ plFull ρ p ((off.eval env).toNat * esz + c * esz)) ∨
      (l = 0 ∧ plNil env p c ∧ ∃ a, v = .slice a 0 c))
  | .rptr p idx esz fld, v => ∃ b base, plAt ρ env p b base ∧ 0 ≤ idx.eval env ∧ v = .pointer (some ⟨b, base + (idx.eval env).toNat * esz + fld, none⟩)
def RepL (ρ : Rho) (env : Env) : List SV → List Value → Prop
  | [], vs => vs = []
  | s :: ss, vs => ∃ v vs', vs = v :: vs' ∧ Rep ρ env s v ∧ RepL ρ env ss vs'
end

def Sub (ρ ρ' : Rho) : Prop := ∀ nm x, ρ nm = some x → ρ' nm = some x

theorem plAt.mono {ρ ρ' : Rho} {env : Env} {p : Pl} {b base : Nat} (k : plAt ρ env p b base) (h : Sub ρ ρ') : plAt ρ' env p b base := by
  cases p with
  | own nm => obtain ⟨n, h1, h2⟩ := k; exact ⟨n, h _ _ h1, h2⟩
  | ro i ks => exact k
theorem plFull.mono {ρ ρ' : Rho} {p : Pl} {e : Nat} (k : plFull ρ p e) (h : Sub ρ ρ') : plFull ρ' p e := by
  cases p with
  | own nm => obtain ⟨b, h1⟩ := k; exact ⟨b, h _ _ h1⟩
  | ro i ks => trivial

mutual
theorem Rep.mono {ρ ρ' : Rho} {env : Env} (h : Sub ρ ρ') : ∀ (s : SV) (v : Value), Rep ρ env s v → Rep ρ' env s v
  | .bool b, v => by simp only [Rep]; exact id
  | .int k n, v => by simp only [Rep]; exact id
  | .str s, v => by simp only [Rep]; exact id
  | .ptr nm off, v => by simp only [Rep]; exact fun ⟨b, n, h1, h2⟩ => ⟨b, n, h _ _ h1, h2⟩
  | .nilptr, v => by simp only [Rep]; exact id
  | .gptr g off, v => by simp only [Rep]; exact id
  | .slice nm off len cap, v => by simp only [Rep]; exact fun ⟨b, n, h1, h2⟩ => ⟨b, n, h _ _ h1, h2⟩
  | .oslice nm off len esz, v => by simp only [Rep]; exact fun ⟨b, n, c, h1, h2⟩ => ⟨b, n, c, h _ _ h1, h2⟩
  | .eslice, v => by simp only [Rep]; exact id
  | .nilslice, v => by simp only [Rep]; exact id
  | .agg cs, v => by simp only [Rep]; exact fun ⟨vs, h1, h2⟩ => ⟨vs, h1, RepL.mono h cs _ h2⟩
  | .tuple cs, v => by simp only [Rep]; exact fun ⟨vs, h1, h2⟩ => ⟨vs, h1, RepL.mono h cs _ h2⟩
  | .iface t s, v => by simp only [Rep]; exact fun ⟨u, h1, h2⟩ => ⟨u, h1, Rep.mono h s _ h2⟩
  | .niliface, v => by simp only [Rep]; exact id
  | .func fn f c, v => by simp only [Rep]; exact fun ⟨fs, cs, h1, h2, h3⟩ => ⟨fs, cs, h1, RepL.mono h f _ h2, RepL.mono h c _ h3⟩
  | .nilfunc, v => by simp only [Rep]; exact id
  | .nilmap, v => by simp only [Rep]; exact id
  | .atom i, v => by simp only [Rep]; exact id
  | .sint k e, v => by simp only [Rep]; exact id
  | .sbool b, v => by simp only [Rep]; exact id
  | .aslice i, v => by simp only [Rep]; exact id
  | .astr i, v => by simp only [Rep]; exact id
  | .any, v => by simp only [Rep]; exact id
  | .zslice, v => by simp only [Rep]; exact id
  | .e0, v => by simp only [Rep]; exact id
  | .rstr r, v => by simp only [Rep]; exact id
  | .rsl p off len esz, v => by
    simp only [Rep]
    rintro ⟨l, c, h1, h2, h3, h4⟩
    refine ⟨l, c, h1, h2, h3, ?_⟩
    rcases h4 with ⟨b, base, k1, k2, k3⟩ | h4
    · exact .inl ⟨b, base, k1.mono h, k2, k3.mono h⟩
    · exact .inr h4
  | .rptr p idx esz fld, v => by
    simp only [Rep]
    rintro ⟨b, base, k1, k2⟩
    exact ⟨b, base, k1.mono h, k2⟩
theorem RepL.mono {ρ ρ' : Rho} {env : Env} (h : Sub ρ ρ') : ∀ (ss : List SV) (vs : List Value), RepL ρ env ss vs → RepL ρ' env ss vs
  | [], vs => by simp only [RepL]; exact id
  | s :: ss, vs => by simp only [RepL]; exact fun ⟨v, vs', h1, h2, h3⟩ => ⟨v, vs', h1, Rep.mono h s _ h2, RepL.mono h ss _ h3⟩
end

theorem RepL.length {ρ : Rho} {env : Env} : ∀ {ss : List SV} {vs : List Value}, RepL ρ env ss vs → vs.length = ss.length
  | [], vs, h => by simp only [RepL] at h; simp [h]
  | s :: ss, vs, h => by simp only [RepL] at h; obtain ⟨v, vs', rfl, _, h3⟩ := h; simp [RepL.length h3]

theorem RepL.get {ρ : Rho} {env : Env} : ∀ {ss : List SV} {vs : List Value}, RepL ρ env ss vs → ∀ (i : Nat) (s : SV), ss[i]? = some s → ∃ v, vs[i]? = some v ∧ Rep ρ env s v
  | [], vs, h, i, s, hs => by simp at hs
  | s0 :: ss, vs, h, i, s, hs => by
    simp only [RepL] at h
    obtain ⟨v, vs', rfl, h2, h3⟩ := h
    cases i with
    | zero => simp at hs; subst hs; exact ⟨v, by simp, h2⟩
    | succ i => simp at hs; obtain ⟨u, hu, hr⟩ := RepL.get h3 i s hs; exact ⟨u, by simpa using hu, hr⟩

theorem RepL.of_get {ρ : Rho} {env : Env} : ∀ {ss : List SV} {vs : List Value}, vs.length = ss.length → (∀ (i : Nat) (s : SV), ss[i]? = some s → ∃ v, vs[i]? = some v ∧ Rep ρ env s v) → RepL ρ env ss vs
  | [], vs, hl, _ => by simp only [RepL]; simpa using hl
  | s0 :: ss, vs, hl, h => by
    cases vs with
    | nil => simp at hl
    | cons v vs =>
      simp only [RepL]
      obtain ⟨u, hu, hr⟩ := h 0 s0 (by simp)
      simp at hu; subst hu
      exact ⟨v, vs, rfl, hr, RepL.of_get (by simpa using hl) fun i s hs => by simpa using h (i + 1) s (by simpa using hs)⟩

theorem RepL.append {ρ : Rho} {env : Env} : ∀ {ss ss' : List SV} {vs vs' : List Value}, RepL ρ env ss vs → RepL ρ env ss' vs' → RepL ρ env (ss ++ ss') (vs ++ vs')
  | [], ss', vs, vs', h, h' => by simp only [RepL] at h; subst h; simpa using h'
  | s :: ss, ss', vs, vs', h, h' => by
    simp only [RepL] at h
    obtain ⟨v, us, rfl, h2, h3⟩ := h
    simp only [List.cons_append, RepL]
    exact ⟨v, us ++ vs', rfl, h2, RepL.append h3 h'⟩

theorem RepL.take {ρ : Rho} {env : Env} (n : Nat) : ∀ {ss : List SV} {vs : List Value}, RepL ρ env ss vs → RepL ρ env (ss.take n) (vs.take n) := by
  intro ss vs h
  have hl := h.length
  refine RepL.of_get (by simp [hl]) fun i s hs => ?_
  rw [List.getElem?_take] at hs ⊢
  split at hs
  · rename_i hi; simp only [hi, if_true]; exact h.get i s hs
  · cases hs

theorem RepL.drop {ρ : Rho} {env : Env} (n : Nat) : ∀ {ss : List SV} {vs : List Value}, RepL ρ env ss vs → RepL ρ env (ss.drop n) (vs.drop n) := by
  intro ss vs h
  have hl := h.length
  refine RepL.of_get (by simp [hl]) fun i s hs => ?_
  rw [List.getElem?_drop] at hs ⊢
  exact h.get _ s hs

def SV.cells : SV → List SV
  | .agg cs => cs
  | s => [s]

def SV.one : SV → Bool
  | .agg _ | .tuple _ | .any => false
  | _ => true

theorem Rep.one {ρ : Rho} {env : Env} {s : SV} {v : Value} (h : Rep ρ env s v) (ho : s.one = true) : v.oneCell' = true := by
  cases s <;> simp only [Rep] at h <;> simp only [SV.one] at ho <;> first
    | (subst h; rfl)
    | (obtain ⟨_, _, _, rfl⟩ := h; rfl)
    | (obtain ⟨_, _, _, _, rfl, _⟩ := h; rfl)
    | (obtain ⟨_, _, rfl⟩ := h; rfl)
    | (obtain ⟨_, rfl, _⟩ := h; rfl)
    | (obtain ⟨_, _, rfl, _⟩ := h; rfl)
    | (obtain ⟨_, _, _, rfl, _⟩ := h; rfl)
    | (obtain ⟨_, _, _, _, _, ⟨_, _, _, rfl, _⟩ | ⟨_, _, _, rfl⟩⟩ := h <;> rfl)
    | (obtain ⟨_, rfl⟩ := h; rfl)
    | (obtain ⟨_, _, _, _, rfl⟩ := h; rfl)
    | exact h.2
    | cases ho

theorem Value.cells_of_one {v : Value} (h : v.oneCell' = true) : v.cells = #[v] := by cases v <;> first | rfl | cases h

theorem Rep.cells_one {ρ : Rho} {env : Env} {s : SV} {v : Value} (h : Rep ρ env s v) (ho : s.one = true) : RepL ρ env [s] v.cells.toList := by
  rw [Value.cells_of_one (h.one ho)]
  simp only [RepL]
  exact ⟨v, [], rfl, h, rfl⟩

def SV.isTuple : SV → Bool
  | .tuple _ => true
  | .any => true
  | _ => false

theorem Rep.cells {ρ : Rho} {env : Env} {s : SV} {v : Value} (h : Rep ρ env s v) (hs : s.isTuple = false) : RepL ρ env s.cells v.cells.toList := by
  cases s with
  | agg cs => simp only [Rep] at h; obtain ⟨vs, rfl, h2⟩ := h; exact h2
  | tuple cs => cases hs
  | any => cases hs
  | _ => exact h.cells_one rfl

/-! ### A trie by numbers -/

inductive Tr (α : Type) where
  | nil
  | node (v : Option α) (l r : Tr α)
  deriving Inhabited

def Tr.get {α : Type} : Tr α → Nat → Option α
  | .nil, _ => none
  | .node v l r, n => match n with
    | 0 => v
    | m + 1 => match Nat.beq (Nat.mod m 2) 0 with
      | true => l.get (Nat.div m 2)
      | false => r.get (Nat.div m 2)

def Tr.val {α : Type} : Tr α → Option α
  | .nil => none
  | .node v _ _ => v
def Tr.lft {α : Type} : Tr α → Tr α
  | .nil => .nil
  | .node _ l _ => l
def Tr.rgt {α : Type} : Tr α → Tr α
  | .nil => .nil
  | .node _ _ r => r

/-- fuel, the trie, the number, what is put there (none: nothing) -/
def Tr.put {α : Type} : Nat → Tr α → Nat → Option α → Option (Tr α)
  | 0, _, _, _ => none
  | f + 1, t, n, x =>
    match n with
    | 0 => some (.node x t.lft t.rgt)
    | m + 1 => match Nat.beq (Nat.mod m 2) 0 with
      | true => match Tr.put f t.lft (Nat.div m 2) x with
        | some l' => some (.node t.val l' t.rgt)
        | none => none
      | false => match Tr.put f t.rgt (Nat.div m 2) x with
        | some r' => some (.node t.val t.lft r')
        | none => none

theorem Tr.get_nil {α : Type} (n : Nat) : (Tr.nil : Tr α).get n = none := by simp [Tr.get]

theorem beq_mod (m : Nat) : Nat.beq (Nat.mod m 2) 0 = decide (m % 2 = 0) := by
  have hm : Nat.mod m 2 = m % 2 := rfl
  rw [hm]
  by_cases h0 : m % 2 = 0
  · simp [h0]
  · simp only [h0, decide_false]
    cases hb : Nat.beq (m % 2) 0 with
    | false => rfl
    | true => exact absurd (Nat.eq_of_beq_eq_true hb) h0

theorem Tr.get_zero {α : Type} (t : Tr α) : t.get 0 = t.val := by cases t <;> rfl
theorem Tr.get_even {α : Type} (t : Tr α) (m : Nat) (h : m % 2 = 0) : t.get (m + 1) = t.lft.get (m / 2) := by
  cases t with
  | nil => simp [Tr.lft, Tr.get]
  | node v l r => simp only [Tr.get, Tr.lft, beq_mod, h, decide_true]; rfl
theorem Tr.get_odd {α : Type} (t : Tr α) (m : Nat) (h : ¬ m % 2 = 0) : t.get (m + 1) = t.rgt.get (m / 2) := by
  cases t with
  | nil => simp [Tr.rgt, Tr.get]
  | node v l r => simp only [Tr.get, Tr.rgt, beq_mod, h, decide_false]; rfl

theorem Tr.get_put {α : Type} : ∀ (f : Nat) (t : Tr α) (n : Nat) (x : Option α) (t' : Tr α), Tr.put f t n x = some t' → ∀ m, t'.get m = if m = n then x else t.get m := by
  intro f
  induction f with
  | zero => intro t n x t' h; simp [Tr.put] at h
  | succ f ih =>
    intro t n x t' h m
    cases n with
    | zero =>
      simp only [Tr.put, Option.some.injEq] at h
      subst h
      cases m with
      | zero => simp [Tr.get_zero, Tr.val]
      | succ m =>
        by_cases h0 : m % 2 = 0
        · rw [Tr.get_even _ _ h0, Tr.get_even _ _ h0]; simp [Tr.lft]
        · rw [Tr.get_odd _ _ h0, Tr.get_odd _ _ h0]; simp [Tr.rgt]
    | succ n =>
      simp only [Tr.put, beq_mod] at h
      have hd : Nat.div n 2 = n / 2 := rfl
      rw [hd] at h
      by_cases h0 : n % 2 = 0
      · simp only [h0, decide_true] at h
        cases hp : Tr.put f t.lft (n / 2) x with
        | none => rw [hp] at h; cases h
        | some l' =>
          rw [hp] at h
          simp only [Option.some.injEq] at h
          subst h
          have hi := ih t.lft (n / 2) x l' hp
          cases m with
          | zero => simp [Tr.get_zero, Tr.val]
          | succ m =>
            by_cases h1 : m % 2 = 0
            · rw [Tr.get_even _ _ h1, Tr.get_even _ _ h1]
              simp only [Tr.lft]
              rw [hi (m / 2)]
              by_cases he : m / 2 = n / 2
              · have : m = n := by omega
                simp [this]
              · have : ¬ m = n := fun e => he (by rw [e])
                simp [he, this, Tr.lft]
            · have : ¬ m = n := fun e => h1 (by rw [e]; exact h0)
              rw [Tr.get_odd _ _ h1, Tr.get_odd _ _ h1]
              simp [this, Tr.rgt]
      · simp only [h0, decide_false] at h
        cases hp : Tr.put f t.rgt (n / 2) x with
        | none => rw [hp] at h; cases h
        | some r' =>
          rw [hp] at h
          simp only [Option.some.injEq] at h
          subst h
          have hi := ih t.rgt (n / 2) x r' hp
          cases m with
          | zero => simp [Tr.get_zero, Tr.val]
          | succ m =>
            by_cases h1 : m % 2 = 0
            · have : ¬ m = n := fun e => h0 (by rw [← e]; exact h1)
              rw [Tr.get_even _ _ h1, Tr.get_even _ _ h1]
              simp [this, Tr.lft]
            · rw [Tr.get_odd _ _ h1, Tr.get_odd _ _ h1]
              simp only [Tr.rgt]
              rw [hi (m / 2)]
              by_cases he : m / 2 = n / 2
              · have : m = n := by omega
                simp [this]
              · have : ¬ m = n := fun e => he (by rw [e])
                simp [he, this, Tr.rgt]

def fuelT : Nat := 40

/-! ### Memory -/

/-- A block: its element type, how many cells are known, the cells where none was put (in turn), those that were put; open: there may be more cells behind. -/
structure Blk where
  elem : TypeId
  size : Nat
  zs : List SV
  tr : Tr SV
  opn : Bool
  /- a row of numbers, how many elements, the cells' kinds in turn: then no cells are known one by one -/
  row : Option (IE × IE × List IntKind) := none
  deriving Inhabited

def nth {α : Type} : List α → Nat → Option α
  | [], _ => none
  | x :: _, 0 => some x
  | _ :: xs, n + 1 => nth xs n

theorem nth_eq {α : Type} : ∀ (l : List α) (n : Nat), nth l n = l[n]?
  | [], n => by simp [nth]
  | x :: l, 0 => by simp [nth]
  | x :: l, n + 1 => by simp [nth, nth_eq l n]

def Blk.at (B : Blk) (i : Nat) : Option SV :=
  match B.tr.get i with
  | some s => some s
  | none => nth B.zs (Nat.mod i B.zs.length)

structure Mem where
  next : Nat
  tr : Tr Blk
  deriving Inhabited

def Mem.get (M : Mem) (nm : Nat) : Option Blk := M.tr.get nm

def kindAt (ks : List IntKind) (j : Nat) : IntKind := (ks[j % ks.length]?).getD .i64

/-- These numbers stand in a block, from a cell on. -/
def RowAt (w : World) (b base : Nat) (ks : List IntKind) (l : List Int) : Prop := ∀ j x, l[j]? = some x → w.cell? ⟨b, base + j, none⟩ = some (.int (kindAt ks j) x)

theorem RowAt.of_block {w w' : World} {b base : Nat} {ks : List IntKind} {l : List Int} (h : RowAt w b base ks l) (hb : w'.heap[b]? = w.heap[b]?) : RowAt w' b base ks l := by
  intro j x hx
  have := h j x hx
  simp only [World.cell?] at this ⊢
  rw [hb]; exact this

/-- A row read in elements: all of them are whole. -/
def RoRow (w : World) (b base : Nat) (ks : List IntKind) (l : List Int) : Prop := RowAt w b base ks l ∧ 0 < ks.length ∧ l.length % ks.length = 0

theorem RoRow.of_block {w w' : World} {b base : Nat} {ks : List IntKind} {l : List Int} (h : RoRow w b base ks l) (hb : w'.heap[b]? = w.heap[b]?) : RoRow w' b base ks l := ⟨h.1.of_block hb, h.2⟩

def RowOk (env : Env) (r cnt : IE) (ks : List IntKind) : Prop := 0 < ks.length ∧ 0 ≤ cnt.eval env ∧ (r.reval env).length = (cnt.eval env).toNat * ks.length

/-- A block in memory is what B says. -/
structure Cellar (ρ : Rho) (env : Env) (B : Blk) (b n : Nat) (w : World) : Prop where
  row : ∃ cells lo hi, w.heap[b]? = some (.cells cells B.elem (lo, hi)) ∧ cells.size = n ∧ (lo = hi ∨ n ≤ lo) ∧
    (∀ i, i < B.size → ∃ s v, B.at i = some s ∧ s.one = true ∧ cells[i]? = some v ∧ Rep ρ env s v)
  le : B.size ≤ n
  shut : B.opn = false → B.size = n
  rows : ∀ r cnt ks, B.row = some (r, cnt, ks) → (B.size = 0 ∧ RowOk env r cnt ks) ∧ RowAt w b 0 ks (r.reval env)

abbrev Get := Nat → Option Blk

structure Holds (ρ : Rho) (env : Env) (g : Get) (w : World) : Prop where
  blk : ∀ nm B, g nm = some B → ∃ b n, ρ nm = some (b, n) ∧ Cellar ρ env B b n w
  inj : ∀ nm nm' B B' b n n', g nm = some B → g nm' = some B' → ρ nm = some (b, n) → ρ nm' = some (b, n') → nm = nm'
  ro : ∀ i R, env.ro i = some R → R.blk < w.heap.size ∧ RoRow w R.blk R.base R.ks (env.row i) ∧ ∀ nm B n, g nm = some B → ρ nm ≠ some (R.blk, n)

/-- What a step does (it may give names from next on, below L): all other names keep what they stand for; memory that the step does not own stays; what is owned behind it was owned, or is new. -/
structure Post (env : Env) (L : Nat) (ρ : Rho) (g : Get) (next : Nat) (w : World) (ρ' : Rho) (g' : Get) (next' : Nat) (w' : World) : Prop where
  ext : ∀ nm, nm < next ∨ L ≤ nm → ρ' nm = ρ nm
  holds : Holds ρ' env g' w'
  le : next ≤ next'
  dom : ∀ nm, next' ≤ nm → nm < L → ρ' nm = none
  frame : ∀ k, k < w.heap.size → (∀ nm B n, g nm = some B → ρ nm ≠ some (k, n)) → w'.heap[k]? = w.heap[k]?
  own : ∀ nm B b n, g' nm = some B → ρ' nm = some (b, n) → w.heap.size ≤ b ∨ ∃ nm0 B0 n0, g nm0 = some B0 ∧ ρ nm0 = some (b, n0)
  size : w.heap.size ≤ w'.heap.size
  os : w'.os = w.os
  tape : w'.tape = w.tape
  output : w'.output = w.output

/-- The names from next on, below L, are free. -/
def Free (L : Nat) (ρ : Rho) (next : Nat) : Prop := ∀ nm, next ≤ nm → nm < L → ρ nm = none

theorem Holds.lt {ρ : Rho} {env : Env} {g : Get} {w : World} (h : Holds ρ env g w) {nm : Nat} {B : Blk} (hg : g nm = some B) {b n : Nat} (hr : ρ nm = some (b, n)) : b < w.heap.size := by
  obtain ⟨b', n', h1, h2⟩ := h.blk nm B hg
  rw [hr] at h1
  cases h1
  obtain ⟨cells, lo, hi, h3, _⟩ := h2.row
  exact (Array.getElem?_eq_some_iff.1 h3).1

theorem Post.sub {env : Env} {L : Nat} {ρ ρ' : Rho} {g g' : Get} {next next' : Nat} {w w' : World} (h : Post env L ρ g next w ρ' g' next' w') (hd : Free L ρ next) : Sub ρ ρ' := by
  intro nm x hx
  by_cases h1 : nm < next ∨ L ≤ nm
  · rw [h.ext nm h1]; exact hx
  · rw [hd nm (by omega) (by omega)] at hx; cases hx

theorem Post.refl {env : Env} {L : Nat} {ρ : Rho} {g : Get} {next : Nat} {w : World} (h : Holds ρ env g w) (hd : Free L ρ next) : Post env L ρ g next w ρ g next w :=
  ⟨fun _ _ => rfl, h, Nat.le_refl _, hd, fun _ _ _ => rfl, fun nm B b n h1 h2 => .inr ⟨nm, B, n, h1, h2⟩, Nat.le_refl _, rfl, rfl, rfl⟩

theorem Post.trans {env : Env} {L : Nat} {ρ ρ₁ ρ₂ : Rho} {g g₁ g₂ : Get} {n n₁ n₂ : Nat} {w w₁ w₂ : World} (h : Post env L ρ g n w ρ₁ g₁ n₁ w₁) (k : Post env L ρ₁ g₁ n₁ w₁ ρ₂ g₂ n₂ w₂) :
    Post env L ρ g n w ρ₂ g₂ n₂ w₂ where
  ext nm hn := (k.ext nm (hn.imp (fun h1 => Nat.lt_of_lt_of_le h1 h.le) id)).trans (h.ext nm hn)
  holds := k.holds
  le := Nat.le_trans h.le k.le
  dom := k.dom
  frame b hb hno := by
    rw [← h.frame b hb hno]
    refine k.frame b (Nat.lt_of_lt_of_le hb h.size) fun nm B m h1 h2 => ?_
    rcases h.own nm B b m h1 h2 with h3 | ⟨nm0, B0, n0, h3, h4⟩
    · omega
    · exact hno nm0 B0 n0 h3 h4
  own nm B b m h1 h2 := by
    rcases k.own nm B b m h1 h2 with h3 | ⟨nm0, B0, n0, h3, h4⟩
    · exact .inl (Nat.le_trans h.size h3)
    · exact h.own nm0 B0 b n0 h3 h4
  size := Nat.le_trans h.size k.size
  os := k.os.trans h.os
  tape := k.tape.trans h.tape
  output := k.output.trans h.output

/-- A draw turns nothing. -/
theorem Holds.of_heap {ρ : Rho} {env : Env} {g : Get} {w w' : World} (h : Holds ρ env g w) (hh : w'.heap = w.heap) : Holds ρ env g w' := by
  refine ⟨fun nm B h1 => ?_, h.inj, fun i R hR => ?_⟩
  · obtain ⟨b, n, h2, ⟨h3, h4, h5, h6⟩⟩ := h.blk nm B h1
    exact ⟨b, n, h2, ⟨by rw [hh]; exact h3, h4, h5, fun r cnt ks hr => ⟨(h6 r cnt ks hr).1, (h6 r cnt ks hr).2.of_block (by rw [hh])⟩⟩⟩
  · obtain ⟨k1, k2, k3⟩ := h.ro i R hR
    exact ⟨by rw [hh]; exact k1, k2.of_block (by rw [hh]), k3⟩

theorem Post.drew {env : Env} {L : Nat} {ρ ρ' : Rho} {g g' : Get} {n n' : Nat} {w w' : World} (h : Post env L ρ g n w.drew ρ' g' n' w') : Post env L ρ g n w ρ' g' n' w' :=
  ⟨h.ext, h.holds, h.le, h.dom, h.frame, h.own, h.size, h.os, h.tape, h.output⟩

/-- What was owned and is not any more, is not asked for any more. -/
theorem Post.less {env : Env} {L : Nat} {ρ ρ' : Rho} {g g' g'' : Get} {n n' : Nat} {w w' : World} (h : Post env L ρ g n w ρ' g' n' w') (hs : ∀ nm B, g'' nm = some B → g' nm = some B) : Post env L ρ g n w ρ' g'' n' w' :=
  ⟨h.ext, ⟨fun nm B h1 => h.holds.blk nm B (hs nm B h1), fun nm nm' B B' b n n' h1 h2 => h.holds.inj nm nm' B B' b n n' (hs _ _ h1) (hs _ _ h2), fun i R hR => ⟨(h.holds.ro i R hR).1, (h.holds.ro i R hR).2.1, fun nm B n h1 => (h.holds.ro i R hR).2.2 nm B n (hs _ _ h1)⟩⟩, h.le, h.dom, h.frame,
    fun nm B b n h1 h2 => h.own nm B b n (hs _ _ h1) h2, h.size, h.os, h.tape, h.output⟩

/-- Less memory holds where more does. -/
theorem Holds.less {ρ : Rho} {env : Env} {g g' : Get} {w : World} (h : Holds ρ env g w) (hs : ∀ nm B, g' nm = some B → g nm = some B) : Holds ρ env g' w :=
  ⟨fun nm B h1 => h.blk nm B (hs nm B h1), fun nm nm' B B' b n n' h1 h2 => h.inj nm nm' B B' b n n' (hs _ _ h1) (hs _ _ h2), fun i R hR => ⟨(h.ro i R hR).1, (h.ro i R hR).2.1, fun nm B n h1 => (h.ro i R hR).2.2 nm B n (hs _ _ h1)⟩⟩

theorem Cellar.of_block {ρ ρ' : Rho} {env : Env} {B : Blk} {b n : Nat} {w w' : World} (h : Cellar ρ env B b n w) (hs : Sub ρ ρ') (hb : w'.heap[b]? = w.heap[b]?) : Cellar ρ' env B b n w' := by
  obtain ⟨⟨cells, lo, hi, h1, h2, h3, h4⟩, hle, hsh, hrw⟩ := h
  refine ⟨⟨cells, lo, hi, by rw [hb]; exact h1, h2, h3, fun i hi => ?_⟩, hle, hsh, fun r cnt ks hr => ⟨(hrw r cnt ks hr).1, (hrw r cnt ks hr).2.of_block hb⟩⟩
  obtain ⟨s, v, a, b, c, d⟩ := h4 i hi
  exact ⟨s, v, a, b, c, Rep.mono hs _ _ d⟩

def orG (r g : Get) : Get := fun nm => match r nm with | some B => some B | none => g nm

/-- THE FRAME: what a step does not own, and holds beside it, holds behind it. -/
theorem Post.beside {env : Env} {L : Nat} {ρ ρ' : Rho} {g g' r : Get} {next next' : Nat} {w w' : World} (h : Post env L ρ g next w ρ' g' next' w') (hd : Free L ρ next)
    (H : Holds ρ env (orG r g) w)
    (hsep : ∀ nm B, r nm = some B → g nm = none) (hsep' : ∀ nm B, r nm = some B → g' nm = none) :
    Post env L ρ (orG r g) next w ρ' (orG r g') next' w' := by
  unfold orG at H ⊢
  have hsub := h.sub hd
  have hr : ∀ nm B, r nm = some B → ∃ b n, ρ nm = some (b, n) ∧ Cellar ρ env B b n w := fun nm B h1 => H.blk nm B (by simp [h1])
  have hapart : ∀ nm B nm' B' b n n', r nm = some B → g nm' = some B' → ρ nm = some (b, n) → ρ nm' = some (b, n') → False := by
    intro nm B nm' B' b n n' h1 h2 h3 h4
    have hn : r nm' = none := by
      cases h5 : r nm' with
      | none => rfl
      | some C => rw [hsep nm' C h5] at h2; cases h2
    have := H.inj nm nm' B B' b n n' (by simp [h1]) (by simp [hn, h2]) h3 h4
    subst this
    rw [hn] at h1; cases h1
  refine ⟨h.ext, ⟨?_, ?_, ?ro⟩, h.le, h.dom, ?_, ?_, h.size, h.os, h.tape, h.output⟩
  case ro =>
    intro i R hR
    obtain ⟨q1, q2, q3⟩ := h.holds.ro i R hR
    obtain ⟨p1, p2, p3⟩ := H.ro i R hR
    refine ⟨q1, q2, fun nm B n hg' hρ => ?_⟩
    cases h2 : r nm with
    | some C =>
      obtain ⟨b, n', h3, h4⟩ := hr nm C h2
      have := hsub _ _ h3
      rw [hρ] at this
      cases this
      exact p3 nm C n (by simp [h2]) h3
    | none =>
      simp only [h2] at hg'
      exact q3 nm B n hg' hρ
  · intro nm B h1
    cases h2 : r nm with
    | some C =>
      simp only [h2, Option.some.injEq] at h1
      subst h1
      obtain ⟨b, n, h3, h4⟩ := hr nm C h2
      refine ⟨b, n, hsub _ _ h3, h4.of_block hsub (h.frame b (H.lt (nm := nm) (B := C) (by simp [h2]) h3) fun nm' B' n' h5 h6 => hapart nm C nm' B' b n n' h2 h5 h3 h6)⟩
    | none =>
      simp only [h2] at h1
      exact h.holds.blk nm B h1
  · intro nm nm' B B' b n n' h1 h2 h3 h4
    have cross : ∀ nm nm' C B' n n', r nm = some C → r nm' = none → g' nm' = some B' → ρ' nm = some (b, n) → ρ' nm' = some (b, n') → False := by
      intro nm nm' C B' n n' hr1 hr2 hg' h3 h4
      obtain ⟨b0, n0, h5, _⟩ := hr nm C hr1
      have h6 := hsub _ _ h5
      rw [h3] at h6
      cases h6
      have hlt : b < w.heap.size := H.lt (nm := nm) (B := C) (by simp [hr1]) h5
      rcases h.own nm' B' b n' hg' h4 with h7 | ⟨nm0, B0, n1, h7, h8⟩
      · omega
      · exact hapart nm C nm0 B0 b n n1 hr1 h7 h5 h8
    cases h5 : r nm with
    | some C =>
      cases h6 : r nm' with
      | some D =>
        obtain ⟨b1, n1, h7, _⟩ := hr nm C h5
        obtain ⟨b2, n2, h8, _⟩ := hr nm' D h6
        have h9 := hsub _ _ h7
        have h10 := hsub _ _ h8
        rw [h3] at h9; rw [h4] at h10
        cases h9; cases h10
        exact H.inj nm nm' C D b n n' (by simp [h5]) (by simp [h6]) h7 h8
      | none =>
        simp only [h6] at h2
        exact (cross nm nm' C B' n n' h5 h6 h2 h3 h4).elim
    | none =>
      simp only [h5] at h1
      cases h6 : r nm' with
      | some D => exact (cross nm' nm D B n' n h6 h5 h1 h4 h3).elim
      | none =>
        simp only [h6] at h2
        exact h.holds.inj nm nm' B B' b n n' h1 h2 h3 h4
  · intro k hk hno
    refine h.frame k hk fun nm B n h1 h2 => ?_
    have hn : r nm = none := by
      cases h5 : r nm with
      | none => rfl
      | some C => rw [hsep nm C h5] at h1; cases h1
    exact hno nm B n (by simp [hn, h1]) h2
  · intro nm B b n h1 h2
    cases h5 : r nm with
    | some C =>
      obtain ⟨b1, n1, h7, _⟩ := hr nm C h5
      have h9 := hsub _ _ h7
      rw [h2] at h9; cases h9
      exact .inr ⟨nm, C, n, by simp [h5], h7⟩
    | none =>
      simp only [h5] at h1
      rcases h.own nm B b n h1 h2 with h6 | ⟨nm0, B0, n0, h6, h7⟩
      · exact .inl h6
      · refine .inr ⟨nm0, B0, n0, ?_, h7⟩
        have hn : r nm0 = none := by
          cases h8 : r nm0 with
          | none => rfl
          | some C => rw [hsep nm0 C h8] at h6; cases h6
        simp [hn, h6]

end Go.Sym
