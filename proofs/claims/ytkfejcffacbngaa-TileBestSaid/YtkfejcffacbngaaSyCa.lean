/- Functions that turn nothing: what is said of them is said of rows of numbers. -/
import Derived.Test.YtkfejcffacbngaaSyZ
namespace Go.Sym
open Go Go.RowKit
set_option linter.unusedVariables false
set_option linter.unusedSectionVars false

inductive ArgK where
  | int (k : IntKind)
  | bool
  | str
  | agg (ks : List IntKind)
  | sl (ks : List IntKind)

/-- An argument, as a row of numbers. -/
def ArgIs (w : World) (v : Value) : ArgK → List Int → Prop
  | .int k, l => ∃ n, v = .int k n ∧ l = [n]
  | .bool, l => ∃ b, v = .bool b ∧ l = [if b then 1 else 0]
  | .str, l => ∃ s, v = .string s ∧ intsOf s = l
  | .agg ks, l => ∃ cs : Array Value, v = .agg cs ∧ cs.toList = vals ks l ∧ l.length = ks.length
  | .sl ks, l => 0 < ks.length ∧ ∃ a n c, v = .slice a n c ∧ n ≤ c ∧ l.length = n * ks.length ∧ ((∃ b o, a = some ⟨b, o, none⟩ ∧ b < w.heap.size ∧ RowAt w b o ks l) ∨ n = 0)

def ArgsAre (w : World) : List Value → List ArgK → List (List Int) → Prop
  | [], [], [] => True
  | v :: vs, k :: ks, l :: ls => ArgIs w v k l ∧ ArgsAre w vs ks ls
  | _, _, _ => False

inductive ResK where
  | int (k : IntKind)
  | bool
  | str
  | agg (ks : List IntKind)
  | sl (e : TypeId) (ks : List IntKind)

/-- A result that is no slice. -/
def ResIs (v : Value) : ResK → List Int → Prop
  | .int k, l => v = .int k (l.headD 0)
  | .bool, l => v = .bool (decide (l.headD 0 ≠ 0))
  | .str, l => ∃ s, v = .string s ∧ intsOf s = l
  | .agg ks, l => ∃ cs : Array Value, v = .agg cs ∧ cs.toList = vals ks l ∧ l.length = ks.length
  | .sl _ _, _ => False

/-- A slice that was made: nothing, or a new block. -/
def NewSl (w w' : World) (v : Value) (e : TypeId) (ks : List IntKind) (l : List Int) : Prop :=
  0 < ks.length ∧ ((l = [] ∧ ∃ a c, v = .slice a 0 c) ∨ (l ≠ [] ∧ ∃ b n c cells lo hi, v = .slice (some ⟨b, 0, none⟩) n c ∧ l.length = n * ks.length ∧ n ≤ c ∧ w.heap.size ≤ b ∧ w'.heap[b]? = some (.cells cells e (lo, hi)) ∧ (lo = hi ∨ cells.size ≤ lo) ∧ cells.size = c * ks.length ∧ RowAt w' b 0 ks l))

/-- The results: the j-th by the known function id + j; at most one is a slice. -/
def ResL (FN : Nat → List (List Int) → List Int) (ls : List (List Int)) (w w' : World) : Nat → List ResK → List Value → Prop
  | _, [], vs => vs = []
  | id, .sl e ks :: rs, vs => ∃ v vs', vs = v :: vs' ∧ NewSl w w' v e ks (FN id ls) ∧ ResL FN ls w w' (id + 1) rs vs'
  | id, r :: rs, vs => ∃ v vs', vs = v :: vs' ∧ ResIs v r (FN id ls) ∧ ResL FN ls w w' (id + 1) rs vs'

/-- one, or a tuple -/
def TupIs (v : Value) (vs : List Value) : Prop := match vs with
  | [u] => v = u
  | _ => v = .tuple vs.toArray

/-- A function of numbers: its arguments, its results, its numbers among the known functions; what arguments must be within (which; from; to: numbers by value, texts and slices by how many). -/
structure Pc where
  f : FuncId
  aks : List ArgK
  rks : List ResK
  id : Nat
  rng : List (Nat × Int × Int)
  /- known functions that must say 1 of the arguments -/
  pre : List Nat := []

def PreOk (FN : Nat → List (List Int) → List Int) (ls : List (List Int)) : List Nat → Prop
  | [] => True
  | i :: r => (FN i ls).headD 0 = 1 ∧ PreOk FN ls r

def preB (args : IE) : List Nat → List BE
  | [] => []
  | i :: r => .cmp .eql (.app i args) (.lit 1) :: preB args r

def measL : ArgK → List Int → Int
  | .int _, l => l.headD 0
  | .bool, l => l.headD 0
  | .sl ks, l => (l.length / ks.length : Nat)
  | _, l => (l.length : Int)

def RngOk (aks : List ArgK) (ls : List (List Int)) : List (Nat × Int × Int) → Prop
  | [] => True
  | (i, lo, hi) :: r => (∀ k l, aks[i]? = some k → ls[i]? = some l → lo ≤ measL k l ∧ measL k l ≤ hi) ∧ RngOk aks ls r

/-- THE FUNCTION DOES WHAT IS SAID. -/
def PcOk (P : Program) (FN : Nat → List (List Int) → List Int) (c : Pc) : Prop :=
  ∀ (w : World) (vs : Array Value) (ls : List (List Int)), ArgsAre w vs.toList c.aks ls → RngOk c.aks ls c.rng → PreOk FN ls c.pre →
    Calls P c.f vs w fun e w' => Below w.heap.size w w' ∧ ∃ v vs', e = .returned v ∧ TupIs v vs' ∧ ResL FN ls w w' c.id c.rks vs'

/-! ### As a known function of the run -/

def isSl : SV → Bool
  | .nilslice | .zslice | .eslice | .e0 | .rsl .. => true
  | .slice _ _ len cap => Nat.ble len cap
  | .oslice .. => true
  | _ => false

/-- an argument's row, its measure -/
def argRow (M : Mem) (k : ArgK) (s : SV) : Option (List BE × IE × IE) :=
  match k with
  | .int k => match toIE s with
    | some (k', e) => match kEq k' k with
      | true => some ([], .rcons e .rnil, e)
      | false => none
    | none => none
  | .bool => match s with
    | .bool true => some ([], .rcons (.lit 1) .rnil, .lit 1)
    | .bool false => some ([], .rcons (.lit 0) .rnil, .lit 0)
    | .sbool b => some ([b, lessB (.lit 0) (.lit 0)], .rcons (.lit 0) .rnil, .lit 0)
    | _ => none
  | .str => match strRow s with
    | some r => some ([], r, .rlen r 1)
    | none => none
  | .agg ks => match s with
    | .agg cs => match Nat.beq cs.length ks.length, rowLit ks 0 cs with
      | true, some r => some ([], r, .lit (Int.ofNat ks.length))
      | _, _ => none
    | _ => none
  | .sl ks => match Nat.ble 1 ks.length, isSl s with
    | true, true => srcRow M ks s
    | _, _ => none

def argRows (M : Mem) : List ArgK → List SV → Option (List BE × IE × List IE)
  | [], [] => some ([], .anil, [])
  | k :: ks, s :: ss => match argRow M k s, argRows M ks ss with
    | some (b, r, m), some (bs, rs, ms) => some (b ++ bs, .acons r rs, m :: ms)
    | _, _ => none
  | _, _ => none

def rngB (ms : List IE) : List (Nat × Int × Int) → Option (List BE)
  | [] => some []
  | (i, lo, hi) :: r => match nth ms i, rngB ms r with
    | some m, some bs => some (atmB (.lit lo) m :: atmB m (.lit hi) :: bs)
    | _, _ => none

def cellsR (ks : List IntKind) (r : IE) : Nat → Nat → List SV
  | _, 0 => []
  | j, n + 1 => .sint (nthK ks j) (.sel r (.lit 0) n.succ j) :: cellsR ks r (Nat.succ j) n

/-- the cells of a struct that is a result -/
def aggR (ks : List IntKind) (r : IE) : Nat → List IntKind → List SV
  | _, [] => []
  | j, k :: l => .sint k (.sel r (.lit 0) ks.length j) :: aggR ks r (Nat.succ j) l

/-- the results; the slice among them is left open -/
def resS (args : IE) (slice : SV) : Nat → List ResK → List SV
  | _, [] => []
  | id, r :: rs => (match r with
    | .int k => .sint k (.app id args)
    | .bool => .sbool (.not (.cmp .eql (.app id args) (.lit 0)))
    | .str => .rstr (.rapp id args)
    | .agg ks => .agg (aggR ks (.rapp id args) 0 ks)
    | .sl _ _ => slice) :: resS args slice (Nat.succ id) rs

def slAt : Nat → List ResK → Option (Nat × TypeId × List IntKind)
  | _, [] => none
  | id, .sl e ks :: _ => some (id, e, ks)
  | id, _ :: rs => slAt (Nat.succ id) rs

def noSl : List ResK → Bool
  | [] => true
  | .sl _ _ :: _ => false
  | _ :: rs => noSl rs

/-- at most one slice -/
def oneSl : List ResK → Bool
  | [] => true
  | .sl _ ks :: rs => Nat.ble 1 ks.length && noSl rs
  | _ :: rs => oneSl rs

def Pc.ct (c : Pc) : Ct := ⟨c.f, fun as args M =>
  match argRows M c.aks args with
  | none => .no
  | some (bs, rs, ms) => match rngB ms c.rng with
    | none => .no
    | some qs => match allCk as (bs ++ (qs ++ preB rs c.pre)) with
      | false => match firstNo as (bs ++ (qs ++ preB rs c.pre)) with
        | some b => .fork (coreB b)
        | none => .no
      | true => match slAt c.id c.rks with
        | none => .ok (tup (resS rs .any c.id c.rks), M)
        | some (i, e, ks) => match oneSl c.rks with
          | false => .no
          | true => match ckB as (lessB (.lit 0) (.rlen (.rapp i rs) ks.length)) with
            | none => .fork (lessB (.lit 0) (.rlen (.rapp i rs) ks.length))
            | some false => .ok (tup (resS rs .e0 c.id c.rks), M)
            | some true => match newRowB M e (.rapp i rs) (.rlen (.rapp i rs) ks.length) ks with
              | some (nm, M') => .ok (tup (resS rs (.rsl (.own nm) (.lit 0) (.rlen (.rapp i rs) ks.length) ks.length) c.id c.rks), M')
              | none => .no⟩

section
variable {P : Program} {env : Env} {ρ : Rho} {w w' : World} {M : Mem}

/-- new memory beside a call that turns nothing -/
theorem post_newsl {L : Nat} {M M' : Mem} {nm b n : Nat} {B : Blk} (H : Holds ρ env M.get w) (hd : Free L ρ M.next) (hL : M'.next ≤ L) (hM : M.new B = some (nm, M')) (h : Below w.heap.size w w') (hb : w.heap.size ≤ b) (hC : Cellar (rset ρ nm (b, n)) env B b n w') :
    Post env L ρ M.get M.next w (rset ρ nm (b, n)) M'.get M'.next w' := by
  obtain ⟨rfl, hn, hg⟩ := Mem.new_spec hM
  have hfree : ρ M.next = none := hd _ (Nat.le_refl _) (by omega)
  have hsub : Sub ρ (rset ρ M.next (b, n)) := rset_sub hfree
  have hro : ∀ m, m ≠ M.next → rset ρ M.next (b, n) m = ρ m := fun m hm => by simp [rset, hm]
  refine ⟨fun m hm => hro m (by omega), ⟨fun m C hC' => ?_, fun m m' C C' b' n1 n2 h1 h2 h3 h4 => ?_, fun i R hR => ?_⟩, by omega, fun m h1 h2 => (hro m (by omega)).trans (hd m (by omega) h2), fun k hk _ => h.block k hk, fun m C b' n' h1 h2 => ?_, h.size, h.os, h.tape, h.output⟩
  · rw [hg m] at hC'
    by_cases hm : m = M.next
    · subst hm
      rw [if_pos rfl] at hC'
      cases hC'
      exact ⟨b, n, rset_same _ _ _, hC⟩
    · rw [if_neg hm] at hC'
      obtain ⟨b', n', h1, h2⟩ := H.blk m C hC'
      exact ⟨b', n', hsub _ _ h1, h2.of_block hsub (h.block b' (H.lt hC' h1))⟩
  · rw [hg m] at h1
    rw [hg m'] at h2
    by_cases hm : m = M.next <;> by_cases hm' : m' = M.next
    · rw [hm, hm']
    · rw [if_neg hm'] at h2
      rw [hm, rset_same] at h3; cases h3
      rw [hro m' hm'] at h4
      have := H.lt h2 h4; omega
    · rw [if_neg hm] at h1
      rw [hm', rset_same] at h4; cases h4
      rw [hro m hm] at h3
      have := H.lt h1 h3; omega
    · rw [if_neg hm] at h1
      rw [if_neg hm'] at h2
      rw [hro m hm] at h3
      rw [hro m' hm'] at h4
      exact H.inj _ _ _ _ _ _ _ h1 h2 h3 h4
  · obtain ⟨k1, k2, k3⟩ := H.ro i R hR
    refine ⟨Nat.lt_of_lt_of_le k1 h.size, k2.of_block (h.block _ k1), fun m C n' hC' hρ => ?_⟩
    rw [hg m] at hC'
    by_cases hm : m = M.next
    · rw [hm, rset_same] at hρ; cases hρ; omega
    · rw [if_neg hm] at hC'
      rw [hro m hm] at hρ
      exact k3 m C n' hC' hρ
  · rw [hg m] at h1
    by_cases hm : m = M.next
    · rw [hm, rset_same] at h2; cases h2; exact .inl hb
    · rw [if_neg hm] at h1
      rw [hro m hm] at h2
      exact .inr ⟨m, C, n', h1, h2⟩

theorem vals_one' {k : IntKind} {n : Int} : vals [k] [n] = [.int k n] := by simp [vals, kindAt]

theorem rowLit_at {ks : List IntKind} : ∀ {l : List SV} {j i : Nat} {r : IE} {s : SV}, rowLit ks j l = some r → l[i]? = some s → ∃ e, toIE s = some (kindAt ks (j + i), e) ∧ (r.reval env)[i]? = some (e.eval env)
  | [], j, i, r, s, h, hs => by simp at hs
  | x :: l, j, i, r, s, h, hs => by
    simp only [rowLit] at h
    split at h <;> try (cases h; done)
    rename_i k e he
    split at h <;> try (cases h; done)
    rename_i r' hk hl
    cases h
    have hk := kEq_spec hk
    rw [nthK_kindAt] at hk
    cases i with
    | zero =>
      simp only [List.getElem?_cons_zero, Option.some.injEq] at hs
      subst hs
      exact ⟨e, by rw [he, hk]; rfl, by simp [IE.reval]⟩
    | succ i =>
      simp only [List.getElem?_cons_succ] at hs
      obtain ⟨e', h1, h2⟩ := rowLit_at hl hs
      refine ⟨e', by rw [h1]; congr 3; omega, by simpa [IE.reval] using h2⟩

theorem srcAt_spec {ks : List IntKind} {s : SV} {bs : List BE} {r n : IE} {u : Value} (H : Holds ρ env M.get w) (hks : 0 < ks.length) (hsl : isSl s = true) (h : srcRow M ks s = some (bs, r, n)) (hb : ∀ b ∈ bs, b.eval env = true) (hs : Rep ρ env s u) :
    ArgIs w u (.sl ks) (r.reval env) := by
  obtain ⟨k1, k2, k3, k4⟩ := srcRow_spec (P := default) H hks h hb hs
  refine ⟨hks, ?_⟩
  have known : ∀ nm off len B l r', M.get nm = some B → B.cellsFrom off (len * ks.length) = some l → rowLit ks 0 l = some r' → ∀ b n', ρ nm = some (b, n') → RowAt w b off ks (r'.reval env) := by
    intro nm off len B l r' hB hl hr b n' hbb j x hx
    have hC := H.at hB hbb
    obtain ⟨c1, c2, c3⟩ := Blk.cellsFrom_spec _ _ _ hl
    have hlen : j < l.length := by
      rcases Nat.lt_or_ge j l.length with hh | hh
      · exact hh
      · obtain ⟨vs, q1, q2⟩ := run_loadCells_own (P := default) hC hl
        have := (rowLit_spec hr q2).1
        have h3 := (List.getElem?_eq_some_iff.1 hx).1
        omega
    have hs' := List.getElem?_eq_getElem hlen
    obtain ⟨e, h1, h2⟩ := rowLit_at (env := env) hr hs'
    rw [hx] at h2
    cases h2
    obtain ⟨v, h4, h5, _⟩ := cell_own (i := off + j) hC (by have := c2 (by omega); omega) (c3 j _ hs')
    rw [h4, toIE_spec h1 h5, Nat.zero_add]
  unfold srcRow at h
  split at h
  · cases h; simp only [Rep] at hs; subst hs; exact ⟨none, 0, 0, rfl, Nat.le_refl _, by simp [IE.reval], .inr rfl⟩
  · cases h; simp only [Rep] at hs; obtain ⟨a, rfl⟩ := hs; exact ⟨a, 0, 0, rfl, Nat.le_refl _, by simp [IE.reval], .inr rfl⟩
  · cases h; simp only [Rep] at hs; obtain ⟨a, c, rfl⟩ := hs; exact ⟨a, 0, c, rfl, Nat.zero_le _, by simp [IE.reval], .inr rfl⟩
  · cases h; simp only [Rep] at hs; obtain ⟨a, c, rfl⟩ := hs; exact ⟨a, 0, c, rfl, Nat.zero_le _, by simp [IE.reval], .inr rfl⟩
  · rename_i p off len esz
    split at h <;> try (cases h; done)
    rename_i r0 cnt ks' hr
    split at h <;> try (cases h; done)
    rename_i h1 h2
    have := ksEq_spec h1; subst this
    have := Nat.eq_of_beq_eq_true h2; subst this
    cases h
    have hlen := nonneg_spec (hb _ (List.mem_cons_self ..))
    have hin := atmB_spec (hb (atmB (plusE off n) cnt) (by simp))
    rw [plusE_eval] at hin
    simp only [Rep] at hs
    obtain ⟨l, c, g1, g2, g3, g4⟩ := hs
    have hl : (n.eval env).toNat = l := by omega
    rw [hl] at k2
    rcases g4 with ⟨b, base, p1, rfl, p3⟩ | ⟨rfl, p1, a, rfl⟩
    · obtain ⟨⟨q1, q2, q3⟩, hat⟩ := rowP_spec H hr p1
      refine ⟨_, l, c, rfl, g2, k2, .inl ⟨b, _, rfl, ?_, fun j x hx => ?_⟩⟩
      · cases p with
        | own nm =>
          obtain ⟨n', h1, _⟩ := p1
          simp only [rowP] at hr
          split at hr
          · rename_i B hB; exact H.lt hB h1
          · cases hr
        | ro i ks'' => exact (H.ro i _ p1).1
      · have hrow : (subE r0 off (plusE off n) cnt ks'.length).reval env = ((r0.reval env).drop ((off.eval env).toNat * ks'.length)).take (l * ks'.length) := by
          rw [subE_eval q3, plusE_eval, subL]
          have : (off.eval env + n.eval env).toNat = (off.eval env).toNat + l := by omega
          rw [this, List.drop_take, Nat.add_mul]; congr 1; omega
        rw [hrow, List.getElem?_take] at hx
        split at hx <;> try (cases hx; done)
        rw [List.getElem?_drop] at hx
        have := hat _ _ hx
        rw [kindAt_add] at this
        rw [Nat.add_assoc]; exact this
    · exact ⟨a, 0, c, rfl, Nat.zero_le _, k2, .inr rfl⟩
  · cases hsl
  · cases hsl
  · rename_i nm off len cap
    split at h <;> try (cases h; done)
    rename_i B hB
    split at h <;> try (cases h; done)
    rename_i l hl
    split at h <;> try (cases h; done)
    rename_i r' hr
    cases h
    simp only [Rep] at hs
    obtain ⟨b, n', h1, rfl⟩ := hs
    have hn : (IE.lit (Int.ofNat len)).eval env = (len : Int) := by simp only [IE.eval]; rfl
    rw [hn] at k2
    exact ⟨_, len, cap, rfl, ble_true hsl, by simpa using k2, .inl ⟨b, off, rfl, H.lt hB h1, known nm off len B l r hB hl hr b n' h1⟩⟩
  · rename_i nm off len esz
    split at h <;> try (cases h; done)
    rename_i B hB
    split at h <;> try (cases h; done)
    rename_i l hl
    split at h <;> try (cases h; done)
    rename_i r' hr
    cases h
    simp only [Rep] at hs
    obtain ⟨b, n', c, h1, rfl, h2, h3⟩ := hs
    have hn : (IE.lit (Int.ofNat len)).eval env = (len : Int) := by simp only [IE.eval]; rfl
    rw [hn] at k2
    exact ⟨_, len, c, rfl, h3, by simpa using k2, .inl ⟨b, off, rfl, H.lt hB h1, known nm off len B l r hB hl hr b n' h1⟩⟩
  · cases h

theorem argRow_spec {k : ArgK} {s : SV} {bs : List BE} {r m : IE} {u : Value} (H : Holds ρ env M.get w) (h : argRow M k s = some (bs, r, m)) (hb : ∀ b ∈ bs, b.eval env = true) (hs : Rep ρ env s u) :
    ArgIs w u k (r.reval env) ∧ m.eval env = measL k (r.reval env) := by
  cases k with
  | int k =>
    simp only [argRow] at h
    split at h <;> try (cases h; done)
    rename_i k' e he
    split at h <;> try (cases h; done)
    rename_i hk
    have := kEq_spec hk; subst this
    cases h
    exact ⟨⟨_, toIE_spec he hs, by simp only [IE.reval]⟩, by simp only [measL, IE.reval, List.headD_cons]⟩
  | bool =>
    simp only [argRow] at h
    split at h <;> try (cases h; done)
    · cases h; simp only [Rep] at hs; exact ⟨⟨true, hs, by simp [IE.reval, IE.eval]⟩, by simp [measL, IE.reval]⟩
    · cases h; simp only [Rep] at hs; exact ⟨⟨false, hs, by simp [IE.reval, IE.eval]⟩, by simp [measL, IE.reval]⟩
    · cases h
      have h5 := lessB_spec (hb (lessB (.lit 0) (.lit 0)) (by simp))
      omega
  | str =>
    simp only [argRow] at h
    split at h <;> try (cases h; done)
    rename_i r' hr
    cases h
    obtain ⟨str, h1, h2⟩ := strRow_spec hr hs
    exact ⟨⟨str, h1, h2⟩, by simp only [measL, IE.eval, Nat.div_one]⟩
  | agg ks =>
    simp only [argRow] at h
    split at h <;> try (cases h; done)
    rename_i cs
    split at h <;> try (cases h; done)
    rename_i r' hl hr
    have hl := Nat.eq_of_beq_eq_true hl
    cases h
    simp only [Rep] at hs
    obtain ⟨vs, rfl, h2⟩ := hs
    obtain ⟨q1, q2⟩ := rowLit_spec hr h2
    refine ⟨⟨vs, rfl, List.ext_getElem? fun j => ?_, by rw [q1, hl]⟩, ?_⟩
    · rw [q2 j, vals_get, Nat.zero_add]
    · simp only [measL, IE.eval, q1, hl]; rfl
  | sl ks =>
    simp only [argRow] at h
    split at h <;> try (cases h; done)
    rename_i hks0 hsl
    have hks : 0 < ks.length := ble_true hks0
    obtain ⟨k1, k2, k3, k4⟩ := srcRow_spec (P := default) H hks h hb hs
    have hmeas : m.eval env = measL (.sl ks) (r.reval env) := by
      simp only [measL, k2, Nat.mul_div_cancel _ hks]; omega
    exact ⟨srcAt_spec H hks hsl h hb hs, hmeas⟩

theorem argRows_spec (H : Holds ρ env M.get w) : ∀ {aks : List ArgK} {ss : List SV} {bs : List BE} {rs : IE} {ms : List IE} {vs : List Value}, argRows M aks ss = some (bs, rs, ms) → (∀ b ∈ bs, b.eval env = true) → RepL ρ env ss vs →
    ArgsAre w vs aks (rs.aeval env) ∧ ∀ (i : Nat) (k : ArgK) (l : List Int) (m : IE), aks[i]? = some k → (rs.aeval env)[i]? = some l → ms[i]? = some m → m.eval env = measL k l
  | [], [], bs, rs, ms, vs, h, hb, hs => by
    simp only [argRows, Option.some.injEq, Prod.mk.injEq] at h
    obtain ⟨rfl, rfl, rfl⟩ := h
    simp only [RepL] at hs; subst hs
    exact ⟨by simp [ArgsAre, IE.aeval], fun i k l m h1 => by simp at h1⟩
  | k :: aks, s :: ss, bs, rs, ms, vs, h, hb, hs => by
    simp only [argRows] at h
    split at h <;> try (cases h; done)
    rename_i b r m bs' rs' ms' h1 h2
    cases h
    simp only [RepL] at hs
    obtain ⟨v, vs', rfl, h3, h4⟩ := hs
    obtain ⟨q1, q2⟩ := argRow_spec H h1 (fun b hb' => hb b (by simp [hb'])) h3
    obtain ⟨q3, q4⟩ := argRows_spec H h2 (fun b hb' => hb b (by simp [hb'])) h4
    refine ⟨by simp only [IE.aeval, ArgsAre]; exact ⟨q1, q3⟩, fun i k' l m' h5 h6 h7 => ?_⟩
    simp only [IE.aeval] at h6
    cases i with
    | zero =>
      simp only [List.getElem?_cons_zero, Option.some.injEq] at h5 h6 h7
      subst h5; subst h6; subst h7; exact q2
    | succ i =>
      simp only [List.getElem?_cons_succ] at h5 h6 h7
      exact q4 i k' l m' h5 h6 h7
  | [], _ :: _, bs, rs, ms, vs, h, hb, hs => by simp [argRows] at h
  | _ :: _, [], bs, rs, ms, vs, h, hb, hs => by simp [argRows] at h

theorem rngB_spec {aks : List ArgK} {ls : List (List Int)} {ms : List IE} (hm : ∀ (i : Nat) (k : ArgK) (l : List Int) (m : IE), aks[i]? = some k → ls[i]? = some l → ms[i]? = some m → m.eval env = measL k l) : ∀ {r : List (Nat × Int × Int)} {bs : List BE}, rngB ms r = some bs → (∀ b ∈ bs, b.eval env = true) → RngOk aks ls r
  | [], bs, h, hb => trivial
  | (i, lo, hi) :: r, bs, h, hb => by
    simp only [rngB] at h
    split at h <;> try (cases h; done)
    rename_i m bs' h1 h2
    cases h
    rw [nth_eq] at h1
    refine ⟨fun k l h3 h4 => ?_, rngB_spec hm h2 fun b hb' => hb b (by simp [hb'])⟩
    have e := hm i k l m h3 h4 h1
    have q1 := atmB_spec (hb (atmB (.lit lo) m) (by simp))
    have q2 := atmB_spec (hb (atmB m (.lit hi)) (by simp))
    simp only [IE.eval] at q1 q2
    omega

theorem preB_spec {FN : Nat → List (List Int) → List Int} (hFN : env.fn = FN) {args : IE} : ∀ {r : List Nat}, (∀ b ∈ preB args r, b.eval env = true) → PreOk FN (args.aeval env) r
  | [], h => trivial
  | i :: r, h => by
    have h1 := h (.cmp .eql (.app i args) (.lit 1)) (List.mem_cons_self ..)
    simp only [BE.eval, cmpI, IE.eval, hFN, decide_eq_true_eq] at h1
    exact ⟨h1, preB_spec hFN fun b hb => h b (List.mem_cons_of_mem _ hb)⟩

theorem aggR_spec {ks : List IntKind} {r : IE} {l : List Int} (hl : r.reval env = l) (hlen : l.length = ks.length) : ∀ (ks' : List IntKind) (j : Nat), ks.drop j = ks' → RepL ρ env (aggR ks r j ks') ((vals ks l).drop j)
  | [], j, h => by
    have : ks.length ≤ j := by have := congrArg List.length h; simp at this; omega
    have : (vals ks l).drop j = [] := List.drop_eq_nil_of_le (by rw [vals_length]; omega)
    simp only [aggR, RepL, this]
  | k :: ks', j, h => by
    have hj : j < ks.length := by have := congrArg List.length h; simp at this; omega
    have hk : ks[j]? = some k := by
      have : (ks.drop j)[0]? = some k := by rw [h]; rfl
      rw [List.getElem?_drop] at this; simpa using this
    have hd : (vals ks l).drop j = .int k (l[j]'(by omega)) :: (vals ks l).drop (j + 1) := by
      rw [List.drop_eq_getElem_cons (by rw [vals_length]; omega)]
      congr 1
      have h2 := vals_get ks l j
      rw [List.getElem?_eq_getElem (by rw [vals_length]; omega), List.getElem?_eq_getElem (by omega)] at h2
      simp only [Option.map_some, Option.some.injEq] at h2
      rw [h2]
      congr 1
      have : j % ks.length = j := Nat.mod_eq_of_lt hj
      simp [kindAt, this, hk]
    rw [hd]
    simp only [aggR, RepL]
    refine ⟨_, _, rfl, ?_, aggR_spec hl hlen ks' (j + 1) (by rw [← List.drop_drop, h]; rfl)⟩
    simp only [Rep, IE.eval, selL, hl]
    have hjl : j < l.length := by omega
    simp [hjl]

/-- the slice among the results -/
def slVal : List ResK → List Value → Option Value
  | .sl _ _ :: _, v :: _ => some v
  | _ :: rs, _ :: vs => slVal rs vs
  | _, _ => none

theorem resS_spec {FN : Nat → List (List Int) → List Int} (hFN : env.fn = FN) {args : IE} {slice : SV} {ww : World} : ∀ {rks : List ResK} {id : Nat} {vs : List Value}, ResL FN (args.aeval env) ww w' id rks vs → (∀ v, slVal rks vs = some v → Rep ρ env slice v) → oneSl rks = true → RepL ρ env (resS args slice id rks) vs
  | [], id, vs, h, hs, ho => by simp only [ResL] at h; subst h; simp only [resS, RepL]
  | r :: rks, id, vs, h, hs, ho => by
    cases r with
    | sl e ks =>
      simp only [ResL] at h
      obtain ⟨v, vs', rfl, h1, h2⟩ := h
      simp only [oneSl, Bool.and_eq_true] at ho
      simp only [resS, RepL]
      refine ⟨v, vs', rfl, hs v rfl, ?_⟩
      -- no slice behind
      have hno : ∀ {rks : List ResK} {id : Nat} {vs : List Value}, noSl rks = true → ResL FN (args.aeval env) ww w' id rks vs → RepL ρ env (resS args slice id rks) vs := by
        intro rks
        induction rks with
        | nil => intro id vs _ h; simp only [ResL] at h; subst h; simp only [resS, RepL]
        | cons r rks ih =>
          intro id vs hn h
          cases r <;> simp only [noSl] at hn <;> try (cases hn; done)
          all_goals
            simp only [ResL, ResIs] at h
            obtain ⟨v, vs', rfl, h1, h2⟩ := h
            simp only [resS, RepL]
            refine ⟨v, vs', rfl, ?_, ih hn h2⟩
          · simp only [Rep, IE.eval, hFN]; exact h1
          · simp only [Rep, BE.eval, cmpI, IE.eval, hFN]; rw [h1]; simp
          · simp only [Rep, IE.reval, hFN]; exact h1
          · obtain ⟨cs, rfl, h3, h4⟩ := h1
            simp only [Rep]
            refine ⟨cs, rfl, ?_⟩
            rw [h3]
            exact aggR_spec (by simp only [IE.reval, hFN]) h4 _ 0 rfl
      exact hno ho.2 h2
    | int k =>
      simp only [ResL, ResIs] at h
      obtain ⟨v, vs', rfl, h1, h2⟩ := h
      simp only [resS, RepL]
      refine ⟨v, vs', rfl, ?_, resS_spec hFN h2 (fun v h3 => hs v (by simpa [slVal] using h3)) ho⟩
      simp only [Rep, IE.eval, hFN]; exact h1
    | bool =>
      simp only [ResL, ResIs] at h
      obtain ⟨v, vs', rfl, h1, h2⟩ := h
      simp only [resS, RepL]
      refine ⟨v, vs', rfl, ?_, resS_spec hFN h2 (fun v h3 => hs v (by simpa [slVal] using h3)) ho⟩
      simp only [Rep, BE.eval, cmpI, IE.eval, hFN]; rw [h1]; simp
    | str =>
      simp only [ResL, ResIs] at h
      obtain ⟨v, vs', rfl, h1, h2⟩ := h
      simp only [resS, RepL]
      refine ⟨v, vs', rfl, ?_, resS_spec hFN h2 (fun v h3 => hs v (by simpa [slVal] using h3)) ho⟩
      simp only [Rep, IE.reval, hFN]; exact h1
    | agg ks =>
      simp only [ResL, ResIs] at h
      obtain ⟨v, vs', rfl, h1, h2⟩ := h
      simp only [resS, RepL]
      refine ⟨v, vs', rfl, ?_, resS_spec hFN h2 (fun v h3 => hs v (by simpa [slVal] using h3)) ho⟩
      obtain ⟨cs, rfl, h3, h4⟩ := h1
      simp only [Rep]
      refine ⟨cs, rfl, ?_⟩
      rw [h3]
      exact aggR_spec (by simp only [IE.reval, hFN]) h4 _ 0 rfl

theorem tup_rep {l : List SV} {vs : List Value} {v : Value} (h : RepL ρ env l vs) (ht : TupIs v vs) : Rep ρ env (tup l) v := by
  have hlen := h.length
  unfold tup
  split
  · rename_i s
    simp only [RepL] at h
    obtain ⟨u, us, rfl, h1, rfl⟩ := h
    simp only [TupIs] at ht
    subst ht; exact h1
  · rename_i hne
    have hv : v = .tuple vs.toArray := by
      unfold TupIs at ht
      split at ht
      · rename_i u
        exfalso
        cases l with
        | nil => simp at hlen
        | cons s l'' =>
          cases l'' with
          | nil => exact hne s rfl
          | cons _ _ => simp at hlen
      · exact ht
    simp only [Rep]
    exact ⟨_, hv, by simpa using h⟩

theorem noSl_slAt : ∀ {rks : List ResK} {id : Nat}, slAt id rks = none → oneSl rks = true
  | [], id, h => rfl
  | r :: rks, id, h => by
    cases r <;> simp only [slAt] at h <;> first | (cases h; done) | (simp only [oneSl]; exact noSl_slAt h)

theorem slVal_none : ∀ {rks : List ResK} {id : Nat} {vs : List Value}, slAt id rks = none → slVal rks vs = none
  | [], id, vs, h => by cases vs <;> rfl
  | r :: rks, id, vs, h => by
    cases r <;> simp only [slAt] at h <;> first | (cases h; done) | (cases vs <;> simp only [slVal]; exact slVal_none h)

theorem slAt_mem {FN : Nat → List (List Int) → List Int} {ls : List (List Int)} {ww : World} : ∀ {rks : List ResK} {id i : Nat} {e : TypeId} {ks : List IntKind} {vs : List Value}, slAt id rks = some (i, e, ks) → ResL FN ls ww w' id rks vs → ∃ v, slVal rks vs = some v ∧ NewSl ww w' v e ks (FN i ls)
  | [], id, i, e, ks, vs, h, hr => by simp [slAt] at h
  | r :: rks, id, i, e, ks, vs, h, hr => by
    cases r with
    | sl e' ks' =>
      simp only [slAt, Option.some.injEq, Prod.mk.injEq] at h
      obtain ⟨rfl, rfl, rfl⟩ := h
      simp only [ResL] at hr
      obtain ⟨v, vs', rfl, h1, _⟩ := hr
      exact ⟨v, rfl, h1⟩
    | _ =>
      simp only [slAt] at h
      simp only [ResL] at hr
      obtain ⟨v, vs', rfl, h1, h2⟩ := hr
      obtain ⟨u, hu, h3⟩ := slAt_mem h h2
      exact ⟨u, by simpa [slVal] using hu, h3⟩

/-- A KNOWN FUNCTION IS WHAT THE RUN TAKES IT FOR. -/
theorem Pc.ct_ok {FN : Nat → List (List Int) → List Int} (hFN : env.fn = FN) {c : Pc} (hc : PcOk P FN c) : ∀ as, AsOk env as → ∀ args M s M', c.ct.go as args M = .ok (s, M') → TaskOk P env (.call c.ct.f args M) (.ret s M') := by
  intro as hA args M s M' h
  simp only [Pc.ct] at h
  split at h <;> try (cases h; done)
  rename_i bs rs ms hargs
  split at h <;> try (cases h; done)
  rename_i qs hqs
  split at h
  · split at h <;> cases h
  · rename_i hck
    have hall := allCk_spec hA hck
    intro L ρ w vs hv H hd hL
    obtain ⟨q1, q2⟩ := argRows_spec H hargs (fun b hb => hall b (by simp [hb])) hv
    have q3 := rngB_spec q2 hqs fun b hb => hall b (by simp [hb])
    have q4 := preB_spec hFN (args := rs) (r := c.pre) fun b hb => hall b (by simp [hb])
    refine Calls.mono (hc w vs _ q1 q3 q4) fun e w' ⟨hbel, v, vs', he, ht, hr⟩ => ?_
    split at h
    · rename_i hno
      cases h
      refine ⟨v, ρ, he, tup_rep (resS_spec hFN hr (fun v h3 => by rw [slVal_none hno] at h3; cases h3) (noSl_slAt hno)) ht, post_below H hd hbel⟩
    · rename_i i et ks hsl
      split at h <;> try (cases h; done)
      rename_i hone
      obtain ⟨vsl, hmem, hnew⟩ := slAt_mem hsl hr
      have hks : 0 < ks.length := hnew.1
      have hrow : (IE.rapp i rs).reval env = FN i (rs.aeval env) := by simp only [IE.reval, hFN]
      have hl0 : (IE.lit 0).eval env = 0 := by simp only [IE.eval]
      have hcnt : (IE.rlen (.rapp i rs) ks.length).eval env = (((FN i (rs.aeval env)).length / ks.length : Nat) : Int) := by simp only [IE.eval, hrow]
      split at h
      · cases h
      · rename_i hckb
        cases h
        have hz := ckB_spec hA hckb
        simp only [lessB, BE.eval, cmpI, hl0, hcnt, decide_eq_false_iff_not] at hz
        refine ⟨v, ρ, he, tup_rep (resS_spec hFN hr (fun v' h3 => ?_) hone) ht, post_below H hd hbel⟩
        rw [hmem] at h3; cases h3
        rcases hnew.2 with ⟨_, a, c', rfl⟩ | ⟨hne, b, n, c', cells, lo, hi, rfl, z1, z2, _⟩
        · simp only [Rep]; exact ⟨a, c', rfl⟩
        · exfalso
          have hn0 : n = 0 := by
            rw [z1, Nat.mul_div_cancel _ hks] at hz; omega
          subst hn0
          simp at z1
          exact hne z1
      · rename_i hckb
        split at h <;> try (cases h; done)
        rename_i nm M2 hM
        cases h
        have hz := lessB_spec (ckB_spec hA hckb)
        rw [hl0, hcnt] at hz
        -- the block
        rcases hnew.2 with ⟨h0, _⟩ | ⟨hne, b, n, c', cells, lo, hi, hvv, z1, z2, z3, z4, z5, z6, z7⟩
        · rw [h0] at hz; simp at hz
        · have hM := newRowB_spec hM
          have hcn : (FN i (rs.aeval env)).length / ks.length = n := by rw [z1, Nat.mul_div_cancel _ hks]
          have hok : RowOk env (.rapp i rs) (.rlen (.rapp i rs) ks.length) ks := ⟨hks, by rw [hcnt]; omega, by rw [hrow, hcnt, hcn, z1]; simp⟩
          have hC : Cellar (rset ρ nm (b, cells.size)) env { elem := et, size := 0, zs := [], tr := .nil, opn := true, row := some (.rapp i rs, .rlen (.rapp i rs) ks.length, ks) } b cells.size w' := by
            refine ⟨⟨cells, lo, hi, z4, rfl, z5, fun i hi => absurd hi (Nat.not_lt_zero _)⟩, Nat.zero_le _, (fun h => by cases h), fun r' cnt' ks' hrw => ?_⟩
            simp only [Option.some.injEq, Prod.mk.injEq] at hrw
            obtain ⟨rfl, rfl, rfl⟩ := hrw
            exact ⟨⟨rfl, hok⟩, by rw [hrow]; exact z7⟩
          have hpost := post_newsl H hd hL hM hbel z3 hC
          refine ⟨v, _, he, tup_rep (resS_spec hFN hr (fun v' h3 => ?_) hone) ht, hpost⟩
          rw [hmem] at h3; cases h3
          rw [hvv]
          simp only [Rep]
          refine ⟨n, c', by rw [hcnt, hcn], z2, by omega, .inl ⟨b, 0, ⟨_, rset_same _ _ _, rfl⟩, by simp [hl0], ⟨b, ?_⟩⟩⟩
          rw [rset_same, hl0, z6]; simp

end
end Go.Sym
