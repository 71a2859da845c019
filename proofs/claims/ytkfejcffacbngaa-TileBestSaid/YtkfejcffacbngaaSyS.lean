/- What tests that are assumed say of other tests: bounds of differences of numbers. -/
import Derived.Test.YtkfejcffacbngaaSyE
namespace Go.Sym
open Go
set_option linter.unusedVariables false

/-- x is at most y and c more. -/
structure Fact where
  x : IE
  y : IE
  c : Int

def Fact.ok (env : Env) (f : Fact) : Prop := f.x.eval env ≤ f.y.eval env + f.c

def zeroE : IE := .lit 0

/-- a number, and what is added to it -/
def nodeOf : IE → IE × Int
  | .lit n => (zeroE, n)
  | e => (e, 0)

theorem nodeOf_spec (env : Env) (e : IE) : e.eval env = (nodeOf e).1.eval env + (nodeOf e).2 := by
  cases e <;> simp [nodeOf, zeroE, IE.eval, binI]

/-- a is at most b and c more -/
def mkF (a b : IE) (c : Int) : Fact :=
  match nodeOf a, nodeOf b with
  | (x, p), (y, q) => ⟨x, y, Int.sub (Int.add c q) p⟩

theorem mkF_ok {env : Env} {a b : IE} {c : Int} (h : a.eval env ≤ b.eval env + c) : (mkF a b c).ok env := by
  have h1 := nodeOf_spec env a
  have h2 := nodeOf_spec env b
  unfold mkF Fact.ok
  have e : Int.sub (Int.add c (nodeOf b).2) (nodeOf a).2 = c + (nodeOf b).2 - (nodeOf a).2 := rfl
  simp only [e]
  omega

/-- what a test that holds (or not) says -/
def factsOf : BE → Bool → List Fact
  | .not b, t => factsOf b (!t)
  | .cmp .lss a b, true => [mkF a b (Int.negSucc 0)]
  | .cmp .lss a b, false => [mkF b a 0]
  | .cmp .eql a b, true => [mkF a b 0, mkF b a 0]
  | _, _ => []

theorem factsOf_ok {env : Env} : ∀ (b : BE) (t : Bool), b.eval env = t → ∀ f ∈ factsOf b t, f.ok env
  | .not b, t, h, f, hf => by
    simp only [factsOf] at hf
    simp only [BE.eval] at h
    exact factsOf_ok b (!t) (by rw [← h]; simp) f hf
  | .var i, t, h, f, hf => by simp [factsOf] at hf
  | .req a b, t, h, f, hf => by simp [factsOf] at hf
  | .cmp op a b, t, h, f, hf => by
    cases op <;> cases t <;> simp only [factsOf, List.mem_cons, List.not_mem_nil, or_false, List.mem_nil_iff] at hf
    case lss.true =>
      subst hf
      simp only [BE.eval, cmpI, decide_eq_true_eq] at h
      exact mkF_ok (by have : Int.negSucc 0 = -1 := rfl
                       omega)
    case lss.false =>
      subst hf
      simp only [BE.eval, cmpI, decide_eq_false_iff_not] at h
      exact mkF_ok (by omega)
    case eql.true =>
      simp only [BE.eval, cmpI, decide_eq_true_eq] at h
      rcases hf with rfl | rfl
      · exact mkF_ok (by omega)
      · exact mkF_ok (by omega)
    all_goals first | exact hf.elim | (cases hf; done)

/-- what greatest and least numbers are held to -/
def termF : IE → List Fact
  | .bin .gtr k a b => mkF a (.bin .gtr k a b) 0 :: mkF b (.bin .gtr k a b) 0 :: (termF a ++ termF b)
  | .bin .lss k a b => mkF (.bin .lss k a b) a 0 :: mkF (.bin .lss k a b) b 0 :: (termF a ++ termF b)
  | .rlen r e => [mkF (.lit 0) (.rlen r e) 0]
  | .len i => [mkF (.lit 0) (.len i) 0]
  | .plus a b => match a, b with
    | a, .lit n => mkF (.plus a (.lit n)) a n :: mkF a (.plus a (.lit n)) (-n) :: termF a
    | _, _ => []
  | .minus a b => match a, b with
    | a, .lit n => mkF (.minus a (.lit n)) a (-n) :: mkF a (.minus a (.lit n)) n :: termF a
    | _, _ => []
  | _ => []

theorem termF_ok {env : Env} : ∀ (e : IE), ∀ f ∈ termF e, f.ok env
  | .var i, f, hf => by simp [termF] at hf
  | .len i, f, hf => by simp only [termF, List.mem_singleton] at hf; subst hf; exact mkF_ok (by simp [IE.eval])
  | .lit n, f, hf => by simp [termF] at hf
  | .wrap k a, f, hf => by simp [termF] at hf
  | .plus a b, f, hf => by
    have ha := termF_ok (env := env) a
    cases b <;> simp only [termF, List.mem_cons, List.not_mem_nil] at hf
    rcases hf with rfl | rfl | hf
    · exact mkF_ok (by simp only [IE.eval]; omega)
    · exact mkF_ok (by simp only [IE.eval]; omega)
    · exact ha f hf
  | .minus a b, f, hf => by
    have ha := termF_ok (env := env) a
    cases b <;> simp only [termF, List.mem_cons, List.not_mem_nil] at hf
    rcases hf with rfl | rfl | hf
    · exact mkF_ok (by simp only [IE.eval]; omega)
    · exact mkF_ok (by simp only [IE.eval]; omega)
    · exact ha f hf
  | .sel .., f, hf => by simp [termF] at hf
  | .rlen r e, f, hf => by simp only [termF, List.mem_singleton] at hf; subst hf; exact mkF_ok (by simp only [IE.eval]; have := Int.natCast_nonneg ((r.reval env).length / e); omega)
  | .app .., f, hf => by simp [termF] at hf
  | .rvar .., f, hf => by simp [termF] at hf
  | .rcon .., f, hf => by simp [termF] at hf
  | .rnil, f, hf => by simp [termF] at hf
  | .rcons .., f, hf => by simp [termF] at hf
  | .cat .., f, hf => by simp [termF] at hf
  | .sub .., f, hf => by simp [termF] at hf
  | .set .., f, hf => by simp [termF] at hf
  | .rep .., f, hf => by simp [termF] at hf
  | .rapp .., f, hf => by simp [termF] at hf
  | .w8 .., f, hf => by simp [termF] at hf
  | .anil, f, hf => by simp [termF] at hf
  | .acons .., f, hf => by simp [termF] at hf
  | .bin op k a b, f, hf => by
    have ha := termF_ok (env := env) a
    have hb := termF_ok (env := env) b
    cases op <;> simp only [termF, List.mem_cons, List.mem_append, List.not_mem_nil] at hf
    case gtr =>
      rcases hf with rfl | rfl | hf | hf
      · exact mkF_ok (by simp only [IE.eval, binI]; split <;> omega)
      · exact mkF_ok (by simp only [IE.eval, binI]; split <;> omega)
      · exact ha f hf
      · exact hb f hf
    case lss =>
      rcases hf with rfl | rfl | hf | hf
      · exact mkF_ok (by simp only [IE.eval, binI]; split <;> omega)
      · exact mkF_ok (by simp only [IE.eval, binI]; split <;> omega)
      · exact ha f hf
      · exact hb f hf
    

def termB : BE → List Fact
  | .cmp _ a b => termF a ++ termF b
  | .not b => termB b
  | _ => []

theorem termB_ok {env : Env} : ∀ (b : BE), ∀ f ∈ termB b, f.ok env
  | .var i, f, hf => by simp [termB] at hf
  | .not b, f, hf => termB_ok b f (by simpa [termB] using hf)
  | .req a b, f, hf => by simp [termB] at hf
  | .cmp op a b, f, hf => by
    simp only [termB, List.mem_append] at hf
    rcases hf with h | h
    · exact termF_ok a f h
    · exact termF_ok b f h

/-- how far is the start from each: start is at most the node and so much more -/
abbrev Dist := List (IE × Int)

def distOf : Dist → IE → Option Int
  | [], _ => none
  | (n, d) :: l, e => match ieEq n e with
    | true => some d
    | false => distOf l e

def distPut : Dist → IE → Int → Dist
  | [], e, d => [(e, d)]
  | (n, d0) :: l, e, d => match ieEq n e with
    | true => match ilt d d0 with
      | true => (n, d) :: l
      | false => (n, d0) :: l
    | false => (n, d0) :: distPut l e d

def Dist.ok (env : Env) (s : Int) (D : Dist) : Prop := ∀ p ∈ D, s ≤ p.1.eval env + p.2

theorem distOf_ok {env : Env} {s : Int} : ∀ {D : Dist} {e : IE} {d : Int}, Dist.ok env s D → distOf D e = some d → s ≤ e.eval env + d
  | [], e, d, h, hd => by simp [distOf] at hd
  | (n, d0) :: l, e, d, h, hd => by
    simp only [distOf] at hd
    split at hd
    · rename_i he
      have := ieEq_spec _ _ he
      subst this
      cases hd
      exact h (n, d0) (List.mem_cons_self ..)
    · exact distOf_ok (fun p hp => h p (by simp [hp])) hd

theorem distPut_ok {env : Env} {s : Int} : ∀ {D : Dist} {e : IE} {d : Int}, Dist.ok env s D → s ≤ e.eval env + d → Dist.ok env s (distPut D e d)
  | [], e, d, h, hd => fun p hp => by simp only [distPut, List.mem_singleton] at hp; subst hp; exact hd
  | (n, d0) :: l, e, d, h, hd => by
    simp only [distPut]
    split
    · rename_i he
      have := ieEq_spec _ _ he
      subst this
      split
      · intro p hp
        cases hp with
        | head => exact hd
        | tail _ hm => exact h p (List.mem_cons_of_mem _ hm)
      · exact h
    · intro p hp
      cases hp with
      | head => exact h (n, d0) (by simp)
      | tail _ hm => exact distPut_ok (fun p hp => h p (by simp [hp])) hd p hm

/-- one round over all facts -/
def relax : List Fact → Dist → Dist
  | [], D => D
  | f :: fs, D => match distOf D f.x with
    | some d => relax fs (distPut D f.y (Int.add d f.c))
    | none => relax fs D

theorem relax_ok {env : Env} {s : Int} : ∀ {fs : List Fact} {D : Dist}, (∀ f ∈ fs, f.ok env) → Dist.ok env s D → Dist.ok env s (relax fs D)
  | [], D, _, h => h
  | f :: fs, D, hf, h => by
    simp only [relax]
    split
    · rename_i d hd
      refine relax_ok (fun g hg => hf g (by simp [hg])) (distPut_ok h ?_)
      have h1 := distOf_ok h hd
      have h2 : f.x.eval env ≤ f.y.eval env + f.c := hf f (by simp)
      have e : Int.add d f.c = d + f.c := rfl
      rw [e]; omega
    · exact relax_ok (fun g hg => hf g (by simp [hg])) h

def relaxN : Nat → List Fact → Dist → Dist
  | 0, _, D => D
  | n + 1, fs, D => relaxN n fs (relax fs D)

theorem relaxN_ok {env : Env} {s : Int} {fs : List Fact} (hf : ∀ f ∈ fs, f.ok env) : ∀ (n : Nat) (D : Dist), Dist.ok env s D → Dist.ok env s (relaxN n fs D)
  | 0, D, h => h
  | n + 1, D, h => relaxN_ok hf n _ (relax_ok hf h)

/-- is a at most b and c more, by these facts? -/
def atMost (fs : List Fact) (a b : IE) (c : Int) : Bool :=
  match nodeOf a, nodeOf b with
  | (x, p), (y, q) => match distOf (relaxN 4 fs [(x, 0)]) y with
    | some d => ile (Int.add d p) (Int.add c q)
    | none => false

theorem atMost_ok {env : Env} {fs : List Fact} (hf : ∀ f ∈ fs, f.ok env) {a b : IE} {c : Int} (h : atMost fs a b c = true) : a.eval env ≤ b.eval env + c := by
  have h1 := nodeOf_spec env a
  have h2 := nodeOf_spec env b
  unfold atMost at h
  generalize hx : nodeOf a = xp at h h1
  generalize hy : nodeOf b = yq at h h2
  obtain ⟨x, p⟩ := xp
  obtain ⟨y, q⟩ := yq
  simp only at h h1 h2
  split at h
  · rename_i d hd
    have h3 : Dist.ok env (x.eval env) [(x, (0 : Int))] := fun p hp => by simp only [List.mem_singleton] at hp; subst hp; simp
    have h4 := distOf_ok (relaxN_ok hf 4 _ h3) hd
    rw [ile_spec] at h
    have h5 : Int.add d p ≤ Int.add c q := by simpa using h
    have e1 : Int.add d p = d + p := rfl
    have e2 : Int.add c q = c + q := rfl
    rw [e1, e2] at h5
    omega
  · cases h

/-- what the facts say of a test -/
def judge (fs : List Fact) : BE → Option Bool
  | .not b => match judge fs b with
    | some t => some (!t)
    | none => none
  | .cmp .lss a b => match atMost fs a b (Int.negSucc 0) with
    | true => some true
    | false => match atMost fs b a 0 with
      | true => some false
      | false => none
  | .cmp .eql a b => match atMost fs a b (Int.negSucc 0) with
    | true => some false
    | false => match atMost fs b a (Int.negSucc 0) with
      | true => some false
      | false => match atMost fs a b 0, atMost fs b a 0 with
        | true, true => some true
        | _, _ => none
  | _ => none

theorem judge_ok {env : Env} {fs : List Fact} (hf : ∀ f ∈ fs, f.ok env) : ∀ {b : BE} {t : Bool}, judge fs b = some t → b.eval env = t
  | .not b, t, h => by
    simp only [judge] at h
    split at h
    · rename_i t' ht
      cases h
      simp only [BE.eval, judge_ok hf ht]
    · cases h
  | .var i, t, h => by simp [judge] at h
  | .req a b, t, h => by simp [judge] at h
  | .cmp op a b, t, h => by
    have e : Int.negSucc 0 = -1 := rfl
    cases op <;> simp only [judge] at h <;> first | (cases h; done) | skip
    case lss =>
      split at h
      · rename_i h1; cases h; have := atMost_ok hf h1; simp only [BE.eval, cmpI, decide_eq_true_eq]; omega
      · split at h
        · rename_i h1; cases h; have := atMost_ok hf h1; simp only [BE.eval, cmpI, decide_eq_false_iff_not]; omega
        · cases h
    case eql =>
      split at h
      · rename_i h1; cases h; have := atMost_ok hf h1; simp only [BE.eval, cmpI, decide_eq_false_iff_not]; omega
      · split at h
        · rename_i h1; cases h; have := atMost_ok hf h1; simp only [BE.eval, cmpI, decide_eq_false_iff_not]; omega
        · split at h
          · rename_i h1 h2; cases h; have := atMost_ok hf h1; have := atMost_ok hf h2; simp only [BE.eval, cmpI, decide_eq_true_eq]; omega
          · cases h

end Go.Sym
