/- Atoms put in: what is said of all atoms is said of these numbers. -/
import Derived.Test.YtkfejcffacbngaaSyQ
namespace Go.Sym
open Go Go.RowKit
set_option linter.unusedVariables false

/-- What atoms are set to, what names stand for. -/
structure Sb where
  iv : List (Nat × IE)
  rv : List (Nat × IE)
  bv : List (Nat × BE)
  nm : List (Nat × Nat)

def lk {α : Type} : List (Nat × α) → Nat → Option α
  | [], _ => none
  | (j, x) :: l, i => match Nat.beq j i with
    | true => some x
    | false => lk l i

/-- The atoms as they are set. -/
def upd (env : Env) (σ : Sb) : Env where
  val := fun i => match lk σ.iv i with
    | some e => .int .i64 (e.eval env)
    | none => match lk σ.bv i with
      | some b => .bool (b.eval env)
      | none => env.val i
  row := fun i => match lk σ.rv i with
    | some r => r.reval env
    | none => env.row i
  ro := env.ro
  fn := env.fn

def IE.sb (σ : Sb) : IE → IE
  | .var i => match lk σ.iv i with
    | some e => e
    | none => match lk σ.bv i with
      | some _ => .lit 0
      | none => .var i
  | .len i => match lk σ.iv i with
    | some _ => .lit 0
    | none => match lk σ.bv i with
      | some _ => .lit 0
      | none => .len i
  | .lit n => .lit n
  | .bin op k a b => .bin op k (a.sb σ) (b.sb σ)
  | .wrap k a => .wrap k (a.sb σ)
  | .plus a b => .plus (a.sb σ) (b.sb σ)
  | .minus a b => .minus (a.sb σ) (b.sb σ)
  | .sel r i esz fld => .sel (r.sb σ) (i.sb σ) esz fld
  | .rlen r esz => .rlen (r.sb σ) esz
  | .app f args => .app f (args.sb σ)
  | .rvar i => match lk σ.rv i with
    | some r => r
    | none => .rvar i
  | .rcon l => .rcon l
  | .rnil => .rnil
  | .rcons e r => .rcons (e.sb σ) (r.sb σ)
  | .cat a b => .cat (a.sb σ) (b.sb σ)
  | .sub r a b esz => .sub (r.sb σ) (a.sb σ) (b.sb σ) esz
  | .set r i esz fld e => .set (r.sb σ) (i.sb σ) esz fld (e.sb σ)
  | .rep n r => .rep (n.sb σ) (r.sb σ)
  | .rapp f args => .rapp f (args.sb σ)
  | .w8 r => .w8 (r.sb σ)
  | .anil => .anil
  | .acons r args => .acons (r.sb σ) (args.sb σ)

def IE.isI : IE → Bool
  | .var _ | .len _ | .lit _ | .bin .. | .wrap .. | .plus .. | .minus .. | .sel .. | .rlen .. | .app .. => true
  | _ => false
def IE.isR : IE → Bool
  | .rvar _ | .rcon _ | .rnil | .rcons .. | .cat .. | .sub .. | .set .. | .rep .. | .rapp .. | .w8 _ => true
  | _ => false
theorem IE.isI_spec {e : IE} (h : e.isI = true) (env : Env) : e.reval env = [] ∧ e.aeval env = [] := by
  cases e <;> simp only [IE.isI] at h <;> first | (cases h; done) | exact ⟨by simp only [IE.reval], by simp only [IE.aeval]⟩
theorem IE.isR_spec {e : IE} (h : e.isR = true) (env : Env) : e.eval env = 0 ∧ e.aeval env = [] := by
  cases e <;> simp only [IE.isR] at h <;> first | (cases h; done) | exact ⟨by simp only [IE.eval], by simp only [IE.aeval]⟩

def allI : List (Nat × IE) → Bool
  | [] => true
  | (_, e) :: l => e.isI && allI l
def allR : List (Nat × IE) → Bool
  | [] => true
  | (_, e) :: l => e.isR && allR l
theorem allI_spec : ∀ {l : List (Nat × IE)}, allI l = true → ∀ i e, lk l i = some e → e.isI = true
  | [], _, i, e, h => by simp [lk] at h
  | (j, x) :: l, hx, i, e, h => by
    simp only [allI, Bool.and_eq_true] at hx
    simp only [lk] at h
    split at h
    · cases h; exact hx.1
    · exact allI_spec hx.2 i e h
theorem allR_spec : ∀ {l : List (Nat × IE)}, allR l = true → ∀ i e, lk l i = some e → e.isR = true
  | [], _, i, e, h => by simp [lk] at h
  | (j, x) :: l, hx, i, e, h => by
    simp only [allR, Bool.and_eq_true] at hx
    simp only [lk] at h
    split at h
    · cases h; exact hx.1
    · exact allR_spec hx.2 i e h

def Sb.ok (σ : Sb) : Bool := allI σ.iv && allR σ.rv

section
variable {env : Env} {σ : Sb}

theorem IE.sb_all (hσ : σ.ok = true) : ∀ e : IE, (e.sb σ).eval env = e.eval (upd env σ) ∧ (e.sb σ).reval env = e.reval (upd env σ) ∧ (e.sb σ).aeval env = e.aeval (upd env σ) := by
  simp only [Sb.ok, Bool.and_eq_true] at hσ
  have hv := allI_spec hσ.1
  have hr := allR_spec hσ.2
  intro e
  induction e with
  | var i =>
    simp only [IE.sb, IE.eval, IE.reval, IE.aeval, upd]
    cases h : lk σ.iv i with
    | some e => exact ⟨rfl, IE.isI_spec (hv i e h) env⟩
    | none =>
      cases h2 : lk σ.bv i with
      | some b => exact ⟨rfl, rfl, rfl⟩
      | none => exact ⟨rfl, rfl, rfl⟩
  | len i =>
    simp only [IE.sb, IE.eval, IE.reval, IE.aeval, upd]
    cases h : lk σ.iv i with
    | some e => exact ⟨rfl, rfl, rfl⟩
    | none =>
      cases h2 : lk σ.bv i with
      | some b => exact ⟨rfl, rfl, rfl⟩
      | none => exact ⟨rfl, rfl, rfl⟩
  | rvar i =>
    simp only [IE.sb, IE.eval, IE.reval, IE.aeval, upd]
    cases h : lk σ.rv i with
    | some e => have := IE.isR_spec (hr i e h) env; exact ⟨this.1, rfl, this.2⟩
    | none => exact ⟨rfl, rfl, rfl⟩
  | _ => simp_all [IE.sb, IE.eval, IE.reval, IE.aeval, upd]

theorem IE.sb_eval (hσ : σ.ok = true) (e : IE) : (e.sb σ).eval env = e.eval (upd env σ) := (IE.sb_all hσ e).1
theorem IE.sb_reval (hσ : σ.ok = true) (e : IE) : (e.sb σ).reval env = e.reval (upd env σ) := (IE.sb_all hσ e).2.1

def BE.sb (σ : Sb) : BE → BE
  | .var i => match lk σ.iv i with
    | some _ => .cmp .lss (.lit 0) (.lit 0)
    | none => match lk σ.bv i with
      | some b => b
      | none => .var i
  | .cmp op a b => .cmp op (a.sb σ) (b.sb σ)
  | .not b => .not (b.sb σ)
  | .req a b => .req (a.sb σ) (b.sb σ)

theorem BE.sb_eval (hσ : σ.ok = true) : ∀ b : BE, (b.sb σ).eval env = b.eval (upd env σ)
  | .var i => by
    simp only [BE.sb, BE.eval, upd]
    cases h : lk σ.iv i with
    | some e => simp [BE.eval, cmpI, IE.eval, vBool]
    | none =>
      cases h2 : lk σ.bv i with
      | some b => rfl
      | none => rfl
  | .cmp op a b => by simp only [BE.sb, BE.eval, IE.sb_eval hσ]
  | .not b => by simp only [BE.sb, BE.eval, BE.sb_eval hσ b]
  | .req a b => by simp only [BE.sb, BE.eval, IE.sb_reval hσ]

/-- names: which stands for which -/
def rhoT (σ : Sb) (ρ : Rho) : Rho := fun n => match lk σ.nm n with
  | some m => ρ m
  | none => none

/-- is this value one that the pattern stands for? -/
def plM (σ : Sb) : Pl → Pl → Bool
  | .own a, .own b => match lk σ.nm a with
    | some m => Nat.beq m b
    | none => false
  | .ro i k, .ro j l => Nat.beq i j && (ksEq k l && (match lk σ.rv i with | none => true | some _ => false))
  | _, _ => false

mutual
def svM (σ : Sb) : SV → SV → Bool
  | .any, _ => true
  | .bool a, .bool b => match a, b with | true, true => true | false, false => true | _, _ => false
  | .int k a, .int k' b => kEq k k' && ieq a b
  | .str a, .str b => bytesEq a.data.toList b.data.toList
  | .ptr a b, .ptr c d => (match lk σ.nm a with | some m => Nat.beq m c | none => false) && Nat.beq b d
  | .nilptr, .nilptr => true
  | .gptr a b, .gptr c d => Nat.beq a c && Nat.beq b d
  | .slice a b c d, .slice a' b' c' d' => (match lk σ.nm a with | some m => Nat.beq m a' | none => false) && (Nat.beq b b' && (Nat.beq c c' && Nat.beq d d'))
  | .oslice a b c d, .oslice a' b' c' d' => (match lk σ.nm a with | some m => Nat.beq m a' | none => false) && (Nat.beq b b' && (Nat.beq c c' && Nat.beq d d'))
  | .eslice, .eslice => true
  | .nilslice, .nilslice => true
  | .zslice, .zslice => true
  | .e0, .e0 => true
  | .e0, .zslice => true
  | .e0, .nilslice => true
  | .e0, .eslice => true
  | .agg a, .agg b => svML σ a b
  | .tuple a, .tuple b => svML σ a b
  | .iface t a, .iface t' b => Nat.beq t t' && svM σ a b
  | .niliface, .niliface => true
  | .func (.func f) a b, .func (.func f') a' b' => Nat.beq f f' && (svML σ a a' && svML σ b b')
  | .nilfunc, .nilfunc => true
  | .nilmap, .nilmap => true
  | .sint k e, .sint k' e' => kEq k k' && ieEq (e.sb σ) e'
  | .sint k e, .int k' n => kEq k k' && ieEq (e.sb σ) (.lit n)
  | .sbool b, .sbool b' => beEq (b.sb σ) b'
  | .sbool b, .bool true => beEq (b.sb σ) (.not (.cmp .lss (.lit 0) (.lit 0)))
  | .sbool b, .bool false => beEq (b.sb σ) (.cmp .lss (.lit 0) (.lit 0))
  | .rstr a, .rstr b => ieEq (a.sb σ) b
  | .rstr a, .str s => ieEq (a.sb σ) (.rcon (byteInts s.data.toList))
  | .rsl p a b e, .rsl p' a' b' e' => plM σ p p' && (Nat.beq e e' && (ieEq (a.sb σ) a' && ieEq (b.sb σ) b'))
  | .rptr p a e f, .rptr p' a' e' f' => plM σ p p' && (Nat.beq e e' && (Nat.beq f f' && ieEq (a.sb σ) a'))
  | _, _ => false
def svML (σ : Sb) : List SV → List SV → Bool
  | [], [] => true
  | a :: as, b :: bs => svM σ a b && svML σ as bs
  | _, _ => false
end

variable {ρ : Rho}

theorem rhoT_some {a m : Nat} (h : lk σ.nm a = some m) : rhoT σ ρ a = ρ m := by simp [rhoT, h]

theorem nmM_spec {a c : Nat} (h : (match lk σ.nm a with | some m => Nat.beq m c | none => false) = true) : rhoT σ ρ a = ρ c := by
  split at h
  · rename_i m hm
    rw [rhoT_some hm, Nat.eq_of_beq_eq_true h]
  · cases h

theorem plM_spec {p p' : Pl} (h : plM σ p p' = true) {b base : Nat} (hp : plAt ρ env p' b base) : plAt (rhoT σ ρ) (upd env σ) p b base := by
  cases p <;> cases p' <;> simp only [plM] at h <;> try (cases h; done)
  · obtain ⟨n, h1, h2⟩ := hp
    exact ⟨n, by rw [nmM_spec h]; exact h1, h2⟩
  · simp only [Bool.and_eq_true] at h
    have e1 := Nat.eq_of_beq_eq_true h.1
    have e2 := ksEq_spec h.2.1
    subst e1; subst e2
    exact hp

theorem plM_full {p p' : Pl} (h : plM σ p p' = true) {e : Nat} (hp : plFull ρ p' e) : plFull (rhoT σ ρ) p e := by
  cases p <;> cases p' <;> simp only [plM] at h <;> try (cases h; done)
  · obtain ⟨b, h1⟩ := hp
    exact ⟨b, by rw [nmM_spec h]; exact h1⟩
  · trivial

/-- The rows that are only read are not set. -/
def RoKeep (env : Env) (σ : Sb) : Prop := ∀ i R, env.ro i = some R → lk σ.rv i = none

/-- rows of this number and above lie nowhere -/
def keysGe (n : Nat) : List (Nat × IE) → Bool
  | [] => true
  | (i, _) :: l => Nat.ble n i && keysGe n l
theorem keysGe_spec {n : Nat} : ∀ {l : List (Nat × IE)}, keysGe n l = true → ∀ i, i < n → lk l i = none
  | [], _, i, h => rfl
  | (j, x) :: l, hx, i, h => by
    simp only [keysGe, Bool.and_eq_true] at hx
    have := ble_true hx.1
    simp only [lk]
    have hb : Nat.beq j i = false := by rw [nat_beq]; simp; omega
    rw [hb]
    exact keysGe_spec hx.2 i h
/-- rows from n on lie nowhere -/
def RoBelow (env : Env) (n : Nat) : Prop := ∀ i R, env.ro i = some R → i < n

theorem upd_row_ro {i n : Nat} (h : keysGe n σ.rv = true) (hi : i < n) : (upd env σ).row i = env.row i := by
  simp only [upd, keysGe_spec h i hi]

theorem plM_nil {p p' : Pl} (h : plM σ p p' = true) {c : Nat} (hp : plNil env p' c) : plNil (upd env σ) p c := by
  cases p <;> cases p' <;> simp only [plM] at h <;> try (cases h; done)
  · exact hp
  · simp only [Bool.and_eq_true] at h
    have e1 := Nat.eq_of_beq_eq_true h.1
    have e2 := ksEq_spec h.2.1
    subst e1; subst e2
    have h3 := h.2.2
    split at h3
    · rename_i hn
      simp only [plNil, upd, hn] at hp ⊢; exact hp
    · cases h3

mutual
theorem svM_spec (hσ : σ.ok = true) : ∀ (p s : SV) (v : Value), svM σ p s = true → Rep ρ env s v → Rep (rhoT σ ρ) (upd env σ) p v
  | .any, s, v, h, hr => by simp only [Rep]
  | .bool a, s, v, h, hr => by
    cases s <;> simp only [svM] at h <;> try (cases h; done)
    rename_i b
    simp only [Rep] at hr ⊢
    cases a <;> cases b <;> first | exact hr | cases h
  | .int k a, s, v, h, hr => by
    cases s <;> simp only [svM] at h <;> try (cases h; done)
    simp only [Bool.and_eq_true] at h
    rw [ieq_spec'] at h
    simp only [Rep] at hr ⊢
    rw [hr, kEq_spec h.1, of_decide_eq_true h.2]
  | .str a, s, v, h, hr => by
    cases s <;> simp only [svM] at h <;> try (cases h; done)
    rename_i b
    rw [bytesEq_spec] at h
    have h1 : a.data.toList = b.data.toList := by simpa using h
    have h2 : a = b := by
      cases a; cases b
      simp only [ByteArray.mk.injEq]
      exact Array.ext' h1
    simp only [Rep] at hr ⊢
    rw [hr, h2]
  | .ptr a b, s, v, h, hr => by
    cases s <;> simp only [svM] at h <;> try (cases h; done)
    simp only [Bool.and_eq_true] at h
    simp only [Rep] at hr ⊢
    rw [nmM_spec h.1, Nat.eq_of_beq_eq_true h.2]
    exact hr
  | .nilptr, s, v, h, hr => by
    cases s <;> simp only [svM] at h <;> try (cases h; done)
    simpa only [Rep] using hr
  | .gptr a b, s, v, h, hr => by
    cases s <;> simp only [svM] at h <;> try (cases h; done)
    simp only [Bool.and_eq_true] at h
    simp only [Rep] at hr ⊢
    rw [Nat.eq_of_beq_eq_true h.1, Nat.eq_of_beq_eq_true h.2]
    exact hr
  | .slice a b c d, s, v, h, hr => by
    cases s <;> simp only [svM] at h <;> try (cases h; done)
    simp only [Bool.and_eq_true] at h
    simp only [Rep] at hr ⊢
    rw [nmM_spec h.1, Nat.eq_of_beq_eq_true h.2.1, Nat.eq_of_beq_eq_true h.2.2.1, Nat.eq_of_beq_eq_true h.2.2.2]
    exact hr
  | .oslice a b c d, s, v, h, hr => by
    cases s <;> simp only [svM] at h <;> try (cases h; done)
    simp only [Bool.and_eq_true] at h
    simp only [Rep] at hr ⊢
    rw [nmM_spec h.1, Nat.eq_of_beq_eq_true h.2.1, Nat.eq_of_beq_eq_true h.2.2.1, Nat.eq_of_beq_eq_true h.2.2.2]
    exact hr
  | .eslice, s, v, h, hr => by
    cases s <;> simp only [svM] at h <;> try (cases h; done)
    simpa only [Rep] using hr
  | .nilslice, s, v, h, hr => by
    cases s <;> simp only [svM] at h <;> try (cases h; done)
    simpa only [Rep] using hr
  | .zslice, s, v, h, hr => by
    cases s <;> simp only [svM] at h <;> try (cases h; done)
    simpa only [Rep] using hr
  | .e0, s, v, h, hr => by
    cases s <;> simp only [svM] at h <;> try (cases h; done)
    · simp only [Rep] at hr ⊢
      obtain ⟨a, c, h1⟩ := hr; exact ⟨_, c, h1⟩
    · simp only [Rep] at hr ⊢
      exact ⟨_, _, hr⟩
    · simp only [Rep] at hr ⊢
      obtain ⟨a, h1⟩ := hr; exact ⟨a, 0, h1⟩
    · simpa only [Rep] using hr
  | .agg a, s, v, h, hr => by
    cases s <;> simp only [svM] at h <;> try (cases h; done)
    simp only [Rep] at hr ⊢
    obtain ⟨vs, h1, h2⟩ := hr
    exact ⟨vs, h1, svML_spec hσ _ _ _ h h2⟩
  | .tuple a, s, v, h, hr => by
    cases s <;> simp only [svM] at h <;> try (cases h; done)
    simp only [Rep] at hr ⊢
    obtain ⟨vs, h1, h2⟩ := hr
    exact ⟨vs, h1, svML_spec hσ _ _ _ h h2⟩
  | .iface t a, s, v, h, hr => by
    cases s <;> simp only [svM] at h <;> try (cases h; done)
    simp only [Bool.and_eq_true] at h
    simp only [Rep] at hr ⊢
    obtain ⟨u, h1, h2⟩ := hr
    exact ⟨u, by rw [h1, Nat.eq_of_beq_eq_true h.1], svM_spec hσ _ _ _ h.2 h2⟩
  | .niliface, s, v, h, hr => by
    cases s <;> simp only [svM] at h <;> try (cases h; done)
    simpa only [Rep] using hr
  | .func fn f c, s, v, h, hr => by
    cases s <;> cases fn <;> try (simp [svM] at h; done)
    rename_i fn' f' c' g
    cases fn' <;> try (simp [svM] at h; done)
    simp only [svM, Bool.and_eq_true] at h
    simp only [Rep] at hr ⊢
    obtain ⟨fs, cs, h1, h2, h3⟩ := hr
    exact ⟨fs, cs, by rw [h1, Nat.eq_of_beq_eq_true h.1], svML_spec hσ _ _ _ h.2.1 h2, svML_spec hσ _ _ _ h.2.2 h3⟩
  | .nilfunc, s, v, h, hr => by
    cases s <;> simp only [svM] at h <;> try (cases h; done)
    simpa only [Rep] using hr
  | .nilmap, s, v, h, hr => by
    cases s <;> simp only [svM] at h <;> try (cases h; done)
    simpa only [Rep] using hr
  | .atom i, s, v, h, hr => by cases s <;> simp only [svM] at h <;> cases h
  | .aslice i, s, v, h, hr => by cases s <;> simp only [svM] at h <;> cases h
  | .astr i, s, v, h, hr => by cases s <;> simp only [svM] at h <;> cases h
  | .sint k e, s, v, h, hr => by
    cases s <;> simp only [svM] at h <;> try (cases h; done)
    · simp only [Bool.and_eq_true] at h
      simp only [Rep] at hr ⊢
      rw [hr, kEq_spec h.1, ← IE.sb_eval hσ, ieEq_spec _ _ h.2]; simp only [IE.eval]
    · simp only [Bool.and_eq_true] at h
      simp only [Rep] at hr ⊢
      rw [hr, kEq_spec h.1, ← IE.sb_eval hσ, ieEq_spec _ _ h.2]
  | .sbool b, s, v, h, hr => by
    cases s <;> try (simp [svM] at h; done)
    · rename_i c
      cases c <;> simp only [svM] at h <;> simp only [Rep] at hr ⊢ <;> rw [hr, ← BE.sb_eval hσ, beEq_spec _ _ h] <;> simp [BE.eval, cmpI, IE.eval]
    · simp only [svM] at h
      simp only [Rep] at hr ⊢
      rw [hr, ← BE.sb_eval hσ, beEq_spec _ _ h]
  | .rstr a, s, v, h, hr => by
    cases s <;> simp only [svM] at h <;> try (cases h; done)
    · rename_i b
      simp only [Rep] at hr ⊢
      refine ⟨b, hr, ?_⟩
      rw [← IE.sb_reval hσ, ieEq_spec _ _ h]
      simp only [IE.reval, byteInts_eq, intsOf]
    · simp only [Rep] at hr ⊢
      rw [← IE.sb_reval hσ, ieEq_spec _ _ h]
      exact hr
  | .rsl p a b e, s, v, h, hr => by
    cases s <;> simp only [svM] at h <;> try (cases h; done)
    simp only [Bool.and_eq_true] at h
    simp only [Rep] at hr ⊢
    obtain ⟨h1, h2, h3, h4⟩ := h
    rw [Nat.eq_of_beq_eq_true h2, ← IE.sb_eval hσ, ← IE.sb_eval hσ, ieEq_spec _ _ h3, ieEq_spec _ _ h4]
    obtain ⟨l, c, g1, g2, g3, g4⟩ := hr
    refine ⟨l, c, g1, g2, g3, ?_⟩
    rcases g4 with ⟨b0, base, k1, k2, k3⟩ | ⟨k1, k2, k3⟩
    · exact .inl ⟨b0, base, plM_spec h1 k1, k2, plM_full h1 k3⟩
    · exact .inr ⟨k1, plM_nil h1 k2, k3⟩
  | .rptr p a e f, s, v, h, hr => by
    cases s <;> simp only [svM] at h <;> try (cases h; done)
    simp only [Bool.and_eq_true] at h
    simp only [Rep] at hr ⊢
    obtain ⟨h1, h2, h3, h4⟩ := h
    rw [Nat.eq_of_beq_eq_true h2, Nat.eq_of_beq_eq_true h3, ← IE.sb_eval hσ, ieEq_spec _ _ h4]
    obtain ⟨b0, base, k1, k2⟩ := hr
    exact ⟨b0, base, plM_spec h1 k1, k2⟩
theorem svML_spec (hσ : σ.ok = true) : ∀ (p s : List SV) (v : List Value), svML σ p s = true → RepL ρ env s v → RepL (rhoT σ ρ) (upd env σ) p v
  | [], s, v, h, hr => by
    cases s <;> simp only [svML] at h <;> try (cases h; done)
    simpa only [RepL] using hr
  | a :: p, s, v, h, hr => by
    cases s <;> simp only [svML] at h <;> try (cases h; done)
    simp only [Bool.and_eq_true] at h
    simp only [RepL] at hr ⊢
    obtain ⟨u, us, h1, h2, h3⟩ := hr
    exact ⟨u, us, h1, svM_spec hσ _ _ _ h.1 h2, svML_spec hσ _ _ _ h.2 h3⟩
end
end

end Go.Sym
