/- A function's body, run from place to place: to a cut, or to its end. -/
import Derived.Test.YtkfejcffacbngaaSyW
namespace Go.Sym
open Go Go.RowKit
set_option linter.unusedVariables false
set_option linter.unusedSectionVars false

/-! ### Places in a body -/

def child (c : Code) (i : Nat) : Code :=
  match c with
  | .seq a b => match i with | 0 => a | _ => b
  | .cond _ a b => match i with | 0 => a | _ => b
  | .block _ b => b
  | .loop b => b
  | _ => .skip

/-- the code at a place (the innermost step first) -/
def codeAt (root : Code) : List Nat → Code
  | [] => root
  | i :: p => child (codeAt root p) i

/-- what must hold behind part i of a code -/
def stepQ (P : Program) (c : Code) (i : Nat) (Q : Exit → Act → World → Prop) : Exit → Act → World → Prop :=
  match c with
  | .seq _ b => match i with
    | 0 => Exit.then (b.wp P Q) Q
    | _ => Q
  | .block id _ => Exit.inBlock id Q
  | .loop b => Exit.then (loopWp P b Q) Q
  | _ => Q

/-- what must hold behind the code at a place -/
def Kt (P : Program) (root : Code) (R : Exit → Act → World → Prop) : List Nat → Exit → Act → World → Prop
  | [] => R
  | i :: p => stepQ P (codeAt root p) i (Kt P root R p)

inductive Md where
  | go
  | back (e : SExit)

inductive Lf where
  | ret (tm : Tm) (M : Mem)
  | cut (p : List Nat) (tm : Tm) (M : Mem)
  | fork (b : BE)
  | no

def natsEq : List Nat → List Nat → Bool
  | [], [] => true
  | a :: l, b :: m => Nat.beq a b && natsEq l m
  | _, _ => false
theorem natsEq_spec : ∀ {l m : List Nat}, natsEq l m = true → l = m
  | [], m, h => by cases m <;> simp only [natsEq] at h <;> first | rfl | cases h
  | a :: l, m, h => by
    cases m <;> simp only [natsEq] at h <;> first | (cases h; done) | skip
    simp only [Bool.and_eq_true] at h
    rw [Nat.eq_of_beq_eq_true h.1, natsEq_spec h.2]

def isCut : List (List Nat) → List Nat → Bool
  | [], _ => false
  | q :: l, p => match natsEq q p with
    | true => true
    | false => isCut l p

def runK (P : Program) (kn : Kn) (as : As) (n : Nat) (cuts : List (List Nat)) (root : Code) : Nat → Md → List Nat → Tm → Mem → Lf
  | 0, _, _, _, _ => .no
  | f + 1, md, p, tm, M => match md with
    | .go => match codeAt root p with
      | .skip => runK P kn as n cuts root f (.back .normal) p tm M
      | .label _ => runK P kn as n cuts root f (.back .normal) p tm M
      | .exit id => runK P kn as n cuts root f (.back (.exit id)) p tm M
      | .ret => runK P kn as n cuts root f (.back .ret) p tm M
      | .seq _ _ => runK P kn as n cuts root f .go (0 :: p) tm M
      | .cond x _ _ => match sev tm x with
        | some (.bool true) => runK P kn as n cuts root f .go (0 :: p) tm M
        | some (.bool false) => runK P kn as n cuts root f .go (1 :: p) tm M
        | some (.sbool t) => .fork (coreB t)
        | _ => .no
      | .block _ _ => runK P kn as n cuts root f .go (0 :: p) tm M
      | .loop _ => match isCut cuts p with
        | true => .cut p tm M
        | false => runK P kn as n cuts root f .go (0 :: p) tm M
      | .region _ ops draw => match draw with
        | false => match runSeq P (ihOf (run P kn as n)) ops.toList ops.toList tm M with
          | .ok (tm', M') => runK P kn as n cuts root f (.back .normal) p tm' M'
          | .fork b => .fork b
          | .no => .no
        | true => match runDraw P (ihOf (run P kn as n)) ops.toList tm M with
          | .ok (tm', M') => runK P kn as n cuts root f (.back .normal) p tm' M'
          | .fork b => .fork b
          | .no => .no
      | _ => .no
    | .back e => match p with
      | [] => match e with
        | .normal => .ret tm M
        | .ret => .ret tm M
        | .exit _ => .no
      | i :: q => match codeAt root q with
        | .seq _ _ => match i, e with
          | 0, .normal => runK P kn as n cuts root f .go (1 :: q) tm M
          | _, e => runK P kn as n cuts root f (.back e) q tm M
        | .block id _ => match e with
          | .exit id' => match Nat.beq id' id with
            | true => runK P kn as n cuts root f (.back .normal) q tm M
            | false => runK P kn as n cuts root f (.back (.exit id')) q tm M
          | e => runK P kn as n cuts root f (.back e) q tm M
        | .loop _ => match e with
          | .normal => match isCut cuts q with
            | true => .cut q tm M
            | false => runK P kn as n cuts root f .go (0 :: q) tm M
          | e => runK P kn as n cuts root f (.back e) q tm M
        | .cond _ _ _ => runK P kn as n cuts root f (.back e) q tm M
        | _ => .no

section
variable {P : Program} {env : Env} {kn : Kn} {as : As} {n : Nat} {cuts : List (List Nat)} {root : Code} {R : Exit → Act → World → Prop}

def MdWp (P : Program) (root : Code) (R : Exit → Act → World → Prop) (md : Md) (p : List Nat) (a : Act) (w : World) : Prop :=
  match md with
  | .go => (codeAt root p).wp P (Kt P root R p) a w
  | .back e => Kt P root R p e.to a w

/-- the loop at a place, at the head of a round -/
def CutWp (P : Program) (root : Code) (R : Exit → Act → World → Prop) (p : List Nat) (a : Act) (w : World) : Prop :=
  match codeAt root p with
  | .loop c => loopWp P c (Kt P root R p) a w
  | _ => False

def Lf.mem : Lf → Option (Tm × Mem)
  | .ret tm M => some (tm, M)
  | .cut _ tm M => some (tm, M)
  | _ => none

theorem runK_le : ∀ (f : Nat) (md : Md) (p : List Nat) (tm : Tm) (M : Mem) (tm' : Tm) (M' : Mem), (runK P kn as n cuts root f md p tm M).mem = some (tm', M') → M.next ≤ M'.next
  | 0, md, p, tm, M, tm', M', h => by simp [runK, Lf.mem] at h
  | f + 1, md, p, tm, M, tm', M', h => by
    have ih := runK_le f
    simp only [runK] at h
    split at h
    · split at h <;> try (exact ih _ _ _ _ _ _ h)
      · split at h <;> try (exact ih _ _ _ _ _ _ h)
        · simp [Lf.mem] at h
        · simp [Lf.mem] at h
      · split at h
        · simp only [Lf.mem, Option.some.injEq, Prod.mk.injEq] at h; rw [h.2]; exact Nat.le_refl _
        · exact ih _ _ _ _ _ _ h
      · split at h
        · split at h
          · rename_i h1; exact Nat.le_trans (runSeq_le _ _ _ _ _ h1) (ih _ _ _ _ _ _ h)
          · simp [Lf.mem] at h
          · simp [Lf.mem] at h
        · split at h
          · rename_i h1; exact Nat.le_trans (runDraw_le h1) (ih _ _ _ _ _ _ h)
          · simp [Lf.mem] at h
          · simp [Lf.mem] at h
      · simp [Lf.mem] at h
    · split at h
      · split at h
        · simp only [Lf.mem, Option.some.injEq, Prod.mk.injEq] at h; rw [h.2]; exact Nat.le_refl _
        · simp only [Lf.mem, Option.some.injEq, Prod.mk.injEq] at h; rw [h.2]; exact Nat.le_refl _
        · simp [Lf.mem] at h
      · split at h
        · split at h <;> exact ih _ _ _ _ _ _ h
        · split at h
          · split at h <;> exact ih _ _ _ _ _ _ h
          · exact ih _ _ _ _ _ _ h
        · split at h
          · split at h
            · simp only [Lf.mem, Option.some.injEq, Prod.mk.injEq] at h; rw [h.2]; exact Nat.le_refl _
            · exact ih _ _ _ _ _ _ h
          · exact ih _ _ _ _ _ _ h
        · exact ih _ _ _ _ _ _ h
        · simp [Lf.mem] at h

/-- What a leaf asks for. -/
def LfOk (P : Program) (env : Env) (root : Code) (R : Exit → Act → World → Prop) (L : Nat) (ρ : Rho) (M : Mem) (a : Act) (w : World) : Lf → Prop
  | .ret tm' M' => M'.next ≤ L ∧ ∀ x ρ' a' w', x = Exit.normal ∨ x = Exit.ret → TmOk ρ' env tm' a' → Post env L ρ M.get M.next w ρ' M'.get M'.next w' → a'.defers = a.defers → R x a' w'
  | .cut p tm' M' => M'.next ≤ L ∧ ∀ ρ' a' w', TmOk ρ' env tm' a' → Post env L ρ M.get M.next w ρ' M'.get M'.next w' → a'.defers = a.defers → CutWp P root R p a' w'
  | _ => False

theorem LfOk.next {L : Nat} {ρ : Rho} {M : Mem} {a : Act} {w : World} {lf : Lf} (h : LfOk P env root R L ρ M a w lf) : ∃ tm' M', lf.mem = some (tm', M') ∧ M'.next ≤ L := by
  cases lf with
  | ret tm M => exact ⟨_, _, rfl, h.1⟩
  | cut p tm M => exact ⟨_, _, rfl, h.1⟩
  | fork b => exact h.elim
  | no => exact h.elim

theorem LfOk.after {L : Nat} {ρ ρ1 : Rho} {M M1 : Mem} {a a1 : Act} {w w1 : World} {lf : Lf} (h : LfOk P env root R L ρ M a w lf) (hp : Post env L ρ M.get M.next w ρ1 M1.get M1.next w1) (hd : a1.defers = a.defers) : LfOk P env root R L ρ1 M1 a1 w1 lf := by
  cases lf with
  | ret tm M => exact ⟨h.1, fun x ρ' a' w' hx h1 h2 h3 => h.2 x ρ' a' w' hx h1 (hp.trans h2) (h3.trans hd)⟩
  | cut p tm M => exact ⟨h.1, fun ρ' a' w' h1 h2 h3 => h.2 ρ' a' w' h1 (hp.trans h2) (h3.trans hd)⟩
  | fork b => exact h.elim
  | no => exact h.elim

theorem runK_sound (hmix : P.follows .mixedOrders = true) (hkn : KnOk P env kn) (hA : AsOk env as) {L : Nat} : ∀ (f : Nat) (md : Md) (p : List Nat) (tm : Tm) (M : Mem) (ρ : Rho) (a : Act) (w : World), TmOk ρ env tm a → Holds ρ env M.get w → Free L ρ M.next →
    LfOk P env root R L ρ M a w (runK P kn as n cuts root f md p tm M) → MdWp P root R md p a w
  | 0, md, p, tm, M, ρ, a, w, ht, H, hd, h => by simp [runK, LfOk] at h
  | f + 1, md, p, tm, M, ρ, a, w, ht, H, hd, h => by
    have ih := runK_sound hmix hkn hA (L := L) f
    have hih : CallOk P env (ihOf (run P kn as n)) := callOk_of (run_sound hmix hkn hA n)
    have hrefl := Post.refl H hd
    simp only [runK] at h
    split at h
    · -- go
      split at h
      · rename_i hc; show (codeAt root p).wp P _ a w; rw [hc]; exact wp_skip (ih _ _ _ _ _ _ _ ht H hd h)
      · rename_i hc; show (codeAt root p).wp P _ a w; rw [hc]; exact wp_label (ih _ _ _ _ _ _ _ ht H hd h)
      · rename_i hc; show (codeAt root p).wp P _ a w; rw [hc]; exact wp_exit (ih _ _ _ _ _ _ _ ht H hd h)
      · rename_i hc; show (codeAt root p).wp P _ a w; rw [hc]; exact wp_ret (ih _ _ _ _ _ _ _ ht H hd h)
      · rename_i x y hc
        have := ih _ _ _ _ _ _ _ ht H hd h
        simp only [MdWp, codeAt, Kt, hc, child, stepQ] at this
        show (codeAt root p).wp P _ a w; rw [hc]; exact wp_seq this
      · rename_i x y z hc
        split at h
        · rename_i hx
          have := ih _ _ _ _ _ _ _ ht H hd h
          simp only [MdWp, codeAt, Kt, hc, child, stepQ] at this
          have hv := ht.ev _ _ hx
          simp only [Rep] at hv
          show (codeAt root p).wp P _ a w; rw [hc]; exact wp_cond_true hv this
        · rename_i hx
          have := ih _ _ _ _ _ _ _ ht H hd h
          simp only [MdWp, codeAt, Kt, hc, child, stepQ] at this
          have hv := ht.ev _ _ hx
          simp only [Rep] at hv
          show (codeAt root p).wp P _ a w; rw [hc]; exact wp_cond_false hv this
        · exact h.elim
        · exact h.elim
      · rename_i id b hc
        have := ih _ _ _ _ _ _ _ ht H hd h
        simp only [MdWp, codeAt, Kt, hc, child, stepQ] at this
        show (codeAt root p).wp P _ a w; rw [hc]; exact wp_block this
      · rename_i b hc
        show (codeAt root p).wp P _ a w
        rw [hc]
        refine wp_of_loopWp ?_
        split at h
        · have := h.2 ρ a w ht hrefl rfl
          simp only [CutWp, hc] at this
          exact this
        · have := ih _ _ _ _ _ _ _ ht H hd h
          simp only [MdWp, codeAt, Kt, hc, child, stepQ] at this
          exact loopWp_round this
      · rename_i id ops draw hc
        show (codeAt root p).wp P _ a w
        rw [hc]
        obtain ⟨tmF, MF, hm, hL⟩ := h.next
        split at h
        · split at h
          · rename_i tm' M' hr
            have hle := runSeq_le _ _ _ _ _ hr
            refine wp_region ?_
            have := runSeq_sound (L := L) (Q := Kt P root R p) hih (ops := ops) ops.toList 0 ρ w a tm tm' M M' rfl hr H hd (by simp only [hr] at hm; have := runK_le _ _ _ _ _ _ _ hm; omega) ht fun ρ' w' a' g1 g2 g3 =>
              ih _ _ _ _ ρ' a' w' g1 g2.holds (fun nm q1 q2 => g2.dom nm q1 q2) (h.after g2 g3)
            rw [List.range_eq_range']
            simpa using this
          · exact h.elim
          · exact h.elim
        · split at h
          · rename_i tm' M' hr
            refine runDraw_sound (L := L) hih hmix hr H hd (by simp only [hr] at hm; have := runK_le _ _ _ _ _ _ _ hm; omega) ht fun ρ' w' a' g1 g2 g3 =>
              ih _ _ _ _ ρ' a' w' g1 g2.holds (fun nm q1 q2 => g2.dom nm q1 q2) (h.after g2 g3)
          · exact h.elim
          · exact h.elim
      · exact h.elim
    · -- back
      rename_i e
      split at h
      · split at h
        · exact h.2 _ ρ a w (.inl rfl) ht hrefl rfl
        · exact h.2 _ ρ a w (.inr rfl) ht hrefl rfl
        · exact h.elim
      · rename_i i q
        show Kt P root R (i :: q) e.to a w
        simp only [Kt]
        split at h
        · rename_i x y hc
          simp only [hc, stepQ]
          split at h
          · have := ih _ _ _ _ _ _ _ ht H hd h
            simp only [MdWp, codeAt, Kt, hc, child, stepQ] at this
            exact this
          · rename_i hno
            have := ih _ _ _ _ _ _ _ ht H hd h
            simp only [MdWp] at this
            cases i with
            | zero =>
              cases e with
              | normal => exact absurd rfl (hno rfl)
              | exit id => exact this
              | ret => exact this
            | succ i => exact this
        · rename_i id b hc
          simp only [hc, stepQ]
          split at h
          · rename_i id'
            split at h
            · rename_i hb
              have hb := Nat.eq_of_beq_eq_true hb
              subst hb
              have := ih _ _ _ _ _ _ _ ht H hd h
              simp only [MdWp, SExit.to] at this
              simp only [SExit.to, Exit.inBlock, if_true]
              exact this
            · rename_i hb
              rw [nat_beq] at hb
              have hb : ¬ id' = id := by simpa using hb
              have := ih _ _ _ _ _ _ _ ht H hd h
              simp only [MdWp, SExit.to] at this
              simp only [SExit.to, Exit.inBlock, hb, if_false]
              exact this
          · rename_i hno
            have := ih _ _ _ _ _ _ _ ht H hd h
            simp only [MdWp] at this
            cases e with
            | normal => exact this
            | exit id' => exact absurd rfl (hno id')
            | ret => exact this
        · rename_i b hc
          simp only [hc, stepQ]
          split at h
          · split at h
            · have := h.2 ρ a w ht hrefl rfl
              simp only [CutWp, hc] at this
              exact this
            · have := ih _ _ _ _ _ _ _ ht H hd h
              simp only [MdWp, codeAt, Kt, hc, child, stepQ] at this
              exact loopWp_round this
          · rename_i hno
            have := ih _ _ _ _ _ _ _ ht H hd h
            simp only [MdWp] at this
            cases e with
            | normal => exact absurd rfl hno
            | exit id' => exact this
            | ret => exact this
        · rename_i x y z hc
          have := ih _ _ _ _ _ _ _ ht H hd h
          simp only [hc, stepQ]
          exact this
        · exact h.elim

end
end Go.Sym
