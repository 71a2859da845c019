/- All ways from a cut to the next; a function's body by its cuts. -/
import Derived.Test.YtkfejcffacbngaaSyY
namespace Go.Sym
open Go Go.RowKit
set_option linter.unusedVariables false
set_option linter.unusedSectionVars false

/-! ### Which atoms a template's are (a guess: it is checked) -/

def hasK {α : Type} (l : List (Nat × α)) (i : Nat) : Bool := match lk l i with | some _ => true | none => false

def gE (base : Nat) : IE → IE → Sb → Sb
  | .var i, e, σ => match Nat.ble base i, hasK σ.iv i with
    | true, false => { σ with iv := (i, e) :: σ.iv }
    | _, _ => σ
  | .rvar i, e, σ => match Nat.ble base i, hasK σ.rv i with
    | true, false => { σ with rv := (i, e) :: σ.rv }
    | _, _ => σ
  | .plus a b, .plus a' b', σ => gE base b b' (gE base a a' σ)
  | .minus a b, .minus a' b', σ => gE base b b' (gE base a a' σ)
  | .bin _ _ a b, .bin _ _ a' b', σ => gE base b b' (gE base a a' σ)
  | .wrap _ a, .wrap _ a', σ => gE base a a' σ
  | .cat a b, .cat a' b', σ => gE base b b' (gE base a a' σ)
  | .rcons a b, .rcons a' b', σ => gE base b b' (gE base a a' σ)
  | .w8 a, .w8 a', σ => gE base a a' σ
  | .sub r a b _, .sub r' a' b' _, σ => gE base b b' (gE base a a' (gE base r r' σ))
  | _, _, σ => σ

def gB (base : Nat) : BE → BE → Sb → Sb
  | .var i, b, σ => match Nat.ble base i, hasK σ.bv i with
    | true, false => { σ with bv := (i, b) :: σ.bv }
    | _, _ => σ
  | _, _, σ => σ

def gN (a b : Nat) (σ : Sb) : Sb := match hasK σ.nm a with
  | true => σ
  | false => { σ with nm := (a, b) :: σ.nm }

def gP : Pl → Pl → Sb → Sb
  | .own a, .own b, σ => gN a b σ
  | _, _, σ => σ

mutual
def gS (base : Nat) : SV → SV → Sb → Sb
  | .ptr a _, .ptr c _, σ => gN a c σ
  | .slice a _ _ _, .slice c _ _ _, σ => gN a c σ
  | .oslice a _ _ _, .oslice c _ _ _, σ => gN a c σ
  | .agg a, .agg b, σ => gSL base a b σ
  | .tuple a, .tuple b, σ => gSL base a b σ
  | .iface _ a, .iface _ b, σ => gS base a b σ
  | .func _ a b, .func _ a' b', σ => gSL base b b' (gSL base a a' σ)
  | .sint _ e, .sint _ e', σ => gE base e e' σ
  | .sint _ e, .int _ n, σ => gE base e (.lit n) σ
  | .sbool b, .sbool b', σ => gB base b b' σ
  | .sbool b, .bool true, σ => gB base b (.not (.cmp .lss (.lit 0) (.lit 0))) σ
  | .sbool b, .bool false, σ => gB base b (.cmp .lss (.lit 0) (.lit 0)) σ
  | .rstr a, .rstr b, σ => gE base a b σ
  | .rstr a, .str s, σ => gE base a (.rcon (byteInts s.data.toList)) σ
  | .rsl p a b _, .rsl p' a' b' _, σ => gE base b b' (gE base a a' (gP p p' σ))
  | .rptr p a _ _, .rptr p' a' _ _, σ => gE base a a' (gP p p' σ)
  | _, _, σ => σ
def gSL (base : Nat) : List SV → List SV → Sb → Sb
  | a :: as, b :: bs, σ => gSL base as bs (gS base a b σ)
  | _, _, σ => σ
end

def gSt (base : Nat) (tm : Tm) : List (Nat × SV) → Sb → Sb
  | [], σ => σ
  | (t, p) :: l, σ => gSt base tm l (gS base p (tm.get t) σ)

def gCells (base : Nat) (BT B : Blk) : Nat → Nat → Sb → Sb
  | _, 0, σ => σ
  | i, n + 1, σ => gCells base BT B (Nat.succ i) n (match BT.at i, B.at i with
    | some p, some s => gS base p s σ
    | _, _ => σ)

def gBlk (base : Nat) (BT B : Blk) (σ : Sb) : Sb :=
  match BT.row, B.row with
  | some (rT, cT, _), some (r, c, _) => gE base cT c (gE base rT r σ)
  | _, _ => gCells base BT B 0 BT.size σ

def gMem (base : Nat) (M : Mem) : List (Nat × Blk) → Sb → Sb
  | [], σ => σ
  | (nT, BT) :: l, σ => gMem base M l (match lk σ.nm nT with
    | some nm => match M.get nm with
      | some B => gBlk base BT B σ
      | none => σ
    | none => σ)

def Tp.guess (T : Tp) (base : Nat) (tm : Tm) (M : Mem) : Sb := gMem base M T.mm (gSt base tm T.st ⟨[], [], [], []⟩)

/-! ### All ways -/

inductive Out where
  | ret (s : SV) (M : Mem)
  | cut (i : Nat) (σ : Sb)
  | bad

abbrev Leaf := As × Out
abbrev Cuts := List (List Nat × Tp)

def findT (base : Nat) (q : List Nat) (tm : Tm) (M : Mem) : Nat → Cuts → Option (Nat × Sb)
  | _, [] => none
  | i, (p, T) :: l => match natsEq p q with
    | true => match viewSt T.mm T.st tm M with
      | (tm', M') => match T.fits base (T.guess base tm' M') tm' M' with
        | true => some (i, T.guess base tm' M')
        | false => findT base q tm M (Nat.succ i) l
    | false => findT base q tm M (Nat.succ i) l

def pathsOf : Cuts → List (List Nat)
  | [] => []
  | (p, _) :: l => p :: pathsOf l

/-- a value that names no memory -/
def plainR : SV → Bool
  | .bool _ | .int _ _ | .str _ | .nilptr | .nilslice | .niliface | .nilfunc | .nilmap | .sint _ _ | .sbool _ | .rstr _ | .zslice | .eslice | .e0 => true
  | _ => false
def plainL : List SV → Bool
  | [] => true
  | .agg l :: r => (l.all plainR) && plainL r
  | s :: r => plainR s && plainL r

/-- memory that what is returned does not name is not asked for -/
def trimM (l : List SV) (M : Mem) : Mem := match plainL l with
  | true => mem0
  | false => M

theorem trimM_sub (l : List SV) (M : Mem) : ∀ nm B, (trimM l M).get nm = some B → M.get nm = some B := by
  intro nm B h
  unfold trimM at h
  split at h
  · simp [mem0, Mem.get, Tr.get] at h
  · exact h

def waysK (P : Program) (kn : Kn) (n f : Nat) (rs : List ResultVar) (root : Code) (cs : Cuts) (base : Nat) (md : Md) (p : List Nat) (sz : Nat) (tr : Tr SV) (M : Mem) : Nat → As → List Leaf
  | k, as => match runK P kn as n (pathsOf cs) root f md p ⟨sz, tr, as⟩ M with
    | .ret tm M' => match sresults P tm M' rs with
      | some l => [(as, .ret (tup l) (trimM l M'))]
      | none => [(as, .bad)]
    | .cut q tm M' => match findT base q tm M' 0 cs with
      | some (i, σ) => [(as, .cut i σ)]
      | none => [(as, .bad)]
    | .fork b => match k with
      | 0 => [(as, .bad)]
      | k + 1 => waysK P kn n f rs root cs base md p sz tr M k ((b, true) :: as) ++ waysK P kn n f rs root cs base md p sz tr M k ((b, false) :: as)
    | .no => [(as, .bad)]

section
variable {P : Program} {env : Env} {kn : Kn} {n f : Nat} {root : Code} {cs : Cuts} {base : Nat} {fn : Func} {w0 : World} {Res : Ending → World → Prop}

/-- Cut i is fine with these atoms. -/
def CutGood (P : Program) (fn : Func) (root : Code) (w0 : World) (Res : Ending → World → Prop) (p : List Nat) (T : Tp) (env : Env) : Prop :=
  ∀ (tm : Tm) (M : Mem), T.mk' = some (tm, M) → ∀ (ρ : Rho) (a : Act) (w : World), TmOk ρ env tm a → Holds ρ env M.get w → (∀ nm, M.next ≤ nm → ρ nm = none) → Since w0 ρ M.get w → a.defers = [] → CutWp P root (bodyPost P fn Res) p a w

/-- What is returned is right. -/
def RetGood (env : Env) (w0 : World) (Res : Ending → World → Prop) (s : SV) (M : Mem) : Prop :=
  ∀ (ρ : Rho) (w : World) (v : Value), Rep ρ env s v → Holds ρ env M.get w → Since w0 ρ M.get w → Res (.returned v) w

def OutGood (P : Program) (fn : Func) (root : Code) (cs : Cuts) (w0 : World) (Res : Ending → World → Prop) (env : Env) : Out → Prop
  | .ret s M => RetGood env w0 Res s M
  | .cut i σ => ∃ p T, cs[i]? = some (p, T) ∧ AsOk (upd env σ) T.as ∧ CutGood P fn root w0 Res p T (upd env σ)
  | .bad => False

theorem findT_spec {q : List Nat} {tm : Tm} {M : Mem} : ∀ {l : Cuts} {k i : Nat} {σ : Sb}, findT base q tm M k l = some (i, σ) → ∃ T tm' M', k ≤ i ∧ l[i - k]? = some (q, T) ∧ viewSt T.mm T.st tm M = (tm', M') ∧ T.fits base σ tm' M' = true
  | [], k, i, σ, h => by simp [findT] at h
  | (p, T) :: l, k, i, σ, h => by
    simp only [findT] at h
    have rest : findT base q tm M (Nat.succ k) l = some (i, σ) → ∃ T' tm' M', k ≤ i ∧ ((p, T) :: l)[i - k]? = some (q, T') ∧ viewSt T'.mm T'.st tm M = (tm', M') ∧ T'.fits base σ tm' M' = true := fun h => by
      obtain ⟨T', tm', M', h1, h2, h3⟩ := findT_spec h
      refine ⟨T', tm', M', by omega, ?_, h3⟩
      have e : i - k = (i - k.succ) + 1 := by omega
      rw [e, List.getElem?_cons_succ]; exact h2
    split at h
    · rename_i hp
      have := natsEq_spec hp
      subst this
      generalize hvw : viewSt T.mm T.st tm M = tv at h
      obtain ⟨tm', M'⟩ := tv
      simp only at h
      split at h
      · rename_i hf
        cases h
        exact ⟨T, tm', M', Nat.le_refl _, by simp, hvw, hf⟩
      · exact rest h
    · exact rest h

theorem ways_sound (hmix : P.follows .mixedOrders = true) (hkn : KnOk P env kn) (hro : RoBelow env base) (hT : ∀ (i : Nat) p T, cs[i]? = some (p, T) → ∃ tm M, T.mk' = some (tm, M)) {md : Md} {p : List Nat} {sz : Nat} {tr : Tr SV} {M : Mem} {ρ : Rho} {a : Act} {w : World} : ∀ (k : Nat) (as : As),
    (∀ lf ∈ waysK P kn n f fn.results.toList root cs base md p sz tr M k as, AsOk env lf.1 → OutGood P fn root cs w0 Res env lf.2) → AsOk env as → TmOk ρ env ⟨sz, tr, as⟩ a → Holds ρ env M.get w → (∀ nm, M.next ≤ nm → ρ nm = none) → Since w0 ρ M.get w → a.defers = [] →
    MdWp P root (bodyPost P fn Res) md p a w := by
  have hone : ∀ (k : Nat) (as : As), (∀ lf ∈ waysK P kn n f fn.results.toList root cs base md p sz tr M k as, AsOk env lf.1 → OutGood P fn root cs w0 Res env lf.2) → AsOk env as → TmOk ρ env ⟨sz, tr, as⟩ a → Holds ρ env M.get w → (∀ nm, M.next ≤ nm → ρ nm = none) → Since w0 ρ M.get w → a.defers = [] →
      (∀ b, runK P kn as n (pathsOf cs) root f md p ⟨sz, tr, as⟩ M ≠ .fork b) → MdWp P root (bodyPost P fn Res) md p a w := by
    intro k as h hA ht H hd hs hdef hnf
    have hA' : AsOk env as := hA
    unfold waysK at h
    generalize hr : runK P kn as n (pathsOf cs) root f md p ⟨sz, tr, as⟩ M = lf at h hnf
    cases lf with
    | fork b => exact absurd rfl (hnf b)
    | no => exact (h _ (List.mem_singleton.2 rfl) hA).elim
    | ret tm M' =>
      simp only at h
      split at h
      · rename_i l hl
        have h1 := h _ (List.mem_singleton.2 rfl) hA
        refine runK_sound (n := n) (cuts := pathsOf cs) (L := M'.next) hmix hkn hA f md p _ M ρ a w ht H (fun nm q1 _ => hd nm q1) ?_
        rw [hr]
        refine ⟨Nat.le_refl _, fun x ρ' a' w' hx g1 g2 g3 => ?_⟩
        obtain ⟨v, q1, q2⟩ := run_results (P := P) g1 g2.holds hl
        have hs2 := hs.post g2
        have := h1 ρ' w' v q2 (g2.holds.less (trimM_sub l M')) ⟨hs2.1, fun nm B b m q1 q2 => hs2.2 nm B b m (trimM_sub l M' nm B q1) q2⟩
        rcases hx with rfl | rfl
        · exact ⟨g3.trans hdef, v, q1, this⟩
        · exact ⟨g3.trans hdef, v, q1, this⟩
      · exact (h _ (List.mem_singleton.2 rfl) hA).elim
    | cut q tm M' =>
      simp only at h
      split at h
      · rename_i i σ hfd
        obtain ⟨p', T', g1, g2, g3⟩ := h _ (List.mem_singleton.2 rfl) hA
        obtain ⟨T, tmV, MV, k1, k2, kv, k3⟩ := findT_spec hfd
        rw [Nat.sub_zero, g1] at k2
        cases k2
        refine runK_sound (n := n) (cuts := pathsOf cs) (L := M'.next) hmix hkn hA f md p _ M ρ a w ht H (fun nm q1 _ => hd nm q1) ?_
        rw [hr]
        refine ⟨Nat.le_refl _, fun ρ' a' w' y1 y2 y3 => ?_⟩
        obtain ⟨tmT, MT, hmk⟩ := hT i _ _ g1
        obtain ⟨u1, u2, u3⟩ := viewSt_spec (w0 := w0) _ _ _ _ _ kv y1 y2.holds (hs.post y2)
        obtain ⟨z1, z2⟩ := T'.fits_spec k3 hmk hro g2 u1 u2
        exact g3 tmT MT hmk _ a' w' z1 z2 (T'.fits_free k3 hmk) (u3.fits k3 hmk) (y3.trans hdef)
      · exact (h _ (List.mem_singleton.2 rfl) hA).elim
  intro k
  induction k with
  | zero =>
    intro as h hA ht H hd hs hdef
    by_cases hf : ∃ b, runK P kn as n (pathsOf cs) root f md p ⟨sz, tr, as⟩ M = .fork b
    · obtain ⟨b, hb⟩ := hf
      unfold waysK at h
      rw [hb] at h
      exact (h _ (List.mem_singleton.2 rfl) hA).elim
    · exact hone _ as h hA ht H hd hs hdef fun b hb => hf ⟨b, hb⟩
  | succ k ihk =>
    intro as h hA ht H hd hs hdef
    by_cases hf : ∃ b, runK P kn as n (pathsOf cs) root f md p ⟨sz, tr, as⟩ M = .fork b
    · obtain ⟨b, hb⟩ := hf
      unfold waysK at h
      rw [hb] at h
      simp only [List.mem_append] at h
      have hA1 : ∀ t, b.eval env = t → AsOk env ((b, t) :: as) := fun t ht q hq => by
        cases hq with
        | head => exact ht
        | tail _ hm => exact hA q hm
      cases hv : b.eval env with
      | true => exact ihk _ (fun lf hlf => h lf (.inl hlf)) (hA1 _ hv) ⟨hA1 _ hv, ht.size, ht.get⟩ H hd hs hdef
      | false => exact ihk _ (fun lf hlf => h lf (.inr hlf)) (hA1 _ hv) ⟨hA1 _ hv, ht.size, ht.get⟩ H hd hs hdef
    · exact hone _ as h hA ht H hd hs hdef fun b hb => hf ⟨b, hb⟩

/-- all ways round a cut -/
def roundK (P : Program) (kn : Kn) (n f : Nat) (rs : List ResultVar) (root : Code) (cs : Cuts) (base : Nat) (c : List Nat × Tp) (k : Nat) : Option (List Leaf) :=
  match c.2.mk', codeAt root c.1 with
  | some (tm, M), .loop _ => some (waysK P kn n f rs root cs base .go (0 :: c.1) tm.sz tm.tr M k tm.as)
  | _, _ => none

def bodyOf (P : Program) (F : FuncId) : Code := match P.funcs[F]? with
  | some fn => match fn.body with
    | some c => c
    | none => .skip
  | none => .skip

def resOf (P : Program) (F : FuncId) : List ResultVar := match P.funcs[F]? with
  | some fn => fn.results.toList
  | none => []

/-- all ways from a function's beginning -/
def entryK (P : Program) (kn : Kn) (n f : Nat) (F : FuncId) (cs : Cuts) (base : Nat) (args : List SV) (k : Nat) (as : As) : Option (List Leaf) :=
  match P.funcs[F]? with
  | some fn => match fn.body, slot0 args 0 .nil with
    | some c, some t => some (waysK P kn n f fn.results.toList c cs base .go [] (Nat.max args.length fn.ntmps) t mem0 k as)
    | _, _ => none
  | none => none

/-- What leads on from cut i: less is left, or what is returned is right. -/
def StepGood (w0 : World) (Res : Ending → World → Prop) (Inv : Nat → Env → Prop) (μ : Nat → Env → Nat × Nat) (bound : Option (Nat × Nat)) (env : Env) : Out → Prop
  | .ret s M => RetGood env w0 Res s M
  | .cut j σ => Inv j (upd env σ) ∧ ∀ m, bound = some m → Prod.Lex (· < ·) (· < ·) (μ j (upd env σ)) m
  | .bad => False

theorem upd_ro (σ : Sb) : (upd env σ).ro = env.ro := rfl
theorem upd_fn (σ : Sb) : (upd env σ).fn = env.fn := rfl

/-- A FUNCTION BY ITS CUTS. -/
theorem floyd (hmix : P.follows .mixedOrders = true) {F : FuncId} {ro : Nat → Option Ro} {FN : Nat → List (List Int) → List Int} (hkn : ∀ env : Env, env.fn = FN → KnOk P env kn) (hro : ∀ i R, ro i = some R → i < base)
    (Inv : Nat → Env → Prop) (μ : Nat → Env → Nat × Nat) (k : Nat)
    (hcut : ∀ (i : Nat) p T, cs[i]? = some (p, T) → (∀ env : Env, env.ro = ro → env.fn = FN → Inv i env → AsOk env T.as) ∧
      ∃ outs, roundK P kn n f (resOf P F) (bodyOf P F) cs base (p, T) k = some outs ∧ ∀ env : Env, env.ro = ro → env.fn = FN → Inv i env → ∀ lf ∈ outs, AsOk env lf.1 → StepGood w0 Res Inv μ (some (μ i env)) env lf.2)
    (hinv : ∀ (i : Nat) env, Inv i env → ∃ p T, cs[i]? = some (p, T))
    {args : List SV} {as : As} {outs : List Leaf} (hent : entryK P kn n f F cs base args k as = some outs) {vs : Array Value} (env0 : Env) (h0r : env0.ro = ro) (h0f : env0.fn = FN) (hA : AsOk env0 as) (hv : RepL (fun _ => none) env0 args vs.toList) (hall : RoAll env0 w0)
    (hout : ∀ lf ∈ outs, AsOk env0 lf.1 → StepGood w0 Res Inv μ none env0 lf.2) : Calls P F vs w0 Res := by
  unfold entryK at hent
  split at hent <;> try (cases hent; done)
  rename_i fn hf
  split at hent <;> try (cases hent; done)
  rename_i c tr hb htr
  cases hent
  have hbody : bodyOf P F = c := by simp only [bodyOf, hf, hb]
  have hres : resOf P F = fn.results.toList := by simp only [resOf, hf]
  rw [hbody, hres] at hcut
  have hTmk : ∀ (i : Nat) p T, cs[i]? = some (p, T) → ∃ tm M, T.mk' = some (tm, M) := by
    intro i p T hi
    obtain ⟨_, outs', h1, _⟩ := hcut i p T hi
    unfold roundK at h1
    split at h1 <;> try (cases h1; done)
    rename_i tm M c' h2 h3
    exact ⟨tm, M, h2⟩
  -- all cuts are fine
  have hgood : ∀ (m : Nat × Nat) (i : Nat) (env : Env), μ i env = m → env.ro = ro → env.fn = FN → Inv i env → ∃ p T, cs[i]? = some (p, T) ∧ AsOk env T.as ∧ CutGood P fn c w0 Res p T env := by
    intro m
    have hwf : WellFounded (Prod.Lex (· < · : Nat → Nat → Prop) (· < · : Nat → Nat → Prop)) := (Prod.lex (Nat.lt_wfRel) (Nat.lt_wfRel)).wf
    induction m using hwf.induction with
    | _ m ih =>
    intro i env hm hr hfn hi
    obtain ⟨p, T, hpt⟩ := hinv i env hi
    obtain ⟨h1, outs', h2, h3⟩ := hcut i p T hpt
    refine ⟨p, T, hpt, h1 env hr hfn hi, fun tm M hmk ρ a w ht H hd hs hdef => ?_⟩
    unfold roundK at h2
    split at h2 <;> try (cases h2; done)
    rename_i tm' M' c' h4 h5
    simp only at h4 h5
    rw [hmk] at h4
    cases h4
    cases h2
    simp only [CutWp, h5]
    refine loopWp_round ?_
    have hro' : RoBelow env base := fun j R hj => hro j R (by rw [← hr]; exact hj)
    have := ways_sound (n := n) (f := f) (root := c) (md := .go) (p := 0 :: p) (fn := fn) (w0 := w0) (Res := Res) (ρ := ρ) (a := a) (w := w) hmix (hkn env hfn) hro' hTmk k tm.as (fun lf hlf hlA => ?_) ht.as ht H hd hs hdef
    · simp only [MdWp, codeAt, Kt, h5, child, stepQ] at this
      exact this
    · have h6 := h3 env hr hfn hi lf hlf hlA
      generalize lf.2 = o at h6
      cases o with
      | ret s M => exact h6
      | bad => exact h6
      | cut j σ =>
        obtain ⟨q1, q2⟩ := h6
        obtain ⟨p', T', z1, z2, z3⟩ := ih (μ j (upd env σ)) (by rw [← hm]; exact q2 _ rfl) j (upd env σ) rfl hr hfn q1
        exact ⟨p', T', z1, z2, z3⟩
  refine calls_of_wp hf hb ?_
  have hlen := hv.length
  have hlen : vs.size = args.length := by simpa using hlen
  have hTm : TmOk (fun _ => none) env0 ⟨Nat.max args.length fn.ntmps, tr, as⟩ { tmps := vs ++ Array.replicate (fn.ntmps - vs.size) undef, defers := [] } := by
    refine ⟨hA, ?_, fun t => ?_⟩
    · show (vs ++ Array.replicate (fn.ntmps - vs.size) undef).size = Nat.max args.length fn.ntmps
      have : Nat.max args.length fn.ntmps = max args.length fn.ntmps := rfl
      rw [this]
      simp only [Array.size_append, Array.size_replicate, hlen]; omega
    · show Rep _ env0 (match tr.get t with | some s => s | none => .tuple []) ((vs ++ Array.replicate (fn.ntmps - vs.size) undef).getD t undef)
      rw [slot0_spec 0 _ _ htr t]
      by_cases ht : t < args.length
      · have : 0 ≤ t ∧ t < 0 + args.length := ⟨by omega, by omega⟩
        rw [if_pos this]
        have hs' : args[t - 0]? = some args[t] := by simp [ht]
        rw [hs']
        obtain ⟨v, g1, g2⟩ := hv.get t args[t] (by simp [ht])
        have g1' : vs[t]? = some v := by simpa using g1
        have : (vs ++ Array.replicate (fn.ntmps - vs.size) undef)[t]? = some v := by
          rw [Array.getElem?_append_left (by omega)]; exact g1'
        simp only [Array.getD_eq_getD_getElem?, this, Option.getD_some]
        exact g2
      · have : ¬ (0 ≤ t ∧ t < 0 + args.length) := by omega
        rw [if_neg this, Tr.get_nil]
        have : (vs ++ Array.replicate (fn.ntmps - vs.size) undef).getD t undef = undef := by
          simp only [Array.getD_eq_getD_getElem?]
          rw [Array.getElem?_append_right (by omega)]
          by_cases h : t - vs.size < fn.ntmps - vs.size
          · simp [h]
          · simp [h]
        rw [this]
        exact rep_undef
  have hro' : RoBelow env0 base := fun j R hj => hro j R (by rw [← h0r]; exact hj)
  have := ways_sound (n := n) (f := f) (root := c) (md := .go) (p := []) (fn := fn) (w0 := w0) (Res := Res) (w := w0) hmix (hkn env0 h0f) hro' hTmk k as (fun lf hlf hlA => ?_) hA hTm (holds0 hall) (fun _ _ => rfl) ⟨Below.refl _ _, fun nm B b n h => by simp [mem0, Mem.get, Tr.get] at h⟩ rfl
  · exact this
  · have h6 := hout lf hlf hlA
    generalize lf.2 = o at h6
    cases o with
    | ret s M => exact h6
    | bad => exact h6
    | cut j σ =>
      obtain ⟨q1, _⟩ := h6
      obtain ⟨p', T', z1, z2, z3⟩ := hgood _ j (upd env0 σ) rfl h0r h0f q1
      exact ⟨p', T', z1, z2, z3⟩

end
end Go.Sym
