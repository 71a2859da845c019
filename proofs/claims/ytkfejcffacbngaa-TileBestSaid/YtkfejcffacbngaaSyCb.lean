/- A function of numbers, proved by its cuts. -/
import Derived.Test.YtkfejcffacbngaaSyCa
namespace Go.Sym
open Go Go.RowKit
set_option linter.unusedVariables false
set_option linter.unusedSectionVars false

/-- the atoms that arguments are -/
def argSV (i : Nat) : ArgK → SV
  | .int k => .sint k (.var i)
  | .bool => .sbool (.var i)
  | .str => .rstr (.rvar i)
  | .agg ks => .agg (aggR ks (.rvar i) 0 ks)
  | .sl ks => .rsl (.ro i ks) (.lit 0) (.rlen (.rvar i) ks.length) ks.length

def argSVs : Nat → List ArgK → List SV
  | _, [] => []
  | i, k :: ks => argSV i k :: argSVs (Nat.succ i) ks

def roOf (aks : List ArgK) (vs : List Value) (i : Nat) : Option Ro :=
  match aks[i]?, vs[i]? with
  | some (.sl ks), some (.slice (some ⟨b, o, none⟩) (_ + 1) _) => some ⟨b, o, ks⟩
  | _, _ => none

/-- the atoms' values -/
def argEnv (FN : Nat → List (List Int) → List Int) (aks : List ArgK) (vs : List Value) (ls : List (List Int)) : Env where
  val := fun i => (vs[i]?).getD undef
  row := fun i => (ls[i]?).getD []
  ro := roOf aks vs
  fn := FN

section
variable {P : Program} {FN : Nat → List (List Int) → List Int} {w : World}

theorem argsAre_get : ∀ {vs : List Value} {aks : List ArgK} {ls : List (List Int)}, ArgsAre w vs aks ls → vs.length = aks.length ∧ ls.length = aks.length ∧ ∀ (i : Nat) v k l, vs[i]? = some v → aks[i]? = some k → ls[i]? = some l → ArgIs w v k l
  | [], [], [], _ => ⟨rfl, rfl, fun i v k l h => by simp at h⟩
  | v :: vs, k :: aks, l :: ls, h => by
    simp only [ArgsAre] at h
    obtain ⟨h1, h2, h3⟩ := argsAre_get h.2
    refine ⟨by simp [h1], by simp [h2], fun i v' k' l' q1 q2 q3 => ?_⟩
    cases i with
    | zero =>
      simp only [List.getElem?_cons_zero, Option.some.injEq] at q1 q2 q3
      subst q1; subst q2; subst q3; exact h.1
    | succ i => simp only [List.getElem?_cons_succ] at q1 q2 q3; exact h3 i v' k' l' q1 q2 q3
  | [], [], _ :: _, h => by simp [ArgsAre] at h
  | [], _ :: _, _, h => by simp [ArgsAre] at h
  | _ :: _, [], _, h => by simp [ArgsAre] at h
  | _ :: _, _ :: _, [], h => by simp [ArgsAre] at h

theorem argSV_rep {vs : List Value} {aks : List ArgK} {ls : List (List Int)} (h : ArgsAre w vs aks ls) {i : Nat} {v : Value} {k : ArgK} {l : List Int} (h1 : vs[i]? = some v) (h2 : aks[i]? = some k) (h3 : ls[i]? = some l) (hi : ArgIs w v k l) :
    Rep (fun _ => none) (argEnv FN aks vs ls) (argSV i k) v := by
  have hv : (argEnv FN aks vs ls).val i = v := by simp [argEnv, h1]
  have hr : (argEnv FN aks vs ls).row i = l := by simp [argEnv, h3]
  cases k with
  | int k =>
    obtain ⟨n, rfl, rfl⟩ := hi
    simp only [argSV, Rep, IE.eval, hv, vInt]
  | bool =>
    obtain ⟨b, rfl, rfl⟩ := hi
    simp only [argSV, Rep, BE.eval, hv, vBool]
  | str =>
    obtain ⟨s, rfl, h4⟩ := hi
    simp only [argSV, Rep, IE.reval, hr]
    exact ⟨s, rfl, h4⟩
  | agg ks =>
    obtain ⟨cs, rfl, h4, h5⟩ := hi
    simp only [argSV, Rep]
    refine ⟨cs, rfl, ?_⟩
    rw [h4]
    exact aggR_spec (by simp only [IE.reval, hr]) h5 _ 0 rfl
  | sl ks =>
    obtain ⟨hks, a, n, c, rfl, h4, h5, h6⟩ := hi
    have hl0 : (IE.lit 0).eval (argEnv FN aks vs ls) = 0 := by simp only [IE.eval]
    have hn : (IE.rlen (.rvar i) ks.length).eval (argEnv FN aks vs ls) = (n : Int) := by
      simp only [IE.eval, IE.reval, hr, h5, Nat.mul_div_cancel _ hks]
    simp only [argSV, Rep]
    refine ⟨n, c, hn.symm, h4, by omega, ?_⟩
    by_cases hz : n = 0
    · right
      refine ⟨hz, ?_, a, by rw [hz]⟩
      simp only [plNil, hr, h5]; exact Nat.mul_mod_left _ _
    · left
      rcases h6 with ⟨b, o, rfl, h7, h8⟩ | h6
      · refine ⟨b, o, ?_, by simp [hl0], trivial⟩
        simp only [plAt, argEnv, roOf, h1, h2]
        obtain ⟨m, rfl⟩ : ∃ m, n = m + 1 := ⟨n - 1, by omega⟩
        rfl
      · exact absurd h6 hz

theorem argSVs_rep {vs : List Value} {aks : List ArgK} {ls : List (List Int)} (h : ArgsAre w vs aks ls) : ∀ (aks' : List ArgK) (i : Nat), aks.drop i = aks' → RepL (fun _ => none) (argEnv FN aks vs ls) (argSVs i aks') (vs.drop i)
  | [], i, hd => by
    obtain ⟨h1, h2, h3⟩ := argsAre_get h
    have : aks.length ≤ i := by have := congrArg List.length hd; simp at this; omega
    have : vs.drop i = [] := List.drop_eq_nil_of_le (by omega)
    simp only [argSVs, RepL, this]
  | k :: aks', i, hd => by
    obtain ⟨h1, h2, h3⟩ := argsAre_get h
    have hi : i < aks.length := by have := congrArg List.length hd; simp at this; omega
    have hk : aks[i]? = some k := by
      have : (aks.drop i)[0]? = some k := by rw [hd]; rfl
      rw [List.getElem?_drop] at this; simpa using this
    have hv := List.getElem?_eq_getElem (l := vs) (i := i) (by omega)
    have hl := List.getElem?_eq_getElem (l := ls) (i := i) (by omega)
    rw [List.drop_eq_getElem_cons (by omega : i < vs.length)]
    simp only [argSVs, RepL]
    exact ⟨_, _, rfl, argSV_rep h hv hk hl (h3 i _ _ _ hv hk hl), argSVs_rep h aks' (i + 1) (by rw [← List.drop_drop, hd]; rfl)⟩

theorem argEnv_ro {vs : List Value} {aks : List ArgK} {ls : List (List Int)} (h : ArgsAre w vs aks ls) : RoAll (argEnv FN aks vs ls) w ∧ ∀ i R, roOf aks vs i = some R → i < aks.length := by
  obtain ⟨h1, h2, h3⟩ := argsAre_get h
  have key : ∀ i R, roOf aks vs i = some R → i < aks.length ∧ R.blk < w.heap.size ∧ RoRow w R.blk R.base R.ks ((argEnv FN aks vs ls).row i) := by
    intro i R hR
    unfold roOf at hR
    split at hR <;> try (cases hR; done)
    rename_i ks b o n c hk hv
    cases hR
    have hi : i < aks.length := (List.getElem?_eq_some_iff.1 hk).1
    have hl := List.getElem?_eq_getElem (l := ls) (i := i) (by omega)
    have hr : (argEnv FN aks vs ls).row i = ls[i] := by simp [argEnv, hl]
    obtain ⟨hks, a, n', c', he, h4, h5, h6⟩ := h3 i _ _ _ hv hk hl
    cases he
    rcases h6 with ⟨b', o', he, h7, h8⟩ | h6
    · cases he
      rw [hr]
      exact ⟨hi, h7, h8, hks, by rw [h5]; exact Nat.mul_mod_left _ _⟩
    · omega
  exact ⟨fun i R hR => (key i R hR).2, fun i R hR => (key i R hR).1⟩

/-- A FUNCTION OF THESE ARGUMENTS BY ITS CUTS. -/
theorem floyd_args (hmix : P.follows .mixedOrders = true) {kn : Kn} {n f k : Nat} {cs : Cuts} {F : FuncId} {Res : Ending → World → Prop} (hkn : ∀ env : Env, env.fn = FN → KnOk P env kn) {aks : List ArgK} {base : Nat} (hbase : aks.length ≤ base) {vs : Array Value} {ls : List (List Int)} (hargs : ArgsAre w vs.toList aks ls)
    (Inv : Nat → Env → Prop) (μ : Nat → Env → Nat × Nat)
    (hcut : ∀ (i : Nat) p T, cs[i]? = some (p, T) → (∀ env : Env, env.fn = FN → Inv i env → AsOk env T.as) ∧
      ∃ outs, roundK P kn n f (resOf P F) (bodyOf P F) cs base (p, T) k = some outs ∧ ∀ env : Env, env.fn = FN → Inv i env → ∀ lf ∈ outs, AsOk env lf.1 → StepGood w Res Inv μ (some (μ i env)) env lf.2)
    (hinv : ∀ (i : Nat) env, Inv i env → i < cs.length)
    {asm : As} {outs : List Leaf} (hent : entryK P kn n f F cs base (argSVs 0 aks) k asm = some outs) (hA : AsOk (argEnv FN aks vs.toList ls) asm)
    (hout : ∀ lf ∈ outs, AsOk (argEnv FN aks vs.toList ls) lf.1 → StepGood w Res Inv μ none (argEnv FN aks vs.toList ls) lf.2) : Calls P F vs w Res := by
  obtain ⟨h1, h2⟩ := argEnv_ro (FN := FN) hargs
  refine floyd (w0 := w) (ro := roOf aks vs.toList) (FN := FN) hmix hkn (fun i R hR => Nat.lt_of_lt_of_le (h2 i R hR) hbase) Inv μ k (fun i p T hi => ?_) (fun i env hi => ?_) hent (argEnv FN aks vs.toList ls) rfl rfl hA ?_ h1 hout
  · obtain ⟨q1, outs', q2, q3⟩ := hcut i p T hi
    exact ⟨fun env _ hf hI => q1 env hf hI, outs', q2, fun env _ hf hI lf hlf hA => q3 env hf hI lf hlf hA⟩
  · have := hinv i env hi
    exact ⟨_, _, List.getElem?_eq_getElem this⟩
  · have := argSVs_rep (FN := FN) hargs aks 0 rfl
    simpa using this

/-! ### What is returned -/

/-- a slice that is returned: its row -/
def retSl (M : Mem) (e : TypeId) (ks : List IntKind) (s : SV) : Option IE :=
  match s with
  | .nilslice | .zslice | .eslice | .e0 => some .rnil
  | s => match viewRow M e ks s with
    | some (M0, nm, len) => match M0.get nm with
      | some B => match B.row, Nat.beq B.elem e with
        | some (r, cnt, ks'), true => match ksEq ks' ks with
          | true => some (subE r (.lit 0) len cnt ks.length)
          | false => none
        | _, _ => none
      | none => none
    | none => none

/-- the values that are returned are these numbers -/
def RetEq (env : Env) (FN : Nat → List (List Int) → List Int) (ls : List (List Int)) (M : Mem) : Nat → List ResK → List SV → Prop
  | _, [], l => l = []
  | _, _ :: _, [] => False
  | id, r :: rs, s :: l => (match r with
    | .int k => ∃ e, toIE s = some (k, e) ∧ e.eval env = (FN id ls).headD 0
    | .bool => match s with
      | .bool b => b = decide ((FN id ls).headD 0 ≠ 0)
      | .sbool b => b.eval env = decide ((FN id ls).headD 0 ≠ 0)
      | _ => False
    | .str => ∃ r, strRow s = some r ∧ r.reval env = FN id ls
    | .agg ks => match s with
      | .agg cs => ∃ r, rowLit ks 0 cs = some r ∧ cs.length = ks.length ∧ r.reval env = FN id ls
      | _ => False
    | .sl e ks => 0 < ks.length ∧ ∃ r, retSl M e ks s = some r ∧ r.reval env = FN id ls ∧ (match viewRow M e ks s with
      | some (M0, nm, len) => 0 ≤ len.eval env ∧ ∀ B r cnt ks', M0.get nm = some B → B.row = some (r, cnt, ks') → len.eval env ≤ cnt.eval env
      | none => True)) ∧ RetEq env FN ls M (id + 1) rs l

theorem retSl_good {env : Env} {ρ : Rho} {w' : World} {M : Mem} {e : TypeId} {ks : List IntKind} {s : SV} {r : IE} {v : Value} (hks : 0 < ks.length) (h : retSl M e ks s = some r) (hr : Rep ρ env s v) (H : Holds ρ env M.get w') (hs : Since w ρ M.get w')
    (hlen : match viewRow M e ks s with
      | some (M0, nm, len) => 0 ≤ len.eval env ∧ ∀ B r cnt ks', M0.get nm = some B → B.row = some (r, cnt, ks') → len.eval env ≤ cnt.eval env
      | none => True) : NewSl w w' v e ks (r.reval env) := by
  refine ⟨hks, ?_⟩
  unfold retSl at h
  split at h
  · cases h; simp only [Rep] at hr; exact .inl ⟨by simp only [IE.reval], _, _, hr⟩
  · cases h; simp only [Rep] at hr; obtain ⟨a, rfl⟩ := hr; exact .inl ⟨by simp only [IE.reval], _, _, rfl⟩
  · cases h; simp only [Rep] at hr; obtain ⟨a, c, rfl⟩ := hr; exact .inl ⟨by simp only [IE.reval], _, _, rfl⟩
  · cases h; simp only [Rep] at hr; obtain ⟨a, c, rfl⟩ := hr; exact .inl ⟨by simp only [IE.reval], _, _, rfl⟩
  · split at h <;> try (cases h; done)
    rename_i M0 nm len hv
    rw [hv] at hlen
    simp only at hlen
    split at h <;> try (cases h; done)
    rename_i B hB
    split at h <;> try (cases h; done)
    rename_i r0 cnt ks' hrow hel
    have hel := Nat.eq_of_beq_eq_true hel
    split at h <;> try (cases h; done)
    rename_i hkk
    have := ksEq_spec hkk; subst this
    cases h
    obtain ⟨v1, v2, v3, v4, v5⟩ := viewRow_spec H hks hv hr
    have hl0 : (IE.lit 0).eval env = 0 := by simp only [IE.eval]
    have hle := hlen.2 B r0 cnt ks' hB hrow
    simp only [Rep] at v4
    obtain ⟨l, c, g1, g2, g3, g4⟩ := v4
    obtain ⟨bb, n, hbb, hC⟩ := v1.blk nm B hB
    obtain ⟨⟨_, hok⟩, hat⟩ := hC.rows r0 cnt ks' hrow
    have hsub : (subE r0 (.lit 0) len cnt ks'.length).reval env = (r0.reval env).take (l * ks'.length) := by
      rw [subE_eval hok.2.2, hl0, subL]
      have : (len.eval env).toNat = l := by omega
      simp [this]
    have hlen2 : ((subE r0 (.lit 0) len cnt ks'.length).reval env).length = l * ks'.length := by
      rw [hsub, List.length_take, hok.2.2]
      exact Nat.min_eq_left (Nat.mul_le_mul_right _ (by omega))
    by_cases hz : l = 0
    · left
      refine ⟨List.eq_nil_of_length_eq_zero (by rw [hlen2, hz]; simp), ?_⟩
      rcases g4 with ⟨b, base, _, rfl, _⟩ | ⟨_, _, a, rfl⟩
      · exact ⟨_, c, by rw [hz]⟩
      · exact ⟨a, c, rfl⟩
    · right
      rcases g4 with ⟨b, base, ⟨n', p1, rfl⟩, rfl, b', p3⟩ | ⟨h0, _⟩
      · rw [hbb] at p1; cases p1
        rw [hbb, hl0] at p3
        simp only [Int.toNat_zero, Nat.zero_mul, Nat.zero_add, Option.some.injEq, Prod.mk.injEq] at p3
        obtain ⟨rfl, p3⟩ := p3
        obtain ⟨⟨cells, lo, hi, k1, k2, k3, k4⟩, _⟩ := hC
        refine ⟨fun h0 => hz ((Nat.mul_eq_zero.1 (by rw [← hlen2, h0]; rfl)).resolve_right (by omega)), bb, l, c, cells, lo, hi, by simp [hl0], hlen2, g2, ?_, by rw [← hel]; exact k1, by rw [k2]; exact k3, by rw [k2, p3], fun j x hx => ?_⟩
        · obtain ⟨C, hC'⟩ := v3 nm B hB
          exact hs.2 nm C bb n hC' hbb
        · rw [hsub, List.getElem?_take] at hx
          split at hx <;> try (cases hx; done)
          exact hat j x hx
      · exact absurd h0 hz

theorem retL_good {env : Env} {ρ : Rho} {w' : World} {M : Mem} {ls : List (List Int)} (H : Holds ρ env M.get w') (hs : Since w ρ M.get w') : ∀ {rks : List ResK} {id : Nat} {l : List SV} {vs : List Value}, RetEq env FN ls M id rks l → RepL ρ env l vs → ResL FN ls w w' id rks vs
  | [], id, l, vs, h, hr => by simp only [RetEq] at h; subst h; simp only [RepL] at hr; simp only [ResL]; exact hr
  | r :: rks, id, [], vs, h, hr => by simp only [RetEq] at h
  | r :: rks, id, s :: l, vs, h, hr => by
    simp only [RetEq] at h
    obtain ⟨h1, h2⟩ := h
    simp only [RepL] at hr
    obtain ⟨v, vs', rfl, h3, h4⟩ := hr
    have ih := retL_good H hs h2 h4
    cases r with
    | int k =>
      obtain ⟨e, he, hv⟩ := h1
      simp only [ResL, ResIs]
      exact ⟨v, vs', rfl, by rw [toIE_spec he h3, hv], ih⟩
    | bool =>
      simp only [ResL, ResIs]
      refine ⟨v, vs', rfl, ?_, ih⟩
      cases s <;> simp only at h1
      · simp only [Rep] at h3; rw [h3, h1]
      · simp only [Rep] at h3; rw [h3, h1]
    | str =>
      obtain ⟨r, hr, hv⟩ := h1
      obtain ⟨s', h5, h6⟩ := strRow_spec hr h3
      simp only [ResL, ResIs]
      exact ⟨v, vs', rfl, ⟨s', h5, by rw [h6, hv]⟩, ih⟩
    | agg ks =>
      simp only [ResL, ResIs]
      refine ⟨v, vs', rfl, ?_, ih⟩
      cases s <;> simp only at h1
      obtain ⟨r, hr, hl, hv⟩ := h1
      simp only [Rep] at h3
      obtain ⟨us, rfl, h5⟩ := h3
      obtain ⟨q1, q2⟩ := rowLit_spec hr h5
      refine ⟨us, rfl, List.ext_getElem? fun j => ?_, by rw [← hv, q1, hl]⟩
      rw [q2 j, vals_get, Nat.zero_add, hv]
    | sl e ks =>
      obtain ⟨hks, r, hr, hv, hlen⟩ := h1
      simp only [ResL]
      refine ⟨v, vs', rfl, ?_, ih⟩
      rw [← hv]
      exact retSl_good hks hr h3 H hs hlen

/-- THE RESULTS ARE RIGHT. -/
theorem ret_good {env : Env} {ls : List (List Int)} {id : Nat} {rks : List ResK} {s : SV} {M : Mem} (l : List SV) (hs : s = tup l) (h : RetEq env FN ls M id rks l) :
    RetGood env w (fun e w' => Below w.heap.size w w' ∧ ∃ v vs', e = .returned v ∧ TupIs v vs' ∧ ResL FN ls w w' id rks vs') s M := by
  intro ρ w' v hr H hsn
  subst hs
  have hl : ∃ vs, TupIs v vs ∧ RepL ρ env l vs := by
    unfold tup at hr
    split at hr
    · rename_i s
      exact ⟨[v], by simp only [TupIs], by simp only [RepL]; exact ⟨v, [], rfl, hr, rfl⟩⟩
    · rename_i hne
      simp only [Rep] at hr
      obtain ⟨us, rfl, h1⟩ := hr
      refine ⟨us.toList, ?_, h1⟩
      unfold TupIs
      split
      · rename_i u hu
        exfalso
        have h2 := h1.length
        rw [hu] at h2
        cases l with
        | nil => simp at h2
        | cons s l' =>
          cases l' with
          | nil => exact hne s rfl
          | cons _ _ => simp at h2
      · simp
  obtain ⟨vs, h1, h2⟩ := hl
  exact ⟨hsn.1, v, vs, rfl, h1, retL_good H hsn h h2⟩

/-- a law says true -/
theorem ret_true {env : Env} {M : Mem} {s : SV} (h : match s with
    | .bool b => b = true
    | .sbool b => b.eval env = true
    | _ => False) : RetGood env w (fun e w' => e = .returned (.bool true) ∧ Below w.heap.size w w') s M := by
  intro ρ w' v hr H hsn
  refine ⟨?_, hsn.1⟩
  cases s <;> simp only at h
  · simp only [Rep] at hr; rw [hr, h]
  · simp only [Rep] at hr; rw [hr, h]

theorem AsOk_nil {env : Env} : AsOk env [] ↔ True := ⟨fun _ => trivial, fun _ p hp => by cases hp⟩
theorem AsOk_cons {env : Env} {b : BE} {t : Bool} {as : As} : AsOk env ((b, t) :: as) ↔ b.eval env = t ∧ AsOk env as :=
  ⟨fun h => ⟨h (b, t) (List.mem_cons_self ..), fun p hp => h p (List.mem_cons_of_mem _ hp)⟩, fun ⟨h1, h2⟩ p hp => by cases hp with
    | head => exact h1
    | tail _ hm => exact h2 p hm⟩

theorem lk_nil {α : Type} (i : Nat) : lk ([] : List (Nat × α)) i = none := rfl
theorem lk_cons {α : Type} (j i : Nat) (x : α) (l : List (Nat × α)) : lk ((j, x) :: l) i = if j = i then some x else lk l i := by
  simp only [lk, nat_beq]
  by_cases h : j = i <;> simp [h]

theorem wrap_i64 {z : Int} (h : -9223372036854775808 ≤ z ∧ z ≤ 9223372036854775807) : IntKind.i64.wrap z = z := by
  simp [IntKind.wrap, IntKind.bits, IntKind.signed]; omega
theorem wrap_u64 {z : Int} (h : 0 ≤ z ∧ z ≤ 18446744073709551615) : IntKind.u64.wrap z = z := by
  simp [IntKind.wrap, IntKind.bits, IntKind.signed]; omega
theorem wrap_u8 {z : Int} (h : 0 ≤ z ∧ z ≤ 255) : IntKind.u8.wrap z = z := by
  simp [IntKind.wrap, IntKind.bits, IntKind.signed]; omega
theorem wrap_i32 {z : Int} (h : -2147483648 ≤ z ∧ z ≤ 2147483647) : IntKind.i32.wrap z = z := by
  simp [IntKind.wrap, IntKind.bits, IntKind.signed]; omega
theorem wrap_u32 {z : Int} (h : 0 ≤ z ∧ z ≤ 4294967295) : IntKind.u32.wrap z = z := by
  simp [IntKind.wrap, IntKind.bits, IntKind.signed]; omega

end
end Go.Sym
