/- The still operations in one function; operations that make a block. -/
import Derived.Test.YtkfejcffacbngaaSyF
namespace Go.Sym
open Go Go.RowKit
set_option linter.unusedVariables false

abbrev Ev := Operand → Option SV

def evL (ev : Ev) : List Operand → Option (List SV)
  | [] => some []
  | x :: xs => match ev x, evL ev xs with
    | some s, some l => some (s :: l)
    | _, _ => none

def evP (ev : Ev) : List (Nat × Operand) → Option (List (Nat × SV))
  | [] => some []
  | (i, x) :: xs => match ev x, evP ev xs with
    | some s, some l => some ((i, s) :: l)
    | _, _ => none

def evO (ev : Ev) : Option Operand → Option (Option SV)
  | none => some none
  | some x => match ev x with
    | some s => some (some s)
    | none => none

def foldMin (mx : Bool) : SV → List SV → Option SV
  | x, [] => some x
  | x, y :: ys => match smin2 mx x y with
    | some z => foldMin mx z ys
    | none => none

def scheck (s : SV) : Option SV :=
  match s with
  | .ptr _ _ => some s
  | .gptr _ _ => some s
  | .func (.func _) _ _ => some s
  | .iface _ _ => some s
  | _ => none

/-- a method's value too: is what it is bound to known to be no nil pointer? -/
def scheckM (P : Program) (s : SV) : Option SV :=
  match s with
  | .func (.method name) (.iface t r :: _) _ => match P.info? t with
    | some i => match i.methods.find? (·.name == name) with
      | some m => match m.path.isEmpty, m.func with
        | true, some (_, true) => some s
        | true, some (_, false) => match P.underlying t with
          | some (.pointer _) => match r with
            | .ptr _ _ => some s
            | _ => none
          | some _ => some s
          | none => none
        | _, _ => none
      | none => none
    | none => none
  | _ => scheck s

def sbuiltin (P : Program) (b : Builtin) (ts : Array TypeId) (l : List SV) : Option SV :=
  match b, l with
  | .len, [x] => match ts[0]? with
    | some t => slen P t x
    | none => none
  | .cap, [x] => match ts[0]? with
    | some t => scap P t x
    | none => none
  | .min, x :: xs => foldMin false x xs
  | .max, x :: xs => foldMin true x xs
  | _, _ => none

/-- An operation that leaves memory as it is: its value. -/
def sread (P : Program) (M : Mem) (ev : Ev) (o : Oper) : Option SV :=
  match o.op with
  | .move x => ev x
  | .assign x => ev x
  | .pick c a b => match ev c with
    | some (.bool true) => ev a
    | some (.bool false) => ev b
    | _ => none
  | .build t ps => match evP ev ps.toList with
    | some l => sbuild P t l
    | none => none
  | .load t a => match ev a with
    | some s => sload P M t s
    | none => none
  | .nilCheck x => match ev x with
    | some s => scheckM P s
    | none => none
  | .binOp op t x y _ => match ev x, ev y with
    | some a, some b => sbinop P op t x y a b
    | _, _ => none
  | .unOp op _ x => match ev x with
    | some s => sun op s
    | none => none
  | .convert src dst x => match ev x with
    | some s => sconvert P M src dst s
    | none => none
  | .makeInterface t x => match P.concrete t, ev x with
    | true, some s => some (.iface t s)
    | _, _ => none
  | .makeFunc fn f c => match evL ev f.toList, evL ev c.toList with
    | some a, some b => some (.func fn a b)
    | _, _ => none
  | .slice t x lo hi mx => match ev x, evO ev lo, evO ev hi, evO ev mx with
    | some s, some a, some b, some c => sslice P t s a b c
    | _, _, _, _ => none
  | .fieldAddr t x f => match ev x with
    | some s => sfieldAddr P t s f
    | none => none
  | .field t x f => match ev x with
    | some s => sfield P t s f
    | none => none
  | .indexAddr t x i => match ev x, ev i with
    | some a, some b => sindexAddr P t a b
    | _, _ => none
  | .index t x i => match ev x, ev i with
    | some a, some b => sindex P t a b
    | _, _ => none
  | .typeAssert x _ ty ok => match ev x with
    | some s => sassert P s ty ok
    | none => none
  | .extract x i => match ev x with
    | some s => sextract s i
    | none => none
  | .call c => match c.callee with
    | .builtin b => match evL ev c.args.toList with
      | some l => sbuiltin P b c.argTypes l
      | none => none
    | _ => none
  | _ => none

section
variable {ρ : Rho} {env : Env} {w : World} {P : Program} {ev : Ev} {av : Operand → Value}

def EvOk (ρ : Rho) (env : Env) (ev : Ev) (av : Operand → Value) : Prop := ∀ x s, ev x = some s → Rep ρ env s (av x)

theorem evL_spec (hev : EvOk ρ env ev av) : ∀ {xs : List Operand} {l : List SV}, evL ev xs = some l → RepL ρ env l (xs.map av)
  | [], l, h => by simp only [evL, Option.some.injEq] at h; subst h; simp [RepL]
  | x :: xs, l, h => by
    simp only [evL] at h
    split at h
    · rename_i s l' h1 h2
      cases h
      simp only [List.map_cons, RepL]
      exact ⟨_, _, rfl, hev _ _ h1, evL_spec hev h2⟩
    · cases h

theorem evP_spec (hev : EvOk ρ env ev av) : ∀ {xs : List (Nat × Operand)} {l : List (Nat × SV)}, evP ev xs = some l → RepP ρ env l (xs.map fun (i, x) => (i, av x))
  | [], l, h => by simp only [evP, Option.some.injEq] at h; subst h; simp [RepP]
  | (i, x) :: xs, l, h => by
    simp only [evP] at h
    split at h
    · rename_i s l' h1 h2
      cases h
      simp only [List.map_cons, RepP]
      exact ⟨_, _, rfl, hev _ _ h1, evP_spec hev h2⟩
    · cases h

theorem evO_spec (hev : EvOk ρ env ev av) {x : Option Operand} {s : Option SV} (h : evO ev x = some s) : RepO ρ env s (x.map av) := by
  cases x with
  | none => simp only [evO, Option.some.injEq] at h; subst h; trivial
  | some x =>
    simp only [evO] at h
    split at h
    · rename_i s' h1; cases h; exact hev _ _ h1
    · cases h

theorem run_foldMin : ∀ (ys : List SV) (x s : SV) (u : Value) (vs : List Value), foldMin false x ys = some s → Rep ρ env x u → RepL ρ env ys vs →
    ∃ v, (vs.foldlM Builtin.min2 u).run P w = .ok v w ∧ Rep ρ env s v
  | [], x, s, u, vs, h, hx, hy => by
    simp only [foldMin, Option.some.injEq] at h; subst h
    simp only [RepL] at hy; subst hy
    exact ⟨u, by simp, hx⟩
  | y :: ys, x, s, u, vs, h, hx, hy => by
    simp only [RepL] at hy
    obtain ⟨v, vs', rfl, h2, h3⟩ := hy
    simp only [foldMin] at h
    split at h
    · rename_i z hz
      obtain ⟨r, h4, h5⟩ := run_smin2 (w := w) (P := P) hz hx h2
      obtain ⟨q, h6, h7⟩ := run_foldMin ys z s r vs' h h5 h3
      exact ⟨q, by simp [List.foldlM_cons, h4, h6], h7⟩
    · cases h

theorem run_foldMax : ∀ (ys : List SV) (x s : SV) (u : Value) (vs : List Value), foldMin true x ys = some s → Rep ρ env x u → RepL ρ env ys vs →
    ∃ v, (vs.foldlM Builtin.max2 u).run P w = .ok v w ∧ Rep ρ env s v
  | [], x, s, u, vs, h, hx, hy => by
    simp only [foldMin, Option.some.injEq] at h; subst h
    simp only [RepL] at hy; subst hy
    exact ⟨u, by simp, hx⟩
  | y :: ys, x, s, u, vs, h, hx, hy => by
    simp only [RepL] at hy
    obtain ⟨v, vs', rfl, h2, h3⟩ := hy
    simp only [foldMin] at h
    split at h
    · rename_i z hz
      obtain ⟨r, h4, h5⟩ := run_smax2 (w := w) (P := P) hz hx h2
      obtain ⟨q, h6, h7⟩ := run_foldMax ys z s r vs' h h5 h3
      exact ⟨q, by simp [List.foldlM_cons, h4, h6], h7⟩
    · cases h

theorem run_sbuiltin {b : Builtin} {ts : Array TypeId} {ty : TypeId} {cs : Array Bool} {l : List SV} {s : SV} {vs : Array Value} (h : sbuiltin P b ts l = some s) (hl : RepL ρ env l vs.toList) :
    ∃ v, (builtin b ts ty cs vs).run P w = .ok (.value v) w ∧ Rep ρ env s v := by
  unfold sbuiltin at h
  split at h
  · rename_i x
    split at h
    · rename_i t ht
      simp only [RepL] at hl
      obtain ⟨u, us, h1, h2, rfl⟩ := hl
      have : vs = #[u] := by apply Array.ext'; simpa using h1
      subst this
      obtain ⟨v, h3, h4⟩ := run_slen (w := w) (ty := ty) ht h h2
      exact ⟨v, by simp [builtin, h3], h4⟩
    · cases h
  · rename_i x
    split at h
    · rename_i t ht
      simp only [RepL] at hl
      obtain ⟨u, us, h1, h2, rfl⟩ := hl
      have : vs = #[u] := by apply Array.ext'; simpa using h1
      subst this
      obtain ⟨v, h3, h4⟩ := run_scap (w := w) (ty := ty) ht h h2
      exact ⟨v, by simp [builtin, h3], h4⟩
    · cases h
  · rename_i x xs
    simp only [RepL] at hl
    obtain ⟨u, us, h1, h2, h3⟩ := hl
    obtain ⟨v, h4, h5⟩ := run_foldMin (w := w) (P := P) xs x s u us h h2 h3
    exact ⟨v, by simp [builtin, Builtin.min_, h1, h4], h5⟩
  · rename_i x xs
    simp only [RepL] at hl
    obtain ⟨u, us, h1, h2, h3⟩ := hl
    obtain ⟨v, h4, h5⟩ := run_foldMax (w := w) (P := P) xs x s u us h h2 h3
    exact ⟨v, by simp [builtin, Builtin.max_, h1, h4], h5⟩
  · cases h

theorem run_sread {M : Mem} {o : Oper} {s : SV} (H : Holds ρ env M.get w) (hev : EvOk ρ env ev av) (h : sread P M ev o = some s) :
    ∃ v, (execOp av o).run P w = .ok (.value v) w ∧ Rep ρ env s v := by
  unfold sread at h
  split at h
  · rename_i x ho
    exact ⟨av x, by simp [execOp, ho], hev _ _ h⟩
  · rename_i x ho
    exact ⟨av x, by simp [execOp, ho], hev _ _ h⟩
  · rename_i c a b ho
    split at h
    · rename_i hc
      have := hev _ _ hc
      simp only [Rep] at this
      exact ⟨av a, by simp [execOp, ho, this, asBool], hev _ _ h⟩
    · rename_i hc
      have := hev _ _ hc
      simp only [Rep] at this
      exact ⟨av b, by simp [execOp, ho, this, asBool], hev _ _ h⟩
    · cases h
  · rename_i t ps ho
    split at h
    · rename_i l hl
      obtain ⟨v, h1, h2⟩ := run_sbuild (w := w) (vs := ps.map fun (i, x) => (i, av x)) h (by simpa using evP_spec hev hl)
      exact ⟨v, by simp [execOp, ho, h1], h2⟩
    · cases h
  · rename_i t a ho
    split at h
    · rename_i x hx
      obtain ⟨v, h1, h2⟩ := run_sload (P := P) H h (hev _ _ hx)
      exact ⟨v, by simp [execOp, ho, h1], h2⟩
    · cases h
  · rename_i x ho
    split at h
    · rename_i s' hx
      have hr := hev _ _ hx
      unfold scheckM at h
      split at h
      · rename_i name t r fs c
        have hr0 := hr
        simp only [Rep, RepL] at hr
        obtain ⟨fa, ca, hav, ⟨v, vs', hfa, ⟨u, rfl, hu⟩, hrest⟩, hcap⟩ := hr
        have hfirst : (fa[0]? : Option Value) = some (.iface t u) := by
          have := congrArg (·[0]?) hfa
          simpa using this
        split at h
        · rename_i i hi
          split at h
          · rename_i m hm
            have hpos : 0 < Made.depth := by decide
            obtain ⟨n, hn⟩ : ∃ n, P.types.size + Made.depth = n + 1 := ⟨P.types.size + Made.depth - 1, by omega⟩
            have fin : (nilAhead (P.types.size + Made.depth) t u name).run P w = .ok (some false) w → ∃ v, (execOp av o).run P w = .ok (.value v) w ∧ Rep ρ env (.func (.method name) (.iface t r :: fs) c) v := by
              intro hna
              refine ⟨.func (.method name) fa ca, ?_, ?_⟩
              · simp only [execOp, ho, hav, hfirst, Sem.run_bind, run_program, Result.andThen_ok, hna, bne_self_eq_false]
                simp
              · rw [← hav]; exact hr0
            have hal : ∀ q, m.path.isEmpty = true → m.func = some q → (∀ x, q = (x, false) → ∃ d, P.underlying t = some d ∧ (∀ e, d = .pointer e → ∃ a, u = .pointer (some a))) → (nilAhead (P.types.size + Made.depth) t u name).run P w = .ok (some false) w := by
              intro q k1 k2 k3
              have hp : m.path.toList = [] := by simpa using k1
              rw [hn]
              simp only [nilAhead, Sem.run_bind, typeInfo, run_program, Result.andThen_ok, hi, Sem.run_pure, hm, hp, followBlind, k2]
              obtain ⟨x, b⟩ := q
              cases b with
              | true => simp
              | false =>
                obtain ⟨d, hd, hptr⟩ := k3 x rfl
                simp only [Sem.run_bind, run_underlying hd, Result.andThen_ok]
                cases d <;> try (simp; done)
                obtain ⟨a, rfl⟩ := hptr _ rfl
                simp
            split at h
            · rename_i f' k1 k2
              cases h
              exact fin (hal _ k1 k2 (fun x hx => by cases hx))
            · rename_i f' k1 k2
              split at h
              · rename_i e hun
                split at h
                · cases h
                  simp only [Rep] at hu
                  obtain ⟨b, n', _, rfl⟩ := hu
                  exact fin (hal _ k1 k2 (fun x _ => ⟨_, hun, fun e' _ => ⟨_, rfl⟩⟩))
                · cases h
              · rename_i d hne hun
                cases h
                exact fin (hal _ k1 k2 (fun x _ => ⟨_, hun, fun e' he => absurd he (by rintro rfl; exact hne _ rfl)⟩))
              · cases h
            · cases h
          · cases h
        · cases h
      unfold scheck at h
      split at h
      · cases h
        have hr0 := hr
        simp only [Rep] at hr
        obtain ⟨b, n, _, hr⟩ := hr
        exact ⟨_, by simp [execOp, ho, hr]; rfl, by rw [← hr]; exact hr0⟩
      · cases h
        have hr0 := hr
        simp only [Rep] at hr
        exact ⟨_, by simp [execOp, ho, hr]; rfl, by rw [← hr]; exact hr0⟩
      · cases h
        have hr0 := hr
        simp only [Rep] at hr
        obtain ⟨fs, cs, hr, _⟩ := hr
        exact ⟨_, by simp [execOp, ho, hr]; rfl, by rw [← hr]; exact hr0⟩
      · cases h
        have hr0 := hr
        simp only [Rep] at hr
        obtain ⟨u, hr, _⟩ := hr
        exact ⟨_, by simp [execOp, ho, hr]; rfl, by rw [← hr]; exact hr0⟩
      · cases h
    · cases h
  · rename_i op t x y yt ho
    split at h
    · rename_i a b ha hb
      obtain ⟨v, h1, h2⟩ := run_sbinop (w := w) h (hev _ _ ha) (hev _ _ hb)
      simp only [Sem.run_bind] at h1
      exact ⟨v, by simp only [execOp, ho, Sem.run_bind]; rw [h1]; rfl, h2⟩
    · cases h
  · rename_i op t x ho
    split at h
    · rename_i a ha
      obtain ⟨v, h1, h2⟩ := run_sun (w := w) (P := P) h (hev _ _ ha)
      exact ⟨v, by simp [execOp, ho, h1], h2⟩
    · cases h
  · rename_i src dst x ho
    split at h
    · rename_i a ha
      obtain ⟨v, h1, h2⟩ := run_sconvert H h (hev _ _ ha)
      exact ⟨v, by simp [execOp, ho, h1], h2⟩
    · cases h
  · rename_i t x ho
    split at h
    · rename_i s' hc hx
      cases h
      exact ⟨.iface t (av x), by simp [execOp, ho, run_makeInterface w t _ hc], by simp only [Rep]; exact ⟨_, rfl, hev _ _ hx⟩⟩
    · cases h
  · rename_i fn f c ho
    split at h
    · rename_i a b ha hb
      cases h
      refine ⟨.func fn (f.map av) (c.map av), by simp [execOp, ho, Instr.makeFunc], ?_⟩
      simp only [Rep]
      exact ⟨_, _, rfl, by simpa using evL_spec hev ha, by simpa using evL_spec hev hb⟩
    · cases h
  · rename_i t x lo hi mx ho
    split at h
    · rename_i s' a b c hx ha hb hc
      obtain ⟨v, h1, h2⟩ := run_sslice (w := w) h (hev _ _ hx) (evO_spec hev ha) (evO_spec hev hb) (evO_spec hev hc)
      exact ⟨v, by simp [execOp, ho, h1], h2⟩
    · cases h
  · rename_i t x f ho
    split at h
    · rename_i a ha
      obtain ⟨v, h1, h2⟩ := run_sfieldAddr (w := w) h (hev _ _ ha)
      exact ⟨v, by simp [execOp, ho, h1], h2⟩
    · cases h
  · rename_i t x f ho
    split at h
    · rename_i a ha
      obtain ⟨v, h1, h2⟩ := run_sfield (w := w) h (hev _ _ ha)
      exact ⟨v, by simp [execOp, ho, h1], h2⟩
    · cases h
  · rename_i t x i ho
    split at h
    · rename_i a b ha hb
      obtain ⟨v, h1, h2⟩ := run_sindexAddr (w := w) h (hev _ _ ha) (hev _ _ hb)
      exact ⟨v, by simp [execOp, ho, h1], h2⟩
    · cases h
  · rename_i t x i ho
    split at h
    · rename_i a b ha hb
      obtain ⟨v, h1, h2⟩ := run_sindex (w := w) h (hev _ _ ha) (hev _ _ hb)
      exact ⟨v, by simp [execOp, ho, h1], h2⟩
    · cases h
  · rename_i x xt ty ok ho
    split at h
    · rename_i a ha
      obtain ⟨v, h1, h2⟩ := run_sassert (w := w) (xt := xt) h (hev _ _ ha)
      exact ⟨v, by simp [execOp, ho, h1], h2⟩
    · cases h
  · rename_i x i ho
    split at h
    · rename_i a ha
      obtain ⟨v, h1, h2⟩ := run_sextract (w := w) (P := P) h (hev _ _ ha)
      exact ⟨v, by simp [execOp, ho, h1], h2⟩
    · cases h
  · rename_i c ho
    split at h
    · rename_i b hb
      split at h
      · rename_i l hl
        obtain ⟨v, h1, h2⟩ := run_sbuiltin (w := w) (ty := o.type) (cs := c.args.map fun | .const _ => true | _ => false) (vs := c.args.map av) h (by simpa using evL_spec hev hl)
        refine ⟨v, ?_, h2⟩
        simp only [execOp, ho, resolve, hb, pure_bind, invoke]
        exact h1
      · cases h
    · cases h
  · cases h

end
end Go.Sym
