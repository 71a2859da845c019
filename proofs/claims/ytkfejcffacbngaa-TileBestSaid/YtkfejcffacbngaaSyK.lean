/- Copies, calls; all operations that turn memory in one function. -/
import Derived.Test.YtkfejcffacbngaaSyJ
namespace Go.Sym
open Go Go.RowKit
set_option linter.unusedVariables false

section
variable {ρ : Rho} {env : Env} {w : World} {P : Program} {L : Nat} {ev : Ev} {av : Operand → Value}

theorem srcLen_spec {x : SV} {n : Nat} {u : Value} (h : srcLen x = some n) (hx : Rep ρ env x u) : (Builtin.lenOf u).run P w = .ok n w := by
  unfold srcLen at h
  split at h
  · cases h
    simp only [Rep] at hx; subst hx
    simp only [Builtin.lenOf, Sem.run_pure]; rfl
  · obtain ⟨a, c, rfl⟩ := slenOf_spec h hx
    simp [Builtin.lenOf]

theorem srcN_spec {M : Mem} {sz n : Nat} {x : SV} {l : List SV} {u : Value} (H : Holds ρ env M.get w) (h : srcN M sz n x = some l) (hx : Rep ρ env x u) :
    ∃ vs : Array Value, (Builtin.firstCells sz n u).run P w = .ok vs w ∧ RepL ρ env l vs.toList := by
  unfold srcN at h
  split at h
  · split at h
    · rename_i B hB
      simp only [Rep] at hx
      obtain ⟨b, k, h1, rfl⟩ := hx
      obtain ⟨vs, h2, h3⟩ := run_loadCells_own (P := P) (H.at hB h1) h
      exact ⟨vs, by simpa [Builtin.firstCells] using h2, h3⟩
    · cases h
  · split at h
    · rename_i B hB
      simp only [Rep] at hx
      obtain ⟨b, k, c, h1, rfl, _⟩ := hx
      obtain ⟨vs, h2, h3⟩ := run_loadCells_own (P := P) (H.at hB h1) h
      exact ⟨vs, by simpa [Builtin.firstCells] using h2, h3⟩
    · cases h
  · rename_i str
    split at h
    · cases h
      simp only [Rep] at hx; subst hx
      refine ⟨_, by simp only [Builtin.firstCells, Sem.run_pure]; rfl, ?_⟩
      have e : ((str.extract 0 n).data.map fun b => Value.int .u8 (b.toNat : Int)).toList = (str.data.toList.take n).map fun b => Value.int .u8 (b.toNat : Int) := by
        rw [ByteArray.data_extract]
        simp [Array.toList_extract, List.extract_eq_take_drop]
      rw [e]
      exact byteCells_rep _
    · cases h
  · cases h

theorem dstOf_spec {d : SV} {nm off : Nat} {u : Value} (h : dstOf d = some (nm, off)) (hx : Rep ρ env d u) : ∃ b n len c, ρ nm = some (b, n) ∧ u = .slice (some ⟨b, off, none⟩) len c := by
  cases d <;> simp only [dstOf] at h <;> first | (cases h; done) | skip
  all_goals cases h; simp only [Rep] at hx
  · obtain ⟨b, n, h1, rfl⟩ := hx; exact ⟨b, n, _, _, h1, rfl⟩
  · obtain ⟨b, n, c, h1, rfl, _⟩ := hx; exact ⟨b, n, _, _, h1, rfl⟩

theorem run_scopy {M M' : Mem} {ts : Array TypeId} {ty : TypeId} {x y s : SV} {u v : Value} (H : Holds ρ env M.get w) (hd : Free L ρ M.next) (h : scopy P M ts x y = some (s, M'))
    (hx : Rep ρ env x u) (hy : Rep ρ env y v) : ∃ r w', (Builtin.copy_ ts ty #[u, v]).run P w = .ok r w' ∧ Rep ρ env s r ∧ Post env L ρ M.get M.next w ρ M'.get M'.next w' := by
  unfold scopy at h
  split at h
  · rename_i t h0
    split at h
    · rename_i e hu
      split at h
      · rename_i sz dl sl hsz hdl hsl
        have hlen := srcLen_spec (w := w) (P := P) hsl hy
        obtain ⟨a0, c0, rfl⟩ := slenOf_spec hdl hx
        split at h
        · rename_i hmin
          have key : ∀ vs : Array Value, (Builtin.firstCells sz 0 v).run P w = .ok vs w → vs = #[] → some (SV.int .i64 0, M) = some (s, M') →
              ∃ r w', (Builtin.copy_ ts ty #[.slice a0 dl c0, v]).run P w = .ok r w' ∧ Rep ρ env s r ∧ Post env L ρ M.get M.next w ρ M'.get M'.next w' := by
            intro vs h1 h2 h3
            cases h3
            subst h2
            refine ⟨goInt 0, w, ?_, by simp [Rep, goInt], Post.refl H hd⟩
            unfold Builtin.copy_
            simp only [h0, List.getElem?_toArray, List.getElem?_cons_zero, List.getElem?_cons_succ]
            cases a0 <;> simp [run_underlying hu, hlen, hmin, run_sizeOf' hsz, h1, storeCells]
          split at h
          · rename_i l hl
            obtain ⟨vs, h1, h2⟩ := srcN_spec (P := P) H hl hy
            refine key vs h1 ?_ h
            have hl0 : l.length = 0 := by
              unfold srcN at hl
              split at hl
              · split at hl
                · have := (Blk.cellsFrom_spec _ _ _ hl).1; simpa using this
                · cases hl
              · split at hl
                · have := (Blk.cellsFrom_spec _ _ _ hl).1; simpa using this
                · cases hl
              · split at hl
                · cases hl; simp [byteCells]
                · cases hl
              · cases hl
            have := h2.length
            simp [hl0] at this
            exact this
          · simp only [Rep] at hy; subst hy
            exact key #[] (by simp [Builtin.firstCells]) rfl h
          · cases h
        · rename_i n' hmin
          split at h
          · rename_i l nm off hl hdst
            split at h
            · rename_i B hB
              split at h
              · rename_i B' hp
                split at h
                · rename_i M2 hM
                  cases h
                  obtain ⟨hnx, hg⟩ := Mem.set_spec hM
                  obtain ⟨b, k, len, c, hr, he⟩ := dstOf_spec hdst hx
                  cases he
                  obtain ⟨vs, h1, h2⟩ := srcN_spec (P := P) H hl hy
                  obtain ⟨w', r1, r2, r3⟩ := run_storeCells_own (P := P) l vs.toList B B' off 0 w (H.at hB hr) (by simpa using hp) h2
                  refine ⟨goInt (n' + 1 : Nat), w', ?_, by simp [Rep, goInt], by rw [hnx]; exact post_upd H hd hB hr hg r3 r2⟩
                  unfold Builtin.copy_
                  simp only [h0, List.getElem?_toArray, List.getElem?_cons_zero, List.getElem?_cons_succ]
                  simp only [Sem.run_bind, run_underlying hu, Result.andThen_ok, hlen, hmin, run_sizeOf' hsz]
                  have e : n'.succ = n' + 1 := rfl
                  simp only [e, h1, Result.andThen_ok, Sem.run_bind, r1, Sem.run_pure]
                · cases h
              · cases h
            · cases h
          · cases h
      · cases h
    · cases h
  · cases h

/-! ### Calls -/

/-- May a function be entered? -/
def entered (P : Program) (f : FuncId) : Bool :=
  match P.funcs[f]? with
  | some fn => fn.body.isSome && !(fn.name == "runtime.NumGoroutine")
  | none => false

theorem run_callFunc {f : FuncId} {args : Array Value} (h : entered P f = true) : (callFunc f args).run P w = .ok (.enter f args) w := by
  unfold entered at h
  split at h
  · rename_i fn hf
    simp only [Bool.and_eq_true, Bool.not_eq_true'] at h
    have hb : fn.body.isNone = false := by simpa using h.1
    simp only [callFunc, Sem.run_bind, run_program, Result.andThen_ok, hf, h.2, hb, Bool.false_eq_true, if_false]
    rfl
  · cases h

def isPtrT (P : Program) (t : TypeId) : Option Bool :=
  match P.underlying t with
  | some (.pointer _) => some true
  | some _ => some false
  | none => none

/-- the way to an embedded field, by value -/
def sfollow (P : Program) : List FieldStep → TypeId → SV → Option (TypeId × SV)
  | [], t, x => some (t, x)
  | s :: rest, _, x => match P.underlying s.struct with
    | some (.struct fields) => match fields[s.index]?, s.deref, x with
      | some f, false, .agg cs => match spart P f.type cs f.offset with
        | some y => sfollow P rest f.type y
        | none => none
      | _, _, _ => none
    | _ => none

theorem run_sfollow : ∀ (l : List FieldStep) (t : TypeId) (x : SV) (u : Value) (t' : TypeId) (y : SV), sfollow P l t x = some (t', y) → Rep ρ env x u →
    ∃ v, (follow l t (.val u)).run P w = .ok (t', .val v) w ∧ Rep ρ env y v
  | [], t, x, u, t', y, h, hx => by
    simp only [sfollow, Option.some.injEq, Prod.mk.injEq] at h
    obtain ⟨rfl, rfl⟩ := h
    exact ⟨u, by simp [follow], hx⟩
  | s :: rest, t, x, u, t', y, h, hx => by
    simp only [sfollow] at h
    split at h
    · rename_i fields hu
      split at h
      · rename_i f cs hf hd
        split at h
        · rename_i z hz
          simp only [Rep] at hx
          obtain ⟨vs, rfl, hx⟩ := hx
          obtain ⟨q, h1, h2⟩ := run_part (w := w) hz hx
          obtain ⟨v, h3, h4⟩ := run_sfollow rest _ z q t' y h h2
          exact ⟨v, by simp [follow, run_underlying hu, hf, hd, h1, h3], h4⟩
        · cases h
      · cases h
    · cases h

/-- which function a method is -/
def smeth (P : Program) (M : Mem) (t : TypeId) (s : SV) (l : List SV) (name : String) : Option (FuncId × List SV) :=
  match P.info? t with
  | some i => match i.methods.find? (·.name == name) with
    | some m => match m.path.isEmpty, m.func with
      | true, some (f, false) => match isPtrT P t, entered P f with
        | some false, true => some (f, s :: l)
        | some true, true => match P.underlying t with
          | some (.pointer e) => match sload P M e s with
            | some s' => some (f, s' :: l)
            | none => none
          | _ => none
        | _, _ => none
      | true, some (f, true) => match isPtrT P t, entered P f with
        | some true, true => some (f, s :: l)
        | _, _ => none
      | false, some (f, pr) => match sfollow P m.path.toList t s with
        | some (xt, y) => match isPtrT P xt, pr, entered P f with
          | some true, true, true => some (f, y :: l)
          | some false, false, true => some (f, y :: l)
          | _, _, _ => none
        | none => none
      | _, _ => none
    | none => none
  | none => none

theorem run_smeth {M : Mem} {t : TypeId} {s : SV} {l l' : List SV} {name : String} {f : FuncId} {u : Value} {args : Array Value} (H : Holds ρ env M.get w) (h : smeth P M t s l name = some (f, l')) (h3 : Rep ρ env s u) (h5 : RepL ρ env l args.toList) :
    ∃ z, (callMethod (.iface t u) name args).run P w = .ok (.enter f (#[z] ++ args)) w ∧ RepL ρ env l' (#[z] ++ args).toList := by
  unfold smeth at h
  split at h
  · rename_i i hi
    split at h
    · rename_i m hm
      have hpos : 0 < Made.depth := by decide
      obtain ⟨n, hn⟩ : ∃ n, P.types.size + Made.depth = n + 1 := ⟨P.types.size + Made.depth - 1, by omega⟩
      have hmeth : ∀ f pr, m.path.isEmpty = true → m.func = some (f, pr) → isPtrT P t = some pr → (method (P.types.size + Made.depth) t u name).run P w = .ok (f, u) w := by
        intro f pr k1 k2 k3
        have hp : m.path.toList = [] := by simpa using k1
        rw [hn]
        unfold isPtrT at k3
        simp only [method, Sem.run_bind, typeInfo, run_program, Result.andThen_ok, hi, Sem.run_pure, hm, hp, follow, k2]
        split at k3
        · rename_i e hu
          cases k3
          simp [receiverAt, run_underlying hu, Place.get]
        · rename_i d hne hu
          cases k3
          simp only [receiverAt, Sem.run_bind, run_underlying hu, Result.andThen_ok]
          cases d <;> first | exact absurd rfl (hne _) | simp [Place.get]
        · cases k3
      have hload : ∀ f e s', m.path.isEmpty = true → m.func = some (f, false) → P.underlying t = some (.pointer e) → sload P M e s = some s' →
          ∃ v, (method (P.types.size + Made.depth) t u name).run P w = .ok (f, v) w ∧ Rep ρ env s' v := by
        intro f e s' k1 k2 k3 k4
        have hp : m.path.toList = [] := by simpa using k1
        obtain ⟨v, q1, q2⟩ := run_sload (P := P) H k4 h3
        have hu : ∃ a, u = .pointer (some a) := by
          unfold sload at k4
          split at k4
          · simp only [Rep] at h3; obtain ⟨b, n, _, rfl⟩ := h3; exact ⟨_, rfl⟩
          · cases k4
        obtain ⟨a, rfl⟩ := hu
        refine ⟨v, ?_, q2⟩
        rw [hn]
        have q1' : (loadVar e a).run P w = .ok v w := by simpa [Instr.loadAt, Instr.sureAddr] using q1
        simp only [method, Sem.run_bind, typeInfo, run_program, Result.andThen_ok, hi, Sem.run_pure, hm, hp, follow, k2]
        have hw : ∀ nm : String, (Builtin.ssaWrapNilChk_ #[t] t #[.pointer (some a), strVal "", strVal nm]).run P w = .ok (.pointer (some a)) w := fun nm => rfl
        simp [receiverAt, run_underlying k3, Place.get, k1, hw, asAddr, q1']
      have hrun : ∀ f z, entered P f = true → (method (P.types.size + Made.depth) t u name).run P w = .ok (f, z) w → (callMethod (.iface t u) name args).run P w = .ok (.enter f (#[z] ++ args)) w := by
        intro f z he k1
        simp only [callMethod, Sem.run_bind, run_program, Result.andThen_ok, k1]
        exact run_callFunc he
      split at h
      · rename_i f' hp hf
        split at h
        · rename_i hpt he
          cases h
          refine ⟨u, hrun _ _ he (hmeth _ _ hp hf hpt), ?_⟩
          simp only [Array.toList_append, RepL]
          exact ⟨u, _, rfl, h3, by simpa using h5⟩
        · rename_i hpt he
          split at h
          · rename_i e hu
            split at h
            · rename_i s' hs'
              cases h
              obtain ⟨v, q1, q2⟩ := hload _ _ _ hp hf hu hs'
              refine ⟨v, hrun _ _ he q1, ?_⟩
              simp only [Array.toList_append, RepL]
              exact ⟨v, _, rfl, q2, by simpa using h5⟩
            · cases h
          · cases h
        · cases h
      · rename_i f' hp hf
        split at h
        · rename_i hpt he
          cases h
          refine ⟨u, hrun _ _ he (hmeth _ _ hp hf hpt), ?_⟩
          simp only [Array.toList_append, RepL]
          exact ⟨u, _, rfl, h3, by simpa using h5⟩
        · cases h
      · rename_i f' pr hp hf
        split at h
        · rename_i xt y hfo
          obtain ⟨v, q1, q2⟩ := run_sfollow (w := w) _ _ _ _ _ _ hfo h3
          have hm2 : ∀ f pr, m.func = some (f, pr) → isPtrT P xt = some pr → (method (P.types.size + Made.depth) t u name).run P w = .ok (f, v) w := by
            intro f pr k2 k3
            rw [hn]
            unfold isPtrT at k3
            simp only [method, Sem.run_bind, typeInfo, run_program, Result.andThen_ok, hi, Sem.run_pure, hm, q1, k2]
            split at k3
            · rename_i e hu
              cases k3
              simp [receiverAt, run_underlying hu, Place.get]
            · rename_i d hne hu
              cases k3
              simp only [receiverAt, Sem.run_bind, run_underlying hu, Result.andThen_ok]
              cases d <;> first | exact absurd rfl (hne _) | simp [Place.get]
            · cases k3
          split at h
          · rename_i hpt he
            cases h
            refine ⟨v, hrun _ _ he (hm2 _ _ hf hpt), ?_⟩
            simp only [Array.toList_append, RepL]
            exact ⟨v, _, rfl, q2, by simpa using h5⟩
          · rename_i hpt he
            cases h
            refine ⟨v, hrun _ _ he (hm2 _ _ hf hpt), ?_⟩
            simp only [Array.toList_append, RepL]
            exact ⟨v, _, rfl, q2, by simpa using h5⟩
          · cases h
        · cases h
      · cases h
    · cases h
  · cases h

/-- which function a call enters, with which arguments -/
def scall (P : Program) (M : Mem) (ev : Ev) (c : Call) : Option (FuncId × List SV) :=
  match c.callee with
  | .value x => match ev x, evL ev c.args.toList with
    | some (.func (.func f) first captured), some l => match entered P f with
      | true => some (f, first ++ (l ++ captured))
      | false => none
    | some (.func (.method name) (.iface t s :: first) _), some l => smeth P M t s (first ++ l) name
    | _, _ => none
  | .invoke x name => match ev x, evL ev c.args.toList with
    | some (.iface t s), some l => smeth P M t s l name
    | _, _ => none
  | .builtin _ => none

theorem run_scall {M : Mem} {o : Oper} {c : Call} {f : FuncId} {l : List SV} (H : Holds ρ env M.get w) (ho : o.op = .call c) (hev : EvOk ρ env ev av) (h : scall P M ev c = some (f, l)) :
    ∃ args : Array Value, (execOp av o).run P w = .ok (.enter f args) w ∧ RepL ρ env l args.toList := by
  have hext : ∀ (z : Value) (a : Array Value), ((#[z] ++ a).extract 1 (#[z] ++ a).size) = a := by
    intro z a
    apply Array.ext'
    simp [Array.toList_extract, List.extract_eq_take_drop]
  have hfirst : ∀ (z : Value) (a : Array Value), (#[z] ++ a)[0]? = some z := fun z a => by
    rw [Array.getElem?_append_left (by simp)]; rfl
  unfold scall at h
  split at h
  · rename_i x hc
    split at h
    · rename_i f' first captured l' hx hl
      split at h
      · rename_i he
        cases h
        have h1 := hev _ _ hx
        simp only [Rep] at h1
        obtain ⟨fs, cs, h2, h3, h4⟩ := h1
        have h5 := evL_spec hev hl
        refine ⟨fs ++ (c.args.map av) ++ cs, ?_, ?_⟩
        · simp only [execOp, ho, resolve, hc, h2, Deferred.ofValue, pure_bind, invoke]
          exact run_callFunc he
        · simpa using h3.append (h5.append h4)
      · cases h
    · rename_i name t s first cap l' hx hl
      have h1 := hev _ _ hx
      simp only [Rep, RepL] at h1
      obtain ⟨fs, cs, h2, ⟨v, vs', hfs, ⟨u, rfl, h3⟩, h4⟩, h6⟩ := h1
      have h5 := evL_spec hev hl
      have hfs' : fs = #[.iface t u] ++ vs'.toArray := by apply Array.ext'; simpa using hfs
      subst hfs'
      obtain ⟨z, r1, r2⟩ := run_smeth (args := vs'.toArray ++ c.args.map av) H h h3 (by simpa using h4.append h5)
      refine ⟨_, ?_, r2⟩
      simp only [execOp, ho, resolve, hc, h2, Deferred.ofValue, pure_bind, invoke, Array.append_assoc, hfirst, hext]
      exact r1
    · cases h
  · rename_i x name hc
    split at h
    · rename_i t s l' hx hl
      have h1 := hev _ _ hx
      simp only [Rep] at h1
      obtain ⟨u, h2, h3⟩ := h1
      have h5 := evL_spec hev hl
      obtain ⟨z, r1, r2⟩ := run_smeth (args := c.args.map av) H h h3 (by simpa using h5)
      refine ⟨_, ?_, r2⟩
      simp only [execOp, ho, resolve, hc, pure_bind, invoke, hfirst, hext, h2]
      exact r1
    · cases h
  · cases h

/-! ### Operations that turn memory and enter no function -/

/-- a slice's block -/
def nmOf : SV → Option Nat
  | .slice nm _ _ _ => some nm
  | .oslice nm _ _ _ => some nm
  | _ => none

theorem nmOf_spec {s : SV} {nm : Nat} {u : Value} (h : nmOf s = some nm) (hx : Rep ρ env s u) : ∃ b n off len c, ρ nm = some (b, n) ∧ u = .slice (some ⟨b, off, none⟩) len c := by
  unfold nmOf at h
  split at h
  · cases h; simp only [Rep] at hx; obtain ⟨b, n, h1, rfl⟩ := hx; exact ⟨b, n, _, _, _, h1, rfl⟩
  · cases h; simp only [Rep] at hx; obtain ⟨b, n, c, h1, rfl, _⟩ := hx; exact ⟨b, n, _, _, _, h1, rfl⟩
  · cases h

theorem mark_own {M : Mem} {B : Blk} {nm b n off : Nat} (H : Holds ρ env M.get w) (hd : Free L ρ M.next) (hB : M.get nm = some B) (hr : ρ nm = some (b, n)) :
    ∃ w', (markStringish ⟨b, off, none⟩).run P w = .ok () w' ∧ Post env L ρ M.get M.next w ρ M.get M.next w' := by
  obtain ⟨⟨cells, lo, hi, h1, h2, h3, h4⟩, hle, hsh, hrw⟩ := H.at hB hr
  have hshape : w.shape? b = some (B.elem, n) := by simp only [World.shape?, h1, h2]
  refine ⟨w.freeze ⟨b, n, none⟩ 1, by simp only [markStringish, Sem.run_bind, run_shape, Result.andThen_ok, hshape, run_freeze], ?_⟩
  have hs : SameBut w (w.freeze ⟨b, n, none⟩ 1) b := by
    refine ⟨by simp [World.freeze], fun k hk => ?_, by simp [World.freeze], by simp [World.freeze], by simp [World.freeze]⟩
    simp [World.freeze, Array.getElem?_modify, Ne.symm hk]
  refine post_upd (B := B) (B' := B) H hd hB hr (fun m => ?_) hs ⟨⟨cells, if (lo == hi) = true then n else min lo n, if (lo == hi) = true then n + 1 else max hi (n + 1), ?_, h2, ?_, h4⟩, hle, hsh, fun r cnt ks h => ⟨(hrw r cnt ks h).1, fun j x hx => ?_⟩⟩
  rotate_right
  · have := (hrw r cnt ks h).2 j x hx
    simp only [World.cell?, World.freeze, Nat.one_ne_zero, if_false, Array.getElem?_modify, if_true, h1, Option.map_some] at this ⊢
    exact this
  · split
    · rename_i h; subst h; exact hB
    · rfl
  · simp only [World.freeze, Nat.one_ne_zero, if_false, Array.getElem?_modify, if_true, h1, Option.map_some]
    by_cases h : lo = hi <;> simp [h]
  · by_cases h : lo = hi
    · simp [h]
    · simp [h]; omega

def seff (P : Program) (M : Mem) (ev : Ev) (o : Oper) : Option (SV × Mem) :=
  match o.op with
  | .convert src dst x => match Nat.beq src dst, P.underlying dst with
    | true, some (.slice e) => match P.underlying e, ev x with
      | some (.int .u8), some s => match nmOf s with
        | some nm => match M.get nm with
          | some _ => some (s, M)
          | none => none
        | none => none
      | _, _ => none
    | _, _ => none
  | .store t a x => match ev a, ev x with
    | some p, some s => match sstore P M t p s with
      | some M' => some (.tuple [], M')
      | none => none
    | _, _ => none
  | .call c => match c.callee with
    | .builtin b => match b, evL ev c.args.toList with
      | .append, some [x, y] => sappend P M c.argTypes x y
      | .copy, some [x, y] => scopy P M c.argTypes x y
      | _, _ => none
    | _ => none
  | _ => none

theorem run_seff {M M' : Mem} {o : Oper} {s : SV} (H : Holds ρ env M.get w) (hd : Free L ρ M.next) (hL : M'.next ≤ L) (hev : EvOk ρ env ev av) (h : seff P M ev o = some (s, M')) :
    ∃ nx v w' ρ', (execOp av o).run P w = .ok nx w' ∧ (nx = .value v ∨ nx = .skip ∧ v = undef) ∧ Rep ρ' env s v ∧ Post env L ρ M.get M.next w ρ' M'.get M'.next w' := by
  unfold seff at h
  split at h
  · rename_i src dst x ho
    split at h
    · rename_i e hsd hu
      have hsd := Nat.eq_of_beq_eq_true hsd
      subst hsd
      split at h
      · rename_i s' he hx
        split at h
        · rename_i nm hnm
          split at h
          · rename_i B hB
            cases h
            have hv := hev _ _ hx
            obtain ⟨b, n, off, len, c, hr, hu'⟩ := nmOf_spec hnm hv
            obtain ⟨w', m1, m2⟩ := mark_own (P := P) (off := off) H hd hB hr
            refine ⟨.value (av x), av x, w', ρ, ?_, .inl rfl, hv, m2⟩
            simp only [execOp, ho, hu', convert, Sem.run_bind, run_underlying hu, Result.andThen_ok, run_underlying he, beq_self_eq_true, m1, Sem.run_pure]
          · cases h
        · cases h
      · cases h
    · cases h
  · rename_i t a x ho
    split at h
    · rename_i p q hp hq
      split at h
      · rename_i M2 hst
        cases h
        obtain ⟨w', h1, h2⟩ := run_sstore (P := P) H hd hst (hev _ _ hp) (hev _ _ hq)
        refine ⟨.skip, undef, w', ρ, by simp [execOp, ho, h1], .inr ⟨rfl, rfl⟩, ?_, h2⟩
        simp only [Rep, undef]
        exact ⟨_, rfl, by simp [RepL]⟩
      · cases h
    · cases h
  · rename_i c ho
    split at h
    · rename_i b hb
      split at h
      · rename_i x y hl
        have h1 := evL_spec hev hl
        simp only [RepL] at h1
        obtain ⟨u, us, e1, h2, v, vs, rfl, h3, rfl⟩ := h1
        have hargs : c.args.map av = #[u, v] := by apply Array.ext'; simpa using e1
        obtain ⟨r, w', ρ', r1, r2, r3⟩ := run_sappend (P := P) (ty := o.type) H hd hL h h2 h3
        exact ⟨.value r, r, w', ρ', by simp only [execOp, ho, resolve, hb, pure_bind, invoke, builtin, hargs, Sem.run_bind, r1, Result.andThen_ok, Sem.run_pure], .inl rfl, r2, r3⟩
      · rename_i x y hl
        have h1 := evL_spec hev hl
        simp only [RepL] at h1
        obtain ⟨u, us, e1, h2, v, vs, rfl, h3, rfl⟩ := h1
        have hargs : c.args.map av = #[u, v] := by apply Array.ext'; simpa using e1
        obtain ⟨r, w', r1, r2, r3⟩ := run_scopy (P := P) (ty := o.type) H hd h h2 h3
        exact ⟨.value r, r, w', ρ, by simp only [execOp, ho, resolve, hb, pure_bind, invoke, builtin, hargs, Sem.run_bind, r1, Result.andThen_ok, Sem.run_pure], .inl rfl, r2, r3⟩
      · cases h
    · cases h
  · cases h

end
end Go.Sym
