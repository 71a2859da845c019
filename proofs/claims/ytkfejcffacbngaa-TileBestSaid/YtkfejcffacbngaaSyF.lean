/- Operations that leave memory as it is: the rest, and all of them in one function. -/
import Derived.Test.YtkfejcffacbngaaSyE
namespace Go.Sym
open Go Go.RowKit
set_option linter.unusedVariables false

def setL (cs : List SV) (off : Nat) (xs : List SV) : List SV := cs.take off ++ (xs ++ cs.drop (off + xs.length))

def sfill (place : Nat → Option (Nat × Nat)) (cs : List SV) : List (Nat × SV) → Option (List SV)
  | [] => some cs
  | (i, s) :: rest =>
    match place i with
    | none => none
    | some (off, size) =>
      match s.isTuple, Nat.beq s.cells.length size, Nat.ble (off + size) cs.length with
      | false, true, true => sfill place (setL cs off s.cells) rest
      | _, _, _ => none

section
variable {ρ : Rho} {env : Env} {w : World} {P : Program}

theorem fold_sets (off : Nat) : ∀ (l : List Value) (k : Nat) (cells : Array Value) (i : Nat), off + k + l.length ≤ cells.size →
    ((l.zipIdx k).foldl (fun cs (x : Value × Nat) => cs.setIfInBounds (off + x.2) x.1) cells)[i]? = if off + k ≤ i ∧ i < off + k + l.length then l[i - (off + k)]? else cells[i]?
  | [], k, cells, i, h => by
    have : ¬ (off + k ≤ i ∧ i < off + k) := by omega
    simp [this]
  | v :: l, k, cells, i, h => by
    simp only [List.length_cons] at h
    simp only [List.zipIdx_cons, List.foldl_cons]
    rw [fold_sets off l (k + 1) _ i (by simp; omega)]
    by_cases h1 : off + (k + 1) ≤ i ∧ i < off + (k + 1) + l.length
    · have h2 : off + k ≤ i ∧ i < off + k + (v :: l).length := by simp only [List.length_cons]; omega
      rw [if_pos h1, if_pos h2]
      have : i - (off + k) = (i - (off + (k + 1))) + 1 := by omega
      rw [this, List.getElem?_cons_succ]
    · rw [if_neg h1]
      by_cases h3 : i = off + k
      · subst h3
        have h2 : off + k ≤ off + k ∧ off + k < off + k + (v :: l).length := by simp only [List.length_cons]; omega
        rw [if_pos h2]
        have : off + k < cells.size := by omega
        simp [this]
      · have h2 : ¬ (off + k ≤ i ∧ i < off + k + (v :: l).length) := by simp only [List.length_cons]; omega
        rw [if_neg h2, Array.getElem?_setIfInBounds_ne (Ne.symm h3)]

theorem fold_size (off : Nat) : ∀ (l : List Value) (k : Nat) (cells : Array Value), ((l.zipIdx k).foldl (fun cs (x : Value × Nat) => cs.setIfInBounds (off + x.2) x.1) cells).size = cells.size
  | [], k, cells => rfl
  | v :: l, k, cells => by simp only [List.zipIdx_cons, List.foldl_cons]; rw [fold_size off l (k + 1)]; simp

theorem setL_get {cs xs : List SV} {off : Nat} (h : off + xs.length ≤ cs.length) (i : Nat) : (setL cs off xs)[i]? = if off ≤ i ∧ i < off + xs.length then xs[i - off]? else cs[i]? := by
  unfold setL
  by_cases h1 : i < off
  · have h2 : ¬ (off ≤ i ∧ i < off + xs.length) := by omega
    rw [if_neg h2, List.getElem?_append_left (by simp; omega)]
    simp [List.getElem?_take, h1]
  · rw [List.getElem?_append_right (by simp; omega)]
    have e : (List.take off cs).length = off := by simp; omega
    rw [e]
    by_cases h2 : i < off + xs.length
    · rw [if_pos ⟨by omega, h2⟩, List.getElem?_append_left (by omega)]
    · rw [if_neg (by omega), List.getElem?_append_right (by omega), List.getElem?_drop]
      congr 1; omega

theorem setL_length {cs xs : List SV} {off : Nat} (h : off + xs.length ≤ cs.length) : (setL cs off xs).length = cs.length := by
  unfold setL; simp; omega

/-- parts: places and values -/
def RepP (ρ : Rho) (env : Env) : List (Nat × SV) → List (Nat × Value) → Prop
  | [], vs => vs = []
  | (i, s) :: ss, vs => ∃ v vs', vs = (i, v) :: vs' ∧ Rep ρ env s v ∧ RepP ρ env ss vs'

theorem run_fill {place : Nat → Option (Nat × Nat)} : ∀ (ps : List (Nat × SV)) (cs cs' : List SV) (vs : List (Nat × Value)) (cells : Array Value), sfill place cs ps = some cs' → RepP ρ env ps vs → RepL ρ env cs cells.toList →
    ∃ cells', Instr.fill place cells vs = some cells' ∧ RepL ρ env cs' cells'.toList
  | [], cs, cs', vs, cells, h, hp, hc => by
    simp only [RepP] at hp; subst hp
    simp only [sfill, Option.some.injEq] at h; subst h
    exact ⟨cells, rfl, hc⟩
  | (i, s) :: ps, cs, cs', vs, cells, h, hp, hc => by
    simp only [RepP] at hp
    obtain ⟨v, vs', rfl, h2, h3⟩ := hp
    simp only [sfill] at h
    cases hpl : place i with
    | none => simp [hpl] at h
    | some q =>
      obtain ⟨off, size⟩ := q
      simp only [hpl] at h
      split at h
      · rename_i b1 b2 b3
        have b2 := Nat.eq_of_beq_eq_true b2
        have b3 := ble_true b3
        have hv := h2.cells b1
        have hvl := hv.length
        have hcl := hc.length
        have hvs : v.cells.size = s.cells.length := by simpa using hvl
        have hcs : cells.size = cs.length := by simpa using hcl
        have hnew : RepL ρ env (setL cs off s.cells) (v.cells.zipIdx.foldl (fun cs (x : Value × Nat) => cs.setIfInBounds (off + x.2) x.1) cells).toList := by
          rw [← Array.foldl_toList, Array.toList_zipIdx]
          refine RepL.of_get ?_ fun j t ht => ?_
          · rw [setL_length (by omega)]
            have := fold_size off v.cells.toList 0 cells
            simpa [hcs] using this
          · rw [setL_get (by omega)] at ht
            have hf := fold_sets off v.cells.toList 0 cells j (by simp; omega)
            simp only [Nat.add_zero, Array.length_toList] at hf
            rw [Array.getElem?_toList, hf, hvs]
            split at ht
            · rename_i hj
              rw [if_pos hj]
              exact hv.get _ t ht
            · rename_i hj
              rw [if_neg hj]
              obtain ⟨u, hu, hr⟩ := hc.get _ t ht
              exact ⟨u, by simpa using hu, hr⟩
        obtain ⟨cells', r1, r2⟩ := run_fill ps _ cs' vs' _ h h3 hnew
        refine ⟨cells', ?_, r2⟩
        simp only [Instr.fill, hpl]
        have : ¬ ((decide (v.cells.size ≠ size) || decide (off + v.cells.size > cells.size)) = true) := by
          simp; omega
        have h' : ¬ (v.cells.size ≠ size ∨ off + v.cells.size > cells.size) := by omega
        simp only [Bool.or_eq_true, decide_eq_true_eq, h', if_false]
        exact r1
      · cases h

def placesL (P : Program) : List Field → Option (List (Nat × Nat))
  | [] => some []
  | f :: fs => match tySz P f.type, placesL P fs with
    | some n, some l => some ((f.offset, n) :: l)
    | _, _ => none

theorem placesL_eq : ∀ (fs : List Field) (l : List (Nat × Nat)), placesL P fs = some l → fs.mapM (fun f => (P.info? f.type).map fun i => (f.offset, i.size)) = some l
  | [], l, h => by simpa [placesL] using h
  | f :: fs, l, h => by
    simp only [placesL] at h
    split at h
    · rename_i n l' h1 h2
      cases h
      unfold tySz at h1
      split at h1
      · rename_i i hi
        cases h1
        simp [List.mapM_cons, hi, placesL_eq fs l' h2]
      · cases h1
    · cases h

def sbuild (P : Program) (t : TypeId) (ps : List (Nat × SV)) : Option SV :=
  match zeroS P t with
  | none => none
  | some z => match P.underlying t with
    | some (.struct fs) => match placesL P fs.toList with
      | some pl => match sfill (nth pl) z.cells ps with
        | some cs => some (.agg cs)
        | none => none
      | none => none
    | some (.array _ e) => match tySz P e with
      | some n => match sfill (fun i => some (i * n, n)) z.cells ps with
        | some cs => some (.agg cs)
        | none => none
      | none => none
    | _ => none

theorem zeroS_spec {t : TypeId} {s : SV} (h : zeroS P t = some s) : ∃ i v, P.info? t = some i ∧ i.zero = some v ∧ Rep ρ env s v ∧ (∀ x ∈ s.cells, x.one = true) ∧ s.isTuple = false := by
  unfold zeroS at h
  split at h
  · rename_i i hi
    split at h
    · rename_i v hv
      obtain ⟨a, b, c⟩ := ofV_spec (ρ := ρ) (env := env) h
      exact ⟨i, v, hi, hv, a, b, c⟩
    · cases h
  · cases h

theorem run_sbuild {t : TypeId} {ps : List (Nat × SV)} {s : SV} {vs : Array (Nat × Value)} (h : sbuild P t ps = some s) (hp : RepP ρ env ps vs.toList) :
    ∃ v, (Instr.build t vs).run P w = .ok v w ∧ Rep ρ env s v := by
  unfold sbuild at h
  split at h
  · cases h
  · rename_i z hz
    obtain ⟨i, zv, hi, hzv, hrz, _, htz⟩ := zeroS_spec (ρ := ρ) (env := env) hz
    have hcells := hrz.cells htz
    split at h
    · rename_i fs hu
      split at h
      · rename_i pl hpl
        split at h
        · rename_i cs hf
          cases h
          obtain ⟨cells', r1, r2⟩ := run_fill ps _ cs _ zv.cells hf hp hcells
          have hb : P.built t vs.toList = some cells' := by
            have h1 := placesL_eq _ _ hpl
            have e : (fun x => pl.toArray[x]?) = nth pl := by funext x; rw [nth_eq]; simp
            simp only [Program.built, hi, hu, hzv, h1]
            rw [e]; exact r1
          exact ⟨_, run_build w t vs cells' hb, by simp only [Rep]; exact ⟨_, rfl, r2⟩⟩
        · cases h
      · cases h
    · rename_i n e hu
      split at h
      · rename_i sz hsz
        split at h
        · rename_i cs hf
          cases h
          obtain ⟨cells', r1, r2⟩ := run_fill ps _ cs _ zv.cells hf hp hcells
          have hb : P.built t vs.toList = some cells' := by
            unfold tySz at hsz
            split at hsz
            · rename_i ie hie
              cases hsz
              simp only [Program.built, hi, hu, hzv, hie]
              exact r1
            · cases hsz
          exact ⟨_, run_build w t vs cells' hb, by simp only [Rep]; exact ⟨_, rfl, r2⟩⟩
        · cases h
      · cases h
    · cases h

/-! ### Places and parts -/

def sfieldAddr (P : Program) (t : TypeId) (x : SV) (f : Nat) : Option SV :=
  match P.underlying t with
  | some (.struct fs) => match fs[f]? with
    | some fd => match tySz P fd.type, x with
      | some (n + 1), .ptr nm off => some (.ptr nm (off + fd.offset))
      | _, _ => none
    | none => none
  | _ => none

theorem run_sfieldAddr {t : TypeId} {x s : SV} {f : Nat} {u : Value} (h : sfieldAddr P t x f = some s) (hx : Rep ρ env x u) : ∃ v, (Instr.fieldAt t u f).run P w = .ok v w ∧ Rep ρ env s v := by
  unfold sfieldAddr at h
  split at h
  · rename_i fs hu
    split at h
    · rename_i fd hf
      split at h
      · rename_i n nm off hsz
        cases h
        simp only [Rep] at hx
        obtain ⟨b, k, h1, rfl⟩ := hx
        exact ⟨.pointer (some ⟨b, off + fd.offset, none⟩), by simp [Instr.fieldAt, run_underlying hu, hf, Instr.sureAddr, fieldPlace, run_sizeOf' hsz, addr_add], by simp only [Rep]; exact ⟨b, k, h1, rfl⟩⟩
      · cases h
    · cases h
  · cases h

def sfield (P : Program) (t : TypeId) (x : SV) (f : Nat) : Option SV :=
  match P.underlying t with
  | some (.struct fs) => match fs[f]? with
    | some fd => match x with
      | .agg cs => spart P fd.type cs fd.offset
      | _ => none
    | none => none
  | _ => none

theorem run_sfield {t : TypeId} {x s : SV} {f : Nat} {u : Value} (h : sfield P t x f = some s) (hx : Rep ρ env x u) : ∃ v, (Instr.field t u f).run P w = .ok v w ∧ Rep ρ env s v := by
  unfold sfield at h
  split at h
  · rename_i fs hu
    split at h
    · rename_i fd hf
      split at h
      · rename_i cs
        simp only [Rep] at hx
        obtain ⟨us, rfl, hus⟩ := hx
        obtain ⟨v, h1, h2⟩ := run_part (w := w) h hus
        exact ⟨v, by simp [Instr.field, run_underlying hu, hf, asAgg, h1], h2⟩
      · cases h
    · cases h
  · cases h

def sindexAddr (P : Program) (t : TypeId) (x i : SV) : Option SV :=
  match natOf i with
  | none => none
  | some k => match P.underlying t with
    | some (.array n e) => match tySz P e, x, Nat.ble (k + 1) n with
      | some sz, .ptr nm off, true => some (.ptr nm (off + k * sz))
      | _, _, _ => none
    | some (.slice e) => match tySz P e, x with
      | some sz, .slice nm off len _ => match Nat.ble (k + 1) len with
        | true => some (.ptr nm (off + k * sz))
        | false => none
      | some sz, .oslice nm off len _ => match Nat.ble (k + 1) len with
        | true => some (.ptr nm (off + k * sz))
        | false => none
      | _, _ => none
    | _ => none

theorem run_sindexAddr {t : TypeId} {x i s : SV} {u v : Value} (h : sindexAddr P t x i = some s) (hx : Rep ρ env x u) (hi : Rep ρ env i v) :
    ∃ r, (Instr.indexAt t u v).run P w = .ok r w ∧ Rep ρ env s r := by
  unfold sindexAddr at h
  split at h
  · cases h
  · rename_i k hk
    obtain ⟨kk, rfl⟩ := natOf_spec hk hi
    split at h
    · rename_i n e hu
      split at h
      · rename_i sz nm off hsz hlt
        have hlt := ble_true hlt
        cases h
        simp only [Rep] at hx
        obtain ⟨b, m, h1, rfl⟩ := hx
        refine ⟨.pointer (some ⟨b, off + k * sz, none⟩), ?_, by simp only [Rep]; exact ⟨b, m, h1, rfl⟩⟩
        have hb : (0 : Int) ≤ (k : Int) ∧ (k : Int) < (n : Int) := ⟨by omega, by omega⟩
        simp only [Instr.indexAt, Sem.run_bind, asIntOf, Sem.run_pure, Result.andThen_ok, run_underlying hu, Instr.sureAddr, hb, and_self, if_true, run_sizeOf' hsz, addr_add, Int.toNat_natCast]
      · cases h
    · rename_i e hu
      split at h
      · rename_i sz nm off len cap hsz
        split at h
        · rename_i hlt
          have hlt := ble_true hlt
          cases h
          simp only [Rep] at hx
          obtain ⟨b, m, h1, rfl⟩ := hx
          refine ⟨.pointer (some ⟨b, off + k * sz, none⟩), ?_, by simp only [Rep]; exact ⟨b, m, h1, rfl⟩⟩
          simp [Instr.indexAt, asIntOf, run_underlying hu, Instr.sureAddr, run_sizeOf' hsz, addr_add]
          omega
        · cases h
      · rename_i sz nm off len esz hsz
        split at h
        · rename_i hlt
          have hlt := ble_true hlt
          cases h
          simp only [Rep] at hx
          obtain ⟨b, m, c, h1, rfl, _⟩ := hx
          refine ⟨.pointer (some ⟨b, off + k * sz, none⟩), ?_, by simp only [Rep]; exact ⟨b, m, h1, rfl⟩⟩
          simp [Instr.indexAt, asIntOf, run_underlying hu, Instr.sureAddr, run_sizeOf' hsz, addr_add]
          omega
        · cases h
      · cases h
    · cases h

def sindex (P : Program) (t : TypeId) (x i : SV) : Option SV :=
  match natOf i with
  | none => none
  | some k => match P.underlying t with
    | some (.array n e) => match tySz P e, x, Nat.ble (k + 1) n with
      | some sz, .agg cs, true => spart P e cs (k * sz)
      | _, _, _ => none
    | some .string => match x with
      | .str s => match nth s.data.toList k with
        | some b => some (.int .u8 (Int.ofNat b.toNat))
        | none => none
      | _ => none
    | _ => none

theorem run_sindex {t : TypeId} {x i s : SV} {u v : Value} (h : sindex P t x i = some s) (hx : Rep ρ env x u) (hi : Rep ρ env i v) :
    ∃ r, (Instr.index t u v).run P w = .ok r w ∧ Rep ρ env s r := by
  unfold sindex at h
  split at h
  · cases h
  · rename_i k hk
    obtain ⟨kk, rfl⟩ := natOf_spec hk hi
    split at h
    · rename_i n e hu
      split at h
      · rename_i sz cs hsz hlt
        have hlt := ble_true hlt
        simp only [Rep] at hx
        obtain ⟨us, rfl, hus⟩ := hx
        obtain ⟨r, h1, h2⟩ := run_part (w := w) h hus
        refine ⟨r, ?_, h2⟩
        have : ((0 : Int) ≤ (k : Int) ∧ (k : Int) < (n : Int)) := ⟨by omega, by omega⟩
        simp [Instr.index, asIntOf, run_underlying hu, run_sizeOf' hsz, hlt, h1]
        omega
      · cases h
    · rename_i hu
      split at h
      · rename_i str
        split at h
        · rename_i b hb
          cases h
          simp only [Rep] at hx
          subst hx
          rw [nth_eq] at hb
          have hb' : str[k]? = some b := by
            have h1 := (List.getElem?_eq_some_iff.1 hb)
            obtain ⟨h2, h3⟩ := h1
            have h4 : k < str.size := h2
            rw [getElem?_pos str k h4]
            simp only [ByteArray.getElem_eq_getElem_data]
            simpa using h3
          refine ⟨.int .u8 (b.toNat : Int), by simp [Instr.index, asIntOf, run_underlying hu, hb'], by simp [Rep]⟩
        · cases h
      · cases h
    · cases h

/-! ### Loads -/

def sload (P : Program) (M : Mem) (t : TypeId) (x : SV) : Option SV :=
  match x with
  | .ptr nm off => match M.get nm with
    | some B => match isAggT P t with
      | some true => match tySz P t with
        | some n => match B.cellsFrom off n with
          | some l => some (.agg l)
          | none => none
        | none => none
      | some false => match Nat.ble (Nat.succ off) B.size with
        | true => B.at off
        | false => none
      | none => none
    | none => none
  | _ => none

theorem run_loadVar_own {t : TypeId} {B : Blk} {b n off : Nat} {s : SV} (hC : Cellar ρ env B b n w)
    (h : (match isAggT P t with
      | some true => match tySz P t with
        | some n => match B.cellsFrom off n with
          | some l => some (.agg l)
          | none => none
        | none => none
      | some false => match Nat.ble (Nat.succ off) B.size with
        | true => B.at off
        | false => none
      | none => none) = some s) : ∃ v, (loadVar t ⟨b, off, none⟩).run P w = .ok v w ∧ Rep ρ env s v := by
  split at h
  · rename_i ha
    split at h
    · rename_i k hk
      split at h
      · rename_i l hl
        cases h
        obtain ⟨vs, h1, h2⟩ := run_loadCells_own (P := P) hC hl
        exact ⟨.agg vs, by simp [loadVar, run_isAgg' ha, run_sizeOf' hk, h1], by simp only [Rep]; exact ⟨_, rfl, h2⟩⟩
      · cases h
    · cases h
  · rename_i ha
    split at h
    · rename_i hlt
      have hlt := ble_true hlt
      obtain ⟨v, h1, h2⟩ := run_load_own (P := P) hC hlt h
      exact ⟨v, by simp only [loadVar, Sem.run_bind, run_isAgg' ha, Result.andThen_ok]; exact h1, h2⟩
    · cases h
  · cases h

theorem run_sload {M : Mem} {t : TypeId} {x s : SV} {u : Value} (H : Holds ρ env M.get w) (h : sload P M t x = some s) (hx : Rep ρ env x u) :
    ∃ v, (Instr.loadAt t u).run P w = .ok v w ∧ Rep ρ env s v := by
  unfold sload at h
  split at h
  · rename_i nm off
    split at h
    · rename_i B hB
      simp only [Rep] at hx
      obtain ⟨b, n, h1, rfl⟩ := hx
      obtain ⟨b', n', h2, hC⟩ := H.blk nm B hB
      rw [h1] at h2
      cases h2
      obtain ⟨v, h3, h4⟩ := run_loadVar_own (P := P) hC h
      exact ⟨v, by simp [Instr.loadAt, Instr.sureAddr, h3], h4⟩
    · cases h
  · cases h

/-! ### Lengths -/

def slenOf : SV → Option Nat
  | .slice _ _ len _ => some len
  | .oslice _ _ len _ => some len
  | .eslice => some 0
  | .nilslice => some 0
  | _ => none

def slen (P : Program) (t : TypeId) (x : SV) : Option SV :=
  match P.underlying t with
  | some .string => match x with
    | .str s => some (.int .i64 (Int.ofNat s.data.toList.length))
    | .astr i => some (.sint .i64 (.len i))
    | _ => none
  | some (.array n _) => some (.int .i64 (Int.ofNat n))
  | some (.slice _) => match x with
    | .aslice i => some (.sint .i64 (.len i))
    | _ => match slenOf x with
      | some n => some (.int .i64 (Int.ofNat n))
      | none => none
  | some (.pointer a) => match P.underlying a with
    | some (.array n _) => some (.int .i64 (Int.ofNat n))
    | _ => none
  | some (.map _ _) => match x with
    | .nilmap => some (.int .i64 0)
    | _ => none
  | _ => none

theorem slenOf_spec {x : SV} {n : Nat} {u : Value} (h : slenOf x = some n) (hx : Rep ρ env x u) : ∃ a c, u = .slice a n c := by
  cases x <;> simp only [slenOf] at h <;> first | (cases h; done) | skip
  all_goals cases h; simp only [Rep] at hx
  · obtain ⟨_, _, _, rfl⟩ := hx; exact ⟨_, _, rfl⟩
  · obtain ⟨_, _, _, _, rfl, _⟩ := hx; exact ⟨_, _, rfl⟩
  · obtain ⟨_, _, rfl⟩ := hx; exact ⟨_, _, rfl⟩
  · subst hx; exact ⟨_, _, rfl⟩

theorem run_slen {t ty : TypeId} {x s : SV} {u : Value} {ts : Array TypeId} (ht : ts[0]? = some t) (h : slen P t x = some s) (hx : Rep ρ env x u) :
    ∃ v, (Builtin.len_ ts ty #[u]).run P w = .ok v w ∧ Rep ρ env s v := by
  unfold slen at h
  split at h
  · rename_i hu
    split at h
    · rename_i str
      cases h
      simp only [Rep] at hx; subst hx
      exact ⟨goInt str.size, by simp [Builtin.len_, ht, run_underlying hu], by simp only [Rep, goInt]; rfl⟩
    · rename_i i
      cases h
      simp only [Rep] at hx
      obtain ⟨str, rfl, he⟩ := hx
      exact ⟨goInt str.size, by simp [Builtin.len_, ht, run_underlying hu], by simp only [Rep, goInt, IE.eval, binI]; rw [← he]; rfl⟩
    · cases h
  · rename_i n e hu
    cases h
    exact ⟨goInt n, by simp [Builtin.len_, ht, run_underlying hu], by simp [Rep, goInt]⟩
  · rename_i e hu
    split at h
    · rename_i i
      cases h
      simp only [Rep] at hx
      obtain ⟨a, n, c, rfl, he⟩ := hx
      exact ⟨goInt n, by simp [Builtin.len_, ht, run_underlying hu], by simp only [Rep, goInt, IE.eval, binI]; rw [← he]; rfl⟩
    · split at h
      · rename_i n hn
        cases h
        obtain ⟨a, c, rfl⟩ := slenOf_spec hn hx
        exact ⟨goInt n, by simp [Builtin.len_, ht, run_underlying hu], by simp [Rep, goInt]⟩
      · cases h
  · rename_i a hu
    split at h
    · rename_i n e hu'
      cases h
      exact ⟨goInt n, by simp [Builtin.len_, ht, run_underlying hu, run_underlying hu'], by simp [Rep, goInt]⟩
    · cases h
  · rename_i k e hu
    split at h
    · cases h
      simp only [Rep] at hx; subst hx
      exact ⟨goInt 0, by simp [Builtin.len_, ht, run_underlying hu], by simp [Rep, goInt]⟩
    · cases h
  · cases h

def scapOf : SV → Option Nat
  | .slice _ _ _ cap => some cap
  | .nilslice => some 0
  | _ => none

def scap (P : Program) (t : TypeId) (x : SV) : Option SV :=
  match P.underlying t with
  | some (.array n _) => some (.int .i64 (Int.ofNat n))
  | some (.slice _) => match scapOf x with
    | some n => some (.int .i64 (Int.ofNat n))
    | none => none
  | _ => none

theorem run_scap {t ty : TypeId} {x s : SV} {u : Value} {ts : Array TypeId} (ht : ts[0]? = some t) (h : scap P t x = some s) (hx : Rep ρ env x u) :
    ∃ v, (Builtin.cap_ ts ty #[u]).run P w = .ok v w ∧ Rep ρ env s v := by
  unfold scap at h
  split at h
  · rename_i n e hu
    cases h
    exact ⟨goInt n, by simp [Builtin.cap_, ht, run_underlying hu], by simp [Rep, goInt]⟩
  · rename_i e hu
    split at h
    · rename_i n hn
      cases h
      cases x <;> simp only [scapOf] at hn <;> first | (cases hn; done) | skip
      all_goals cases hn; simp only [Rep] at hx
      · obtain ⟨b, m, _, rfl⟩ := hx
        exact ⟨goInt n, by simp [Builtin.cap_, ht, run_underlying hu], by simp [Rep, goInt]⟩
      · subst hx
        exact ⟨goInt 0, by simp [Builtin.cap_, ht, run_underlying hu], by simp [Rep, goInt]⟩
    · cases h
  · cases h

def smin2 (mx : Bool) (x y : SV) : Option SV :=
  match x, y with
  | .int k a, .int _ b => some (.int k (match mx with | false => (match ilt b a with | true => b | false => a) | true => (match ilt a b with | true => b | false => a)))
  | _, _ => match toIE x, toIE y with
    | some (k, a), some (_, b) => match ieEq a b with
      | true => some (.sint k a)
      | false => some (.sint k (.bin (match mx with | false => .lss | true => .gtr) k a b))
    | _, _ => none

theorem run_smin2 {x y s : SV} {u v : Value} (h : smin2 false x y = some s) (hx : Rep ρ env x u) (hy : Rep ρ env y v) : ∃ r, (Builtin.min2 u v).run P w = .ok r w ∧ Rep ρ env s r := by
  unfold smin2 at h
  split at h
  · rename_i k a k' b
    cases h
    simp only [Rep] at hx hy; subst hx; subst hy
    refine ⟨.int k (if b < a then b else a), by simp [Builtin.min2], ?_⟩
    simp only [Rep, ilt_spec]
    by_cases h : b < a <;> simp [h]
  · split at h
    · rename_i k a k' b ha hb
      have e1 := toIE_spec ha hx
      have e2 := toIE_spec hb hy
      subst e1; subst e2
      refine ⟨.int k (if b.eval env < a.eval env then b.eval env else a.eval env), by simp [Builtin.min2], ?_⟩
      split at h
      · rename_i he
        have := ieEq_spec _ _ he; subst this
        cases h
        simp [Rep]
      · cases h; simp [Rep, IE.eval, binI]
    · cases h

theorem run_smax2 {x y s : SV} {u v : Value} (h : smin2 true x y = some s) (hx : Rep ρ env x u) (hy : Rep ρ env y v) : ∃ r, (Builtin.max2 u v).run P w = .ok r w ∧ Rep ρ env s r := by
  unfold smin2 at h
  split at h
  · rename_i k a k' b
    cases h
    simp only [Rep] at hx hy; subst hx; subst hy
    refine ⟨.int k (if b > a then b else a), by simp [Builtin.max2], ?_⟩
    simp only [Rep, ilt_spec]
    by_cases h : a < b <;> simp [h]
  · split at h
    · rename_i k a k' b ha hb
      have e1 := toIE_spec ha hx
      have e2 := toIE_spec hb hy
      subst e1; subst e2
      refine ⟨.int k (if b.eval env > a.eval env then b.eval env else a.eval env), by simp [Builtin.max2], ?_⟩
      split at h
      · rename_i he
        have := ieEq_spec _ _ he; subst this
        cases h
        simp [Rep]
      · cases h; simp [Rep, IE.eval, binI]
    · cases h

/-! ### Interfaces, tuples, conversions -/

def sholds (ok : Bool) (s : SV) : Option SV := some (match ok with | true => .tuple [s, .bool true] | false => s)
def sfails (P : Program) (ty : TypeId) (ok : Bool) : Option SV :=
  match ok with
  | false => none
  | true => match zeroS P ty with
    | some z => some (.tuple [z, .bool false])
    | none => none

def isIfaceD : TypeDesc → Bool
  | .interface _ => true
  | _ => false

/-- has a type all these methods? (The model's own answer names the least that lacks, by searching texts: the kernel cannot run that.) -/
def hasAll (got : Array Method) : List (String × TypeId) → Bool
  | [] => true
  | (name, sig) :: l => match got.any fun m => m.name == name && m.sig == sig with
    | true => hasAll got l
    | false => false

theorem hasAll_filter (got : Array Method) : ∀ (l : List (String × TypeId)), hasAll got l = (l.filter fun (name, sig) => !got.any fun m => m.name == name && m.sig == sig).isEmpty
  | [] => rfl
  | (name, sig) :: l => by
    simp only [hasAll, List.filter_cons]
    cases got.any fun m => m.name == name && m.sig == sig with
    | true => simpa using hasAll_filter got l
    | false => simp

theorem least_some {l : List String} (h : l ≠ []) : ∃ m, Instr.least l = some m := by
  cases l with
  | nil => exact absurd rfl h
  | cons s l => exact ⟨_, rfl⟩

theorem part_some (p : String → Bool) (g : String → String) (x : String) (l : List String) :
    ∃ m, (match (x :: l).partition p with | (u, e) => Instr.least e <|> Instr.least (u.map g)) = some m := by
  rw [List.partition_eq_filter_filter]
  cases hb : p x with
  | true =>
    obtain ⟨m, hm⟩ := least_some (l := ((x :: l).filter p).map g) (by simp [hb])
    cases he : Instr.least ((x :: l).filter (not ∘ p)) with
    | some y => exact ⟨y, by simp only [he]; rfl⟩
    | none => exact ⟨m, by simp only [he, hm]; rfl⟩
  | false =>
    obtain ⟨m, hm⟩ := least_some (l := (x :: l).filter (not ∘ p)) (by simp [hb])
    exact ⟨m, by simp only [hm]; rfl⟩

theorem hasAll_true {want : Array (String × TypeId)} {got : Array Method} (h : hasAll got want.toList = true) : Instr.missingMethod want got = none := by
  rw [hasAll_filter] at h
  have h := List.isEmpty_iff.mp h
  simp only [Instr.missingMethod, h]
  rfl

theorem hasAll_false {want : Array (String × TypeId)} {got : Array Method} (h : hasAll got want.toList = false) : ∃ m, Instr.missingMethod want got = some m := by
  rw [hasAll_filter] at h
  have h : (want.toList.filter fun (name, sig) => !got.any fun m => m.name == name && m.sig == sig) ≠ [] := by
    intro e; rw [e] at h; cases h
  unfold Instr.missingMethod
  generalize (want.toList.filter fun (name, sig) => !got.any fun m => m.name == name && m.sig == sig) = l at h
  cases l with
  | nil => exact absurd rfl h
  | cons x l =>
    exact part_some (fun s => s.contains '.') (fun id => (id.splitOn ".").getLastD id) x.1 (l.map (·.1))

def sassert (P : Program) (x : SV) (ty : TypeId) (ok : Bool) : Option SV :=
  match P.underlying ty with
  | none => none
  | some d => match x with
    | .niliface => sfails P ty ok
    | .iface t s => match d with
      | .interface want => match P.info? t with
        | some i => match hasAll i.methods want.toList with
          | true => sholds ok x
          | false => sfails P ty ok
        | none => none
      | _ => match Nat.beq t ty with
        | true => sholds ok s
        | false => sfails P ty ok
    | _ => none

theorem sholds_spec {ok : Bool} {s' s : SV} {u' : Value} (h : sholds ok s' = some s) (h2 : Rep ρ env s' u') : Rep ρ env s (if ok then .tuple #[u', .bool true] else u') := by
  unfold sholds at h
  cases h
  cases ok with
  | true => simp only [Rep, if_true]; exact ⟨_, rfl, by simp only [RepL]; exact ⟨_, _, rfl, h2, _, _, rfl, by simp [Rep], rfl⟩⟩
  | false => simpa using h2

theorem sfails_spec {ty : TypeId} {ok : Bool} {s : SV} (h : sfails P ty ok = some s) :
    ok = true ∧ ∃ z, (zeroValue ty).run P w = .ok z w ∧ Rep ρ env s (.tuple #[z, .bool false]) := by
  unfold sfails at h
  split at h
  · cases h
  · split at h
    · rename_i z hz
      cases h
      obtain ⟨v, r1, r2, _⟩ := run_zero (ρ := ρ) (env := env) (w := w) hz
      exact ⟨rfl, v, r1, by simp only [Rep]; exact ⟨_, rfl, by simp only [RepL]; exact ⟨_, _, rfl, r2, _, _, rfl, by simp [Rep], rfl⟩⟩⟩
    · cases h

theorem run_sassert {x s : SV} {xt ty : TypeId} {ok : Bool} {u : Value} (h : sassert P x ty ok = some s) (hx : Rep ρ env x u) :
    ∃ v, (Instr.typeAssert u xt ty ok).run P w = .ok v w ∧ Rep ρ env s v := by
  unfold sassert at h
  cases hu : P.underlying ty with
  | none => simp [hu] at h
  | some d =>
    simp only [hu] at h
    split at h
    · simp only [Rep] at hx; subst hx
      obtain ⟨rfl, z, h1, h2⟩ := sfails_spec (w := w) h
      refine ⟨.tuple #[z, .bool false], ?_, h2⟩
      simp only [Instr.typeAssert, Sem.run_bind, run_underlying hu, Result.andThen_ok]
      cases d <;> simp [h1]
    · rename_i t s'
      have hx0 := hx
      simp only [Rep] at hx
      obtain ⟨u', rfl, hu'⟩ := hx
      split at h
      · rename_i want
        split at h
        · rename_i i hi
          split at h
          · rename_i hm
            have hm := hasAll_true hm
            exact ⟨_, by simp [Instr.typeAssert, run_underlying hu, typeInfo, hi, hm], sholds_spec h hx0⟩
          · rename_i hm
            obtain ⟨m, hm⟩ := hasAll_false hm
            obtain ⟨rfl, z, h1, h2⟩ := sfails_spec (w := w) h
            exact ⟨_, by simp [Instr.typeAssert, run_underlying hu, typeInfo, hi, hm, h1], h2⟩
        · cases h
      · rename_i hni
        split at h
        · rename_i hb
          have hb := Nat.eq_of_beq_eq_true hb
          subst hb
          refine ⟨_, ?_, sholds_spec h hu'⟩
          simp only [Instr.typeAssert, Sem.run_bind, run_underlying hu, Result.andThen_ok]
          cases d <;> first | exact absurd rfl (hni _) | simp
        · rename_i hb
          rw [nat_beq] at hb
          have hb : ¬ t = ty := by simpa using hb
          obtain ⟨rfl, z, h1, h2⟩ := sfails_spec (w := w) h
          refine ⟨.tuple #[z, .bool false], ?_, h2⟩
          simp only [Instr.typeAssert, Sem.run_bind, run_underlying hu, Result.andThen_ok]
          cases d <;> first | exact absurd rfl (hni _) | simp [h1, hb]
    · cases h

def sextract (x : SV) (i : Nat) : Option SV :=
  match x with
  | .tuple l => nth l i
  | _ => none

theorem run_sextract {x s : SV} {i : Nat} {u : Value} (h : sextract x i = some s) (hx : Rep ρ env x u) : ∃ v, (Instr.extract u i).run P w = .ok v w ∧ Rep ρ env s v := by
  unfold sextract at h
  split at h
  · rw [nth_eq] at h
    simp only [Rep] at hx
    obtain ⟨us, rfl, hus⟩ := hx
    obtain ⟨v, hv, hr⟩ := hus.get i s h
    have hv' : us[i]? = some v := by simpa using hv
    exact ⟨v, by simp [Instr.extract, hv'], hr⟩
  · cases h

/-- numbers of one byte, in turn -/
def bytesOf : List SV → Option (List UInt8)
  | [] => some []
  | .int .u8 (.ofNat n) :: l => match bytesOf l with
    | some bs => some (UInt8.ofNat n :: bs)
    | none => none
  | _ => none

def sconvert (P : Program) (M : Mem) (src dst : TypeId) (x : SV) : Option SV :=
  match P.underlying dst with
  | some (.int k) => match x with
    | .int _ n => match P.underlying src with
      | some _ => some (.int k (wrapK k n))
      | none => none
    | .sint k' e => match P.underlying src with
      | some _ => match kEq k' k with
        | true => some (.sint k (.wrap k e))
        | false => some (.sint k (.wrap k e))
      | none => none
    | _ => none
  | some .string => match x with
    | .str s => match P.underlying src with
      | some .string => some x
      | _ => none
    | _ => match P.underlying src with
      | some (.slice e) => match P.underlying e with
        | some (.int .u8) => match x with
          | .nilslice => some (.str .empty)
          | .slice nm off len _ => match M.get nm with
            | some B => match B.cellsFrom off len with
              | some l => match bytesOf l with
                | some bs => some (.str ⟨⟨bs⟩⟩)
                | none => none
              | none => none
            | none => none
          | .oslice nm off len _ => match M.get nm with
            | some B => match B.cellsFrom off len with
              | some l => match bytesOf l with
                | some bs => some (.str ⟨⟨bs⟩⟩)
                | none => none
              | none => none
            | none => none
          | _ => none
        | _ => none
      | _ => none
  | _ => none

theorem bytesOf_spec : ∀ (l : List SV) (bs : List UInt8) (vs : List Value), bytesOf l = some bs → RepL ρ env l vs →
    ∃ ns : List Int, vs = ns.map (Value.int .u8) ∧ ∀ a : ByteArray, ns.foldl (fun r n => r.push (UInt8.ofNat n.toNat)) a = ⟨⟨a.data.toList ++ bs⟩⟩
  | [], bs, vs, h, hr => by
    simp only [bytesOf, Option.some.injEq] at h; subst h
    simp only [RepL] at hr; subst hr
    exact ⟨[], rfl, fun a => by simp⟩
  | s :: l, bs, vs, h, hr => by
    unfold bytesOf at h
    split at h
    · rename_i h0; cases h0
    · rename_i x n l' he
      cases he
      split at h
      · rename_i bs' hb
        cases h
        simp only [RepL] at hr
        obtain ⟨v, vs', rfl, h2, h3⟩ := hr
        simp only [Rep] at h2
        subst h2
        obtain ⟨ns, rfl, h4⟩ := bytesOf_spec l bs' vs' hb h3
        refine ⟨(Int.ofNat n) :: ns, rfl, fun a => ?_⟩
        simp only [List.foldl_cons, h4]
        congr 2
        simp [ByteArray.push]
      · cases h
    · cases h

theorem run_bytes {a : Addr} {len cap : Nat} {l : List SV} {bs : List UInt8} {vs : Array Value} (hl : (loadCells a len).run P w = .ok vs w) (hr : RepL ρ env l vs.toList) (hb : bytesOf l = some bs) :
    (Conv.bytesToString (.slice (some a) len cap)).run P w = .ok (.string ⟨⟨bs⟩⟩) w := by
  obtain ⟨ns, h1, h2⟩ := bytesOf_spec l bs _ hb hr
  have hvs : vs = (ns.map (Value.int .u8)).toArray := by apply Array.ext'; simpa using h1
  rw [run_bytesToString w a len cap ns (by rw [hl, hvs]), h2]
  congr 3

theorem run_sconvert {M : Mem} {src dst : TypeId} {x s : SV} {u : Value} (H : Holds ρ env M.get w) (h : sconvert P M src dst x = some s) (hx : Rep ρ env x u) :
    ∃ v, (convert src dst u).run P w = .ok v w ∧ Rep ρ env s v := by
  unfold sconvert at h
  split at h
  · rename_i k hd
    split at h
    · rename_i k' n
      split at h
      · rename_i d hs
        cases h
        simp only [Rep] at hx; subst hx
        exact ⟨.int k (k.wrap n), by simp [convert, run_underlying hs, run_underlying hd, Conv.intToInt], by simp [Rep, wrapK_eq]⟩
      · cases h
    · rename_i k' e
      split at h
      · rename_i d hs
        have h' : s = .sint k (.wrap k e) := by split at h <;> (cases h; rfl)
        subst h'
        simp only [Rep] at hx; subst hx
        exact ⟨.int k (k.wrap (e.eval env)), by simp [convert, run_underlying hs, run_underlying hd, Conv.intToInt], by simp [Rep, IE.eval, binI]⟩
      · cases h
    · cases h
  · rename_i hd
    split at h
    · split at h
      · rename_i hs
        cases h
        have hx0 := hx
        simp only [Rep] at hx; subst hx
        exact ⟨_, by simp [convert, run_underlying hs, run_underlying hd], hx0⟩
      · cases h
    · split at h
      · rename_i e hs
        split at h
        · rename_i he
          split at h
          · cases h
            simp only [Rep] at hx; subst hx
            exact ⟨.string .empty, by rw [run_convert_bytes_string w src dst e none 0 0 hs he hd]; simp [Conv.bytesToString], by simp only [Rep]⟩
          · rename_i nm off len cap _
            split at h
            · rename_i B hB
              split at h
              · rename_i l hl
                split at h
                · rename_i bs hbs
                  cases h
                  simp only [Rep] at hx
                  obtain ⟨b, n, h1, rfl⟩ := hx
                  obtain ⟨b', n', h2, hC⟩ := H.blk nm B hB
                  rw [h1] at h2; cases h2
                  obtain ⟨vs, h3, h4⟩ := run_loadCells_own (P := P) hC hl
                  exact ⟨_, by rw [run_convert_bytes_string w src dst e _ _ _ hs he hd]; exact run_bytes h3 h4 hbs, by simp [Rep]⟩
                · cases h
              · cases h
            · cases h
          · rename_i nm off len esz _
            split at h
            · rename_i B hB
              split at h
              · rename_i l hl
                split at h
                · rename_i bs hbs
                  cases h
                  simp only [Rep] at hx
                  obtain ⟨b, n, c, h1, rfl, _⟩ := hx
                  obtain ⟨b', n', h2, hC⟩ := H.blk nm B hB
                  rw [h1] at h2; cases h2
                  obtain ⟨vs, h3, h4⟩ := run_loadCells_own (P := P) hC hl
                  exact ⟨_, by rw [run_convert_bytes_string w src dst e _ _ _ hs he hd]; exact run_bytes h3 h4 hbs, by simp [Rep]⟩
                · cases h
              · cases h
            · cases h
          · cases h
        · cases h
      · cases h
  · cases h

end
end Go.Sym
