/- Operations that turn memory: stores, appends, copies. -/
import Derived.Test.YtkfejcffacbngaaSyH
namespace Go.Sym
open Go Go.RowKit
set_option linter.unusedVariables false

def isIntD : TypeDesc → Bool
  | .int _ => true
  | _ => false

/-- what is appended or copied: how many elements, their cells -/
def srcCells (M : Mem) (sz : Nat) (x : SV) : Option (Nat × List SV) :=
  match x with
  | .nilslice => some (0, [])
  | .eslice => some (0, [])
  | .slice nm off len _ => match M.get nm with
    | some B => match B.cellsFrom off (len * sz) with
      | some l => some (len, l)
      | none => none
    | none => none
  | .oslice nm off len _ => match M.get nm with
    | some B => match B.cellsFrom off (len * sz) with
      | some l => some (len, l)
      | none => none
    | none => none
  | .str s => match sz with
    | 1 => some (s.data.toList.length, byteCells s.data.toList)
    | _ => none
  | _ => none

def sgrow (P : Program) (M : Mem) (e need sz : Nat) (B : Blk) (at_ : Nat) (l : List SV) : Option (SV × Mem) :=
  match P.info? e, zeroS P e with
  | some i, some z => match Nat.ble need 9223372036854775807, Nat.ble (need * i.bytes) 140737488355328, Nat.beq z.cells.length sz with
    | true, true, true => match Blk.puts { B with elem := e, size := need * sz, opn := true, row := none } at_ l with
      | some B' => match M.new B' with
        | some (nm, M') => some (.oslice nm 0 need sz, M')
        | none => none
      | none => none
    | _, _, _ => none
  | _, _ => none

def sappend (P : Program) (M : Mem) (ts : Array TypeId) (s x : SV) : Option (SV × Mem) :=
  match ts[0]?, ts[1]? with
  | some t, some xt => match P.underlying t, P.underlying xt with
    | some (.slice e), some d => match isIntD d, tySz P e with
      | false, some sz => match srcCells M sz x with
        | none => none
        | some (n, l) => match s with
          | .nilslice => match n with
            | 0 => some (.nilslice, M)
            | n' + 1 => sgrow P M e (n' + 1) sz { elem := e, size := 0, zs := [], tr := .nil, opn := true } 0 l
          | .slice nm off len cap => match M.get nm with
            | none => none
            | some B => match Nat.ble (len + n) cap with
              | true => match B.puts (off + len * sz) l with
                | some B' => match M.set nm (some B') with
                  | some M' => some (.slice nm off (len + n) cap, M')
                  | none => none
                | none => none
              | false => match B.cellsFrom off (len * sz) with
                | some old => sgrow P M e (len + n) sz { elem := e, size := 0, zs := [], tr := .nil, opn := true } 0 (old ++ l)
                | none => none
          | .oslice nm off len esz => match n with
            | 0 => some (.oslice nm off len esz, M)
            | n' + 1 => match M.get nm with
              | none => none
              | some B => match Nat.beq off 0, Nat.beq esz sz, Nat.beq B.elem e, Nat.ble (len * sz) B.size with
                | true, true, true, true => match M.set nm none with
                  | some M1 => sgrow P M1 e (len + (n' + 1)) sz B (len * sz) l
                  | none => none
                | _, _, _, _ => none
          | _ => none
      | _, _ => none
    | _, _ => none
  | _, _ => none

/-- how many elements there are to copy from -/
def srcLen (x : SV) : Option Nat :=
  match x with
  | .str s => some s.data.toList.length
  | _ => slenOf x

/-- the cells of the first n elements -/
def srcN (M : Mem) (sz n : Nat) (x : SV) : Option (List SV) :=
  match x with
  | .slice nm off len _ => match M.get nm with
    | some B => B.cellsFrom off (n * sz)
    | none => none
  | .oslice nm off len _ => match M.get nm with
    | some B => B.cellsFrom off (n * sz)
    | none => none
  | .str s => match sz with
    | 1 => some (byteCells (s.data.toList.take n))
    | _ => none
  | _ => none

def dstOf : SV → Option (Nat × Nat)
  | .slice nm off _ _ => some (nm, off)
  | .oslice nm off _ _ => some (nm, off)
  | _ => none

def scopy (P : Program) (M : Mem) (ts : Array TypeId) (d x : SV) : Option (SV × Mem) :=
  match ts[0]? with
  | some t => match P.underlying t with
    | some (.slice e) => match tySz P e, slenOf d, srcLen x with
      | some sz, some dl, some sl =>
        match Nat.min sl dl with
        | 0 => match srcN M sz 0 x, x with
          | some _, _ => some (.int .i64 0, M)
          | none, .nilslice => some (.int .i64 0, M)
          | _, _ => none
        | n' + 1 => match srcN M sz (n' + 1) x, dstOf d with
          | some l, some (nm, off) => match M.get nm with
            | some B => match B.puts off l with
              | some B' => match M.set nm (some B') with
                | some M' => some (.int .i64 (Int.ofNat (n' + 1)), M')
                | none => none
              | none => none
            | none => none
          | _, _ => none
      | _, _, _ => none
    | _ => none
  | none => none

def sstore (P : Program) (M : Mem) (t : TypeId) (a v : SV) : Option Mem :=
  match a with
  | .ptr nm off => match v.isTuple, tySz P t, M.get nm with
    | false, some n, some B => match Nat.beq v.cells.length n with
      | true => match B.puts off v.cells with
        | some B' => M.set nm (some B')
        | none => none
      | false => none
    | _, _, _ => none
  | _ => none

section
variable {ρ : Rho} {env : Env} {w : World} {P : Program} {L : Nat}

theorem Holds.at {g : Get} {nm : Nat} {B : Blk} {b n : Nat} (H : Holds ρ env g w) (hB : g nm = some B) (hr : ρ nm = some (b, n)) : Cellar ρ env B b n w := by
  obtain ⟨b', n', h1, h2⟩ := H.blk nm B hB
  rw [hr] at h1; cases h1
  exact h2

theorem run_sstore {M M' : Mem} {t : TypeId} {a x : SV} {u v : Value} (H : Holds ρ env M.get w) (hd : Free L ρ M.next) (h : sstore P M t a x = some M') (ha : Rep ρ env a u) (hx : Rep ρ env x v) :
    ∃ w', (Instr.storeAt t u v).run P w = .ok () w' ∧ Post env L ρ M.get M.next w ρ M'.get M'.next w' := by
  unfold sstore at h
  split at h
  · rename_i nm off
    split at h
    · rename_i n B ht hsz hB
      split at h
      · rename_i hl
        have hl := Nat.eq_of_beq_eq_true hl
        split at h
        · rename_i B' hp
          obtain ⟨hn, hg⟩ := Mem.set_spec h
          simp only [Rep] at ha
          obtain ⟨b, k, h1, rfl⟩ := ha
          have hC := H.at hB h1
          have hcells := hx.cells ht
          have hlen : v.cells.size = x.cells.length := by have := hcells.length; simpa using this
          obtain ⟨w', r1, r2, r3⟩ := run_storeCells_own (P := P) x.cells v.cells.toList B B' off 0 w hC (by simpa using hp) hcells
          refine ⟨w', ?_, by rw [hn]; exact post_upd H hd hB h1 hg r3 r2⟩
          have hne : ¬ (v.cells.size ≠ n) := by omega
          simp only [Instr.storeAt, Instr.sureAddr, storeVar, Sem.run_bind, Sem.run_pure, Result.andThen_ok, run_sizeOf' hsz, hne, if_false]
          exact r1
        · cases h
      · cases h
    · cases h
  · cases h

theorem srcCells_spec {M : Mem} {sz n : Nat} {x : SV} {l : List SV} {u : Value} (H : Holds ρ env M.get w) (h : srcCells M sz x = some (n, l)) (hx : Rep ρ env x u) :
    (Builtin.lenOf u).run P w = .ok n w ∧ (∃ vs : Array Value, (Builtin.firstCells sz n u).run P w = .ok vs w ∧ RepL ρ env l vs.toList) ∧ l.length = n * sz := by
  unfold srcCells at h
  split at h
  · cases h
    simp only [Rep] at hx; subst hx
    exact ⟨by simp [Builtin.lenOf], ⟨#[], by simp [Builtin.firstCells], by simp [RepL]⟩, by simp⟩
  · cases h
    simp only [Rep] at hx
    obtain ⟨a, c, rfl⟩ := hx
    exact ⟨by simp [Builtin.lenOf], ⟨#[], by simp [Builtin.firstCells, loadCells, loadCellsFrom], by simp [RepL]⟩, by simp⟩
  · rename_i nm off len cap
    split at h
    · rename_i B hB
      split at h
      · rename_i l' hl
        cases h
        simp only [Rep] at hx
        obtain ⟨b, k, h1, rfl⟩ := hx
        obtain ⟨vs, h2, h3⟩ := run_loadCells_own (P := P) (H.at hB h1) hl
        exact ⟨by simp [Builtin.lenOf], ⟨vs, by simpa [Builtin.firstCells] using h2, h3⟩, (Blk.cellsFrom_spec _ _ _ hl).1⟩
      · cases h
    · cases h
  · rename_i nm off len esz
    split at h
    · rename_i B hB
      split at h
      · rename_i l' hl
        cases h
        simp only [Rep] at hx
        obtain ⟨b, k, c, h1, rfl, _⟩ := hx
        obtain ⟨vs, h2, h3⟩ := run_loadCells_own (P := P) (H.at hB h1) hl
        exact ⟨by simp [Builtin.lenOf], ⟨vs, by simpa [Builtin.firstCells] using h2, h3⟩, (Blk.cellsFrom_spec _ _ _ hl).1⟩
      · cases h
    · cases h
  · rename_i str
    split at h
    · cases h
      simp only [Rep] at hx; subst hx
      have e : (str.extract 0 str.data.toList.length).data = str.data := by
        have h1 : str.data.toList.length = str.size := rfl
        rw [h1, ByteArray.data_extract]
        have h2 : str.size = str.data.size := rfl
        rw [h2]; simp
      refine ⟨by simp only [Builtin.lenOf, Sem.run_pure]; rfl, ⟨_, by simp only [Builtin.firstCells, Sem.run_pure]; rfl, ?_⟩, ?_⟩
      · rw [e]
        have := byteCells_rep (ρ := ρ) (env := env) str.data.toList
        simpa using this
      · have := (byteCells_rep (ρ := ρ) (env := env) str.data.toList).length
        simp only [List.length_map] at this
        omega
    · cases h
  · cases h

theorem notInt {d : TypeDesc} (hd : isIntD d = false) : Builtin.append_.match_1 (fun _ => Bool) d (fun _ => true) (fun _ => false) = false := by cases d <;> first | rfl | cases hd

section append
variable {ts : Array TypeId} {t xt e : TypeId} {d : TypeDesc} {sz n len cap : Nat} {base : Option Addr} {v : Value} {vs : Array Value} (ty : TypeId)
  (h0 : ts[0]? = some t) (h1 : ts[1]? = some xt) (hu : P.underlying t = some (.slice e)) (hx : P.underlying xt = some d) (hd : isIntD d = false) (hsz : tySz P e = some sz)
  (hn : (Builtin.lenOf v).run P w = .ok n w)
include h0 h1 hu hx hd hsz hn

theorem append_fits (hv : (Builtin.firstCells sz n v).run P w = .ok vs w) (hfit : len + n ≤ cap) : (Builtin.append_ ts ty #[.slice base len cap, v]).run P w =
    match base with
    | some a => ((storeCells (a.add (len * sz)) vs.toList).run P w).andThen fun _ w' => .ok (.slice base (len + n) cap) w'
    | none => .ok (.slice none (len + n) cap) w := by
  have hz := notInt hd
  cases base with
  | none =>
    unfold Builtin.append_
    simp only [h0, h1, List.getElem?_toArray, List.getElem?_cons_zero, List.getElem?_cons_succ]
    simp only [Sem.run_bind, run_underlying hu, Result.andThen_ok, run_sizeOf' hsz, run_underlying hx, Sem.run_pure, hz, Bool.false_eq_true, if_false, hn, hfit, if_true, Bool.not_false, hv]
  | some a =>
    unfold Builtin.append_
    simp only [h0, h1, List.getElem?_toArray, List.getElem?_cons_zero, List.getElem?_cons_succ]
    simp only [Sem.run_bind, run_underlying hu, Result.andThen_ok, run_sizeOf' hsz, run_underlying hx, Sem.run_pure, hz, Bool.false_eq_true, if_false, hn, hfit, if_true, Bool.not_false, hv]

theorem append_grows {i : TypeInfo} {zv : Value} {old : Array Value} (hi : P.info? e = some i) (hzv : i.zero = some zv) (hfit : ¬ len + n ≤ cap) (hm : len + n ≤ 9223372036854775807)
    (hb : (len + n) * i.bytes ≤ 140737488355328) (ho : ∀ w', w'.heap = w.heap → (Builtin.firstCells sz len (.slice base len cap)).run P w' = .ok old w') (hv : ∀ w', w'.heap = w.heap → (Builtin.firstCells sz n v).run P w' = .ok vs w') :
    ∃ newCap rest, len + n ≤ newCap ∧ rest.size = (newCap - (len + n)) * zv.cells.size ∧ (Builtin.append_ ts ty #[.slice base len cap, v]).run P w =
      .ok (.slice (some ⟨w.heap.size, 0, none⟩) (len + n) newCap) (w.drew.alloc (.cells (old ++ vs ++ rest) e)) := by
  let q : Question := .appendCap (len + n) cap e
  let newCap := q.cut (w.tape w.drawn q)
  refine ⟨newCap, Builtin.zeroCells zv.cells (newCap - (len + n)), by simp [newCap, q, Question.cut], by simp [Builtin.zeroCells], ?_⟩
  have hmax : ¬ (((len + n : Nat) : Int) > IntKind.i64.max) := by
    have : IntKind.i64.max = 9223372036854775807 := by decide
    omega
  have hcap : ¬ (Builtin.nextslicecap (len + n) cap * i.bytes > 2 ^ 48) := by
    have h2 := growslice_fits (need := len + n) (old := cap) (bytes := i.bytes) (by omega) hb
    have : (2 : Nat) ^ 48 = 281474976710656 := by decide
    omega
  have hmax' : ¬ ((len : Int) + (n : Int) > IntKind.i64.max) := by
    have : IntKind.i64.max = 9223372036854775807 := by decide
    omega
  have ho' := ho w.drew rfl
  have hv' := hv w.drew rfl
  have hz := notInt hd
  unfold Builtin.append_
  simp only [h0, h1, List.getElem?_toArray, List.getElem?_cons_zero, List.getElem?_cons_succ]
  simp only [Sem.run_bind, run_underlying hu, Result.andThen_ok, run_sizeOf' hsz, run_underlying hx, Sem.run_pure, hz, Bool.false_eq_true, if_false, hn, hfit, Bool.not_false, if_true, typeInfo, run_program, hi, hmax, false_and, hcap,
    run_choose, Question.forced, run_askRoom, World.drew_eq, ho', hv', zeroValue, hzv, newRow, run_newObj, World.alloc_eq]
  rfl

end append
end
end Go.Sym
