/- Operations that make a block. -/
import Derived.Test.YtkfejcffacbngaaSyG
namespace Go.Sym
open Go Go.RowKit
set_option linter.unusedVariables false

section
variable {ρ : Rho} {env : Env} {w : World} {P : Program} {ev : Ev} {av : Operand → Value}

/-- What a new row must be for the block B. -/
structure RowFor (ρ : Rho) (env : Env) (B : Blk) (cells : Array Value) (lo hi : Nat) : Prop where
  le : B.size ≤ cells.size
  shut : B.opn = false → B.size = cells.size
  free : lo = hi ∨ cells.size ≤ lo
  row : ∀ i, i < B.size → ∃ s v, B.at i = some s ∧ s.one = true ∧ cells[i]? = some v ∧ Rep ρ env s v
  rows : ∀ r cnt ks, B.row = some (r, cnt, ks) → (B.size = 0 ∧ RowOk env r cnt ks) ∧ ∀ j x, (r.reval env)[j]? = some x → cells[j]? = some (Value.int (kindAt ks j) x)

def rset (ρ : Rho) (nm : Nat) (x : Nat × Nat) : Rho := fun m => if m = nm then some x else ρ m

theorem rset_same (ρ : Rho) (nm : Nat) (x : Nat × Nat) : rset ρ nm x nm = some x := by simp [rset]
theorem rset_sub {ρ : Rho} {nm : Nat} {x : Nat × Nat} (h : ρ nm = none) : Sub ρ (rset ρ nm x) := by
  intro m y hy
  by_cases hm : m = nm
  · subst hm; rw [h] at hy; cases hy
  · simp [rset, hm, hy]

theorem holds_new {g g' : Get} {B : Blk} {nm : Nat} (H : Holds ρ env g w) (hn : ρ nm = none) (hg : ∀ m, g' m = if m = nm then some B else g m) {cells : Array Value} {lo hi : Nat} (hr : RowFor ρ env B cells lo hi) :
    Holds (rset ρ nm (w.heap.size, cells.size)) env g' (w.alloc (.cells cells B.elem (lo, hi))) := by
  have hsub : Sub ρ (rset ρ nm (w.heap.size, cells.size)) := rset_sub hn
  have hold : ∀ k, k < w.heap.size → (w.alloc (.cells cells B.elem (lo, hi))).heap[k]? = w.heap[k]? := fun k hk => heap_alloc_old _ _ _ hk
  refine ⟨?_, ?_, ?ro⟩
  case ro =>
    intro i R hR
    obtain ⟨k1, k2, k3⟩ := H.ro i R hR
    refine ⟨by rw [World.size_alloc]; omega, k2.of_block (hold _ k1), fun m C n hC hρ => ?_⟩
    rw [hg m] at hC
    by_cases h : m = nm
    · simp only [rset, h, if_true, Option.some.injEq, Prod.mk.injEq] at hρ
      omega
    · simp only [h, if_false] at hC
      simp only [rset, h, if_false] at hρ
      exact k3 m C n hC hρ
  · intro m C hC
    rw [hg m] at hC
    by_cases h : m = nm
    · simp only [h, if_true, Option.some.injEq] at hC
      subst hC
      refine ⟨w.heap.size, cells.size, by simp [rset, h], ⟨⟨cells, lo, hi, heap_alloc_new _ _, rfl, hr.free, fun i hi => ?_⟩, hr.le, hr.shut, fun r cnt ks hrw => ⟨(hr.rows r cnt ks hrw).1, fun j x hx => ?_⟩⟩⟩
      rotate_left
      · have := (hr.rows r cnt ks hrw).2 j x hx
        have hnew := heap_alloc_new w (.cells cells B.elem (lo, hi))
        simp only [World.cell?]; rw [hnew]; simpa using this
      obtain ⟨s, v, a, b, c, d⟩ := hr.row i hi
      exact ⟨s, v, a, b, c, Rep.mono hsub _ _ d⟩
    · simp only [h, if_false] at hC
      obtain ⟨b, n, h1, h2⟩ := H.blk m C hC
      exact ⟨b, n, hsub _ _ h1, h2.of_block hsub (hold b (H.lt hC h1))⟩
  · intro m m' C C' b n n' h1 h2 h3 h4
    rw [hg m] at h1
    rw [hg m'] at h2
    by_cases h : m = nm <;> by_cases h' : m' = nm
    · rw [h, h']
    · simp only [h', if_false] at h2
      simp only [rset, h, if_true, Option.some.injEq, Prod.mk.injEq] at h3
      simp only [rset, h', if_false] at h4
      have := H.lt h2 h4
      omega
    · simp only [h, if_false] at h1
      simp only [rset, h', if_true, Option.some.injEq, Prod.mk.injEq] at h4
      simp only [rset, h, if_false] at h3
      have := H.lt h1 h3
      omega
    · simp only [h, if_false] at h1
      simp only [h', if_false] at h2
      simp only [rset, h, if_false] at h3
      simp only [rset, h', if_false] at h4
      exact H.inj _ _ _ _ _ _ _ h1 h2 h3 h4

/-! ### The operations -/

/-- how the new block is handed back -/
inductive AK where
  | ptr
  | slice (len cap : Nat)
  | oslice (len esz : Nat)

def AK.mk (k : AK) (nm : Nat) : SV :=
  match k with
  | .ptr => .ptr nm 0
  | .slice len cap => .slice nm 0 len cap
  | .oslice len esz => .oslice nm 0 len esz

def allOne : List SV → Bool
  | [] => true
  | s :: l => match s.one with
    | true => allOne l
    | false => false

theorem allOne_spec : ∀ {l : List SV}, allOne l = true → ∀ s ∈ l, s.one = true
  | [], _, s, hs => by cases hs
  | x :: l, h, s, hs => by
    simp only [allOne] at h
    split at h
    · rename_i h1
      cases hs with
      | head => exact h1
      | tail _ hm => exact allOne_spec h s hm
    · cases h

/-- A block of these cells. -/
def rowOf (elem : TypeId) (l : List SV) : Option Blk :=
  match allOne l with
  | true => some { elem := elem, size := l.length, zs := l, tr := .nil, opn := false }
  | false => none

def zpat (n : Nat) (zs : List SV) : List SV := (List.range n).map fun i => (nth zs (Nat.mod i zs.length)).getD (.tuple [])

def byteCells : List UInt8 → List SV
  | [] => []
  | b :: l => .int .u8 (Int.ofNat b.toNat) :: byteCells l

def salloc (P : Program) (ev : Ev) (o : Oper) : Option (Blk × AK) :=
  match o.op with
  | .alloc elem => match zeroS P elem with
    | some z => match rowOf elem z.cells with
      | some B => some (B, .ptr)
      | none => none
    | none => none
  | .box elem x => match ev x with
    | some s => match s.isTuple, rowOf elem s.cells with
      | false, some B => some (B, .ptr)
      | _, _ => none
    | none => none
  | .buildSlice t len ps => match P.underlying t with
    | some (.slice e) => match tySz P e, zeroS P e, evP ev ps.toList with
      | some sz, some z, some l => match Nat.ble (len * sz) 16777216, Nat.beq z.cells.length sz with
        | true, true => match sfill (fun i => some (i * sz, sz)) (zpat (len * sz) z.cells) l with
          | some cs => match rowOf e cs with
            | some B => some (B, .slice len len)
            | none => none
          | none => none
        | _, _ => none
      | _, _, _ => none
    | _ => none
  | .makeSlice t l c => match P.underlying t with
    | some (.slice e) => match P.info? e, ev l, ev c with
      | some i, some a, some b => match natOf a, natOf b, zeroS P e with
        | some n, some m, some z => match Nat.ble n m, Nat.ble m 9223372036854775807, Nat.ble (i.bytes * m) 281474976710656, Nat.beq z.cells.length i.size, allOne z.cells with
          | true, true, true, true, true => some ({ elem := e, size := m * i.size, zs := z.cells, tr := .nil, opn := false }, .slice n m)
          | _, _, _, _, _ => none
        | _, _, _ => none
      | _, _, _ => none
    | _ => none
  | .convert src dst x => match P.underlying src, P.underlying dst with
    | some _, some (.slice e) => match P.underlying e with
      | some (.int .u8) => match ev x with
        | some (.str s) => some ({ elem := e, size := s.data.toList.length, zs := byteCells s.data.toList, tr := .nil, opn := true }, .oslice s.data.toList.length 1)
        | _ => none
      | _ => none
    | _, _ => none
  | _ => none

theorem rowOf_spec {elem : TypeId} {l : List SV} {B : Blk} {vs : Array Value} (h : rowOf elem l = some B) (hr : RepL ρ env l vs.toList) : B.elem = elem ∧ RowFor ρ env B vs 0 0 := by
  unfold rowOf at h
  split at h
  · rename_i ho
    cases h
    have hl := hr.length
    have hl : vs.size = l.length := by simpa using hl
    refine ⟨rfl, ⟨by simp [hl], by simp [hl], by simp, fun i hi => ?_, fun r cnt ks h => by simp at h⟩⟩
    simp only [] at hi
    have hs : l[i]? = some l[i] := by simp [hi]
    obtain ⟨v, h1, h2⟩ := hr.get i _ hs
    refine ⟨l[i], v, ?_, allOne_spec ho _ (by simp), by simpa using h1, h2⟩
    simp only [Blk.at, Tr.get_nil, nth_eq]
    have : Nat.mod i l.length = i := Nat.mod_eq_of_lt hi
    rw [this, hs]
  · cases h

theorem zpat_rep {n : Nat} {zs : List SV} {vs : Array Value} (hr : RepL ρ env zs vs.toList) (hz : 0 < zs.length ∨ n = 0) : RepL ρ env (zpat n zs) ((Array.range n).map (vs[· % vs.size]!)).toList := by
  have hl := hr.length
  have hl : vs.size = zs.length := by simpa using hl
  refine RepL.of_get (by simp [zpat]) fun i s hs => ?_
  rcases hz with hz | hz
  · have hi : i < n := by
      have := (List.getElem?_eq_some_iff.1 hs).1
      simpa [zpat] using this
    have hm : i % zs.length < zs.length := Nat.mod_lt _ hz
    have hz' : zs[i % zs.length]? = some zs[i % zs.length] := by simp [hm]
    obtain ⟨v, h1, h2⟩ := hr.get _ _ hz'
    have hs' : s = zs[i % zs.length] := by
      have e : Nat.mod i zs.length = i % zs.length := rfl
      simp [zpat, hi, nth_eq, e, hz'] at hs
      exact hs.symm
    subst hs'
    refine ⟨v, ?_, h2⟩
    have h1' : vs[i % zs.length]? = some v := by simpa using h1
    have hlt : i % zs.length < vs.size := by omega
    have : vs[i % vs.size]! = v := by
      rw [hl]
      have := (Array.getElem?_eq_some_iff.1 h1').2
      rw [getElem!_pos vs (i % zs.length) hlt]
      exact this
    simp [hi, this]
  · subst hz; simp [zpat] at hs

theorem byteCells_rep : ∀ (l : List UInt8), RepL ρ env (byteCells l) (l.map fun b => Value.int .u8 (b.toNat : Int))
  | [] => by simp [byteCells, RepL]
  | b :: l => by simp only [byteCells, List.map_cons, RepL]; exact ⟨_, _, rfl, by simp [Rep], byteCells_rep l⟩

theorem byteCells_one : ∀ (l : List UInt8), ∀ s ∈ byteCells l, s.one = true
  | [], s, hs => by cases hs
  | b :: l, s, hs => by
    simp only [byteCells] at hs
    cases hs with
    | head => rfl
    | tail _ hm => exact byteCells_one l s hm

theorem wrap64 {n : Nat} (h : n ≤ 9223372036854775807) : IntKind.i64.wrap (n : Int) = n := by
  have : fitsK .i64 (Int.ofNat n) = true := by simp [fitsK, nat_ble, h]
  exact fitsK_spec this

theorem freeze_alloc (w : World) (cells : Array Value) (e : TypeId) :
    (w.alloc (.cells cells e)).freeze ⟨w.heap.size, cells.size, none⟩ 1 = w.alloc (.cells cells e (cells.size, cells.size + 1)) := by
  simp only [World.freeze, World.alloc]
  rw [if_neg (by omega)]
  congr 1
  apply Array.ext
  · simp
  · intro i h1 h2
    simp only [Array.getElem_modify, Array.getElem_push]
    simp only [Array.size_modify, Array.size_push] at h1
    by_cases h : i = w.heap.size
    · subst h; simp
    · have : i < w.heap.size := by omega
      have h3 : ¬ w.heap.size = i := fun e => h e.symm
      simp [this, h3]

theorem run_markStringish (w : World) (cells : Array Value) (e : TypeId) :
    (markStringish ⟨w.heap.size, 0, none⟩).run P (w.alloc (.cells cells e)) = .ok () (w.alloc (.cells cells e (cells.size, cells.size + 1))) := by
  have hshape : (w.alloc (.cells cells e)).shape? w.heap.size = some (e, cells.size) := by simp only [World.shape?, heap_alloc_new]
  simp only [markStringish, Sem.run_bind, run_shape, Result.andThen_ok, hshape, run_freeze]
  rw [freeze_alloc]

theorem run_stringToBytes (w : World) (e : TypeId) (s : ByteArray) :
    let q : Question := .appendCap s.size 0 e
    let cap := q.cut (w.tape w.drawn q)
    let cells : Array Value := (s.data.map fun b => .int .u8 b.toNat) ++ Array.replicate (cap - s.size) (.int .u8 0)
    (Conv.stringToBytes e s).run P w = .ok (.slice (some ⟨w.heap.size, 0, none⟩) s.size cap) (w.drew.alloc (.cells cells e (cells.size, cells.size + 1))) := by
  intro q cap cells
  have h := run_markStringish (P := P) w.drew cells e
  simp only [Conv.stringToBytes, Sem.run_bind, run_choose, Question.forced, Bool.false_eq_true, if_false, Result.andThen_ok, newRow, run_newObj, Sem.run_pure, World.alloc_eq, World.drew_eq]
  have hs : w.drew.heap.size = w.heap.size := rfl
  rw [hs] at h ⊢
  rw [h]
  rfl

theorem run_salloc {o : Oper} {B : Blk} {k : AK} (hev : EvOk ρ env ev av) (h : salloc P ev o = some (B, k)) :
    ∃ v w0 cells lo hi, (w0 = w ∨ w0 = w.drew) ∧ (execOp av o).run P w = .ok (.value v) (w0.alloc (.cells cells B.elem (lo, hi))) ∧ RowFor ρ env B cells lo hi ∧
      ∀ (ρ' : Rho) nm, ρ' nm = some (w.heap.size, cells.size) → Rep ρ' env (k.mk nm) v := by
  unfold salloc at h
  split at h
  · rename_i elem ho
    split at h
    · rename_i z hz
      split at h
      · rename_i B' hB
        cases h
        obtain ⟨i, zv, hi, hzv, hrz, _, htz⟩ := zeroS_spec (ρ := ρ) (env := env) hz
        obtain ⟨h1, h2⟩ := rowOf_spec hB (hrz.cells htz)
        refine ⟨.pointer (some ⟨w.heap.size, 0, none⟩), w, zv.cells, 0, 0, .inl rfl, ?_, h2, fun ρ' nm hn => by simp only [AK.mk, Rep]; exact ⟨_, _, hn, rfl⟩⟩
        simp [execOp, ho, Instr.alloc, zeroValue, typeInfo, hi, hzv, newVar, newRow, h1]
      · cases h
    · cases h
  · rename_i elem x ho
    split at h
    · rename_i s hs
      split at h
      · rename_i B' ht hB
        cases h
        have hr := hev _ _ hs
        obtain ⟨h1, h2⟩ := rowOf_spec hB (hr.cells ht)
        refine ⟨.pointer (some ⟨w.heap.size, 0, none⟩), w, (av x).cells, 0, 0, .inl rfl, ?_, h2, fun ρ' nm hn => by simp only [AK.mk, Rep]; exact ⟨_, _, hn, rfl⟩⟩
        simp [execOp, ho, Instr.box, newVar, newRow, h1]
      · cases h
    · cases h
  · rename_i t len ps ho
    split at h
    · rename_i e hu
      split at h
      · rename_i sz z l hsz hz hl
        split at h
        · rename_i hb hzl
          have hb := ble_true hb
          have hzl := Nat.eq_of_beq_eq_true hzl
          split at h
          · rename_i cs hf
            split at h
            · rename_i B' hB
              cases h
              obtain ⟨i, zv, hi, hzv, hrz, _, htz⟩ := zeroS_spec (ρ := ρ) (env := env) hz
              have hzc := hrz.cells htz
              have hzs : zv.cells.size = z.cells.length := by have := hzc.length; simpa using this
              have hp := evP_spec hev hl
              let zero : Array Value := if len * sz = 0 then #[] else zv.cells
              have hzrun : ((if len * sz = 0 then pure #[] else do pure (← zeroValue e).cells : Sem (Array Value))).run P w = .ok zero w := by
                by_cases h0 : len * sz = 0
                · simp [zero, h0]
                · simp [zero, h0, zeroValue, typeInfo, hi, hzv]
              have hpat : RepL ρ env (zpat (len * sz) z.cells) ((Array.range (len * sz)).map (zero[· % zero.size]!)).toList := by
                by_cases h0 : len * sz = 0
                · simp [h0, zpat, RepL]
                · have : zero = zv.cells := by simp [zero, h0]
                  rw [this]
                  refine zpat_rep hzc (.inl ?_)
                  rw [hzl]
                  exact Nat.pos_of_ne_zero fun e0 => h0 (by rw [e0]; simp)
              obtain ⟨cells', r1, r2⟩ := run_fill l _ cs _ _ hf hp hpat
              obtain ⟨h1, h2⟩ := rowOf_spec hB r2
              refine ⟨.slice (some ⟨w.heap.size, 0, none⟩) len len, w, cells', 0, 0, .inl rfl, ?_, h2, fun ρ' nm hn => by simp only [AK.mk, Rep]; exact ⟨_, _, hn, rfl⟩⟩
              have hno : ¬ (len * sz > 2 ^ 24) := by
                have : (2 : Nat) ^ 24 = 16777216 := by decide
                omega
              have r1' : Instr.fill (fun i => some (i * sz, sz)) ((Array.range (len * sz)).map (zero[· % zero.size]!)) (ps.map fun (i, x) => (i, av x)).toList = some cells' := by simpa using r1
              by_cases h0 : len * sz = 0
              · have hz0 : zero = #[] := by simp [zero, h0]
                rw [hz0, h0] at r1'
                rw [h0] at hno
                simp only [execOp, ho, Instr.buildSlice, Sem.run_bind, run_underlying hu, Result.andThen_ok, run_sizeOf' hsz, h0, hno, if_false, if_true, Sem.run_pure]
                simp only [r1', newRow, Sem.run_bind, run_newObj, Result.andThen_ok, Sem.run_pure, h1]
                rfl
              · have hz0 : zero = zv.cells := by simp [zero, h0]
                rw [hz0] at r1'
                simp only [execOp, ho, Instr.buildSlice, Sem.run_bind, run_underlying hu, Result.andThen_ok, run_sizeOf' hsz, h0, hno, if_false, Sem.run_pure, zeroValue, typeInfo, run_program, hi, hzv]
                simp only [r1', newRow, Sem.run_bind, run_newObj, Result.andThen_ok, Sem.run_pure, h1]
                rfl
            · cases h
          · cases h
        · cases h
      · cases h
    · cases h
  · rename_i t l c ho
    split at h
    · rename_i e hu
      split at h
      · rename_i i a b hi ha hb
        split at h
        · rename_i n m z hn hm hz
          split at h
          · rename_i b1 b2 b3 b4 b5
            cases h
            have b1 := ble_true b1
            have b2 := ble_true b2
            have b3 := ble_true b3
            have b4 := Nat.eq_of_beq_eq_true b4
            obtain ⟨k1, e1⟩ := natOf_spec hn (hev _ _ ha)
            obtain ⟨k2, e2⟩ := natOf_spec hm (hev _ _ hb)
            obtain ⟨i', zv, hi', hzv, hrz, _, htz⟩ := zeroS_spec (ρ := ρ) (env := env) hz
            rw [hi] at hi'; cases hi'
            have hzc := hrz.cells htz
            have hzs : zv.cells.size = z.cells.length := by have := hzc.length; simpa using this
            let zero : Array Value := if m * i.size = 0 then #[] else zv.cells
            have hzrun : ((if m * i.size = 0 then pure #[] else do pure (← zeroValue e).cells : Sem (Array Value))).run P w = .ok zero w := by
              by_cases h0 : m * i.size = 0
              · simp [zero, h0]
              · simp [zero, h0, zeroValue, typeInfo, hi, hzv]
            let cells : Array Value := (Array.range (m * i.size)).map (zero[· % zero.size]!)
            have hcs : cells.size = m * i.size := by simp [cells]
            refine ⟨.slice (some ⟨w.heap.size, 0, none⟩) n m, w, cells, 0, 0, .inl rfl, ?_, ⟨by simp [hcs], by simp [hcs], by simp, fun j hj => ?_, fun r cnt ks h => by simp at h⟩,
              fun ρ' nm hn => by simp only [AK.mk, Rep]; exact ⟨_, _, hn, rfl⟩⟩
            · have hw1 : IntKind.i64.wrap (n : Int) = n := wrap64 (by omega)
              have hw2 : IntKind.i64.wrap (m : Int) = m := wrap64 b2
              have hmul : ((i.bytes : Int) * (m : Int)) = ((i.bytes * m : Nat) : Int) := by simp
              have hbig : ¬ ((i.bytes : Int) * (m : Int) > 2 ^ 48) := by
                rw [hmul]
                have : (2 : Int) ^ 48 = 281474976710656 := by decide
                omega
              have hc : ¬ ((m : Int) < 0) := by omega
              have hl0 : ¬ ((n : Int) < 0) := by omega
              have hl1 : ¬ ((n : Int) > (m : Int)) := by omega
              by_cases h0 : m * i.size = 0
              · have hz0 : zero = #[] := by simp [zero, h0]
                simp only [execOp, ho, e1, e2, Instr.makeSlice, Sem.run_bind, run_underlying hu, Result.andThen_ok, asInt, asIntOf, Sem.run_pure, typeInfo, run_program, hi, hw1, hw2, hbig, hc, hl0, hl1, decide_false, Bool.or_false,
                  Bool.false_eq_true, if_false, run_askRoom, Int.toNat_natCast, sizeOf, h0, if_true, newRow, run_newObj, cells, hz0]
                rfl
              · have hz0 : zero = zv.cells := by simp [zero, h0]
                simp only [execOp, ho, e1, e2, Instr.makeSlice, Sem.run_bind, run_underlying hu, Result.andThen_ok, asInt, asIntOf, Sem.run_pure, typeInfo, run_program, hi, hw1, hw2, hbig, hc, hl0, hl1, decide_false, Bool.or_false,
                  Bool.false_eq_true, if_false, run_askRoom, Int.toNat_natCast, sizeOf, h0, newRow, run_newObj, cells, hz0, zeroValue, hzv]
                rfl
            · simp only [] at hj
              have hpos : 0 < i.size := Nat.pos_of_ne_zero fun e0 => by rw [e0] at hj; simp at hj
              have h0 : ¬ m * i.size = 0 := by omega
              have hz0 : zero = zv.cells := by simp [zero, h0]
              have hmm : j % z.cells.length < z.cells.length := Nat.mod_lt _ (by omega)
              have hs : z.cells[j % z.cells.length]? = some z.cells[j % z.cells.length] := by simp [hmm]
              obtain ⟨v, h1, h2⟩ := hzc.get _ _ hs
              refine ⟨_, v, ?_, allOne_spec b5 z.cells[j % z.cells.length] (by simp), ?_, h2⟩
              · simp only [Blk.at, Tr.get_nil, nth_eq]
                exact hs
              · have h1' : zv.cells[j % z.cells.length]? = some v := by simpa using h1
                have hlt : j % z.cells.length < zv.cells.size := by omega
                have : zv.cells[j % zv.cells.size]! = v := by
                  rw [hzs, getElem!_pos zv.cells (j % z.cells.length) hlt]
                  exact (Array.getElem?_eq_some_iff.1 h1').2
                simp only [cells, hz0]
                simp [hj, this]
          · cases h
        · cases h
      · cases h
    · cases h
  · rename_i src dst x ho
    split at h
    · rename_i d e hs hd
      split at h
      · rename_i he
        split at h
        · rename_i str hx
          cases h
          have hr := hev _ _ hx
          simp only [Rep] at hr
          let q : Question := .appendCap str.size 0 e
          let cap := q.cut (w.tape w.drawn q)
          have hcap : str.size ≤ cap := by simp [cap, q, Question.cut]
          let elems : Array Value := str.data.map fun b => .int .u8 b.toNat
          let cells : Array Value := elems ++ Array.replicate (cap - str.size) (.int .u8 0)
          have hsz : str.data.size = str.size := rfl
          have hcs : cells.size = cap := by simp [cells, elems, hsz]; omega
          refine ⟨.slice (some ⟨w.heap.size, 0, none⟩) str.size cap, w.drew, cells, cells.size, cells.size + 1, .inr rfl, ?_, ⟨?_, by simp, Or.inr (Nat.le_refl _), fun j hj => ?_, fun r cnt ks h => by simp at h⟩, fun ρ' nm hn => ?_⟩
          · have hrun : (convert src dst (.string str)).run P w = (Conv.stringToBytes e str).run P w := by
              simp [convert, run_underlying hs, run_underlying hd, run_underlying he]
            have h0 := run_stringToBytes (P := P) w e str
            simp only [execOp, ho, hr, Sem.run_bind, hrun]
            rw [h0]
            rfl
          · show str.data.toList.length ≤ cells.size
            rw [hcs]; simpa using hcap
          · have hj' : j < str.data.toList.length := hj
            have hlen : (byteCells str.data.toList).length = str.data.toList.length := by have := (byteCells_rep (ρ := ρ) (env := env) str.data.toList).length; simpa using this.symm
            have hs' : (byteCells str.data.toList)[j]? = some ((byteCells str.data.toList)[j]'(by omega)) := by simp
            obtain ⟨v, h1, h2⟩ := (byteCells_rep (ρ := ρ) (env := env) str.data.toList).get j _ hs'
            refine ⟨_, v, ?_, byteCells_one _ _ (List.getElem_mem (by omega)), ?_, h2⟩
            · simp only [Blk.at, Tr.get_nil, nth_eq]
              have : Nat.mod j (byteCells str.data.toList).length = j := Nat.mod_eq_of_lt (by omega)
              rw [this]; exact hs'
            · have hj2 : j < elems.size := by simpa [elems] using hj'
              simp only [cells]
              rw [Array.getElem?_append_left hj2]
              simpa [elems] using h1
          · simp only [AK.mk, Rep]
            refine ⟨_, _, cap, hn, rfl, by omega, ?_⟩
            simpa using hcap
        · cases h
      · cases h
    · cases h
  · cases h

end
end Go.Sym
