/- A region that draws its order: its run in the order of the text, and what must hold that every other order does the same. -/
import Derived.Test.YtkfejcffacbngaaSyL
namespace Go.Sym
open Go Go.RowKit
set_option linter.unusedVariables false

/-! ### Which operations stand ahead of which -/

def maskE (ms : List Nat) : List Edge → Nat → Option Nat
  | [], acc => some acc
  | e :: es, acc => match Region.binds .any e with
    | false => maskE ms es acc
    | true => match nth ms e.on with
      | some b => maskE ms es (Nat.lor (Nat.lor acc (Nat.shiftLeft 1 e.on)) b)
      | none => none

def masksGo : List Oper → List Nat → Option (List Nat)
  | [], acc => some acc
  | o :: os, acc => match maskE acc o.after.toList 0 with
    | some m => masksGo os (acc ++ [m])
    | none => none

def masks (ops : List Oper) : Option (List Nat) := masksGo ops []

theorem testBit_lor (a b k : Nat) : (Nat.lor a b).testBit k = (a.testBit k || b.testBit k) := Nat.testBit_or a b k
theorem testBit_shl (j k : Nat) : (Nat.shiftLeft 1 j).testBit k = decide (j = k) := by
  have : Nat.shiftLeft 1 j = 2 ^ j := by
    show 1 <<< j = _
    rw [Nat.shiftLeft_eq]; omega
  rw [this, Nat.testBit_two_pow]

theorem maskE_spec {ms : List Nat} : ∀ (es : List Edge) (acc m : Nat), maskE ms es acc = some m →
    (∀ k, acc.testBit k = true → m.testBit k = true) ∧
    (∀ e ∈ es, Region.binds .any e = true → e.on < ms.length ∧ m.testBit e.on = true ∧ ∀ b, ms[e.on]? = some b → ∀ k, b.testBit k = true → m.testBit k = true) ∧
    (∀ k, m.testBit k = true → acc.testBit k = true ∨ ∃ e ∈ es, Region.binds .any e = true ∧ (k = e.on ∨ ∃ b, ms[e.on]? = some b ∧ b.testBit k = true))
  | [], acc, m, h => by
    simp only [maskE, Option.some.injEq] at h; subst h
    exact ⟨fun _ h => h, by simp, fun k h => .inl h⟩
  | e :: es, acc, m, h => by
    simp only [maskE] at h
    split at h
    · rename_i hb
      obtain ⟨h1, h2, h3⟩ := maskE_spec es acc m h
      refine ⟨h1, fun e' he' hb' => ?_, fun k hk => ?_⟩
      · cases he' with
        | head => rw [hb] at hb'; cases hb'
        | tail _ hm => exact h2 e' hm hb'
      · rcases h3 k hk with h4 | ⟨e', he', h5⟩
        · exact .inl h4
        · exact .inr ⟨e', by simp [he'], h5⟩
    · rename_i hb
      split at h
      · rename_i b hn
        rw [nth_eq] at hn
        obtain ⟨h1, h2, h3⟩ := maskE_spec es _ m h
        have hlt := (List.getElem?_eq_some_iff.1 hn).1
        refine ⟨fun k hk => h1 k (by simp [testBit_lor, hk]), fun e' he' hb' => ?_, fun k hk => ?_⟩
        · cases he' with
          | head =>
            refine ⟨hlt, h1 _ (by simp [testBit_lor, testBit_shl]), fun b' hb'' k hk => h1 k ?_⟩
            rw [hn] at hb''; cases hb''
            simp [testBit_lor, hk]
          | tail _ hm => exact h2 e' hm hb'
        · rcases h3 k hk with h4 | ⟨e', he', h5⟩
          · simp only [testBit_lor, testBit_shl, Bool.or_eq_true, decide_eq_true_eq] at h4
            rcases h4 with (h4 | h4) | h4
            · exact .inl h4
            · exact .inr ⟨e, by simp, hb, .inl h4.symm⟩
            · exact .inr ⟨e, by simp, hb, .inr ⟨b, hn, h4⟩⟩
          · exact .inr ⟨e', by simp [he'], h5⟩
      · cases h

/-- What is known of an operation's mask. -/
structure MaskOk (ms : List Nat) (i : Nat) (o : Oper) (m : Nat) : Prop where
  edge : ∀ e ∈ o.after.toList, Region.binds .any e = true → e.on < i ∧ m.testBit e.on = true ∧ ∀ b, ms[e.on]? = some b → ∀ k, b.testBit k = true → m.testBit k = true
  from_ : ∀ k, m.testBit k = true → ∃ e ∈ o.after.toList, Region.binds .any e = true ∧ (k = e.on ∨ ∃ b, ms[e.on]? = some b ∧ b.testBit k = true)

theorem masksGo_spec : ∀ (os : List Oper) (acc ms : List Nat), masksGo os acc = some ms →
    ms.length = acc.length + os.length ∧ (∀ (j b : Nat), acc[j]? = some b → ms[j]? = some b) ∧ ∀ (j : Nat) (o : Oper), os[j]? = some o → ∃ m, ms[acc.length + j]? = some m ∧ MaskOk ms (acc.length + j) o m
  | [], acc, ms, h => by
    simp only [masksGo, Option.some.injEq] at h; subst h
    exact ⟨by simp, fun _ _ h => h, by simp⟩
  | o :: os, acc, ms, h => by
    simp only [masksGo] at h
    split at h
    · rename_i m hm
      obtain ⟨h1, h2, h3⟩ := masksGo_spec os _ ms h
      obtain ⟨g1, g2, g3⟩ := maskE_spec _ _ _ hm
      have hkeep : ∀ (j b : Nat), acc[j]? = some b → ms[j]? = some b := fun j b hj => h2 j b (by rw [List.getElem?_append_left (List.getElem?_eq_some_iff.1 hj).1]; exact hj)
      refine ⟨by rw [h1]; simp; omega, hkeep, fun j o' hj => ?_⟩
      cases j with
      | zero =>
        simp at hj; subst hj
        refine ⟨m, h2 _ _ (by simp), ⟨fun e he hb => ?_, fun k hk => ?_⟩⟩
        · obtain ⟨q1, q2, q3⟩ := g2 e he hb
          refine ⟨by simpa using q1, q2, fun b hb' k hk => ?_⟩
          have : acc[e.on]? = some acc[e.on] := by simp [q1]
          have h4 := hkeep _ _ this
          rw [hb'] at h4; cases h4
          exact q3 _ this k hk
        · rcases g3 k hk with h4 | ⟨e, he, hb, h5⟩
          · simp at h4
          · refine ⟨e, he, hb, h5.imp id fun ⟨b, q1, q2⟩ => ⟨b, hkeep _ _ q1, q2⟩⟩
      | succ j =>
        simp at hj
        obtain ⟨m', q1, q2⟩ := h3 j o' hj
        have e : (acc ++ [m]).length + j = acc.length + (j + 1) := by simp; omega
        rw [e] at q1 q2
        exact ⟨m', q1, q2⟩
    · cases h

theorem masks_spec {os : List Oper} {ms : List Nat} (h : masks os = some ms) : ms.length = os.length ∧ ∀ (j : Nat) (o : Oper), os[j]? = some o → ∃ m, ms[j]? = some m ∧ MaskOk ms j o m := by
  obtain ⟨h1, _, h3⟩ := masksGo_spec os [] ms h
  refine ⟨by simpa using h1, fun j o hj => ?_⟩
  have := h3 j o hj
  simpa using this

/-- i waits for k -/
def pre (ms : List Nat) (i k : Nat) : Bool := match ms[i]? with
  | some m => m.testBit k
  | none => false

section
variable {os : List Oper} {ms : List Nat}

theorem pre_lt (h : masks os = some ms) : ∀ i k, pre ms i k = true → k < i := by
  intro i
  induction i using Nat.strongRecOn with
  | _ i ih =>
    intro k hk
    unfold pre at hk
    split at hk
    · rename_i m hm
      have hlt : i < os.length := by have := (List.getElem?_eq_some_iff.1 hm).1; rw [(masks_spec h).1] at this; exact this
      obtain ⟨m', h1, h2⟩ := (masks_spec h).2 i os[i] (by simp [hlt])
      rw [hm] at h1; cases h1
      obtain ⟨e, he, hb, h3⟩ := h2.from_ k hk
      obtain ⟨h4, _, _⟩ := h2.edge e he hb
      rcases h3 with rfl | ⟨b, h5, h6⟩
      · exact h4
      · have := ih e.on h4 k (by simp [pre, h5, h6])
        omega
    · cases hk

theorem pre_trans (h : masks os = some ms) : ∀ i k j, pre ms i k = true → pre ms k j = true → pre ms i j = true := by
  intro i
  induction i using Nat.strongRecOn with
  | _ i ih =>
    intro k j hk hj
    have hk0 := hk
    unfold pre at hk
    split at hk
    · rename_i m hm
      have hlt : i < os.length := by have := (List.getElem?_eq_some_iff.1 hm).1; rw [(masks_spec h).1] at this; exact this
      obtain ⟨m', h1, h2⟩ := (masks_spec h).2 i os[i] (by simp [hlt])
      rw [hm] at h1; cases h1
      obtain ⟨e, he, hb, h3⟩ := h2.from_ k hk
      obtain ⟨h4, h5, h6⟩ := h2.edge e he hb
      have hej : pre ms e.on j = true := by
        rcases h3 with rfl | ⟨b, h7, h8⟩
        · exact hj
        · exact ih e.on h4 k j (by simp [pre, h7, h8]) hj
      unfold pre at hej
      split at hej
      · rename_i b hb'
        have := h6 b hb' j hej
        simp [pre, hm, this]
      · cases hej
    · cases hk

/-- A set that holds with each operation those it waits for at once. -/
def Closed (os : List Oper) (D : Nat → Bool) : Prop := ∀ (i : Nat) (o : Oper), os[i]? = some o → D i = true → ∀ e ∈ o.after.toList, Region.binds .any e = true → D e.on = true

theorem closed_pre (h : masks os = some ms) {D : Nat → Bool} (hc : Closed os D) : ∀ (i k : Nat), pre ms i k = true → ((∃ o : Oper, os[i]? = some o ∧ ∀ e ∈ o.after.toList, Region.binds .any e = true → D e.on = true) ∨ D i = true) → D k = true := by
  intro i
  induction i using Nat.strongRecOn with
  | _ i ih =>
    intro k hk hi
    have hk0 := hk
    unfold pre at hk
    split at hk
    · rename_i m hm
      have hlt : i < os.length := by have := (List.getElem?_eq_some_iff.1 hm).1; rw [(masks_spec h).1] at this; exact this
      have ho : os[i]? = some os[i] := by simp [hlt]
      obtain ⟨m', h1, h2⟩ := (masks_spec h).2 i os[i] ho
      rw [hm] at h1; cases h1
      obtain ⟨e, he, hb, h3⟩ := h2.from_ k hk
      obtain ⟨h4, _, _⟩ := h2.edge e he hb
      have hDe : D e.on = true := by
        rcases hi with ⟨o, ho', hall⟩ | hD
        · rw [ho] at ho'; cases ho'
          exact hall e he hb
        · exact hc i _ ho hD e he hb
      rcases h3 with rfl | ⟨b, h5, h6⟩
      · exact hDe
      · exact ih e.on h4 k (by simp [pre, h5, h6]) (.inr hDe)
    · cases hk

end

/-! ### The log of a run in the order of the text -/

inductive Kd where
  | skip
  | still (s : SV)
  | alloc (k : AK) (B : Blk)
  | eff (s : SV) (M1 M2 : Mem)

structure Ent where
  o : Oper
  m : Nat
  tm : Tm
  kd : Kd
  base : Mem
  xm : Nat
  a : Nat
  b : Nat

def Ent.raw (e : Ent) : SV :=
  match e.kd with
  | .skip => .tuple []
  | .still s => s
  | .alloc k _ => k.mk e.a
  | .eff s _ _ => s

def Ent.val (e : Ent) : SV := resolve e.tm.as e.raw

def Ent.isEff (e : Ent) : Bool :=
  match e.kd with
  | .eff _ _ _ => true
  | _ => false

/-- the newest first -/
def entAt : List Ent → Nat → Option Ent
  | [], _ => none
  | e :: d, i => if i = d.length then some e else entAt d i

/-- what a slot holds behind the operations of D -/
def tmS (D : Nat → Bool) (tm0 : Tm) : List Ent → Nat → SV
  | [], t => tm0.get t
  | e :: d, t => if D d.length = true ∧ e.o.dst = some t then e.val else tmS D tm0 d t

/-- the memory behind the last of those of D that turn memory -/
def baseD (D : Nat → Bool) (M0 : Mem) : List Ent → Mem
  | [] => M0
  | e :: d => match e.kd with
    | .eff _ _ M2 => if D d.length = true then M2 else baseD D M0 d
    | _ => baseD D M0 d

def xmD (D : Nat → Bool) : List Ent → Nat
  | [] => 0
  | e :: d => match e.kd with
    | .eff _ _ _ => if D d.length = true then e.m else xmD D d
    | _ => xmD D d

def lastD (D : Nat → Bool) : List Ent → Option Nat
  | [] => none
  | e :: d => match e.kd with
    | .eff _ _ _ => if D d.length = true then some d.length else lastD D d
    | _ => lastD D d

/-- the new blocks of those that are chosen -/
def rG (sel : Nat → Bool) : List Ent → Get
  | [], _ => none
  | e :: d, nm => match e.kd with
    | .alloc _ B => if sel d.length = true ∧ nm = e.a then some B else rG sel d nm
    | _ => rG sel d nm

abbrev Al := List (Nat × Nat × Blk)

def alOf : List Ent → Al
  | [] => []
  | e :: d => match e.kd with
    | .alloc _ B => (d.length, e.a, B) :: alOf d
    | _ => alOf d

def insAl (sel : Nat → Bool) : Al → Mem → Option Mem
  | [], M => some M
  | (k, nm, B) :: al, M => match sel k with
    | true => match insAl sel al M with
      | some M' => M'.set nm (some B)
      | none => none
    | false => insAl sel al M

theorem insAl_spec {sel : Nat → Bool} : ∀ (d : List Ent) (M M' : Mem), insAl sel (alOf d) M = some M' → M'.next = M.next ∧ ∀ nm, M'.get nm = match rG sel d nm with | some B => some B | none => M.get nm
  | [], M, M', h => by
    simp only [alOf, insAl, Option.some.injEq] at h; subst h
    exact ⟨rfl, fun nm => by simp [rG]⟩
  | e :: d, M, M', h => by
    cases hk : e.kd with
    | alloc k B =>
      simp only [alOf, hk, insAl] at h
      split at h
      · rename_i hs
        split at h
        · rename_i M1 h1
          obtain ⟨q1, q2⟩ := insAl_spec d M M1 h1
          obtain ⟨q3, q4⟩ := Mem.set_spec h
          refine ⟨q3.trans q1, fun nm => ?_⟩
          rw [q4 nm]
          simp only [rG, hk, hs, true_and]
          by_cases hn : nm = e.a
          · simp [hn]
          · simp [hn, q2 nm]
        · cases h
      · rename_i hs
        obtain ⟨q1, q2⟩ := insAl_spec d M M' h
        refine ⟨q1, fun nm => ?_⟩
        rw [q2 nm]
        simp [rG, hk, hs]
    | skip => simp only [alOf, hk] at h; obtain ⟨q1, q2⟩ := insAl_spec d M M' h; exact ⟨q1, fun nm => by rw [q2 nm]; simp [rG, hk]⟩
    | still s => simp only [alOf, hk] at h; obtain ⟨q1, q2⟩ := insAl_spec d M M' h; exact ⟨q1, fun nm => by rw [q2 nm]; simp [rG, hk]⟩
    | eff s M1 M2 => simp only [alOf, hk] at h; obtain ⟨q1, q2⟩ := insAl_spec d M M' h; exact ⟨q1, fun nm => by rw [q2 nm]; simp [rG, hk]⟩

structure St where
  done : List Ent
  tm : Tm
  cnt : Nat
  base : Mem
  xi : Option Nat
  xm : Nat
  al : Al

/-- may an operation that turns memory follow the last one? -/
def chained (m : Nat) (xi : Option Nat) : Bool :=
  match xi with
  | none => true
  | some x => m.testBit x

def drawStep (P : Program) (ih : Ih) (ops : List Oper) (i : Nat) (o : Oper) (m : Nat) (s : St) : Rz St :=
  match guardS ops s.tm o with
  | none => match guardF ops s.tm o with
    | some b => .fork b
    | none => .no
  | some false => match s.tm.put o.dst (.tuple []) with
    | some tm' => .ok { s with done := ⟨o, m, s.tm, .skip, s.base, s.xm, s.cnt, s.cnt⟩ :: s.done, tm := tm' }
    | none => .no
  | some true =>
    match insAl (fun k => m.testBit k && !(s.xm.testBit k)) s.al s.base with
    | none => .no
    | some M0 =>
      match sreadA P s.tm.as ⟨s.cnt, M0.tr⟩ (sev s.tm) o with
      | some v => match s.tm.put o.dst v with
        | some tm' => .ok { s with done := ⟨o, m, s.tm, .still v, s.base, s.xm, s.cnt, s.cnt⟩ :: s.done, tm := tm' }
        | none => .no
      | none => match salloc P (sev s.tm) o with
        | some (B, k) => match s.tm.put o.dst (k.mk s.cnt) with
          | some tm' => .ok { s with done := ⟨o, m, s.tm, .alloc k B, s.base, s.xm, s.cnt, Nat.succ s.cnt⟩ :: s.done, tm := tm', cnt := Nat.succ s.cnt, al := (i, s.cnt, B) :: s.al }
          | none => .no
        | none => match needB P s.tm.as ⟨s.cnt, M0.tr⟩ (sev s.tm) o with
         | some b => .fork b
         | none => match chained m s.xi with
          | false => .no
          | true => match opStep P ih s.tm.as ⟨s.cnt, M0.tr⟩ (sev s.tm) o with
            | .ok (v, M2) => match s.tm.put o.dst v with
              | some tm' => .ok { done := ⟨o, m, s.tm, .eff v ⟨s.cnt, M0.tr⟩ M2, s.base, s.xm, s.cnt, M2.next⟩ :: s.done, tm := tm', cnt := M2.next, base := M2, xi := some i, xm := m, al := s.al }
              | none => .no
            | .fork b => .fork b
            | .no => .no

def drawGo (P : Program) (ih : Ih) (ops : List Oper) : List Oper → List Nat → Nat → St → Rz St
  | [], _, _, s => .ok s
  | o :: os, m :: ms, i, s => match drawStep P ih ops i o m s with
    | .ok s' => drawGo P ih ops os ms (Nat.succ i) s'
    | .fork b => .fork b
    | .no => .no
  | _ :: _, [], _, _ => .no

/-! ### What must hold besides -/

def tmpOf : Operand → Option Tmp
  | .tmp t => some t
  | _ => none

def namesO (ops : List Oper) (o : Oper) : List Tmp :=
  o.dst.toList ++ (o.op.operands.toList.filterMap tmpOf ++ (match o.guard with
    | some (j, _) => match nth ops j with
      | some p => p.dst.toList
      | none => []
    | none => []))

def hasNm (t : Nat) : List Nat → Bool
  | [] => false
  | x :: xs => match Nat.beq x t with
    | true => true
    | false => hasNm t xs

/-- operation i (which names ns, waits for m) beside the operations from k on -/
def chkNames (i m : Nat) (ns : List Nat) : List Oper → List Nat → Nat → Bool
  | o :: os, mk :: mks, k =>
    (match o.dst with
      | none => true
      | some t => match hasNm t ns with
        | false => true
        | true => match Nat.beq k i with
          | true => true
          | false => match Nat.ble k i with
            | true => m.testBit k
            | false => mk.testBit i) && chkNames i m ns os mks (Nat.succ k)
  | _, _, _ => true

def chkTmps (ops : List Oper) (ms : List Nat) : List Oper → List Nat → Nat → Bool
  | o :: os, m :: ms', i => chkNames i m (namesO ops o) ops ms 0 && chkTmps ops ms os ms' (Nat.succ i)
  | _, _, _ => true

/-- the places of memory: behind which, what that one waits for, the memory -/
abbrev Pos := Option Nat × Nat × Mem

def posOf (M0 : Mem) : List Ent → List Pos
  | [] => [(none, 0, M0)]
  | e :: d => match e.kd with
    | .eff _ _ M2 => (some d.length, e.m, M2) :: posOf M0 d
    | _ => posOf M0 d

def chkFresh1 (k nm : Nat) : List Pos → Bool
  | [] => true
  | (_, xm, M) :: ps => (xm.testBit k || (match M.get nm with | none => true | some _ => false)) && chkFresh1 k nm ps

def chkFresh (ps : List Pos) : Al → Bool
  | [] => true
  | (k, nm, _) :: al => chkFresh1 k nm ps && chkFresh ps al

def okPos (m : Nat) (x : Option Nat) : List Pos → Bool
  | [] => true
  | (none, _, _) :: ps => okPos m x ps
  | (some e, _, _) :: ps => (!(m.testBit e) || (match x with | some x => Nat.ble e x | none => false)) && okPos m x ps

def readsMem (o : Oper) : Bool :=
  match o.op with
  | .load _ _ => true
  | .convert _ _ _ => true
  | _ => false

def plEq : Pl → Pl → Bool
  | .own a, .own b => Nat.beq a b
  | .ro i k, .ro j l => Nat.beq i j && ksEq k l
  | _, _ => false
theorem plEq_spec {a b : Pl} (h : plEq a b = true) : a = b := by
  cases a <;> cases b <;> simp only [plEq] at h <;> try (cases h; done)
  · rw [Nat.eq_of_beq_eq_true h]
  · simp only [Bool.and_eq_true] at h
    rw [Nat.eq_of_beq_eq_true h.1, ksEq_spec h.2]

mutual
def svEq : SV → SV → Bool
  | .bool a, .bool b => match a, b with | true, true => true | false, false => true | _, _ => false
  | .int k a, .int k' b => kEq k k' && ieq a b
  | .str a, .str b => bytesEq a.data.toList b.data.toList
  | .ptr a b, .ptr c d => Nat.beq a c && Nat.beq b d
  | .nilptr, .nilptr => true
  | .gptr a b, .gptr c d => Nat.beq a c && Nat.beq b d
  | .slice a b c d, .slice a' b' c' d' => Nat.beq a a' && (Nat.beq b b' && (Nat.beq c c' && Nat.beq d d'))
  | .oslice a b c d, .oslice a' b' c' d' => Nat.beq a a' && (Nat.beq b b' && (Nat.beq c c' && Nat.beq d d'))
  | .eslice, .eslice => true
  | .nilslice, .nilslice => true
  | .agg a, .agg b => svEqL a b
  | .tuple a, .tuple b => svEqL a b
  | .iface t a, .iface t' b => Nat.beq t t' && svEq a b
  | .niliface, .niliface => true
  | .func (.func f) a b, .func (.func f') a' b' => Nat.beq f f' && (svEqL a a' && svEqL b b')
  | .nilfunc, .nilfunc => true
  | .nilmap, .nilmap => true
  | .atom i, .atom j => Nat.beq i j
  | .sint k e, .sint k' e' => kEq k k' && ieEq e e'
  | .sbool b, .sbool b' => beEq b b'
  | .aslice i, .aslice j => Nat.beq i j
  | .astr i, .astr j => Nat.beq i j
  | .zslice, .zslice => true
  | .e0, .e0 => true
  | .rstr a, .rstr b => ieEq a b
  | .rsl p a b e, .rsl p' a' b' e' => plEq p p' && (Nat.beq e e' && (ieEq a a' && ieEq b b'))
  | .rptr p a e f, .rptr p' a' e' f' => plEq p p' && (Nat.beq e e' && (Nat.beq f f' && ieEq a a'))
  | _, _ => false
def svEqL : List SV → List SV → Bool
  | [], [] => true
  | a :: as, b :: bs => svEq a b && svEqL as bs
  | _, _ => false
end

def chkStill1 (P : Program) (al : Al) (i : Nat) (e : Ent) (s : SV) (all : List Pos) : List Pos → Bool
  | [] => true
  | (x, xm, M) :: ps =>
    (match xm.testBit i, okPos e.m x all with
      | false, true => match insAl (fun k => e.m.testBit k && !(xm.testBit k)) al M with
        | some M' => match sreadA P e.tm.as M' (sev e.tm) e.o with
          | some s' => svEq s s'
          | none => false
        | none => false
      | _, _ => true) && chkStill1 P al i e s all ps

def chkStill (P : Program) (al : Al) (all : List Pos) : List Ent → Bool
  | [] => true
  | e :: d => (match e.kd with
    | .still s => match readsMem e.o with
      | true => chkStill1 P al d.length e s all all
      | false => true
    | _ => true) && chkStill P al all d

/-- A region that draws its order. -/
def runDraw (P : Program) (ih : Ih) (ops : List Oper) (tm : Tm) (M : Mem) : Rz (Tm × Mem) :=
  match masks ops with
  | none => .no
  | some ms => match chkTmps ops ms ops ms 0 with
    | false => .no
    | true => match drawGo P ih ops ops ms 0 ⟨[], tm, M.next, M, none, 0, []⟩ with
      | .fork b => .fork b
      | .no => .no
      | .ok s => match chkFresh (posOf M s.done) s.al, chkStill P s.al (posOf M s.done) s.done with
        | true, true => match insAl (fun k => !(s.xm.testBit k)) s.al s.base with
          | some M' => .ok (s.tm, ⟨s.cnt, M'.tr⟩)
          | none => .no
        | _, _ => .no

end Go.Sym
