/- Drawn regions, code, calls: the whole run. -/
import Derived.Test.YtkfejcffacbngaaSyP
import Derived.StillTail
namespace Go.Sym
open Go Go.RowKit
set_option linter.unusedVariables false
set_option linter.unusedSectionVars false

section
variable {P : Program} {ih : Ih} {env : Env} {os : List Oper} {ms : List Nat} {tm0 : Tm} {M0 : Mem}

theorem anyOrder {d : List Ent} (C : Checked1 P ih os ms tm0 M0 d) {ops : Array Oper} (hops : ops.toList = os) (hih : CallOk P env ih) (hA : AsOk env tm0.as) {L : Nat} (hL : ∀ k e', entAt d k = some e' → e'.b ≤ L) {ρ0 : Rho} {w0 : World} {a0 : Act} {Q : Exit → Act → World → Prop}
    (hQ : ∀ ρ a w D, (∀ k, k < d.length → D k = true) → Inv env L tm0 M0 d ρ0 w0 a0 D ρ a w → Q .normal a w) :
    ∀ (fuel : Nat) (listed : Array Bool) (ρ : Rho) (a : Act) (w : World), listed.size = ops.size → (listed.toList.filter (!·)).length = fuel → Closed os (fun k => listed.getD k false) →
      Inv env L tm0 M0 d ρ0 w0 a0 (fun k => listed.getD k false) ρ a w → wpAny P .any ops Q fuel listed a w := by
  have hsz : ops.size = d.length := by rw [C.len, ← hops]; simp
  -- the least that is not listed is ready
  have hleast : ∀ listed : Array Bool, listed.size = ops.size → ∀ i, i < ops.size → listed.getD i false = false → Region.ready .any ops listed ≠ [] := by
    intro listed hs i
    induction i using Nat.strongRecOn with
    | _ i ihn =>
      intro hi hl hnil
      obtain ⟨e, he⟩ := entAt_some (d := d) (i := i) (by omega)
      have ho := C.ents i e he
      have hop : ops[i]? = some e.o := by have := ho.op; rw [← hops] at this; simpa using this
      by_cases hall : ∀ x ∈ e.o.after, Region.binds .any x = true → listed.getD x.on false = true
      · have : i ∈ Region.ready .any ops listed := mem_ready.2 ⟨getD_in (by omega) hl, e.o, hop, hall⟩
        rw [hnil] at this; cases this
      · have : ∃ x, x ∈ e.o.after ∧ Region.binds .any x = true ∧ listed.getD x.on false = false := by
          apply Classical.byContradiction
          intro hno
          exact hall fun x hx hb => by
            cases hv : listed.getD x.on false with
            | true => rfl
            | false => exact absurd ⟨x, hx, hb, hv⟩ hno
        obtain ⟨x, hx, hb, hv⟩ := this
        obtain ⟨m', q1, q2⟩ := (masks_spec C.hm).2 i e.o ho.op
        obtain ⟨q3, _, _⟩ := q2.edge x (by simpa using hx) hb
        exact ihn x.on q3 (by omega) hv hnil
  have hall0 : ∀ listed : Array Bool, (listed.toList.filter (!·)).length = 0 → ∀ k, k < listed.size → listed.getD k false = true := by
    intro listed h k hk
    have h1 : listed.toList.filter (!·) = [] := List.eq_nil_of_length_eq_zero h
    rw [List.filter_eq_nil_iff] at h1
    have h2 := h1 (listed[k]) (by simp)
    have : listed[k] = true := by simpa using h2
    simp [hk, this]
  intro fuel
  induction fuel with
  | zero =>
    intro listed ρ a w hs hf hc I
    have hall := hall0 listed hf
    refine ⟨?_, hQ ρ a w _ (fun k hk => hall k (by omega)) I⟩
    apply List.eq_nil_iff_forall_not_mem.2
    intro i hi
    obtain ⟨h1, o, h2, _⟩ := mem_ready.1 hi
    have hlt := (Array.getElem?_eq_some_iff.1 h2).1
    have := hall i (by omega)
    rw [getD_both h1] at this; cases this
  | succ fuel ihf =>
    intro listed ρ a w hs hf hc I
    refine ⟨fun hnil => ?_, fun i hi => ?_⟩
    · exfalso
      -- some is not listed
      have : ∃ i, i < ops.size ∧ listed.getD i false = false := by
        apply Classical.byContradiction
        intro hno
        have hall : ∀ x ∈ listed.toList, x = true := by
          intro x hx
          obtain ⟨k, hk⟩ := List.getElem?_of_mem hx
          have hkl := (List.getElem?_eq_some_iff.1 hk).1
          have hv : listed.getD k false = x := by
            have : listed[k]? = some x := by simpa using hk
            simp [this]
          cases hb : x with
          | true => rfl
          | false => exact absurd ⟨k, by simp at hkl; omega, by rw [hv, hb]⟩ hno
        have : listed.toList.filter (!·) = [] := List.filter_eq_nil_iff.2 fun x hx => by rw [hall x hx]; simp
        rw [this] at hf; cases hf
      obtain ⟨i, h1, h2⟩ := this
      exact hleast listed hs i h1 h2 hnil
    · obtain ⟨h1, o, h2, h3⟩ := mem_ready.1 hi
      have hlt := (Array.getElem?_eq_some_iff.1 h2).1
      obtain ⟨e, he⟩ := entAt_some (d := d) (i := i) (by omega)
      have ho := C.ents i e he
      have hop : ops[i]? = some e.o := by have := ho.op; rw [← hops] at this; simpa using this
      rw [h2] at hop
      cases hop
      have hDi : listed.getD i false = false := getD_both h1
      have hadd : (fun k => (listed.setIfInBounds i true).getD k false) = addD (fun k => listed.getD k false) i := by
        funext k
        by_cases hk : k = i
        · subst hk
          have : k < listed.size := by omega
          simp [addD, this]
        · rw [getD_set_ne false (Ne.symm hk), addD_ne hk]
      refine inv_step C hc he hDi (fun x hx hb => h3 x (by simpa using hx) hb) hops hih hA hL I fun ρ' a' w' I' => ?_
      refine ihf _ ρ' a' w' (by simpa using hs) ?_ ?_ (by rw [hadd]; exact I')
      · -- one fewer is not listed
        have hil : i < listed.toList.length := by simp; omega
        have hval : listed.toList[i] = false := by
          have : listed.getD i false = listed.toList[i] := by
            have : i < listed.size := by omega
            simp [this]
          rw [← this]; exact hDi
        have e1 : (listed.setIfInBounds i true).toList = listed.toList.set i true := by simp
        rw [e1]
        have key : ∀ (l : List Bool) (j : Nat) (hj : j < l.length), l[j] = false → ((l.set j true).filter (!·)).length + 1 = (l.filter (!·)).length := by
          intro l
          induction l with
          | nil => intro j hj; simp at hj
          | cons x l ihl =>
            intro j hj hx
            cases j with
            | zero => simp at hx; subst hx; simp
            | succ j =>
              simp at hx hj
              have := ihl j hj hx
              cases x <;> simp <;> omega
        have := key _ i hil hval
        omega
      · intro j oj hj hD x hx hb
        rw [hadd] at hD
        have hkeep : ∀ k, listed.getD k false = true → (listed.setIfInBounds i true).getD k false = true := fun k hk => getD_set_true hk
        by_cases hji : j = i
        · subst hji
          have : os[j]? = some e.o := ho.op
          rw [hj] at this
          cases this
          exact hkeep _ (h3 x (by simpa using hx) hb)
        · rw [addD_ne hji] at hD
          exact hkeep _ (hc j oj hj hD x hx hb)

theorem runDraw_le {tm tm' : Tm} {M M' : Mem} (h : runDraw P ih os tm M = .ok (tm', M')) : M.next ≤ M'.next := by
  unfold runDraw at h
  split at h
  · cases h
  · rename_i ms hm
    split at h
    · cases h
    · split at h
      · cases h
      · cases h
      · rename_i s hs
        obtain ⟨hlog, _⟩ := drawGo_ok hm os ms 0 _ s (logOk_start tm M) rfl rfl rfl hs
        split at h
        · split at h
          · cases h; exact hlog.cnt
          · cases h
        · cases h

theorem runDraw_sound (hih : CallOk P env ih) (hmix : P.follows .mixedOrders = true) {ops : Array Oper} {id : Nat} {Q : Exit → Act → World → Prop} {L : Nat} {ρ : Rho} {w : World} {a : Act} {tm tm' : Tm} {M M' : Mem} (h : runDraw P ih ops.toList tm M = .ok (tm', M'))
    (H : Holds ρ env M.get w) (hd : Free L ρ M.next) (hL : M'.next ≤ L) (ht : TmOk ρ env tm a)
    (hQ : ∀ ρ' w' a', TmOk ρ' env tm' a' → Post env L ρ M.get M.next w ρ' M'.get M'.next w' → a'.defers = a.defers → Q .normal a' w') : (Code.region id ops true).wp P Q a w := by
  unfold runDraw at h
  split at h
  · cases h
  · rename_i ms hm
    split at h
    · cases h
    · rename_i hct
      split at h
      · cases h
      · cases h
      · rename_i s hs
        obtain ⟨hlog, hlen⟩ := drawGo_ok hm ops.toList ms 0 _ s (logOk_start tm M) rfl rfl rfl hs
        split at h
        · rename_i hfresh hstill
          split at h
          · rename_i Mf hins
            cases h
            have hlm := (masks_spec hm).1
            rw [hlog.al] at hfresh hstill hins
            have C : Checked1 P ih ops.toList ms tm M s.done := by
              refine ⟨hm, hlog.ents, hlen, fun i o m h1 h2 k ok mk t h3 h4 h5 h6 h7 => ?_, fun k e ak B h1 h2 => chkFresh_spec hfresh k e ak B h1 h2, fun k e v h1 h2 h3 x xm Mx h4 h5 h6 => chkStill1_spec (chkStill_spec hstill k e v h1 h2 h3) x xm Mx h4 h5 h6⟩
              have := chkTmps_spec hlm.symm ops.toList ms 0 hlm.symm hct i o m h1 h2 k ok mk t h3 h4 h5 h6 (by omega)
              simpa using this
            have hLs : ∀ k e', entAt s.done k = some e' → e'.b ≤ L := fun k e' h => Nat.le_trans (hlog.below k e' h) hL
            obtain ⟨q1, q2⟩ := insAl_spec _ _ _ hins
            refine wp_region_any hmix ?_
            have hsz : ops.size = s.done.length := by rw [hlen]; simp
            refine anyOrder C rfl hih ht.as hLs (ρ0 := ρ) (w0 := w) (a0 := a) ?_ ops.size (Array.replicate ops.size false) ρ a { w with drawn := w.drawn + 1 } (by simp) ?_ ?_ ?_
            · intro ρ' a' w' D hD I
              have hb := hlog.base D fun k e' h1 _ => hD k (entAt_lt h1)
              have htm := fun t => hlog.tm D t fun k e' h1 _ => hD k (entAt_lt h1)
              have hg : MD D M s.done = Mem.get ⟨s.cnt, Mf.tr⟩ := by
                funext nm
                have e1 : Mem.get ⟨s.cnt, Mf.tr⟩ nm = Mf.get nm := rfl
                rw [e1, q2 nm]
                unfold MD
                rw [hb.1, hb.2]
                have : rG (fun k => D k && !(s.xm.testBit k)) s.done nm = rG (fun k => !(s.xm.testBit k)) s.done nm := rG_congr fun k e' ak B h1 _ => by simp [hD k (entAt_lt h1)]
                rw [this]
                rfl
              refine hQ ρ' w' a' ⟨by rw [hlog.as]; exact ht.as, I.sz.trans hlog.sz.symm, fun t => by rw [← htm t]; exact I.tm t⟩ ?_ I.defers
              have hp := I.post
              rw [hg] at hp
              exact ⟨hp.ext, hp.holds, hlog.cnt, fun nm h1 h2 => I.free nm (Nat.le_trans hlog.cnt h1) h2 fun i e' h3 _ h4 => by have := hlog.below i e' h3; simp only [] at h1; omega, hp.frame, hp.own, hp.size, hp.os, hp.tape, hp.output⟩
            · simp
            · intro j oj hj hDj
              have h0 := getD_replicate_false ops.size j
              simp only [] at hDj
              rw [h0] at hDj; cases hDj
            · have hD0 : ∀ k, (fun k => (Array.replicate ops.size false).getD k false) k = false := fun k => getD_replicate_false _ _
              have htm0 : ∀ (d : List Ent) t, tmS (fun k => (Array.replicate ops.size false).getD k false) tm d t = tm.get t := by
                intro d t
                induction d with
                | nil => rfl
                | cons x d ihd => 
                  have h0 := getD_replicate_false ops.size d.length
                  simp only [tmS]; rw [if_neg (by rw [h0]; simp)]; exact ihd
              have hb0 : ∀ (d : List Ent), baseD (fun k => (Array.replicate ops.size false).getD k false) M d = M ∧ xmD (fun k => (Array.replicate ops.size false).getD k false) d = 0 := by
                intro d
                induction d with
                | nil => exact ⟨rfl, rfl⟩
                | cons x d ihd =>
                  have := baseD_cons (D := fun k => (Array.replicate ops.size false).getD k false) (M0 := M) (e := x) (d := d) fun _ => getD_replicate_false _ _
                  rw [this.1, this.2]
                  exact ihd
              have hMD0 : MD (fun k => (Array.replicate ops.size false).getD k false) M s.done = M.get := by
                funext nm
                unfold MD
                rw [(hb0 _).1, (hb0 _).2]
                have : rG (fun k => (Array.replicate ops.size false).getD k false && !((0 : Nat).testBit k)) s.done nm = none := rG_none fun k e ak B _ _ _ => by
                  have := getD_replicate_false ops.size k
                  simp only [this, Bool.false_and]
                rw [this]
              refine ⟨ht.size, fun t => by rw [htm0]; exact ht.get t, ?_, fun nm h1 h2 _ => hd nm h1 h2, rfl⟩
              rw [hMD0]
              have hr : Post env L ρ M.get M.next { w with drawn := w.drawn + 1 } ρ M.get M.next { w with drawn := w.drawn + 1 } := Post.refl (H.of_heap rfl) hd
              have hr' := Post.drew (w := w) hr
              have := hlog.cnt
              exact ⟨hr'.ext, hr'.holds, by simp only [] at hL; omega, fun nm h1 h2 => absurd h2 (by omega), hr'.frame, hr'.own, hr'.size, hr'.os, hr'.tape, hr'.output⟩
          · cases h
        · cases h

end

/-! ### Code and calls -/

inductive SExit where
  | normal
  | exit (id : Nat)
  | ret

def SExit.to : SExit → Exit
  | .normal => .normal
  | .exit id => .exit id
  | .ret => .ret

inductive Task where
  | code (c : Code) (tm : Tm) (M : Mem)
  | loop (c : Code) (tm : Tm) (M : Mem)
  | call (f : FuncId) (args : List SV) (M : Mem)

inductive Res where
  | done (e : SExit) (tm : Tm) (M : Mem)
  | ret (s : SV) (M : Mem)

def Task.mem : Task → Mem
  | .code _ _ M => M
  | .loop _ _ M => M
  | .call _ _ M => M

def Res.mem : Res → Mem
  | .done _ _ M => M
  | .ret _ M => M

abbrev Run := Task → Rz Res

def ihOf (R : Run) : Ih := fun f args M =>
  match R (.call f args M) with
  | .ok (.ret s M') => .ok (s, M')
  | .fork b => .fork b
  | _ => .no

def slot0 : List SV → Nat → Tr SV → Option (Tr SV)
  | [], _, t => some t
  | s :: l, i, t => match Tr.put fuelT t i (some s) with
    | some t' => slot0 l (Nat.succ i) t'
    | none => none

def sresult1 (P : Program) (tm : Tm) (M : Mem) : ResultVar → Option SV
  | .tmp t => some (tm.get t)
  | .cell a t => sload P M t (tm.get a)

def sresults (P : Program) (tm : Tm) (M : Mem) : List ResultVar → Option (List SV)
  | [] => some []
  | r :: rs => match sresult1 P tm M r, sresults P tm M rs with
    | some s, some l => some (s :: l)
    | _, _ => none

def tup : List SV → SV
  | [s] => s
  | l => .tuple l

/-- the end of a body -/
def retR (P : Program) (fn : Func) (tm : Tm) (M : Mem) : Rz Res :=
  match sresults P tm M fn.results.toList with
  | some l => .ok (.ret (tup l) M)
  | none => .no

def stepR (P : Program) (as : As) (R : Run) : Task → Rz Res
  | .call f args M => match P.funcs[f]? with
    | none => .no
    | some fn => match fn.body with
      | none => .no
      | some c => match slot0 args 0 .nil with
        | none => .no
        | some t => match R (.code c ⟨Nat.max args.length fn.ntmps, t, as⟩ M) with
          | .ok (.done .normal tm' M') => retR P fn tm' M'
          | .ok (.done .ret tm' M') => retR P fn tm' M'
          | .ok _ => .no
          | .fork b => .fork b
          | .no => .no
  | .loop c tm M => match R (.code c tm M) with
    | .ok (.done .normal tm' M') => R (.loop c tm' M')
    | r => r
  | .code c tm M => match c with
    | .skip => .ok (.done .normal tm M)
    | .label _ => .ok (.done .normal tm M)
    | .exit id => .ok (.done (.exit id) tm M)
    | .ret => .ok (.done .ret tm M)
    | .seq a b => match R (.code a tm M) with
      | .ok (.done .normal tm' M') => R (.code b tm' M')
      | r => r
    | .cond x a b => match sev tm x with
      | some (.bool true) => R (.code a tm M)
      | some (.bool false) => R (.code b tm M)
      | some (.sbool t) => .fork (coreB t)
      | _ => .no
    | .block id body => match R (.code body tm M) with
      | .ok (.done (.exit id') tm' M') => match Nat.beq id' id with
        | true => .ok (.done .normal tm' M')
        | false => .ok (.done (.exit id') tm' M')
      | r => r
    | .loop c => R (.loop c tm M)
    | .region _ ops draw => match draw with
      | false => match runSeq P (ihOf R) ops.toList ops.toList tm M with
        | .ok (tm', M') => .ok (.done .normal tm' M')
        | .fork b => .fork b
        | .no => .no
      | true => match runDraw P (ihOf R) ops.toList tm M with
        | .ok (tm', M') => .ok (.done .normal tm' M')
        | .fork b => .fork b
        | .no => .no
    | _ => .no

/-- A function that is known: what a call of it comes to, under what is assumed. -/
structure Ct where
  f : FuncId
  go : As → List SV → Mem → Rz (SV × Mem)

abbrev Kn := List Ct

def look : Kn → FuncId → Option Ct
  | [], _ => none
  | c :: l, f => match Nat.beq c.f f with
    | true => some c
    | false => look l f

def known (kn : Kn) (as : As) : Task → Option (Rz Res)
  | .call f args M => match look kn f with
    | some c => match c.go as args M with
      | .ok (s, M') => some (.ok (.ret s M'))
      | .fork b => some (.fork b)
      | .no => none
    | none => none
  | _ => none

/-- The run, with its fuel, under what is assumed. -/
def run (P : Program) (kn : Kn) (as : As) : Nat → Run
  | 0 => fun _ => .no
  | n + 1 => fun t => match (match known kn as t with
    | some r => r
    | none => stepR P as (run P kn as n) t) with
      | .ok r => match Nat.ble t.mem.next r.mem.next with
        | true => .ok r
        | false => .no
      | r => r

theorem run_le {P : Program} {kn : Kn} {as : As} {n : Nat} {t : Task} {r : Res} (h : run P kn as n t = .ok r) : t.mem.next ≤ r.mem.next := by
  cases n with
  | zero => simp [run] at h
  | succ n =>
    simp only [run] at h
    generalize hq : (match known kn as t with
      | some r => r
      | none => stepR P as (run P kn as n) t) = q at h
    cases q with
    | ok r' =>
      simp only at h
      split at h
      · rename_i hb; cases h; exact ble_true hb
      · cases h
    | fork b => cases h
    | no => cases h

/-- At the head of a loop's round. -/
def loopWp (P : Program) (c : Code) (Q : Exit → Act → World → Prop) (a : Act) (w : World) : Prop :=
  ∀ (b : Frame) (k : List Item) (cs : List Frame), ∃ e a' w', Q e a' w' ∧ Arrives P (lone (b.at a (.code c :: .inLoop c :: k)) cs w) b k cs e a' w'

theorem wp_of_loopWp {P : Program} {c : Code} {Q : Exit → Act → World → Prop} {a : Act} {w : World} (h : loopWp P c Q a w) : (Code.loop c).wp P Q a w :=
  fun b k cs => let ⟨e, a', w', q, r⟩ := h b k cs; ⟨e, a', w', q, .of_steps (.one step_loop) r⟩

theorem loopWp_round {P : Program} {c : Code} {Q : Exit → Act → World → Prop} {a : Act} {w : World} (h : c.wp P (Exit.then (loopWp P c Q) Q) a w) : loopWp P c Q a w := by
  intro b k cs
  obtain ⟨e, a₁, w₁, hq, harr⟩ := h b (.inLoop c :: k) cs
  cases e with
  | normal =>
    obtain ⟨e₂, a₂, w₂, hq₂, harr₂⟩ := hq b k cs
    exact ⟨e₂, a₂, w₂, hq₂, .of_steps (Steps.trans harr (.one step_inLoop)) harr₂⟩
  | exit id => exact ⟨_, a₁, w₁, hq, .pass (x := .inLoop c) rfl (fun _ _ => .inl (by simp)) harr⟩
  | goto l => exact ⟨_, a₁, w₁, hq, .pass (x := .inLoop c) rfl (fun _ _ => .inl (by simp)) harr⟩
  | ret => exact ⟨_, a₁, w₁, hq, .pass (x := .inLoop c) rfl (fun _ _ => .inl (by simp)) harr⟩
  | panic ch => exact ⟨_, a₁, w₁, hq, .pass (x := .inLoop c) rfl (fun _ _ => .inl (by simp)) harr⟩
  | outgrown => exact ⟨_, a₁, w₁, hq, .pass (x := .inLoop c) rfl (fun _ _ => .inl (by simp)) harr⟩

section
variable {P : Program} {env : Env}

/-- What a run of code comes to. -/
def Comes1 (env : Env) (L : Nat) (ρ : Rho) (a : Act) (w : World) (M : Mem) (e : SExit) (tm' : Tm) (M' : Mem) : Exit → Act → World → Prop := fun x a' w' =>
  x = e.to ∧ ∃ ρ', TmOk ρ' env tm' a' ∧ Post env L ρ M.get M.next w ρ' M'.get M'.next w' ∧ a'.defers = a.defers

theorem slot0_spec {l : List SV} : ∀ (i : Nat) (t t' : Tr SV), slot0 l i t = some t' → ∀ k, t'.get k = if i ≤ k ∧ k < i + l.length then l[k - i]? else t.get k := by
  induction l with
  | nil =>
    intro i t t' h k
    simp only [slot0, Option.some.injEq] at h
    subst h
    have : ¬ (i ≤ k ∧ k < i + ([] : List SV).length) := by simp
    rw [if_neg this]
  | cons s l ihl =>
    intro i t t' h k
    simp only [slot0] at h
    split at h
    · rename_i t1 ht
      rw [ihl _ _ _ h k]
      by_cases h1 : i.succ ≤ k ∧ k < i.succ + l.length
      · have : i ≤ k ∧ k < i + (s :: l).length := by simp only [List.length_cons]; omega
        rw [if_pos h1, if_pos this]
        have e : k - i = (k - i.succ) + 1 := by omega
        rw [e, List.getElem?_cons_succ]
      · rw [if_neg h1, Tr.get_put _ _ _ _ _ ht k]
        by_cases h2 : k = i
        · subst h2
          have : k ≤ k ∧ k < k + (s :: l).length := by simp
          rw [if_pos this]; simp
        · have : ¬ (i ≤ k ∧ k < i + (s :: l).length) := by simp only [List.length_cons]; omega
          rw [if_neg this, if_neg h2]
    · cases h

theorem run_sresults {ρ : Rho} {w : World} {tm : Tm} {M : Mem} {a : Act} (ht : TmOk ρ env tm a) (H : Holds ρ env M.get w) : ∀ (rs : List ResultVar) (l : List SV), sresults P tm M rs = some l →
    ∃ vs : List Value, (∀ g : ResultVar → Sem Value, (∀ t, g (.tmp t) = pure (a.tmps.getD t undef)) → (∀ x t, g (.cell x t) = (do loadVar t (← asAddr (a.tmps.getD x undef)))) → (rs.mapM g).run P w = .ok vs w) ∧ RepL ρ env l vs
  | [], l, h => by
    simp only [sresults, Option.some.injEq] at h; subst h
    exact ⟨[], fun g _ _ => by simp, by simp [RepL]⟩
  | r :: rs, l, h => by
    simp only [sresults] at h
    split at h
    · rename_i s l' h1 h2
      cases h
      obtain ⟨vs, h3, h4⟩ := run_sresults ht H rs l' h2
      cases r with
      | tmp t =>
        simp only [sresult1, Option.some.injEq] at h1
        subst h1
        exact ⟨a.tmps.getD t undef :: vs, fun g g1 g2 => by simp only [List.mapM_cons, g1, Sem.run_bind, Sem.run_pure, Result.andThen_ok, h3 g g1 g2], by simp only [RepL]; exact ⟨_, _, rfl, ht.get t, h4⟩⟩
      | cell x t =>
        simp only [sresult1] at h1
        have hx := ht.get x
        obtain ⟨v, h5, h6⟩ := run_sload (P := P) H h1 hx
        have h7 : (do loadVar t (← asAddr (a.tmps.getD x undef)) : Sem Value).run P w = .ok v w := by
          unfold sload at h1
          split at h1
          · rename_i nm off hp
            rw [hp] at hx
            simp only [Rep] at hx
            obtain ⟨b, n, _, hv⟩ := hx
            rw [hv] at h5 ⊢
            simp only [Instr.loadAt, Instr.sureAddr, Sem.run_bind, Sem.run_pure, Result.andThen_ok] at h5
            simp only [asAddr, Sem.run_bind, Sem.run_pure, Result.andThen_ok]
            exact h5
          · cases h1
        refine ⟨v :: vs, fun g g1 g2 => ?_, by simp only [RepL]; exact ⟨_, _, rfl, h6, h4⟩⟩
        simp only [List.mapM_cons, g2]
        rw [Sem.run_bind, h7]
        simp only [Result.andThen_ok, Sem.run_bind, h3 g g1 g2, Sem.run_pure]
    · cases h

theorem run_results {ρ : Rho} {w : World} {tm : Tm} {M : Mem} {a : Act} {fn : Func} {l : List SV} (ht : TmOk ρ env tm a) (H : Holds ρ env M.get w) (h : sresults P tm M fn.results.toList = some l) :
    ∃ v, (results fn a.tmps).run P w = .ok v w ∧ Rep ρ env (tup l) v := by
  obtain ⟨vs, h1, h2⟩ := run_sresults (P := P) ht H _ _ h
  have hlen := h2.length
  refine ⟨if h : vs.toArray.size = 1 then vs.toArray[0] else .tuple vs.toArray, ?_, ?_⟩
  · unfold results
    simp only [Sem.run_bind, Array.mapM_eq_mapM_toList, Sem.run_map]
    rw [h1 _ (fun _ => rfl) (fun _ _ => rfl)]
    simp only [Result.andThen_ok, Sem.run_pure]
  · match l, vs, hlen, h2 with
    | [s], [v], _, h2 =>
      simp only [RepL] at h2
      obtain ⟨v', vs', h3, h4, h5⟩ := h2
      simp only [List.cons.injEq] at h3
      obtain ⟨rfl, rfl⟩ := h3
      simpa [tup] using h4
    | [], [], _, _ => simp only [tup, Rep]; exact ⟨#[], by simp, by simp [RepL]⟩
    | s :: s' :: l, v :: v' :: vs, _, h2 =>
      have : ¬ ((v :: v' :: vs).toArray.size = 1) := by simp
      rw [dif_neg this]
      simp only [tup, Rep]
      exact ⟨_, rfl, h2⟩
    | [], _ :: _, hl, _ => simp at hl
    | [_], [], hl, _ => simp at hl
    | [_], _ :: _ :: _, hl, _ => simp at hl
    | _ :: _ :: _, [], hl, _ => simp at hl
    | _ :: _ :: _, [_], hl, _ => simp at hl

/-- What each kind of task is known to do. -/
def TaskOk (P : Program) (env : Env) : Task → Res → Prop
  | .code c tm M, .done e tm' M' => ∀ L ρ w a, TmOk ρ env tm a → Holds ρ env M.get w → Free L ρ M.next → M'.next ≤ L → c.wp P (Comes1 env L ρ a w M e tm' M') a w
  | .loop c tm M, .done e tm' M' => ∀ L ρ w a, TmOk ρ env tm a → Holds ρ env M.get w → Free L ρ M.next → M'.next ≤ L → loopWp P c (Comes1 env L ρ a w M e tm' M') a w
  | .call f args M, .ret s M' => ∀ L ρ w (vs : Array Value), RepL ρ env args vs.toList → Holds ρ env M.get w → Free L ρ M.next → M'.next ≤ L →
      Calls P f vs w fun e w' => ∃ v ρ', e = .returned v ∧ Rep ρ' env s v ∧ Post env L ρ M.get M.next w ρ' M'.get M'.next w'
  | _, _ => False

theorem Comes1.trans {L : Nat} {ρ ρ1 : Rho} {a a1 : Act} {w w1 : World} {M M1 M' : Mem} {e : SExit} {tm' : Tm} (h : Post env L ρ M.get M.next w ρ1 M1.get M1.next w1) (hd : a1.defers = a.defers) {x : Exit} {a' : Act} {w' : World}
    (k : Comes1 env L ρ1 a1 w1 M1 e tm' M' x a' w') : Comes1 env L ρ a w M e tm' M' x a' w' := by
  obtain ⟨h1, ρ', h2, h3, h4⟩ := k
  exact ⟨h1, ρ', h2, h.trans h3, h4.trans hd⟩

theorem callOk_of {kn : Kn} {as : As} {n : Nat} (hn : ∀ t r, run P kn as n t = .ok r → TaskOk P env t r) : CallOk P env (ihOf (run P kn as n)) := by
  intro f args M s M' h L ρ w vs h1 h2 h3 h4
  unfold ihOf at h
  split at h
  · rename_i s' M1 hr
    cases h
    exact hn _ _ hr L ρ w vs h1 h2 h3 h4
  · cases h
  · cases h

theorem exit_to_ne {e : SExit} (h : e ≠ .normal) (x : Exit) (hx : x = e.to) : x ≠ .normal := by
  subst hx
  cases e <;> simp_all [SExit.to]

/-- What the known functions are held to. -/
def KnOk (P : Program) (env : Env) (kn : Kn) : Prop := ∀ f c, look kn f = some c → ∀ as, AsOk env as → ∀ args M s M', c.go as args M = .ok (s, M') → TaskOk P env (.call f args M) (.ret s M')

theorem post_below {L : Nat} {ρ : Rho} {M : Mem} {w w' : World} (H : Holds ρ env M.get w) (hd : Free L ρ M.next) (h : Below w.heap.size w w') : Post env L ρ M.get M.next w ρ M.get M.next w' := by
  refine ⟨fun _ _ => rfl, ⟨fun nm B h1 => ?_, H.inj, fun i R hR => ?_⟩, Nat.le_refl _, hd, fun k hk _ => h.block k hk, fun nm B b n h1 h2 => .inr ⟨nm, B, n, h1, h2⟩, h.size, h.os, h.tape, h.output⟩
  · obtain ⟨b, n, h2, h3⟩ := H.blk nm B h1
    exact ⟨b, n, h2, h3.of_block (fun _ _ h => h) (h.block b (H.lt h1 h2))⟩
  · obtain ⟨k1, k2, k3⟩ := H.ro i R hR
    exact ⟨Nat.lt_of_lt_of_le k1 h.size, k2.of_block (h.block _ k1), k3⟩

/-- THE RUN SAYS WHAT THE PROGRAM DOES. -/
theorem run_sound (hmix : P.follows .mixedOrders = true) {kn : Kn} (hkn : KnOk P env kn) {as : As} (hA : AsOk env as) : ∀ (n : Nat) (t : Task) (r : Res), run P kn as n t = .ok r → TaskOk P env t r := by
  intro n
  induction n with
  | zero => intro t r h; simp [run] at h
  | succ n ihn =>
    intro t r h
    have h0 := h
    simp only [run] at h
    cases hk : known kn as t with
    | some q =>
      rw [hk] at h
      simp only at h
      unfold known at hk
      split at hk
      · rename_i f args M
        split at hk
        · rename_i c hl
          split at hk
          · rename_i s M' hgo
            cases hk
            simp only at h
            split at h
            · cases h
              exact hkn f c hl as hA args M s M' hgo
            · cases h
          · cases hk
            cases h
          · cases hk
        · cases hk
      · cases hk
    | none =>
    rw [hk] at h
    simp only at h
    split at h
    · rename_i r' hs
      split at h
      · cases h
        cases t with
        | call f args M =>
          simp only [stepR] at hs
          split at hs
          · cases hs
          · rename_i fn hf
            split at hs
            · cases hs
            · rename_i c hb
              split at hs
              · cases hs
              · rename_i tr htr
                have key : ∀ e tm' M' l, run P kn as n (.code c ⟨Nat.max args.length fn.ntmps, tr, as⟩ M) = .ok (.done e tm' M') → (e = .normal ∨ e = .ret) → sresults P tm' M' fn.results.toList = some l →
                    TaskOk P env (.call f args M) (.ret (tup l) M') := by
                  intro e tm' M' l hr he hl L ρ w vs h1 h2 h3 h4
                  refine calls_of_wp hf hb ?_
                  have hcode := ihn _ _ hr
                  have hlen := h1.length
                  have hlen : vs.size = args.length := by simpa using hlen
                  have hT : TmOk ρ env ⟨Nat.max args.length fn.ntmps, tr, as⟩ { tmps := vs ++ Array.replicate (fn.ntmps - vs.size) undef, defers := [] } := by
                    refine ⟨hA, ?_, fun t => ?_⟩
                    · show (vs ++ Array.replicate (fn.ntmps - vs.size) undef).size = Nat.max args.length fn.ntmps
                      have : Nat.max args.length fn.ntmps = max args.length fn.ntmps := rfl
                      rw [this]
                      simp only [Array.size_append, Array.size_replicate, hlen]; omega
                    · show Rep ρ env (match tr.get t with | some s => s | none => .tuple []) ((vs ++ Array.replicate (fn.ntmps - vs.size) undef).getD t undef)
                      rw [slot0_spec 0 _ _ htr t]
                      by_cases ht : t < args.length
                      · have : 0 ≤ t ∧ t < 0 + args.length := ⟨by omega, by omega⟩
                        rw [if_pos this]
                        have hs' : args[t - 0]? = some args[t] := by simp [ht]
                        rw [hs']
                        obtain ⟨v, g1, g2⟩ := h1.get t args[t] (by simp [ht])
                        have g1' : vs[t]? = some v := by simpa using g1
                        have : (vs ++ Array.replicate (fn.ntmps - vs.size) undef)[t]? = some v := by
                          rw [Array.getElem?_append_left (by omega)]; exact g1'
                        simp only [Array.getD_eq_getD_getElem?, this, Option.getD_some]
                        exact g2
                      · have : ¬ (0 ≤ t ∧ t < 0 + args.length) := by omega
                        rw [if_neg this, Tr.get_nil]
                        have : (vs ++ Array.replicate (fn.ntmps - vs.size) undef).getD t undef = undef := by
                          simp only [Array.getD_eq_getD_getElem?]
                          rw [Array.getElem?_append_right (by omega)]
                          by_cases h : t - vs.size < fn.ntmps - vs.size
                          · simp [h]
                          · simp [h]
                        rw [this]
                        exact rep_undef
                  refine wp_mono (hcode L ρ w _ hT h2 h3 h4) fun x a' w' ⟨hx, ρ', g1, g2, g3⟩ => ?_
                  obtain ⟨v, g4, g5⟩ := run_results (P := P) g1 g2.holds hl
                  rcases he with rfl | rfl
                  · subst hx
                    exact ⟨g3, v, g4, v, ρ', rfl, g5, g2⟩
                  · subst hx
                    exact ⟨g3, v, g4, v, ρ', rfl, g5, g2⟩
                split at hs
                · rename_i tm' M' hr
                  unfold retR at hs
                  split at hs
                  · rename_i l hl
                    cases hs
                    exact key _ _ _ _ hr (.inl rfl) hl
                  · cases hs
                · rename_i tm' M' hr
                  unfold retR at hs
                  split at hs
                  · rename_i l hl
                    cases hs
                    exact key _ _ _ _ hr (.inr rfl) hl
                  · cases hs
                · cases hs
                · cases hs
                · cases hs
        | loop c tm M =>
          simp only [stepR] at hs
          split at hs
          · rename_i tm1 M1 hr
            have h1 := ihn _ _ hr
            have h2 := ihn _ _ hs
            have hle := run_le hs
            cases r with
            | ret s M' => exact h2.elim
            | done e tm' M' =>
              intro L ρ w a ht H hd hL
              have hle : M1.next ≤ M'.next := hle
              refine loopWp_round (wp_mono (h1 L ρ w a ht H hd (by omega)) fun x a1 w1 ⟨hx, ρ1, g1, g2, g3⟩ => ?_)
              subst hx
              have := h2 L ρ1 w1 a1 g1 g2.holds (fun nm q1 q2 => g2.dom nm q1 q2) hL
              intro b k cs
              obtain ⟨e', a', w', q, arr⟩ := this b k cs
              exact ⟨e', a', w', Comes1.trans g2 g3 q, arr⟩
          · rename_i hno
            have h1 := ihn _ _ hs
            cases r with
            | ret s M' => exact h1.elim
            | done e tm' M' =>
              intro L ρ w a ht H hd hL
              refine loopWp_round (wp_mono (h1 L ρ w a ht H hd hL) fun x a1 w1 hx => ?_)
              have hne : e ≠ .normal := fun he => by subst he; exact hno _ _ hs
              obtain ⟨hx1, hx2⟩ := hx
              cases e with
              | normal => exact absurd rfl hne
              | exit id => subst hx1; exact ⟨rfl, hx2⟩
              | ret => subst hx1; exact ⟨rfl, hx2⟩
        | code c tm M =>
          cases c with
          | skip =>
            simp only [stepR, Rz.ok.injEq] at hs; subst hs
            intro L ρ w a ht H hd hL
            exact wp_skip ⟨rfl, ρ, ht, Post.refl H hd, rfl⟩
          | label l =>
            simp only [stepR, Rz.ok.injEq] at hs; subst hs
            intro L ρ w a ht H hd hL
            exact wp_label ⟨rfl, ρ, ht, Post.refl H hd, rfl⟩
          | exit id =>
            simp only [stepR, Rz.ok.injEq] at hs; subst hs
            intro L ρ w a ht H hd hL
            exact wp_exit ⟨rfl, ρ, ht, Post.refl H hd, rfl⟩
          | ret =>
            simp only [stepR, Rz.ok.injEq] at hs; subst hs
            intro L ρ w a ht H hd hL
            exact wp_ret ⟨rfl, ρ, ht, Post.refl H hd, rfl⟩
          | seq x y =>
            simp only [stepR] at hs
            split at hs
            · rename_i tm1 M1 hr
              have h1 := ihn _ _ hr
              have h2 := ihn _ _ hs
              have hle := run_le hs
              cases r with
              | ret s M' => exact h2.elim
              | done e tm' M' =>
                intro L ρ w a ht H hd hL
                have hle : M1.next ≤ M'.next := hle
                refine wp_seq (wp_mono (h1 L ρ w a ht H hd (by omega)) fun x a1 w1 ⟨hx, ρ1, g1, g2, g3⟩ => ?_)
                subst hx
                exact wp_mono (h2 L ρ1 w1 a1 g1 g2.holds (fun nm q1 q2 => g2.dom nm q1 q2) hL) fun x a' w' q => Comes1.trans g2 g3 q
            · rename_i hno
              have h1 := ihn _ _ hs
              cases r with
              | ret s M' => exact h1.elim
              | done e tm' M' =>
                intro L ρ w a ht H hd hL
                refine wp_seq (wp_mono (h1 L ρ w a ht H hd hL) fun x a1 w1 hx => ?_)
                have hne : e ≠ .normal := fun he => by subst he; exact hno _ _ hs
                obtain ⟨hx1, hx2⟩ := hx
                cases e with
                | normal => exact absurd rfl hne
                | exit id => subst hx1; exact ⟨rfl, hx2⟩
                | ret => subst hx1; exact ⟨rfl, hx2⟩
          | cond x y z =>
            simp only [stepR] at hs
            split at hs
            · rename_i hx
              have h1 := ihn _ _ hs
              cases r with
              | ret s M' => exact h1.elim
              | done e tm' M' =>
                intro L ρ w a ht H hd hL
                have := ht.ev _ _ hx
                simp only [Rep] at this
                exact wp_cond_true this (h1 L ρ w a ht H hd hL)
            · rename_i hx
              have h1 := ihn _ _ hs
              cases r with
              | ret s M' => exact h1.elim
              | done e tm' M' =>
                intro L ρ w a ht H hd hL
                have := ht.ev _ _ hx
                simp only [Rep] at this
                exact wp_cond_false this (h1 L ρ w a ht H hd hL)
            · cases hs
            · cases hs
          | block id body =>
            simp only [stepR] at hs
            split at hs
            · rename_i id' tm1 M1 hr
              have h1 := ihn _ _ hr
              split at hs
              · rename_i hb
                have hb := Nat.eq_of_beq_eq_true hb
                subst hb
                cases hs
                intro L ρ w a ht H hd hL
                refine wp_block (wp_mono (h1 L ρ w a ht H hd hL) fun x a1 w1 ⟨hx, hx2⟩ => ?_)
                subst hx
                simp only [SExit.to, Exit.inBlock, if_true]
                exact ⟨rfl, hx2⟩
              · rename_i hb
                rw [nat_beq] at hb
                have hb : ¬ id' = id := by simpa using hb
                cases hs
                intro L ρ w a ht H hd hL
                refine wp_block (wp_mono (h1 L ρ w a ht H hd hL) fun x a1 w1 ⟨hx, hx2⟩ => ?_)
                subst hx
                simp only [SExit.to, Exit.inBlock, hb, if_false]
                exact ⟨rfl, hx2⟩
            · rename_i hno
              have h1 := ihn _ _ hs
              cases r with
              | ret s M' => exact h1.elim
              | done e tm' M' =>
                intro L ρ w a ht H hd hL
                refine wp_block (wp_mono (h1 L ρ w a ht H hd hL) fun x a1 w1 ⟨hx, hx2⟩ => ?_)
                cases e with
                | normal => subst hx; exact ⟨rfl, hx2⟩
                | exit id' => exact absurd hs (hno _ _ _)
                | ret => subst hx; exact ⟨rfl, hx2⟩
          | loop c =>
            simp only [stepR] at hs
            have h1 := ihn _ _ hs
            cases r with
            | ret s M' => exact h1.elim
            | done e tm' M' =>
              intro L ρ w a ht H hd hL
              exact wp_of_loopWp (h1 L ρ w a ht H hd hL)
          | region id ops draw =>
            simp only [stepR] at hs
            have hih := callOk_of ihn
            split at hs
            · split at hs
              · rename_i tm' M' hr
                cases hs
                intro L ρ w a ht H hd hL
                refine wp_region ?_
                have := runSeq_sound (L := L) (Q := Comes1 env L ρ a w M .normal tm' M') hih (ops := ops) ops.toList 0 ρ w a tm tm' M M' rfl hr H hd hL ht fun ρ' w' a' g1 g2 g3 => ⟨rfl, ρ', g1, g2, g3⟩
                rw [List.range_eq_range']
                simpa using this
              · cases hs
              · cases hs
            · split at hs
              · rename_i tm' M' hr
                cases hs
                intro L ρ w a ht H hd hL
                exact runDraw_sound hih hmix hr H hd hL ht fun ρ' w' a' g1 g2 g3 => ⟨rfl, ρ', g1, g2, g3⟩
              · cases hs
              · cases hs
          | rangeFunc f ps as body => simp [stepR] at hs
          | scope body => simp [stepR] at hs
          | goto l => simp [stepR] at hs
          | refuse why => simp [stepR] at hs
      · cases h
    · rename_i hno; exact absurd h (hno r)

def mem0 : Mem := ⟨0, .nil⟩

/-- The rows that are only read stand where they do. -/
def RoAll (env : Env) (w : World) : Prop := ∀ i R, env.ro i = some R → R.blk < w.heap.size ∧ RoRow w R.blk R.base R.ks (env.row i)

theorem holds0 {ρ : Rho} {w : World} (h : RoAll env w) : Holds ρ env mem0.get w :=
  ⟨fun nm B h => by simp [mem0, Mem.get, Tr.get] at h, fun nm nm' B B' b n n' h => by simp [mem0, Mem.get, Tr.get] at h, fun i R hR => ⟨(h i R hR).1, (h i R hR).2, fun nm B n h => by simp [mem0, Mem.get, Tr.get] at h⟩⟩

/-- A CALL AT WHATEVER WORLD: what the run from an empty memory says. -/
theorem run_calls (hmix : P.follows .mixedOrders = true) {kn : Kn} (hkn : KnOk P env kn) {as : As} (hA : AsOk env as) (n : Nat) {f : FuncId} {args : List SV} {s : SV} {M : Mem} (h : run P kn as n (.call f args mem0) = .ok (.ret s M)) {vs : Array Value} (hv : RepL (fun _ => none) env args vs.toList) (w : World) (hro : RoAll env w) :
    Calls P f vs w fun e w' => ∃ v ρ, e = .returned v ∧ Rep ρ env s v ∧ Below w.heap.size w w' := by
  have := run_sound (env := env) hmix hkn hA n _ _ h M.next (fun _ => none) w vs hv (holds0 hro) (fun _ _ _ => rfl) (Nat.le_refl _)
  refine Calls.mono this fun e w' ⟨v, ρ', h1, h2, h3⟩ => ⟨v, ρ', h1, h2, ⟨h3.os, h3.tape, h3.output, h3.size, fun k hk => h3.frame k hk fun nm B n hB => by simp [mem0, Mem.get, Tr.get] at hB⟩⟩

/-- All ways through a law say true; the first number bounds how many tests are met on one way. -/
def waysTrue (P : Program) (kn : Kn) (n : Nat) (f : FuncId) (args : List SV) : Nat → As → Bool
  | 0, _ => false
  | k + 1, as => match run P kn as n (.call f args mem0) with
    | .ok (.ret (.bool true) _) => true
    | .fork b => waysTrue P kn n f args k ((b, true) :: as) && waysTrue P kn n f args k ((b, false) :: as)
    | _ => false

theorem ways_law (hmix : P.follows .mixedOrders = true) {kn : Kn} (hkn : KnOk P env kn) (n : Nat) {f : FuncId} {args : List SV} {vs : Array Value} (hv : RepL (fun _ => none) env args vs.toList) (w : World) (hro : RoAll env w) : ∀ (k : Nat) (as : As), AsOk env as → waysTrue P kn n f args k as = true →
    Calls P f vs w fun e w' => e = .returned (.bool true) ∧ Below w.heap.size w w' := by
  intro k
  induction k with
  | zero => intro as _ h; simp [waysTrue] at h
  | succ k ihk =>
    intro as hA h
    simp only [waysTrue] at h
    split at h
    · rename_i M hr
      refine Calls.mono (run_calls hmix hkn hA n hr hv w hro) fun e w' ⟨v, ρ, h1, h2, h3⟩ => ?_
      simp only [Rep] at h2
      subst h2
      exact ⟨h1, h3⟩
    · rename_i b hr
      simp only [Bool.and_eq_true] at h
      cases hb : b.eval env with
      | true => exact ihk _ (fun p hp => by cases hp with
          | head => exact hb
          | tail _ hm => exact hA p hm) h.1
      | false => exact ihk _ (fun p hp => by cases hp with
          | head => exact hb
          | tail _ hm => exact hA p hm) h.2
    · cases h

/-- A LAW: the run says true on all ways. -/
theorem run_law (hmix : P.follows .mixedOrders = true) {kn : Kn} (hkn : KnOk P env kn) (n k : Nat) {f : FuncId} {args : List SV} (h : waysTrue P kn n f args k [] = true) {vs : Array Value} (hv : RepL (fun _ => none) env args vs.toList) (w : World) (hro : RoAll env w) :
    Calls P f vs w fun e w' => e = .returned (.bool true) ∧ Below w.heap.size w w' :=
  ways_law hmix hkn n hv w hro k [] (fun p hp => by cases hp) h

theorem knOk_nil : KnOk P env [] := fun f c h => by simp [look] at h

/-- A call of no arguments says true, whatever the world. -/
def saysTrue (P : Program) (n : Nat) (f : FuncId) : Bool :=
  match run P [] [] n (.call f [] mem0) with
  | .ok (.ret (.bool true) _) => true
  | _ => false

/-- It is known that this function, of no arguments, says true. -/
def ctTrue (f : FuncId) : Ct := ⟨f, fun _ args M => match args with
  | [] => .ok (.bool true, M)
  | _ => .no⟩

theorem knOk_cons {c : Ct} {kn : Kn} (hkn : KnOk P env kn) (h : ∀ as, AsOk env as → ∀ args M s M', c.go as args M = .ok (s, M') → TaskOk P env (.call c.f args M) (.ret s M')) : KnOk P env (c :: kn) := by
  intro g c' hl
  simp only [look] at hl
  split at hl
  · rename_i hb
    have hb := Nat.eq_of_beq_eq_true hb
    subst hb
    cases hl
    exact h
  · exact hkn g c' hl

theorem saysTrue_calls (hmix : P.follows .mixedOrders = true) {n : Nat} {f : FuncId} (h : saysTrue P n f = true) (w : World) : Calls P f #[] w fun e w' => e = .returned (.bool true) ∧ Below w.heap.size w w' := by
  unfold saysTrue at h
  split at h
  · rename_i M hr
    refine Calls.mono (run_calls (env := env0) hmix knOk_nil (as := []) (fun p hp => by cases hp) n hr (vs := #[]) (by simp [RepL]) w (fun i R h => by simp [env0] at h)) fun e w' ⟨v, ρ, h1, h2, h3⟩ => ?_
    simp only [Rep] at h2
    subst h2
    exact ⟨h1, h3⟩
  · cases h

theorem ctTrue_ok (hmix : P.follows .mixedOrders = true) {n : Nat} {f : FuncId} (h : saysTrue P n f = true) : ∀ as, AsOk env as → ∀ args M s M', (ctTrue f).go as args M = .ok (s, M') → TaskOk P env (.call (ctTrue f).f args M) (.ret s M') := by
  intro as _ args M s M' hgo
  cases args with
  | nil =>
    simp only [ctTrue, Rz.ok.injEq, Prod.mk.injEq] at hgo
    obtain ⟨rfl, rfl⟩ := hgo
    intro L ρ w vs h1 h2 h3 h4
    have hvs : vs = #[] := by simp only [RepL] at h1; simpa using h1
    subst hvs
    exact Calls.mono (saysTrue_calls hmix h w) fun e w' ⟨g1, g2⟩ => ⟨_, ρ, g1, by simp only [Rep], post_below h2 h3 g2⟩
  | cons a l => simp [ctTrue] at hgo

theorem repL_nil {ρ : Rho} : RepL ρ env [] [] := by simp [RepL]
theorem repL_cons {ρ : Rho} {s : SV} {l : List SV} {v : Value} {vs : List Value} (h : Rep ρ env s v) (hl : RepL ρ env l vs) : RepL ρ env (s :: l) (v :: vs) := by
  simp only [RepL]; exact ⟨_, _, rfl, h, hl⟩
theorem rep_atom {ρ : Rho} {i : Nat} {v : Value} (h : v = env i) (ho : v.oneCell' = true) : Rep ρ env (.atom i) v := by
  simp only [Rep]; exact ⟨h, ho⟩
theorem rep_int {ρ : Rho} {i : Nat} {k : IntKind} {n : Int} (h : n = vInt (env i)) : Rep ρ env (.sint k (.var i)) (.int k n) := by
  simp only [Rep, IE.eval]; rw [h]
theorem rep_bool {ρ : Rho} {i : Nat} {b : Bool} (h : b = vBool (env i)) : Rep ρ env (.sbool (.var i)) (.bool b) := by
  simp only [Rep, BE.eval]; rw [h]
theorem rep_slice {ρ : Rho} {i : Nat} {a : Option Addr} {n c : Nat} (h : Value.slice a n c = env i) : Rep ρ env (.aslice i) (.slice a n c) := by
  simp only [Rep]; exact ⟨a, n, c, rfl, h⟩
theorem rep_str {ρ : Rho} {i : Nat} {s : ByteArray} (h : Value.string s = env i) : Rep ρ env (.astr i) (.string s) := by
  simp only [Rep]; exact ⟨s, rfl, h⟩
theorem rep_agg {ρ : Rho} {l : List SV} {vs : Array Value} (h : RepL ρ env l vs.toList) : Rep ρ env (.agg l) (.agg vs) := by
  simp only [Rep]; exact ⟨vs, rfl, h⟩

end
end Go.Sym
