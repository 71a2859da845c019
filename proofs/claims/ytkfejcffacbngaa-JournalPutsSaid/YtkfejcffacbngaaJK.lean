import Derived.Test.YtkfejcffacbngaaJJ
import Derived.Lib.SliceRun
import Derived.WalkKit
import Derived.ProofKit
import Derived.Below

namespace Go.Proofs.Ytkfejcffacbngaa.J

open Go Go.Sym

set_option linter.unusedVariables false

/-- A contract at one call: what is assumed from the beginning may be chosen by the numbers. -/
theorem pc_inst {P : Program} {FN : Nat → List (List Int) → List Int} {aa : As} (hmix : P.follows .mixedOrders = true) {kn : Kn} {n f k base : Nat} (c : Pc) (hkn : ∀ env : Env, env.fn = FN → KnOk P env kn) (hbase : c.aks.length ≤ base) {eouts : List Leaf}
    (hent : entryK P kn n f c.f [] base (argSVs 0 c.aks) k aa = some eouts) {w : World} {vs : Array Value} {ls : List (List Int)} (hargs : ArgsAre w vs.toList c.aks ls)
    (H : ∀ (e0 : Env), e0.fn = FN → ArgsE e0 0 c.aks ls → AsOk e0 aa ∧ allLeaves (fun lf => AsOk e0 lf.1 → StepG FN ls c.id c.rks (fun _ _ => False) (fun _ _ => (0, 0)) none e0 lf.2) eouts) :
    Calls P c.f vs w fun e w' => RowKit.Below w.heap.size w w' ∧ ∃ v vs', e = .returned v ∧ TupIs v vs' ∧ ResL FN ls w w' c.id c.rks vs' := by
  have h0 : ArgsE (argEnv FN c.aks vs.toList ls) 0 c.aks ls := by have := argsE_of (FN := FN) hargs c.aks 0 rfl; simpa using this
  obtain ⟨ha, h2⟩ := H _ rfl h0
  refine floyd_args (n := n) (f := f) (k := k) (kn := kn) (base := base) (cs := []) hmix hkn hbase hargs (fun _ _ => False) (fun _ _ => (0, 0)) (fun i p T hi => by simp at hi) (fun i env h => h.elim) hent ha (fun lf hlf hA => ?_)
  have h := allLeaves_spec h2 lf hlf hA
  generalize lf.2 = o at h ⊢
  cases o with
  | ret s M => obtain ⟨l, hl, hr⟩ := h; exact ret_good l hl hr
  | cut j σ => exact h
  | bad => exact h

/-- A contract without loops. -/
theorem pc_line {P : Program} {FN : Nat → List (List Int) → List Int} {aa : As} (hmix : P.follows .mixedOrders = true) {kn : Kn} {n f k base : Nat} (c : Pc) (hkn : ∀ env : Env, env.fn = FN → KnOk P env kn) (hbase : c.aks.length ≤ base) {eouts : List Leaf}
    (hent : entryK P kn n f c.f [] base (argSVs 0 c.aks) k aa = some eouts)
    (H : ∀ (ls : List (List Int)) (e0 : Env), e0.fn = FN → ArgsE e0 0 c.aks ls → RngOk c.aks ls c.rng → PreOk FN ls c.pre → AsOk e0 aa ∧ allLeaves (fun lf => AsOk e0 lf.1 → StepG FN ls c.id c.rks (fun _ _ => False) (fun _ _ => (0, 0)) none e0 lf.2) eouts) : PcOk P FN c :=
  fun w vs ls hargs hrng hpre => pc_inst hmix c hkn hbase hent hargs fun e0 hf ha => H ls e0 hf ha hrng hpre

theorem d_ok {c : Pc} (h : PcOk Try.prog FNc c) (h1 : ∀ i, i < c.rks.length → c.id + i ≤ 86) (h2 : c.pre = []) : PcOk Try.prog FNd c := by
  refine h.cong (fun i hi => ?_) (fun i hi => by rw [h2] at hi; cases hi)
  have := h1 i hi
  generalize c.id + i = j at this
  funext l
  unfold FNd
  split <;> first | omega | rfl

theorem more_d : PcOk Try.prog FNd pcMore := d_ok more_ok (by decide) rfl
theorem moreR_d : PcOk Try.prog FNd pcMoreR := d_ok moreR_ok (by decide) rfl

theorem knMore_ok : ∀ env : Env, env.fn = FNd → KnOk Try.prog env [pcMore.ct] := fun env h => knOk_cons knOk_nil (Pc.ct_ok h more_d)
theorem knMoreR_ok : ∀ env : Env, env.fn = FNd → KnOk Try.prog env [pcMoreR.ct] := fun env h => knOk_cons knOk_nil (Pc.ct_ok h moreR_d)

theorem wrap8 (z : Int) : IntKind.u8.wrap z = z % 256 := by simp [IntKind.wrap, IntKind.bits, IntKind.signed]

theorem shrN (s : Int) (k : Nat) (hk : k ≤ 31) : binI .shr .u32 s (k : Int) = s / 2 ^ k := by
  have e : min ((k : Int)).toNat (IntKind.u32).bits = k := by simp [IntKind.bits]; omega
  simp only [binI, e]
  exact Int.fdiv_eq_ediv_of_nonneg _ (Int.pow_nonneg (by decide))

theorem quoM (s d : Int) (h0 : 0 ≤ s) (h1 : s ≤ 4294967295) (hd : 1 ≤ d) : binI .quo .u32 s d = s / d := by
  show IntKind.u32.wrap (s.tdiv d) = s / d
  rw [Int.tdiv_eq_ediv_of_nonneg h0]
  exact w32 _ (Int.ediv_nonneg h0 (by omega)) (by have := Int.ediv_le_self d h0; omega)
theorem remM (s d : Int) (h0 : 0 ≤ s) : binI .rem .u32 s d = s % d := by
  show s.tmod d = s % d
  rw [Int.tmod_eq_emod_of_nonneg h0]

theorem tail_prog (s : Int) (h0 : 0 ≤ s) (h1 : s ≤ 4294967295) : [IntKind.u8.wrap s, IntKind.u8.wrap (binI .shr .u32 s 8), IntKind.u8.wrap (binI .shr .u32 s 16), IntKind.u8.wrap (binI .shr .u32 s 24)] = tailM s := by
  have e8 := shrN s 8 (by decide)
  have e16 := shrN s 16 (by decide)
  have e24 := shrN s 24 (by decide)
  simp only [show ((8 : Nat) : Int) = 8 from rfl, show ((16 : Nat) : Int) = 16 from rfl, show ((24 : Nat) : Int) = 24 from rfl] at e8 e16 e24
  rw [e8, e16, e24]
  simp only [wrap8, tailM, show (2 : Int) ^ 8 = 256 by decide, show (2 : Int) ^ 16 = 65536 by decide, show (2 : Int) ^ 24 = 16777216 by decide, List.cons.injEq, and_true, true_and]
  omega

theorem tail_doc (s : Int) (h0 : 0 ≤ s) (h1 : s ≤ 4294967295) : [IntKind.u8.wrap (binI .rem .u32 s 256), IntKind.u8.wrap (binI .rem .u32 (binI .quo .u32 s 256) 256), IntKind.u8.wrap (binI .rem .u32 (binI .quo .u32 s 65536) 256), IntKind.u8.wrap (binI .quo .u32 s 16777216)] = tailM s := by
  rw [quoM s 256 h0 h1 (by decide), quoM s 65536 h0 h1 (by decide), quoM s 16777216 h0 h1 (by decide), remM s 256 h0, remM _ 256 (by omega), remM _ 256 (by omega)]
  simp only [wrap8, tailM, List.cons.injEq, and_true]
  omega

theorem sub_all {l : List Int} {n : Nat} (h : n = l.length) : subL l 0 (n : Int) 1 = l := by
  subst h
  simp [subL]

theorem tailM_len (s : Int) : (tailM s).length = 4 := rfl
theorem sealM_len (b : List Int) : (sealM b).length = b.length + 4 := by simp [sealM, tailM]

theorem seal_ok : PcOk Try.prog FNd pcSeal := by
  refine pc_line mix pcSeal knMore_ok (by decide) seal_entry ?_
  intro ls e0 hf hargs hrng hpre
  simp only [pcSeal, ArgsE, ArgE] at hargs
  obtain ⟨b, _, rfl, ⟨hb, _⟩, rfl⟩ := hargs
  have hlen := (hrng.1 (.sl [.u8]) b rfl rfl).2
  simp only [measL, List.length_singleton, Nat.div_one] at hlen
  have e4 : binI .add .i64 (b.length : Int) 4 = (b.length : Int) + 4 := wrap_i64 (by omega)
  have hr := crcM_rng 0 b
  refine ⟨?_, ⟨fun _ => ⟨[_], rfl, ⟨by decide, _, rfl, ?_, ?_⟩, rfl⟩, trivial⟩⟩
  · simp only [asS4, atmB, AsOk_cons, AsOk_nil, BE.eval, cmpI, IE.eval, IE.reval, hb, e4, Nat.div_one]
    simp; omega
  · rw [subE_eval (by simp only [IE.reval, IE.eval, IE.aeval, hb]; simp [repL, subL]; omega)]
    simp only [IE.reval, IE.eval, IE.aeval, hf, hb, e4, pcSeal, FNd_88, FNd_86, List.headD_cons, tail_prog _ hr.1 hr.2, Nat.div_one]
    have e5 : (b.length : Int) + 4 = ((sealM b).length : Int) := by rw [sealM_len]; omega
    have e6 : subL (repL ((b.length : Int) + 4) [0]) 0 0 1 = [] := by simp [subL]
    rw [e6, e5]
    exact sub_all rfl
  · refine ⟨by simp only [IE.eval, IE.reval, hb]; omega, fun B r cnt ks' h1 h2 => ?_⟩
    obtain rfl := Option.some.inj h1
    cases h2
    exact Int.le_refl _

theorem sealR_ok : PcOk Try.prog FNd pcSealR := by
  refine pc_line mix pcSealR knMoreR_ok (by decide) sealR_entry ?_
  intro ls e0 hf hargs hrng hpre
  simp only [pcSealR, ArgsE, ArgE] at hargs
  obtain ⟨b, _, rfl, ⟨hb, _⟩, rfl⟩ := hargs
  have hlen := (hrng.1 (.sl [.u8]) b rfl rfl).2
  simp only [measL, List.length_singleton, Nat.div_one] at hlen
  have hr := crcM_rng 0 b
  refine ⟨?_, ⟨fun _ => ⟨[_], rfl, ⟨by decide, _, rfl, ?_, ?_⟩, rfl⟩, trivial⟩⟩
  · simp only [asS, atmB, AsOk_cons, AsOk_nil, BE.eval, cmpI, IE.eval, IE.reval, hb, Nat.div_one]
    simp; omega
  · rw [subE_eval (by simp only [IE.reval, IE.eval, IE.aeval, hb]; simp; omega)]
    simp only [IE.reval, IE.eval, IE.aeval, hf, hb, pcSealR, FNd_88, FNd_86, List.headD_cons, tail_doc _ hr.1 hr.2, Nat.div_one]
    have e5 : (b.length : Int) + 4 = ((sealM b).length : Int) := by rw [sealM_len]; omega
    rw [e5]
    exact sub_all rfl
  · refine ⟨by simp only [IE.eval, IE.reval, hb]; omega, fun B r cnt ks' h1 h2 => ?_⟩
    obtain rfl := Option.some.inj h1
    cases h2
    exact Int.le_refl _

set_option maxHeartbeats 1000000 in
theorem clone_none (c : Nat) (w : World) : Calls Try.prog 144 #[.slice none 0 c] w fun e w' => e = .returned (.slice none 0 0) ∧ RowKit.Below w.heap.size w w' := by
  have kq := Lib.run_eql_slice_nil (P := Try.prog) w 22 5 none 0 c 0 0 Try.underlying22
  go_enter Try.func144, Try.ntmps144
  go_wp2_with fail
  go_ret
  exact ⟨rfl, RowKit.Below.refl _ _⟩

theorem clone_ok : PcOk Try.prog FNd pcClone := by
  intro w vs ls hargs hrng hpre
  have hargs0 := hargs
  match hvs : vs.toList, ls, hargs with
  | [v], [b], hargs =>
    obtain ⟨⟨_, a, n, c, rfl, h4, h5, h6⟩, _⟩ := hargs
    have hlen := (hrng.1 (.sl [.u8]) b rfl rfl).2
    simp only [measL, List.length_singleton, Nat.div_one, Nat.mul_one] at hlen h5
    have hvs' : vs = #[.slice a n c] := by apply Array.ext'; simpa using hvs
    by_cases hn : n = 0
    · subst hn
      obtain rfl : b = [] := List.eq_nil_of_length_eq_zero h5
      cases a with
      | none =>
        subst hvs'
        refine (clone_none c w).mono ?_
        rintro e w' ⟨rfl, hb⟩
        exact ⟨hb, _, [_], rfl, rfl, _, [], rfl, ⟨by decide, .inl ⟨rfl, _, _, rfl⟩⟩, rfl⟩
      | some x =>
        refine floyd (w0 := w) (n := 50) (f := 200) (kn := []) (base := 1) (cs := []) (ro := fun _ => none) (FN := FNd) mix (fun _ _ => knOk_nil) (fun i R h => by cases h) (fun _ _ => False) (fun _ _ => (0, 0)) 30 (fun i p T hi => by simp at hi) (fun i env h => h.elim) clone_empty ⟨fun _ => undef, fun _ => [], fun _ => none, FNd⟩ rfl rfl (by intro p hp; cases hp) ?_ (fun i R h => by cases h) ?_
        · rw [hvs]
          simp only [RepL, Rep]
          exact ⟨_, [], rfl, ⟨_, _, rfl⟩, rfl⟩
        · intro lf hlf hA
          simp only [List.mem_singleton] at hlf
          subst hlf
          refine ret_good [_] rfl ⟨⟨by decide, _, rfl, rfl, ?_⟩, rfl⟩
          refine ⟨by decide, fun B r cnt ks' h1 h2 => ?_⟩
          obtain rfl := Option.some.inj h1
          cases h2
          exact Int.le_refl _
    · refine pc_inst mix pcClone (fun _ _ => knOk_nil) (by decide) clone_entry hargs0 fun e0 hf ha => ?_
      simp only [pcClone, ArgsE, ArgE, List.cons.injEq] at ha
      obtain ⟨_, _, ⟨rfl, rfl⟩, ⟨hb, _⟩, _⟩ := ha
      refine ⟨?_, ⟨fun _ => ⟨[_], rfl, ⟨by decide, _, rfl, ?_, ?_⟩, rfl⟩, trivial⟩⟩
      · simp only [asC, atmB, AsOk_cons, AsOk_nil, BE.eval, cmpI, IE.eval, IE.reval, hb, Nat.div_one]
        simp; omega
      · rw [subE_eval (by simp only [IE.reval, IE.eval, hb]; simp)]
        simp only [IE.reval, IE.eval, hb, pcClone, FNd_89, List.nil_append, Nat.div_one]
        exact sub_all rfl
      · refine ⟨by simp only [IE.eval, IE.reval, hb]; omega, fun B r cnt ks' h1 h2 => ?_⟩
        obtain rfl := Option.some.inj h1
        cases h2
        exact Int.le_refl _
  | [], _, h => exact h.elim
  | _ :: _ :: _, [_], h => exact h.2.elim
  | _ :: _, [], h => exact h.elim
  | [_], _ :: _ :: _, h => exact h.2.elim
  | _ :: _ :: _, _ :: _ :: _, h => exact h.2.elim

end Go.Proofs.Ytkfejcffacbngaa.J
