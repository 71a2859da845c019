import Derived.Test.YtkfejcffacbngaaJM

namespace Go.Proofs.Ytkfejcffacbngaa.J

open Go Go.Sym

set_option linter.unusedVariables false

theorem j_ok {c : Pc} (h : PcOk Try.prog FNd c) (h1 : ∀ i, i < c.rks.length → c.id + i ≤ 91) (h2 : c.pre = []) : PcOk Try.prog FNj c := by
  refine h.cong (fun i hi => ?_) (fun i hi => by rw [h2] at hi; cases hi)
  have := h1 i hi
  generalize c.id + i = j at this
  funext l
  unfold FNj
  split <;> first | omega | rfl

theorem b_d {c : Pc} (h : PcOk Try.prog FNb c) (h1 : ∀ i, i < c.rks.length → c.id + i ≤ 85) (h2 : c.pre = []) : PcOk Try.prog FNd c := by
  refine h.cong (fun i hi => ?_) (fun i hi => by rw [h2] at hi; cases hi)
  have := h1 i hi
  generalize c.id + i = j at this
  funext l
  unfold FNd FNc
  split <;> first | omega | (split <;> first | omega | rfl)

theorem a_b {c : Pc} (h : PcOk Try.prog FNa c) (h1 : ∀ i, i < c.rks.length → c.id + i ≤ 82) (h2 : c.pre = []) : PcOk Try.prog FNb c := by
  refine h.cong (fun i hi => ?_) (fun i hi => by rw [h2] at hi; cases hi)
  have := h1 i hi
  generalize c.id + i = j at this
  funext l
  unfold FNb
  split <;> first | omega | rfl

theorem leb_j : PcOk Try.prog FNj pcLeb := j_ok (b_d (a_b leb_ok (by decide) rfl) (by decide) rfl) (by decide) rfl
theorem rfB_j : PcOk Try.prog FNj pcRfB := j_ok (b_d (a_b rfB_ok (by decide) rfl) (by decide) rfl) (by decide) rfl
theorem lebG_j : PcOk Try.prog FNj pcLebG := j_ok (b_d lebG_ok (by decide) rfl) (by decide) rfl
theorem seal_j : PcOk Try.prog FNj pcSeal := j_ok seal_ok (by decide) rfl
theorem sealR_j : PcOk Try.prog FNj pcSealR := j_ok sealR_ok (by decide) rfl
theorem open_j : PcOk Try.prog FNj pcOpen := j_ok open_ok (by decide) rfl

theorem lebN_len (k : Nat) (u : Int) : 1 ≤ (lebN k u).length ∧ (lebN k u).length ≤ k + 1 := by
  induction k generalizing u with
  | zero => simp [lebN]
  | succ k ih =>
    rw [lebN]
    split
    · simp
    · have := ih (u / 128); simp; omega

theorem recM_len (r : List Int) : 5 + r.length ≤ (recM r).length ∧ (recM r).length ≤ 15 + r.length := by
  have := lebN_len 10 ((r.length : Int) + 1)
  simp only [recM, List.length_append, sealM_len]
  omega

theorem rec_ok : PcOk Try.prog FNj pcRec := by
  refine pc_line mix pcRec (fun env h => knOk_cons (knOk_cons knOk_nil (Pc.ct_ok h sealR_j)) (Pc.ct_ok h rfB_j)) (by decide) rec_entry ?_
  intro ls e0 hf hargs hrng hpre
  simp only [pcRec, ArgsE, ArgE] at hargs
  obtain ⟨b, _, rfl, ⟨hb, _⟩, rfl⟩ := hargs
  have hlen := (hrng.1 (.sl [.u8]) b rfl rfl).2
  simp only [measL, List.length_singleton, Nat.div_one] at hlen
  have e1 : IntKind.u64.wrap (binI .add .i64 (b.length : Int) 1) = (b.length : Int) + 1 := by
    have : binI .add .i64 (b.length : Int) 1 = (b.length : Int) + 1 := wrap_i64 (by omega)
    rw [this]; exact wrap_u64 (by omega)
  have hl := lebN_len 10 ((b.length : Int) + 1)
  have hr := recM_len b
  refine ⟨?_, ⟨fun _ => ⟨[_], rfl, ⟨by decide, _, rfl, ?_, ?_⟩, rfl⟩, trivial⟩⟩
  · simp only [asR, lt, eR, sR, uR, atmB, AsOk_cons, AsOk_nil, BE.eval, cmpI, IE.eval, IE.reval, IE.aeval, hf, hb, e1, FNj_82, FNj_88, sealM_len, Nat.div_one]
    simp; omega
  · rw [subE_eval (by simp only [IE.reval, IE.eval, IE.aeval, hf, hb]; simp; omega)]
    simp only [IE.reval, IE.eval, IE.aeval, hf, hb, e1, FNj_82, FNj_88, pcRec, FNj_92, Nat.div_one]
    exact sub_all (by simp)
  · refine ⟨by simp only [IE.eval, IE.reval]; omega, fun B r cnt ks' h1 h2 => ?_⟩
    obtain rfl := Option.some.inj h1
    cases h2
    exact Int.le_refl _

theorem jput_ok : PcOk Try.prog FNj pcJPut := by
  refine pc_line mix pcJPut (fun env h => knOk_cons (knOk_cons knOk_nil (Pc.ct_ok h seal_j)) (Pc.ct_ok h leb_j)) (by decide) jput_entry ?_
  intro ls e0 hf hargs hrng hpre
  simp only [pcJPut, ArgsE, ArgE] at hargs
  obtain ⟨b, _, rfl, ⟨hb, _⟩, r, _, rfl, ⟨hr, _⟩, rfl⟩ := hargs
  have hlen := (hrng.1 (.sl [.u8]) b rfl rfl).2
  have hlen1 := (hrng.2.1 (.sl [.u8]) r rfl rfl).2
  simp only [measL, List.length_singleton, Nat.div_one, Nat.zero_add] at hlen hlen1 hr
  have e1 : binI .add .u64 (IntKind.u64.wrap (r.length : Int)) 1 = (r.length : Int) + 1 := by
    have : IntKind.u64.wrap (r.length : Int) = (r.length : Int) := wrap_u64 (by omega)
    rw [this]; exact wrap_u64 (by omega)
  have hl := lebN_len 10 ((r.length : Int) + 1)
  have hrl := recM_len r
  refine ⟨?_, ⟨fun _ => ⟨[_, _], rfl, ⟨by decide, _, rfl, ?_, ?_⟩, ⟨_, rfl, ?_⟩, rfl⟩, trivial⟩⟩
  · simp only [asQ, lt, eP, sP, uP, atmB, AsOk_cons, AsOk_nil, BE.eval, cmpI, IE.eval, IE.reval, IE.aeval, hf, hb, hr, e1, FNj_81, FNj_88, sealM_len, List.length_append, Nat.div_one]
    simp; omega
  · rw [subE_eval (by simp only [IE.reval, IE.eval, IE.aeval, hf, hb, hr]; simp; omega)]
    simp only [IE.reval, IE.eval, IE.aeval, hf, hb, hr, e1, FNj_81, FNj_88, pcJPut, FNj_93, Nat.div_one, List.append_assoc, recM]
    exact sub_all (by simp; omega)
  · refine ⟨by simp only [IE.eval, IE.reval]; omega, fun B r cnt ks' h1 h2 => ?_⟩
    obtain rfl := Option.some.inj h1
    cases h2
    exact Int.le_refl _
  · simp only [IE.eval, pcJPut, Nat.reduceAdd, FNj_94, List.headD_cons]

end Go.Proofs.Ytkfejcffacbngaa.J
