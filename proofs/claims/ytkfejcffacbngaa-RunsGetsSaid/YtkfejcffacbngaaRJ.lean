import Derived.Test.YtkfejcffacbngaaRI

namespace Go.Proofs.Ytkfejcffacbngaa.J

open Go Go.Sym

set_option linter.unusedVariables false

def g102 : List (List Int) → List Int
  | [b, zs] => b ++ putS (runsL zs)
  | _ => []

def g103 : List (List Int) → List Int
  | [zs] => [((lenS (runsL zs) : Nat) : Int)]
  | _ => []

def FNq : Nat → List (List Int) → List Int
  | 102, l => g102 l
  | 103, l => g103 l
  | i, l => FNp i l

theorem FNq_102 (b zs : List Int) : FNq 102 [b, zs] = b ++ putS (runsL zs) := rfl
theorem FNq_103 (zs : List Int) : FNq 103 [zs] = [((lenS (runsL zs) : Nat) : Int)] := rfl

def pcRPut : Pc := ⟨20, [.sl [.u8], .sl [.i64]], [.sl 5 [.u8]], 102, [(0, 0, 1000000), (1, 0, 1000000)], []⟩
def pcRLen : Pc := ⟨22, [.sl [.i64]], [.int .i64], 103, [(0, 0, 1000000)], []⟩

theorem kind1 (k : IntKind) (j : Nat) : kindAt [k] j = k := by simp [kindAt, Nat.mod_one]

theorem intsIn_of {w : World} {v : Value} {zs : List Int} (h : ArgIs w v (.sl [.i64]) zs) : IntsIn w w.heap.size v zs := by
  obtain ⟨_, a, n, c, rfl, h4, h5, h6⟩ := h
  simp only [List.length_singleton, Nat.mul_one] at h5
  refine ⟨a, c, by rw [h5], ?_⟩
  rcases h6 with ⟨b, o, rfl, h7, h8⟩ | h6
  · refine .inr ⟨b, o, rfl, h7, fun j hj => ?_⟩
    have := h8 j _ (List.getElem?_eq_getElem hj)
    rw [kind1] at this
    rw [this, List.getElem?_eq_getElem hj]; rfl
  · exact .inl (List.eq_nil_of_length_eq_zero (by omega))

theorem reads_of {w : World} {a : Option Addr} {n c : Nat} {l : List Int} (h : ArgIs w (.slice a n c) (.sl [.u8]) l) : Reads w w.heap.size 1 a n (B8 l) := by
  obtain ⟨_, a', n', c', he, h4, h5, h6⟩ := h
  cases he
  simp only [List.length_singleton, Nat.mul_one] at h5
  refine ⟨by simp [h5], fun hn => ?_⟩
  rcases h6 with ⟨b, o, rfl, h7, h8⟩ | h6
  · refine ⟨_, rfl, h7, fun j u hu => ?_⟩
    rw [List.getElem?_map] at hu
    cases hq : l[j]? with
    | none => rw [hq] at hu; cases hu
    | some q =>
      rw [hq] at hu
      cases hu
      have := h8 j q hq
      rw [kind1] at this
      rw [addr_add]; exact this
  · omega

theorem newSl_of {w w' : World} {v : Value} {l : List Int} (h : w'.ownsRow w.heap.size 5 1 v l.length (B8 l)) : NewSl w w' v 5 [.u8] l := by
  refine ⟨by decide, ?_⟩
  rcases h.2 with ⟨rfl, h0⟩ | ⟨g, cap, cur, rfl, h1, h2, h3, h4, h5, h6⟩
  · exact .inl ⟨List.eq_nil_of_length_eq_zero h0, _, _, rfl⟩
  · by_cases hl : l = []
    · subst hl; exact .inl ⟨rfl, _, _, rfl⟩
    · refine .inr ⟨hl, g, l.length, cap, cur, 0, 0, rfl, by simp, h3, h1, h2, .inl rfl, by simpa using h5, fun j x hx => ?_⟩
      rw [kind1]
      have hj : j < l.length := (List.getElem?_eq_some_iff.1 hx).1
      have hc : cur.toList[j]? = some (.int .u8 x) := by
        have := congrArg (fun q => q[j]?) h6
        simp only [Nat.mul_one, List.getElem?_take, if_pos hj] at this
        rw [this, List.getElem?_map, hx]; rfl
      simp only [World.cell?, h2, Nat.zero_add]
      simpa using hc

theorem rput_ok : PcOk Try.prog FNq pcRPut := by
  intro w vs ls hargs hrng hpre
  have hargs0 := hargs
  match hvs : vs.toList, ls, hargs with
  | [v, sv], [b, zs], hargs =>
    obtain ⟨h1, h2, _⟩ := hargs
    have l1 := (hrng.1 (.sl [.u8]) b rfl rfl).2
    have l2 := (hrng.2.1 (.sl [.i64]) zs rfl rfl).2
    simp only [measL, List.length_singleton, Nat.div_one] at l1 l2
    have hvs' : vs = #[v, sv] := by apply Array.ext'; simpa using hvs
    subst hvs'
    obtain ⟨_, a, n, c, rfl, h4, h5, h6⟩ := id h1
    simp only [List.length_singleton, Nat.mul_one] at h5
    refine (callsIn_wide.1 (put_in a n c b sv zs (by omega) w (reads_of h1) (by omega) (intsIn_of h2))).mono ?_
    rintro e w' ⟨v, rfl, hown, hb⟩
    exact ⟨hb, _, [v], rfl, rfl, _, [], rfl, newSl_of hown, rfl⟩
  | [], _, h => exact h.elim
  | [_], [], h => exact h.elim
  | [_], [_], h => exact h.2.elim
  | [_], _ :: _ :: _, h => exact h.2.elim
  | _ :: _ :: _, [], h => exact h.elim
  | _ :: _ :: _, [_], h => exact h.2.elim
  | [_, _], _ :: _ :: _ :: _, h => exact h.2.2.elim
  | _ :: _ :: _ :: _, [_, _], h => exact h.2.2.elim
  | _ :: _ :: _ :: _, _ :: _ :: _ :: _, h => exact h.2.2.elim

theorem rlen_ok : PcOk Try.prog FNq pcRLen := by
  intro w vs ls hargs hrng hpre
  match hvs : vs.toList, ls, hargs with
  | [sv], [zs], hargs =>
    obtain ⟨h1, _⟩ := hargs
    have l1 := (hrng.1 (.sl [.i64]) zs rfl rfl).2
    simp only [measL, List.length_singleton, Nat.div_one] at l1
    have hvs' : vs = #[sv] := by apply Array.ext'; simpa using hvs
    subst hvs'
    refine (callsIn_wide.1 (len_in sv zs (by omega) w (intsIn_of h1))).mono ?_
    rintro e w' ⟨rfl, hb⟩
    exact ⟨hb, _, [_], rfl, rfl, _, [], rfl, rfl, rfl⟩
  | [], _, h => exact h.elim
  | _ :: _ :: _, [_], h => exact h.2.elim
  | _ :: _, [], h => exact h.elim
  | [_], _ :: _ :: _, h => exact h.2.elim
  | _ :: _ :: _, _ :: _ :: _, h => exact h.2.elim

end Go.Proofs.Ytkfejcffacbngaa.J
