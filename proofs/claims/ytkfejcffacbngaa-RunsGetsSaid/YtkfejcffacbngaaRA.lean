import Derived.Test.YtkfejcffacbngaaJB
import Derived.RangeFuncBox
import Derived.RangeFuncLeaves
import Derived.RangeFuncCalls
import Derived.Shelf.Abstract
import Derived.WalkKit
import Derived.OwnWalkIn
import Derived.TacticsInMore
import Derived.LoopNIn
import Derived.LoopIn
import Derived.Maps.AppendAt

namespace Go.Proofs.Ytkfejcffacbngaa.J

open Go Go.RowKit Go.Shelf

set_option linter.unusedVariables false

attribute [local go_sem] Oper.semAt_some

/-- how many noughts a row begins with -/
def zc : List Int → Nat
  | [] => 0
  | x :: l => if x = 0 then zc l + 1 else 0

/-- how many numbers the first run has -/
def rl : List Int → Nat
  | [] => 0
  | x :: l => if x = 0 then zc l + 1 else 1

def runsF : Nat → List Int → List (Int × Int)
  | 0, _ => []
  | _ + 1, [] => []
  | f + 1, x :: l => (x, (rl (x :: l) : Int)) :: runsF f ((x :: l).drop (rl (x :: l)))

def runsL (l : List Int) : List (Int × Int) := runsF l.length l

theorem rl_pos {x : Int} {l : List Int} : 1 ≤ rl (x :: l) := by
  rw [rl]; split <;> omega

theorem runsF_more : ∀ (f g : Nat) (l : List Int), l.length ≤ f → l.length ≤ g → runsF f l = runsF g l := by
  intro f
  induction f with
  | zero =>
    intro g l h1 h2
    obtain rfl : l = [] := List.eq_nil_of_length_eq_zero (by omega)
    cases g <;> rfl
  | succ f ih =>
    intro g l h1 h2
    cases l with
    | nil => cases g <;> rfl
    | cons x l =>
      cases g with
      | zero => simp at h2
      | succ g =>
        have := rl_pos (x := x) (l := l)
        simp only [List.length_cons] at h1 h2
        rw [runsF, runsF, ih g ((x :: l).drop (rl (x :: l))) (by simp; omega) (by simp; omega)]

theorem runsL_cons (x : Int) (l : List Int) : runsL (x :: l) = (x, (rl (x :: l) : Int)) :: runsL ((x :: l).drop (rl (x :: l))) := by
  have := rl_pos (x := x) (l := l)
  rw [runsL, List.length_cons, runsF, runsL]
  rw [runsF_more l.length _ _ (by simp; omega) (Nat.le_refl _)]

theorem zc_eq : ∀ (l : List Int) (m : Nat), (∀ j, j < m → l[j]? = some 0) → l[m]? ≠ some 0 → zc l = m
  | [], m, h1, h2 => by
    cases m with
    | zero => rfl
    | succ m => have := h1 0 (by omega); simp at this
  | x :: l, 0, h1, h2 => by
    have : ¬ x = 0 := fun e => h2 (by simp [e])
    rw [zc, if_neg this]
  | x :: l, m + 1, h1, h2 => by
    have h0 := h1 0 (by omega)
    simp at h0
    rw [zc, if_pos h0, zc_eq l m (fun j hj => by simpa using h1 (j + 1) (by omega)) (by simpa using h2)]

/-- A run's end is found. -/
theorem rl_at {zs : List Int} {k m : Nat} (hk : k + m ≤ zs.length) (hm : 1 ≤ m) (h0 : zs[k]?.getD 0 = 0 → (∀ j, j < m → zs[k + j]?.getD 0 = 0) ∧ (k + m < zs.length → zs[k + m]?.getD 0 ≠ 0)) (h1 : zs[k]?.getD 0 ≠ 0 → m = 1) :
    rl (zs.drop k) = m := by
  have hlt : k < zs.length := by omega
  rw [List.drop_eq_getElem_cons hlt]
  have hg : zs[k]?.getD 0 = zs[k] := by simp [hlt]
  rw [rl]
  split
  · rename_i hz
    obtain ⟨a, b⟩ := h0 (by rw [hg, hz])
    obtain ⟨n, rfl⟩ : ∃ n, m = n + 1 := ⟨m - 1, by omega⟩
    rw [zc_eq _ n]
    · intro j hj
      have h2 := a (j + 1) (by omega)
      have h3 : k + 1 + j < zs.length := by omega
      rw [List.getElem?_drop, List.getElem?_eq_getElem h3]
      rw [show k + (j + 1) = k + 1 + j by omega, List.getElem?_eq_getElem h3] at h2
      simpa using h2
    · rw [List.getElem?_drop]
      intro h
      have h3 : k + 1 + n < zs.length := (List.getElem?_eq_some_iff.1 h).1
      exact b (by omega) (by rw [show k + (n + 1) = k + 1 + n by omega, h]; rfl)
  · rename_i hz
    rw [h1 (by rw [hg]; exact hz)]

theorem runs_at {zs : List Int} {k m : Nat} (hk : k + m ≤ zs.length) (hm : 1 ≤ m) (h0 : zs[k]?.getD 0 = 0 → (∀ j, j < m → zs[k + j]?.getD 0 = 0) ∧ (k + m < zs.length → zs[k + m]?.getD 0 ≠ 0)) (h1 : zs[k]?.getD 0 ≠ 0 → m = 1) :
    runsL (zs.drop k) = (zs[k]?.getD 0, (m : Int)) :: runsL (zs.drop (k + m)) := by
  have h := rl_at hk hm h0 h1
  have hlt : k < zs.length := by omega
  have hg : zs[k]?.getD 0 = zs[k] := by simp [hlt]
  have e := List.drop_eq_getElem_cons hlt
  rw [e] at h
  rw [e, runsL_cons, h, ← e, List.drop_drop, hg]

theorem hide {p : Prop} (h : p) : Hid p := h

abbrev encP (p : Int × Int) : Array Value := #[.int .i64 p.1, .int .i64 p.2]

end Go.Proofs.Ytkfejcffacbngaa.J
