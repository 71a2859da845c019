import Derived.Test.YtkfejcffacbngaaRG

namespace Go.Proofs.Ytkfejcffacbngaa.J

open Go Go.RowKit Go.Shelf

set_option linter.unusedVariables false

theorem infobyte : (Try.prog.info? 5).map (fun i => (i.zero, i.size, i.bytes)) = some (some (.int .u8 0), 1, 1) := by kernel_rfl

theorem hone8 (l : List Int) : ∀ u ∈ B8 l, u.oneCell' = true := fun u hu => by
  obtain ⟨x, _, rfl⟩ := List.mem_map.1 hu
  rfl

set_option maxRecDepth 100000 in
set_option maxHeartbeats 1000000 in
theorem clone74 (A : Option Addr) (n c : Nat) (xs : List Int) (w : World) (hr : Reads w w.heap.size 1 A n (B8 xs)) (hn : n ≤ 1000000) :
    Calls Try.prog 74 #[.slice A n c] w fun e w' => ∃ v, e = .returned v ∧ w'.ownsRow w.heap.size 5 1 v n (B8 xs) ∧ Below w.heap.size w w' := by
  have hlen : xs.length = n := by simpa using hr.1
  obtain ⟨j0, hi, hz0, hz1, hz2⟩ := info_parts infobyte
  have Hi := hide hi
  have Hz0 := hide hz0
  have Hz1 := hide hz1
  have Hz2 := hide hz2
  have HR := hide hr
  have HL := hide hlen
  have HONE := hide hone8
  have hown0 : (w.alloc (Obj.cells #[] 5)).ownsRow w.heap.size 5 1 (.slice (some ⟨w.heap.size, 0, none⟩) 0 0) 0 [] := World.ownsRow_made w #[] 0 (Nat.le_refl _) (Nat.zero_le _) rfl
  have hb0 : Below w.heap.size w (w.alloc (Obj.cells #[] 5)) := (Below.refl _ _).alloc (Nat.le_refl _) _
  clear hi hz0 hz1 hz2 hr hlen
  cases A with
  | none =>
    have hn0 : n = 0 := by
      by_cases h : n = 0
      · exact h
      · obtain ⟨ad, h1, _⟩ := HR.out.2 (by omega)
        cases h1
    subst hn0
    have hx0 : xs = [] := List.eq_nil_of_length_eq_zero HL.out
    subst hx0
    clear hown0 hb0
    have kq := Lib.run_eql_slice_nil (P := Try.prog) w 22 5 none 0 c 0 0 Try.underlying22
    go_enter Try.func74, Try.ntmps74
    go_wp2_with fail
    go_ret
    exact ⟨_, rfl, ⟨rfl, .inl ⟨rfl, rfl⟩⟩, Below.refl _ _⟩
  | some ad =>
    have kq := Lib.run_eql_slice_nil (P := Try.prog) w 22 5 (some ad) n c 0 0 Try.underlying22
    go_enter Try.func74, Try.ntmps74
    go_wp2_with (at_builtin; (refine wpList_append_any _ rfl (.tmp 5) (.tmp 6) _ rfl w.heap.size 5 j0 _ 1 1 Try.underlying22 Hi.out Hz0.out Hz1.out Hz2.out rfl (by omega) _ 0 [] rfl hown0 w.heap.size (some ad) n c _ rfl (HR.out.below hb0) (HONE.out _) (by simp only [maxLen]; omega) (by omega) hb0.size ?_); intro v4 w4 hown4 hg4 hat4; have hb4 := hb0.grown hg4 hb0.size (fun k hk => (hown0.lt k hk).1))
    go_ret
    refine ⟨_, rfl, ?_, hb4⟩
    simpa using hown4

def putB (p : Int × Int) : List Int := lebN 10 (foldM p.1) ++ (if p.1 = 0 then lebN 10 (IntKind.u64.wrap (IntKind.i64.wrap (p.2 - 1))) else [])

def putS (pre : List (Int × Int)) : List Int := (pre.map putB).flatten

theorem putS_snoc (pre : List (Int × Int)) (x : Int × Int) : putS (pre ++ [x]) = putS pre ++ putB x := by simp [putS]

theorem putB_len (p : Int × Int) : (putB p).length = bumpL p := by
  unfold putB bumpL
  split <;> simp

theorem putS_len (pre : List (Int × Int)) : (putS pre).length = lenS pre := by
  induction pre with
  | nil => rfl
  | cons x l ih =>
    have h1 : putS (x :: l) = putB x ++ putS l := by simp [putS]
    have h2 : lenS (x :: l) = bumpL x + lenS l := by simp [lenS]
    rw [h1, h2, List.length_append, putB_len, ih]

end Go.Proofs.Ytkfejcffacbngaa.J
