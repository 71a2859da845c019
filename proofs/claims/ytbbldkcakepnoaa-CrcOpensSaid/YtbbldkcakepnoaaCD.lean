/- Contracts of bytes.Equal, bytes.Clone, crc.Open and the document's own Open. -/
import Derived.Test.YtbbldkcakepnoaaCC
import Derived.Lib.SliceRun
namespace Go.Proofs.Ytbbldkcakepnoaa
open Go.RowKit Go.Lib

set_option maxHeartbeats 1000000 in
theorem equal_any (A : Option Addr) (n c : Nat) (xs : List Int) (B : Option Addr) (m d : Nat) (ys : List Int) (w : World) (hr : Reads w w.heap.size 1 A n (xs.map (Value.int .u8))) (hs : Reads w w.heap.size 1 B m (ys.map (Value.int .u8))) (hx : ∀ x ∈ xs, 0 ≤ x ∧ x ≤ 255) (hy : ∀ x ∈ ys, 0 ≤ x ∧ x ≤ 255) :
    Calls Try.prog 23 #[.slice A n c, .slice B m d] w fun e w' => e = .returned (.bool (decide (xs = ys))) ∧ Below w.heap.size w w' := by
  have q1 := conv_reads (P := Try.prog) 27 5 9 Try.underlying27 Try.underlying5 Try.underlying9 hr c
  have q2 := conv_reads (P := Try.prog) 27 5 9 Try.underlying27 Try.underlying5 Try.underlying9 hs d
  by_cases h : xs = ys
  · have HB := hide h
    rw [← h] at q2
    have HD := hide (show decide (xs = ys) = true by simpa using h)
    clear h hr hs hx hy
    go_enter Try.func23, Try.ntmps23
    go_wp2
    go_ret
    rw [HD.out]
    refine ⟨?_, Below.refl _ _⟩
    simp
  · have hne := str_ne (fun he => h (strOfNums_inj hx hy he))
    have HD := hide (show decide (xs = ys) = false by simpa using h)
    clear h hr hs hx hy
    go_enter Try.func23, Try.ntmps23
    go_wp2
    go_ret
    rw [HD.out]
    refine ⟨?_, Below.refl _ _⟩
    simp [hne]

set_option maxRecDepth 100000 in
set_option maxHeartbeats 1000000 in
theorem clone_any (A : Option Addr) (n c : Nat) (xs : List Int) (w : World) (hr : Reads w w.heap.size 1 A n (xs.map (Value.int .u8))) (hn : n ≤ 90000) :
    Calls Try.prog 24 #[.slice A n c] w fun e w' => OwnBytes w n xs e w' := by
  have hlen : xs.length = n := by simpa using hr.1
  obtain ⟨j0, hi, hz0, hz1, hz2⟩ := info_parts Try.infobyte
  have Hi := hide hi
  have Hz0 := hide hz0
  have Hz1 := hide hz1
  have Hz2 := hide hz2
  have HR := hide hr
  have HL := hide hlen
  have HONE := hide hone8
  have hown0 : (w.alloc (Obj.cells #[] 5)).ownsRow w.heap.size 5 1 (.slice (some ⟨w.heap.size, 0, none⟩) 0 0) 0 [] := World.ownsRow_made w #[] 0 (Nat.le_refl _) (Nat.zero_le _) rfl
  have hb0 : Below w.heap.size w (w.alloc (Obj.cells #[] 5)) := (Below.refl _ _).alloc (Nat.le_refl _) _
  clear hi hz0 hz1 hz2 hr hlen
  cases A with
  | none =>
    have hn0 : n = 0 := by
      by_cases h : n = 0
      · exact h
      · obtain ⟨ad, h1, _⟩ := HR.out.2 (by omega)
        cases h1
    subst hn0
    have hx0 : xs = [] := List.eq_nil_of_length_eq_zero HL.out
    subst hx0
    clear hown0 hb0
    have kq := Lib.run_eql_slice_nil (P := Try.prog) w 27 5 none 0 c 0 0 Try.underlying27
    go_enter Try.func24, Try.ntmps24
    go_wp2_with fail
    go_ret
    exact ⟨_, rfl, ⟨rfl, .inl ⟨rfl, rfl⟩⟩, Below.refl _ _⟩
  | some ad =>
    have kq := Lib.run_eql_slice_nil (P := Try.prog) w 27 5 (some ad) n c 0 0 Try.underlying27
    go_enter Try.func24, Try.ntmps24
    go_wp2_with (at_builtin; (refine wpList_append_any _ rfl (.tmp 5) (.tmp 6) _ rfl w.heap.size 5 j0 _ 1 1 Try.underlying27 Hi.out Hz0.out Hz1.out Hz2.out rfl (by omega) _ 0 [] rfl hown0 w.heap.size (some ad) n c _ rfl (HR.out.below hb0) (HONE.out _) (by simp only [maxLen]; omega) (by omega) hb0.size ?_); intro v4 w4 hown4 hg4 hat4; have hb4 := hb0.grown hg4 hb0.size (fun k hk => (hown0.lt k hk).1))
    go_ret
    refine ⟨_, rfl, ?_, hb4⟩
    simpa using hown4
end Go.Proofs.Ytbbldkcakepnoaa
