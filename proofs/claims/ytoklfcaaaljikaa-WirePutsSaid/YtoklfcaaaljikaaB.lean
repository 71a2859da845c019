/- Contracts of leb.Put and what it calls. -/
import Derived.Test.YtoklfcaaaljikaaA
import Derived.Lib.AppendZerosOnto
import Derived.Lib.Varint
namespace Go.Proofs.Ytoklfcaaaljikaa
open Go.RowKit Go.Lib

theorem Try.infou8 : (Try.prog.info? 5).map (fun i => (i.zero, i.size, i.bytes)) = some (some (.int .u8 0), 1, 1) := by kernel_rfl

/-- slices.Grow of the nil slice: an empty row with room. -/
theorem grow_nil (n : Nat) (w : World) (h0 : 0 < n) (h : n ≤ 1000000) :
    Calls Try.prog 24 #[.slice none 0 0, .int .i64 n] w fun e w' => ∃ v, e = .returned v ∧ w'.ownsRow w.heap.size 5 1 v 0 [] ∧ Below w.heap.size w w' := by
  obtain ⟨i0, hi, hz0, hz1, hz2⟩ := info_parts Try.infou8
  have hrz : ∀ ty, (Builtin.append_ #[22, 3] ty #[.slice none 0 0, .int .i64 (n : Int)]).run Try.prog w =
      .ok (.slice (some ⟨w.heap.size, 0, none⟩) n (grownCap w n 0 5)) (w.drew.alloc (.cells ((#[] : Array Value) ++ Builtin.zeroCells (Value.int .u8 0).cells n ++ Builtin.zeroCells (Value.int .u8 0).cells (grownCap w n 0 5 - n)) 5)) := fun ty => by
    have h := Lib.run_append_grow_zeros (P := Try.prog) w 22 3 ty 5 i0 (.int .u8 0) .i64 .i64 Try.underlying22 Try.underlying3 hi hz0 none 0 0 [] (run_firstCells_none w.drew i0.size 0 0 0) n h0 (by omega) (by omega) (by omega) (by rw [hz2]; omega)
      (by rw [hz2, Nat.zero_add]; exact growslice_fits (by omega) (by omega))
    simpa using h
  have hGn : n ≤ grownCap w n 0 5 := grownCap_ge w _ _ _
  obtain ⟨G, hG⟩ : ∃ G, G = grownCap w n 0 5 := ⟨_, rfl⟩
  rw [← hG] at hrz hGn
  have hGm : G ≤ maxLen := by
    have := grownCap_le_maxLen w n 0 5 (by unfold maxLen; omega)
    rw [← hG] at this
    exact this
  have hG63 : G ≤ 9223372036854775807 := by unfold maxLen at hGm; omega
  clear hG
  have hgt : ¬ ((n : Int) < 0) := by omega
  have hgt2 : (n : Int) > 0 := by omega
  go_enter Try.func24, Try.ntmps24
  go_wp2_with (at_builtin; refine Lib.wpList_append_run _ rfl _ _ _ _ rfl _ _ rfl rfl _ _ (hrz _) ?_)
  go_ret
  refine ⟨_, rfl, ?_, ((Below.refl _ _).alloc (Nat.le_refl _) _).drew⟩
  exact World.ownsRow_made _ _ _ (Nat.le_refl _) hGm (by rw [Array.size_append, size_zeroCells, size_zeroCells]; simp; omega)


/-- The bytes of u, seven bits each, at most f + 1 of them. -/
def lebB : Nat → Int → List Int
  | 0, u => [u]
  | f + 1, u => if u < 128 then [u] else (u % 128 + 128) :: lebB f (u / 128)

theorem lebB_low (f : Nat) (u : Int) (h : u < 128) : lebB f u = [u] := by
  cases f with
  | zero => rfl
  | succ f => simp [lebB, h]
theorem lebB_step (f : Nat) (u : Int) (h : 128 ≤ u) (hb : u < 128 ^ (f + 1)) :
    ∃ f', f = f' + 1 ∧ u / 128 < 128 ^ (f' + 1) ∧ lebB f u = (u % 128 + 128) :: lebB f' (u / 128) := by
  cases f with
  | zero => simp at hb; omega
  | succ f =>
    refine ⟨f, rfl, ?_, ?_⟩
    · have e : (128 : Int) ^ (f + 1 + 1) = 128 ^ (f + 1) * 128 := Int.pow_succ _ _
      rw [e] at hb
      exact Int.ediv_lt_of_lt_mul (by omega) hb
    · have : ¬ u < 128 := by omega
      simp [lebB, this]
theorem lebB_length (f : Nat) (u : Int) : 1 ≤ (lebB f u).length ∧ (lebB f u).length ≤ f + 1 := by
  induction f generalizing u with
  | zero => simp [lebB]
  | succ f ih =>
    unfold lebB
    split
    · simp
    · have := ih (u / 128)
      simp; omega

theorem put_any (A : Option Addr) (n c : Nat) (xs : List Int) (u : Int) (w : World) (hr : Reads w w.heap.size 1 A n (xs.map (Value.int .u8))) (hn : n ≤ 100000) (h0 : 0 ≤ u) (h1 : u ≤ 18446744073709551615) :
    Calls Try.prog 10 #[.slice A n c, .int .u64 u] w fun e w' => ∃ v, e = .returned v ∧ w'.ownsRow w.heap.size 5 1 v (n + (lebB 9 u).length) ((xs ++ lebB 9 u).map (Value.int .u8)) ∧ Below w.heap.size w w' := by
  obtain ⟨i0, hi, hz0, hz1, hz2⟩ := info_parts Try.infou8
  have hone : ∀ u ∈ xs.map (Value.int .u8), u.oneCell' = true := by
    intro u hu
    obtain ⟨x, _, rfl⟩ := List.mem_map.1 hu
    rfl
  go_enter Try.func10, Try.ntmps10
  go_wp2_with fail
  refine (grow_nil (n + 10) w (by omega) (by omega)).mono ?_
  rintro e w1 ⟨v1, rfl, hown1, hb1⟩
  go_wp2_with (at_builtin; go_must (refine wpList_append_any _ rfl (.tmp 10) (.tmp 11) _ rfl w.heap.size 5 i0 _ 1 1 Try.underlying22 hi hz0 hz1 hz2 rfl (by omega) v1 0 [] rfl hown1 w.heap.size A n c _ rfl (hr.below hb1) hone (by simp only [maxLen]; omega) (by omega) hb1.size ?_); intro v2 w2 hown2 hg2 hat2)
  have hb2 : Below w.heap.size w w2 := hb1.grown hg2 hb1.size (fun k hk => (hown1.lt k hk).1)
  have hown2' : w2.ownsRow w.heap.size 5 1 v2 (n + 0) ((xs ++ []).map (Value.int .u8)) := by simpa using hown2
  clear hown2 hown1 hg2 hat2 hr hone hb1
  go_loopw [5, 1] (fun v uu wr => ∃ (f : Nat) (d : List Int) (y : Int), uu = .int .u64 y ∧ 0 ≤ y ∧ y ≤ 18446744073709551615 ∧ y < 128 ^ (f + 1) ∧ f ≤ 9 ∧ d.length + f = 9 ∧ Hid (d ++ lebB f y = lebB 9 u) ∧ wr.ownsRow w.heap.size 5 1 v (n + d.length) ((xs ++ d).map (Value.int .u8)) ∧ Below w.heap.size w wr) (fun _ uu _ => (intOf uu).toNat)
  case atStart => exact ⟨9, [], u, rfl, h0, h1, by omega, by omega, rfl, rfl, hown2', hb2⟩
  case round =>
    obtain ⟨f, d, y, rfl, hy0, hy1, hyf, hf9, hdl, HD, hown, hb⟩ := hrel
    by_cases hlt : y < 128
    · have hl := lebB_low f y hlt
      go_wp2_with (at_builtin; go_must (refine wpList_append_one rfl (.tmp 23) (.tmp 26) _ rfl 5 _ 1 Try.underlying22 Try.infou8 rfl (by omega) hown rfl rfl rfl (by omega) hb.size ?_); intro v3 w3 hown3 hb3)
      go_ret
      have HD := HD.out
      rw [hl] at HD
      have hlen : d.length + 1 = (lebB 9 u).length := by rw [← HD]; simp
      refine ⟨v3, rfl, ?_, hb.trans hb3⟩
      rw [← hlen, ← HD, ← List.append_assoc, List.map_append]
      exact hown3
    · obtain ⟨f', rfl, hyf', hl⟩ := lebB_step f y (by omega) hyf
      have hl' := hide hl; clear hl; have hl := hl'; clear hl'
      go_wp2_with (at_builtin; go_must (refine wpList_append_one rfl (.tmp 15) (.tmp 19) _ rfl 5 _ 1 Try.underlying22 Try.infou8 rfl (by omega) hown rfl rfl rfl (by omega) hb.size ?_); intro v3 w3 hown3 hb3)
      have HD := HD.out
      rw [hl.out] at HD
      have hor : bits BinOp.or IntKind.u8 (y % 256) 128 = y % 128 + 128 := by
        rw [u8_or128_any _ (by omega) (by omega)]; omega
      rw [hor] at hown3
      refine ⟨⟨f', d ++ [y % 128 + 128], y / 128, rfl, by omega, by omega, hyf', by omega, by simp; omega, hide (by simpa using HD), ?_, hb.trans hb3⟩, by simp [intOf]; omega⟩
      rw [← List.append_assoc, List.map_append, List.length_append]
      exact hown3

end Go.Proofs.Ytoklfcaaaljikaa
