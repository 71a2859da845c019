/- The document's bytes of a number (hachureref02.Bytes), and plain facts on such bytes. -/
import Derived.Test.YtoklfcaaaljikaaC
import Derived.Deep.RegionWith
namespace Go.Proofs.Ytoklfcaaaljikaa
open Go.RowKit Go.Lib

theorem rbytes_any (u : Int) (w : World) (h0 : 0 ≤ u) (h1 : u ≤ 18446744073709551615) :
    Calls Try.prog 11 #[.int .u64 u] w fun e w' => ∃ v, e = .returned v ∧ w'.ownsRow w.heap.size 5 1 v (lebB 9 u).length ((lebB 9 u).map (Value.int .u8)) ∧ Below w.heap.size w w' := by
  go_enter Try.func11, Try.ntmps11
  go_wp2
  have hown0 : (w.alloc (Obj.cells #[] 5)).ownsRow w.heap.size 5 1 (.slice (some ⟨w.heap.size, 0, none⟩) 0 0) 0 (([] : List Int).map (Value.int .u8)) :=
    World.ownsRow_made w #[] 0 (Nat.le_refl _) (Nat.zero_le _) rfl
  have hb0 : Below w.heap.size w (w.alloc (Obj.cells #[] 5)) := (Below.refl _ _).alloc (Nat.le_refl _) _
  go_loopw [3, 0] (fun v uu wr => ∃ (f : Nat) (d : List Int) (y : Int), uu = .int .u64 y ∧ 0 ≤ y ∧ y ≤ 18446744073709551615 ∧ y < 128 ^ (f + 1) ∧ f ≤ 9 ∧ d.length + f = 9 ∧ Hid (d ++ lebB f y = lebB 9 u) ∧ wr.ownsRow w.heap.size 5 1 v d.length (d.map (Value.int .u8)) ∧ Below w.heap.size w wr) (fun _ uu _ => (intOf uu).toNat)
  case atStart => exact ⟨9, [], u, rfl, h0, h1, by omega, by omega, rfl, rfl, hown0, hb0⟩
  case round =>
    obtain ⟨f, d, y, rfl, hy0, hy1, hyf, hf9, hdl, HD, hown, hb⟩ := hrel
    clear hown0 hb0
    by_cases hlt : y < 128
    · have hl := hide (lebB_low f y hlt)
      go_wp2_with (at_builtin; go_must (refine wpList_append_one rfl (.tmp 16) (.tmp 19) _ rfl 5 _ 1 Try.underlying22 Try.infou8 rfl (by omega) hown rfl rfl rfl (by omega) hb.size ?_); intro v3 w3 hown3 hb3)
      go_ret
      have HD := HD.out
      rw [hl.out] at HD
      have hlen : d.length + 1 = (lebB 9 u).length := by rw [← HD]; simp
      refine ⟨v3, rfl, ?_, hb.trans hb3⟩
      rw [← hlen, ← HD, List.map_append]
      exact hown3
    · obtain ⟨f', rfl, hyf', hl⟩ := lebB_step f y (by omega) hyf
      have hl' := hide hl; clear hl; have hl := hl'; clear hl'
      go_wp2_with (at_builtin; go_must (refine wpList_append_one rfl (.tmp 7) (.tmp 12) _ rfl 5 _ 1 Try.underlying22 Try.infou8 rfl (by omega) hown rfl rfl rfl (by omega) hb.size ?_); intro v3 w3 hown3 hb3)
      have HD := HD.out
      rw [hl.out] at HD
      refine ⟨⟨f', d ++ [y % 128 + 128], y / 128, rfl, by omega, by omega, hyf', by omega, by simp; omega, hide (by simpa using HD), ?_, hb.trans hb3⟩, by simp [intOf]; omega⟩
      rw [List.map_append, List.length_append]
      exact hown3

theorem lebB_rng (f : Nat) (u : Int) (h0 : 0 ≤ u) (h1 : u < 128 ^ (f + 1)) : ∀ x ∈ lebB f u, 0 ≤ x ∧ x ≤ 255 := by
  induction f generalizing u with
  | zero => intro x hx; simp [lebB] at hx; simp at h1; omega
  | succ f ih =>
    intro x hx
    unfold lebB at hx
    split at hx
    · simp at hx; omega
    · have e : (128 : Int) ^ (f + 1 + 1) = 128 ^ (f + 1) * 128 := Int.pow_succ _ _
      rw [e] at h1
      rcases List.mem_cons.1 hx with rfl | hx
      · omega
      · exact ih (u / 128) (by omega) (Int.ediv_lt_of_lt_mul (by omega) h1) x hx

theorem lebB_mono (f : Nat) (u v : Int) (h : u ≤ v) : (lebB f u).length ≤ (lebB f v).length := by
  induction f generalizing u v with
  | zero => simp [lebB]
  | succ f ih =>
    unfold lebB
    by_cases h1 : u < 128 <;> by_cases h2 : v < 128
    · simp [h1, h2]
    · simp [h1, h2]
    · omega
    · simp [h1, h2]; exact ih _ _ (by omega)

theorem lebB_free (f : Nat) (u v : Int) (h0 : 0 ≤ u) (h1 : 0 ≤ v) (h : (lebB f v).take (lebB f u).length = lebB f u) : u = v := by
  induction f generalizing u v with
  | zero => simp [lebB] at h; omega
  | succ f ih =>
    unfold lebB at h
    by_cases h2 : u < 128 <;> by_cases h3 : v < 128
    · simp [h2, h3] at h; omega
    · simp [h2, h3] at h; omega
    · simp [h2, h3] at h; omega
    · simp [h2, h3] at h
      have := ih (u / 128) (v / 128) (by omega) (by omega) h.2
      omega

theorem strOfNums_take (xs : List Int) (k : Nat) : (strOfNums xs).extract 0 k = strOfNums (xs.take k) := by
  apply ByteArray.ext
  simp [strOfNums, ByteArray.data_extract, List.map_take]

end Go.Proofs.Ytoklfcaaaljikaa
