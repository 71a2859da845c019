/- Whole numbers as so many bytes: plain lists, and contracts of wire.Put and of the document's own Put. -/
import Derived.Test.YtoklfcaaaljikaaD
import Derived.Lib.EndianBits
namespace Go.Proofs.Ytoklfcaaaljikaa
open Go.RowKit Go.Lib

theorem own_mono {w : World} {base base' size n : Nat} {e : TypeId} {v : Value} {xs : List Value} (h : w.ownsRow base e size v n xs) (hb : base' ≤ base) : w.ownsRow base' e size v n xs := by
  refine ⟨h.1, ?_⟩
  rcases h.2 with h2 | ⟨g, cap, cur, h3, h4, h5⟩
  · exact .inl h2
  · exact .inr ⟨g, cap, cur, h3, Nat.le_trans hb h4, h5⟩

def wB : Nat → Int → List Int
  | 0, _ => []
  | n + 1, u => (u % 256) :: wB n (u / 256)
def wV : List Int → Int
  | [] => 0
  | c :: l => c + 256 * wV l

theorem ediv2 (u b : Int) : u / (256 * b) = u / 256 / b := by rw [Int.ediv_ediv, if_neg (by simp)]; simp
theorem ediv3 (u a b : Int) (ha : 0 ≤ a) : u / a / b = u / (a * b) := by rw [Int.ediv_ediv, if_neg (by omega)]; simp
theorem wB_length (n : Nat) (u : Int) : (wB n u).length = n := by
  induction n generalizing u with
  | zero => rfl
  | succ n ih => simp [wB, ih]
theorem wB_rng (n : Nat) (u : Int) : ∀ x ∈ wB n u, 0 ≤ x ∧ x ≤ 255 := by
  induction n generalizing u with
  | zero => intro x hx; simp [wB] at hx
  | succ n ih =>
    intro x hx
    rcases List.mem_cons.1 hx with rfl | hx
    · omega
    · exact ih _ x hx
theorem wB_snoc (i : Nat) (u : Int) : wB (i + 1) u = wB i u ++ [u / 256 ^ i % 256] := by
  induction i generalizing u with
  | zero => simp [wB]
  | succ i ih =>
    have e : u / 256 ^ (i + 1) = u / 256 / 256 ^ i := by rw [Int.pow_succ, Int.mul_comm]; exact ediv2 _ _
    rw [e]
    show (u % 256) :: wB (i + 1) (u / 256) = _
    rw [ih]; rfl
theorem wV_snoc (l : List Int) (c : Int) : wV (l ++ [c]) = wV l + c * 256 ^ l.length := by
  induction l with
  | nil => simp [wV]
  | cons a l ih =>
    have e : (256 : Int) ^ (l.length + 1) = 256 ^ l.length * 256 := Int.pow_succ _ _
    show a + 256 * wV (l ++ [c]) = a + 256 * wV l + c * 256 ^ (l.length + 1)
    rw [ih, e, Int.mul_add, ← Int.mul_assoc c, Int.mul_comm 256 (c * _)]
    omega
theorem wV_rng (l : List Int) (h : ∀ x ∈ l, 0 ≤ x ∧ x ≤ 255) : 0 ≤ wV l ∧ wV l < 256 ^ l.length := by
  induction l with
  | nil => simp [wV]
  | cons a l ih =>
    have h1 := h a (by simp)
    have h2 := ih (fun x hx => h x (by simp [hx]))
    have e : (256 : Int) ^ (l.length + 1) = 256 ^ l.length * 256 := Int.pow_succ _ _
    show 0 ≤ a + 256 * wV l ∧ a + 256 * wV l < 256 ^ (l.length + 1)
    rw [e]; omega
theorem wV_wB (n : Nat) (u : Int) (h : u / 256 ^ n = 0) : wV (wB n u) = u := by
  induction n generalizing u with
  | zero => simpa [wB, wV] using h.symm
  | succ n ih =>
    have e : u / 256 ^ (n + 1) = u / 256 / 256 ^ n := by rw [Int.pow_succ, Int.mul_comm]; exact ediv2 _ _
    rw [e] at h
    show u % 256 + 256 * wV (wB n (u / 256)) = u
    rw [ih _ h]; omega
theorem wB_wV (l : List Int) (h : ∀ x ∈ l, 0 ≤ x ∧ x ≤ 255) : wB l.length (wV l) = l := by
  induction l with
  | nil => rfl
  | cons a l ih =>
    have h1 := h a (by simp)
    show ((a + 256 * wV l) % 256) :: wB l.length ((a + 256 * wV l) / 256) = a :: l
    rw [show (a + 256 * wV l) % 256 = a by omega, show (a + 256 * wV l) / 256 = wV l by omega, ih (fun x hx => h x (by simp [hx]))]

/-- An argument that can't be. -/
theorem wput_arg (A : Option Addr) (n0 c0 : Nat) (n u : Int) (w : World) (h : n < 1 ∨ n > 8) :
    Calls Try.prog 20 #[.slice A n0 c0, .int .i64 n, .int .u64 u] w fun e w' => e = .returned (.tuple #[.slice none 0 0, .int .i64 11]) ∧ w = w' := by
  rcases h with h | h
  · go_enter Try.func20, Try.ntmps20
    go_wp2
    go_ret2
    exact ⟨rfl, rfl⟩
  · go_enter Try.func20, Try.ntmps20
    go_wp2
    go_ret2
    exact ⟨rfl, rfl⟩

theorem pow8 (N : Nat) : (2 : Int) ^ (8 * N) = 256 ^ N := by rw [Int.pow_mul]; rfl

/-- A number that doesn't fit. -/
theorem wput_val (A : Option Addr) (n0 c0 : Nat) (N : Nat) (u : Int) (w : World) (h1 : 1 ≤ N) (h8 : N < 8) (h0 : 0 ≤ u) (hu : u ≤ 18446744073709551615) (h : u / 256 ^ N ≠ 0) :
    Calls Try.prog 20 #[.slice A n0 c0, .int .i64 N, .int .u64 u] w fun e w' => e = .returned (.tuple #[.slice none 0 0, .int .i64 7]) ∧ w = w' := by
  have hne : (u / 2 ^ (8 * N) != 0) = true := by rw [pow8]; simpa using h
  go_enter Try.func20, Try.ntmps20
  go_wp2
  go_ret2
  exact ⟨rfl, rfl⟩

set_option maxHeartbeats 800000 in
theorem wput_ok (A : Option Addr) (n0 c0 : Nat) (xs : List Int) (N : Nat) (u : Int) (w : World) (hr : Reads w w.heap.size 1 A n0 (xs.map (Value.int .u8))) (hn : n0 ≤ 100000) (h1 : 1 ≤ N) (h8 : N ≤ 8) (h0 : 0 ≤ u) (hu : u ≤ 18446744073709551615) (h : u / 256 ^ N = 0) :
    Calls Try.prog 20 #[.slice A n0 c0, .int .i64 N, .int .u64 u] w fun e w' => ∃ v, e = .returned (.tuple #[v, .int .i64 0]) ∧ w'.ownsRow w.heap.size 5 1 v (n0 + N) ((xs ++ wB N u).map (Value.int .u8)) ∧ Below w.heap.size w w' := by
  obtain ⟨i0, hi, hz0, hz1, hz2⟩ := info_parts Try.infou8
  have hone : ∀ u ∈ xs.map (Value.int .u8), u.oneCell' = true := by
    intro u hu
    obtain ⟨x, _, rfl⟩ := List.mem_map.1 hu
    rfl
  have hne : (u / 2 ^ (8 * N) != 0) = false := by rw [pow8]; simpa using h
  clear h
  have t1 : decide ((N : Int) < 1) = false := by simp; omega
  have t2 : decide ((8 : Int) < (N : Int)) = false := by simp; omega
  go_enter Try.func20, Try.ntmps20
  go_wp2_with (first
    | (at_make; go_must (refine wpList_make_own _ rfl _ _ 22 rfl w.heap.size 5 i0 (.int .u8 0) 1 Try.underlying22 hi hz0 hz1 .i64 .i64 _ (n0 + N) rfl rfl (by omega) (by rw [hz2]; omega) (by unfold maxLen; omega) (Nat.le_refl _) ?_); intro w0 hown0 hg0; have hb0 := (Below.refl w.heap.size w).grown hg0 (Nat.le_refl _) (by simp))
    | (at_builtin; go_must (refine wpList_append_any _ rfl (.tmp 30) (.tmp 31) _ rfl w.heap.size 5 i0 _ 1 1 Try.underlying22 hi hz0 hz1 hz2 rfl (by omega) _ 0 [] rfl hown0 w.heap.size A n0 c0 _ rfl (hr.below hb0) hone (by simp only [maxLen]; omega) (by omega) hb0.size ?_); intro v2 w2 hown2 hg2 hat2))
  all_goals
    have hb2 : Below w.heap.size w w2 := hb0.grown hg2 hb0.size (fun k hk => (hown0.lt k hk).1)
    have hown2' : w2.ownsRow w.heap.size 5 1 v2 (n0 + 0) ((xs ++ wB 0 u).map (Value.int .u8)) := by simpa [wB] using hown2
    clear hown2 hown0 hg2 hat2 hr hone hb0 hg0
    go_loopw [8, 34] (fun v i wr => ∃ k : Nat, i = .int .i64 k ∧ k ≤ N ∧ wr.ownsRow w.heap.size 5 1 v (n0 + k) ((xs ++ wB k u).map (Value.int .u8)) ∧ Below w.heap.size w wr) (fun _ i _ => N - (intOf i).toNat)
    case atStart => exact ⟨0, rfl, by omega, hown2', hb2⟩
    case round =>
      obtain ⟨k, rfl, hk, hown, hb⟩ := hrel
      clear hown2' hb2
      by_cases hlt : k < N
      · have hs := hide (wB_snoc k u)
        have hp := hide (pow8 k)
        go_wp2_with (at_builtin; go_must (refine wpList_append_one rfl (.tmp 37) (.tmp 43) _ rfl 5 _ 1 Try.underlying22 Try.infou8 rfl (by omega) hown rfl rfl rfl (by omega) hb.size ?_); intro v3 w3 hown3 hb3)
        go_roundw
        case rel =>
          refine ⟨k + 1, by go_num, by omega, ?_, hb.trans hb3⟩
          rw [hs.out, ← List.append_assoc, List.map_append]
          rw [hp.out] at hown3
          exact hown3
        case measure => simp [intOf]; omega
      · obtain rfl : k = N := by omega
        go_wp2
        go_ret2
        exact ⟨_, rfl, hown, hb⟩

end Go.Proofs.Ytoklfcaaaljikaa
