/- Contracts of crc.Seal and the document's own Seal and Tail. -/
import Derived.Test.YtbbldkcakepnoaaCB
import Derived.OwnWalk
namespace Go.Proofs.Ytbbldkcakepnoaa
open Go.RowKit Go.Lib

def tailB (s : Int) : List Int := [s % 256, s / 256 % 256, s / 65536 % 256, s / 16777216]
def sealB (xs : List Int) : List Int := xs ++ tailB (crcM 0 xs)
theorem tailB_rng (s : Int) (h0 : 0 ≤ s) (h1 : s ≤ 4294967295) : ∀ x ∈ tailB s, 0 ≤ x ∧ x ≤ 255 := by
  intro x hx
  simp only [tailB, List.mem_cons, List.not_mem_nil, or_false] at hx
  rcases hx with rfl | rfl | rfl | rfl <;> omega
theorem sealB_rng (xs : List Int) (h : ∀ x ∈ xs, 0 ≤ x ∧ x ≤ 255) : ∀ x ∈ sealB xs, 0 ≤ x ∧ x ≤ 255 := fun x hx => (List.mem_append.1 hx).elim (h x) (tailB_rng _ (crcM_rng 0 xs).1 (crcM_rng 0 xs).2 x)
theorem sealB_len (xs : List Int) : (sealB xs).length = xs.length + 4 := by simp [sealB, tailB]
theorem hone8 (l : List Int) : ∀ u ∈ l.map (Value.int .u8), u.oneCell' = true := fun u hu => by
  obtain ⟨x, _, rfl⟩ := List.mem_map.1 hu
  rfl

theorem own_below {w w' : World} {base : Nat} {e : TypeId} {size : Nat} {v : Value} {n : Nat} {xs : List Value} (h : w.ownsRow base e size v n xs) (hb : Below w.heap.size w w') : w'.ownsRow base e size v n xs := by
  refine ⟨h.1, ?_⟩
  rcases h.2 with h0 | ⟨g, cap, cur, h1, h2, h3, h4⟩
  · exact .inl h0
  · refine .inr ⟨g, cap, cur, h1, h2, ?_, h4⟩
    rw [hb.block g]
    · exact h3
    · exact (h.lt g (by rw [h1]; rfl)).2
/-- The bytes are the call's own. -/
def OwnBytes (w : World) (n : Nat) (xs : List Int) (e : Ending) (w' : World) : Prop := ∃ v, e = .returned v ∧ w'.ownsRow w.heap.size 5 1 v n (xs.map (Value.int .u8)) ∧ Below w.heap.size w w'

set_option maxHeartbeats 1000000 in
theorem tail_any (s : Int) (w : World) (h0 : 0 ≤ s) (h1 : s ≤ 4294967295) : Calls Try.prog 25 #[.int .u32 s] w fun e w' => OwnBytes w 4 (tailB s) e w' := by
  go_enter Try.func25, Try.ntmps25
  go_wp2
  go_ret
  exact ⟨_, rfl, World.ownsRow_lit w #[.int .u8 (s % 256), .int .u8 (s / 256 % 256), .int .u8 (s / 65536 % 256), .int .u8 (s / 16777216)] 4 (Nat.le_refl _) (by simp [maxLen]) rfl, (Below.refl _ _).alloc (Nat.le_refl _) _⟩

set_option maxRecDepth 100000 in
set_option maxHeartbeats 1000000 in
theorem seal_any (A : Option Addr) (n c : Nat) (xs : List Int) (w : World) (hr : Reads w w.heap.size 1 A n (xs.map (Value.int .u8))) (hx : ∀ x ∈ xs, 0 ≤ x ∧ x ≤ 255) (hn : n ≤ 90000) (hnc : n ≤ c) (hcm : c ≤ maxLen) :
    Calls Try.prog 15 #[.slice A n c] w fun e w' => OwnBytes w (n + 4) (sealB xs) e w' := by
  obtain ⟨j0, hi, hz0, hz1, hz2⟩ := info_parts Try.infobyte
  have Hi := hide hi
  have Hz0 := hide hz0
  have Hz1 := hide hz1
  have Hz2 := hide hz2
  have HR := hide hr
  have HX := hide hx
  have HS := hide (show sealB xs = xs ++ tailB (crcM 0 xs) from rfl)
  have hs := crcM_rng 0 xs
  obtain ⟨s, hs2⟩ : ∃ z, crcM 0 xs = z := ⟨_, rfl⟩
  have HS2 := hide hs2
  rw [hs2] at hs HS
  have hs0 := hs.1
  have hs1 := hs.2
  have HONE := hide hone8
  clear hi hz0 hz1 hz2 hr hx hs2 hs
  go_enter Try.func15, Try.ntmps15
  go_wp2_with fail
  refine (sum_any A n c xs _ HR.out HX.out (by omega) hnc hcm).mono ?_
  rintro e w1 ⟨rfl, hw1⟩
  obtain rfl : w = w1 := hw1.symm
  clear hw1
  rw [HS2.out]
  go_wp2_with (first
    | (at_make; refine wpList_make_own _ rfl _ _ _ rfl w.heap.size 5 j0 _ 1 Try.underlying27 Hi.out Hz0.out Hz1.out _ _ _ (n + 4) rfl rfl (by omega) (by rw [Hz2.out]; omega) (by simp only [maxLen]; omega) (Nat.le_refl _) ?_; intro w2 hown2 hg2; have hb2 := (Below.refl w.heap.size w).grown hg2 (Nat.le_refl _) (fun _ h => by cases h))
    | (at_builtin; (refine wpList_append_any _ rfl (.tmp 11) (.tmp 12) _ rfl w.heap.size 5 j0 _ 1 1 Try.underlying27 Hi.out Hz0.out Hz1.out Hz2.out rfl (by omega) _ 0 [] rfl hown2 w.heap.size A n c _ rfl (HR.out.below hb2) (HONE.out _) (by simp only [maxLen]; omega) (by omega) hb2.size ?_); intro v4 w4 hown4 hg4 hat4; have hb4 := hb2.grown hg4 hb2.size (fun k hk => (hown2.lt k hk).1))
    | (at_builtin; (refine wpList_append_any _ rfl (.tmp 14) (.tmp 26) _ rfl w.heap.size 5 j0 _ 1 1 Try.underlying27 Hi.out Hz0.out Hz1.out Hz2.out rfl (by omega) v4 _ _ rfl (hown4.alloc _) _ (some ⟨w4.heap.size, 0, none⟩) 4 4 _ rfl (Reads.of_own (c := 4) (World.ownsRow_lit w4 #[.int .u8 (s % 256), .int .u8 (s / 256 % 256), .int .u8 (s / 65536 % 256), .int .u8 (s / 16777216)] 4 (Nat.le_refl _) (by simp [maxLen]) rfl)) (by simp [Value.oneCell']) (by simp only [maxLen]; omega) (by omega) (by have := hb4.size; simp; omega) ?_); intro v5 w5 hown5 hg5 hat5; have hb5 := (hb4.alloc hb4.size _).grown hg5 (by have := hb4.size; simp; omega) (fun k hk => (hown4.lt k hk).1)))
  go_ret
  refine ⟨_, rfl, ?_, hb5⟩
  rw [HS.out, List.map_append]
  simpa [tailB] using hown5

/-- The document's own Seal. -/
theorem rseal_any (A : Option Addr) (n c : Nat) (xs : List Int) (w : World) (hr : Reads w w.heap.size 1 A n (xs.map (Value.int .u8))) (hx : ∀ x ∈ xs, 0 ≤ x ∧ x ≤ 255) (hn : n ≤ 90000) (hnc : n ≤ c) (hcm : c ≤ maxLen) :
    Calls Try.prog 18 #[.slice A n c] w fun e w' => OwnBytes w (n + 4) (sealB xs) e w' := by
  obtain ⟨j0, hi, hz0, hz1, hz2⟩ := info_parts Try.infobyte
  have Hi := hide hi
  have Hz0 := hide hz0
  have Hz1 := hide hz1
  have Hz2 := hide hz2
  have HR := hide hr
  have HX := hide hx
  have HS := hide (show sealB xs = xs ++ tailB (crcM 0 xs) from rfl)
  have hs := crcM_rng 0 xs
  obtain ⟨s, hs2⟩ : ∃ z, crcM 0 xs = z := ⟨_, rfl⟩
  have HS2 := hide hs2
  rw [hs2] at hs HS
  have hs0 := hs.1
  have hs1 := hs.2
  have HONE := hide hone8
  have hown0 : (w.alloc (Obj.cells #[] 5)).ownsRow w.heap.size 5 1 (.slice (some ⟨w.heap.size, 0, none⟩) 0 0) 0 [] := World.ownsRow_made w #[] 0 (Nat.le_refl _) (Nat.zero_le _) rfl
  have hb0 : Below w.heap.size w (w.alloc (Obj.cells #[] 5)) := (Below.refl _ _).alloc (Nat.le_refl _) _
  clear hi hz0 hz1 hz2 hr hx hs2 hs
  go_enter Try.func18, Try.ntmps18
  go_wp2_with (first
    | (at_builtin; (refine wpList_append_any _ rfl (.tmp 3) (.tmp 4) _ rfl w.heap.size 5 j0 _ 1 1 Try.underlying27 Hi.out Hz0.out Hz1.out Hz2.out rfl (by omega) _ 0 [] rfl hown0 w.heap.size A n c _ rfl (HR.out.below hb0) (HONE.out _) (by simp only [maxLen]; omega) (by omega) hb0.size ?_); intro v4 w4 hown4 hg4 hat4; have hb4 := hb0.grown hg4 hb0.size (fun k hk => (hown0.lt k hk).1)))
  refine (rsum_any A n c xs _ ((HR.out.below hb4).more hb4.size) HX.out (by omega) hnc hcm).mono ?_
  rintro e w5 ⟨rfl, hw⟩
  obtain rfl : w4 = w5 := hw.symm
  clear hw
  rw [HS2.out]
  go_wp2_with fail
  refine (tail_any s _ hs0 hs1).mono ?_
  rintro e w6 ⟨v, rfl, hown6, hb6⟩
  obtain ⟨T, d, rfl, hd, hm, hT⟩ := own_reads hown6
  have hown46 : w6.ownsRow w.heap.size 5 1 v4 (0 + n) ([] ++ xs.map (Value.int .u8)) := own_below hown4 hb6
  have hb46 := hb4.trans (hb6.mono hb4.size)
  go_wp2_with (at_builtin; (refine wpList_append_any _ rfl (.tmp 5) (.tmp 8) _ rfl w.heap.size 5 j0 _ 1 1 Try.underlying27 Hi.out Hz0.out Hz1.out Hz2.out rfl (by omega) v4 _ _ rfl hown46 _ T 4 d _ rfl hT (HONE.out _) (by simp only [maxLen]; omega) (by omega) hb46.size ?_); intro v7 w7 hown7 hg7 hat7; have hb7 := hb46.grown hg7 hb46.size (fun k hk => (hown46.lt k hk).1))
  go_ret
  refine ⟨_, rfl, ?_, hb7⟩
  rw [HS.out, List.map_append]
  simpa using hown7
end Go.Proofs.Ytbbldkcakepnoaa
