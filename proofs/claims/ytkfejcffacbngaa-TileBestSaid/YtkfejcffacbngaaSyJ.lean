/- Operations that turn memory: what they do. -/
import Derived.Test.YtkfejcffacbngaaSyI
namespace Go.Sym
open Go Go.RowKit
set_option linter.unusedVariables false

theorem Blk.puts_get : ∀ (l : List SV) (B B' : Blk) (off : Nat), B.puts off l = some B' → (∀ s ∈ l, s.one = true) ∧ (l ≠ [] → off + l.length ≤ B.size) ∧ ∀ i, B'.at i = if off ≤ i ∧ i < off + l.length then l[i - off]? else B.at i
  | [], B, B', off, h => by
    simp only [Blk.puts, Option.some.injEq] at h; subst h
    refine ⟨by simp, by simp, fun i => ?_⟩
    have : ¬ (off ≤ i ∧ i < off + ([] : List SV).length) := by simp
    rw [if_neg this]
  | s :: l, B, B', off, h => by
    simp only [Blk.puts] at h
    split at h
    · rename_i hb ho
      have hb := ble_true hb
      split at h
      · rename_i B1 hp
        obtain ⟨e1, e2, e3, e4, _⟩ := Blk.put_spec hp
        obtain ⟨h1, h2, h3⟩ := Blk.puts_get l B1 B' _ h
        refine ⟨by simpa [ho] using h1, fun _ => ?_, fun i => ?_⟩
        · rcases Nat.eq_zero_or_pos l.length with h0 | h0
          · simp [h0]; omega
          · have := h2 (by intro e; simp [e] at h0)
            simp only [List.length_cons]; omega
        · rw [h3 i]
          by_cases hi : off.succ ≤ i ∧ i < off.succ + l.length
          · have : off ≤ i ∧ i < off + (s :: l).length := by simp only [List.length_cons]; omega
            rw [if_pos hi, if_pos this]
            have e : i - off = (i - off.succ) + 1 := by omega
            rw [e, List.getElem?_cons_succ]
          · rw [if_neg hi, e4 i]
            by_cases h0 : i = off
            · subst h0
              have : i ≤ i ∧ i < i + (s :: l).length := by simp
              rw [if_pos this]; simp
            · have : ¬ (off ≤ i ∧ i < off + (s :: l).length) := by simp only [List.length_cons]; omega
              rw [if_neg this, if_neg h0]
      · cases h
    · cases h

section
variable {ρ : Rho} {env : Env} {w : World} {P : Program} {L : Nat}

theorem post_alloc {M M1 M' : Mem} {B : Blk} {nm : Nat} {w0 : World} {cells : Array Value} {lo hi : Nat} (H : Holds ρ env M1.get w) (hd : Free L ρ M.next) (hL : M'.next ≤ L)
    (hsub : ∀ m C, M1.get m = some C → M.get m = some C) (hnext : M1.next = M.next) (hM : M1.new B = some (nm, M')) (hw : w0 = w ∨ w0 = w.drew) (hr : RowFor ρ env B cells lo hi) :
    Post env L ρ M.get M.next w (rset ρ nm (w.heap.size, cells.size)) M'.get M'.next (w0.alloc (.cells cells B.elem (lo, hi))) := by
  obtain ⟨rfl, hn, hg⟩ := Mem.new_spec hM
  rw [hnext] at hn hg
  have hfree : ρ M.next = none := hd _ (Nat.le_refl _) (by omega)
  have hh : w0.heap = w.heap := by rcases hw with rfl | rfl <;> rfl
  have hos : w0.os = w.os ∧ w0.tape = w.tape ∧ w0.output = w.output := by rcases hw with rfl | rfl <;> exact ⟨rfl, rfl, rfl⟩
  have H' := holds_new (w := w0) (H.of_heap hh) hfree hg hr
  rw [hh] at H'
  rw [hnext]
  refine ⟨?_, H', by omega, ?_, ?_, ?_, by rw [World.size_alloc, hh]; omega, hos.1, hos.2.1, hos.2.2⟩
  · intro m hm
    have : ¬ m = M.next := by omega
    simp [rset, this]
  · intro m h1 h2
    have : ¬ m = M.next := by omega
    simp only [rset, this, if_false]
    exact hd m (by omega) h2
  · intro k hk _
    rw [← hh] at hk ⊢
    exact heap_alloc_old _ _ _ hk
  · intro m C b n h1 h2
    rw [hg m] at h1
    by_cases h : m = M.next
    · simp only [rset, h, if_true, Option.some.injEq, Prod.mk.injEq] at h2
      exact .inl (by omega)
    · simp only [h, if_false] at h1
      simp only [rset, h, if_false] at h2
      exact .inr ⟨m, C, n, hsub _ _ h1, h2⟩

theorem sgrow_spec {M M1 M' : Mem} {e need sz at_ : Nat} {B : Blk} {l : List SV} {s : SV} {newCap : Nat} {old vs rest : Array Value} {i : TypeInfo} {zv : Value}
    (h : sgrow P M1 e need sz B at_ l = some (s, M')) (H : Holds ρ env M1.get w) (hd : Free L ρ M.next) (hL : M'.next ≤ L)
    (hsub : ∀ m C, M1.get m = some C → M.get m = some C) (hnext : M1.next = M.next)
    (hi : P.info? e = some i) (hzv : i.zero = some zv) (hc : need ≤ newCap) (hrest : rest.size = (newCap - need) * zv.cells.size)
    (hold : old.size = at_ ∧ ∀ j, j < at_ → ∃ s v, B.at j = some s ∧ s.one = true ∧ old[j]? = some v ∧ Rep ρ env s v) (hl : RepL ρ env l vs.toList) (hlen : at_ + l.length = need * sz) :
    ∃ ρ' , Post env L ρ M.get M.next w ρ' M'.get M'.next (w.drew.alloc (.cells (old ++ vs ++ rest) e)) ∧ Rep ρ' env s (.slice (some ⟨w.heap.size, 0, none⟩) need newCap) := by
  unfold sgrow at h
  split at h
  · rename_i i' z hi' hz
    rw [hi] at hi'; cases hi'
    obtain ⟨i'', zv', hi'', hzv', hrz, _, htz⟩ := zeroS_spec (ρ := ρ) (env := env) hz
    rw [hi] at hi''; cases hi''
    rw [hzv] at hzv'; cases hzv'
    split at h
    · rename_i b1 b2 b3
      have b3 := Nat.eq_of_beq_eq_true b3
      have hzs : zv.cells.size = sz := by have := (hrz.cells htz).length; simp at this; omega
      split at h
      · rename_i B' hp
        split at h
        · rename_i nm M2 hM
          cases h
          obtain ⟨e1, e2, e3, e5⟩ := Blk.puts_spec _ _ _ _ hp
          obtain ⟨g1, g2, g3⟩ := Blk.puts_get _ _ _ _ hp
          simp only [] at e1 e2 e3
          have hvs : vs.size = l.length := by have := hl.length; simpa using this
          have hsz : (old ++ vs ++ rest).size = newCap * sz := by
            simp only [Array.size_append, hold.1, hvs, hrest, hzs]
            have : need * sz + (newCap - need) * sz = newCap * sz := by rw [← Nat.add_mul]; congr 1; omega
            omega
          have hle : need * sz ≤ newCap * sz := Nat.mul_le_mul_right _ hc
          have hrow : RowFor ρ env B' (old ++ vs ++ rest) 0 0 := by
            refine ⟨by rw [e2, hsz]; exact hle, (fun h => by rw [e3] at h; cases h), .inl rfl, fun j hj => ?_, fun r cnt ks h => by rw [e5] at h; cases h⟩
            rw [e2] at hj
            rw [g3 j]
            by_cases hj2 : at_ ≤ j ∧ j < at_ + l.length
            · rw [if_pos hj2]
              have hlt : j - at_ < l.length := by omega
              have hs : l[j - at_]? = some l[j - at_] := by simp [hlt]
              obtain ⟨v, h1, h2⟩ := hl.get _ _ hs
              refine ⟨l[j - at_], v, hs, g1 _ (by simp), ?_, h2⟩
              have h1' : vs[j - at_]? = some v := by simpa using h1
              rw [Array.append_assoc, Array.getElem?_append_right (by omega), Array.getElem?_append_left (by omega), hold.1]
              exact h1'
            · rw [if_neg hj2]
              obtain ⟨s, v, a, b, c, d⟩ := hold.2 j (by omega)
              refine ⟨s, v, a, b, ?_, d⟩
              rw [Array.append_assoc, Array.getElem?_append_left (by omega)]
              exact c
          have hpost := post_alloc (w0 := w.drew) H hd hL hsub hnext hM (.inr rfl) hrow
          rw [e1] at hpost
          refine ⟨_, hpost, ?_⟩
          simp only [Rep]
          exact ⟨_, _, newCap, rset_same _ _ _, rfl, by simp only [Nat.zero_add]; exact hsz.symm, hc⟩
        · cases h
      · cases h
    · cases h
  · cases h

/-- the old block under a new name -/
theorem post_rename {g g' : Get} {next next' : Nat} {w' : World} {B B' : Blk} {nm b n : Nat} (H : Holds ρ env g w) (hd : Free L ρ next) (hn' : next' = next + 1) (hL : next' ≤ L) (hB : g nm = some B) (hr : ρ nm = some (b, n))
    (hg : ∀ m, g' m = if m = next then some B' else if m = nm then none else g m) (hs : SameBut w w' b) (hC : Cellar (rset ρ next (b, n)) env B' b n w') :
    Post env L ρ g next w (rset ρ next (b, n)) g' next' w' := by
  have hfree : ρ next = none := hd _ (Nat.le_refl _) (by omega)
  have hsub : Sub ρ (rset ρ next (b, n)) := rset_sub hfree
  have hapart : ∀ m C k n', g m = some C → m ≠ nm → ρ m = some (k, n') → k ≠ b := by
    intro m C k n' h1 h2 h3 h4
    subst h4
    exact h2 (H.inj m nm C B k n' n h1 hB h3 hr)
  have hold : ∀ m C, g' m = some C → m ≠ next → m ≠ nm ∧ g m = some C := by
    intro m C h1 h2
    rw [hg m, if_neg h2] at h1
    split at h1
    · cases h1
    · rename_i h3; exact ⟨h3, h1⟩
  have hro : ∀ m, m ≠ next → rset ρ next (b, n) m = ρ m := fun m hm => by simp [rset, hm]
  refine ⟨fun m hm => hro m (by omega), ⟨?_, ?_, ?ro⟩, by omega, fun m h1 h2 => (hro m (by omega)).trans (hd m (by omega) h2), ?_, ?_, by rw [hs.size]; exact Nat.le_refl _, hs.os, hs.tape, hs.output⟩
  case ro =>
    intro i R hR
    obtain ⟨k1, k2, k3⟩ := H.ro i R hR
    refine ⟨by rw [hs.size]; exact k1, k2.of_block (hs.other _ fun e => k3 nm B n hB (by rw [e]; exact hr)), fun m C n' hC hρ => ?_⟩
    by_cases h : m = next
    · subst h
      rw [rset_same] at hρ; cases hρ
      exact k3 nm B _ hB hr
    · obtain ⟨_, h3⟩ := hold m C hC h
      rw [hro m h] at hρ
      exact k3 m C n' h3 hρ
  · intro m C h1
    by_cases h : m = next
    · subst h
      rw [hg, if_pos rfl] at h1
      cases h1
      exact ⟨b, n, rset_same _ _ _, hC⟩
    · obtain ⟨h2, h3⟩ := hold m C h1 h
      obtain ⟨k, n', h4, h5⟩ := H.blk m C h3
      exact ⟨k, n', hsub _ _ h4, h5.of_block hsub (hs.other k (hapart m C k n' h3 h2 h4))⟩
  · intro m m' C C' k n1 n2 h1 h2 h3 h4
    by_cases h : m = next <;> by_cases h' : m' = next
    · rw [h, h']
    · subst h
      rw [rset_same] at h3; cases h3
      rw [hro m' h'] at h4
      obtain ⟨h5, h6⟩ := hold m' C' h2 h'
      exact absurd rfl (hapart m' C' _ n2 h6 h5 h4)
    · subst h'
      rw [rset_same] at h4; cases h4
      rw [hro m h] at h3
      obtain ⟨h5, h6⟩ := hold m C h1 h
      exact absurd rfl (hapart m C _ n1 h6 h5 h3)
    · obtain ⟨_, h6⟩ := hold m C h1 h
      obtain ⟨_, h6'⟩ := hold m' C' h2 h'
      rw [hro m h] at h3
      rw [hro m' h'] at h4
      exact H.inj _ _ _ _ _ _ _ h6 h6' h3 h4
  · intro k hk hno
    refine hs.other k fun e => ?_
    subst e
    exact hno nm B n hB hr
  · intro m C k n' h1 h2
    by_cases h : m = next
    · subst h
      rw [rset_same] at h2; cases h2
      exact .inr ⟨nm, B, n, hB, hr⟩
    · obtain ⟨_, h3⟩ := hold m C h1 h
      rw [hro m h] at h2
      exact .inr ⟨m, C, n', h3, h2⟩

theorem firstCells_heap {M : Mem} {sz n : Nat} {x : SV} {l : List SV} {u : Value} {vs : Array Value} (H : Holds ρ env M.get w) (h : srcCells M sz x = some (n, l)) (hx : Rep ρ env x u)
    (hv : (Builtin.firstCells sz n u).run P w = .ok vs w) {w' : World} (hh : w'.heap = w.heap) : (Builtin.firstCells sz n u).run P w' = .ok vs w' := by
  have key : ∀ (a : Addr) k, (loadCells a k).run P w = .ok vs w → (∀ j, j < k → (w.cell? (a.add j)).isSome = true) → (loadCells a k).run P w' = .ok vs w' := by
    intro a k h1 h2
    have hc : ∀ p, w'.cell? p = w.cell? p := fun p => by simp [World.cell?, hh]
    let f : Nat → Value := fun j => (w.cell? (a.add j)).getD undef
    have hf : ∀ j, j < k → w.cell? (a.add j) = some (f j) := fun j hj => by
      obtain ⟨v, hv⟩ := Option.isSome_iff_exists.1 (h2 j hj)
      simp [f, hv]
    have e1 := run_loadCells (P := P) w a k f hf
    have e2 := run_loadCells (P := P) w' a k f (fun j hj => by rw [hc]; exact hf j hj)
    rw [h1] at e1
    cases e1
    exact e2
  have own : ∀ nm off len B b n', M.get nm = some B → ρ nm = some (b, n') → ∀ l', B.cellsFrom off len = some l' → ∀ j, j < len → (w.cell? ((⟨b, off, none⟩ : Addr).add j)).isSome = true := by
    intro nm off len B b n' h1 h2 l' h3 j hj
    obtain ⟨g1, g2, g3⟩ := Blk.cellsFrom_spec _ _ _ h3
    have hjl : j < l'.length := by omega
    have hs : l'[j]? = some l'[j] := by simp [hjl]
    obtain ⟨v, a, _⟩ := cell_own (H.at h1 h2) (i := off + j) (by have := g2 (by omega); omega) (g3 j _ hs)
    rw [addr_add, a]; rfl
  unfold srcCells at h
  split at h
  · cases h
    simp only [Rep] at hx; subst hx
    simp [Builtin.firstCells] at hv ⊢
    exact hv
  · cases h
    simp only [Rep] at hx
    obtain ⟨a, c, rfl⟩ := hx
    simp [Builtin.firstCells, loadCells, loadCellsFrom] at hv ⊢
    exact hv
  · rename_i nm off len cap
    split at h
    · rename_i B hB
      split at h
      · rename_i l' hl
        cases h
        simp only [Rep] at hx
        obtain ⟨b, k, h1, rfl⟩ := hx
        simp only [Builtin.firstCells] at hv ⊢
        exact key _ _ hv (own nm off _ B b k hB h1 _ hl)
      · cases h
    · cases h
  · rename_i nm off len esz
    split at h
    · rename_i B hB
      split at h
      · rename_i l' hl
        cases h
        simp only [Rep] at hx
        obtain ⟨b, k, c, h1, rfl, _⟩ := hx
        simp only [Builtin.firstCells] at hv ⊢
        exact key _ _ hv (own nm off _ B b k hB h1 _ hl)
      · cases h
    · cases h
  · rename_i str
    split at h
    · cases h
      simp only [Rep] at hx; subst hx
      simp only [Builtin.firstCells, Sem.run_pure, Result.ok.injEq] at hv ⊢
      exact ⟨hv.1, trivial⟩
    · cases h
  · cases h

theorem sgrow_le {M1 M' : Mem} {e need sz at_ : Nat} {B : Blk} {l : List SV} {s : SV} (h : sgrow P M1 e need sz B at_ l = some (s, M')) :
    need ≤ 9223372036854775807 ∧ ∃ i zv, P.info? e = some i ∧ i.zero = some zv ∧ need * i.bytes ≤ 140737488355328 ∧ M'.next = M1.next + 1 ∧ s = .oslice M1.next 0 need sz ∧
      ∃ B', Blk.puts { B with elem := e, size := need * sz, opn := true, row := none } at_ l = some B' ∧ ∀ m, M'.get m = if m = M1.next then some B' else M1.get m := by
  unfold sgrow at h
  split at h
  · rename_i i z hi hz
    obtain ⟨i', zv, hi', hzv, _, _, _⟩ := zeroS_spec (ρ := fun _ => none) (env := env0) hz
    rw [hi] at hi'; cases hi'
    split at h
    · rename_i b1 b2 b3
      split at h
      · rename_i B' hp
        split at h
        · rename_i nm M2 hM
          cases h
          obtain ⟨rfl, hn, hg⟩ := Mem.new_spec hM
          exact ⟨ble_true b1, i, zv, hi, hzv, ble_true b2, hn, rfl, B', hp, hg⟩
        · cases h
      · cases h
    · cases h
  · cases h

set_option maxHeartbeats 1000000 in
theorem run_sappend {M M' : Mem} {ts : Array TypeId} {ty : TypeId} {x y s : SV} {u v : Value} (H : Holds ρ env M.get w) (hd : Free L ρ M.next) (hL : M'.next ≤ L) (h : sappend P M ts x y = some (s, M'))
    (hx : Rep ρ env x u) (hy : Rep ρ env y v) : ∃ r w' ρ', (Builtin.append_ ts ty #[u, v]).run P w = .ok r w' ∧ Rep ρ' env s r ∧ Post env L ρ M.get M.next w ρ' M'.get M'.next w' := by
  unfold sappend at h
  split at h
  · rename_i t xt h0 h1
    split at h
    · rename_i e d hu hxt
      split at h
      · rename_i sz hdi hsz
        split at h
        · cases h
        · rename_i n l hsrc
          obtain ⟨hn, ⟨vs, hv, hlv⟩, hll⟩ := srcCells_spec (P := P) H hsrc hy
          have hvh : ∀ w', w'.heap = w.heap → (Builtin.firstCells sz n v).run P w' = .ok vs w' := fun w' hh => firstCells_heap H hsrc hy hv hh
          split at h
          · -- nil
            simp only [Rep] at hx; subst hx
            split at h
            · cases h
              have := append_fits (w := w) (base := none) (len := 0) (cap := 0) ty h0 h1 hu hxt hdi hsz hn hv (by omega)
              exact ⟨_, w, ρ, this, by simp [Rep], Post.refl H hd⟩
            · rename_i n'
              obtain ⟨k1, i, zv, hi, hzv, k2, k3, k4, _⟩ := sgrow_le h
              obtain ⟨newCap, rest, c1, c2, c3⟩ := append_grows (w := w) (base := none) (len := 0) (cap := 0) ty h0 h1 hu hxt hdi hsz hn (old := #[]) hi hzv (by omega) (by omega) (by simpa using k2)
                (fun w' _ => by simp [Builtin.firstCells]) hvh
              simp only [Nat.zero_add] at c1 c2 c3
              obtain ⟨ρ', p1, p2⟩ := sgrow_spec (M := M) (w := w) (newCap := newCap) (old := #[]) (vs := vs) (rest := rest) h H hd hL (fun _ _ h => h) rfl hi hzv c1 c2 ⟨rfl, fun j hj => absurd hj (by omega)⟩ hlv (by rw [Nat.zero_add]; exact hll)
              exact ⟨_, _, ρ', c3, p2, p1⟩
          · -- a slice whose room is known
            rename_i nm off len cap
            simp only [Rep] at hx
            obtain ⟨b, k, hr, rfl⟩ := hx
            split at h
            · cases h
            · rename_i B hB
              have hC := H.at hB hr
              split at h
              · rename_i hfit
                have hfit := ble_true hfit
                split at h
                · rename_i B' hp
                  split at h
                  · rename_i M2 hM
                    cases h
                    obtain ⟨hnx, hg⟩ := Mem.set_spec hM
                    have hrun := append_fits (w := w) (base := some ⟨b, off, none⟩) ty h0 h1 hu hxt hdi hsz hn hv hfit
                    obtain ⟨w', r1, r2, r3⟩ := run_storeCells_own (P := P) l vs.toList B B' (off + len * sz) 0 w hC (by simpa using hp) hlv
                    simp only [addr_add, r1, Result.andThen_ok] at hrun
                    refine ⟨_, w', ρ, hrun, by simp only [Rep]; exact ⟨b, k, hr, rfl⟩, by rw [hnx]; exact post_upd H hd hB hr hg r3 r2⟩
                  · cases h
                · cases h
              · rename_i hfit
                rw [nat_ble] at hfit
                have hfit : ¬ len + n ≤ cap := by simpa using hfit
                split at h
                · rename_i old hold
                  obtain ⟨k1, i, zv, hi, hzv, k2, k3, k4, _⟩ := sgrow_le h
                  obtain ⟨os, o1, o2⟩ := run_loadCells_own (P := P) hC hold
                  have hsrc' : srcCells M sz (.slice nm off len cap) = some (len, old) := by simp [srcCells, hB, hold]
                  have hoh : ∀ w', w'.heap = w.heap → (Builtin.firstCells sz len (.slice (some ⟨b, off, none⟩) len cap)).run P w' = .ok os w' := fun w' hh =>
                    firstCells_heap H hsrc' (by simp only [Rep]; exact ⟨b, k, hr, rfl⟩) (by simpa [Builtin.firstCells] using o1) hh
                  obtain ⟨newCap, rest, c1, c2, c3⟩ := append_grows (w := w) (base := some ⟨b, off, none⟩) ty h0 h1 hu hxt hdi hsz hn hi hzv hfit k1 k2 hoh hvh
                  have hcomb : RepL ρ env (old ++ l) (os ++ vs).toList := by simpa using o2.append hlv
                  have hol := (Blk.cellsFrom_spec _ _ _ hold).1
                  obtain ⟨ρ', p1, p2⟩ := sgrow_spec (M := M) (w := w) (newCap := newCap) (old := #[]) (vs := os ++ vs) (rest := rest) h H hd hL (fun _ _ h => h) rfl hi hzv c1 c2
                    ⟨rfl, fun j hj => absurd hj (by omega)⟩ hcomb (by simp only [List.length_append, hol, hll, Nat.add_mul]; omega)
                  refine ⟨_, _, ρ', c3, p2, ?_⟩
                  simpa using p1
                · cases h
          · -- a slice whose room is not known
            rename_i nm off len esz
            have hx0 := hx
            simp only [Rep] at hx
            obtain ⟨b, k, cap, hr, rfl, hk, hlc⟩ := hx
            split at h
            · cases h
              have hrun := append_fits (w := w) (base := some ⟨b, off, none⟩) ty h0 h1 hu hxt hdi hsz hn hv (by omega : len + 0 ≤ cap)
              have hv0 : vs = #[] := by
                have := hlv.length
                simp [hll] at this
                exact this
              subst hv0
              simp only [Nat.add_zero, storeCells, Sem.run_pure, Result.andThen_ok] at hrun
              exact ⟨_, w, ρ, hrun, hx0, Post.refl H hd⟩
            · rename_i n'
              have hll' : l.length = (n' + 1) * sz := hll
              split at h
              · cases h
              · rename_i B hB
                have hC := H.at hB hr
                split at h
                · rename_i a1 a2 a3 a4
                  have a1 := Nat.eq_of_beq_eq_true a1
                  have a2 := Nat.eq_of_beq_eq_true a2
                  have a3 := Nat.eq_of_beq_eq_true a3
                  have a4 := ble_true a4
                  subst a1
                  subst a2
                  split at h
                  · rename_i M1 hM1
                    obtain ⟨hnx, hg1⟩ := Mem.set_spec hM1
                    obtain ⟨k1, i, zv, hi, hzv, k2, k3, k4, B', kp, kg⟩ := sgrow_le h
                    by_cases hfit : len + (n' + 1) ≤ cap
                    · -- in place
                      have hrun := append_fits (w := w) (base := some ⟨b, 0, none⟩) ty h0 h1 hu hxt hdi hsz hn hv hfit
                      have hroom : (len + (n' + 1)) * esz ≤ k := by
                        have := Nat.mul_le_mul_right esz hfit
                        omega
                      -- the block with all its room
                      obtain ⟨g1, g2, g3⟩ := Blk.puts_get _ _ _ _ kp
                      obtain ⟨e1, e2, e3, e5⟩ := Blk.puts_spec _ _ _ _ kp
                      simp only [] at e1 e2 e3
                      obtain ⟨⟨cells, lo, hi', w1, w2, w3, w4⟩, hle, hsh, _⟩ := hC
                      have hvs : vs.size = l.length := by have := hlv.length; simpa using this
                      have hst : ∀ (l0 : List Value) (i0 : Nat) (w0 : World) (c0 : Array Value), w0.heap[b]? = some (.cells c0 B.elem (lo, hi')) → c0.size = k → len * esz + i0 + l0.length ≤ k → (∀ z ∈ l0, z.oneCell' = true) →
                          ∃ w', (storeCells ⟨b, len * esz, none⟩ l0 i0).run P w0 = .ok () w' ∧ SameBut w0 w' b ∧ ∃ c', w'.heap[b]? = some (.cells c' B.elem (lo, hi')) ∧ c'.size = k ∧
                            ∀ j, c'[j]? = if len * esz + i0 ≤ j ∧ j < len * esz + i0 + l0.length then l0[j - (len * esz + i0)]? else c0[j]? := by
                        intro l0
                        induction l0 with
                        | nil =>
                          intro i0 w0 c0 q1 q2 q3 q4
                          refine ⟨w0, by simp [storeCells], ⟨rfl, fun _ _ => rfl, rfl, rfl, rfl⟩, c0, q1, q2, fun j => ?_⟩
                          have : ¬ (len * esz + i0 ≤ j ∧ j < len * esz + i0 + ([] : List Value).length) := by simp
                          rw [if_neg this]
                        | cons z l0 ih =>
                          intro i0 w0 c0 q1 q2 q3 q4
                          simp only [List.length_cons] at q3
                          have hcell : w0.cell? ⟨b, len * esz + i0, none⟩ = some (c0[len * esz + i0]'(by omega)) := by
                            simp [World.cell?, q1]
                          have hfz : w0.frozen? ⟨b, len * esz + i0, none⟩ = false := by
                            have : ¬ (lo ≤ len * esz + i0 ∧ len * esz + i0 < hi') := by omega
                            simp only [World.frozen?, q1]
                            simpa using this
                          have hz1 := q4 z (by simp)
                          obtain ⟨w', s1, s2, c', s3, s4, s5⟩ := ih (i0 + 1) (w0.setCell ⟨b, len * esz + i0, none⟩ z) (c0.setIfInBounds (len * esz + i0) z) (heap_setCell_at _ _ _ _ _ _ _ q1) (by simpa using q2) (by omega) (fun z' hz' => q4 z' (by simp [hz']))
                          have hsb := sameBut_setCell w0 ⟨b, len * esz + i0, none⟩ z
                          refine ⟨w', ?_, ⟨s2.size.trans hsb.size, fun m hm => (s2.other m hm).trans (hsb.other m hm), s2.os.trans hsb.os, s2.tape.trans hsb.tape, s2.output.trans hsb.output⟩, c', s3, s4, fun j => ?_⟩
                          · simp only [storeCells, Sem.run_bind, addr_add]
                            rw [run_store P w0 _ z .plain hz1, hcell]
                            simp only [hfz, Bool.false_eq_true, if_false, Result.andThen_ok]
                            exact s1
                          · rw [s5 j]
                            by_cases hj : len * esz + (i0 + 1) ≤ j ∧ j < len * esz + (i0 + 1) + l0.length
                            · have : len * esz + i0 ≤ j ∧ j < len * esz + i0 + (z :: l0).length := by simp only [List.length_cons]; omega
                              rw [if_pos hj, if_pos this]
                              have e : j - (len * esz + i0) = (j - (len * esz + (i0 + 1))) + 1 := by omega
                              rw [e, List.getElem?_cons_succ]
                            · rw [if_neg hj]
                              by_cases h0 : j = len * esz + i0
                              · subst h0
                                have : len * esz + i0 ≤ len * esz + i0 ∧ len * esz + i0 < len * esz + i0 + (z :: l0).length := by simp
                                rw [if_pos this]
                                have hlt : len * esz + i0 < c0.size := by omega
                                simp [hlt]
                              · have : ¬ (len * esz + i0 ≤ j ∧ j < len * esz + i0 + (z :: l0).length) := by simp only [List.length_cons]; omega
                                rw [if_neg this, Array.getElem?_setIfInBounds_ne (Ne.symm h0)]
                      have hone : ∀ z ∈ vs.toList, z.oneCell' = true := by
                        intro z hz
                        obtain ⟨j, hj⟩ := List.getElem?_of_mem hz
                        have hjl : j < l.length := by
                          have := (List.getElem?_eq_some_iff.1 hj).1
                          simp at this; omega
                        have hs : l[j]? = some l[j] := by simp [hjl]
                        obtain ⟨z', z1, z2⟩ := hlv.get _ _ hs
                        rw [hj] at z1; cases z1
                        exact z2.one (g1 _ (by simp))
                      have hlen : (len + (n' + 1)) * esz = len * esz + (n' + 1) * esz := Nat.add_mul _ _ _
                      obtain ⟨w', r1, r2, c', r3, r4, r5⟩ := hst vs.toList 0 w cells w1 w2 (by simp only [Array.length_toList, hvs, hll']; omega) hone
                      simp only [addr_add, Nat.zero_add, r1, Result.andThen_ok] at hrun
                      have hfree : ρ M.next = none := hd _ (Nat.le_refl _) (by omega)
                      have hsubr : Sub ρ (rset ρ M.next (b, k)) := rset_sub hfree
                      have hgg : ∀ m, M'.get m = if m = M.next then some B' else if m = nm then none else M.get m := by
                        intro m
                        rw [kg m, hnx, hg1 m]
                      have hC' : Cellar (rset ρ M.next (b, k)) env B' b k w' := by
                        refine ⟨⟨c', lo, hi', by rw [e1, ← a3]; exact r3, r4, w3, fun j hj => ?_⟩, by rw [e2]; exact hroom, (fun h => by rw [e3] at h; cases h), (fun r cnt ks h => by rw [e5] at h; cases h)⟩
                        rw [e2] at hj
                        rw [g3 j, r5 j]
                        simp only [Nat.add_zero, Array.length_toList, hvs]
                        by_cases hj2 : len * esz ≤ j ∧ j < len * esz + l.length
                        · rw [if_pos hj2, if_pos hj2]
                          have hlt : j - len * esz < l.length := by omega
                          have hs : l[j - len * esz]? = some l[j - len * esz] := by simp [hlt]
                          obtain ⟨z, z1, z2⟩ := hlv.get _ _ hs
                          exact ⟨l[j - len * esz], z, hs, g1 _ (by simp), z1, Rep.mono hsubr _ _ z2⟩
                        · rw [if_neg hj2, if_neg hj2]
                          obtain ⟨s0, z, q1, q2, q3, q4⟩ := w4 j (by omega)
                          exact ⟨s0, z, q1, q2, q3, Rep.mono hsubr _ _ q4⟩
                      have hpost := post_rename (next' := M'.next) H hd (by rw [k3, hnx]) hL hB hr hgg r2 hC'
                      refine ⟨_, w', _, hrun, ?_, hpost⟩
                      rw [k4, hnx]
                      simp only [Rep]
                      exact ⟨b, k, cap, rset_same _ _ _, rfl, hk, hfit⟩
                    · -- a new block
                      have hcells : ∀ j, j < len * esz → ∃ s v, B.at j = some s ∧ s.one = true ∧ w.cell? ⟨b, j, none⟩ = some v ∧ Rep ρ env s v := by
                        intro j hj
                        obtain ⟨⟨cells, lo, hi', w1, w2, w3, w4⟩, hle, hsh, _⟩ := hC
                        obtain ⟨s0, z, q1, q2, q3, q4⟩ := w4 j (by omega)
                        exact ⟨s0, z, q1, q2, by simp [World.cell?, w1, q3], q4⟩
                      let f : Nat → Value := fun j => (w.cell? ⟨b, j, none⟩).getD undef
                      let os : Array Value := ((List.range (len * esz)).map f).toArray
                      have hos : ∀ w', w'.heap = w.heap → (Builtin.firstCells esz len (.slice (some ⟨b, 0, none⟩) len cap)).run P w' = .ok os w' := by
                        intro w' hh
                        simp only [Builtin.firstCells]
                        refine run_loadCells (P := P) w' ⟨b, 0, none⟩ (len * esz) f fun j hj => ?_
                        obtain ⟨s0, z, q1, q2, q3, q4⟩ := hcells j hj
                        rw [addr_add, Nat.zero_add]
                        have hc : w'.cell? ⟨b, j, none⟩ = w.cell? ⟨b, j, none⟩ := by simp [World.cell?, hh]
                        rw [hc, q3]
                        simp [f, q3]
                      obtain ⟨newCap, rest, c1, c2, c3⟩ := append_grows (w := w) (base := some ⟨b, 0, none⟩) ty h0 h1 hu hxt hdi hsz hn hi hzv hfit k1 k2 hos hvh
                      have H1 : Holds ρ env M1.get w := H.less fun m C hm => by
                        rw [hg1 m] at hm
                        split at hm
                        · cases hm
                        · exact hm
                      obtain ⟨ρ', p1, p2⟩ := sgrow_spec (M := M) (w := w) (newCap := newCap) (old := os) (vs := vs) (rest := rest) h H1 hd hL (fun m C hm => by
                          rw [hg1 m] at hm
                          split at hm
                          · cases hm
                          · exact hm) hnx hi hzv c1 c2
                        ⟨by simp [os], fun j hj => by
                          obtain ⟨s0, z, q1, q2, q3, q4⟩ := hcells j hj
                          exact ⟨s0, z, q1, q2, by simp [os, hj, f, q3], q4⟩⟩ hlv (by rw [hll, Nat.add_mul])
                      exact ⟨_, _, ρ', c3, p2, p1⟩
                  · cases h
                · cases h
          · cases h
      · cases h
    · cases h
  · cases h

end
end Go.Sym
