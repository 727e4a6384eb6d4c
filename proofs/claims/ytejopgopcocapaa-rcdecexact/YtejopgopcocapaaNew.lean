/- The contracts of Reset and New; of no statement by themselves. -/
import Derived.Test.YtejopgopcocapaaSet
namespace Go.Proofs.Ytejopgopcocapaa
open Go.RowKit
set_option linter.unusedVariables false

/-- The first k are 1024. -/
def half (k : Nat) (xs : List Int) : List Int := List.replicate k 1024 ++ xs.drop k
theorem half_len {k : Nat} {xs : List Int} (h : k ≤ xs.length) : (half k xs).length = xs.length := by simp [half]; omega
theorem half_set {k : Nat} {xs : List Int} (h : k < xs.length) : (half k xs).set k 1024 = half (k + 1) xs := by
  unfold half
  rw [List.set_append_right _ _ (by simp), List.length_replicate, Nat.sub_self, List.drop_eq_getElem_cons h, List.set_cons_zero, List.replicate_succ', List.append_assoc]
  rfl
theorem half_all (xs : List Int) : half xs.length xs = List.replicate xs.length 1024 := by simp [half]

/-- A cell that can be written. -/
def w_cf (w : World) (g k : Nat) : Prop := (∃ z, w.cell? ⟨g, k, none⟩ = some z) ∧ w.frozen? ⟨g, k, none⟩ = false

/-- One cell of the program's row is written. -/
theorem St.put {w : World} {B a g cap : Nat} {xs : List Int} (h : St w B a (.slice (some ⟨g, 0, none⟩) xs.length cap) xs) (j : Nat) (q : Int) (hj : j < xs.length) :
    St (w.setCell ⟨g, j, none⟩ (.int .u16 q)) B a (.slice (some ⟨g, 0, none⟩) xs.length cap) (xs.set j q) ∧ Chg (fun k => (Value.slice (some ⟨g, 0, none⟩) xs.length cap).ownBlock = some k) w (w.setCell ⟨g, j, none⟩ (.int .u16 q)) := by
  have c1 : Chg (fun k => k = g) w (w.setCell ⟨g, j, none⟩ (.int .u16 q)) := (Chg.refl (fun k => k = g) w).setCell (p := ⟨g, j, none⟩) (.inl rfl) _
  refine ⟨⟨h.ha, blk_keep h.blk c1 (fun e => ?_), ?_⟩, ?_⟩
  · obtain ⟨cur, hcur⟩ := owns_blk h.own (g := g) rfl
    rw [e] at h
    exact ty_ne hcur h.blk (by decide)
  · have := own_set h.own j (.int .u16 q) hj
    rw [ins_set] at this
    rw [List.length_set]
    exact this
  · exact c1.mono (fun i e => .inl (by subst e; rfl))

set_option maxHeartbeats 1000000 in
set_option maxRecDepth 100000 in
theorem reset_any (B a : Nat) (v : Value) (xs : List Int) (w0 : World) (h : St w0 B a v xs) (hn : xs.length ≤ 1048576) : Calls Try.prog 28 #[.pointer (some ⟨a, 0, none⟩)] w0 fun e w' => e = .returned (.tuple #[]) ∧ St w' B a v (List.replicate xs.length 1024) ∧ Chg (fun k => v.ownBlock = some k) w0 w' := by
  by_cases h0 : xs.length = 0
  · have hx : xs = [] := List.eq_nil_of_length_eq_zero h0
    subst hx
    have HH : Hid (St w0 B a v []) := h
    obtain ⟨ad, cap, rfl, _⟩ := own_any h.own
    have hca := cell00 h.blk
    clear h
    go_enter Try.func28, Try.ntmps28
    go_wp2_with fail
    refine wp_loop_rounds 1 ?_
    rw [rounds_succ]
    go_wp2
    go_end0
    exact ⟨rfl, HH.out, Chg.refl _ _⟩
  · obtain ⟨g, cap, rfl, hnc, _, hg, _, hfz, hcell⟩ := own_some h.own (by omega)
    have HA : Hid (half xs.length xs = List.replicate xs.length 1024) := half_all xs
    have HS : Hid (∀ k, k < xs.length → (half k xs).set k 1024 = half (k + 1) xs) := fun k hk => half_set hk
    have HL : Hid (∀ k, k ≤ xs.length → (half k xs).length = xs.length) := fun k hk => half_len hk
    have hca := cell00 h.blk
    have h0s : St w0 B a (.slice (some ⟨g, 0, none⟩) xs.length cap) (half 0 xs) := h
    clear hcell h hfz
    generalize xs.length = n at *
    go_enter Try.func28, Try.ntmps28
    go_wp2_with fail
    go_loopw [8] (fun i wr => ∃ k : Nat, k ≤ n ∧ i = .int .i64 k ∧ St wr B a (.slice (some ⟨g, 0, none⟩) n cap) (half k xs) ∧ Chg (fun k => (Value.slice (some ⟨g, 0, none⟩) n cap).ownBlock = some k) w0 wr) (fun i _ => n - (intOf i).toNat)
    case atStart => exact ⟨0, Nat.zero_le _, rfl, h0s, Chg.refl _ _⟩
    case round =>
      clear h0s hca
      obtain ⟨k, hk, rfl, ho, hc⟩ := hrel
      have hl := HL.out k hk
      have hca := cell00 ho.blk
      have HO : Hid (St wr B a (.slice (some ⟨g, 0, none⟩) n cap) (half k xs)) := ho
      by_cases hlt : k < n
      · have hcf : w_cf wr g k := by
          have hown := ho.own
          rw [hl] at hown
          obtain ⟨g2, cap2, e, _, _, _, _, hfz, hcell⟩ := own_some hown (by omega)
          simp only [Value.slice.injEq, Option.some.injEq, Addr.mk.injEq, true_and, and_true] at e
          obtain ⟨rfl, _⟩ := e
          exact ⟨⟨_, hcell k _ (ins_at .u16 (half k xs) k (by omega))⟩, hfz k⟩
        obtain ⟨⟨z, ck⟩, fk⟩ := hcf
        have R : Hid (St (wr.setCell ⟨g, k, none⟩ (.int .u16 1024)) B a (.slice (some ⟨g, 0, none⟩) n cap) (half (k + 1) xs) ∧ Chg (fun k => (Value.slice (some ⟨g, 0, none⟩) n cap).ownBlock = some k) w0 (wr.setCell ⟨g, k, none⟩ (.int .u16 1024))) := by
          have h1 := HO.out
          rw [← hl] at h1
          obtain ⟨h2, c2⟩ := h1.put k 1024 (by omega)
          rw [HS.out k hlt, hl] at h2
          rw [hl] at c2
          exact ⟨h2, hc.trans c2 (fun i e => .inl e)⟩
        clear ho hc HO hl
        go_wp2
        go_roundw
        case rel => exact ⟨k + 1, by omega, by go_num, R.out.1, R.out.2⟩
        case measure => simp [intOf]; omega
      · obtain rfl : k = n := by omega
        rw [HA.out] at ho
        clear HO
        go_wp2
        go_end0
        exact ⟨rfl, ho, hc⟩

theorem infoU16 : (Try.prog.info? 75).map (fun i => (i.zero, i.size, i.bytes)) = some (some (.int .u16 0), 1, 2) := by kernel_rfl

theorem new_out (i : Int) (w : World) (hi : i < 0 ∨ 1048576 < i) : Calls Try.prog 11 #[.int .i64 i] w fun e w' => e = .returned (.tuple #[.pointer none, .int .i64 7]) ∧ w = w' := by
  by_cases h0 : i < 0
  · go_enter Try.func11, Try.ntmps11
    go_wp2
    go_ret2
    exact ⟨rfl, rfl⟩
  · have h1 : 1048576 < i := by omega
    have hd : decide (i < 0) = false := by simp; omega
    clear hi h0
    go_enter Try.func11, Try.ntmps11
    go_wp2
    go_ret2
    exact ⟨rfl, rfl⟩

set_option maxHeartbeats 1000000 in
set_option maxRecDepth 100000 in
theorem new_in (n : Nat) (w : World) (hn : n ≤ 1048576) : Calls Try.prog 11 #[.int .i64 n] w fun e w' => ∃ a v, e = .returned (.tuple #[.pointer (some ⟨a, 0, none⟩), .int .i64 0]) ∧ w.heap.size ≤ a ∧ St w' w.heap.size a v (List.replicate n 1024) ∧ Chg (fun _ => False) w w' := by
  obtain ⟨i0, hi, hz0, hz1, hz2⟩ := info_parts infoU16
  have hd : decide ((n : Int) < 0) = false := by simp
  have hd2 : decide (1048576 < (n : Int)) = false := by simp; omega
  go_enter Try.func11, Try.ntmps11
  go_wp2_with (at_make; refine wpList_make_full _ rfl (.tmp 11) (.tmp 11) 71 rfl w.heap.size 75 i0 (.int .u16 0) 1 Try.underlying71 hi hz0 hz1 .i64 .i64 _ _ n rfl rfl rfl rfl (by rw [hz2]; omega) (by unfold maxLen; omega) (Nat.le_refl _) ?_)
  intro w1 ho hg
  have c1 : Chg (fun _ => False) w w1 := (Chg.refl _ w).grown hg (fun k e => by cases e)
  have c2 := chg_then c1 (chg_one w1 (.cells #[.slice (some ⟨w.heap.size, 0, none⟩) n n] 73))
  have HS : Hid (St (w1.alloc (.cells #[.slice (some ⟨w.heap.size, 0, none⟩) n n] 73)) w.heap.size w1.heap.size (.slice (some ⟨w.heap.size, 0, none⟩) n n) (List.replicate n 0)) := by
    refine ⟨c1.size, heap_alloc_last w1 _, ?_⟩
    have h2 := ho.alloc (.cells #[.slice (some ⟨w.heap.size, 0, none⟩) n n] 73)
    rw [toList_madeCells_one] at h2
    simpa [ins] using h2
  have hs1 := c1.size
  clear ho hg c1
  go_wp2_with fail
  have hl : (List.replicate n (0 : Int)).length = n := by simp
  refine (reset_any w.heap.size w1.heap.size _ (List.replicate n 0) _ HS.out (by omega)).mono ?_
  rintro e w3 ⟨rfl, h3, c3⟩
  rw [hl] at h3
  have HC : Hid (Chg (fun _ => False) w w3) := c2.trans c3 (fun i e => .inr (by simp only [Value.ownBlock, Option.some.injEq] at e; omega))
  have H3 : Hid (St w3 w.heap.size w1.heap.size (.slice (some ⟨w.heap.size, 0, none⟩) n n) (List.replicate n 1024)) := h3
  clear h3 c3 c2 HS
  go_wp2
  go_ret2
  exact ⟨_, _, rfl, hs1, H3.out, HC.out⟩
end Go.Proofs.Ytejopgopcocapaa
