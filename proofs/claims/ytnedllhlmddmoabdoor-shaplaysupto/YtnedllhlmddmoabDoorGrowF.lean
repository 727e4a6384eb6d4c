/- One more hash, by Fork: the contract of grows at this kind; of no statement by itself. -/
import Derived.Test.YtnedllhlmddmoabDoorGrow
namespace Go.Proofs.YtnedllhlmddmoabDoor
open Go.RowKit
set_option linter.unusedVariables false

/-- What grows answers where there is one more: the pair, in new memory, at the state s behind n bytes, with bs eaten. -/
def Grown (w w' : World) (s : List Nat) (n : Nat) (bs : List Nat) (e : Ending) : Prop :=
  ∃ a r v, e = .returned (.tuple #[.agg #[.pointer (some ⟨a, 0, none⟩), .pointer (some ⟨r, 0, none⟩)], .bool true]) ∧ w.heap.size ≤ a ∧ w.heap.size ≤ r ∧ Eat w' a s n bs ∧ w'.heap[r]? = some (.cells (rcells s n v).toArray 47 (0, 0)) ∧ w'.ownsRow w.heap.size 5 1 v bs.length (cells8 (up bs)) ∧ Chg (fun _ => False) w w'

theorem owns_base {w : World} {B B' : Nat} {e : TypeId} {size : Nat} {v : Value} {n : Nat} {xs : List Value} (h : w.ownsRow B e size v n xs) (hB : B' ≤ B) : w.ownsRow B' e size v n xs := by
  refine ⟨h.1, ?_⟩
  rcases h.2 with hn | ⟨g, cap, cur, rfl, hb, rest⟩
  · exact .inl hn
  · exact .inr ⟨g, cap, cur, rfl, by omega, rest⟩

/-- A fork of the program's hash. -/
def ForkH (B : Nat) (s : List Nat) (n : Nat) (bs : List Nat) (q : Value) (wq : World) : Prop := ∃ a, q = .pointer (some ⟨a, 0, none⟩) ∧ B ≤ a ∧ Eat wq a s n bs
/-- A fork of the document's. -/
def ForkR (B : Nat) (s : List Nat) (n : Nat) (bs : List Nat) (q : Value) (wq : World) : Prop := ∃ r v, q = .pointer (some ⟨r, 0, none⟩) ∧ B ≤ r ∧ wq.heap[r]? = some (.cells (rcells s n v).toArray 47 (0, 0)) ∧ wq.ownsRow B 5 1 v bs.length (cells8 (up bs))
/-- Both. -/
def ForkP (B : Nat) (s : List Nat) (n : Nat) (bs : List Nat) (q : Value) (wq : World) : Prop := ∃ a r v, q = .agg #[.pointer (some ⟨a, 0, none⟩), .pointer (some ⟨r, 0, none⟩)] ∧ B ≤ a ∧ B ≤ r ∧ Eat wq a s n bs ∧ wq.heap[r]? = some (.cells (rcells s n v).toArray 47 (0, 0)) ∧ wq.ownsRow B 5 1 v bs.length (cells8 (up bs))

set_option maxHeartbeats 8000000 in
set_option maxRecDepth 100000 in
theorem grows_fork (a r : Nat) (s : List Nat) (n : Nat) (v : Value) (bs : List Nat) (h nn ob : Value) (w0 : World) (hE : Eat w0 a s n bs) (hR : Rh w0 r s n v bs) (hN2 : bs.length ≤ 140737488351232) :
    Calls Tryd.prog 18 #[.agg #[.pointer (some ⟨a, 0, none⟩), .pointer (some ⟨r, 0, none⟩)], .agg #[.int .i64 4, h, nn, ob]] w0 fun e w' => Grown w0 w' s n bs e := by
  have c0 : Chg (fun _ => False) w0 (((w0.alloc (.cells #[.pointer (some ⟨a, 0, none⟩), .pointer (some ⟨r, 0, none⟩)] 39)).alloc (.cells #[.int .i64 4, h, nn, ob] 42)).alloc (.cells #[.pointer none, .pointer none] 39)) := (((Chg.refl _ w0).alloc _).alloc _).alloc _
  have h2 : (((w0.alloc (.cells #[.pointer (some ⟨a, 0, none⟩), .pointer (some ⟨r, 0, none⟩)] 39)).alloc (.cells #[.int .i64 4, h, nn, ob] 42)).alloc (.cells #[.pointer none, .pointer none] 39)).heap[w0.heap.size + 1 + 1]? = some (.cells #[.pointer none, .pointer none] 39 (0, 0)) := by
    rw [show w0.heap.size + 1 + 1 = ((w0.alloc (.cells #[.pointer (some ⟨a, 0, none⟩), .pointer (some ⟨r, 0, none⟩)] 39)).alloc (.cells #[.int .i64 4, h, nn, ob] 42)).heap.size by simp, heap_alloc_last]
  have h1 : (((w0.alloc (.cells #[.pointer (some ⟨a, 0, none⟩), .pointer (some ⟨r, 0, none⟩)] 39)).alloc (.cells #[.int .i64 4, h, nn, ob] 42)).alloc (.cells #[.pointer none, .pointer none] 39)).cell? ⟨w0.heap.size + 1, 0, none⟩ = some (.int .i64 4) := by
    have hb : (((w0.alloc (.cells #[.pointer (some ⟨a, 0, none⟩), .pointer (some ⟨r, 0, none⟩)] 39)).alloc (.cells #[.int .i64 4, h, nn, ob] 42)).alloc (.cells #[.pointer none, .pointer none] 39)).heap[w0.heap.size + 1]? = some (.cells #[.int .i64 4, h, nn, ob] 42 (0, 0)) := by
      rw [Below.heap_alloc _ _ _ (by simp), show w0.heap.size + 1 = (w0.alloc (.cells #[.pointer (some ⟨a, 0, none⟩), .pointer (some ⟨r, 0, none⟩)] 39)).heap.size by simp, heap_alloc_last]
    rw [cell_of_row _ _ 0 _ _ _ hb]
    rfl
  have h0 : (((w0.alloc (.cells #[.pointer (some ⟨a, 0, none⟩), .pointer (some ⟨r, 0, none⟩)] 39)).alloc (.cells #[.int .i64 4, h, nn, ob] 42)).alloc (.cells #[.pointer none, .pointer none] 39)).heap[w0.heap.size]? = some (.cells #[.pointer (some ⟨a, 0, none⟩), .pointer (some ⟨r, 0, none⟩)] 39 (0, 0)) := by
    rw [Below.heap_alloc _ _ _ (by simp; omega), Below.heap_alloc _ _ _ (by simp), heap_alloc_last]
  have HE : Hid (Eat (((w0.alloc (.cells #[.pointer (some ⟨a, 0, none⟩), .pointer (some ⟨r, 0, none⟩)] 39)).alloc (.cells #[.int .i64 4, h, nn, ob] 42)).alloc (.cells #[.pointer none, .pointer none] 39)) a s n bs) := hE.new c0
  have HR : Hid (Rh (((w0.alloc (.cells #[.pointer (some ⟨a, 0, none⟩), .pointer (some ⟨r, 0, none⟩)] 39)).alloc (.cells #[.int .i64 4, h, nn, ob] 42)).alloc (.cells #[.pointer none, .pointer none] 39)) r s n v bs) := hR.new c0
  clear hE hR
  go_enter Tryd.func18, Tryd.ntmps18
  go_wp2_with fail
  generalize (((w0.alloc (.cells #[.pointer (some ⟨a, 0, none⟩), .pointer (some ⟨r, 0, none⟩)] 39)).alloc (.cells #[.int .i64 4, h, nn, ob] 42)).alloc (.cells #[.pointer none, .pointer none] 39)) = w1 at *
  have hlt2 := lt_of_blk h2
  have hs1 := c0.size
  have p0 : w1.cell? ⟨w0.heap.size, 0, none⟩ = some (.pointer (some ⟨a, 0, none⟩)) := cell0 h0
  have p1 : w1.cell? ⟨w0.heap.size, 1, none⟩ = some (.pointer (some ⟨r, 0, none⟩)) := cell1 h0
  have infoP : (Tryd.prog.info? 39).map (·.size) = some 2 := by kernel_rfl
  refine wp_region_last (mk := fun u => #[_, _, _, _, _, _, u 6, _, _, _, _, _, _, _, _, _, _, u 17, u 18, u 19, u 20, u 21, u 22, u 23, _, _, _, _, _, _, _, _, _, _, _, _, _, _, _, _, _, _, _, _, _, _, _, _, _, _, _, _, _, _, _, _, _, _, _, _, _, _, _, _, _, _, _]) (F := fun slot vv ww => (look [(17, .val (.pointer (some ⟨w0.heap.size, 0, none⟩))), (18, .val (.pointer (some ⟨a, 0, none⟩))), (19, .is (ForkH w1.heap.size s n bs)), (20, .val (.pointer (some ⟨w0.heap.size, 1, none⟩))), (21, .val (.pointer (some ⟨r, 0, none⟩))), (22, .is (ForkR w1.heap.size s n bs)), (23, .is (ForkP w1.heap.size s n bs)), (6, .blk w1.heap.size [.pointer none, .pointer none] 39)] slot).holds vv ww) (fun _ => undef) rfl (by kernel_rfl) 8 _ rfl rfl (by kernel_rfl) ?_ (fun _ v w w' hc h => Fact.stays _ v w w' hc h) ?_ ?_
  · repeat (refine ⟨⟨_, rfl, fun _ _ => rfl⟩, ?_⟩)
    exact trivial
  · refine ⟨?_, ?_, ?_, ?_, ?_, ?_, ?_, ?_, trivial⟩
    · intro u w hc hd K hK -- 17
      clear hd
      go_simp
      exact hK.out (.pointer (some ⟨w0.heap.size, 0, none⟩)) w (Chg.refl _ _) rfl
    · intro u w hc hd K hK -- 18
      have h17 : (Fact.val (.pointer (some ⟨w0.heap.size, 0, none⟩))).holds (u 17) w := hd.get 0 (by kernel_rfl)
      simp only [Fact.holds] at h17
      clear hd
      simp only [h17] at hK
      have hcell := cell_chg p0 hc
      go_simp
      exact hK.out _ _ (Chg.refl _ _) rfl
    · intro u w hc hd K hK -- 19
      have h18 : (Fact.val (.pointer (some ⟨a, 0, none⟩))).holds (u 18) w := hd.get 1 (by kernel_rfl)
      simp only [Fact.holds] at h18
      clear hd
      simp only [h18] at hK
      go_simp
      go_at_call 25
      refine (fork_any a s n bs w (HE.out.new hc)).mono ?_
      rintro e w2 ⟨g, rfl, hg, hE2, c2⟩
      exact hK.out _ _ c2 ⟨w2, ⟨g, rfl, Nat.le_trans hc.size hg, hE2⟩, Chg.refl _ _⟩
    · intro u w hc hd K hK -- 20
      clear hd
      go_simp
      exact hK.out (.pointer (some ⟨w0.heap.size, 1, none⟩)) w (Chg.refl _ _) rfl
    · intro u w hc hd K hK -- 21
      have h20 : (Fact.val (.pointer (some ⟨w0.heap.size, 1, none⟩))).holds (u 20) w := hd.get 3 (by kernel_rfl)
      simp only [Fact.holds] at h20
      clear hd
      simp only [h20] at hK
      have hcell := cell_chg p1 hc
      go_simp
      exact hK.out _ _ (Chg.refl _ _) rfl
    · intro u w hc hd K hK -- 22
      have h21 : (Fact.val (.pointer (some ⟨r, 0, none⟩))).holds (u 21) w := hd.get 4 (by kernel_rfl)
      simp only [Fact.holds] at h21
      clear hd
      simp only [h21] at hK
      go_simp
      go_at_call 26
      refine (rhfork_any r s n v bs w (HR.out.new hc) hN2).mono ?_
      rintro e w2 ⟨g, v2, rfl, hg, hb2, ho2, c2⟩
      exact hK.out _ _ c2 ⟨w2, ⟨g, v2, rfl, Nat.le_trans hc.size hg, hb2, owns_base ho2 hc.size⟩, Chg.refl _ _⟩
    · intro u w hc hd K hK -- 23
      have h19 : (Fact.is (ForkH w1.heap.size s n bs)).holds (u 19) w := hd.get 2 (by kernel_rfl)
      obtain ⟨q19, h19, p19⟩ := h19
      have h22 : (Fact.is (ForkR w1.heap.size s n bs)).holds (u 22) w := hd.get 5 (by kernel_rfl)
      obtain ⟨q22, h22, p22⟩ := h22
      clear hd
      obtain ⟨a2, e19, l19, E19⟩ := h19
      obtain ⟨r2, v2, e22, l22, b22, o22⟩ := h22
      simp only [e19, e22] at hK
      go_simp
      exact hK.out _ w (Chg.refl _ _) ⟨w, ⟨a2, r2, v2, rfl, l19, l22, E19.new p19, blk_keep b22 p22 (fun f => f), ownsRow_keep o22 p22 (fun _ _ f => f)⟩, Chg.refl _ _⟩
    · intro u w hc hd K hK -- 6
      clear hd
      go_simp
      exact hK.out _ _ (chg_one w _) ⟨_, rfl, hc.size, heap_alloc_last w _⟩
  · intro u w hc hA K hK
    have a6 := hA.at 6 (by kernel_rfl)
    have a23 := hA.at 23 (by kernel_rfl)
    clear hA
    obtain ⟨g, e6, hg, hz⟩ : (Fact.blk w1.heap.size [.pointer none, .pointer none] 39).holds (u 6) w := a6
    obtain ⟨wq, ⟨a', r', v', e23, ha, hr, hE4, hb4, ho4⟩, cq⟩ : (Fact.is (ForkP w1.heap.size s n bs)).holds (u 23) w := a23
    have hE5 := hE4.new cq
    have hb5 := blk_keep hb4 cq (fun f => f)
    have ho5 := ownsRow_keep ho4 cq (fun _ _ f => f)
    have hga : g ≠ a' := fun e => by
      obtain ⟨_, k1, _⟩ := hE5
      have := k1.blk
      rw [← e, hz] at this
      simp at this
    have hgr : g ≠ r' := fun e => by
      rw [← e, hz] at hb5
      simp at hb5
    have hgv : ∀ j, v'.ownBlock = some j → ¬ j = g := fun j e e2 => by
      obtain ⟨cur, hcur⟩ := ownsRow_blk ho5 e
      rw [e2, hz] at hcur
      simp at hcur
    have hr3 := blk_keep h2 hc (fun f => f)
    refine step_store_pair (a := ⟨_, []⟩) rfl 39 (.tmp 6) (.tmp 23) rfl g #[.pointer (some ⟨a', 0, none⟩), .pointer (some ⟨r', 0, none⟩)] (by exact e6) (by exact e23) 39 _ hz infoP rfl (by first | rfl | simp [Value.oneCell']) ?_
    refine hK.out _ _ ?_
    have cn := chg_setRow w g #[.pointer (some ⟨a', 0, none⟩), .pointer (some ⟨r', 0, none⟩)]
    have hp4 : (w.setRow g #[.pointer (some ⟨a', 0, none⟩), .pointer (some ⟨r', 0, none⟩)]).heap[g]? = some (.cells #[.pointer (some ⟨a', 0, none⟩), .pointer (some ⟨r', 0, none⟩)] 39 (0, 0)) := setRow_heap _ _ _ _ _ _ hz
    have hr4 := blk_keep hr3 cn (by omega)
    have HE6 : Hid (Eat (w.setRow g #[.pointer (some ⟨a', 0, none⟩), .pointer (some ⟨r', 0, none⟩)]) a' s n bs) := hE5.keep cn (fun e => hga e.symm)
    have HB6 : Hid _ := blk_keep hb5 cn (fun e => hgr e.symm)
    have HO6 : Hid ((w.setRow g #[.pointer (some ⟨a', 0, none⟩), .pointer (some ⟨r', 0, none⟩)]).ownsRow w1.heap.size 5 1 v' bs.length (cells8 (up bs))) := ownsRow_keep ho5 cn hgv
    have HC6 : Hid (Chg (fun _ => False) w0 (w.setRow g #[.pointer (some ⟨a', 0, none⟩), .pointer (some ⟨r', 0, none⟩)])) := (chg_then c0 hc).trans cn (fun _ e => .inr (by omega))
    clear hE4 hb4 ho4 hE5 hb5 ho5 hgv cn hr3 hK cq hz hc c0
    generalize w.setRow g #[.pointer (some ⟨a', 0, none⟩), .pointer (some ⟨r', 0, none⟩)] = w4 at *
    have c40 : w4.cell? ⟨g, 0, none⟩ = some (.pointer (some ⟨a', 0, none⟩)) := cell0 hp4
    have c41 : w4.cell? ⟨g, 1, none⟩ = some (.pointer (some ⟨r', 0, none⟩)) := cell1 hp4
    have q0 : w4.cell? ⟨w0.heap.size + 1 + 1, 0, none⟩ = some (.pointer none) := cell0 hr4
    have q1 : w4.cell? ⟨w0.heap.size + 1 + 1, 1, none⟩ = some (.pointer none) := cell1 hr4
    have f0 : ∀ k, w4.frozen? ⟨w0.heap.size + 1 + 1, k, none⟩ = false := fun k => by simp [World.frozen?, hr4]
    simp only [e6]
    go_simp
    go_wp2_with fail
    go_region_law (refine step_store_pair rfl 39 (.tmp 4) (.tmp 24) rfl (w0.heap.size + 1 + 1) #[.pointer (some ⟨a', 0, none⟩), .pointer (some ⟨r', 0, none⟩)] rfl rfl 39 _ (by first | exact hr4 | simpa using hr4) infoP rfl rfl ?_)
    all_goals (
      go_simp
      go_wp2
      (try simp only [Exit.inBlock, Exit.then])
      have hb5 : ((w4.setCell ⟨w0.heap.size + 1 + 1, 0, none⟩ (.pointer (some ⟨a', 0, none⟩))).setCell ⟨w0.heap.size + 1 + 1, 1, none⟩ (.pointer (some ⟨r', 0, none⟩))).heap[w0.heap.size + 1 + 1]? = some (.cells #[.pointer (some ⟨a', 0, none⟩), .pointer (some ⟨r', 0, none⟩)] 39 (0, 0)) :=
        blk_setk (l := [.pointer (some ⟨a', 0, none⟩), .pointer none]) (blk_setk (l := [.pointer none, .pointer none]) hr4 0 _) 1 _
      have cs5 : Chg (fun k => k = w0.heap.size + 1 + 1) w4 ((w4.setCell ⟨w0.heap.size + 1 + 1, 0, none⟩ (.pointer (some ⟨a', 0, none⟩))).setCell ⟨w0.heap.size + 1 + 1, 1, none⟩ (.pointer (some ⟨r', 0, none⟩))).drew := (((Chg.refl (fun k => k = w0.heap.size + 1 + 1) w4).setCell (p := ⟨w0.heap.size + 1 + 1, 0, none⟩) (.inl rfl) _).setCell (p := ⟨w0.heap.size + 1 + 1, 1, none⟩) (.inl rfl) _).drew
      refine bodyPost_ret (results_pair rfl _ _ (w0.heap.size + 1 + 1) 39 #[.pointer (some ⟨a', 0, none⟩), .pointer (some ⟨r', 0, none⟩)] (0, 0) _ rfl hb5 Tryd.underlying39 infoP) rfl ?_
      refine ⟨a', r', v', rfl, by omega, by omega, HE6.out.keep cs5 (by omega), blk_keep HB6.out cs5 (by omega), owns_base (ownsRow_keep HO6.out cs5 (fun j e e2 => ?_)) hs1, HC6.out.trans cs5 (fun _ e => .inr (by omega))⟩
      have := (HO6.out.lt j e).1
      omega)
end Go.Proofs.YtnedllhlmddmoabDoor
