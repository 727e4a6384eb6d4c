/- One more hash, the program's and the document's: the contract of grows; of no statement by itself. -/
import Derived.Test.YtnedllhlmddmoabDoorRefR
import Derived.Test.YtnedllhlmddmoabDoorLent
import Derived.Laws.ResultCell
import Derived.Deep.RegionLaw
namespace Go.Proofs.YtnedllhlmddmoabDoor
open Go.RowKit
set_option linter.unusedVariables false

theorem cell_at' {w w' : World} {S : Nat → Prop} {x : Addr} {v : Value} (h : w.cell? x = some v) (hc : Chg S w w') (hS : ¬ S x.block) : w'.cell? x = some v := by
  rw [World.cell?_of_block (w := w) (hc.block _ (World.block_lt_of_cell? w _ h) hS)]
  exact h

theorem eat_lt {w : World} {a : Nat} {s0 bs : List Nat} {n0 : Nat} (h : Eat w a s0 n0 bs) : a < w.heap.size := by
  obtain ⟨_, h1, _⟩ := h
  exact lt_of_blk h1.blk

theorem results_pair {fn : Func} {p u : Tmp} {ty : TypeId} (h : fn.results = #[.cell p ty, .tmp u]) (tmps : Array Value) (w : World) (g : Nat) (t : TypeId) (cs : Array Value) (fr : Nat × Nat) (fs : Array Field)
    (hp : tmps.getD p undef = .pointer (some ⟨g, 0, none⟩)) (hg : w.heap[g]? = some (.cells cs t fr))
    (hu : Tryd.prog.underlying ty = some (.struct fs)) (hi : (Tryd.prog.info? ty).map (·.size) = some cs.size) :
    (results fn tmps).run Tryd.prog w = .ok (.tuple #[.agg cs, tmps.getD u undef]) w := by
  have hl := run_loadVar_row (P := Tryd.prog) w g t ty cs fr _ hg hu rfl hi
  rw [results_cell_tmp h, hp]
  simp [asAddr, hl]

theorem step_store_pair {ops : Array Oper} {o : Oper} {a : Act} {w : World} {K : Act → World → Prop} {Q : Exit → Act → World → Prop} {E : Prop} (hgd : o.guard = none) (ty : TypeId) (x y : Operand) (ho : o.op = .store ty x y) (g : Nat) (cells : Array Value) (hx : a.eval x = .pointer (some ⟨g, 0, none⟩)) (hy : a.eval y = .agg cells)
    (t : TypeId) (old : Array Value) (hg : w.heap[g]? = some (.cells old t (0, 0))) (hi : (Tryd.prog.info? ty).map (·.size) = some cells.size) (hsz : old.size = cells.size) (h1 : cells.all (·.oneCell') = true)
    (h : K (a.put o.dst undef) (w.setRow g cells)) : if Region.wanted o (yielded ops a.tmps) = true then Oper.wp Tryd.prog o a w K Q else E := by
  rw [if_pos (by simp [Region.wanted, hgd])]
  exact wp_store_row ty x y ho g cells hx hy t old hg hi hsz h1 h

set_option maxHeartbeats 4000000 in
set_option maxRecDepth 100000 in
theorem grows_new (p0 p1 h nn : Value) (ob : Value) (w : World) (hT : Tab w) :
    Calls Tryd.prog 18 #[.agg #[p0, p1], .agg #[.int .i64 5, h, nn, ob]] w fun e w' => ∃ a r, e = .returned (.tuple #[.agg #[.pointer (some ⟨a, 0, none⟩), .pointer (some ⟨r, 0, none⟩)], .bool true]) ∧ w.heap.size ≤ a ∧ a < r ∧ Eat w' a Sha.I 0 [] ∧ w'.heap[r]? = some (.cells (rcells Sha.I 0 (.slice none 0 0)).toArray 47 (0, 0)) ∧ Chg (fun _ => False) w w' := by
  have c0 : Chg (fun _ => False) w (((w.alloc (.cells #[p0, p1] 39)).alloc (.cells #[.int .i64 5, h, nn, ob] 42)).alloc (.cells #[.pointer none, .pointer none] 39)) := (((Chg.refl _ w).alloc _).alloc _).alloc _
  have h2 : (((w.alloc (.cells #[p0, p1] 39)).alloc (.cells #[.int .i64 5, h, nn, ob] 42)).alloc (.cells #[.pointer none, .pointer none] 39)).heap[w.heap.size + 1 + 1]? = some (.cells #[.pointer none, .pointer none] 39 (0, 0)) := by
    rw [show w.heap.size + 1 + 1 = ((w.alloc (.cells #[p0, p1] 39)).alloc (.cells #[.int .i64 5, h, nn, ob] 42)).heap.size by simp, heap_alloc_last]
  have h1 : (((w.alloc (.cells #[p0, p1] 39)).alloc (.cells #[.int .i64 5, h, nn, ob] 42)).alloc (.cells #[.pointer none, .pointer none] 39)).cell? ⟨w.heap.size + 1, 0, none⟩ = some (.int .i64 5) := by
    have hb : (((w.alloc (.cells #[p0, p1] 39)).alloc (.cells #[.int .i64 5, h, nn, ob] 42)).alloc (.cells #[.pointer none, .pointer none] 39)).heap[w.heap.size + 1]? = some (.cells #[.int .i64 5, h, nn, ob] 42 (0, 0)) := by
      rw [Below.heap_alloc _ _ _ (by simp), show w.heap.size + 1 = (w.alloc (.cells #[p0, p1] 39)).heap.size by simp, heap_alloc_last]
    rw [cell_of_row _ _ 0 _ _ _ hb]
    rfl
  have hT1 := hT.new c0
  clear hT
  go_enter Tryd.func18, Tryd.ntmps18
  go_wp2_with fail
  generalize (((w.alloc (.cells #[p0, p1] 39)).alloc (.cells #[.int .i64 5, h, nn, ob] 42)).alloc (.cells #[.pointer none, .pointer none] 39)) = w1 at *
  refine (new_any w1 hT1).mono ?_
  rintro e w2 ⟨a, rfl, ha, hE, c2⟩
  have C2 := chg_then c0 c2
  have hr2 := blk_keep h2 c2 (fun f => f)
  have HLa : Hid (a < w2.heap.size) := eat_lt hE
  have HRb : Hid (w.heap.size + 1 + 1 < w1.heap.size) := lt_of_blk h2
  have hs1 := c0.size
  go_wp2_with fail
  refine (refnew_any w2).mono ?_
  rintro e w3 ⟨r, rfl, hr, hR, c3⟩
  have C3 := chg_then C2 c3
  have hr3 := blk_keep hr2 c3 (fun f => f)
  have hE3 := hE.new c3
  have HR : Hid (w3.heap[r]? = some (.cells (rcells Sha.I 0 (.slice none 0 0)).toArray 47 (0, 0))) := hR.blk
  have hz : (w3.alloc (.cells #[.pointer none, .pointer none] 39)).heap[w3.heap.size]? = some (.cells #[.pointer none, .pointer none] 39 (0, 0)) := heap_alloc_last _ _
  have hset := World.setRow_alloc_new w3 #[.pointer none, .pointer none] #[.pointer (some ⟨a, 0, none⟩), .pointer (some ⟨r, 0, none⟩)] 39
  have infoP : (Tryd.prog.info? 39).map (·.size) = some 2 := by kernel_rfl
  clear hr2 h2 hE hR c3 c2 C2 c0 h1 hT1
  go_wp2_with (refine wpList_store_row rfl 39 (.tmp 7) (.tmp 32) rfl w3.heap.size #[.pointer (some ⟨a, 0, none⟩), .pointer (some ⟨r, 0, none⟩)] rfl rfl 39 _ hz infoP rfl rfl ?_)
  have cn := chg_one w3 (.cells #[.pointer (some ⟨a, 0, none⟩), .pointer (some ⟨r, 0, none⟩)] 39)
  have hp4 : (w3.alloc (.cells #[.pointer (some ⟨a, 0, none⟩), .pointer (some ⟨r, 0, none⟩)] 39)).heap[w3.heap.size]? = some (.cells #[.pointer (some ⟨a, 0, none⟩), .pointer (some ⟨r, 0, none⟩)] 39 (0, 0)) := heap_alloc_last _ _
  have hr4 := blk_keep hr3 cn (fun f => f)
  have hE4 := hE3.new cn
  have HR4 : Hid _ := blk_keep HR.out cn (fun f => f)
  have C4 := chg_then C3 cn
  have hlt := lt_of_blk hr3
  have har : a < r := Nat.lt_of_lt_of_le HLa.out hr
  have hga : w.heap.size + 1 + 1 < a := Nat.lt_of_lt_of_le HRb.out ha
  clear hz hset hr3 hE3 HR cn C3
  generalize w3.alloc (.cells #[.pointer (some ⟨a, 0, none⟩), .pointer (some ⟨r, 0, none⟩)] 39) = w4 at *
  generalize w3.heap.size = g at *
  have c40 : w4.cell? ⟨g, 0, none⟩ = some (.pointer (some ⟨a, 0, none⟩)) := cell0 hp4
  have c41 : w4.cell? ⟨g, 1, none⟩ = some (.pointer (some ⟨r, 0, none⟩)) := cell1 hp4
  have q0 : w4.cell? ⟨w.heap.size + 1 + 1, 0, none⟩ = some (.pointer none) := cell0 hr4
  have q1 : w4.cell? ⟨w.heap.size + 1 + 1, 1, none⟩ = some (.pointer none) := cell1 hr4
  have f0 : ∀ k, w4.frozen? ⟨w.heap.size + 1 + 1, k, none⟩ = false := fun k => by simp [World.frozen?, hr4]
  go_region_law (refine step_store_pair rfl 39 (.tmp 4) (.tmp 33) rfl (w.heap.size + 1 + 1) #[.pointer (some ⟨a, 0, none⟩), .pointer (some ⟨r, 0, none⟩)] rfl rfl 39 _ (by first | exact hr4 | simpa using hr4) infoP rfl rfl ?_)
  all_goals (
    go_simp
    go_wp2
    (try simp only [Exit.inBlock, Exit.then])
    have hb5 : ((w4.setCell ⟨w.heap.size + 1 + 1, 0, none⟩ (.pointer (some ⟨a, 0, none⟩))).setCell ⟨w.heap.size + 1 + 1, 1, none⟩ (.pointer (some ⟨r, 0, none⟩))).heap[w.heap.size + 1 + 1]? = some (.cells #[.pointer (some ⟨a, 0, none⟩), .pointer (some ⟨r, 0, none⟩)] 39 (0, 0)) :=
      blk_setk (l := [.pointer (some ⟨a, 0, none⟩), .pointer none]) (blk_setk (l := [.pointer none, .pointer none]) hr4 0 _) 1 _
    have cs5 : Chg (fun k => k = w.heap.size + 1 + 1) w4 ((w4.setCell ⟨w.heap.size + 1 + 1, 0, none⟩ (.pointer (some ⟨a, 0, none⟩))).setCell ⟨w.heap.size + 1 + 1, 1, none⟩ (.pointer (some ⟨r, 0, none⟩))).drew := (((Chg.refl (fun k => k = w.heap.size + 1 + 1) w4).setCell (p := ⟨w.heap.size + 1 + 1, 0, none⟩) (.inl rfl) _).setCell (p := ⟨w.heap.size + 1 + 1, 1, none⟩) (.inl rfl) _).drew
    refine bodyPost_ret (results_pair rfl _ _ (w.heap.size + 1 + 1) 39 #[.pointer (some ⟨a, 0, none⟩), .pointer (some ⟨r, 0, none⟩)] (0, 0) _ rfl hb5 Tryd.underlying39 infoP) rfl ?_
    exact ⟨a, r, rfl, by omega, by omega, hE4.keep cs5 (by omega), blk_keep HR4.out cs5 (by omega), C4.trans cs5 (fun _ e => .inr (by omega))⟩)
end Go.Proofs.YtnedllhlmddmoabDoor
