/- A distance comes to the front: the program's; of no statement by itself. -/
import Derived.Test.YtoeimahlielklaaDoorVc
import Derived.Test.YtoeimahlielklaaDoorSd
import Derived.Laws.CopyRow
import Derived.Laws.Tables
import Derived.Deep.DeepCutAuto
namespace Go.Proofs.YtoeimahlielklaaDoor
open Go.RowKit
open St12
set_option linter.unusedVariables false
set_option linter.unusedSimpArgs false

theorem frz4 {w : World} {a : Nat} {x0 x1 x2 x3 : Value} {t : TypeId} (h : w.heap[a]? = some (.cells #[x0, x1, x2, x3] t (0, 0))) : w.frozen? ⟨a, 0, none⟩ = false ∧ w.frozen? ⟨a, 1, none⟩ = false ∧ w.frozen? ⟨a, 2, none⟩ = false ∧ w.frozen? ⟨a, 3, none⟩ = false :=
  ⟨by simp [World.frozen?, h], by simp [World.frozen?, h], by simp [World.frozen?, h], by simp [World.frozen?, h]⟩
theorem cellsrc {w : World} {a : Nat} {cs : List Value} {cur : Array Value} {t : TypeId} {fr : Nat × Nat} (h : w.heap[a]? = some (.cells cur t fr)) {j : Nat} {v : Value} (hj : cs[j]? = some v) (hp : (cur.toList.take cs.length) = cs) : w.cell? ((⟨a, 0, none⟩ : Addr).add j) = some v := by
  have e : (⟨a, 0, none⟩ : Addr).add j = ⟨a, j, none⟩ := by
    unfold Addr.add
    simp
    exact fun h => h.symm
  have h1 := (List.getElem?_eq_some_iff.1 hj).1
  rw [e]
  simp only [World.cell?, h]
  rw [← Array.getElem?_toList]
  have h3 : (cur.toList.take cs.length)[j]? = some v := by rw [hp]; exact hj
  rw [List.getElem?_take, if_pos h1] at h3
  exact h3
theorem put4_of {W : World} {g : Nat} {v0 v1 v2 v3 : Value} {t : TypeId} (h : W.heap[g]? = some (.cells #[v0, v1, v2, v3] t (0, 0))) (x0 x1 x2 x3 : Value) : (W.cell? ⟨g, 0, none⟩ = some v0 ∧ W.frozen? ⟨g, 0, none⟩ = false) ∧ ((W.setCell ⟨g, 0, none⟩ x0).cell? ⟨g, 1, none⟩ = some v1 ∧ (W.setCell ⟨g, 0, none⟩ x0).frozen? ⟨g, 1, none⟩ = false) ∧ (((W.setCell ⟨g, 0, none⟩ x0).setCell ⟨g, 1, none⟩ x1).cell? ⟨g, 2, none⟩ = some v2 ∧ ((W.setCell ⟨g, 0, none⟩ x0).setCell ⟨g, 1, none⟩ x1).frozen? ⟨g, 2, none⟩ = false) ∧ ((((W.setCell ⟨g, 0, none⟩ x0).setCell ⟨g, 1, none⟩ x1).setCell ⟨g, 2, none⟩ x2).cell? ⟨g, 3, none⟩ = some v3 ∧ (((W.setCell ⟨g, 0, none⟩ x0).setCell ⟨g, 1, none⟩ x1).setCell ⟨g, 2, none⟩ x2).frozen? ⟨g, 3, none⟩ = false) ∧ ((((W.setCell ⟨g, 0, none⟩ x0).setCell ⟨g, 1, none⟩ x1).setCell ⟨g, 2, none⟩ x2).setCell ⟨g, 3, none⟩ x3).heap[g]? = some (.cells #[x0, x1, x2, x3] t (0, 0)) ∧ Chg (fun q => q = g) W ((((W.setCell ⟨g, 0, none⟩ x0).setCell ⟨g, 1, none⟩ x1).setCell ⟨g, 2, none⟩ x2).setCell ⟨g, 3, none⟩ x3) := by
  have h1 : (W.setCell ⟨g, 0, none⟩ x0).heap[g]? = some (.cells #[x0, v1, v2, v3] t (0, 0)) := set_blk _ h
  have h2 : ((W.setCell ⟨g, 0, none⟩ x0).setCell ⟨g, 1, none⟩ x1).heap[g]? = some (.cells #[x0, x1, v2, v3] t (0, 0)) := set_blk _ h1
  have h3 : (((W.setCell ⟨g, 0, none⟩ x0).setCell ⟨g, 1, none⟩ x1).setCell ⟨g, 2, none⟩ x2).heap[g]? = some (.cells #[x0, x1, x2, v3] t (0, 0)) := set_blk _ h2
  have h4 : ((((W.setCell ⟨g, 0, none⟩ x0).setCell ⟨g, 1, none⟩ x1).setCell ⟨g, 2, none⟩ x2).setCell ⟨g, 3, none⟩ x3).heap[g]? = some (.cells #[x0, x1, x2, x3] t (0, 0)) := set_blk _ h3
  exact ⟨⟨(cells4z h).1, (frz4 h).1⟩, ⟨(cells4z h1).2.1, (frz4 h1).2.1⟩, ⟨(cells4z h2).2.2.1, (frz4 h2).2.2.1⟩, ⟨(cells4z h3).2.2.2, (frz4 h3).2.2.2⟩, h4, ((((Chg.refl (fun q => q = g) W).setCell (p := ⟨g, 0, none⟩) (.inl rfl) _).setCell (p := ⟨g, 1, none⟩) (.inl rfl) _).setCell (p := ⟨g, 2, none⟩) (.inl rfl) _).setCell (p := ⟨g, 3, none⟩) (.inl rfl) _⟩
set_option maxHeartbeats 1000000 in
theorem infront0 (a b c d x : Int) (w0 : World) : Calls Tryd.prog 24 #[.agg #[.int .i64 a, .int .i64 b, .int .i64 c, .int .i64 d], .int .i64 0, .int .i64 x] w0 fun e w' => e = .returned (.agg #[.int .i64 x, .int .i64 b, .int .i64 c, .int .i64 d]) ∧ Chg (fun _ => False) w0 w' := by
  have HS : Hid (((w0.alloc (.cells #[.int .i64 a, .int .i64 b, .int .i64 c, .int .i64 d] 34)).alloc (.cells #[.int .i64 0, .int .i64 0, .int .i64 0, .int .i64 0] 34)).heap[w0.heap.size]? = some (.cells #[.int .i64 a, .int .i64 b, .int .i64 c, .int .i64 d] 34 (0, 0))) := (Below.heap_alloc _ _ _ (by simp)).trans (heap_alloc_last w0 _)
  have HZ : Hid (((w0.alloc (.cells #[.int .i64 a, .int .i64 b, .int .i64 c, .int .i64 d] 34)).alloc (.cells #[.int .i64 0, .int .i64 0, .int .i64 0, .int .i64 0] 34)).heap[w0.heap.size + 1]? = some (.cells #[.int .i64 0, .int .i64 0, .int .i64 0, .int .i64 0] 34 (0, 0))) := by
    have := heap_alloc_last (w0.alloc (.cells #[.int .i64 a, .int .i64 b, .int .i64 c, .int .i64 d] 34)) (.cells #[.int .i64 0, .int .i64 0, .int .i64 0, .int .i64 0] 34)
    rw [World.size_alloc] at this
    exact this
  have HC : Hid (Chg (fun _ => False) w0 ((w0.alloc (.cells #[.int .i64 a, .int .i64 b, .int .i64 c, .int .i64 d] 34)).alloc (.cells #[.int .i64 0, .int .i64 0, .int .i64 0, .int .i64 0] 34))) := chg_then (chg_one _ _) (chg_one _ _)
  go_enter Tryd.func24, Tryd.ntmps24
  go_wp2_with fail
  generalize (w0.alloc (.cells #[.int .i64 a, .int .i64 b, .int .i64 c, .int .i64 d] 34)).alloc (.cells #[.int .i64 0, .int .i64 0, .int .i64 0, .int .i64 0] 34) = W at *
  refine wp_region_last (mk := fun u => #[_, _, _, _, _, _, _, u 7, u 8, u 9, u 10, u 11, _, _, _, _]) (F := fun slot vv ww => (look [(7, .val (.int .i64 0)), (8, .val (.int .i64 1)), (9, .val (.slice (some ⟨w0.heap.size, 1, none⟩) 0 3)), (10, .val (.int .i64 0)), (11, .val (.slice (some ⟨w0.heap.size, 0, none⟩) 0 4))] slot).holds vv ww) (fun _ => undef) rfl (by kernel_rfl) 5 _ rfl rfl (by kernel_rfl) ?_ (fun _ v w w' hc h => Fact.stays _ v w w' hc h) ?_ ?_
  · repeat (refine ⟨⟨_, rfl, fun _ _ => rfl⟩, ?_⟩)
    exact trivial
  · refine ⟨?_, ?_, ?_, ?_, ?_, trivial⟩
    · intro u w hc hd K hK -- 7
      clear hd
      go_simp
      exact hK.out (.int .i64 0) w (Chg.refl _ _) rfl
    · intro u w hc hd K hK -- 8
      have h7 : (Fact.val (.int .i64 0)).holds (u 7) w := hd.get 0 (by kernel_rfl)
      simp only [Fact.holds] at h7
      clear hd
      simp only [h7] at hK
      go_simp
      exact hK.out (.int .i64 1) w (Chg.refl _ _) rfl
    · intro u w hc hd K hK -- 9
      have h8 : (Fact.val (.int .i64 1)).holds (u 8) w := hd.get 1 (by kernel_rfl)
      simp only [Fact.holds] at h8
      clear hd
      simp only [h8] at hK
      go_simp
      exact hK.out (.slice (some ⟨w0.heap.size, 1, none⟩) 0 3) w (Chg.refl _ _) rfl
    · intro u w hc hd K hK -- 10
      clear hd
      go_simp
      exact hK.out (.int .i64 0) w (Chg.refl _ _) rfl
    · intro u w hc hd K hK -- 11
      have h10 : (Fact.val (.int .i64 0)).holds (u 10) w := hd.get 3 (by kernel_rfl)
      simp only [Fact.holds] at h10
      clear hd
      simp only [h10] at hK
      go_simp
      exact hK.out (.slice (some ⟨w0.heap.size, 0, none⟩) 0 4) w (Chg.refl _ _) rfl
  · intro u w2 hc hA K hK
    have e9 : u 9 = .slice (some ⟨w0.heap.size, 1, none⟩) 0 3 := hA.at 9 (by kernel_rfl)
    have e11 : u 11 = .slice (some ⟨w0.heap.size, 0, none⟩) 0 4 := hA.at 11 (by kernel_rfl)
    have hb2 := blk_keep HS.out hc (fun f => f)
    have hz2 := blk_keep HZ.out hc (fun f => f)
    have hC2 := chg_then HC.out hc
    have hlt := lt_of_blk HS.out
    have hcp := run_copy_row Tryd.prog w2 52 52 3 3 w0.heap.size 1 0 3 ⟨w0.heap.size, 0, none⟩ 0 4 #[.int .i64 a, .int .i64 b, .int .i64 c, .int .i64 d] 34 [] Tryd.underlying52 (by kernel_rfl) hb2 rfl (fun j v hj => by simp at hj) (by simp) (by simp [Value.oneCell'])
    have hcp2 : (Builtin.copy_ #[52, 52] 3 #[.slice (some ⟨w0.heap.size, 1, none⟩) 0 3, .slice (some ⟨w0.heap.size, 0, none⟩) 0 4]).run Tryd.prog w2 = .ok (.int .i64 0) (w2.setRow w0.heap.size #[.int .i64 a, .int .i64 b, .int .i64 c, .int .i64 d]) := hcp
    have hb3 : (w2.setRow w0.heap.size #[.int .i64 a, .int .i64 b, .int .i64 c, .int .i64 d]).heap[w0.heap.size]? = some (.cells #[.int .i64 a, .int .i64 b, .int .i64 c, .int .i64 d] 34 (0, 0)) := setRow_heap _ _ _ _ _ _ hb2
    have hz3 : (w2.setRow w0.heap.size #[.int .i64 a, .int .i64 b, .int .i64 c, .int .i64 d]).heap[w0.heap.size + 1]? = some (.cells #[.int .i64 0, .int .i64 0, .int .i64 0, .int .i64 0] 34 (0, 0)) := (setRow_other _ _ _ _ (by omega)).trans hz2
    have hC3 : Chg (fun _ => False) w0 (w2.setRow w0.heap.size #[.int .i64 a, .int .i64 b, .int .i64 c, .int .i64 d]) := hC2.trans (T := fun b => b = w0.heap.size) ⟨rfl, rfl, rfl, by simp, fun b _ hb => setRow_other _ _ _ _ hb⟩ (fun b hb => .inr (by omega))
    have HF : Hid _ := And.intro hb3 (And.intro hz3 hC3)
    clear hb2 hz2 hC2 hcp hb3 hz3 hC3 hA HS HZ HC hc
    go_simp
    refine hK.out _ _ ?_
    clear hK hcp2 e9 e11
    generalize w2.setRow w0.heap.size #[.int .i64 a, .int .i64 b, .int .i64 c, .int .i64 d] = W3 at *
    obtain ⟨hb3, hz3, hC3⟩ := HF.out
    have hb4 : (W3.setCell ⟨w0.heap.size, 0, none⟩ (.int .i64 x)).heap[w0.heap.size]? = some (.cells #[.int .i64 x, .int .i64 b, .int .i64 c, .int .i64 d] 34 (0, 0)) := set_blk _ hb3
    obtain ⟨k0, _⟩ := cells4z hb3
    have f0 := (frz4 hb3).1
    have cT : Chg (fun q => q = w0.heap.size) W3 (W3.setCell ⟨w0.heap.size, 0, none⟩ (.int .i64 x)) := (Chg.refl (fun q => q = w0.heap.size) W3).setCell (p := ⟨w0.heap.size, 0, none⟩) (.inl rfl) _
    have hz4 := blk_keep hz3 cT (by omega)
    have hC4 := hC3.trans cT (fun z e => .inr (by omega))
    have HE : Hid _ := And.intro hb4 (And.intro hz4 hC4)
    clear hb3 hz3 hC3 cT HF hb4 hz4 hC4
    go_upto_region 3 with fail
    generalize W3.setCell ⟨w0.heap.size, 0, none⟩ (.int .i64 x) = W4 at *
    clear k0 f0
    obtain ⟨hb4, hz4, hC4⟩ := HE.out
    obtain ⟨q0, q1, q2, q3⟩ := cells4z hb4
    obtain ⟨⟨p0, g0⟩, ⟨p1, g1⟩, ⟨p2, g2⟩, ⟨p3, g3⟩, hblk, hchg⟩ := put4_of hz4 (.int .i64 x) (.int .i64 b) (.int .i64 c) (.int .i64 d)
    have HX : Hid _ := cells4z hblk
    have HCX : Hid (Chg (fun _ => False) w0 _) := hC4.trans hchg (fun z e => .inr (by omega))
    clear hb4 hz4 hC4 hblk hchg HE
    go_wp2
    obtain ⟨r0, r1, r2, r3⟩ := HX.out
    refine bodyPost_ret (v := .agg #[.int .i64 x, .int .i64 b, .int .i64 c, .int .i64 d]) (by simp [results, Tryd.results24, go_sem, r0, r1, r2, r3]) rfl ?_
    exact ⟨rfl, HCX.out⟩
set_option maxHeartbeats 1000000 in
theorem infront1 (a b c d x : Int) (w0 : World) : Calls Tryd.prog 24 #[.agg #[.int .i64 a, .int .i64 b, .int .i64 c, .int .i64 d], .int .i64 1, .int .i64 x] w0 fun e w' => e = .returned (.agg #[.int .i64 x, .int .i64 a, .int .i64 c, .int .i64 d]) ∧ Chg (fun _ => False) w0 w' := by
  have HS : Hid (((w0.alloc (.cells #[.int .i64 a, .int .i64 b, .int .i64 c, .int .i64 d] 34)).alloc (.cells #[.int .i64 0, .int .i64 0, .int .i64 0, .int .i64 0] 34)).heap[w0.heap.size]? = some (.cells #[.int .i64 a, .int .i64 b, .int .i64 c, .int .i64 d] 34 (0, 0))) := (Below.heap_alloc _ _ _ (by simp)).trans (heap_alloc_last w0 _)
  have HZ : Hid (((w0.alloc (.cells #[.int .i64 a, .int .i64 b, .int .i64 c, .int .i64 d] 34)).alloc (.cells #[.int .i64 0, .int .i64 0, .int .i64 0, .int .i64 0] 34)).heap[w0.heap.size + 1]? = some (.cells #[.int .i64 0, .int .i64 0, .int .i64 0, .int .i64 0] 34 (0, 0))) := by
    have := heap_alloc_last (w0.alloc (.cells #[.int .i64 a, .int .i64 b, .int .i64 c, .int .i64 d] 34)) (.cells #[.int .i64 0, .int .i64 0, .int .i64 0, .int .i64 0] 34)
    rw [World.size_alloc] at this
    exact this
  have HC : Hid (Chg (fun _ => False) w0 ((w0.alloc (.cells #[.int .i64 a, .int .i64 b, .int .i64 c, .int .i64 d] 34)).alloc (.cells #[.int .i64 0, .int .i64 0, .int .i64 0, .int .i64 0] 34))) := chg_then (chg_one _ _) (chg_one _ _)
  go_enter Tryd.func24, Tryd.ntmps24
  go_wp2_with fail
  generalize (w0.alloc (.cells #[.int .i64 a, .int .i64 b, .int .i64 c, .int .i64 d] 34)).alloc (.cells #[.int .i64 0, .int .i64 0, .int .i64 0, .int .i64 0] 34) = W at *
  refine wp_region_last (mk := fun u => #[_, _, _, _, _, _, _, u 7, u 8, u 9, u 10, u 11, _, _, _, _]) (F := fun slot vv ww => (look [(7, .val (.int .i64 1)), (8, .val (.int .i64 2)), (9, .val (.slice (some ⟨w0.heap.size, 1, none⟩) 1 3)), (10, .val (.int .i64 1)), (11, .val (.slice (some ⟨w0.heap.size, 0, none⟩) 1 4))] slot).holds vv ww) (fun _ => undef) rfl (by kernel_rfl) 5 _ rfl rfl (by kernel_rfl) ?_ (fun _ v w w' hc h => Fact.stays _ v w w' hc h) ?_ ?_
  · repeat (refine ⟨⟨_, rfl, fun _ _ => rfl⟩, ?_⟩)
    exact trivial
  · refine ⟨?_, ?_, ?_, ?_, ?_, trivial⟩
    · intro u w hc hd K hK -- 7
      clear hd
      go_simp
      exact hK.out (.int .i64 1) w (Chg.refl _ _) rfl
    · intro u w hc hd K hK -- 8
      have h7 : (Fact.val (.int .i64 1)).holds (u 7) w := hd.get 0 (by kernel_rfl)
      simp only [Fact.holds] at h7
      clear hd
      simp only [h7] at hK
      go_simp
      exact hK.out (.int .i64 2) w (Chg.refl _ _) rfl
    · intro u w hc hd K hK -- 9
      have h8 : (Fact.val (.int .i64 2)).holds (u 8) w := hd.get 1 (by kernel_rfl)
      simp only [Fact.holds] at h8
      clear hd
      simp only [h8] at hK
      go_simp
      exact hK.out (.slice (some ⟨w0.heap.size, 1, none⟩) 1 3) w (Chg.refl _ _) rfl
    · intro u w hc hd K hK -- 10
      clear hd
      go_simp
      exact hK.out (.int .i64 1) w (Chg.refl _ _) rfl
    · intro u w hc hd K hK -- 11
      have h10 : (Fact.val (.int .i64 1)).holds (u 10) w := hd.get 3 (by kernel_rfl)
      simp only [Fact.holds] at h10
      clear hd
      simp only [h10] at hK
      go_simp
      exact hK.out (.slice (some ⟨w0.heap.size, 0, none⟩) 1 4) w (Chg.refl _ _) rfl
  · intro u w2 hc hA K hK
    have e9 : u 9 = .slice (some ⟨w0.heap.size, 1, none⟩) 1 3 := hA.at 9 (by kernel_rfl)
    have e11 : u 11 = .slice (some ⟨w0.heap.size, 0, none⟩) 1 4 := hA.at 11 (by kernel_rfl)
    have hb2 := blk_keep HS.out hc (fun f => f)
    have hz2 := blk_keep HZ.out hc (fun f => f)
    have hC2 := chg_then HC.out hc
    have hlt := lt_of_blk HS.out
    have hcp := run_copy_row Tryd.prog w2 52 52 3 3 w0.heap.size 1 1 3 ⟨w0.heap.size, 0, none⟩ 1 4 #[.int .i64 a, .int .i64 b, .int .i64 c, .int .i64 d] 34 [.int .i64 a] Tryd.underlying52 (by kernel_rfl) hb2 rfl (fun j v hj => cellsrc hb2 hj rfl) (by simp) (by simp [Value.oneCell'])
    have hcp2 : (Builtin.copy_ #[52, 52] 3 #[.slice (some ⟨w0.heap.size, 1, none⟩) 1 3, .slice (some ⟨w0.heap.size, 0, none⟩) 1 4]).run Tryd.prog w2 = .ok (.int .i64 1) (w2.setRow w0.heap.size #[.int .i64 a, .int .i64 a, .int .i64 c, .int .i64 d]) := hcp
    have hb3 : (w2.setRow w0.heap.size #[.int .i64 a, .int .i64 a, .int .i64 c, .int .i64 d]).heap[w0.heap.size]? = some (.cells #[.int .i64 a, .int .i64 a, .int .i64 c, .int .i64 d] 34 (0, 0)) := setRow_heap _ _ _ _ _ _ hb2
    have hz3 : (w2.setRow w0.heap.size #[.int .i64 a, .int .i64 a, .int .i64 c, .int .i64 d]).heap[w0.heap.size + 1]? = some (.cells #[.int .i64 0, .int .i64 0, .int .i64 0, .int .i64 0] 34 (0, 0)) := (setRow_other _ _ _ _ (by omega)).trans hz2
    have hC3 : Chg (fun _ => False) w0 (w2.setRow w0.heap.size #[.int .i64 a, .int .i64 a, .int .i64 c, .int .i64 d]) := hC2.trans (T := fun b => b = w0.heap.size) ⟨rfl, rfl, rfl, by simp, fun b _ hb => setRow_other _ _ _ _ hb⟩ (fun b hb => .inr (by omega))
    have HF : Hid _ := And.intro hb3 (And.intro hz3 hC3)
    clear hb2 hz2 hC2 hcp hb3 hz3 hC3 hA HS HZ HC hc
    go_simp
    refine hK.out _ _ ?_
    clear hK hcp2 e9 e11
    generalize w2.setRow w0.heap.size #[.int .i64 a, .int .i64 a, .int .i64 c, .int .i64 d] = W3 at *
    obtain ⟨hb3, hz3, hC3⟩ := HF.out
    have hb4 : (W3.setCell ⟨w0.heap.size, 0, none⟩ (.int .i64 x)).heap[w0.heap.size]? = some (.cells #[.int .i64 x, .int .i64 a, .int .i64 c, .int .i64 d] 34 (0, 0)) := set_blk _ hb3
    obtain ⟨k0, _⟩ := cells4z hb3
    have f0 := (frz4 hb3).1
    have cT : Chg (fun q => q = w0.heap.size) W3 (W3.setCell ⟨w0.heap.size, 0, none⟩ (.int .i64 x)) := (Chg.refl (fun q => q = w0.heap.size) W3).setCell (p := ⟨w0.heap.size, 0, none⟩) (.inl rfl) _
    have hz4 := blk_keep hz3 cT (by omega)
    have hC4 := hC3.trans cT (fun z e => .inr (by omega))
    have HE : Hid _ := And.intro hb4 (And.intro hz4 hC4)
    clear hb3 hz3 hC3 cT HF hb4 hz4 hC4
    go_upto_region 3 with fail
    generalize W3.setCell ⟨w0.heap.size, 0, none⟩ (.int .i64 x) = W4 at *
    clear k0 f0
    obtain ⟨hb4, hz4, hC4⟩ := HE.out
    obtain ⟨q0, q1, q2, q3⟩ := cells4z hb4
    obtain ⟨⟨p0, g0⟩, ⟨p1, g1⟩, ⟨p2, g2⟩, ⟨p3, g3⟩, hblk, hchg⟩ := put4_of hz4 (.int .i64 x) (.int .i64 a) (.int .i64 c) (.int .i64 d)
    have HX : Hid _ := cells4z hblk
    have HCX : Hid (Chg (fun _ => False) w0 _) := hC4.trans hchg (fun z e => .inr (by omega))
    clear hb4 hz4 hC4 hblk hchg HE
    go_wp2
    obtain ⟨r0, r1, r2, r3⟩ := HX.out
    refine bodyPost_ret (v := .agg #[.int .i64 x, .int .i64 a, .int .i64 c, .int .i64 d]) (by simp [results, Tryd.results24, go_sem, r0, r1, r2, r3]) rfl ?_
    exact ⟨rfl, HCX.out⟩
set_option maxHeartbeats 1000000 in
theorem infront2 (a b c d x : Int) (w0 : World) : Calls Tryd.prog 24 #[.agg #[.int .i64 a, .int .i64 b, .int .i64 c, .int .i64 d], .int .i64 2, .int .i64 x] w0 fun e w' => e = .returned (.agg #[.int .i64 x, .int .i64 a, .int .i64 b, .int .i64 d]) ∧ Chg (fun _ => False) w0 w' := by
  have HS : Hid (((w0.alloc (.cells #[.int .i64 a, .int .i64 b, .int .i64 c, .int .i64 d] 34)).alloc (.cells #[.int .i64 0, .int .i64 0, .int .i64 0, .int .i64 0] 34)).heap[w0.heap.size]? = some (.cells #[.int .i64 a, .int .i64 b, .int .i64 c, .int .i64 d] 34 (0, 0))) := (Below.heap_alloc _ _ _ (by simp)).trans (heap_alloc_last w0 _)
  have HZ : Hid (((w0.alloc (.cells #[.int .i64 a, .int .i64 b, .int .i64 c, .int .i64 d] 34)).alloc (.cells #[.int .i64 0, .int .i64 0, .int .i64 0, .int .i64 0] 34)).heap[w0.heap.size + 1]? = some (.cells #[.int .i64 0, .int .i64 0, .int .i64 0, .int .i64 0] 34 (0, 0))) := by
    have := heap_alloc_last (w0.alloc (.cells #[.int .i64 a, .int .i64 b, .int .i64 c, .int .i64 d] 34)) (.cells #[.int .i64 0, .int .i64 0, .int .i64 0, .int .i64 0] 34)
    rw [World.size_alloc] at this
    exact this
  have HC : Hid (Chg (fun _ => False) w0 ((w0.alloc (.cells #[.int .i64 a, .int .i64 b, .int .i64 c, .int .i64 d] 34)).alloc (.cells #[.int .i64 0, .int .i64 0, .int .i64 0, .int .i64 0] 34))) := chg_then (chg_one _ _) (chg_one _ _)
  go_enter Tryd.func24, Tryd.ntmps24
  go_wp2_with fail
  generalize (w0.alloc (.cells #[.int .i64 a, .int .i64 b, .int .i64 c, .int .i64 d] 34)).alloc (.cells #[.int .i64 0, .int .i64 0, .int .i64 0, .int .i64 0] 34) = W at *
  refine wp_region_last (mk := fun u => #[_, _, _, _, _, _, _, u 7, u 8, u 9, u 10, u 11, _, _, _, _]) (F := fun slot vv ww => (look [(7, .val (.int .i64 2)), (8, .val (.int .i64 3)), (9, .val (.slice (some ⟨w0.heap.size, 1, none⟩) 2 3)), (10, .val (.int .i64 2)), (11, .val (.slice (some ⟨w0.heap.size, 0, none⟩) 2 4))] slot).holds vv ww) (fun _ => undef) rfl (by kernel_rfl) 5 _ rfl rfl (by kernel_rfl) ?_ (fun _ v w w' hc h => Fact.stays _ v w w' hc h) ?_ ?_
  · repeat (refine ⟨⟨_, rfl, fun _ _ => rfl⟩, ?_⟩)
    exact trivial
  · refine ⟨?_, ?_, ?_, ?_, ?_, trivial⟩
    · intro u w hc hd K hK -- 7
      clear hd
      go_simp
      exact hK.out (.int .i64 2) w (Chg.refl _ _) rfl
    · intro u w hc hd K hK -- 8
      have h7 : (Fact.val (.int .i64 2)).holds (u 7) w := hd.get 0 (by kernel_rfl)
      simp only [Fact.holds] at h7
      clear hd
      simp only [h7] at hK
      go_simp
      exact hK.out (.int .i64 3) w (Chg.refl _ _) rfl
    · intro u w hc hd K hK -- 9
      have h8 : (Fact.val (.int .i64 3)).holds (u 8) w := hd.get 1 (by kernel_rfl)
      simp only [Fact.holds] at h8
      clear hd
      simp only [h8] at hK
      go_simp
      exact hK.out (.slice (some ⟨w0.heap.size, 1, none⟩) 2 3) w (Chg.refl _ _) rfl
    · intro u w hc hd K hK -- 10
      clear hd
      go_simp
      exact hK.out (.int .i64 2) w (Chg.refl _ _) rfl
    · intro u w hc hd K hK -- 11
      have h10 : (Fact.val (.int .i64 2)).holds (u 10) w := hd.get 3 (by kernel_rfl)
      simp only [Fact.holds] at h10
      clear hd
      simp only [h10] at hK
      go_simp
      exact hK.out (.slice (some ⟨w0.heap.size, 0, none⟩) 2 4) w (Chg.refl _ _) rfl
  · intro u w2 hc hA K hK
    have e9 : u 9 = .slice (some ⟨w0.heap.size, 1, none⟩) 2 3 := hA.at 9 (by kernel_rfl)
    have e11 : u 11 = .slice (some ⟨w0.heap.size, 0, none⟩) 2 4 := hA.at 11 (by kernel_rfl)
    have hb2 := blk_keep HS.out hc (fun f => f)
    have hz2 := blk_keep HZ.out hc (fun f => f)
    have hC2 := chg_then HC.out hc
    have hlt := lt_of_blk HS.out
    have hcp := run_copy_row Tryd.prog w2 52 52 3 3 w0.heap.size 1 2 3 ⟨w0.heap.size, 0, none⟩ 2 4 #[.int .i64 a, .int .i64 b, .int .i64 c, .int .i64 d] 34 [.int .i64 a, .int .i64 b] Tryd.underlying52 (by kernel_rfl) hb2 rfl (fun j v hj => cellsrc hb2 hj rfl) (by simp) (by simp [Value.oneCell'])
    have hcp2 : (Builtin.copy_ #[52, 52] 3 #[.slice (some ⟨w0.heap.size, 1, none⟩) 2 3, .slice (some ⟨w0.heap.size, 0, none⟩) 2 4]).run Tryd.prog w2 = .ok (.int .i64 2) (w2.setRow w0.heap.size #[.int .i64 a, .int .i64 a, .int .i64 b, .int .i64 d]) := hcp
    have hb3 : (w2.setRow w0.heap.size #[.int .i64 a, .int .i64 a, .int .i64 b, .int .i64 d]).heap[w0.heap.size]? = some (.cells #[.int .i64 a, .int .i64 a, .int .i64 b, .int .i64 d] 34 (0, 0)) := setRow_heap _ _ _ _ _ _ hb2
    have hz3 : (w2.setRow w0.heap.size #[.int .i64 a, .int .i64 a, .int .i64 b, .int .i64 d]).heap[w0.heap.size + 1]? = some (.cells #[.int .i64 0, .int .i64 0, .int .i64 0, .int .i64 0] 34 (0, 0)) := (setRow_other _ _ _ _ (by omega)).trans hz2
    have hC3 : Chg (fun _ => False) w0 (w2.setRow w0.heap.size #[.int .i64 a, .int .i64 a, .int .i64 b, .int .i64 d]) := hC2.trans (T := fun b => b = w0.heap.size) ⟨rfl, rfl, rfl, by simp, fun b _ hb => setRow_other _ _ _ _ hb⟩ (fun b hb => .inr (by omega))
    have HF : Hid _ := And.intro hb3 (And.intro hz3 hC3)
    clear hb2 hz2 hC2 hcp hb3 hz3 hC3 hA HS HZ HC hc
    go_simp
    refine hK.out _ _ ?_
    clear hK hcp2 e9 e11
    generalize w2.setRow w0.heap.size #[.int .i64 a, .int .i64 a, .int .i64 b, .int .i64 d] = W3 at *
    obtain ⟨hb3, hz3, hC3⟩ := HF.out
    have hb4 : (W3.setCell ⟨w0.heap.size, 0, none⟩ (.int .i64 x)).heap[w0.heap.size]? = some (.cells #[.int .i64 x, .int .i64 a, .int .i64 b, .int .i64 d] 34 (0, 0)) := set_blk _ hb3
    obtain ⟨k0, _⟩ := cells4z hb3
    have f0 := (frz4 hb3).1
    have cT : Chg (fun q => q = w0.heap.size) W3 (W3.setCell ⟨w0.heap.size, 0, none⟩ (.int .i64 x)) := (Chg.refl (fun q => q = w0.heap.size) W3).setCell (p := ⟨w0.heap.size, 0, none⟩) (.inl rfl) _
    have hz4 := blk_keep hz3 cT (by omega)
    have hC4 := hC3.trans cT (fun z e => .inr (by omega))
    have HE : Hid _ := And.intro hb4 (And.intro hz4 hC4)
    clear hb3 hz3 hC3 cT HF hb4 hz4 hC4
    go_upto_region 3 with fail
    generalize W3.setCell ⟨w0.heap.size, 0, none⟩ (.int .i64 x) = W4 at *
    clear k0 f0
    obtain ⟨hb4, hz4, hC4⟩ := HE.out
    obtain ⟨q0, q1, q2, q3⟩ := cells4z hb4
    obtain ⟨⟨p0, g0⟩, ⟨p1, g1⟩, ⟨p2, g2⟩, ⟨p3, g3⟩, hblk, hchg⟩ := put4_of hz4 (.int .i64 x) (.int .i64 a) (.int .i64 b) (.int .i64 d)
    have HX : Hid _ := cells4z hblk
    have HCX : Hid (Chg (fun _ => False) w0 _) := hC4.trans hchg (fun z e => .inr (by omega))
    clear hb4 hz4 hC4 hblk hchg HE
    go_wp2
    obtain ⟨r0, r1, r2, r3⟩ := HX.out
    refine bodyPost_ret (v := .agg #[.int .i64 x, .int .i64 a, .int .i64 b, .int .i64 d]) (by simp [results, Tryd.results24, go_sem, r0, r1, r2, r3]) rfl ?_
    exact ⟨rfl, HCX.out⟩
set_option maxHeartbeats 1000000 in
theorem infront3 (a b c d x : Int) (w0 : World) : Calls Tryd.prog 24 #[.agg #[.int .i64 a, .int .i64 b, .int .i64 c, .int .i64 d], .int .i64 3, .int .i64 x] w0 fun e w' => e = .returned (.agg #[.int .i64 x, .int .i64 a, .int .i64 b, .int .i64 c]) ∧ Chg (fun _ => False) w0 w' := by
  have HS : Hid (((w0.alloc (.cells #[.int .i64 a, .int .i64 b, .int .i64 c, .int .i64 d] 34)).alloc (.cells #[.int .i64 0, .int .i64 0, .int .i64 0, .int .i64 0] 34)).heap[w0.heap.size]? = some (.cells #[.int .i64 a, .int .i64 b, .int .i64 c, .int .i64 d] 34 (0, 0))) := (Below.heap_alloc _ _ _ (by simp)).trans (heap_alloc_last w0 _)
  have HZ : Hid (((w0.alloc (.cells #[.int .i64 a, .int .i64 b, .int .i64 c, .int .i64 d] 34)).alloc (.cells #[.int .i64 0, .int .i64 0, .int .i64 0, .int .i64 0] 34)).heap[w0.heap.size + 1]? = some (.cells #[.int .i64 0, .int .i64 0, .int .i64 0, .int .i64 0] 34 (0, 0))) := by
    have := heap_alloc_last (w0.alloc (.cells #[.int .i64 a, .int .i64 b, .int .i64 c, .int .i64 d] 34)) (.cells #[.int .i64 0, .int .i64 0, .int .i64 0, .int .i64 0] 34)
    rw [World.size_alloc] at this
    exact this
  have HC : Hid (Chg (fun _ => False) w0 ((w0.alloc (.cells #[.int .i64 a, .int .i64 b, .int .i64 c, .int .i64 d] 34)).alloc (.cells #[.int .i64 0, .int .i64 0, .int .i64 0, .int .i64 0] 34))) := chg_then (chg_one _ _) (chg_one _ _)
  go_enter Tryd.func24, Tryd.ntmps24
  go_wp2_with fail
  generalize (w0.alloc (.cells #[.int .i64 a, .int .i64 b, .int .i64 c, .int .i64 d] 34)).alloc (.cells #[.int .i64 0, .int .i64 0, .int .i64 0, .int .i64 0] 34) = W at *
  refine wp_region_last (mk := fun u => #[_, _, _, _, _, _, _, u 7, u 8, u 9, u 10, u 11, _, _, _, _]) (F := fun slot vv ww => (look [(7, .val (.int .i64 3)), (8, .val (.int .i64 4)), (9, .val (.slice (some ⟨w0.heap.size, 1, none⟩) 3 3)), (10, .val (.int .i64 3)), (11, .val (.slice (some ⟨w0.heap.size, 0, none⟩) 3 4))] slot).holds vv ww) (fun _ => undef) rfl (by kernel_rfl) 5 _ rfl rfl (by kernel_rfl) ?_ (fun _ v w w' hc h => Fact.stays _ v w w' hc h) ?_ ?_
  · repeat (refine ⟨⟨_, rfl, fun _ _ => rfl⟩, ?_⟩)
    exact trivial
  · refine ⟨?_, ?_, ?_, ?_, ?_, trivial⟩
    · intro u w hc hd K hK -- 7
      clear hd
      go_simp
      exact hK.out (.int .i64 3) w (Chg.refl _ _) rfl
    · intro u w hc hd K hK -- 8
      have h7 : (Fact.val (.int .i64 3)).holds (u 7) w := hd.get 0 (by kernel_rfl)
      simp only [Fact.holds] at h7
      clear hd
      simp only [h7] at hK
      go_simp
      exact hK.out (.int .i64 4) w (Chg.refl _ _) rfl
    · intro u w hc hd K hK -- 9
      have h8 : (Fact.val (.int .i64 4)).holds (u 8) w := hd.get 1 (by kernel_rfl)
      simp only [Fact.holds] at h8
      clear hd
      simp only [h8] at hK
      go_simp
      exact hK.out (.slice (some ⟨w0.heap.size, 1, none⟩) 3 3) w (Chg.refl _ _) rfl
    · intro u w hc hd K hK -- 10
      clear hd
      go_simp
      exact hK.out (.int .i64 3) w (Chg.refl _ _) rfl
    · intro u w hc hd K hK -- 11
      have h10 : (Fact.val (.int .i64 3)).holds (u 10) w := hd.get 3 (by kernel_rfl)
      simp only [Fact.holds] at h10
      clear hd
      simp only [h10] at hK
      go_simp
      exact hK.out (.slice (some ⟨w0.heap.size, 0, none⟩) 3 4) w (Chg.refl _ _) rfl
  · intro u w2 hc hA K hK
    have e9 : u 9 = .slice (some ⟨w0.heap.size, 1, none⟩) 3 3 := hA.at 9 (by kernel_rfl)
    have e11 : u 11 = .slice (some ⟨w0.heap.size, 0, none⟩) 3 4 := hA.at 11 (by kernel_rfl)
    have hb2 := blk_keep HS.out hc (fun f => f)
    have hz2 := blk_keep HZ.out hc (fun f => f)
    have hC2 := chg_then HC.out hc
    have hlt := lt_of_blk HS.out
    have hcp := run_copy_row Tryd.prog w2 52 52 3 3 w0.heap.size 1 3 3 ⟨w0.heap.size, 0, none⟩ 3 4 #[.int .i64 a, .int .i64 b, .int .i64 c, .int .i64 d] 34 [.int .i64 a, .int .i64 b, .int .i64 c] Tryd.underlying52 (by kernel_rfl) hb2 rfl (fun j v hj => cellsrc hb2 hj rfl) (by simp) (by simp [Value.oneCell'])
    have hcp2 : (Builtin.copy_ #[52, 52] 3 #[.slice (some ⟨w0.heap.size, 1, none⟩) 3 3, .slice (some ⟨w0.heap.size, 0, none⟩) 3 4]).run Tryd.prog w2 = .ok (.int .i64 3) (w2.setRow w0.heap.size #[.int .i64 a, .int .i64 a, .int .i64 b, .int .i64 c]) := hcp
    have hb3 : (w2.setRow w0.heap.size #[.int .i64 a, .int .i64 a, .int .i64 b, .int .i64 c]).heap[w0.heap.size]? = some (.cells #[.int .i64 a, .int .i64 a, .int .i64 b, .int .i64 c] 34 (0, 0)) := setRow_heap _ _ _ _ _ _ hb2
    have hz3 : (w2.setRow w0.heap.size #[.int .i64 a, .int .i64 a, .int .i64 b, .int .i64 c]).heap[w0.heap.size + 1]? = some (.cells #[.int .i64 0, .int .i64 0, .int .i64 0, .int .i64 0] 34 (0, 0)) := (setRow_other _ _ _ _ (by omega)).trans hz2
    have hC3 : Chg (fun _ => False) w0 (w2.setRow w0.heap.size #[.int .i64 a, .int .i64 a, .int .i64 b, .int .i64 c]) := hC2.trans (T := fun b => b = w0.heap.size) ⟨rfl, rfl, rfl, by simp, fun b _ hb => setRow_other _ _ _ _ hb⟩ (fun b hb => .inr (by omega))
    have HF : Hid _ := And.intro hb3 (And.intro hz3 hC3)
    clear hb2 hz2 hC2 hcp hb3 hz3 hC3 hA HS HZ HC hc
    go_simp
    refine hK.out _ _ ?_
    clear hK hcp2 e9 e11
    generalize w2.setRow w0.heap.size #[.int .i64 a, .int .i64 a, .int .i64 b, .int .i64 c] = W3 at *
    obtain ⟨hb3, hz3, hC3⟩ := HF.out
    have hb4 : (W3.setCell ⟨w0.heap.size, 0, none⟩ (.int .i64 x)).heap[w0.heap.size]? = some (.cells #[.int .i64 x, .int .i64 a, .int .i64 b, .int .i64 c] 34 (0, 0)) := set_blk _ hb3
    obtain ⟨k0, _⟩ := cells4z hb3
    have f0 := (frz4 hb3).1
    have cT : Chg (fun q => q = w0.heap.size) W3 (W3.setCell ⟨w0.heap.size, 0, none⟩ (.int .i64 x)) := (Chg.refl (fun q => q = w0.heap.size) W3).setCell (p := ⟨w0.heap.size, 0, none⟩) (.inl rfl) _
    have hz4 := blk_keep hz3 cT (by omega)
    have hC4 := hC3.trans cT (fun z e => .inr (by omega))
    have HE : Hid _ := And.intro hb4 (And.intro hz4 hC4)
    clear hb3 hz3 hC3 cT HF hb4 hz4 hC4
    go_upto_region 3 with fail
    generalize W3.setCell ⟨w0.heap.size, 0, none⟩ (.int .i64 x) = W4 at *
    clear k0 f0
    obtain ⟨hb4, hz4, hC4⟩ := HE.out
    obtain ⟨q0, q1, q2, q3⟩ := cells4z hb4
    obtain ⟨⟨p0, g0⟩, ⟨p1, g1⟩, ⟨p2, g2⟩, ⟨p3, g3⟩, hblk, hchg⟩ := put4_of hz4 (.int .i64 x) (.int .i64 a) (.int .i64 b) (.int .i64 c)
    have HX : Hid _ := cells4z hblk
    have HCX : Hid (Chg (fun _ => False) w0 _) := hC4.trans hchg (fun z e => .inr (by omega))
    clear hb4 hz4 hC4 hblk hchg HE
    go_wp2
    obtain ⟨r0, r1, r2, r3⟩ := HX.out
    refine bodyPost_ret (v := .agg #[.int .i64 x, .int .i64 a, .int .i64 b, .int .i64 c]) (by simp [results, Tryd.results24, go_sem, r0, r1, r2, r3]) rfl ?_
    exact ⟨rfl, HCX.out⟩
end Go.Proofs.YtoeimahlielklaaDoor
