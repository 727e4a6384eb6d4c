/- The contracts of the program's decoder's Bit, which catches what its steps give up with; of no statement by themselves. -/
import Derived.Test.YtibgjpifmpljkaaBoundE
import Derived.Deep.DeepCutAuto
namespace Go.Proofs.Ytibgjpifmpljkaa
open Go.RowKit
set_option linter.unusedVariables false

theorem size1 (w : World) (o : Obj) : (w.alloc o).heap.size = w.heap.size + 1 := by simp
/-- Three variables are made. -/
theorem three (w : World) (c1 c2 c3 : Array Value) (t1 t2 t3 : TypeId) : (((w.alloc (.cells c1 t1)).alloc (.cells c2 t2)).alloc (.cells c3 t3)).heap[w.heap.size]? = some (.cells c1 t1 (0, 0)) ∧ (((w.alloc (.cells c1 t1)).alloc (.cells c2 t2)).alloc (.cells c3 t3)).heap[w.heap.size + 1]? = some (.cells c2 t2 (0, 0)) ∧ (((w.alloc (.cells c1 t1)).alloc (.cells c2 t2)).alloc (.cells c3 t3)).heap[w.heap.size + 1 + 1]? = some (.cells c3 t3 (0, 0)) ∧ (((w.alloc (.cells c1 t1)).alloc (.cells c2 t2)).alloc (.cells c3 t3)).heap.size = w.heap.size + 3 ∧ Chg (fun _ => False) w (((w.alloc (.cells c1 t1)).alloc (.cells c2 t2)).alloc (.cells c3 t3)) := by
  have h1 := heap_alloc_last w (.cells c1 t1)
  have h2 := heap_alloc_last (w.alloc (.cells c1 t1)) (.cells c2 t2)
  have h3 := heap_alloc_last ((w.alloc (.cells c1 t1)).alloc (.cells c2 t2)) (.cells c3 t3)
  rw [size1] at h2
  rw [size1, size1] at h3
  have k1 := chg_one (w.alloc (.cells c1 t1)) (.cells c2 t2)
  have k2 := chg_one ((w.alloc (.cells c1 t1)).alloc (.cells c2 t2)) (.cells c3 t3)
  exact ⟨blk_keep (blk_keep h1 k1 (fun f => f)) k2 (fun f => f), blk_keep h2 k2 (fun f => f), h3, by rw [size1, size1, size1], chg_then (chg_then (chg_one w _) k1) k2⟩
theorem aside_made {w w1 : World} {kd : TypeId} {r0 : Value} {a : Nat} {y0 y1 y2 y3 : Value} {e0 : Int} (ha : a < w.heap.size) (h3 : w1.heap[w.heap.size]? = some (.cells #[.pointer (some ⟨a, 0, none⟩)] 51 (0, 0))) (h6 : w1.heap[w.heap.size + 1]? = some (.cells #[r0] kd (0, 0))) (h7 : w1.heap[w.heap.size + 1 + 1]? = some (.cells #[.int .i64 e0] 24 (0, 0))) (hs : w1.heap.size = w.heap.size + 3) : Aside (w1.alloc (.cells #[y0, y1, y2, y3] 91)) kd r0 a w1.heap.size w.heap.size (w.heap.size + 1) (w.heap.size + 1 + 1) y0 y1 y2 y3 e0 := by
  have c := chg_one w1 (.cells #[y0, y1, y2, y3] 91)
  exact ⟨heap_alloc_last w1 _, blk_keep h3 c (fun f => f), blk_keep h6 c (fun f => f), blk_keep h7 c (fun f => f), ⟨by omega, by omega, by omega⟩, ⟨by omega, by omega, by omega⟩, ⟨by omega, by omega⟩, by omega⟩
theorem Aside.own {w : World} {kd : TypeId} {r0 : Value} {a p9 p3 p6 p7 : Nat} {y0 y1 y2 y3 : Value} {e0 : Int} (h : Aside w kd r0 a p9 p3 p6 p7 y0 y1 y2 y3 e0) {B : Nat} {t : TypeId} {v : Value} {n : Nat} {xs : List Value} (ho : w.ownsRow B t 1 v n xs) (h1 : t ≠ 91) (h2 : t ≠ 51) (h3 : t ≠ kd) (h4 : t ≠ 24) : v.ownBlock ≠ some p9 ∧ v.ownBlock ≠ some p3 ∧ v.ownBlock ≠ some p6 ∧ v.ownBlock ≠ some p7 := by
  refine ⟨fun e => ?_, fun e => ?_, fun e => ?_, fun e => ?_⟩
  · obtain ⟨c, hc⟩ := owns_blk ho e; exact ty_ne hc h.was h1
  · obtain ⟨c, hc⟩ := owns_blk ho e; exact ty_ne hc h.at_ h2
  · obtain ⟨c, hc⟩ := owns_blk ho e; exact ty_ne hc h.val h3
  · obtain ⟨c, hc⟩ := owns_blk ho e; exact ty_ne hc h.err h4

set_option maxHeartbeats 4000000 in
set_option maxRecDepth 100000 in
theorem dbit_in (B B' a s : Nat) (v u' : Value) (bs : List Nat) (d : Rc.D) (xs : List Int) (j : Nat) (w0 : World) (h : Dcd w0 B a v bs d) (hO : OkD bs d) (hdig : Rc.Dig bs) (hl : bs.length ≤ 140737488355328) (hS : St w0 B' s u' xs) (hI : In31 xs) (hj : j < xs.length) (p : Int) (hpx : xs[j] = p) : Calls Try.prog 54 #[.pointer (some ⟨a, 0, none⟩), .pointer (some ⟨s, 0, none⟩), .int .i64 (j : Int)] w0 fun x w' =>
    (Rc.cutD bs d (d.R / 2048 * p.toNat) = none ∧ x = .returned (.tuple #[.int .i64 0, .int .i64 1]) ∧ Dcd w' B a v bs d ∧ St w' B' s u' xs ∧ Chg (Fd a u') w0 w')
    ∨ (∃ d', Rc.cutD bs d (d.R / 2048 * p.toNat) = some d' ∧ x = .returned (.tuple #[.int .i64 (bt (Rc.oneD d (d.R / 2048 * p.toNat))), .int .i64 0]) ∧ Dcd w' B a v bs d' ∧ St w' B' s u' (xs.set j (Prob.nx p (bt (Rc.oneD d (d.R / 2048 * p.toNat))))) ∧ Chg (Fd a u') w0 w') := by
  have hmf : ∀ (fn : Fn) (first cap : Array Value) (w : World), (Instr.makeFunc fn first cap).run Try.prog w = .ok (.func fn first cap) w := fun _ _ _ _ => rfl
  have hp := hI.at j hj
  rw [hpx] at hp
  have hbn := bo_nat (R := d.R) hp.1 hp.2
  have hbb0 := Rc.bound_in (R := d.R) (p := p.toNat) hO.lo (by omega) (by omega)
  have hhi := hO.hi
  have HS : Hid (St w0 B' s u' xs) := hS
  have HP : Hid (I64 p) := (show I64 _ from ⟨by omega, by omega⟩)
  have HO : Hid (OkD bs d) := hO
  have HJ : Hid (j < xs.length) := hj
  have HIN : Hid (In xs) := hI.inn
  have HL : Hid (bs.length ≤ 140737488355328) := hl
  have HD : Hid (Dcd w0 B a v bs d) := h
  obtain ⟨z, hz⟩ : ∃ z : Int, z = (d.R : Int) := ⟨_, rfl⟩
  have HZ : Hid (z = (d.R : Int)) := hz
  have HUz : Hid (U32 z) := by show U32 z; rw [hz]; exact ⟨by omega, by omega⟩
  have HAt : Hid (∀ w2, St w2 B' s u' xs → Calls Try.prog 19 #[.pointer (some ⟨s, 0, none⟩), .int .i64 j] w2 fun x w' => x = .returned (.tuple #[.int .i64 p, .int .i64 0]) ∧ w2 = w') := fun w2 e2 => by
    have h9 := at_in B' s u' xs j _ e2 hI.inn hj
    rw [hpx] at h9
    exact h9
  obtain ⟨bb, hbb⟩ : ∃ bb : Nat, bb = d.R / 2048 * p.toNat := ⟨_, rfl⟩
  have HBd : Hid (∀ w2, Calls Try.prog 68 #[.int .u32 z, .int .i64 p] w2 fun x w' => x = .returned (.int .u32 (bb : Int)) ∧ w2 = w') := fun w2 => by
    have := bound_any z p w2 HUz.out HP.out
    rw [hz, hbn, ← hbb] at this
    rw [hz]
    exact this
  rw [← hbb] at hbb0 ⊢
  have HBB : Hid (65536 ≤ bb ∧ bb + 65536 ≤ d.R) := hbb0
  have HTU : Hid (∀ w2, St w2 B' s u' xs → Calls Try.prog 15 #[.pointer (some ⟨s, 0, none⟩), .int .i64 j, .int .i64 (bt (Rc.oneD d bb))] w2 fun x w' => x = .returned (.int .i64 0) ∧ St w' B' s u' (xs.set j (Prob.nx p (bt (Rc.oneD d bb)))) ∧ Chg (fun k => u'.ownBlock = some k) w2 w') := fun w2 e2 => by
    have h9 := turn_in B' s u' xs j (bt (Rc.oneD d bb)) _ e2 hI.inn hj
    rw [hpx] at h9
    exact h9
  obtain ⟨one, hone⟩ : ∃ one, one = Rc.oneD d bb := ⟨_, rfl⟩
  have HONE : Hid (Rc.oneD d bb = one) := hone.symm
  have HPD : Hid ((Rc.partD d bb).C < (Rc.partD d bb).R ∧ (Rc.partD d bb).n ≤ bs.length) := by
    have h1 := HBB.out
    have h2 := hO.lt
    have h3 := hO.n
    show _ ∧ _
    unfold Rc.partD
    split
    · exact ⟨by show d.C - bb < d.R - bb; omega, h3⟩
    · exact ⟨by show d.C < bb; omega, h3⟩
  rw [← hone] at HTU ⊢
  have ha := h.lt
  obtain ⟨g3, g6, g7, gs, gc⟩ := three w0 #[.pointer (some ⟨a, 0, none⟩)] #[.int .i64 0] #[.int .i64 0] 51 3 24
  have HG : Hid _ := aside_made (kd := 3) (r0 := .int .i64 0) (e0 := 0) (y0 := v) (y1 := .int .i64 (d.n : Int)) (y2 := .int .u32 (d.R : Int)) (y3 := .int .u32 (d.C : Int)) ha g3 g6 g7 gs
  have HGC : Hid _ := gc
  have x7 := cell00 g7
  have x3 := cell00 g3
  have hh1 := h.new gc
  obtain ⟨k0, k1, k2, k3, _⟩ := rcells4 hh1.blk
  obtain ⟨ad, cap, hv, _⟩ := own_any h.own
  have HS1 : Hid (St _ B' s u' xs) := hS.new gc
  have HGS : Hid _ := gs
  subst hv
  clear hbb0 hp hbn hhi hS hO hj hI hz hpx hbb hone hl g3 g6 g7 gs gc hh1 ha h
  go_enter_defers Try.func54, Try.ntmps54
  go_wp2_with fail
  refine (HAt.out _ HS1.out).mono ?_
  rintro x w1 ⟨rfl, rfl⟩
  go_upto_region 4 with fail
  clear HAt
  generalize ((w0.alloc (.cells #[.pointer (some ⟨a, 0, none⟩)] 51)).alloc (.cells #[.int .i64 0] 3)).alloc (.cells #[.int .i64 0] 24) = w1 at *
  go_upto_region 6 with fail
  have HC5 : Hid (Chg (fun _ => False) w0 (w1.alloc (.cells #[.slice ad bs.length cap, .int .i64 (d.n : Int), .int .u32 (d.R : Int), .int .u32 (d.C : Int)] 91))) := chg_then HGC.out (chg_one _ _)
  have HD5 : Hid (Dcd _ B a (.slice ad bs.length cap) bs d) := HD.out.new HC5.out
  have HS5 : Hid (St _ B' s u' xs) := HS.out.new HC5.out
  have HPS : Hid (w0.heap.size ≤ w1.heap.size ∧ w0.heap.size ≤ w0.heap.size + 1 ∧ w0.heap.size ≤ w0.heap.size + 1 + 1) := ⟨by rw [HGS.out]; omega, by omega, by omega⟩
  clear k0 k1 k2 k3 x3 x7 HS1 HGS HGC HD HS
  have HA : Hid (Aside _ 3 (.int .i64 0) a _ _ _ _ _ _ _ _ 0) := HG.out
  clear HG
  generalize w1.alloc (.cells #[.slice ad bs.length cap, .int .i64 (d.n : Int), .int .u32 (d.R : Int), .int .u32 (d.C : Int)] 91) = w5 at *
  generalize w1.heap.size = p9 at *
  generalize w0.heap.size + 1 + 1 = p7 at *
  generalize w0.heap.size + 1 = p6 at *
  obtain ⟨p3, hp3⟩ : ∃ p3, w0.heap.size = p3 := ⟨_, rfl⟩
  rw [hp3] at HA ⊢
  have HP3 : Hid (w0.heap.size = p3) := hp3
  obtain ⟨v, hv⟩ : ∃ v, Value.slice ad bs.length cap = v := ⟨_, rfl⟩
  rw [hv] at HA HD5 ⊢
  have HV : Hid (Value.slice ad bs.length cap = v) := hv
  clear hv hp3
  refine wp_region_phaseQ (mk := fun u => #[_, _, _, _, _, _, _, _, _, _, _, _, _, _, _, _, _, _, _, _, _, _, _, u 23, u 24, u 25, u 26, u 27, u 28, u 29, u 30, _, _, _, _, _, _, _]) (G := lookG [(23, .pointer (some ⟨a, 0, none⟩)), (24, .pointer (some ⟨a, 0, none⟩)), (25, .pointer (some ⟨a, 0, none⟩)), (26, .pointer (some ⟨a, 2, none⟩)), (27, .int .u32 z), (28, .int .i64 p), (29, .int .u32 (bb : Int)), (30, .int .i64 (bt one))]) (J := fun q _ w => Dcd w B a v bs (if q = 0 then d else Rc.partD d bb) ∧ Chg (fun z => z = a) w5 w) [7] (fun i => if i = 4 then 0 else 1) ([{ target := Target.fn (Fn.func 74) #[.pointer (some ⟨p9, 0, none⟩), .pointer (some ⟨p3, 0, none⟩), .pointer (some ⟨p6, 0, none⟩), .pointer (some ⟨p7, 0, none⟩)], args := #[] }]) (fun _ => undef) rfl (by kernel_rfl) 8 _ rfl rfl (by kernel_rfl) (by kernel_rfl) (by kernel_rfl) (by decide) ?_ ?_ ?_ (by kernel_rfl) ?_ ?_
  · repeat (refine ⟨fun _ _ => rfl, ?_⟩)
    exact trivial
  · exact fun q u u2 w _ h => h
  · exact ⟨HD5.out.new (Chg.refl _ _).drew, (Chg.refl _ _).drew⟩
  · refine ⟨?_, ?_, ?_, ?_, ?_, ?_, ?_, ?_, trivial⟩
    · show StepRQ _ _ _ _ _ _ _ _ _ -- 23
      unfold StepRQ
      intro q hq u w hj hd K hK
      clear hd
      have hcell := cell00 (HA.out.deed hj.2).at_
      go_simp
      exact hK.out _ rfl
    · show StepRQ _ _ _ _ _ _ _ _ _ -- 24
      unfold StepRQ
      intro q hq u w hj hd K hK
      clear hd
      have hcell := cell00 (HA.out.deed hj.2).at_
      go_simp
      exact hK.out _ rfl
    · show StepRQ _ _ _ _ _ _ _ _ _ -- 25
      unfold StepRQ
      intro q hq u w hj hd K hK
      have h24 : u 24 = .pointer (some ⟨a, 0, none⟩) := hd.get 1 (by kernel_rfl)
      clear hd
      simp only [h24] at hK
      go_simp
      exact hK.out (.pointer (some ⟨a, 0, none⟩)) rfl
    · show StepRQ _ _ _ _ _ _ _ _ _ -- 26
      unfold StepRQ
      intro q hq u w hj hd K hK
      have h25 : u 25 = .pointer (some ⟨a, 0, none⟩) := hd.get 2 (by kernel_rfl)
      clear hd
      simp only [h25] at hK
      go_simp
      exact hK.out (.pointer (some ⟨a, 2, none⟩)) rfl
    · show StepRQ _ _ _ _ _ _ _ _ _ -- 27
      unfold StepRQ
      intro q hq u w hj hd K hK
      have h26 : u 26 = .pointer (some ⟨a, 2, none⟩) := hd.get 3 (by kernel_rfl)
      clear hd
      simp only [h26] at hK
      obtain rfl : q = 0 := Nat.le_zero.1 hq
      have hcell : w.cell? ⟨a, 2, none⟩ = some (.int .u32 z) := by rw [HZ.out]; exact (rcells4 hj.1.blk).2.2.1
      go_simp
      exact hK.out _ rfl
    · show StepRQ _ _ _ _ _ _ _ _ _ -- 28
      unfold StepRQ
      intro q hq u w hj hd K hK
      clear hd
      go_simp
      exact hK.out (.int .i64 p) rfl
    · show StepRQ _ _ _ _ _ _ _ _ _ -- 29
      unfold StepRQ
      intro q hq u w hj hd K hK
      have h27 : u 27 = .int .u32 z := hd.get 4 (by kernel_rfl)
      have h28 : u 28 = .int .i64 p := hd.get 5 (by kernel_rfl)
      clear hd
      simp only [h27, h28] at hK
      go_simp
      go_at_call 68
      refine (HBd.out w).mono ?_
      rintro x w2 ⟨rfl, rfl⟩
      exact hK.out _ rfl
    · show StepWQ _ _ _ _ _ _ _ _ _ -- 30
      unfold StepWQ
      intro u w hj hd K hK
      have h23 : u 23 = .pointer (some ⟨a, 0, none⟩) := hd.get 0 (by kernel_rfl)
      have h29 : u 29 = .int .u32 (bb : Int) := hd.get 6 (by kernel_rfl)
      clear hd
      simp only [h23, h29] at hK
      obtain ⟨hD, hc⟩ := hj
      go_simp
      go_at_call 76
      refine (dcut_any B a v bs d bb w hD HO.out.lt HO.out.hi).mono ?_
      rintro x w2 ⟨rfl, hD2, hc2⟩
      exact hK.out _ w2 ⟨hD2, hc.trans hc2 (fun _ f => .inl f)⟩ (by rw [HONE.out]; rfl)
  · intro u w hj hA K hK
    have e30 : u 30 = .int .i64 (bt one) := hA.at 30 (by kernel_rfl)
    clear hA
    obtain ⟨hD6, hc6⟩ := hj
    have hA6 := HA.out.deed hc6
    have hcell := cell00 hA6.val
    have hfr := fr00 hA6.val
    obtain ⟨hA7, hc7⟩ := hA6.setV (.int .i64 (bt one))
    have n7 := hA6.own hD6.own (by decide) (by decide) (by decide) (by decide)
    have HA7 : Hid _ := hA7
    have HD7 : Hid (Dcd (w.setCell ⟨p6, 0, none⟩ (.int .i64 (bt one))) B a v bs (Rc.partD d bb)) := hD6.keep hc7 (fun f => hA6.n6.1 f.symm) (fun g e f => n7.2.2.1 (by rw [← f]; exact e))
    have HC7 : Hid (Chg (fun z => z = a ∨ z = p6) w5 (w.setCell ⟨p6, 0, none⟩ (.int .i64 (bt one)))) := (hc6.mono (T := fun z => z = a ∨ z = p6) (fun _ f => .inl (.inl f))).trans hc7 (fun _ f => .inl (.inr f))
    clear hA6 hA7 hc7 hD6 hc6 n7
    go_simp
    refine hK.out _ _ ?_
    generalize w.setCell ⟨p6, 0, none⟩ (.int .i64 (bt one)) = w7 at *
    have c3 := cell00 HA7.out.at_
    have HS7 : Hid (St w7 B' s u' xs) := HS5.out.keep HC7.out (fun f => by
      have h6 := HA7.out.val
      have h7 := HD7.out.blk
      have h8 := blk_keep HS5.out.blk HC7.out
      rcases f with f | f
      · have h9 := HD5.out.blk
        rw [← f] at h9
        exact ty_ne HS5.out.blk h9 (by decide)
      · have h9 := HA.out.val
        rw [← f] at h9
        exact ty_ne HS5.out.blk h9 (by decide)) (fun g e f => by
      obtain ⟨cu, hcu⟩ := owns_blk HS5.out.own e
      rcases f with f | f
      · have h9 := HD5.out.blk
        rw [← f] at h9
        exact ty_ne hcu h9 (by decide)
      · have h9 := HA.out.val
        rw [← f] at h9
        exact ty_ne hcu h9 (by decide))
    go_wp2_with fail
    refine (dwiden_any B a v bs (Rc.partD d bb) _ HD7.out HPD.out.1 HPD.out.2 HL.out hdig).mono ?_
    rintro x w8 (⟨d', hw, rfl, hD8, hc8⟩ | ⟨hw, rfl, ⟨d', hD8⟩, hc8⟩)
    · have HW : Hid (Rc.cutD bs d bb = some d') := hw
      have HD8 : Hid (Dcd w8 B a v bs d') := hD8
      have HA8 : Hid _ := HA7.out.deed hc8
      have HS8 : Hid (St w8 B' s u' xs) := HS7.out.keep hc8 (fun f => by
        have h9 := HD7.out.blk
        rw [← f] at h9
        exact ty_ne HS7.out.blk h9 (by decide)) (fun g e f => by
        obtain ⟨cu, hcu⟩ := owns_blk HS7.out.own e
        have h9 := HD7.out.blk
        rw [← f] at h9
        exact ty_ne hcu h9 (by decide))
      have HC8 : Hid (Chg (Fd a u') w0 w8) := ((HC5.out.mono (T := Fd a u') (fun _ f => f.elim)).trans HC7.out (fun z f => by
        rcases f with f | f
        · exact .inl (.inl f)
        · exact .inr (by rw [f]; exact HPS.out.2.1))).trans hc8 (fun z f => .inl (.inl f))
      clear hw hD8 hc8 c3
      go_wp2_with fail
      refine wp_region_phaseQ (mk := fun u => #[_, _, _, _, _, _, _, _, _, _, _, _, _, _, _, _, _, _, _, _, _, _, _, _, _, _, _, _, _, _, _, _, _, u 33, u 34, u 35, u 36, u 37]) (G := lookG [(33, .int .i64 (bt one)), (34, .pointer (some ⟨s, 0, none⟩)), (35, .int .i64 (j : Int)), (36, .int .i64 (bt one)), (37, .int .i64 0)]) (J := fun q _ w => Aside w 3 (.int .i64 (bt one)) a p9 p3 p6 p7 v (.int .i64 (d.n : Int)) (.int .u32 (d.R : Int)) (.int .u32 (d.C : Int)) 0 ∧ Dcd w B a v bs d' ∧ St w B' s u' (if q = 0 then xs else xs.set j (Prob.nx p (bt one))) ∧ Chg (fun z => z = p6 ∨ u'.ownBlock = some z) w8 w) [4, 5] (fun i =>  2) ([{ target := Target.fn (Fn.func 74) #[.pointer (some ⟨p9, 0, none⟩), .pointer (some ⟨p3, 0, none⟩), .pointer (some ⟨p6, 0, none⟩), .pointer (some ⟨p7, 0, none⟩)], args := #[] }]) (fun _ => undef) rfl (by kernel_rfl) 6 _ rfl rfl (by kernel_rfl) (by kernel_rfl) (by kernel_rfl) (by decide) ?_ ?_ ?_ (by kernel_rfl) ?_ ?_
      · repeat (refine ⟨fun _ _ => rfl, ?_⟩)
        exact trivial
      · exact fun q u u2 w _ h => h
      · exact ⟨HA8.out.new (Chg.refl _ _).drew, HD8.out.new (Chg.refl _ _).drew, HS8.out.new (Chg.refl _ _).drew, (Chg.refl _ _).drew⟩
      · refine ⟨?_, ?_, ?_, ?_, ?_, ?_, trivial⟩
        · show StepRQ _ _ _ _ _ _ _ _ _ -- 33
          unfold StepRQ
          intro q hq u w hj hd K hK
          clear hd
          have hcell := cell00 hj.1.val
          go_simp
          exact hK.out _ rfl
        · show StepRQ _ _ _ _ _ _ _ _ _ -- 34
          unfold StepRQ
          intro q hq u w hj hd K hK
          clear hd
          go_simp
          exact hK.out (.pointer (some ⟨s, 0, none⟩)) rfl
        · show StepRQ _ _ _ _ _ _ _ _ _ -- 35
          unfold StepRQ
          intro q hq u w hj hd K hK
          clear hd
          go_simp
          exact hK.out (.int .i64 (j : Int)) rfl
        · show StepRQ _ _ _ _ _ _ _ _ _ -- 36
          unfold StepRQ
          intro q hq u w hj hd K hK
          clear hd
          have hcell := cell00 hj.1.val
          go_simp
          exact hK.out _ rfl
        · show StepWQ _ _ _ _ _ _ _ _ _ -- 37
          unfold StepWQ
          intro u w hj hd K hK
          have h34 : u 34 = .pointer (some ⟨s, 0, none⟩) := hd.get 1 (by kernel_rfl)
          have h35 : u 35 = .int .i64 (j : Int) := hd.get 2 (by kernel_rfl)
          have h36 : u 36 = .int .i64 (bt one) := hd.get 3 (by kernel_rfl)
          clear hd
          simp only [h34, h35, h36] at hK
          obtain ⟨hA1, hD, hS1, hc⟩ := hj
          go_simp
          go_at_call 15
          refine (HTU.out w hS1).mono ?_
          rintro x w2 ⟨rfl, hS2, hc2⟩
          have hn := hA1.own hS1.own (by decide) (by decide) (by decide) (by decide)
          exact hK.out _ w2 ⟨hA1.keep hc2 (fun f => hn.1 f) (fun f => hn.2.1 f) (fun f => hn.2.2.1 f) (fun f => hn.2.2.2 f), hD.keep hc2 (fun f => by obtain ⟨c, h9⟩ := owns_blk hS1.own f; exact ty_ne hD.blk h9 (by decide)) (fun g e f => by obtain ⟨c, h9⟩ := owns_blk hS1.own f; obtain ⟨c2, h8⟩ := owns_blk hD.own e; exact ty_ne h8 h9 (by decide)), hS2, hc.trans hc2 (fun _ f => .inl (.inr f))⟩ rfl
        · show StepWQ _ _ _ _ _ _ _ _ _ -- #5
          unfold StepWQ
          intro u w hj hd K hK
          have h33 : u 33 = .int .i64 (bt one) := hd.get 0 (by kernel_rfl)
          clear hd
          simp only [h33] at hK
          obtain ⟨hA1, hD, hS1, hc⟩ := hj
          have hcell := cell00 hA1.val
          have hfr := fr00 hA1.val
          obtain ⟨hA2, hc2⟩ := hA1.setV (.int .i64 (bt one))
          have hn := hA1.own hS1.own (by decide) (by decide) (by decide) (by decide)
          have hn2 := hA1.own hD.own (by decide) (by decide) (by decide) (by decide)
          go_simp
          exact hK.out undef _ ⟨hA2, hD.keep hc2 (fun f => hA1.n6.1 f.symm) (fun g e f => hn2.2.2.1 (by rw [← f]; exact e)), hS1.keep hc2 (fun f => by have h9 := hA1.val; rw [← f] at h9; exact ty_ne hS1.blk h9 (by decide)) (fun g e f => hn.2.2.1 (by rw [← f]; exact e)), hc.trans hc2 (fun _ f => .inl (.inl f))⟩ trivial
      · intro u w hj hA K hK
        have e37 : u 37 = .int .i64 0 := hA.at 37 (by kernel_rfl)
        clear hA
        obtain ⟨hA9, hD9, hS9, hc9⟩ := hj
        have hcell := cell00 hA9.err
        have hfr := fr00 hA9.err
        obtain ⟨hA10, hc10⟩ := hA9.setE 0
        have n9 := hA9.own hS9.own (by decide) (by decide) (by decide) (by decide)
        have m9 := hA9.own hD9.own (by decide) (by decide) (by decide) (by decide)
        have HA10 : Hid _ := hA10
        have HD10 : Hid (Dcd (w.setCell ⟨p7, 0, none⟩ (.int .i64 0)) B a v bs d') := hD9.keep hc10 (fun f => hA9.n7 f.symm) (fun g e f => m9.2.2.2 (by rw [← f]; exact e))
        have HS10 : Hid (St (w.setCell ⟨p7, 0, none⟩ (.int .i64 0)) B' s u' (xs.set j (Prob.nx p (bt one)))) := hS9.keep hc10 (fun f => by have h9 := hA9.err; rw [← f] at h9; exact ty_ne hS9.blk h9 (by decide)) (fun g e f => n9.2.2.2 (by rw [← f]; exact e))
        have HC10 : Hid (Chg (Fd a u') w0 (w.setCell ⟨p7, 0, none⟩ (.int .i64 0))) := (HC8.out.trans hc9 (fun z f => by
          rcases f with f | f
          · exact .inr (by rw [f]; exact HPS.out.2.1)
          · exact .inl (.inr f))).trans hc10 (fun z f => .inr (by rw [f]; exact HPS.out.2.2))
        clear hA9 hD9 hS9 hc9 hA10 hc10 n9 m9
        go_simp
        refine hK.out _ _ ?_
        generalize w.setCell ⟨p7, 0, none⟩ (.int .i64 0) = w10 at *
        go_wp2
        refine leaves_cons (f := 74) (args := #[.pointer (some ⟨p9, 0, none⟩), .pointer (some ⟨p3, 0, none⟩), .pointer (some ⟨p6, 0, none⟩), .pointer (some ⟨p7, 0, none⟩)]) (by simp) (by simp [go_sem]) ?_
        refine (bcatch_idle _ _ _ _ _).mono ?_
        rintro e u2 w11 ⟨rfl, rfl, rfl⟩
        have c6 := cell00 HA10.out.val
        have c7 := cell00 HA10.out.err
        refine ⟨.tuple #[.int .i64 (bt one), .int .i64 0], ?_, .inr ⟨d', HW.out, rfl, by rw [HV.out]; exact HD10.out, HS10.out, HC10.out⟩⟩
        simp [results, Try.results54, go_sem, c6, c7]
    · have HW : Hid (Rc.cutD bs d bb = none) := hw
      have HA8 : Hid _ := HA7.out.deed hc8
      have HS8 : Hid (St w8 B' s u' xs) := HS7.out.keep hc8 (fun f => by
        have h9 := HD7.out.blk
        rw [← f] at h9
        exact ty_ne HS7.out.blk h9 (by decide)) (fun g e f => by
        obtain ⟨cu, hcu⟩ := owns_blk HS7.out.own e
        have h9 := HD7.out.blk
        rw [← f] at h9
        exact ty_ne hcu h9 (by decide))
      have HC8 : Hid (Chg (Fd a u') w0 w8) := ((HC5.out.mono (T := Fd a u') (fun _ f => f.elim)).trans HC7.out (fun z f => by
        rcases f with f | f
        · exact .inl (.inl f)
        · exact .inr (by rw [f]; exact HPS.out.2.1))).trans hc8 (fun z f => .inl (.inl f))
      refine leaves_cons (f := 74) (args := #[.pointer (some ⟨p9, 0, none⟩), .pointer (some ⟨p3, 0, none⟩), .pointer (some ⟨p6, 0, none⟩), .pointer (some ⟨p7, 0, none⟩)]) (by simp [gave]) (by simp [go_sem]) ?_
      have hA8 := HA8.out
      rw [← HV.out] at hA8
      refine (bcatch_gave a p9 p3 p6 p7 _ _ _ _ _ ad bs.length cap (d.n : Int) (d.R : Int) (d.C : Int) 0 1 _ hA8 hD8.blk).mono ?_
      rintro e u2 w11 ⟨rfl, rfl, hA11, hb11, hc11⟩
      have c6 := cell00 hA11.val
      have c7 := cell00 hA11.err
      rw [HV.out] at hb11
      have m9 := HA8.out.own hD8.own (by decide) (by decide) (by decide) (by decide)
      have n9 := HA8.out.own HS8.out.own (by decide) (by decide) (by decide) (by decide)
      have hD11 : Dcd w11 B a v bs d := ⟨hD8.hr, hb11, ownsRow_keep hD8.own hc11 (fun g e f => by
        rcases f with f | f | f
        · exact hD8.ne (by rw [← f]; exact e)
        · exact m9.2.2.1 (by rw [← f]; exact e)
        · exact m9.2.2.2 (by rw [← f]; exact e))⟩
      refine ⟨.tuple #[.int .i64 0, .int .i64 1], ?_, .inl ⟨HW.out, rfl, by rw [HV.out]; exact hD11, HS8.out.keep hc11 (fun f => ?_) (fun g e f => ?_), HC8.out.trans hc11 (fun z f => ?_)⟩⟩
      · simp [results, Try.results54, go_sem, c6, c7]
      · rcases f with f | f | f
        · have h9 := hD8.blk
          rw [← f] at h9
          exact ty_ne HS8.out.blk h9 (by decide)
        · have h9 := HA8.out.val
          rw [← f] at h9
          exact ty_ne HS8.out.blk h9 (by decide)
        · have h9 := HA8.out.err
          rw [← f] at h9
          exact ty_ne HS8.out.blk h9 (by decide)
      · rcases f with f | f | f
        · obtain ⟨cu, hcu⟩ := owns_blk HS8.out.own e
          have h9 := hD8.blk
          rw [← f] at h9
          exact ty_ne hcu h9 (by decide)
        · exact n9.2.2.1 (by rw [← f]; exact e)
        · exact n9.2.2.2 (by rw [← f]; exact e)
      · rcases f with f | f | f
        · exact .inl (.inl f)
        · exact .inr (by rw [f]; exact HPS.out.2.1)
        · exact .inr (by rw [f]; exact HPS.out.2.2)
end Go.Proofs.Ytibgjpifmpljkaa
