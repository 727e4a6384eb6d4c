/- ShaSteps holds: for every state and every two blocks handed to the statement's function the call returns true; the table of constants is as the program's text lays it. -/
import Derived.Test.YtnedllhlmddmoaaDoorRefS
import Derived.Test.YtnedllhlmddmoaaDoorStr
import Derived.Test.YtnedllhlmddmoaaDoorEq
import Derived.Test.YtnedllhlmddmoaaDoorCards
import Derived.Test.YtnedllhlmddmoaaDoorTie
import Derived.SevenTiedAt
namespace Go.Proofs.YtnedllhlmddmoaaDoor.shaSteps
open Go.ChangeShapes Go.WideShapes Go.ChangeAt Go.RowKit
set_option linter.unusedVariables false

theorem slice_b64all (w : World) (a : Nat) : (Instr.sliceAt 24 (.pointer (some ⟨a, 0, none⟩)) none none none).run Tryd.prog w = .ok (.slice (some ⟨a, 0, none⟩) 64 64) w := by
  have h1 := run_sliceAt_array_all (P := Tryd.prog) w 24 ⟨a, 0, none⟩ Tryd.underlying24
  have h2 : Tryd.prog.arrayLen 24 = 64 := by kernel_rfl
  have h3 : (sizeOf (Tryd.prog.elem 24)).run Tryd.prog w = .ok 1 w := one_size (by kernel_rfl) w
  rw [h1, h3, h2]
  rfl

/-- An array of numbers that came in. -/
theorem open_arr {H : Type} {enc : TypeId × Value → H} {W : World} {base : Nat} {t e : TypeId} {n : Nat} {k : IntKind} {v : Value} {d : DataW H} {p : List MemPlace} (ht : Tryd.prog.underlying t = some (.array n e)) (he : Tryd.prog.underlying e = some (.int k)) (hce : Tryd.prog.cellsOf e = 1) (hct : Tryd.prog.cellsOf t = n)
    (hok : Value.okWide Tryd.prog W .any base t v) (h : DataW.Trod enc Tryd.prog W 0 (fun _ => true) true t v d p) : ∃ zs : List Int, v = .agg (zs.map (Value.int k)).toArray ∧ zs.length = n ∧ ∀ z ∈ zs, (Lit.int k z).wf = true := by
  unfold Value.okWide at hok
  rw [ht] at hok
  obtain ⟨cs, rfl, hsz, _⟩ := hok
  obtain ⟨fuel, hf⟩ := h
  obtain ⟨xs, m, rfl, hx, hlen, hn, hel⟩ := DataW.trod_array ht hf
  simp only [Value.cells] at hlen hel
  have key : ∀ i, i < n → ∃ z, cs.toList[i]? = some (.int k z) ∧ (Lit.int k z).wf = true := by
    intro i hi
    have h0 := hel i hi
    rw [hce, Nat.mul_one] at h0
    obtain ⟨y, hy⟩ : ∃ y, xs[i]? = some y := ⟨xs[i]'(by omega), List.getElem?_eq_getElem _⟩
    rw [hy] at h0
    obtain ⟨z, e1, e2, hw⟩ := DataW.trod_int he h0
    have h3 : ((cs.toList.drop i).take 1)[0]? = some (.int k z) := by rw [e1]; rfl
    exact ⟨z, by simpa using h3, hw⟩
  have hcl : cs.toList.length = n := by rw [hlen, hct]
  have gen : ∀ (l : List Value), (∀ i, i < l.length → ∃ z, l[i]? = some (.int k z) ∧ (Lit.int k z).wf = true) → ∃ zs : List Int, l = zs.map (Value.int k) ∧ ∀ z ∈ zs, (Lit.int k z).wf = true := by
    intro l
    induction l with
    | nil => exact fun _ => ⟨[], rfl, fun z h => by cases h⟩
    | cons a l ih =>
      intro h
      obtain ⟨z, hz, hw⟩ := h 0 (by simp)
      obtain ⟨zs, rfl, hzs⟩ := ih (fun i hi => by simpa using h (i + 1) (by simpa using hi))
      simp only [List.getElem?_cons_zero, Option.some.injEq] at hz
      subst hz
      exact ⟨z :: zs, rfl, fun y hy => by rcases List.mem_cons.1 hy with e | e; exact e ▸ hw; exact hzs y e⟩
  obtain ⟨zs, hzs, hw⟩ := gen cs.toList (fun i hi => key i (by omega))
  refine ⟨zs, ?_, ?_, hw⟩
  · rw [← hzs]
  · rw [← hcl, hzs, List.length_map]

theorem open_arr8 {H : Type} {enc : TypeId × Value → H} {W : World} {base : Nat} {v : Value} {d : DataW H} {p : List MemPlace} (hok : Value.okWide Tryd.prog W .any base 23 v) (h : DataW.Trod enc Tryd.prog W 0 (fun _ => true) true 23 v d p) :
    ∃ s : List Nat, v = .agg (wds s).toArray ∧ s.length = 8 ∧ Sha.Wds s := by
  obtain ⟨zs, rfl, hl, hw⟩ := open_arr Tryd.underlying23 Tryd.underlying22 (by kernel_rfl) (by kernel_rfl) hok h
  have hb : ∀ z ∈ zs, 0 ≤ z ∧ z ≤ 4294967295 := fun z hz => bounds_u32 (hw z hz)
  refine ⟨zs.map Int.toNat, ?_, by simp [hl], fun x hx => ?_⟩
  · congr 2
    unfold wds
    rw [List.map_map]
    refine (List.map_congr_left fun z hz => ?_)
    have := hb z hz
    show Value.int .u32 z = Value.int .u32 ((z.toNat : Nat) : Int)
    rw [Int.toNat_of_nonneg this.1]
  · obtain ⟨z, hz, rfl⟩ := List.mem_map.1 hx
    have := hb z hz
    omega

theorem open_arr64 {H : Type} {enc : TypeId × Value → H} {W : World} {base : Nat} {v : Value} {d : DataW H} {p : List MemPlace} (hok : Value.okWide Tryd.prog W .any base 24 v) (h : DataW.Trod enc Tryd.prog W 0 (fun _ => true) true 24 v d p) :
    ∃ b : List Nat, v = .agg (byts b).toArray ∧ b.length = 64 ∧ ∀ x ∈ b, x < 256 := by
  obtain ⟨zs, rfl, hl, hw⟩ := open_arr Tryd.underlying24 Tryd.underlying5 (by kernel_rfl) (by kernel_rfl) hok h
  have hb : ∀ z ∈ zs, 0 ≤ z ∧ z ≤ 255 := fun z hz => bounds_u8 (hw z hz)
  refine ⟨zs.map Int.toNat, ?_, by simp [hl], fun x hx => ?_⟩
  · congr 2
    unfold byts
    rw [List.map_map]
    refine (List.map_congr_left fun z hz => ?_)
    have := hb z hz
    show Value.int .u8 z = Value.int .u8 ((z.toNat : Nat) : Int)
    rw [Int.toNat_of_nonneg this.1]
  · obtain ⟨z, hz, rfl⟩ := List.mem_map.1 hx
    have := hb z hz
    omega

set_option maxHeartbeats 8000000 in
set_option maxRecDepth 100000 in
theorem walk (s b o : List Nat) (w0 : World) (hT : TabK w0) (hs : Sha.St s) (hl : b.length = 64) (hb : ∀ x ∈ b, x < 256) (hlo : o.length = 64) (hbo : ∀ x ∈ o, x < 256) :
    Calls Tryd.prog 3 #[.agg (wds s).toArray, .agg (byts b).toArray, .agg (byts o).toArray] w0 fun e w' => e = .returned (.bool true) ∧ Chg (fun _ => False) w0 w' := by
  have hS1 := Sha.step_st s b
  obtain ⟨S1, H1⟩ : ∃ S1, Hid (Sha.step s b = S1) := ⟨_, rfl⟩
  rw [H1.out] at hS1
  have hS2 := Sha.step_st S1 o
  obtain ⟨S2, H2⟩ : ∃ S2, Hid (Sha.step S1 o = S2) := ⟨_, rfl⟩
  rw [H2.out] at hS2
  have hi8 : (Tryd.prog.info? 23).map (·.size) = some (wds s).toArray.size := by rw [wds_size, hs.len]; exact infoA8
  have hi64b : (Tryd.prog.info? 24).map (·.size) = some (byts b).toArray.size := by rw [byts_size, hl]; exact infoB64
  have hi64 : (Tryd.prog.info? 24).map (·.size) = some (byts o).toArray.size := by rw [byts_size, hlo]; exact infoB64
  have hiS : (Tryd.prog.info? 23).map (·.size) = some (wds S1).toArray.size := by rw [wds_size, hS1.len]; exact infoA8
  have HZ : Hid ((wds (fill [] 8)).toArray = #[.int .u32 0, .int .u32 0, .int .u32 0, .int .u32 0, .int .u32 0, .int .u32 0, .int .u32 0, .int .u32 0]) := rfl
  have hzS : (wds (fill [] 8)).toArray.size = (wds S1).toArray.size := by rw [wds_size, wds_size, hS1.len]; rfl
  have c1 : Chg (fun _ => False) w0 (((w0.alloc (.cells (wds s).toArray 23)).alloc (.cells (byts b).toArray 24)).alloc (.cells (byts o).toArray 24)) := (((Chg.refl _ w0).alloc _).alloc _).alloc _
  have h0 : (((w0.alloc (.cells (wds s).toArray 23)).alloc (.cells (byts b).toArray 24)).alloc (.cells (byts o).toArray 24)).heap[w0.heap.size]? = some (.cells (wds s).toArray 23 (0, 0)) := by
    rw [Below.heap_alloc _ _ _ (by simp; omega), Below.heap_alloc _ _ _ (by simp), heap_alloc_last]
  have h1 : (((w0.alloc (.cells (wds s).toArray 23)).alloc (.cells (byts b).toArray 24)).alloc (.cells (byts o).toArray 24)).heap[w0.heap.size + 1]? = some (.cells (byts b).toArray 24 (0, 0)) := by
    rw [Below.heap_alloc _ _ _ (by simp), show w0.heap.size + 1 = (w0.alloc (.cells (wds s).toArray 23)).heap.size by simp, heap_alloc_last]
  have h2 : (((w0.alloc (.cells (wds s).toArray 23)).alloc (.cells (byts b).toArray 24)).alloc (.cells (byts o).toArray 24)).heap[w0.heap.size + 1 + 1]? = some (.cells (byts o).toArray 24 (0, 0)) := by
    rw [show w0.heap.size + 1 + 1 = ((w0.alloc (.cells (wds s).toArray 23)).alloc (.cells (byts b).toArray 24)).heap.size by simp, heap_alloc_last]
  go_enter Tryd.func3, Tryd.ntmps3
  go_wp2_with fail
  generalize (((w0.alloc (.cells (wds s).toArray 23)).alloc (.cells (byts b).toArray 24)).alloc (.cells (byts o).toArray 24)) = w1 at *
  refine (constants_any w1).mono ?_
  rintro e w2 ⟨kv, rfl, hK2, c2⟩
  have c02 := chg_then c1 c2
  replace h0 := blk_keep h0 c2 (fun f => f)
  replace h1 := blk_keep h1 c2 (fun f => f)
  replace h2 := blk_keep h2 c2 (fun f => f)
  have hT2 := hT.new c02
  clear c1 c2
  go_wp2_with (first
    | refine wpList_load_row rfl 23 (.tmp 3) rfl w0.heap.size rfl 23 _ (0, 0) _ h0 Tryd.underlying23 rfl hi8 ?_
    | refine wpList_load_row rfl 24 (.tmp 4) rfl (w0.heap.size + 1) rfl 24 _ (0, 0) _ h1 Tryd.underlying24 rfl hi64b ?_)
  refine (step_any s b w2 hT2 hs hl hb).mono ?_
  rintro e w3 ⟨rfl, c3⟩
  rw [H1.out]
  have c03 := chg_then c02 c3
  replace h0 := blk_keep h0 c3 (fun f => f)
  replace h1 := blk_keep h1 c3 (fun f => f)
  replace h2 := blk_keep h2 c3 (fun f => f)
  have hK3 := hK2.new c3
  clear c02 c3 hK2 hT2
  have hal : (w3.alloc (.cells (wds (fill [] 8)).toArray 23)).heap[w3.heap.size]? = some (.cells (wds (fill [] 8)).toArray 23 (0, 0)) := heap_alloc_last _ _
  have hset := World.setRow_alloc_new w3 (wds (fill [] 8)).toArray (wds S1).toArray 23
  have hS5 : (w3.alloc (.cells (wds S1).toArray 23)).heap[w3.heap.size]? = some (.cells (wds S1).toArray 23 (0, 0)) := heap_alloc_last _ _
  have c5 := chg_one w3 (.cells (wds S1).toArray 23)
  rw [HZ.out] at hal hset hzS
  go_wp2_with (refine wpList_store_row rfl 23 (.tmp 8) (.tmp 13) rfl w3.heap.size _ rfl rfl 23 _ hal hiS hzS (wds_one _) ?_)
  rw [hset]
  replace h0 := blk_keep h0 c5 (fun f => f)
  replace h1 := blk_keep h1 c5 (fun f => f)
  replace h2 := blk_keep h2 c5 (fun f => f)
  have hK5 := hK3.new c5
  have c05 := chg_then c03 c5
  clear hal hset c5 c03 hK3
  generalize w3.alloc (.cells (wds S1).toArray 23) = w5 at *
  generalize w3.heap.size = sb at *
  refine wp_region_last (mk := fun u => #[_, _, _, _, _, _, _, _, _, u 9, _, _, _, _, u 14, u 15, u 16, u 17, _, _, _, _, _, _, _, _, _, _, _, _, _]) (F := fun slot vv ww => (look [(14, .val (.agg (wds s).toArray)), (15, .val (.slice (some ⟨(w0.heap.size + 1), 0, none⟩) 64 64)), (16, .val kv), (17, .val (.agg (wds S1).toArray)), (9, .blk w5.heap.size (wds (fill [] 8)) 23)] slot).holds vv ww) (fun _ => undef) rfl (by kernel_rfl) 5 _ rfl rfl (by kernel_rfl) ?_ (fun _ v w w' hc h => Fact.stays _ v w w' hc h) ?_ ?_
  · repeat (refine ⟨⟨_, rfl, fun _ _ => rfl⟩, ?_⟩)
    exact trivial
  · refine ⟨?_, ?_, ?_, ?_, ?_, trivial⟩
    · intro u w hc hd K hK -- 14
      clear hd
      show Oper.wp Tryd.prog _ _ w K _
      exact wp_load_row 23 (.tmp 3) rfl _ rfl _ _ _ _ (blk_keep h0 hc (fun f => f)) Tryd.underlying23 rfl hi8 (hK.out _ _ (Chg.refl _ _) rfl)
    · intro u w hc hd K hK -- 15
      clear hd
      have hsl := slice_b64all w (w0.heap.size + 1)
      go_simp
      exact hK.out _ _ (Chg.refl _ _) rfl
    · intro u w hc hd K hK -- 16
      clear hd
      go_simp
      exact hK.out kv w (Chg.refl _ _) rfl
    · intro u w hc hd K hK -- 17
      have h14 : (Fact.val (.agg (wds s).toArray)).holds (u 14) w := hd.get 0 (by kernel_rfl)
      simp only [Fact.holds] at h14
      have h15 : (Fact.val (.slice (some ⟨(w0.heap.size + 1), 0, none⟩) 64 64)).holds (u 15) w := hd.get 1 (by kernel_rfl)
      simp only [Fact.holds] at h15
      have h16 : (Fact.val kv).holds (u 16) w := hd.get 2 (by kernel_rfl)
      simp only [Fact.holds] at h16
      clear hd
      simp only [h14, h15, h16] at hK
      go_simp
      go_at_call 11
      refine (refstep_any s b ⟨w0.heap.size + 1, 0, none⟩ 64 kv w hs (row8_blk (blk_keep h1 hc (fun f => f)) 64 64 hl) hb (hK5.new hc)).mono ?_
      rintro e w1 ⟨rfl, cc_⟩
      rw [H1.out]
      exact hK.out _ _ (cc_) rfl
    · intro u w hc hd K hK -- 9
      clear hd
      go_simp
      exact hK.out _ _ (chg_one w _) ⟨_, rfl, hc.size, heap_alloc_last w _⟩
  · intro u w hc hA K hK
    have a9 := hA.at 9 (by kernel_rfl)
    have a17 : u 17 = _ := hA.at 17 (by kernel_rfl)
    obtain ⟨rb, h9, hrb, p9⟩ := a9
    clear hA
    show Oper.wp Tryd.prog _ _ w K _
    refine wp_store_row 23 (.tmp 9) (.tmp 17) rfl rb (wds S1).toArray h9 a17 23 _ p9 hiS (by rw [HZ.out]; exact hzS) (wds_one _) ?_
    refine hK.out _ _ ?_
    rw [show u 9 = Value.pointer (some ⟨rb, 0, none⟩) from h9]
    have hc7 : Chg (fun _ => False) w5 (w.setRow rb (wds S1).toArray) := hc.trans (chg_setRow _ _ _) (fun i e => .inr (by omega))
    have hR := setRow_heap w rb _ (wds S1).toArray 23 (0, 0) p9
    have hS := blk_keep hS5 hc7 (fun f => f)
    replace h0 := blk_keep h0 hc7 (fun f => f)
    replace h1 := blk_keep h1 hc7 (fun f => f)
    replace h2 := blk_keep h2 hc7 (fun f => f)
    have hK7 := hK5.new hc7
    have c07 := chg_then c05 hc7
    have hTk := hT.new c07
    clear hc p9 a17 h9 hK hS5 c05 hc7 hK5
    generalize w.setRow rb (wds S1).toArray = w7 at *
    go_simp
    go_wp2_with fail
    clear K w
    refine wp_region_free (mk := fun u => #[_, _, _, _, _, _, u 6, _, _, _, _, _, _, _, _, _, _, _, u 18, u 19, u 20, u 21, u 22, u 23, u 24, u 25, u 26, u 27, u 28, u 29, u 30]) (F := fun slot vv ww => (look [(18, .val (.agg (wds S1).toArray)), (19, .val (.agg (wds S1).toArray)), (20, .val (.bool true)), (21, .val (.bool true)), (22, .val (.agg (wds S1).toArray)), (23, .val (.agg (byts o).toArray)), (24, .val (.agg (wds S2).toArray)), (25, .val (.agg (wds S1).toArray)), (26, .val (.slice (some ⟨(w0.heap.size + 1 + 1), 0, none⟩) 64 64)), (27, .val kv), (28, .val (.agg (wds S2).toArray)), (29, .val (.bool true)), (30, .val (.bool true)), (6, .val (.bool true))] slot).holds vv ww) (fun t => if t = 6 then .bool false else undef) rfl (by kernel_rfl) (by kernel_rfl) ?_ (fun _ v w w' hc h => Fact.stays _ v w w' hc h) ?_ ?_
    · repeat (refine ⟨⟨_, rfl, fun _ _ => rfl⟩, ?_⟩)
      exact trivial
    · refine ⟨?_, ?_, ?_, ?_, ?_, ?_, ?_, ?_, ?_, ?_, ?_, ?_, ?_, ?_, trivial⟩
      · intro u w hc hd K hK -- 18
        clear hd
        show Oper.wp Tryd.prog _ _ w K _
        exact wp_load_row 23 (.tmp 8) rfl _ rfl _ _ _ _ (blk_keep hS hc (fun f => f)) Tryd.underlying23 rfl hiS (hK.out _ _ (Chg.refl _ _) rfl)
      · intro u w hc hd K hK -- 19
        clear hd
        show Oper.wp Tryd.prog _ _ w K _
        exact wp_load_row 23 (.tmp 9) rfl _ rfl _ _ _ _ (blk_keep hR hc (fun f => f)) Tryd.underlying23 rfl hiS (hK.out _ _ (Chg.refl _ _) rfl)
      · intro u w hc hd K hK -- 20
        have h18 : (Fact.val (.agg (wds S1).toArray)).holds (u 18) w := hd.get 0 (by kernel_rfl)
        simp only [Fact.holds] at h18
        have h19 : (Fact.val (.agg (wds S1).toArray)).holds (u 19) w := hd.get 1 (by kernel_rfl)
        simp only [Fact.holds] at h19
        clear hd
        simp only [h18, h19] at hK
        have hq := same8 w S1 hS1.len
        go_simp
        exact hK.out (.bool true) w (Chg.refl _ _) rfl
      · intro u w hc hd K hK -- 21
        have h20 : (Fact.val (.bool true)).holds (u 20) w := hd.get 2 (by kernel_rfl)
        simp only [Fact.holds] at h20
        clear hd
        simp only [h20] at hK
        go_simp
        exact hK.out (.bool true) w (Chg.refl _ _) rfl
      · intro u w hc hd K hK -- 22
        have h21 : (Fact.val (.bool true)).holds (u 21) w := hd.get 3 (by kernel_rfl)
        simp only [Fact.holds] at h21
        clear hd
        rw [show Region.wanted _ _ = true from by simp [Region.wanted, yielded, h21]]
        exact wp_load_row 23 (.tmp 8) rfl _ rfl _ _ _ _ (blk_keep hS hc (fun f => f)) Tryd.underlying23 rfl hiS (hK.out _ _ (Chg.refl _ _) rfl)
      · intro u w hc hd K hK -- 23
        have h21 : (Fact.val (.bool true)).holds (u 21) w := hd.get 3 (by kernel_rfl)
        simp only [Fact.holds] at h21
        clear hd
        rw [show Region.wanted _ _ = true from by simp [Region.wanted, yielded, h21]]
        exact wp_load_row 24 (.tmp 5) rfl _ rfl _ _ _ _ (blk_keep h2 hc (fun f => f)) Tryd.underlying24 rfl hi64 (hK.out _ _ (Chg.refl _ _) rfl)
      · intro u w hc hd K hK -- 24
        have h22 : (Fact.val (.agg (wds S1).toArray)).holds (u 22) w := hd.get 4 (by kernel_rfl)
        simp only [Fact.holds] at h22
        have h23 : (Fact.val (.agg (byts o).toArray)).holds (u 23) w := hd.get 5 (by kernel_rfl)
        simp only [Fact.holds] at h23
        have h21 : (Fact.val (.bool true)).holds (u 21) w := hd.get 3 (by kernel_rfl)
        simp only [Fact.holds] at h21
        clear hd
        simp only [h21, h22, h23] at hK
        go_simp
        go_at_call 10
        refine (step_any S1 o w (hTk.new hc) hS1 hlo hbo).mono ?_
        rintro e w1 ⟨rfl, cc_⟩
        rw [H2.out]
        exact hK.out _ _ (cc_) rfl
      · intro u w hc hd K hK -- 25
        have h21 : (Fact.val (.bool true)).holds (u 21) w := hd.get 3 (by kernel_rfl)
        simp only [Fact.holds] at h21
        clear hd
        rw [show Region.wanted _ _ = true from by simp [Region.wanted, yielded, h21]]
        exact wp_load_row 23 (.tmp 9) rfl _ rfl _ _ _ _ (blk_keep hR hc (fun f => f)) Tryd.underlying23 rfl hiS (hK.out _ _ (Chg.refl _ _) rfl)
      · intro u w hc hd K hK -- 26
        have h21 : (Fact.val (.bool true)).holds (u 21) w := hd.get 3 (by kernel_rfl)
        simp only [Fact.holds] at h21
        clear hd
        simp only [h21] at hK
        have hsl := slice_b64all w (w0.heap.size + 1 + 1)
        go_simp
        exact hK.out _ _ (Chg.refl _ _) rfl
      · intro u w hc hd K hK -- 27
        have h21 : (Fact.val (.bool true)).holds (u 21) w := hd.get 3 (by kernel_rfl)
        simp only [Fact.holds] at h21
        clear hd
        simp only [h21] at hK
        go_simp
        exact hK.out kv w (Chg.refl _ _) rfl
      · intro u w hc hd K hK -- 28
        have h25 : (Fact.val (.agg (wds S1).toArray)).holds (u 25) w := hd.get 7 (by kernel_rfl)
        simp only [Fact.holds] at h25
        have h26 : (Fact.val (.slice (some ⟨(w0.heap.size + 1 + 1), 0, none⟩) 64 64)).holds (u 26) w := hd.get 8 (by kernel_rfl)
        simp only [Fact.holds] at h26
        have h27 : (Fact.val kv).holds (u 27) w := hd.get 9 (by kernel_rfl)
        simp only [Fact.holds] at h27
        have h21 : (Fact.val (.bool true)).holds (u 21) w := hd.get 3 (by kernel_rfl)
        simp only [Fact.holds] at h21
        clear hd
        simp only [h21, h25, h26, h27] at hK
        go_simp
        go_at_call 11
        refine (refstep_any S1 o ⟨w0.heap.size + 1 + 1, 0, none⟩ 64 kv w hS1 (row8_blk (blk_keep h2 hc (fun f => f)) 64 64 hlo) hbo (hK7.new hc)).mono ?_
        rintro e w1 ⟨rfl, cc_⟩
        rw [H2.out]
        exact hK.out _ _ (cc_) rfl
      · intro u w hc hd K hK -- 29
        have h24 : (Fact.val (.agg (wds S2).toArray)).holds (u 24) w := hd.get 6 (by kernel_rfl)
        simp only [Fact.holds] at h24
        have h28 : (Fact.val (.agg (wds S2).toArray)).holds (u 28) w := hd.get 10 (by kernel_rfl)
        simp only [Fact.holds] at h28
        have h21 : (Fact.val (.bool true)).holds (u 21) w := hd.get 3 (by kernel_rfl)
        simp only [Fact.holds] at h21
        clear hd
        simp only [h21, h24, h28] at hK
        have hq := same8 w S2 hS2.len
        go_simp
        exact hK.out (.bool true) w (Chg.refl _ _) rfl
      · intro u w hc hd K hK -- 30
        have h21 : (Fact.val (.bool true)).holds (u 21) w := hd.get 3 (by kernel_rfl)
        simp only [Fact.holds] at h21
        have h29 : (Fact.val (.bool true)).holds (u 29) w := hd.get 11 (by kernel_rfl)
        simp only [Fact.holds] at h29
        clear hd
        simp only [h21, h29] at hK
        go_simp
        exact hK.out (.bool true) w (Chg.refl _ _) rfl
      · intro u w hc hd K hK -- 6
        have h30 : (Fact.val (.bool true)).holds (u 30) w := hd.get 12 (by kernel_rfl)
        simp only [Fact.holds] at h30
        clear hd
        simp only [h30] at hK
        go_simp
        exact hK.out (.bool true) w (Chg.refl _ _) rfl
    · intro u w hc hA
      have a6 : u 6 = _ := hA.at 6 (by kernel_rfl)
      clear hA
      go_wp2
      go_ret
      exact ⟨by rw [← a6]; rfl, chg_then c07 hc⟩
set_option maxRecDepth 100000 in
theorem lifted (os : Os) (started : os.Started) (H : Type) (enc : TypeId × Value → H) :
    ReturnsInHanded {} Tryd.checked os 3 .any (fun w args => (Rows.shaStepsSpec.pre enc Tryd.prog Tryd.f3 [] false w args ∧ laidMetH Tryd.prog [("pith/sha.constants", Rows.laid_pith_sha_constants)] w) ∧ sizedMet enc Tryd.prog Tryd.f3 (OpenSpec.ofChange Rows.shaStepsSpec) false w args)
      (Rows.shaStepsSpec.post enc Tryd.prog Tryd.f3 false true false false) := by
  refine returnsInHanded_of_change_and (C := Tryd.checked) (X := fun w _ => laidMetH Tryd.prog [("pith/sha.constants", Rows.laid_pith_sha_constants)] w) (fun _ _ _ hh h => h.of_heap hh) own started (by kernel_rfl) Tryd.func3
    (ChangeSpec.witness_shaped (enc := enc) (C := Tryd.checked) (os := os) (X := fun w _ => laidMetH Tryd.prog [("pith/sha.constants", Rows.laid_pith_sha_constants)] w) false (World.doorLaid Tryd.prog 400 os) #[.agg (wds (fill [] 8)).toArray, .agg (byts (fill [] 64)).toArray, .agg (byts (fill [] 64)).toArray] 8 rfl (World.shaped_of_RefB (by kernel_rfl) (by kernel_rfl)) (by kernel_rfl) (by kernel_rfl) (by kernel_rfl) (door_metK os _)) ?_
  intro W base args ds gs before hval0 hW _ hsz0 hL _
  have hsz : (DataW.weightsEach Tryd.prog (Tryd.f3.params.toList ++ Rows.shaStepsSpec.plain.varTypes Tryd.prog) (ds ++ gs)).all (· ≤ reachBytes) = true := hsz0
  clear hsz0
  have hT := tab_of_laidK hL
  have hval : ∀ (j : Nat) t v, Tryd.f3.params[j]? = some t → args[j]? = some v → Value.okWide Tryd.prog W .any base t v := hval0
  have hW' := hW
  obtain ⟨p, q, hA0, hV, rfl, hfz, hnd⟩ := hW
  have hA : DataW.TrodAll enc Tryd.prog W 0 (fun _ => true) true Tryd.f3.params.toList args.toList ds p := hA0
  rw [Tryd.params3] at hA hval hsz
  obtain ⟨v0, vs0, d0, ds0, p0, q0, hargs, rfl, rfl, h0, r0⟩ := trodAll_cons hA
  obtain ⟨v1, vs1, d1, ds1, p1, q1, rfl, rfl, rfl, h1, r1⟩ := trodAll_cons r0
  obtain ⟨v2, vs2, d2, ds2, p2, q2, rfl, rfl, rfl, h2, r2⟩ := trodAll_cons r1
  obtain ⟨rfl, rfl, rfl⟩ := trodAll_nil r2
  obtain rfl : args = #[v0, v1, v2] := by cases args; simp_all
  obtain ⟨rfl, rfl⟩ := trodVars_none hV
  obtain ⟨xs0, rfl, hx0, hy0⟩ := open_arr8 (hval 0 23 v0 rfl rfl) h0
  have k0 := h0
  have lt0 : ∀ x ∈ p0, x.block < W.heap.size := by obtain ⟨m, hm⟩ := k0; exact DataW.trod_lt m _ _ _ hm
  obtain ⟨xs1, rfl, hx1, hy1⟩ := open_arr64 (hval 1 24 v1 rfl rfl) h1
  have k1 := h1
  have lt1 : ∀ x ∈ p1, x.block < W.heap.size := by obtain ⟨m, hm⟩ := k1; exact DataW.trod_lt m _ _ _ hm
  obtain ⟨xs2, rfl, hx2, hy2⟩ := open_arr64 (hval 2 24 v2 rfl rfl) h2
  have k2 := h2
  have lt2 : ∀ x ∈ p2, x.block < W.heap.size := by obtain ⟨m, hm⟩ := k2; exact DataW.trod_lt m _ _ _ hm
  clear hA0 hval0
  refine (walk xs0 xs1 xs2 W hT ⟨hx0, hy0⟩ hx1 hy1 hx2 hy2).mono fun e W' ⟨he, hCC⟩ => ?_
  subst he
  have bel := below_of hCC
  exact ⟨_, rfl, _, _, _, [], _, [], hW', trodAll_mk1 (shut_bool Tryd.underlying4 _), (trodAll_cons_mk (Below.trod laidOut (by kernel_rfl) (of_decide_eq_true (by kernel_rfl)) k0 bel lt0) (trodAll_cons_mk (Below.trod laidOut (by kernel_rfl) (of_decide_eq_true (by kernel_rfl)) k1 bel lt1) (trodAll_cons_mk (Below.trod laidOut (by kernel_rfl) (of_decide_eq_true (by kernel_rfl)) k2 bel lt2) trodAll_mk0))), rfl, bel.frame _, fun h => by cases h⟩

theorem over : Rows.ShaStepsSaid :=
  OpenClaim.holds_of_wide 3 Tryd.f3 rfl rfl rfl rfl rfl rfl rfl ⟨rfl, rfl, rfl, rfl, rfl⟩ rfl rfl rfl rfl rfl (by kernel_rfl) Tryd.func3 (by kernel_rfl)
    (of_decide_eq_true (by kernel_rfl)) (by unfold Func.isWrapper; first | (rw [if_pos (by decide +kernel)]; kernel_rfl) | (rw [if_neg (by decide +kernel)]; exact ⟨rfl, rfl⟩))
    (fun os started H enc _ => lifted os started H enc)

theorem card : Rows.ShaStepsCardSaid :=
  Claim7.holds_tied_plain_at .later [] [.data] true (true, "8b1ae774ebd725d4824cf407a67ed38f8bdfd295c11d528f2d51c47d3ae0cc53") false
    over (fun _ h => by cases h) (by kernel_rfl) (fun _ h => by cases h) shaSteps_row_tie rfl ⟨rfl, rfl⟩ (by kernel_rfl) rfl
    (fun f fn hf hfn => by
      obtain rfl : f = 3 := Option.some.inj ((show Tryd.prog.funcNamed "pith/pithlaw04.ShaSteps" = some 3 by kernel_rfl).symm.trans hf) |>.symm
      obtain rfl : fn = Tryd.f3 := (Option.some.inj (Tryd.func3.symm.trans hfn)).symm
      exact ⟨by kernel_rfl, fun j t ht => by
        rw [Tryd.params3] at ht
        have hm : t ∈ [23, 24, 24] := by simpa using Array.mem_of_getElem? ht
        have hall : ([23, 24, 24].all fun u => !Tryd.prog.wantsStandIn u) = true := by kernel_rfl
        exact (show Tryd.prog.wantsStandIn t = false by simpa using List.all_eq_true.1 hall t hm)⟩)
    (by kernel_rfl)
end Go.Proofs.YtnedllhlmddmoaaDoor.shaSteps
namespace Go.Proofs.YtnedllhlmddmoaaDoor
theorem shaSteps_holds : Rows.ShaStepsCardSaid := shaSteps.card
#print axioms shaSteps_holds
end Go.Proofs.YtnedllhlmddmoaaDoor
