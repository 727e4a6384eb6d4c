/- The sum that everybody knows: the contract of the statements' known; of no statement by itself. -/
import Derived.Test.YtnedllhlmddmoaaDoorStr
import Derived.Test.YtnedllhlmddmoaaDoorAbc
import Derived.Test.YtnedllhlmddmoaaDoorEq
namespace Go.Proofs.YtnedllhlmddmoaaDoor
open Go.RowKit
set_option linter.unusedVariables false

theorem slice_b32 (w : World) (a : Nat) : (Instr.sliceAt 33 (.pointer (some ⟨a, 0, none⟩)) none none none).run Tryd.prog w = .ok (.slice (some ⟨a, 0, none⟩) 32 32) w := by
  have h1 := run_sliceAt_array_all (P := Tryd.prog) w 33 ⟨a, 0, none⟩ Tryd.underlying33
  have h2 : Tryd.prog.arrayLen 33 = 32 := by kernel_rfl
  have h3 : (sizeOf (Tryd.prog.elem 33)).run Tryd.prog w = .ok 1 w := by
    have h4 : Tryd.prog.elem 33 = 5 := by kernel_rfl
    have h5 : (Tryd.prog.info? 5).map (·.size) = some 1 := by kernel_rfl
    rw [h4]
    cases hq : Tryd.prog.info? 5 with
    | none => simp [hq] at h5
    | some i => simp [sizeOf, typeInfo, hq] at h5 ⊢; exact h5
  rw [h1, h3, h2]
  rfl

theorem abc_str : strOfNums (up Sha.abcD) = { data := #[186, 120, 22, 191, 143, 1, 207, 234, 65, 65, 64, 222, 93, 174, 34, 35, 176, 3, 97, 163, 150, 23, 122, 156, 180, 16, 255, 97, 242, 0, 21, 173] } := by decide +kernel

set_option maxHeartbeats 4000000 in
set_option maxRecDepth 100000 in
theorem lawknown_any (w : World) (hT : Tab w) : Calls Tryd.prog 12 #[] w fun e w' => e = .returned (.bool true) ∧ Chg (fun _ => False) w w' := by
  have v0 := conv_const w [97, 98, 99] 3 3 w.heap.size rfl
  have r0 : Row8 _ _ 3 3 (up [97, 98, 99]) := row8_new w [97, 98, 99] 5 (3, 4) 3 3 rfl
  have c0 := chg_one w (.cells (List.map (Value.int .u8) [97, 98, 99]).toArray 5 (3, 4))
  have hT0 := hT.new c0
  simp only [List.map_cons, List.map_nil, List.length_cons, List.length_nil, Nat.reduceAdd] at v0 r0 c0 hT0
  clear hT
  go_enter Tryd.func12, Tryd.ntmps12
  go_wp2_with fail
  have p1 := pieces_one 29 ⟨_, 3, 3, rfl, r0, by unfold Byt; decide, by decide⟩
  have c1 := chg_then c0 (chg_one _ (.cells #[.slice (some ⟨w.heap.size, 0, none⟩) 3 3] 29))
  have hT1 := hT0.new (chg_one _ (.cells #[.slice (some ⟨w.heap.size, 0, none⟩) 3 3] 29))
  simp only [World.size_alloc] at p1
  clear v0 r0 c0 hT0
  generalize (w.alloc (.cells #[.int .u8 97, .int .u8 98, .int .u8 99] 5 (3, 4))).alloc (.cells #[.slice (some ⟨w.heap.size, 0, none⟩) 3 3] 29) = w1 at *
  refine (sum_some _ 1 1 [[97, 98, 99]] w1 hT1 p1 rfl (by decide) (by decide)).mono ?_
  rintro e w2 ⟨rfl, c2⟩
  rw [show [[97, 98, 99]].flatten = [97, 98, 99] from rfl, Sha.abc_sum]
  have c02 := chg_then c1 c2
  clear p1 c1 hT1 c2
  have hr3 : (w2.alloc (.cells (byts (List.replicate 32 0)).toArray 33)).heap[w2.heap.size]? = some (.cells (byts (List.replicate 32 0)).toArray 33 (0, 0)) := heap_alloc_last _ _
  have hi3 : (Tryd.prog.info? 33).map (·.size) = some (byts Sha.abcD).toArray.size := infoB32
  have hset := World.setRow_alloc_new w2 (byts (List.replicate 32 0)).toArray (byts Sha.abcD).toArray 33
  have hsl := slice_b32 (w2.alloc (.cells (byts Sha.abcD).toArray 33)) w2.heap.size
  have hcv := conv8_here (row8_blk (heap_alloc_last w2 (.cells (byts Sha.abcD).toArray 33)) 32 32 rfl)
  rw [abc_str] at hcv
  have c3 := chg_then c02 (chg_one w2 (.cells (byts Sha.abcD).toArray 33))
  have HZ : (byts (List.replicate 32 0)).toArray = #[.int .u8 0, .int .u8 0, .int .u8 0, .int .u8 0, .int .u8 0, .int .u8 0, .int .u8 0, .int .u8 0, .int .u8 0, .int .u8 0, .int .u8 0, .int .u8 0, .int .u8 0, .int .u8 0, .int .u8 0, .int .u8 0, .int .u8 0, .int .u8 0, .int .u8 0, .int .u8 0, .int .u8 0, .int .u8 0, .int .u8 0, .int .u8 0, .int .u8 0, .int .u8 0, .int .u8 0, .int .u8 0, .int .u8 0, .int .u8 0, .int .u8 0, .int .u8 0] := rfl
  rw [HZ] at hr3 hset
  clear HZ
  have hz3 : #[Value.int .u8 0, .int .u8 0, .int .u8 0, .int .u8 0, .int .u8 0, .int .u8 0, .int .u8 0, .int .u8 0, .int .u8 0, .int .u8 0, .int .u8 0, .int .u8 0, .int .u8 0, .int .u8 0, .int .u8 0, .int .u8 0, .int .u8 0, .int .u8 0, .int .u8 0, .int .u8 0, .int .u8 0, .int .u8 0, .int .u8 0, .int .u8 0, .int .u8 0, .int .u8 0, .int .u8 0, .int .u8 0, .int .u8 0, .int .u8 0, .int .u8 0, .int .u8 0].size = (byts Sha.abcD).toArray.size := rfl
  have hone := byts_one Sha.abcD
  generalize byts Sha.abcD = D at *
  go_wp2_with (refine wpList_store_row rfl 33 (.tmp 1) (.tmp 5) rfl w2.heap.size _ rfl rfl 33 _ hr3 hi3 hz3 hone ?_)
  go_ret
  exact ⟨rfl, c3⟩
end Go.Proofs.YtnedllhlmddmoaaDoor
