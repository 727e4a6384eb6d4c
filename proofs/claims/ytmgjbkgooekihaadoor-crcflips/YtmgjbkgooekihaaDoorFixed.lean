/- The sums that the document fixes: the contract of fixed; of no statement by itself. -/
import Derived.Test.YtmgjbkgooekihaaDoorPatch
import Derived.Lib.SlBytesConst
namespace Go.Proofs.YtmgjbkgooekihaaDoor
open Go.RowKit

/-- A list of bytes that was just made. -/
theorem row8_new (w : World) (xs : List Int) (t : TypeId) (fr : Nat × Nat) (m c : Nat) (hm : xs.length = m) : Row8 (w.alloc (.cells (xs.map (Value.int .u8)).toArray t fr)) (some ⟨w.heap.size, 0, none⟩) m c xs := by
  refine ⟨hm, .inr ⟨_, rfl, fun j u hu => ?_⟩⟩
  have hadd : (⟨w.heap.size, 0, none⟩ : Addr).add j = ⟨w.heap.size, j, none⟩ := by unfold Addr.add; split <;> simp_all
  rw [hadd, cell_of_row _ w.heap.size j _ t fr (heap_alloc_last w _)]
  simpa using hu

/-- The bytes of a constant text: the walk's conversion, at the world in which they are laid. -/
theorem conv_const (w : World) (xs : List Int) (n c g : Nat) (hg : g = w.heap.size) :
    (convert 22 22 (.slice (some ⟨g, 0, none⟩) n c)).run Tryd.prog (w.alloc (.cells (xs.map (Value.int .u8)).toArray 5)) = .ok (.slice (some ⟨g, 0, none⟩) n c) (w.alloc (.cells (xs.map (Value.int .u8)).toArray 5 (xs.length, xs.length + 1))) := by
  subst hg
  have := Lib.run_convert_bytes_const (P := Tryd.prog) w 22 5 (xs.map (Value.int .u8)).toArray n c Tryd.underlying22 Tryd.underlying5
  simpa using this

theorem row8_chg {w w' : World} {ad : Option Addr} {m c : Nat} {xs : List Int} (h : Row8 w ad m c xs) (hc : Chg (fun _ => False) w w') : Row8 w' ad m c xs :=
  row8_keep h hc (fun _ _ f => f)

theorem chg_one (w : World) (o : Obj) : Chg (fun _ => False) w (w.alloc o) := (Chg.refl _ w).alloc o

/-- The nine digits. -/
def nine : List Nat := [49, 50, 51, 52, 53, 54, 55, 56, 57]

theorem nine_byt : Byt nine := by unfold Byt nine; decide
theorem nine32 : Crc.more Crc.P32 32 0 [nine].flatten = 3421780262 := by decide +kernel
theorem nine64 : Crc.more Crc.P64 64 0 [nine].flatten = 11051210869376104954 := by decide +kernel
theorem join5 : Crc.itr Crc.P32 (8 * 5) 2615402659 ^^^ 320708720 = 3421780262 := by decide +kernel
theorem pith64 : 15468689252980914334 ^^^ Crc.itr Crc.P64 (8 * (4 - 1 - 1)) (Crc.raw Crc.P64 0 (diff [105] [97])) = 13559344057331288131 := by decide +kernel

set_option maxHeartbeats 1000000 in
theorem fixed_any (w : World) (hT : Tab w) : Calls Tryd.prog 11 #[] w fun e w' => e = .returned (.bool true) ∧ Chg (fun _ => False) w w' := by
  have v0 := conv_const w [49, 50, 51, 52, 53, 54, 55, 56, 57] 9 9 w.heap.size rfl
  have r0 : Row8 _ _ 9 9 (up nine) := row8_new w [49, 50, 51, 52, 53, 54, 55, 56, 57] 5 (9, 10) 9 9 rfl
  have c0 := chg_one w (.cells (List.map (Value.int .u8) [49, 50, 51, 52, 53, 54, 55, 56, 57]).toArray 5 (9, 10))
  have hT0 := hT.new c0
  simp only [List.map_cons, List.map_nil, List.length_cons, List.length_nil, Nat.reduceAdd] at v0 r0 c0 hT0
  clear hT
  go_enter Tryd.func11, Tryd.ntmps11
  go_wp2_with fail
  refine (join32_yes 2615402659 320708720 5 _ hT0 (by decide) (by decide) (by decide)).mono ?_
  rintro e w1 ⟨rfl, c1⟩
  rw [join5]
  have hT1 := hT0.new c1
  have c01 := chg_then c0 c1
  have r1 := row8_chg r0 c1
  clear r0 hT0 c0 c1 v0
  have v1 := conv_const w1 [105] 1 1 w1.heap.size rfl
  have v2 := conv_const (w1.alloc (.cells #[.int .u8 105] 5 (1, 2))) [97] 1 1 (w1.heap.size + 1) (by simp)
  have ra : Row8 (w1.alloc (.cells #[.int .u8 105] 5 (1, 2))) (some ⟨w1.heap.size, 0, none⟩) 1 1 (up [105]) := row8_new w1 [105] 5 (1, 2) 1 1 rfl
  have rb : Row8 ((w1.alloc (.cells #[.int .u8 105] 5 (1, 2))).alloc (.cells #[.int .u8 97] 5 (1, 2))) (some ⟨w1.heap.size + 1, 0, none⟩) 1 1 (up [97]) := by
    have := row8_new (w1.alloc (.cells #[.int .u8 105] 5 (1, 2))) [97] 5 (1, 2) 1 1 rfl
    simp at this
    exact this
  have ca := chg_one w1 (.cells #[.int .u8 105] 5 (1, 2))
  have cb := chg_one (w1.alloc (.cells #[.int .u8 105] 5 (1, 2))) (.cells #[.int .u8 97] 5 (1, 2))
  have ra' := row8_chg ra cb
  have cab := chg_then ca cb
  have hT2 := hT1.new cab
  have r2 := row8_chg r1 cab
  have c02 := chg_then c01 cab
  clear ra ca cb cab r1 hT1 c01
  simp only [List.map_cons, List.map_nil, List.length_cons, List.length_nil, Nat.reduceAdd] at v1 v2
  generalize hw2 : (w1.alloc (.cells #[.int .u8 105] 5 (1, 2))).alloc (.cells #[.int .u8 97] 5 (1, 2)) = w2 at *
  go_wp2_with fail
  refine (patch64_any 15468689252980914334 4 1 1 _ _ 1 1 [105] [97] w2 hT2 (by decide) ra' rb (by unfold Byt; decide) (by unfold Byt; decide) (by decide) (by decide)).mono ?_
  rintro e w3 ⟨rfl, c3⟩
  rw [pith64]
  have hT3 := hT2.new c3
  have r3 := row8_chg r2 c3
  have c03 := chg_then c02 c3
  clear hw2 ra' rb r2 hT2 c3 c02 v1 v2
  go_wp2_with fail
  refine (sum32_any _ 1 1 [nine] _ (hT3.new (chg_one w3 _)) (pieces_one 22 ⟨_, 9, 9, rfl, r3, nine_byt, by decide⟩) rfl (by decide)).mono ?_
  rintro e w4 ⟨rfl, rfl⟩
  rw [nine32]
  have hT4 := hT3.new (chg_one w3 (.cells #[.slice (some ⟨w.heap.size, 0, none⟩) 9 9] 22))
  have r4 := row8_chg r3 (chg_one w3 (.cells #[.slice (some ⟨w.heap.size, 0, none⟩) 9 9] 22))
  have c04 := chg_then c03 (chg_one w3 (.cells #[.slice (some ⟨w.heap.size, 0, none⟩) 9 9] 22))
  clear hT3 r3 c03
  generalize hw4 : w3.alloc (.cells #[.slice (some ⟨w.heap.size, 0, none⟩) 9 9] 22) = w4 at *
  go_wp2_with fail
  refine (sum64_any _ 1 1 [nine] _ (hT4.new (chg_one w4 _)) (pieces_one 22 ⟨_, 9, 9, rfl, r4, nine_byt, by decide⟩) rfl (by decide)).mono ?_
  rintro e w5 ⟨rfl, rfl⟩
  rw [nine64]
  go_wp2
  go_ret
  exact ⟨rfl, chg_then c04 (chg_one w4 _)⟩
end Go.Proofs.YtmgjbkgooekihaaDoor
