/- The room's next byte; of no statement by itself. -/
import Derived.Test.YtkncbanodpfccaaDoorHea
import Derived.Test.YtkncbanodpfccaaDoorWirm
import Derived.Test.YtkncbanodpfccaaDoorBoundD
import Derived.Deep.DeepCutAuto
import Derived.WalkLawsBesides
namespace Go.Proofs.YtkncbanodpfccaaDoor
open Go.RowKit
open St12
set_option linter.unusedVariables false
set_option linter.unusedSimpArgs false
/-- What a step gives up with. -/
def gaveH (e : Int) : List PanicEntry := [{ v := .iface 26 (.int .i64 e), recovered := false }]
/-- The room, whose reader lies at a. -/
def rmv (a : Nat) : Value := .agg #[.pointer (some ⟨a, 0, none⟩)]
theorem rd_alloc {B : Nat} {w : World} {a g off : Nat} {xs : List Int} (h : Wire.Rd B w a g xs off) (o : Obj) : Wire.Rd B (w.alloc o) a g xs off := h.keep (chg_one w o) (fun f => f) (fun f => f)
theorem chg_at {w w1 w2 : World} {a : Nat} (h : Chg (fun _ => False) w w1) (k : Chg (fun k => k = a) w1 w2) : Chg (fun k => k = a) w w2 := (h.mono (fun _ f => f.elim)).trans k (fun _ e => .inl e)
set_option maxHeartbeats 2000000 in
set_option maxRecDepth 100000 in
theorem next21_ok (B a g off : Nat) (xs : List Int) (x : Int) (w : World) (h : Wire.Rd B w a g xs off) (hb : off < xs.length) (hx : xs.getD off 0 = x) (h0 : 0 ≤ x) (h1 : x ≤ 255) : Calls Tryd.prog 69 #[rmv a] w fun e w' => e = .returned (.int .u8 x) ∧ Wire.Rd B w' a g xs (off + 1) ∧ Chg (fun k => k = a) w w' := by
  have HU : Hid _ := Wire.u8_ok B a g off xs x (w.alloc (.cells #[.pointer (some ⟨a, 0, none⟩)] 63)) (rd_alloc h _) hb hx h0 h1
  have cA := chg_one w (.cells #[.pointer (some ⟨a, 0, none⟩)] 63)
  have x0 : (w.alloc (.cells #[.pointer (some ⟨a, 0, none⟩)] 63)).cell? ⟨w.heap.size, 0, none⟩ = some (.pointer (some ⟨a, 0, none⟩)) := cell00 (heap_alloc_last w _)
  have HCA : Hid (Chg (fun _ => False) w (w.alloc (.cells #[.pointer (some ⟨a, 0, none⟩)] 63))) := cA
  unfold rmv
  clear h hx hb cA
  go_enter Tryd.func69, Tryd.ntmps69
  go_upto_region 1 with fail
  generalize w.alloc (.cells #[.pointer (some ⟨a, 0, none⟩)] 63) = w1 at *
  go_wp2_with fail
  refine Calls.mono HU.out ?_
  rintro z w2 ⟨rfl, hr, hc⟩
  have HR : Hid (Wire.Rd B w2 a g xs (off + 1)) := hr
  have HC : Hid (Chg (fun k => k = a) w w2) := chg_at HCA.out hc
  clear HU HCA hr hc x0
  have hw8 : IntKind.u8.wrap x = x := wr8 h0 h1
  go_wp2
  go_ret
  exact ⟨by first | rfl | (rw [hw8]) | go_num, HR.out, HC.out⟩
set_option maxHeartbeats 2000000 in
set_option maxRecDepth 100000 in
theorem next21_end (B a g off : Nat) (xs : List Int) (w : World) (h : Wire.Rd B w a g xs off) (hb : xs.length = off) : Calls Tryd.prog 69 #[rmv a] w fun e w' => e = .panicked (gaveH 2) ∧ Chg (fun k => k = a) w w' := by
  have HU : Hid _ := Wire.u8_end B a g off xs (w.alloc (.cells #[.pointer (some ⟨a, 0, none⟩)] 63)) (rd_alloc h _) hb
  have cA := chg_one w (.cells #[.pointer (some ⟨a, 0, none⟩)] 63)
  have x0 : (w.alloc (.cells #[.pointer (some ⟨a, 0, none⟩)] 63)).cell? ⟨w.heap.size, 0, none⟩ = some (.pointer (some ⟨a, 0, none⟩)) := cell00 (heap_alloc_last w _)
  have HCA : Hid (Chg (fun _ => False) w (w.alloc (.cells #[.pointer (some ⟨a, 0, none⟩)] 63))) := cA
  unfold rmv
  clear h hb cA
  go_enter Tryd.func69, Tryd.ntmps69
  go_upto_region 1 with fail
  generalize w.alloc (.cells #[.pointer (some ⟨a, 0, none⟩)] 63) = w1 at *
  go_wp2_with fail
  refine Calls.mono HU.out ?_
  rintro z w2 ⟨rfl, hr, hc⟩
  have HC : Hid (Chg (fun k => k = a) w w2) := chg_at HCA.out hc
  clear HU HCA hr hc x0
  go_wp2
  exact ⟨rfl, rfl, HC.out⟩
end Go.Proofs.YtkncbanodpfccaaDoor
