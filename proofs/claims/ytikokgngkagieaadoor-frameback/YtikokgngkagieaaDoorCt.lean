/- Cuts of lists of any kind; of no statement by themselves. -/
import Derived.Test.YtikokgngkagieaaDoorWb
namespace Go.Proofs.YtikokgngkagieaaDoor
open Go.RowKit
set_option linter.unusedVariables false

/-- Where a cut begins. -/
def cutZ (ad : Option Addr) (c lo size : Nat) : Option Addr := if c = lo then ad else ad.map (·.add (lo * size))
theorem addr_add00 (x : Addr) : x.add 0 = x := by unfold Addr.add; simp
theorem run_cutZ_lo {T E : TypeId} {size : Nat} (hu : Tryd.prog.underlying T = some (.slice (Tryd.prog.elem T))) (he : Tryd.prog.elem T = E) (hs : (sizeOf E).run Tryd.prog = fun w => .ok size w) (ad : Option Addr) (m c k : Nat) (w : World) (hk : k ≤ m) : (Instr.sliceAt T (.slice ad m c) (some (.int .i64 (k : Int))) none none).run Tryd.prog w = .ok (.slice (cutZ ad c k size) (m - k) (c - k)) w := by
  rw [run_sliceAt_slice w T _ _ _ _ hu, run_slice_l w T ad m c hu .i64 (k : Int) (by omega) (by omega), he, hs]
  unfold cutZ sliced
  simp [Result.andThen]
theorem run_cutZ_hi {T E : TypeId} {size : Nat} (hu : Tryd.prog.underlying T = some (.slice (Tryd.prog.elem T))) (he : Tryd.prog.elem T = E) (hs : (sizeOf E).run Tryd.prog = fun w => .ok size w) (ad : Option Addr) (m c k : Nat) (w : World) (hk : k ≤ c) : (Instr.sliceAt T (.slice ad m c) none (some (.int .i64 (k : Int))) none).run Tryd.prog w = .ok (.slice ad k c) w := by
  rw [run_sliceAt_slice w T _ _ _ _ hu, run_slice_h w T ad m c hu .i64 (k : Int) (by omega) (by omega), he, hs]
  unfold sliced
  simp [Result.andThen]
  cases ad <;> simp [addr_add00]
theorem owns_keepZ {w w' : World} {B size : Nat} {e : TypeId} {v : Value} {n : Nat} {xs : List Value} (h : w.ownsRow B e size v n xs) (hc : Chg (fun _ => False) w w') : w'.ownsRow B e size v n xs := by
  refine ⟨h.1, ?_⟩
  rcases h.2 with hn | ⟨g, cap, cur, rfl, hb, hgg, rest⟩
  · exact .inl hn
  · exact .inr ⟨g, cap, cur, rfl, hb, (hc.block g (lt_of_blk hgg) (fun f => f)).trans hgg, rest⟩
/-- The end of a list of one's own, as a source. -/
theorem from_end {w : World} {B size : Nat} {t : TypeId} {ad : Option Addr} {n c k : Nat} {xs : List Value} (h : w.ownsRow B t size (.slice ad n c) n xs) (hk : k ≤ n) : From w (cutZ ad c k size) (n - k) (c - k) size (xs.drop (k * size)) := by
  refine ⟨by rw [List.length_drop, h.1, Nat.sub_mul], ?_⟩
  rcases h.2 with ⟨e0, e1⟩ | ⟨g, cap, cur, e0, e1⟩
  · simp only [Value.slice.injEq] at e0
    obtain ⟨rfl, rfl, rfl⟩ := e0
    obtain rfl : k = 0 := by omega
    exact .inl ⟨by unfold cutZ; simp, rfl, rfl⟩
  · simp only [Value.slice.injEq, true_and] at e0
    obtain ⟨rfl, rfl⟩ := e0
    have hc := e1.2.2.1
    unfold cutZ
    by_cases e : c = k
    · rw [if_pos e]
      refine .inr ⟨_, rfl, fun j u hu => ?_⟩
      exfalso
      have h1 := (List.getElem?_eq_some_iff.1 hu).1
      rw [List.length_drop, h.1] at h1
      obtain rfl : k = n := by omega
      omega
    · rw [if_neg e]
      refine .inr ⟨_, rfl, fun j u hu => ?_⟩
      rw [List.getElem?_drop] at hu
      have h1 := h.cells (g := g) rfl _ _ hu
      rw [addk, Nat.zero_add] at h1
      show w.cell? (((⟨g, 0, none⟩ : Addr).add (k * size)).add j) = some u
      rw [addk, addk, Nat.zero_add]
      exact h1
theorem from_front {w : World} {B size : Nat} {t : TypeId} {ad : Option Addr} {n c k : Nat} {xs : List Value} (h : w.ownsRow B t size (.slice ad n c) n xs) (hk : k ≤ n) : From w ad k c size (xs.take (k * size)) := by
  have hl : (xs.take (k * size)).length = k * size := by
    rw [List.length_take, h.1]
    exact Nat.min_eq_left (Nat.mul_le_mul_right _ hk)
  refine ⟨hl, ?_⟩
  rcases h.2 with ⟨e0, e1⟩ | ⟨g, cap, cur, e0, e1⟩
  · simp only [Value.slice.injEq] at e0
    obtain ⟨rfl, rfl, rfl⟩ := e0
    exact .inl ⟨rfl, by omega, rfl⟩
  · simp only [Value.slice.injEq, true_and] at e0
    obtain ⟨rfl, rfl⟩ := e0
    refine .inr ⟨_, rfl, fun j u hu => ?_⟩
    have h2 := (List.getElem?_eq_some_iff.1 hu).1
    rw [List.getElem?_take_of_lt (by omega)] at hu
    exact h.cells (g := g) rfl _ _ hu
end Go.Proofs.YtikokgngkagieaaDoor
