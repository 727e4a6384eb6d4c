/- Lists of bytes of one's own; of no statement by themselves. -/
import Derived.Test.YtikokgngkagieaaDoorCt
namespace Go.Proofs.YtikokgngkagieaaDoor
open Go.RowKit
set_option linter.unusedVariables false
set_option linter.unusedSimpArgs false
/-- Bytes of one's own. -/
def ByO (w : World) (B : Nat) (v : Value) (bs : List Nat) : Prop := w.ownsRow B 5 1 v bs.length (ins .u8 (nums bs))
theorem info5u : (Tryd.prog.info? 5).map (fun i => (i.zero, i.size, i.bytes)) = some (some (.int .u8 0), 1, 1) := by kernel_rfl
theorem elemBy : Tryd.prog.elem 22 = 5 := by kernel_rfl
theorem sizeBy : (sizeOf 5).run Tryd.prog = fun w => .ok 1 w := by kernel_rfl
theorem undBy : Tryd.prog.underlying 22 = some (.slice (Tryd.prog.elem 22)) := by kernel_rfl
theorem oneB (xs : List Nat) : ∀ u ∈ (nums xs).map (Value.int .u8), u.oneCell' = true := fun u hu => by
  obtain ⟨x, _, rfl⟩ := List.mem_map.1 hu
  rfl
/-- Two lists of bytes one behind the other, of one's own. -/
theorem byO_app {w : World} {B : Nat} {v : Value} {n : Nat} {a b : List Nat} (h : w.ownsRow B 5 1 v n ((nums a).map (Value.int .u8) ++ (nums b).map (Value.int .u8))) : ByO w B v (a ++ b) := by
  have hl := h.1
  unfold ByO
  rw [show ins .u8 (nums (a ++ b)) = (nums a).map (Value.int .u8) ++ (nums b).map (Value.int .u8) by simp [ins, nums]]
  have e : (a ++ b).length = n := by simp [nums] at hl ⊢; omega
  rw [e]
  exact h
theorem byO_row {w : World} {B n : Nat} {ad : Option Addr} {c : Nat} {bs : List Nat} (h : ByO w B (.slice ad n c) bs) : Row8 w ad n c (nums bs) ∧ bs.length = n ∧ n ≤ c := by
  have hf : bs.length = n := by
    rcases h.2 with ⟨e, e2⟩ | ⟨g, cap, cur, e, _⟩
    · simp only [Value.slice.injEq] at e; omega
    · simp only [Value.slice.injEq] at e; omega
  unfold ByO at h
  rw [hf] at h
  exact ⟨row8_own h, hf, own_cap h⟩
theorem byO_form {w : World} {B : Nat} {v : Value} {bs : List Nat} (h : ByO w B v bs) : ∃ ad c, v = .slice ad bs.length c := form1 h
theorem ByO.new {w w' : World} {B : Nat} {v : Value} {bs : List Nat} (h : ByO w B v bs) (hc : Chg (fun _ => False) w w') : ByO w' B v bs := ownsRow_keep h hc (fun _ _ f => f)
theorem row8_take {w : World} {ad : Option Addr} {n c i : Nat} {bs : List Nat} (h : Row8 w ad n c (nums bs)) (hi : i ≤ n) : Row8 w ad i c (nums (bs.take i)) := by
  have hl := h.1
  rw [nums_len] at hl
  refine ⟨by rw [nums_len, List.length_take]; omega, ?_⟩
  rcases h.2 with ⟨e1, e2, e3⟩ | ⟨x, e, hx⟩
  · exact .inl ⟨e1, by omega, e3⟩
  · refine .inr ⟨x, e, fun j u hu => hx j u ?_⟩
    rw [show nums (bs.take i) = (nums bs).take i by simp [nums, List.map_take]] at hu
    rw [List.map_take, List.getElem?_take] at hu
    split at hu
    · exact hu
    · cases hu
theorem wr8 {x : Int} (h0 : 0 ≤ x) (h1 : x ≤ 255) : IntKind.u8.wrap x = x := by simp [IntKind.wrap, IntKind.signed, IntKind.bits]; omega
theorem byO_nil (w : World) (B : Nat) : ByO w B (.slice none 0 0) [] := World.ownsRow_nil _ _ _ _
theorem byO_lit (w0 : World) (o : Obj) (l : List Nat) (n : Nat) (hn : l.length = n) (hm : n ≤ 1000) (vs : Array Value) (hv : vs.toList = ins .u8 (nums l)) : ByO ((w0.alloc o).alloc (.cells vs 5)) w0.heap.size (.slice (some ⟨w0.heap.size + 1, 0, none⟩) n n) l := by
  have e : (w0.alloc o).heap.size = w0.heap.size + 1 := by simp
  rw [← e]
  refine owns_base (B := (w0.alloc o).heap.size) ?_ (by omega)
  rw [hn]
  generalize w0.alloc o = w at *
  have h := World.ownsRow_lit (base := w.heap.size) (e := 5) (size := 1) w vs n (Nat.le_refl _) (by unfold maxLen; omega) (by rw [← Array.length_toList, hv, ins_len, nums_len, hn]; omega)
  rw [hv] at h
  exact h
/-- Bytes by their numbers. -/
theorem row8_at {w : World} {ad : Option Addr} {n c : Nat} {bs : List Nat} (h : Row8 w ad n c (nums bs)) (hn : 0 < n) : ∃ b off, ad = some ⟨b, off, none⟩ ∧ ∀ i, i < n → w.cell? ⟨b, off + i, none⟩ = some (.int .u8 ((bs.getD i 0 : Nat) : Int)) := by
  have hl := h.1
  rw [nums_len] at hl
  rcases h.2 with ⟨_, e, _⟩ | ⟨x, e, hx⟩
  · omega
  · have key : ∀ i, i < n → w.cell? (x.add i) = some (.int .u8 ((bs.getD i 0 : Nat) : Int)) := fun i hi => by
      refine hx i _ ?_
      have h9 : bs[i]? = some (bs.getD i 0) := by rw [List.getD_eq_getElem?_getD, List.getElem?_eq_getElem (by omega)]; rfl
      simp only [nums, List.map_map, List.getElem?_map, h9]
      rfl
    obtain ⟨b, off, sp⟩ := x
    have hs : sp = none := by
      have q := key 0 hn
      simp [Addr.add] at q
      exact World.cell?_spot q
    subst hs
    refine ⟨b, off, e, fun i hi => ?_⟩
    have q := key i hi
    rw [addk] at q
    exact q
end Go.Proofs.YtikokgngkagieaaDoor
