/- Lists of matches in memory; the law's same and known; of no statement by themselves. -/
import Derived.Test.YtkdionoelbiidaaFa
import Derived.Test.YtkdionoelbiidaaFb
import Derived.Laws.StructEq
import Derived.Lib.SlBytesConst
namespace Go.Proofs.Ytkdionoelbiidaa
open Go.RowKit
set_option linter.unusedVariables false

theorem add_at (g j : Nat) : (⟨g, 0, none⟩ : Addr).add j = ⟨g, j, none⟩ := by
  unfold Addr.add
  split
  · rename_i h; rw [h]
  · simp
/-- A list of matches in memory. -/
def MRow (w : World) (ad : Option Addr) (ms : List (Nat × Nat)) : Prop := ∀ k m, ms[k]? = some m → ∃ g, ad = some ⟨g, 0, none⟩ ∧ w.cell? ⟨g, k * 2, none⟩ = some (.int .i64 (m.1 : Int)) ∧ w.cell? ⟨g, k * 2 + 1, none⟩ = some (.int .i64 (m.2 : Int))
theorem mrow_own {w : World} {B : Nat} {ad : Option Addr} {n c : Nat} {ms : List (Nat × Nat)} (h : w.ownsRow B 30 2 (.slice ad n c) n (mcells ms)) : MRow w ad ms := fun k m hk => by
  obtain ⟨h1, h2⟩ := mcells_at ms k m hk
  rcases h.2 with ⟨e0, e1⟩ | ⟨g, cap, cur, e0, _⟩
  · have := h.1
    rw [e1] at this
    have h3 := (List.getElem?_eq_some_iff.1 h1).1
    omega
  · simp only [Value.slice.injEq, true_and] at e0
    obtain ⟨rfl, rfl⟩ := e0
    have e1 := h.cells (g := g) rfl _ _ h1
    have e2 := h.cells (g := g) rfl _ _ h2
    rw [add_at, Nat.mul_comm] at e1
    rw [add_at, Nat.mul_comm] at e2
    exact ⟨g, rfl, e1, e2⟩
theorem MRow.new {w w' : World} {ad : Option Addr} {ms : List (Nat × Nat)} (h : MRow w ad ms) (hc : Chg (fun _ => False) w w') : MRow w' ad ms := fun k m hk => by
  obtain ⟨g, h1, h2, h3⟩ := h k m hk
  exact ⟨g, h1, cell_chg h2 hc, cell_chg h3 hc⟩
theorem MRow.take {w : World} {ad : Option Addr} {ms : List (Nat × Nat)} (h : MRow w ad ms) (j : Nat) : MRow w ad (ms.take j) := fun k m hk => h k m (by
  rw [List.getElem?_take] at hk
  split at hk
  · exact hk
  · cases hk)
set_option maxHeartbeats 2000000 in
set_option maxRecDepth 100000 in
theorem same_q (a1 a2 : Option Addr) (c1 c2 L : Nat) (ms : List (Nat × Nat)) (w : World) (h1 : MRow w a1 ms) (h2 : MRow w a2 ms) (hl : ms.length = L) (hL : L ≤ 64) : Calls Try.prog 15 #[.slice a1 L c1, .slice a2 L c2] w fun e w' => e = .returned (.bool true) ∧ ∃ k, w' = w.drewN k := by
  have H1 : Hid (MRow w a1 ms) := h1
  have H2 : Hid (MRow w a2 ms) := h2
  have HL : Hid (ms.length = L) := hl
  clear h1 h2 hl
  go_enter Try.func15, Try.ntmps15
  go_wp2_with fail
  go_loopw [13] (fun v wr => ∃ k q : Nat, k ≤ L ∧ v = .int .i64 (k : Int) ∧ wr = w.drewN q) (fun v _ => L - (intOf v).toNat)
  case atStart => exact ⟨0, 0, Nat.zero_le _, rfl, rfl⟩
  case round =>
    obtain ⟨k, q, hk, rfl, rfl⟩ := hrel
    by_cases hlt : k < L
    · have hd : decide (k < L) = true := decide_eq_true hlt
      obtain ⟨m, hm⟩ : ∃ m, ms[k]? = some m := ⟨_, List.getElem?_eq_getElem (by rw [HL.out]; exact hlt)⟩
      obtain ⟨g1, e1, x1, y1⟩ := H1.out k m hm
      obtain ⟨g2, e2, x2, y2⟩ := H2.out k m hm
      subst e1
      subst e2
      clear hm
      go_wp2_with fail
      go_quiet (fail)
      go_wp2_with fail
      go_roundw
      case rel => exact ⟨k + 1, _, by omega, by go_num, rfl⟩
      case measure => simp [intOf]; omega
    · have hd : decide (k < L) = false := decide_eq_false hlt
      go_wp2
      go_ret
      exact ⟨rfl, _, rfl⟩

section
variable {Γ : Type} {le : Γ → Γ → Prop} {foot : Γ → Nat → Prop} {mp : Γ → Nat} {Fin : Γ → World → Nat → Nat → List Nat → Nat → Nat → Prop} {Sq : World → Value → (Nat → Prop) → Nat → Int → Prop}
def abcs : List Nat := [97, 98, 99, 97, 98, 99, 97, 98, 99, 100]
theorem abcs_six : bestM (mat abcs 4096 3 273) = (6, 3) := by decide +kernel
theorem abcs_four : bestM (mat abcs 4096 3 4) = (4, 3) := by decide +kernel
theorem pF_ne (x : Addr) (w : World) : (binOp .eql 23 (.pointer (some x)) (.pointer none)).run Try.prog w = .ok (.bool false) w := by kernel_rfl
theorem pF_nil (w : World) : (binOp .eql 23 (.pointer none) (.pointer none)).run Try.prog w = .ok (.bool true) w := by kernel_rfl
theorem row8_lit (w : World) (xs : List Int) (t : TypeId) (fr : Nat × Nat) (m c : Nat) (hm : xs.length = m) : Row8 (w.alloc (.cells (xs.map (Value.int .u8)).toArray t fr)) (some ⟨w.heap.size, 0, none⟩) m c xs := by
  have hb := heap_alloc_last w (.cells (xs.map (Value.int .u8)).toArray t fr)
  refine ⟨hm, .inr ⟨_, rfl, fun j u hu => ?_⟩⟩
  rw [add_at]
  simp only [World.cell?, hb]
  simpa using hu
/-- The bytes of a constant text: the walk's conversion, at the world in which they are laid. -/
theorem conv_const (w : World) (xs : List Int) (n c g : Nat) (hg : g = w.heap.size) : (convert 22 22 (.slice (some ⟨g, 0, none⟩) n c)).run Try.prog (w.alloc (.cells (xs.map (Value.int .u8)).toArray 5)) = .ok (.slice (some ⟨g, 0, none⟩) n c) (w.alloc (.cells (xs.map (Value.int .u8)).toArray 5 (xs.length, xs.length + 1))) := by
  subst hg
  have := Lib.run_convert_bytes_const (P := Try.prog) w 22 5 (xs.map (Value.int .u8)).toArray n c Try.underlying22 Try.underlying5
  simpa using this
set_option maxHeartbeats 2000000 in
set_option maxRecDepth 100000 in
theorem known_any (S : FinSpec le foot mp Fin Sq) (w : World) : Calls Try.prog 14 #[] w fun e w' => e = .returned (.bool true) ∧ Chg (fun _ => False) w w' := by
  have v0 := conv_const w [97, 98, 99, 97, 98, 99, 97, 98, 99, 100] 10 10 w.heap.size rfl
  have HN : Hid _ := S.newIn (some ⟨w.heap.size, 0, none⟩) 10 10 abcs 4096 (w.alloc (.cells (List.map (Value.int .u8) [97, 98, 99, 97, 98, 99, 97, 98, 99, 100]).toArray 5 (10, 11))) (row8_lit w [97, 98, 99, 97, 98, 99, 97, 98, 99, 100] 5 (10, 11) 10 10 rfl) (by unfold Rc.Dig abcs; decide) (by omega) (by omega) (by omega) (by omega)
  simp only [List.map_cons, List.map_nil, List.length_cons, List.length_nil, Nat.reduceAdd] at v0 HN
  have hne := pF_ne
  have hfn := func_nil
  go_enter Try.func14, Try.ntmps14
  go_wp2_with fail
  refine Calls.mono HN.out ?_
  rintro z w1 ⟨γ, a, rfl, hf1, c1⟩
  have HC1 : Hid (Chg (fun _ => False) w w1) := chg_then (chg_one _ _) c1
  have HF1 : Hid (Fin γ w1 (w.heap.size + 1) a abcs 4096 0) := by have := hf1; rwa [World.size_alloc] at this
  clear hf1 c1 HN v0
  go_wp2_with fail
  refine (num_any _ _).mono ?_
  rintro z w2 ⟨rfl, rfl⟩
  go_wp2_with fail
  refine (S.skipIn γ (w.heap.size + 1) a abcs 4096 0 3 w1 HF1.out (by have := (S.mpLt HF1.out); omega) (by decide)).mono ?_
  rintro z w2 ⟨rfl, γ2, hw2, hf2⟩
  have HC2 : Hid (Chg (fun _ => False) w w2) := HC1.out.trans hw2.chg (fun z f => .inr (by have := (S.lt HF1.out z f).1; omega))
  have HF2 : Hid (Fin γ2 w2 (w.heap.size + 1) a abcs 4096 3) := hf2
  clear hw2 hf2 HC1 HF1
  go_wp2_with fail
  refine (num_any _ _).mono ?_
  rintro z w3 ⟨rfl, rfl⟩
  go_wp2_with fail
  refine (S.mats γ2 (w.heap.size + 1) a abcs 4096 3 273 w2 HF2.out (by unfold I64; omega)).mono ?_
  rintro z w3 ⟨v, sf, rfl, hsq, c3, _⟩
  obtain ⟨gf, lb, hv, _, _⟩ := S.iter hsq
  subst hv
  have HC3 : Hid (Chg (fun _ => False) w w3) := chg_then HC2.out c3
  have HF3 : Hid (Fin γ2 w3 (w.heap.size + 1) a abcs 4096 3) := S.new HF2.out c3
  clear hsq c3 HC2 HF2
  go_wp2_with fail
  refine (S.best γ2 (w.heap.size + 1) a abcs 4096 3 273 w3 HF3.out (by unfold I64; omega)).mono ?_
  rw [abcs_six]
  rintro z w4 ⟨rfl, c4⟩
  have HC4 : Hid (Chg (fun _ => False) w w4) := chg_then HC3.out c4
  have HF4 : Hid (Fin γ2 w4 (w.heap.size + 1) a abcs 4096 3) := S.new HF3.out c4
  clear c4 HC3 HF3
  unfold mval
  go_wp2_with fail
  refine (S.best γ2 (w.heap.size + 1) a abcs 4096 3 4 w4 HF4.out (by unfold I64; omega)).mono ?_
  rw [abcs_four]
  rintro z w5 ⟨rfl, c5⟩
  have HC5 : Hid (Chg (fun _ => False) w w5) := chg_then HC4.out c5
  clear c5 HC4 HF4
  unfold mval
  go_wp2
  go_ret
  exact ⟨rfl, HC5.out⟩
end
end Go.Proofs.Ytkdionoelbiidaa
