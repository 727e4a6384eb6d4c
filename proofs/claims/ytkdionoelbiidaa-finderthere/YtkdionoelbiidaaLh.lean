/- slices.Backward over a list of places; of no statement by itself. -/
import Derived.Test.YtkdionoelbiidaaLg
import Derived.Test.YtkdionoelbiidaaRh
import Derived.Test.YtkdionoelbiidaaRi
namespace Go.Proofs.Ytkdionoelbiidaa
open Go.RowKit
set_option linter.unusedVariables false
set_option linter.unusedSimpArgs false

/-- What it hands on. -/
def backV (Cd : List Nat) : List (Value × Value) := (List.range Cd.length).reverse.map (fun i : Nat => (Value.int .i64 (i : Int), Value.int .i64 ((Cd.getD i 0 : Nat) : Int)))
theorem backV_len (Cd : List Nat) : (backV Cd).length = Cd.length := by simp [backV]
theorem backV_at {Cd : List Nat} {k : Nat} (hk : k < Cd.length) : (backV Cd)[k]? = some (Value.int .i64 ((Cd.length - 1 - k : Nat) : Int), Value.int .i64 ((Cd.getD (Cd.length - 1 - k) 0 : Nat) : Int)) := by
  unfold backV
  rw [List.getElem?_map, List.getElem?_reverse (by simpa using hk), List.getElem?_range (by simp; omega)]
  simp
/-- The list as it lies. -/
def Lies (W : World) (b : Nat) (ad : Option Addr) (c : Nat) (Cd : List Nat) : Prop := W.heap[b]? = some (.cells #[.slice ad Cd.length c] 39 (0, 0)) ∧ ∀ j x : Nat, Cd[j]? = some x → ∃ g o, ad = some ⟨g, o, none⟩ ∧ W.cell? ⟨g, o + j, none⟩ = some (.int .i64 (x : Int))
theorem back_any (ad : Option Addr) (m c : Nat) (w : World) : Calls Try.prog 28 #[.slice ad m c] w fun e w' => e = .returned (.func (.func 33) #[] #[.pointer (some ⟨w.heap.size, 0, none⟩)]) ∧ w' = w.alloc (.cells #[.slice ad m c] 39) := by
  go_enter Try.func28, Try.ntmps28
  go_wp2
  go_ret
  exact ⟨rfl, rfl⟩
set_option maxHeartbeats 2000000 in
set_option maxRecDepth 100000 in
theorem back_go (b : Nat) (ad : Option Addr) (c : Nat) (Cd : List Nat) (h32 : Cd.length ≤ 32) (hcb : Cd.length ≤ c) : Iter2 Try.prog 33 #[.pointer (some ⟨b, 0, none⟩)] (backV Cd) (fun W => Lies W b ad c Cd) (fun W => Lies W b ad c Cd) := by
  intro l J Jx W hJt hJxt hst hlv hY h0
  have HY : Hid _ := hY
  have HLV : Hid _ := hlv
  obtain ⟨m, hm⟩ : ∃ m, Cd.length = m := ⟨_, rfl⟩
  have HM : Hid (Cd.length = m) := hm
  have HJ0 : Hid (J 0 W) := h0
  obtain ⟨kb, _⟩ := cells1 (hst W h0).1
  rw [hm] at kb h32 hcb
  have hmi : (m : Int) ≤ 32 := by omega
  clear hY hlv hst h0 hm hJt hJxt
  show CallsIn Fence.wide 0 Try.prog 33 #[.func (.yield l) #[] #[], .pointer (some ⟨b, 0, none⟩)] W _
  refine callsIn_of_wp Try.func33 rfl trivial ?_ rfl
  simp only [Try.ntmps33, List.size_toArray, List.length_cons, List.length_nil, Nat.reduceAdd, Nat.reduceSub, Array.replicate_succ, Array.replicate_zero, List.push_toArray, List.append_toArray, List.nil_append, List.cons_append]
  gi_wp2
  clear kb
  gi_loopw [3] (fun v wr => ∃ r : Nat, r ≤ m ∧ v = .int .i64 ((r : Int) - 1) ∧ Hid (J (m - r) wr)) (fun v _ => (intOf v + 1).toNat)
  case atStart => exact ⟨m, Nat.le_refl _, by go_num, by rw [Nat.sub_self]; exact HJ0.out⟩
  case round =>
    clear HJ0
    obtain ⟨r, hr, rfl, HJ⟩ := hrel
    rcases r with _ | r
    · have HEND : Hid (J (backV Cd).length wr) := by
        show J _ _
        rw [backV_len, HM.out]
        exact HJ.out
      gi_wp2
      go_end0
      exact ⟨⟨_, rfl⟩, .inl HEND.out⟩
    · have hri : ((r + 1 : Nat) : Int) - 1 = (r : Int) := by omega
      rw [hri]
      have hrb : (r : Int) ≤ 32 := by omega
      have hd1 : decide ((0 : Int) ≤ (r : Int)) = true := by simp
      have hrm : r < m := by omega
      obtain ⟨hbx, hrd⟩ := HLV.out _ _ HJ.out
      rw [HM.out] at hbx
      obtain ⟨kb, _⟩ := cells1 hbx
      obtain ⟨x, hx⟩ : ∃ x, Cd[r]? = some x := ⟨_, List.getElem?_eq_getElem (by rw [HM.out]; exact hrm)⟩
      obtain ⟨g, o, hg, hcx⟩ := hrd r x hx
      subst hg
      have hat := backV_at (Cd := Cd) (k := m - (r + 1)) (by rw [HM.out]; omega)
      rw [HM.out, show m - 1 - (m - (r + 1)) = r by omega] at hat
      have hxg : Cd.getD r 0 = x := by rw [List.getD_eq_getElem?_getD, hx]; rfl
      rw [hxg] at hat
      obtain ⟨hjl, hv⟩ := List.getElem?_eq_some_iff.1 hat
      obtain ⟨fn, tm, asg, bd, hy, hR⟩ := HY.out (m - (r + 1)) wr hjl HJ.out
      rw [hv] at hy
      have HR : Hid _ := hR
      have HJL : Hid (m - (r + 1) < (backV Cd).length) := hjl
      clear hR hv hat hjl hx hxg hrd hbx HY
      gi_wp2
      refine ⟨rfl, RoundIn.mono HR.out ?_⟩
      rintro e W3 ⟨(⟨rfl, hJ3⟩ | ⟨rfl, hJx3⟩), _⟩
      · have HJ3 : Hid (J (m - r) W3) := by
          show J _ _
          rw [show m - r = m - (r + 1) + 1 by omega]
          exact hJ3
        clear hJ3 hy HR
        gi_wp2
        go_roundw
        case rel => exact ⟨r, by omega, by go_num, HJ3.out⟩
        case measure => simp [intOf]
      · have HJx3 : Hid (Jx (m - (r + 1) + 1) W3) := hJx3
        clear hJx3 hy HR
        gi_wp2
        refine bodyPost_ret (results_none rfl _ _ _) rfl ?_
        exact ⟨⟨_, rfl⟩, .inr ⟨_, by omega, HJL.out, HJx3.out⟩⟩
end Go.Proofs.Ytkdionoelbiidaa
