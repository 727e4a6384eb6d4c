/- The contracts of the law's of and same; of no statement by themselves. -/
import Derived.Test.YtibgjpifmpljkaaMk
import Derived.BigQuiet
import Derived.Deep.QuietTactic
namespace Go.Proofs.Ytibgjpifmpljkaa
open Go.RowKit
set_option linter.unusedVariables false

/-- Which row a step names. -/
def ofN (n : Nat) (row : Int) : Nat := if row < 0 ∨ (n : Int) ≤ row then 0 else row.toNat
theorem ofN_lt {n : Nat} (h : 0 < n) (row : Int) : ofN n row < n := by unfold ofN; split <;> omega

set_option maxHeartbeats 2000000 in
set_option maxRecDepth 100000 in
theorem of_any (w0 w : World) (P : Nat) (av bv : Value) (its : List It) (k row p n x : Int) (h : Play w0 w P av bv its) : Calls Try.prog 49 #[.pointer (some ⟨P, 0, none⟩), .agg #[.int .i64 k, .int .i64 row, .int .i64 p, .int .i64 n, .int .i64 x]] w fun e w' => e = .returned (.int .i64 ((ofN its.length row : Nat) : Int)) ∧ Chg (fun _ => False) w w' := by
  obtain ⟨ad, cap, hav, _⟩ := own_any h.ra
  have hc2 : (w.alloc (.cells #[.int .i64 k, .int .i64 row, .int .i64 p, .int .i64 n, .int .i64 x] 50)).cell? ⟨P, 0, none⟩ = some av := cell_chg (cell0 h.pair) (chg_one w _)
  rw [hav] at hc2
  have hlp := lt_of_blk h.pair
  clear h hav
  generalize its.length = L at *
  unfold ofN
  by_cases h0 : row < 0
  · rw [if_pos (.inl h0)]
    have hd : decide (row < 0) = true := by simp; omega
    go_enter Try.func49, Try.ntmps49
    go_wp2_with fail
    go_quiet (fail)
    go_wp2
    go_ret
    first | exact ⟨rfl, (chg_one w _).drew⟩ | exact ⟨rfl, chg_then (chg_one w _) (chg_drewN _ _)⟩ | exact ⟨rfl, chg_one w _⟩
  · have hd : decide (row < 0) = false := by simp; omega
    by_cases h1 : (L : Int) ≤ row
    · rw [if_pos (.inr h1)]
      have hd1 : decide ((L : Int) ≤ row) = true := by simp; omega
      go_enter Try.func49, Try.ntmps49
      go_wp2_with fail
      go_quiet (fail)
      go_wp2
      go_ret
      first | exact ⟨rfl, (chg_one w _).drew⟩ | exact ⟨rfl, chg_then (chg_one w _) (chg_drewN _ _)⟩ | exact ⟨rfl, chg_one w _⟩
    · rw [if_neg (by omega)]
      have hd1 : decide ((L : Int) ≤ row) = false := by simp; omega
      have hr : ((row.toNat : Nat) : Int) = row := by omega
      rw [hr]
      go_enter Try.func49, Try.ntmps49
      go_wp2_with fail
      go_quiet (fail)
      go_wp2
      go_ret
      first | exact ⟨rfl, (chg_one w _).drew⟩ | exact ⟨rfl, chg_then (chg_one w _) (chg_drewN _ _)⟩ | exact ⟨rfl, chg_one w _⟩

set_option maxHeartbeats 4000000 in
set_option maxRecDepth 100000 in
theorem same_any (w0 w : World) (P : Nat) (av bv : Value) (its : List It) (h : Play w0 w P av bv its) (hn : its.length ≤ 17592186044416) : Calls Try.prog 30 #[.pointer (some ⟨P, 0, none⟩)] w fun e w' => e = .returned (.bool true) ∧ w = w' := by
  obtain ⟨ad, cap, hav, _⟩ := own_any h.ra
  obtain ⟨bd, bcap, hbv, _⟩ := own_any h.rb
  have hpa := cell0 h.pair
  have hpb := cell1 h.pair
  rw [hav] at hpa
  rw [hbv] at hpb
  have HL : Hid (∀ k (hk : k < its.length), ∃ ga gb, ad = some ⟨ga, 0, none⟩ ∧ bd = some ⟨gb, 0, none⟩ ∧ w.cell? ⟨ga, k, none⟩ = some (.pointer (some ⟨its[k].a, 0, none⟩)) ∧ w.cell? ⟨gb, k, none⟩ = some (.pointer (some ⟨its[k].r, 0, none⟩)) ∧ its.length ≤ cap ∧ its.length ≤ bcap) := by
    show ∀ k (hk : k < its.length), _
    intro k hk
    obtain ⟨ga, c2, e, hc, hcell⟩ := h.a_at (by omega)
    obtain ⟨gb, c3, e3, hc3, hcell3⟩ := h.b_at (by omega)
    rw [hav] at e
    rw [hbv] at e3
    simp only [Value.slice.injEq, true_and] at e e3
    exact ⟨ga, gb, e.1, e3.1, hcell k hk, hcell3 k hk, by omega, by omega⟩
  have HG : Hid (∀ k (hk : k < its.length), Good w w0.heap.size its[k]) := fun k hk => h.good k hk
  clear h hav hbv
  obtain ⟨n, hL⟩ : ∃ n, its.length = n := ⟨_, rfl⟩
  have HN : Hid (its.length = n) := hL
  rw [hL] at hn hpa hpb
  clear hL
  go_enter Try.func30, Try.ntmps30
  go_wp2_with fail
  go_loopw [3] (fun kv wr => ∃ k : Nat, k ≤ n ∧ kv = .int .i64 (k : Int) ∧ wr = w) (fun kv _ => n - (intOf kv).toNat)
  case atStart => exact ⟨0, Nat.zero_le _, rfl, rfl⟩
  case round =>
    obtain ⟨k, hk, rfl, rfl⟩ := hrel
    by_cases hlt : k < n
    · have hdk : decide ((k : Int) < (n : Int)) = true := by simp; omega
      obtain ⟨ga, gb, rfl, rfl, hca, hcb, hcap, hbcap⟩ := HL.out k (by rw [HN.out]; exact hlt)
      have hG := HG.out k (by rw [HN.out]; exact hlt)
      rw [HN.out] at hcap hbcap
      generalize its[k]'(by rw [HN.out]; exact hlt) = x at *
      obtain ⟨ud, uc, hu, hu2⟩ := own_any hG.rt.own
      have hcr := cell1 hG.rt.blk
      have HG : Hid (Good wr w0.heap.size x) := hG
      have hm : x.xs.length ≤ 1048576 := hG.len
      have HU : Hid (∀ j, j < x.xs.length → ∃ g, ud = some ⟨g, 0, none⟩ ∧ x.xs.length ≤ uc ∧ wr.cell? ⟨g, j, none⟩ = some (.int .i64 (x.xs.getD j 1024))) := by
        show ∀ j, _
        intro j hj
        obtain ⟨g, c2, e, hc, _, _, _, _, hcell⟩ := own_some hG.rt.own (by omega)
        rw [hu] at e
        simp only [Value.slice.injEq, true_and] at e
        exact ⟨g, e.1, by omega, by rw [show x.xs.getD j 1024 = x.xs[j] by simp [List.getD, hj]]; exact hcell j _ (ins_at _ _ j hj)⟩
      rw [hu] at hcr
      obtain ⟨m, hM⟩ : ∃ m, x.xs.length = m := ⟨_, rfl⟩
      have HM : Hid (x.xs.length = m) := hM
      rw [hM] at hcr hm
      clear hG hu hu2 hM
      go_wp2_with fail
      go_loopw [4] (fun jv wq => ∃ j : Nat, j ≤ m ∧ jv = .int .i64 (j : Int) ∧ wq = wr) (fun jv _ => m - (intOf jv).toNat)
      case atStart => exact ⟨0, Nat.zero_le _, rfl, rfl⟩
      case round =>
        obtain ⟨j, hj, rfl, rfl⟩ := hrel
        by_cases hjt : j < m
        · have hdj : decide ((j : Int) < (m : Int)) = true := by simp; omega
          obtain ⟨g, rfl, huc, hcu⟩ := HU.out j (by rw [HM.out]; exact hjt)
          rw [HM.out] at huc
          have hat := at_in _ x.a x.v x.xs j _ HG.out.st HG.out.inn (by rw [HM.out]; exact hjt)
          rw [show x.xs[j]'(by rw [HM.out]; exact hjt) = x.xs.getD j 1024 by simp [List.getD]; rw [List.getElem?_eq_getElem (by rw [HM.out]; exact hjt)]; rfl] at hat
          have HAT : Hid (Calls _ _ _ _ _) := hat
          clear hat
          generalize x.xs.getD j 1024 = q at *
          go_wp2_with fail
          refine Calls.mono HAT.out ?_
          rintro z w2 ⟨rfl, rfl⟩
          go_wp2_with fail
          go_roundw
          case rel => exact ⟨j + 1, by omega, by go_num, trivial⟩
          case measure => simp [intOf]; omega
        · have hjm : m = j := by omega
          subst hjm
          have hdj : decide ((m : Int) < (m : Int)) = false := by simp
          go_wp2_with fail
          go_roundw
          case rel => exact ⟨k + 1, by omega, by go_num, trivial⟩
          case measure => simp [intOf]; omega
    · have hkn : n = k := by omega
      subst hkn
      have hdk : decide ((n : Int) < (n : Int)) = false := by simp
      go_wp2
      go_ret
      exact ⟨rfl, rfl⟩
end Go.Proofs.Ytibgjpifmpljkaa
