/- The program's Put: the sizes, the properties, the first byte; of no statement by themselves. -/
import Derived.Test.YtannepoclpmedaaDoorKa
namespace Go.Proofs.YtannepoclpmedaaDoor
open Go.RowKit
open St12
set_option linter.unusedVariables false
set_option linter.unusedSimpArgs false
/-- The form of a kind. -/
def formN (K : Nat) : Nat := if K = 0 then 0 else if K < 3 then 1 else if K < 5 then 2 else 3
theorem form_all : ∀ K : Fin 7, tab0[K.val]? = some ((formN K.val : Nat) : Int) := by decide +kernel
theorem tab_form {w : World} (h : Tab w) {K : Nat} (hK : K ≤ 6) : Hid (w.cell? ⟨1, K, none⟩ = some (.int .i64 ((formN K : Nat) : Int))) := tab_at0 h (form_all ⟨K, by omega⟩)
def sizedA (K : Nat) (s p : Int) : Bool := if K = 0 then decide (s = 0) && decide (p = 0) else if K < 3 then (decide (1 ≤ s) && decide (s ≤ 65536)) && decide (p = s) else (decide (1 ≤ s) && decide (s ≤ 2097152)) && (decide (1 ≤ p) && decide (p ≤ 65536))
set_option maxHeartbeats 4000000 in
theorem sized_q (K : Nat) (s p lc lp pb : Int) (hK : K ≤ 6) (w : World) (hT : Tab w) : Calls Tryd.prog 25 #[.agg #[.int .i64 (K : Int), .int .i64 s, .int .i64 p, .int .i64 lc, .int .i64 lp, .int .i64 pb]] w fun e w' => e = .returned (.bool (sizedA K s p)) ∧ Chg (fun _ => False) w w' := by
  have HC : Hid (Chg (fun _ => False) w (w.alloc (.cells #[.int .i64 (K : Int), .int .i64 s, .int .i64 p, .int .i64 lc, .int .i64 lp, .int .i64 pb] 25))) := chg_one w _
  have HW : Hid (∀ n m ww, Calls Tryd.prog 33 #[.int .i64 n, .int .i64 m] ww fun e w' => e = .returned (.bool (decide (1 ≤ n) && decide (n ≤ m))) ∧ ww = w') := within_q
  have HQ := tab_form (tab_keep hT HC.out) hK
  clear hT
  by_cases h0 : K = 0
  · have hF : formN K = 0 := by unfold formN; rw [if_pos h0]
    rw [hF] at HQ
    have hq : (w.alloc (.cells #[.int .i64 (K : Int), .int .i64 s, .int .i64 p, .int .i64 lc, .int .i64 lp, .int .i64 pb] 25)).cell? ⟨1, K, none⟩ = some (.int .i64 0) := HQ.out
    have HR : Hid (sizedA K s p = (decide (s = 0) && decide (p = 0))) := by show _ = _; unfold sizedA; rw [if_pos h0]
    clear h0 hF HW
    by_cases hs : s = 0
    · subst hs
      by_cases hp : p = 0
      · subst hp
        go_enter Tryd.func25, Tryd.ntmps25
        go_wp2
        go_ret
        exact ⟨by rw [HR.out]; rfl, HC.out⟩
      · have e1 : (p == 0) = false := by simpa using hp
        rw [decide_eq_false hp] at HR
        go_enter Tryd.func25, Tryd.ntmps25
        go_wp2
        go_ret
        exact ⟨by rw [HR.out]; rfl, HC.out⟩
    · have e1 : (s == 0) = false := by simpa using hs
      rw [decide_eq_false hs] at HR
      go_enter Tryd.func25, Tryd.ntmps25
      go_wp2
      go_ret
      exact ⟨by rw [HR.out]; rfl, HC.out⟩
  by_cases h3 : K < 3
  · have hF : formN K = 1 := by unfold formN; rw [if_neg h0, if_pos h3]
    have HR : Hid (sizedA K s p = ((decide (1 ≤ s) && decide (s ≤ 65536)) && decide (p = s))) := by show _ = _; unfold sizedA; rw [if_neg h0, if_pos h3]
    rw [hF] at HQ
    have hq := HQ.out
    have HW1 : Hid _ := HW.out s 65536 (w.alloc (.cells #[.int .i64 (K : Int), .int .i64 s, .int .i64 p, .int .i64 lc, .int .i64 lp, .int .i64 pb] 25))
    generalize hb : (decide (1 ≤ s) && decide (s ≤ 65536)) = b at *
    clear hF HW hb h3
    go_enter Tryd.func25, Tryd.ntmps25
    go_wp2_with fail
    refine Calls.mono HW1.out ?_
    rintro z w1 ⟨rfl, rfl⟩
    clear HW1
    cases b with
    | false =>
      go_wp2
      go_ret
      exact ⟨by rw [HR.out]; rfl, HC.out⟩
    | true =>
      by_cases hp : p = s
      · subst hp
        go_wp2
        go_ret
        exact ⟨by rw [HR.out]; simp, HC.out⟩
      · have e1 : (p == s) = false := by simpa using hp
        go_wp2
        go_ret
        exact ⟨by rw [HR.out, decide_eq_false hp]; rfl, HC.out⟩
  · have HR : Hid (sizedA K s p = ((decide (1 ≤ s) && decide (s ≤ 2097152)) && (decide (1 ≤ p) && decide (p ≤ 65536)))) := by show _ = _; unfold sizedA; rw [if_neg h0, if_neg h3]
    obtain ⟨F, hF⟩ : ∃ F, formN K = F := ⟨_, rfl⟩
    have hF2 : 2 ≤ F := by rw [← hF]; unfold formN; rw [if_neg h0, if_neg h3]; split <;> omega
    rw [hF] at HQ
    have hq := HQ.out
    have f0 : (((F : Nat) : Int) == 0) = false := by simp; omega
    have f1 : (((F : Nat) : Int) == 1) = false := by simp; omega
    have HW1 : Hid _ := HW.out s 2097152 (w.alloc (.cells #[.int .i64 (K : Int), .int .i64 s, .int .i64 p, .int .i64 lc, .int .i64 lp, .int .i64 pb] 25))
    have HW2 : Hid _ := HW.out p 65536 (w.alloc (.cells #[.int .i64 (K : Int), .int .i64 s, .int .i64 p, .int .i64 lc, .int .i64 lp, .int .i64 pb] 25))
    generalize hb : (decide (1 ≤ s) && decide (s ≤ 2097152)) = b at *
    generalize hb2 : (decide (1 ≤ p) && decide (p ≤ 65536)) = b2 at *
    clear hF HW hb hb2 h3
    go_enter Tryd.func25, Tryd.ntmps25
    go_wp2_with fail
    refine Calls.mono HW1.out ?_
    rintro z w1 ⟨rfl, rfl⟩
    clear HW1
    cases b with
    | false =>
      go_wp2
      go_ret
      exact ⟨by rw [HR.out]; rfl, HC.out⟩
    | true =>
      go_wp2_with fail
      refine Calls.mono HW2.out ?_
      rintro z w1 ⟨rfl, rfl⟩
      clear HW2
      go_wp2
      go_ret
      exact ⟨by rw [HR.out]; rfl, HC.out⟩
/-- The byte of a head's properties; 0 where there are none. -/
def propA (K : Nat) (lc lp pb : Int) : Int × Int := if K < 5 then (0, 0) else byteP ⟨lc, lp, pb⟩
set_option maxHeartbeats 4000000 in
theorem propsOf_q (K : Nat) (s p lc lp pb : Int) (i1 : I64 lc) (i2 : I64 lp) (i3 : I64 pb) (hK : K ≤ 6) (w : World) (hT : Tab w) : Calls Tryd.prog 26 #[.agg #[.int .i64 (K : Int), .int .i64 s, .int .i64 p, .int .i64 lc, .int .i64 lp, .int .i64 pb]] w fun e w' => e = .returned (.tuple #[.int .i64 (propA K lc lp pb).1, .int .i64 (propA K lc lp pb).2]) ∧ Chg (fun _ => False) w w' := by
  have HC : Hid (Chg (fun _ => False) w (w.alloc (.cells #[.int .i64 (K : Int), .int .i64 s, .int .i64 p, .int .i64 lc, .int .i64 lp, .int .i64 pb] 25))) := chg_one w _
  have HQ := tab_form (tab_keep hT HC.out) hK
  have HP : Hid _ := tpb_q lc lp pb i1 i2 i3 (w.alloc (.cells #[.int .i64 (K : Int), .int .i64 s, .int .i64 p, .int .i64 lc, .int .i64 lp, .int .i64 pb] 25))
  clear hT
  obtain ⟨F, hF⟩ : ∃ F, formN K = F := ⟨_, rfl⟩
  by_cases h5 : K < 5
  · have hF2 : F < 3 := by rw [← hF]; unfold formN; (repeat' split) <;> omega
    have HR : Hid (propA K lc lp pb = (0, 0)) := by show _ = _; unfold propA; rw [if_pos h5]
    have f0 : (((F : Nat) : Int) == 3) = false := by simp; omega
    rw [hF] at HQ
    have hq := HQ.out
    clear hF h5 HP HQ
    go_enter Tryd.func26, Tryd.ntmps26
    go_wp2
    go_ret2
    exact ⟨by rw [HR.out]; rfl, HC.out⟩
  · have hF2 : F = 3 := by rw [← hF]; unfold formN; rw [if_neg (by omega), if_neg (by omega), if_neg h5]
    subst hF2
    have HR : Hid (propA K lc lp pb = byteP ⟨lc, lp, pb⟩) := by show _ = _; unfold propA; rw [if_neg h5]
    rw [hF] at HQ
    have hq := HQ.out
    clear hF h5 HQ
    go_enter Tryd.func26, Tryd.ntmps26
    go_wp2_with fail
    refine Calls.mono HP.out ?_
    rintro z w1 ⟨rfl, c1⟩
    have HC1 : Hid (Chg (fun _ => False) w w1) := chg_then HC.out c1
    clear HP c1
    go_wp2
    go_ret2
    exact ⟨by rw [HR.out]; rfl, HC1.out⟩
/-- The first byte of a head. -/
def firstA (K : Nat) (s : Int) : Nat := if K < 3 then K else 128 + 32 * (K - 3) + (s - 1).toNat / 65536
theorem shr16 (x : Int) : x / 2 ^ 16 = x / 65536 := rfl
set_option maxHeartbeats 4000000 in
theorem first_q (K : Nat) (s p lc lp pb : Int) (hK : K ≤ 6) (hs : K < 3 ∨ 1 ≤ s ∧ s ≤ 2097152) (w : World) : Calls Tryd.prog 37 #[.agg #[.int .i64 (K : Int), .int .i64 s, .int .i64 p, .int .i64 lc, .int .i64 lp, .int .i64 pb]] w fun e w' => e = .returned (.int .u8 ((firstA K s : Nat) : Int)) ∧ Chg (fun _ => False) w w' := by
  have HC : Hid (Chg (fun _ => False) w (w.alloc (.cells #[.int .i64 (K : Int), .int .i64 s, .int .i64 p, .int .i64 lc, .int .i64 lp, .int .i64 pb] 25))) := chg_one w _
  by_cases h3 : K < 3
  · have d0 : decide ((K : Int) < 3) = true := decide_eq_true (by omega)
    have d0' : decide (K < 3) = true := decide_eq_true (by omega)
    have HR : Hid (firstA K s = K) := if_pos h3
    have hw : IntKind.u8.wrap (K : Int) = (K : Int) := wr8 (by omega) (by omega)
    clear hs
    go_enter Tryd.func37, Tryd.ntmps37
    go_wp2
    go_ret
    exact ⟨by rw [HR.out]; go_num, HC.out⟩
  · have d0 : decide ((K : Int) < 3) = false := decide_eq_false (by omega)
    have d0' : decide (K < 3) = false := decide_eq_false (by omega)
    have hs1 : 1 ≤ s := by omega
    have hs2 : s ≤ 2097152 := by omega
    have HR : Hid (((firstA K s : Nat) : Int) = 128 + 32 * ((K : Int) - 3) + (s - 1) / 65536) := by show _ = _; unfold firstA; rw [if_neg h3]; omega
    have h3' : 3 ≤ (K : Int) := by omega
    have h6' : (K : Int) ≤ 6 := by omega
    have hq0 : 0 ≤ (s - 1) / 65536 := by omega
    have hq1 : (s - 1) / 65536 ≤ 31 := by omega
    clear hs
    go_enter Tryd.func37, Tryd.ntmps37
    go_wp2
    go_ret
    exact ⟨by rw [HR.out]; go_num, HC.out⟩
end Go.Proofs.YtannepoclpmedaaDoor
