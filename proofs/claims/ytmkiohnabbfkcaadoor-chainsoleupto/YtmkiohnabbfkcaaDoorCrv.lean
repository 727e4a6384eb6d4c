/- The document's own Legal and Of; of no statement by themselves. -/
import Derived.Test.YtmkiohnabbfkcaaDoorCru
import Derived.Deep.DeepCutAuto
namespace Go.Proofs.YtmkiohnabbfkcaaDoor
open Go.RowKit
open St12
set_option linter.unusedVariables false
set_option linter.unusedSimpArgs false
theorem cells8f {w : World} {a : Nat} {x0 x1 x2 x3 x4 x5 x6 x7 : Value} {t : TypeId} (h : w.heap[a]? = some (.cells #[x0, x1, x2, x3, x4, x5, x6, x7] t (0, 0))) : w.cell? ⟨a, 0, none⟩ = some x0 ∧ w.cell? ⟨a, 1, none⟩ = some x1 ∧ w.cell? ⟨a, 2, none⟩ = some x2 ∧ w.cell? ⟨a, 3, none⟩ = some x3 ∧ w.cell? ⟨a, 4, none⟩ = some x4 ∧ w.cell? ⟨a, 5, none⟩ = some x5 ∧ w.cell? ⟨a, 6, none⟩ = some x6 ∧ w.cell? ⟨a, 7, none⟩ = some x7 :=
  ⟨by simp [World.cell?, h], by simp [World.cell?, h], by simp [World.cell?, h], by simp [World.cell?, h], by simp [World.cell?, h], by simp [World.cell?, h], by simp [World.cell?, h], by simp [World.cell?, h]⟩
theorem cells3f {w : World} {a : Nat} {x0 x1 x2 : Value} {t : TypeId} (h : w.heap[a]? = some (.cells #[x0, x1, x2] t (0, 0))) : w.cell? ⟨a, 0, none⟩ = some x0 ∧ w.cell? ⟨a, 1, none⟩ = some x1 ∧ w.cell? ⟨a, 2, none⟩ = some x2 :=
  ⟨by simp [World.cell?, h], by simp [World.cell?, h], by simp [World.cell?, h]⟩
set_option maxHeartbeats 8000000 in
set_option maxRecDepth 100000 in
theorem rlegal20_any (ch de lc lp pb di bl mo : Int) (hI : (⟨ch, de, lc, lp, pb, di, bl, mo⟩ : Cfg).I) (w : World) : Calls Tryd.prog 18 #[.agg #[.int .i64 ch, .int .i64 de, .int .i64 lc, .int .i64 lp, .int .i64 pb, .int .i64 di, .int .i64 bl, .int .i64 mo]] w fun e w' => e = .returned (.int .i64 (Cn20.legal ⟨ch, de, lc, lp, pb, di, bl, mo⟩)) ∧ Chg (fun _ => False) w w' := by
  have cA := chg_one w (.cells #[.int .i64 ch, .int .i64 de, .int .i64 lc, .int .i64 lp, .int .i64 pb, .int .i64 di, .int .i64 bl, .int .i64 mo] 27)
  have bA := heap_alloc_last w (.cells #[.int .i64 ch, .int .i64 de, .int .i64 lc, .int .i64 lp, .int .i64 pb, .int .i64 di, .int .i64 bl, .int .i64 mo] 27)
  obtain ⟨q0, q1, q2, q3, q4, q5, q6, q7⟩ := cells8f bA
  have cB := chg_one (w.alloc (.cells #[.int .i64 ch, .int .i64 de, .int .i64 lc, .int .i64 lp, .int .i64 pb, .int .i64 di, .int .i64 bl, .int .i64 mo] 27)) (.cells #[.int .i64 lc, .int .i64 lp, .int .i64 pb] 25)
  have bB := heap_alloc_last (w.alloc (.cells #[.int .i64 ch, .int .i64 de, .int .i64 lc, .int .i64 lp, .int .i64 pb, .int .i64 di, .int .i64 bl, .int .i64 mo] 27)) (.cells #[.int .i64 lc, .int .i64 lp, .int .i64 pb] 25)
  obtain ⟨r0, r1, r2⟩ := cells3f bB
  rw [World.size_alloc] at r0 r1 r2
  have v0 := cell_chg q0 cB
  have v1 := cell_chg q1 cB
  have v5 := cell_chg q5 cB
  have v6 := cell_chg q6 cB
  have v7 := cell_chg q7 cB
  have HCB : Hid (Chg (fun _ => False) w ((w.alloc (.cells #[.int .i64 ch, .int .i64 de, .int .i64 lc, .int .i64 lp, .int .i64 pb, .int .i64 di, .int .i64 bl, .int .i64 mo] 27)).alloc (.cells #[.int .i64 lc, .int .i64 lp, .int .i64 pb] 25))) := chg_then cA cB
  have HL : Hid (Cn20.legal ⟨ch, de, lc, lp, pb, di, bl, mo⟩ = if (ch = 0 ∨ ch = 1 ∨ ch = 4 ∨ ch = 10) ∧ (0 ≤ lc ∧ 0 ≤ lp ∧ 0 ≤ pb ∧ lc ≤ 4 ∧ lp ≤ 4 ∧ lc + lp ≤ 4 ∧ pb ≤ 4) ∧ 0 ≤ de ∧ de ≤ 256 ∧ 4096 ≤ di ∧ di ≤ 67108864 ∧ 1 ≤ bl ∧ bl ≤ 2147483648 ∧ 0 ≤ mo ∧ mo ≤ 2 then 0 else 6) := rfl
  obtain ⟨K, hK⟩ : ∃ K : Bool, decide (ch = 0 ∨ ch = 1 ∨ ch = 4 ∨ ch = 10) = K := ⟨_, rfl⟩
  obtain ⟨Pz, hP⟩ : ∃ P : Bool, decide (0 ≤ lc ∧ 0 ≤ lp ∧ 0 ≤ pb ∧ lc ≤ 4 ∧ lp ≤ 4 ∧ lc + lp ≤ 4 ∧ pb ≤ 4) = P := ⟨_, rfl⟩
  have HK : Hid (decide (ch = 0 ∨ ch = 1 ∨ ch = 4 ∨ ch = 10) = K) := hK
  have HP : Hid (decide (0 ≤ lc ∧ 0 ≤ lp ∧ 0 ≤ pb ∧ lc ≤ 4 ∧ lp ≤ 4 ∧ lc + lp ≤ 4 ∧ pb ≤ 4) = Pz) := hP
  clear cA bA cB bB hK hP
  go_enter Tryd.func18, Tryd.ntmps18
  go_upto_region 1 with fail
  go_cut [3] (fun kv wx => kv = .bool K ∧ (w.alloc (.cells #[.int .i64 ch, .int .i64 de, .int .i64 lc, .int .i64 lp, .int .i64 pb, .int .i64 di, .int .i64 bl, .int .i64 mo] 27)) = wx)
  case first =>
    by_cases k0 : ch = 0
    · subst k0
      go_wp2_with fail
      go_meet
      exact ⟨by rw [← HK.out]; rfl, rfl⟩
    · have e0 : (ch == 0) = false := by simp [k0]
      by_cases k1 : ch = 1
      · subst k1
        go_wp2_with fail
        go_meet
        exact ⟨by rw [← HK.out]; rfl, rfl⟩
      · have e1 : (ch == 1) = false := by simp [k1]
        by_cases k4 : ch = 4
        · subst k4
          go_wp2_with fail
          go_meet
          exact ⟨by rw [← HK.out]; rfl, rfl⟩
        · have e4 : (ch == 4) = false := by simp [k4]
          by_cases k10 : ch = 10
          · subst k10
            go_wp2_with fail
            go_meet
            exact ⟨by rw [← HK.out]; rfl, rfl⟩
          · have e10 : (ch == 10) = false := by simp [k10]
            go_wp2_with fail
            go_meet
            exact ⟨by rw [← HK.out]; congr 1; simp; omega, rfl⟩
  case rest =>
  obtain ⟨rfl, rfl⟩ := hcut
  go_upto_region 3 with fail
  go_cut [5] (fun pv wx => pv = .bool Pz ∧ ((w.alloc (.cells #[.int .i64 ch, .int .i64 de, .int .i64 lc, .int .i64 lp, .int .i64 pb, .int .i64 di, .int .i64 bl, .int .i64 mo] 27)).alloc (.cells #[.int .i64 lc, .int .i64 lp, .int .i64 pb] 25)) = wx)
  case first =>
    by_cases k0 : 0 ≤ lc
    · have e0 : decide (0 ≤ lc) = true := decide_eq_true k0
      by_cases k1 : 0 ≤ lp
      · have e1 : decide (0 ≤ lp) = true := decide_eq_true k1
        by_cases k2 : 0 ≤ pb
        · have e2 : decide (0 ≤ pb) = true := decide_eq_true k2
          by_cases k3 : lc ≤ 4
          · have e3 : decide (lc ≤ 4) = true := decide_eq_true k3
            by_cases k4 : lp ≤ 4
            · have e4 : decide (lp ≤ 4) = true := decide_eq_true k4
              by_cases k5 : lc + lp ≤ 4
              · have e5 : decide (lc + lp ≤ 4) = true := decide_eq_true k5
                by_cases k6 : pb ≤ 4
                · have e6 : decide (pb ≤ 4) = true := decide_eq_true k6
                  go_wp2_with fail
                  go_meet
                  exact ⟨by rw [← HP.out]; congr 1; simp; omega, rfl⟩
                · have e6 : decide (pb ≤ 4) = false := decide_eq_false k6
                  go_wp2_with fail
                  go_meet
                  exact ⟨by rw [← HP.out]; congr 1; simp; omega, rfl⟩
              · have e5 : decide (lc + lp ≤ 4) = false := decide_eq_false k5
                go_wp2_with fail
                go_meet
                exact ⟨by rw [← HP.out]; congr 1; simp; omega, rfl⟩
            · have e4 : decide (lp ≤ 4) = false := decide_eq_false k4
              go_wp2_with fail
              go_meet
              exact ⟨by rw [← HP.out]; congr 1; simp; omega, rfl⟩
          · have e3 : decide (lc ≤ 4) = false := decide_eq_false k3
            go_wp2_with fail
            go_meet
            exact ⟨by rw [← HP.out]; congr 1; simp; omega, rfl⟩
        · have e2 : decide (0 ≤ pb) = false := decide_eq_false k2
          go_wp2_with fail
          go_meet
          exact ⟨by rw [← HP.out]; congr 1; simp; omega, rfl⟩
      · have e1 : decide (0 ≤ lp) = false := decide_eq_false k1
        go_wp2_with fail
        go_meet
        exact ⟨by rw [← HP.out]; congr 1; simp; omega, rfl⟩
    · have e0 : decide (0 ≤ lc) = false := decide_eq_false k0
      go_wp2_with fail
      go_meet
      exact ⟨by rw [← HP.out]; congr 1; simp; omega, rfl⟩
  case rest =>
  obtain ⟨rfl, rfl⟩ := hcut
  cases K with
  | false =>
    have HN : Hid (Cn20.legal ⟨ch, de, lc, lp, pb, di, bl, mo⟩ = 6) := by show _ = _; rw [HL.out, if_neg]; intro f; have := of_decide_eq_false HK.out; exact this f.1
    go_wp2
    go_ret
    exact ⟨by first | (rw [HN.out]; done) | (rw [HN.out]; rfl), HCB.out⟩
  | true =>
  cases Pz with
  | false =>
    have HN : Hid (Cn20.legal ⟨ch, de, lc, lp, pb, di, bl, mo⟩ = 6) := by show _ = _; rw [HL.out, if_neg]; intro f; have := of_decide_eq_false HP.out; exact this f.2.1
    go_wp2
    go_ret
    exact ⟨by first | (rw [HN.out]; done) | (rw [HN.out]; rfl), HCB.out⟩
  | true =>
    by_cases k0 : de < 0
    · have e0 : decide (de < 0) = true := decide_eq_true k0
      have HN : Hid (Cn20.legal ⟨ch, de, lc, lp, pb, di, bl, mo⟩ = 6) := by show _ = _; rw [HL.out, if_neg]; rintro ⟨_, _, h0, h1, h2, h3, h4, h5, h6, h7⟩; omega
      go_wp2
      go_ret
      exact ⟨by first | (rw [HN.out]; done) | (rw [HN.out]; rfl), HCB.out⟩
    · have e0 : decide (de < 0) = false := decide_eq_false k0
      by_cases k1 : 256 < de
      · have e1 : decide (256 < de) = true := decide_eq_true k1
        have HN : Hid (Cn20.legal ⟨ch, de, lc, lp, pb, di, bl, mo⟩ = 6) := by show _ = _; rw [HL.out, if_neg]; rintro ⟨_, _, h0, h1, h2, h3, h4, h5, h6, h7⟩; omega
        go_wp2
        go_ret
        exact ⟨by first | (rw [HN.out]; done) | (rw [HN.out]; rfl), HCB.out⟩
      · have e1 : decide (256 < de) = false := decide_eq_false k1
        by_cases k2 : di < 4096
        · have e2 : decide (di < 4096) = true := decide_eq_true k2
          have HN : Hid (Cn20.legal ⟨ch, de, lc, lp, pb, di, bl, mo⟩ = 6) := by show _ = _; rw [HL.out, if_neg]; rintro ⟨_, _, h0, h1, h2, h3, h4, h5, h6, h7⟩; omega
          go_wp2
          go_ret
          exact ⟨by first | (rw [HN.out]; done) | (rw [HN.out]; rfl), HCB.out⟩
        · have e2 : decide (di < 4096) = false := decide_eq_false k2
          by_cases k3 : 67108864 < di
          · have e3 : decide (67108864 < di) = true := decide_eq_true k3
            have HN : Hid (Cn20.legal ⟨ch, de, lc, lp, pb, di, bl, mo⟩ = 6) := by show _ = _; rw [HL.out, if_neg]; rintro ⟨_, _, h0, h1, h2, h3, h4, h5, h6, h7⟩; omega
            go_wp2
            go_ret
            exact ⟨by first | (rw [HN.out]; done) | (rw [HN.out]; rfl), HCB.out⟩
          · have e3 : decide (67108864 < di) = false := decide_eq_false k3
            by_cases k4 : bl < 1
            · have e4 : decide (bl < 1) = true := decide_eq_true k4
              have HN : Hid (Cn20.legal ⟨ch, de, lc, lp, pb, di, bl, mo⟩ = 6) := by show _ = _; rw [HL.out, if_neg]; rintro ⟨_, _, h0, h1, h2, h3, h4, h5, h6, h7⟩; omega
              go_wp2
              go_ret
              exact ⟨by first | (rw [HN.out]; done) | (rw [HN.out]; rfl), HCB.out⟩
            · have e4 : decide (bl < 1) = false := decide_eq_false k4
              by_cases k5 : 2147483648 < bl
              · have e5 : decide (2147483648 < bl) = true := decide_eq_true k5
                have HN : Hid (Cn20.legal ⟨ch, de, lc, lp, pb, di, bl, mo⟩ = 6) := by show _ = _; rw [HL.out, if_neg]; rintro ⟨_, _, h0, h1, h2, h3, h4, h5, h6, h7⟩; omega
                go_wp2
                go_ret
                exact ⟨by first | (rw [HN.out]; done) | (rw [HN.out]; rfl), HCB.out⟩
              · have e5 : decide (2147483648 < bl) = false := decide_eq_false k5
                by_cases k6 : mo < 0
                · have e6 : decide (mo < 0) = true := decide_eq_true k6
                  have HN : Hid (Cn20.legal ⟨ch, de, lc, lp, pb, di, bl, mo⟩ = 6) := by show _ = _; rw [HL.out, if_neg]; rintro ⟨_, _, h0, h1, h2, h3, h4, h5, h6, h7⟩; omega
                  go_wp2
                  go_ret
                  exact ⟨by first | (rw [HN.out]; done) | (rw [HN.out]; rfl), HCB.out⟩
                · have e6 : decide (mo < 0) = false := decide_eq_false k6
                  by_cases k7 : 2 < mo
                  · have e7 : decide (2 < mo) = true := decide_eq_true k7
                    have HN : Hid (Cn20.legal ⟨ch, de, lc, lp, pb, di, bl, mo⟩ = 6) := by show _ = _; rw [HL.out, if_neg]; rintro ⟨_, _, h0, h1, h2, h3, h4, h5, h6, h7⟩; omega
                    go_wp2
                    go_ret
                    exact ⟨by first | (rw [HN.out]; done) | (rw [HN.out]; rfl), HCB.out⟩
                  · have e7 : decide (2 < mo) = false := decide_eq_false k7
                    have HN : Hid (Cn20.legal ⟨ch, de, lc, lp, pb, di, bl, mo⟩ = 0) := by show _ = _; rw [HL.out, if_pos]; exact ⟨of_decide_eq_true HK.out, of_decide_eq_true HP.out, by omega, by omega, by omega, by omega, by omega, by omega, by omega, by omega⟩
                    go_wp2
                    go_ret
                    exact ⟨by first | (rw [HN.out]; done) | (rw [HN.out]; rfl), HCB.out⟩
end Go.Proofs.YtmkiohnabbfkcaaDoor
