/- The document's own Find; of no statement by itself. -/
import Derived.Test.YtehfcfpbjenmjaaDoorIxg
namespace Go.Proofs.YtehfcfpbjenmjaaDoor
open Go.RowKit
set_option linter.unusedVariables false
set_option linter.unusedSimpArgs false
theorem find_step {off : Int} {l : List Plc} {k : Nat} {p : Plc} (h : l[k]? = some p) (h0 : Ix23.findI 0 off (l.take k) = -1) : (Ix23.hit off p = true → Ix23.findI 0 off l = (k : Int)) ∧ (Ix23.hit off p = false → Ix23.findI 0 off (l.take (k + 1)) = -1) := by
  obtain ⟨hk, e⟩ := List.getElem?_eq_some_iff.1 h
  have hl : (l.take k).length = k := by rw [List.length_take]; omega
  constructor
  · intro hh
    rw [show l = l.take k ++ (p :: l.drop (k + 1)) by rw [← e, ← List.drop_eq_getElem_cons hk, List.take_append_drop], Ix23.find_app, if_pos h0, hl, Ix23.findI, if_pos hh, Nat.zero_add]
  · intro hh
    rw [List.take_succ_eq_append_getElem hk, Ix23.find_app, if_pos h0, e, Ix23.findI, if_neg (by rw [hh]; simp)]
    rfl
set_option maxHeartbeats 8000000 in
set_option maxRecDepth 100000 in
theorem rfind_any (off : Int) (ad : Option Addr) (n c : Nat) (l : List Plc) (w0 : World) (h : PlF w0 ad n c l) (hn : n ≤ 4398046511104) (ho : I64 off) (hst : ∀ (k : Nat) (p : Plc), l[k]? = some p → 0 ≤ p.st) : Calls Tryd.prog 24 #[.int .i64 off, .slice ad n c] w0 fun e w' => e = .returned (.int .i64 (Ix23.findI 0 off l)) ∧ ∃ k, w' = w0.drewN k := by
  have HL : Hid (PlF w0 ad n c l) := h
  have HST : Hid (∀ (k : Nat) (p : Plc), l[k]? = some p → 0 ≤ p.st) := hst
  have hni : (n : Int) ≤ 4398046511104 := by omega
  obtain ⟨o0, o1⟩ := ho
  clear h hst
  go_enter Tryd.func24, Tryd.ntmps24
  go_wp2_with fail
  go_loopw [5] (fun i wr => ∃ k : Nat, k ≤ n ∧ i = .int .i64 (k : Int) ∧ Hid (Ix23.findI 0 off (l.take k) = -1) ∧ ∃ m, wr = w0.drewN m) (fun i _ => n - (intOf i).toNat)
  case atStart => exact ⟨0, by omega, rfl, rfl, 0, rfl⟩
  case round =>
    obtain ⟨k, hk, rfl, HF, m, rfl⟩ := hrel
    have hki : (k : Int) ≤ (n : Int) := by omega
    by_cases hlt : k < n
    · have d1 : decide ((k : Int) < (n : Int)) = true := decide_eq_true (by omega)
      have d1' : decide (k < n) = true := decide_eq_true hlt
      obtain ⟨q, bx, ox, hq, hI, rfl, x0, x1, x2, x3⟩ := HL.out.at hlt
      have hs := HST.out k q hq
      have hstp := find_step hq HF.out
      obtain ⟨o, ⟨u, s⟩, st⟩ := q
      obtain ⟨_, ⟨_, s0, s1⟩, t0, t1⟩ := hI
      simp only at x0 x1 x2 x3 hs s0 s1 t0 t1
      have HS : Hid _ := hstp
      clear hq hstp
      by_cases h1 : st ≤ off
      · have g1 : decide (st ≤ off) = true := decide_eq_true h1
        by_cases h2 : off - st < s
        · have g2 : decide (off - st < s) = true := decide_eq_true h2
          have HE : Hid (Ix23.findI 0 off l = (k : Int)) := HS.out.1 (Ix23.hit_is.2 ⟨h1, h2⟩)
          clear HS
          go_upto_region 4 with fail
          go_quiet (fail)
          go_wp2
          go_ret
          exact ⟨by rw [HE.out]; rfl, m + nq, rfl⟩
        · have g2 : decide (off - st < s) = false := decide_eq_false h2
          have HE : Hid (Ix23.findI 0 off (l.take (k + 1)) = -1) := HS.out.2 (by unfold Ix23.hit; simp only; rw [g2]; simp)
          clear HS
          go_upto_region 4 with fail
          go_quiet (fail)
          go_wp2
          go_roundw
          case rel => exact ⟨k + 1, by omega, by go_num, HE, m + nq, rfl⟩
          case measure => simp [intOf]; omega
      · have g1 : decide (st ≤ off) = false := decide_eq_false h1
        have HE : Hid (Ix23.findI 0 off (l.take (k + 1)) = -1) := HS.out.2 (by unfold Ix23.hit; simp only; rw [g1]; simp)
        clear HS
        go_upto_region 4 with fail
        go_quiet (fail)
        go_wp2
        go_roundw
        case rel => exact ⟨k + 1, by omega, by go_num, HE, m + nq, rfl⟩
        case measure => simp [intOf]; omega
    · obtain rfl : k = n := by omega
      have hl := HL.out.len
      rw [List.take_of_length_le (by omega)] at HF
      go_wp2
      go_ret
      exact ⟨by rw [HF.out]; rfl, m, rfl⟩
end Go.Proofs.YtehfcfpbjenmjaaDoor
