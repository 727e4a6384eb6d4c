/- The document's own look at records and lists of records; of no statement by itself. -/
import Derived.Test.YtehfcfpbjenmjaaDoorIxe
namespace Go.Proofs.YtehfcfpbjenmjaaDoor
open Go.RowKit
set_option linter.unusedVariables false
set_option linter.unusedSimpArgs false
theorem w64 {n : Int} (h0 : 0 ≤ n) (h1 : n < 18446744073709551616) : IntKind.u64.wrap n = n := by
  have e : IntKind.u64.wrap n = n % 18446744073709551616 := by simp [IntKind.wrap, IntKind.signed, IntKind.bits]
  rw [e]
  exact Int.emod_eq_of_lt h0 h1
set_option maxHeartbeats 4000000 in
set_option maxRecDepth 100000 in
theorem fits_any (b p u s : Int) (w : World) (hb0 : 0 ≤ b) (hb : b ≤ 9223372036854775807) (hp0 : 0 ≤ p) (hp : p ≤ 9223372036854775807) (hr : (⟨u, s⟩ : Rec).I) : Calls Tryd.prog 50 #[.int .u64 b, .int .u64 p, .agg #[.int .i64 u, .int .i64 s]] w fun e w' => ∃ x y, e = .returned (.tuple #[.int .u64 x, .int .u64 y, .bool (Ix23.fitB b p ⟨u, s⟩)]) ∧ (Ix23.fitB b p ⟨u, s⟩ = true → x = b + Ix23.pad u ∧ y = p + s) ∧ Chg (fun _ => False) w w' := by
  obtain ⟨⟨u0, u1⟩, s0, s1⟩ := hr
  simp only at u0 u1 s0 s1
  have cA := chg_one w (.cells #[.int .i64 u, .int .i64 s] 43)
  have bA := heap_alloc_last w (.cells #[.int .i64 u, .int .i64 s] 43)
  have m0 : (w.alloc (.cells #[.int .i64 u, .int .i64 s] 43)).cell? ⟨w.heap.size, 0, none⟩ = some (.int .i64 u) := cell0 bA
  have m1 : (w.alloc (.cells #[.int .i64 u, .int .i64 s] 43)).cell? ⟨w.heap.size, 1, none⟩ = some (.int .i64 s) := cell1 bA
  have HC : Hid (Chg (fun _ => False) w (w.alloc (.cells #[.int .i64 u, .int .i64 s] 43))) := cA
  clear cA bA
  have bad : ¬ (5 ≤ u ∧ u ≤ 9223372036854775804 ∧ 0 ≤ s) → Ix23.fitB b p ⟨u, s⟩ = false := fun h => by
    cases e : Ix23.fitB b p ⟨u, s⟩
    · rfl
    · have := Ix23.fit_is.1 e
      simp only at this
      omega
  by_cases h1 : u < 5
  · have HE : Hid (Ix23.fitB b p ⟨u, s⟩ = false) := bad (by omega)
    clear bad
    go_enter Tryd.func50, Tryd.ntmps50
    go_wp2
    go_ret3
    exact ⟨0, 0, (by rw [HE.out]; rfl), (fun f => (by rw [HE.out] at f; cases f)), HC.out⟩
  · by_cases h2 : 9223372036854775804 < u
    · have HE : Hid (Ix23.fitB b p ⟨u, s⟩ = false) := bad (by omega)
      clear bad
      go_enter Tryd.func50, Tryd.ntmps50
      go_wp2
      go_ret3
      exact ⟨0, 0, (by rw [HE.out]; rfl), (fun f => (by rw [HE.out] at f; cases f)), HC.out⟩
    · by_cases h3 : s < 0
      · have HE : Hid (Ix23.fitB b p ⟨u, s⟩ = false) := bad (by omega)
        clear bad
        go_enter Tryd.func50, Tryd.ntmps50
        go_wp2
        go_ret3
        exact ⟨0, 0, (by rw [HE.out]; rfl), (fun f => (by rw [HE.out] at f; cases f)), HC.out⟩
      · have HP : Hid _ := rpad_any u (w.alloc (.cells #[.int .i64 u, .int .i64 s] 43)) (by omega) (by omega)
        have hpl := pad_lt (n := u) (by omega) (by omega)
        have hfb : Ix23.fitB b p ⟨u, s⟩ = (decide (b + Ix23.pad u ≤ 9223372036854775807) && decide (p + s ≤ 9223372036854775807)) := by
          unfold Ix23.fitB
          rw [decide_eq_true (show 5 ≤ u by omega), decide_eq_true (show u ≤ 9223372036854775804 by omega), decide_eq_true (show 0 ≤ s by omega)]
          rfl
        generalize Ix23.pad u = q at *
        have HF : Hid (Ix23.fitB b p ⟨u, s⟩ = (decide (b + q ≤ 9223372036854775807) && decide (p + s ≤ 9223372036854775807))) := hfb
        have e1 : IntKind.u64.wrap q = q := w64 (by omega) (by omega)
        have e2 : IntKind.u64.wrap s = s := w64 (by omega) (by omega)
        have e3 : IntKind.u64.wrap (b + q) = b + q := w64 (by omega) (by omega)
        have e4 : IntKind.u64.wrap (p + s) = p + s := w64 (by omega) (by omega)
        clear bad hfb
        by_cases k1 : b + q ≤ 9223372036854775807
        · go_enter Tryd.func50, Tryd.ntmps50
          go_wp2_with fail
          refine Calls.mono HP.out ?_
          rintro z w1 ⟨rfl, rfl⟩
          go_wp2
          go_ret3
          exact ⟨b + q, p + s, (by rw [HF.out, decide_eq_true k1]; simp), (fun _ => ⟨rfl, rfl⟩), HC.out⟩
        · go_enter Tryd.func50, Tryd.ntmps50
          go_wp2_with fail
          refine Calls.mono HP.out ?_
          rintro z w1 ⟨rfl, rfl⟩
          go_wp2
          go_ret3
          exact ⟨b + q, p + s, (by rw [HF.out, decide_eq_false (show ¬ b + q ≤ 9223372036854775807 by omega)]; rfl), (fun f => (by rw [HF.out, decide_eq_false (show ¬ b + q ≤ 9223372036854775807 by omega)] at f; cases f)), HC.out⟩
theorem sum_bd {l : List Rec} (h : Ix23.rightB 0 0 l = true) : 0 ≤ Ix23.bsum l ∧ Ix23.bsum l ≤ 9223372036854775807 ∧ 0 ≤ Ix23.ssum l ∧ Ix23.ssum l ≤ 9223372036854775807 := by
  obtain ⟨_, h1, h2, h3, h4, _⟩ := Ix23.right_is h (by omega) (by omega)
  omega
theorem take_last {l : List Rec} {k : Nat} {q : Rec} (h : l[k]? = some q) : l.take (k + 1) = l.take k ++ [q] := by
  obtain ⟨hk, rfl⟩ := List.getElem?_eq_some_iff.1 h
  exact List.take_succ_eq_append_getElem hk
theorem right_take {l : List Rec} (h : Ix23.rightB 0 0 l = true) (k : Nat) : Ix23.rightB 0 0 (l.take k) = true := by
  rw [← List.take_append_drop k l, Ix23.right_app] at h
  exact h.1
theorem right_one {b p : Int} {q : Rec} : Ix23.rightB b p [q] = Ix23.fitB b p q := by simp [Ix23.rightB]
theorem right_bad {l : List Rec} {k : Nat} {q : Rec} (h : l[k]? = some q) (h0 : Ix23.rightB 0 0 (l.take k) = true) (hf : Ix23.fitB (Ix23.bsum (l.take k)) (Ix23.ssum (l.take k)) q = false) : Ix23.rightB 0 0 l = false := by
  cases e : Ix23.rightB 0 0 l
  · rfl
  · rw [← List.take_append_drop (k + 1) l, Ix23.right_app, take_last h, Ix23.right_app, right_one, Int.zero_add, Int.zero_add, hf] at e
    exact absurd e.1.2 (by simp)
set_option maxHeartbeats 8000000 in
set_option maxRecDepth 100000 in
/-- The document's look at a list: its sums, if it is right. -/
theorem right23_any (ad : Option Addr) (n c : Nat) (l : List Rec) (w0 : World) (h : RcF w0 ad n c l) (hn : n ≤ 8796093022208) : Calls Tryd.prog 45 #[.slice ad n c] w0 fun e w' => ∃ x y, e = .returned (.tuple #[.int .u64 x, .int .u64 y, .bool (Ix23.rightB 0 0 l)]) ∧ (Ix23.rightB 0 0 l = true → x = Ix23.bsum l ∧ y = Ix23.ssum l) ∧ Chg (fun _ => False) w0 w' := by
  have HL : Hid (RcF w0 ad n c l) := h
  have hni : (n : Int) ≤ 8796093022208 := by omega
  clear h
  go_enter Tryd.func45, Tryd.ntmps45
  go_wp2_with fail
  go_loopw [5, 6, 7] (fun x y i wr => ∃ k : Nat, k ≤ n ∧ i = .int .i64 (k : Int) ∧ x = .int .u64 (Ix23.bsum (l.take k)) ∧ y = .int .u64 (Ix23.ssum (l.take k)) ∧ Hid (Ix23.rightB 0 0 (l.take k) = true) ∧ Hid (Chg (fun _ => False) w0 wr)) (fun _ _ i _ => n - (intOf i).toNat)
  case atStart => exact ⟨0, by omega, rfl, by simp [Ix23.bsum], by simp [Ix23.ssum], rfl, Chg.refl _ _⟩
  case round =>
    obtain ⟨k, hk, rfl, rfl, rfl, HR, HC⟩ := hrel
    have hki : (k : Int) ≤ (n : Int) := by omega
    obtain ⟨hb0, hb1, hs0, hs1⟩ := sum_bd HR.out
    by_cases hlt : k < n
    · have d1 : decide ((k : Int) < (n : Int)) = true := decide_eq_true (by omega)
      have d1' : decide (k < n) = true := decide_eq_true hlt
      obtain ⟨q, bx, ox, hq, hI, rfl, x0, x1⟩ := (HL.out.new HC.out).at hlt
      obtain ⟨u, s⟩ := q
      simp only at x0 x1
      have HQ : Hid (l[k]? = some ⟨u, s⟩) := hq
      have HF : Hid _ := fits_any (Ix23.bsum (l.take k)) (Ix23.ssum (l.take k)) u s wr hb0 hb1 hs0 hs1 hI
      have HN : Hid (Ix23.fitB (Ix23.bsum (l.take k)) (Ix23.ssum (l.take k)) ⟨u, s⟩ = true → Ix23.rightB 0 0 (l.take (k + 1)) = true ∧ Ix23.bsum (l.take (k + 1)) = Ix23.bsum (l.take k) + Ix23.pad u ∧ Ix23.ssum (l.take (k + 1)) = Ix23.ssum (l.take k) + s) := fun hf => by
        rw [take_last HQ.out, Ix23.right_app, right_one, Ix23.bsum_app, Ix23.ssum_app, Int.zero_add, Int.zero_add]
        exact ⟨⟨HR.out, hf⟩, by simp [Ix23.bsum], by simp [Ix23.ssum]⟩
      have HB : Hid (Ix23.fitB (Ix23.bsum (l.take k)) (Ix23.ssum (l.take k)) ⟨u, s⟩ = false → Ix23.rightB 0 0 l = false) := fun hf => right_bad HQ.out HR.out hf
      clear hq hI
      generalize Ix23.fitB (Ix23.bsum (l.take k)) (Ix23.ssum (l.take k)) ⟨u, s⟩ = ok at *
      generalize Ix23.bsum (l.take k) = bk at *
      generalize Ix23.ssum (l.take k) = sk at *
      go_wp2_with fail
      refine Calls.mono HF.out ?_
      rintro z w1 ⟨x, y, rfl, hxy, c1⟩
      have HC1 : Hid (Chg (fun _ => False) w0 w1) := chg_then HC.out c1
      have HXY : Hid (ok = true → x = bk + Ix23.pad u ∧ y = sk + s) := hxy
      clear hxy c1 HF x0 x1
      cases ok
      · have HE : Hid (Ix23.rightB 0 0 l = false) := HB.out rfl
        go_wp2
        go_ret3
        exact ⟨0, 0, (by rw [HE.out]; rfl), (fun f => (by rw [HE.out] at f; cases f)), HC1.out⟩
      · obtain ⟨n1, n2, n3⟩ := HN.out rfl
        obtain ⟨rfl, rfl⟩ := HXY.out rfl
        have HN1 : Hid (Ix23.rightB 0 0 (l.take (k + 1)) = true) := n1
        rw [← n2, ← n3]
        clear n1 n2 n3 HN HB HXY
        go_wp2
        go_roundw
        case rel => exact ⟨k + 1, by omega, by go_num, rfl, rfl, HN1, HC1⟩
        case measure => simp [intOf]; omega
    · obtain rfl : k = n := by omega
      have hl := HL.out.len
      rw [List.take_of_length_le (by omega)] at HR ⊢
      have HE : Hid (Ix23.rightB 0 0 l = true) := HR
      go_wp2
      go_ret3
      exact ⟨_, _, (by rw [HE.out]; rfl), (fun _ => ⟨rfl, rfl⟩), HC.out⟩
end Go.Proofs.YtehfcfpbjenmjaaDoor
