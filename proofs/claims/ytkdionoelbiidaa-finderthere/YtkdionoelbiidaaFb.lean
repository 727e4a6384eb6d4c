/- The law's num and run; of no statement by themselves. -/
import Derived.Test.YtkdionoelbiidaaFs
namespace Go.Proofs.Ytkdionoelbiidaa
open Go.RowKit
set_option linter.unusedVariables false

theorem num_any (x : Int) (w : World) : Calls Try.prog 9 #[.int .i64 x] w fun e w' => e = .returned (.int .i64 x) ∧ w = w' := by
  go_enter Try.func9, Try.ntmps9
  go_wp2
  go_ret
  exact ⟨rfl, rfl⟩
theorem bnd_lt {most : Int} {k : Nat} : k < bnd most ↔ (k : Int) < most ∧ k < 273 := by unfold bnd; omega
theorem row8_at {w : World} {ad : Option Addr} {m c : Nat} {bs : List Nat} {k b : Nat} (h : Row8 w ad m c (nums bs)) (hk : bs[k]? = some b) : ∃ x, ad = some x ∧ w.cell? (x.add k) = some (.int .u8 (b : Int)) := by
  rcases h.2 with ⟨_, e, _⟩ | ⟨x, e, hx⟩
  · have h1 := h.1
    rw [nums_len] at h1
    have := (List.getElem?_eq_some_iff.1 hk).1
    omega
  · exact ⟨x, e, hx k _ (by simp [nums, hk])⟩
theorem okAt_iff {d : List Nat} {p q j : Nat} (h1 : p + j < d.length) (h2 : q + j < d.length) : okAt d p q j ↔ d[q + j] = d[p + j] := by
  unfold okAt
  rw [List.getD_eq_getElem?_getD, List.getD_eq_getElem?_getD, List.getElem?_eq_getElem h1, List.getElem?_eq_getElem h2]
  exact ⟨fun h => h.2, fun h => ⟨h1, h⟩⟩
set_option maxHeartbeats 4000000 in
set_option maxRecDepth 100000 in
theorem run_q (ad : Option Addr) (L c : Nat) (d : List Nat) (p t : Nat) (most : Int) (w : World) (hr : Row8 w ad L c (nums d)) (ht : t ≤ p) (hp : p ≤ L) (hL : L ≤ 140737488355328) (hm : I64 most) : Calls Try.prog 10 #[.slice ad L c, .int .i64 (p : Int), .int .i64 (t : Int), .int .i64 most] w fun e w' => e = .returned (.int .i64 ((runN d p (p - t) (bnd most) : Nat) : Int)) ∧ ∃ k, w' = w.drewN k := by
  have HR : Hid (Row8 w ad L c (nums d)) := hr
  have hdl : d.length = L := by have := hr.1; rw [nums_len] at this; exact this
  have HDL : Hid (d.length = L) := hdl
  clear hr hdl
  go_enter Try.func10, Try.ntmps10
  go_wp2_with fail
  go_loopw [9] (fun v wr => ∃ k q : Nat, k ≤ bnd most ∧ v = .int .i64 (k : Int) ∧ wr = w.drewN q ∧ Hid (∀ j, j < k → okAt d p (p - t) j)) (fun v _ => bnd most - (intOf v).toNat)
  case atStart => exact ⟨0, 0, Nat.zero_le _, rfl, rfl, fun j hj => by omega⟩
  case round =>
    obtain ⟨k, q, hk, rfl, rfl, HK⟩ := hrel
    have hkb : k ≤ 273 := by unfold bnd at hk; omega
    have hki : (k : Int) ≤ 273 := by omega
    by_cases h1 : k < bnd most
    · have h1' := bnd_lt.1 h1
      have hd1 : decide ((k : Int) < most) = true := decide_eq_true h1'.1
      have hd2 : decide ((k : Int) < 273) = true := by simp; omega
      have hd2' : decide (k < 273) = true := decide_eq_true h1'.2
      obtain ⟨x, hx⟩ : ∃ x, p + k = x := ⟨_, rfl⟩
      have hxi : (p : Int) + (k : Int) = (x : Int) := by omega
      have hxb : (x : Int) ≤ 140737488355601 := by omega
      by_cases h2 : x < L
      · have hd3 : decide (x < L) = true := decide_eq_true h2
        have hd3' : decide ((x : Int) < (L : Int)) = true := by simp; omega
        obtain ⟨y, hy⟩ : ∃ y, x - t = y := ⟨_, rfl⟩
        have hyi : (x : Int) - (t : Int) = (y : Int) := by omega
        have hyL : y < L := by omega
        have hyb : (y : Int) ≤ 140737488355601 := by omega
        obtain ⟨b1, hb1⟩ : ∃ b1, d[x]? = some b1 := ⟨_, List.getElem?_eq_getElem (by rw [HDL.out]; exact h2)⟩
        obtain ⟨b2, hb2⟩ : ∃ b2, d[y]? = some b2 := ⟨_, List.getElem?_eq_getElem (by rw [HDL.out]; exact hyL)⟩
        obtain ⟨X, hX, hc1⟩ := row8_at HR.out hb1
        obtain ⟨X', hX', hc2⟩ := row8_at HR.out hb2
        subst hX
        cases hX'
        have HOK : Hid (okAt d p (p - t) k ↔ b2 = b1) := by
          show _ ↔ _
          have e1 : p - t + k = y := by omega
          have hl1 := HDL.out
          rw [okAt_iff (by omega) (by omega)]
          have hb1' := (List.getElem?_eq_some_iff.1 hb1).2
          have hb2' := (List.getElem?_eq_some_iff.1 hb2).2
          rw [← hb1', ← hb2']
          simp only [e1, hx]
        by_cases h3 : b1 = b2
        · subst h3
          have HK2 : Hid (∀ j, j < k + 1 → okAt d p (p - t) j) := fun j hj => by
            by_cases e : j = k
            · rw [e]; exact HOK.out.2 rfl
            · exact HK.out j (by omega)
          have hbb : decide ((b1 : Int) = (b1 : Int)) = true := by simp
          clear HK HOK h1' hx hy hb1 hb2
          go_wp2_with fail
          go_quiet (fail)
          go_wp2_with fail
          go_roundw
          case rel => exact ⟨k + 1, _, by omega, by go_num, rfl, HK2.out⟩
          case measure => simp [intOf]; omega
        · have HRES : Hid (runN d p (p - t) (bnd most) = k) := runN_is hk HK.out (.inr (fun f => h3 (HOK.out.1 f).symm))
          have hbb : decide ((b1 : Int) = (b2 : Int)) = false := by simp; omega
          clear HK HOK h1' hx hy hb1 hb2
          go_wp2_with fail
          go_quiet (fail)
          go_wp2
          go_ret
          exact ⟨by rw [HRES.out]; rfl, _, World.drewN_drewN _ _ _⟩
      · have hd3 : decide (x < L) = false := decide_eq_false h2
        have hd3' : decide ((x : Int) < (L : Int)) = false := by simp; omega
        have HRES : Hid (runN d p (p - t) (bnd most) = k) := runN_is hk HK.out (.inr (fun f => h2 (by have := f.1; have := HDL.out; omega)))
        clear HK h1' hx
        go_wp2_with fail
        go_quiet (fail)
        go_wp2
        go_ret
        exact ⟨by rw [HRES.out]; rfl, _, World.drewN_drewN _ _ _⟩
    · have HRES : Hid (runN d p (p - t) (bnd most) = k) := runN_is hk HK.out (.inl (by omega))
      by_cases h1' : (k : Int) < most
      · have hd1 : decide ((k : Int) < most) = true := decide_eq_true h1'
        have hd2' : decide (k < 273) = false := decide_eq_false (fun f => h1 (bnd_lt.2 ⟨h1', f⟩))
        have hd2 : decide ((k : Int) < 273) = false := by have := of_decide_eq_false hd2'; simp; omega
        clear HK
        go_wp2_with fail
        go_quiet (fail)
        go_wp2
        go_ret
        exact ⟨by rw [HRES.out]; rfl, _, World.drewN_drewN _ _ _⟩
      · have hd1 : decide ((k : Int) < most) = false := decide_eq_false h1'
        clear HK
        go_wp2_with fail
        go_quiet (fail)
        go_wp2
        go_ret
        exact ⟨by rw [HRES.out]; rfl, _, World.drewN_drewN _ _ _⟩
end Go.Proofs.Ytkdionoelbiidaa
