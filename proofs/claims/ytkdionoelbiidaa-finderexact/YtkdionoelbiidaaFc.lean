/- The document's finder; of no statement by itself. -/
import Derived.Test.YtkdionoelbiidaaFe
namespace Go.Proofs.Ytkdionoelbiidaa
open Go.RowKit
set_option linter.unusedVariables false

theorem cells3 {w : World} {a : Nat} {x y z : Value} {t : TypeId} (h : w.heap[a]? = some (.cells #[x, y, z] t (0, 0))) : w.cell? ⟨a, 0, none⟩ = some x ∧ w.cell? ⟨a, 1, none⟩ = some y ∧ w.cell? ⟨a, 2, none⟩ = some z ∧ ∀ j, w.frozen? ⟨a, j, none⟩ = false :=
  ⟨by simp [World.cell?, h], by simp [World.cell?, h], by simp [World.cell?, h], fun j => by simp [World.frozen?, h]⟩
theorem set3 {w : World} {a : Nat} {x y z : Value} {t : TypeId} (h : w.heap[a]? = some (.cells #[x, y, z] t (0, 0))) (j : Nat) (u : Value) : (w.setCell ⟨a, j, none⟩ u).heap[a]? = some (.cells (#[x, y, z].setIfInBounds j u) t (0, 0)) := by
  have hlt := lt_of_blk h
  have h' : w.heap[a] = .cells #[x, y, z] t (0, 0) := by simpa [Array.getElem?_eq_getElem hlt] using h
  show (w.heap.modify a _)[a]? = _
  rw [Array.getElem?_eq_getElem (by simpa using hlt), Array.getElem_modify_self, h']
  rfl
/-- The document's finder at r. -/
structure Rf (w : World) (r : Nat) (ad : Option Addr) (L c : Nat) (d : List Nat) (n p : Nat) : Prop where
  blk : w.heap[r]? = some (.cells #[.slice ad L c, .int .i64 (n : Int), .int .i64 (p : Int)] 55 (0, 0))
  row : Row8 w ad L c (nums d)
  p1 : p ≤ L
  l1 : L ≤ 140737488351232
  n1 : 1 ≤ n
  n2 : n ≤ 4294967295
theorem Rf.len {w : World} {r : Nat} {ad : Option Addr} {L c : Nat} {d : List Nat} {n p : Nat} (h : Rf w r ad L c d n p) : d.length = L := by have := h.row.1; rw [nums_len] at this; exact this
theorem Rf.new {w w' : World} {r : Nat} {ad : Option Addr} {L c : Nat} {d : List Nat} {n p : Nat} (h : Rf w r ad L c d n p) (hc : Chg (fun _ => False) w w') : Rf w' r ad L c d n p := ⟨blk_keep h.blk hc (fun f => f), Bk.row8_chg h.row hc, h.p1, h.l1, h.n1, h.n2⟩
theorem rfnew_out (ad : Option Addr) (L c : Nat) (n : Int) (w : World) (h : n < 1 ∨ 4294967295 < n) : Calls Try.prog 18 #[.slice ad L c, .int .i64 n] w fun e w' => e = .returned (.tuple #[.pointer none, .int .i64 6]) ∧ w = w' := by
  by_cases h0 : n < 1
  · have hd : decide (n < 1) = true := by simp; omega
    go_enter Try.func18, Try.ntmps18
    go_wp2
    go_ret2
    exact ⟨rfl, rfl⟩
  · have hd : decide (n < 1) = false := by simp; omega
    have hd2 : decide (4294967295 < n) = true := by simp; omega
    go_enter Try.func18, Try.ntmps18
    go_wp2
    go_ret2
    exact ⟨rfl, rfl⟩
theorem rfnew_in (ad : Option Addr) (L c : Nat) (d : List Nat) (n : Nat) (w : World) (hr : Row8 w ad L c (nums d)) (hL : L ≤ 140737488351232) (h1 : 1 ≤ n) (h2 : n ≤ 4294967295) : Calls Try.prog 18 #[.slice ad L c, .int .i64 (n : Int)] w fun e w' => ∃ r, e = .returned (.tuple #[.pointer (some ⟨r, 0, none⟩), .int .i64 0]) ∧ Rf w' r ad L c d n 0 ∧ w.heap.size ≤ r ∧ Chg (fun _ => False) w w' := by
  have hd : decide ((n : Int) < 1) = false := by simp; omega
  have hd2 : decide (4294967295 < (n : Int)) = false := by simp; omega
  have HR : Hid (Row8 w ad L c (nums d)) := hr
  clear hr
  go_enter Try.func18, Try.ntmps18
  go_wp2
  go_ret2
  exact ⟨_, rfl, ⟨heap_alloc_last _ _, Bk.row8_chg HR.out (chg_one _ _), Nat.zero_le _, hL, h1, h2⟩, Nat.le_refl _, chg_one _ _⟩
theorem rfskip_out (r : Nat) (ad : Option Addr) (L c : Nat) (d : List Nat) (n p : Nat) (k : Int) (w : World) (h : Rf w r ad L c d n p) (hk : k < 0 ∨ ((L - p : Nat) : Int) < k) : Calls Try.prog 19 #[.pointer (some ⟨r, 0, none⟩), .int .i64 k] w fun e w' => e = .returned (.int .i64 7) ∧ Chg (fun _ => False) w w' := by
  obtain ⟨k0, k1, k2, _⟩ := cells3 h.blk
  have hp := h.p1
  have hl := h.l1
  obtain ⟨x, hx⟩ : ∃ x, L - p = x := ⟨_, rfl⟩
  rw [hx] at hk
  have hxi : (L : Int) - (p : Int) = (x : Int) := by omega
  have hxb : (x : Int) ≤ 140737488351232 := by omega
  clear h hx
  by_cases h0 : k < 0
  · have hd : decide (k < 0) = true := by simp; omega
    go_enter Try.func19, Try.ntmps19
    go_wp2_with fail
    go_quiet (fail)
    go_wp2
    go_ret
    exact ⟨rfl, chg_drewN _ _⟩
  · have hd : decide (k < 0) = false := by simp; omega
    have hd2 : decide ((x : Int) < k) = true := by simp; omega
    go_enter Try.func19, Try.ntmps19
    go_wp2_with fail
    go_quiet (fail)
    go_wp2
    go_ret
    exact ⟨rfl, chg_drewN _ _⟩
theorem rfskip_in (r : Nat) (ad : Option Addr) (L c : Nat) (d : List Nat) (n p k : Nat) (w : World) (h : Rf w r ad L c d n p) (hk : p + k ≤ L) (hrow : ∀ w', Chg (fun z => z = r) w w' → Row8 w' ad L c (nums d)) : Calls Try.prog 19 #[.pointer (some ⟨r, 0, none⟩), .int .i64 (k : Int)] w fun e w' => e = .returned (.int .i64 0) ∧ Rf w' r ad L c d n (p + k) ∧ Chg (fun z => z = r) w w' := by
  obtain ⟨k0, k1, k2, _⟩ := cells3 h.blk
  have hp := h.p1
  have hl := h.l1
  obtain ⟨x, hx⟩ : ∃ x, L - p = x := ⟨_, rfl⟩
  have hxi : (L : Int) - (p : Int) = (x : Int) := by omega
  have hxb : (x : Int) ≤ 140737488351232 := by omega
  have hd : decide ((k : Int) < 0) = false := by simp
  have hd2 : decide ((x : Int) < (k : Int)) = false := by simp; omega
  have hd2' : decide (x < k) = false := by simp; omega
  have hpk : (p : Int) + (k : Int) ≤ 140737488351232 := by omega
  have HH : Hid (Rf w r ad L c d n p) := h
  clear h hx
  go_enter Try.func19, Try.ntmps19
  go_wp2_with fail
  go_quiet (fail)
  have c1 := chg_drewN w nq
  have HH1 : Hid (Rf (w.drewN nq) r ad L c d n p) := HH.out.new c1
  have HC1 : Hid (Chg (fun _ => False) w (w.drewN nq)) := c1
  clear c1 k0 k1 k2 HH
  generalize w.drewN nq = w1 at *
  obtain ⟨_, _, k2, kf⟩ := cells3 HH1.out.blk
  have b3 := set3 HH1.out.blk 2 (.int .i64 ((p : Int) + (k : Int)))
  have cS : Chg (fun z => z = r) w1 (w1.setCell ⟨r, 2, none⟩ (.int .i64 ((p : Int) + (k : Int)))) := (Chg.refl (fun z => z = r) w1).setCell (p := ⟨r, 2, none⟩) (.inl rfl) _
  have HF : Hid (Rf (w1.setCell ⟨r, 2, none⟩ (.int .i64 ((p : Int) + (k : Int)))) r ad L c d n (p + k) ∧ Chg (fun z => z = r) w (w1.setCell ⟨r, 2, none⟩ (.int .i64 ((p : Int) + (k : Int))))) := ⟨⟨by rw [Int.natCast_add]; exact b3, hrow _ ((HC1.out.mono (fun _ f => f.elim)).trans cS (fun z f => .inl f)), by omega, HH1.out.l1, HH1.out.n1, HH1.out.n2⟩, (HC1.out.mono (fun _ f => f.elim)).trans cS (fun z f => .inl f)⟩
  clear b3 cS HH1 HC1
  go_wp2
  go_ret
  exact ⟨rfl, HF.out.1, HF.out.2⟩
set_option maxHeartbeats 8000000 in
set_option maxRecDepth 100000 in
theorem rfsame_q (r : Nat) (ad : Option Addr) (L c : Nat) (d : List Nat) (n p q : Nat) (most : Int) (w : World) (h : Rf w r ad L c d n p) (hq : q ≤ p) (hm : I64 most) : Calls Try.prog 31 #[.pointer (some ⟨r, 0, none⟩), .int .i64 (q : Int), .int .i64 most] w fun e w' => e = .returned (.int .i64 ((runN d p q (bnd most) : Nat) : Int)) ∧ Chg (fun _ => False) w w' := by
  have HR : Hid (Row8 w ad L c (nums d)) := h.row
  have HDL : Hid (d.length = L) := h.len
  obtain ⟨k0, k1, k2, _⟩ := cells3 h.blk
  have hp := h.p1
  have hL := h.l1
  clear h
  go_enter Try.func31, Try.ntmps31
  go_wp2_with fail
  go_loopw [7] (fun v wr => ∃ k s : Nat, k ≤ bnd most ∧ v = .int .i64 (k : Int) ∧ wr = w.drewN s ∧ Hid (∀ j, j < k → okAt d p q j)) (fun v _ => bnd most - (intOf v).toNat)
  case atStart => exact ⟨0, 0, Nat.zero_le _, rfl, rfl, fun j hj => by omega⟩
  case round =>
    obtain ⟨k, s, hk, rfl, rfl, HK⟩ := hrel
    have hkb : k ≤ 273 := by unfold bnd at hk; omega
    have hki : (k : Int) ≤ 273 := by omega
    by_cases h1 : k < bnd most
    · have h1' := bnd_lt.1 h1
      have hd1 : decide ((k : Int) < most) = true := decide_eq_true h1'.1
      have hd2 : decide ((k : Int) < 273) = true := by simp; omega
      have hd2' : decide (k < 273) = true := decide_eq_true h1'.2
      obtain ⟨x, hx⟩ : ∃ x, p + k = x := ⟨_, rfl⟩
      have hxi : (p : Int) + (k : Int) = (x : Int) := by omega
      have hxb : (x : Int) ≤ 140737488355601 := by omega
      by_cases h2 : x < L
      · have hd3 : decide (x < L) = true := decide_eq_true h2
        have hd3' : decide ((x : Int) < (L : Int)) = true := by simp; omega
        obtain ⟨y, hy⟩ : ∃ y, q + k = y := ⟨_, rfl⟩
        have hyi : (q : Int) + (k : Int) = (y : Int) := by omega
        have hyL : y < L := by omega
        have hyb : (y : Int) ≤ 140737488355601 := by omega
        obtain ⟨b1, hb1⟩ : ∃ b1, d[x]? = some b1 := ⟨_, List.getElem?_eq_getElem (by rw [HDL.out]; exact h2)⟩
        obtain ⟨b2, hb2⟩ : ∃ b2, d[y]? = some b2 := ⟨_, List.getElem?_eq_getElem (by rw [HDL.out]; exact hyL)⟩
        obtain ⟨X, hX, hc1⟩ := row8_at HR.out hb1
        obtain ⟨X', hX', hc2⟩ := row8_at HR.out hb2
        subst hX
        cases hX'
        have HOK : Hid (okAt d p q k ↔ b2 = b1) := by
          show _ ↔ _
          have hl1 := HDL.out
          rw [okAt_iff (by omega) (by omega)]
          have hb1' := (List.getElem?_eq_some_iff.1 hb1).2
          have hb2' := (List.getElem?_eq_some_iff.1 hb2).2
          rw [← hb1', ← hb2']
          simp only [hy, hx]
        by_cases h3 : b2 = b1
        · subst h3
          have HK2 : Hid (∀ j, j < k + 1 → okAt d p q j) := fun j hj => by
            by_cases e : j = k
            · rw [e]; exact HOK.out.2 rfl
            · exact HK.out j (by omega)
          clear HK HOK h1' hx hy hb1 hb2
          go_wp2_with fail
          go_quiet (fail)
          go_wp2_with fail
          go_roundw
          case rel => exact ⟨k + 1, _, by omega, by go_num, rfl, HK2.out⟩
          case measure => simp [intOf]; omega
        · have HRES : Hid (runN d p q (bnd most) = k) := runN_is hk HK.out (.inr (fun f => h3 (HOK.out.1 f)))
          have hbb : ((b2 : Int) == (b1 : Int)) = false := by rw [beq_eq_false_iff_ne]; omega
          have hbb' : decide ((b2 : Int) = (b1 : Int)) = false := by simp; omega
          clear HK HOK h1' hx hy hb1 hb2
          go_wp2_with fail
          go_quiet (fail)
          go_wp2
          go_ret
          exact ⟨by rw [HRES.out]; rfl, chg_then (chg_drewN _ _) (chg_drewN _ _)⟩
      · have hd3 : decide (x < L) = false := decide_eq_false h2
        have hd3' : decide ((x : Int) < (L : Int)) = false := by simp; omega
        have HRES : Hid (runN d p q (bnd most) = k) := runN_is hk HK.out (.inr (fun f => h2 (by have := f.1; have := HDL.out; omega)))
        clear HK h1' hx
        go_wp2_with fail
        go_quiet (fail)
        go_wp2
        go_ret
        exact ⟨by rw [HRES.out]; rfl, chg_then (chg_drewN _ _) (chg_drewN _ _)⟩
    · have HRES : Hid (runN d p q (bnd most) = k) := runN_is hk HK.out (.inl (by omega))
      by_cases h1' : (k : Int) < most
      · have hd1 : decide ((k : Int) < most) = true := decide_eq_true h1'
        have hd2' : decide (k < 273) = false := decide_eq_false (fun f => h1 (bnd_lt.2 ⟨h1', f⟩))
        have hd2 : decide ((k : Int) < 273) = false := by have := of_decide_eq_false hd2'; simp; omega
        clear HK
        go_wp2_with fail
        go_quiet (fail)
        go_wp2
        go_ret
        exact ⟨by rw [HRES.out]; rfl, chg_then (chg_drewN _ _) (chg_drewN _ _)⟩
      · have hd1 : decide ((k : Int) < most) = false := decide_eq_false h1'
        clear HK
        go_wp2_with fail
        go_quiet (fail)
        go_wp2
        go_ret
        exact ⟨by rw [HRES.out]; rfl, chg_then (chg_drewN _ _) (chg_drewN _ _)⟩
end Go.Proofs.Ytkdionoelbiidaa
