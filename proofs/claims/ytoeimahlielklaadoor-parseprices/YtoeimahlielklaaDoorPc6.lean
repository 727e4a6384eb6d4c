/- The document's Prices, the law's same, what is asked of the program's prices; of no statement by itself. -/
import Derived.Test.YtoeimahlielklaaDoorPb6
import Derived.Laws.StructEq
namespace Go.Proofs.YtoeimahlielklaaDoor
open Go.RowKit
open St12
set_option linter.unusedVariables false
set_option linter.unusedSimpArgs false
theorem sym_cell {w : World} {ad : Option Addr} {l : List Sym} (h : SymL w ad l) (k : Nat) (y : Sym) (hk : l[k]? = some y) : y.I ∧ ∃ b off, ad = some ⟨b, off, none⟩ ∧ w.cell? ⟨b, off + k * 4, none⟩ = some (.int .i64 y.k) ∧ w.cell? ⟨b, off + k * 4 + 1, none⟩ = some (.int .u8 y.y) ∧ w.cell? ⟨b, off + k * 4 + 2, none⟩ = some (.int .i64 y.l) ∧ w.cell? ⟨b, off + k * 4 + 3, none⟩ = some (.int .i64 y.d) := h k y hk
set_option maxHeartbeats 4000000 in
set_option maxRecDepth 100000 in
theorem rprices_any (ad : Option Addr) (n c : Nat) (l : List Sym) (hl : l.length = n) (hn : n ≤ 8796093022208) (w0 : World) (hS : SymL w0 ad l) : Calls Tryd.prog 5 #[.slice ad n c] w0 fun e w' => e = .returned (.tuple #[.int .i64 (pricesA l).1, .int .i64 (pricesA l).2]) ∧ Chg (fun _ => False) w0 w' := by
  have HS : Hid (SymL w0 ad l) := hS
  have HL : Hid (l.length = n) := hl
  have hni : (n : Int) ≤ 8796093022208 := by omega
  clear hS hl
  go_enter Tryd.func5, Tryd.ntmps5
  go_wp2_with fail
  go_loopw [4, 5] (fun v4 v5 wr => ∃ (i : Nat) (s : Int), i ≤ n ∧ v4 = .int .i64 s ∧ v5 = .int .i64 (i : Int) ∧ 0 ≤ s ∧ s ≤ 48 * (i : Int) ∧ Hid (pricesA (l.take i) = (s, 0) ∧ Chg (fun _ => False) w0 wr)) (fun _ v5 _ => n - (intOf v5).toNat)
  case atStart => exact ⟨0, 0, by omega, rfl, rfl, by omega, by omega, by simp [pricesA], Chg.refl _ _⟩
  case round =>
    obtain ⟨i, s, hi, rfl, rfl, hs0, hs1, HI⟩ := hrel
    have hii : (i : Int) ≤ 8796093022208 := by omega
    by_cases hin : i < n
    · have hd1 : decide (i < n) = true := decide_eq_true hin
      obtain ⟨y, hy⟩ : ∃ y, l[i]? = some y := ⟨_, List.getElem?_eq_getElem (by rw [HL.out]; exact hin)⟩
      obtain ⟨hyI, b, off, rfl, x0, x1, x2, x3⟩ := sym_cell (HS.out.new HI.out.2) i y hy
      have HY : Hid (l[i]? = some y) := hy
      obtain ⟨yk, yb, yl, yd⟩ := y
      simp only at x0 x1 x2 x3
      have HP : Hid _ := rprice_any yk yb yl yd hyI wr
      have hpb := price_bound ⟨yk, yb, yl, yd⟩
      obtain ⟨pv, pe, hpv⟩ : ∃ a b, priceA ⟨yk, yb, yl, yd⟩ = (a, b) := ⟨_, _, rfl⟩
      have HPV : Hid (priceA ⟨yk, yb, yl, yd⟩ = (pv, pe)) := hpv
      rw [hpv] at HP hpb
      simp only at HP hpb
      clear hy hyI hpv
      go_wp2_with fail
      refine Calls.mono HP.out ?_
      rintro z w1 ⟨rfl, c1⟩
      have HC1 : Hid (Chg (fun _ => False) w0 w1) := chg_then HI.out.2 c1
      clear c1 HP x0 x1 x2 x3
      by_cases hpe : pe = 0
      · subst hpe
        have HN : Hid (pricesA (l.take (i + 1)) = (s + pv, 0)) := by
          have hlt := (List.getElem?_eq_some_iff.1 HY.out).1
          have e9 := (List.getElem?_eq_some_iff.1 HY.out).2
          show _ = _
          rw [← List.take_append_getElem hlt, e9]
          have := prices_snoc HI.out.1 (y := ⟨yk, yb, yl, yd⟩) (by rw [HPV.out])
          rw [HPV.out] at this
          exact this
        clear HI HPV HY
        go_wp2_with fail
        exact ⟨⟨i + 1, s + pv, by omega, rfl, by go_num, by omega, by omega, HN.out, HC1.out⟩, by simp [intOf]; omega⟩
      · have hne : (pe != 0) = true := by simp [hpe]
        have hne' : (pe == 0) = false := by simp [hpe]
        have HN : Hid (pricesA l = (0, pe)) := by
          have hlt := (List.getElem?_eq_some_iff.1 HY.out).1
          have e9 := (List.getElem?_eq_some_iff.1 HY.out).2
          have hll : l = l.take i ++ (⟨yk, yb, yl, yd⟩ : Sym) :: l.drop (i + 1) := by rw [← e9, List.getElem_cons_drop hlt, List.take_append_drop]
          show _ = _
          rw [hll]
          have := prices_stop HI.out.1 (y := ⟨yk, yb, yl, yd⟩) (r := l.drop (i + 1)) (by rw [HPV.out]; exact hpe)
          rw [HPV.out] at this
          exact this
        clear HI HPV HY hpe
        go_wp2
        go_ret2
        exact ⟨by rw [HN.out]; rfl, HC1.out⟩
    · have hd1 : decide (i < n) = false := decide_eq_false hin
      have HN : Hid (pricesA l = (s, 0)) := by
        have h9 := HI.out.1
        rw [List.take_of_length_le (by rw [HL.out]; omega)] at h9
        exact h9
      have HC : Hid (Chg (fun _ => False) w0 wr) := HI.out.2
      clear HI
      go_wp2
      go_ret2
      exact ⟨by rw [HN.out]; rfl, HC.out⟩
set_option maxHeartbeats 2000000 in
set_option maxRecDepth 100000 in
theorem same16_q (a1 a2 : Option Addr) (c1 c2 L : Nat) (l : List Sym) (w : World) (h1 : SymL w a1 l) (h2 : SymL w a2 l) (hl : l.length = L) (hL : L ≤ 8796093022208) : Calls Tryd.prog 6 #[.slice a1 L c1, .slice a2 L c2] w fun e w' => e = .returned (.bool true) ∧ ∃ k, w' = w.drewN k := by
  have H1 : Hid (SymL w a1 l) := h1
  have H2 : Hid (SymL w a2 l) := h2
  have HL : Hid (l.length = L) := hl
  have hLi : (L : Int) ≤ 8796093022208 := by omega
  have hnn : ((L : Int) != (L : Int)) = false := by simp
  clear h1 h2 hl
  go_enter Tryd.func6, Tryd.ntmps6
  go_wp2_with fail
  go_loopw [13] (fun v wr => ∃ k q : Nat, k ≤ L ∧ v = .int .i64 (k : Int) ∧ wr = w.drewN q) (fun v _ => L - (intOf v).toNat)
  case atStart => exact ⟨0, 0, Nat.zero_le _, rfl, rfl⟩
  case round =>
    obtain ⟨k, q, hk, rfl, rfl⟩ := hrel
    have hki : (k : Int) ≤ 8796093022208 := by omega
    by_cases hlt : k < L
    · have hd : decide (k < L) = true := decide_eq_true hlt
      obtain ⟨m, hm⟩ : ∃ m, l[k]? = some m := ⟨_, List.getElem?_eq_getElem (by rw [HL.out]; exact hlt)⟩
      obtain ⟨_, g1, o1, e1, x0, x1, x2, x3⟩ := sym_cell H1.out k m hm
      obtain ⟨_, g2, o2, e2, y0, y1, y2, y3⟩ := sym_cell H2.out k m hm
      subst e1
      subst e2
      clear hm
      go_wp2_with fail
      go_quiet (fail)
      go_wp2_with fail
      go_roundw
      case rel => exact ⟨k + 1, _, by omega, by go_num, rfl⟩
      case measure => simp [intOf]; omega
    · have hd : decide (k < L) = false := decide_eq_false hlt
      go_wp2
      go_ret
      exact ⟨rfl, _, rfl⟩
/-- What is asked of the program's prices. -/
structure PriceSpec (Tab : World → Prop) : Prop where
  keep : ∀ {w w'}, Tab w → Chg (fun _ => False) w w' → Tab w'
  price : ∀ (k yb yl yd : Int) (w : World), Tab w → (⟨k, yb, yl, yd⟩ : Sym).I → Calls Tryd.prog 7 #[.agg #[.int .i64 k, .int .u8 yb, .int .i64 yl, .int .i64 yd]] w fun e w' => e = .returned (.tuple #[.int .i64 (priceA ⟨k, yb, yl, yd⟩).1, .int .i64 (priceA ⟨k, yb, yl, yd⟩).2]) ∧ Chg (fun _ => False) w w'
  prices : ∀ (ad : Option Addr) (n c : Nat) (l : List Sym) (w : World), Tab w → l.length = n → n ≤ c → n ≤ 8796093022208 → SymL w ad l → Calls Tryd.prog 4 #[.slice ad n c] w fun e w' => e = .returned (.tuple #[.int .i64 (pricesA l).1, .int .i64 (pricesA l).2]) ∧ Chg (fun _ => False) w w'
end Go.Proofs.YtoeimahlielklaaDoor
