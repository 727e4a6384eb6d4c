/- The document's own padding: the contract of its Pad; of no statement by itself. -/
import Derived.Test.YtnedllhlmddmoabDoorStr
namespace Go.Proofs.YtnedllhlmddmoabDoor
open Go.RowKit
set_option linter.unusedVariables false

theorem refpad_neg (n : Int) (w : World) (hn : n < 0) : Calls Tryd.prog 9 #[.int .i64 n] w fun e w' => e = .returned (.slice none 0 0) ∧ w = w' := by
  go_enter Tryd.func9, Tryd.ntmps9
  go_wp2
  go_ret
  exact ⟨rfl, rfl⟩

/-- A byte of a number, the lowest first. -/
def lowb (c j : Nat) : Nat := c / 256 ^ j % 256
theorem lowb_lt (c j : Nat) : lowb c j < 256 := Nat.mod_lt _ (by omega)
def lows (c i : Nat) : List Nat := (List.range i).map (lowb c)
theorem lows_len (c i : Nat) : (lows c i).length = i := by simp [lows]
theorem lows_succ (c i : Nat) : lows c (i + 1) = lows c i ++ [lowb c i] := by simp [lows, List.range_succ]
/-- The highest first. -/
def highs (c m : Nat) : List Nat := (List.range m).map fun j => lowb c (7 - j)
theorem highs_succ (c m : Nat) : highs c (m + 1) = highs c m ++ [lowb c (7 - m)] := by simp [highs, List.range_succ]

theorem pad_parts (n : Nat) (hn : n < 9223372036854775808) : [128] ++ List.replicate (Sha.padlen n - 9) 0 ++ highs (8 * n % 18446744073709551616) 8 = Sha.pad n := by
  have hg := Sha.padlen_ge n
  apply List.ext_getElem?
  intro j
  by_cases hj : j < Sha.padlen n
  · have hr : (Sha.pad n)[j]? = some (if j = 0 then 128 else if Sha.padlen n - 8 ≤ j then 8 * n / 2 ^ (8 * (Sha.padlen n - 1 - j)) % 256 else 0) := by simp [Sha.pad, hj]
    rw [hr]
    by_cases h0 : j = 0
    · subst h0; simp
    · rw [if_neg h0]
      by_cases h1 : Sha.padlen n - 8 ≤ j
      · rw [if_pos h1, List.getElem?_append_right (by simp; omega)]
        have e1 : j - ([128] ++ List.replicate (Sha.padlen n - 9) 0).length = j - (Sha.padlen n - 8) := by simp; omega
        rw [e1]
        have h8 : j - (Sha.padlen n - 8) < 8 := by omega
        simp only [highs, List.getElem?_map, List.getElem?_range h8, Option.map_some, Option.some.injEq]
        unfold lowb
        have e2 : 7 - (j - (Sha.padlen n - 8)) = Sha.padlen n - 1 - j := by omega
        rw [e2]
        have h9 : Sha.padlen n - 1 - j < 8 := by omega
        rw [show (256 : Nat) = 2 ^ 8 from rfl, ← Nat.pow_mul]
        exact byte_of n _ hn h9
      · rw [if_neg h1, List.getElem?_append_left (by simp; omega), List.getElem?_append_right (by simp; omega), List.getElem?_replicate, if_pos (by simp; omega)]
  · rw [List.getElem?_eq_none (by simp [highs]; omega), List.getElem?_eq_none (by rw [Sha.pad_len]; omega)]

theorem own_one (w : World) (x : Nat) : (w.alloc (.cells #[.int .u8 (x : Int)] 5)).ownsRow w.heap.size 5 1 (.slice (some ⟨w.heap.size, 0, none⟩) 1 1) 1 (cells8 (up [x])) := by
  refine ⟨rfl, .inr ⟨w.heap.size, 1, #[.int .u8 (x : Int)], rfl, Nat.le_refl _, heap_alloc_last w _, Nat.le_refl _, by unfold maxLen; omega, rfl, rfl⟩⟩

theorem own_form {w : World} {B : Nat} {e : TypeId} {v : Value} {n : Nat} {xs : List Value} (h : w.ownsRow B e 1 v n xs) : ∃ a c, v = .slice a n c := by
  rcases h.2 with ⟨rfl, rfl⟩ | ⟨g, cap, _, rfl, _⟩
  · exact ⟨none, 0, rfl⟩
  · exact ⟨_, cap, rfl⟩

set_option maxHeartbeats 8000000 in
set_option maxRecDepth 100000 in
theorem refpad_any (n : Nat) (w : World) (hn : n < 9223372036854775808) :
    Calls Tryd.prog 9 #[.int .i64 n] w fun e w' => ∃ ad c, e = .returned (.slice ad (Sha.padlen n) c) ∧ Row8 w' ad (Sha.padlen n) c (up (Sha.pad n)) ∧ Chg (fun _ => False) w w' := by
  obtain ⟨i0, hi, hz0, hz1, hz2⟩ := info_parts info5
  have hg := Sha.padlen_ge n
  have hl := Sha.padlen_le n
  have HP : Hid (Sha.padlen n = if 64 - n % 64 < 9 then 128 - n % 64 else 64 - n % 64) := rfl
  have HQ : Hid ([128] ++ List.replicate (Sha.padlen n - 9) 0 ++ highs (8 * n % 18446744073709551616) 8 = Sha.pad n) := pad_parts n hn
  have hw8 : IntKind.u64.wrap ((n : Int) * 8) = ((8 * n % 18446744073709551616 : Nat) : Int) := by
    have e2 : IntKind.u64.wrap ((n : Int) * 8) = ((n : Int) * 8) % 18446744073709551616 := by simp [IntKind.wrap, IntKind.signed, IntKind.bits]
    rw [e2]
    omega
  have hc64 : 8 * n % 18446744073709551616 < 18446744073709551616 := Nat.mod_lt _ (by omega)
  generalize hcc : 8 * n % 18446744073709551616 = c at *
  generalize hlp : Sha.padlen n = lp at *
  clear hcc
  have ho := own_one w 128
  have hc0 := chg_one w (.cells #[.int .u8 128] 5)
  go_enter Tryd.func9, Tryd.ntmps9
  go_wp2_with fail
  go_loopw [3] (fun v wr => ∃ k : Nat, ∃ a cap, k + 9 ≤ lp ∧ v = .slice a (1 + k) cap ∧ wr.ownsRow w.heap.size 5 1 (.slice a (1 + k) cap) (1 + k) (cells8 (up ([128] ++ List.replicate k 0))) ∧ Chg (fun _ => False) w wr) (fun v _ => match v with | .slice _ l _ => lp - l | _ => 0)
  case atStart => exact ⟨0, _, _, by omega, rfl, ho, hc0⟩
  case round =>
    clear ho hc0
    obtain ⟨k, a, cap, hk, rfl, hown, hC⟩ := hrel
    have hlk : ((1 + k : Nat) : Int) = 1 + (k : Int) := by omega
    by_cases hlt : k + 9 < lp
    · have hne : ¬ ((n : Int) % 64 + (1 + (k : Int)) + 8) % 64 = 0 := by
        have := HP.out
        split at this <;> omega
      have h0s : Row8 (wr.alloc (.cells #[.int .u8 0] 5)) (some ⟨wr.heap.size, 0, none⟩) 1 1 (up [0]) := row8_new wr [0] 5 (0, 0) 1 1 rfl
      go_wp2_with (at_builtin; refine wpList_append_moved rfl _ _ 24 rfl w.heap.size 5 i0 (.int .u8 0) 1 1 Tryd.underlying24 hi hz0 hz1 hz2 rfl (by decide) _ (1 + k) (cells8 (up ([128] ++ List.replicate k 0))) rfl (some ⟨wr.heap.size, 0, none⟩) 1 1 rfl (cells8 (up [0])) (hown.alloc _) h0s.src (oneCells _) (by unfold maxLen; omega) (by omega) (by have := hC.size; simp; omega) ?_)
      intro v1 w1 ho1 hg1 _
      have HC1 : Hid (Chg (fun _ => False) w w1) := (hC.alloc _).grown hg1 (fun j e => .inr ((hown.lt j e).1))
      have HO : Hid (w1.ownsRow w.heap.size 5 1 v1 (1 + (k + 1)) (cells8 (up ([128] ++ List.replicate (k + 1) 0)))) := by
        show w1.ownsRow _ _ _ _ _ _
        rw [List.replicate_succ', ← List.append_assoc, up_append _ [0], ← cells8_append]
        exact ho1
      clear ho1 hg1 hown hC h0s hne
      obtain ⟨a1, cap1, rfl⟩ := own_form HO.out
      go_wp2
      go_roundw
      case rel => exact ⟨k + 1, a1, cap1, by omega, rfl, HO.out, HC1.out⟩
      case measure => show lp - (1 + (k + 1)) < lp - (1 + k); omega
    · have hk9 : k = lp - 9 := by omega
      have heq : ((n : Int) % 64 + (1 + (k : Int)) + 8) % 64 = 0 := by
        have := HP.out
        split at this <;> omega
      have hgb : ∀ g, (Value.slice a (1 + k) cap).ownBlock = some g → g < wr.heap.size := fun g e => (hown.lt g e).2
      have HE : Hid ([128] ++ List.replicate k 0 = [128] ++ List.replicate (lp - 9) 0) := by show _ = _; rw [hk9]
      have HK9 : Hid (k = lp - 9) := hk9
      clear hk9
      go_wp2_with fail
      clear heq
      generalize wr = W2 at *
      go_loopw [4, 5, 6] (fun z v i ws => ∃ j : Nat, ∃ la lc, j ≤ 8 ∧ i = .int .i64 j ∧ z = .int .u64 (c / 256 ^ j : Nat) ∧ v = .slice la j lc ∧ ws.ownsRow W2.heap.size 5 1 (.slice la j lc) j (cells8 (up (lows c j))) ∧ Chg (fun _ => False) W2 ws) (fun _ _ i _ => 8 - (intOf i).toNat)
      case atStart => exact ⟨0, none, 0, by omega, rfl, by simp, rfl, World.ownsRow_nil _ _ _ _, Chg.refl _ _⟩
      case round =>
        obtain ⟨j, la, lc, hj, rfl, rfl, rfl, hlow, hC2⟩ := hrel
        by_cases hlt2 : j < 8
        · have hb1 : c / 256 ^ j < 18446744073709551616 := Nat.lt_of_le_of_lt (Nat.div_le_self _ _) hc64
          have HD : Hid (c / 256 ^ (j + 1) = c / 256 ^ j / 256) := by show _ = _; rw [Nat.pow_succ, Nat.div_div_eq_div_mul]
          have HL : Hid (lows c (j + 1) = lows c j ++ [c / 256 ^ j % 256]) := lows_succ c j
          generalize c / 256 ^ j = q at *
          have hm1 : (q : Int) % 256 = ((q % 256 : Nat) : Int) := by omega
          have hq2 : q % 256 < 256 := Nat.mod_lt _ (by omega)
          have hds : (q : Int) / 256 = ((q / 256 : Nat) : Int) := by omega
          have h0s : Row8 (wr.alloc (.cells #[.int .u8 (q % 256 : Nat)] 5)) (some ⟨wr.heap.size, 0, none⟩) 1 1 (up [q % 256]) := row8_new wr [((q % 256 : Nat) : Int)] 5 (0, 0) 1 1 rfl
          generalize q % 256 = r at *
          generalize hqd : q / 256 = q' at *
          go_wp2_with (at_builtin; refine wpList_append_moved rfl _ _ 24 rfl W2.heap.size 5 i0 (.int .u8 0) 1 1 Tryd.underlying24 hi hz0 hz1 hz2 rfl (by decide) _ j (cells8 (up (lows c j))) rfl (some ⟨wr.heap.size, 0, none⟩) 1 1 rfl (cells8 (up [r])) (hlow.alloc _) h0s.src (oneCells _) (by unfold maxLen; omega) (by omega) (by have := hC2.size; simp; omega) ?_)
          intro v1 w1 ho1 hg1 _
          have HC1 : Hid (Chg (fun _ => False) W2 w1) := (hC2.alloc _).grown hg1 (fun j e => .inr ((hlow.lt j e).1))
          have HO : Hid (w1.ownsRow W2.heap.size 5 1 v1 (j + 1) (cells8 (up (lows c (j + 1))))) := by
            show w1.ownsRow _ _ _ _ _ _
            rw [HL.out, up_append, ← cells8_append]
            exact ho1
          clear ho1 hg1 hlow hC2 h0s
          obtain ⟨a1, cap1, rfl⟩ := own_form HO.out
          go_wp2
          go_roundw
          case rel => exact ⟨j + 1, a1, cap1, by omega, by go_num, by rw [HD.out], rfl, HO.out, HC1.out⟩
          case measure => simp [intOf]; omega
        · have hj8 : j = 8 := by omega
          have hownb := ownsRow_keep hown hC2 (fun _ _ f => f)
          obtain ⟨lg, lcap, e8, hlc⟩ : ∃ g cap, Value.slice la j lc = .slice (some ⟨g, 0, none⟩) j cap ∧ ∀ t, t < 8 → wr.cell? ⟨g, t, none⟩ = some (.int .u8 (lowb c t : Nat)) := by
            rcases hlow.2 with ⟨_, e⟩ | ⟨g, cap, _, e, _⟩
            · omega
            · refine ⟨g, cap, e, fun t ht => ?_⟩
              have h := hlow.cells (g := g) (by rw [e]; rfl) t (.int .u8 (lowb c t : Nat)) (by rw [hj8]; simp [cells8, up, lows, ht])
              rw [addk, Nat.zero_add] at h
              exact h
          have hlgB : W2.heap.size ≤ lg := (hlow.lt lg (by rw [e8]; rfl)).1
          have hlgT : lg < wr.heap.size := (hlow.lt lg (by rw [e8]; rfl)).2
          simp only [Value.slice.injEq, true_and] at e8
          obtain ⟨rfl, rfl⟩ := e8
          have HLC : Hid (∀ t, t < 8 → wr.cell? ⟨lg, t, none⟩ = some (.int .u8 (lowb c t : Nat))) := hlc
          have C3 : Chg (fun _ => False) w wr := chg_then hC hC2
          have HB : Hid (wr.ownsRow w.heap.size 5 1 (.slice a (1 + k) cap) (1 + k) (cells8 (up ([128] ++ List.replicate k 0 ++ highs c 0)))) := by
            show wr.ownsRow _ _ _ _ _ _
            simpa [highs] using hownb
          clear hlow hlc hown hownb hC hC2
          have HJ8 : Hid (j = 8) := hj8
          clear hj8
          generalize c / 256 ^ j = cq at *
          go_wp2_with fail
          generalize wr = W3 at *
          go_loopw [3, 7] (fun v i ws => ∃ m : Nat, ∃ va vc, m ≤ 8 ∧ i = .int .i64 (7 - (m : Int)) ∧ v = .slice va (1 + k + m) vc ∧ (∀ g, (Value.slice va (1 + k + m) vc).ownBlock = some g → g < W2.heap.size ∨ W3.heap.size ≤ g) ∧ ws.ownsRow w.heap.size 5 1 (.slice va (1 + k + m) vc) (1 + k + m) (cells8 (up ([128] ++ List.replicate k 0 ++ highs c m))) ∧ (∀ t, t < 8 → ws.cell? ⟨lg, t, none⟩ = some (.int .u8 (lowb c t : Nat))) ∧ W3.heap.size ≤ ws.heap.size ∧ Chg (fun _ => False) w ws) (fun _ i _ => ((intOf i) + 1).toNat)
          case atStart => exact ⟨0, a, cap, by omega, rfl, rfl, fun g e => .inl (hgb g e), HB.out, HLC.out, Nat.le_refl _, C3⟩
          case round =>
            clear HB HLC C3
            obtain ⟨m, va, vc, hm, rfl, rfl, hvb, hown, hlc, hsz, hC⟩ := hrel
            by_cases hlt3 : m < 8
            · have cl := hlc (7 - m) (by omega)
              have hlb := lowb_lt c (7 - m)
              have HH : Hid (highs c (m + 1) = highs c m ++ [lowb c (7 - m)]) := highs_succ c m
              have hix : (7 : Int) - (m : Int) = ((7 - m : Nat) : Int) := by omega
              have hix2 : 7 - m < j := by have := HJ8.out; omega
              have hge : (0 : Int) ≤ 7 - (m : Int) := by omega
              generalize lowb c (7 - m) = x at *
              have h0s : Row8 (wr.alloc (.cells #[.int .u8 (x : Nat)] 5)) (some ⟨wr.heap.size, 0, none⟩) 1 1 (up [x]) := row8_new wr [((x : Nat) : Int)] 5 (0, 0) 1 1 rfl
              have HM : Hid (7 - (m : Int) - 1 = 7 - ((m + 1 : Nat) : Int)) := by show _ = _; omega
              generalize h7 : 7 - m = t7 at *
              go_wp2_with (at_builtin; refine wpList_append_moved rfl _ _ 24 rfl w.heap.size 5 i0 (.int .u8 0) 1 1 Tryd.underlying24 hi hz0 hz1 hz2 rfl (by decide) _ (1 + k + m) (cells8 (up ([128] ++ List.replicate k 0 ++ highs c m))) rfl (some ⟨wr.heap.size, 0, none⟩) 1 1 rfl (cells8 (up [x])) (hown.alloc _) h0s.src (oneCells _) (by unfold maxLen; omega) (by omega) (by have := hC.size; simp; omega) ?_)
              intro v1 w1 ho1 hg1 hmv
              have HC1 : Hid (Chg (fun _ => False) w w1) := (hC.alloc _).grown hg1 (fun j e => .inr ((hown.lt j e).1))
              have HO : Hid (w1.ownsRow w.heap.size 5 1 v1 (1 + k + (m + 1)) (cells8 (up ([128] ++ List.replicate k 0 ++ highs c (m + 1))))) := by
                show w1.ownsRow _ _ _ _ _ _
                rw [HH.out, ← List.append_assoc, up_append _ [x], ← cells8_append]
                exact ho1
              have cg : Chg (fun g => (Value.slice va (1 + k + m) vc).ownBlock = some g) wr w1 := ((Chg.refl _ wr).alloc _).grown hg1 (fun g e => .inl e)
              have HL : Hid (∀ t, t < 8 → w1.cell? ⟨lg, t, none⟩ = some (.int .u8 (lowb c t : Nat))) := by
                intro t ht
                have h := hlc t ht
                rw [World.cell?_of_block (w := wr) (cg.block _ (World.block_lt_of_cell? wr _ h) (fun e => by have := hvb lg e; omega))]
                exact h
              have HS : Hid (W3.heap.size ≤ w1.heap.size) := Nat.le_trans hsz cg.size
              have HV : Hid (∀ g, v1.ownBlock = some g → g < W2.heap.size ∨ W3.heap.size ≤ g) := by
                intro g e
                rcases hmv g e with e | e
                · exact hvb g e
                · simp only [World.size_alloc] at e
                  exact .inr (by omega)
              clear ho1 hg1 hown hC h0s cg hlc hvb hmv
              obtain ⟨a1, cap1, rfl⟩ := own_form HO.out
              go_wp2
              go_roundw
              case rel => exact ⟨m + 1, a1, cap1, by omega, by have := HM.out; show Value.int .i64 _ = Value.int .i64 _; congr 1; omega, rfl, HV.out, HO.out, HL.out, HS.out, HC1.out⟩
              case measure => simp [intOf]; omega
            · have hneg : (7 : Int) - (m : Int) < 0 := by omega
              have hfin : ∃ ad cc, Value.slice va (1 + k + m) vc = .slice ad lp cc ∧ Row8 wr ad lp cc (up (Sha.pad n)) := by
                have hm8 : m = 8 := by omega
                rw [hm8, HE.out, HQ.out] at hown
                rw [hm8]
                have e1 : 1 + k + 8 = lp := by have := HK9.out; omega
                rw [e1] at hown ⊢
                obtain ⟨ad, cc, e, hr, _⟩ := own_row8c hown
                exact ⟨ad, cc, e, hr⟩
              have HFIN : Hid (∃ ad cc, Value.slice va (1 + k + m) vc = .slice ad lp cc ∧ Row8 wr ad lp cc (up (Sha.pad n))) := hfin
              clear hfin hown hlc hvb
              go_wp2
              go_ret
              obtain ⟨ad, cc, e, hr⟩ := HFIN.out
              exact ⟨ad, cc, by rw [← e]; rfl, hr, hC⟩
end Go.Proofs.YtnedllhlmddmoabDoor
