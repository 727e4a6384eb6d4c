/- The walk through ProbRows; of no statement by itself. -/
import Derived.Test.YtloenokbkmhceaaStepA
import Derived.Test.YtloenokbkmhceaaStepT
import Derived.Test.YtloenokbkmhceaaStepF
import Derived.Test.YtloenokbkmhceaaStepN
import Derived.Test.YtloenokbkmhceaaHeld
import Derived.Test.YtloenokbkmhceaaFixed
namespace Go.Proofs.Ytloenokbkmhceaa
open Go.RowKit
set_option linter.unusedVariables false

theorem step_any (w0 w : World) (P : Nat) (av bv : Value) (its : List It) (k t i b : Int) (h : Play w0 w P av bv its) (hn : its.length ≤ 4398046510976) :
    Calls Try.prog 19 #[.pointer (some ⟨P, 0, none⟩), .agg #[.int .i64 k, .int .i64 t, .int .i64 i, .int .i64 b]] w fun e w' => e = .returned (.bool true) ∧ ∃ av' bv' its', Play w0 w' P av' bv' its' ∧ its'.length ≤ its.length + 1 := by
  by_cases h0 : k = 0
  · subst h0
    by_cases hi : i < 0 ∨ 1048576 < i
    · exact (step_new_out w0 w P av bv its t i b h hn hi).mono fun e w' ⟨he, hp⟩ => ⟨he, av, bv, its, hp, by omega⟩
    · exact (step_new_in w0 w P av bv its t i b h hn i.toNat (by omega) (show i = _ by omega)).mono fun e w' ⟨he, av', bv', x, hp⟩ => ⟨he, av', bv', _, hp, by simp⟩
  by_cases ht : t < 0
  · exact (step_neg w0 w P av bv its k t i b h hn h0 ht).mono fun e w' ⟨he, hp⟩ => ⟨he, av, bv, its, hp, by omega⟩
  by_cases ht2 : (its.length : Int) ≤ t
  · exact (step_beyond w0 w P av bv its k t i b h hn h0 ht ht2).mono fun e w' ⟨he, hp⟩ => ⟨he, av, bv, its, hp, by omega⟩
  obtain ⟨s, rfl⟩ : ∃ s : Nat, t = s := ⟨t.toNat, by omega⟩
  have hs : s < its.length := by omega
  have hin : ∀ j : Int, ¬ (j < 0 ∨ (its[s].xs.length : Int) ≤ j) → ∃ m : Nat, m < its[s].xs.length ∧ j = m := fun j hj => ⟨j.toNat, by omega, by omega⟩
  by_cases h1 : k = 1
  · subst h1
    by_cases hi : i < 0 ∨ (its[s].xs.length : Int) ≤ i
    · exact (step_at_out w0 w P av bv its s i b h hs hn hi).mono fun e w' ⟨he, hp⟩ => ⟨he, av, bv, its, hp, by omega⟩
    · obtain ⟨m, hm, e⟩ := hin i hi
      exact (step_at_in w0 w P av bv its s i b h hs hn m hm e).mono fun e w' ⟨he, hp⟩ => ⟨he, av, bv, its, hp, by omega⟩
  by_cases h2 : k = 2
  · subst h2
    by_cases hi : i < 0 ∨ (its[s].xs.length : Int) ≤ i
    · exact (step_turn_out w0 w P av bv its s i b h hs hn hi).mono fun e w' ⟨he, hp⟩ => ⟨he, av, bv, its, hp, by omega⟩
    · obtain ⟨m, hm, e⟩ := hin i hi
      exact (step_turn_in w0 w P av bv its s i b h hs hn m hm e).mono fun e w' ⟨he, hp⟩ => ⟨he, av, bv, _, hp, by simp⟩
  by_cases h3 : k = 3
  · subst h3
    exact (step_reset w0 w P av bv its s i b h hs hn).mono fun e w' ⟨he, hp⟩ => ⟨he, av, bv, _, hp, by simp⟩
  by_cases h4 : k = 4
  · subst h4
    exact (step_fork w0 w P av bv its s i b h hs hn).mono fun e w' ⟨he, av', bv', x, hp⟩ => ⟨he, av', bv', _, hp, by simp⟩
  by_cases h5 : k = 5
  · subst h5
    exact (step_len w0 w P av bv its s i b h hs hn).mono fun e w' ⟨he, hp⟩ => ⟨he, av, bv, its, hp, by omega⟩
  exact (step_other w0 w P av bv its s k i b h hs hn h0 h1 h2 h3 h4 h5).mono fun e w' ⟨he, hp⟩ => ⟨he, av, bv, its, hp, by omega⟩

theorem step_look (w0 w : World) (P : Nat) (av bv : Value) (its : List It) (s : Nat) (i b : Int) (h : Play w0 w P av bv its) (hs : s < its.length) (hn : its.length ≤ 4398046510976) :
    Calls Try.prog 19 #[.pointer (some ⟨P, 0, none⟩), .agg #[.int .i64 1, .int .i64 (s : Int), .int .i64 i, .int .i64 b]] w fun e w' => e = .returned (.bool true) ∧ Play w0 w' P av bv its := by
  by_cases hi : i < 0 ∨ (its[s].xs.length : Int) ≤ i
  · exact step_at_out w0 w P av bv its s i b h hs hn hi
  · exact step_at_in w0 w P av bv its s i b h hs hn i.toNat (by omega) (show i = _ by omega)

/-- A script in memory. -/
def Ops (w : World) (a : Option Addr) (n : Nat) : Prop := ∀ k, k < n → ∃ g off, a = some ⟨g, off, none⟩ ∧ ∃ kd t i b, w.cell? ⟨g, off + k * 4, none⟩ = some (.int .i64 kd) ∧ w.cell? ⟨g, off + k * 4 + 1, none⟩ = some (.int .i64 t) ∧ w.cell? ⟨g, off + k * 4 + 2, none⟩ = some (.int .i64 i) ∧ w.cell? ⟨g, off + k * 4 + 3, none⟩ = some (.int .i64 b)
theorem Ops.new {w w' : World} {a : Option Addr} {n : Nat} (h : Ops w a n) (hc : Chg (fun _ => False) w w') : Ops w' a n := fun k hk => by
  obtain ⟨g, off, e, kd, t, i, b, h0, h1, h2, h3⟩ := h k hk
  exact ⟨g, off, e, kd, t, i, b, cell_chg h0 hc, cell_chg h1 hc, cell_chg h2 hc, cell_chg h3 hc⟩

theorem play_nil (w : World) : Play w (w.alloc (.cells #[.slice none 0 0, .slice none 0 0] 46)) w.heap.size (.slice none 0 0) (.slice none 0 0) [] :=
  ⟨chg_one w _, Nat.le_refl _, heap_alloc_last w _, World.ownsRow_nil _ _ _ _, World.ownsRow_nil _ _ _ _, fun i h => by simp at h, fun i j h => by simp at h⟩

set_option maxHeartbeats 8000000 in
set_option maxRecDepth 100000 in
theorem script_any (a : Option Addr) (n c : Nat) (w0 : World) (hO : Ops w0 a n) (hn : n ≤ 4398046510976) : Calls Try.prog 6 #[.slice a n c] w0 fun e w' => e = .returned (.bool true) ∧ Chg (fun _ => False) w0 w' := by
  have HO : Hid (Ops w0 a n) := hO
  have HP0 : Hid (Play w0 (w0.alloc (.cells #[.slice none 0 0, .slice none 0 0] 46)) w0.heap.size (.slice none 0 0) (.slice none 0 0) []) := play_nil w0
  clear hO
  go_enter Try.func6, Try.ntmps6
  go_wp2_with fail
  generalize w0.alloc (.cells #[.slice none 0 0, .slice none 0 0] 46) = wP at *
  generalize hPP : w0.heap.size = P at HP0 ⊢
  clear hPP
  go_loopw [4] (fun i wr => ∃ (k : Nat) (av bv : Value) (its : List It), k ≤ n ∧ i = .int .i64 k ∧ Play w0 wr P av bv its ∧ its.length ≤ k) (fun i _ => n - (intOf i).toNat)
  case atStart => exact ⟨0, _, _, [], Nat.zero_le _, rfl, HP0.out, Nat.le_refl _⟩
  case round =>
    clear HP0
    obtain ⟨k, av, bv, its, hk, rfl, hp, hik⟩ := hrel
    by_cases hlt : k < n
    · obtain ⟨g, off, ea, kd, t, i, b, h0, h1, h2, h3⟩ := (HO.out.new hp.chg) k hlt
      subst ea
      have HP : Hid (Play w0 wr P av bv its) := hp
      clear hp
      go_wp2_with fail
      refine (held_any w0 _ P av bv its HP.out (by omega)).mono ?_
      rintro e w2 ⟨Z, rfl, rfl⟩
      by_cases hZ : Z ≤ 4194304
      · go_wp2_with fail
        refine (step_any w0 _ P av bv its kd t i b HP.out (by omega)).mono ?_
        rintro e w3 ⟨rfl, av', bv', its', h3', hl3⟩
        have HP3 : Hid (Play w0 w3 P av' bv' its') := h3'
        clear h3' h0 h1 h2 h3 HP
        go_wp2
        go_roundw
        case rel => exact ⟨k + 1, av', bv', its', by omega, by go_num, HP3.out, by omega⟩
        case measure => simp [intOf]; omega
      · have hp := HP.out
        clear HP h0 h1 h2 h3
        have hdZ : decide (Z ≤ 4194304) = false := by simp; omega
        have HP : Hid (Play w0 wr P av bv its) := hp
        have hN : its.length ≤ 4398046510976 := by omega
        clear hp
        go_wp2_with fail
        generalize wr = wA at *
        go_loopw [6] (fun i wr => ∃ k2 : Nat, k2 ≤ its.length ∧ i = .int .i64 k2 ∧ Play w0 wr P av bv its) (fun i _ => its.length - (intOf i).toNat)
        case atStart => exact ⟨0, Nat.zero_le _, rfl, HP.out⟩
        case round =>
          clear HP
          obtain ⟨k2, hk2, rfl, hp⟩ := hrel
          have HP : Hid (Play w0 wr P av bv its) := hp
          obtain ⟨bad, bcap, hbv, _⟩ := own_any hp.rb
          have pb := cell1 hp.pair
          rw [hbv] at pb
          clear hp hbv
          by_cases hlt2 : k2 < its.length
          · go_wp2_with fail
            generalize wr = wB at *
            clear pb
            go_loopw [7] (fun i wr => ∃ q : Int, -1 ≤ q ∧ q ≤ 9 ∧ i = .int .i64 q ∧ Play w0 wr P av bv its) (fun i _ => (9 - intOf i).toNat)
            case atStart => exact ⟨-1, by omega, by omega, rfl, HP.out⟩
            case round =>
              clear HP
              obtain ⟨q, hq1, hq2, rfl, hp⟩ := hrel
              have HP : Hid (Play w0 wr P av bv its) := hp
              clear hp
              by_cases hlt3 : q < 9
              · go_wp2_with fail
                refine (step_look w0 _ P av bv its k2 q 0 HP.out hlt2 hN).mono ?_
                rintro e w3 ⟨rfl, h3⟩
                have HP3 : Hid (Play w0 w3 P av bv its) := h3
                obtain ⟨gb, capb, hbv, hcapb, hB⟩ := h3.b_at (by omega)
                have pb := cell1 h3.pair
                rw [hbv] at pb
                have xb := hB k2 hlt2
                have hG := h3.good k2 hlt2
                obtain ⟨uad, ucap, hu, _⟩ := own_any hG.rt.own
                have ru := cell1 hG.rt.blk
                rw [hu] at ru
                have hl := hG.len
                clear h3 hbv hB hG hu HP
                go_wp2_with fail
                refine (step_look w0 _ P av bv its k2 _ 0 HP3.out hlt2 hN).mono ?_
                rintro e w4 ⟨rfl, h4⟩
                have HP4 : Hid (Play w0 w4 P av bv its) := h4
                clear h4 pb xb ru HP3
                go_wp2
                go_roundw
                case rel => exact ⟨q + 1, by omega, by omega, by go_num, HP4.out⟩
                case measure => simp [intOf]; omega
              · obtain rfl : q = 9 := by omega
                go_wp2
                go_roundw
                case rel => exact ⟨k2 + 1, by omega, by go_num, HP.out⟩
                case measure => simp [intOf]; omega
          · obtain rfl : k2 = its.length := by omega
            go_wp2_with fail
            refine (fixed_any _).mono ?_
            rintro e w3 ⟨rfl, c3⟩
            have HC : Hid (Chg (fun _ => False) w0 w3) := chg_then HP.out.chg c3
            clear HP pb c3
            go_wp2
            go_ret
            exact ⟨rfl, HC.out⟩
    · obtain rfl : k = n := by omega
      have HP : Hid (Play w0 wr P av bv its) := hp
      have hN : its.length ≤ 4398046510976 := by omega
      clear hp
      go_wp2_with fail
      generalize wr = wA at *
      go_loopw [6] (fun i wr => ∃ k2 : Nat, k2 ≤ its.length ∧ i = .int .i64 k2 ∧ Play w0 wr P av bv its) (fun i _ => its.length - (intOf i).toNat)
      case atStart => exact ⟨0, Nat.zero_le _, rfl, HP.out⟩
      case round =>
        clear HP
        obtain ⟨k2, hk2, rfl, hp⟩ := hrel
        have HP : Hid (Play w0 wr P av bv its) := hp
        obtain ⟨bad, bcap, hbv, _⟩ := own_any hp.rb
        have pb := cell1 hp.pair
        rw [hbv] at pb
        clear hp hbv
        by_cases hlt2 : k2 < its.length
        · go_wp2_with fail
          generalize wr = wB at *
          clear pb
          go_loopw [7] (fun i wr => ∃ q : Int, -1 ≤ q ∧ q ≤ 9 ∧ i = .int .i64 q ∧ Play w0 wr P av bv its) (fun i _ => (9 - intOf i).toNat)
          case atStart => exact ⟨-1, by omega, by omega, rfl, HP.out⟩
          case round =>
            clear HP
            obtain ⟨q, hq1, hq2, rfl, hp⟩ := hrel
            have HP : Hid (Play w0 wr P av bv its) := hp
            clear hp
            by_cases hlt3 : q < 9
            · go_wp2_with fail
              refine (step_look w0 _ P av bv its k2 q 0 HP.out hlt2 hN).mono ?_
              rintro e w3 ⟨rfl, h3⟩
              have HP3 : Hid (Play w0 w3 P av bv its) := h3
              obtain ⟨gb, capb, hbv, hcapb, hB⟩ := h3.b_at (by omega)
              have pb := cell1 h3.pair
              rw [hbv] at pb
              have xb := hB k2 hlt2
              have hG := h3.good k2 hlt2
              obtain ⟨uad, ucap, hu, _⟩ := own_any hG.rt.own
              have ru := cell1 hG.rt.blk
              rw [hu] at ru
              have hl := hG.len
              clear h3 hbv hB hG hu HP
              go_wp2_with fail
              refine (step_look w0 _ P av bv its k2 _ 0 HP3.out hlt2 hN).mono ?_
              rintro e w4 ⟨rfl, h4⟩
              have HP4 : Hid (Play w0 w4 P av bv its) := h4
              clear h4 pb xb ru HP3
              go_wp2
              go_roundw
              case rel => exact ⟨q + 1, by omega, by omega, by go_num, HP4.out⟩
              case measure => simp [intOf]; omega
            · obtain rfl : q = 9 := by omega
              go_wp2
              go_roundw
              case rel => exact ⟨k2 + 1, by omega, by go_num, HP.out⟩
              case measure => simp [intOf]; omega
        · obtain rfl : k2 = its.length := by omega
          go_wp2_with fail
          refine (fixed_any _).mono ?_
          rintro e w3 ⟨rfl, c3⟩
          have HC : Hid (Chg (fun _ => False) w0 w3) := chg_then HP.out.chg c3
          clear HP pb c3
          go_wp2
          go_ret
          exact ⟨rfl, HC.out⟩
end Go.Proofs.Ytloenokbkmhceaa
