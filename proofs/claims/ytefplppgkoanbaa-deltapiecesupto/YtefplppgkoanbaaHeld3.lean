/- The contract of the statements' own function held, of no statement by itself. -/
import Derived.Test.YtefplppgkoanbaaLooks3
namespace Go.Proofs.Ytefplppgkoanbaa.Bk
open Go.RowKit

set_option maxRecDepth 100000 in
set_option maxHeartbeats 4000000 in
theorem held_fine (B : Nat) (lv : Value) (hs : List Hd) (w : World) (hB : B ≤ w.heap.size) (hl : w.ownsRow B 49 5 lv hs.length (hcells hs)) (hr : RowsIn B w hs) (ha : Apart hs) (hok : ∀ h ∈ hs, h.ok) (hlen : hs.length ≤ 16777216) (hn : ∀ h ∈ hs, h.n ≤ 140737488351232) :
    Calls Try.prog 19 #[lv] w fun e w' => e = .returned (.bool true) ∧ Chg (fun b => ∃ h ∈ hs, h.v.ownBlock = some b) w w' := by
  obtain ⟨j0, hj, hj0, hj1, hj2⟩ := info_parts infoHeld
  obtain ⟨TT, HTT⟩ : ∃ TT : Nat → Prop, Hid (TT = (fun b => ∃ h ∈ hs, h.v.ownBlock = some b)) := ⟨_, rfl⟩
  obtain ⟨la, lc, rfl, hlg⟩ : ∃ la lc, lv = .slice la hs.length lc ∧ (0 < hs.length → ∃ g, la = some ⟨g, 0, none⟩) := by
    rcases book_shape hl with ⟨rfl, e⟩ | ⟨g, cap, rfl⟩
    · exact ⟨none, 0, by rw [e], fun f => by omega⟩
    · exact ⟨_, cap, rfl, fun _ => ⟨g, rfl⟩⟩
  go_enter Try.func19, Try.ntmps19
  go_wp2_with fail
  go_loopw [3, 16] (fun l i wr => ∃ k : Nat, k ≤ hs.length ∧ i = .int .i64 k ∧ Chg (fun _ => False) w wr ∧ wr.ownsRow w.heap.size 49 5 l k (hcells (hs.take k))) (fun _ i _ => hs.length - (intOf i).toNat)
  case atStart => exact ⟨0, Nat.zero_le _, rfl, Chg.refl _ _, World.ownsRow_nil _ _ _ _⟩
  case round =>
    obtain ⟨k, hk, rfl, hcr, hlr⟩ := hrel
    by_cases hlt : k < hs.length
    · obtain ⟨g, rfl⟩ := hlg (by omega)
      obtain ⟨h, hhk⟩ : ∃ h, hs[k]? = some h := ⟨hs[k], List.getElem?_eq_getElem hlt⟩
      have hmem := List.mem_of_getElem? hhk
      have hlw := own_keep hl hcr (fun _ _ f => f)
      obtain ⟨c0, c1, c2, c3, c4⟩ := book_cells hlw k h hhk
      have hrow : Row B _ h := ownsRow_keep (hr k h hhk) hcr (fun _ _ f => f)
      obtain ⟨va, vc, hva, hrr⟩ := own_row8 hrow
      have hcv := fun o => conv8_here (row8_alloc hrr o)
      have HS := hcells_snoc hs k h hhk
      unfold Hd.cells at HS
      rw [hva] at c0 HS
      have hbz : w.heap.size ≤ wr.heap.size := hcr.size
      have hal := fun o o' => (hlr.alloc o).alloc o'
      have hlt2 := fun b e => (hlr.lt b e).1
      clear hva hrow hrr hr ha hl
      rcases hok h hmem with ⟨e1, e2, e3⟩ | ⟨e1, e2⟩
      · rw [e3] at c3 HS
        rw [e1] at c4 HS
        have HSH : Hid (hcells (hs.take (k + 1)) = hcells (hs.take k) ++ [.slice va h.ys.length vc, .int .i64 h.n, .int .u8 h.mark, .string (strOfNums h.ys), .bool true]) := HS
        clear e1 e2 e3 hlw hok hn HS
        go_wp2_with (at_builtin; refine wpList_append_moved rfl (.tmp 30) (.tmp 32) 42 rfl w.heap.size 49 j0 (.agg #[.slice none 0 0, .int .i64 0, .int .u8 0, .string ⟨#[]⟩, .bool false]) 5 64 Try.underlying42 hj hj0 hj1 hj2 rfl (by decide) _ k (hcells (hs.take k)) rfl _ 1 1 rfl [.slice va h.ys.length vc, .int .i64 h.n, .int .u8 h.mark, .string (strOfNums h.ys), .bool true] (hal _ _) (from_held _ (wr.heap.size + 1) (by simp) _ _ _ _ _) (held_one _ _ _ _ _ _ _ _ rfl) (by unfold maxLen; omega) (by omega) (by simp; omega) ?_)
        intro v1 w1 hown hg _
        have hc1 : Chg (fun _ => False) w w1 := ((hcr.alloc _).alloc _).grown hg (fun b e => .inr (hlt2 b e))
        rw [← HSH.out] at hown
        clear hg hal hlr hcr c0 c1 c2 c3 c4 hcv
        go_wp2
        go_roundw
        case rel => exact ⟨k + 1, by omega, by go_num, hc1, hown⟩
        case measure => simp [intOf]; omega
      · rw [e1] at c4 HS
        have HSH : Hid (hcells (hs.take (k + 1)) = hcells (hs.take k) ++ [.slice va h.ys.length vc, .int .i64 h.n, .int .u8 h.mark, .string h.want, .bool false]) := HS
        clear e1 e2 hlw hok hn HS hcv
        go_wp2_with (at_builtin; refine wpList_append_moved rfl (.tmp 30) (.tmp 32) 42 rfl w.heap.size 49 j0 (.agg #[.slice none 0 0, .int .i64 0, .int .u8 0, .string ⟨#[]⟩, .bool false]) 5 64 Try.underlying42 hj hj0 hj1 hj2 rfl (by decide) _ k (hcells (hs.take k)) rfl _ 1 1 rfl [.slice va h.ys.length vc, .int .i64 h.n, .int .u8 h.mark, .string h.want, .bool false] (hal _ _) (from_held _ (wr.heap.size + 1) (by simp) _ _ _ _ _) (held_one _ _ _ _ _ _ _ _ rfl) (by unfold maxLen; omega) (by omega) (by simp; omega) ?_)
        intro v1 w1 hown hg _
        have hc1 : Chg (fun _ => False) w w1 := ((hcr.alloc _).alloc _).grown hg (fun b e => .inr (hlt2 b e))
        rw [← HSH.out] at hown
        clear hg hal hlr hcr c0 c1 c2 c3 c4
        go_wp2
        go_roundw
        case rel => exact ⟨k + 1, by omega, by go_num, hc1, hown⟩
        case measure => simp [intOf]; omega
    · obtain rfl : k = hs.length := by omega
      rw [List.take_length] at hlr
      have hL0 : Looks TT B w.heap.size _ Hd.full Hd.ok w hs.length 0 hs wr := ⟨rfl, hlr, rows_new hr hcr, ha, fun i h e hi => by omega, fun i h e _ => hok h (List.mem_of_getElem? e), fun i h e => hn h (List.mem_of_getElem? e), chg_none hcr, fun i h e g hg => .inl (by rw [HTT.out]; exact ⟨h, List.mem_of_getElem? e, hg⟩)⟩
      clear hr ha hok hn hcr hl hlg
      generalize hs.length = len at *
      obtain ⟨la2, lc2, e, hlg⟩ := book_form hlr
      subst e
      clear hlr
      go_wp2_with fail
      go_loopw [37] (fun i wr => ∃ k : Nat, k ≤ len ∧ i = .int .i64 k ∧ ∃ cur, Looks TT B w.heap.size (.slice la2 len lc2) Hd.full Hd.ok w len k cur wr) (fun i _ => len - (intOf i).toNat)
      case atStart => exact ⟨0, Nat.zero_le _, rfl, hs, hL0⟩
      case round =>
        clear hL0
        obtain ⟨k2, hk2, rfl, cur, hL⟩ := hrel
        by_cases hlt2 : k2 < len
        · obtain ⟨g, rfl⟩ := hlg (by omega)
          obtain ⟨a, va, vc, hak, hva, hrow, c0, c1, c2, c3, c4⟩ := hL.entry k2 hlt2
          have hq := hL.behind k2 a hak (Nat.le_refl _)
          have hsm := hL.small k2 a hak
          rcases hq with ⟨e1, e2, e3⟩ | ⟨e1, e2⟩
          · rw [e1] at c4
            have hro := hrow
            unfold Row at hro
            rw [hva, e2] at hro
            rw [e2] at c0
            have hrA := hro.alloc (.cells #[.slice va a.n vc, .int .i64 a.n, .int .u8 a.mark, .string a.want, .bool true] 49)
            have hcall := written_any B _ a.mark a.ys a.want true a.n _ e2 (by omega) hrA
            have hLA := hL.new (chg_one (fun _ => False) _ (.cells #[.slice va a.n vc, .int .i64 a.n, .int .u8 a.mark, .string a.want, .bool true] 49))
            have HE : Hid (a.kept = true ∧ a.ys.length = a.n ∧ a.v = .slice va a.n vc) := ⟨e1, e2, by rw [hva, e2]⟩
            clear hro hrA e1 e2 e3 hva hrow hL
            go_wp2_with fail
            refine hcall.mono ?_
            rintro e w5 ⟨rfl, ho5, hc5⟩
            obtain ⟨E1, E2, E3⟩ := HE.out
            have hL5 := hLA.wrote (a' := ⟨a.v, a.n, a.mark, a.want, a.kept, List.replicate a.n a.mark⟩) hak (by rw [E3]; exact hc5) (by unfold Row; simp only [List.length_replicate]; rw [E3]; exact ho5) rfl rfl rfl (.inl ⟨E1, rfl⟩)
            clear hcall hLA ho5 hc5 c0 c1 c2 c3 c4 E1 E2 E3 HE
            go_wp2
            go_roundw
            case rel => exact ⟨k2 + 1, by omega, by go_num, _, hL5⟩
            case measure => simp [intOf]; omega
          · rw [e1] at c4
            have hL5 := (hL.pass hak (.inr ⟨e1, e2⟩)).new (chg_one (fun _ => False) _ (.cells #[.slice va a.ys.length vc, .int .i64 a.n, .int .u8 a.mark, .string a.want, .bool false] 49))
            clear e1 e2 hva hrow hL
            go_wp2
            go_roundw
            case rel => exact ⟨k2 + 1, by omega, by go_num, _, hL5⟩
            case measure => simp [intOf]; omega
        · obtain rfl : k2 = len := by omega
          have hL0 : Looks TT B w.heap.size (.slice la2 k2 lc2) Hd.done Hd.full w k2 0 cur wr := ⟨hL.size, hL.book, hL.rows, hL.apart, fun i h e hi => by omega, fun i h e _ => hL.ahead i h e (by rw [← hL.size]; exact (List.getElem?_eq_some_iff.1 e).1), hL.small, hL.chg, hL.into⟩
          clear hL
          go_wp2_with fail
          go_loopw [48] (fun i wr => ∃ k : Nat, k ≤ k2 ∧ i = .int .i64 k ∧ ∃ cur, Looks TT B w.heap.size (.slice la2 k2 lc2) Hd.done Hd.full w k2 k cur wr) (fun i _ => k2 - (intOf i).toNat)
          case atStart => exact ⟨0, Nat.zero_le _, rfl, cur, hL0⟩
          case round =>
            clear hL0
            obtain ⟨k3, hk3, rfl, cur3, hL⟩ := hrel
            by_cases hlt3 : k3 < k2
            · obtain ⟨g, rfl⟩ := hlg (by omega)
              obtain ⟨a, va, vc, hak, hva, hrow, c0, c1, c2, c3, c4⟩ := hL.entry k3 hlt3
              have hq := hL.behind k3 a hak (Nat.le_refl _)
              have hsm := hL.small k3 a hak
              rcases hq with ⟨e1, e2⟩ | ⟨e1, e2⟩
              · rw [e1] at c4
                have el : a.ys.length = a.n := by rw [e2]; simp
                have hro := hrow
                unfold Row at hro
                rw [hva, el] at hro
                rw [el] at c0
                have hrA := hro.alloc (.cells #[.slice va a.n vc, .int .i64 a.n, .int .u8 a.mark, .string a.want, .bool true] 49)
                have hLA := hL.new (chg_one (fun _ => False) _ (.cells #[.slice va a.n vc, .int .i64 a.n, .int .u8 a.mark, .string a.want, .bool true] 49))
                have hcall := grown_any B _ a.mark a.ys a.want true a.n a.n _ el (by omega) hrA (by have := hLA.chg.size; omega)
                have HE : Hid (a.kept = true ∧ a.ys = List.replicate a.n a.mark ∧ a.v = .slice va a.n vc) := ⟨e1, e2, by rw [hva, el]⟩
                clear hro hrA e1 e2 el hva hrow hL
                go_wp2_with fail
                refine hcall.mono ?_
                rintro e w5 ⟨v5, rfl, ho5, hc5, hm5⟩
                obtain ⟨E1, E2, E3⟩ := HE.out
                have hc5' := chg_eq E3 hc5
                have hm5' := moved_eq E3 hm5
                have hL5 := hLA.grew (a' := ⟨v5, a.n, a.mark, a.want, true, a.ys ++ List.replicate 3 a.mark⟩) hak (Nat.le_refl _) hc5' hm5' (by unfold Row; simp only [List.length_append, List.length_replicate]; rw [E2, List.length_replicate, ← E2]; exact ho5) rfl (by unfold Hd.done; simp only; rw [E2, List.replicate_append_replicate])
                obtain ⟨⟨b0, b1, b2, b3, b4⟩, hfz⟩ := hLA.entry_after k3 hak hc5'
                simp only at hL5
                rw [E3] at b0
                rw [E1] at b4
                obtain ⟨va5, vc5, rfl⟩ : ∃ va5 vc5, v5 = .slice va5 (a.n + 3) vc5 := by
                  rcases own_shape ho5 with ⟨_, e⟩ | ⟨g, cap, rfl⟩
                  · omega
                  · exact ⟨_, cap, rfl⟩
                clear hcall hLA ho5 hc5 hm5 hc5' hm5' c0 c1 c2 c3 c4 E1 E2 E3 HE
                go_wp2
                go_roundw
                case rel => exact ⟨k3 + 1, by omega, by go_num, _, hL5⟩
                case measure => simp [intOf]; omega
              · rw [e1] at c4
                have hL5 := (hL.pass hak e2).new (chg_one (fun _ => False) _ (.cells #[.slice va a.ys.length vc, .int .i64 a.n, .int .u8 a.mark, .string a.want, .bool false] 49))
                clear e1 e2 hva hrow hL
                go_wp2
                go_roundw
                case rel => exact ⟨k3 + 1, by omega, by go_num, _, hL5⟩
                case measure => simp [intOf]; omega
            · obtain rfl : k3 = k2 := by omega
              have hD : ∀ (i : Nat) (h : Hd), cur3[i]? = some h → h.done := fun i h e => hL.ahead i h e (by rw [← hL.size]; exact (List.getElem?_eq_some_iff.1 e).1)
              go_wp2_with fail
              go_loopw [63] (fun i wq => ∃ k : Nat, k ≤ k3 ∧ i = .int .i64 k ∧ Looks TT B w.heap.size (.slice la2 k3 lc2) Hd.done Hd.full w k3 k3 cur3 wq) (fun i _ => k3 - (intOf i).toNat)
              case atStart => exact ⟨0, Nat.zero_le _, rfl, hL⟩
              case round =>
                clear hL
                obtain ⟨k4, hk4, rfl, hL⟩ := hrel
                by_cases hlt4 : k4 < k3
                · obtain ⟨g, rfl⟩ := hlg (by omega)
                  obtain ⟨a, va, vc, hak, hva, hrow, c0, c1, c2, c3, c4⟩ := hL.entry k4 hlt4
                  have hd := hD k4 a hak
                  have hsm := hL.small k4 a hak
                  have el : a.ys.length = a.n + 3 := by rw [hd]; simp
                  rw [el] at c0 hva
                  have hro := hrow
                  unfold Row at hro
                  rw [hva, el] at hro
                  have hLA := hL.new (chg_one (fun _ => False) _ (.cells #[.slice va (a.n + 3) vc, .int .i64 a.n, .int .u8 a.mark, .string a.want, .bool a.kept] 49))
                  have hrA := hro.alloc (.cells #[.slice va (a.n + 3) vc, .int .i64 a.n, .int .u8 a.mark, .string a.want, .bool a.kept] 49)
                  obtain ⟨va', vc', e', hrr⟩ := own_row8 hrA
                  simp only [Value.slice.injEq] at e'
                  obtain ⟨rfl, _, rfl⟩ := e'
                  obtain ⟨x, rfl, hxc⟩ := row8_cells hrr (by omega)
                  have hxm : ∀ j, j < a.n + 3 → (_ : World).cell? (x.add j) = some (.int .u8 a.mark) := fun j hj => by
                    rw [hxc j hj, hd]
                    simp [List.getD, hj]
                  clear hro hrA hrr hxc hva hrow hL el hd
                  go_wp2_with fail
                  go_loop [77] (fun i => ∃ m : Nat, m ≤ a.n + 3 ∧ i = .int .i64 m) (fun i => a.n + 3 - (intOf i).toNat)
                  case atStart => exact ⟨0, Nat.zero_le _, rfl⟩
                  case round =>
                    obtain ⟨m, hm, rfl⟩ := hrel
                    by_cases hltm : m < a.n + 3
                    · have hxk := hxm m hltm
                      clear hxm
                      go_wp2
                      go_round
                      case rel => exact ⟨m + 1, by omega, by go_num⟩
                      case measure => simp [intOf]; omega
                    · obtain rfl : m = a.n + 3 := by omega
                      clear hxm
                      go_wp2
                      go_roundw
                      case rel => exact ⟨k4 + 1, by omega, by go_num, hLA⟩
                      case measure => simp [intOf]; omega
                · obtain rfl : k4 = k3 := by omega
                  have hC := hL.chg
                  rw [HTT.out] at hC
                  clear hL hD
                  go_wp2
                  go_ret
                  exact ⟨rfl, hC⟩

theorem held_walk (B : Nat) (lv : Value) (hs : List Hd) (w : World) (hB : B ≤ w.heap.size) (hl : w.ownsRow B 49 5 lv hs.length (hcells hs)) (hr : RowsIn B w hs) (ha : Apart hs) (hok : ∀ h ∈ hs, h.ok) (hlen : hs.length ≤ 16777216) (hn : ∀ h ∈ hs, h.n ≤ 140737488351232) :
    Calls Try.prog 19 #[lv] w fun e w' => e = .returned (.bool true) ∧ Chg (fun b => B ≤ b) w w' :=
  (held_fine B lv hs w hB hl hr ha hok hlen hn).mono fun _ _ ⟨he, hc⟩ => ⟨he, hc.mono (fun b ⟨h, hm, e⟩ => .inl (by
    obtain ⟨i, hi⟩ := List.mem_iff_getElem?.1 hm
    exact ((hr i h hi).lt e).1))⟩

end Go.Proofs.Ytefplppgkoanbaa.Bk
