/- The walk through the statement VarintRows; of no statement by itself. -/
import Derived.Test.YtkjjcdkobapedaaDoorRowsA
namespace Go.Proofs.YtkjjcdkobapedaaDoor
open Go.RowKit

set_option maxRecDepth 100000 in
set_option maxHeartbeats 4000000 in
theorem rowsWalk (ad : Option Addr) (m c : Nat) (vs us : List Int) (w : World) (hT : Tab w) (hv : Row64 w ad m c vs) (hus : us = vs.map (fun v => bits .and .u64 v 9223372036854775807)) (hub : ∀ u ∈ us, 0 ≤ u ∧ u ≤ 9223372036854775807) (hm : m ≤ 1048576) :
    Calls Tryd.prog 7 #[.slice ad m c] w fun e w' => e = .returned (.bool true) ∧ Below w.heap.size w w' := by
  obtain ⟨i0, hi0, hz0, hz1, hz2⟩ := info_parts info5
  obtain ⟨j0, hj0, hy0, hy1, hy2⟩ := info_parts info24
  have hl : us.length = m := by rw [hus]; simp [hv.1]
  have hget : ∀ k, k < m → ∃ v u, vs[k]? = some v ∧ us[k]? = some u ∧ bits .and .u64 v 9223372036854775807 = u := fun k hk => by
    have hkv : k < vs.length := by rw [hv.1]; exact hk
    refine ⟨vs[k], bits .and .u64 vs[k] 9223372036854775807, List.getElem?_eq_getElem hkv, ?_, rfl⟩
    rw [hus]
    simp [hkv]
  have HG : Hid (∀ k, k < m → ∃ v u, vs[k]? = some v ∧ us[k]? = some u ∧ bits .and .u64 v 9223372036854775807 = u) := hget
  have HLE : Hid (us.length = m) := hl
  have HFL : Hid (∀ k, k ≤ m → (flat us k).length ≤ 9 * k) := fun k hk => flat_len us (fun u h => (hub u h).2) k (by rw [hl]; exact hk)
  clear hus hget hl
  go_enter Tryd.func7, Tryd.ntmps7
  go_wp2_with fail
  refine (known_any _ hT).mono ?_
  rintro e w1 ⟨rfl, hc1⟩
  have hR0 : R1 us w 0 (.slice none 0 0) (.slice none 0 0) [] w1 := ⟨rfl, fun i p e => by simp at e, fun i j p q e => by simp at e, World.ownsRow_nil _ _ _ _, World.ownsRow_nil _ _ _ _, fun i p e => by simp at e, hc1⟩
  clear hc1
  go_wp2_with fail
  go_loopw [3, 4, 21] (fun a r i wr => ∃ k : Nat, k ≤ m ∧ i = .int .i64 k ∧ ∃ ps, R1 us w k a r ps wr) (fun _ _ i _ => m - (intOf i).toNat)
  case atStart => exact ⟨0, Nat.zero_le _, rfl, [], hR0⟩
  case round =>
    clear hR0
    obtain ⟨k, hk, rfl, ps, hR⟩ := hrel
    by_cases hlt : k < m
    · obtain ⟨v, u, hvk, huk, hbu⟩ := HG.out k hlt
      obtain ⟨x, rfl, hcx⟩ := row64_at hv hR.chg hvk
      obtain ⟨hu0, hu1⟩ := hub u (List.mem_of_getElem? huk)
      have hTr := hT.new hR.chg
      have hfl := HFL.out k (by omega)
      obtain ⟨n1, n9, -, -⟩ := sz_is (v := u) rfl
      obtain ⟨aa, ac, rfl, -⟩ := own_slice24 hR.own
      obtain ⟨ra, rc, rfl⟩ := own_slice hR.row
      go_wp2_with fail
      refine (put_any _ _ hTr hu0 hu1).mono ?_
      rintro e w2 ⟨rfl, hb2, hc2⟩
      have hR2 := hR.new hc2
      have hs2 := hR2.chg.size
      have hsl : wr.heap.size < w2.heap.size := lt_of_blk hb2
      have HN : Hid (sz u = sz u) := rfl
      go_wp2_with fail
      refine (num_any _ _).mono ?_
      rintro e w3 ⟨rfl, rfl⟩
      have hown2 := hR2.own.alloc (.cells #[.slice (some ⟨wr.heap.size, 0, none⟩) (sz u) (sz u)] 24)
      have hrow2 := hR2.row.alloc (.cells #[.slice (some ⟨wr.heap.size, 0, none⟩) (sz u) (sz u)] 24)
      go_wp2_with (at_builtin; refine wpList_append_moved rfl (.tmp 39) (.tmp 41) 37 rfl w.heap.size 24 j0 (.slice none 0 0) 1 24 Tryd.underlying37 hj0 hy0 hy1 hy2 rfl (by decide) _ k (ps.map pcell) rfl (some ⟨w2.heap.size, 0, none⟩) 1 1 rfl [.slice (some ⟨wr.heap.size, 0, none⟩) (sz u) (sz u)] hown2 (from_one w2 _ 24) (fun y hy => by simp at hy; subst hy; rfl) (by unfold maxLen; omega) (by omega) (by simp; omega) ?_)
      intro v4 w4 ho4 hg4 _
      have hb3 := blk_keep hb2 (chg_one (fun _ => False) w2 (.cells #[.slice (some ⟨wr.heap.size, 0, none⟩) (sz u) (sz u)] 24)) (fun f => f)
      have hb4 := blk_cross hb3 hown2 hg4
      have hrow4 := own_cross hrow2 hown2 hg4
      have hr4 := row8_blk hb4 (sz u) (vb_length u) (sz u)
      have hs4 : w.heap.size ≤ w4.heap.size := by
        have h1 := hg4.size
        have h2 : w2.heap.size ≤ (w2.alloc (.cells #[.slice (some ⟨wr.heap.size, 0, none⟩) (sz u) (sz u)] 24)).heap.size := (chg_one (fun _ => False) w2 _).size
        omega
      obtain ⟨a4, c4, rfl, -⟩ := own_slice24 ho4
      go_wp2_with (at_builtin; refine wpList_append_moved rfl (.tmp 43) (.tmp 44) 24 rfl w.heap.size 5 i0 (.int .u8 0) 1 1 Tryd.underlying24 hi0 hz0 hz1 hz2 rfl (by decide) _ (flat us k).length (cells8 (flat us k)) rfl (some ⟨wr.heap.size, 0, none⟩) (sz u) (sz u) rfl (cells8 (vb u)) hrow4 hr4.src (oneCells _) (by unfold maxLen; omega) (by omega) hs4 ?_)
      intro v5 w5 ho5 hg5 hm5
      have hR5 := hR.more huk (hc2.alloc (.cells #[.slice (some ⟨wr.heap.size, 0, none⟩) (sz u) (sz u)] 24)) hb3 ho4 hg4 ho5 hg5 hm5
      obtain ⟨a5, c5, rfl⟩ := own_slice ho5
      clear ho5 hg5 hm5 hr4 hrow4 hb4 hb3 hg4 ho4 hown2 hrow2 hR2 hb2 hc2 hR hcx
      go_wp2
      go_roundw
      case rel => exact ⟨k + 1, by omega, by go_num, _, hR5⟩
      case measure => simp [intOf]; omega
    · obtain rfl : k = m := by omega
      obtain ⟨aa, ac, rfl, hag⟩ := own_slice24 hR.own
      obtain ⟨ra, rc, rfl⟩ := own_slice hR.row
      have hTl := HFL.out k (Nat.le_refl _)
      obtain ⟨T, hTe⟩ : ∃ T, (flat us k).length = T := ⟨_, rfl⟩
      have HT : Hid ((flat us k).length = T) := hTe
      have hrow := hR.row
      rw [hTe] at hrow hTl ⊢
      clear hTe
      generalize wr = w3 at *
      have hpart : ∀ k2, k2 < k → ∃ v u p gr rest, vs[k2]? = some v ∧ us[k2]? = some u ∧ bits .and .u64 v 9223372036854775807 = u ∧ ps[k2]? = some p ∧ p.2 = sz u ∧ ra = some ⟨gr, 0, none⟩ ∧ (flat us k).drop (flat us k2).length = vb u ++ rest ∧ (flat us k2).length + sz u ≤ T ∧ T ≤ rc ∧ (flat us (k2 + 1)).length = (flat us k2).length + sz u := fun k2 hk2 => by
        obtain ⟨v, u, hvk, huk, hbu⟩ := HG.out k2 hk2
        obtain ⟨p, hp⟩ : ∃ p, ps[k2]? = some p := ⟨ps[k2]'(by rw [hR.len]; exact hk2), List.getElem?_eq_getElem _⟩
        have hpl := (hR.pcs k2 p hp).2.1
        rw [vb_length] at hpl
        have hud : us.getD k2 0 = u := by simp [List.getD, huk]
        rw [hud] at hpl
        have hfa := flat_all huk
        rw [HLE.out] at hfa
        have hlen := congrArg List.length hfa
        simp only [List.length_append, vb_length, HT.out] at hlen
        have hs := sz_pow (hub u (List.mem_of_getElem? huk)).2
        obtain ⟨gr, hgr⟩ : ∃ gr, ra = some ⟨gr, 0, none⟩ := by
          rcases own_shape hrow with ⟨_, e⟩ | ⟨g, cap, e⟩
          · omega
          · simp only [Value.slice.injEq] at e
            exact ⟨g, e.1⟩
        obtain ⟨ad', c', e, _, hle⟩ := own_row8c hrow
        simp only [Value.slice.injEq] at e
        refine ⟨v, u, p, gr, _, hvk, huk, hbu, hp, hpl.symm, hgr, by rw [hfa, List.drop_left], by omega, by omega, by rw [flat_succ huk, List.length_append, vb_length]⟩
      have HP : Hid (∀ k2, k2 < k → ∃ v u p gr rest, vs[k2]? = some v ∧ us[k2]? = some u ∧ bits .and .u64 v 9223372036854775807 = u ∧ ps[k2]? = some p ∧ p.2 = sz u ∧ ra = some ⟨gr, 0, none⟩ ∧ (flat us k).drop (flat us k2).length = vb u ++ rest ∧ (flat us k2).length + sz u ≤ T ∧ T ≤ rc ∧ (flat us (k2 + 1)).length = (flat us k2).length + sz u) := hpart
      have hrcl : T ≤ rc := by
        obtain ⟨ad', c', e, _, hle⟩ := own_row8c hrow
        simp only [Value.slice.injEq] at e
        omega
      clear hpart
      go_wp2_with fail
      go_loopw [9, 49] (fun t i wr => ∃ k2 : Nat, k2 ≤ k ∧ i = .int .i64 k2 ∧ t = .int .i64 (flat us k2).length ∧ Chg (fun _ => False) w3 wr) (fun _ i _ => k - (intOf i).toNat)
      case atStart => exact ⟨0, Nat.zero_le _, rfl, rfl, Chg.refl _ _⟩
      case round =>
        obtain ⟨k2, hk2, rfl, rfl, hcw⟩ := hrel
        by_cases hlt2 : k2 < k
        · obtain ⟨v, u, p, gr, rest, hvk, huk, hbu, hp, hpe, rfl, hdr, hle, -, hfs⟩ := HP.out k2 hlt2
          obtain ⟨ga, rfl⟩ := hag (by omega)
          have hs := sz_pow (hub u (List.mem_of_getElem? huk)).2
          have hud : us.getD k2 0 = u := by simp [List.getD, huk]
          obtain ⟨_, _, hbp⟩ := hR.pcs k2 p hp
          simp only [hud] at hbp
          have c0 : w3.cell? ⟨ga, k2, none⟩ = some (.slice (some ⟨p.1, 0, none⟩) p.2 p.2) := by
            rw [hR.own.cellAt k2 (by omega), List.getElem?_map, hp]
            rfl
          have c1 := cell_new hcw c0
          have r1 := row8_chg (row8_blk hbp p.2 (by rw [vb_length, hpe]) p.2) hcw
          have r2 := row8_chg (own_part hrow (flat us k2).length (vb u) rest hdr (by omega) (rc - (flat us k2).length)) hcw
          rw [vb_length] at r2
          have q1 := conv8 r1
          have q2 := conv8 r2
          rw [hpe] at q1 c1
          obtain ⟨g, pn⟩ := p
          simp only at q1 c1
          have HF : Hid ((flat us (k2 + 1)).length = (flat us k2).length + sz u) := hfs
          obtain ⟨-, -, n1, n9⟩ := hs
          clear hfs r1 r2 hbp hpe hdr hvk hbu c0
          generalize strOfNums (vb u) = s at *
          generalize sz u = n at *
          generalize (flat us k2).length = t at *
          have hne : ¬ rc = t := by omega
          go_wp2_with fail
          go_quiet (fail)
          go_wp2
          go_roundw
          case rel => exact ⟨k2 + 1, by omega, by go_num, by rw [HF.out]; go_num, chg_then hcw (chg_drewN _ _)⟩
          case measure => simp [intOf]; omega
        · obtain rfl : k2 = k := by omega
          have hR4 := hR.new hcw
          have hrow4 := ownsRow_keep hrow hcw (fun _ _ f => f)
          clear hR hrow hcw
          generalize wr = w4 at *
          go_wp2_with fail
          go_loop [9, 71] (fun t i => ∃ k3 : Nat, k3 ≤ k2 ∧ i = .int .i64 k3 ∧ t = .int .i64 (flat us k3).length) (fun _ i => k2 - (intOf i).toNat)
          case atStart => exact ⟨0, Nat.zero_le _, rfl, rfl⟩
          case round =>
            obtain ⟨k3, hk3, rfl, rfl⟩ := hrel
            by_cases hlt3 : k3 < k2
            · obtain ⟨v, u, p, gr, rest, hvk, huk, hbu, hp, hpe, rfl, hdr, hle, -, hfs⟩ := HP.out k3 hlt3
              obtain ⟨x, rfl, hcx⟩ := row64_at hv hR4.chg hvk
              obtain ⟨hu0, hu1⟩ := hub u (List.mem_of_getElem? huk)
              have hs := sz_pow hu1
              have hlr : (vb u ++ rest).length = T - (flat us k3).length := by
                have := congrArg List.length hdr
                rw [List.length_drop, HT.out] at this
                omega
              have r1 := own_part hrow4 (flat us k3).length (vb u ++ rest) [] (by rw [List.append_nil]; exact hdr) (by omega) (rc - (flat us k3).length)
              rw [hlr] at r1
              have b8 : Bytes8 (vb u ++ rest) := by
                rw [← hdr]
                exact fun y hy => flat_bytes us k2 y (List.mem_of_mem_drop hy)
              have hgt := get_any _ _ _ _ _ r1 b8 (by omega) (by omega)
              have HV : Hid (∀ x n e, GetIs (vb u ++ rest) x n e → x = u ∧ n = sz u ∧ e = 0) := fun x n e h => get_vb hu0 hu1 h
              have HF : Hid ((flat us (k3 + 1)).length = (flat us k3).length + sz u) := hfs
              obtain ⟨-, -, n1, n9⟩ := hs
              clear hfs r1 b8 hlr hdr hpe
              generalize sz u = n at *
              generalize (flat us k3).length = t at *
              have hne : ¬ rc = t := by omega
              go_wp2_with fail
              refine hgt.mono ?_
              rintro e w5 ⟨y, n', e', rfl, hgi, rfl⟩
              obtain ⟨rfl, rfl, rfl⟩ := HV.out y n' e' hgi
              clear hgt hgi HV
              go_wp2_with fail
              refine (num_any _ _).mono ?_
              rintro e w5 ⟨rfl, rfl⟩
              go_wp2
              go_round
              case rel => exact ⟨k3 + 1, by omega, by go_num, by rw [HF.out]; go_num⟩
              case measure => simp [intOf]; omega
            · obtain rfl : k3 = k2 := by omega
              rw [HT.out]
              obtain ⟨h1, h9⟩ := hR4.sizes (fun u h => (hub u h).2)
              have hlen := hR4.len
              have hmk := marked_any w.heap.size (.slice aa k3 ac) ps _ w4 hR4.pcs hR4.inj (by rw [hlen]; exact hR4.own) (by omega) h1 h9 hR4.chg.size
              go_wp2_with fail
              refine hmk.mono ?_
              rintro e w5 ⟨rfl, hc5⟩
              have hCe : Chg (fun b => w.heap.size ≤ b) w w5 := (hR4.chg.mono (fun _ f => f.elim)).trans hc5 (fun _ f => .inl f)
              go_wp2
              go_ret
              exact ⟨rfl, hCe.below (Nat.le_refl _) (fun k f => f)⟩

end Go.Proofs.YtkjjcdkobapedaaDoor
