/- The document's Matches; of no statement by itself. -/
import Derived.Test.YtkdionoelbiidaaFc
namespace Go.Proofs.Ytkdionoelbiidaa
open Go.RowKit
set_option linter.unusedVariables false

/-- The state of the loop of Matches, when t distances were looked at. -/
structure RmI (w W : World) (r : Nat) (ad : Option Addr) (L c : Nat) (d : List Nat) (n p : Nat) (most : Int) (t : Nat) (v : Value) (k : Nat) : Prop where
  rf : Rf W r ad L c d n p
  own : W.ownsRow w.heap.size 30 2 v k (mcells ((scan d n p t).filterMap (matAt d p (bnd most))))
  chg : Chg (fun _ => False) w W
theorem RmI.new {w W W' : World} {r : Nat} {ad : Option Addr} {L c : Nat} {d : List Nat} {n p : Nat} {most : Int} {t : Nat} {v : Value} {k : Nat} (h : RmI w W r ad L c d n p most t v k) (hc : Chg (fun _ => False) W W') : RmI w W' r ad L c d n p most t v k := ⟨h.rf.new hc, ownsRow_keepN h.own hc (fun _ _ f => f), chg_then h.chg hc⟩
theorem RmI.len {w W : World} {r : Nat} {ad : Option Addr} {L c : Nat} {d : List Nat} {n p : Nat} {most : Int} {t : Nat} {v : Value} {k : Nat} (h : RmI w W r ad L c d n p most t v k) : k = ((scan d n p t).filterMap (matAt d p (bnd most))).length := by
  have := h.own.1
  rw [mcells_len] at this
  omega
set_option maxHeartbeats 8000000 in
set_option maxRecDepth 100000 in
theorem rfmatches_any (r : Nat) (ad : Option Addr) (L c : Nat) (d : List Nat) (n p : Nat) (most : Int) (w : World) (h : Rf w r ad L c d n p) (hm : I64 most) : Calls Try.prog 21 #[.pointer (some ⟨r, 0, none⟩), .int .i64 most] w fun e w' => ∃ v, e = .returned v ∧ w'.ownsRow w.heap.size 30 2 v (mat d n p most).length (mcells (mat d n p most)) ∧ Chg (fun _ => False) w w' := by
  obtain ⟨i0, hi0, hz0, hz1, hz2⟩ := info_parts infoM
  have hp := h.p1
  have hL := h.l1
  have hn2 : (n : Int) ≤ 4294967295 := by have := h.n2; omega
  have hpi : (p : Int) ≤ 140737488351232 := by omega
  have HSAME : Hid (∀ (q : Nat) (mo : Int) (W : World), Chg (fun _ => False) w W → q ≤ p → I64 mo → Calls Try.prog 31 #[.pointer (some ⟨r, 0, none⟩), .int .i64 (q : Int), .int .i64 mo] W fun e w' => e = .returned (.int .i64 ((runN d p q (bnd mo) : Nat) : Int)) ∧ Chg (fun _ => False) W w') := fun q mo W hc hq hmo => rfsame_q r ad L c d n p q mo W (h.new hc) hq hmo
  have HI0 : Hid (RmI w w r ad L c d n p most 0 (.slice none 0 0) 0) := ⟨h, World.ownsRow_nil _ _ _ _, Chg.refl _ _⟩
  obtain ⟨_, _, k2, _⟩ := cells3 h.blk
  have HROW : Hid (Row8 w ad L c (nums d)) := h.row
  clear h
  go_enter Try.func21, Try.ntmps21
  go_wp2_with fail
  go_loopw [5, 6, 7] (fun v mv qv wr => ∃ (t k mn : Nat) (z : Int), t ≤ p ∧ mn ≤ 32 ∧ mv = .int .i64 (mn : Int) ∧ qv = .int .i64 z ∧ ((t < p ∧ z = ((p - 1 - t : Nat) : Int)) ∨ (t = p ∧ z = -1)) ∧ Hid ((scan d n p t).length = mn) ∧ Hid (RmI w wr r ad L c d n p most t v k)) (fun _ _ qv _ => (intOf qv + 1).toNat)
  case atStart =>
    refine ⟨0, 0, 0, (p : Int) - 1, Nat.zero_le _, by omega, rfl, by go_num, ?_, rfl, HI0.out⟩
    by_cases e : 0 < p
    · exact .inl ⟨e, by omega⟩
    · exact .inr ⟨by omega, by omega⟩
  case round =>
    clear HI0 k2
    obtain ⟨t, k, mn, z, htp, hmn, rfl, rfl, hz, HSL, HI⟩ := hrel
    have hmni : (mn : Int) ≤ 32 := by omega
    obtain ⟨av, cv, hvv⟩ := formN HI.out.own
    subst hvv
    obtain ⟨k0, k1, k2, _⟩ := cells3 HI.out.rf.blk
    have HFIN : Hid (t = p ∨ n ≤ t ∨ mn = 32 → mat d n p most = (scan d n p t).filterMap (matAt d p (bnd most))) := fun e => by
      unfold mat
      rw [cand_stop htp (by rw [HSL.out]; exact hmn) (by rw [HSL.out]; exact e)]
    have HEND : Hid ((t = p ∨ n ≤ t ∨ mn = 32) → wr.ownsRow w.heap.size 30 2 (.slice av k cv) (mat d n p most).length (mcells (mat d n p most))) := fun e => by
      have h1 := HI.out.own
      have h2 := HI.out.len
      rw [HFIN.out e, ← h2]
      exact h1
    have HCH : Hid (Chg (fun _ => False) w wr) := HI.out.chg
    rcases hz with ⟨hz1', rfl⟩ | ⟨hz1', rfl⟩
    · obtain ⟨q, hq⟩ : ∃ q, p - 1 - t = q := ⟨_, rfl⟩
      rw [hq]
      obtain ⟨tt, htt⟩ : ∃ tt, t + 1 = tt := ⟨_, rfl⟩
      have hpq : (p : Int) - (q : Int) = (tt : Int) := by omega
      have HQ : Hid (p - tt = q) := by show _ = _; omega
      have hqp : q ≤ p := by omega
      have hqi : (q : Int) ≤ 140737488351232 := by omega
      have htti : (tt : Int) ≤ 140737488355328 := by omega
      have hdq : decide (0 ≤ (q : Int)) = true := by simp
      have HEZ : Hid ((tt < p ∧ (q : Int) - 1 = ((p - 1 - tt : Nat) : Int)) ∨ (tt = p ∧ (q : Int) - 1 = -1)) := by
        by_cases e : tt < p
        · exact .inl ⟨e, by omega⟩
        · exact .inr ⟨by omega, by omega⟩
      by_cases h1 : tt ≤ n
      · have hd1 : decide ((tt : Int) ≤ (n : Int)) = true := by simp; omega
        have hd1' : decide (tt ≤ n) = true := decide_eq_true h1
        by_cases h2 : mn < 32
        · have hd2 : decide ((mn : Int) < 32) = true := by simp; omega
          have hd2' : decide (mn < 32) = true := decide_eq_true h2
          clear HEND HFIN
          go_wp2_with fail
          go_quiet (fail)
          have HI1 : Hid (RmI w (wr.drewN nq) r ad L c d n p most t (.slice av k cv) k) := HI.out.new (chg_drewN _ _)
          clear HI k0 k1 k2 HCH
          generalize wr.drewN nq = W1 at *
          go_wp2_with fail
          refine (HSAME.out q 3 W1 HI1.out.chg hqp (by unfold I64; omega)).mono ?_
          rw [show bnd 3 = 3 from rfl]
          rintro z w2 ⟨rfl, c2⟩
          have HI2 : Hid (RmI w w2 r ad L c d n p most t (.slice av k cv) k) := HI1.out.new c2
          have HHIT : Hid (hitAt d n p tt ↔ runN d p q 3 = 3) := by
            show _ ↔ _
            unfold hitAt
            rw [HQ.out]
            exact ⟨fun f => f.2, fun f => ⟨h1, f⟩⟩
          have hx3 := runN_le d p q 3
          obtain ⟨x3, hx3e⟩ : ∃ x3, runN d p q 3 = x3 := ⟨_, rfl⟩
          rw [hx3e] at HHIT hx3 ⊢
          clear c2 HI1 hx3e
          have hx3i : (x3 : Int) ≤ 3 := by omega
          by_cases h3 : x3 < 3
          · have hd3 : decide ((x3 : Int) < 3) = true := by simp; omega
            have hd3' : decide (x3 < 3) = true := decide_eq_true h3
            have HSC : Hid (scan d n p tt = scan d n p t) := by
              show _ = _
              rw [← htt]
              exact if_neg (fun f => by rw [htt] at f; have := HHIT.out.1 f; omega)
            have HI3 : Hid (RmI w w2 r ad L c d n p most tt (.slice av k cv) k) := ⟨HI2.out.rf, by rw [HSC.out]; exact HI2.out.own, HI2.out.chg⟩
            have HS3 : Hid ((scan d n p tt).length = mn) := by rw [HSC.out]; exact HSL.out
            clear HHIT HSC HI2 HSL
            go_wp2_with fail
            exact ⟨⟨tt, k, mn, _, by omega, hmn, rfl, rfl, HEZ.out, HS3.out, HI3.out⟩, by simp [intOf] <;> omega⟩
          · have hd3 : decide ((x3 : Int) < 3) = false := by simp; omega
            have hd3' : decide (x3 < 3) = false := decide_eq_false h3
            have HSC : Hid (scan d n p tt = scan d n p t ++ [tt]) := by
              show _ = _
              rw [← htt]
              exact if_pos (by rw [htt]; exact HHIT.out.2 (by omega))
            have HS3 : Hid ((scan d n p tt).length = mn + 1) := by show _ = _; rw [HSC.out, List.length_append, HSL.out]; rfl
            clear HHIT HSL
            go_wp2_with fail
            refine (HSAME.out q most w2 HI2.out.chg hqp hm).mono ?_
            rintro z w3 ⟨rfl, c3⟩
            have HI3 : Hid (RmI w w3 r ad L c d n p most t (.slice av k cv) k) := HI2.out.new c3
            have hxe : matAt d p (bnd most) tt = if 3 ≤ runN d p q (bnd most) then some (runN d p q (bnd most), tt) else none := by unfold matAt; rw [HQ.out]
            have hxl := runN_le d p q (bnd most)
            have hbn : bnd most ≤ 273 := Nat.min_le_right _ _
            obtain ⟨x, hx⟩ : ∃ x, runN d p q (bnd most) = x := ⟨_, rfl⟩
            rw [hx] at hxe hxl ⊢
            have hxi : (x : Int) ≤ 273 := by omega
            clear c3 HI2 hx hxl hbn
            by_cases h4 : 3 ≤ x
            · have hd4 : decide (3 ≤ (x : Int)) = true := by simp; omega
              have hd4' : decide (3 ≤ x) = true := decide_eq_true h4
              rw [if_pos h4] at hxe
              have HFM : Hid ((scan d n p tt).filterMap (matAt d p (bnd most)) = (scan d n p t).filterMap (matAt d p (bnd most)) ++ [(x, tt)]) := by
                show _ = _
                rw [HSC.out, List.filterMap_append, List.filterMap_cons_some hxe]
                rfl
              obtain ⟨k0, k1, k2, _⟩ := cells3 HI3.out.rf.blk
              have hkl : k ≤ 32 := by
                have h5 := HI3.out.len
                have h6 := List.length_filterMap_le (matAt d p (bnd most)) (scan d n p t)
                have h7 := HS3.out
                rw [HSC.out, List.length_append, List.length_singleton] at h7
                omega
              have cN := chg_one w3 (.cells #[.int .i64 (x : Int), .int .i64 (tt : Int)] 30)
              have hown := ownsRow_keepN HI3.out.own cN (fun _ _ f => f)
              have hsrc : From (w3.alloc (.cells #[.int .i64 (x : Int), .int .i64 (tt : Int)] 30)) (some ⟨w3.heap.size, 0, none⟩) 1 1 2 [.int .i64 (x : Int), .int .i64 (tt : Int)] := ⟨rfl, .inr ⟨_, rfl, two_cells w3 _ _ 30⟩⟩
              have hszW : w.heap.size ≤ (w3.alloc (.cells #[.int .i64 (x : Int), .int .i64 (tt : Int)] 30)).heap.size := Nat.le_trans HI3.out.chg.size cN.size
              have HCN : Hid (Chg (fun _ => False) w3 (w3.alloc (.cells #[.int .i64 (x : Int), .int .i64 (tt : Int)] 30))) := cN
              clear cN hxe HSC
              go_wp2_with (at_builtin; refine wpList_append_moved rfl _ _ 32 rfl w.heap.size 30 i0 (.agg #[.int .i64 0, .int .i64 0]) 2 16 Try.underlying32 hi0 hz0 hz1 hz2 rfl (by decide) _ k _ rfl (some ⟨w3.heap.size, 0, none⟩) 1 1 rfl [.int .i64 (x : Int), .int .i64 (tt : Int)] hown hsrc (by simp [Value.oneCell']) (by unfold maxLen; omega) (by omega) hszW ?_)
              intro v4 w4 ho4 hg4 _
              obtain ⟨g4, cap4, rfl⟩ := ownsRow_succ ho4
              have c4 : Chg (fun _ => False) w w4 := (chg_then HI3.out.chg HCN.out).grown hg4 (fun z e => .inr (HI3.out.own.lt z e).1)
              have HI4 : Hid (RmI w w4 r ad L c d n p most tt (.slice (some ⟨g4, 0, none⟩) (k + 1) cap4) (k + 1)) := by
                have c34 : Chg (fun z => (Value.slice av k cv).ownBlock = some z) w3 w4 := (HCN.out.mono (fun _ f => f.elim)).grown hg4 (fun z e => .inl e)
                refine ⟨⟨blk_keep HI3.out.rf.blk c34 (fun e => ?_), ?_, HI3.out.rf.p1, HI3.out.rf.l1, HI3.out.rf.n1, HI3.out.rf.n2⟩, by rw [HFM.out, mcells_app]; exact ho4, c4⟩
                · obtain ⟨cur, hcur⟩ := owns_blk HI3.out.own e
                  exact ty_ne hcur HI3.out.rf.blk (by decide)
                · exact Bk.row8_chg HROW.out c4
              clear ho4 hg4 c4 HI3 HCN HFM hown hsrc hszW k0 k1 k2
              go_wp2_with fail
              exact ⟨⟨tt, k + 1, mn + 1, _, by omega, by omega, by go_num, rfl, HEZ.out, HS3.out, HI4.out⟩, by simp [intOf] <;> omega⟩
            · have hd4 : decide (3 ≤ (x : Int)) = false := by simp; omega
              have hd4' : decide (3 ≤ x) = false := decide_eq_false h4
              rw [if_neg h4] at hxe
              have HI4 : Hid (RmI w w3 r ad L c d n p most tt (.slice av k cv) k) := ⟨HI3.out.rf, by rw [HSC.out, List.filterMap_append, List.filterMap_cons_none hxe, List.filterMap_nil, List.append_nil]; exact HI3.out.own, HI3.out.chg⟩
              clear HI3 HSC hxe
              go_wp2_with fail
              exact ⟨⟨tt, k, mn + 1, _, by omega, by omega, by go_num, rfl, HEZ.out, HS3.out, HI4.out⟩, by simp [intOf] <;> omega⟩
        · have hd2 : decide ((mn : Int) < 32) = false := by simp; omega
          have hd2' : decide (mn < 32) = false := decide_eq_false h2
          have HE : Hid _ := HEND.out (.inr (.inr (by omega)))
          clear HEND HFIN HI
          go_wp2_with fail
          go_quiet (fail)
          go_wp2
          go_ret
          exact ⟨_, rfl, ownsRow_keepN HE.out (chg_drewN _ _) (fun _ _ f => f), chg_then HCH.out (chg_drewN _ _)⟩
      · have hd1 : decide ((tt : Int) ≤ (n : Int)) = false := by simp; omega
        have hd1' : decide (tt ≤ n) = false := decide_eq_false h1
        have HE : Hid _ := HEND.out (.inr (.inl (by omega)))
        clear HEND HFIN HI
        go_wp2_with fail
        go_quiet (fail)
        go_wp2
        go_ret
        exact ⟨_, rfl, ownsRow_keepN HE.out (chg_drewN _ _) (fun _ _ f => f), chg_then HCH.out (chg_drewN _ _)⟩
    · have HE : Hid _ := HEND.out (.inl hz1')
      clear HEND HFIN HI
      go_wp2_with fail
      go_quiet (fail)
      go_wp2
      go_ret
      exact ⟨_, rfl, ownsRow_keepN HE.out (chg_drewN _ _) (fun _ _ f => f), chg_then HCH.out (chg_drewN _ _)⟩
end Go.Proofs.Ytkdionoelbiidaa
