/- What is asked of the program's orders holds; of no statement by itself. -/
import Derived.Test.YtannepoclpmedaaDoorCn
import Derived.Test.YtannepoclpmedaaDoorKd
namespace Go.Proofs.YtannepoclpmedaaDoor
open Go.RowKit
open St12
set_option linter.unusedVariables false
set_option linter.unusedSimpArgs false
/-- Where a row is. -/
def stN (l : List Int) : Nat := if (0 : Int) ∈ l then 3 else if (Ck17.bt l).1 = false then 0 else if (Ck17.bt l).2 = false then 1 else 2
theorem stN_le (l : List Int) : stN l ≤ 3 := by unfold stN; (repeat' split) <;> omega
theorem foll_ok (l : List Int) (K : Nat) (hK : K ≤ 6) : tab2.flatten[stN l * 7 + K]? = some (if Ck17.nextA l K = 0 then ((stN (l ++ [(K : Int)]) : Nat) : Int) else 4) := by
  have hb : Ck17.bt (l ++ [(K : Int)]) = Ck17.bt1 (Ck17.bt l) K := Ck17.bt_snoc l K
  have hk : K = 0 ∨ K = 1 ∨ K = 2 ∨ K = 3 ∨ K = 4 ∨ K = 5 ∨ K = 6 := by omega
  by_cases hz : (0 : Int) ∈ l
  · have e1 : stN l = 3 := by unfold stN; rw [if_pos hz]
    have e2 : Ck17.nextA l K = 2 := by unfold Ck17.nextA; rw [if_neg (by omega), if_pos hz]
    rw [e1, e2, if_neg (by decide)]
    rcases hk with rfl | rfl | rfl | rfl | rfl | rfl | rfl <;> rfl
  · have hs : stN l = if (Ck17.bt l).1 = false then 0 else if (Ck17.bt l).2 = false then 1 else 2 := by unfold stN; rw [if_neg hz]
    have hs2 : stN (l ++ [(K : Int)]) = if (K : Int) = 0 then 3 else if (Ck17.bt1 (Ck17.bt l) K).1 = false then 0 else if (Ck17.bt1 (Ck17.bt l) K).2 = false then 1 else 2 := by
      unfold stN
      rw [hb]
      by_cases h0 : (K : Int) = 0
      · rw [if_pos (by rw [h0]; simp), if_pos h0]
      · rw [if_neg (by
          intro hm
          rcases List.mem_append.1 hm with h | h
          · exact hz h
          · exact h0 (List.mem_singleton.1 h).symm), if_neg h0]
    have hx : Ck17.nextA l K = if (K : Int) = 0 ∨ (K : Int) = 1 ∨ (K : Int) = 6 then 0 else if (Ck17.bt l).1 = false ∨ ((K : Int) = 3 ∨ (K : Int) = 4) ∧ (Ck17.bt l).2 = false then 2 else 0 := by unfold Ck17.nextA; rw [if_neg (by omega), if_neg hz]
    rw [hs, hs2, hx]
    generalize Ck17.bt l = s
    obtain ⟨b, t⟩ := s
    rcases hk with rfl | rfl | rfl | rfl | rfl | rfl | rfl <;> cases b <;> cases t <;> rfl
/-- An order in memory. -/
def OdP (w : World) (B a : Nat) (F : Nat → Prop) (l : List Int) : Prop := B ≤ a ∧ w.heap[a]? = some (.cells #[.int .i64 ((stN l : Nat) : Int)] 71 (0, 0)) ∧ ∀ z, F z ↔ z = a
theorem TabO.tab {w : World} (h : TabO w) : Tab w := ⟨h.1, h.2.1⟩
theorem chunkSpecO : ChunkSpec TabO where
  keep := tab_keepO
  put := fun c w hT hc => chunkSpec.put c w hT.tab hc
  get := fun ad n cp bs w hT hr hd hcp hn => chunkSpec.get ad n cp bs w hT.tab hr hd hcp hn
  bd := fun b w hT hb => chunkSpec.bd b w hT.tab hb
  db := fun n w hT hn => chunkSpec.db n w hT.tab hn
theorem tabO_keepS {w0 w w' : World} {S : Nat → Prop} (h0 : TabO w0) (h : TabO w) (hc : Chg S w w') (hS : ∀ z, S z → w0.heap.size ≤ z) : TabO w' := by
  obtain ⟨⟨_, _, a0⟩, ⟨_, _, a1⟩, ⟨_, _, a2⟩⟩ := h0
  obtain ⟨⟨y0, r0, b0⟩, ⟨y1, r1, b1⟩, ⟨y2, r2, b2⟩⟩ := h
  have l0 := lt_of_blk a0
  have l1 := lt_of_blk a1
  have l2 := lt_of_blk a2
  exact ⟨⟨y0, r0, blk_keep b0 hc (fun hk => by have := hS _ hk; omega)⟩, ⟨y1, r1, blk_keep b1 hc (fun hk => by have := hS _ hk; omega)⟩, ⟨y2, r2, blk_keep b2 hc (fun hk => by have := hS _ hk; omega)⟩⟩
theorem cells1o {w : World} {a : Nat} {x : Value} {t : TypeId} (h : w.heap[a]? = some (.cells #[x] t (0, 0))) : w.cell? ⟨a, 0, none⟩ = some x ∧ w.frozen? ⟨a, 0, none⟩ = false :=
  ⟨by simp [World.cell?, h], by simp [World.frozen?, h]⟩
set_option maxHeartbeats 2000000 in
theorem onew_q (w : World) : Calls Tryd.prog 16 #[] w fun e w' => ∃ a F, e = .returned (.pointer (some ⟨a, 0, none⟩)) ∧ OdP w' w.heap.size a F [] ∧ Chg (fun _ => False) w w' := by
  have HO : Hid (OdP (w.alloc (.cells #[.int .i64 0] 71)) w.heap.size w.heap.size (fun z => z = w.heap.size) []) := ⟨Nat.le_refl _, heap_alloc_last w _, fun z => Iff.rfl⟩
  go_enter Tryd.func16, Tryd.ntmps16
  go_wp2
  go_ret
  exact ⟨_, _, rfl, HO.out, chg_one _ _⟩
set_option maxHeartbeats 2000000 in
theorem oended_q (B a : Nat) (F : Nat → Prop) (l : List Int) (w : World) (h : OdP w B a F l) : Calls Tryd.prog 19 #[.pointer (some ⟨a, 0, none⟩)] w fun e w' => e = .returned (.bool (decide ((0 : Int) ∈ l))) ∧ Chg (fun _ => False) w w' := by
  obtain ⟨k0, f0⟩ := cells1o h.2.1
  by_cases hz : (0 : Int) ∈ l
  · have e1 : stN l = 3 := by unfold stN; rw [if_pos hz]
    rw [e1] at k0
    have HD : Hid (decide ((0 : Int) ∈ l) = true) := decide_eq_true hz
    clear hz e1 h
    go_enter Tryd.func19, Tryd.ntmps19
    go_wp2
    go_ret
    exact ⟨by rw [HD.out]; rfl, Chg.refl _ _⟩
  · have hs : stN l ≤ 2 := by unfold stN; rw [if_neg hz]; (repeat' split) <;> omega
    have HD : Hid (decide ((0 : Int) ∈ l) = false) := decide_eq_false hz
    have e1 : (((stN l : Nat) : Int) == 3) = false := by simp; omega
    generalize stN l = q at *
    clear hz h
    go_enter Tryd.func19, Tryd.ntmps19
    go_wp2
    go_ret
    exact ⟨by rw [HD.out]; rfl, Chg.refl _ _⟩
set_option maxHeartbeats 4000000 in
theorem onext_q (B a : Nat) (F : Nat → Prop) (l : List Int) (k : Int) (w : World) (hT : TabO w) (h : OdP w B a F l) (hB : B ≤ w.heap.size) (hk : I64 k) : Calls Tryd.prog 18 #[.pointer (some ⟨a, 0, none⟩), .int .i64 k] w fun e w' => e = .returned (.int .i64 (Ck17.nextA l k)) ∧ ∃ F', OdP w' B a F' (Ck17.rowA l k) ∧ Chg F w w' ∧ ∀ z, F' z → F z ∨ w.heap.size ≤ z := by
  have HK : Hid _ := isKind_q k w
  by_cases hkk : 0 ≤ k ∧ k ≤ 6
  · rw [decide_eq_true hkk.1, decide_eq_true hkk.2] at HK
    obtain ⟨K, rfl⟩ : ∃ K : Nat, (K : Int) = k := ⟨k.toNat, by omega⟩
    have hK : K ≤ 6 := by omega
    have hq := tab_at2O hT (foll_ok l K hK)
    obtain ⟨k0, f0⟩ := cells1o h.2.1
    have HO : Hid (OdP w B a F l) := h
    have hs3 := stN_le l
    by_cases hx : Ck17.nextA l K = 0
    · rw [if_pos hx] at hq
      have HX : Hid (Ck17.nextA l K = 0) := hx
      have HRW : Hid (Ck17.rowA l K = l ++ [(K : Int)]) := if_pos hx
      have hs4 := stN_le (l ++ [(K : Int)])
      have HO2 : Hid (OdP (w.setCell ⟨a, 0, none⟩ (.int .i64 ((stN (l ++ [(K : Int)]) : Nat) : Int))) B a F (l ++ [(K : Int)])) := ⟨h.1, blk_setk (l := [.int .i64 ((stN l : Nat) : Int)]) h.2.1 0 _, h.2.2⟩
      have HC : Hid (Chg F w (w.setCell ⟨a, 0, none⟩ (.int .i64 ((stN (l ++ [(K : Int)]) : Nat) : Int)))) := (Chg.refl F w).setCell (p := ⟨a, 0, none⟩) (.inl ((h.2.2 a).2 rfl)) _
      obtain ⟨Q2, hQ2⟩ : ∃ q, stN (l ++ [(K : Int)]) = q := ⟨_, rfl⟩
      rw [hQ2] at hq HO2 HC hs4
      generalize stN l = q at *
      have e1 : (((Q2 : Nat) : Int) == 4) = false := by simp; omega
      clear hx h hkk hT hQ2 HO
      go_enter Tryd.func18, Tryd.ntmps18
      go_wp2_with fail
      refine Calls.mono HK.out ?_
      rintro z w1 ⟨rfl, rfl⟩
      clear HK
      go_wp2
      go_ret
      exact ⟨by rw [HX.out]; rfl, F, by rw [HRW.out]; exact HO2.out, HC.out, fun z hz => .inl hz⟩
    · rw [if_neg hx] at hq
      have HRW : Hid (Ck17.rowA l K = l) := if_neg hx
      have HX : Hid (Ck17.nextA l K = 2) := by
        show _ = _
        unfold Ck17.nextA at hx ⊢
        rw [if_neg (by omega)] at hx ⊢
        split at hx
        · next h1 => rw [if_pos h1]
        · next h1 =>
          rw [if_neg h1]
          split at hx
          · exact absurd rfl hx
          · next h2 =>
            rw [if_neg h2]
            split at hx
            · next h3 => rw [if_pos h3]
            · exact absurd rfl hx
      generalize stN l = q at *
      clear hx h hkk hT
      go_enter Tryd.func18, Tryd.ntmps18
      go_wp2_with fail
      refine Calls.mono HK.out ?_
      rintro z w1 ⟨rfl, rfl⟩
      clear HK
      go_wp2
      go_ret
      exact ⟨by rw [HX.out]; rfl, F, by rw [HRW.out]; exact HO.out, Chg.refl _ _, fun z hz => .inl hz⟩
  · rw [show (decide (0 ≤ k) && decide (k ≤ 6)) = false by simp; omega] at HK
    have HX : Hid (Ck17.nextA l k = 6) := by show _ = _; unfold Ck17.nextA; rw [if_pos (by omega)]
    have HRW : Hid (Ck17.rowA l k = l) := by show _ = _; unfold Ck17.rowA; rw [HX.out, if_neg (by decide)]
    have HO : Hid (OdP w B a F l) := h
    clear hkk h hT
    go_enter Tryd.func18, Tryd.ntmps18
    go_wp2_with fail
    refine Calls.mono HK.out ?_
    rintro z w1 ⟨rfl, rfl⟩
    clear HK
    go_wp2
    go_ret
    exact ⟨by rw [HX.out]; rfl, F, by rw [HRW.out]; exact HO.out, Chg.refl _ _, fun z hz => .inl hz⟩
theorem orderSpec : OrderSpec TabO OdP where
  tab := fun h0 h hc hS => tabO_keepS h0 h hc hS
  keep := fun h hc hS => ⟨h.1, blk_keep h.2.1 hc (hS _ ((h.2.2 _).2 rfl)), h.2.2⟩
  lt := fun h z hz => by
    obtain rfl := (h.2.2 z).1 hz
    exact ⟨h.1, lt_of_blk h.2.1⟩
  ty := fun h z hz => by
    obtain rfl := (h.2.2 z).1 hz
    exact ⟨_, _, h.2.1, by decide, by decide, by decide⟩
  new := fun w _ => onew_q w
  down := fun h hB => ⟨Nat.le_trans hB h.1, h.2⟩
  next := fun B a F l k w hT h hB hk => onext_q B a F l k w hT h hB hk
  ended := fun B a F l w _ h => oended_q B a F l w h
end Go.Proofs.YtannepoclpmedaaDoor
