/- The landed index's Find, over sort.Search; of no statement by itself. -/
import Derived.Test.YtehfcfpbjenmjaaDoorIzl
import Derived.Test.YtehfcfpbjenmjaaDoorIxh
namespace Go.Proofs.YtehfcfpbjenmjaaDoor
open Go.RowKit
set_option linter.unusedVariables false
set_option linter.unusedSimpArgs false
theorem find_none (off : Int) : ∀ (i : Nat) (l : List Plc), (∀ p ∈ l, Ix23.hit off p = false) → Ix23.findI i off l = -1
  | _, [], _ => rfl
  | i, p :: l, h => by
    rw [Ix23.findI, if_neg (by rw [h p (by simp)]; simp)]
    exact find_none off (i + 1) l (fun q hq => h q (by simp [hq]))
set_option maxHeartbeats 4000000 in
set_option maxRecDepth 100000 in
theorem search_any (n : Nat) (P : Nat → Bool) (bo bl : Nat) (w0 : World) (hn : n ≤ 8796093022208) (hmon : ∀ i j, i ≤ j → j < n → P i = true → P j = true) (HP : Hid (∀ (i : Nat) (w : World), i < n → Chg (fun _ => False) w0 w → Calls Tryd.prog 44 #[.int .i64 (i : Int), .pointer (some ⟨bo, 0, none⟩), .pointer (some ⟨bl, 0, none⟩)] w fun e w' => e = .returned (.bool (P i)) ∧ ∃ q, w' = w.drewN q)) : Calls Tryd.prog 43 #[.int .i64 (n : Int), .func (.func 44) #[] #[.pointer (some ⟨bo, 0, none⟩), .pointer (some ⟨bl, 0, none⟩)]] w0 fun e w' => ∃ r : Nat, e = .returned (.int .i64 (r : Int)) ∧ r ≤ n ∧ (∀ x, x < r → P x = false) ∧ (r < n → P r = true) ∧ Chg (fun _ => False) w0 w' := by
  have hni : (n : Int) ≤ 8796093022208 := by omega
  have HM : Hid (∀ i j, i ≤ j → j < n → P i = true → P j = true) := hmon
  clear hmon
  go_enter Tryd.func43, Tryd.ntmps43
  go_wp2_with fail
  go_loopw [5, 6] (fun vi vj wr => ∃ i j : Nat, i ≤ j ∧ j ≤ n ∧ vi = .int .i64 (i : Int) ∧ vj = .int .i64 (j : Int) ∧ Hid (∀ x, x < i → P x = false) ∧ Hid (j < n → P j = true) ∧ Hid (Chg (fun _ => False) w0 wr)) (fun vi vj _ => (intOf vj).toNat - (intOf vi).toNat)
  case atStart => exact ⟨0, n, by omega, by omega, rfl, rfl, fun x hx => by omega, fun hx => by omega, Chg.refl _ _⟩
  case round =>
    obtain ⟨i, j, hij, hj, rfl, rfl, HI, HJ, HC⟩ := hrel
    have hii : (i : Int) ≤ 8796093022208 := by omega
    have hji : (j : Int) ≤ 8796093022208 := by omega
    by_cases hlt : i < j
    · have d1 : decide ((i : Int) < (j : Int)) = true := decide_eq_true (by omega)
      have d1' : decide (i < j) = true := decide_eq_true hlt
      obtain ⟨m, hm⟩ : ∃ m, (i + j) / 2 = m := ⟨_, rfl⟩
      have hmi : i ≤ m := by omega
      have hmj : m < j := by omega
      have HMM : Hid ((i + j) / 2 = m ∧ i ≤ m ∧ m < j ∧ m < n) := ⟨hm, hmi, hmj, by omega⟩
      have HX : Hid _ := HP.out m wr (by omega) HC.out
      have im : ((i : Int) + (j : Int)) / 2 = (m : Int) := by omega
      have hmi2 : (m : Int) ≤ 8796093022208 := by omega
      clear hm
      go_wp2_with fail
      try rw [im]
      refine Calls.mono HX.out ?_
      rintro z w2 ⟨rfl, q2, rfl⟩
      have HC2 : Hid (Chg (fun _ => False) w0 (wr.drewN q2)) := chg_then HC.out (chg_drewN _ _)
      have HPM : Hid (P m = P m) := rfl
      obtain ⟨b, hb⟩ : ∃ b, P m = b := ⟨_, rfl⟩
      have HB : Hid (P m = b) := hb
      rw [hb]
      clear hb HX HPM
      generalize wr.drewN q2 = w2 at *
      cases b
      · have HI2 : Hid (∀ x, x < m + 1 → P x = false) := fun x hx => by
          cases e : P x
          · rfl
          · have h9 := HM.out x m (by omega) HMM.out.2.2.2 e
            rw [HB.out] at h9
            cases h9
        go_wp2
        go_roundw
        case rel => exact ⟨m + 1, j, by omega, by omega, by go_num, rfl, HI2, HJ, HC2⟩
        case measure => simp [intOf]; omega
      · go_wp2
        go_roundw
        case rel => exact ⟨i, m, by omega, by omega, rfl, by go_num, HI, fun _ => HB.out, HC2⟩
        case measure => simp [intOf]; omega
    · obtain rfl : i = j := by omega
      go_wp2
      go_ret
      exact ⟨i, rfl, hj, HI.out, HJ.out, HC.out⟩
theorem ssum_next {l : List Rec} {k : Nat} {q : Rec} (h : l[k]? = some q) : Ix23.ssum (l.take (k + 1)) = Ix23.ssum (l.take k) + q.s := by
  rw [take_last h, Ix23.ssum_app]
  simp [Ix23.ssum]
theorem ssum_mono {l : List Rec} (hs : ∀ r ∈ l, 0 ≤ r.s) {i : Nat} : ∀ j, i ≤ j → Ix23.ssum (l.take i) ≤ Ix23.ssum (l.take j)
  | 0, h => by obtain rfl : i = 0 := by omega
               exact Int.le_refl _
  | j + 1, h => by
    by_cases e : i = j + 1
    · subst e; exact Int.le_refl _
    · have ih := ssum_mono hs (i := i) j (by omega)
      by_cases hj : j < l.length
      · have hq := List.getElem?_eq_getElem hj
        have h1 := ssum_next hq
        have h2 := hs _ (List.getElem_mem hj)
        omega
      · rw [List.take_of_length_le (by omega : l.length ≤ j + 1)]
        rw [List.take_of_length_le (by omega : l.length ≤ j)] at ih
        exact ih
/-- What is known of a place in memory. -/
theorem plc_known {w : World} {ad : Option Addr} {n c k : Nat} {frm : Int} {l : List Rec} (h : PlF w ad n c (Ix23.placeL frm 0 l)) (hk : k < n) (hr : Ix23.rightB 0 0 l = true) (h0 : 0 ≤ frm) (h1 : frm + Ix23.bsum l ≤ 9223372036854775807) : ∃ (q : Rec) (b off : Nat), l[k]? = some q ∧ ad = some ⟨b, off, none⟩ ∧ w.cell? ⟨b, off + k * 4 + 2, none⟩ = some (.int .i64 q.s) ∧ w.cell? ⟨b, off + k * 4 + 3, none⟩ = some (.int .i64 (Ix23.ssum (l.take k))) ∧ (Ix23.placeL frm 0 l)[k]? = some ⟨frm + Ix23.bsum (l.take k), q, Ix23.ssum (l.take k)⟩ ∧ 0 ≤ q.s ∧ 0 ≤ Ix23.ssum (l.take k) ∧ Ix23.ssum (l.take k) + q.s ≤ 9223372036854775807 := by
  obtain ⟨p, b, off, hp, _, ha, _, _, x2, x3⟩ := h.at hk
  obtain ⟨_, q, hq, rfl, g1, g2, g3, _, _⟩ := places_I hr h0 h1 k p hp
  have := sum_bd hr
  exact ⟨q, b, off, hq, ha, x2, x3, hp, g1, g2, by omega⟩
set_option maxHeartbeats 4000000 in
set_option maxRecDepth 100000 in
theorem find1_any (off frm : Int) (ad : Option Addr) (n c bo bl i : Nat) (l : List Rec) (w : World) (hb : w.heap[bo]? = some (.cells #[.int .i64 off] 3 (0, 0))) (hl : w.heap[bl]? = some (.cells #[.slice ad n c] 39 (0, 0))) (h : PlF w ad n c (Ix23.placeL frm 0 l)) (hk : i < n) (hn : n ≤ 8796093022208) (hr : Ix23.rightB 0 0 l = true) (h0 : 0 ≤ frm) (h1 : frm + Ix23.bsum l ≤ 9223372036854775807) (ho : I64 off) : Calls Tryd.prog 44 #[.int .i64 (i : Int), .pointer (some ⟨bo, 0, none⟩), .pointer (some ⟨bl, 0, none⟩)] w fun e w' => e = .returned (.bool (decide (off < Ix23.ssum (l.take (i + 1))))) ∧ ∃ q, w' = w.drewN q := by
  obtain ⟨q, b, o, hq, rfl, x2, x3, _, g1, g2, g3⟩ := plc_known h hk hr h0 h1
  rw [ssum_next hq]
  have k0 := one0 hb
  have k1 := one0 hl
  obtain ⟨o0, o1⟩ := ho
  have hii : (i : Int) ≤ 8796093022208 := by omega
  have d1 : decide ((i : Int) < (n : Int)) = true := decide_eq_true (by omega)
  obtain ⟨u, s⟩ := q
  simp only at x2 g1 g3 ⊢
  generalize Ix23.ssum (l.take i) = st at *
  clear hb hl h hq hr h0 h1
  go_enter Tryd.func44, Tryd.ntmps44
  go_upto_region 1 with fail
  go_quiet (fail)
  go_wp2
  go_ret
  exact ⟨rfl, _, rfl⟩
set_option maxHeartbeats 8000000 in
set_option maxRecDepth 100000 in
theorem find23_any (off frm : Int) (ad : Option Addr) (n c : Nat) (l : List Rec) (w0 : World) (hr : Ix23.rightB 0 0 l = true) (h0 : 0 ≤ frm) (h1 : frm + Ix23.bsum l ≤ 9223372036854775807) (h : PlF w0 ad n c (Ix23.placeL frm 0 l)) (hn : n ≤ 8796093022208) (ho : I64 off) : Calls Tryd.prog 15 #[.int .i64 off, .slice ad n c] w0 fun e w' => e = .returned (.int .i64 (Ix23.findI 0 off (Ix23.placeL frm 0 l))) ∧ Chg (fun _ => False) w0 w' := by
  have hll : l.length = n := by have h9 := h.len; rw [Ix23.placeL_len] at h9; exact h9
  have hs : ∀ r ∈ l, 0 ≤ r.s := fun r hr9 => ((Ix23.right_is hr (by omega) (by omega)).1 r hr9).2.2.1
  have HPL : Hid (∀ w, Chg (fun _ => False) w0 w → PlF w ad n c (Ix23.placeL frm 0 l)) := fun w hw => h.new hw
  have HKN : Hid (∀ w k, Chg (fun _ => False) w0 w → k < n → ∃ (q : Rec) (b o : Nat), l[k]? = some q ∧ ad = some ⟨b, o, none⟩ ∧ w.cell? ⟨b, o + k * 4 + 2, none⟩ = some (.int .i64 q.s) ∧ w.cell? ⟨b, o + k * 4 + 3, none⟩ = some (.int .i64 (Ix23.ssum (l.take k))) ∧ (Ix23.placeL frm 0 l)[k]? = some ⟨frm + Ix23.bsum (l.take k), q, Ix23.ssum (l.take k)⟩ ∧ 0 ≤ q.s ∧ 0 ≤ Ix23.ssum (l.take k) ∧ Ix23.ssum (l.take k) + q.s ≤ 9223372036854775807) := fun w k hw hk => plc_known (h.new hw) hk hr h0 h1
  have hni : (n : Int) ≤ 8796093022208 := by omega
  have HNO : Hid (n ≤ 8796093022208) := hn
  obtain ⟨o0, o1⟩ := ho
  have HO : Hid (I64 off) := ⟨o0, o1⟩
  have c1 := chg_one w0 (.cells #[.int .i64 off] 3)
  have c2 := chg_one (w0.alloc (.cells #[.int .i64 off] 3)) (.cells #[.slice ad n c] 39)
  have b1 := blk_keep (heap_alloc_last w0 (.cells #[.int .i64 off] 3)) c2 (fun f => f)
  have b2 := heap_alloc_last (w0.alloc (.cells #[.int .i64 off] 3)) (.cells #[.slice ad n c] 39)
  rw [World.size_alloc] at b2
  have H1 : Hid (((w0.alloc (.cells #[.int .i64 off] 3)).alloc (.cells #[.slice ad n c] 39)).heap[w0.heap.size]? = some (.cells #[.int .i64 off] 3 (0, 0)) ∧ ((w0.alloc (.cells #[.int .i64 off] 3)).alloc (.cells #[.slice ad n c] 39)).heap[w0.heap.size + 1]? = some (.cells #[.slice ad n c] 39 (0, 0)) ∧ Chg (fun _ => False) w0 ((w0.alloc (.cells #[.int .i64 off] 3)).alloc (.cells #[.slice ad n c] 39))) := ⟨b1, b2, chg_then c1 c2⟩
  obtain ⟨N, hN⟩ : ∃ N, w0.heap.size = N := ⟨_, rfl⟩
  rw [hN] at H1
  have HSR : Hid _ := search_any n (fun i => decide (off < Ix23.ssum (l.take (i + 1)))) N (N + 1) ((w0.alloc (.cells #[.int .i64 off] 3)).alloc (.cells #[.slice ad n c] 39)) hn (fun i j hij hj he => by
    have h9 := ssum_mono hs (i := i + 1) (j + 1) (by omega)
    simp only [decide_eq_true_eq] at he ⊢
    omega) (fun i w hi hw => find1_any off frm ad n c N (N + 1) i l w (blk_keep H1.out.1 hw (fun f => f)) (blk_keep H1.out.2.1 hw (fun f => f)) (h.new (chg_then H1.out.2.2 hw)) hi hn hr h0 h1 ⟨o0, o1⟩)
  have HH : Hid (∀ (k : Nat) (p : Plc), (Ix23.placeL frm 0 l)[k]? = some p → Ix23.hit off p = true → Ix23.findI 0 off (Ix23.placeL frm 0 l) = (k : Int)) := fun k p hp hh => by
    have h9 := (Ix23.find_hit off 0 frm 0 l k p hs hp hh).1
    rw [Nat.zero_add] at h9
    exact h9
  have HMO : Hid (∀ i j, i ≤ j → Ix23.ssum (l.take i) ≤ Ix23.ssum (l.take j)) := fun i j hij => ssum_mono hs j hij
  have HLL : Hid (l.length = n) := hll
  have x0 := one0 H1.out.1
  have x1 := one0 H1.out.2.1
  clear hll hs hr h0 h1 h hn c1 c2 b1 b2
  go_enter Tryd.func15, Tryd.ntmps15
  go_upto_region 1 with fail
  try rw [hN]
  generalize (w0.alloc (.cells #[.int .i64 off] 3)).alloc (.cells #[.slice ad n c] 39) = w1 at *
  clear hN
  go_wp2_with fail
  refine Calls.mono HSR.out ?_
  rintro z w2 ⟨r, rfl, hrn, hlo, hhi, c2⟩
  have H2 : Hid (Chg (fun _ => False) w0 w2 ∧ r ≤ n ∧ (∀ x, x < r → Ix23.ssum (l.take (x + 1)) ≤ off)) := ⟨chg_then H1.out.2.2 c2, hrn, fun x hx => by have h9 := hlo x hx; simpa using h9⟩
  have HHI : Hid (r < n → off < Ix23.ssum (l.take (r + 1))) := fun hx => by have h9 := hhi hx; simpa using h9
  have x0 := one0 (blk_keep H1.out.1 c2 (fun f => f))
  have x1 := one0 (blk_keep H1.out.2.1 c2 (fun f => f))
  have HNH : Hid (∀ (k : Nat) (p : Plc), k < r → (Ix23.placeL frm 0 l)[k]? = some p → Ix23.hit off p = false) := fun k p hk hp => by
    obtain ⟨q, b, o, hq, _, _, _, hp2, g1, g2, g3⟩ := HKN.out w2 k H2.out.1 (by have := H2.out.2.1; omega)
    rw [hp] at hp2
    simp only [Option.some.injEq] at hp2
    have h9 := H2.out.2.2 k hk
    rw [ssum_next hq] at h9
    rw [← Bool.not_eq_true, Ix23.hit_is, hp2]
    simp only
    omega
  clear hlo hhi c2 HSR H1
  have hri : (r : Int) ≤ (n : Int) := by omega
  by_cases he : r = n
  · subst he
    have HE : Hid (Ix23.findI 0 off (Ix23.placeL frm 0 l) = -1) := find_none off 0 _ (fun p hp => by
      obtain ⟨k, hk⟩ := List.mem_iff_getElem?.1 hp
      have hkl := (List.getElem?_eq_some_iff.1 hk).1
      rw [Ix23.placeL_len, HLL.out] at hkl
      exact HNH.out k p hkl hk)
    have y1 : ((r : Int) == (r : Int)) = true := by simp
    go_upto_region 2 with fail
    go_quiet (fail)
    go_wp2
    go_ret
    exact ⟨by rw [HE.out]; rfl, chg_then H2.out.1 (chg_drewN _ _)⟩
  · have hlt : r < n := by omega
    have y1 : ((r : Int) == (n : Int)) = false := by rw [beq_eq_false_iff_ne]; omega
    have y2 : decide ((r : Int) = (n : Int)) = false := decide_eq_false (by omega)
    have d1 : decide ((r : Int) < (n : Int)) = true := decide_eq_true (by omega)
    obtain ⟨q, b, o, hq, rfl, z2, z3, hp, g1, g2, g3⟩ := HKN.out w2 r H2.out.1 hlt
    have hh := HHI.out hlt
    rw [ssum_next hq] at hh
    obtain ⟨st, hst⟩ : ∃ x, Ix23.ssum (l.take r) = x := ⟨_, rfl⟩
    rw [hst] at z3 hp g2 g3 hh
    have hri2 : (r : Int) ≤ 8796093022208 := by omega
    by_cases hof : off < st
    · have d2 : decide (off < st) = true := decide_eq_true hof
      have HE : Hid (Ix23.findI 0 off (Ix23.placeL frm 0 l) = -1) := find_none off 0 _ (fun p hp9 => by
        obtain ⟨k, hk⟩ := List.mem_iff_getElem?.1 hp9
        have hkl := (List.getElem?_eq_some_iff.1 hk).1
        rw [Ix23.placeL_len, HLL.out] at hkl
        by_cases hkr : k < r
        · exact HNH.out k p hkr hk
        · obtain ⟨q9, b9, o9, hq9, _, _, _, hp9, e1, e2, e3⟩ := HKN.out w2 k H2.out.1 hkl
          rw [hk] at hp9
          simp only [Option.some.injEq] at hp9
          have h9 := HMO.out r k (by omega)
          rw [hst] at h9
          rw [← Bool.not_eq_true, Ix23.hit_is, hp9]
          simp only
          omega)
      clear hq hp g1 g2 g3 hh hst
      go_upto_region 2 with fail
      go_quiet (fail)
      go_wp2
      go_ret
      exact ⟨by rw [HE.out]; rfl, chg_then H2.out.1 (chg_drewN _ _)⟩
    · have d2 : decide (off < st) = false := decide_eq_false hof
      have HE : Hid (Ix23.findI 0 off (Ix23.placeL frm 0 l) = (r : Int)) := HH.out r _ hp (by
        rw [Ix23.hit_is]
        simp only
        omega)
      clear hq hp g1 g2 g3 hh hst
      go_upto_region 2 with fail
      go_quiet (fail)
      go_wp2
      go_ret
      exact ⟨by rw [HE.out]; rfl, chg_then H2.out.1 (chg_drewN _ _)⟩
end Go.Proofs.YtehfcfpbjenmjaaDoor
