/- Rows made: the contract of the law's made; of no statement by itself. -/
import Derived.Test.YtibgjpifmpljkaaMade
import Derived.Test.YtibgjpifmpljkaaBoundC
namespace Go.Proofs.Ytibgjpifmpljkaa
open Go.RowKit
set_option linter.unusedVariables false

/-- A list of numbers in memory. -/
def IntsL (w : World) (a : Option Addr) (l : List Int) : Prop := ∀ (k : Nat) (i : Int), l[k]? = some i → ∃ b off, a = some ⟨b, off, none⟩ ∧ w.cell? ⟨b, off + k, none⟩ = some (.int .i64 i)
theorem IntsL.new {w w' : World} {a : Option Addr} {l : List Int} (h : IntsL w a l) (hc : Chg (fun _ => False) w w') : IntsL w' a l := fun k i hk => by
  obtain ⟨b, off, e, h1⟩ := h k i hk
  exact ⟨b, off, e, cell_chg h1 hc⟩
/-- How many probabilities the rows have. -/
def clip (n : Int) : Nat := if n < 0 ∨ 4096 < n then 4096 else n.toNat
def rowLens (l : List Int) : List Nat := if l = [] then [8] else l.map clip
theorem clip_le (n : Int) : clip n ≤ 4096 := by unfold clip; split <;> omega
theorem rowLens_le (l : List Int) : ∀ m ∈ rowLens l, m ≤ 4096 := fun m hm => by
  unfold rowLens at hm
  split at hm
  · simp at hm; omega
  · obtain ⟨n, _, rfl⟩ := List.mem_map.1 hm
    exact clip_le n
def fresh (l : List Nat) : List (List Int) := l.map fun m => List.replicate m 1024
theorem play_nil (w : World) : Play w (w.alloc (.cells #[.slice none 0 0, .slice none 0 0] 58)) w.heap.size (.slice none 0 0) (.slice none 0 0) [] := by
  exact ⟨chg_one w _, Nat.le_refl _, heap_alloc_last w _, World.ownsRow_nil _ _ _ _, World.ownsRow_nil _ _ _ _, fun i h => by simp at h, fun i j h => by simp at h⟩
structure Mk (w0 wr : World) (P : Nat) (av bv : Value) (its : List It) (ls : List Nat) (i : Nat) : Prop where
  play : Play w0 wr P av bv its
  xs : its.map It.xs = fresh (ls.take i)

set_option maxHeartbeats 8000000 in
set_option maxRecDepth 100000 in
theorem made_any (al : Option Addr) (Z cl : Nat) (l : List Int) (w0 : World) (hI : IntsL w0 al l) (hZ : l.length = Z) (hZ2 : Z ≤ 17592186043904) : Calls Try.prog 22 #[.slice al Z cl] w0 fun e w' => ∃ P av bv its, e = .returned (.tuple #[.pointer (some ⟨P, 0, none⟩), .bool true]) ∧ Play w0 w' P av bv its ∧ its.map It.xs = fresh (rowLens l) := by
  have HIN : Hid (IntsL w0 al l) := hI
  have HZL : Hid (l.length = Z) := hZ
  obtain ⟨ls, hls⟩ : ∃ ls, rowLens l = ls := ⟨_, rfl⟩
  have HLS : Hid (rowLens l = ls) := hls
  obtain ⟨Y, hY⟩ : ∃ Y, ls.length = Y := ⟨_, rfl⟩
  have HT : Hid (ls.length = Y) := hY
  have hYZ : Y = if Z = 0 then 1 else Z := by
    rw [← hY, ← hls, ← hZ]
    unfold rowLens
    cases l with
    | nil => simp
    | cons a b => simp
  have hY40 : Y ≤ 17592186043904 := by rw [hYZ]; split <;> omega
  rw [hls]
  clear hI hZ hY hls
  have HP0 : Hid (Play w0 (w0.alloc (.cells #[.slice none 0 0, .slice none 0 0] 58)) w0.heap.size (.slice none 0 0) (.slice none 0 0) []) := play_nil w0
  go_enter Try.func22, Try.ntmps22
  go_wp2_with fail
  generalize w0.alloc (.cells #[.slice none 0 0, .slice none 0 0] 58) = w1 at *
  obtain ⟨P, hP⟩ : ∃ P, w0.heap.size = P := ⟨_, rfl⟩
  have HP1 : Hid (Play w0 w1 P (.slice none 0 0) (.slice none 0 0) []) := by show Play _ _ _ _ _ _; rw [← hP]; exact HP0.out
  rw [hP]
  clear HP0 hP
  go_loopw [5] (fun iv wr => ∃ (i : Nat) (av bv : Value) (its : List It), i ≤ Y ∧ iv = .int .i64 (i : Int) ∧ Hid (Mk w0 wr P av bv its ls i)) (fun iv _ => Y - (intOf iv).toNat)
  case atStart => exact ⟨0, _, _, _, Nat.zero_le _, rfl, HP1.out, by simp [fresh]⟩
  case round =>
    clear HP1
    obtain ⟨i, av, bv, its, hiY, rfl, HPM⟩ := hrel
    by_cases hlt : i < Y
    · obtain ⟨m, hm0⟩ : ∃ m, ls[i]? = some m := ⟨_, List.getElem?_eq_getElem (by rw [HT.out]; exact hlt)⟩
      have hm : m ≤ 1048576 := by have := rowLens_le l m (by rw [HLS.out]; exact List.mem_of_getElem? hm0); omega
      have HMI : Hid (ls[i]? = some m) := hm0
      obtain ⟨i0, hi, hz0, hz1, hz2⟩ := info_parts infoPS
      obtain ⟨i1, hi', hz0', hz1', hz2'⟩ := info_parts infoPR
      have hil : its.length = i := by
        have h := congrArg List.length HPM.out.xs
        unfold fresh at h
        rw [List.length_map, List.length_map, List.length_take, HT.out] at h
        omega
      have hn : its.length ≤ 17592186043904 := by omega
      have HIL : Hid (its.length = i) := hil
      clear hil
      have HPL : Hid (Play w0 wr P av bv its) := HPM.out.play
      have HMX : Hid (its.map It.xs = fresh (ls.take i)) := HPM.out.xs
      clear HPM
      by_cases hz : Z = 0
      · have hi0 : i = 0 := by rw [if_pos hz] at hYZ; omega
        have hl0 : l = [] := List.length_eq_zero_iff.1 (by rw [HZL.out]; exact hz)
        have hm8 : m = 8 := by
          have h8 := HLS.out
          unfold rowLens at h8
          rw [if_pos hl0] at h8
          rw [← h8, hi0] at hm0
          simp at hm0
          omega
        subst hm8
        have hd00 : ((i : Int) == 0) = true := by simp; omega
        have hdi : decide ((i : Int) < (Z : Int)) = false := by simp; omega
        have hdin : decide (i < Z) = false := by simp; omega
        clear hm0 hl0 hz hi0 hYZ
        go_wp2_with fail
        refine (new_in 8 _ hm).mono ?_
        rintro e w1 ⟨a, v, rfl, ha, h1, c1⟩
        go_wp2_with fail
        refine (rnew_in 8 _ hm).mono ?_
        rintro e w2 ⟨r, u, rfl, hr, h2, c2⟩
        have HP2 := HPL.out.new (chg_then c1 c2)
        have HC12 : Hid (Chg (fun _ => False) wr w2) := chg_then c1 c2
        have HS : Hid (St w2 wr.heap.size a v (List.replicate 8 1024)) := h1.new c2
        have HR : Hid (Rt w2 w1.heap.size r (8 : Int) u (List.replicate 8 1024)) := h2
        have hs1 : wr.heap.size ≤ w1.heap.size := c1.size
        have T2 := HP2.two
        have hs0 : w0.heap.size ≤ wr.heap.size := HPL.out.chg.size
        have hs2 : w0.heap.size ≤ w2.heap.size := HP2.chg.size
        clear c1 c2 h1 h2 HP2
        have hLa : (its.map ptrA).length = its.length := by simp
        have hLb : (its.map ptrR).length = its.length := by simp
        obtain ⟨aad, acap, hav, _⟩ := own_any T2.ra
        obtain ⟨bad, bcap, hbv, _⟩ := own_any T2.rb
        have HT2 : Hid (Two w0 w2 P av bv (its.map ptrA) (its.map ptrR)) := T2
        have HAV : Hid (av = .slice aad (its.map ptrA).length acap) := hav
        have HBV : Hid (bv = .slice bad (its.map ptrR).length bcap) := hbv
        rw [hav] at T2
        have pa := cell0 T2.pair
        have la := lt_of_blk T2.pair
        have hra := T2.ra.alloc (.cells #[.pointer (some ⟨a, 0, none⟩)] 23)
        clear T2 hav hbv
        generalize hLA : its.map ptrA = LA at *
        generalize hLB : its.map ptrR = LB at *
        have HLA : Hid (its.map ptrA = LA) := hLA
        have HLB : Hid (its.map ptrR = LB) := hLB
        clear hLA hLB
        rw [hLa] at *
        rw [hLb] at *
        clear hLa hLb
        have HA : Hid (LA.length = its.length) := by show _ = _; rw [← HLA.out]; simp
        have HB : Hid (LB.length = its.length) := by show _ = _; rw [← HLB.out]; simp
        have hfr1 := from_one w2 (.pointer (some ⟨a, 0, none⟩)) 23
        have ho1 := one_ptr (.pointer (some ⟨a, 0, none⟩)) rfl
        have hsz1 : w0.heap.size ≤ (w2.alloc (.cells #[.pointer (some ⟨a, 0, none⟩)] 23)).heap.size := by simp; omega
        go_wp2_with (at_builtin; refine wpList_append_moved rfl _ _ 55 rfl w0.heap.size 23 i0 (.pointer none) 1 8 Try.underlying55 hi hz0 hz1 hz2 rfl (by decide) _ its.length LA rfl (some ⟨w2.heap.size, 0, none⟩) 1 1 rfl [.pointer (some ⟨a, 0, none⟩)] hra hfr1 ho1 (by unfold maxLen; omega) (by omega) hsz1 ?_)
        intro v3 w3 ho3 hg3 hm3
        rw [← HAV.out] at hg3
        obtain ⟨hp3, T4, c4⟩ := HT2.out.a (chg_one w2 (.cells #[.pointer (some ⟨a, 0, none⟩)] 23)) (by rw [HA.out]; exact ho3) hg3
        obtain ⟨ad3, cap3, hv3, _⟩ := own_any ho3
        have HV3 : Hid (v3 = .slice ad3 (its.length + 1) cap3) := hv3
        have HT4 : Hid (Two w0 (w3.setCell ⟨P, 0, none⟩ v3) P v3 bv (LA ++ [.pointer (some ⟨a, 0, none⟩)]) LB) := T4
        have HC4 : Hid (Chg (Grows P av bv) w2 (w3.setCell ⟨P, 0, none⟩ v3)) := c4
        have hs4 : w0.heap.size ≤ (w3.setCell ⟨P, 0, none⟩ v3).heap.size := by have := c4.size; omega
        have p0 : w3.cell? ⟨P, 0, none⟩ = some av := cell0 hp3
        have f0 : w3.frozen? ⟨P, 0, none⟩ = false := free0 hp3
        have p1 : w3.cell? ⟨P, 1, none⟩ = some bv := cell1 hp3
        rw [HBV.out] at T4 p1
        have q1 := cell1 T4.pair
        have hrb := T4.rb.alloc (.cells #[.pointer (some ⟨r, 0, none⟩)] 83)
        have hfr2 : From ((w3.setCell ⟨P, 0, none⟩ v3).alloc (.cells #[.pointer (some ⟨r, 0, none⟩)] 83)) (some ⟨w3.heap.size, 0, none⟩) 1 1 1 [.pointer (some ⟨r, 0, none⟩)] := from_set w3 P v3 _ _
        have ho2 := one_ptr (.pointer (some ⟨r, 0, none⟩)) rfl
        have hsz2 : w0.heap.size ≤ ((w3.setCell ⟨P, 0, none⟩ v3).alloc (.cells #[.pointer (some ⟨r, 0, none⟩)] 83)).heap.size := by have := (chg_one (w3.setCell ⟨P, 0, none⟩ v3) (.cells #[.pointer (some ⟨r, 0, none⟩)] 83)).size; omega
        rw [HB.out] at hrb
        subst hv3
        clear ho3 hg3 hm3 T4 c4 hra hfr1 ho1 hsz1 pa la hp3
        go_wp2_with (at_builtin; refine wpList_append_moved rfl _ _ 56 rfl w0.heap.size 83 i1 (.pointer none) 1 8 Try.underlying56 hi' hz0' hz1' hz2' rfl (by decide) _ its.length LB rfl _ 1 1 rfl [.pointer (some ⟨r, 0, none⟩)] hrb hfr2 ho2 (by unfold maxLen; omega) (by omega) hsz2 ?_)
        intro v5 w5 ho5 hg5 hm5
        rw [← HBV.out] at hg5
        obtain ⟨hp5, T6, c6⟩ := HT4.out.b (chg_one (w3.setCell ⟨P, 0, none⟩ (.slice ad3 (its.length + 1) cap3)) (.cells #[.pointer (some ⟨r, 0, none⟩)] 83)) (by rw [HB.out]; exact ho5) hg5
        obtain ⟨ad5, cap5, hv5, _⟩ := own_any ho5
        have p0' := cell0 hp5
        have p1' := cell1 hp5
        have f1' := free1 hp5
        have HT6 : Hid (Two w0 (w5.setCell ⟨P, 1, none⟩ v5) P (.slice ad3 (its.length + 1) cap3) v5 (LA ++ [.pointer (some ⟨a, 0, none⟩)]) (LB ++ [.pointer (some ⟨r, 0, none⟩)])) := T6
        have HC6 : Hid (Chg (Grows P av bv) w2 (w5.setCell ⟨P, 1, none⟩ v5)) := HC4.out.trans c6 (fun i e => .inl (by
          rcases e with e | e
          · exact .inl e
          · exact .inr (.inr e)))
        subst hv5
        clear ho5 hg5 hm5 T6 c6 hrb hfr2 ho2 hsz2 hp5 HT4 HC4 p0 f0 p1 q1 hs4
        go_wp2_with fail
        go_roundw
        case rel =>
          refine ⟨i + 1, _, _, its ++ [⟨a, r, v, (8 : Int), u, List.replicate 8 1024⟩], by omega, by go_num, ⟨HPL.out.push HC12.out ⟨⟨by show w0.heap.size ≤ a; omega, HS.out.blk, owns_base HS.out.own hs0⟩, ⟨by show w0.heap.size ≤ r; omega, HR.out.blk, owns_base HR.out.own (by omega)⟩, In.half 8, by rw [List.length_replicate]; exact hm⟩ ha (by show wr.heap.size ≤ r; omega) (fun g e => (HS.out.own.lt g e).1) (fun g e => by have := (HR.out.own.lt g e).1; omega) HC6.out HT6.out.pair ?_ ?_, ?_⟩⟩
          · have h := HT6.out.ra
            rw [List.length_append, HA.out] at h
            rw [HLA.out]
            exact h
          · have h := HT6.out.rb
            rw [List.length_append, HB.out] at h
            rw [HLB.out]
            exact h
          · rw [List.map_append, HMX.out, List.take_add_one, HMI.out]
            unfold fresh
            rw [List.map_append]
            rfl
        case measure => simp [intOf]; omega
      · rw [if_neg hz] at hYZ
        subst hYZ
        obtain ⟨q, hq⟩ : ∃ q, l[i]? = some q := ⟨_, List.getElem?_eq_getElem (by rw [HZL.out]; exact hlt)⟩
        obtain ⟨b, off, rfl, hcell⟩ := HIN.out i q hq
        have hcell := cell_chg hcell HPL.out.chg
        have hmq : m = clip q := by
          have h8 := HLS.out
          unfold rowLens at h8
          rw [if_neg (fun f => hz (by rw [← HZL.out, f]; rfl))] at h8
          rw [← h8, List.getElem?_map, hq] at hm0
          simpa using hm0.symm
        clear hq hm0
        unfold clip at hmq
        by_cases hq0 : q < 0
        · rw [if_pos (.inl hq0)] at hmq
          subst hmq
          have hd0 : decide (q < 0) = true := by simp; omega
          have hdi : decide ((i : Int) < (Y : Int)) = true := by simp; omega
          go_wp2_with fail
          refine (new_in 4096 _ hm).mono ?_
          rintro e w1 ⟨a, v, rfl, ha, h1, c1⟩
          go_wp2_with fail
          refine (rnew_in 4096 _ hm).mono ?_
          rintro e w2 ⟨r, u, rfl, hr, h2, c2⟩
          have HP2 := HPL.out.new (chg_then c1 c2)
          have HC12 : Hid (Chg (fun _ => False) wr w2) := chg_then c1 c2
          have HS : Hid (St w2 wr.heap.size a v (List.replicate 4096 1024)) := h1.new c2
          have HR : Hid (Rt w2 w1.heap.size r (4096 : Int) u (List.replicate 4096 1024)) := h2
          have hs1 : wr.heap.size ≤ w1.heap.size := c1.size
          have T2 := HP2.two
          have hs0 : w0.heap.size ≤ wr.heap.size := HPL.out.chg.size
          have hs2 : w0.heap.size ≤ w2.heap.size := HP2.chg.size
          clear c1 c2 h1 h2 HP2
          have hLa : (its.map ptrA).length = its.length := by simp
          have hLb : (its.map ptrR).length = its.length := by simp
          obtain ⟨aad, acap, hav, _⟩ := own_any T2.ra
          obtain ⟨bad, bcap, hbv, _⟩ := own_any T2.rb
          have HT2 : Hid (Two w0 w2 P av bv (its.map ptrA) (its.map ptrR)) := T2
          have HAV : Hid (av = .slice aad (its.map ptrA).length acap) := hav
          have HBV : Hid (bv = .slice bad (its.map ptrR).length bcap) := hbv
          rw [hav] at T2
          have pa := cell0 T2.pair
          have la := lt_of_blk T2.pair
          have hra := T2.ra.alloc (.cells #[.pointer (some ⟨a, 0, none⟩)] 23)
          clear T2 hav hbv
          generalize hLA : its.map ptrA = LA at *
          generalize hLB : its.map ptrR = LB at *
          have HLA : Hid (its.map ptrA = LA) := hLA
          have HLB : Hid (its.map ptrR = LB) := hLB
          clear hLA hLB
          rw [hLa] at *
          rw [hLb] at *
          clear hLa hLb
          have HA : Hid (LA.length = its.length) := by show _ = _; rw [← HLA.out]; simp
          have HB : Hid (LB.length = its.length) := by show _ = _; rw [← HLB.out]; simp
          have hfr1 := from_one w2 (.pointer (some ⟨a, 0, none⟩)) 23
          have ho1 := one_ptr (.pointer (some ⟨a, 0, none⟩)) rfl
          have hsz1 : w0.heap.size ≤ (w2.alloc (.cells #[.pointer (some ⟨a, 0, none⟩)] 23)).heap.size := by simp; omega
          go_wp2_with (at_builtin; refine wpList_append_moved rfl _ _ 55 rfl w0.heap.size 23 i0 (.pointer none) 1 8 Try.underlying55 hi hz0 hz1 hz2 rfl (by decide) _ its.length LA rfl (some ⟨w2.heap.size, 0, none⟩) 1 1 rfl [.pointer (some ⟨a, 0, none⟩)] hra hfr1 ho1 (by unfold maxLen; omega) (by omega) hsz1 ?_)
          intro v3 w3 ho3 hg3 hm3
          rw [← HAV.out] at hg3
          obtain ⟨hp3, T4, c4⟩ := HT2.out.a (chg_one w2 (.cells #[.pointer (some ⟨a, 0, none⟩)] 23)) (by rw [HA.out]; exact ho3) hg3
          obtain ⟨ad3, cap3, hv3, _⟩ := own_any ho3
          have HV3 : Hid (v3 = .slice ad3 (its.length + 1) cap3) := hv3
          have HT4 : Hid (Two w0 (w3.setCell ⟨P, 0, none⟩ v3) P v3 bv (LA ++ [.pointer (some ⟨a, 0, none⟩)]) LB) := T4
          have HC4 : Hid (Chg (Grows P av bv) w2 (w3.setCell ⟨P, 0, none⟩ v3)) := c4
          have hs4 : w0.heap.size ≤ (w3.setCell ⟨P, 0, none⟩ v3).heap.size := by have := c4.size; omega
          have p0 : w3.cell? ⟨P, 0, none⟩ = some av := cell0 hp3
          have f0 : w3.frozen? ⟨P, 0, none⟩ = false := free0 hp3
          have p1 : w3.cell? ⟨P, 1, none⟩ = some bv := cell1 hp3
          rw [HBV.out] at T4 p1
          have q1 := cell1 T4.pair
          have hrb := T4.rb.alloc (.cells #[.pointer (some ⟨r, 0, none⟩)] 83)
          have hfr2 : From ((w3.setCell ⟨P, 0, none⟩ v3).alloc (.cells #[.pointer (some ⟨r, 0, none⟩)] 83)) (some ⟨w3.heap.size, 0, none⟩) 1 1 1 [.pointer (some ⟨r, 0, none⟩)] := from_set w3 P v3 _ _
          have ho2 := one_ptr (.pointer (some ⟨r, 0, none⟩)) rfl
          have hsz2 : w0.heap.size ≤ ((w3.setCell ⟨P, 0, none⟩ v3).alloc (.cells #[.pointer (some ⟨r, 0, none⟩)] 83)).heap.size := by have := (chg_one (w3.setCell ⟨P, 0, none⟩ v3) (.cells #[.pointer (some ⟨r, 0, none⟩)] 83)).size; omega
          rw [HB.out] at hrb
          subst hv3
          clear ho3 hg3 hm3 T4 c4 hra hfr1 ho1 hsz1 pa la hp3
          go_wp2_with (at_builtin; refine wpList_append_moved rfl _ _ 56 rfl w0.heap.size 83 i1 (.pointer none) 1 8 Try.underlying56 hi' hz0' hz1' hz2' rfl (by decide) _ its.length LB rfl _ 1 1 rfl [.pointer (some ⟨r, 0, none⟩)] hrb hfr2 ho2 (by unfold maxLen; omega) (by omega) hsz2 ?_)
          intro v5 w5 ho5 hg5 hm5
          rw [← HBV.out] at hg5
          obtain ⟨hp5, T6, c6⟩ := HT4.out.b (chg_one (w3.setCell ⟨P, 0, none⟩ (.slice ad3 (its.length + 1) cap3)) (.cells #[.pointer (some ⟨r, 0, none⟩)] 83)) (by rw [HB.out]; exact ho5) hg5
          obtain ⟨ad5, cap5, hv5, _⟩ := own_any ho5
          have p0' := cell0 hp5
          have p1' := cell1 hp5
          have f1' := free1 hp5
          have HT6 : Hid (Two w0 (w5.setCell ⟨P, 1, none⟩ v5) P (.slice ad3 (its.length + 1) cap3) v5 (LA ++ [.pointer (some ⟨a, 0, none⟩)]) (LB ++ [.pointer (some ⟨r, 0, none⟩)])) := T6
          have HC6 : Hid (Chg (Grows P av bv) w2 (w5.setCell ⟨P, 1, none⟩ v5)) := HC4.out.trans c6 (fun i e => .inl (by
            rcases e with e | e
            · exact .inl e
            · exact .inr (.inr e)))
          subst hv5
          clear ho5 hg5 hm5 T6 c6 hrb hfr2 ho2 hsz2 hp5 HT4 HC4 p0 f0 p1 q1 hs4
          go_wp2_with fail
          go_roundw
          case rel =>
            refine ⟨i + 1, _, _, its ++ [⟨a, r, v, (4096 : Int), u, List.replicate 4096 1024⟩], by omega, by go_num, ⟨HPL.out.push HC12.out ⟨⟨by show w0.heap.size ≤ a; omega, HS.out.blk, owns_base HS.out.own hs0⟩, ⟨by show w0.heap.size ≤ r; omega, HR.out.blk, owns_base HR.out.own (by omega)⟩, In.half 4096, by rw [List.length_replicate]; exact hm⟩ ha (by show wr.heap.size ≤ r; omega) (fun g e => (HS.out.own.lt g e).1) (fun g e => by have := (HR.out.own.lt g e).1; omega) HC6.out HT6.out.pair ?_ ?_, ?_⟩⟩
            · have h := HT6.out.ra
              rw [List.length_append, HA.out] at h
              rw [HLA.out]
              exact h
            · have h := HT6.out.rb
              rw [List.length_append, HB.out] at h
              rw [HLB.out]
              exact h
            · rw [List.map_append, HMX.out, List.take_add_one, HMI.out]
              unfold fresh
              rw [List.map_append]
              rfl
          case measure => simp [intOf]; omega
        · have hd0 : decide (q < 0) = false := by simp; omega
          by_cases hq4 : 4096 < q
          · rw [if_pos (.inr hq4)] at hmq
            subst hmq
            have hd4 : decide (4096 < q) = true := by simp; omega
            have hdi : decide ((i : Int) < (Y : Int)) = true := by simp; omega
            go_wp2_with fail
            refine (new_in 4096 _ hm).mono ?_
            rintro e w1 ⟨a, v, rfl, ha, h1, c1⟩
            go_wp2_with fail
            refine (rnew_in 4096 _ hm).mono ?_
            rintro e w2 ⟨r, u, rfl, hr, h2, c2⟩
            have HP2 := HPL.out.new (chg_then c1 c2)
            have HC12 : Hid (Chg (fun _ => False) wr w2) := chg_then c1 c2
            have HS : Hid (St w2 wr.heap.size a v (List.replicate 4096 1024)) := h1.new c2
            have HR : Hid (Rt w2 w1.heap.size r (4096 : Int) u (List.replicate 4096 1024)) := h2
            have hs1 : wr.heap.size ≤ w1.heap.size := c1.size
            have T2 := HP2.two
            have hs0 : w0.heap.size ≤ wr.heap.size := HPL.out.chg.size
            have hs2 : w0.heap.size ≤ w2.heap.size := HP2.chg.size
            clear c1 c2 h1 h2 HP2
            have hLa : (its.map ptrA).length = its.length := by simp
            have hLb : (its.map ptrR).length = its.length := by simp
            obtain ⟨aad, acap, hav, _⟩ := own_any T2.ra
            obtain ⟨bad, bcap, hbv, _⟩ := own_any T2.rb
            have HT2 : Hid (Two w0 w2 P av bv (its.map ptrA) (its.map ptrR)) := T2
            have HAV : Hid (av = .slice aad (its.map ptrA).length acap) := hav
            have HBV : Hid (bv = .slice bad (its.map ptrR).length bcap) := hbv
            rw [hav] at T2
            have pa := cell0 T2.pair
            have la := lt_of_blk T2.pair
            have hra := T2.ra.alloc (.cells #[.pointer (some ⟨a, 0, none⟩)] 23)
            clear T2 hav hbv
            generalize hLA : its.map ptrA = LA at *
            generalize hLB : its.map ptrR = LB at *
            have HLA : Hid (its.map ptrA = LA) := hLA
            have HLB : Hid (its.map ptrR = LB) := hLB
            clear hLA hLB
            rw [hLa] at *
            rw [hLb] at *
            clear hLa hLb
            have HA : Hid (LA.length = its.length) := by show _ = _; rw [← HLA.out]; simp
            have HB : Hid (LB.length = its.length) := by show _ = _; rw [← HLB.out]; simp
            have hfr1 := from_one w2 (.pointer (some ⟨a, 0, none⟩)) 23
            have ho1 := one_ptr (.pointer (some ⟨a, 0, none⟩)) rfl
            have hsz1 : w0.heap.size ≤ (w2.alloc (.cells #[.pointer (some ⟨a, 0, none⟩)] 23)).heap.size := by simp; omega
            go_wp2_with (at_builtin; refine wpList_append_moved rfl _ _ 55 rfl w0.heap.size 23 i0 (.pointer none) 1 8 Try.underlying55 hi hz0 hz1 hz2 rfl (by decide) _ its.length LA rfl (some ⟨w2.heap.size, 0, none⟩) 1 1 rfl [.pointer (some ⟨a, 0, none⟩)] hra hfr1 ho1 (by unfold maxLen; omega) (by omega) hsz1 ?_)
            intro v3 w3 ho3 hg3 hm3
            rw [← HAV.out] at hg3
            obtain ⟨hp3, T4, c4⟩ := HT2.out.a (chg_one w2 (.cells #[.pointer (some ⟨a, 0, none⟩)] 23)) (by rw [HA.out]; exact ho3) hg3
            obtain ⟨ad3, cap3, hv3, _⟩ := own_any ho3
            have HV3 : Hid (v3 = .slice ad3 (its.length + 1) cap3) := hv3
            have HT4 : Hid (Two w0 (w3.setCell ⟨P, 0, none⟩ v3) P v3 bv (LA ++ [.pointer (some ⟨a, 0, none⟩)]) LB) := T4
            have HC4 : Hid (Chg (Grows P av bv) w2 (w3.setCell ⟨P, 0, none⟩ v3)) := c4
            have hs4 : w0.heap.size ≤ (w3.setCell ⟨P, 0, none⟩ v3).heap.size := by have := c4.size; omega
            have p0 : w3.cell? ⟨P, 0, none⟩ = some av := cell0 hp3
            have f0 : w3.frozen? ⟨P, 0, none⟩ = false := free0 hp3
            have p1 : w3.cell? ⟨P, 1, none⟩ = some bv := cell1 hp3
            rw [HBV.out] at T4 p1
            have q1 := cell1 T4.pair
            have hrb := T4.rb.alloc (.cells #[.pointer (some ⟨r, 0, none⟩)] 83)
            have hfr2 : From ((w3.setCell ⟨P, 0, none⟩ v3).alloc (.cells #[.pointer (some ⟨r, 0, none⟩)] 83)) (some ⟨w3.heap.size, 0, none⟩) 1 1 1 [.pointer (some ⟨r, 0, none⟩)] := from_set w3 P v3 _ _
            have ho2 := one_ptr (.pointer (some ⟨r, 0, none⟩)) rfl
            have hsz2 : w0.heap.size ≤ ((w3.setCell ⟨P, 0, none⟩ v3).alloc (.cells #[.pointer (some ⟨r, 0, none⟩)] 83)).heap.size := by have := (chg_one (w3.setCell ⟨P, 0, none⟩ v3) (.cells #[.pointer (some ⟨r, 0, none⟩)] 83)).size; omega
            rw [HB.out] at hrb
            subst hv3
            clear ho3 hg3 hm3 T4 c4 hra hfr1 ho1 hsz1 pa la hp3
            go_wp2_with (at_builtin; refine wpList_append_moved rfl _ _ 56 rfl w0.heap.size 83 i1 (.pointer none) 1 8 Try.underlying56 hi' hz0' hz1' hz2' rfl (by decide) _ its.length LB rfl _ 1 1 rfl [.pointer (some ⟨r, 0, none⟩)] hrb hfr2 ho2 (by unfold maxLen; omega) (by omega) hsz2 ?_)
            intro v5 w5 ho5 hg5 hm5
            rw [← HBV.out] at hg5
            obtain ⟨hp5, T6, c6⟩ := HT4.out.b (chg_one (w3.setCell ⟨P, 0, none⟩ (.slice ad3 (its.length + 1) cap3)) (.cells #[.pointer (some ⟨r, 0, none⟩)] 83)) (by rw [HB.out]; exact ho5) hg5
            obtain ⟨ad5, cap5, hv5, _⟩ := own_any ho5
            have p0' := cell0 hp5
            have p1' := cell1 hp5
            have f1' := free1 hp5
            have HT6 : Hid (Two w0 (w5.setCell ⟨P, 1, none⟩ v5) P (.slice ad3 (its.length + 1) cap3) v5 (LA ++ [.pointer (some ⟨a, 0, none⟩)]) (LB ++ [.pointer (some ⟨r, 0, none⟩)])) := T6
            have HC6 : Hid (Chg (Grows P av bv) w2 (w5.setCell ⟨P, 1, none⟩ v5)) := HC4.out.trans c6 (fun i e => .inl (by
              rcases e with e | e
              · exact .inl e
              · exact .inr (.inr e)))
            subst hv5
            clear ho5 hg5 hm5 T6 c6 hrb hfr2 ho2 hsz2 hp5 HT4 HC4 p0 f0 p1 q1 hs4
            go_wp2_with fail
            go_roundw
            case rel =>
              refine ⟨i + 1, _, _, its ++ [⟨a, r, v, (4096 : Int), u, List.replicate 4096 1024⟩], by omega, by go_num, ⟨HPL.out.push HC12.out ⟨⟨by show w0.heap.size ≤ a; omega, HS.out.blk, owns_base HS.out.own hs0⟩, ⟨by show w0.heap.size ≤ r; omega, HR.out.blk, owns_base HR.out.own (by omega)⟩, In.half 4096, by rw [List.length_replicate]; exact hm⟩ ha (by show wr.heap.size ≤ r; omega) (fun g e => (HS.out.own.lt g e).1) (fun g e => by have := (HR.out.own.lt g e).1; omega) HC6.out HT6.out.pair ?_ ?_, ?_⟩⟩
              · have h := HT6.out.ra
                rw [List.length_append, HA.out] at h
                rw [HLA.out]
                exact h
              · have h := HT6.out.rb
                rw [List.length_append, HB.out] at h
                rw [HLB.out]
                exact h
              · rw [List.map_append, HMX.out, List.take_add_one, HMI.out]
                unfold fresh
                rw [List.map_append]
                rfl
            case measure => simp [intOf]; omega
          · rw [if_neg (by omega)] at hmq
            have hd4 : decide (4096 < q) = false := by simp; omega
            obtain ⟨q, rfl⟩ := Int.eq_ofNat_of_zero_le (show 0 ≤ q by omega)
            rw [Int.toNat_natCast] at hmq
            subst hmq
            have hdi : decide ((i : Int) < (Y : Int)) = true := by simp; omega
            go_wp2_with fail
            refine (new_in m _ hm).mono ?_
            rintro e w1 ⟨a, v, rfl, ha, h1, c1⟩
            go_wp2_with fail
            refine (rnew_in m _ hm).mono ?_
            rintro e w2 ⟨r, u, rfl, hr, h2, c2⟩
            have HP2 := HPL.out.new (chg_then c1 c2)
            have HC12 : Hid (Chg (fun _ => False) wr w2) := chg_then c1 c2
            have HS : Hid (St w2 wr.heap.size a v (List.replicate m 1024)) := h1.new c2
            have HR : Hid (Rt w2 w1.heap.size r (m : Int) u (List.replicate m 1024)) := h2
            have hs1 : wr.heap.size ≤ w1.heap.size := c1.size
            have T2 := HP2.two
            have hs0 : w0.heap.size ≤ wr.heap.size := HPL.out.chg.size
            have hs2 : w0.heap.size ≤ w2.heap.size := HP2.chg.size
            clear c1 c2 h1 h2 HP2
            have hLa : (its.map ptrA).length = its.length := by simp
            have hLb : (its.map ptrR).length = its.length := by simp
            obtain ⟨aad, acap, hav, _⟩ := own_any T2.ra
            obtain ⟨bad, bcap, hbv, _⟩ := own_any T2.rb
            have HT2 : Hid (Two w0 w2 P av bv (its.map ptrA) (its.map ptrR)) := T2
            have HAV : Hid (av = .slice aad (its.map ptrA).length acap) := hav
            have HBV : Hid (bv = .slice bad (its.map ptrR).length bcap) := hbv
            rw [hav] at T2
            have pa := cell0 T2.pair
            have la := lt_of_blk T2.pair
            have hra := T2.ra.alloc (.cells #[.pointer (some ⟨a, 0, none⟩)] 23)
            clear T2 hav hbv
            generalize hLA : its.map ptrA = LA at *
            generalize hLB : its.map ptrR = LB at *
            have HLA : Hid (its.map ptrA = LA) := hLA
            have HLB : Hid (its.map ptrR = LB) := hLB
            clear hLA hLB
            rw [hLa] at *
            rw [hLb] at *
            clear hLa hLb
            have HA : Hid (LA.length = its.length) := by show _ = _; rw [← HLA.out]; simp
            have HB : Hid (LB.length = its.length) := by show _ = _; rw [← HLB.out]; simp
            have hfr1 := from_one w2 (.pointer (some ⟨a, 0, none⟩)) 23
            have ho1 := one_ptr (.pointer (some ⟨a, 0, none⟩)) rfl
            have hsz1 : w0.heap.size ≤ (w2.alloc (.cells #[.pointer (some ⟨a, 0, none⟩)] 23)).heap.size := by simp; omega
            go_wp2_with (at_builtin; refine wpList_append_moved rfl _ _ 55 rfl w0.heap.size 23 i0 (.pointer none) 1 8 Try.underlying55 hi hz0 hz1 hz2 rfl (by decide) _ its.length LA rfl (some ⟨w2.heap.size, 0, none⟩) 1 1 rfl [.pointer (some ⟨a, 0, none⟩)] hra hfr1 ho1 (by unfold maxLen; omega) (by omega) hsz1 ?_)
            intro v3 w3 ho3 hg3 hm3
            rw [← HAV.out] at hg3
            obtain ⟨hp3, T4, c4⟩ := HT2.out.a (chg_one w2 (.cells #[.pointer (some ⟨a, 0, none⟩)] 23)) (by rw [HA.out]; exact ho3) hg3
            obtain ⟨ad3, cap3, hv3, _⟩ := own_any ho3
            have HV3 : Hid (v3 = .slice ad3 (its.length + 1) cap3) := hv3
            have HT4 : Hid (Two w0 (w3.setCell ⟨P, 0, none⟩ v3) P v3 bv (LA ++ [.pointer (some ⟨a, 0, none⟩)]) LB) := T4
            have HC4 : Hid (Chg (Grows P av bv) w2 (w3.setCell ⟨P, 0, none⟩ v3)) := c4
            have hs4 : w0.heap.size ≤ (w3.setCell ⟨P, 0, none⟩ v3).heap.size := by have := c4.size; omega
            have p0 : w3.cell? ⟨P, 0, none⟩ = some av := cell0 hp3
            have f0 : w3.frozen? ⟨P, 0, none⟩ = false := free0 hp3
            have p1 : w3.cell? ⟨P, 1, none⟩ = some bv := cell1 hp3
            rw [HBV.out] at T4 p1
            have q1 := cell1 T4.pair
            have hrb := T4.rb.alloc (.cells #[.pointer (some ⟨r, 0, none⟩)] 83)
            have hfr2 : From ((w3.setCell ⟨P, 0, none⟩ v3).alloc (.cells #[.pointer (some ⟨r, 0, none⟩)] 83)) (some ⟨w3.heap.size, 0, none⟩) 1 1 1 [.pointer (some ⟨r, 0, none⟩)] := from_set w3 P v3 _ _
            have ho2 := one_ptr (.pointer (some ⟨r, 0, none⟩)) rfl
            have hsz2 : w0.heap.size ≤ ((w3.setCell ⟨P, 0, none⟩ v3).alloc (.cells #[.pointer (some ⟨r, 0, none⟩)] 83)).heap.size := by have := (chg_one (w3.setCell ⟨P, 0, none⟩ v3) (.cells #[.pointer (some ⟨r, 0, none⟩)] 83)).size; omega
            rw [HB.out] at hrb
            subst hv3
            clear ho3 hg3 hm3 T4 c4 hra hfr1 ho1 hsz1 pa la hp3
            go_wp2_with (at_builtin; refine wpList_append_moved rfl _ _ 56 rfl w0.heap.size 83 i1 (.pointer none) 1 8 Try.underlying56 hi' hz0' hz1' hz2' rfl (by decide) _ its.length LB rfl _ 1 1 rfl [.pointer (some ⟨r, 0, none⟩)] hrb hfr2 ho2 (by unfold maxLen; omega) (by omega) hsz2 ?_)
            intro v5 w5 ho5 hg5 hm5
            rw [← HBV.out] at hg5
            obtain ⟨hp5, T6, c6⟩ := HT4.out.b (chg_one (w3.setCell ⟨P, 0, none⟩ (.slice ad3 (its.length + 1) cap3)) (.cells #[.pointer (some ⟨r, 0, none⟩)] 83)) (by rw [HB.out]; exact ho5) hg5
            obtain ⟨ad5, cap5, hv5, _⟩ := own_any ho5
            have p0' := cell0 hp5
            have p1' := cell1 hp5
            have f1' := free1 hp5
            have HT6 : Hid (Two w0 (w5.setCell ⟨P, 1, none⟩ v5) P (.slice ad3 (its.length + 1) cap3) v5 (LA ++ [.pointer (some ⟨a, 0, none⟩)]) (LB ++ [.pointer (some ⟨r, 0, none⟩)])) := T6
            have HC6 : Hid (Chg (Grows P av bv) w2 (w5.setCell ⟨P, 1, none⟩ v5)) := HC4.out.trans c6 (fun i e => .inl (by
              rcases e with e | e
              · exact .inl e
              · exact .inr (.inr e)))
            subst hv5
            clear ho5 hg5 hm5 T6 c6 hrb hfr2 ho2 hsz2 hp5 HT4 HC4 p0 f0 p1 q1 hs4
            go_wp2_with fail
            go_roundw
            case rel =>
              refine ⟨i + 1, _, _, its ++ [⟨a, r, v, (m : Int), u, List.replicate m 1024⟩], by omega, by go_num, ⟨HPL.out.push HC12.out ⟨⟨by show w0.heap.size ≤ a; omega, HS.out.blk, owns_base HS.out.own hs0⟩, ⟨by show w0.heap.size ≤ r; omega, HR.out.blk, owns_base HR.out.own (by omega)⟩, In.half m, by rw [List.length_replicate]; exact hm⟩ ha (by show wr.heap.size ≤ r; omega) (fun g e => (HS.out.own.lt g e).1) (fun g e => by have := (HR.out.own.lt g e).1; omega) HC6.out HT6.out.pair ?_ ?_, ?_⟩⟩
              · have h := HT6.out.ra
                rw [List.length_append, HA.out] at h
                rw [HLA.out]
                exact h
              · have h := HT6.out.rb
                rw [List.length_append, HB.out] at h
                rw [HLB.out]
                exact h
              · rw [List.map_append, HMX.out, List.take_add_one, HMI.out]
                unfold fresh
                rw [List.map_append]
                rfl
            case measure => simp [intOf]; omega
    · have hiY2 : Y = i := by omega
      subst hiY2
      have hd1 : decide ((Y : Int) < (Z : Int)) = false := by simp; split at hYZ <;> omega
      have hd1n : decide (Y < Z) = false := by simp; split at hYZ <;> omega
      have hY0 : (Y : Int) ≠ 0 := by split at hYZ <;> omega
      have hd2 : ((Y : Int) == 0) = false := by simp; omega
      have hZY : Z ≤ Y := by split at hYZ <;> omega
      clear hYZ
      have HPE : Hid (Play w0 wr P av bv its) := HPM.out.play
      have HXE : Hid (its.map It.xs = fresh ls) := by show _ = _; rw [HPM.out.xs, List.take_of_length_le (by rw [HT.out]; exact Nat.le_refl _)]
      clear HPM
      go_wp2
      go_ret2
      exact ⟨_, _, _, _, rfl, HPE.out, HXE.out⟩
end Go.Proofs.Ytibgjpifmpljkaa
