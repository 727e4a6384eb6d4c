/- The walk through RcencTurns; of no statement by itself. -/
import Derived.Test.YthhjllhcgdkjnaaArgs
import Derived.Deep.DeepCutAuto
namespace Go.Proofs.Ythhjllhcgdkjnaa
open Go.RowKit
set_option linter.unusedVariables false

/-- What is wanted, in memory. -/
def Want (w : World) (T : Nat) (xs : List Int) : Prop := w.heap[T]? = some (.cells (ins .i64 xs).toArray 43 (0, 0))
theorem Want.at {w : World} {T : Nat} {xs : List Int} (h : Want w T xs) (j : Nat) (hj : j < xs.length) : w.cell? ⟨T, j, none⟩ = some (.int .i64 xs[j]) ∧ w.frozen? ⟨T, j, none⟩ = false := by
  unfold Want at h
  exact ⟨by simp [World.cell?, h, ins, hj], by simp [World.frozen?, h]⟩
theorem Want.miss {w : World} {T B a s : Nat} {v u : Value} {e : Rc.E} {xs ys : List Int} (h : Want w T ys) (hE : Es w B a s v u e xs) : ¬ Fe a v u T := fun f => by
  obtain ⟨l, hl, _⟩ := hE.en
  unfold Want at h
  rcases f with f | f
  · rcases f with f | f
    · rw [f] at h
      exact ty_ne hl.blk h (by decide)
    · obtain ⟨cur, hcur⟩ := owns_blk hl.own f
      exact ty_ne hcur h (by decide)
  · obtain ⟨cur, hcur⟩ := owns_blk hE.st.own f
    exact ty_ne hcur h (by decide)
theorem Want.set {w : World} {T : Nat} {xs : List Int} (h : Want w T xs) (j : Nat) (q : Int) : Want (w.setCell ⟨T, j, none⟩ (.int .i64 q)) T (xs.set j q) := by
  have := blk_setk (l := ins .i64 xs) h j (.int .i64 q)
  rw [ins_set] at this
  exact this
theorem lay_lt {e : Rc.E} {xs : List Int} {j : Nat} (one : Bool) (h : j < xs.length) : layX xs j one = xs.set j (Prob.nx xs[j] (wo one)) := by unfold layX; rw [dif_pos h]
theorem lay_ge {xs : List Int} {j : Nat} (one : Bool) (h : ¬ j < xs.length) : layX xs j one = xs := by unfold layX; rw [dif_neg h]

set_option maxHeartbeats 8000000 in
set_option maxRecDepth 100000 in
theorem turns_any (av : Option Addr) (n cv : Nat) (wrong m : Int) (w0 : World) (hV : Bits w0 av n) (hn : n ≤ 8796093022208) : Calls Try.prog 5 #[.slice av n cv, .int .i64 wrong, .int .i64 m] w0 fun e w' => e = .returned (.bool true) ∧ Chg (fun _ => False) w0 w' := by
  have HV : Hid (Bits w0 av n) := hV
  clear hV
  go_enter Try.func5, Try.ntmps5
  go_wp2_with fail
  refine (begun_any _).mono ?_
  rintro x w1 ⟨a, s, v, uu, rfl, hE1, c1⟩
  have HE1 : Hid (Es w1 w0.heap.size a s v uu e0 x0) := hE1
  have HC1 : Hid (Chg (fun _ => False) w0 w1) := c1
  clear hE1 c1
  go_wp2_with fail
  refine (next_any 1024 1 _ ⟨by omega, by omega⟩).mono ?_
  rintro x w2 ⟨rfl, rfl⟩
  have HT1 : Hid (Want (w1.alloc (.cells #[.int .i64 (Prob.nx 1024 1), .int .i64 1024, .int .i64 1024, .int .i64 1024] 43)) w1.heap.size x0) := heap_alloc_last w1 _
  have c2 := chg_one w1 (.cells #[.int .i64 (Prob.nx 1024 1), .int .i64 1024, .int .i64 1024, .int .i64 1024] 43)
  have HE2 : Hid (Es (w1.alloc (.cells #[.int .i64 (Prob.nx 1024 1), .int .i64 1024, .int .i64 1024, .int .i64 1024] 43)) w0.heap.size a s v uu e0 x0) := HE1.out.new c2
  have HC2 : Hid (Chg (fun _ => False) w0 (w1.alloc (.cells #[.int .i64 (Prob.nx 1024 1), .int .i64 1024, .int .i64 1024, .int .i64 1024] 43))) := chg_then HC1.out c2
  have HT0 : Hid (w0.heap.size ≤ w1.heap.size) := HC1.out.size
  clear c2 HE1 HC1
  generalize Prob.nx 1024 1 = p0 at *
  go_wp2_with fail
  generalize w1.alloc (.cells #[.int .i64 p0, .int .i64 1024, .int .i64 1024, .int .i64 1024] 43) = W2 at *
  generalize w1.heap.size = T at *
  go_loopw [27] (fun iv wr => ∃ (k : Nat) (v' : Value) (e : Rc.E) (xs : List Int), k ≤ n ∧ iv = .int .i64 (k : Int) ∧ Hid (Es wr w0.heap.size a s v' uu e xs) ∧ Hid (Want wr T xs) ∧ Hid (e.k ≤ k) ∧ Hid (Chg (fun _ => False) w0 wr)) (fun iv _ => n - (intOf iv).toNat)
  case atStart => exact ⟨0, v, e0, x0, Nat.zero_le _, rfl, HE2.out, HT1.out, by show e0.k ≤ 0; decide +kernel, HC2.out⟩
  case round =>
    clear HE2 HT1 HC2
    obtain ⟨k, v', e, xs, hk, rfl, HE, HT, HK, HC⟩ := hrel
    by_cases hlt : k < n
    · obtain ⟨b, off, ea, i, one, h0, h1, hi⟩ := (HV.out.new HC.out) k hlt
      subst ea
      have HI : Hid (I64 i) := hi
      have cB := chg_one wr (.cells #[.int .i64 i, .bool one] 38)
      have HCB : Hid (Chg (fun _ => False) wr (wr.alloc (.cells #[.int .i64 i, .bool one] 38))) := cB
      have HBX : Hid ((wr.alloc (.cells #[.int .i64 i, .bool one] 38)).heap[wr.heap.size]? = some (.cells #[.int .i64 i, .bool one] 38 (0, 0))) := heap_alloc_last wr _
      clear cB hi
      go_upto_region 8 with fail
      clear h0 h1
      have g0 : (wr.alloc (.cells #[.int .i64 i, .bool one] 38)).cell? ⟨wr.heap.size, 0, none⟩ = some (.int .i64 i) := cell0 HBX.out
      have g1 : (wr.alloc (.cells #[.int .i64 i, .bool one] 38)).cell? ⟨wr.heap.size, 1, none⟩ = some (.bool one) := cell1 HBX.out
      have HE2 : Hid (Es (wr.alloc (.cells #[.int .i64 i, .bool one] 38)) w0.heap.size a s v' uu e xs) := HE.out.new HCB.out
      have HT2 : Hid (Want (wr.alloc (.cells #[.int .i64 i, .bool one] 38)) T xs) := blk_keep HT.out HCB.out (fun f => f)
      have HC2 : Hid (Chg (fun _ => False) w0 (wr.alloc (.cells #[.int .i64 i, .bool one] 38))) := chg_then HC.out HCB.out
      clear HE HT HC HCB
      generalize wr.alloc (.cells #[.int .i64 i, .bool one] 38) = w2 at *
      generalize wr.heap.size = G at *
      go_wp2_with fail
      refine (number_any i HI.out _).mono ?_
      rintro x w3 ⟨rfl, rfl⟩
      have hj := num_le i
      generalize num i = j at *
      go_wp2_with fail
      refine (lays_any w0.heap.size a s v' uu e xs j one _ HE2.out hj (by have := HK.out; omega) HC2.out.size).mono ?_
      rintro x w3 ⟨rfl, v3, hE3, hC3, hM3⟩
      have HE3 : Hid (Es w3 w0.heap.size a s v3 uu (layE e xs j one) (layX xs j one)) := hE3
      have HT3 : Hid (Want w3 T xs) := blk_keep HT2.out hC3 (HT2.out.miss HE2.out)
      have HG3 : Hid (w3.heap[G]? = some (.cells #[.int .i64 i, .bool one] 38 (0, 0))) := blk_keep HBX.out hC3 (fun f => by
        obtain ⟨l, hl, _⟩ := HE2.out.en
        rcases f with f | f
        · rcases f with f | f
          · have h1 := HBX.out
            rw [f] at h1
            exact ty_ne hl.blk h1 (by decide)
          · obtain ⟨cur, hcur⟩ := owns_blk hl.own f
            exact ty_ne hcur HBX.out (by decide)
        · obtain ⟨cur, hcur⟩ := owns_blk HE2.out.st.own f
          exact ty_ne hcur HBX.out (by decide))
      have HC3 : Hid (Chg (fun _ => False) w0 w3) := HE2.out.chg HC2.out (Nat.le_refl _) hC3
      have HK3 : Hid ((layE e xs j one).k ≤ k + 1) := by have h1 := (layE_k e xs j one).2; have h2 := HK.out; show _ ≤ k + 1; omega
      have HLEN : Hid (xs.length = 4) := HE2.out.len
      have HIN : Hid (In31 xs) := HE2.out.inn
      clear hE3 hC3 hM3 HE2 HT2 HC2 g0 g1 HBX
      by_cases h4 : j < 4
      · have hjx : j < xs.length := by rw [HLEN.out]; exact h4
        obtain ⟨p, hp⟩ : ∃ p, xs[j] = p := ⟨_, rfl⟩
        have tj := (HT3.out.at j hjx).1
        have tf := (HT3.out.at j hjx).2
        rw [hp] at tj
        have hpp := HIN.out.at j hjx
        rw [hp] at hpp
        have HPI : Hid (I64 p) := ⟨by omega, by omega⟩
        obtain ⟨b, hb⟩ : ∃ b, wo one = b := ⟨_, rfl⟩
        have HWO : Hid (wo one = b) := hb
        obtain ⟨q, hq⟩ : ∃ q, Prob.nx p b = q := ⟨_, rfl⟩
        have HQ : Hid (Prob.nx p b = q) := hq
        have HLX : Hid (layX xs j one = xs.set j q) := by show _ = _; rw [lay_lt (e := e) one hjx, hp, hb, hq]
        have g1 : w3.cell? ⟨G, 1, none⟩ = some (.bool one) := cell1 HG3.out
        have HTf : Hid (∀ w, Chg (fun _ => False) w3 w → w.frozen? ⟨T, j, none⟩ = false) := fun w hc => (Want.at (blk_keep HT3.out hc (fun f => f)) j hjx).2
        have HTE : Hid (¬ Fe a v3 uu T) := HT3.out.miss HE3.out
        clear hp hpp hb hq tf
        have hd4 : decide ((j : Int) < 4) = true := by simp; omega
        have h4i : (j : Int) < 4 := by omega
        go_wp2_with fail
        refine wp_region_last (mk := fun u => #[_, _, _, _, _, _, _, _, _, _, _, _, _, _, _, _, _, _, _, _, _, _, _, _, _, _, _, _, _, _, _, _, _, _, _, _, _, _, _, _, _, _, _, u 43, u 44, u 45, u 46, u 47, u 48, u 49, u 50, u 51, _, _, _, _, _, _, _, _, _, _, _, _, _, _, _, _, _, _, _, _, _, _, _, _, _, _, _, _, _, _, _, _, _, _, _, _, _, _, _, _, _, _, _, _, _, _, _, _, _, _, _, _, _]) (F := fun slot vv ww => (look [(43, .val (.int .i64 (j : Int))), (44, .val (.int .i64 (j : Int))), (45, .val (.pointer (some ⟨T, j, none⟩))), (46, .val (.int .i64 p)), (47, .val (.pointer (some ⟨G, 1, none⟩))), (48, .val (.bool one)), (49, .val (.int .i64 b)), (50, .val (.int .i64 q)), (51, .val (.pointer (some ⟨T, j, none⟩)))] slot).holds vv ww) (fun slot => match slot with | 43 => u43 | 44 => u44 | 45 => u45 | 46 => u46 | 47 => u47 | 48 => u48 | 49 => u49 | 50 => u50 | 51 => u51 | _ => undef) rfl (by kernel_rfl) 9 _ rfl rfl (by kernel_rfl) ?_ (fun _ v w w' hc h => Fact.stays _ v w w' hc h) ?_ ?_
        · repeat (refine ⟨⟨_, rfl, fun _ _ => rfl⟩, ?_⟩)
          exact trivial
        · refine ⟨?_, ?_, ?_, ?_, ?_, ?_, ?_, ?_, ?_, trivial⟩
          · intro u w hc hd K hK -- 43
            clear hd
            go_simp
            exact hK.out (.int .i64 (j : Int)) w (Chg.refl _ _) rfl
          · intro u w hc hd K hK -- 44
            clear hd
            go_simp
            exact hK.out (.int .i64 (j : Int)) w (Chg.refl _ _) rfl
          · intro u w hc hd K hK -- 45
            have h44 : (Fact.val (.int .i64 (j : Int))).holds (u 44) w := hd.get 1 (by kernel_rfl)
            simp only [Fact.holds] at h44
            clear hd
            simp only [h44] at hK
            go_simp
            first | exact hK.out (.pointer (some ⟨T, j, none⟩)) w (Chg.refl _ _) rfl | (rw [if_pos h4i]; go_simp; exact hK.out (.pointer (some ⟨T, j, none⟩)) w (Chg.refl _ _) rfl)
          · intro u w hc hd K hK -- 46
            have h45 : (Fact.val (.pointer (some ⟨T, j, none⟩))).holds (u 45) w := hd.get 2 (by kernel_rfl)
            simp only [Fact.holds] at h45
            clear hd
            simp only [h45] at hK
            have hcell := cell_chg tj hc
            go_simp
            exact hK.out _ _ (Chg.refl _ _) rfl
          · intro u w hc hd K hK -- 47
            clear hd
            go_simp
            exact hK.out (.pointer (some ⟨G, 1, none⟩)) w (Chg.refl _ _) rfl
          · intro u w hc hd K hK -- 48
            have h47 : (Fact.val (.pointer (some ⟨G, 1, none⟩))).holds (u 47) w := hd.get 4 (by kernel_rfl)
            simp only [Fact.holds] at h47
            clear hd
            simp only [h47] at hK
            have hcell := cell_chg g1 hc
            go_simp
            exact hK.out _ _ (Chg.refl _ _) rfl
          · intro u w hc hd K hK -- 49
            have h48 : (Fact.val (.bool one)).holds (u 48) w := hd.get 5 (by kernel_rfl)
            simp only [Fact.holds] at h48
            clear hd
            simp only [h48] at hK
            go_simp
            go_at_call 16
            refine (worth_any one w).mono ?_
            rintro x w2 ⟨rfl, rfl⟩
            rw [HWO.out]
            exact hK.out _ _ (Chg.refl _ _) rfl
          · intro u w hc hd K hK -- 50
            have h46 : (Fact.val (.int .i64 p)).holds (u 46) w := hd.get 3 (by kernel_rfl)
            simp only [Fact.holds] at h46
            have h49 : (Fact.val (.int .i64 b)).holds (u 49) w := hd.get 6 (by kernel_rfl)
            simp only [Fact.holds] at h49
            clear hd
            simp only [h46, h49] at hK
            go_simp
            go_at_call 15
            refine (next_any p b w HPI.out).mono ?_
            rintro x w2 ⟨rfl, rfl⟩
            rw [HQ.out]
            exact hK.out _ _ (Chg.refl _ _) rfl
          · intro u w hc hd K hK -- 51
            have h43 : (Fact.val (.int .i64 (j : Int))).holds (u 43) w := hd.get 0 (by kernel_rfl)
            simp only [Fact.holds] at h43
            clear hd
            simp only [h43] at hK
            go_simp
            first | exact hK.out (.pointer (some ⟨T, j, none⟩)) w (Chg.refl _ _) rfl | (rw [if_pos h4i]; go_simp; exact hK.out (.pointer (some ⟨T, j, none⟩)) w (Chg.refl _ _) rfl)
        · intro u w hc hA K hK
          have e50 : u 50 = .int .i64 q := hA.at 50 (by kernel_rfl)
          have e51 : u 51 = .pointer (some ⟨T, j, none⟩) := hA.at 51 (by kernel_rfl)
          clear hA
          have t2 := cell_chg tj hc
          have f2 := HTf.out w hc
          have cs : Chg (fun z => z = T) w (w.setCell ⟨T, j, none⟩ (.int .i64 q)) := (Chg.refl (fun z => z = T) w).setCell (p := ⟨T, j, none⟩) (.inl rfl) _
          have HT4 : Hid (Want (w.setCell ⟨T, j, none⟩ (.int .i64 q)) T (layX xs j one)) := by
            show Want _ _ _
            rw [HLX.out]
            exact Want.set (blk_keep HT3.out hc (fun f => f)) j q
          have HE4 : Hid (Es (w.setCell ⟨T, j, none⟩ (.int .i64 q)) w0.heap.size a s v3 uu (layE e xs j one) (layX xs j one)) := by
            have hE := HE3.out.new hc
            have hT := HTE.out
            refine hE.keep cs (fun e => hT (.inl (.inl e.symm))) (fun g e e2 => hT (by rw [← e2]; exact .inl (.inr e))) (fun e => ?_) (fun g e e2 => hT (by rw [← e2]; exact .inr e))
            have h1 := hE.st.blk
            rw [e] at h1
            exact ty_ne h1 (blk_keep HT3.out hc (fun f => f)) (by decide)
          have HC4 : Hid (Chg (fun _ => False) w0 (w.setCell ⟨T, j, none⟩ (.int .i64 q))) := (chg_then HC3.out hc).trans cs (fun z e => .inr (by have := HT0.out; omega))
          clear hc cs HE3 HT3 HC3 tj g1
          go_simp
          refine hK.out _ _ ?_
          clear hK
          go_wp2
          go_roundw
          case rel => exact ⟨k + 1, v3, _, _, by omega, by go_num, HE4.out, HT4.out, HK3.out, HC4.out⟩
          case measure => simp [intOf]; omega
      · obtain rfl : j = 4 := by omega
        have HT4 : Hid (Want w3 T (layX xs 4 one)) := by
          show Want _ _ _
          rw [lay_ge one (by rw [HLEN.out]; omega)]
          exact HT3.out
        go_wp2
        go_roundw
        case rel => exact ⟨k + 1, v3, _, _, by omega, by go_num, HE3.out, HT4.out, HK3.out, HC3.out⟩
        case measure => simp [intOf]; omega
    · obtain rfl : k = n := by omega
      have hdk : decide ((k : Int) < (k : Int)) = false := by simp
      have HK5 : Hid (e.k + 5 ≤ 140737488355328) := by have := HK.out; show e.k + 5 ≤ _; omega
      go_wp2_with fail
      refine (bytes_any _ a _ e _ HE.out.en HK5.out).mono ?_
      rintro x w4 ⟨v4, rfl, ho4, c4⟩
      obtain ⟨ad4, cap4, rfl, _⟩ := own_any ho4
      have hcv := conv_own ho4
      have HE4 : Hid (Es w4 w0.heap.size a s v' uu e xs) := HE.out.new c4
      have HT4 : Hid (Want w4 T xs) := blk_keep HT.out c4 (fun f => f)
      have HC4 : Hid (Chg (fun _ => False) w0 w4) := chg_then HC.out c4
      have hcv2 : (convert 29 9 (.slice ad4 (e.k + 5) cap4)).run Try.prog w4 = .ok (.string (sb e)) w4 := hcv
      clear c4 ho4 HE HT HC hcv
      generalize e.k + 5 = ln at hcv2 ⊢
      have HLEN : Hid (xs.length = 4) := HE4.out.len
      go_upto_region 15 with fail
      clear hcv2
      go_cut [68] (fun s68 wx => s68 = .bool false ∧ w4 = wx)
      case first =>
        by_cases h0 : wrong < 0
        · go_wp2_with fail
          refine (bit_out _ s uu _ xs wrong _ _ HE4.out.st (.inl h0)).mono ?_
          rintro x w5 ⟨rfl, rfl⟩
          go_wp2_with fail
          go_meet
          case rel => exact ⟨rfl, rfl⟩
        · have hd0 : decide (wrong < 0) = false := by simp; omega
          by_cases h3 : 3 < wrong
          · go_wp2_with fail
            refine (bit_out _ s uu _ xs wrong _ _ HE4.out.st (.inr (by rw [HLEN.out]; omega))).mono ?_
            rintro x w5 ⟨rfl, rfl⟩
            go_wp2_with fail
            go_meet
            case rel => exact ⟨rfl, rfl⟩
          · have hd3 : decide (3 < wrong) = false := by simp; omega
            go_wp2_with fail
            go_meet
            case rel => exact ⟨rfl, rfl⟩
      case rest =>
        obtain ⟨rfl, rfl⟩ := hcut
        go_upto_region 17 with fail
        go_cut [80] (fun s80 wx => s80 = .bool false ∧ w4 = wx)
        case first =>
          by_cases h0 : m < 0
          · go_wp2_with fail
            refine (direct_out _ _ m _ (.inl h0)).mono ?_
            rintro x w5 ⟨rfl, rfl⟩
            go_wp2_with fail
            go_meet
            case rel => exact ⟨rfl, rfl⟩
          · have hd0 : decide (m < 0) = false := by simp; omega
            by_cases h3 : 32 < m
            · go_wp2_with fail
              refine (direct_out _ _ m _ (.inr h3)).mono ?_
              rintro x w5 ⟨rfl, rfl⟩
              go_wp2_with fail
              go_meet
              case rel => exact ⟨rfl, rfl⟩
            · have hd3 : decide (32 < m) = false := by simp; omega
              go_wp2_with fail
              go_meet
              case rel => exact ⟨rfl, rfl⟩
        case rest =>
          obtain ⟨rfl, rfl⟩ := hcut
          go_wp2_with fail
          go_loopw [14] (fun iv wr => ∃ j : Nat, j ≤ 4 ∧ iv = .int .i64 (j : Int) ∧ w4 = wr) (fun iv _ => 4 - (intOf iv).toNat)
          case atStart => exact ⟨0, by omega, rfl, rfl⟩
          case round =>
            obtain ⟨j, hj, rfl, rfl⟩ := hrel
            by_cases h4 : j < 4
            · have hjx : j < xs.length := by rw [HLEN.out]; exact h4
              have HAt := at_in _ s uu xs j w4 HE4.out.st HE4.out.inn.inn hjx
              have tj := (HT4.out.at j hjx).1
              have HA2 : Hid (∀ w2, w2 = w4 → Calls Try.prog 18 #[.pointer (some ⟨s, 0, none⟩), .int .i64 (j : Int)] w2 fun e w' => e = .returned (.tuple #[.int .i64 xs[j], .int .i64 0]) ∧ w4 = w') := fun w2 e2 => by subst e2; exact HAt
              clear HAt
              generalize xs[j] = p at *
              go_wp2_with fail
              refine (HA2.out _ rfl).mono ?_
              rintro x w5 ⟨rfl, rfl⟩
              go_wp2
              go_roundw
              case rel => exact ⟨j + 1, by omega, by go_num, by first | rfl | trivial⟩
              case measure => simp [intOf]; omega
            · obtain rfl : j = 4 := by omega
              go_wp2_with fail
              refine (bytes_any _ a _ e _ HE4.out.en HK5.out).mono ?_
              rintro x w6 ⟨v6, rfl, ho6, c6⟩
              obtain ⟨ad6, cap6, rfl, _⟩ := own_any ho6
              have hcv : (convert 29 9 (.slice ad6 (e.k + 5) cap6)).run Try.prog w6 = .ok (.string (sb e)) w6 := conv_own ho6
              have HC6 : Hid (Chg (fun _ => False) w0 w6) := chg_then HC4.out c6
              clear c6 ho6 HE4 HC4
              go_wp2
              go_ret
              exact ⟨by simp, HC6.out⟩
end Go.Proofs.Ythhjllhcgdkjnaa
