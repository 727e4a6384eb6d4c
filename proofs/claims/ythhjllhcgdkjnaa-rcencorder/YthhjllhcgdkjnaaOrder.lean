/- The walk through RcencOrder; of no statement by itself. -/
import Derived.Test.YthhjllhcgdkjnaaFam
import Derived.Test.YthhjllhcgdkjnaaOrd
import Derived.Test.YthhjllhcgdkjnaaLastP
import Derived.Deep.DeepCutAuto
namespace Go.Proofs.Ythhjllhcgdkjnaa
open Go.RowKit
set_option linter.unusedVariables false

/-- A round under way: before, behind the first encoder's bit, behind both. -/
def OrdA (w0 : World) (p q : Q) (j : Nat) (one : Bool) : Nat → World → Prop
  | 0, w => Fam w0 w [p, q]
  | 1, w => ∃ v, Fam w0 w [p.lay v j one, q]
  | 2, w => ∃ v, Fam w0 w [p.lay v j one, q]
  | 3, w => ∃ v, Fam w0 w [p.lay v j one, q]
  | 4, w => ∃ v, Fam w0 w [p.lay v j one, q]
  | _, w => ∃ v y, Fam w0 w [p.lay v j one, q.lay y j one]
def OrdB (w0 : World) (p q : Q) (j : Nat) (one : Bool) : Nat → World → Prop
  | 0, w => Fam w0 w [p, q]
  | _, w => ∃ v, Fam w0 w [p.lay v j one, q]
def OrdC (w0 : World) (p q : Q) (j : Nat) (one : Bool) : Nat → World → Prop
  | 0, w => Fam w0 w [p, q]
  | _, w => ∃ y, Fam w0 w [p, q.lay y j one]
/-- The two rows so far. -/
def Rel (w0 : World) (av : Option Addr) (D k : Nat) (e f : Rc.E) (xs ys : List Int) : Prop := (k ≤ D ∧ e = f ∧ xs = ys) ∨ (D < k ∧ ∃ i one, RowAt w0 av D i one ∧ Rc.Within (layE f ys (num i) one) e)
theorem rel_both {w0 : World} {av : Option Addr} {D k : Nat} {e f : Rc.E} {xs ys : List Int} (h : Rel w0 av D k e f xs ys) (hk : k < D) (j : Nat) (one : Bool) : Rel w0 av D (k + 1) (layE e xs j one) (layE f ys j one) (layX xs j one) (layX ys j one) := by
  rcases h with ⟨_, rfl, rfl⟩ | ⟨h, _⟩
  · exact .inl ⟨by omega, rfl, rfl⟩
  · omega
theorem rel_one {w0 : World} {av : Option Addr} {D k : Nat} {e f : Rc.E} {xs ys : List Int} (h : Rel w0 av D k e f xs ys) (hk : D ≤ k) {i : Int} {one : Bool} (hr : RowAt w0 av k i one) (he : Rc.Ok e) (hI : In31 xs) : Rel w0 av D (k + 1) (layE e xs (num i) one) f (layX xs (num i) one) ys := by
  rcases h with ⟨h1, rfl, rfl⟩ | ⟨h, i2, o2, hr2, hw⟩
  · obtain rfl : k = D := by omega
    exact .inr ⟨by omega, i, one, hr, Rc.Within.refl _⟩
  · exact .inr ⟨by omega, i2, o2, hr2, hw.trans (layE_within he hI _ _)⟩
theorem row_same {w : World} {a : Option Addr} {k : Nat} {i i2 : Int} {o o2 : Bool} (h : RowAt w a k i o) (h2 : RowAt w a k i2 o2) : i = i2 ∧ o = o2 := by
  obtain ⟨b, off, rfl, h0, h1, _⟩ := h
  obtain ⟨b2, off2, e, g0, g1, _⟩ := h2
  simp only [Option.some.injEq, Addr.mk.injEq] at e
  obtain ⟨rfl, rfl, _⟩ := e
  rw [h0] at g0
  rw [h1] at g1
  simp at g0 g1
  exact ⟨g0, g1⟩

set_option maxHeartbeats 16000000 in
set_option maxRecDepth 100000 in
theorem order_any (av : Option Addr) (n cv : Nat) (differ : Int) (rv : Option Addr) (m cr : Nat) (w0 : World) (hV : Bits w0 av n) (hn : n ≤ 8796093022208) (hR : Bits w0 rv m) (hm : m ≤ 8796093022208) : Calls Try.prog 4 #[.slice av n cv, .int .i64 differ, .slice rv m cr] w0 fun e w' => e = .returned (.bool true) ∧ Chg (fun _ => False) w0 w' := by
  have HV : Hid (Bits w0 av n) := hV
  have HR : Hid (Bits w0 rv m) := hR
  clear hV hR
  go_enter Try.func4, Try.ntmps4
  go_wp2_with fail
  refine (fam_begun w0 [] _ (Fam.nil w0)).mono ?_
  rintro x w1 ⟨a, s, v, u_, rfl, hF1⟩
  have HF1 : Hid (Fam w0 w1 [⟨a, s, v, u_, e0, x0⟩]) := hF1
  clear hF1
  go_wp2_with fail
  refine (fam_begun w0 _ _ HF1.out).mono ?_
  rintro x w2 ⟨a2, s2, y, t_, rfl, hF2⟩
  have HF : Hid (Fam w0 w2 [⟨a, s, v, u_, e0, x0⟩, ⟨a2, s2, y, t_, e0, x0⟩]) := hF2
  clear hF2 HF1
  obtain ⟨D, hD, hcase⟩ : ∃ D : Nat, D ≤ n ∧ ((differ < 0 ∧ D = n) ∨ (0 ≤ differ ∧ (n : Int) < differ ∧ D = n) ∨ (0 ≤ differ ∧ differ ≤ (n : Int) ∧ differ = (D : Int))) := by
    by_cases h0 : differ < 0
    · exact ⟨n, Nat.le_refl _, .inl ⟨h0, rfl⟩⟩
    · by_cases h1 : (n : Int) < differ
      · exact ⟨n, Nat.le_refl _, .inr (.inl ⟨by omega, h1, rfl⟩)⟩
      · exact ⟨differ.toNat, by omega, .inr (.inr ⟨by omega, by omega, by omega⟩)⟩
  go_upto_region 5 with fail
  go_cut [38] (fun s38 wx => ((s38 = .bool true ∧ D = n) ∨ (s38 = .bool false ∧ differ = (D : Int))) ∧ w2 = wx)
  case first =>
    rcases hcase with ⟨h0, h1⟩ | ⟨h0, h1, h2⟩ | ⟨h0, h1, h2⟩
    · go_wp2_with fail
      go_meet
      case rel => exact ⟨.inl ⟨rfl, h1⟩, rfl⟩
    · have hd : decide (differ < 0) = false := by simp; omega
      have HX : Hid (D = n) := h2
      clear h2
      go_wp2_with fail
      go_meet
      case rel => exact ⟨.inl ⟨by first | rfl | (simp; omega), HX.out⟩, rfl⟩
    · have hd : decide (differ < 0) = false := by simp; omega
      have hd2 : decide ((n : Int) < differ) = false := by simp; omega
      have HX : Hid (differ = (D : Int)) := h2
      clear h2
      go_wp2_with fail
      go_meet
      case rel => exact ⟨.inr ⟨by first | rfl | (simp; omega), HX.out⟩, rfl⟩
  case rest =>
    clear hcase
    obtain ⟨hcase, rfl⟩ := hcut
    go_upto_if 38 with fail
    go_cut [1] (fun s1 wx => s1 = .int .i64 (D : Int) ∧ w2 = wx)
    case first =>
      rcases hcase with ⟨rfl, h1⟩ | ⟨rfl, h1⟩
      · subst h1
        go_wp2_with fail
        go_meet
        case rel => exact ⟨rfl, rfl⟩
      · subst h1
        go_wp2_with fail
        go_meet
        case rel => exact ⟨rfl, rfl⟩
    case rest =>
      clear hcase
      obtain ⟨rfl, rfl⟩ := hcut
      go_wp2_with fail
      go_loopw [43] (fun iv wr => ∃ (k : Nat) (v' y' : Value) (e f : Rc.E) (xs ys : List Int), k ≤ n ∧ iv = .int .i64 (k : Int) ∧ Hid (Fam w0 wr [⟨a, s, v', u_, e, xs⟩, ⟨a2, s2, y', t_, f, ys⟩]) ∧ Hid (e.k ≤ k ∧ f.k ≤ k) ∧ Hid (Rel w0 av D k e f xs ys)) (fun iv _ => n - (intOf iv).toNat)
      case atStart => exact ⟨0, v, y, e0, e0, x0, x0, Nat.zero_le _, rfl, HF.out, by show e0.k ≤ 0 ∧ e0.k ≤ 0; decide +kernel, .inl ⟨Nat.zero_le _, rfl, rfl⟩⟩
      case round =>
        clear HF
        obtain ⟨k, v', y', e, f, xs, ys, hk, rfl, HF, HKS, HREL⟩ := hrel
        by_cases hlt : k < n
        · skip
          obtain ⟨i, one, hrow0, hrow⟩ := (HV.out).row hlt HF.out.chg
          have HROW : Hid (RowAt w0 av k i one) := hrow0
          obtain ⟨b, off, ea, h0, h1, hi⟩ := hrow
          clear hrow0
          subst ea
          have HI : Hid (I64 i) := hi
          have cB := chg_one wr (.cells #[.int .i64 i, .bool one] 38)
          have HCB : Hid (Chg (fun _ => False) wr (wr.alloc (.cells #[.int .i64 i, .bool one] 38))) := cB
          have HBX : Hid ((wr.alloc (.cells #[.int .i64 i, .bool one] 38)).heap[wr.heap.size]? = some (.cells #[.int .i64 i, .bool one] 38 (0, 0))) := heap_alloc_last wr _
          have HF2 : Hid (Fam w0 (wr.alloc (.cells #[.int .i64 i, .bool one] 38)) [⟨a, s, v', u_, e, xs⟩, ⟨a2, s2, y', t_, f, ys⟩]) := HF.out.new HCB.out
          clear cB hi
          go_upto_region 10 with fail
          clear h0 h1 HCB HF
          generalize wr.alloc (.cells #[.int .i64 i, .bool one] 38) = W2 at *
          generalize wr.heap.size = G at *
          obtain ⟨j, hjn⟩ : ∃ j, num i = j := ⟨_, rfl⟩
          have HJ : Hid (num i = j) := hjn
          have hj4 : j ≤ 4 := by rw [← hjn]; exact num_le i
          clear hjn
          have HK1 : Hid ((Q.mk a s v' u_ e xs).e.k + 2 ≤ 140737488355328) := by have := HKS.out.1; show e.k + 2 ≤ _; omega
          by_cases hkD : k < D
          · have HRN : Hid (Rel w0 (some ⟨b, off, none⟩) D (k + 1) (layE e xs j one) (layE f ys j one) (layX xs j one) (layX ys j one)) := rel_both HREL.out hkD j one
            have HKN : Hid ((layE e xs j one).k ≤ k + 1 ∧ (layE f ys j one).k ≤ k + 1) := by have h1 := (layE_k e xs j one).2; have h2 := (layE_k f ys j one).2; have h3 := HKS.out; exact ⟨by omega, by omega⟩
            have HK2 : Hid ((Q.mk a2 s2 y' t_ f ys).e.k + 2 ≤ 140737488355328) := by have := HKS.out.2; show f.k + 2 ≤ _; omega
            have hdD : decide ((k : Int) < (D : Int)) = true := by simp; omega
            clear HREL HKS HROW
            refine wp_region_phase (mk := fun u => #[_, _, _, _, _, _, _, _, _, _, _, _, _, _, _, _, _, _, _, _, _, _, _, _, _, _, _, _, _, _, _, _, _, _, _, _, _, _, _, _, _, _, _, _, _, _, _, _, u 48, u 49, u 50, u 51, u 52, u 53, u 54, u 55, u 56, u 57, u 58, u 59, u 60, u 61, u 62, u 63, u 64, u 65, u 66, u 67, u 68, u 69, u 70, u 71, _, _, _, _, _, _, _, _, _, _, _, _, _, _, _, _, _, _, _, _, _, _, _, _, _, _, _, _, _, _, _, _, _, _, _, _, _, _, _, _, _, _, _, _, _, _, _, _, _, _, _, _, _, _, _, _, _, _, _, _, _, _, _, _, _, _, _, _, _, _, _, _, _, _, _, _, _, _, _, _]) (G := lookG [(48, .pointer (some ⟨a, 0, none⟩)), (49, .pointer (some ⟨s, 0, none⟩)), (50, .pointer (some ⟨G, 0, none⟩)), (51, .int .i64 i), (52, .int .i64 (j : Int)), (53, .pointer (some ⟨G, 1, none⟩)), (54, .bool one), (55, .bool true), (56, .bool false), (57, .bool false), (58, .int .i64 (k : Int)), (59, .int .i64 (D : Int)), (60, .bool true), (61, .bool true), (62, .pointer (some ⟨a2, 0, none⟩)), (63, .pointer (some ⟨s2, 0, none⟩)), (64, .pointer (some ⟨G, 0, none⟩)), (65, .int .i64 i), (66, .int .i64 (j : Int)), (67, .pointer (some ⟨G, 1, none⟩)), (68, .bool one), (69, .bool true), (70, .bool false), (71, .bool false)]) (J := fun q _ w => w.heap[G]? = some (.cells #[.int .i64 i, .bool one] 38 (0, 0)) ∧ OrdA w0 ⟨a, s, v', u_, e, xs⟩ ⟨a2, s2, y', t_, f, ys⟩ j one q w) [7, 9, 13, 18, 21] (fun slot => match slot with | 48 => u48 | 49 => u49 | 50 => u50 | 51 => u51 | 52 => u52 | 53 => u53 | 54 => u54 | 55 => u55 | 56 => u56 | 57 => u57 | 58 => u58 | 59 => u59 | 60 => u60 | 61 => u61 | 62 => u62 | 63 => u63 | 64 => u64 | 65 => u65 | 66 => u66 | 67 => u67 | 68 => u68 | 69 => u69 | 70 => u70 | 71 => u71 | _ => undef) rfl (by kernel_rfl) 24 _ rfl rfl (by kernel_rfl) (by kernel_rfl) (by kernel_rfl) (by decide) ?_ ?_ ?_ ?_ ?_
            · repeat (refine ⟨⟨_, rfl, fun _ _ => rfl⟩, ?_⟩)
              exact trivial
            · exact fun q u u2 w _ h => h
            · exact ⟨blk_keep HBX.out (Chg.refl (fun _ => False) W2).drew (fun f => f), HF2.out.new (Chg.refl _ W2).drew⟩
            · refine ⟨?_, ?_, ?_, ?_, ?_, ?_, ?_, ?_, ?_, ?_, ?_, ?_, ?_, ?_, ?_, ?_, ?_, ?_, ?_, ?_, ?_, ?_, ?_, ?_, trivial⟩
              · show StepR _ _ _ _ _ _  _ -- 48
                unfold StepR
                intro q u w hj hd K hK
                clear hd
                go_simp
                exact hK.out (.pointer (some ⟨a, 0, none⟩)) rfl
              · show StepR _ _ _ _ _ _  _ -- 49
                unfold StepR
                intro q u w hj hd K hK
                clear hd
                go_simp
                exact hK.out (.pointer (some ⟨s, 0, none⟩)) rfl
              · show StepR _ _ _ _ _ _  _ -- 50
                unfold StepR
                intro q u w hj hd K hK
                clear hd
                go_simp
                exact hK.out (.pointer (some ⟨G, 0, none⟩)) rfl
              · show StepR _ _ _ _ _ _  _ -- 51
                unfold StepR
                intro q u w hj hd K hK
                have h50 : u 50 = .pointer (some ⟨G, 0, none⟩) := hd.get 2 (by kernel_rfl)
                clear hd
                simp only [h50] at hK
                have hcell := cell0 hj.1
                go_simp
                exact hK.out _ rfl
              · show StepR _ _ _ _ _ _  _ -- 52
                unfold StepR
                intro q u w hj hd K hK
                have h51 : u 51 = .int .i64 i := hd.get 3 (by kernel_rfl)
                clear hd
                simp only [h51] at hK
                go_simp
                go_at_call 14
                refine (number_any i HI.out w).mono ?_
                rintro x w2 ⟨rfl, rfl⟩
                rw [HJ.out]
                exact hK.out _ rfl
              · show StepR _ _ _ _ _ _  _ -- 53
                unfold StepR
                intro q u w hj hd K hK
                clear hd
                go_simp
                exact hK.out (.pointer (some ⟨G, 1, none⟩)) rfl
              · show StepR _ _ _ _ _ _  _ -- 54
                unfold StepR
                intro q u w hj hd K hK
                have h53 : u 53 = .pointer (some ⟨G, 1, none⟩) := hd.get 5 (by kernel_rfl)
                clear hd
                simp only [h53] at hK
                have hcell := cell1 hj.1
                go_simp
                exact hK.out _ rfl
              · show StepW _ _ _ _ _ _ 0 _ -- 55
                unfold StepW
                intro u w hj hd K hK
                have h48 : u 48 = .pointer (some ⟨a, 0, none⟩) := hd.get 0 (by kernel_rfl)
                have h49 : u 49 = .pointer (some ⟨s, 0, none⟩) := hd.get 1 (by kernel_rfl)
                have h52 : u 52 = .int .i64 (j : Int) := hd.get 4 (by kernel_rfl)
                have h54 : u 54 = .bool one := hd.get 6 (by kernel_rfl)
                clear hd
                simp only [h48, h49, h52, h54] at hK
                obtain ⟨hb, hF⟩ := hj
                go_simp
                go_at_call 13
                refine (fam_lays w0 [⟨a, s, v', u_, e, xs⟩, ⟨a2, s2, y', t_, f, ys⟩] 0 (by simp) j one w hF hj4 HK1.out).mono ?_
                rintro x w2 ⟨rfl, v2, hF2, hbx⟩
                exact hK.out _ w2 ⟨hbx _ _ hb, v2, hF2⟩ rfl
              · show StepR _ _ _ _ _ _  _ -- 56
                unfold StepR
                intro q u w hj hd K hK
                have h55 : u 55 = .bool true := hd.get 7 (by kernel_rfl)
                clear hd
                simp only [h55] at hK
                go_simp
                exact hK.out (.bool false) rfl
              · show StepW _ _ _ _ _ _ 1 _ -- 57
                unfold StepW
                intro u w hj hd K hK
                have h56 : u 56 = .bool false := hd.get 8 (by kernel_rfl)
                clear hd
                simp only [h56] at hK
                obtain ⟨hb, v1, hF⟩ := hj
                go_simp
                exact hK.out (.bool false) w ⟨hb, v1, hF⟩ rfl
              · show StepR _ _ _ _ _ _  _ -- 58
                unfold StepR
                intro q u w hj hd K hK
                have h57 : u 57 = .bool false := hd.get 9 (by kernel_rfl)
                clear hd
                simp only [h57] at hK
                go_simp
                exact hK.out (.int .i64 (k : Int)) rfl
              · show StepR _ _ _ _ _ _  _ -- 59
                unfold StepR
                intro q u w hj hd K hK
                have h57 : u 57 = .bool false := hd.get 9 (by kernel_rfl)
                clear hd
                simp only [h57] at hK
                go_simp
                exact hK.out (.int .i64 (D : Int)) rfl
              · show StepR _ _ _ _ _ _  _ -- 60
                unfold StepR
                intro q u w hj hd K hK
                have h58 : u 58 = .int .i64 (k : Int) := hd.get 10 (by kernel_rfl)
                have h59 : u 59 = .int .i64 (D : Int) := hd.get 11 (by kernel_rfl)
                have h57 : u 57 = .bool false := hd.get 9 (by kernel_rfl)
                clear hd
                simp only [h58, h59, h57] at hK
                go_simp
                exact hK.out (.bool true) rfl
              · show StepW _ _ _ _ _ _ 2 _ -- 61
                unfold StepW
                intro u w hj hd K hK
                have h60 : u 60 = .bool true := hd.get 12 (by kernel_rfl)
                have h57 : u 57 = .bool false := hd.get 9 (by kernel_rfl)
                clear hd
                simp only [h60, h57] at hK
                obtain ⟨hb, v1, hF⟩ := hj
                go_simp
                exact hK.out (.bool true) w ⟨hb, v1, hF⟩ rfl
              · show StepR _ _ _ _ _ _  _ -- 62
                unfold StepR
                intro q u w hj hd K hK
                have h61 : u 61 = .bool true := hd.get 13 (by kernel_rfl)
                clear hd
                simp only [h61] at hK
                go_simp
                exact hK.out (.pointer (some ⟨a2, 0, none⟩)) rfl
              · show StepR _ _ _ _ _ _  _ -- 63
                unfold StepR
                intro q u w hj hd K hK
                have h61 : u 61 = .bool true := hd.get 13 (by kernel_rfl)
                clear hd
                simp only [h61] at hK
                go_simp
                exact hK.out (.pointer (some ⟨s2, 0, none⟩)) rfl
              · show StepR _ _ _ _ _ _  _ -- 64
                unfold StepR
                intro q u w hj hd K hK
                have h61 : u 61 = .bool true := hd.get 13 (by kernel_rfl)
                clear hd
                simp only [h61] at hK
                go_simp
                exact hK.out (.pointer (some ⟨G, 0, none⟩)) rfl
              · show StepR _ _ _ _ _ _  _ -- 65
                unfold StepR
                intro q u w hj hd K hK
                have h64 : u 64 = .pointer (some ⟨G, 0, none⟩) := hd.get 16 (by kernel_rfl)
                have h61 : u 61 = .bool true := hd.get 13 (by kernel_rfl)
                clear hd
                simp only [h64, h61] at hK
                have hcell := cell0 hj.1
                go_simp
                exact hK.out _ rfl
              · show StepW _ _ _ _ _ _ 3 _ -- 66
                unfold StepW
                intro u w hj hd K hK
                have h65 : u 65 = .int .i64 i := hd.get 17 (by kernel_rfl)
                have h61 : u 61 = .bool true := hd.get 13 (by kernel_rfl)
                clear hd
                simp only [h65, h61] at hK
                obtain ⟨hb, v1, hF⟩ := hj
                go_simp
                go_at_call 14
                refine (number_any i HI.out w).mono ?_
                rintro x w2 ⟨rfl, rfl⟩
                rw [HJ.out]
                exact hK.out _ _ ⟨hb, v1, hF⟩ rfl
              · show StepR _ _ _ _ _ _  _ -- 67
                unfold StepR
                intro q u w hj hd K hK
                have h61 : u 61 = .bool true := hd.get 13 (by kernel_rfl)
                clear hd
                simp only [h61] at hK
                go_simp
                exact hK.out (.pointer (some ⟨G, 1, none⟩)) rfl
              · show StepR _ _ _ _ _ _  _ -- 68
                unfold StepR
                intro q u w hj hd K hK
                have h67 : u 67 = .pointer (some ⟨G, 1, none⟩) := hd.get 19 (by kernel_rfl)
                have h61 : u 61 = .bool true := hd.get 13 (by kernel_rfl)
                clear hd
                simp only [h67, h61] at hK
                have hcell := cell1 hj.1
                go_simp
                exact hK.out _ rfl
              · show StepW _ _ _ _ _ _ 4 _ -- 69
                unfold StepW
                intro u w hj hd K hK
                have h62 : u 62 = .pointer (some ⟨a2, 0, none⟩) := hd.get 14 (by kernel_rfl)
                have h63 : u 63 = .pointer (some ⟨s2, 0, none⟩) := hd.get 15 (by kernel_rfl)
                have h66 : u 66 = .int .i64 (j : Int) := hd.get 18 (by kernel_rfl)
                have h68 : u 68 = .bool one := hd.get 20 (by kernel_rfl)
                have h61 : u 61 = .bool true := hd.get 13 (by kernel_rfl)
                clear hd
                simp only [h62, h63, h66, h68, h61] at hK
                obtain ⟨hb, v1, hF⟩ := hj
                go_simp
                go_at_call 13
                refine (fam_lays w0 [Q.lay ⟨a, s, v', u_, e, xs⟩ v1 j one, ⟨a2, s2, y', t_, f, ys⟩] 1 (by simp) j one w hF hj4 HK2.out).mono ?_
                rintro x w2 ⟨rfl, v2, hF2, hbx⟩
                exact hK.out _ w2 ⟨hbx _ _ hb, v1, v2, hF2⟩ rfl
              · show StepR _ _ _ _ _ _  _ -- 70
                unfold StepR
                intro q u w hj hd K hK
                have h69 : u 69 = .bool true := hd.get 21 (by kernel_rfl)
                have h61 : u 61 = .bool true := hd.get 13 (by kernel_rfl)
                clear hd
                simp only [h69, h61] at hK
                go_simp
                exact hK.out (.bool false) rfl
              · show StepR _ _ _ _ _ _  _ -- 71
                unfold StepR
                intro q u w hj hd K hK
                have h61 : u 61 = .bool true := hd.get 13 (by kernel_rfl)
                have h70 : u 70 = .bool false := hd.get 22 (by kernel_rfl)
                have h57 : u 57 = .bool false := hd.get 9 (by kernel_rfl)
                clear hd
                simp only [h61, h70, h57] at hK
                go_simp
                exact hK.out (.bool false) rfl
            · intro u w hj hA K hK
              have e57 : u 57 = .bool false := hA.at 57 (by kernel_rfl)
              have e71 : u 71 = .bool false := hA.at 71 (by kernel_rfl)
              clear hA
              obtain ⟨_, v3, y3, hF3⟩ := hj
              have HF3 : Hid (Fam w0 w [⟨a, s, v3, u_, layE e xs j one, layX xs j one⟩, ⟨a2, s2, y3, t_, layE f ys j one, layX ys j one⟩]) := hF3
              clear hF3
              go_simp
              refine hK.out _ _ ?_
              clear hK
              go_wp2
              go_roundw
              case rel => exact ⟨k + 1, v3, y3, _, _, _, _, by omega, by go_num, HF3.out, HKN.out, HRN.out⟩
              case measure => simp [intOf]; omega
          · have hOE : Rc.Ok e := (HF2.out.es 0 (by simp)).ok
            have hIE : In31 xs := (HF2.out.es 0 (by simp)).inn
            have HRN : Hid (Rel w0 (some ⟨b, off, none⟩) D (k + 1) (layE e xs j one) f (layX xs j one) ys) := by
              have h1 := rel_one HREL.out (by omega) HROW.out hOE hIE
              rw [HJ.out] at h1
              exact h1
            have HKN : Hid ((layE e xs j one).k ≤ k + 1 ∧ f.k ≤ k + 1) := by have h1 := (layE_k e xs j one).2; have h3 := HKS.out; exact ⟨by omega, by omega⟩
            have hdD : decide ((k : Int) < (D : Int)) = false := by simp; omega
            clear HREL HKS HROW hOE hIE
            refine wp_region_phase (mk := fun u => #[_, _, _, _, _, _, _, _, _, _, _, _, _, _, _, _, _, _, _, _, _, _, _, _, _, _, _, _, _, _, _, _, _, _, _, _, _, _, _, _, _, _, _, _, _, _, _, _, u 48, u 49, u 50, u 51, u 52, u 53, u 54, u 55, u 56, u 57, u 58, u 59, u 60, u 61, u 62, u 63, u 64, u 65, u 66, u 67, u 68, u 69, u 70, u 71, _, _, _, _, _, _, _, _, _, _, _, _, _, _, _, _, _, _, _, _, _, _, _, _, _, _, _, _, _, _, _, _, _, _, _, _, _, _, _, _, _, _, _, _, _, _, _, _, _, _, _, _, _, _, _, _, _, _, _, _, _, _, _, _, _, _, _, _, _, _, _, _, _, _, _, _, _, _, _, _]) (G := lookG [(48, .pointer (some ⟨a, 0, none⟩)), (49, .pointer (some ⟨s, 0, none⟩)), (50, .pointer (some ⟨G, 0, none⟩)), (51, .int .i64 i), (52, .int .i64 (j : Int)), (53, .pointer (some ⟨G, 1, none⟩)), (54, .bool one), (55, .bool true), (56, .bool false), (57, .bool false), (58, .int .i64 (k : Int)), (59, .int .i64 (D : Int)), (60, .bool false), (61, .bool false), (62, undef), (63, undef), (64, undef), (65, undef), (66, undef), (67, undef), (68, undef), (69, undef), (70, undef), (71, .bool false)]) (J := fun q _ w => w.heap[G]? = some (.cells #[.int .i64 i, .bool one] 38 (0, 0)) ∧ OrdB w0 ⟨a, s, v', u_, e, xs⟩ ⟨a2, s2, y', t_, f, ys⟩ j one q w) [7] (fun slot => match slot with | 48 => u48 | 49 => u49 | 50 => u50 | 51 => u51 | 52 => u52 | 53 => u53 | 54 => u54 | 55 => u55 | 56 => u56 | 57 => u57 | 58 => u58 | 59 => u59 | 60 => u60 | 61 => u61 | 62 => u62 | 63 => u63 | 64 => u64 | 65 => u65 | 66 => u66 | 67 => u67 | 68 => u68 | 69 => u69 | 70 => u70 | 71 => u71 | _ => undef) rfl (by kernel_rfl) 24 _ rfl rfl (by kernel_rfl) (by kernel_rfl) (by kernel_rfl) (by decide) ?_ ?_ ?_ ?_ ?_
            · repeat (refine ⟨⟨_, rfl, fun _ _ => rfl⟩, ?_⟩)
              exact trivial
            · exact fun q u u2 w _ h => h
            · exact ⟨blk_keep HBX.out (Chg.refl (fun _ => False) W2).drew (fun f => f), HF2.out.new (Chg.refl _ W2).drew⟩
            · refine ⟨?_, ?_, ?_, ?_, ?_, ?_, ?_, ?_, ?_, ?_, ?_, ?_, ?_, ?_, ?_, ?_, ?_, ?_, ?_, ?_, ?_, ?_, ?_, ?_, trivial⟩
              · show StepR _ _ _ _ _ _  _ -- 48
                unfold StepR
                intro q u w hj hd K hK
                clear hd
                go_simp
                exact hK.out (.pointer (some ⟨a, 0, none⟩)) rfl
              · show StepR _ _ _ _ _ _  _ -- 49
                unfold StepR
                intro q u w hj hd K hK
                clear hd
                go_simp
                exact hK.out (.pointer (some ⟨s, 0, none⟩)) rfl
              · show StepR _ _ _ _ _ _  _ -- 50
                unfold StepR
                intro q u w hj hd K hK
                clear hd
                go_simp
                exact hK.out (.pointer (some ⟨G, 0, none⟩)) rfl
              · show StepR _ _ _ _ _ _  _ -- 51
                unfold StepR
                intro q u w hj hd K hK
                have h50 : u 50 = .pointer (some ⟨G, 0, none⟩) := hd.get 2 (by kernel_rfl)
                clear hd
                simp only [h50] at hK
                have hcell := cell0 hj.1
                go_simp
                exact hK.out _ rfl
              · show StepR _ _ _ _ _ _  _ -- 52
                unfold StepR
                intro q u w hj hd K hK
                have h51 : u 51 = .int .i64 i := hd.get 3 (by kernel_rfl)
                clear hd
                simp only [h51] at hK
                go_simp
                go_at_call 14
                refine (number_any i HI.out w).mono ?_
                rintro x w2 ⟨rfl, rfl⟩
                rw [HJ.out]
                exact hK.out _ rfl
              · show StepR _ _ _ _ _ _  _ -- 53
                unfold StepR
                intro q u w hj hd K hK
                clear hd
                go_simp
                exact hK.out (.pointer (some ⟨G, 1, none⟩)) rfl
              · show StepR _ _ _ _ _ _  _ -- 54
                unfold StepR
                intro q u w hj hd K hK
                have h53 : u 53 = .pointer (some ⟨G, 1, none⟩) := hd.get 5 (by kernel_rfl)
                clear hd
                simp only [h53] at hK
                have hcell := cell1 hj.1
                go_simp
                exact hK.out _ rfl
              · show StepW _ _ _ _ _ _ 0 _ -- 55
                unfold StepW
                intro u w hj hd K hK
                have h48 : u 48 = .pointer (some ⟨a, 0, none⟩) := hd.get 0 (by kernel_rfl)
                have h49 : u 49 = .pointer (some ⟨s, 0, none⟩) := hd.get 1 (by kernel_rfl)
                have h52 : u 52 = .int .i64 (j : Int) := hd.get 4 (by kernel_rfl)
                have h54 : u 54 = .bool one := hd.get 6 (by kernel_rfl)
                clear hd
                simp only [h48, h49, h52, h54] at hK
                obtain ⟨hb, hF⟩ := hj
                go_simp
                go_at_call 13
                refine (fam_lays w0 [⟨a, s, v', u_, e, xs⟩, ⟨a2, s2, y', t_, f, ys⟩] 0 (by simp) j one w hF hj4 HK1.out).mono ?_
                rintro x w2 ⟨rfl, v2, hF2, hbx⟩
                exact hK.out _ w2 ⟨hbx _ _ hb, v2, hF2⟩ rfl
              · show StepR _ _ _ _ _ _  _ -- 56
                unfold StepR
                intro q u w hj hd K hK
                have h55 : u 55 = .bool true := hd.get 7 (by kernel_rfl)
                clear hd
                simp only [h55] at hK
                go_simp
                exact hK.out (.bool false) rfl
              · show StepR _ _ _ _ _ _  _ -- 57
                unfold StepR
                intro q u w hj hd K hK
                have h56 : u 56 = .bool false := hd.get 8 (by kernel_rfl)
                clear hd
                simp only [h56] at hK
                go_simp
                exact hK.out (.bool false) rfl
              · show StepR _ _ _ _ _ _  _ -- 58
                unfold StepR
                intro q u w hj hd K hK
                have h57 : u 57 = .bool false := hd.get 9 (by kernel_rfl)
                clear hd
                simp only [h57] at hK
                go_simp
                exact hK.out (.int .i64 (k : Int)) rfl
              · show StepR _ _ _ _ _ _  _ -- 59
                unfold StepR
                intro q u w hj hd K hK
                have h57 : u 57 = .bool false := hd.get 9 (by kernel_rfl)
                clear hd
                simp only [h57] at hK
                go_simp
                exact hK.out (.int .i64 (D : Int)) rfl
              · show StepR _ _ _ _ _ _  _ -- 60
                unfold StepR
                intro q u w hj hd K hK
                have h58 : u 58 = .int .i64 (k : Int) := hd.get 10 (by kernel_rfl)
                have h59 : u 59 = .int .i64 (D : Int) := hd.get 11 (by kernel_rfl)
                have h57 : u 57 = .bool false := hd.get 9 (by kernel_rfl)
                clear hd
                simp only [h58, h59, h57] at hK
                go_simp
                exact hK.out (.bool false) rfl
              · show StepR _ _ _ _ _ _  _ -- 61
                unfold StepR
                intro q u w hj hd K hK
                have h60 : u 60 = .bool false := hd.get 12 (by kernel_rfl)
                have h57 : u 57 = .bool false := hd.get 9 (by kernel_rfl)
                clear hd
                simp only [h60, h57] at hK
                go_simp
                exact hK.out (.bool false) rfl
              · show StepR _ _ _ _ _ _  _ -- 62
                unfold StepR
                intro q u w hj hd K hK
                have h61 : u 61 = .bool false := hd.get 13 (by kernel_rfl)
                clear hd
                simp only [h61] at hK
                go_simp
                exact hK.out undef rfl
              · show StepR _ _ _ _ _ _  _ -- 63
                unfold StepR
                intro q u w hj hd K hK
                have h61 : u 61 = .bool false := hd.get 13 (by kernel_rfl)
                clear hd
                simp only [h61] at hK
                go_simp
                exact hK.out undef rfl
              · show StepR _ _ _ _ _ _  _ -- 64
                unfold StepR
                intro q u w hj hd K hK
                have h61 : u 61 = .bool false := hd.get 13 (by kernel_rfl)
                clear hd
                simp only [h61] at hK
                go_simp
                exact hK.out undef rfl
              · show StepR _ _ _ _ _ _  _ -- 65
                unfold StepR
                intro q u w hj hd K hK
                have h64 : u 64 = undef := hd.get 16 (by kernel_rfl)
                have h61 : u 61 = .bool false := hd.get 13 (by kernel_rfl)
                clear hd
                simp only [h64, h61] at hK
                go_simp
                exact hK.out undef rfl
              · show StepR _ _ _ _ _ _  _ -- 66
                unfold StepR
                intro q u w hj hd K hK
                have h65 : u 65 = undef := hd.get 17 (by kernel_rfl)
                have h61 : u 61 = .bool false := hd.get 13 (by kernel_rfl)
                clear hd
                simp only [h65, h61] at hK
                go_simp
                exact hK.out undef rfl
              · show StepR _ _ _ _ _ _  _ -- 67
                unfold StepR
                intro q u w hj hd K hK
                have h61 : u 61 = .bool false := hd.get 13 (by kernel_rfl)
                clear hd
                simp only [h61] at hK
                go_simp
                exact hK.out undef rfl
              · show StepR _ _ _ _ _ _  _ -- 68
                unfold StepR
                intro q u w hj hd K hK
                have h67 : u 67 = undef := hd.get 19 (by kernel_rfl)
                have h61 : u 61 = .bool false := hd.get 13 (by kernel_rfl)
                clear hd
                simp only [h67, h61] at hK
                go_simp
                exact hK.out undef rfl
              · show StepR _ _ _ _ _ _  _ -- 69
                unfold StepR
                intro q u w hj hd K hK
                have h62 : u 62 = undef := hd.get 14 (by kernel_rfl)
                have h63 : u 63 = undef := hd.get 15 (by kernel_rfl)
                have h66 : u 66 = undef := hd.get 18 (by kernel_rfl)
                have h68 : u 68 = undef := hd.get 20 (by kernel_rfl)
                have h61 : u 61 = .bool false := hd.get 13 (by kernel_rfl)
                clear hd
                simp only [h62, h63, h66, h68, h61] at hK
                go_simp
                exact hK.out undef rfl
              · show StepR _ _ _ _ _ _  _ -- 70
                unfold StepR
                intro q u w hj hd K hK
                have h69 : u 69 = undef := hd.get 21 (by kernel_rfl)
                have h61 : u 61 = .bool false := hd.get 13 (by kernel_rfl)
                clear hd
                simp only [h69, h61] at hK
                go_simp
                exact hK.out undef rfl
              · show StepR _ _ _ _ _ _  _ -- 71
                unfold StepR
                intro q u w hj hd K hK
                have h61 : u 61 = .bool false := hd.get 13 (by kernel_rfl)
                have h70 : u 70 = undef := hd.get 22 (by kernel_rfl)
                have h57 : u 57 = .bool false := hd.get 9 (by kernel_rfl)
                clear hd
                simp only [h61, h70, h57] at hK
                go_simp
                exact hK.out (.bool false) rfl
            · intro u w hj hA K hK
              have e57 : u 57 = .bool false := hA.at 57 (by kernel_rfl)
              have e71 : u 71 = .bool false := hA.at 71 (by kernel_rfl)
              clear hA
              obtain ⟨_, v3, hF3⟩ := hj
              have HF3 : Hid (Fam w0 w [⟨a, s, v3, u_, layE e xs j one, layX xs j one⟩, ⟨a2, s2, y', t_, f, ys⟩]) := hF3
              clear hF3
              go_simp
              refine hK.out _ _ ?_
              clear hK
              go_wp2
              go_roundw
              case rel => exact ⟨k + 1, v3, y', _, _, _, _, by omega, by go_num, HF3.out, HKN.out, HRN.out⟩
              case measure => simp [intOf]; omega
        · obtain rfl : n = k := by omega
          have hdk : decide ((n : Int) < (n : Int)) = false := by simp
          have HKE : Hid (e.k ≤ n) := HKS.out.1
          by_cases hDn : n = D
          · subst hDn
            have HW0 : Hid (Rc.Within e f) := by
              rcases HREL.out with ⟨_, h1, _⟩ | ⟨h1, _⟩
              · rw [h1]; exact Rc.Within.refl _
              · omega
            have HKF : Hid (f.k ≤ n + 0) := HKS.out.2
            clear HREL HKS
            go_wp2_with fail
            go_loopw [80] (fun iv wr => ∃ (k : Nat) (y' : Value) (f : Rc.E) (ys : List Int), k ≤ m ∧ iv = .int .i64 (k : Int) ∧ Hid (Fam w0 wr [⟨a, s, v', u_, e, xs⟩, ⟨a2, s2, y', t_, f, ys⟩]) ∧ Hid (Rc.Within e f) ∧ Hid (f.k ≤ n + k)) (fun iv _ => m - (intOf iv).toNat)
            case atStart => exact ⟨0, y', f, ys, Nat.zero_le _, rfl, HF.out, HW0.out, HKF.out⟩
            case round =>
              clear HF HKF HW0
              obtain ⟨k, y', f, ys, hk, rfl, HF, HW, HKF⟩ := hrel
              by_cases hlt : k < m
              · skip
                obtain ⟨i, one, hrow0, hrow⟩ := (HR.out).row hlt HF.out.chg
                have HROW : Hid (RowAt w0 rv k i one) := hrow0
                obtain ⟨b, off, ea, h0, h1, hi⟩ := hrow
                clear hrow0
                subst ea
                have HI : Hid (I64 i) := hi
                have cB := chg_one wr (.cells #[.int .i64 i, .bool one] 38)
                have HCB : Hid (Chg (fun _ => False) wr (wr.alloc (.cells #[.int .i64 i, .bool one] 38))) := cB
                have HBX : Hid ((wr.alloc (.cells #[.int .i64 i, .bool one] 38)).heap[wr.heap.size]? = some (.cells #[.int .i64 i, .bool one] 38 (0, 0))) := heap_alloc_last wr _
                have HF2 : Hid (Fam w0 (wr.alloc (.cells #[.int .i64 i, .bool one] 38)) [⟨a, s, v', u_, e, xs⟩, ⟨a2, s2, y', t_, f, ys⟩]) := HF.out.new HCB.out
                clear cB hi
                go_upto_region 17 with fail
                clear h0 h1 HCB HF
                generalize wr.alloc (.cells #[.int .i64 i, .bool one] 38) = W2 at *
                generalize wr.heap.size = G at *
                obtain ⟨j, hjn⟩ : ∃ j, num i = j := ⟨_, rfl⟩
                have HJ : Hid (num i = j) := hjn
                have hj4 : j ≤ 4 := by rw [← hjn]; exact num_le i
                clear hjn
                have HK2 : Hid ((Q.mk a2 s2 y' t_ f ys).e.k + 2 ≤ 140737488355328) := by have := HKF.out; show f.k + 2 ≤ _; omega
                have hOF : Rc.Ok f := (HF2.out.es 1 (by simp)).ok
                have hIF : In31 ys := (HF2.out.es 1 (by simp)).inn
                have HWN : Hid (Rc.Within e (layE f ys j one)) := HW.out.trans (layE_within hOF hIF j one)
                have HKN : Hid ((layE f ys j one).k ≤ n + (k + 1)) := by have h1 := (layE_k f ys j one).2; have h2 := HKF.out; show _ ≤ _; omega
                clear hOF hIF HW HKF
                refine wp_region_phase (mk := fun u => #[_, _, _, _, _, _, _, _, _, _, _, _, _, _, _, _, _, _, _, _, _, _, _, _, _, _, _, _, _, _, _, _, _, _, _, _, _, _, _, _, _, _, _, _, _, _, _, _, _, _, _, _, _, _, _, _, _, _, _, _, _, _, _, _, _, _, _, _, _, _, _, _, _, _, _, _, _, _, _, _, _, _, _, _, u 84, u 85, u 86, u 87, u 88, u 89, u 90, u 91, _, _, _, _, _, _, _, _, _, _, _, _, _, _, _, _, _, _, _, _, _, _, _, _, _, _, _, _, _, _, _, _, _, _, _, _, _, _, _, _, _, _, _, _, _, _, _, _, _, _, _, _, _, _, _, _, _, _, _, _]) (G := lookG [(84, .pointer (some ⟨a2, 0, none⟩)), (85, .pointer (some ⟨s2, 0, none⟩)), (86, .pointer (some ⟨G, 0, none⟩)), (87, .int .i64 i), (88, .int .i64 (j : Int)), (89, .pointer (some ⟨G, 1, none⟩)), (90, .bool one), (91, .bool true)]) (J := fun q _ w => w.heap[G]? = some (.cells #[.int .i64 i, .bool one] 38 (0, 0)) ∧ OrdC w0 ⟨a, s, v', u_, e, xs⟩ ⟨a2, s2, y', t_, f, ys⟩ j one q w) [7] (fun slot => match slot with | 84 => u84 | 85 => u85 | 86 => u86 | 87 => u87 | 88 => u88 | 89 => u89 | 90 => u90 | 91 => u91 | _ => undef) rfl (by kernel_rfl) 8 _ rfl rfl (by kernel_rfl) (by kernel_rfl) (by kernel_rfl) (by decide) ?_ ?_ ?_ ?_ ?_
                · repeat (refine ⟨⟨_, rfl, fun _ _ => rfl⟩, ?_⟩)
                  exact trivial
                · exact fun q u u2 w _ h => h
                · exact ⟨blk_keep HBX.out (Chg.refl (fun _ => False) W2).drew (fun f => f), HF2.out.new (Chg.refl _ W2).drew⟩
                · refine ⟨?_, ?_, ?_, ?_, ?_, ?_, ?_, ?_, trivial⟩
                  · show StepR _ _ _ _ _ _  _ -- 84
                    unfold StepR
                    intro q u w hj hd K hK
                    clear hd
                    go_simp
                    exact hK.out (.pointer (some ⟨a2, 0, none⟩)) rfl
                  · show StepR _ _ _ _ _ _  _ -- 85
                    unfold StepR
                    intro q u w hj hd K hK
                    clear hd
                    go_simp
                    exact hK.out (.pointer (some ⟨s2, 0, none⟩)) rfl
                  · show StepR _ _ _ _ _ _  _ -- 86
                    unfold StepR
                    intro q u w hj hd K hK
                    clear hd
                    go_simp
                    exact hK.out (.pointer (some ⟨G, 0, none⟩)) rfl
                  · show StepR _ _ _ _ _ _  _ -- 87
                    unfold StepR
                    intro q u w hj hd K hK
                    have h86 : u 86 = .pointer (some ⟨G, 0, none⟩) := hd.get 2 (by kernel_rfl)
                    clear hd
                    simp only [h86] at hK
                    have hcell := cell0 hj.1
                    go_simp
                    exact hK.out _ rfl
                  · show StepR _ _ _ _ _ _  _ -- 88
                    unfold StepR
                    intro q u w hj hd K hK
                    have h87 : u 87 = .int .i64 i := hd.get 3 (by kernel_rfl)
                    clear hd
                    simp only [h87] at hK
                    go_simp
                    go_at_call 14
                    refine (number_any i HI.out w).mono ?_
                    rintro x w2 ⟨rfl, rfl⟩
                    rw [HJ.out]
                    exact hK.out _ rfl
                  · show StepR _ _ _ _ _ _  _ -- 89
                    unfold StepR
                    intro q u w hj hd K hK
                    clear hd
                    go_simp
                    exact hK.out (.pointer (some ⟨G, 1, none⟩)) rfl
                  · show StepR _ _ _ _ _ _  _ -- 90
                    unfold StepR
                    intro q u w hj hd K hK
                    have h89 : u 89 = .pointer (some ⟨G, 1, none⟩) := hd.get 5 (by kernel_rfl)
                    clear hd
                    simp only [h89] at hK
                    have hcell := cell1 hj.1
                    go_simp
                    exact hK.out _ rfl
                  · show StepW _ _ _ _ _ _ 0 _ -- 91
                    unfold StepW
                    intro u w hj hd K hK
                    have h84 : u 84 = .pointer (some ⟨a2, 0, none⟩) := hd.get 0 (by kernel_rfl)
                    have h85 : u 85 = .pointer (some ⟨s2, 0, none⟩) := hd.get 1 (by kernel_rfl)
                    have h88 : u 88 = .int .i64 (j : Int) := hd.get 4 (by kernel_rfl)
                    have h90 : u 90 = .bool one := hd.get 6 (by kernel_rfl)
                    clear hd
                    simp only [h84, h85, h88, h90] at hK
                    obtain ⟨hb, hF⟩ := hj
                    go_simp
                    go_at_call 13
                    refine (fam_lays w0 [⟨a, s, v', u_, e, xs⟩, ⟨a2, s2, y', t_, f, ys⟩] 1 (by simp) j one w hF hj4 HK2.out).mono ?_
                    rintro x w2 ⟨rfl, v2, hF2, hbx⟩
                    exact hK.out _ w2 ⟨hbx _ _ hb, v2, hF2⟩ rfl
                · intro u w hj hA K hK
                  have e_ : u 91 = .bool true := hA.at 91 (by kernel_rfl)
                  clear hA
                  obtain ⟨_, y2, hF3⟩ := hj
                  have HF3 : Hid (Fam w0 w [⟨a, s, v', u_, e, xs⟩, ⟨a2, s2, y2, t_, layE f ys j one, layX ys j one⟩]) := hF3
                  clear hF3
                  go_simp
                  refine hK.out _ _ ?_
                  clear hK
                  go_wp2
                  go_roundw
                  case rel => exact ⟨k + 1, y2, _, _, by omega, by go_num, HF3.out, HWN.out, HKN.out⟩
                  case measure => simp [intOf]; omega
              · obtain rfl : k = m := by omega
                have hdk : decide ((k : Int) < (k : Int)) = false := by simp
                have HK5e : Hid ((Q.mk a s v' u_ e xs).e.k + 5 ≤ 140737488355328) := by have := HKE.out; show e.k + 5 ≤ _; omega
                have HK5f : Hid ((Q.mk a2 s2 y' t_ f ys).e.k + 5 ≤ 140737488355328) := by have := HKF.out; show f.k + 5 ≤ _; omega
                have hOE : Rc.Ok e := (HF.out.es 0 (by simp)).ok
                have hOF : Rc.Ok f := (HF.out.es 1 (by simp)).ok
                have HLESS : Hid ((Op.bytesLess (sb e).toList (sb f).toList || (sb e).toList == (sb f).toList) = true) := sb_le HW.out hOE hOF
                clear hOE hOF
                go_wp2_with fail
                refine wp_region_last (mk := fun u => #[_, _, _, _, _, _, _, _, _, _, _, _, _, _, _, _, _, _, _, _, _, _, _, _, _, _, _, _, _, _, _, _, _, _, _, _, _, _, _, _, _, _, _, _, _, _, _, _, _, _, _, _, _, _, _, _, _, _, _, _, _, _, _, _, _, _, _, _, _, _, _, _, _, _, _, _, _, _, _, _, _, _, _, _, _, _, _, _, _, _, _, _, _, _, u 94, u 95, u 96, u 97, u 98, u 99, u 100, _, _, _, _, _, _, _, _, _, _, _, _, _, _, _, _, _, _, _, _, _, _, _, _, _, _, _, _, _, _, _, _, _, _, _, _, _, _, _, _, _, _, _, _, _, _, _, _, _, _, _]) (F := fun slot vv ww => (look [(94, .val (.pointer (some ⟨a, 0, none⟩))), (95, .is (fun q wq => wq.ownsRow w0.heap.size 5 1 q (e.k + 5) (ins .u8 (nums (Rc.by_ e))))), (96, .val (.string (sb e))), (97, .val (.pointer (some ⟨a2, 0, none⟩))), (98, .is (fun q wq => wq.ownsRow w0.heap.size 5 1 q (f.k + 5) (ins .u8 (nums (Rc.by_ f))))), (99, .val (.string (sb f))), (100, .val (.bool true))] slot).holds vv ww) (fun slot => match slot with | 94 => u94 | 95 => u95 | 96 => u96 | 97 => u97 | 98 => u98 | 99 => u99 | 100 => u100 | _ => undef) rfl (by kernel_rfl) 7 _ rfl rfl (by kernel_rfl) ?_ (fun _ v w w' hc h => Fact.stays _ v w w' hc h) ?_ ?_
                · repeat (refine ⟨⟨_, rfl, fun _ _ => rfl⟩, ?_⟩)
                  exact trivial
                · refine ⟨?_, ?_, ?_, ?_, ?_, ?_, ?_, trivial⟩
                  · intro u w hc hd K hK -- 94
                    clear hd
                    go_simp
                    exact hK.out (.pointer (some ⟨a, 0, none⟩)) w (Chg.refl _ _) rfl
                  · intro u w hc hd K hK -- 95
                    have h94 : (Fact.val (.pointer (some ⟨a, 0, none⟩))).holds (u 94) w := hd.get 0 (by kernel_rfl)
                    simp only [Fact.holds] at h94
                    clear hd
                    simp only [h94] at hK
                    go_simp
                    go_at_call 10
                    refine (fam_bytes w0 [⟨a, s, v', u_, e, xs⟩, ⟨a2, s2, y', t_, f, ys⟩] 0 (by simp) w (HF.out.new hc) HK5e.out).mono ?_
                    rintro x w2 ⟨v2, rfl, ho, c2⟩
                    exact hK.out _ _ c2 ⟨w2, owns_base ho (Nat.le_trans HF.out.chg.size hc.size), Chg.refl _ _⟩
                  · intro u w hc hd K hK -- 96
                    have h95 : (Fact.is (fun q wq => wq.ownsRow w0.heap.size 5 1 q (e.k + 5) (ins .u8 (nums (Rc.by_ e))))).holds (u 95) w := hd.get 1 (by kernel_rfl)
                    obtain ⟨q95, h95, p95⟩ := h95
                    clear hd
                    have o95 := ownsRow_keep h95 p95 (fun _ _ f => f)
                    obtain ⟨ad, cap, e95, _⟩ := own_any o95
                    rw [e95] at o95
                    have hcv : (convert 29 9 (.slice ad (e.k + 5) cap)).run Try.prog w = .ok (.string (sb e)) w := conv_own o95
                    clear o95
                    simp only [e95] at hK
                    go_simp
                    exact hK.out (.string (sb e)) w (Chg.refl _ _) rfl
                  · intro u w hc hd K hK -- 97
                    clear hd
                    go_simp
                    exact hK.out (.pointer (some ⟨a2, 0, none⟩)) w (Chg.refl _ _) rfl
                  · intro u w hc hd K hK -- 98
                    have h97 : (Fact.val (.pointer (some ⟨a2, 0, none⟩))).holds (u 97) w := hd.get 3 (by kernel_rfl)
                    simp only [Fact.holds] at h97
                    clear hd
                    simp only [h97] at hK
                    go_simp
                    go_at_call 10
                    refine (fam_bytes w0 [⟨a, s, v', u_, e, xs⟩, ⟨a2, s2, y', t_, f, ys⟩] 1 (by simp) w (HF.out.new hc) HK5f.out).mono ?_
                    rintro x w2 ⟨v2, rfl, ho, c2⟩
                    exact hK.out _ _ c2 ⟨w2, owns_base ho (Nat.le_trans HF.out.chg.size hc.size), Chg.refl _ _⟩
                  · intro u w hc hd K hK -- 99
                    have h98 : (Fact.is (fun q wq => wq.ownsRow w0.heap.size 5 1 q (f.k + 5) (ins .u8 (nums (Rc.by_ f))))).holds (u 98) w := hd.get 4 (by kernel_rfl)
                    obtain ⟨q98, h98, p98⟩ := h98
                    clear hd
                    have o98 := ownsRow_keep h98 p98 (fun _ _ f => f)
                    obtain ⟨ad, cap, e98, _⟩ := own_any o98
                    rw [e98] at o98
                    have hcv : (convert 29 9 (.slice ad (f.k + 5) cap)).run Try.prog w = .ok (.string (sb f)) w := conv_own o98
                    clear o98
                    simp only [e98] at hK
                    go_simp
                    exact hK.out (.string (sb f)) w (Chg.refl _ _) rfl
                  · intro u w hc hd K hK -- 100
                    have h96 : (Fact.val (.string (sb e))).holds (u 96) w := hd.get 2 (by kernel_rfl)
                    simp only [Fact.holds] at h96
                    have h99 : (Fact.val (.string (sb f))).holds (u 99) w := hd.get 5 (by kernel_rfl)
                    simp only [Fact.holds] at h99
                    clear hd
                    simp only [h96, h99] at hK
                    have hless := HLESS.out
                    go_simp
                    first | exact hK.out (.bool true) w (Chg.refl _ _) rfl | (rw [hless]; exact hK.out (.bool true) w (Chg.refl _ _) rfl)
                · intro u w hc hA K hK
                  have e_ : u 100 = .bool true := hA.at 100 (by kernel_rfl)
                  clear hA
                  have HC9 : Hid (Chg (fun _ => False) w0 w) := chg_then HF.out.chg hc
                  clear hc
                  go_simp
                  refine hK.out _ _ ?_
                  go_simp
                  go_wp2
                  go_ret
                  exact ⟨rfl, HC9.out⟩

          · have hDlt : D < n := by omega
            obtain ⟨i, one, hr0, HWE'⟩ : ∃ i one, RowAt w0 av D i one ∧ Rc.Within (layE f ys (num i) one) e := by
              rcases HREL.out with ⟨h1, _⟩ | ⟨_, h1⟩
              · omega
              · exact h1
            obtain ⟨b, off, ea, h00, h01, hi⟩ := hr0
            subst ea
            have H0 : Hid (w0.cell? ⟨b, off + D * 2, none⟩ = some (.int .i64 i)) := h00
            have H1 : Hid (w0.cell? ⟨b, off + D * 2 + 1, none⟩ = some (.bool one)) := h01
            have h0 := cell_chg h00 HF.out.chg
            have h1 := cell_chg h01 HF.out.chg
            have HI : Hid (I64 i) := hi
            obtain ⟨j, hjn⟩ : ∃ j, num i = j := ⟨_, rfl⟩
            have HJ : Hid (num i = j) := hjn
            have hj4 : j ≤ 4 := by rw [← hjn]; exact num_le i
            rw [hjn] at HWE'
            have HWE : Hid (Rc.Within (layE f ys j one) e) := HWE'
            have HK2 : Hid ((Q.mk a2 s2 y' t_ f ys).e.k + 2 ≤ 140737488355328) := by have := HKS.out.2; show f.k + 2 ≤ _; omega
            have HOD : Hid (Rc.Ok f) := (HF.out.es 1 (by simp)).ok
            have HID : Hid (In31 ys) := (HF.out.es 1 (by simp)).inn
            have HKF1 : Hid ((layE f ys j (!one)).k ≤ n + 1 + 0) := by have h1 := (layE_k f ys j (!one)).2; have h2 := HKS.out.2; show _ ≤ _; omega
            have hdn : decide ((D : Int) = (n : Int)) = false := by simp; omega
            have hDi : (D : Int) < (n : Int) := by omega
            clear hjn hi h00 h01 HREL HKS HWE'
            go_wp2_with fail
            refine wp_region_phase (mk := fun u => #[_, _, _, _, _, _, _, _, _, _, _, _, _, _, _, _, _, _, _, _, _, _, _, _, _, _, _, _, _, _, _, _, _, _, _, _, _, _, _, _, _, _, _, _, _, _, _, _, _, _, _, _, _, _, _, _, _, _, _, _, _, _, _, _, _, _, _, _, _, _, _, _, _, _, _, _, _, _, _, _, _, _, _, _, _, _, _, _, _, _, _, _, _, _, _, _, _, _, _, _, _, u 101, u 102, u 103, u 104, u 105, u 106, u 107, u 108, u 109, u 110, u 111, u 112, u 113, u 114, u 115, _, _, _, _, _, _, _, _, _, _, _, _, _, _, _, _, _, _, _, _, _, _, _, _, _, _, _, _, _, _, _, _, _, _, _, _]) (G := lookG [(101, .pointer (some ⟨a2, 0, none⟩)), (102, .pointer (some ⟨s2, 0, none⟩)), (103, .slice (some ⟨b, off, none⟩) n cv), (104, .int .i64 (D : Int)), (105, .pointer (some ⟨b, off + D * 2, none⟩)), (106, .pointer (some ⟨b, off + D * 2, none⟩)), (107, .int .i64 i), (108, .int .i64 (j : Int)), (109, .slice (some ⟨b, off, none⟩) n cv), (110, .int .i64 (D : Int)), (111, .pointer (some ⟨b, off + D * 2, none⟩)), (112, .pointer (some ⟨b, off + D * 2 + 1, none⟩)), (113, .bool one), (114, .bool (!one)), (115, .bool true)]) (J := fun q _ w => (w.cell? ⟨b, off + D * 2, none⟩ = some (.int .i64 i) ∧ w.cell? ⟨b, off + D * 2 + 1, none⟩ = some (.bool one)) ∧ OrdC w0 ⟨a, s, v', u_, e, xs⟩ ⟨a2, s2, y', t_, f, ys⟩ j (!one) q w) [14] (fun slot => match slot with | 101 => u101 | 102 => u102 | 103 => u103 | 104 => u104 | 105 => u105 | 106 => u106 | 107 => u107 | 108 => u108 | 109 => u109 | 110 => u110 | 111 => u111 | 112 => u112 | 113 => u113 | 114 => u114 | 115 => u115 | _ => undef) rfl (by kernel_rfl) 15 _ rfl rfl (by kernel_rfl) (by kernel_rfl) (by kernel_rfl) (by decide) ?_ ?_ ?_ ?_ ?_
            · repeat (refine ⟨⟨_, rfl, fun _ _ => rfl⟩, ?_⟩)
              exact trivial
            · exact fun q u u2 w _ h => h
            · exact ⟨⟨cell_chg h0 (Chg.refl _ wr).drew, cell_chg h1 (Chg.refl _ wr).drew⟩, HF.out.new (Chg.refl _ wr).drew⟩
            · refine ⟨?_, ?_, ?_, ?_, ?_, ?_, ?_, ?_, ?_, ?_, ?_, ?_, ?_, ?_, ?_, trivial⟩
              · show StepR _ _ _ _ _ _  _ -- 101
                unfold StepR
                intro q u w hj hd K hK
                clear hd
                go_simp
                exact hK.out (.pointer (some ⟨a2, 0, none⟩)) rfl
              · show StepR _ _ _ _ _ _  _ -- 102
                unfold StepR
                intro q u w hj hd K hK
                clear hd
                go_simp
                exact hK.out (.pointer (some ⟨s2, 0, none⟩)) rfl
              · show StepR _ _ _ _ _ _  _ -- 103
                unfold StepR
                intro q u w hj hd K hK
                clear hd
                go_simp
                exact hK.out (.slice (some ⟨b, off, none⟩) n cv) rfl
              · show StepR _ _ _ _ _ _  _ -- 104
                unfold StepR
                intro q u w hj hd K hK
                clear hd
                go_simp
                exact hK.out (.int .i64 (D : Int)) rfl
              · show StepR _ _ _ _ _ _  _ -- 105
                unfold StepR
                intro q u w hj hd K hK
                have h103 : u 103 = .slice (some ⟨b, off, none⟩) n cv := hd.get 2 (by kernel_rfl)
                have h104 : u 104 = .int .i64 (D : Int) := hd.get 3 (by kernel_rfl)
                clear hd
                simp only [h103, h104] at hK
                go_simp
                exact hK.out (.pointer (some ⟨b, off + D * 2, none⟩)) rfl
              · show StepR _ _ _ _ _ _  _ -- 106
                unfold StepR
                intro q u w hj hd K hK
                have h105 : u 105 = .pointer (some ⟨b, off + D * 2, none⟩) := hd.get 4 (by kernel_rfl)
                clear hd
                simp only [h105] at hK
                go_simp
                exact hK.out (.pointer (some ⟨b, off + D * 2, none⟩)) rfl
              · show StepR _ _ _ _ _ _  _ -- 107
                unfold StepR
                intro q u w hj hd K hK
                have h106 : u 106 = .pointer (some ⟨b, off + D * 2, none⟩) := hd.get 5 (by kernel_rfl)
                clear hd
                simp only [h106] at hK
                have hcell := hj.1.1
                go_simp
                exact hK.out _ rfl
              · show StepR _ _ _ _ _ _  _ -- 108
                unfold StepR
                intro q u w hj hd K hK
                have h107 : u 107 = .int .i64 i := hd.get 6 (by kernel_rfl)
                clear hd
                simp only [h107] at hK
                go_simp
                go_at_call 14
                refine (number_any i HI.out w).mono ?_
                rintro x w2 ⟨rfl, rfl⟩
                rw [HJ.out]
                exact hK.out _ rfl
              · show StepR _ _ _ _ _ _  _ -- 109
                unfold StepR
                intro q u w hj hd K hK
                clear hd
                go_simp
                exact hK.out (.slice (some ⟨b, off, none⟩) n cv) rfl
              · show StepR _ _ _ _ _ _  _ -- 110
                unfold StepR
                intro q u w hj hd K hK
                clear hd
                go_simp
                exact hK.out (.int .i64 (D : Int)) rfl
              · show StepR _ _ _ _ _ _  _ -- 111
                unfold StepR
                intro q u w hj hd K hK
                have h109 : u 109 = .slice (some ⟨b, off, none⟩) n cv := hd.get 8 (by kernel_rfl)
                have h110 : u 110 = .int .i64 (D : Int) := hd.get 9 (by kernel_rfl)
                clear hd
                simp only [h109, h110] at hK
                go_simp
                exact hK.out (.pointer (some ⟨b, off + D * 2, none⟩)) rfl
              · show StepR _ _ _ _ _ _  _ -- 112
                unfold StepR
                intro q u w hj hd K hK
                have h111 : u 111 = .pointer (some ⟨b, off + D * 2, none⟩) := hd.get 10 (by kernel_rfl)
                clear hd
                simp only [h111] at hK
                go_simp
                exact hK.out (.pointer (some ⟨b, off + D * 2 + 1, none⟩)) rfl
              · show StepR _ _ _ _ _ _  _ -- 113
                unfold StepR
                intro q u w hj hd K hK
                have h112 : u 112 = .pointer (some ⟨b, off + D * 2 + 1, none⟩) := hd.get 11 (by kernel_rfl)
                clear hd
                simp only [h112] at hK
                have hcell := hj.1.2
                go_simp
                exact hK.out _ rfl
              · show StepR _ _ _ _ _ _  _ -- 114
                unfold StepR
                intro q u w hj hd K hK
                have h113 : u 113 = .bool one := hd.get 12 (by kernel_rfl)
                clear hd
                simp only [h113] at hK
                go_simp
                exact hK.out (.bool (!one)) rfl
              · show StepW _ _ _ _ _ _ 0 _ -- 115
                unfold StepW
                intro u w hj hd K hK
                have h101 : u 101 = .pointer (some ⟨a2, 0, none⟩) := hd.get 0 (by kernel_rfl)
                have h102 : u 102 = .pointer (some ⟨s2, 0, none⟩) := hd.get 1 (by kernel_rfl)
                have h108 : u 108 = .int .i64 (j : Int) := hd.get 7 (by kernel_rfl)
                have h114 : u 114 = .bool (!one) := hd.get 13 (by kernel_rfl)
                clear hd
                simp only [h101, h102, h108, h114] at hK
                obtain ⟨hb, hF⟩ := hj
                go_simp
                go_at_call 13
                refine (fam_lays w0 [⟨a, s, v', u_, e, xs⟩, ⟨a2, s2, y', t_, f, ys⟩] 1 (by simp) j (!one) w hF hj4 HK2.out).mono ?_
                rintro x w2 ⟨rfl, v2, hF2, hbx⟩
                exact hK.out _ w2 ⟨⟨cell_chg H0.out hF2.chg, cell_chg H1.out hF2.chg⟩, v2, hF2⟩ rfl
            · intro u w hj hA K hK
              have e_ : u 115 = .bool true := hA.at 115 (by kernel_rfl)
              clear hA
              obtain ⟨_, y3, hF3⟩ := hj
              have HF3 : Hid (Fam w0 w [⟨a, s, v', u_, e, xs⟩, ⟨a2, s2, y3, t_, layE f ys j (!one), layX ys j (!one)⟩]) := hF3
              clear hF3 HF h0 h1 HK2 hj4 HJ HI
              go_simp
              refine hK.out _ _ ?_
              clear hK
              obtain ⟨g, hg⟩ : ∃ g, layE f ys j (!one) = g := ⟨_, rfl⟩
              obtain ⟨zs, hzs⟩ : ∃ zs, layX ys j (!one) = zs := ⟨_, rfl⟩
              have HW0 : Hid (Rc.Within (layE f ys j (!one)) g) := by show Rc.Within _ _; rw [hg]; exact Rc.Within.refl _
              rw [hg, hzs] at HF3
              rw [hg] at HKF1
              have HKG : Hid (g.k ≤ n + 1 + 0) := HKF1.out
              have HF : Hid (Fam w0 w [⟨a, s, v', u_, e, xs⟩, ⟨a2, s2, y3, t_, g, zs⟩]) := HF3.out
              obtain ⟨z', hz'⟩ : ∃ x, x = y3 := ⟨_, rfl⟩
              rw [← hz'] at HF
              clear HF3 HKF1 hg hzs hz'
              go_wp2_with fail
              go_loopw [119] (fun iv wr => ∃ (k : Nat) (z' : Value) (g : Rc.E) (zs : List Int), k ≤ m ∧ iv = .int .i64 (k : Int) ∧ Hid (Fam w0 wr [⟨a, s, v', u_, e, xs⟩, ⟨a2, s2, z', t_, g, zs⟩]) ∧ Hid (Rc.Within (layE f ys j (!one)) g) ∧ Hid (g.k ≤ n + 1 + k)) (fun iv _ => m - (intOf iv).toNat)
              case atStart => exact ⟨0, z', g, zs, Nat.zero_le _, rfl, HF.out, HW0.out, HKG.out⟩
              case round =>
                clear HF HKG HW0
                obtain ⟨k, z', g, zs, hk, rfl, HF, HW, HKG⟩ := hrel
                by_cases hlt : k < m
                · skip
                  obtain ⟨ii, oo, hrow0, hrow⟩ := (HR.out).row hlt HF.out.chg
                  have HROW : Hid (RowAt w0 rv k ii oo) := hrow0
                  obtain ⟨bb, of2, ea, h0, h1, hi⟩ := hrow
                  clear hrow0
                  subst ea
                  have HII : Hid (I64 ii) := hi
                  have cB := chg_one wr (.cells #[.int .i64 ii, .bool oo] 38)
                  have HCB : Hid (Chg (fun _ => False) wr (wr.alloc (.cells #[.int .i64 ii, .bool oo] 38))) := cB
                  have HBX : Hid ((wr.alloc (.cells #[.int .i64 ii, .bool oo] 38)).heap[wr.heap.size]? = some (.cells #[.int .i64 ii, .bool oo] 38 (0, 0))) := heap_alloc_last wr _
                  have HF2 : Hid (Fam w0 (wr.alloc (.cells #[.int .i64 ii, .bool oo] 38)) [⟨a, s, v', u_, e, xs⟩, ⟨a2, s2, z', t_, g, zs⟩]) := HF.out.new HCB.out
                  clear cB hi
                  go_upto_region 26 with fail
                  clear h0 h1 HCB HF
                  generalize wr.alloc (.cells #[.int .i64 ii, .bool oo] 38) = W2 at *
                  generalize wr.heap.size = G at *
                  obtain ⟨jj, hjn⟩ : ∃ jj, num ii = jj := ⟨_, rfl⟩
                  have HJJ : Hid (num ii = jj) := hjn
                  have hj5 : jj ≤ 4 := by rw [← hjn]; exact num_le ii
                  clear hjn
                  have HK2 : Hid ((Q.mk a2 s2 z' t_ g zs).e.k + 2 ≤ 140737488355328) := by have := HKG.out; show g.k + 2 ≤ _; omega
                  have hOF : Rc.Ok g := (HF2.out.es 1 (by simp)).ok
                  have hIF : In31 zs := (HF2.out.es 1 (by simp)).inn
                  have HWN : Hid (Rc.Within (layE f ys j (!one)) (layE g zs jj oo)) := HW.out.trans (layE_within hOF hIF jj oo)
                  have HKN : Hid ((layE g zs jj oo).k ≤ n + 1 + (k + 1)) := by have h1 := (layE_k g zs jj oo).2; have h2 := HKG.out; show _ ≤ _; omega
                  clear hOF hIF HW HKG
                  refine wp_region_phase (mk := fun u => #[_, _, _, _, _, _, _, _, _, _, _, _, _, _, _, _, _, _, _, _, _, _, _, _, _, _, _, _, _, _, _, _, _, _, _, _, _, _, _, _, _, _, _, _, _, _, _, _, _, _, _, _, _, _, _, _, _, _, _, _, _, _, _, _, _, _, _, _, _, _, _, _, _, _, _, _, _, _, _, _, _, _, _, _, _, _, _, _, _, _, _, _, _, _, _, _, _, _, _, _, _, _, _, _, _, _, _, _, _, _, _, _, _, _, _, _, _, _, _, _, _, _, _, u 123, u 124, u 125, u 126, u 127, u 128, u 129, u 130, _, _, _, _, _, _, _, _, _, _, _, _, _, _, _, _, _, _, _, _, _]) (G := lookG [(123, .pointer (some ⟨a2, 0, none⟩)), (124, .pointer (some ⟨s2, 0, none⟩)), (125, .pointer (some ⟨G, 0, none⟩)), (126, .int .i64 ii), (127, .int .i64 (jj : Int)), (128, .pointer (some ⟨G, 1, none⟩)), (129, .bool oo), (130, .bool true)]) (J := fun q _ w => w.heap[G]? = some (.cells #[.int .i64 ii, .bool oo] 38 (0, 0)) ∧ OrdC w0 ⟨a, s, v', u_, e, xs⟩ ⟨a2, s2, z', t_, g, zs⟩ jj oo q w) [7] (fun slot => match slot with | 123 => u123 | 124 => u124 | 125 => u125 | 126 => u126 | 127 => u127 | 128 => u128 | 129 => u129 | 130 => u130 | _ => undef) rfl (by kernel_rfl) 8 _ rfl rfl (by kernel_rfl) (by kernel_rfl) (by kernel_rfl) (by decide) ?_ ?_ ?_ ?_ ?_
                  · repeat (refine ⟨⟨_, rfl, fun _ _ => rfl⟩, ?_⟩)
                    exact trivial
                  · exact fun q u u2 w _ h => h
                  · exact ⟨blk_keep HBX.out (Chg.refl (fun _ => False) W2).drew (fun g => g), HF2.out.new (Chg.refl _ W2).drew⟩
                  · refine ⟨?_, ?_, ?_, ?_, ?_, ?_, ?_, ?_, trivial⟩
                    · show StepR _ _ _ _ _ _  _ -- 123
                      unfold StepR
                      intro q u w hj hd K hK
                      clear hd
                      go_simp
                      exact hK.out (.pointer (some ⟨a2, 0, none⟩)) rfl
                    · show StepR _ _ _ _ _ _  _ -- 124
                      unfold StepR
                      intro q u w hj hd K hK
                      clear hd
                      go_simp
                      exact hK.out (.pointer (some ⟨s2, 0, none⟩)) rfl
                    · show StepR _ _ _ _ _ _  _ -- 125
                      unfold StepR
                      intro q u w hj hd K hK
                      clear hd
                      go_simp
                      exact hK.out (.pointer (some ⟨G, 0, none⟩)) rfl
                    · show StepR _ _ _ _ _ _  _ -- 126
                      unfold StepR
                      intro q u w hj hd K hK
                      have h125 : u 125 = .pointer (some ⟨G, 0, none⟩) := hd.get 2 (by kernel_rfl)
                      clear hd
                      simp only [h125] at hK
                      have hcell := cell0 hj.1
                      go_simp
                      exact hK.out _ rfl
                    · show StepR _ _ _ _ _ _  _ -- 127
                      unfold StepR
                      intro q u w hj hd K hK
                      have h126 : u 126 = .int .i64 ii := hd.get 3 (by kernel_rfl)
                      clear hd
                      simp only [h126] at hK
                      go_simp
                      go_at_call 14
                      refine (number_any ii HII.out w).mono ?_
                      rintro x w2 ⟨rfl, rfl⟩
                      rw [HJJ.out]
                      exact hK.out _ rfl
                    · show StepR _ _ _ _ _ _  _ -- 128
                      unfold StepR
                      intro q u w hj hd K hK
                      clear hd
                      go_simp
                      exact hK.out (.pointer (some ⟨G, 1, none⟩)) rfl
                    · show StepR _ _ _ _ _ _  _ -- 129
                      unfold StepR
                      intro q u w hj hd K hK
                      have h128 : u 128 = .pointer (some ⟨G, 1, none⟩) := hd.get 5 (by kernel_rfl)
                      clear hd
                      simp only [h128] at hK
                      have hcell := cell1 hj.1
                      go_simp
                      exact hK.out _ rfl
                    · show StepW _ _ _ _ _ _ 0 _ -- 130
                      unfold StepW
                      intro u w hj hd K hK
                      have h123 : u 123 = .pointer (some ⟨a2, 0, none⟩) := hd.get 0 (by kernel_rfl)
                      have h124 : u 124 = .pointer (some ⟨s2, 0, none⟩) := hd.get 1 (by kernel_rfl)
                      have h127 : u 127 = .int .i64 (jj : Int) := hd.get 4 (by kernel_rfl)
                      have h129 : u 129 = .bool oo := hd.get 6 (by kernel_rfl)
                      clear hd
                      simp only [h123, h124, h127, h129] at hK
                      obtain ⟨hb, hF⟩ := hj
                      go_simp
                      go_at_call 13
                      refine (fam_lays w0 [⟨a, s, v', u_, e, xs⟩, ⟨a2, s2, z', t_, g, zs⟩] 1 (by simp) jj oo w hF hj5 HK2.out).mono ?_
                      rintro x w2 ⟨rfl, v2, hF2, hbx⟩
                      exact hK.out _ w2 ⟨hbx _ _ hb, v2, hF2⟩ rfl
                  · intro u w hj hA K hK
                    have e_ : u 130 = .bool true := hA.at 130 (by kernel_rfl)
                    clear hA
                    obtain ⟨_, y2, hF3⟩ := hj
                    have HF3 : Hid (Fam w0 w [⟨a, s, v', u_, e, xs⟩, ⟨a2, s2, y2, t_, layE g zs jj oo, layX zs jj oo⟩]) := hF3
                    clear hF3
                    go_simp
                    refine hK.out _ _ ?_
                    clear hK
                    go_wp2
                    go_roundw
                    case rel => exact ⟨k + 1, y2, _, _, by omega, by go_num, HF3.out, HWN.out, HKN.out⟩
                    case measure => simp [intOf]; omega
                · obtain rfl : k = m := by omega
                  have hdk : decide ((k : Int) < (k : Int)) = false := by simp
                  have HK5e : Hid ((Q.mk a s v' u_ e xs).e.k + 5 ≤ 140737488355328) := by have := HKE.out; show e.k + 5 ≤ _; omega
                  have HK5f : Hid ((Q.mk a2 s2 z' t_ g zs).e.k + 5 ≤ 140737488355328) := by have := HKG.out; show g.k + 5 ≤ _; omega
                  have hOE : Rc.Ok e := (HF.out.es 0 (by simp)).ok
                  have hOF : Rc.Ok g := (HF.out.es 1 (by simp)).ok
                  cases one with
                  | true =>
                    have HLESS : Hid (Op.bytesLess (sb g).toList (sb e).toList = true) := sb_lt (lay_order HOD.out HID.out j HW.out HWE.out hOF hOE)
                    have h1 := cell_chg H1.out HF.out.chg
                    clear hOE hOF
                    go_wp2_with fail
                    refine wp_region_last (mk := fun u => #[_, _, _, _, _, _, _, _, _, _, _, _, _, _, _, _, _, _, _, _, _, _, _, _, _, _, _, _, _, _, _, _, _, _, _, _, _, _, _, _, _, _, _, _, _, _, _, _, _, _, _, _, _, _, _, _, _, _, _, _, _, _, _, _, _, _, _, _, _, _, _, _, _, _, _, _, _, _, _, _, _, _, _, _, _, _, _, _, _, _, _, _, _, _, _, _, _, _, _, _, _, _, _, _, _, _, _, _, _, _, _, _, _, _, _, _, _, _, _, _, _, _, _, _, _, _, _, _, _, _, _, _, _, _, _, _, _, _, u 138, u 139, u 140, u 141, u 142, u 143, u 144, _, _, _, _, _, _, _]) (F := fun slot vv ww => (look [(138, .val (.pointer (some ⟨a2, 0, none⟩))), (139, .is (fun q wq => wq.ownsRow w0.heap.size 5 1 q (g.k + 5) (ins .u8 (nums (Rc.by_ g))))), (140, .val (.string (sb g))), (141, .val (.pointer (some ⟨a, 0, none⟩))), (142, .is (fun q wq => wq.ownsRow w0.heap.size 5 1 q (e.k + 5) (ins .u8 (nums (Rc.by_ e))))), (143, .val (.string (sb e))), (144, .val (.bool true))] slot).holds vv ww) (fun slot => match slot with | 138 => u138 | 139 => u139 | 140 => u140 | 141 => u141 | 142 => u142 | 143 => u143 | 144 => u144 | _ => undef) rfl (by kernel_rfl) 7 _ rfl rfl (by kernel_rfl) ?_ (fun _ v w w' hc h => Fact.stays _ v w w' hc h) ?_ ?_
                    · repeat (refine ⟨⟨_, rfl, fun _ _ => rfl⟩, ?_⟩)
                      exact trivial
                    · refine ⟨?_, ?_, ?_, ?_, ?_, ?_, ?_, trivial⟩
                      · intro u w hc hd K hK -- 138
                        clear hd
                        go_simp
                        exact hK.out (.pointer (some ⟨a2, 0, none⟩)) w (Chg.refl _ _) rfl
                      · intro u w hc hd K hK -- 139
                        have h138 : (Fact.val (.pointer (some ⟨a2, 0, none⟩))).holds (u 138) w := hd.get 0 (by kernel_rfl)
                        simp only [Fact.holds] at h138
                        clear hd
                        simp only [h138] at hK
                        go_simp
                        go_at_call 10
                        refine (fam_bytes w0 [⟨a, s, v', u_, e, xs⟩, ⟨a2, s2, z', t_, g, zs⟩] 1 (by simp) w (HF.out.new hc) HK5f.out).mono ?_
                        rintro x w2 ⟨v2, rfl, ho, c2⟩
                        exact hK.out _ _ c2 ⟨w2, owns_base ho (Nat.le_trans HF.out.chg.size hc.size), Chg.refl _ _⟩
                      · intro u w hc hd K hK -- 140
                        have h139 : (Fact.is (fun q wq => wq.ownsRow w0.heap.size 5 1 q (g.k + 5) (ins .u8 (nums (Rc.by_ g))))).holds (u 139) w := hd.get 1 (by kernel_rfl)
                        obtain ⟨q139, h139, p139⟩ := h139
                        clear hd
                        have o139 := ownsRow_keep h139 p139 (fun _ _ g => g)
                        obtain ⟨ad, cap, e139, _⟩ := own_any o139
                        rw [e139] at o139
                        have hcv : (convert 29 9 (.slice ad (g.k + 5) cap)).run Try.prog w = .ok (.string (sb g)) w := conv_own o139
                        clear o139
                        simp only [e139] at hK
                        go_simp
                        exact hK.out (.string (sb g)) w (Chg.refl _ _) rfl
                      · intro u w hc hd K hK -- 141
                        clear hd
                        go_simp
                        exact hK.out (.pointer (some ⟨a, 0, none⟩)) w (Chg.refl _ _) rfl
                      · intro u w hc hd K hK -- 142
                        have h141 : (Fact.val (.pointer (some ⟨a, 0, none⟩))).holds (u 141) w := hd.get 3 (by kernel_rfl)
                        simp only [Fact.holds] at h141
                        clear hd
                        simp only [h141] at hK
                        go_simp
                        go_at_call 10
                        refine (fam_bytes w0 [⟨a, s, v', u_, e, xs⟩, ⟨a2, s2, z', t_, g, zs⟩] 0 (by simp) w (HF.out.new hc) HK5e.out).mono ?_
                        rintro x w2 ⟨v2, rfl, ho, c2⟩
                        exact hK.out _ _ c2 ⟨w2, owns_base ho (Nat.le_trans HF.out.chg.size hc.size), Chg.refl _ _⟩
                      · intro u w hc hd K hK -- 143
                        have h142 : (Fact.is (fun q wq => wq.ownsRow w0.heap.size 5 1 q (e.k + 5) (ins .u8 (nums (Rc.by_ e))))).holds (u 142) w := hd.get 4 (by kernel_rfl)
                        obtain ⟨q142, h142, p142⟩ := h142
                        clear hd
                        have o142 := ownsRow_keep h142 p142 (fun _ _ g => g)
                        obtain ⟨ad, cap, e142, _⟩ := own_any o142
                        rw [e142] at o142
                        have hcv : (convert 29 9 (.slice ad (e.k + 5) cap)).run Try.prog w = .ok (.string (sb e)) w := conv_own o142
                        clear o142
                        simp only [e142] at hK
                        go_simp
                        exact hK.out (.string (sb e)) w (Chg.refl _ _) rfl
                      · intro u w hc hd K hK -- 144
                        have h140 : (Fact.val (.string (sb g))).holds (u 140) w := hd.get 2 (by kernel_rfl)
                        simp only [Fact.holds] at h140
                        have h143 : (Fact.val (.string (sb e))).holds (u 143) w := hd.get 5 (by kernel_rfl)
                        simp only [Fact.holds] at h143
                        clear hd
                        simp only [h140, h143] at hK
                        have hless := HLESS.out
                        go_simp
                        first | exact hK.out (.bool true) w (Chg.refl _ _) rfl | (rw [hless]; exact hK.out (.bool true) w (Chg.refl _ _) rfl)
                    · intro u w hc hA K hK
                      have e_ : u 144 = .bool true := hA.at 144 (by kernel_rfl)
                      clear hA
                      have HC9 : Hid (Chg (fun _ => False) w0 w) := chg_then HF.out.chg hc
                      clear hc
                      go_simp
                      refine hK.out _ _ ?_
                      go_simp
                      go_wp2
                      go_ret
                      exact ⟨rfl, HC9.out⟩
                  | false =>
                    have HLESS : Hid (Op.bytesLess (sb e).toList (sb g).toList = true) := sb_lt (lay_order HOD.out HID.out j HWE.out HW.out hOE hOF)
                    have h1 := cell_chg H1.out HF.out.chg
                    clear hOE hOF
                    go_wp2_with fail
                    refine wp_region_last (mk := fun u => #[_, _, _, _, _, _, _, _, _, _, _, _, _, _, _, _, _, _, _, _, _, _, _, _, _, _, _, _, _, _, _, _, _, _, _, _, _, _, _, _, _, _, _, _, _, _, _, _, _, _, _, _, _, _, _, _, _, _, _, _, _, _, _, _, _, _, _, _, _, _, _, _, _, _, _, _, _, _, _, _, _, _, _, _, _, _, _, _, _, _, _, _, _, _, _, _, _, _, _, _, _, _, _, _, _, _, _, _, _, _, _, _, _, _, _, _, _, _, _, _, _, _, _, _, _, _, _, _, _, _, _, _, _, _, _, _, _, _, _, _, _, _, _, _, _, u 145, u 146, u 147, u 148, u 149, u 150, u 151]) (F := fun slot vv ww => (look [(145, .val (.pointer (some ⟨a, 0, none⟩))), (146, .is (fun q wq => wq.ownsRow w0.heap.size 5 1 q (e.k + 5) (ins .u8 (nums (Rc.by_ e))))), (147, .val (.string (sb e))), (148, .val (.pointer (some ⟨a2, 0, none⟩))), (149, .is (fun q wq => wq.ownsRow w0.heap.size 5 1 q (g.k + 5) (ins .u8 (nums (Rc.by_ g))))), (150, .val (.string (sb g))), (151, .val (.bool true))] slot).holds vv ww) (fun slot => match slot with | 145 => u145 | 146 => u146 | 147 => u147 | 148 => u148 | 149 => u149 | 150 => u150 | 151 => u151 | _ => undef) rfl (by kernel_rfl) 7 _ rfl rfl (by kernel_rfl) ?_ (fun _ v w w' hc h => Fact.stays _ v w w' hc h) ?_ ?_
                    · repeat (refine ⟨⟨_, rfl, fun _ _ => rfl⟩, ?_⟩)
                      exact trivial
                    · refine ⟨?_, ?_, ?_, ?_, ?_, ?_, ?_, trivial⟩
                      · intro u w hc hd K hK -- 145
                        clear hd
                        go_simp
                        exact hK.out (.pointer (some ⟨a, 0, none⟩)) w (Chg.refl _ _) rfl
                      · intro u w hc hd K hK -- 146
                        have h145 : (Fact.val (.pointer (some ⟨a, 0, none⟩))).holds (u 145) w := hd.get 0 (by kernel_rfl)
                        simp only [Fact.holds] at h145
                        clear hd
                        simp only [h145] at hK
                        go_simp
                        go_at_call 10
                        refine (fam_bytes w0 [⟨a, s, v', u_, e, xs⟩, ⟨a2, s2, z', t_, g, zs⟩] 0 (by simp) w (HF.out.new hc) HK5e.out).mono ?_
                        rintro x w2 ⟨v2, rfl, ho, c2⟩
                        exact hK.out _ _ c2 ⟨w2, owns_base ho (Nat.le_trans HF.out.chg.size hc.size), Chg.refl _ _⟩
                      · intro u w hc hd K hK -- 147
                        have h146 : (Fact.is (fun q wq => wq.ownsRow w0.heap.size 5 1 q (e.k + 5) (ins .u8 (nums (Rc.by_ e))))).holds (u 146) w := hd.get 1 (by kernel_rfl)
                        obtain ⟨q146, h146, p146⟩ := h146
                        clear hd
                        have o146 := ownsRow_keep h146 p146 (fun _ _ g => g)
                        obtain ⟨ad, cap, e146, _⟩ := own_any o146
                        rw [e146] at o146
                        have hcv : (convert 29 9 (.slice ad (e.k + 5) cap)).run Try.prog w = .ok (.string (sb e)) w := conv_own o146
                        clear o146
                        simp only [e146] at hK
                        go_simp
                        exact hK.out (.string (sb e)) w (Chg.refl _ _) rfl
                      · intro u w hc hd K hK -- 148
                        clear hd
                        go_simp
                        exact hK.out (.pointer (some ⟨a2, 0, none⟩)) w (Chg.refl _ _) rfl
                      · intro u w hc hd K hK -- 149
                        have h148 : (Fact.val (.pointer (some ⟨a2, 0, none⟩))).holds (u 148) w := hd.get 3 (by kernel_rfl)
                        simp only [Fact.holds] at h148
                        clear hd
                        simp only [h148] at hK
                        go_simp
                        go_at_call 10
                        refine (fam_bytes w0 [⟨a, s, v', u_, e, xs⟩, ⟨a2, s2, z', t_, g, zs⟩] 1 (by simp) w (HF.out.new hc) HK5f.out).mono ?_
                        rintro x w2 ⟨v2, rfl, ho, c2⟩
                        exact hK.out _ _ c2 ⟨w2, owns_base ho (Nat.le_trans HF.out.chg.size hc.size), Chg.refl _ _⟩
                      · intro u w hc hd K hK -- 150
                        have h149 : (Fact.is (fun q wq => wq.ownsRow w0.heap.size 5 1 q (g.k + 5) (ins .u8 (nums (Rc.by_ g))))).holds (u 149) w := hd.get 4 (by kernel_rfl)
                        obtain ⟨q149, h149, p149⟩ := h149
                        clear hd
                        have o149 := ownsRow_keep h149 p149 (fun _ _ g => g)
                        obtain ⟨ad, cap, e149, _⟩ := own_any o149
                        rw [e149] at o149
                        have hcv : (convert 29 9 (.slice ad (g.k + 5) cap)).run Try.prog w = .ok (.string (sb g)) w := conv_own o149
                        clear o149
                        simp only [e149] at hK
                        go_simp
                        exact hK.out (.string (sb g)) w (Chg.refl _ _) rfl
                      · intro u w hc hd K hK -- 151
                        have h147 : (Fact.val (.string (sb e))).holds (u 147) w := hd.get 2 (by kernel_rfl)
                        simp only [Fact.holds] at h147
                        have h150 : (Fact.val (.string (sb g))).holds (u 150) w := hd.get 5 (by kernel_rfl)
                        simp only [Fact.holds] at h150
                        clear hd
                        simp only [h147, h150] at hK
                        have hless := HLESS.out
                        go_simp
                        first | exact hK.out (.bool true) w (Chg.refl _ _) rfl | (rw [hless]; exact hK.out (.bool true) w (Chg.refl _ _) rfl)
                    · intro u w hc hA K hK
                      have e_ : u 151 = .bool true := hA.at 151 (by kernel_rfl)
                      clear hA
                      have HC9 : Hid (Chg (fun _ => False) w0 w) := chg_then HF.out.chg hc
                      clear hc
                      go_simp
                      refine hK.out _ _ ?_
                      go_simp
                      go_wp2
                      go_ret
                      exact ⟨rfl, HC9.out⟩
end Go.Proofs.Ythhjllhcgdkjnaa
