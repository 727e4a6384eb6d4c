/- The walk through RcencAsked; of no statement by itself. -/
import Derived.Test.YthhjllhcgdkjnaaFam
import Derived.Deep.DeepCutAuto
namespace Go.Proofs.Ythhjllhcgdkjnaa
open Go.RowKit
set_option linter.unusedVariables false

theorem fam_fork (w0 : World) (l : List Q) (i : Nat) (hi : i < l.length) (w : World) (h : Fam w0 w l) (hk : l[i].e.k + 2 ≤ 140737488355328) :
    Calls Try.prog 19 #[.pointer (some ⟨l[i].a, 0, none⟩)] w fun x w' => ∃ a' v', x = .returned (.pointer (some ⟨a', 0, none⟩)) ∧ Enc w' w.heap.size a' v' l[i].e ∧ Chg (fun _ => False) w w' := by
  refine (efork_any _ _ _ _ w (h.es i hi).en (by omega)).mono ?_
  rintro x w' ⟨a', v', he, _, hE, hC⟩
  exact ⟨a', v', he, hE, hC⟩
theorem fam_setfork (w0 : World) (l : List Q) (i : Nat) (hi : i < l.length) (w : World) (h : Fam w0 w l) :
    Calls Try.prog 20 #[.pointer (some ⟨l[i].s, 0, none⟩)] w fun x w' => ∃ s' u', x = .returned (.pointer (some ⟨s', 0, none⟩)) ∧ St w' w.heap.size s' u' l[i].xs ∧ Chg (fun _ => False) w w' := by
  have hl : l[i].xs.length = 4 := (h.es i hi).len
  refine (fork_any _ _ _ _ w (h.es i hi).st (by omega)).mono ?_
  rintro x w' ⟨a', v', he, _, hE, hC⟩
  exact ⟨a', v', he, hE, hC⟩
theorem fam_forked {w0 w w1 w2 : World} {l : List Q} (h : Fam w0 w l) (i : Nat) (hi : i < l.length) {a s : Nat} {v u : Value} (c1 : Chg (fun _ => False) w w1) (hE : Enc w1 w.heap.size a v l[i].e) (c2 : Chg (fun _ => False) w1 w2) (hS : St w2 w1.heap.size s u l[i].xs) : Fam w0 w2 (l ++ [⟨a, s, v, u, l[i].e, l[i].xs⟩]) :=
  h.push (q := ⟨a, s, v, u, l[i].e, l[i].xs⟩) (chg_then c1 c2) ⟨hE.new c2, ⟨Nat.le_trans c1.size hS.ha, hS.blk, owns_base hS.own c1.size⟩, (h.es i hi).inn, (h.es i hi).len, (h.es i hi).ok⟩

set_option maxHeartbeats 16000000 in
set_option maxRecDepth 100000 in
theorem asked_any (av : Option Addr) (n cv : Nat) (at_ : Int) (rv : Option Addr) (m cr : Nat) (w0 : World) (hV : Bits w0 av n) (hn : n ≤ 8796093022208) (hR : Bits w0 rv m) (hm : m ≤ 8796093022208) : Calls Try.prog 6 #[.slice av n cv, .int .i64 at_, .slice rv m cr] w0 fun e w' => e = .returned (.bool true) ∧ Chg (fun _ => False) w0 w' := by
  have HV : Hid (Bits w0 av n) := hV
  have HR : Hid (Bits w0 rv m) := hR
  clear hV hR
  go_enter Try.func6, Try.ntmps6
  go_wp2_with fail
  refine (fam_begun w0 [] _ (Fam.nil w0)).mono ?_
  rintro x wa ⟨a1, s1, p1, r1, rfl, hF1⟩
  have HF1 : Hid (Fam w0 wa [⟨a1, s1, p1, r1, e0, x0⟩]) := hF1
  clear hF1
  go_wp2_with fail
  refine (fam_begun w0 _ _ HF1.out).mono ?_
  rintro x wb ⟨a2, s2, p2, r2, rfl, hF2⟩
  have HF2 : Hid (Fam w0 wb [⟨a1, s1, p1, r1, e0, x0⟩, ⟨a2, s2, p2, r2, e0, x0⟩]) := hF2
  clear hF2 HF1
  go_wp2_with fail
  refine (fam_begun w0 _ _ HF2.out).mono ?_
  rintro x w1 ⟨a3, s3, p3, r3, rfl, hF3⟩
  have HF : Hid (Fam w0 w1 [⟨a1, s1, p1, r1, e0, x0⟩, ⟨a2, s2, p2, r2, e0, x0⟩, ⟨a3, s3, p3, r3, e0, x0⟩]) := hF3
  clear hF3 HF2
  obtain ⟨D, hD, hcase⟩ : ∃ D : Nat, D ≤ n ∧ ((at_ < 0 ∧ D = n) ∨ (0 ≤ at_ ∧ (n : Int) < at_ ∧ D = n) ∨ (0 ≤ at_ ∧ at_ ≤ (n : Int) ∧ at_ = (D : Int))) := by
    by_cases h0 : at_ < 0
    · exact ⟨n, Nat.le_refl _, .inl ⟨h0, rfl⟩⟩
    · by_cases h1 : (n : Int) < at_
      · exact ⟨n, Nat.le_refl _, .inr (.inl ⟨by omega, h1, rfl⟩)⟩
      · exact ⟨at_.toNat, by omega, .inr (.inr ⟨by omega, by omega, by omega⟩)⟩
  go_upto_region 6 with fail
  go_cut [50] (fun s50 wx => ((s50 = .bool true ∧ D = n) ∨ (s50 = .bool false ∧ at_ = (D : Int))) ∧ w1 = wx)
  case first =>
    rcases hcase with ⟨h0, h1⟩ | ⟨h0, h1, h2⟩ | ⟨h0, h1, h2⟩
    · go_wp2_with fail
      go_meet
      case rel => exact ⟨.inl ⟨rfl, h1⟩, rfl⟩
    · have hd : decide (at_ < 0) = false := by simp; omega
      have HX : Hid (D = n) := h2
      clear h2
      go_wp2_with fail
      go_meet
      case rel => exact ⟨.inl ⟨by first | rfl | (simp; omega), HX.out⟩, rfl⟩
    · have hd : decide (at_ < 0) = false := by simp; omega
      have hd2 : decide ((n : Int) < at_) = false := by simp; omega
      have HX : Hid (at_ = (D : Int)) := h2
      clear h2
      go_wp2_with fail
      go_meet
      case rel => exact ⟨.inr ⟨by first | rfl | (simp; omega), HX.out⟩, rfl⟩
  case rest =>
    clear hcase
    obtain ⟨hcase, rfl⟩ := hcut
    go_upto_if 50 with fail
    go_cut [1] (fun s1_ wx => s1_ = .int .i64 (D : Int) ∧ w1 = wx)
    case first =>
      rcases hcase with ⟨rfl, h1⟩ | ⟨rfl, h1⟩
      · subst h1
        go_wp2_with fail
        go_meet
        case rel => exact ⟨rfl, rfl⟩
      · subst h1
        go_wp2_with fail
        go_meet
        case rel => exact ⟨rfl, rfl⟩
    case rest =>
      clear hcase
      obtain ⟨rfl, rfl⟩ := hcut
      go_wp2_with fail
      have HKF : Hid ((Q.mk a2 s2 p2 r2 e0 x0).e.k + 2 ≤ 140737488355328) := by show e0.k + 2 ≤ _; decide +kernel
      refine (fam_fork w0 _ 1 (by simp) _ HF.out HKF.out).mono ?_
      rintro x w5 ⟨a4, v4, rfl, _, c5⟩
      have HF5 : Hid (Fam w0 w5 [⟨a1, s1, p1, r1, e0, x0⟩, ⟨a2, s2, p2, r2, e0, x0⟩, ⟨a3, s3, p3, r3, e0, x0⟩]) := HF.out.new c5
      clear c5 HF
      go_wp2_with fail
      refine (fam_setfork w0 _ 1 (by simp) _ HF5.out).mono ?_
      rintro x w6 ⟨s4, r4, rfl, _, c6⟩
      have HF6 : Hid (Fam w0 w6 [⟨a1, s1, p1, r1, e0, x0⟩, ⟨a2, s2, p2, r2, e0, x0⟩, ⟨a3, s3, p3, r3, e0, x0⟩]) := HF5.out.new c6
      clear c6 HF5 HKF
      go_wp2_with fail
      go_loopw [13, 14, 59] (fun s13 s14 iv wr => ∃ (k : Nat) (v1 v2 v3 : Value) (e h : Rc.E) (xs zs : List Int), k ≤ n ∧ iv = .int .i64 (k : Int) ∧ Hid (e.k ≤ k ∧ h.k ≤ k) ∧ ((k ≤ D ∧ Hid (Fam w0 wr [⟨a1, s1, v1, r1, e, xs⟩, ⟨a2, s2, v2, r2, e, xs⟩, ⟨a3, s3, v3, r3, e, xs⟩])) ∨ (D < k ∧ ∃ a4 s4 v4 r4, s13 = .pointer (some ⟨a4, 0, none⟩) ∧ s14 = .pointer (some ⟨s4, 0, none⟩) ∧ Hid (Fam w0 wr [⟨a1, s1, v1, r1, e, xs⟩, ⟨a2, s2, v2, r2, e, xs⟩, ⟨a3, s3, v3, r3, h, zs⟩, ⟨a4, s4, v4, r4, h, zs⟩])))) (fun _ _ iv _ => n - (intOf iv).toNat)
      case atStart => exact ⟨0, p1, p2, p3, e0, e0, x0, x0, Nat.zero_le _, rfl, by show e0.k ≤ 0 ∧ e0.k ≤ 0; decide +kernel, .inl ⟨Nat.zero_le _, HF6.out⟩⟩
      case round =>
        clear HF6
        obtain ⟨k, v1, v2, v3, e, h, xs, zs, hk, rfl, HKS, hst⟩ := hrel
        have HKF : Hid (e.k + 2 ≤ 140737488355328) := by have := HKS.out.1; show e.k + 2 ≤ _; omega
        have HKG : Hid (h.k + 2 ≤ 140737488355328) := by have := HKS.out.2; show h.k + 2 ≤ _; omega
        by_cases hlt : k < n
        · have HCH : Hid (Chg (fun _ => False) w0 wr) := by
            rcases hst with ⟨_, h1⟩ | ⟨_, _, _, _, _, _, _, h1⟩
            · exact h1.out.chg
            · exact h1.out.chg
          obtain ⟨i, one, hrow0, hrow⟩ := (HV.out).row hlt HCH.out
          obtain ⟨b, off, ea, h0, h1, hi⟩ := hrow
          clear hrow0
          subst ea
          have HI : Hid (I64 i) := hi
          have cB := chg_one wr (.cells #[.int .i64 i, .bool one] 38)
          have HBw2 : Hid ((wr.alloc (.cells #[.int .i64 i, .bool one] 38)).heap[wr.heap.size]? = some (.cells #[.int .i64 i, .bool one] 38 (0, 0))) := heap_alloc_last wr _
          have hst2 : (k ≤ D ∧ Hid (Fam w0 (wr.alloc (.cells #[.int .i64 i, .bool one] 38)) [⟨a1, s1, v1, r1, e, xs⟩, ⟨a2, s2, v2, r2, e, xs⟩, ⟨a3, s3, v3, r3, e, xs⟩])) ∨ (D < k ∧ ∃ a4 s4 v4 r4, u13 = .pointer (some ⟨a4, 0, none⟩) ∧ u14 = .pointer (some ⟨s4, 0, none⟩) ∧ Hid (Fam w0 (wr.alloc (.cells #[.int .i64 i, .bool one] 38)) [⟨a1, s1, v1, r1, e, xs⟩, ⟨a2, s2, v2, r2, e, xs⟩, ⟨a3, s3, v3, r3, h, zs⟩, ⟨a4, s4, v4, r4, h, zs⟩])) := by
            rcases hst with ⟨h1, h2⟩ | ⟨h1, a4, s4, v4, r4, h2, h3, h4⟩
            · exact .inl ⟨h1, h2.out.new cB⟩
            · exact .inr ⟨h1, a4, s4, v4, r4, h2, h3, h4.out.new cB⟩
          clear cB hi hst
          go_upto_region 13 with fail
          clear h0 h1 HCH
          generalize wr.alloc (.cells #[.int .i64 i, .bool one] 38) = w2 at *
          generalize wr.heap.size = BG at *
          obtain ⟨j, hjn⟩ : ∃ j, num i = j := ⟨_, rfl⟩
          have HJ : Hid (num i = j) := hjn
          have hj4 : j ≤ 4 := by rw [← hjn]; exact num_le i
          clear hjn
          go_upto_if 66 with fail
          go_cut [13, 14] (fun s13 s14 wx => Hid (wx.heap[BG]? = some (.cells #[.int .i64 i, .bool one] 38 (0, 0))) ∧ ((k < D ∧ Hid (Fam w0 wx [⟨a1, s1, v1, r1, e, xs⟩, ⟨a2, s2, v2, r2, e, xs⟩, ⟨a3, s3, v3, r3, e, xs⟩])) ∨ (D ≤ k ∧ ∃ a4 s4 v4 r4 h zs, h.k ≤ k ∧ s13 = .pointer (some ⟨a4, 0, none⟩) ∧ s14 = .pointer (some ⟨s4, 0, none⟩) ∧ Hid (Fam w0 wx [⟨a1, s1, v1, r1, e, xs⟩, ⟨a2, s2, v2, r2, e, xs⟩, ⟨a3, s3, v3, r3, h, zs⟩, ⟨a4, s4, v4, r4, h, zs⟩]))))
          case first =>
            rcases Nat.lt_trichotomy k D with hc | hc | hc
            · have hd : ((k : Int) == (D : Int)) = false := by simp; omega
              have hd2 : decide ((k : Int) = (D : Int)) = false := by simp; omega
              have HF : Hid (Fam w0 w2 [⟨a1, s1, v1, r1, e, xs⟩, ⟨a2, s2, v2, r2, e, xs⟩, ⟨a3, s3, v3, r3, e, xs⟩]) := by
                rcases hst2 with ⟨_, h2⟩ | ⟨h1, _⟩
                · exact h2
                · omega
              clear hst2
              go_wp2_with fail
              go_meet
              case rel => exact ⟨HBw2.out, .inl ⟨hc, HF.out⟩⟩
            · subst hc
              have HF : Hid (Fam w0 w2 [⟨a1, s1, v1, r1, e, xs⟩, ⟨a2, s2, v2, r2, e, xs⟩, ⟨a3, s3, v3, r3, e, xs⟩]) := by
                rcases hst2 with ⟨_, h2⟩ | ⟨h1, _⟩
                · exact h2
                · omega
              clear hst2
              go_wp2_with fail
              refine (fam_fork w0 [⟨a1, s1, v1, r1, e, xs⟩, ⟨a2, s2, v2, r2, e, xs⟩, ⟨a3, s3, v3, r3, e, xs⟩] 1 (by simp) _ HF.out HKF.out).mono ?_
              rintro x w5 ⟨a4, v4, rfl, hE4, c5⟩
              have HE4 : Hid (Enc w5 w2.heap.size a4 v4 e) := hE4
              have HC5 : Hid (Chg (fun _ => False) w2 w5) := c5
              have HF5 : Hid (Fam w0 w5 [⟨a1, s1, v1, r1, e, xs⟩, ⟨a2, s2, v2, r2, e, xs⟩, ⟨a3, s3, v3, r3, e, xs⟩]) := HF.out.new c5
              clear hE4 c5
              go_wp2_with fail
              refine (fam_setfork w0 [⟨a1, s1, v1, r1, e, xs⟩, ⟨a2, s2, v2, r2, e, xs⟩, ⟨a3, s3, v3, r3, e, xs⟩] 1 (by simp) _ HF5.out).mono ?_
              rintro x w6 ⟨s4, r4, rfl, hS4, c6⟩
              have HF6 : Hid (Fam w0 w6 [⟨a1, s1, v1, r1, e, xs⟩, ⟨a2, s2, v2, r2, e, xs⟩, ⟨a3, s3, v3, r3, e, xs⟩, ⟨a4, s4, v4, r4, e, xs⟩]) := fam_forked HF.out 1 (by simp) HC5.out HE4.out c6 hS4
              have HB6 : Hid (w6.heap[BG]? = some (.cells #[.int .i64 i, .bool one] 38 (0, 0))) := blk_keep (blk_keep HBw2.out HC5.out (fun f => f)) c6 (fun f => f)
              clear hS4 c6 HF HF5 HE4 HC5
              go_wp2_with fail
              go_meet
              case rel => exact ⟨HB6.out, .inr ⟨Nat.le_refl _, a4, s4, v4, r4, e, xs, HKS.out.1, rfl, rfl, HF6.out⟩⟩
            · have hd : ((k : Int) == (D : Int)) = false := by simp; omega
              have hd2 : decide ((k : Int) = (D : Int)) = false := by simp; omega
              obtain ⟨a4, s4, v4, r4, q13, q14, HF⟩ : ∃ a4 s4 v4 r4, u13 = .pointer (some ⟨a4, 0, none⟩) ∧ u14 = .pointer (some ⟨s4, 0, none⟩) ∧ Hid (Fam w0 w2 [⟨a1, s1, v1, r1, e, xs⟩, ⟨a2, s2, v2, r2, e, xs⟩, ⟨a3, s3, v3, r3, h, zs⟩, ⟨a4, s4, v4, r4, h, zs⟩]) := by
                rcases hst2 with ⟨h1, _⟩ | ⟨_, h2⟩
                · omega
                · exact h2
              clear hst2
              have HQ13 : Hid (u13 = .pointer (some ⟨a4, 0, none⟩)) := q13
              have HQ14 : Hid (u14 = .pointer (some ⟨s4, 0, none⟩)) := q14
              clear q13 q14
              go_wp2_with fail
              go_meet
              case rel => exact ⟨HBw2.out, .inr ⟨by omega, a4, s4, v4, r4, h, zs, HKS.out.2, HQ13.out, HQ14.out, HF.out⟩⟩
          case rest =>
            clear hst2 HBw2 w2
            generalize wc = w2 at *
            obtain ⟨HBw2, hst⟩ := hcut
            have HK5 : Hid ((layE e xs j one).k + 5 ≤ 140737488355328) := by have h1 := (layE_k e xs j one).2; have := HKS.out.1; show _ + 5 ≤ _; omega
            have HEK : Hid ((layE e xs j one).k ≤ k + 1) := by have h1 := (layE_k e xs j one).2; have := HKS.out.1; show _ ≤ k + 1; omega
            rcases hst with ⟨hkD, HFw2⟩ | ⟨hkD, a4, s4, v4, r4, h, zs, hhk, rfl, rfl, HFw2⟩
            · have hdD : decide ((k : Int) < (D : Int)) = true := by simp; omega
              have g0 := cell0 HBw2.out
              go_wp2_with fail
              refine (number_any i HI.out _).mono ?_
              rintro x w_ ⟨rfl, rfl⟩
              rw [HJ.out]
              clear g0
              have g1w2 := cell1 HBw2.out
              go_wp2_with fail
              refine (fam_lays w0 [⟨a1, s1, v1, r1, e, xs⟩, ⟨a2, s2, v2, r2, e, xs⟩, ⟨a3, s3, v3, r3, e, xs⟩] 0 (by simp) j one _ HFw2.out hj4 HKF.out).mono ?_
              rintro x w3 ⟨rfl, q1, hF_, hbx⟩
              have HFw3 : Hid (Fam w0 w3 [⟨a1, s1, q1, r1, layE e xs j one, layX xs j one⟩, ⟨a2, s2, v2, r2, e, xs⟩, ⟨a3, s3, v3, r3, e, xs⟩]) := hF_
              have HBw3 : Hid (w3.heap[BG]? = some (.cells #[.int .i64 i, .bool one] 38 (0, 0))) := hbx _ _ HBw2.out
              have g1w3 := cell1 HBw3.out
              clear hF_ hbx HFw2 HBw2 g1w2
              go_wp2_with fail
              refine (fam_lays w0 [⟨a1, s1, q1, r1, layE e xs j one, layX xs j one⟩, ⟨a2, s2, v2, r2, e, xs⟩, ⟨a3, s3, v3, r3, e, xs⟩] 1 (by simp) j one _ HFw3.out hj4 HKF.out).mono ?_
              rintro x w4 ⟨rfl, q2, hF_, hbx⟩
              have HFw4 : Hid (Fam w0 w4 [⟨a1, s1, q1, r1, layE e xs j one, layX xs j one⟩, ⟨a2, s2, q2, r2, layE e xs j one, layX xs j one⟩, ⟨a3, s3, v3, r3, e, xs⟩]) := hF_
              have HBw4 : Hid (w4.heap[BG]? = some (.cells #[.int .i64 i, .bool one] 38 (0, 0))) := hbx _ _ HBw3.out
              have g1w4 := cell1 HBw4.out
              clear hF_ hbx HFw3 HBw3 g1w3
              go_wp2_with fail
              refine (fam_lays w0 [⟨a1, s1, q1, r1, layE e xs j one, layX xs j one⟩, ⟨a2, s2, q2, r2, layE e xs j one, layX xs j one⟩, ⟨a3, s3, v3, r3, e, xs⟩] 2 (by simp) j one _ HFw4.out hj4 HKF.out).mono ?_
              rintro x w7 ⟨rfl, q3, hF_, hbx⟩
              have HFw7 : Hid (Fam w0 w7 [⟨a1, s1, q1, r1, layE e xs j one, layX xs j one⟩, ⟨a2, s2, q2, r2, layE e xs j one, layX xs j one⟩, ⟨a3, s3, q3, r3, layE e xs j one, layX xs j one⟩]) := hF_
              have HBw7 : Hid (w7.heap[BG]? = some (.cells #[.int .i64 i, .bool one] 38 (0, 0))) := hbx _ _ HBw4.out
              have g1w7 := cell1 HBw7.out
              clear hF_ hbx HFw4 HBw4 g1w4
              go_wp2_with fail
              refine (fam_size w0 [⟨a1, s1, q1, r1, layE e xs j one, layX xs j one⟩, ⟨a2, s2, q2, r2, layE e xs j one, layX xs j one⟩, ⟨a3, s3, q3, r3, layE e xs j one, layX xs j one⟩] 1 (by simp) _ HFw7.out HK5.out).mono ?_
              rintro x w8 ⟨rfl, c8⟩
              have HF8 : Hid (Fam w0 w8 [⟨a1, s1, q1, r1, layE e xs j one, layX xs j one⟩, ⟨a2, s2, q2, r2, layE e xs j one, layX xs j one⟩, ⟨a3, s3, q3, r3, layE e xs j one, layX xs j one⟩]) := HFw7.out.new c8
              clear c8
              go_wp2_with fail
              refine (fam_bytes w0 [⟨a1, s1, q1, r1, layE e xs j one, layX xs j one⟩, ⟨a2, s2, q2, r2, layE e xs j one, layX xs j one⟩, ⟨a3, s3, q3, r3, layE e xs j one, layX xs j one⟩] 1 (by simp) _ HF8.out HK5.out).mono ?_
              rintro x w9 ⟨v9, rfl, ho9, c9⟩
              obtain ⟨ad9, cap9, rfl, _⟩ := own_any ho9
              have HF9 : Hid (Fam w0 w9 [⟨a1, s1, q1, r1, layE e xs j one, layX xs j one⟩, ⟨a2, s2, q2, r2, layE e xs j one, layX xs j one⟩, ⟨a3, s3, q3, r3, layE e xs j one, layX xs j one⟩]) := HF8.out.new c9
              have hlen9 : (layE e xs j one).k + 5 ≤ 140737488355328 := HK5.out
              clear c9 ho9 HF8
              simp only [List.getElem_cons_zero, List.getElem_cons_succ]
              go_wp2
              go_roundw
              case rel => exact ⟨k + 1, q1, q2, q3, _, _, _, [], by omega, by go_num, ⟨HEK.out, HEK.out⟩, .inl ⟨by omega, HF9.out⟩⟩
              case measure => simp [intOf]; omega
            · have hdD : decide ((k : Int) < (D : Int)) = false := by simp; omega
              have HHK : Hid (h.k ≤ k + 1) := Nat.le_succ_of_le hhk
              have g0 := cell0 HBw2.out
              go_wp2_with fail
              refine (number_any i HI.out _).mono ?_
              rintro x w_ ⟨rfl, rfl⟩
              rw [HJ.out]
              clear g0
              have g1w2 := cell1 HBw2.out
              go_wp2_with fail
              refine (fam_lays w0 [⟨a1, s1, v1, r1, e, xs⟩, ⟨a2, s2, v2, r2, e, xs⟩, ⟨a3, s3, v3, r3, h, zs⟩, ⟨a4, s4, v4, r4, h, zs⟩] 0 (by simp) j one _ HFw2.out hj4 HKF.out).mono ?_
              rintro x w3 ⟨rfl, q1, hF_, hbx⟩
              have HFw3 : Hid (Fam w0 w3 [⟨a1, s1, q1, r1, layE e xs j one, layX xs j one⟩, ⟨a2, s2, v2, r2, e, xs⟩, ⟨a3, s3, v3, r3, h, zs⟩, ⟨a4, s4, v4, r4, h, zs⟩]) := hF_
              have HBw3 : Hid (w3.heap[BG]? = some (.cells #[.int .i64 i, .bool one] 38 (0, 0))) := hbx _ _ HBw2.out
              have g1w3 := cell1 HBw3.out
              clear hF_ hbx HFw2 HBw2 g1w2
              go_wp2_with fail
              refine (fam_lays w0 [⟨a1, s1, q1, r1, layE e xs j one, layX xs j one⟩, ⟨a2, s2, v2, r2, e, xs⟩, ⟨a3, s3, v3, r3, h, zs⟩, ⟨a4, s4, v4, r4, h, zs⟩] 1 (by simp) j one _ HFw3.out hj4 HKF.out).mono ?_
              rintro x w4 ⟨rfl, q2, hF_, hbx⟩
              have HFw4 : Hid (Fam w0 w4 [⟨a1, s1, q1, r1, layE e xs j one, layX xs j one⟩, ⟨a2, s2, q2, r2, layE e xs j one, layX xs j one⟩, ⟨a3, s3, v3, r3, h, zs⟩, ⟨a4, s4, v4, r4, h, zs⟩]) := hF_
              have HBw4 : Hid (w4.heap[BG]? = some (.cells #[.int .i64 i, .bool one] 38 (0, 0))) := hbx _ _ HBw3.out
              have g1w4 := cell1 HBw4.out
              clear hF_ hbx HFw3 HBw3 g1w3
              go_wp2_with fail
              refine (fam_size w0 [⟨a1, s1, q1, r1, layE e xs j one, layX xs j one⟩, ⟨a2, s2, q2, r2, layE e xs j one, layX xs j one⟩, ⟨a3, s3, v3, r3, h, zs⟩, ⟨a4, s4, v4, r4, h, zs⟩] 1 (by simp) _ HFw4.out HK5.out).mono ?_
              rintro x w8 ⟨rfl, c8⟩
              have HF8 : Hid (Fam w0 w8 [⟨a1, s1, q1, r1, layE e xs j one, layX xs j one⟩, ⟨a2, s2, q2, r2, layE e xs j one, layX xs j one⟩, ⟨a3, s3, v3, r3, h, zs⟩, ⟨a4, s4, v4, r4, h, zs⟩]) := HFw4.out.new c8
              clear c8
              go_wp2_with fail
              refine (fam_bytes w0 [⟨a1, s1, q1, r1, layE e xs j one, layX xs j one⟩, ⟨a2, s2, q2, r2, layE e xs j one, layX xs j one⟩, ⟨a3, s3, v3, r3, h, zs⟩, ⟨a4, s4, v4, r4, h, zs⟩] 1 (by simp) _ HF8.out HK5.out).mono ?_
              rintro x w9 ⟨v9, rfl, ho9, c9⟩
              obtain ⟨ad9, cap9, rfl, _⟩ := own_any ho9
              have HF9 : Hid (Fam w0 w9 [⟨a1, s1, q1, r1, layE e xs j one, layX xs j one⟩, ⟨a2, s2, q2, r2, layE e xs j one, layX xs j one⟩, ⟨a3, s3, v3, r3, h, zs⟩, ⟨a4, s4, v4, r4, h, zs⟩]) := HF8.out.new c9
              have hlen9 : (layE e xs j one).k + 5 ≤ 140737488355328 := HK5.out
              clear c9 ho9 HF8
              simp only [List.getElem_cons_zero, List.getElem_cons_succ]
              go_wp2
              go_roundw
              case rel => exact ⟨k + 1, q1, q2, v3, _, h, _, zs, by omega, by go_num, ⟨HEK.out, HHK.out⟩, .inr ⟨by omega, a4, s4, v4, r4, rfl, rfl, HF9.out⟩⟩
              case measure => simp [intOf]; omega
        · obtain rfl : n = k := by omega
          have hdk : decide ((n : Int) < (n : Int)) = false := by simp
          go_upto_if 114 with fail
          go_cut [13, 14] (fun s13 s14 wx => ∃ a4 s4 v4 r4 h zs, h.k ≤ n ∧ s13 = .pointer (some ⟨a4, 0, none⟩) ∧ s14 = .pointer (some ⟨s4, 0, none⟩) ∧ Hid (Fam w0 wx [⟨a1, s1, v1, r1, e, xs⟩, ⟨a2, s2, v2, r2, e, xs⟩, ⟨a3, s3, v3, r3, h, zs⟩, ⟨a4, s4, v4, r4, h, zs⟩]))
          case first =>
            by_cases hDn : n = D
            · subst hDn
              have HF : Hid (Fam w0 wr [⟨a1, s1, v1, r1, e, xs⟩, ⟨a2, s2, v2, r2, e, xs⟩, ⟨a3, s3, v3, r3, e, xs⟩]) := by
                rcases hst with ⟨_, h2⟩ | ⟨h1, _⟩
                · exact h2
                · omega
              clear hst
              go_wp2_with fail
              refine (fam_fork w0 [⟨a1, s1, v1, r1, e, xs⟩, ⟨a2, s2, v2, r2, e, xs⟩, ⟨a3, s3, v3, r3, e, xs⟩] 1 (by simp) _ HF.out HKF.out).mono ?_
              rintro x w5 ⟨a4, v4, rfl, hE4, c5⟩
              have HE4 : Hid (Enc w5 wr.heap.size a4 v4 e) := hE4
              have HC5 : Hid (Chg (fun _ => False) wr w5) := c5
              have HF5 : Hid (Fam w0 w5 [⟨a1, s1, v1, r1, e, xs⟩, ⟨a2, s2, v2, r2, e, xs⟩, ⟨a3, s3, v3, r3, e, xs⟩]) := HF.out.new c5
              clear hE4 c5
              go_wp2_with fail
              refine (fam_setfork w0 [⟨a1, s1, v1, r1, e, xs⟩, ⟨a2, s2, v2, r2, e, xs⟩, ⟨a3, s3, v3, r3, e, xs⟩] 1 (by simp) _ HF5.out).mono ?_
              rintro x w6 ⟨s4, r4, rfl, hS4, c6⟩
              have HF6 : Hid (Fam w0 w6 [⟨a1, s1, v1, r1, e, xs⟩, ⟨a2, s2, v2, r2, e, xs⟩, ⟨a3, s3, v3, r3, e, xs⟩, ⟨a4, s4, v4, r4, e, xs⟩]) := fam_forked HF.out 1 (by simp) HC5.out HE4.out c6 hS4
              clear hS4 c6 HF HF5 HE4 HC5
              go_wp2_with fail
              go_meet
              case rel => exact ⟨a4, s4, v4, r4, e, xs, HKS.out.1, rfl, rfl, HF6.out⟩
            · have hd : ((D : Int) == (n : Int)) = false := by simp; omega
              have hd2 : decide ((D : Int) = (n : Int)) = false := by simp; omega
              obtain ⟨a4, s4, v4, r4, q13, q14, HF⟩ : ∃ a4 s4 v4 r4, u13 = .pointer (some ⟨a4, 0, none⟩) ∧ u14 = .pointer (some ⟨s4, 0, none⟩) ∧ Hid (Fam w0 wr [⟨a1, s1, v1, r1, e, xs⟩, ⟨a2, s2, v2, r2, e, xs⟩, ⟨a3, s3, v3, r3, h, zs⟩, ⟨a4, s4, v4, r4, h, zs⟩]) := by
                rcases hst with ⟨h1, _⟩ | ⟨_, h2⟩
                · omega
                · exact h2
              clear hst
              have HQ13 : Hid (u13 = .pointer (some ⟨a4, 0, none⟩)) := q13
              have HQ14 : Hid (u14 = .pointer (some ⟨s4, 0, none⟩)) := q14
              clear q13 q14
              go_wp2_with fail
              go_meet
              case rel => exact ⟨a4, s4, v4, r4, h, zs, HKS.out.2, HQ13.out, HQ14.out, HF.out⟩
          case rest =>
            have HKE : Hid (e.k ≤ n) := HKS.out.1
            clear hst HKS h zs HKG wr
            generalize wc = wr at *
            obtain ⟨a4, s4, v4, r4, h, zs, hhk, rfl, rfl, HF⟩ := hcut
            have HHK : Hid (h.k ≤ n + 0) := hhk
            clear hhk
            go_wp2_with fail
            go_loopw [127] (fun iv wr => ∃ (k : Nat) (v3 v4 : Value) (h : Rc.E) (zs : List Int), k ≤ m ∧ iv = .int .i64 (k : Int) ∧ Hid (h.k ≤ n + k) ∧ Hid (Fam w0 wr [⟨a1, s1, v1, r1, e, xs⟩, ⟨a2, s2, v2, r2, e, xs⟩, ⟨a3, s3, v3, r3, h, zs⟩, ⟨a4, s4, v4, r4, h, zs⟩])) (fun iv _ => m - (intOf iv).toNat)
            case atStart => exact ⟨0, v3, v4, h, zs, Nat.zero_le _, rfl, HHK.out, HF.out⟩
            case round =>
              clear HF HHK
              obtain ⟨k, v3, v4, h, zs, hk, rfl, HHK, HF⟩ := hrel
              by_cases hlt : k < m
              · skip
                obtain ⟨i, one, hrow0, hrow⟩ := (HR.out).row hlt HF.out.chg
                obtain ⟨b, off, ea, h0, h1, hi⟩ := hrow
                clear hrow0
                subst ea
                have HI : Hid (I64 i) := hi
                have cB := chg_one wr (.cells #[.int .i64 i, .bool one] 38)
                have HCB : Hid (Chg (fun _ => False) wr (wr.alloc (.cells #[.int .i64 i, .bool one] 38))) := cB
                have HBw2 : Hid ((wr.alloc (.cells #[.int .i64 i, .bool one] 38)).heap[wr.heap.size]? = some (.cells #[.int .i64 i, .bool one] 38 (0, 0))) := heap_alloc_last wr _
                have HFw2 : Hid (Fam w0 (wr.alloc (.cells #[.int .i64 i, .bool one] 38)) [⟨a1, s1, v1, r1, e, xs⟩, ⟨a2, s2, v2, r2, e, xs⟩, ⟨a3, s3, v3, r3, h, zs⟩, ⟨a4, s4, v4, r4, h, zs⟩]) := HF.out.new HCB.out
                clear cB hi
                go_upto_region 30 with fail
                clear h0 h1 HCB HF
                generalize wr.alloc (.cells #[.int .i64 i, .bool one] 38) = w2 at *
                generalize wr.heap.size = BG at *
                obtain ⟨j, hjn⟩ : ∃ j, num i = j := ⟨_, rfl⟩
                have HJ : Hid (num i = j) := hjn
                have hj4 : j ≤ 4 := by rw [← hjn]; exact num_le i
                clear hjn
                have HKH : Hid (h.k + 2 ≤ 140737488355328) := by have := HHK.out; show h.k + 2 ≤ _; omega
                have HHN : Hid ((layE h zs j one).k ≤ n + (k + 1)) := by have h1 := (layE_k h zs j one).2; have := HHK.out; show _ ≤ _; omega
                clear HHK
                have g0 := cell0 HBw2.out
                go_wp2_with fail
                refine (number_any i HI.out _).mono ?_
                rintro x w_ ⟨rfl, rfl⟩
                rw [HJ.out]
                clear g0
                have g1w2 := cell1 HBw2.out
                go_wp2_with fail
                refine (fam_lays w0 [⟨a1, s1, v1, r1, e, xs⟩, ⟨a2, s2, v2, r2, e, xs⟩, ⟨a3, s3, v3, r3, h, zs⟩, ⟨a4, s4, v4, r4, h, zs⟩] 3 (by simp) j one _ HFw2.out hj4 HKH.out).mono ?_
                rintro x w3 ⟨rfl, q4, hF_, hbx⟩
                have HFw3 : Hid (Fam w0 w3 [⟨a1, s1, v1, r1, e, xs⟩, ⟨a2, s2, v2, r2, e, xs⟩, ⟨a3, s3, v3, r3, h, zs⟩, ⟨a4, s4, q4, r4, layE h zs j one, layX zs j one⟩]) := hF_
                have HBw3 : Hid (w3.heap[BG]? = some (.cells #[.int .i64 i, .bool one] 38 (0, 0))) := hbx _ _ HBw2.out
                have g1w3 := cell1 HBw3.out
                clear hF_ hbx HFw2 HBw2 g1w2
                go_wp2_with fail
                refine (fam_lays w0 [⟨a1, s1, v1, r1, e, xs⟩, ⟨a2, s2, v2, r2, e, xs⟩, ⟨a3, s3, v3, r3, h, zs⟩, ⟨a4, s4, q4, r4, layE h zs j one, layX zs j one⟩] 2 (by simp) j one _ HFw3.out hj4 HKH.out).mono ?_
                rintro x w4 ⟨rfl, q3, hF_, hbx⟩
                have HFw4 : Hid (Fam w0 w4 [⟨a1, s1, v1, r1, e, xs⟩, ⟨a2, s2, v2, r2, e, xs⟩, ⟨a3, s3, q3, r3, layE h zs j one, layX zs j one⟩, ⟨a4, s4, q4, r4, layE h zs j one, layX zs j one⟩]) := hF_
                have HBw4 : Hid (w4.heap[BG]? = some (.cells #[.int .i64 i, .bool one] 38 (0, 0))) := hbx _ _ HBw3.out
                have g1w4 := cell1 HBw4.out
                clear hF_ hbx HFw3 HBw3 g1w3
                go_wp2
                go_roundw
                case rel => exact ⟨k + 1, q3, q4, _, _, by omega, by go_num, HHN.out, HFw4.out⟩
                case measure => simp [intOf]; omega
              · obtain rfl : k = m := by omega
                have hdm : decide ((k : Int) < (k : Int)) = false := by simp
                have HKe : Hid (e.k + 5 ≤ 140737488355328) := by have := HKE.out; show e.k + 5 ≤ _; omega
                have HKh : Hid (h.k + 5 ≤ 140737488355328) := by have := HHK.out; show h.k + 5 ≤ _; omega
                obtain ⟨qe, hqe⟩ : ∃ q : Int, ((e.k + 5 : Nat) : Int) = q := ⟨_, rfl⟩
                obtain ⟨qh, hqh⟩ : ∃ q : Int, ((h.k + 5 : Nat) : Int) = q := ⟨_, rfl⟩
                have HQe : Hid (((e.k + 5 : Nat) : Int) = qe) := hqe
                have HQh : Hid (((h.k + 5 : Nat) : Int) = qh) := hqh
                clear hqe hqh
                go_wp2_with fail
                refine wp_region_last (mk := fun u => #[_, _, _, _, _, _, _, _, _, _, _, _, _, _, _, _, _, _, _, _, _, _, _, _, _, _, _, _, _, _, _, _, _, _, _, _, _, _, _, _, _, _, _, _, _, _, _, _, _, _, _, _, _, _, _, _, _, _, _, _, _, _, _, _, _, _, _, _, _, _, _, _, _, _, _, _, _, _, _, _, _, _, _, _, _, _, _, _, _, _, _, _, _, _, _, _, _, _, _, _, _, _, _, _, _, _, _, _, _, _, _, _, _, _, _, _, _, _, _, _, _, _, _, _, _, _, _, _, _, _, _, _, _, _, _, _, _, _, _, _, _, _, _, _, _, _, _, _, _, _, _, u 151, u 152, u 153, u 154, u 155, u 156, u 157, u 158, u 159, u 160, u 161, u 162, u 163, u 164, u 165, u 166, u 167, u 168, u 169, u 170, u 171, u 172, u 173, u 174, u 175, u 176, u 177, u 178, u 179, u 180, u 181]) (F := fun slot vv ww => (look [(151, .val (.pointer (some ⟨a1, 0, none⟩))), (152, .is (fun q wq => wq.ownsRow w0.heap.size 5 1 q (e.k + 5) (ins .u8 (nums (Rc.by_ e))))), (153, .val (.string (sb e))), (154, .val (.pointer (some ⟨a2, 0, none⟩))), (155, .is (fun q wq => wq.ownsRow w0.heap.size 5 1 q (e.k + 5) (ins .u8 (nums (Rc.by_ e))))), (156, .val (.string (sb e))), (157, .val (.bool true)), (158, .val (.bool true)), (159, .val (.pointer (some ⟨a4, 0, none⟩))), (160, .is (fun q wq => wq.ownsRow w0.heap.size 5 1 q (h.k + 5) (ins .u8 (nums (Rc.by_ h))))), (161, .val (.string (sb h))), (162, .val (.pointer (some ⟨a3, 0, none⟩))), (163, .is (fun q wq => wq.ownsRow w0.heap.size 5 1 q (h.k + 5) (ins .u8 (nums (Rc.by_ h))))), (164, .val (.string (sb h))), (165, .val (.bool true)), (166, .val (.bool true)), (167, .val (.bool true)), (168, .val (.pointer (some ⟨a1, 0, none⟩))), (169, .val (.int .i64 qe)), (170, .val (.pointer (some ⟨a2, 0, none⟩))), (171, .val (.int .i64 qe)), (172, .val (.bool true)), (173, .val (.bool true)), (174, .val (.bool true)), (175, .val (.pointer (some ⟨a4, 0, none⟩))), (176, .val (.int .i64 qh)), (177, .val (.pointer (some ⟨a3, 0, none⟩))), (178, .is (fun q wq => wq.ownsRow w0.heap.size 5 1 q (h.k + 5) (ins .u8 (nums (Rc.by_ h))))), (179, .val (.int .i64 qh)), (180, .val (.bool true)), (181, .val (.bool true))] slot).holds vv ww) (fun slot => match slot with | 151 => u151 | 152 => u152 | 153 => u153 | 154 => u154 | 155 => u155 | 156 => u156 | 157 => u157 | 158 => u158 | 159 => u159 | 160 => u160 | 161 => u161 | 162 => u162 | 163 => u163 | 164 => u164 | 165 => u165 | 166 => u166 | 167 => u167 | 168 => u168 | 169 => u169 | 170 => u170 | 171 => u171 | 172 => u172 | 173 => u173 | 174 => u174 | 175 => u175 | 176 => u176 | 177 => u177 | 178 => u178 | 179 => u179 | 180 => u180 | 181 => u181 | _ => undef) rfl (by kernel_rfl) 31 _ rfl rfl (by kernel_rfl) ?_ (fun _ v w w' hc h => Fact.stays _ v w w' hc h) ?_ ?_
                · repeat (refine ⟨⟨_, rfl, fun _ _ => rfl⟩, ?_⟩)
                  exact trivial
                · refine ⟨?_, ?_, ?_, ?_, ?_, ?_, ?_, ?_, ?_, ?_, ?_, ?_, ?_, ?_, ?_, ?_, ?_, ?_, ?_, ?_, ?_, ?_, ?_, ?_, ?_, ?_, ?_, ?_, ?_, ?_, ?_, trivial⟩
                  · intro u w hc hd K hK -- 151
                    clear hd
                    go_simp
                    exact hK.out (.pointer (some ⟨a1, 0, none⟩)) w (Chg.refl _ _) rfl
                  · intro u w hc hd K hK -- 152
                    have h151 : (Fact.val (.pointer (some ⟨a1, 0, none⟩))).holds (u 151) w := hd.get 0 (by kernel_rfl)
                    simp only [Fact.holds] at h151
                    clear hd
                    simp only [h151] at hK
                    go_simp
                    go_at_call 10
                    refine (fam_bytes w0 [⟨a1, s1, v1, r1, e, xs⟩, ⟨a2, s2, v2, r2, e, xs⟩, ⟨a3, s3, v3, r3, h, zs⟩, ⟨a4, s4, v4, r4, h, zs⟩] 0 (by simp) w (HF.out.new hc) HKe.out).mono ?_
                    rintro x w2 ⟨v2_, rfl, ho, c2⟩
                    exact hK.out _ _ c2 ⟨w2, owns_base ho (Nat.le_trans HF.out.chg.size hc.size), Chg.refl _ _⟩
                  · intro u w hc hd K hK -- 153
                    have h152 : (Fact.is (fun q wq => wq.ownsRow w0.heap.size 5 1 q (e.k + 5) (ins .u8 (nums (Rc.by_ e))))).holds (u 152) w := hd.get 1 (by kernel_rfl)
                    obtain ⟨q152, h152, p152⟩ := h152
                    clear hd
                    have o152 := ownsRow_keep h152 p152 (fun _ _ f => f)
                    obtain ⟨ad, cap, e152, _⟩ := own_any o152
                    rw [e152] at o152
                    have hcv : (convert 29 9 (.slice ad (e.k + 5) cap)).run Try.prog w = .ok (.string (sb e)) w := conv_own o152
                    clear o152
                    simp only [e152] at hK
                    go_simp
                    exact hK.out (.string (sb e)) w (Chg.refl _ _) rfl
                  · intro u w hc hd K hK -- 154
                    clear hd
                    go_simp
                    exact hK.out (.pointer (some ⟨a2, 0, none⟩)) w (Chg.refl _ _) rfl
                  · intro u w hc hd K hK -- 155
                    have h154 : (Fact.val (.pointer (some ⟨a2, 0, none⟩))).holds (u 154) w := hd.get 3 (by kernel_rfl)
                    simp only [Fact.holds] at h154
                    clear hd
                    simp only [h154] at hK
                    go_simp
                    go_at_call 10
                    refine (fam_bytes w0 [⟨a1, s1, v1, r1, e, xs⟩, ⟨a2, s2, v2, r2, e, xs⟩, ⟨a3, s3, v3, r3, h, zs⟩, ⟨a4, s4, v4, r4, h, zs⟩] 1 (by simp) w (HF.out.new hc) HKe.out).mono ?_
                    rintro x w2 ⟨v2_, rfl, ho, c2⟩
                    exact hK.out _ _ c2 ⟨w2, owns_base ho (Nat.le_trans HF.out.chg.size hc.size), Chg.refl _ _⟩
                  · intro u w hc hd K hK -- 156
                    have h155 : (Fact.is (fun q wq => wq.ownsRow w0.heap.size 5 1 q (e.k + 5) (ins .u8 (nums (Rc.by_ e))))).holds (u 155) w := hd.get 4 (by kernel_rfl)
                    obtain ⟨q155, h155, p155⟩ := h155
                    clear hd
                    have o155 := ownsRow_keep h155 p155 (fun _ _ f => f)
                    obtain ⟨ad, cap, e155, _⟩ := own_any o155
                    rw [e155] at o155
                    have hcv : (convert 29 9 (.slice ad (e.k + 5) cap)).run Try.prog w = .ok (.string (sb e)) w := conv_own o155
                    clear o155
                    simp only [e155] at hK
                    go_simp
                    exact hK.out (.string (sb e)) w (Chg.refl _ _) rfl
                  · intro u w hc hd K hK -- 157
                    have h153 : (Fact.val (.string (sb e))).holds (u 153) w := hd.get 2 (by kernel_rfl)
                    simp only [Fact.holds] at h153
                    have h156 : (Fact.val (.string (sb e))).holds (u 156) w := hd.get 5 (by kernel_rfl)
                    simp only [Fact.holds] at h156
                    clear hd
                    simp only [h153, h156] at hK
                    go_simp
                    exact hK.out (.bool true) w (Chg.refl _ _) rfl
                  · intro u w hc hd K hK -- 158
                    have h157 : (Fact.val (.bool true)).holds (u 157) w := hd.get 6 (by kernel_rfl)
                    simp only [Fact.holds] at h157
                    clear hd
                    simp only [h157] at hK
                    go_simp
                    exact hK.out (.bool true) w (Chg.refl _ _) rfl
                  · intro u w hc hd K hK -- 159
                    have h158 : (Fact.val (.bool true)).holds (u 158) w := hd.get 7 (by kernel_rfl)
                    simp only [Fact.holds] at h158
                    clear hd
                    simp only [h158] at hK
                    go_simp
                    exact hK.out (.pointer (some ⟨a4, 0, none⟩)) w (Chg.refl _ _) rfl
                  · intro u w hc hd K hK -- 160
                    have h159 : (Fact.val (.pointer (some ⟨a4, 0, none⟩))).holds (u 159) w := hd.get 8 (by kernel_rfl)
                    simp only [Fact.holds] at h159
                    have h158 : (Fact.val (.bool true)).holds (u 158) w := hd.get 7 (by kernel_rfl)
                    simp only [Fact.holds] at h158
                    clear hd
                    simp only [h158, h159] at hK
                    go_simp
                    go_at_call 10
                    refine (fam_bytes w0 [⟨a1, s1, v1, r1, e, xs⟩, ⟨a2, s2, v2, r2, e, xs⟩, ⟨a3, s3, v3, r3, h, zs⟩, ⟨a4, s4, v4, r4, h, zs⟩] 3 (by simp) w (HF.out.new hc) HKh.out).mono ?_
                    rintro x w2 ⟨v2_, rfl, ho, c2⟩
                    exact hK.out _ _ c2 ⟨w2, owns_base ho (Nat.le_trans HF.out.chg.size hc.size), Chg.refl _ _⟩
                  · intro u w hc hd K hK -- 161
                    have h160 : (Fact.is (fun q wq => wq.ownsRow w0.heap.size 5 1 q (h.k + 5) (ins .u8 (nums (Rc.by_ h))))).holds (u 160) w := hd.get 9 (by kernel_rfl)
                    obtain ⟨q160, h160, p160⟩ := h160
                    have h158 : (Fact.val (.bool true)).holds (u 158) w := hd.get 7 (by kernel_rfl)
                    simp only [Fact.holds] at h158
                    clear hd
                    simp only [h158] at hK
                    have o160 := ownsRow_keep h160 p160 (fun _ _ f => f)
                    obtain ⟨ad, cap, e160, _⟩ := own_any o160
                    rw [e160] at o160
                    have hcv : (convert 29 9 (.slice ad (h.k + 5) cap)).run Try.prog w = .ok (.string (sb h)) w := conv_own o160
                    clear o160
                    simp only [e160] at hK
                    go_simp
                    exact hK.out (.string (sb h)) w (Chg.refl _ _) rfl
                  · intro u w hc hd K hK -- 162
                    have h158 : (Fact.val (.bool true)).holds (u 158) w := hd.get 7 (by kernel_rfl)
                    simp only [Fact.holds] at h158
                    clear hd
                    simp only [h158] at hK
                    go_simp
                    exact hK.out (.pointer (some ⟨a3, 0, none⟩)) w (Chg.refl _ _) rfl
                  · intro u w hc hd K hK -- 163
                    have h162 : (Fact.val (.pointer (some ⟨a3, 0, none⟩))).holds (u 162) w := hd.get 11 (by kernel_rfl)
                    simp only [Fact.holds] at h162
                    have h158 : (Fact.val (.bool true)).holds (u 158) w := hd.get 7 (by kernel_rfl)
                    simp only [Fact.holds] at h158
                    clear hd
                    simp only [h158, h162] at hK
                    go_simp
                    go_at_call 10
                    refine (fam_bytes w0 [⟨a1, s1, v1, r1, e, xs⟩, ⟨a2, s2, v2, r2, e, xs⟩, ⟨a3, s3, v3, r3, h, zs⟩, ⟨a4, s4, v4, r4, h, zs⟩] 2 (by simp) w (HF.out.new hc) HKh.out).mono ?_
                    rintro x w2 ⟨v2_, rfl, ho, c2⟩
                    exact hK.out _ _ c2 ⟨w2, owns_base ho (Nat.le_trans HF.out.chg.size hc.size), Chg.refl _ _⟩
                  · intro u w hc hd K hK -- 164
                    have h163 : (Fact.is (fun q wq => wq.ownsRow w0.heap.size 5 1 q (h.k + 5) (ins .u8 (nums (Rc.by_ h))))).holds (u 163) w := hd.get 12 (by kernel_rfl)
                    obtain ⟨q163, h163, p163⟩ := h163
                    have h158 : (Fact.val (.bool true)).holds (u 158) w := hd.get 7 (by kernel_rfl)
                    simp only [Fact.holds] at h158
                    clear hd
                    simp only [h158] at hK
                    have o163 := ownsRow_keep h163 p163 (fun _ _ f => f)
                    obtain ⟨ad, cap, e163, _⟩ := own_any o163
                    rw [e163] at o163
                    have hcv : (convert 29 9 (.slice ad (h.k + 5) cap)).run Try.prog w = .ok (.string (sb h)) w := conv_own o163
                    clear o163
                    simp only [e163] at hK
                    go_simp
                    exact hK.out (.string (sb h)) w (Chg.refl _ _) rfl
                  · intro u w hc hd K hK -- 165
                    have h161 : (Fact.val (.string (sb h))).holds (u 161) w := hd.get 10 (by kernel_rfl)
                    simp only [Fact.holds] at h161
                    have h164 : (Fact.val (.string (sb h))).holds (u 164) w := hd.get 13 (by kernel_rfl)
                    simp only [Fact.holds] at h164
                    have h158 : (Fact.val (.bool true)).holds (u 158) w := hd.get 7 (by kernel_rfl)
                    simp only [Fact.holds] at h158
                    clear hd
                    simp only [h158, h161, h164] at hK
                    go_simp
                    exact hK.out (.bool true) w (Chg.refl _ _) rfl
                  · intro u w hc hd K hK -- 166
                    have h158 : (Fact.val (.bool true)).holds (u 158) w := hd.get 7 (by kernel_rfl)
                    simp only [Fact.holds] at h158
                    have h165 : (Fact.val (.bool true)).holds (u 165) w := hd.get 14 (by kernel_rfl)
                    simp only [Fact.holds] at h165
                    clear hd
                    simp only [h158, h165] at hK
                    go_simp
                    exact hK.out (.bool true) w (Chg.refl _ _) rfl
                  · intro u w hc hd K hK -- 167
                    have h166 : (Fact.val (.bool true)).holds (u 166) w := hd.get 15 (by kernel_rfl)
                    simp only [Fact.holds] at h166
                    clear hd
                    simp only [h166] at hK
                    go_simp
                    exact hK.out (.bool true) w (Chg.refl _ _) rfl
                  · intro u w hc hd K hK -- 168
                    have h167 : (Fact.val (.bool true)).holds (u 167) w := hd.get 16 (by kernel_rfl)
                    simp only [Fact.holds] at h167
                    clear hd
                    simp only [h167] at hK
                    go_simp
                    exact hK.out (.pointer (some ⟨a1, 0, none⟩)) w (Chg.refl _ _) rfl
                  · intro u w hc hd K hK -- 169
                    have h168 : (Fact.val (.pointer (some ⟨a1, 0, none⟩))).holds (u 168) w := hd.get 17 (by kernel_rfl)
                    simp only [Fact.holds] at h168
                    have h167 : (Fact.val (.bool true)).holds (u 167) w := hd.get 16 (by kernel_rfl)
                    simp only [Fact.holds] at h167
                    clear hd
                    simp only [h167, h168] at hK
                    go_simp
                    go_at_call 11
                    refine (fam_size w0 [⟨a1, s1, v1, r1, e, xs⟩, ⟨a2, s2, v2, r2, e, xs⟩, ⟨a3, s3, v3, r3, h, zs⟩, ⟨a4, s4, v4, r4, h, zs⟩] 0 (by simp) w (HF.out.new hc) HKe.out).mono ?_
                    rintro x w2 ⟨rfl, c2⟩
                    have hq_ := HQe.out
                    simp only [List.getElem_cons_zero, List.getElem_cons_succ] at *
                    rw [hq_]
                    exact hK.out _ _ c2 rfl
                  · intro u w hc hd K hK -- 170
                    have h167 : (Fact.val (.bool true)).holds (u 167) w := hd.get 16 (by kernel_rfl)
                    simp only [Fact.holds] at h167
                    clear hd
                    simp only [h167] at hK
                    go_simp
                    exact hK.out (.pointer (some ⟨a2, 0, none⟩)) w (Chg.refl _ _) rfl
                  · intro u w hc hd K hK -- 171
                    have h170 : (Fact.val (.pointer (some ⟨a2, 0, none⟩))).holds (u 170) w := hd.get 19 (by kernel_rfl)
                    simp only [Fact.holds] at h170
                    have h167 : (Fact.val (.bool true)).holds (u 167) w := hd.get 16 (by kernel_rfl)
                    simp only [Fact.holds] at h167
                    clear hd
                    simp only [h167, h170] at hK
                    go_simp
                    go_at_call 11
                    refine (fam_size w0 [⟨a1, s1, v1, r1, e, xs⟩, ⟨a2, s2, v2, r2, e, xs⟩, ⟨a3, s3, v3, r3, h, zs⟩, ⟨a4, s4, v4, r4, h, zs⟩] 1 (by simp) w (HF.out.new hc) HKe.out).mono ?_
                    rintro x w2 ⟨rfl, c2⟩
                    have hq_ := HQe.out
                    simp only [List.getElem_cons_zero, List.getElem_cons_succ] at *
                    rw [hq_]
                    exact hK.out _ _ c2 rfl
                  · intro u w hc hd K hK -- 172
                    have h169 : (Fact.val (.int .i64 qe)).holds (u 169) w := hd.get 18 (by kernel_rfl)
                    simp only [Fact.holds] at h169
                    have h171 : (Fact.val (.int .i64 qe)).holds (u 171) w := hd.get 20 (by kernel_rfl)
                    simp only [Fact.holds] at h171
                    have h167 : (Fact.val (.bool true)).holds (u 167) w := hd.get 16 (by kernel_rfl)
                    simp only [Fact.holds] at h167
                    clear hd
                    simp only [h167, h169, h171] at hK
                    go_simp
                    exact hK.out (.bool true) w (Chg.refl _ _) rfl
                  · intro u w hc hd K hK -- 173
                    have h167 : (Fact.val (.bool true)).holds (u 167) w := hd.get 16 (by kernel_rfl)
                    simp only [Fact.holds] at h167
                    have h172 : (Fact.val (.bool true)).holds (u 172) w := hd.get 21 (by kernel_rfl)
                    simp only [Fact.holds] at h172
                    clear hd
                    simp only [h167, h172] at hK
                    go_simp
                    exact hK.out (.bool true) w (Chg.refl _ _) rfl
                  · intro u w hc hd K hK -- 174
                    have h173 : (Fact.val (.bool true)).holds (u 173) w := hd.get 22 (by kernel_rfl)
                    simp only [Fact.holds] at h173
                    clear hd
                    simp only [h173] at hK
                    go_simp
                    exact hK.out (.bool true) w (Chg.refl _ _) rfl
                  · intro u w hc hd K hK -- 175
                    have h174 : (Fact.val (.bool true)).holds (u 174) w := hd.get 23 (by kernel_rfl)
                    simp only [Fact.holds] at h174
                    clear hd
                    simp only [h174] at hK
                    go_simp
                    exact hK.out (.pointer (some ⟨a4, 0, none⟩)) w (Chg.refl _ _) rfl
                  · intro u w hc hd K hK -- 176
                    have h175 : (Fact.val (.pointer (some ⟨a4, 0, none⟩))).holds (u 175) w := hd.get 24 (by kernel_rfl)
                    simp only [Fact.holds] at h175
                    have h174 : (Fact.val (.bool true)).holds (u 174) w := hd.get 23 (by kernel_rfl)
                    simp only [Fact.holds] at h174
                    clear hd
                    simp only [h174, h175] at hK
                    go_simp
                    go_at_call 11
                    refine (fam_size w0 [⟨a1, s1, v1, r1, e, xs⟩, ⟨a2, s2, v2, r2, e, xs⟩, ⟨a3, s3, v3, r3, h, zs⟩, ⟨a4, s4, v4, r4, h, zs⟩] 3 (by simp) w (HF.out.new hc) HKh.out).mono ?_
                    rintro x w2 ⟨rfl, c2⟩
                    have hq_ := HQh.out
                    simp only [List.getElem_cons_zero, List.getElem_cons_succ] at *
                    rw [hq_]
                    exact hK.out _ _ c2 rfl
                  · intro u w hc hd K hK -- 177
                    have h174 : (Fact.val (.bool true)).holds (u 174) w := hd.get 23 (by kernel_rfl)
                    simp only [Fact.holds] at h174
                    clear hd
                    simp only [h174] at hK
                    go_simp
                    exact hK.out (.pointer (some ⟨a3, 0, none⟩)) w (Chg.refl _ _) rfl
                  · intro u w hc hd K hK -- 178
                    have h177 : (Fact.val (.pointer (some ⟨a3, 0, none⟩))).holds (u 177) w := hd.get 26 (by kernel_rfl)
                    simp only [Fact.holds] at h177
                    have h174 : (Fact.val (.bool true)).holds (u 174) w := hd.get 23 (by kernel_rfl)
                    simp only [Fact.holds] at h174
                    clear hd
                    simp only [h174, h177] at hK
                    go_simp
                    go_at_call 10
                    refine (fam_bytes w0 [⟨a1, s1, v1, r1, e, xs⟩, ⟨a2, s2, v2, r2, e, xs⟩, ⟨a3, s3, v3, r3, h, zs⟩, ⟨a4, s4, v4, r4, h, zs⟩] 2 (by simp) w (HF.out.new hc) HKh.out).mono ?_
                    rintro x w2 ⟨v2_, rfl, ho, c2⟩
                    exact hK.out _ _ c2 ⟨w2, owns_base ho (Nat.le_trans HF.out.chg.size hc.size), Chg.refl _ _⟩
                  · intro u w hc hd K hK -- 179
                    have h178 : (Fact.is (fun q wq => wq.ownsRow w0.heap.size 5 1 q (h.k + 5) (ins .u8 (nums (Rc.by_ h))))).holds (u 178) w := hd.get 27 (by kernel_rfl)
                    obtain ⟨q178, h178, p178⟩ := h178
                    have h174 : (Fact.val (.bool true)).holds (u 174) w := hd.get 23 (by kernel_rfl)
                    simp only [Fact.holds] at h174
                    clear hd
                    simp only [h174] at hK
                    have o178 := ownsRow_keep h178 p178 (fun _ _ f => f)
                    obtain ⟨ad, cap, e178, _⟩ := own_any o178
                    simp only [e178] at hK
                    have hq_ := HQh.out
                    go_simp
                    first | exact hK.out (.int .i64 qh) w (Chg.refl _ _) rfl | (rw [hq_]; exact hK.out _ _ (Chg.refl _ _) rfl) | (rw [show (h.k : Int) + 5 = qh by rw [← hq_]; simp]; exact hK.out _ _ (Chg.refl _ _) rfl)
                  · intro u w hc hd K hK -- 180
                    have h176 : (Fact.val (.int .i64 qh)).holds (u 176) w := hd.get 25 (by kernel_rfl)
                    simp only [Fact.holds] at h176
                    have h179 : (Fact.val (.int .i64 qh)).holds (u 179) w := hd.get 28 (by kernel_rfl)
                    simp only [Fact.holds] at h179
                    have h174 : (Fact.val (.bool true)).holds (u 174) w := hd.get 23 (by kernel_rfl)
                    simp only [Fact.holds] at h174
                    clear hd
                    simp only [h174, h176, h179] at hK
                    go_simp
                    exact hK.out (.bool true) w (Chg.refl _ _) rfl
                  · intro u w hc hd K hK -- 181
                    have h174 : (Fact.val (.bool true)).holds (u 174) w := hd.get 23 (by kernel_rfl)
                    simp only [Fact.holds] at h174
                    have h180 : (Fact.val (.bool true)).holds (u 180) w := hd.get 29 (by kernel_rfl)
                    simp only [Fact.holds] at h180
                    clear hd
                    simp only [h174, h180] at hK
                    go_simp
                    exact hK.out (.bool true) w (Chg.refl _ _) rfl
                · intro u w hc hA K hK
                  have e_ : u 181 = .bool true := hA.at 181 (by kernel_rfl)
                  clear hA
                  have HC9 : Hid (Chg (fun _ => False) w0 w) := chg_then HF.out.chg hc
                  clear hc
                  go_simp
                  refine hK.out _ _ ?_
                  go_simp
                  go_wp2
                  go_ret
                  exact ⟨rfl, HC9.out⟩
end Go.Proofs.Ythhjllhcgdkjnaa
