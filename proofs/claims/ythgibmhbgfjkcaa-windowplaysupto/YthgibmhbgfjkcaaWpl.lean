/- The walk of WindowPlays above what is asked of the program's windows; of no statement by itself. -/
import Derived.Test.YthgibmhbgfjkcaaWz
import Derived.Test.YthgibmhbgfjkcaaLastG
import Derived.Test.YthgibmhbgfjkcaaLastR
import Derived.Deep.DeepCutAuto
namespace Go.Proofs.Ythgibmhbgfjkcaa
open Go.RowKit
set_option linter.unusedVariables false
set_option linter.unusedSimpArgs false

variable {Win : World → Nat → Nat → Value → Nat → List Nat → Prop}
set_option maxHeartbeats 8000000 in
set_option maxRecDepth 100000 in
theorem wplays_any (S : WinSpec Win) (f1 f2 : Int) (so : Option Addr) (M cs : Nat) (ops : List Wop) (w0 : World) (h1 : I64 f1) (h2 : I64 f2) (hS : OpsL w0 so ops) (hM : ops.length = M) (hM2 : M ≤ 1048576) (hln : ∀ o ∈ ops, o.len ≤ 1048576) : Calls Try.prog 7 #[.int .i64 f1, .int .i64 f2, .slice so M cs] w0 fun e w' => e = .returned (.bool true) ∧ Chg (fun _ => False) w0 w' := by
  have HOPS : Hid (OpsL w0 so ops) := hS
  have HM : Hid (ops.length = M) := hM
  have HLNS : Hid (∀ o ∈ ops, o.len ≤ 1048576) := hln
  have HF12 : Hid (I64 f1 ∧ I64 f2) := ⟨h1, h2⟩
  clear hS hM hln h1 h2
  have c0 := chg_one w0 (.cells #[.int .i64 f1, .int .i64 f2] 3)
  have HBF0 : Hid ((w0.alloc (.cells #[.int .i64 f1, .int .i64 f2] 3)).heap[w0.heap.size]? = some (.cells #[.int .i64 f1, .int .i64 f2] 3 (0, 0))) := heap_alloc_last _ _
  have HPL0 : Hid (Pl Win w0 (w0.alloc (.cells #[.int .i64 f1, .int .i64 f2] 3)) (.slice none 0 0) [] (.slice none 0 0) []) := Pl.empty c0
  clear c0
  go_enter Try.func7, Try.ntmps7
  go_wp2_with fail
  generalize w0.alloc (.cells #[.int .i64 f1, .int .i64 f2] 3) = W0 at *
  obtain ⟨F, hF⟩ : ∃ F, w0.heap.size = F := ⟨_, rfl⟩
  rw [hF] at HBF0 ⊢
  clear hF
  go_loopw [7, 26] (fun lv iv wr => ∃ (k : Nat) (its : List Pr), k ≤ 2 ∧ iv = .int .i64 (k : Int) ∧ Hid (Pl Win w0 wr lv its (.slice none 0 0) []) ∧ Hid (its.length ≤ k) ∧ Hid (∀ x ∈ its, x.bs = []) ∧ Hid (wr.heap[F]? = some (.cells #[.int .i64 f1, .int .i64 f2] 3 (0, 0)))) (fun _ iv _ => 2 - (intOf iv).toNat)
  case atStart => exact ⟨0, [], Nat.zero_le _, rfl, HPL0.out, Nat.le_refl _, fun x hx => by simp at hx, HBF0.out⟩
  case round =>
  clear HPL0 HBF0
  obtain ⟨k, its, hk, rfl, HPL, HLE, HEM, HBF⟩ := hrel
  by_cases hlt : k < 2
  · skip
    have hx2 : ∃ x : Int, I64 x ∧ wr.cell? ⟨F, k, none⟩ = some (.int .i64 x) := by
      rcases (show k = 0 ∨ k = 1 by omega) with rfl | rfl
      · exact ⟨f1, HF12.out.1, cell0 HBF.out⟩
      · exact ⟨f2, HF12.out.2, cell1 HBF.out⟩
    obtain ⟨x, hxi, hxc⟩ := hx2
    have hdk : decide ((k : Int) < 2) = true := by simp; omega
    obtain ⟨L, hL⟩ : ∃ L, its.length = L := ⟨_, rfl⟩
    have HL : Hid (its.length = L) := hL
    have hL5 : L < 5 := by rw [← hL]; have := HLE.out; omega
    obtain ⟨la, lc, hlv⟩ := HPL.out.form
    rw [hL] at hlv
    subst hlv
    clear hL
    by_cases hin : 1 ≤ x ∧ x ≤ 4294967295
    · obtain ⟨n, rfl⟩ : ∃ n : Nat, x = (n : Int) := ⟨x.toNat, by omega⟩
      have hn1 : 1 ≤ n := by omega
      have hn2 : n ≤ 4294967295 := by omega
      have HXI : Hid (I64 (n : Int)) := hxi
      clear hin hxi
      go_wp2_with fail
      refine (S.newIn n _ hn1 hn2).mono ?_
      rintro z w1 ⟨a2, v2, rfl, hw1, c1⟩
      have HW1 : Hid (Win w1 wr.heap.size a2 v2 n []) := hw1
      have HC1 : Hid (Chg (fun _ => False) wr w1) := c1
      clear hw1 c1 hxc
      go_wp2_with fail
      refine (rnew_in n _ hn1 hn2).mono ?_
      rintro z w2 ⟨r2, rfl, hr2, c2⟩
      obtain ⟨y2, hy2⟩ : ∃ y2 : Value, y2 = .slice none 0 0 := ⟨_, rfl⟩
      rw [← hy2] at hr2
      have HG2 : Hid (Good Win w2 wr.heap.size ⟨a2, r2, v2, y2, n, []⟩) := newpair S HC1.out c2 HW1.out hr2
      have HCE : Hid (Chg (fun _ => False) wr w2) := chg_then HC1.out c2
      clear hr2 c2 hy2 HW1 HC1
      have e1 := pW_ne
      have e2 := pRW_ne
      have e3 := pW_neq
      obtain ⟨jP, hjP, hjz, hj2, hj16⟩ := info_parts infoP2
      have c8 := chg_one w2 (.cells #[.pointer (some ⟨a2, 0, none⟩), .pointer (some ⟨r2, 0, none⟩)] 48)
      have hown : (w2.alloc (.cells #[.pointer (some ⟨a2, 0, none⟩), .pointer (some ⟨r2, 0, none⟩)] 48)).ownsRow w0.heap.size 48 2 (.slice la L lc) L (its.flatMap Pr.cells) := by
        have := (HPL.out.new S (chg_then HCE.out c8)).row
        rw [HL.out] at this
        exact this
      have hsz := (HPL.out.new S (chg_then HCE.out c8)).chg.size
      have hsrc := from_p w2 (.pointer (some ⟨a2, 0, none⟩)) (.pointer (some ⟨r2, 0, none⟩)) 48
      have HC8 : Hid (Chg (fun _ => False) wr (w2.alloc (.cells #[.pointer (some ⟨a2, 0, none⟩), .pointer (some ⟨r2, 0, none⟩)] 48))) := chg_then HCE.out c8
      have HY8 : Hid (Good Win (w2.alloc (.cells #[.pointer (some ⟨a2, 0, none⟩), .pointer (some ⟨r2, 0, none⟩)] 48)) wr.heap.size ⟨a2, r2, v2, y2, n, []⟩) := HG2.out.new S c8
      clear c8
      go_wp2_with (at_builtin; refine wpList_append_moved rfl _ _ 41 rfl w0.heap.size 48 jP (.agg #[.pointer none, .pointer none]) 2 16 Try.underlying41 hjP hjz hj2 hj16 rfl (by decide) _ L (its.flatMap Pr.cells) rfl (some ⟨w2.heap.size, 0, none⟩) 1 1 rfl [.pointer (some ⟨a2, 0, none⟩), .pointer (some ⟨r2, 0, none⟩)] hown hsrc (fun u hu => by simp at hu; rcases hu with rfl | rfl <;> rfl) (by unfold maxLen; omega) (by omega) hsz ?_)
      intro v9 w9 ho9 hg9 _
      have HP9 : Hid (Pl Win w0 w9 v9 (its ++ [⟨a2, r2, v2, y2, n, []⟩]) (.slice none 0 0) []) := HPL.out.push S (x := ⟨a2, r2, v2, y2, n, []⟩) HC8.out (HY8.out.base S HPL.out.chg.size) (fun z f => (HY8.out.lt S f).1) (by rw [HL.out]; exact ho9) hg9 (by rw [HL.out]; exact hL5)
      have HB9 : Hid (w9.heap[F]? = some (.cells #[.int .i64 f1, .int .i64 f2] 3 (0, 0))) := by
        have h1 := blk_keep HBF.out HC8.out (fun f => f)
        exact blk_keep h1 ((Chg.refl (fun z => (Value.slice la L lc).ownBlock = some z) _).grown hg9 (fun k e => .inl e)) (fun e => by
          obtain ⟨cur, hcur⟩ := owns_blk hown e
          exact ty_ne h1 hcur (by decide))
      clear ho9 hg9 HC8 HY8 hown hsrc hsz e1 e2 e3
      go_wp2
      go_roundw
      case rel => exact ⟨k + 1, _, by omega, by go_num, HP9.out, by show _ ≤ _; rw [List.length_append]; have := HLE.out; simp; omega, (fun z hz => by
        rcases List.mem_append.1 hz with e | e
        · exact HEM.out z e
        · simp at e; rw [e]), HB9.out⟩
      case measure => simp [intOf]; omega
    · have hout : x < 1 ∨ 4294967295 < x := by omega
      have e1 := pW_nil
      have e2 := pRW_nil
      have e3 := pW_nilq
      go_wp2_with fail
      refine (S.newOut x _ hout).mono ?_
      rintro z w1 ⟨rfl, c1⟩
      have HP1 : Hid (Pl Win w0 w1 (.slice la L lc) its (.slice none 0 0) []) := HPL.out.new S c1
      have HB1 : Hid (w1.heap[F]? = some (.cells #[.int .i64 f1, .int .i64 f2] 3 (0, 0))) := blk_keep HBF.out c1 (fun f => f)
      clear c1 hxc HPL HBF
      go_wp2_with fail
      refine (rnew_out x _ hout).mono ?_
      rintro z w2 ⟨rfl, rfl⟩
      go_wp2
      go_roundw
      case rel => exact ⟨k + 1, its, by omega, by go_num, HP1.out, by show _ ≤ _; have := HLE.out; omega, HEM.out, HB1.out⟩
      case measure => simp [intOf]; omega
  have hdk2 : decide ((k : Int) < 2) = false := by simp; omega
  obtain ⟨L0, hL0⟩ : ∃ L, its.length = L := ⟨_, rfl⟩
  have HL0 : Hid (its.length = L0) := hL0
  have hL02 : L0 ≤ 2 := by rw [← hL0]; exact Nat.le_trans HLE.out hk
  obtain ⟨la, lc, hlv⟩ := HPL.out.form
  rw [hL0] at hlv
  subst hlv
  clear hL0 HBF
  by_cases hz : L0 = 0
  · subst hz
    have HC9 : Hid (Chg (fun _ => False) w0 wr) := HPL.out.chg
    go_wp2
    go_ret
    exact ⟨rfl, HC9.out⟩
  have hdz : decide ((L0 : Int) = 0) = false := by simp; omega
  have hdz2 : ((L0 : Int) == 0) = false := by simp; omega
  have HPL1 : Hid (Pl Win w0 wr (.slice la L0 lc) its (.slice none 0 0) []) := HPL.out
  have HPOS0 : Hid (0 < its.length) := by show 0 < _; rw [HL0.out]; omega
  clear HPL
  go_wp2_with fail
  go_loopw [7, 14, 64] (fun lv bv iv wr => ∃ (k : Nat) (its : List Pr) (hs : List Bk.Hd), k ≤ M ∧ iv = .int .i64 (k : Int) ∧ Hid (Pl Win w0 wr lv its bv hs) ∧ Hid (0 < its.length) ∧ Hid (∀ x ∈ its, x.bs.length ≤ 1049000 * k) ∧ Hid (hs.length ≤ k)) (fun _ _ iv _ => M - (intOf iv).toNat)
  case atStart => exact ⟨0, its, [], Nat.zero_le _, rfl, HPL1.out, HPOS0.out, fun x hx => by rw [HEM.out x hx]; simp, Nat.le_refl _⟩
  case round =>
  clear HPL1 HPOS0 HL0 hdz hdz2 HLE HEM hlt hk hz hL02 hdk2
  obtain ⟨k, its, hs, hk, rfl, HPL, HPOS, HKI, HHL⟩ := hrel
  by_cases hlt : k < M
  · have hdk : decide ((k : Int) < (M : Int)) = true := by simp; omega
    obtain ⟨o, ho⟩ : ∃ o, ops[k]? = some o := ⟨_, List.getElem?_eq_getElem (by rw [HM.out]; exact hlt)⟩
    obtain ⟨hok, hrow, bb, off, rfl, h0, h1, h2, h3, h4⟩ := (HOPS.out.new HPL.out.chg) k o ho
    have HOK : Hid o.ok := hok
    have HR00 : Hid (Row8 w0 o.ad o.len o.cap (nums o.bs)) := (HOPS.out k o ho).2.1
    have HLN : Hid (o.len ≤ 1048576) := HLNS.out o (List.mem_of_getElem? ho)
    have HBO1 : Hid (Box (wr.alloc (.cells #[.int .i64 o.kd, .int .i64 o.wi, .int .i64 o.dist, .int .i64 o.n, .slice o.ad o.len o.cap] 37)) wr.heap.size o) := heap_alloc_last _ _
    have HPL1 : Hid (Pl Win w0 (wr.alloc (.cells #[.int .i64 o.kd, .int .i64 o.wi, .int .i64 o.dist, .int .i64 o.n, .slice o.ad o.len o.cap] 37)) u7 its u14 hs) := HPL.out.new S (chg_one _ _)
    clear hok hrow ho HPL
    go_upto_region 18 with fail
    clear h0 h1 h2 h3 h4
    generalize wr.alloc (.cells #[.int .i64 o.kd, .int .i64 o.wi, .int .i64 o.dist, .int .i64 o.n, .slice o.ad o.len o.cap] 37) = W at *
    generalize wr.heap.size = O at *
    have HPL : Hid (Pl Win w0 W u7 its u14 hs) := HPL1.out
    have HBO : Hid (Box W O o) := HBO1.out
    clear HPL1 HBO1
    obtain ⟨o0, o1, o2, o3, o4⟩ := HBO.out.cells
    obtain ⟨g, lcap, hlv, hlc, hcl⟩ := HPL.out.at HPOS.out
    obtain ⟨L, hL⟩ : ∃ L, its.length = L := ⟨_, rfl⟩
    have HL : Hid (its.length = L) := hL
    have hL1 : 0 < L := by rw [← hL]; exact HPOS.out
    have hL5 : L ≤ 5 := by rw [← hL]; exact HPL.out.most
    rw [hL] at hlv
    subst hlv
    obtain ⟨bv, hbv⟩ : ∃ bv, bv = u14 := ⟨_, rfl⟩
    rw [← hbv] at HPL ⊢
    clear hbv
    obtain ⟨j, hj, hjw⟩ := which o.wi L hL1 (by omega)
    have HJL : Hid (j < its.length) := by show j < _; rw [hL]; exact hj
    have HJW : Hid _ := hjw
    have HCl : Hid _ := hcl j HJL.out
    have hlc2 : L ≤ lcap := by rw [← hL]; exact hlc
    obtain ⟨x, hx⟩ : ∃ x, its[j]'HJL.out = x := ⟨_, rfl⟩
    have HXJ : Hid (its[j]'HJL.out = x) := hx
    clear hjw hcl hL hlc hx o2 o3 o4
    go_upto_if 74 with fail
    go_cut [17] (fun s17 wx => s17 = .int .i64 (j : Nat) ∧ W = wx)
    case first =>
      have hjw := HJW.out
      clear HJW
      rcases hjw with ⟨q1, q2⟩ | ⟨q1, q2⟩
      · go_wp2_with fail
        go_meet
        case rel => exact ⟨by first | rfl | rw [q2], rfl⟩
      · go_wp2_with fail
        go_meet
        case rel => exact ⟨by first | rfl | rw [q2], rfl⟩
    case rest =>
    obtain ⟨rfl, rfl⟩ := hcut
    clear HJW o1
    have q0 := HCl.out.1
    have q1 := HCl.out.2
    rw [HXJ.out] at q0 q1
    have HG : Hid (Good Win W w0.heap.size x) := by have := HPL.out.good j HJL.out; rw [HXJ.out] at this; exact this
    have HXB : Hid (x.bs.length ≤ 1049000 * k) := by have := HKI.out _ (List.getElem_mem HJL.out); rw [HXJ.out] at this; exact this
    have HBL : Hid (x.bs.length ≤ 140737488355328) := by have := HXB.out; show _ ≤ _; omega
    clear HCl
    by_cases k6 : o.kd = 6
    · have d6 : decide (o.kd = 6) = true := by simp; exact k6
      have d6' : (o.kd == 6) = true := by simp; exact k6
      clear k6
      go_upto_region 22 with fail
      clear o0
      refine wp_region_grow (mk := fun u => #[_, _, _, _, _, _, _, _, _, _, _, _, _, _, _, _, _, _, u 18, _, _, _, _, _, _, _, _, _, _, _, _, _, _, _, _, _, _, _, _, _, _, _, _, _, _, _, _, _, _, _, _, _, _, _, _, _, _, _, _, _, _, _, _, _, _, _, _, _, _, _, _, _, _, _, _, _, _, _, _, _, _, _, u 82, u 83, u 84, u 85, u 86, u 87, u 88, u 89, u 90, u 91, u 92, u 93, u 94, _, _, _, _, _, _, _, _, _, _, _, _, _, _, _, _, _, _, _, _, _, _, _, _, _, _, _, _, _, _, _, _, _, _, _]) (F := fun slot vv ww => (look [(82, .val (.slice (some ⟨g, 0, none⟩) L lcap)), (83, .val (.int .i64 (j : Int))), (84, .val (.pointer (some ⟨g, j * 2, none⟩))), (85, .val (.pointer (some ⟨g, j * 2, none⟩))), (86, .val (.pointer (some ⟨x.a, 0, none⟩))), (87, .any), (88, .val (.slice (some ⟨g, 0, none⟩) L lcap)), (89, .val (.int .i64 (j : Int))), (90, .val (.pointer (some ⟨g, j * 2, none⟩))), (91, .val (.pointer (some ⟨g, j * 2 + 1, none⟩))), (92, .val (.pointer (some ⟨x.r, 0, none⟩))), (93, .any), (94, .any), (18, .is (fun q wq => ∃ G, q = .pointer (some ⟨G, 0, none⟩) ∧ W.heap.size ≤ G ∧ wq.heap[G]? = some (.cells #[.pointer none, .pointer none] 48 (0, 0))))] slot).holds vv ww) (J := fun q u w => Chg (fun _ => False) W w ∧ ForkJ Win W x (u 87) (u 93) (u 94) q w) [5, 11, 12] (fun slot => match slot with | 18 => u18 | 82 => u82 | 83 => u83 | 84 => u84 | 85 => u85 | 86 => u86 | 87 => u87 | 88 => u88 | 89 => u89 | 90 => u90 | 91 => u91 | 92 => u92 | 93 => u93 | 94 => u94 | _ => undef) rfl (by kernel_rfl) 14 _ rfl rfl (by kernel_rfl) (by kernel_rfl) (by kernel_rfl) (by decide) ?_ ?_ ?_ (fun _ v w w' hc h => Fact.stays _ v w w' hc h) ?_ ?_ ?_
      · repeat (refine ⟨⟨_, rfl, fun _ _ => rfl⟩, ?_⟩)
        exact trivial
      · intro q u u2 w h hj
        have e1 : u 87 = u2 87 := h 5 (by decide)
        have e2 : u 93 = u2 93 := h 11 (by decide)
        have e3 : u 94 = u2 94 := h 12 (by decide)
        show _ ∧ ForkJ Win W x (u2 87) (u2 93) (u2 94) q w
        rw [← e1, ← e2, ← e3]
        exact hj
      · exact fun q u w w2 hc hj => ⟨chg_then hj.1 hc, forkj_new S hj.2 hc⟩
      · exact ⟨(Chg.refl _ W).drew, trivial⟩
      · refine ⟨?_, ?_, ?_, ?_, ?_, ?_, ?_, ?_, ?_, ?_, ?_, ?_, ?_, ?_, trivial⟩
        · show StepS _ _ _ _ _ _  _ -- 82
          unfold StepS
          intro q u w hj hd K hK
          clear hd
          go_simp
          exact hK.out (.slice (some ⟨g, 0, none⟩) L lcap) w (Chg.refl _ _) rfl
        · show StepS _ _ _ _ _ _  _ -- 83
          unfold StepS
          intro q u w hj hd K hK
          clear hd
          go_simp
          exact hK.out (.int .i64 (j : Int)) w (Chg.refl _ _) rfl
        · show StepS _ _ _ _ _ _  _ -- 84
          unfold StepS
          intro q u w hj hd K hK
          have h82 : (Fact.val (.slice (some ⟨g, 0, none⟩) L lcap)).holds (u 82) w := hd.get 0 (by kernel_rfl)
          simp only [Fact.holds] at h82
          have h83 : (Fact.val (.int .i64 (j : Int))).holds (u 83) w := hd.get 1 (by kernel_rfl)
          simp only [Fact.holds] at h83
          clear hd
          simp only [h82, h83] at hK
          have hjl : (j : Int) < (L : Int) := by omega
          go_simp
          exact hK.out _ _ (Chg.refl _ _) rfl
        · show StepS _ _ _ _ _ _  _ -- 85
          unfold StepS
          intro q u w hj hd K hK
          have h84 : (Fact.val (.pointer (some ⟨g, j * 2, none⟩))).holds (u 84) w := hd.get 2 (by kernel_rfl)
          simp only [Fact.holds] at h84
          clear hd
          simp only [h84] at hK
          go_simp
          exact hK.out (.pointer (some ⟨g, j * 2, none⟩)) w (Chg.refl _ _) rfl
        · show StepS _ _ _ _ _ _  _ -- 86
          unfold StepS
          intro q u w hj hd K hK
          have h85 : (Fact.val (.pointer (some ⟨g, j * 2, none⟩))).holds (u 85) w := hd.get 3 (by kernel_rfl)
          simp only [Fact.holds] at h85
          clear hd
          simp only [h85] at hK
          have hcell := cell_chg (q0) hj.1
          go_simp
          exact hK.out _ _ (Chg.refl _ _) rfl
        · show StepT _ _ _ _ _ _ 0 _ -- 87
          unfold StepT
          intro u w hj hd K hK
          have h86 : (Fact.val (.pointer (some ⟨x.a, 0, none⟩))).holds (u 86) w := hd.get 4 (by kernel_rfl)
          simp only [Fact.holds] at h86
          clear hd
          simp only [h86] at hK
          obtain ⟨hc, _⟩ := hj
          go_simp
          go_at_call 15
          refine (S.fork w0.heap.size x.a x.v x.n x.bs w (HG.out.new S hc).win).mono ?_
          rintro z w2 ⟨a2, v2, rfl, hE2, c2⟩
          exact hK.out (.pointer (some ⟨a2, 0, none⟩)) w2 c2 ⟨chg_then hc c2, a2, v2, by simp [upd], S.down hE2 hc.size⟩ trivial
        · show StepS _ _ _ _ _ _  _ -- 88
          unfold StepS
          intro q u w hj hd K hK
          clear hd
          go_simp
          exact hK.out (.slice (some ⟨g, 0, none⟩) L lcap) w (Chg.refl _ _) rfl
        · show StepS _ _ _ _ _ _  _ -- 89
          unfold StepS
          intro q u w hj hd K hK
          clear hd
          go_simp
          exact hK.out (.int .i64 (j : Int)) w (Chg.refl _ _) rfl
        · show StepS _ _ _ _ _ _  _ -- 90
          unfold StepS
          intro q u w hj hd K hK
          have h88 : (Fact.val (.slice (some ⟨g, 0, none⟩) L lcap)).holds (u 88) w := hd.get 6 (by kernel_rfl)
          simp only [Fact.holds] at h88
          have h89 : (Fact.val (.int .i64 (j : Int))).holds (u 89) w := hd.get 7 (by kernel_rfl)
          simp only [Fact.holds] at h89
          clear hd
          simp only [h88, h89] at hK
          have hjl : (j : Int) < (L : Int) := by omega
          go_simp
          exact hK.out _ _ (Chg.refl _ _) rfl
        · show StepS _ _ _ _ _ _  _ -- 91
          unfold StepS
          intro q u w hj hd K hK
          have h90 : (Fact.val (.pointer (some ⟨g, j * 2, none⟩))).holds (u 90) w := hd.get 8 (by kernel_rfl)
          simp only [Fact.holds] at h90
          clear hd
          simp only [h90] at hK
          go_simp
          exact hK.out (.pointer (some ⟨g, j * 2 + 1, none⟩)) w (Chg.refl _ _) rfl
        · show StepS _ _ _ _ _ _  _ -- 92
          unfold StepS
          intro q u w hj hd K hK
          have h91 : (Fact.val (.pointer (some ⟨g, j * 2 + 1, none⟩))).holds (u 91) w := hd.get 9 (by kernel_rfl)
          simp only [Fact.holds] at h91
          clear hd
          simp only [h91] at hK
          have hcell := cell_chg (q1) hj.1
          go_simp
          exact hK.out _ _ (Chg.refl _ _) rfl
        · show StepT _ _ _ _ _ _ 1 _ -- 93
          unfold StepT
          intro u w hj hd K hK
          have h92 : (Fact.val (.pointer (some ⟨x.r, 0, none⟩))).holds (u 92) w := hd.get 10 (by kernel_rfl)
          simp only [Fact.holds] at h92
          clear hd
          simp only [h92] at hK
          obtain ⟨hc, a2, v2, e87, hE2⟩ := hj
          have E87 : Hid (u 87 = .pointer (some ⟨a2, 0, none⟩)) := e87
          clear e87
          go_simp
          go_at_call 19
          refine (rfork_any w0.heap.size x.r x.y x.n x.bs w (HG.out.new S hc).rw HBL.out).mono ?_
          rintro z w2 ⟨r2, y2, rfl, hR2, c2⟩
          exact hK.out (.pointer (some ⟨r2, 0, none⟩)) w2 c2 ⟨chg_then hc c2, a2, r2, v2, y2, by simp [upd]; exact E87.out, by simp [upd], newpair S hc c2 hE2 hR2⟩ trivial
        · show StepT _ _ _ _ _ _ 2 _ -- 94
          unfold StepT
          intro u w hj hd K hK
          clear hd
          obtain ⟨hc, a2, r2, v2, y2, e87, e93, hN⟩ := hj
          simp only [e87, e93] at hK
          go_simp
          exact hK.out (.agg #[.pointer (some ⟨a2, 0, none⟩), .pointer (some ⟨r2, 0, none⟩)]) w (Chg.refl _ _) ⟨hc, a2, r2, v2, y2, by simp [upd], hN⟩ trivial
        · show StepS _ _ _ _ _ _  _ -- 18
          unfold StepS
          intro q u w hj hd K hK
          clear hd
          obtain ⟨hc, _⟩ := hj
          go_simp
          exact hK.out _ _ (chg_one w (.cells #[.pointer none, .pointer none] 48)) ⟨_, ⟨_, rfl, hc.size, heap_alloc_last w _⟩, Chg.refl _ _⟩
      · intro u w hj hA K hK
        have a18 : (Fact.is (fun q wq => ∃ G, q = .pointer (some ⟨G, 0, none⟩) ∧ W.heap.size ≤ G ∧ wq.heap[G]? = some (.cells #[.pointer none, .pointer none] 48 (0, 0)))).holds (u 18) w := hA.at 18 (by kernel_rfl)
        clear hA
        obtain ⟨wq, ⟨G, e18, hG18, hb18⟩, cq⟩ := a18
        obtain ⟨hc, a2, r2, v2, y2, e94, hN⟩ := hj
        have hb := blk_keep hb18 cq (fun f => f)
        have z0 := cell0 hb
        have z1 := cell1 hb
        have zf : ∀ j, w.frozen? ⟨G, j, none⟩ = false := fun j => by simp [World.frozen?, hb]
        have zf0 := zf 0
        have zf1 := zf 1
        obtain ⟨wE, hwE⟩ : ∃ wE, wE = (w.setCell ⟨G, 0, none⟩ (.pointer (some ⟨a2, 0, none⟩))).setCell ⟨G, 1, none⟩ (.pointer (some ⟨r2, 0, none⟩)) := ⟨_, rfl⟩
        have cE : Chg (fun z => z = G) w wE := by rw [hwE]; exact ((Chg.refl (fun z => z = G) w).setCell (p := ⟨G, 0, none⟩) (.inl rfl) _).setCell (p := ⟨G, 1, none⟩) (.inl rfl) _
        have HGB : Hid (wE.heap[G]? = some (.cells #[.pointer (some ⟨a2, 0, none⟩), .pointer (some ⟨r2, 0, none⟩)] 48 (0, 0))) := by
          have d1 := blk_setk (l := [.pointer none, .pointer none]) hb 0 (.pointer (some ⟨a2, 0, none⟩))
          have d2 := blk_setk (l := [.pointer (some ⟨a2, 0, none⟩), .pointer none]) d1 1 (.pointer (some ⟨r2, 0, none⟩))
          show wE.heap[G]? = _
          rw [hwE]
          exact d2
        have HNP : Hid (Good Win wE W.heap.size ⟨a2, r2, v2, y2, x.n, x.bs⟩) := hN.keep S cE (fun z f e => by rw [e] at f; exact hN.miss S hb (by decide) (by decide) (by decide) f)
        have HCE : Hid (Chg (fun _ => False) W wE) := hc.trans cE (fun z e => .inr (by omega))
        clear hN hc cE zf hb18 cq
        go_simp
        refine hK.out _ _ ?_
        clear hK
        rw [← hwE]
        clear hwE z0 z1 zf0 zf1 hb q0 q1
        have e1 := pW_ne
        have n0 := cell0 HGB.out
        have n1 := cell1 HGB.out
        by_cases h6 : L < 5
        · have hd6 : decide ((L : Int) < 5) = true := by simp; omega
          obtain ⟨jP, hjP, hjz, hj2, hj16⟩ := info_parts infoP2
          have c8 := chg_one wE (.cells #[.pointer (some ⟨a2, 0, none⟩), .pointer (some ⟨r2, 0, none⟩)] 48)
          have hown : (wE.alloc (.cells #[.pointer (some ⟨a2, 0, none⟩), .pointer (some ⟨r2, 0, none⟩)] 48)).ownsRow w0.heap.size 48 2 (.slice (some ⟨g, 0, none⟩) L lcap) L (its.flatMap Pr.cells) := by
            have := (HPL.out.new S (chg_then HCE.out c8)).row
            rw [HL.out] at this
            exact this
          have hsz := (HPL.out.new S (chg_then HCE.out c8)).chg.size
          have hsrc := from_p wE (.pointer (some ⟨a2, 0, none⟩)) (.pointer (some ⟨r2, 0, none⟩)) 48
          have HC8 : Hid (Chg (fun _ => False) W (wE.alloc (.cells #[.pointer (some ⟨a2, 0, none⟩), .pointer (some ⟨r2, 0, none⟩)] 48))) := chg_then HCE.out c8
          have HY8 : Hid (Good Win (wE.alloc (.cells #[.pointer (some ⟨a2, 0, none⟩), .pointer (some ⟨r2, 0, none⟩)] 48)) W.heap.size ⟨a2, r2, v2, y2, x.n, x.bs⟩) := HNP.out.new S c8
          clear c8
          go_wp2_with (at_builtin; refine wpList_append_moved rfl _ _ 41 rfl w0.heap.size 48 jP (.agg #[.pointer none, .pointer none]) 2 16 Try.underlying41 hjP hjz hj2 hj16 rfl (by decide) _ L (its.flatMap Pr.cells) rfl (some ⟨wE.heap.size, 0, none⟩) 1 1 rfl [.pointer (some ⟨a2, 0, none⟩), .pointer (some ⟨r2, 0, none⟩)] hown hsrc (fun u hu => by simp at hu; rcases hu with rfl | rfl <;> rfl) (by unfold maxLen; omega) (by omega) hsz ?_)
          intro v9 w9 ho9 hg9 _
          have HP9 : Hid (Pl Win w0 w9 v9 (its ++ [⟨a2, r2, v2, y2, x.n, x.bs⟩]) bv hs) := HPL.out.push S (x := ⟨a2, r2, v2, y2, x.n, x.bs⟩) HC8.out (HY8.out.base S HPL.out.chg.size) (fun z f => (HY8.out.lt S f).1) (by rw [HL.out]; exact ho9) hg9 (by rw [HL.out]; exact h6)
          clear ho9 hg9 HC8 HY8 hown hsrc hsz e1 n0 n1
          go_wp2
          go_roundw
          case rel => exact ⟨k + 1, _, hs, by omega, by go_num, HP9.out, by show 0 < _; simp, (fun z hz => by
            rcases List.mem_append.1 hz with e | e
            · exact Nat.le_trans (HKI.out z e) (by omega)
            · simp at e; rw [e]; exact Nat.le_trans HXB.out (by omega)), Nat.le_trans HHL.out (by omega)⟩
          case measure => simp [intOf]; omega
        · have hd6 : decide ((L : Int) < 5) = false := by simp; omega
          have HPE : Hid (Pl Win w0 wE (.slice (some ⟨g, 0, none⟩) L lcap) its bv hs) := HPL.out.new S HCE.out
          go_wp2
          go_roundw
          case rel => exact ⟨k + 1, its, hs, by omega, by go_num, HPE.out, by show 0 < _; rw [HL.out]; exact hL1, (fun z hz => Nat.le_trans (HKI.out z hz) (by omega)), Nat.le_trans HHL.out (by omega)⟩
          case measure => simp [intOf]; omega
    · have d6 : decide (o.kd = 6) = false := by simp; exact k6
      have d6' : (o.kd == 6) = false := by simp; exact k6
      clear k6
      have HPY : Hid (∀ w, Chg (fun _ => False) W w → Calls Try.prog 20 #[.agg #[.pointer (some ⟨x.a, 0, none⟩), .pointer (some ⟨x.r, 0, none⟩)], .agg #[.int .i64 o.kd, .int .i64 o.wi, .int .i64 o.dist, .int .i64 o.n, .slice o.ad o.len o.cap], bv] w fun e w' => ∃ bv' its' hs', e = .returned (.tuple #[bv', .bool true]) ∧ Pl Win w0 w' (.slice (some ⟨g, 0, none⟩) L lcap) its' bv' hs' ∧ its'.length = L ∧ (∀ x ∈ its', x.bs.length ≤ 1049000 * k + 1049000) ∧ hs'.length ≤ hs.length + 1) := fun w hc => by
        have h9 := plays_any S w0 w (.slice (some ⟨g, 0, none⟩) L lcap) bv its hs (HPL.out.new S hc) j HJL.out o HOK.out HR00.out HLN.out (1049000 * k) HKI.out (by omega) (by have := HHL.out; omega)
        rw [HXJ.out, HL.out] at h9
        exact h9
      go_upto_region 28 with fail
      clear o0
      refine wp_region_phaseR (mk := fun u => #[_, _, _, _, _, _, _, _, _, _, _, _, _, _, u 14, _, _, _, _, u 19, _, _, _, _, _, _, _, _, _, _, _, _, _, _, _, _, _, _, _, _, _, _, _, _, _, _, _, _, _, _, _, _, _, _, _, _, _, _, _, _, _, _, _, _, _, _, _, _, _, _, _, _, _, _, _, _, _, _, _, _, _, _, _, _, _, _, _, _, _, _, _, _, _, _, _, _, _, _, _, _, _, _, _, _, _, u 105, u 106, u 107, u 108, u 109, u 110, u 111, u 112, u 113, u 114, _, _, _, _, _, _, _, _, _, _, _, _, _, _, _]) (G := fun t v => if t = 105 then (∃ b, v = .tuple #[b, .bool true]) else lookG [(106, .slice (some ⟨g, 0, none⟩) L lcap), (107, .int .i64 (j : Int)), (108, .pointer (some ⟨g, j * 2, none⟩)), (109, .agg #[.pointer (some ⟨x.a, 0, none⟩), .pointer (some ⟨x.r, 0, none⟩)]), (110, .agg #[.int .i64 o.kd, .int .i64 o.wi, .int .i64 o.dist, .int .i64 o.n, .slice o.ad o.len o.cap]), (111, bv), (114, .bool true), (19, .bool true)] t v) (J := fun q u w => PlayJ Win w0 W (.slice (some ⟨g, 0, none⟩) L lcap) bv L (1049000 * k + 1049000) (hs.length + 1) (u 112) (u 105) (u 113) (u 14) q w) [6, 7, 8, 10] (fun i => if i = 3 then 0 else if i = 4 then 0 else if i = 5 then 0 else 4) ([]) (fun slot => match slot with | 14 => bv | 19 => .bool false | 105 => u105 | 106 => u106 | 107 => u107 | 108 => u108 | 109 => u109 | 110 => u110 | 111 => u111 | 112 => u112 | 113 => u113 | 114 => u114 | _ => undef) rfl (by kernel_rfl) (by kernel_rfl) (by kernel_rfl) (by kernel_rfl) (by decide) ?_ ?_ ?_ (by kernel_rfl) ?_ ?_
      · repeat (refine ⟨fun _ _ => rfl, ?_⟩)
        exact trivial
      · intro q u u2 w h hj
        have e1 : u 112 = u2 112 := h 6 (by decide)
        have e2 : u 105 = u2 105 := h 7 (by decide)
        have e3 : u 113 = u2 113 := h 8 (by decide)
        have e4 : u 14 = u2 14 := h 10 (by decide)
        show PlayJ _ _ _ _ _ _ _ _ (u2 112) (u2 105) (u2 113) (u2 14) q w
        rw [← e1, ← e2, ← e3, ← e4]
        exact hj
      · exact ⟨(Chg.refl _ W).drew, rfl⟩
      · refine ⟨?_, ?_, ?_, ?_, ?_, ?_, ?_, ?_, ?_, ?_, ?_, ?_, trivial⟩
        · show StepRQ _ _ _ _ _ _ _ _ _ -- 106
          unfold StepRQ
          intro q hq u w hj hd K hK
          clear hd
          go_simp
          exact hK.out (.slice (some ⟨g, 0, none⟩) L lcap) rfl
        · show StepRQ _ _ _ _ _ _ _ _ _ -- 107
          unfold StepRQ
          intro q hq u w hj hd K hK
          clear hd
          go_simp
          exact hK.out (.int .i64 (j : Int)) rfl
        · show StepRQ _ _ _ _ _ _ _ _ _ -- 108
          unfold StepRQ
          intro q hq u w hj hd K hK
          have h106 : u 106 = .slice (some ⟨g, 0, none⟩) L lcap := hd.get 0 (by kernel_rfl)
          have h107 : u 107 = .int .i64 (j : Int) := hd.get 1 (by kernel_rfl)
          clear hd
          simp only [h106, h107] at hK
          have hjl : (j : Int) < (L : Int) := by omega
          go_simp
          exact hK.out _ rfl
        · show StepRQ _ _ _ _ _ _ _ _ _ -- 109
          unfold StepRQ
          intro q hq u w hj hd K hK
          have h108 : u 108 = .pointer (some ⟨g, j * 2, none⟩) := hd.get 2 (by kernel_rfl)
          clear hd
          simp only [h108] at hK
          obtain rfl : q = 0 := Nat.le_zero.1 hq
          have hc : Chg (fun _ => False) W w := hj.1
          have hcell0 := cell_chg q0 hc
          have hcell1 := cell_chg q1 hc
          go_simp
          exact hK.out _ rfl
        · show StepRQ _ _ _ _ _ _ _ _ _ -- 110
          unfold StepRQ
          intro q hq u w hj hd K hK
          clear hd
          obtain rfl : q = 0 := Nat.le_zero.1 hq
          have hc : Chg (fun _ => False) W w := hj.1
          obtain ⟨t0, t1, t2, t3, t4⟩ := (HBO.out.new hc).cells
          go_simp
          exact hK.out _ rfl
        · show StepRQ _ _ _ _ _ _ _ _ _ -- 111
          unfold StepRQ
          intro q hq u w hj hd K hK
          clear hd
          obtain rfl : q = 0 := Nat.le_zero.1 hq
          have e14 : u 14 = bv := hj.2
          simp only [e14] at hK
          go_simp
          exact hK.out _ rfl
        · show StepWQ _ _ _ _ _ _ _ _ _ -- 112
          unfold StepWQ
          intro u w hj hd K hK
          have h109 : u 109 = .agg #[.pointer (some ⟨x.a, 0, none⟩), .pointer (some ⟨x.r, 0, none⟩)] := hd.get 3 (by kernel_rfl)
          have h110 : u 110 = .agg #[.int .i64 o.kd, .int .i64 o.wi, .int .i64 o.dist, .int .i64 o.n, .slice o.ad o.len o.cap] := hd.get 4 (by kernel_rfl)
          have h111 : u 111 = bv := hd.get 5 (by kernel_rfl)
          clear hd
          simp only [h109, h110, h111] at hK
          have hc : Chg (fun _ => False) W w := hj.1
          go_simp
          go_at_call 20
          refine (HPY.out w hc).mono ?_
          rintro z w2 ⟨bv2, its2, hs2, rfl, h1, h2, h3, h4⟩
          exact hK.out _ w2 ⟨bv2, by simp [upd], ⟨its2, hs2, h1, h2, h3, h4⟩⟩ trivial
        · show StepWQ _ _ _ _ _ _ _ _ _ -- 105
          unfold StepWQ
          intro u w hj hd K hK
          clear hd
          obtain ⟨b, e112, ha⟩ := hj
          simp only [e112] at hK
          go_simp
          exact hK.out _ w ⟨b, by simp [upd], ha⟩ ⟨b, rfl⟩
        · show StepWQ _ _ _ _ _ _ _ _ _ -- 113
          unfold StepWQ
          intro u w hj hd K hK
          have h105 : ∃ b, u 105 = .tuple #[b, .bool true] := hd.get 7 (by kernel_rfl)
          clear hd
          clear h105
          obtain ⟨b, e105, ha⟩ := hj
          simp only [e105] at hK
          go_simp
          exact hK.out _ w (by show Aft _ _ _ _ _ _ _ _; simpa [upd] using ha) trivial
        · show StepRQ _ _ _ _ _ _ _ _ _ -- 114
          unfold StepRQ
          intro q hq u w hj hd K hK
          have h105 : ∃ b, u 105 = .tuple #[b, .bool true] := hd.get 7 (by kernel_rfl)
          clear hd
          obtain ⟨b, h105⟩ := h105
          simp only [h105] at hK
          go_simp
          exact hK.out _ rfl
        · show StepWQ _ _ _ _ _ _ _ _ _ -- 14
          unfold StepWQ
          intro u w hj hd K hK
          clear hd
          have ha : Aft Win w0 w (.slice (some ⟨g, 0, none⟩) L lcap) (u 113) L (1049000 * k + 1049000) (hs.length + 1) := hj
          go_simp
          exact hK.out _ w (by show Aft _ _ _ _ _ _ _ _; simpa [upd] using ha) trivial
        · show StepRQ _ _ _ _ _ _ _ _ _ -- 19
          unfold StepRQ
          intro q hq u w hj hd K hK
          have h114 : u 114 = .bool true := hd.get 9 (by kernel_rfl)
          clear hd
          simp only [h114] at hK
          go_simp
          exact hK.out (.bool true) rfl
      · intro u w hj hA
        have e19 : u 19 = .bool true := hA.at 19 (by kernel_rfl)
        clear hA
        obtain ⟨⟨its2, hs2, h1, h2, h3, h4⟩⟩ : Aft Win w0 w (.slice (some ⟨g, 0, none⟩) L lcap) (u 14) L (1049000 * k + 1049000) (hs.length + 1) := hj
        have HP2 : Hid (Pl Win w0 w (.slice (some ⟨g, 0, none⟩) L lcap) its2 (u 14) hs2) := h1
        have HX2 : Hid (its2.length = L ∧ (∀ x ∈ its2, x.bs.length ≤ 1049000 * k + 1049000) ∧ hs2.length ≤ hs.length + 1) := ⟨h2, h3, h4⟩
        clear h1 h2 h3 h4 hj q0 q1
        simp only [e19]
        go_wp2
        go_roundw
        case rel => exact ⟨k + 1, its2, hs2, by omega, by go_num, HP2.out, by show 0 < _; rw [HX2.out.1]; exact hL1, (fun z hz => Nat.le_trans (HX2.out.2.1 z hz) (by omega)), by show _ ≤ _; have := HX2.out.2.2; have := HHL.out; omega⟩
        case measure => simp [intOf]; omega
  · skip
    obtain rfl : k = M := by omega
    have hdk : decide ((k : Int) < (k : Int)) = false := by simp
    obtain ⟨g, lcap, hlv, hlc, hcl⟩ := HPL.out.at HPOS.out
    obtain ⟨L, hL⟩ : ∃ L, its.length = L := ⟨_, rfl⟩
    have HL : Hid (its.length = L) := hL
    have hL5 : L ≤ 5 := by rw [← hL]; exact HPL.out.most
    have hlc2 : L ≤ lcap := by rw [← hL]; exact hlc
    rw [hL] at hlv
    subst hlv
    obtain ⟨bv, hbv⟩ : ∃ bv, bv = u14 := ⟨_, rfl⟩
    rw [← hbv] at HPL ⊢
    clear hbv hL hlc hcl
    have HP0 : Hid (Pl Win w0 wr (.slice (some ⟨g, 0, none⟩) L lcap) its bv hs) := HPL.out
    clear HPL
    go_wp2_with fail
    go_loopw [120] (fun iv wr => ∃ i : Nat, i ≤ L ∧ iv = .int .i64 (i : Int) ∧ Hid (Pl Win w0 wr (.slice (some ⟨g, 0, none⟩) L lcap) its bv hs)) (fun iv _ => L - (intOf iv).toNat)
    case atStart => exact ⟨0, Nat.zero_le _, rfl, HP0.out⟩
    case round =>
      clear HP0
      obtain ⟨i, hi, rfl, HPL⟩ := hrel
      by_cases hil : i < L
      · have HIL : Hid (i < its.length) := by show i < _; rw [HL.out]; exact hil
        obtain ⟨g2, c2_, e2_, _, hcl⟩ := HPL.out.at HPOS.out
        simp only [Value.slice.injEq, Option.some.injEq, Addr.mk.injEq, true_and, and_true] at e2_
        obtain ⟨rfl, hLL, rfl⟩ := e2_
        clear hLL
        obtain ⟨x, hx⟩ : ∃ x, its[i]'HIL.out = x := ⟨_, rfl⟩
        have HXJ : Hid (its[i]'HIL.out = x) := hx
        have q0 := (hcl i HIL.out).1
        have q1 := (hcl i HIL.out).2
        rw [hx] at q0 q1
        have cB := chg_one wr (.cells #[.pointer (some ⟨x.a, 0, none⟩), .pointer (some ⟨x.r, 0, none⟩)] 48)
        have HPL' : Hid (Pl Win w0 (wr.alloc (.cells #[.pointer (some ⟨x.a, 0, none⟩), .pointer (some ⟨x.r, 0, none⟩)] 48)) (.slice (some ⟨g, 0, none⟩) L lcap) its bv hs) := HPL.out.new S cB
        have hbp : (wr.alloc (.cells #[.pointer (some ⟨x.a, 0, none⟩), .pointer (some ⟨x.r, 0, none⟩)] 48)).heap[wr.heap.size]? = some (.cells #[.pointer (some ⟨x.a, 0, none⟩), .pointer (some ⟨x.r, 0, none⟩)] 48 (0, 0)) := heap_alloc_last wr _
        have p0 := cell0 hbp
        have p1 := cell1 hbp
        have HXB : Hid (x.bs.length ≤ 1049000 * k) := by have := HKI.out _ (List.getElem_mem HIL.out); rw [hx] at this; exact this
        have HTD : Hid (∀ w, Pl Win w0 w (.slice (some ⟨g, 0, none⟩) L lcap) its bv hs → Calls Try.prog 21 #[.agg #[.pointer (some ⟨x.a, 0, none⟩), .pointer (some ⟨x.r, 0, none⟩)]] w fun e w' => e = .returned (.bool true) ∧ Chg (fun _ => False) w w') := fun w hp => told_any S w0.heap.size x w (by have := hp.good i HIL.out; rw [HXJ.out] at this; exact this) (by have := HXB.out; omega)
        clear cB hx hcl HPL hbp
        go_wp2_with fail
        refine (HTD.out _ HPL'.out).mono ?_
        rintro z w5 ⟨rfl, c5⟩
        have HP5 : Hid (Pl Win w0 w5 (.slice (some ⟨g, 0, none⟩) L lcap) its bv hs) := HPL'.out.new S c5
        clear c5 HPL' q0 q1 p0 p1 HTD
        go_wp2
        go_roundw
        case rel => exact ⟨i + 1, by omega, by go_num, HP5.out⟩
        case measure => simp [intOf]; omega
      · obtain rfl : i = L := by omega
        have hdi : decide ((i : Int) < (i : Int)) = false := by simp
        go_wp2_with fail
        refine (Bk.held_walk w0.heap.size bv hs _ HPL.out.chg.size HPL.out.book.book HPL.out.book.rows HPL.out.book.apart HPL.out.book.ok (by have := HHL.out; omega) HPL.out.book.small).mono ?_
        rintro z w6 ⟨rfl, c6⟩
        have HC6 : Hid (Chg (fun _ => False) w0 w6) := HPL.out.chg.trans c6 (fun b hb => .inr hb)
        clear c6 HPL
        go_wp2
        go_ret
        exact ⟨rfl, HC6.out⟩
end Go.Proofs.Ythgibmhbgfjkcaa
