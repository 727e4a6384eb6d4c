/- The walk of TreeBack above what is asked of the program's trees and decoder; of no statement by itself. -/
import Derived.Test.YtibgjpifmpljkaaTbo
import Derived.Test.YtibgjpifmpljkaaBoundC
import Derived.Test.YtibgjpifmpljkaaPa
namespace Go.Proofs.Ytibgjpifmpljkaa
open Go.RowKit
set_option linter.unusedVariables false

theorem sts_in {its : List It} {ls : List Nat} (h : its.map It.xs = fresh ls) : ∀ i (hi : i < its.length), In31 its[i].xs := fresh_in h
set_option maxHeartbeats 8000000 in
set_option maxRecDepth 100000 in
theorem treeback_any (T : TreePut) {Dec : World → Nat → Nat → Value → List Nat → Rc.D → Prop} (S : DecSpec Dec) (G : TreeGet Dec) (al : Option Addr) (Z cl : Nat) (l : List Int) (so : Option Addr) (M cs : Nat) (ops : List Stp) (w0 : World) (hI : IntsL w0 al l) (hZ : l.length = Z) (hZ2 : Z ≤ 17592186043904) (hS : StepsL w0 so ops) (hM : ops.length = M) (hM2 : M ≤ 3518437208780) : Calls Try.prog 5 #[.slice al Z cl, .slice so M cs] w0 fun z w' => z = .returned (.bool true) ∧ Chg (fun _ => False) w0 w' := by
  have HIN : Hid (IntsL w0 al l) := hI
  have HST : Hid (StepsL w0 so ops) := hS
  have HZ : Hid (l.length = Z) := hZ
  have HM : Hid (ops.length = M) := hM
  obtain ⟨jI, hjI, hjz, hj1, hj8⟩ := info_parts infoOp
  clear hI hS hZ hM
  go_enter Try.func5, Try.ntmps5
  go_wp2_with fail
  refine (made_any al Z cl l _ HIN.out HZ.out hZ2).mono ?_
  rintro z w1 ⟨P1, av1, bv1, its1, rfl, hP1, hx1⟩
  have HS1 : Hid (Sts w1 w0.heap.size w1.heap.size P1 av1 bv1 its1) := hP1.sts (fresh_in hx1)
  have HC1 : Hid (Chg (fun _ => False) w0 w1) := hP1.chg
  have HX1 : Hid (its1.map It.xs = fresh (rowLens l)) := hx1
  clear hP1 hx1
  go_wp2_with fail
  refine (made_any al Z cl l _ (HIN.out.new HC1.out) HZ.out hZ2).mono ?_
  rintro z w2 ⟨P2, av2, bv2, its2, rfl, hP2, hx2⟩
  have HS2 : Hid (Sts w2 w1.heap.size w2.heap.size P2 av2 bv2 its2) := hP2.sts (fresh_in hx2)
  have HC2 : Hid (Chg (fun _ => False) w1 w2) := hP2.chg
  have HX2 : Hid (its2.map It.xs = fresh (rowLens l)) := hx2
  clear hP2 hx2
  go_wp2_with fail
  refine (rcnew_any _).mono ?_
  rintro z w3 ⟨a, rfl, _, hE, c3⟩
  have HE3 : Hid (Enc w3 w2.heap.size a (.slice none 0 0) Rc.start) := ⟨_, hE, Rc.begin_is⟩
  have HC3 : Hid (Chg (fun _ => False) w2 w3) := c3
  clear hE c3
  go_wp2_with fail
  refine (fixed_any T _).mono ?_
  rintro z w4 ⟨rfl, c4⟩
  obtain ⟨R0, hR0⟩ : ∃ R0, fresh (rowLens l) = R0 := ⟨_, rfl⟩
  have HR0 : Hid (0 < R0.length ∧ R0.length ≤ 17592186044416) := by
    have h1 := rowLens_pos l
    have h2 := rowLens_len l
    have h3 := HZ.out
    show _ ∧ _
    rw [← hR0]
    unfold fresh
    rw [List.length_map]
    omega
  obtain ⟨H1, hH1⟩ : ∃ H1, w1.heap.size = H1 := ⟨_, rfl⟩
  obtain ⟨H2, hH2⟩ : ∃ H2, w2.heap.size = H2 := ⟨_, rfl⟩
  have HT4 : Hid (Tb1 w0 w4 H1 H2 P1 P2 av1 bv1 av2 bv2 its1 its2 a (.slice none 0 0) Rc.start (.slice none 0 0) [] R0 0) := by
    have h1 := HC1.out.size
    have h2 := HC2.out.size
    have c24 := chg_then HC3.out c4
    have h3 := c24.size
    rw [← hH1, ← hH2]
    refine ⟨⟨h1, h2, h3⟩, (HS1.out.new HC2.out).new c24, HS2.out.new c24, enc_base8 (HE3.out.new c4) (Nat.le_trans h1 h2), Rc.start_ok, fun z f => (HE3.out.foot_lt f).1, World.ownsRow_nil _ _ _ _, ?_, by rw [← hR0]; exact HX2.out, by rw [HX1.out, hR0], fun o ho => (List.not_mem_nil ho).elim, by decide, Nat.le_refl _, chg_then HC1.out (chg_then HC2.out c24)⟩
    show (Rc.start, R0) = _
    rw [HX1.out, hR0]
  clear c4 HS1 HS2 HC1 HC2 HC3 HX1 HX2 HE3 hR0 hH1 hH2
  go_wp2_with fail
  go_loopw [10, 11] (fun lv iv wr => ∃ (i : Nat) (its1 : List It) (v : Value) (e : Rc.E) (tk : List Stp), i ≤ M ∧ iv = .int .i64 (i : Int) ∧ Hid (Tb1 w0 wr H1 H2 P1 P2 av1 bv1 av2 bv2 its1 its2 a v e lv tk R0 i)) (fun _ iv _ => M - (intOf iv).toNat)
  case atStart => exact ⟨0, _, _, _, _, Nat.zero_le _, rfl, HT4.out⟩
  case round =>
    clear HT4
    obtain ⟨i, its1, v, e, tk, hi, rfl, HR⟩ := hrel
    obtain ⟨la, lc, hlv⟩ := form5 HR.out.own
    subst hlv
    by_cases hlt : i < M
    · have hdi : decide ((i : Int) < (M : Int)) = true := by simp; omega
      obtain ⟨o, ho⟩ : ∃ o, ops[i]? = some o := ⟨_, List.getElem?_eq_getElem (by rw [HM.out]; exact hlt)⟩
      have HO : Hid (ops[i]? = some o) := ho
      obtain ⟨hoI, b, off, rfl, h0, h1, h2, h3, h4⟩ := (HST.out.new HR.out.chg) i o ho
      have HOI : Hid o.I := hoI
      obtain ⟨k, hkk⟩ : ∃ k, ofN its1.length o.row = k := ⟨_, rfl⟩
      have HKK : Hid (ofN its1.length o.row = k) := hkk
      have hk : k < its1.length := by rw [← hkk]; exact ofN_lt (by rw [HR.out.len]; exact HR0.out.1) _
      have HK : Hid (k < its1.length) := hk
      clear hoI ho hkk hk
      go_wp2_with fail
      refine (given_any T _ w0.heap.size H1 P1 av1 bv1 its1 a v e o k HK.out HKK.out HR.out.s1 HR.out.enc (fun z f => Nat.le_trans HR.out.hs.2.1 (HR.out.far z f)) HR.out.chg.size HR.out.ok (by have := HR.out.k; omega) HOI.out).mono ?_
      rintro z w5 (⟨ht, rfl, v', hs1, hE5, c5, m5⟩ | ⟨rfl, v', hs1, hE5, c5, m5⟩)
      · have hoI2 := (HST.out.new (HR.out.beside k HK.out c5 m5).2.2.2.2) i o HO.out
        obtain ⟨_, b', off', hbb, g0, g1, g2, g3, g4⟩ := hoI2
        cases hbb
        have cB := chg_one w5 (.cells #[.int .i64 o.kd, .int .i64 o.row, .int .i64 o.p, .int .i64 o.n, .int .i64 o.x] 50)
        have hown := own_keep2 (HR.out.beside k HK.out c5 m5).2.2.2.1 cB (fun _ _ f => f)
        have hsz : H2 ≤ (w5.alloc (.cells #[.int .i64 o.kd, .int .i64 o.row, .int .i64 o.p, .int .i64 o.n, .int .i64 o.x] 50)).heap.size := Nat.le_trans (HR.out.beside k HK.out c5 m5).1 cB.size
        have hsrc := from_five w5 (.int .i64 o.kd) (.int .i64 o.row) (.int .i64 o.p) (.int .i64 o.n) (.int .i64 o.x) 50
        have HG : Hid (o.taken its1[k].xs.length ∧ Sts w5 w0.heap.size H1 P1 av1 bv1 (its1.set k (its1[k].to (encL o.qs e its1[k].xs).2)) ∧ Enc w5 w0.heap.size a v' (encL o.qs e its1[k].xs).1 ∧ Chg (SideP a v its1[k]) wr w5 ∧ Moved wr v v') := ⟨ht, hs1, hE5, c5, m5⟩
        have HCB : Hid (Chg (fun _ => False) w5 _) := cB
        have hnl : tk.length ≤ 3518437208779 := by have := HR.out.n; omega
        clear ht hs1 hE5 c5 m5 cB h0 h1 h2 h3 h4
        go_wp2_with (at_builtin; refine wpList_append_moved rfl _ _ 44 rfl H2 50 jI (.agg #[.int .i64 0, .int .i64 0, .int .i64 0, .int .i64 0, .int .i64 0]) 5 40 Try.underlying44 hjI hjz hj1 hj8 rfl (by decide) _ tk.length (tk.flatMap Stp.cells) rfl (some ⟨w5.heap.size, 0, none⟩) 1 1 rfl [.int .i64 o.kd, .int .i64 o.row, .int .i64 o.p, .int .i64 o.n, .int .i64 o.x] hown hsrc (fun u hu => by simp at hu; rcases hu with rfl | rfl | rfl | rfl | rfl <;> rfl) (by unfold maxLen; omega) (by omega) hsz ?_)
        intro v9 w9 ho9 hg9 _
        obtain ⟨itsN, eN, HN⟩ : ∃ itsN eN, Hid (Tb1 w0 w9 H1 H2 P1 P2 av1 bv1 av2 bv2 itsN its2 a v' eN v9 (tk ++ [o]) R0 (i + 1)) := ⟨_, _, HR.out.took o HOI.out k HK.out HKK.out HG.out.1 HG.out.2.2.2.1 HG.out.2.2.2.2 HG.out.2.1 HG.out.2.2.1 HCB.out ho9 hg9⟩
        clear ho9 hg9 hown hsrc hsz HG HCB HR HK HKK g0 g1 g2 g3 g4
        go_wp2_with fail
        go_roundw
        case rel => exact ⟨i + 1, itsN, v', eN, tk ++ [o], by omega, by go_num, HN.out⟩
        case measure => simp [intOf]; omega
      · have HN : Hid (Tb1 w0 w5 H1 H2 P1 P2 av1 bv1 av2 bv2 its1 its2 a v' e (.slice la tk.length lc) tk R0 (i + 1)) := HR.out.refused k HK.out c5 m5 hs1 hE5
        clear hs1 hE5 c5 m5 HR h0 h1 h2 h3 h4 HK HKK
        go_wp2_with fail
        go_roundw
        case rel => exact ⟨i + 1, its1, v', e, tk, by omega, by go_num, HN.out⟩
        case measure => simp [intOf]; omega
    · have hiM : M = i := by omega
      subst hiM
      have hdi : decide ((M : Int) < (M : Int)) = false := by simp
      have HK9 : Hid (e.k + 5 ≤ 140737488355328) := by have := HR.out.k; show e.k + 5 ≤ _; omega
      go_wp2_with fail
      refine (bytes_any _ a v e _ HR.out.enc HK9.out).mono ?_
      rintro z w5 ⟨bv, rfl, ho5, c5⟩
      have hnb : (Rc.by_ e).length = e.k + 5 := Rc.dg_len _ _
      obtain ⟨ab, cb, hbv⟩ := form1 ho5
      subst hbv
      have HB5 : Hid (Row8 w5 ab (e.k + 5) cb (nums (Rc.by_ e))) := row8_own ho5
      have HT5 : Hid (Tb1 w0 w5 H1 H2 P1 P2 av1 bv1 av2 bv2 its1 its2 a v e (.slice la tk.length lc) tk R0 M) := HR.out.new c5
      clear ho5 c5 HR hnb
      go_wp2_with fail
      refine (S.new ab (e.k + 5) cb (Rc.by_ e) _ HB5.out (by_dig e) HK9.out).mono ?_
      obtain ⟨st1, st2, st3⟩ := Rc.start_tracks (by_begins e) (by have h9 := runR_ok tk Rc.start_ok (R := R0) (by rw [← HT5.out.rows]; exact sts_all HT5.out.s2); rw [HT5.out.run] at h9; exact h9.1) (by have := HT5.out.ok.lo; omega)
      have hl5 : (Rc.by_ e).length = e.k + 5 := Rc.dg_len _ _
      rintro z w6 (⟨h9, _⟩ | ⟨_, h9, _⟩ | ⟨_, _, _, d0, u, rfl, hD, c6⟩)
      · omega
      · rcases h9 with h9 | h9
        · exact absurd st1 h9
        · omega
      have HT6 : Hid (Tb2 Dec w0 w6 H1 H2 P1 P2 av1 bv1 av2 bv2 its1 its2 d0 u e ⟨5, 4294967295, Rc.code5 (Rc.by_ e)⟩ (.slice la tk.length lc) tk R0 0) := by
        have hs := HT5.out.hs
        have hz := c6.size
        refine ⟨⟨hs.1, hs.2.1, by omega⟩, HT5.out.s1.new c6, HT5.out.s2.new c6, S.down hD (by omega), ⟨by show 16777216 ≤ 4294967295; omega, by show 4294967295 ≤ 4294967295; omega, st2, by omega⟩, by have := S.base hD; omega, own_keep2 HT5.out.own c6 (fun _ _ f => f), ⟨Rc.start, Rc.start_ok, st3, ?_⟩, by rw [HT5.out.rows], HT5.out.tk, chg_then HT5.out.chg c6⟩
        show runR tk Rc.start _ = _
        rw [HT5.out.rows]
        exact HT5.out.run
      have HOE : Hid (Rc.Ok e) := HT5.out.ok
      have HNL : Hid (tk.length ≤ M) := HT5.out.n
      clear HT5 HB5 hD c6 st1 st2 st3 hl5
      generalize wr = W1 at *
      obtain ⟨L, hL⟩ : ∃ L, tk.length = L := ⟨_, rfl⟩
      have HL : Hid (tk.length = L) := hL
      rw [hL] at HT6 ⊢
      have hL9 : (L : Int) ≤ 3518437208780 := by have := HNL.out; omega
      clear hL
      go_wp2_with fail
      go_loopw [15] (fun iv wr => ∃ (j : Nat) (its2 : List It) (d : Rc.D), j ≤ L ∧ iv = .int .i64 (j : Int) ∧ Hid (Tb2 Dec w0 wr H1 H2 P1 P2 av1 bv1 av2 bv2 its1 its2 d0 u e d (.slice la L lc) tk R0 j)) (fun iv _ => L - (intOf iv).toNat)
      case atStart => exact ⟨0, _, _, Nat.zero_le _, rfl, HT6.out⟩
      case round =>
        clear HT6
        obtain ⟨j, its2, d, hj, rfl, HR⟩ := hrel
        by_cases hlt2 : j < L
        · have hdj : decide ((j : Int) < (L : Int)) = true := by simp; omega
          obtain ⟨o, ho⟩ : ∃ o, tk[j]? = some o := ⟨_, List.getElem?_eq_getElem (by rw [HL.out]; exact hlt2)⟩
          have HO : Hid (tk[j]? = some o) := ho
          obtain ⟨g, rfl, q0, q1, q2, q3, q4⟩ := op_own (l := tk) (k := j) (by have h9 := HR.out.own; rw [HL.out] at h9; exact h9) ho
          clear ho
          go_wp2_with fail
          refine (HR.out.step S G HOE.out HK9.out HR0.out.1 o HO.out).mono ?_
          rintro z w7 ⟨rfl, its2', d', hN⟩
          have HN : Hid (Tb2 Dec w0 w7 H1 H2 P1 P2 av1 bv1 av2 bv2 its1 its2' d0 u e d' (.slice (some ⟨g, 0, none⟩) L lc) tk R0 (j + 1)) := hN
          clear hN HR q0 q1 q2 q3 q4
          go_wp2_with fail
          go_roundw
          case rel => exact ⟨j + 1, its2', d', by omega, by go_num, HN.out⟩
          case measure => simp [intOf]; omega
        · have hjL : L = j := by omega
          subst hjL
          have hdj : decide ((L : Int) < (L : Int)) = false := by simp
          have HALL : Hid (its2.map It.xs = its1.map It.xs ∧ d.n = (Rc.by_ e).length ∧ d.C = 0) := Tb2.all (by have h9 := HR.out; rw [← HL.out] at h9; exact h9)
          generalize wr = W2 at *
          obtain ⟨Y, hY⟩ : ∃ Y, its1.length = Y := ⟨_, rfl⟩
          have HY1 : Hid (its1.length = Y) := hY
          have HY2 : Hid (its2.length = Y) := by
            have h9 := congrArg List.length HALL.out.1
            rw [List.length_map, List.length_map] at h9
            show _ = _
            omega
          have hY0 : 0 < Y := by have h9 := HR.out.len; have := HR0.out.1; have := HY2.out; omega
          have hY9 : (Y : Int) ≤ 17592186044416 := by have h9 := HR.out.len; have := HR0.out.2; have := HY2.out; omega
          obtain ⟨g1, c1, hav1, hc1, hcl1⟩ := HR.out.s1.a_at (by rw [HY1.out]; exact hY0)
          obtain ⟨g2, c2, hav2, hc2, hcl2⟩ := HR.out.s2.a_at (by rw [HY2.out]; exact hY0)
          have HP1 : Hid (W2.cell? ⟨P1, 0, none⟩ = some (.slice (some ⟨g1, 0, none⟩) Y c1)) := by have h9 := cell0 HR.out.s1.pair; rw [hav1, HY1.out] at h9; exact h9
          have HP2 : Hid (W2.cell? ⟨P2, 0, none⟩ = some (.slice (some ⟨g2, 0, none⟩) Y c2)) := by have h9 := cell0 HR.out.s2.pair; rw [hav2, HY2.out] at h9; exact h9
          have HCL1 : Hid (∀ k (hk : k < its1.length), W2.cell? ⟨g1, k, none⟩ = some (.pointer (some ⟨its1[k].a, 0, none⟩))) := hcl1
          have HCL2 : Hid (∀ k (hk : k < its2.length), W2.cell? ⟨g2, k, none⟩ = some (.pointer (some ⟨its2[k].a, 0, none⟩))) := hcl2
          have hp1 := HP1.out
          clear hav1 hav2 hcl1 hcl2 hc1 hc2 hY
          go_wp2_with fail
          go_loopw [17] (fun iv wr => ∃ (k : Nat), k ≤ Y ∧ iv = .int .i64 (k : Int) ∧ Hid (Chg (fun _ => False) W2 wr)) (fun iv _ => Y - (intOf iv).toNat)
          case atStart => exact ⟨0, Nat.zero_le _, rfl, Chg.refl _ _⟩
          case round =>
            clear hp1
            obtain ⟨k, hk, rfl, HC⟩ := hrel
            have p1 := cell_chg HP1.out HC.out
            have p2 := cell_chg HP2.out HC.out
            by_cases hlt3 : k < Y
            · have hdk : decide ((k : Int) < (Y : Int)) = true := by simp; omega
              have k1 : k < its1.length := by rw [HY1.out]; exact hlt3
              have k2 : k < its2.length := by rw [HY2.out]; exact hlt3
              obtain ⟨a1, ha1⟩ : ∃ a1, its1[k].a = a1 := ⟨_, rfl⟩
              obtain ⟨a2, ha2⟩ : ∃ a2, its2[k].a = a2 := ⟨_, rfl⟩
              have x1 := cell_chg (HCL1.out k k1) HC.out
              have x2 := cell_chg (HCL2.out k k2) HC.out
              rw [ha1] at x1
              rw [ha2] at x2
              have HAL : Hid (∀ q, Calls Try.prog 21 #[.pointer (some ⟨a1, 0, none⟩), .pointer (some ⟨a2, 0, none⟩)] (wr.drewN q) fun e w' => e = .returned (.bool true) ∧ wr.drewN q = w') := fun q => by
                have c9 := chg_then HC.out (chg_drewN wr q)
                have hx : its2[k].xs = its1[k].xs := by
                  have h9 := congrArg (fun l : List (List Int) => l.getD k []) HALL.out.1
                  rwa [map_getD its2 k k2, map_getD its1 k k1] at h9
                have hA := (HR.out.s1.st k k1).new c9
                have hB := (HR.out.s2.st k k2).new c9
                rw [hx] at hB
                rw [ha1] at hA
                rw [ha2] at hB
                exact alike2_any _ _ a1 a2 _ _ _ _ hA hB (HR.out.s1.inn k k1).inn (HR.out.s1.len k k1)
              clear k1 k2 ha1 ha2
              go_wp2_with fail
              go_quiet (first | (go_at_call 21; exact quiet_of (HAL.out _)))
              have HC9 : Hid (Chg (fun _ => False) W2 (wr.drewN nq)) := chg_then HC.out (chg_drewN _ _)
              clear x1 x2 p1 p2 HC HAL
              go_wp2_with fail
              go_roundw
              case rel => exact ⟨k + 1, by omega, by go_num, HC9.out⟩
              case measure => simp [intOf]; omega
            · have hkY : Y = k := by omega
              subst hkY
              have hdk : decide ((Y : Int) < (Y : Int)) = false := by simp
              go_wp2_with fail
              refine (S.done _ d0 u (Rc.by_ e) d _ (S.keep HR.out.dec HC.out (fun f => f) (fun _ _ f => f))).mono ?_
              rintro z w9 ⟨rfl, c9⟩
              rw [decide_eq_true HALL.out.2]
              have HCE : Hid (Chg (fun _ => False) w0 w9) := chg_then HR.out.chg (chg_then HC.out c9)
              clear c9 p1 p2
              go_wp2
              go_ret
              exact ⟨rfl, HCE.out⟩
end Go.Proofs.Ytibgjpifmpljkaa
