/- The walk of TreeCodes above what is asked of the program's trees; of no statement by itself. -/
import Derived.Test.YtibgjpifmpljkaaCx
import Derived.Test.YtibgjpifmpljkaaBoundC
namespace Go.Proofs.Ytibgjpifmpljkaa
open Go.RowKit
set_option linter.unusedVariables false

/-- A step; a script in memory. -/
structure Stp where
  kd : Int
  row : Int
  p : Int
  n : Int
  x : Int
structure Stp.I (o : Stp) : Prop where
  hp : I64 o.p
  hn : I64 o.n
  hx : I64 o.x
def StepsL (w : World) (a : Option Addr) (l : List Stp) : Prop := ∀ (k : Nat) (o : Stp), l[k]? = some o → o.I ∧ ∃ b off, a = some ⟨b, off, none⟩ ∧ w.cell? ⟨b, off + k * 5, none⟩ = some (.int .i64 o.kd) ∧ w.cell? ⟨b, off + k * 5 + 1, none⟩ = some (.int .i64 o.row) ∧ w.cell? ⟨b, off + k * 5 + 2, none⟩ = some (.int .i64 o.p) ∧ w.cell? ⟨b, off + k * 5 + 3, none⟩ = some (.int .i64 o.n) ∧ w.cell? ⟨b, off + k * 5 + 4, none⟩ = some (.int .i64 o.x)
theorem StepsL.new {w w' : World} {a : Option Addr} {l : List Stp} (h : StepsL w a l) (hc : Chg (fun _ => False) w w') : StepsL w' a l := fun k o hk => by
  obtain ⟨hI, b, off, e, h0, h1, h2, h3, h4⟩ := h k o hk
  exact ⟨hI, b, off, e, cell_chg h0 hc, cell_chg h1 hc, cell_chg h2 hc, cell_chg h3 hc, cell_chg h4 hc⟩
theorem fresh_in {its : List It} {ls : List Nat} (h : its.map It.xs = fresh ls) : ∀ i (hi : i < its.length), In31 its[i].xs := fun i hi => by
  have h1 : (its.map It.xs)[i]? = some its[i].xs := by rw [List.getElem?_map, List.getElem?_eq_getElem hi]; rfl
  rw [h] at h1
  unfold fresh at h1
  rw [List.getElem?_map] at h1
  cases hm : ls[i]? with
  | none => rw [hm] at h1; cases h1
  | some m =>
    rw [hm] at h1
    simp only [Option.map_some, Option.some.injEq] at h1
    rw [← h1]
    exact In31.half m
theorem rowLens_pos (l : List Int) : 0 < (rowLens l).length := by
  unfold rowLens
  cases l with
  | nil => simp
  | cons a b => simp
theorem rowLens_len (l : List Int) : (rowLens l).length ≤ l.length + 1 := by
  unfold rowLens
  cases l with
  | nil => simp
  | cons a b => simp
structure Tc (w0 wr : World) (P : Nat) (av bv : Value) (its : List It) (a r : Nat) (v y : Value) (e : Rc.E) (Y i : Nat) : Prop where
  cod : Cod w0 wr P av bv its a r v y e
  len : its.length = Y
  k : e.k ≤ 16 * i

set_option maxHeartbeats 8000000 in
set_option maxRecDepth 100000 in
theorem treecodes_any (T : TreePut) (al : Option Addr) (Z cl : Nat) (l : List Int) (so : Option Addr) (M cs : Nat) (ops : List Stp) (w0 : World) (hI : IntsL w0 al l) (hZ : l.length = Z) (hZ2 : Z ≤ 17592186043904) (hS : StepsL w0 so ops) (hM : ops.length = M) (hM2 : M ≤ 3518437208780) : Calls Try.prog 6 #[.slice al Z cl, .slice so M cs] w0 fun z w' => z = .returned (.bool true) ∧ Chg (fun _ => False) w0 w' := by
  have HIN : Hid (IntsL w0 al l) := hI
  have HST : Hid (StepsL w0 so ops) := hS
  have HZ : Hid (l.length = Z) := hZ
  have HM : Hid (ops.length = M) := hM
  clear hI hS hZ hM
  go_enter Try.func6, Try.ntmps6
  go_wp2_with fail
  refine (made_any al Z cl l _ HIN.out HZ.out hZ2).mono ?_
  rintro z w1 ⟨P, av, bv, its, rfl, hP1, hx1⟩
  have HP1 : Hid (Play w0 w1 P av bv its) := hP1
  have HX1 : Hid (its.map It.xs = fresh (rowLens l)) := hx1
  clear hP1 hx1
  go_wp2_with fail
  refine (rcnew_any _).mono ?_
  rintro z w2 ⟨a, rfl, _, hE, c2⟩
  have HE2 : Hid (Enc w2 w0.heap.size a (.slice none 0 0) Rc.start) := enc_base8 ⟨_, hE, Rc.begin_is⟩ HP1.out.chg.size
  have HP2 : Hid (Play w0 w2 P av bv its) := HP1.out.new c2
  clear hE c2 HP1
  go_wp2_with fail
  refine (renew_any _).mono ?_
  rintro z w3 ⟨r, y, rfl, _, hR, c3⟩
  have HC3 : Hid (Cod w0 w3 P av bv its a r (.slice none 0 0) y Rc.start) := by
    have hb := HP2.out.chg.size
    refine ⟨HP2.out.new c3, HE2.out.new c3, ⟨Nat.le_trans hb hR.hr, hR.blk, owns_base hR.own hb, hR.dig⟩, Rc.start_ok, fresh_in HX1.out, fun z f g => ?_⟩
    have h1 := (HE2.out.foot_lt f).2
    have h2 := (hR.foot_lt g).1
    omega
  have HY : Hid (its.length = (rowLens l).length) := by
    have h9 := congrArg List.length HX1.out
    unfold fresh at h9
    rw [List.length_map, List.length_map] at h9
    exact h9
  clear hR c3 HE2 HP2
  go_wp2_with fail
  refine (fixed_any T _).mono ?_
  rintro z w4 ⟨rfl, c4⟩
  obtain ⟨Y, hY⟩ : ∃ Y, its.length = Y := ⟨_, rfl⟩
  have hY0 : 0 < Y := by rw [← hY, HY.out]; exact rowLens_pos l
  have hY9 : Y ≤ 17592186044416 := by have h9 := rowLens_len l; rw [← hY, HY.out]; have := HZ.out; omega
  have HT4 : Hid (Tc w0 w4 P av bv its a r (.slice none 0 0) y Rc.start Y 0) := ⟨HC3.out.new c4, hY, by decide⟩
  clear c4 HC3 hY HY HX1
  go_wp2_with fail
  go_loopw [9] (fun iv wr => ∃ (i : Nat) (its : List It) (v y : Value) (e : Rc.E), i ≤ M ∧ iv = .int .i64 (i : Int) ∧ Hid (Tc w0 wr P av bv its a r v y e Y i)) (fun iv _ => M - (intOf iv).toNat)
  case atStart => exact ⟨0, _, _, _, _, Nat.zero_le _, rfl, HT4.out⟩
  case round =>
    clear HT4
    obtain ⟨i, its, v, y, e, hi, rfl, HR⟩ := hrel
    by_cases hlt : i < M
    · have hdi : decide ((i : Int) < (M : Int)) = true := by simp; omega
      obtain ⟨o, ho⟩ : ∃ o, ops[i]? = some o := ⟨_, List.getElem?_eq_getElem (by rw [HM.out]; exact hlt)⟩
      obtain ⟨hI, b, off, rfl, h0, h1, h2, h3, h4⟩ := (HST.out.new HR.out.cod.play.chg) i o ho
      have HI : Hid o.I := hI
      clear hI ho
      go_wp2_with fail
      refine (codes_any T w0 _ P av bv its a r v y e o.kd o.row o.p o.n o.x (by rw [HR.out.len]; exact hY0) HR.out.cod (by have := HR.out.k; omega) HI.out.hp HI.out.hn HI.out.hx).mono ?_
      rintro z w5 ⟨rfl, its', v', y', e', hC, hl5, hk5⟩
      have HN : Hid (Tc w0 w5 P av bv its' a r v' y' e' Y (i + 1)) := ⟨hC, by rw [hl5]; exact HR.out.len, by have := HR.out.k; omega⟩
      clear hC hl5 hk5 HR h0 h1 h2 h3 h4
      go_wp2_with fail
      go_roundw
      case rel => exact ⟨i + 1, its', v', y', e', by omega, by go_num, HN.out⟩
      case measure => simp [intOf]; omega
    · have hiM : M = i := by omega
      subst hiM
      have hdi : decide ((M : Int) < (M : Int)) = false := by simp
      have HK9 : Hid (e.k + 5 ≤ 140737488355328) := by have := HR.out.k; show e.k + 5 ≤ _; omega
      go_wp2_with fail
      refine wp_region_last (mk := fun u => #[_, _, _, _, _, _, _, _, _, _, _, _, _, _, _, _, _, _, _, _, _, _, _, _, _, _, _, _, _, _, _, _, _, _, _, _, _, _, _, _, _, _, _, _, u 44, u 45, u 46, u 47, u 48, u 49, u 50, u 51, u 52, u 53, u 54]) (F := fun slot vv ww => (look [(44, .val (.pointer (some ⟨a, 0, none⟩))), (45, .is (fun q wq => wq.ownsRow w0.heap.size 5 1 q (e.k + 5) (ins .u8 (nums (Rc.by_ e))))), (46, .val (.string (sb e))), (47, .val (.pointer (some ⟨r, 0, none⟩))), (48, .is (fun q wq => wq.ownsRow w0.heap.size 5 1 q (e.k + 5) (ins .u8 (nums (Rc.by_ e))))), (49, .val (.string (sb e))), (50, .val (.bool true)), (51, .val (.bool true)), (52, .val (.pointer (some ⟨P, 0, none⟩))), (53, .val (.bool true)), (54, .val (.bool true))] slot).holds vv ww) (fun _ => undef) rfl (by kernel_rfl) 11 _ rfl rfl (by kernel_rfl) ?_ (fun _ v w w' hc h => Fact.stays _ v w w' hc h) ?_ ?_
      · repeat (refine ⟨⟨_, rfl, fun _ _ => rfl⟩, ?_⟩)
        exact trivial
      · refine ⟨?_, ?_, ?_, ?_, ?_, ?_, ?_, ?_, ?_, ?_, ?_, trivial⟩
        · intro u w hc hd K hK -- 44
          clear hd
          go_simp
          exact hK.out (.pointer (some ⟨a, 0, none⟩)) w (Chg.refl _ _) rfl
        · intro u w hc hd K hK -- 45
          have h44 : (Fact.val (.pointer (some ⟨a, 0, none⟩))).holds (u 44) w := hd.get 0 (by kernel_rfl)
          simp only [Fact.holds] at h44
          clear hd
          simp only [h44] at hK
          go_simp
          go_at_call 20
          refine (bytes_any _ a v e w (HR.out.cod.enc.new hc) HK9.out).mono ?_
          rintro x w2 ⟨v2, rfl, ho, c2⟩
          exact hK.out _ _ c2 ⟨w2, owns_base ho (Nat.le_trans HR.out.cod.play.chg.size hc.size), Chg.refl _ _⟩
        · intro u w hc hd K hK -- 46
          have h45 : (Fact.is (fun q wq => wq.ownsRow w0.heap.size 5 1 q (e.k + 5) (ins .u8 (nums (Rc.by_ e))))).holds (u 45) w := hd.get 1 (by kernel_rfl)
          obtain ⟨q45, h45, p45⟩ := h45
          clear hd
          have o45 := ownsRow_keep h45 p45 (fun _ _ f => f)
          obtain ⟨ad, cap, e45, _⟩ := own_any o45
          rw [e45] at o45
          have hcv : (convert 39 9 (.slice ad (e.k + 5) cap)).run Try.prog w = .ok (.string (sb e)) w := conv_own o45
          clear o45
          simp only [e45] at hK
          go_simp
          exact hK.out (.string (sb e)) w (Chg.refl _ _) rfl
        · intro u w hc hd K hK -- 47
          clear hd
          go_simp
          exact hK.out (.pointer (some ⟨r, 0, none⟩)) w (Chg.refl _ _) rfl
        · intro u w hc hd K hK -- 48
          have h47 : (Fact.val (.pointer (some ⟨r, 0, none⟩))).holds (u 47) w := hd.get 3 (by kernel_rfl)
          simp only [Fact.holds] at h47
          clear hd
          simp only [h47] at hK
          go_simp
          go_at_call 29
          refine (rebytes_any _ r y (Rc.by_ e) e.R e.k w (HR.out.cod.re.new hc) (by rw [show (Rc.by_ e).length = e.k + 5 from Rc.dg_len _ _]; exact HK9.out)).mono ?_
          rintro x w2 ⟨v2, rfl, ho, c2⟩
          rw [show (Rc.by_ e).length = e.k + 5 from Rc.dg_len _ _] at ho
          exact hK.out _ _ c2 ⟨w2, owns_base ho (Nat.le_trans HR.out.cod.play.chg.size hc.size), Chg.refl _ _⟩
        · intro u w hc hd K hK -- 49
          have h48 : (Fact.is (fun q wq => wq.ownsRow w0.heap.size 5 1 q (e.k + 5) (ins .u8 (nums (Rc.by_ e))))).holds (u 48) w := hd.get 4 (by kernel_rfl)
          obtain ⟨q48, h48, p48⟩ := h48
          clear hd
          have o48 := ownsRow_keep h48 p48 (fun _ _ f => f)
          obtain ⟨ad, cap, e48, _⟩ := own_any o48
          rw [e48] at o48
          have hcv : (convert 39 9 (.slice ad (e.k + 5) cap)).run Try.prog w = .ok (.string (sb e)) w := conv_own o48
          clear o48
          simp only [e48] at hK
          go_simp
          exact hK.out (.string (sb e)) w (Chg.refl _ _) rfl
        · intro u w hc hd K hK -- 50
          have h46 : (Fact.val (.string (sb e))).holds (u 46) w := hd.get 2 (by kernel_rfl)
          simp only [Fact.holds] at h46
          have h49 : (Fact.val (.string (sb e))).holds (u 49) w := hd.get 5 (by kernel_rfl)
          simp only [Fact.holds] at h49
          clear hd
          simp only [h46, h49] at hK
          go_simp
          exact hK.out (.bool true) w (Chg.refl _ _) rfl
        · intro u w hc hd K hK -- 51
          have h50 : (Fact.val (.bool true)).holds (u 50) w := hd.get 6 (by kernel_rfl)
          simp only [Fact.holds] at h50
          clear hd
          simp only [h50] at hK
          go_simp
          exact hK.out (.bool true) w (Chg.refl _ _) rfl
        · intro u w hc hd K hK -- 52
          have h51 : (Fact.val (.bool true)).holds (u 51) w := hd.get 7 (by kernel_rfl)
          simp only [Fact.holds] at h51
          clear hd
          simp only [h51] at hK
          go_simp
          exact hK.out (.pointer (some ⟨P, 0, none⟩)) w (Chg.refl _ _) rfl
        · intro u w hc hd K hK -- 53
          have h52 : (Fact.val (.pointer (some ⟨P, 0, none⟩))).holds (u 52) w := hd.get 8 (by kernel_rfl)
          simp only [Fact.holds] at h52
          have h51 : (Fact.val (.bool true)).holds (u 51) w := hd.get 7 (by kernel_rfl)
          simp only [Fact.holds] at h51
          clear hd
          simp only [h51, h52] at hK
          go_simp
          go_at_call 30
          refine (same_any w0 w P av bv its (HR.out.cod.play.new hc) (by rw [HR.out.len]; omega)).mono ?_
          rintro x w2 ⟨rfl, rfl⟩
          exact hK.out _ _ (Chg.refl _ _) rfl
        · intro u w hc hd K hK -- 54
          have h51 : (Fact.val (.bool true)).holds (u 51) w := hd.get 7 (by kernel_rfl)
          simp only [Fact.holds] at h51
          have h53 : (Fact.val (.bool true)).holds (u 53) w := hd.get 9 (by kernel_rfl)
          simp only [Fact.holds] at h53
          clear hd
          simp only [h51, h53] at hK
          go_simp
          exact hK.out (.bool true) w (Chg.refl _ _) rfl
      · intro u w hc hA K hK
        have e_ : u 54 = .bool true := hA.at 54 (by kernel_rfl)
        clear hA
        have HCE : Hid (Chg (fun _ => False) w0 w) := chg_then HR.out.cod.play.chg hc
        clear hc
        go_simp
        refine hK.out _ _ ?_
        go_simp
        go_wp2
        go_ret
        exact ⟨rfl, HCE.out⟩
end Go.Proofs.Ytibgjpifmpljkaa
